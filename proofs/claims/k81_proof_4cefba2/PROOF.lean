import PyProof.Rows.All
import PyProof.TupleKey
import PyProof.P3Eq
import PyProof.DictKinds
import Wide.All
import OpenK.AllK
import Wide.FinOn
import Lean
import PyProof.EqAt
import PyProof.EqKinds
import PyProof.TupleCall
import PyProof.ZipIter
import PyProof.ListNew
import KE.KRevIter
import PySem.Challenge.RW_evenkinds_k81_looks_that_part
set_option Elab.async false
set_option maxHeartbeats 4000000
set_option compiler.extract_closed false
set_option genSizeOf false
set_option bootstrap.genMatcherCode false
set_option linter.all false
namespace PySem
noncomputable instance decPyData:DecidableEq PyData:=fun a b=>Classical.propDecidable (a=b)
namespace NK
mutual
noncomputable def lit:PyData→Bool
 |.int _=>true
 |.str x=>PyData.canLay0 (.str x)
 |.tuple ds=>lits ds
 |_=>false
noncomputable def lits:List PyData→Bool
 |[]=>true
 |d::r=>lit d&&lits r
end
mutual
theorem a08:∀d:PyData,lit d=true→d.canLay0=true
 |.int _,_=>rfl
 |.str _,h=>h
 |.tuple ds,h=>by rw[PyData.canLay0];exact bg8 ds h
 |.none,h=>nomatch h
 |.bool _,h=>nomatch h
 |.list _,h=>nomatch h
 |.dict _,h=>nomatch h
theorem bg8:∀ds:List PyData,lits ds=true→PyData.canLayAll0 ds=true
 |[],_=>rfl
 |d::r,h=>by
  have h':lit d=true∧lits r=true:=by simpa[lits]using h
  show(d.canLay0&&PyData.canLayAll0 r)=true;rw[a08 d h'.1,bg8 r h'.2];rfl
end
mutual
theorem eqv_lit:∀x y:PyData,lit x=true→lit y=true→(PyData.eqv x y=true↔x=y)
 |.int i,.int j,_,_=>by rw[PyData.eqv];simp
 |.int i,.str y,_,_=>by simp[PyData.eqv]
 |.int i,.tuple ys,_,_=>by simp[PyData.eqv]
 |.str x,.int j,_,_=>by simp[PyData.eqv]
 |.str x,.str y,_,_=>by rw[PyData.eqv];simp
 |.str x,.tuple ys,_,_=>by simp[PyData.eqv]
 |.tuple xs,.int j,_,_=>by simp[PyData.eqv]
 |.tuple xs,.str y,_,_=>by simp[PyData.eqv]
 |.tuple xs,.tuple ys,hx,hy=>by rw[PyData.eqv,bf1 xs ys hx hy];simp
 |.none,_,h,_=>nomatch h
 |.bool _,_,h,_=>nomatch h
 |.list _,_,h,_=>nomatch h
 |.dict _,_,h,_=>nomatch h
 |_,.none,_,h=>nomatch h
 |_,.bool _,_,h=>nomatch h
 |_,.list _,_,h=>nomatch h
 |_,.dict _,_,h=>nomatch h
theorem bf1:∀xs ys:List PyData,lits xs=true→lits ys=true→(PyData.eqvAll xs ys=true↔xs=ys)
 |[],[],_,_=>by simp[PyData.eqvAll]
 |[],y::ys,_,_=>by simp[PyData.eqvAll]
 |x::xs,[],_,_=>by simp[PyData.eqvAll]
 |x::xs,y::ys,hx,hy=>by
  have hx':lit x=true∧lits xs=true:=by simpa[lits]using hx
  have hy':lit y=true∧lits ys=true:=by simpa[lits]using hy
  rw[PyData.eqvAll,Bool.and_eq_true,eqv_lit x y hx'.1 hy'.1,bf1 xs ys hx'.2 hy'.2];simp
end
theorem ay7:∀{ds:List PyData},lits ds=true→∀d∈ds,lit d=true
 |[],_,d,h=>by cases h
 |e::r,hl,d,h=>by
  have h':lit e=true∧lits r=true:=by simpa[lits]using hl
  rcases List.mem_cons.mp h with rfl|h
  ·exact h'.1
  ·exact ay7 h'.2 d h
theorem ax5:∀{ds:List PyData}{d:PyData},d∈ds→d.depth≤PyData.depthAll ds
 |e::r,d,h=>by
  show d.depth≤max e.depth (PyData.depthAll r)
  rcases List.mem_cons.mp h with rfl|h
  ·omega
  ·have:=ax5 h;omega
theorem depth_tup{ds:List PyData}:(PyData.tuple ds).depth=PyData.depthAll ds+1:=by rw[PyData.depth]
mutual
theorem bp9{h:Heap}:∀(x y:PyData){v:Value}{as bs:List Addr},lit x=true→lit y=true→Reads h v x as→Reads h v y bs→x=y
 |.int i,y,v,as,bs,_,hy,rx,ry=>by
  cases rx;cases ry;rfl
 |.str x,y,v,as,bs,_,hy,rx,ry=>by
  cases rx;cases ry;rfl
 |.tuple xs,y,v,as,bs,hx,hy,rx,ry=>by
  cases rx with
  |tuple e1 e2 e3 e4=>
   cases ry with
   |tuple f1 f2 f3 f4=>
    rw[e1]at f1;cases f1;rw[e3]at f3;cases f3;rw[bi4 xs _ hx hy e4 f4]
   |list=>cases hy
   |dict=>cases hy
 |.none,_,_,_,_,h,_,_,_=>nomatch h
 |.bool _,_,_,_,_,h,_,_,_=>nomatch h
 |.list _,_,_,_,_,h,_,_,_=>nomatch h
 |.dict _,_,_,_,_,h,_,_,_=>nomatch h
theorem bi4{h:Heap}:∀(xs ys:List PyData){vs:List Value}{as bs:List Addr},lits xs=true→lits ys=true→ReadsAll h vs xs as→ReadsAll h vs ys bs→xs=ys
 |[],ys,vs,as,bs,_,_,rx,ry=>by cases rx;cases ry;rfl
 |x::xs,ys,vs,as,bs,hx,hy,rx,ry=>by
  cases rx with
  |cons r1 r2=>cases ry with
   |@cons _ _ y ys _ _ q1 q2=>
    have hx':lit x=true∧lits xs=true:=by simpa[lits]using hx
    have hy':lit y=true∧lits ys=true:=by simpa[lits]using hy
    rw[bp9 x y hx'.1 hy'.1 r1 q1,bi4 xs ys hx'.2 hy'.2 r2 q2]
end
mutual
theorem bj3{h h':Heap}{d:Addr}{o:Obj}{es:Array DictEntry}{ep:Nat}(ho:h.get? d=some o)(hd:o.data=.dict es ep)(hs:Heap.SameBut d h h'):∀(x:PyData){v:Value}{as:List Addr},lit x=true→Reads h v x as→∃bs,Reads h' v x bs
 |.int i,v,as,_,r=>by cases r;exact⟨_,.int _ _⟩
 |.str x,v,as,_,r=>by cases r;exact⟨_,.str _ _⟩
 |.tuple xs,v,as,hx,r=>by
  cases r with
  |@tuple a o' _ _ _ _ e1 e2 e3 e4=>
   have hne:a≠d:=by
    rintro rfl;rw[e1]at ho;cases ho;rw[hd]at e3;exact nomatch e3
   obtain⟨bs,r'⟩:=be3 ho hd hs xs hx e4;exact⟨_,.tuple ((hs.2 a hne).trans e1) e2 e3 r'⟩
 |.none,_,_,h,_=>nomatch h
 |.bool _,_,_,h,_=>nomatch h
 |.list _,_,_,h,_=>nomatch h
 |.dict _,_,_,h,_=>nomatch h
theorem be3{h h':Heap}{d:Addr}{o:Obj}{es:Array DictEntry}{ep:Nat}(ho:h.get? d=some o)(hd:o.data=.dict es ep)(hs:Heap.SameBut d h h'):∀(xs:List PyData){vs:List Value}{as:List Addr},lits xs=true→ReadsAll h vs xs as→∃bs,ReadsAll h' vs xs bs
 |[],vs,as,_,r=>by cases r;exact⟨_,.nil⟩
 |x::xs,vs,as,hx,r=>by
  cases r with
  |cons r1 r2=>
   have hx':lit x=true∧lits xs=true:=by simpa[lits]using hx
   obtain⟨b1,q1⟩:=bj3 ho hd hs x hx'.1 r1;obtain⟨b2,q2⟩:=be3 ho hd hs xs hx'.2 r2;exact⟨_,.cons q1 q2⟩
end
mutual
noncomputable def hK(w:World):PyData→Int
 |.int i=>hashInt i
 |.str x=>hashStr w x
 |.tuple ds=>reduceHash (Builtin.Tuple.tupleHashOf (hKs w ds))
 |_=>0
noncomputable def hKs(w:World):List PyData→List Int
 |[]=>[]
 |d::r=>hK w d::hKs w r
end
mutual
noncomputable def dw:PyData→Nat
 |.tuple ds=>dws ds+1
 |_=>1
noncomputable def dws:List PyData→Nat
 |[]=>0
 |d::r=>dw d+dws r
end
theorem az5(w:World):∀(a b:List PyData),hKs w (a++b)=hKs w a++hKs w b
 |[],b=>rfl
 |x::a,b=>by rw[List.cons_append,hKs,az5 w a b];rfl
theorem a09:∀(a b:List PyData),dws (a++b)=dws a+dws b
 |[],b=>by simp[dws]
 |x::a,b=>by rw[List.cons_append,dws,a09 a b,dws,Nat.add_assoc]
variable {prog:Program} {w:World}
theorem cc2:∀(n:Nat)(d:PyData),d.depth≤n→lit d=true→∀{A:Around}{E:Value→Shared→Prop}{s:Shared}{v:Value}{as:List Addr}{Q:Int→Shared→Prop},A.units+n<cLine→Reads s.heap v d as→Q (hK w d) {s with toks:=s.toks+dw d}→wpAny (model prog w) A (pyHash v) Q E s:=by
 intro n
 induction n with
 |zero=>
  intro d hd hl A E s v as Q hu r h;cases r with
  |int i t=>exact wpAny_pyHash_int (by simpa[hK,dw]using h)
  |str x t=>exact wpAny_pyHash_str (by simpa[hK,dw]using h)
  |tuple=>rw[depth_tup]at hd;omega
  |none=>cases hl
  |bool=>cases hl
  |list=>cases hl
  |dict=>cases hl
 |succ n ih=>
  intro d hd hl A E s v as Q hu r h;cases r with
  |int i t=>exact wpAny_pyHash_int (by simpa[hK,dw]using h)
  |str x t=>exact wpAny_pyHash_str (by simpa[hK,dw]using h)
  |none=>cases hl
  |bool=>cases hl
  |list=>cases hl
  |dict=>cases hl
  |@tuple a o items m xs as ho hc hda hi=>
   rw[depth_tup]at hd;have hl':lits xs=true:=hl;have hT:s.TypeIs (.ref a) "tuple":=⟨o,ho,hc⟩;unfold pyHash
   first|unfold pyHashByItsType|skip
   first|refine wpAny_bind (wpAny_cRoomFor_or (.inr (by omega)) ?_)|skip
   refine wpAny_bind (wpAny_specialOf hT F.slot_tuple_hash.lookup ?_);show wpAny _ _ (if(some (Value.builtin "tuple.__hash__")==some Value.none)=true then _ else _) Q E s;rw[if_neg (by rw[beq_builtin_none];exact Bool.false_ne_true)];refine wpAny_bind (wpAny_specialOf hT F.slot_tuple_hash.lookup ?_);show wpAny _ _ (callSpecialIfBoundUnlessNone? (.ref a) "__hash__" _>>=_) Q E s;refine wpAny_bind (wpAny_callSpecialIfBoundUnlessNone?_slot hT F.slot_tuple_hash (wpAny_call_entry F.slot_tuple_hash hT F.entry_tuple_hash ?_ (F.args_tuple_hash_1 _)));show wpAny _ _ (Builtin.Tuple.tupleItemsOf (.ref a)>>=_) _ _ s;refine wpAny_bind (wpAny_tupleItemsOf ho hda ?_);refine wpAny_bind ?_;rw[←Array.forIn_toList];refine wpAny_forIn_list _
    (fun j1(b:Array Int)s'=>∃done left bs,xs=done++left∧ReadsAll s.heap j1 left bs∧b.toList=hKs w done∧s'={s with toks:=s.toks+dws done})
    _ ?_ ?_ _ _ ⟨[],xs,_,rfl,hi,rfl,rfl⟩
   ·rintro x j1 b s' ⟨done,left,bs,rfl,hl2,hb,rfl⟩;cases hl2 with
    |@cons _ _ k ks' _ _ h1 hl3=>
     have hk:k∈done++k::ks':=by simp
     refine wpAny_bind (ih k (by have:=ax5 hk;omega) (ay7 hl' k hk) ?_ h1 ?_)
     ·show A.units+1+n<cLine;omega
     first
      |exact wpAny_pure ⟨done++[k],ks',_,by simp,hl3,by rw[az5];simp[hb,hKs],by simp[a09,dws,Nat.add_assoc]⟩
      |exact wpAny_bind (wpAny_pure (wpAny_pure ⟨done++[k],ks',_,by simp,hl3,by rw[az5];simp[hb,hKs],by simp[a09,dws,Nat.add_assoc]⟩))
   ·rintro b s' ⟨done,left,bs,rfl,hl2,hb,rfl⟩;cases hl2;rw[List.append_nil]at h;simp only[hK,dw]at h;show wpAny _ _ (retInt (Builtin.Tuple.tupleHashOf b.toList)) _ _ _;rw[hb];refine wpAny_ret_mkInt ?_;show wpAny _ _ (if(decide (-(2:Int)^63≤Builtin.Tuple.tupleHashOf (hKs w done))&&decide (Builtin.Tuple.tupleHashOf (hKs w done)<2^63))=true then _ else _) Q E _;unfold reduceHash at h
    by_cases hr:(decide (-(2:Int)^63≤Builtin.Tuple.tupleHashOf (hKs w done))&&decide (Builtin.Tuple.tupleHashOf (hKs w done)<2^63))=true
    ·rw[if_pos hr];rw[if_pos hr]at h;exact wpAny_pure (by simpa[Nat.add_assoc]using h)
    ·rw[if_neg hr];rw[if_neg hr]at h;exact wpAny_bind (wpAny_rule (wpAny_pure (by simpa[Nat.add_assoc]using h)))
theorem b76:∀(n:Nat)(d:PyData),d.depth≤n→lit d=true→∀{A:Around}{E:Value→Shared→Prop}{s:Shared}{v:Value}{as:List Addr}{Q:Bool→Shared→Prop},Reads s.heap v d as→Q true s→wpAny (model prog w) A (eqIsQuiet n v) Q E s:=by
 intro n
 induction n with
 |zero=>
  intro d hd hl A E s v as Q r h;cases r with
  |int i t=>rw[eqIsQuiet_byValue _ rfl];exact wpAny_pure h
  |str x t=>rw[eqIsQuiet_byValue _ rfl];exact wpAny_pure h
  |tuple=>rw[depth_tup]at hd;omega
  |none=>cases hl
  |bool=>cases hl
  |list=>cases hl
  |dict=>cases hl
 |succ n ih=>
  intro d hd hl A E s v as Q r h;cases r with
  |int i t=>rw[eqIsQuiet_byValue _ rfl];exact wpAny_pure h
  |str x t=>rw[eqIsQuiet_byValue _ rfl];exact wpAny_pure h
  |none=>cases hl
  |bool=>cases hl
  |list=>cases hl
  |dict=>cases hl
  |@tuple a o items m xs as ho hc hda hi=>
   rw[depth_tup]at hd;have hl':lits xs=true:=hl;have hT:s.TypeIs (.ref a) "tuple":=⟨o,ho,hc⟩;unfold eqIsQuiet;refine wpAny_bind (wpAny_specialOf hT F.slot_tuple_eq.lookup ?_);show wpAny _ _ (isInstance (.ref a) (.type "tuple")>>=_) _ _ s;refine wpAny_bind (wpAny_isInstance hT isSubtype_tuple_tuple ?_);simp only[Bool.not_true,Bool.false_eq_true,if_false];refine wpAny_bind (wpAny_seqItems ho hda ?_);refine wpAny_bind ?_;show wpAny _ _ (forIn items _ _) _ _ s;rw[←Array.forIn_toList];refine wpAny_forIn_list _ (fun j1 r s'=>r.1=none∧s'=s∧∃left bs,(∀k∈left,lit k=true∧k.depth≤n)∧ReadsAll s.heap j1 left bs) _ ?_ ?_ _ _ ⟨rfl,rfl,xs,_,fun k hk=>⟨ay7 hl' k hk,by have:=ax5 hk;omega⟩,hi⟩
   ·rintro v j1 r s' ⟨hr,rfl,left,bs,hall,hl2⟩;cases hl2 with
    |@cons _ _ k ks' _ _ h1 hl3=>
     obtain⟨k1,k2⟩:=hall k (by simp);refine wpAny_bind (ih k k2 k1 h1 ?_);simp only[Bool.not_true,Bool.false_eq_true,if_false];exact wpAny_pure ⟨rfl,rfl,ks',_,fun u hu'=>hall u (by simp[hu']),hl3⟩
   ·rintro⟨r1,r2⟩ s' ⟨hr,rfl,_⟩;simp only at hr;subst hr;exact wpAny_pure h
noncomputable def isK(h:Heap)(k:PyData)(a:Addr):Prop:=lit k=true∧k.depth≤7∧∃as,Reads h (.ref a) k as
noncomputable def dataKind(prog:Program)(w:World):HeapKind prog w PyData where
 is:=isK
 hash:=hK w
 draws:=dw
 room:=fun A=>A.units+8<cLine
 inj:=fun⟨l1,_,_,r1⟩⟨l2,_,_,r2⟩=>bp9 _ _ l1 l2 r1 r2
 keeps:=fun⟨l1,d1,_,r1⟩ho hd hs=>⟨l1,d1,bj3 ho hd hs _ l1 r1⟩
 pyHash:=fun hu⟨l1,d1,_,r1⟩h=>cc2 7 _ d1 l1 (by omega) r1 h
 eqBool:=fun{A E s x y a b Q}hu⟨l1,d1,_,r1⟩⟨l2,d2,_,r2⟩h=>by
  have e:PyData.eqv x y=decide (x=y):=by
   by_cases z:x=y
   ·rw[decide_eq_true z];exact(eqv_lit x y l1 l2).mpr z
   ·rw[decide_eq_false z];cases q:PyData.eqv x y with
    |false=>rfl
    |true=>exact absurd ((eqv_lit x y l1 l2).mp q) z
  have:=SeqAt.eqAt_reads x y A s _ _ _ _ r1 r2 (a08 x l1) (a08 y l2) (by have:min x.depth y.depth≤x.depth:=Nat.min_le_left _ _;omega);rw[e]at this;exact this prog w E Q h
 quiet:=fun⟨l1,d1,_,r1⟩h=>b76 8 _ (by omega) l1 r1 h
theorem dataKind_room_in1{prog:Program}{w:World}{A:Around}(h:A.units+20<cLine):(dataKind prog w).room A.in1:=by
 show A.units+1+8<cLine;omega
end NK
end PySem
set_option maxRecDepth 100000
namespace L2
open PySem PySem.Spec PyProof.Rows
noncomputable abbrev Key:=Sum Int Str
noncomputable def V1:Key→Value→Bool
 |.inl k,v=>Value.isInt k v
 |.inr x,v=>Value.isStrOf x v
noncomputable def c49(w:World):Key→Int
 |.inl k=>hashInt k
 |.inr x=>hashStr w x
theorem G0:∀{k:Key}{v:Value},V1 k v=true→(∃i t,k=Sum.inl i∧v=Value.int i t)∨(∃x t,k=Sum.inr x∧v=Value.str x t)
 |.inl i,v,h=>by
  obtain⟨t,e⟩:=Value.isInt_shape (k:=i) (v:=v) h;exact .inl ⟨i,t,rfl,e⟩
 |.inr x,v,h=>by
  obtain⟨t,e⟩:=Value.isStrOf_shape (x:=x) (v:=v) h;exact .inr ⟨x,t,rfl,e⟩
theorem b40(i:Int)(t:Tok):V1 (.inl i) (.int i t)=true:=by simp[V1,Value.isInt]
theorem b01(x:Str)(t:Tok):V1 (.inr x) (.str x t)=true:=by simp[V1,Value.isStrOf]
theorem co7(a b:Int):decide ((Sum.inl a:Key)=Sum.inl b)=(a==b):=by
 by_cases e:a=b
 ·subst e;simp
 ·have h:¬(Sum.inl a:Key)=Sum.inl b:=fun q=>e (Sum.inl.inj q);rw[decide_eq_false h];exact(beq_eq_false_iff_ne.mpr e).symm
theorem ck3(a b:Str):decide ((Sum.inr a:Key)=Sum.inr b)=decide (a=b):=by
 by_cases e:a=b
 ·subst e;simp
 ·have h:¬(Sum.inr a:Key)=Sum.inr b:=fun q=>e (Sum.inr.inj q);rw[decide_eq_false h,decide_eq_false e]
theorem cn3(a:Int)(b:Str):decide ((Sum.inl a:Key)=Sum.inr b)=false:=decide_eq_false (fun q=>nomatch q)
theorem cr9(a:Str)(b:Int):decide ((Sum.inr a:Key)=Sum.inl b)=false:=decide_eq_false (fun q=>nomatch q)
noncomputable def E9(prog:Program)(w:World):PySem.KeyKind prog w Key where
 is:=V1
 hash:=c49 w
 inj:=fun v a b ha hb=>by
  rcases G0 ha with⟨i,t,rfl,rfl⟩|⟨x,t,rfl,rfl⟩
  ·rcases G0 hb with⟨j,u,rfl,e⟩|⟨y,u,rfl,e⟩
   ·injection e with e1 _;rw[e1]
   ·exact nomatch e
  ·rcases G0 hb with⟨j,u,rfl,e⟩|⟨y,u,rfl,e⟩
   ·exact nomatch e
   ·injection e with e1 _;rw[e1]
 byValue:=fun k v h=>by
  rcases G0 h with⟨i,t,rfl,rfl⟩|⟨x,t,rfl,rfl⟩<;>rfl
 pyHash:=fun hv h=>by
  rcases G0 hv with⟨i,t,rfl,rfl⟩|⟨x,t,rfl,rfl⟩
  ·exact wpAny_pyHash_int h
  ·exact wpAny_pyHash_str h
 eqBool:=fun hu hv h=>by
  rcases G0 hu with⟨i,t,rfl,rfl⟩|⟨x,t,rfl,rfl⟩
  ·rcases G0 hv with⟨j,u,rfl,rfl⟩|⟨y,u,rfl,rfl⟩
   ·rw[co7]at h;exact wpAny_eqBool_int h
   ·rw[cn3]at h;exact SeqAt.EqAt.int_str i t y u _ _ _ _ h
  ·rcases G0 hv with⟨j,u,rfl,rfl⟩|⟨y,u,rfl,rfl⟩
   ·rw[cr9]at h;exact SeqAt.EqAt.str_int x t j u _ _ _ _ h
   ·rw[ck3]at h;exact wpAny_eqBool_str h
 «strs»:=fun k x t v h=>by
  rcases G0 h with⟨i,u,rfl,e⟩|⟨y,u,rfl,e⟩
  ·exact nomatch e
  ·injection e with e1 _
   subst e1;cases v<;>rfl
theorem bw9(prog:Program)(w:World)(i:Int)(t:Tok):(E9 prog w).is (.inl i) (.int i t)=true:=b40 i t
theorem bx2(prog:Program)(w:World)(x:Str)(t:Tok):(E9 prog w).is (.inr x) (.str x t)=true:=b01 x t
end L2
namespace L2
open PySem PySem.Spec PyProof.Rows
inductive V where
 |non|bl (b:Bool)|int (i:Int)|str (x:Str)|byt (b:Array UInt8)|flt (b:UInt64)|ref (a:Addr)|ty (n:String)
 deriving DecidableEq
noncomputable def i6:V→Value→Prop
 |.non,u=>u=Value.none
 |.bl b,u=>u=Value.bool b
 |.int i,u=>∃t,u=Value.int i t
 |.str x,u=>∃t,u=Value.str x t
 |.byt b,u=>∃t,u=Value.bytes b t
 |.flt b,u=>∃t,u=Value.float b t
 |.ref a,u=>u=Value.ref a
 |.ty n,u=>u=Value.type n
noncomputable abbrev e9:List V→List Value→Prop:=Paired i6
theorem e9.length{xs:List V}{us:List Value}(r:e9 xs us):xs.length=us.length:=Paired.length r
theorem e9.get:∀{xs:List V}{us:List Value}{i:Nat}{x:V},e9 xs us→xs[i]?=some x→∃u,us[i]?=some u∧i6 x u
 |_,_,_,_,.nil,e=>by simp at e
 |_,_,0,_,.cons r _,e=>by simp at e;subst e;exact⟨_,rfl,r⟩
 |_,_,i+1,x,.cons _ t,e=>by
  obtain⟨u,h1,h2⟩:=e9.get (i:=i) (x:=x) t (by simpa using e);exact⟨u,by simpa using h1,h2⟩
theorem e9.append:∀{xs ys:List V}{us ws:List Value},e9 xs us→e9 ys ws→e9 (xs++ys) (us++ws)
 |_,_,_,_,.nil,s=>s
 |_,_,_,_,.cons r t,s=>.cons r (e9.append t s)
theorem e9.take:∀{xs:List V}{us:List Value}(n:Nat),e9 xs us→e9 (xs.take n) (us.take n)
 |_,_,0,_=>.nil
 |_,_,_+1,.nil=>.nil
 |_,_,n+1,.cons r t=>.cons r (e9.take n t)
theorem e9.drop:∀{xs:List V}{us:List Value}(n:Nat),e9 xs us→e9 (xs.drop n) (us.drop n)
 |_,_,0,r=>r
 |_,_,_+1,.nil=>.nil
 |_,_,n+1,.cons _ t=>e9.drop n t
noncomputable def z0:Option V→Option Value→Prop
 |some v,some u=>i6 v u
 |none,none=>True
 |_,_=>False
noncomputable def KV{κ:Type}:List (κ×V)→List (κ×Value)→Prop:=Paired fun(p:κ×V)(q:κ×Value)=>p.1=q.1∧i6 p.2 q.2
noncomputable def kV:Key→V
 |.inl i=>.int i
 |.inr x=>.str x
inductive HO where
 |lst (xs:List V)
 |tup (xs:List V)
 |dK (kvs:List (Key×V))|dT (kvs:List (PyData×V))
 |set (S:Int→Bool) (n:Nat)
 |ins (C dx:Addr) (fs:List (Str×V))
 |own (x:Addr)
 |xd (fs:List (Str×V))
 |met (f x:Addr)
 |rng (lo hi:Int)
 |frz (o:Obj) (u:HO)
 |tbl (ps:Array Value)
 |ext (φ:Heap→Prop)
noncomputable abbrev Hp:=Addr→Option HO
noncomputable def upd(H:Hp)(a:Addr)(o:HO):Hp:=fun b=>if b=a then some o else H b
theorem o8{H:Hp}{a:Addr}{o:HO}:upd H a o a=some o:=by unfold upd;rw[if_pos rfl]
theorem i8{H:Hp}{a b:Addr}{o:HO}(h:b≠a):upd H a o b=H b:=by unfold upd;rw[if_neg h]
theorem cx1{H:Hp}{a b:Addr}{o u:HO}(h:H a=some o)(h':H b=some u)(d:o≠u):a≠b:=by
 intro e;subst e;rw[h]at h';exact d (Option.some.inj h')
theorem t6{H:Hp}{a b:Addr}{o:HO}(h:H a=some o)(h':H b=none):a≠b:=by
 intro e;subst e;rw[h]at h';cases h'
mutual
noncomputable def HRd(H:Hp):PyData→V→Prop
 |.int i,v=>v=.int i
 |.str x,v=>v=.str x
 |.tuple ds,v=>∃a vs,v=.ref a∧H a=some (.tup vs)∧J7 H ds vs
 |_,_=>False
noncomputable def J7(H:Hp):List PyData→List V→Prop
 |[],vs=>vs=[]
 |d::ds,vs=>∃v r,vs=v::r∧HRd H d v∧J7 H ds r
end
mutual
theorem HRd.keeps{H H':Hp}(ht:∀b ys,H b=some (.tup ys)→H' b=some (.tup ys)):∀(d:PyData){v:V},HRd H d v→HRd H' d v
 |.int i,v,h=>h
 |.str x,v,h=>h
 |.tuple ds,v,h=>let⟨a,vs,e,h1,h2⟩:=h;⟨a,vs,e,ht a vs h1,J7.keeps ht ds h2⟩
 |.none,_,h=>h.elim
 |.bool _,_,h=>h.elim
 |.list _,_,h=>h.elim
 |.dict _,_,h=>h.elim
theorem J7.keeps{H H':Hp}(ht:∀b ys,H b=some (.tup ys)→H' b=some (.tup ys)):∀(ds:List PyData){vs:List V},J7 H ds vs→J7 H' ds vs
 |[],vs,h=>h
 |d::ds,vs,h=>let⟨v,r,e,h1,h2⟩:=h;⟨v,r,e,HRd.keeps ht d h1,J7.keeps ht ds h2⟩
end
noncomputable def D8(H:Hp)(d:PyData)(b:Addr):Prop:=NK.lit d=true∧d.depth≤7∧HRd H d (.ref b)
theorem D8.keeps{H H':Hp}{d:PyData}{b:Addr}(h:D8 H d b)(ht:∀b ys,H b=some (.tup ys)→H' b=some (.tup ys)):D8 H' d b:=⟨h.1,h.2.1,HRd.keeps ht d h.2.2⟩
noncomputable def D2(h:Heap)(a:Addr)(items:Array Value):Prop:=∃o,h.get? a=some o∧o.cls=.type "tuple"∧o.dict=none∧∃n,o.data=.seq items n
theorem D2.tup{h:Heap}{a:Addr}{items:Array Value}(x:D2 h a items):IsTup h a items:=let⟨o,e,c,_,d⟩:=x;⟨o,e,c,d⟩
theorem D2.lt{h:Heap}{a:Addr}{items:Array Value}(x:D2 h a items):a<h.objs.size:=let⟨_,e,_⟩:=x;Heap.lt_size e
theorem D2.new(h:Heap)(items:Array Value):D2 (h.push {cls:=.type "tuple",data:=.seq items}) h.objs.size items:=⟨_,Heap.get?_push_size _ rfl,rfl,rfl,_,rfl⟩
section
variable (P:Program) (w:World)
noncomputable def m8(H:Hp)(h:Heap)(a:Addr):HO→Prop
 |.lst xs=>xs.length≤sizeLine∧∃(its:List Value)(n:Nat),e9 xs its∧h.get? a=some {cls:=.type "list",data:=.seq its.toArray n}
 |.tup xs=>xs.length≤sizeLine∧∃its:List Value,e9 xs its∧D2 h a its.toArray
 |.dK kvs=>kvs.length≤sizeLine∧(a==sysModules)=false∧∃vs,KV kvs vs∧h.DictOf (E9 P w) a vs
 |.dT kvs=>kvs.length≤sizeLine∧(a==sysModules)=false∧∃xs:List (PyData×Addr×Value),
   Paired (fun(p:PyData×V)(q:PyData×Addr×Value)=>p.1=q.1∧D8 H p.1 q.2.1∧i6 p.2 q.2.2) kvs xs ∧
   ∃o es ep,h.get? a=some o∧o.ExactDict∧o.data=.dict es ep∧es.toList=xs.map (entryOfKey (NK.dataKind P w))∧(xs.map (·.1)).Nodup
 |.set S n=>h.SetOf (intKind P w) a S n
 |.ins C dx fs=>H dx=some (.own a)∧fs.length≤1000∧dx≠a∧h.get? a=some (W.instObj C dx) ∧
   ∃mA,h.Ns1 dx mA∧(∀f,z0 (fs.lookup f) (mA f))∧PySem.Within mA (fs.map (·.1))
 |.own _=>∃o,h.get? a=some o
 |.xd fs=>∃mA,h.Ns1 a mA∧∀f,z0 (fs.lookup f) (mA f)
 |.rng lo hi=>∃t u v,h.get? a=some {cls:=.type "range",data:=.fields #[.int lo t,.int hi u,.int 1 v]}
 |.frz o u=>h.get? a=some o∧m8 H h a u
 |.tbl ps=>h.get? a=some {cls:=.none,data:=.fields ps}
 |.met f x=>h.get? a=some (W.methodObj (.ref f) (.ref x))
 |.ext φ=>φ h∧(∃o,h.get? a=some o)∧∀h1 h2:Heap,φ h1→(∀o,h1.get? a=some o→h2.get? a=some o)→φ h2
noncomputable def HOk(H:Hp)(h:Heap):Prop:=∀a o,H a=some o→m8 P w H h a o
end
section
variable {P:Program} {w:World} {H H':Hp} {h h':Heap} {a:Addr} {o:HO}
theorem m8.lt(x:m8 P w H h a o):a<h.objs.size:=by
 cases o with
 |lst xs=>obtain⟨_,_,_,_,e⟩:=x;exact Heap.lt_size e
 |tup xs=>obtain⟨_,_,_,p⟩:=x;exact p.lt
 |dK kvs=>obtain⟨_,_,_,_,o,_,_,e,_⟩:=x;exact Heap.lt_size e
 |dT kvs=>obtain⟨_,_,_,_,o,_,_,e,_⟩:=x;exact Heap.lt_size e
 |set S n=>obtain⟨o,_,_,_,e,_⟩:=x;exact Heap.lt_size e
 |ins C dx fs=>obtain⟨_,_,_,e,_⟩:=x;exact Heap.lt_size e
 |own y=>obtain⟨_,e⟩:=x;exact Heap.lt_size e
 |xd fs=>obtain⟨_,⟨_,_,_,e,_⟩,_⟩:=x;exact Heap.lt_size e
 |rng lo hi=>obtain⟨_,_,_,e⟩:=x;exact Heap.lt_size e
 |frz ob u=>obtain⟨e,_⟩:=x;exact Heap.lt_size e
 |tbl ps=>exact Heap.lt_size (show h.get? a=some _ from x)
 |met f y=>exact Heap.lt_size (show h.get? a=some _ from x)
 |ext φ=>obtain⟨_,⟨_,e⟩,_⟩:=x;exact Heap.lt_size e
theorem Paired.mapP{α β:Type}{F G:α→β→Prop}:∀{l₁:List α}{l₂:List β},Paired F l₁ l₂→(∀a b,F a b→G a b)→Paired G l₁ l₂
 |_,_,.nil,_=>.nil
 |_,_,.cons r t,f=>.cons (f _ _ r) (Paired.mapP t f)
theorem m8.stay(x:m8 P w H h a o)(k:∀b u,(b=a∨H b=some (.own a))→h.get? b=some u→h'.get? b=some u)
  (ho:∀b,H b=some (.own a)→H' b=some (.own a)) (ht:∀b xs,H b=some (.tup xs)→H' b=some (.tup xs)):m8 P w H' h' a o:=by
 induction o with
 |lst xs=>obtain⟨z,its,n,r,e⟩:=x;exact⟨z,its,n,r,k _ _ (.inl rfl) e⟩
 |tup xs=>obtain⟨z,its,r,ob,e,c⟩:=x;exact⟨z,its,r,ob,k _ _ (.inl rfl) e,c⟩
 |dK kvs=>obtain⟨z,y,vs,r,ob,es,ep,e,c⟩:=x;exact⟨z,y,vs,r,ob,es,ep,k _ _ (.inl rfl) e,c⟩
 |dT kvs=>
  obtain⟨z,y,xs,r,ob,es,ep,e,c⟩:=x;exact⟨z,y,xs,Paired.mapP r fun p q z=>⟨z.1,z.2.1.keeps ht,z.2.2⟩,ob,es,ep,k _ _ (.inl rfl) e,c⟩
 |set S n=>obtain⟨ob,es,ep,t,e,c⟩:=x;exact⟨ob,es,ep,t,k _ _ (.inl rfl) e,c⟩
 |ins C dx fs=>
  obtain⟨d,z,ne,e,mA,⟨od,es,ep,e2,c⟩,r⟩:=x;exact⟨ho _ d,z,ne,k _ _ (.inl rfl) e,mA,⟨od,es,ep,k _ _ (.inr d) e2,c⟩,r⟩
 |own y=>obtain⟨ob,e⟩:=x;exact⟨ob,k _ _ (.inl rfl) e⟩
 |xd fs=>obtain⟨mA,⟨od,es,ep,e,c⟩,r⟩:=x;exact⟨mA,⟨od,es,ep,k _ _ (.inl rfl) e,c⟩,r⟩
 |rng lo hi=>obtain⟨t,u,v,e⟩:=x;exact⟨t,u,v,k _ _ (.inl rfl) e⟩
 |frz ob u ih=>obtain⟨e,q⟩:=x;exact⟨k _ _ (.inl rfl) e,ih q⟩
 |tbl ps=>
  have e:h.get? a=some {cls:=.none,data:=.fields ps}:=x;show h'.get? a=some {cls:=.none,data:=.fields ps};exact k a _ (.inl rfl) e
 |met f y=>
  have e:h.get? a=some (W.methodObj (.ref f) (.ref y)):=x;show h'.get? a=some (W.methodObj (.ref f) (.ref y));exact k a _ (.inl rfl) e
 |ext φ=>obtain⟨p,⟨o,e⟩,st⟩:=x;exact⟨st _ _ p fun o q=>k _ _ (.inl rfl) q,⟨o,k _ _ (.inl rfl) e⟩,st⟩
theorem HOk.lt(x:HOk P w H h)(e:H a=some o):a<h.objs.size:=(x a o e).lt
theorem HOk.fresh(x:HOk P w H h)(e:h.objs.size≤a):H a=none:=by
 cases q:H a with
 |none=>rfl
 |some u=>exact absurd (Nat.lt_of_lt_of_le (x.lt q) e) (Nat.lt_irrefl _)
theorem HOk.kept(x:HOk P w H h)(k:∀b u,h.get? b=some u→h'.get? b=some u):HOk P w H h':=fun a o e=>
 (x a o e).stay (fun b u _ q=>k b u q) (fun _ q=>q) fun _ _ q=>q
theorem HOk.laid(x:HOk P w H h)(k:∀b u,h.get? b=some u→h'.get? b=some u)(hp:h.objs.size≤a)(new:m8 P w (upd H a o) h' a o):HOk P w (upd H a o) h':=fun b u e=>by
 have hn:=x.fresh hp
 by_cases hb:b=a
 ·subst hb;rw[o8]at e;cases e;exact new
 ·rw[i8 hb]at e;exact(x b u e).stay (fun c v _ q=>k c v q) (fun c q=>by rw[i8 (t6 q hn)];exact q) fun c xs q=>by rw[i8 (t6 q hn)];exact q
end
noncomputable def Rd(H:Hp)(a:Addr)(u:HO):Prop:=H a=some u∨∃o,H a=some (.frz o u)
theorem Rd.ok{P:Program}{w:World}{H:Hp}{h:Heap}{a:Addr}{u:HO}(r:Rd H a u)(x:HOk P w H h):m8 P w H h a u:=by
 rcases r with r|⟨o,r⟩
 ·exact x a u r
 ·obtain⟨_,q⟩:=x a _ r;exact q
noncomputable def Mut:Option HO→Prop
 |some (.lst _)=>True
 |some (.dK _)=>True
 |some (.dT _)=>True
 |some (.set _ _)=>True
 |some (.ins _ _ _)=>True
 |some (.ext _)=>True
 |_=>False
section
variable {P:Program} {w:World} {H:Hp} {h h':Heap} {x e:Addr} {o':HO}
theorem HOk.write(ok:HOk P w H h)(mu:Mut (H x))(he:e=x∨H e=some (.own x))(k:∀b u,b≠e→h.get? b=some u→h'.get? b=some u)(heo:∃u,h'.get? e=some u)
  (new:m8 P w (upd H x o') h' x o'):HOk P w (upd H x o') h':=fun b u q=>by
 have nown:∀c y,H c=some (.own y)→c≠x:=fun c y r z=>by subst z;rw[r]at mu;exact mu
 have ntup:∀c xs,H c=some (.tup xs)→c≠x:=fun c xs r z=>by subst z;rw[r]at mu;exact mu
 by_cases hb:b=x
 ·subst hb;rw[o8]at q;cases q;exact new
 ·rw[i8 hb]at q
  by_cases hbe:b=e
  ·have q':H b=some (.own x):=by
    rcases he with z|z
    ·exact absurd (hbe.trans z) hb
    ·rw[hbe];exact z
   rw[q]at q';cases q';obtain⟨v,hv⟩:=heo;exact⟨v,by rw[hbe];exact hv⟩
  ·refine(ok b u q).stay (fun c v hc r=>k c v ?_ r) (fun c r=>by rw[i8 (nown c b r)];exact r) fun c xs r=>by rw[i8 (ntup c xs r)];exact r
   rcases hc with rfl|hc
   ·exact hbe
   ·rintro rfl
    rcases he with z|z
    ·exact nown c b hc z
    ·rw[hc]at z;cases z;exact hb rfl
end
structure Un(fs ex:List Addr)(H H':Hp)(h h':Heap):Prop where
 keep:∀b o,h.get? b=some o→H b=none→b∉fs→b∉ex→h'.get? b=some o
 slot:∀b o,h.get? b=some o→H b=none→b∈fs→b∉ex→∃sl,h'.get? b=some {o with slots:=sl}
 free:∀b o,h.get? b=some o→H b=none→b∉ex→H' b=none
 there:∀b o,h.get? b=some o→b∉ex→∃o',h'.get? b=some o'
 tups:∀b xs,H b=some (.tup xs)→H' b=some (.tup xs)
 frzs:∀b o u,H b=some (.frz o u)→H' b=some (.frz o u)
 tbls:∀b ps,H b=some (.tbl ps)→∃more,H' b=some (.tbl (ps++more))
section
variable {fs fs' ex ex':List Addr} {H H1 H2:Hp} {h h1 h2 h':Heap} {a x e:Addr} {o:HO}
theorem Un.any(u:Un fs ex H H1 h h1){b:Addr}{ob:Obj}(q:h.get? b=some ob)(n:H b=none)(hx:b∉ex):∃sl,h1.get? b=some {ob with slots:=sl}:=by
 by_cases hb:b∈fs
 ·exact u.slot b ob q n hb hx
 ·exact⟨ob.slots,u.keep b ob q n hb hx⟩
theorem Un.kept(k:∀b u,h.get? b=some u→h'.get? b=some u):Un fs ex H H h h':=
 ⟨fun b ob q _ _ _=>k b ob q,fun b ob q _ _ _=>⟨ob.slots,k b ob q⟩,fun _ _ _ n _=>n,fun b ob q _=>⟨ob,k b ob q⟩,fun _ _ q=>q,fun _ _ _ q=>q,fun _ ps q=>⟨#[],by rw[q];simp⟩⟩
theorem Un.refl:Un fs ex H H h h:=Un.kept fun _ _ q=>q
theorem Un.laid(k:∀b u,h.get? b=some u→h'.get? b=some u)(hp:h.objs.size≤a)(hn:H a=none):Un fs ex H (upd H a o) h h' where
 keep:=fun b u q _ _ _=>k b u q
 slot:=fun b u q _ _ _=>⟨u.slots,k b u q⟩
 free:=fun b u q n _=>by rw[i8 (Nat.ne_of_lt (Nat.lt_of_lt_of_le (Heap.lt_size q) hp))];exact n
 there:=fun b u q _=>⟨u,k b u q⟩
 tups:=fun b xs q=>by rw[i8 (t6 q hn)];exact q
 frzs:=fun b u xs q=>by rw[i8 (t6 q hn)];exact q
 tbls:=fun b ps q=>⟨#[],by rw[i8 (t6 q hn),q];simp⟩
theorem Un.write(mu:Mut (H x))(he:e=x∨H e=some (.own x))(k:∀b u,b≠e→h.get? b=some u→h'.get? b=some u)(heo:∃u,h'.get? e=some u):Un fs ex H (upd H x o) h h':=by
 have hx:∀b,H b=none→b≠x:=fun b n z=>by subst z;rw[n]at mu;exact mu
 have hb:∀b,H b=none→b≠e:=fun b n z=>by
  subst z
  rcases he with r|r
  ·exact hx b n r
  ·rw[n]at r;cases r
 have hm:∀b u,H b=some u→¬Mut (some u)→b≠x:=fun b u q nm z=>by subst z;rw[q]at mu;exact nm mu
 refine⟨fun b u q n _ _=>k b u (hb b n) q,fun b u q n _ _=>⟨u.slots,k b u (hb b n) q⟩,fun b u q n _=>by rw[i8 (hx b n)];exact n,fun b u q _=>?_,
  fun b xs q=>by rw[i8 (hm b _ q fun z=>z)];exact q,fun b u xs q=>by rw[i8 (hm b _ q fun z=>z)];exact q,fun b ps q=>⟨#[],by rw[i8 (hm b _ q fun z=>z),q];simp⟩⟩
 by_cases hbe:b=e
 ·subst hbe;exact heo
 ·exact⟨u,k b u hbe q⟩
end
noncomputable def trk(h:Heap)(H:Hp):List Addr:=(List.range h.objs.size).filter fun a=>(H a).isSome
noncomputable def F9(h:Heap)(H:Hp):Heap:=W.hideAll h (trk h H)
theorem b23(h:Heap)(H:Hp):(F9 h H).objs.size=h.objs.size:=W.hideAll_size _ _
theorem b46{h:Heap}{H:Hp}{b:Addr}{o:Obj}(e:h.get? b=some o)(n:H b=none):(F9 h H).get? b=some o:=
 W.hideAll_get _ e fun hm=>by
  have q:(H b).isSome=true:=(List.mem_filter.mp hm).2;rw[n]at q;simp at q
theorem ce5{h:Heap}{H:Hp}{b:Addr}{o:Obj}(e:(F9 h H).get? b=some o):h.get? b=some o∧H b=none:=by
 have e':h.get? b=some o:=W.of_hideAll (trk h H) e;refine⟨e',?_⟩;cases q:H b with
 |none=>rfl
 |some x=>
  have hm:b∈trk h H:=List.mem_filter.mpr ⟨List.mem_range.mpr (Heap.lt_size e'),by simp[q]⟩;have z:(F9 h H).get? b=none:=W.hideAll_none (trk h H) hm;rw[z]at e;cases e
noncomputable def cg3(g h:Heap)(L:Addr):List (Addr×Obj):=(List.range h.objs.size).filterMap fun a=>if a=L∨(g.get? a).isSome=true then none else(h.get? a).map fun o=>(a,o)
noncomputable def j1(g h:Heap)(L d:Addr):List (Addr×Obj):=(cg3 g h L).filter fun p=>decide (p.1≠d)
end L2
namespace L2
open PySem PySem.Spec PyProof.Rows
structure Mod(K:W.Frag)(mg:Str→Option Value)(base:Heap):Prop where
 kin:K.In base
 glob:base.Ns mainGlobals mg
 blt:∃mb,base.Ns builtinsNs mb∧∀x:Str,x≠"__name__"→mb x=bootBuiltins x
 nolimit:base.NoLimit
structure Cx where
 prog:Program
 w:World
 K:W.Frag
 mg:Str→Option Value
 base:Heap
 A:Around
 N:List Str
 s₀:Shared
 H₀:Hp
 env:Env
 outer:List Env
 stack:List Env
 ex:List Addr
 fn:Str→Bool
 calm:Bool
 pn:List (Addr×Obj)
 xe:Value→Shared→Prop
 ow:Str→Bool:=fun _=>false
noncomputable def frs(l:List Env):List Addr:=l.filterMap (·.frame)
noncomputable abbrev Cx.fs(X:Cx):List Addr:=frs X.outer
noncomputable def Vis(sc:Scope)(x:Str):Prop:=sc.names.lookup x=some .local∨sc.names.lookup x=some .cell∨sc.names.lookup x=some .free
noncomputable def Loc(sc:Scope)(x:Str):Prop:=sc.names.lookup x=some .local∨sc.names.lookup x=some .cell
noncomputable def c32(env:Env)(h:Heap)(m:Str→Option Value)(x:Str)(u:Value):Prop:=
 (env.kindOf x=some .local∧m x=some u)∨((env.kindOf x=some .cell∨env.kindOf x=some .free)∧∃c,env.cells.lookup x=some c∧h.IsCell c (some u))
structure Cx.Ok(X:Cx):Prop where
 mod:Mod X.K X.mg X.base
 kind:X.env.scope.kind=.function
 glob:X.env.globals=mainGlobals
 blt:X.env.builtins=builtinsNs
 above:X.s₀.heap.objs.size≤X.env.locals
 inj:∀x y c,X.env.cells.lookup x=some c→X.env.cells.lookup y=some c→x=y
 has:∀x,(X.env.kindOf x=some .cell∨X.env.kindOf x=some .free)→∃c,X.env.cells.lookup x=some c
 cab:∀x c,X.fn x=true∨X.ow x=true→X.env.cells.lookup x=some c→X.s₀.heap.objs.size≤c
 hd:X.calm=true→X.A.handled=none
 frames:X.A.frames=some X.stack
 stk:X.stack=X.outer∨(X.stack=X.env::X.outer∧X.env.frame=some X.env.locals)
 exf:∀b∈X.ex,b≠X.env.locals∧∀x c,X.env.cells.lookup x=some c→c≠b
 bs:∀b o,X.base.get? b=some o→X.s₀.heap.get? b=some o∧X.H₀ b=none
 bsz:X.base.objs.size≤X.s₀.heap.objs.size
 noex:∀b o,X.base.get? b=some o→b∉X.ex
 exfs:∀b∈X.ex,b∉X.fs
 funs:X.s₀.heap.FunFrames X.base X.outer
 frf:∀b∈X.fs,X.H₀ b=none
structure Inv(X:Cx)(pins:List (Addr×Obj))(σ:List (Option V))(H:Hp)(s:Shared):Prop where
 ok:X.Ok
 os:s.os=X.s₀.os
 bare:AllBare s.gens
 base:Un X.fs X.ex X.H₀ H X.s₀.heap s.heap
 loc:∃m,s.heap.Ns X.env.locals m∧∀(i:Nat)(x:Str)(v:V),X.N[i]?=some x→σ[i]?=some (some v)→Vis X.env.scope x→∃u,i6 v u∧c32 X.env s.heap m x u
 cell:∀x c,X.env.cells.lookup x=some c→∃v,s.heap.IsCell c v
 free:H X.env.locals=none
 freeC:∀x c,X.env.cells.lookup x=some c→H c=none∨(X.fn x=false∧∃o u,H c=some (.frz o u))
 pin:∀p∈X.pn++pins,s.heap.get? p.1=some p.2∧H p.1=none∧p.1≠X.env.locals∧p.1∉X.fs∧∀v,p.2.data≠.cell v
 hok:HOk X.prog X.w H s.heap
 len:σ.length=X.N.length
section
variable {X:Cx} {pins:List (Addr×Obj)} {σ:List (Option V)} {H H':Hp} {s:Shared} {h':Heap}
theorem Cx.Ok.nofr(ok:X.Ok){b:Addr}{o:Obj}(e:X.base.get? b=some o):b∉X.fs:=fun hb=>by
 have:=(ok.funs.mem hb).1;rw[e]at this;cases this
theorem Inv.bs(I:Inv X pins σ H s):∀b o,X.base.get? b=some o→s.heap.get? b=some o∧H b=none:=fun b o e=>
 ⟨I.base.keep b o (I.ok.bs b o e).1 (I.ok.bs b o e).2 (I.ok.nofr e) (I.ok.noex b o e),I.base.free b o (I.ok.bs b o e).1 (I.ok.bs b o e).2 (I.ok.noex b o e)⟩
theorem Inv.bk(I:Inv X pins σ H s):∀b o,X.base.get? b=some o→s.heap.get? b=some o:=fun b o e=>(I.bs b o e).1
theorem Inv.mod(I:Inv X pins σ H s):Mod X.K X.mg X.base:=I.ok.mod
theorem Inv.kIn(I:Inv X pins σ H s):X.K.In s.heap:=I.ok.mod.kin.keeps I.bk
theorem Inv.lt(I:Inv X pins σ H s):X.env.locals<s.heap.objs.size:=let⟨_,hn,_⟩:=I.loc;hn.lt
theorem Inv.sz(I:Inv X pins σ H s):X.s₀.heap.objs.size≤s.heap.objs.size:=Nat.le_trans I.ok.above (Nat.le_of_lt I.lt)
theorem Inv.nofs(I:Inv X pins σ H s){a:Addr}(h:s.heap.objs.size≤a):a∉X.fs:=fun hb=>by
 obtain⟨_,o,ho,_⟩:=I.ok.funs.mem hb;exact absurd (Nat.lt_of_lt_of_le (Heap.lt_size ho) (Nat.le_trans I.sz h)) (Nat.lt_irrefl _)
theorem Inv.cne(I:Inv X pins σ H s):∀x c,X.env.cells.lookup x=some c→c≠X.env.locals:=fun x c e z=>by
 obtain⟨v,o,ho,hd⟩:=I.cell x c e;obtain⟨m,⟨o',es,ep,ho',hd',_⟩,_⟩:=I.loc;rw[z,ho']at ho;cases ho;rw[hd']at hd;cases hd
theorem Inv.funs(I:Inv X pins σ H s):s.heap.FunFrames X.base X.outer:=by
 have all:∀(l:List Env),(∀b∈frs l,b∈X.fs)→X.s₀.heap.FunFrames X.base l→s.heap.FunFrames X.base l:=by
  intro l
  induction l with
  |nil=>intro _ _;trivial
  |cons env r ih=>
   intro hs hl;obtain⟨hk,⟨L,o,hf,hn,ho,hd⟩,hr⟩:=hl;have hL:L∈X.fs:=hs L (by unfold frs;rw[List.filterMap_cons,hf];exact List.mem_cons_self);obtain⟨sl,e⟩:=I.base.slot L o ho (I.ok.frf L hL) hL fun z=>I.ok.exfs L z hL;exact⟨hk,⟨L,_,hf,hn,e,hd⟩,ih (fun b hb=>hs b (by unfold frs;rw[List.filterMap_cons,hf];exact List.mem_cons_of_mem _ hb)) hr⟩
 exact all X.outer (fun _ hb=>hb) I.ok.funs
theorem Inv.stack(I:Inv X pins σ H s):s.heap.FunFrames X.base X.stack:=by
 rcases I.ok.stk with e|⟨e,hf⟩
 ·rw[e];exact I.funs
 ·rw[e];obtain⟨m,hn,_⟩:=I.loc;refine .cons (by rw[I.ok.kind];decide) hf hn ?_ I.funs;exact Heap.get?_none_of_le (Nat.le_trans I.ok.bsz I.ok.above)
theorem Inv.stkSub(I:Inv X pins σ H s):∀b∈frs X.stack,b∈X.env.locals::X.fs:=fun b hb=>by
 rcases I.ok.stk with e|⟨e,hf⟩
 ·rw[e]at hb;exact List.mem_cons_of_mem _ hb
 ·rw[e]at hb;unfold frs at hb;rw[List.filterMap_cons,hf]at hb;exact hb
theorem Inv.stkFree(I:Inv X pins σ H s):∀b∈frs X.stack,H b=none:=fun b hb=>by
 rcases List.mem_cons.mp (I.stkSub b hb)with e|hb
 ·rw[e];exact I.free
 ·obtain⟨_,o,ho,_⟩:=I.ok.funs.mem hb;exact I.base.free b o ho (I.ok.frf b hb) fun z=>I.ok.exfs b z hb
theorem Inv.step{g':Array GenState}{t':Nat}{d':Drawn}{ch:List Addr}(I:Inv X pins σ H s)
  (hch:∀b∈ch,(b∈X.ex∨X.s₀.heap.objs.size≤b)∧b≠X.env.locals∧(∀x c,X.env.cells.lookup x=some c→c≠b)∧∀p∈X.pn++pins,p.1≠b)
  (keep:∀b o,b≠X.env.locals→b∉X.fs→b∉ch→s.heap.get? b=some o→H b=none→h'.get? b=some o)
  (slot:∀b o,b≠X.env.locals→b∈X.fs→b∉ch→s.heap.get? b=some o→H b=none→∃sl,h'.get? b=some {o with slots:=sl}) (free:∀b o,b∉ch→s.heap.get? b=some o→H b=none→H' b=none)
  (there:∀b o,b∉ch→s.heap.get? b=some o→∃o',h'.get? b=some o')
  (tups:∀b xs,H b=some (.tup xs)→H' b=some (.tup xs)) (frzs:∀b o u,H b=some (.frz o u)→H' b=some (.frz o u)) (tbls:∀b ps,H b=some (.tbl ps)→∃more,H' b=some (.tbl (ps++more)))
  (ns:∀m,s.heap.Ns X.env.locals m→h'.Ns X.env.locals m) (hok:HOk X.prog X.w H' h') (hg:AllBare g') :
  Inv X pins σ H' {s with heap:=h',gens:=g',drawn:=d',toks:=t'}:=by
 have neL:∀b o,X.s₀.heap.get? b=some o→b≠X.env.locals:=fun b o e=>Nat.ne_of_lt (Nat.lt_of_lt_of_le (Heap.lt_size e) I.ok.above);have neC:∀b o,X.s₀.heap.get? b=some o→b∉X.ex→b∉ch:=fun b o e hx hb=>by
  rcases(hch b hb).1 with z|z
  ·exact hx z
  ·exact absurd (Nat.lt_of_lt_of_le (Heap.lt_size e) z) (Nat.lt_irrefl _)
 have cellK:∀x c,X.env.cells.lookup x=some c→∀v,s.heap.IsCell c v→h'.IsCell c v:=fun x c e v⟨o,ho,hd⟩=>by
  have nch:c∉ch:=fun z=>(hch c z).2.2.1 x c e rfl
  rcases I.freeC x c e with hfr|⟨_,oz,uz,hz⟩
  ·by_cases hc:c∈X.fs
   ·obtain⟨sl,q⟩:=slot c o (I.cne x c e) hc nch ho hfr;exact⟨_,q,hd⟩
   ·exact⟨o,keep c o (I.cne x c e) hc nch ho hfr,hd⟩
  ·obtain⟨h1,_⟩:=I.hok c _ hz;obtain⟨h2,_⟩:=hok c _ (frzs c oz uz hz);rw[h1]at ho;cases ho;exact⟨_,h2,hd⟩
 refine⟨I.ok,I.os,hg,⟨fun b o e n hb hx=>?_,fun b o e n hb hx=>?_,fun b o e n hx=>?_,fun b o e hx=>?_,fun b xs e=>tups b xs (I.base.tups b xs e),fun b o xs e=>frzs b o xs (I.base.frzs b o xs e),fun b ps e=>?_⟩,?_,fun x c e=>?_,?_,fun x c e=>?_,fun p hp=>?_,hok,I.len⟩
 ·exact keep b o (neL b o e) hb (neC b o e hx) (I.base.keep b o e n hb hx) (I.base.free b o e n hx)
 ·obtain⟨sl,e1⟩:=I.base.slot b o e n hb hx;obtain⟨sl',e2⟩:=slot b _ (neL b o e) hb (neC b o e hx) e1 (I.base.free b o e n hx);exact⟨sl',e2⟩
 ·obtain⟨o',e1⟩:=I.base.there b o e hx;exact free b o' (neC b o e hx) e1 (I.base.free b o e n hx)
 ·obtain⟨o',e1⟩:=I.base.there b o e hx;exact there b o' (neC b o e hx) e1
 ·obtain⟨m1,e1⟩:=I.base.tbls b ps e;obtain⟨m2,e2⟩:=tbls b _ e1;exact⟨m1++m2,by rw[e2,Array.append_assoc]⟩
 ·obtain⟨m,hn,hl⟩:=I.loc;refine⟨m,ns m hn,fun i x v e1 e2 e3=>?_⟩;obtain⟨u,r,l⟩:=hl i x v e1 e2 e3;refine⟨u,r,?_⟩
  rcases l with l|⟨k,c,e,z⟩
  ·exact .inl l
  ·exact .inr ⟨k,c,e,cellK x c e _ z⟩
 ·obtain⟨v,z⟩:=I.cell x c e;exact⟨v,cellK x c e v z⟩
 ·obtain⟨m,⟨o,_,_,ho,_⟩,_⟩:=I.loc;exact free _ o (fun z=>(hch _ z).2.1 rfl) ho I.free
 ·obtain⟨v,o,ho,hd⟩:=I.cell x c e
  rcases I.freeC x c e with hfr|⟨hfn,oz,uz,hz⟩
  ·exact .inl (free c o (fun z=>(hch c z).2.2.1 x c e rfl) ho hfr)
  ·exact .inr ⟨hfn,oz,uz,frzs c oz uz hz⟩
 ·obtain⟨e,n,ne,nf,d⟩:=I.pin p hp;have nch:p.1∉ch:=fun z=>(hch p.1 z).2.2.2 p hp rfl;exact⟨keep p.1 p.2 ne nf nch e n,free p.1 p.2 nch e n,ne,nf,d⟩
theorem Inv.un{t':Nat}(I:Inv X pins σ H s)(u:Un X.fs [] H H' s.heap h')(hok:HOk X.prog X.w H' h'):Inv X pins σ H' {s with heap:=h',toks:=t'}:=by
 obtain⟨m,⟨o,es,ep,ho,r⟩,_⟩:=id I.loc;obtain⟨sl,hL⟩:=u.any ho I.free (by simp);exact I.step (g':=s.gens) (d':=s.drawn) (ch:=[]) (fun _ z=>nomatch z) (fun b o _ hb _ e n=>u.keep b o e n hb (by simp)) (fun b o _ hb _ e n=>u.slot b o e n hb (by simp)) (fun b o _ e n=>u.free b o e n (by simp)) (fun b o _ e=>u.there b o e (by simp)) u.tups u.frzs u.tbls (fun m' hm=>by
  obtain⟨o',es',ep',ho',r'⟩:=hm;rw[ho]at ho';cases ho';exact⟨_,es',ep',hL,r'⟩) hok I.bare
theorem Inv.call{g':Array GenState}{t':Nat}{d':Drawn}{ch:List Addr}(I:Inv X pins σ H s)(u:Un (frs X.stack) ch H H' s.heap h')(hok:HOk X.prog X.w H' h')(hg:AllBare g')
  (hch:∀b∈ch,(b∈X.ex∨X.s₀.heap.objs.size≤b)∧b≠X.env.locals∧(∀x c,X.env.cells.lookup x=some c→c≠b)∧∀p∈X.pn++pins,p.1≠b) :
  Inv X pins σ H' {s with heap:=h',gens:=g',drawn:=d',toks:=t'}:=by
 obtain⟨m,⟨o,es,ep,ho,r⟩,_⟩:=id I.loc;obtain⟨sl,hL⟩:=u.any ho I.free fun z=>(hch _ z).2.1 rfl;exact I.step (ch:=ch) hch (fun b o hL hb hc e n=>u.keep b o e n (fun z=>(List.mem_cons.mp (I.stkSub b z)).elim hL hb) hc) (fun b o _ _ hc e n=>u.any e n hc) (fun b o hc e n=>u.free b o e n hc) (fun b o hc e=>u.there b o e hc) u.tups u.frzs u.tbls (fun m' hm=>by
  obtain⟨o',es',ep',ho',r'⟩:=hm;rw[ho]at ho';cases ho';exact⟨_,es',ep',hL,r'⟩) hok hg
theorem Inv.turned{t':Nat}{it:Addr}(I:Inv X pins σ H s)(k:∀b o,b≠it→s.heap.get? b=some o→h'.get? b=some o)(hn:H it=none)(hL:it≠X.env.locals)
  (h1:it∈X.ex∨X.s₀.heap.objs.size≤it) (h2:∀x c,X.env.cells.lookup x=some c→c≠it) (h3:∀p∈X.pn++pins,p.1≠it):Inv X pins σ H {s with heap:=h',toks:=t'}:=by
 have nit:∀b u,H b=some u→b≠it:=fun b u e z=>by rw[z,hn]at e;cases e
 refine I.step (g':=s.gens) (d':=s.drawn) (ch:=[it]) (fun b hb=>?_) (fun b o _ _ hc e _=>k b o (fun z=>hc (by simp[z])) e) (fun b o _ _ hc e _=>⟨o.slots,k b o (fun z=>hc (by simp[z])) e⟩) (fun _ _ _ _ n=>n)
  (fun b o hc e=>⟨o,k b o (fun z=>hc (by simp[z])) e⟩) (fun _ _ e=>e) (fun _ _ _ e=>e) (fun b ps e=>⟨#[],by rw[e];simp⟩) (fun m hm=>?_) (fun b u e=>?_) I.bare
 ·have e:b=it:=by simpa using hb
  subst e;exact⟨h1,hL,h2,h3⟩
 ·obtain⟨o,es,ep,ho,r⟩:=hm;exact⟨o,es,ep,k _ o (Ne.symm hL) ho,r⟩
 ·refine(I.hok b u e).stay (fun c v hc q=>k c v ?_ q) (fun _ q=>q) fun _ _ q=>q
  rcases hc with z|z
  ·rw[z];exact nit b u e
  ·exact nit c _ z
theorem Inv.tok(I:Inv X pins σ H s)(t:Nat):Inv X pins σ H {s with toks:=t}:=I.un (h':=s.heap) (t':=t) Un.refl I.hok
theorem Inv.kept{t':Nat}(I:Inv X pins σ H s)(k:∀b u,s.heap.get? b=some u→h'.get? b=some u):Inv X pins σ H {s with heap:=h',toks:=t'}:=I.un (Un.kept k) (I.hok.kept k)
theorem Inv.laid{a:Addr}{o:HO}{t':Nat}(I:Inv X pins σ H s)(k:∀b u,s.heap.get? b=some u→h'.get? b=some u)(hp:s.heap.objs.size≤a)(new:m8 X.prog X.w (upd H a o) h' a o):
  Inv X pins σ (upd H a o) {s with heap:=h',toks:=t'}:=I.un (Un.laid k hp (I.hok.fresh hp)) (I.hok.laid k hp new)
theorem Inv.write{x e:Addr}{o:HO}{t':Nat}(I:Inv X pins σ H s)(mu:Mut (H x))(he:e=x∨H e=some (.own x))(k:∀b u,b≠e→s.heap.get? b=some u→h'.get? b=some u)(heo:∃u,h'.get? e=some u)
  (new:m8 X.prog X.w (upd H x o) h' x o):Inv X pins σ (upd H x o) {s with heap:=h',toks:=t'}:=I.un (Un.write mu he k heo) (I.hok.write mu he k heo new)
theorem Inv.pins_of{pins':List (Addr×Obj)}(I:Inv X pins σ H s)(h:∀p∈pins',s.heap.get? p.1=some p.2∧H p.1=none∧p.1≠X.env.locals∧p.1∉X.fs∧∀v,p.2.data≠.cell v):Inv X pins' σ H s:=
 ⟨I.ok,I.os,I.bare,I.base,I.loc,I.cell,I.free,I.freeC,fun p hp=>(List.mem_append.mp hp).elim (fun z=>I.pin p (List.mem_append_left _ z)) (h p),I.hok,I.len⟩
theorem bf3{N:List Str}(hN:N.Nodup){i j:Nat}{x:Str}(a:N[i]?=some x)(b:N[j]?=some x):i=j:=by
 obtain⟨h1,e1⟩:=List.getElem?_eq_some_iff.mp a;obtain⟨h2,e2⟩:=List.getElem?_eq_some_iff.mp b;exact(List.getElem_inj hN).mp (e1.trans e2.symm)
theorem b00{M:Model}{A:Around}{E:Value→Shared→Prop}{i:Nat}{x:Str}{v:V}{u:Value}{Q:Unit→Shared→Prop}(I:Inv X pins σ H s)(hN:X.N.Nodup)(hi:X.N[i]?=some x)(hx:Loc X.env.scope x)(r:i6 v u)
  (h:∀s',Inv X pins (σ.set i (some v)) H s'→(∃a,Heap.SameBut a s.heap s'.heap∧(a=X.env.locals∨X.env.cells.lookup x=some a))→Q () s') (hf:X.fn x=true∨X.env.scope.names.lookup x=some .local:=by first|exact .inl rfl|exact .inr rfl|assumption):wpAny M A (storeName X.env x u) Q E s:=by
 obtain⟨m,hn,hl⟩:=id I.loc;have hcls:(X.env.scope.kind==.class||(X.env.scope.kind==.module&&X.env.locals != X.env.globals))=false:=by rw[I.ok.kind];rfl
 have hiσ:i<σ.length:=by rw[I.len];exact(List.getElem?_eq_some_iff.mp hi).1
 have cne:=I.cne;have tracked:∀{a:Addr}{h':Heap},(∃o,s.heap.get? a=some o∧H a=none)→Heap.SameBut a s.heap h'→HOk X.prog X.w H h':=fun{a h'}ha hs b ob e=>by
  obtain⟨_,_,hfree⟩:=ha;refine(I.hok b ob e).stay (fun c w' hc q=>(hs.2 c ?_).trans q) (fun _ q=>q) fun _ _ q=>q;rintro rfl
  rcases hc with rfl|hc
  ·rw[hfree]at e;cases e
  ·rw[hfree]at hc;cases hc
 rcases hx with hk|hk
 ·refine wpAny_storeName_local hk hn (fun h' hn' hs=>?_) hcls;obtain⟨oL,_,_,hoL,_⟩:=id hn;refine h _ ⟨I.ok,I.os,I.bare,⟨fun b o e n hb hx=>?_,fun b o e n hb hx=>?_,I.base.free,fun b o e hx=>?_,I.base.tups,I.base.frzs,I.base.tbls⟩,⟨_,hn',fun j y v' e1 e2 e3=>?_⟩,fun y c e=>?_,I.free,I.freeC,fun p hp=>?_,tracked ⟨oL,hoL,I.free⟩ hs,by simpa using I.len⟩ ⟨_,hs,.inl rfl⟩
  ·exact(hs.2 b (Nat.ne_of_lt (Nat.lt_of_lt_of_le (Heap.lt_size e) I.ok.above))).trans (I.base.keep b o e n hb hx)
  ·obtain⟨sl,e1⟩:=I.base.slot b o e n hb hx;exact⟨sl,(hs.2 b (Nat.ne_of_lt (Nat.lt_of_lt_of_le (Heap.lt_size e) I.ok.above))).trans e1⟩
  ·obtain⟨o',e1⟩:=I.base.there b o e hx;exact⟨o',(hs.2 b (Nat.ne_of_lt (Nat.lt_of_lt_of_le (Heap.lt_size e) I.ok.above))).trans e1⟩
  ·by_cases hj:j=i
   ·subst hj;rw[hi]at e1;cases e1;rw[List.getElem?_set_self hiσ]at e2;cases e2;exact⟨u,r,.inl ⟨hk,by simp⟩⟩
   ·rw[List.getElem?_set_ne (Ne.symm hj)]at e2;obtain⟨u',r',q⟩:=hl j y v' e1 e2 e3;refine⟨u',r',?_⟩
    rcases q with⟨k,e⟩|⟨k,c,e,z⟩
    ·refine .inl ⟨k,?_⟩;have:y≠x:=fun e=>hj (bf3 hN e1 (e▸hi));simp[this,e]
    ·exact .inr ⟨k,c,e,z.sameBut hs (cne y c e)⟩
  ·obtain⟨w',z⟩:=I.cell y c e;exact⟨w',z.sameBut hs (cne y c e)⟩
  ·obtain⟨e,n,ne,nf,d⟩:=I.pin p hp;exact⟨(hs.2 p.1 ne).trans e,n,ne,nf,d⟩
 ·have hfn:X.fn x=true:=by
   rcases hf with z|z
   ·exact z
   ·rw[z]at hk;cases hk
  obtain⟨c,hc⟩:=I.ok.has x (.inl hk);obtain⟨w',z⟩:=I.cell x c hc;have hfree:H c=none:=(I.freeC x c hc).resolve_right fun z=>by rw[hfn]at z;exact absurd z.1 (by decide)
  refine wpAny_storeName_cell I.ok.kind hk hc z (fun h' hc' hs=>?_);obtain⟨oc,hoc,hocd⟩:=id z;refine h {s with heap:=h'} ⟨I.ok,I.os,I.bare,⟨fun b o e n hb hx=>?_,fun b o e n hb hx=>?_,I.base.free,fun b o e hx=>?_,I.base.tups,I.base.frzs,I.base.tbls⟩,⟨m,hn.sameBut hs (Ne.symm (cne x c hc)),fun j y v' e1 e2 e3=>?_⟩,fun y c' e=>?_,I.free,I.freeC,fun p hp=>?_,tracked ⟨oc,hoc,hfree⟩ hs,by simpa using I.len⟩ ⟨c,hs,.inr hc⟩
  ·exact(hs.2 b (Nat.ne_of_lt (Nat.lt_of_lt_of_le (Heap.lt_size e) (I.ok.cab x c (.inl hfn) hc)))).trans (I.base.keep b o e n hb hx)
  ·obtain⟨sl,e1⟩:=I.base.slot b o e n hb hx;exact⟨sl,(hs.2 b (Nat.ne_of_lt (Nat.lt_of_lt_of_le (Heap.lt_size e) (I.ok.cab x c (.inl hfn) hc)))).trans e1⟩
  ·obtain⟨o',e1⟩:=I.base.there b o e hx;exact⟨o',(hs.2 b (Nat.ne_of_lt (Nat.lt_of_lt_of_le (Heap.lt_size e) (I.ok.cab x c (.inl hfn) hc)))).trans e1⟩
  ·by_cases hj:j=i
   ·subst hj;rw[hi]at e1;cases e1;rw[List.getElem?_set_self hiσ]at e2;cases e2;exact⟨u,r,.inr ⟨.inl hk,c,hc,hc'⟩⟩
   ·rw[List.getElem?_set_ne (Ne.symm hj)]at e2;obtain⟨u',r',q⟩:=hl j y v' e1 e2 e3;refine⟨u',r',?_⟩
    rcases q with q|⟨k,c',e,z'⟩
    ·exact .inl q
    ·refine .inr ⟨k,c',e,z'.sameBut hs ?_⟩;rintro rfl;exact hj (bf3 hN e1 (I.ok.inj _ _ _ e hc▸hi))
  ·by_cases hcc:c'=c
   ·subst hcc;exact⟨_,hc'⟩
   ·obtain⟨w2,z2⟩:=I.cell y c' e;exact⟨w2,z2.sameBut hs hcc⟩
  ·obtain⟨e,n,ne,nf,d⟩:=I.pin p hp;refine⟨(hs.2 p.1 ?_).trans e,n,ne,nf,d⟩;intro q;rw[q,hoc]at e;have q':oc=p.2:=Option.some.inj e;exact d w' (by rw[←q'];exact hocd)
theorem ae7{M:Model}{A:Around}{E:Value→Shared→Prop}{i:Nat}{x:Str}{v:V}{u:Value}{Q:Unit→Shared→Prop}(I:Inv X pins σ H s)(hN:X.N.Nodup)(hi:X.N[i]?=some x)(hx:Loc X.env.scope x)(r:i6 v u)
  (h:∀s',Inv X pins (σ.set i (some v)) H s'→Q () s') (hf:X.fn x=true∨X.env.scope.names.lookup x=some .local:=by first|exact .inl rfl|exact .inr rfl|assumption):wpAny M A (storeName X.env x u) Q E s:=
 b00 I hN hi hx r (fun s' I' _=>h s' I') hf
end
noncomputable abbrev XK:=Value→Option Addr→Hp→Prop
noncomputable abbrev St:=List (Option V)
noncomputable abbrev VK:=V→Hp→Prop
noncomputable abbrev TE:=St→Hp→VK→Prop
noncomputable abbrev TT:=St→Hp→(Bool→Hp→Prop)→Prop
noncomputable abbrev TA:=St→Hp→(List V→Hp→Prop)→Prop
structure Ends where
 nx:St→Hp→Prop
 rt:VK
 bk:St→Hp→Prop:=fun _ _=>False
 ct:St→Hp→Prop:=fun _ _=>False
noncomputable abbrev TS:=Ends→St→Hp→Prop
noncomputable def EP(X:Cx)(pins:List (Addr×Obj))(σ:St)(Q:VK)(u:Value)(s':Shared):Prop:=∃v H',Inv X pins σ H' s'∧i6 v u∧Q v H'
noncomputable def TP(X:Cx)(pins:List (Addr×Obj))(σ:St)(Q:Bool→Hp→Prop)(b:Bool)(s':Shared):Prop:=∃H',Inv X pins σ H' s'∧Q b H'
noncomputable def AP(X:Cx)(pins:List (Addr×Obj))(σ:St)(Q:List V→Hp→Prop)(us:List Value)(s':Shared):Prop:=∃vs H',Inv X pins σ H' s'∧e9 vs us∧Q vs H'
noncomputable def SP(X:Cx)(pins:List (Addr×Obj))(D:Ends)(f:Flow)(s':Shared):Prop:=
 match f with
 |.next=>∃σ' H',Inv X pins σ' H' s'∧D.nx σ' H'
 |.brk=>∃σ' H',Inv X pins σ' H' s'∧D.bk σ' H'
 |.cont=>∃σ' H',Inv X pins σ' H' s'∧D.ct σ' H'
 |.ret u=>∃v σ' H',Inv X pins σ' H' s'∧i6 v u∧D.rt v H'
noncomputable def PE(X:Cx)(e:Expr)(t:TE):Prop:=
 ∀(pins:List (Addr×Obj))(s:Shared)(σ:St)(H:Hp)(Q:VK),Inv X pins σ H s→t σ H Q→wpAny (model X.prog X.w) X.A (eval e X.env) (EP X pins σ Q) X.xe s
noncomputable def PT(X:Cx)(e:Expr)(t:TT):Prop:=
 ∀(pins:List (Addr×Obj))(s:Shared)(σ:St)(H:Hp)(Q:Bool→Hp→Prop),Inv X pins σ H s→t σ H Q→wpAny (model X.prog X.w) X.A (isTrue e X.env (eval e X.env)) (TP X pins σ Q) X.xe s
noncomputable def PW(X:Cx)(e:Expr)(t:TT):Prop:=
 ∀(whole:Sem Value)(pins:List (Addr×Obj))(s:Shared)(σ:St)(H:Hp)(Q:Bool→Hp→Prop),Inv X pins σ H s→t σ H Q→wpAny (model X.prog X.w) X.A (isTrue e X.env whole) (TP X pins σ Q) X.xe s
theorem PW.pt{X:Cx}{e:Expr}{t:TT}(h:PW X e t):PT X e t:=h _
noncomputable def PA(X:Cx)(es:List Expr)(t:TA):Prop:=
 ∀(pos:Pos)(pins:List (Addr×Obj))(s:Shared)(σ:St)(H:Hp)(Q:List V→Hp→Prop),Inv X pins σ H s→t σ H Q→wpAny (model X.prog X.w) X.A (spliced (backTo pos (starEach es X.env))) (AP X pins σ Q) X.xe s
noncomputable def PS(X:Cx)(st:Stmt)(t:TS):Prop:=
 ∀(pins:List (Addr×Obj))(s:Shared)(σ:St)(H:Hp)(D:Ends),Inv X pins σ H s→t D σ H→wpAny (model X.prog X.w) X.A (exec st X.env) (SP X pins D) X.xe s
noncomputable def PSs(X:Cx)(st:List Stmt)(t:TS):Prop:=
 ∀(pins:List (Addr×Obj))(s:Shared)(σ:St)(H:Hp)(D:Ends),Inv X pins σ H s→t D σ H→wpAny (model X.prog X.w) X.A (execs st X.env) (SP X pins D) X.xe s
theorem thn{α:Type}{t:Sem α}{Q Q':α→Shared→Prop}{M:Model}{A:Around}{E:Value→Shared→Prop}{s:Shared}(h:wpAny M A t Q E s)(hQ:∀a s,Q a s→Q' a s):wpAny M A t Q' E s:=wpAny_mono h hQ fun _ _ x=>x
end L2
namespace L2
open PySem PySem.Spec PyProof.Rows
section
variable {X:Cx}
theorem bin{a b:Expr}{ta tb:TE}(ha:PE X a ta)(hb:PE X b tb){pins:List (Addr×Obj)}{s:Shared}{σ:St}{H:Hp}{R:V→V→Hp→Prop}(I:Inv X pins σ H s)(h:ta σ H fun x H1=>tb σ H1 fun y H2=>R x y H2)
  {α:Type} {Q:α→Shared→Prop} {f:Value→Value→Sem α}
  (hf:∀v u s2 x y H2,Inv X pins σ H2 s2→i6 x v→i6 y u→R x y H2→wpAny (model X.prog X.w) X.A (f v u) Q X.xe s2) :
  wpAny (model X.prog X.w) X.A (eval a X.env) (fun v s₁=>wpAny (model X.prog X.w) X.A (eval b X.env) (fun u s₂=>wpAny (model X.prog X.w) X.A (f v u) Q X.xe s₂) X.xe s₁) X.xe s:=by
 refine thn (ha pins s σ H _ I h) fun v s1⟨x,H1,I1,r1,q1⟩=>?_;refine thn (hb pins s1 σ H1 _ I1 q1) fun u s2⟨y,H2,I2,r2,q2⟩=>?_;exact hf v u s2 x y H2 I2 r1 r2 q2
noncomputable def c57(i:Nat):TE:=fun σ H Q=>∃v,σ[i]?=some (some v)∧Q v H
noncomputable def tC(v:V):TE:=fun _ H Q=>Q v H
theorem a55{i:Nat}{x:Str}{pos:Pos}(hN:X.N[i]?=some x)(hv:Vis X.env.scope x)(hd:(x==("__debug__":Str))=false:=by decide)(hcd:(x==("__classdict__":Str))=false:=by decide):PE X (.Name x pos) (c57 i):=by
 intro pins s σ H Q I h;obtain⟨v,e,h⟩:=h;obtain⟨m,hn,hl⟩:=I.loc;obtain⟨u,r,l⟩:=hl i x v hN e hv;have fin:EP X pins σ Q u s:=⟨v,H,I,r,h⟩
 rcases l with⟨hk,hm⟩|⟨hk,c,hc,hcell⟩
 ·exact wpAny_Name (wpAny_loadName_local I.ok.kind hk hn hm fin) hd
 ·rcases hk with hk|hk
  ·exact wpAny_Name (wpAny_loadName_cell I.ok.kind hk hc hcell fin) hd
  ·exact wpAny_Name (wpAny_loadName_free I.ok.kind hk hc hcell fin hcd) hd
theorem cs1{i j pos}:PE X (.Constant (.int i) j pos) (tC (.int i)):=fun _ _ _ H _ I h=>wpAny_Constant_int ⟨.int i,H,I.tok _,⟨_,rfl⟩,h⟩
theorem cv9{b j pos}:PE X (.Constant (.bool b) j pos) (tC (.bl b)):=fun _ _ _ H _ I h=>Constant_bool ⟨.bl b,H,I,rfl,h⟩
theorem cl9{j pos}:PE X (.Constant .none j pos) (tC .non):=fun _ _ _ H _ I h=>Constant_none ⟨.non,H,I,rfl,h⟩
theorem bm8{x j pos}:PE X (.Constant (.str x) j pos) (tC (.str x)):=fun _ _ _ H _ I h=>Calls.Constant_str ⟨.str x,H,I.tok _,⟨_,rfl⟩,h⟩
noncomputable def Gl(X:Cx)(x:Str):Prop:=X.env.kindOf x=some .globalImplicit
theorem ag7{E:Value→Shared→Prop}{pins:List (Addr×Obj)}{s:Shared}{σ:St}{H:Hp}{x:Str}{u:Value}{pos:Pos}{Q:Value→Shared→Prop}(I:Inv X pins σ H s)(hg:Gl X x)(hm:X.mg x=some u)(h:Q u s)
  (hd:(x==("__debug__":Str))=false:=by decide):wpAny (model X.prog X.w) X.A (eval (.Name x pos) X.env) Q E s:=
 Calls.Name_function_global I.ok.kind hg (Calls.loadGlobal_global (by rw[I.ok.glob];exact I.mod.glob.keeps I.bk) hm h) hd
theorem G5{E:Value→Shared→Prop}{pins:List (Addr×Obj)}{s:Shared}{σ:St}{H:Hp}{x:Str}{u:Value}{pos:Pos}{Q:Value→Shared→Prop}(I:Inv X pins σ H s)(hg:Gl X x)(hm:X.mg x=none)(hv:bootBuiltins x=some u)(h:Q u s)
  (hn:x≠"__name__":=by decide) (hd:(x==("__debug__":Str))=false:=by decide):wpAny (model X.prog X.w) X.A (eval (.Name x pos) X.env) Q E s:=by
 obtain⟨mb,h1,h2⟩:=I.mod.blt;exact Calls.Name_function_global I.ok.kind hg (Calls.loadGlobal_builtin (by rw[I.ok.glob];exact I.mod.glob.keeps I.bk) hm (by rw[I.ok.blt];exact h1.keeps I.bk) ((h2 x hn).trans hv) h) hd
theorem bh5{x:Str}{v:V}{u:Value}{pos:Pos}(hg:Gl X x)(hm:X.mg x=some u)(r:i6 v u)(hd:(x==("__debug__":Str))=false:=by decide):PE X (.Name x pos) (tC v):=
 fun _ _ _ H _ I h=>ag7 I hg hm ⟨v,H,I,r,h⟩ hd
theorem bm3{x:Str}{v:V}{u:Value}{pos:Pos}(hg:Gl X x)(hm:X.mg x=none)(hv:bootBuiltins x=some u)(r:i6 v u)(hn:x≠"__name__":=by decide)(hd:(x==("__debug__":Str))=false:=by decide):PE X (.Name x pos) (tC v):=
 fun _ _ _ H _ I h=>G5 I hg hm hv ⟨v,H,I,r,h⟩ hn hd
variable {a b:Expr} {ta tb:TE} {pos:Pos}
noncomputable def PC(X:Cx)(op:CmpOp)(a b:Expr)(t:TE):Prop:=
 ∀(pins:List (Addr×Obj))(s:Shared)(σ:St)(H:Hp)(Q:VK),Inv X pins σ H s→t σ H Q →
  wpAny (model X.prog X.w) X.A (eval a X.env) (fun v s₁=>wpAny (model X.prog X.w) X.A (eval b X.env) (fun u s₂=>wpAny (model X.prog X.w) X.A (compareOp op v u) (EP X pins σ Q) X.xe s₂) X.xe s₁) X.xe s
theorem bf4(b:Expr){op:CmpOp}(h:op≠.In)(h2:op≠.NotIn):behindInMarks op b=false:=by
 have e1:(op==CmpOp.In)=false:=by cases op<;>first|rfl|exact absurd rfl h
 have e2:(op==CmpOp.NotIn)=false:=by cases op<;>first|rfl|exact absurd rfl h2
 cases b<;>simp[behindInMarks,e1,e2]
noncomputable def c55(ta:TE):TE:=fun σ H Q=>ta σ H fun x H1=>Q (.bl (decide (x=.non))) H1
noncomputable def c03(ta:TE):TE:=fun σ H Q=>ta σ H fun x H1=>Q (.bl (!decide (x=.non))) H1
theorem i6.none_iff{x:V}{v:Value}(r:i6 x v):(v==Value.none)=decide (x=.non):=by
 cases x with
 |non=>cases r;rfl
 |bl _=>cases r;rfl
 |int _=>obtain⟨t,rfl⟩:=r;rfl
 |str _=>obtain⟨t,rfl⟩:=r;rfl
 |byt _=>obtain⟨t,rfl⟩:=r;rfl
 |flt _=>obtain⟨t,rfl⟩:=r;rfl
 |ref _=>cases r;rfl
 |ty _=>cases r;rfl
theorem bo8{j pos'}(ha:PE X a ta):PC X .Is a (.Constant .none j pos') (c55 ta):=by
 intro pins s σ H Q I h;refine thn (ha pins s σ H _ I h) fun v s1⟨x,H1,I1,r1,q1⟩=>?_;exact Constant_none (is_none_gen ⟨.bl _,H1,I1,by rw[r1.none_iff];rfl,q1⟩)
theorem bl2{j pos'}(ha:PE X a ta):PC X .IsNot a (.Constant .none j pos') (c03 ta):=by
 intro pins s σ H Q I h;refine thn (ha pins s σ H _ I h) fun v s1⟨x,H1,I1,r1,q1⟩=>?_;exact Constant_none (isnot_none_gen ⟨.bl _,H1,I1,by rw[r1.none_iff];rfl,q1⟩)
noncomputable def tB(t:TE):TT:=fun σ H Q=>t σ H fun x H1=>∃c,x=.bl c∧Q c H1
theorem bo9{op:CmpOp}{t:TE}(h:PC X op a b t)(h1:behindInMarks op b=false:=by first|exact bf4 _ (by decide) (by decide)|rfl):PE X (.Compare a [op] [b] pos) t:=fun pins s σ H Q I hw=>wpAny_Compare1 (h pins s σ H Q I hw) h1
theorem bp6{op:CmpOp}{t:TE}(h:PC X op a b t)(h1:behindInMarks op b=false:=by first|exact bf4 _ (by decide) (by decide)|rfl):PT X (.Compare a [op] [b] pos) (tB t):=by
 intro pins s σ H Q I hw;refine wpAny_isTrue_Compare1 (thn (h pins s σ H _ I hw) fun v s1 h1=>thn h1 fun u s2 h2=>thn h2 fun c s3⟨x,H1,I1,r1,q1⟩=>?_) h1;obtain⟨d,rfl,q⟩:=q1;cases r1;exact wpAny_truthy_bool ⟨H1,I1,q⟩
theorem cn7{e:Expr}{t:TE}(h:PE X e t)(he:∀whole,isTrue e X.env whole=(do let v ←whole;standAt e.pos;holding [v] (truthy v)):=by intro _;rfl):PT X e (tB t):=by
 intro pins s σ H Q I hw;refine isTrue_plain (thn (h pins s σ H _ I hw) fun v s1⟨x,H1,I1,r1,q1⟩=>?_) (he _);obtain⟨d,rfl,q⟩:=q1;cases r1;exact wpAny_truthy_bool ⟨H1,I1,q⟩
variable {tA tB':TT} {j1:List Expr}
noncomputable def c62(t u:TT):TT:=fun σ H Q=>t σ H fun c H1=>if c=true then u σ H1 Q else Q false H1
noncomputable def tOr(t u:TT):TT:=fun σ H Q=>t σ H fun c H1=>if c=true then Q true H1 else u σ H1 Q
noncomputable def c44(t:TT):TT:=fun σ H Q=>t σ H fun c H1=>Q (!c) H1
theorem cf8(ha:PT X a tA):PW X (.BoolOp .And [a] pos) tA:=by
 intro wh pins s σ H Q I h;refine isTrue_and (thn (ha pins s σ H Q I h) fun c s1 e=>?_);cases c with
 |true=>exact isTrue_and_nil e
 |false=>exact e
theorem cv4(ha:PT X a tA):PW X (.BoolOp .Or [a] pos) tA:=by
 intro wh pins s σ H Q I h;refine isTrue_or (thn (ha pins s σ H Q I h) fun c s1 e=>?_);cases c with
 |false=>exact isTrue_or_nil e
 |true=>exact e
theorem cr1(ha:PT X a tA)(hb:PW X (.BoolOp .And (b::j1) pos) tB'):PW X (.BoolOp .And (a::b::j1) pos) (c62 tA tB'):=by
 intro wh pins s σ H Q I h;refine isTrue_and (thn (ha pins s σ H _ I h) fun c s1⟨H1,I1,q1⟩=>?_);cases c with
 |true=>exact hb wh pins s1 σ H1 Q I1 q1
 |false=>exact⟨H1,I1,q1⟩
theorem cy7(ha:PT X a tA)(hb:PW X (.BoolOp .Or (b::j1) pos) tB'):PW X (.BoolOp .Or (a::b::j1) pos) (tOr tA tB'):=by
 intro wh pins s σ H Q I h;refine isTrue_or (thn (ha pins s σ H _ I h) fun c s1⟨H1,I1,q1⟩=>?_);cases c with
 |true=>exact⟨H1,I1,q1⟩
 |false=>exact hb wh pins s1 σ H1 Q I1 q1
theorem cs7(ha:PT X a tA):PT X (.UnaryOp .Not a pos) (c44 tA):=by
 intro pins s σ H Q I h;exact isTrue_not (ha pins s σ H (fun c H1=>Q (!c) H1) I h)
noncomputable def cy1(ta tb:TE):TE:=fun σ H Q=>ta σ H fun x H1=>∃c,x=.bl c∧if c=true then tb σ H1 Q else Q (.bl false) H1
noncomputable def c50(ta tb:TE):TE:=fun σ H Q=>ta σ H fun x H1=>∃c,x=.bl c∧if c=true then Q (.bl true) H1 else tb σ H1 Q
noncomputable def cw5(ta:TE):TE:=fun σ H Q=>ta σ H fun x H1=>∃c,x=.bl c∧Q (.bl (!c)) H1
theorem bp7{op}{t:TE}(h:PE X a t):PE X (.BoolOp op [a] pos) t:=fun pins s σ H Q I hw=>BoolOp_one (h pins s σ H Q I hw)
theorem ck7(ha:PE X a ta)(hb:PE X (.BoolOp .And (b::j1) pos) tb):PE X (.BoolOp .And (a::b::j1) pos) (cy1 ta tb):=by
 intro pins s σ H Q I h;refine BoolOp_and (thn (ha pins s σ H _ I h) fun v s1⟨x,H1,I1,r1,q1⟩=>?_);obtain⟨c,rfl,q1⟩:=q1;cases r1;refine wpAny_truthy_bool ?_;cases c with
 |true=>exact hb pins s1 σ H1 Q I1 q1
 |false=>exact⟨.bl false,H1,I1,rfl,q1⟩
theorem cz6(ha:PE X a ta)(hb:PE X (.BoolOp .Or (b::j1) pos) tb):PE X (.BoolOp .Or (a::b::j1) pos) (c50 ta tb):=by
 intro pins s σ H Q I h;refine BoolOp_or (thn (ha pins s σ H _ I h) fun v s1⟨x,H1,I1,r1,q1⟩=>?_);obtain⟨c,rfl,q1⟩:=q1;cases r1;refine wpAny_truthy_bool ?_;cases c with
 |false=>exact hb pins s1 σ H1 Q I1 q1
 |true=>exact⟨.bl true,H1,I1,rfl,q1⟩
theorem cn9(ha:PE X a ta):PE X (.UnaryOp .Not a pos) (cw5 ta):=by
 intro pins s σ H Q I h;refine UnaryOp_ (thn (ha pins s σ H _ I h) fun v s1⟨x,H1,I1,r1,q1⟩=>?_);obtain⟨c,rfl,q1⟩:=q1;cases r1;exact not_of (wpAny_truthy_bool ⟨.bl (!c),H1,I1,rfl,q1⟩)
noncomputable def tIf(t:TT)(ta tb:TE):TE:=fun σ H Q=>t σ H fun c H1=>if c=true then ta σ H1 Q else tb σ H1 Q
theorem b78{c:Expr}(hc:PT X c tA)(ha:PE X a ta)(hb:PE X b tb):PE X (.IfExp c a b pos) (tIf tA ta tb):=by
 intro pins s σ H Q I h;refine wpAny_IfExp (thn (hc pins s σ H _ I h) fun d s1⟨H1,I1,q1⟩=>?_);cases d with
 |true=>exact ha pins s1 σ H1 Q I1 q1
 |false=>exact hb pins s1 σ H1 Q I1 q1
end
end L2
namespace L2
open PySem PySem.Spec PyProof.Rows
noncomputable def SqL(K:W.Frag)(H:Hp)(a:Addr)(xs:List V):Prop:=
 Rd H a (.lst xs)∨
  ∃(o:Obj)(its:Array Value)(n:Nat),K.lookup a=some o∧o.cls=.type "list"∧o.dict=none∧o.data=.seq its n∧its.size≤sizeLine∧e9 xs its.toList
noncomputable def SqT(K:W.Frag)(H:Hp)(a:Addr)(xs:List V):Prop:=
 Rd H a (.tup xs)∨
  ∃(o:Obj)(its:Array Value)(n:Nat),K.lookup a=some o∧o.cls=.type "tuple"∧o.dict=none∧o.data=.seq its n∧its.size≤sizeLine∧e9 xs its.toList
noncomputable def c59:Value→Option V
 |.none=>some .non
 |.bool b=>some (.bl b)
 |.int i _=>some (.int i)
 |.str x _=>some (.str x)
 |.bytes b _=>some (.byt b)
 |.float b _=>some (.flt b)
 |.ref a=>some (.ref a)
 |.type n=>some (.ty n)
 |_=>none
theorem i6.abs{x:V}{u:Value}(r:i6 x u):c59 u=some x:=by
 cases x with
 |non=>cases r;rfl
 |bl _=>cases r;rfl
 |int _=>obtain⟨t,rfl⟩:=r;rfl
 |str _=>obtain⟨t,rfl⟩:=r;rfl
 |byt _=>obtain⟨t,rfl⟩:=r;rfl
 |flt _=>obtain⟨t,rfl⟩:=r;rfl
 |ref _=>cases r;rfl
 |ty _=>cases r;rfl
theorem i6.inj{x y:V}{u:Value}(r:i6 x u)(q:i6 y u):x=y:=Option.some.inj (r.abs.symm.trans q.abs)
theorem e9.inj:∀{xs ys:List V}{us:List Value},e9 xs us→e9 ys us→xs=ys
 |_,_,_,.nil,.nil=>rfl
 |_,_,_,.cons r t,.cons r' t'=>by rw[r.inj r',e9.inj t t']
section
variable {X:Cx} {pins:List (Addr×Obj)} {σ:St} {H:Hp} {s:Shared} {a:Addr} {xs ys:List V}
theorem Inv.list(I:Inv X pins σ H s)(h:SqL X.K H a xs):∃its:List Value,e9 xs its∧PlainL s.heap a its.toArray∧xs.length≤sizeLine:=by
 rcases h with h|⟨o,its,n,hk,hc,hd,hs,hz,r⟩
 ·obtain⟨z,its,n,r,e⟩:=h.ok I.hok;exact⟨its,r,⟨_,n,e,rfl,rfl,rfl⟩,z⟩
 ·refine⟨its.toList,r,⟨o,n,I.kIn a o hk,hc,hd,by simpa using hs⟩,?_⟩;have e:=r.length;simp only[Array.length_toList]at e;omega
theorem Inv.tupleD(I:Inv X pins σ H s)(h:SqT X.K H a xs):∃its:List Value,e9 xs its∧D2 s.heap a its.toArray∧xs.length≤sizeLine:=by
 rcases h with h|⟨o,its,n,hk,hc,hdn,hs,hz,r⟩
 ·obtain⟨z,its,r,p⟩:=h.ok I.hok;exact⟨its,r,p,z⟩
 ·refine⟨its.toList,r,⟨o,I.kIn a o hk,hc,hdn,n,by simpa using hs⟩,?_⟩;have e:=r.length;simp only[Array.length_toList]at e;omega
theorem Inv.tuple(I:Inv X pins σ H s)(h:SqT X.K H a xs):∃its:List Value,e9 xs its∧IsTup s.heap a its.toArray∧xs.length≤sizeLine:=by
 obtain⟨its,r,p,z⟩:=I.tupleD h;exact⟨its,r,p.tup,z⟩
theorem Inv.list_inj(I:Inv X pins σ H s)(h:SqL X.K H a xs)(h':SqL X.K H a ys):xs=ys:=by
 obtain⟨its,r,⟨o,n,e,_,_,d⟩,_⟩:=I.list h;obtain⟨its',r',⟨o',n',e',_,_,d'⟩,_⟩:=I.list h';rw[e]at e';cases e';rw[d]at d';injection d' with d1 _
 have:its=its':=by simpa using congrArg Array.toList d1
 subst this;exact r.inj r'
theorem Inv.tuple_inj(I:Inv X pins σ H s)(h:SqT X.K H a xs)(h':SqT X.K H a ys):xs=ys:=by
 obtain⟨its,r,⟨o,e,_,n,d⟩,_⟩:=I.tuple h;obtain⟨its',r',⟨o',e',_,n',d'⟩,_⟩:=I.tuple h';rw[e]at e';cases e';rw[d]at d';injection d' with d1 _
 have:its=its':=by simpa using congrArg Array.toList d1
 subst this;exact r.inj r'
end
section
variable {X:Cx} {st:Stmt} {j1:List Stmt} {t u:TS} {e:Expr} {te:TE} {pos:Pos}
noncomputable def br6:TS:=fun D σ H=>D.nx σ H
noncomputable def c36(t u:TS):TS:=fun D σ H=>t {D with nx:=u D} σ H
theorem ce2:PSs X [] br6:=fun _ _ σ H _ I h=>wpAny_execs_nil ⟨σ,H,I,h⟩
theorem b81(h1:PS X st t)(h2:PSs X j1 u):PSs X (st::j1) (c36 t u):=by
 intro pins s σ H D I h;refine wpAny_execs_cons (thn (h1 pins s σ H {D with nx:=u D} I h) fun f s1 q=>?_);cases f with
 |next=>
  obtain⟨σ',H',I',q⟩:=q;exact h2 pins s1 σ' H' D I' q
 |ret v=>exact q
 |brk=>exact q
 |cont=>exact q
theorem cc8:PS X (.Pass pos) br6:=fun _ _ σ H _ I h=>wpAny_Pass ⟨σ,H,I,h⟩
theorem Inv.quiet{pins:List (Addr×Obj)}{σ:St}{H:Hp}{s:Shared}(I:Inv X pins σ H s):interactive X.env=false:=by simp[interactive,I.ok.kind]
noncomputable def c04(te:TE):TS:=fun D σ H=>te σ H fun _ H1=>D.nx σ H1
theorem ci3(he:PE X e te)(hs:swapsWith e none pos.line X.env=pure false:=by rfl):PS X (.Expr e pos) (c04 te):=by
 intro pins s σ H D I h;exact wpAny_Expr_any (thn (he pins s σ H _ I h) fun v s1⟨x,H1,I1,r1,q1⟩=>⟨σ,H1,I1,q1⟩) I.quiet hs
noncomputable def c33(te:TE):TS:=fun D σ H=>te σ H D.rt
theorem cv5(he:PE X e te):PS X (.Return (some e) pos) (c33 te):=by
 intro pins s σ H D I h;exact wpAny_Return_some (thn (he pins s σ H _ I h) fun v s1⟨x,H1,I1,r1,q1⟩=>⟨x,σ,H1,I1,r1,q1⟩)
noncomputable def cz9:TS:=fun D _ H=>D.rt .non H
theorem cj3:PS X (.Return none pos) cz9:=fun _ _ σ H _ I h=>wpAny_Return_none ⟨.non,σ,H,I,rfl,h⟩
noncomputable def c47(c:TT)(t u:TS):TS:=fun D σ H=>c σ H fun b H1=>if b=true then t D σ H1 else u D σ H1
theorem cw6{c:Expr}{a b:List Stmt}{tc:TT}(hc:PT X c tc)(ha:PSs X a t)(hb:PSs X b u):PS X (.If c a b pos) (c47 tc t u):=by
 intro pins s σ H D I h;refine wpAny_If (thn (hc pins s σ H _ I h) fun d s1⟨H1,I1,q1⟩=>?_);cases d with
 |true=>exact ha pins s1 σ H1 D I1 q1
 |false=>exact hb pins s1 σ H1 D I1 q1
end
noncomputable abbrev TG:=V→St→Hp→(St→Hp→Prop)→Prop
noncomputable abbrev TGs:=List V→St→Hp→(St→Hp→Prop)→Prop
noncomputable def PG(X:Cx)(target:Expr)(t:TG):Prop:=
 ∀(pins:List (Addr×Obj))(s:Shared)(σ:St)(H:Hp)(v:V)(u:Value)(Q:St→Hp→Prop),Inv X pins σ H s→i6 v u→t v σ H Q →
  wpAny (model X.prog X.w) X.A (assign target X.env u) (fun _ s'=>∃σ' H',Inv X pins σ' H' s'∧Q σ' H') X.xe s
noncomputable def PGs(X:Cx)(ts:List Expr)(t:TGs):Prop:=
 ∀(pins:List (Addr×Obj))(s:Shared)(σ:St)(H:Hp)(vs:List V)(us:List Value)(Q:St→Hp→Prop),Inv X pins σ H s→e9 vs us→t vs σ H Q →
  wpAny (model X.prog X.w) X.A (assignInOrder ((assignEach ts X.env).map (·.2)) us) (fun _ s'=>∃σ' H',Inv X pins σ' H' s'∧Q σ' H') X.xe s
section
variable {X:Cx} {pos:Pos}
noncomputable def a67(i:Nat):TG:=fun v σ H Q=>Q (σ.set i (some v)) H
theorem bj7{i:Nat}{x:Str}(hN:X.N.Nodup)(hi:X.N[i]?=some x)(hx:Loc X.env.scope x)(hf:X.fn x=true∨X.env.scope.names.lookup x=some .local:=by first|exact .inl rfl|exact .inr rfl|assumption):PG X (.Name x pos) (a67 i):=by
 intro pins s σ H v u Q I r h;exact wpAny_assign_Name (ae7 I hN hi hx r (fun s' I'=>⟨_,H,I',h⟩) hf)
noncomputable def br8:TGs:=fun vs σ H Q=>vs=[]∧Q σ H
noncomputable def bq9(t:TG)(u:TGs):TGs:=fun vs σ H Q=>∃v r,vs=v::r∧t v σ H fun σ' H'=>u r σ' H' Q
theorem cc1:PGs X [] br8:=by
 intro pins s σ H vs us Q I r h;obtain⟨e,h⟩:=h;subst e;cases r;exact assignInOrder_nil ⟨σ,H,I,h⟩
theorem b82{e:Expr}{es:List Expr}{t:TG}{u:TGs}(h1:PG X e t)(h2:PGs X es u)
  (hs:(assignEach (e::es) X.env).map (·.2)=assign e X.env::(assignEach es X.env).map (·.2):=by rfl):PGs X (e::es) (bq9 t u):=by
 intro pins s σ H vs us Q I r h;obtain⟨v,vr,e1,h⟩:=h;subst e1;cases r with
 |cons r rr=>
  rw[hs];refine assignInOrder_cons (thn (h1 pins s σ H _ _ _ I r h) fun _ s1⟨σ1,H1,I1,q1⟩=>?_);exact h2 pins s1 σ1 H1 _ _ Q I1 rr q1
noncomputable def c41(K:W.Frag)(n:Nat)(t:TGs):TG:=fun v σ H Q=>∃a xs,v=.ref a∧SqT K H a xs∧xs.length=n∧t xs σ H Q
theorem cu6{es:List Expr}{k:Nat}{t:TGs}{n:Nat}(hc:X.calm=true)(h:PGs X es t)
  (hn:(assignEach es X.env).length=n:=by rfl) (hst:(assignEach es X.env).findIdx? (·.1)=none:=by rfl):PG X (.Tuple es k pos) (c41 X.K n t):=by
 intro pins s σ H v u Q I r hw;obtain⟨a,xs,e1,hq,hl,hw⟩:=hw;subst e1;cases r;obtain⟨its,rv,ht,hz⟩:=I.tuple hq;refine assign_Tuple_tuple (I.ok.hd hc) ht (by simp[hn,←hl,rv.length]) hst fun h' hx=>?_;have I1:Inv X pins σ H {s with heap:=h'}:=I.kept (t':=s.toks) fun b o e=>hx b o (Nat.ne_of_lt (Heap.lt_size e)) e;exact h pins _ σ H xs _ Q I1 (by simpa using rv) hw
noncomputable def c46(te:TE)(g:TG):TS:=fun D σ H=>te σ H fun x H1=>g x σ H1 D.nx
theorem cp6{i:Nat}{x:Str}{e:Expr}{te:TE}{pos':Pos}(hN:X.N.Nodup)(hi:X.N[i]?=some x)(hx:Loc X.env.scope x)(he:PE X e te)(hs:swapsWith e (some (.Name x pos')) pos.line X.env=pure false:=by rfl)(hf:X.fn x=true∨X.env.scope.names.lookup x=some .local:=by first|exact .inl rfl|exact .inr rfl|assumption):
  PS X (.Assign [.Name x pos'] e pos) (c46 te (a67 i)):=by
 intro pins s σ H D I h;refine wpAny_Assign_Name (thn (he pins s σ H _ I h) fun v s1⟨y,H1,I1,r1,q1⟩=>?_) hs;exact ae7 I1 hN hi hx r1 (fun s2 I2=>⟨_,H1,I2,q1⟩) hf
end
section
variable {X:Cx} {pos:Pos}
noncomputable def cq2(c:TT)(tb:TS):TS:=fun D σ H=>∃W:Nat→St→Hp→Prop,(∃m,W m σ H)∧∀m σ H,W m σ H →
 c σ H fun b H1=>if b=true then ∃N:St→Hp→Prop,(∀σ' H',N σ' H'→∃m',m'<m∧W m' σ' H')∧tb {D with nx:=N,ct:=N,bk:=D.nx} σ H1 else D.nx σ H1
theorem ca1{c:Expr}{body:List Stmt}{tc:TT}{tb:TS}(hp:PassesOwn (model X.prog X.w) X.A X.env X.xe)(hc:PT X c tc)(hb:PSs X body tb):PS X (.While c body [] pos) (cq2 tc tb):=by
 intro pins s σ H D I h;obtain⟨W,⟨m0,w0⟩,turn⟩:=h;refine wpAny_While (codeAny_whileLoop (fun n s'=>∃σ' H',Inv X pins σ' H' s'∧W n σ' H') ?_ m0 ⟨σ,H,I,w0⟩);rintro n s1 ⟨σ1,H1,I1,w1⟩;refine wpAny_passesOwn hp (thn (hc pins s1 σ1 H1 _ I1 (turn n σ1 H1 w1)) fun b s2⟨H2,I2,q2⟩=>?_);cases b with
 |true=>
  obtain⟨N,hN,q2⟩:=q2;rw[if_pos rfl];refine wpAny_passesOwn hp (thn (hb pins s2 σ1 H2 _ I2 q2) fun f s3 q3=>?_);cases f with
  |next=>
   obtain⟨σ3,H3,I3,n3⟩:=q3;obtain⟨m',hm,w3⟩:=hN σ3 H3 n3;exact⟨m',hm,σ3,H3,I3,w3⟩
  |cont=>
   obtain⟨σ3,H3,I3,n3⟩:=q3;obtain⟨m',hm,w3⟩:=hN σ3 H3 n3;exact⟨m',hm,σ3,H3,I3,w3⟩
  |brk=>exact q3
  |ret v=>exact q3
 |false=>
  rw[if_neg Bool.false_ne_true];exact wpAny_execs_nil ⟨σ1,H2,I2,q2⟩
end
structure It where
 go:Nat→Hp→Prop
 yld:Nat→Hp→V→Hp→Prop
 stop:Nat→Hp→Prop
noncomputable def y9(X:Cx)(pins:List (Addr×Obj))(H:Hp)(b:Addr):Prop:=
 H b=none∧b≠X.env.locals∧b∉X.fs∧(b∈X.ex∨X.s₀.heap.objs.size≤b)∧(∀x c,X.env.cells.lookup x=some c→c≠b)∧∀p∈X.pn++pins,p.1≠b
theorem Inv.fpOk{X:Cx}{pins:List (Addr×Obj)}{σ:St}{H H':Hp}{s:Shared}{b:Addr}(I:Inv X pins σ H s)(hb:s.heap.objs.size≤b)(hn:H' b=none):y9 X pins H' b:=by
 refine⟨hn,Nat.ne_of_gt (Nat.lt_of_lt_of_le I.lt hb),I.nofs hb,.inr (Nat.le_trans I.sz hb),fun x c e z=>?_,fun p hp z=>?_⟩
 ·obtain⟨v,q⟩:=I.cell x c e;exact absurd (Nat.lt_of_lt_of_le q.lt (by rw[z];exact hb)) (Nat.lt_irrefl _)
 ·exact absurd (Nat.lt_of_lt_of_le (Heap.lt_size (I.pin p hp).1) (by rw[z];exact hb)) (Nat.lt_irrefl _)
structure Turn(P:Program)(w:World)(K:W.Frag)(tg:Expr)(J:It)(fp:List Addr)(it:Addr)(tn:Nat→Heap→Prop):Prop where
 mem:it∈fp
 obj:∀i h,tn i h→∀b∈fp,∃o,h.get? b=some o∧∀v,o.data≠.cell v
 keep:∀i h h',tn i h→(∀b∈fp,∀o,h.get? b=some o→h'.get? b=some o)→tn i h'
 item:∀(X:Cx),X.prog=P→X.w=w→X.K=K→X.calm=true→∀(i:Nat)(pins:List (Addr×Obj))(s:Shared)(σ:St)(H:Hp)(E:Value→Shared→Prop),Inv X pins σ H s→(∀b∈fp,y9 X pins H b)→tn i s.heap→J.go i H →
  wpAny (model P w) X.A (pyNext (.ref it)) (fun r s1=>∃u,r=some u ∧
   wpAny (model P w) X.A (letOwnedTupleGo tg (.ref it) u) (fun _ s2=>∃x H',Inv X pins σ H' s2∧i6 x u∧J.yld i H x H'∧tn (i+1) s2.heap∧∀b∈fp,H' b=none) E s1) E s
 done:∀(X:Cx),X.prog=P→X.w=w→X.K=K→X.calm=true→∀(i:Nat)(pins:List (Addr×Obj))(s:Shared)(σ:St)(H:Hp)(E:Value→Shared→Prop),Inv X pins σ H s→(∀b∈fp,y9 X pins H b)→tn i s.heap→J.stop i H →
  wpAny (model P w) X.A (pyNext (.ref it)) (fun r s1=>r=none∧Inv X pins σ H s1) E s
 self:∀(A:Around)(i:Nat)(s:Shared)(Q:Value→Shared→Prop)(E:Value→Shared→Prop),tn i s.heap→Q (.ref it) s→wpAny (model P w) A (pyIter (.ref it)) Q E s
noncomputable abbrev TI:=St→Hp→(It→Hp→Prop)→Prop
noncomputable def PIE(X:Cx)(pins:List (Addr×Obj))(σ:St)(tg:Expr)(R:It→Hp→Prop)(itv:Value)(s2:Shared):Prop:=
 ∃(it:Addr)(fp:List Addr)(tn:Nat→Heap→Prop)(J:It)(H':Hp),itv=.ref it∧Inv X pins σ H' s2∧Turn X.prog X.w X.K tg J fp it tn∧tn 0 s2.heap∧(∀b∈fp,y9 X pins H' b)∧R J H'
noncomputable def PI(X:Cx)(tg iter:Expr)(wi:TI):Prop:=
 ∀(pins:List (Addr×Obj))(s:Shared)(σ:St)(H:Hp)(R:It→Hp→Prop),Inv X pins σ H s→wi σ H R →
  wpAny (model X.prog X.w) X.A (eval iter X.env) (fun v s1=>wpAny (model X.prog X.w) X.A (pyIter v) (PIE X pins σ tg R) X.xe s1) X.xe s
theorem ao3{M:Model}{A:Around}{E:Value→Shared→Prop}{s:Shared}{tg:Expr}{it:Addr}{u:Value}{o:Obj}{n:String}{vs:Array Value}{Q:Unit→Shared→Prop}(ho:s.heap.get? it=some o)(hc:o.cls=.type n)(hd:o.data=.fields vs)
  (hn:["enumerate","zip","dict_itemiterator","dict_reverseitemiterator","odict_iterator","itertools.zip_longest","itertools.pairwise"].contains n=false) (hQ:Q () s):wpAny M A (letOwnedTupleGo tg (.ref it) u) Q E s:=by
 unfold letOwnedTupleGo;cases tg<;>first
  |exact wpAny_pure hQ
  | (cases u <;> first
    |exact wpAny_pure hQ
    | (refine wpAny_bind (wpAny_load ho ?_)
       rw[hc,hd];show wpAny M A (if(["enumerate","zip","dict_itemiterator","dict_reverseitemiterator","odict_iterator","itertools.zip_longest","itertools.pairwise"].contains n&&vs[0]?==some (rawInt _))=true then _ else _) Q E s;rw[if_neg (by intro h;rw[hn,Bool.false_and]at h;cases h)];exact wpAny_pure hQ))
noncomputable def Itl(K:W.Frag)(a:Addr):It:=
 ⟨fun i H=>∃xs x,SqL K H a xs∧xs[i]?=some x,fun i H x H'=>H'=H∧∀xs,SqL K H a xs→xs[i]?=some x,fun i H=>∃xs,SqL K H a xs∧xs.length≤i⟩
noncomputable def Itt(K:W.Frag)(a:Addr):It:=
 ⟨fun i H=>∃xs x,SqT K H a xs∧xs[i]?=some x,fun i H x H'=>H'=H∧∀xs,SqT K H a xs→xs[i]?=some x,fun i H=>∃xs,SqT K H a xs∧xs.length≤i⟩
noncomputable def Itr(lo:Int)(n:Nat):It:=⟨fun i _=>i<n,fun i H x H'=>H'=H∧x=.int (lo+i),fun i _=>n≤i⟩
theorem b22{P:Program}{w:World}{K:W.Frag}{tg:Expr}(a it:Addr):Turn P w K tg (Itl K a) [it] it (fun i h=>h.IsListIter it a i) where
 mem:=by simp
 obj:=fun i h st b hb=>by
  have e:b=it:=by simpa using hb
  subst e;obtain⟨o,e,c,d⟩:=st;exact⟨o,e,fun v z=>by rw[d]at z;cases z⟩
 keep:=fun i h h' st k=>st.at fun o e=>k it (by simp) o e
 item:=by
  intro X hP hw hK hc i pins s σ H E I hf st hg;subst hP hw hK;obtain⟨xs,x,hq,hx⟩:=hg;obtain⟨its,rv,p,hz⟩:=I.list hq;obtain⟨u,hu,ru⟩:=rv.get hx;obtain⟨f0,f1,f2,f3,f4,f5⟩:=hf it (by simp);refine wpAny_pyNext_list_item st p.isList (x:=u) (by simpa using hu) fun h' st' sb=>?_;have I1:Inv X pins σ H {s with heap:=h'}:=I.turned (t':=s.toks) (fun b o hb e=>(sb.2 b hb).trans e) f0 f1 f3 f4 f5;obtain⟨o,e,c,d⟩:=id st';exact⟨u,rfl,ao3 (s:={s with heap:=h'}) e c d (by decide) ⟨x,H,I1,ru,⟨rfl,fun ys hy=>by rw[I.list_inj hy hq];exact hx⟩,st',fun b hb=>(hf b hb).1⟩⟩
 done:=by
  intro X hP hw hK hc i pins s σ H E I hf st hg;subst hP hw hK;obtain⟨xs,hq,hx⟩:=hg;obtain⟨its,rv,p,hz⟩:=I.list hq;obtain⟨f0,f1,f2,f3,f4,f5⟩:=hf it (by simp);have hl:=rv.length;exact wpAny_pyNext_list_end (I.ok.hd hc) st p.isList (by simp;omega) fun h' eb=>⟨rfl,I.turned (t':=s.toks) (fun b o hb e=>eb b o hb e) f0 f1 f3 f4 f5⟩
 self:=fun _ _ _ _ _ st h=>wpAny_pyIter_listiter st h
theorem bz6{P:Program}{w:World}{K:W.Frag}{tg:Expr}(a it:Addr):Turn P w K tg (Itt K a) [it] it (fun i h=>h.IsTupleIter it a i) where
 mem:=by simp
 obj:=fun i h st b hb=>by
  have e:b=it:=by simpa using hb
  subst e;obtain⟨o,e,c,d⟩:=st;exact⟨o,e,fun v z=>by rw[d]at z;cases z⟩
 keep:=fun i h h' st k=>st.at fun o e=>k it (by simp) o e
 item:=by
  intro X hP hw hK hc i pins s σ H E I hf st hg;subst hP hw hK;obtain⟨xs,x,hq,hx⟩:=hg;obtain⟨its,rv,p,hz⟩:=I.tuple hq;obtain⟨u,hu,ru⟩:=rv.get hx;obtain⟨f0,f1,f2,f3,f4,f5⟩:=hf it (by simp);refine wpAny_pyNext_tuple_item st (show s.heap.IsTuple a its.toArray from p) (x:=u) (by simpa using hu) fun h' st' sb=>?_;have I1:Inv X pins σ H {s with heap:=h'}:=I.turned (t':=s.toks) (fun b o hb e=>(sb.2 b hb).trans e) f0 f1 f3 f4 f5;obtain⟨o,e,c,d⟩:=id st';exact⟨u,rfl,ao3 (s:={s with heap:=h'}) e c d (by decide) ⟨x,H,I1,ru,⟨rfl,fun ys hy=>by rw[I.tuple_inj hy hq];exact hx⟩,st',fun b hb=>(hf b hb).1⟩⟩
 done:=by
  intro X hP hw hK hc i pins s σ H E I hf st hg;subst hP hw hK;obtain⟨xs,hq,hx⟩:=hg;obtain⟨its,rv,p,hz⟩:=I.tuple hq;obtain⟨f0,f1,f2,f3,f4,f5⟩:=hf it (by simp);have hl:=rv.length;exact wpAny_pyNext_tuple_end (I.ok.hd hc) st (show s.heap.IsTuple a its.toArray from p) (by simp;omega) fun h' eb=>⟨rfl,I.turned (t':=s.toks) (fun b o hb e=>eb b o hb e) f0 f1 f3 f4 f5⟩
 self:=fun _ _ _ _ _ st h=>wpAny_pyIter_tupleiter st h
theorem bz9{P:Program}{w:World}{K:W.Frag}{tg:Expr}(it:Addr)(lo:Int)(n:Nat):Turn P w K tg (Itr lo n) [it] it (fun i h=>IsRangeIter h it (lo+(i:Nat)*1) ((n:Int)-(i:Nat)) 1) where
 mem:=by simp
 obj:=fun i h st b hb=>by
  have e:b=it:=by simpa using hb
  subst e;exact⟨_,st,fun v z=>by
   have z':Data.fields _=Data.cell v:=z;cases z'⟩
 keep:=fun i h h' st k=>k it (by simp) _ st
 item:=by
  intro X hP hw hK hc i pins s σ H E I hf st hg;subst hP hw hK;obtain⟨f0,f1,f2,f3,f4,f5⟩:=hf it (by simp);have W:=Walks.range (prog:=X.prog) (w:=X.w) (I.ok.hd hc) it lo 1 n;refine W.item i s _ _ hg st fun v h' tk hv st' kk=>?_;obtain⟨t,rfl⟩:=hv;have I1:Inv X pins σ H {s with heap:=h',toks:=tk}:=I.turned (fun b o hb e=>kk b o (by simpa using hb) e) f0 f1 f3 f4 f5;refine⟨_,rfl,ao3 (s:={s with heap:=h',toks:=tk}) (n:="range_iterator") st' rfl rfl (by decide) ⟨.int (lo+i),H,I1,⟨t,?_⟩,⟨rfl,rfl⟩,st',fun b hb=>(hf b hb).1⟩⟩;rw[Int.mul_one]
 done:=by
  intro X hP hw hK hc i pins s σ H E I hf st hg;subst hP hw hK;obtain⟨f0,f1,f2,f3,f4,f5⟩:=hf it (by simp);exact wpAny_pyNext_range_end (I.ok.hd hc) st (by have:n≤i:=hg;omega) fun h' eb=>⟨rfl,I.turned (t':=s.toks) (fun b o hb e=>eb b o hb e) f0 f1 f3 f4 f5⟩
 self:=fun _ _ _ _ _ st h=>wpAny_pyIter_rangeiter st h
end L2
namespace L2
open PySem PySem.Spec PyProof.Rows
section
variable {X:Cx} {tg:Expr}
theorem bd9{pins:List (Addr×Obj)}{σ:St}{H:Hp}{s:Shared}{R:It→Hp→Prop}{E:Value→Shared→Prop}{lo hi:Int}{t u v:Tok}{tk:Nat}(I:Inv X pins σ H s)(h1:-(2^62)≤lo)(h2:lo<2^62)(h3:-(2^62)≤hi)(h4:hi<2^62)
  (q:R (Itr lo (hi-lo).toNat) H):wpAny (model X.prog X.w) X.A (pyIter (.ref s.heap.objs.size)) (PIE X pins σ tg R) E {s with heap:=s.heap.push {cls:=.type "range",data:=.fields #[.int lo t,.int hi u,.int 1 v]},toks:=tk}:=by
 refine wpAny_pyIter_range (IsRange.new ..) (small_one h1 h2 h3 h4) ?_;have I1:Inv X pins σ H {s with heap:=s.heap.push {cls:=.type "range",data:=.fields #[.int lo t,.int hi u,.int 1 v]},toks:=tk}:=I.kept fun b o e=>Heap.get?_push_of_some _ e;refine⟨(s.heap.push {cls:=.type "range",data:=.fields #[.int lo t,.int hi u,.int 1 v]}).objs.size,[(s.heap.push {cls:=.type "range",data:=.fields #[.int lo t,.int hi u,.int 1 v]}).objs.size],_,_,H,rfl,
  I1.kept (t':=tk) fun b o e=>Heap.get?_push_of_some _ e,bz9 _ lo (hi-lo).toNat,?_,fun b hb=>?_,q⟩
 ·have e1:lo+((0:Nat):Int)*1=lo:=by simp
  have e2:(((hi-lo).toNat:Nat):Int)-((0:Nat):Int)=Builtin.Range.rangeSize lo hi 1:=by rw[rangeSize_one];split<;>omega
  show IsRangeIter _ _ (lo+((0:Nat):Int)*1) ((((hi-lo).toNat:Nat):Int)-((0:Nat):Int)) 1;rw[e1,e2];exact Heap.get?_push_size _ rfl
 ·have e:b=(s.heap.push {cls:=.type "range",data:=.fields #[.int lo t,.int hi u,.int 1 v]}).objs.size:=by simpa using hb
  subst e;exact I1.fpOk (Nat.le_refl _) (I1.hok.fresh (Nat.le_refl _))
noncomputable def cx4(ta:TA):TI:=fun σ H R=>ta σ H fun vs H1=>∃j:Int,vs=[.int j]∧-(2^62)≤j∧j<2^62∧R (Itr 0 j.toNat) H1
noncomputable def cw7(ta:TA):TI:=fun σ H R=>ta σ H fun vs H1=>∃i j:Int,vs=[.int i,.int j]∧(-(2^62)≤i∧i<2^62∧-(2^62)≤j∧j<2^62)∧R (Itr i (j-i).toNat) H1
theorem b21{a:Expr}{ta:TA}{p pos:Pos}(hg:Gl X "range")(hm:X.mg "range"=none)(ha:PA X [a] ta)(hs:starEach [a] X.env=[(false,eval a X.env)]:=by rfl):PI X tg (.Call (.Name "range" p) [a] [] pos) (cx4 ta):=by
 intro pins s σ H R I h;refine Call_ (G5 I hg hm boot_range (PyProof.Rows.callWith_type1 (thn (ha pos pins s σ H _ I h) fun us s1⟨vs,H1,I1,r1,q1⟩=>?_) hs rfl));obtain⟨j,e,q1,q2,q⟩:=q1;subst e;cases r1 with
 |cons r rr=>
  cases rr;obtain⟨t,rfl⟩:=r;exact call_range_1 (bd9 I1 (by omega) (by omega) q1 q2 (by simpa using q))
theorem b19{a b:Expr}{ta:TA}{p pos:Pos}(hg:Gl X "range")(hm:X.mg "range"=none)(ha:PA X [a,b] ta)(hs:starEach [a,b] X.env=[(false,eval a X.env),(false,eval b X.env)]:=by rfl)(hs2:starEach [b] X.env=[(false,eval b X.env)]:=by rfl):
  PI X tg (.Call (.Name "range" p) [a,b] [] pos) (cw7 ta):=by
 intro pins s σ H R I h;refine Call_ (G5 I hg hm boot_range (PyProof.Rows.callWith_type1 (thn (ha pos pins s σ H _ I h) fun us s1⟨vs,H1,I1,r1,q1⟩=>?_) (by rw[hs,hs2]) (by rw[hs2];rfl)));obtain⟨i,j,e,⟨q1,q2,q3,q4⟩,q⟩:=q1;subst e;cases r1 with
 |cons r rr=>
  cases rr with
  |cons r' rr=>
   cases rr;obtain⟨t,rfl⟩:=r;obtain⟨t',rfl⟩:=r';exact call_range_2 (bd9 I1 q1 q2 q3 q4 q)
noncomputable def c29(wi:TI)(g:TG)(tb:TS):TS:=fun D σ H=>wi σ H fun J H1=>∃W:Nat→Nat→St→Hp→Prop,(∃m,W 0 m σ H1)∧∀i m σ H,W i m σ H →
 (J.stop i H∧D.nx σ H)∨(J.go i H∧∃N:St→Hp→Prop,(∀σ' H',N σ' H'→∃m',m'<m∧W (i+1) m' σ' H')∧∀x H',J.yld i H x H'→g x σ H' fun σ2 H2=>tb {D with nx:=N,ct:=N,bk:=D.nx} σ2 H2)
noncomputable def X3(fp:List Addr)(h:Heap):List (Addr×Obj):=fp.filterMap fun b=>(h.get? b).map fun o=>(b,o)
theorem ad2{fp:List Addr}{h:Heap}{b:Addr}{o:Obj}(hb:b∈fp)(e:h.get? b=some o):(b,o)∈X3 fp h:=List.mem_filterMap.mpr ⟨b,hb,by rw[e];rfl⟩
theorem b03{fp:List Addr}{h:Heap}{p:Addr×Obj}(hp:p∈X3 fp h):p.1∈fp∧h.get? p.1=some p.2:=by
 obtain⟨b,hb,e⟩:=List.mem_filterMap.mp hp;cases q:h.get? b with
 |none=>rw[q]at e;cases e
 |some o=>
  rw[q]at e;have e':(b,o)=p:=Option.some.inj e;subst e';exact⟨hb,q⟩
theorem Inv.pinned{pins:List (Addr×Obj)}{σ:St}{H:Hp}{s:Shared}{fp:List Addr}(I:Inv X pins σ H s)(hf:∀b∈fp,y9 X pins H b)(ho:∀b∈fp,∃o,s.heap.get? b=some o∧∀v,o.data≠.cell v):Inv X (pins++X3 fp s.heap) σ H s:=
 I.pins_of fun p hp=>(List.mem_append.mp hp).elim (fun z=>I.pin p (List.mem_append_right _ z)) fun z=>by
  obtain⟨hb,e⟩:=b03 z;obtain⟨f0,f1,f2,_⟩:=hf p.1 hb;obtain⟨o,e',d⟩:=ho p.1 hb;rw[e]at e';cases e';exact⟨e,f0,f1,f2,d⟩
theorem Inv.unpinned{pins pl:List (Addr×Obj)}{σ:St}{H:Hp}{s:Shared}(I:Inv X (pins++pl) σ H s):Inv X pins σ H s:=I.pins_of fun p hp=>I.pin p (List.mem_append_right _ (List.mem_append_left _ hp))
theorem ck1{iter:Expr}{body:List Stmt}{wi:TI}{g:TG}{tb:TS}{pos:Pos}(hp:PassesOwn (model X.prog X.w) X.A X.env X.xe)(hc:X.calm=true)(hi:PI X tg iter wi)(hg:PG X tg g)(hb:PSs X body tb)
  (hs:∀x,foldedSetIterable iter X.env x=pure x:=by intro _;rfl):PS X (.For tg iter body [] pos) (c29 wi g tb):=by
 intro pins s σ H D I h;refine wpAny_For (thn (hi pins s σ H _ I h) fun v s1 h1=>thn h1 fun itv s2 h2=>?_) hs;obtain⟨it,fp,tn,J,H2,e,I2,T,st2,f2,W,⟨m0,w0⟩,turn⟩:=h2;subst e;have stat:∀{H':Hp},(∀b∈fp,H' b=none)→∀b∈fp,y9 X pins H' b:=fun hn b hb=>⟨hn b hb,(f2 b hb).2⟩;refine codeAny_forLoop_any (fun n s'=>∃i σ' H',Inv X pins σ' H' s'∧tn i s'.heap∧(∀b∈fp,H' b=none)∧W i n σ' H') ?_ m0 ⟨0,σ,H2,I2,st2,fun b hb=>(f2 b hb).1,w0⟩;rintro n s3 ⟨i,σ3,H3,I3,st3,fr3,w3⟩
 rcases turn i n σ3 H3 w3 with⟨stop,qn⟩|⟨go,N,hN,step⟩
 ·refine wpAny_passesOwn hp (thn (T.done X rfl rfl rfl hc i pins s3 σ3 H3 X.xe I3 (stat fr3) st3 stop) fun r s4⟨hr,I4⟩=>?_);subst hr;exact wpAny_execs_nil ⟨σ3,H3,I4,qn⟩
 ·refine wpAny_passesOwn hp (thn (T.item X rfl rfl rfl hc i pins s3 σ3 H3 X.xe I3 (stat fr3) st3 go) fun r s4⟨u,hr,h4⟩=>?_);subst hr;refine wpAny_passesOwn hp (thn h4 fun _ s5⟨x,H5,I5,r5,y5,st5,fr5⟩=>?_);have I5':=I5.pinned (stat fr5) (T.obj _ _ st5);refine wpAny_passesOwn hp (thn (hg _ s5 σ3 H5 x u _ I5' r5 (step x H5 y5)) fun _ s6⟨σ6,H6,I6,q6⟩=>?_);refine wpAny_passesOwn hp (thn (hb _ s6 σ6 H6 _ I6 q6) fun f s7 q7=>?_);have again:∀{σ7:St}{H7:Hp},Inv X (pins++X3 fp s5.heap) σ7 H7 s7→N σ7 H7→∃m,m<n∧∃i σ' H',Inv X pins σ' H' s7∧tn i s7.heap∧(∀b∈fp,H' b=none)∧W i m σ' H':=fun{σ7 H7}I7 n7=>by
   obtain⟨m',hm,w7⟩:=hN σ7 H7 n7;refine⟨m',hm,i+1,σ7,H7,I7.unpinned,T.keep _ _ _ st5 fun b hb o e=>(I7.pin (b,o) (List.mem_append_right _ (List.mem_append_right _ (ad2 hb e)))).1,fun b hb=>?_,w7⟩;obtain⟨o,e,d⟩:=T.obj _ _ st5 b hb;exact(I7.pin (b,o) (List.mem_append_right _ (List.mem_append_right _ (ad2 hb e)))).2.1
  cases f with
  |next=>obtain⟨σ7,H7,I7,n7⟩:=q7;exact again I7 n7
  |cont=>obtain⟨σ7,H7,I7,n7⟩:=q7;exact again I7 n7
  |brk=>obtain⟨σ7,H7,I7,q7⟩:=q7;exact⟨σ7,H7,I7.unpinned,q7⟩
  |ret v=>obtain⟨x7,σ7,H7,I7,r7,q7⟩:=q7;exact⟨x7,σ7,H7,I7.unpinned,r7,q7⟩
end
end L2
namespace L2
open PySem PySem.Spec PyProof.Rows
noncomputable abbrev R2:=V→V→Hp→VK→Prop
noncomputable def OpR(X:Cx)(f:Value→Value→Sem Value)(r:R2):Prop:=
 ∀(pins:List (Addr×Obj))(s:Shared)(σ:St)(H:Hp)(x y:V)(v u:Value)(Q:VK),Inv X pins σ H s→i6 x v→i6 y u→r x y H Q →
  wpAny (model X.prog X.w) X.A (f v u) (EP X pins σ Q) X.xe s
noncomputable def UnR(X:Cx)(f:Value→Sem Value)(r:V→Hp→VK→Prop):Prop:=
 ∀(pins:List (Addr×Obj))(s:Shared)(σ:St)(H:Hp)(x:V)(v:Value)(Q:VK),Inv X pins σ H s→i6 x v→r x H Q →
  wpAny (model X.prog X.w) X.A (f v) (EP X pins σ Q) X.xe s
noncomputable def E5(X:Cx)(f:Value)(r:List V→Hp→VK→Prop):Prop:=
 ∀(pins:List (Addr×Obj))(s:Shared)(σ:St)(H:Hp)(xs:List V)(us:List Value)(Q:VK),Inv X pins σ H s→e9 xs us→r xs H Q →
  wpAny (model X.prog X.w) X.A (call f us) (EP X pins σ Q) X.xe s
noncomputable def tOp(r:R2)(ta tb:TE):TE:=fun σ H Q=>ta σ H fun x H1=>tb σ H1 fun y H2=>r x y H2 Q
noncomputable def tUn(r:V→Hp→VK→Prop)(ta:TE):TE:=fun σ H Q=>ta σ H fun x H1=>r x H1 Q
noncomputable def rI(C:Int→Int→Prop)(g:Int→Int→V):R2:=fun x y H Q=>∃i j,x=.int i∧y=.int j∧C i j∧Q (g i j) H
noncomputable def rI0(g:Int→Int→V):R2:=fun x y H Q=>∃i j,x=.int i∧y=.int j∧Q (g i j) H
noncomputable def rU(g:Int→V):V→Hp→VK→Prop:=fun x H Q=>∃i,x=.int i∧Q (g i) H
section
variable {X:Cx} {a b c:Expr} {ta tb tc:TE} {pos:Pos}
theorem a72(ha:PE X a ta)(hb:PE X b tb){pins:List (Addr×Obj)}{s:Shared}{σ:St}{H:Hp}{R:V→V→Hp→Prop}(I:Inv X pins σ H s)
  (h:ta σ H fun x H1=>tb σ H1 fun y H2=>R x y H2) {Q:Value→Shared→Prop} {f:Value→Value→Sem Value}
  (hf:∀v u s2 x y H2,Inv X pins σ H2 s2→i6 x v→i6 y u→R x y H2→wpAny (model X.prog X.w) X.A (f v u) Q X.xe s2) :
  wpAny (model X.prog X.w) X.A (eval a X.env) (fun v s₁=>wpAny (model X.prog X.w) X.A (eval b X.env) (fun u s₂=>wpAny (model X.prog X.w) X.A (f v u) Q X.xe s₂) X.xe s₁) X.xe s:=by
 refine thn (ha pins s σ H _ I h) fun v s1⟨x,H1,I1,r1,q1⟩=>?_;refine thn (hb pins s1 σ H1 _ I1 q1) fun u s2⟨y,H2,I2,r2,q2⟩=>?_;exact hf v u s2 x y H2 I2 r1 r2 q2
theorem Q1{op:Operator}{r:R2}(ho:OpR X (binaryOp op) r)(ha:PE X a ta)(hb:PE X b tb):PE X (.BinOp a op b pos) (tOp r ta tb):=by
 intro pins s σ H Q I h;exact wpAny_BinOp (a72 ha hb I h fun v u s2 x y H2 I2 rx ry q=>ho pins s2 σ H2 x y v u Q I2 rx ry q)
theorem cz4{op:UnaryOp}{r:V→Hp→VK→Prop}(ho:UnR X (unaryOp op) r)(ha:PE X a ta):PE X (.UnaryOp op a pos) (tUn r ta):=by
 intro pins s σ H Q I h;exact UnaryOp_ (thn (ha pins s σ H _ I h) fun v s1⟨x,H1,I1,r1,q1⟩=>ho pins s1 σ H1 x v Q I1 r1 q1)
theorem opI{f:Value→Value→Sem Value}{C:Int→Int→Prop}{g:Int→Int→Int}
  (rule:∀(i j:Int)(t u:Tok)(s:Shared)(Q:Value→Shared→Prop)(E:Value→Shared→Prop),C i j→Q (.int (g i j) s.toks) {s with toks:=s.toks+1}→wpAny (model X.prog X.w) X.A (f (.int i t) (.int j u)) Q E s) :
  OpR X f (rI C fun i j=>.int (g i j)):=by
 intro pins s σ H x y v u Q I rx ry h;obtain⟨i,j,rfl,rfl,hc,q⟩:=h;obtain⟨t,rfl⟩:=rx;obtain⟨t',rfl⟩:=ry;exact rule i j t t' s _ _ hc ⟨.int (g i j),H,I.tok _,⟨_,rfl⟩,q⟩
theorem bs2{f:Value→Value→Sem Value}{g:Int→Int→Int}
  (rule:∀(i j:Int)(t u:Tok)(s:Shared)(Q:Value→Shared→Prop)(E:Value→Shared→Prop),Q (.int (g i j) s.toks) {s with toks:=s.toks+1}→wpAny (model X.prog X.w) X.A (f (.int i t) (.int j u)) Q E s) :
  OpR X f (rI0 fun i j=>.int (g i j)):=by
 intro pins s σ H x y v u Q I rx ry h;obtain⟨i,j,rfl,rfl,q⟩:=h;obtain⟨t,rfl⟩:=rx;obtain⟨t',rfl⟩:=ry;exact rule i j t t' s _ _ ⟨.int (g i j),H,I.tok _,⟨_,rfl⟩,q⟩
theorem at6{f:Value→Value→Sem Value}{g:Int→Int→Bool}
  (rule:∀(i j:Int)(t u:Tok)(s:Shared)(Q:Value→Shared→Prop)(E:Value→Shared→Prop),Q (.bool (g i j)) s→wpAny (model X.prog X.w) X.A (f (.int i t) (.int j u)) Q E s) :
  OpR X f (rI0 fun i j=>.bl (g i j)):=by
 intro pins s σ H x y v u Q I rx ry h;obtain⟨i,j,rfl,rfl,q⟩:=h;obtain⟨t,rfl⟩:=rx;obtain⟨t',rfl⟩:=ry;exact rule i j t t' s _ _ ⟨.bl (g i j),H,I,rfl,q⟩
noncomputable def a75(i j:Int):Prop:=0≤j∧j≤1000000∧i.natAbs<2^64
noncomputable def a77(i j:Int):Prop:=(-(2^64)<i∧i<2^64)∨(-(2^64)<j∧j<2^64)
theorem a77.ok{i j:Int}(h:a77 i j):IntMulOk i j:=by
 rcases h with⟨h1,h2⟩|⟨h1,h2⟩
 ·exact .of_left (intBits_le_64 h1 h2)
 ·exact .of_right (intBits_le_64 h1 h2)
theorem cq3:OpR X (binaryOp .Add) (rI0 fun i j=>.int (i+j)):=bs2 fun _ _ _ _ _ _ _ q=>add_int q
theorem cs9:OpR X (binaryOp .Sub) (rI0 fun i j=>.int (i-j)):=bs2 fun _ _ _ _ _ _ _ q=>sub_int q
theorem cv0:OpR X (binaryOp .Mod) (rI (fun _ j=>0<j) fun i j=>.int (i % j)):=opI fun i j _ _ _ _ _ hc q=>by
 have h1:(0:Int)<j:=hc;exact mod_int' (by omega) (by rw[Int.fmod_eq_emod_of_nonneg i (by omega)];exact q)
theorem co1:OpR X (binaryOp .Pow) (rI a75 fun i j=>.int (i^j.toNat)):=opI fun _ _ _ _ _ _ _ hc q=>pow_int_small hc.1 hc.2.1 hc.2.2 q
theorem unI{f:Value→Sem Value}{g:Int→Int}
  (rule:∀(i:Int)(t:Tok)(s:Shared)(Q:Value→Shared→Prop)(E:Value→Shared→Prop),Q (.int (g i) s.toks) {s with toks:=s.toks+1}→wpAny (model X.prog X.w) X.A (f (.int i t)) Q E s) :
  UnR X f (rU fun i=>.int (g i)):=by
 intro pins s σ H x v Q I rx h;obtain⟨i,rfl,q⟩:=h;obtain⟨t,rfl⟩:=rx;exact rule i t s _ _ ⟨.int (g i),H,I.tok _,⟨_,rfl⟩,q⟩
theorem cp4:UnR X (unaryOp .USub) (rU fun i=>.int (-i)):=unI fun _ _ _ _ _ q=>neg_int q
end
section
variable {X:Cx} {a b c:Expr} {ta tb tc:TE} {pos:Pos}
theorem cx5:OpR X (compareOp .Lt) (rI0 fun i j=>.bl (decide (i<j))):=at6 fun _ _ _ _ _ _ _ q=>lt_int q
theorem cw8:OpR X (compareOp .LtE) (rI0 fun i j=>.bl (decide (i≤j))):=at6 fun _ _ _ _ _ _ _ q=>le_int q
theorem cx8:OpR X (compareOp .Gt) (rI0 fun i j=>.bl (decide (j<i))):=at6 fun _ _ _ _ _ _ _ q=>gt_int q
theorem cy2:OpR X (compareOp .GtE) (rI0 fun i j=>.bl (decide (j≤i))):=at6 fun _ _ _ _ _ _ _ q=>ge_int q
theorem OpR.or{f:Value→Value→Sem Value}{r r':R2}(h:OpR X f r)(h':OpR X f r'):OpR X f (fun x y H Q=>r x y H Q∨r' x y H Q):=by
 intro pins s σ H x y v u Q I rx ry q
 rcases q with q|q
 ·exact h pins s σ H x y v u Q I rx ry q
 ·exact h' pins s σ H x y v u Q I rx ry q
theorem c63(b:Expr){op:CmpOp}(h:op≠.In:=by decide)(h2:op≠.NotIn:=by decide):behindInMarks op b=false:=by
 have e1:(op==CmpOp.In)=false:=by cases op<;>first|rfl|exact absurd rfl h
 have e2:(op==CmpOp.NotIn)=false:=by cases op<;>first|rfl|exact absurd rfl h2
 cases b<;>simp[behindInMarks,e1,e2]
theorem az6{op:CmpOp}{r:R2}(ho:OpR X (compareOp op) r)(ha:PE X a ta)(hb:PE X b tb)(hm:behindInMarks op b=false):PE X (.Compare a [op] [b] pos) (tOp r ta tb):=by
 intro pins s σ H Q I h;exact wpAny_Compare1 (a72 ha hb I h fun v u s2 x y H2 I2 rx ry q=>ho pins s2 σ H2 x y v u Q I2 rx ry q) hm
noncomputable def c00(t:TE):TT:=fun σ H Q=>t σ H fun x H'=>∃k,x=.bl k∧Q k H'
theorem a29{op:CmpOp}{r:R2}(ho:OpR X (compareOp op) r)(ha:PE X a ta)(hb:PE X b tb)(hm:behindInMarks op b=false):PT X (.Compare a [op] [b] pos) (c00 (tOp r ta tb)):=by
 intro pins s σ H Q I h;refine wpAny_isTrue_Compare1 (thn (ha pins s σ H _ I h) fun v s1⟨x,H1,I1,r1,q1⟩=>thn (hb pins s1 σ H1 _ I1 q1) fun u s2⟨y,H2,I2,r2,q2⟩=>
  thn (ho pins s2 σ H2 x y v u _ I2 r1 r2 q2) fun c s3⟨z,H3,I3,r3,k,e,q3⟩=>?_) hm
 subst e;cases r3;exact wpAny_truthy_bool ⟨H3,I3,q3⟩
theorem ak2:(sizeLine:Nat)<2^63:=by rw[sizeLine_eq];decide
theorem Y9{x:V}{us:List Value}(r:e9 [x] us):∃u,us=[u]∧i6 x u:=by
 cases r with
 |cons r1 r2=>cases r2;exact⟨_,rfl,r1⟩
theorem cw0{x y:V}{us:List Value}(r:e9 [x,y] us):∃u w',us=[u,w']∧i6 x u∧i6 y w':=by
 cases r with
 |cons r1 r2=>
  cases r2 with
  |cons r3 r4=>cases r4;exact⟨_,_,rfl,r1,r3⟩
theorem b25(hc:X.calm=true):E5 X (.builtin "min") (fun xs H Q=>∃i j,xs=[.int i,.int j]∧Q (.int (if j<i then j else i)) H):=by
 intro pins s σ H xs us Q I r h;obtain⟨i,j,rfl,q⟩:=h;obtain⟨u,w',rfl,⟨t,rfl⟩,⟨t',rfl⟩⟩:=cw0 r;refine min_two_ints (I.ok.hd hc) fun h' tk k=>⟨_,H,I.kept k,?_,q⟩
 by_cases hj:j<i
 ·rw[if_pos hj,if_pos hj];exact⟨_,rfl⟩
 ·rw[if_neg hj,if_neg hj];exact⟨_,rfl⟩
theorem b09:E5 X (.type "int") (fun xs H Q=>(∃i,xs=[.int i]∧Q (.int i) H)∨∃k,xs=[.bl k]∧Q (.int (if k then 1 else 0)) H):=by
 intro pins s σ H xs us Q I r h
 rcases h with⟨i,rfl,q⟩|⟨k,rfl,q⟩
 ·obtain⟨u,rfl,t,rfl⟩:=Y9 r;exact call_int_int ⟨.int i,H,I,⟨_,rfl⟩,q⟩
 ·obtain⟨u,rfl,r1⟩:=Y9 r;cases r1;exact call_int_bool ⟨.int (if k then 1 else 0),H,I.tok _,⟨_,rfl⟩,q⟩
end
end L2
namespace L2
open PySem PySem.Spec PyProof.Rows
structure ObjM(h:Heap)(x dx C:Addr)(mA:Str→Option Value):Prop where
 obj:h.get? x=some (W.instObj C dx)
 ns:h.Ns1 dx mA
 ne:dx≠x
theorem b20{h:Heap}{dx:Addr}{mA:Str→Option Value}(n:h.Ns1 dx mA):∃od,h.get? dx=some od∧∀name,W.lookIn name od=some (mA name):=by
 obtain⟨o,es,ep,ho,hd,hk,_,hm⟩:=n;refine⟨o,ho,fun name=>?_⟩;have e:=hm name;unfold nsFind findBy at e;rw[←Array.find?_toList]at e;unfold W.lookIn;rw[hd];dsimp only
 split
 ·rename_i y q;rw[q]at e;exact congrArg some e
 ·rename_i q;rw[q]at e;have a:es.toList.any (·.refKey)=false:=by
   rw[List.any_eq_false];intro y hy;obtain⟨z,t,hkey⟩:=hk y (Array.mem_toList_iff.mp hy);simp[DictEntry.refKey,hkey]
  have a':¬es.toList.any (·.refKey)=true:=by rw[a];exact Bool.false_ne_true
  rw[if_neg a'];exact congrArg some e
theorem ObjM.look{h:Heap}{x dx C:Addr}{mA:Str→Option Value}(I:ObjM h x dx C mA):∃od,W.InstAt h x (W.instObj C dx) C (some od)∧∀name,W.lookIn name od=some (mA name):=
 let⟨od,ho,hl⟩:=b20 I.ns
 ⟨od,⟨I.obj,rfl,rfl,ho⟩,hl⟩
section
variable {prog:Program} {w:World} {A:Around} {E:Value→Shared→Prop} {s:Shared} {K:W.Frag} {x dx C f:Addr} {mA:Str→Option Value} {name:Str} {v:Value}
theorem cj5{expr:Bool}{Q:Value→Shared→Prop}(X:K.In s.heap)(I:ObjM s.heap x dx C mA)(hg:W.plainGet K C name=true)(hh:W.hasDictIn K C=true)
  (ha:W.findIn K (.ref C) name=some none) (hv:mA name=some v) (hv':W.handedIn v=true) (h:Q v {s with toks:=s.toks+1}) :
  wpAny (model prog w) A (getAttr (.ref x) name expr) Q E s:=by
 obtain⟨od,J,hl⟩:=I.look;exact W.get_value X J (W.plainGet_of hg).1 (W.findObj_own hh ha rfl (by rw[hl,hv])) hv' h
theorem b79{pl:Sem Bool}{Q:Value×List Value→Shared→Prop}(X:K.In s.heap)(I:ObjM s.heap x dx C mA)(hg:W.plainGet K C name=true)
  (hf:W.findIn K (.ref C) name=some (some (.ref f))) (ht:W.isFn K (.ref f)=true) (hv:mA name=none) (h:Q (.ref f,[.ref x]) s) :
  wpAny (model prog w) A (getMethod (.ref x) name pl) Q E s:=by
 obtain⟨od,J,hl⟩:=I.look;exact W.method_fn X J (W.plainGet_of hg).1 (W.plainGet_of hg).2 hf (beq_iff_eq.mp ht) (by show(W.lookIn name od).map (·.isSome)=some false;rw[hl,hv];rfl) h
theorem ca8{ns:List Str}{Q:Unit→Shared→Prop}(X:K.In s.heap)(I:ObjM s.heap x dx C mA)
  (hs:W.findIn K (.ref C) "__setattr__"=some (some (.builtin "object.__setattr__"))) (hp:W.plainOver K C=true) (ht:W.takerIn K C name=some none) (hh:W.hasDictIn K C=true)
  (hw:PySem.Within mA ns) (hsz:ns.length≤sizeLine)
  (h:∀h',ObjM h' x dx C (fun y=>if y=name then some v else mA y)→Heap.SameBut dx s.heap h'→Q () {s with heap:=h',toks:=s.toks+2}) :
  wpAny (model prog w) A (setAttr (.ref x) name v) Q E s:=by
 obtain⟨od,J,hl⟩:=I.look;refine W.set_plain X J hs (W.osa_open (s:={s with toks:=s.toks+1}) (r:=none) X J hp ht fun b=>?_);obtain⟨cd,hc,hd'⟩:=W.any_some hh;have hx:s.heap.get? x=some ⟨.ref C,some dx,.plain,#[]⟩:=I.obj;refine wpAny_bind (wpAny_pure (wpAny_bind (wpAny_bind (wpAny_loadPart hx (wpAny_bind (W.Looks.here (s:={s with toks:=s.toks+1}) (W.looks_clsIn X hc) ?_))))));rw[hd'];refine wpAny_pure (a:=some dx) (wpAny_bind (wpAny_pure (wpAny_bind ?_)));refine wpAny_nsSet1 (s:={s with toks:=s.toks+1}) I.ns fun h' hn2 hs2=>?_;obtain⟨oD,esD,epD,hoD,hdD,hcD⟩:=hn2.count (PySem.Within.cons name v hw);refine wpAny_bind (wpAny_lookBehind hoD (by rw[hdD];exact pastItsLine_dict (Nat.le_trans hcD (by rw[List.length_cons];omega))) ?_);exact wpAny_pure (h _ ⟨(hs2.2 _ (Ne.symm I.ne)).trans I.obj,hn2,I.ne⟩ hs2)
theorem b88{R:Result→Shared→Prop}{vs:List Value}{kw:List (Str×Value)}(X:K.In s.heap)(hm:W.makesIn K C=true)
  (hi:W.findIn K (.ref C) "__init__"=some (some (.ref f))) (hf:W.typeIn K (.ref f)=some (.type "function"))
  (h:codeAny (model prog w) (A.under (.builtin "type.__call__" ⟨.ref C::vs,kw⟩)) (.call (.ref f) ⟨.ref (s.heap.objs.size+1)::vs,kw⟩) (W.InitBack (s.heap.objs.size+1) R)
   {s with heap:=(s.heap.push W.emptyDict).push (W.instObj C s.heap.objs.size)}) :
  codeAny (model prog w) A (.call (.ref C) ⟨vs,kw⟩) R s:=by
 obtain⟨hh,g,d,t,os⟩:=s;exact W.make_core (W.makes_of X hm) (W.looks_findIn X hi) (fun self=>W.bind_fn X self hf) (.inl rfl) h
end
noncomputable def v9(f:Str)(v:V):List (Str×V)→List (Str×V)
 |[]=>[(f,v)]
 |(g,x)::r=>if g=f then(g,v)::r else(g,x)::v9 f v r
theorem a84(f g:Str)(v:V):∀fs:List (Str×V),(v9 f v fs).lookup g=if g=f then some v else fs.lookup g
 |[]=>by
  show List.lookup g [(f,v)]=_
  by_cases h:g=f
  ·have hb:(g==f)=true:=beq_iff_eq.mpr h;simp only[List.lookup,hb,if_pos h]
  ·have hb:(g==f)=false:=beq_eq_false_iff_ne.mpr h;simp only[List.lookup,hb,if_neg h]
 |(k,x)::r=>by
  have ih:=a84 f g v r;rw[show v9 f v ((k,x)::r)=(if k=f then(k,v)::r else(k,x)::v9 f v r) from rfl]
  by_cases hk:k=f
  ·rw[if_pos hk]
   by_cases h:g=k
   ·have hb:(g==k)=true:=beq_iff_eq.mpr h;simp only[List.lookup,hb,if_pos (h.trans hk)]
   ·have hb:(g==k)=false:=beq_eq_false_iff_ne.mpr h;simp only[List.lookup,hb,if_neg (fun e:g=f=>h (e.trans hk.symm))]
  ·rw[if_neg hk]
   by_cases h:g=k
   ·have hb:(g==k)=true:=beq_iff_eq.mpr h;simp only[List.lookup,hb,if_neg (fun e:g=f=>hk (h.symm.trans e))]
   ·have hb:(g==k)=false:=beq_eq_false_iff_ne.mpr h;simp only[List.lookup,hb];exact ih
theorem ax6(f:Str)(v:V):∀fs:List (Str×V),f∈(v9 f v fs).map (·.1)∧∀g,g∈fs.map (·.1)→g∈(v9 f v fs).map (·.1)
 |[]=>⟨by simp[v9],fun g h=>by simp at h⟩
 |(k,x)::r=>by
  obtain⟨i1,i2⟩:=ax6 f v r;rw[show v9 f v ((k,x)::r)=(if k=f then(k,v)::r else(k,x)::v9 f v r) from rfl]
  by_cases hk:k=f
  ·rw[if_pos hk];subst hk;exact⟨by simp,fun g h=>by simpa using h⟩
  ·rw[if_neg hk];refine⟨?_,fun g h=>?_⟩
   ·rw[List.map_cons];exact List.mem_cons_of_mem _ i1
   ·rw[List.map_cons]at h ⊢
    rcases List.mem_cons.mp h with e|e
    ·exact List.mem_cons.mpr (.inl e)
    ·exact List.mem_cons_of_mem _ (i2 g e)
theorem a83(f:Str)(v:V):∀fs:List (Str×V),(v9 f v fs).length≤fs.length+1
 |[]=>by simp[v9]
 |(k,x)::r=>by
  have ih:=a83 f v r;rw[show v9 f v ((k,x)::r)=(if k=f then(k,v)::r else(k,x)::v9 f v r) from rfl]
  by_cases hk:k=f
  ·rw[if_pos hk,List.length_cons,List.length_cons];omega
  ·rw[if_neg hk,List.length_cons,List.length_cons];omega
theorem z0.some_of{v:V}{o:Option Value}(r:z0 (some v) o):∃u,o=some u∧i6 v u:=by
 cases o with
 |none=>exact(show False from r).elim
 |some u=>exact⟨u,rfl,r⟩
theorem z0.none_of{o:Option Value}(r:z0 none o):o=none:=by
 cases o with
 |none=>rfl
 |some u=>exact(show False from r).elim
theorem b31{v:V}{u:Value}(r:i6 v u):W.handedIn u=true:=by
 cases v with
 |non=>cases(show u=Value.none from r);rfl
 |bl b=>cases(show u=Value.bool b from r);rfl
 |int i=>obtain⟨t,e⟩:=(show ∃t,u=Value.int i t from r);cases e;rfl
 |str x=>obtain⟨t,e⟩:=(show ∃t,u=Value.str x t from r);cases e;rfl
 |byt b=>obtain⟨t,e⟩:=(show ∃t,u=Value.bytes b t from r);cases e;rfl
 |flt b=>obtain⟨t,e⟩:=(show ∃t,u=Value.float b t from r);cases e;rfl
 |ref a=>cases(show u=Value.ref a from r);rfl
 |ty n=>cases(show u=Value.type n from r);rfl
section
variable {P:Program} {w:World} {H H':Hp} {h h':Heap} {a C dx:Addr} {fs fs':List (Str×V)}
theorem ah4(hok:HOk P w H h)(e:H a=some (.ins C dx fs)):∃mA,ObjM h a dx C mA∧(∀f,z0 (fs.lookup f) (mA f))∧PySem.Within mA (fs.map (·.1))∧fs.length≤1000∧H dx=some (.own a):=by
 obtain⟨d,z,ne,ob,mA,n,r,q⟩:=(show m8 P w H h a (.ins C dx fs) from hok a _ e);exact⟨mA,⟨ob,n,ne⟩,r,q,z,d⟩
end
structure Cls(K:W.Frag)(C:Addr):Prop where
 pg:W.plainGet K C Str.empty=true
 hd:W.hasDictIn K C=true
 po:W.plainOver K C=true
 sa:W.findIn K (.ref C) "__setattr__"=some (some (.builtin "object.__setattr__"))
theorem Cls.get{K:W.Frag}{C:Addr}(c:Cls K C)(f:Str):W.plainGet K C f=true:=c.pg
noncomputable def F4(K:W.Frag)(C:Addr)(f:Str):Prop:=W.findIn K (.ref C) f=some none
theorem F4.taker{K:W.Frag}{C:Addr}{f:Str}(n:F4 K C f):W.takerIn K C f=some none:=by
 unfold W.takerIn;rw[show W.findIn K (.ref C) f=some none from n];rfl
structure Meth(K:W.Frag)(C:Addr)(m:Str)(f:Addr):Prop where
 at_:W.findIn K (.ref C) m=some (some (.ref f))
 fn:W.isFn K (.ref f)=true
 kp:W.keepIn K (.ref f)=true
section
variable {X:Cx} {pins:List (Addr×Obj)} {σ:St} {H:Hp} {s:Shared} {a C dx:Addr} {fs:List (Str×V)} {f:Str} {v:V} {A:Around} {E:Value→Shared→Prop}
theorem by6{b:Bool}{Q:Value→Shared→Prop}(I:Inv X pins σ H s)(e:H a=some (.ins C dx fs))(c:Cls X.K C)(n:F4 X.K C f)(l:fs.lookup f=some v)
  (h:∀u s',Inv X pins σ H s'→i6 v u→Q u s'):wpAny (model X.prog X.w) A (getAttr (.ref a) f b) Q E s:=by
 obtain⟨mA,O,r,_,_,_⟩:=ah4 I.hok e;obtain⟨u,hu,ru⟩:=z0.some_of (v:=v) (o:=mA f) (by rw[←l];exact r f);exact cj5 I.kIn O (c.get f) c.hd n hu (b31 ru) (h u _ (I.tok _) ru)
theorem ba9{m:Str}{g:Addr}{pl:Sem Bool}{Q:Value×List Value→Shared→Prop}(I:Inv X pins σ H s)(e:H a=some (.ins C dx fs))(c:Cls X.K C)(k:Meth X.K C m g)(l:fs.lookup m=none)
  (h:Q (.ref g,[.ref a]) s):wpAny (model X.prog X.w) A (getMethod (.ref a) m pl) Q E s:=by
 obtain⟨mA,O,r,_,_,_⟩:=ah4 I.hok e;have hn:mA m=none:=z0.none_of (by rw[←l];exact r m);exact b79 I.kIn O (c.get m) k.at_ k.fn hn h
theorem by9{y:V}{u:Value}{Q:Unit→Shared→Prop}(I:Inv X pins σ H s)(e:H a=some (.ins C dx fs))(c:Cls X.K C)(n:F4 X.K C f)(hl:fs.length<1000)(ry:i6 y u)
  (h:∀s',Inv X pins σ (upd H a (.ins C dx (v9 f y fs))) s'→Q () s'):wpAny (model X.prog X.w) A (setAttr (.ref a) f u) Q E s:=by
 obtain⟨mA,O,r,wi,_,ho⟩:=ah4 I.hok e;have hz:(fs.map (·.1)).length≤sizeLine:=by rw[List.length_map,sizeLine_eq];omega
 refine ca8 I.kIn O c.sa c.po n.taker c.hd wi hz fun h' O' sb=>h _ ?_;have hd:∃o,h'.get? dx=some o:=let⟨o,_,_,e',_⟩:=O'.ns;⟨o,e'⟩;refine I.write (x:=a) (e:=dx) (by rw[e];exact True.intro) (.inr ho) (fun b q hb z=>(sb.2 b hb).trans z) hd ?_;refine⟨by rw[i8 O.ne];exact ho,?_,O.ne,O'.obj,_,O'.ns,fun g=>?_,fun g hg=>?_⟩
 ·have:=a83 f y fs;omega
 ·show z0 ((v9 f y fs).lookup g) (if g=f then some u else mA g);rw[a84]
  by_cases q:g=f
  ·rw[if_pos q,if_pos q];exact ry
  ·rw[if_neg q,if_neg q];exact r g
 ·by_cases q:g=f
  ·rw[q];exact(ax6 f y fs).1
  ·refine(ax6 f y fs).2 g (wi g fun z=>hg ?_);show(if g=f then some u else mA g)=none;rw[if_neg q];exact z
theorem Inv.made(I:Inv X pins σ H s):Inv X pins σ (upd (upd H s.heap.objs.size (.own (s.heap.objs.size+1))) (s.heap.objs.size+1) (.ins C s.heap.objs.size []))
  {s with heap:=(s.heap.push W.emptyDict).push (W.instObj C s.heap.objs.size)}:=by
 have e1:(s.heap.push W.emptyDict).get? s.heap.objs.size=some W.emptyDict:=Heap.get?_push_size s.heap rfl;have e2:((s.heap.push W.emptyDict).push (W.instObj C s.heap.objs.size)).get? (s.heap.objs.size+1)=some (W.instObj C s.heap.objs.size):=by
  have:=Heap.get?_push_size (s.heap.push W.emptyDict) (o:=W.instObj C s.heap.objs.size) rfl
  rwa [Heap.size_push]at this
 have e3:(s.heap.push W.emptyDict).Ns s.heap.objs.size (fun _=>none):=⟨W.emptyDict,#[],_,e1,rfl,(fun e he=>absurd he (by simp)),fun _=>rfl⟩;have I1:=I.laid (a:=s.heap.objs.size) (o:=.own (s.heap.objs.size+1)) (h':=s.heap.push W.emptyDict) (t':=s.toks) (fun b u q=>Heap.get?_push_of_some _ q) (Nat.le_refl _) ⟨_,e1⟩;refine I1.laid (a:=s.heap.objs.size+1) (o:=.ins C s.heap.objs.size []) (t':=s.toks) (fun b u q=>Heap.get?_push_of_some _ q) (Nat.le_of_eq (Heap.size_push _ _)) ?_;have ne:s.heap.objs.size≠s.heap.objs.size+1:=Nat.ne_of_lt (Nat.lt_succ_self _);refine⟨by rw[i8 ne,o8],Nat.zero_le _,ne,e2,fun _=>none,(Heap.Ns1.of_empty e3).at fun o q=>Heap.get?_push_of_some _ q,fun _=>True.intro,fun y hy=>absurd rfl hy⟩
theorem ci1{prog:Program}{w:World}{env:Env}{e:Expr}{f:Str}{pos:Pos}{s:Shared}{Q:Value→Shared→Prop}(hb:attributeBase e f env (eval e env)=eval e env)
  (h:wpAny (model prog w) A (eval e env) (fun o s₁=>wpAny (model prog w) A (getAttr o f true) Q E s₁) E s):wpAny (model prog w) A (eval (.Attribute e f pos) env) Q E s:=
 Attribute_any_ h (by rw[arm_eval_Attribute,hb])
end
noncomputable def c30(K:W.Frag)(ta:TE)(f:Str):TE:=fun σ H Q=>ta σ H fun x H1=>∃a C dx fs v,x=.ref a∧H1 a=some (.ins C dx fs)∧Cls K C∧F4 K C f∧fs.lookup f=some v∧Q v H1
noncomputable def c07(K:W.Frag)(ta tv:TE)(f:Str):TS:=fun D σ H=>tv σ H fun y H1=>ta σ H1 fun x H2=>∃a C dx fs,x=.ref a∧H2 a=some (.ins C dx fs)∧Cls K C∧F4 K C f∧fs.length<1000 ∧
 D.nx σ (upd H2 a (.ins C dx (v9 f y fs)))
section
variable {X:Cx} {o e value:Expr} {f:Str} {pos pos' tpos:Pos} {ta tv:TE}
theorem cj9(he:PE X e ta)(hb:attributeBase e f X.env (eval e X.env)=eval e X.env):PE X (.Attribute e f pos) (c30 X.K ta f):=by
 intro pins s σ H Q I h;refine ci1 hb (thn (he pins s σ H _ I h) fun u s1⟨x,H1,I1,rx,a,C,dx,fs,v,ex,ea,c,n,l,q⟩=>?_);subst ex;obtain rfl:u=Value.ref a:=rx;exact by6 I1 ea c n l fun u' s2 I2 ru=>⟨v,H1,I2,ru,q⟩
theorem cp5(ha:PE X o ta)(hv:PE X value tv)(hs:swapsWith value (some (.Attribute o f pos')) pos.line X.env=pure false):PS X (.Assign [.Attribute o f pos'] value pos) (c07 X.K ta tv f):=by
 intro pins s σ H D I h;refine plainObj_wpAny_Assign_Attribute (thn (hv pins s σ H _ I h) fun u s1⟨y,H1,I1,ry,q⟩=>thn (ha pins s1 σ H1 _ I1 q) fun ov s2⟨x,H2,I2,rx,a,C,dx,fs,ex,ea,c,n,l,q2⟩=>?_) hs;subst ex;obtain rfl:ov=Value.ref a:=rx;exact by9 I2 ea c n l ry fun s3 I3=>⟨σ,_,I3,q2⟩
end
section
variable {X:Cx} {pins:List (Addr×Obj)} {σ:St} {H:Hp} {s:Shared} {A:Around} {E:Value→Shared→Prop} {Q:Value→Shared→Prop} {c:Value} {b:Bool}
inductive TyOf(K:W.Frag)(H:Hp):V→Value→Prop where
 |non:TyOf K H .non (.type "NoneType")
 |bl (x:Bool):TyOf K H (.bl x) (.type "bool")
 |int (i:Int):TyOf K H (.int i) (.type "int")
 |str (x:Str):TyOf K H (.str x) (.type "str")
 |flt (x:UInt64):TyOf K H (.flt x) (.type "float")
 |lst {a:Addr} {xs:List V} (e:H a=some (.lst xs)):TyOf K H (.ref a) (.type "list")
 |frz {a:Addr} {o:Obj} {xs:List V} (e:H a=some (.frz o (.lst xs))):TyOf K H (.ref a) (.type "list")
 |tup {a:Addr} {xs:List V} (e:H a=some (.tup xs)):TyOf K H (.ref a) (.type "tuple")
 |dK {a:Addr} {kvs:List (Key×V)} (e:H a=some (.dK kvs)):TyOf K H (.ref a) (.type "dict")
 |dT {a:Addr} {kvs:List (PyData×V)} (e:H a=some (.dT kvs)):TyOf K H (.ref a) (.type "dict")
 |ins {a C dx:Addr} {fs:List (Str×V)} (e:H a=some (.ins C dx fs)) (cl:Cls K C) (ha:W.findIn K (.ref C) "__class__"=some (some (.builtin "object.__class__")))
   (hn:W.specialIn K (.builtin "object.__class__") "__get__"=some (some (.builtin "getset_descriptor.__get__"))) (htk:W.takesIn K (.builtin "object.__class__")=some true)
   (hm:W.mroIn K C (.type "object")=some true):TyOf K H (.ref a) (.ref C)
theorem bb1{x:V}{u t:Value}(I:Inv X pins σ H s)(rx:i6 x u)(ty:TyOf X.K H x t)(e:W.kitOne X.K t c=some b)(h:∀tk,Q (.bool b) {s with toks:=tk}):
  wpAny (model X.prog X.w) A (call (.builtin "isinstance") [u,c]) Q E s:=by
 cases ty with
 |non=>cases(show u=Value.none from rx);exact W.kia_one W.kitx_none I.kIn True.intro e (fun z=>nomatch z) h
 |bl y=>cases(show u=Value.bool y from rx);exact W.kia_one W.kitx_bool I.kIn True.intro e (fun z=>nomatch z) h
 |int i=>obtain⟨t,q⟩:=(show ∃t,u=Value.int i t from rx);cases q;exact W.kia_one W.kitx_int I.kIn True.intro e (fun z=>nomatch z) h
 |str y=>obtain⟨t,q⟩:=(show ∃t,u=Value.str y t from rx);cases q;exact W.kia_one W.kitx_str I.kIn True.intro e (fun z=>nomatch z) h
 |flt y=>obtain⟨t,q⟩:=(show ∃t,u=Value.float y t from rx);cases q;exact W.kia_one W.kitx_float I.kIn True.intro e (fun z=>nomatch z) h
 |@lst a xs ea=>
  cases(show u=Value.ref a from rx);obtain⟨_,_,n,_,h1⟩:=(show m8 X.prog X.w H s.heap a (.lst xs) from I.hok a _ ea);exact W.kia_one W.kitx_list I.kIn ⟨_,h1,rfl⟩ e (fun z=>nomatch z) h
 |@frz a ob xs ea=>
  cases(show u=Value.ref a from rx);obtain⟨_,_,_,n,_,h1⟩:=(show m8 X.prog X.w H s.heap a (.frz ob (.lst xs)) from I.hok a _ ea);exact W.kia_one W.kitx_list I.kIn ⟨_,h1,rfl⟩ e (fun z=>nomatch z) h
 |@tup a xs ea=>
  cases(show u=Value.ref a from rx);obtain⟨_,_,_,p⟩:=(show m8 X.prog X.w H s.heap a (.tup xs) from I.hok a _ ea);obtain⟨o,h1,h2,_⟩:=p;exact W.kia_one W.kitx_tuple I.kIn ⟨o,h1,h2⟩ e (fun z=>nomatch z) h
 |@dK a kvs ea=>
  cases(show u=Value.ref a from rx);obtain⟨_,_,vs,_,p⟩:=(show m8 X.prog X.w H s.heap a (.dK kvs) from I.hok a _ ea);obtain⟨o,es,ep,h1,h2,_⟩:=p;exact W.kia_one W.kitx_dict I.kIn ⟨o,h1,h2.1⟩ e (fun z=>nomatch z) h
 |@dT a kvs ea=>
  cases(show u=Value.ref a from rx);obtain⟨_,_,xs,_,o,es,ep,h1,h2,_⟩:=(show m8 X.prog X.w H s.heap a (.dT kvs) from I.hok a _ ea);exact W.kia_one W.kitx_dict I.kIn ⟨o,h1,h2.1⟩ e (fun z=>nomatch z) h
 |@ins a C dx fs ea cl ha hn htk hm=>
  cases(show u=Value.ref a from rx);obtain⟨mA,O,_⟩:=ah4 I.hok ea;obtain⟨od,J,_⟩:=O.look;exact W.kia_one (W.kitx_own (cl.get _) cl.hd ha hn htk hm) I.kIn J e (fun z=>nomatch z) h
end
end L2
namespace L2
open PySem PySem.Spec PyProof.Rows
structure Room(k:Nat)(A:Around):Prop where
 hd:A.handled=none
 dp:A.depth+3*k+5<recursionLimit
 un:A.units+16*k+200<cLine
theorem Room.deeper{k:Nat}{A:Around}(r:Room (k+1) A)(env:Env):Room k (A.deeper env):=
 ⟨r.hd,by have:=r.dp;show A.depth+1+3*k+5<_;omega,by have:=r.un;show A.units+3+16*k+200<_;omega⟩
theorem bx9{A:Around}{C:Addr}{us:List Value}{kw:List (Str×Value)}:(A.under (.builtin "type.__call__" ⟨.ref C::us,kw⟩)).depth=A.depth+1:=by
 first|rfl|simp[Around.under,Code.weight,Code.isCreation,Code.isGuard,Code.isCaller,Code.frames,Code.isFrame,guardIds]
theorem bz5{A:Around}{C:Addr}{us:List Value}{kw:List (Str×Value)}:(A.under (.builtin "type.__call__" ⟨.ref C::us,kw⟩)).units=A.units+1:=by
 first|rfl|simp[Around.under,Code.cUnits,Code.frames,Code.isFrame]
theorem Room.make{k:Nat}{A:Around}(r:Room (k+1) A)(C:Addr)(us:List Value)(kw:List (Str×Value)):Room k (A.under (.builtin "type.__call__" ⟨.ref C::us,kw⟩)):=
 ⟨r.hd,by have:=r.dp;rw[bx9];omega,by have:=r.un;rw[bz5];omega⟩
theorem Room.depth{k:Nat}{A:Around}(r:Room k A):A.depth<recursionLimit:=by have:=r.dp;omega
noncomputable def a71:TA:=fun _ H Q=>Q [] H
noncomputable def a62(ta:TE)(tr:TA):TA:=fun σ H Q=>ta σ H fun x H1=>tr σ H1 fun xs H2=>Q (x::xs) H2
section
variable {X:Cx} {e:Expr} {es:List Expr} {te:TE} {t:TA} {pos:Pos}
theorem a54:PA X [] a71:=fun _ _ _ _ H Q I h=>Calls.spliced_nil ⟨[],H,I,.nil,h⟩
theorem X0(ha:PE X e te)(hr:PA X es t)(hs:starEach (e::es) X.env=(false,eval e X.env)::starEach es X.env:=by rfl):PA X (e::es) (a62 te t):=by
 intro pos pins s σ H Q I h;rw[hs];show wpAny _ _ (spliced ((false,eval e X.env)::backTo pos (starEach es X.env))) _ _ s;refine Calls.spliced_cons (thn (ha pins s σ H _ I h) fun u s1⟨x,H1,I1,r1,q1⟩=>?_);exact thn (hr pos pins s1 σ H1 _ I1 q1) fun us s2⟨xs,H2,I2,r2,q2⟩=>⟨x::xs,H2,I2,.cons r1 r2,q2⟩
noncomputable def c42(t:TA):TE:=fun σ H Q=>t σ H fun xs H1=>xs.length≤sizeLine∧∀p,H1 p=none→Q (.ref p) (upd H1 p (.tup xs))
noncomputable def c39(t:TA):TE:=fun σ H Q=>t σ H fun xs H1=>xs.length≤sizeLine∧∀p,H1 p=none→Q (.ref p) (upd H1 p (.lst xs))
theorem co6{x1}(h:PA X es t):PE X (.Tuple es x1 pos) (c42 t):=by
 intro pins s σ H Q I hq;refine wpAny_Tuple_spliced (thn (h pos pins s σ H _ I hq) fun us s1⟨xs,H1,I1,r,z,q⟩=>⟨by rw[←r.length];exact z,?_⟩);have hf:H1 s1.heap.objs.size=none:=I1.hok.fresh (Nat.le_refl _);refine⟨.ref s1.heap.objs.size,upd H1 s1.heap.objs.size (.tup xs),I1.laid (t':=s1.toks) (fun b u e=>Heap.get?_push_of_some _ e) (Nat.le_refl _) ?_,rfl,q _ hf⟩;exact⟨z,us,r,D2.new _ _⟩
theorem cu0(h:PA X es t):PE X (.List es pos) (c39 t):=by
 intro pins s σ H Q I hq;refine wpAny_List_spliced (thn (h pos pins s σ H _ I hq) fun us s1⟨xs,H1,I1,r,z,q⟩=>⟨by rw[←r.length];exact z,?_⟩);have hf:H1 s1.heap.objs.size=none:=I1.hok.fresh (Nat.le_refl _);refine⟨.ref s1.heap.objs.size,upd H1 s1.heap.objs.size (.lst xs),I1.laid (t':=s1.toks) (fun b u e=>Heap.get?_push_of_some _ e) (Nat.le_refl _) ?_,rfl,q _ hf⟩;exact⟨z,us,0,r,Heap.get?_push_size _ rfl⟩
end
noncomputable abbrev Sp:=List V→Hp→VK→XK→Prop
noncomputable abbrev CXT:=List Env→Hp→Shared→XK→Value→Shared→Prop
structure Env0(P:Program)(w:World)(K:W.Frag)(mg:Str→Option Value)(base:Heap)(A:Around)(outer:List Env)(s:Shared)(H:Hp):Prop where
 frames:A.frames=some outer
 mod:Mod K mg base
 bs:∀b o,base.get? b=some o→s.heap.get? b=some o∧H b=none
 bsz:base.objs.size≤s.heap.objs.size
 funs:s.heap.FunFrames base outer
 frf:∀b∈frs outer,H b=none
 hok:HOk P w H s.heap
 bare:AllBare s.gens
noncomputable def CE(outer:List Env)(P:Program)(w:World)(H:Hp)(s:Shared)(Q:VK)(u:Value)(s':Shared):Prop:=
 ∃v H',s'.os=s.os∧AllBare s'.gens∧Un (frs outer) [] H H' s.heap s'.heap∧HOk P w H' s'.heap∧i6 v u∧Q v H'
noncomputable def CR(CX:CXT)(outer:List Env)(P:Program)(w:World)(H:Hp)(s:Shared)(Q:VK)(E:XK)(r:Result)(s':Shared):Prop:=
 match r with
 |.ok (.ret u)=>CE outer P w H s Q u s'
 |.ok _=>False
 |.error e=>CX outer H s E e s'
structure FnOk(P:Program)(w:World)(K:W.Frag)(mg:Str→Option Value)(base:Heap)(CX:CXT)(k:Nat)(f:Addr)(fd:FuncData)(ps:List Str)(sp:Sp):Prop where
 len:∀vs H Q E,sp vs H Q E→vs.length=ps.length
 run:∀(A:Around)(outer:List Env)(s:Shared)(H:Hp)(args:Args)(us:List Value)(vs:List V)(Q:VK)(E:XK),Room k A→Env0 P w K mg base A outer s H→BindsTo s fd args (ps.zip us)→e9 vs us→sp vs H Q E →
  codeAny (model P w) A (.call (.ref f) args) (CR CX outer P w H s Q E) s
theorem Env0.make{P:Program}{w:World}{K:W.Frag}{mg:Str→Option Value}{base:Heap}{A:Around}{outer:List Env}{s:Shared}{H:Hp}(e:Env0 P w K mg base A outer s H)(C:Addr)(us:List Value)(kw:List (Str×Value)):
  Env0 P w K mg base (A.under (.builtin "type.__call__" ⟨.ref C::us,kw⟩)) outer s H:=⟨by first|exact e.frames|(simpa[Around.under,Code.envs,Code.isFrame,pushEnvs]using e.frames),e.mod,e.bs,e.bsz,e.funs,e.frf,e.hok,e.bare⟩
section
variable {X:Cx} {pins:List (Addr×Obj)} {σ:St} {H:Hp} {s s':Shared}
theorem Inv.env0(I:Inv X pins σ H s):Env0 X.prog X.w X.K X.mg X.base X.A X.stack s H:=
 ⟨I.ok.frames,I.ok.mod,I.bs,Nat.le_trans I.ok.bsz I.sz,I.stack,I.stkFree,I.hok,I.bare⟩
theorem Inv.after{Q:VK}{u:Value}(I:Inv X pins σ H s)(h:CE X.stack X.prog X.w H s Q u s'):EP X pins σ Q u s':=by
 obtain⟨v,H',os,bare,un,hok,r,q⟩:=h;obtain⟨hh,g,d,t,os'⟩:=s';obtain rfl:os'=s.os:=os;exact⟨v,H',I.call (h':=hh) (g':=g) (d':=d) (t':=t) (ch:=[]) un hok bare (fun b z=>absurd z (by simp)),r,q⟩
end
noncomputable def cz2(sp:Sp)(dvs:List V)(E:XK)(t:TA):TE:=fun σ H Q=>t σ H fun vs H1=>sp (vs++dvs) H1 Q E
noncomputable def br5(C:Addr)(sp:Sp)(dvs:List V)(E:XK)(t:TA):TE:=fun σ H Q=>t σ H fun vs H1=>∀x dx,H1 x=none→H1 dx=none→dx≠x →
 sp (.ref x::(vs++dvs)) (upd (upd H1 dx (.own x)) x (.ins C dx [])) (fun v H2=>v=.non∧Q (.ref x) H2) E
noncomputable def z7(K:W.Frag)(fd:FuncData)(ps:List Str)(ds:List Value):Prop:=
 ∀(s:Shared)(us:List Value),K.In s.heap→(us++ds).length=ps.length→BindsTo s fd ⟨us,[]⟩ (ps.zip (us++ds))
theorem z7.all{K:W.Frag}{fd:FuncData}{ps:List Str}(h:∀us:List Value,us.length=ps.length→bindArgs fd ⟨us,[]⟩=pure (ps.zip us)):z7 K fd ps []:=fun s us _ hl=>by
 rw[List.append_nil]at hl ⊢;exact .of_eq (h us hl)
noncomputable def S9(CX:CXT)(X:Cx)(E:XK):Prop:=∀(pins:List (Addr×Obj))(σ:St)(H:Hp)(s:Shared)(e:Value)(s':Shared),Inv X pins σ H s→CX X.stack H s E e s'→X.xe e s'
section
variable {X:Cx} {CX:CXT} {k:Nat} {f C:Addr} {fd:FuncData} {ps:List Str} {sp:Sp} {dvs:List V} {ds:List Value} {E:XK} {x m:Str} {p pos apos:Pos} {e o:Expr} {es:List Expr} {ta:TE} {t:TA}
theorem Y6{pins:List (Addr×Obj)}{σ:St}{H:Hp}{s:Shared}{Q:VK}{us:List Value}{vs:List V}(F:FnOk X.prog X.w X.K X.mg X.base CX k f fd ps sp)(hr:Room k X.A)(hb:z7 X.K fd ps ds)(hd:e9 dvs ds)(hx:S9 CX X E)
  (I:Inv X pins σ H s) (r:e9 vs us) (h:sp (vs++dvs) H Q E):wpAny (model X.prog X.w) X.A (call (.ref f) us) (EP X pins σ Q) X.xe s:=by
 have r2:e9 (vs++dvs) (us++ds):=r.append hd;have hl:(us++ds).length=ps.length:=by rw[←r2.length];exact F.len _ _ _ _ h
 refine wpAny_call (codeAny_mono (F.run X.A X.stack s H ⟨us,[]⟩ (us++ds) (vs++dvs) Q E hr I.env0 (hb s us I.kIn hl) r2 h) fun r s' hq=>?_);cases r with
 |error e=>exact hx pins σ H s e s' I hq
 |ok fl=>
  cases fl with
  |ret u=>exact I.after hq
  |next=>exact False.elim hq
  |brk=>exact False.elim hq
  |cont=>exact False.elim hq
theorem cb1(F:FnOk X.prog X.w X.K X.mg X.base CX k f fd ps sp)(hr:Room k X.A)(hg:Gl X x)(hm:X.mg x=some (.ref f))(hk:W.keepIn X.K (.ref f)=true)(hb:z7 X.K fd ps ds)(hd:e9 dvs ds)(hx:S9 CX X E)
  (ha:PA X (e::es) t) (hdb:(x==("__debug__":Str))=false:=by decide) (he:starEach (e::es) X.env=(false,eval e X.env)::starEach es X.env:=by rfl) (hpl:(backTo pos (starEach es X.env)).any (·.1)=false:=by rfl) :
  PE X (.Call (.Name x p) (e::es) [] pos) (cz2 sp dvs E t):=by
 intro pins s σ H Q I h;refine wpAny_Call_Name_kw (ag7 I hg hm ?_ hdb);refine W.callWith_K (h₀:=X.base) I.ok.mod.kin hk (thn (ha pos pins s σ H _ I h) fun us s1⟨vs,H1,I1,r,q⟩=>⟨I1.kIn,?_⟩) he hpl;exact Y6 F hr hb hd hx I1 r q
structure Mk(K:W.Frag)(C f:Addr):Prop where
 makes:W.makesIn K C=true
 init:W.findIn K (.ref C) "__init__"=some (some (.ref f))
 fn:W.isFn K (.ref f)=true
 kp:W.keepIn K (.ref C)=true
theorem bg9{pins:List (Addr×Obj)}{σ:St}{H:Hp}{s:Shared}{Q:VK}{us:List Value}{vs:List V}(M:Mk X.K C f)(F:FnOk X.prog X.w X.K X.mg X.base CX k f fd ps sp)(hr:Room (k+1) X.A)(hb:z7 X.K fd ps ds)(hd:e9 dvs ds)
  (hx:S9 CX X E) (I:Inv X pins σ H s) (r:e9 vs us)
  (h:∀x dx,H x=none→H dx=none→dx≠x→sp (.ref x::(vs++dvs)) (upd (upd H dx (.own x)) x (.ins C dx [])) (fun v H2=>v=.non∧Q (.ref x) H2) E) :
  wpAny (model X.prog X.w) X.A (call (.ref C) us) (EP X pins σ Q) X.xe s:=by
 have hq:=h (s.heap.objs.size+1) s.heap.objs.size (I.hok.fresh (Nat.le_succ _)) (I.hok.fresh (Nat.le_refl _)) (Nat.ne_of_lt (Nat.lt_succ_self _));have I2:=Inv.made (C:=C) I;have r2:e9 (V.ref (s.heap.objs.size+1)::(vs++dvs)) (Value.ref (s.heap.objs.size+1)::(us++ds)):=.cons rfl (r.append hd);have hl:(Value.ref (s.heap.objs.size+1)::us++ds).length=ps.length:=by
  have e:=r2.length;rw[F.len _ _ _ _ hq]at e;exact e.symm
 refine wpAny_call (b88 (f:=f) I.kIn M.makes M.init (beq_iff_eq.mp M.fn) (codeAny_mono (F.run _ X.stack _ _ ⟨Value.ref (s.heap.objs.size+1)::us,[]⟩ (Value.ref (s.heap.objs.size+1)::(us++ds)) _ _ E (hr.make C us [])
  (I2.env0.make C us []) (hb _ (Value.ref (s.heap.objs.size+1)::us) I2.kIn hl) r2 hq) fun r s' hq'=>?_))
 cases r with
 |error e=>exact hx pins σ _ _ e s' I2 hq'
 |ok fl=>
  cases fl with
  |ret u=>
   obtain⟨v,H',I3,rv,ev,q3⟩:=I2.after hq';subst ev;exact⟨rv,⟨V.ref (s.heap.objs.size+1),H',I3,rfl,q3⟩⟩
  |next=>exact False.elim hq'
  |brk=>exact False.elim hq'
  |cont=>exact False.elim hq'
theorem cc3(M:Mk X.K C f)(F:FnOk X.prog X.w X.K X.mg X.base CX k f fd ps sp)(hr:Room (k+1) X.A)(hg:Gl X x)(hm:X.mg x=some (.ref C))(hb:z7 X.K fd ps ds)(hd:e9 dvs ds)(hx:S9 CX X E)
  (ha:PA X (e::es) t) (hdb:(x==("__debug__":Str))=false:=by decide) (he:starEach (e::es) X.env=(false,eval e X.env)::starEach es X.env:=by rfl) (hpl:(backTo pos (starEach es X.env)).any (·.1)=false:=by rfl) :
  PE X (.Call (.Name x p) (e::es) [] pos) (br5 C sp dvs E t):=by
 intro pins s σ H Q I h;refine wpAny_Call_Name_kw (ag7 I hg hm ?_ hdb);refine W.callWith_K (h₀:=X.base) I.ok.mod.kin M.kp (thn (ha pos pins s σ H _ I h) fun us s1⟨vs,H1,I1,r,q⟩=>⟨I1.kIn,?_⟩) he hpl;exact bg9 M F hr hb hd hx I1 r q
theorem b90(M:Mk X.K C f)(F:FnOk X.prog X.w X.K X.mg X.base CX k f fd ps sp)(hr:Room (k+1) X.A)(hg:Gl X x)(hm:X.mg x=some (.ref C))(hb:z7 X.K fd ps ds)(hd:e9 dvs ds)(hx:S9 CX X E)
  (hdb:(x==("__debug__":Str))=false:=by decide):PE X (.Call (.Name x p) [] [] pos) (br5 C sp dvs E a71):=by
 intro pins s σ H Q I h;refine wpAny_Call_Name_kw (ag7 I hg hm ?_ hdb);exact W.callWith_K0 I.kIn M.kp (bg9 (us:=[]) M F hr hb hd hx I .nil h)
end
structure FnScope(N P:List Str)(sc:Scope):Prop where
 kind:sc.kind=.function
 co:sc.isCoroutine=false
 gen:sc.isGenerator=false
 nd:N.Nodup
 pre:N.take P.length=P
 par:∀x∈P,sc.names.lookup x=some .local∨sc.names.lookup x=some .cell
 nofree:∀y∈sc.names,y.2≠.free
theorem bb0{kindOf:Str→Option NameKind}{x:Str}:∀{binds:List (Str×Value)}{m:Str→Option Value},(∀v,(x,v)∉binds)→bindL kindOf binds m x=m x
 |[],_,_=>rfl
 |(n,v)::r,m,h=>by
  unfold bindL;rw[bb0 fun w hw=>h w (List.mem_cons_of_mem _ hw)]
  split
  ·have:x≠n:=by rintro rfl;exact h v List.mem_cons_self
   simp[this]
  ·rfl
theorem bb6{kindOf:Str→Option NameKind}{x:Str}:∀{binds:List (Str×Value)}{m:Str→Option Value},(∀v,(x,v)∉binds)→bindC kindOf binds m x=m x
 |[],_,_=>rfl
 |(n,v)::r,m,h=>by
  unfold bindC;rw[bb6 fun w hw=>h w (List.mem_cons_of_mem _ hw)]
  split
  ·rfl
  ·have:x≠n:=by rintro rfl;exact h v List.mem_cons_self
   simp[this]
theorem bb3{kindOf:Str→Option NameKind}{x:Str}{v:Value}:∀{P:List Str}{vs:List Value}{i:Nat}{m:Str→Option Value},P.Nodup→P[i]?=some x→vs[i]?=some v→kindOf x=some .local →
  bindL kindOf (P.zip vs) m x=some v
 |[],_,_,_,_,h,_,_=>by simp at h
 |_::_,[],_,_,_,_,h,_=>by simp at h
 |p::P,w::vs,0,m,nd,h1,h2,hk=>by
  simp at h1 h2;subst h1;subst h2;show bindL kindOf ((p,w)::P.zip vs) m p=_;unfold bindL;rw[bb0 fun v hv=>(List.nodup_cons.mp nd).1 (List.of_mem_zip hv).1,if_pos hk];simp
 |p::P,w::vs,i+1,m,nd,h1,h2,hk=>by
  show bindL kindOf ((p,w)::P.zip vs) m x=_;unfold bindL;exact bb3 (i:=i) (List.nodup_cons.mp nd).2 (by simpa using h1) (by simpa using h2) hk
theorem bc8{kindOf:Str→Option NameKind}{x:Str}{v:Value}:∀{P:List Str}{vs:List Value}{i:Nat}{m:Str→Option Value},P.Nodup→P[i]?=some x→vs[i]?=some v→kindOf x≠some .local →
  bindC kindOf (P.zip vs) m x=some v
 |[],_,_,_,_,h,_,_=>by simp at h
 |_::_,[],_,_,_,_,h,_=>by simp at h
 |p::P,w::vs,0,m,nd,h1,h2,hk=>by
  simp at h1 h2;subst h1;subst h2;show bindC kindOf ((p,w)::P.zip vs) m p=_;unfold bindC;rw[bb6 fun v hv=>(List.nodup_cons.mp nd).1 (List.of_mem_zip hv).1,if_neg hk];simp
 |p::P,w::vs,i+1,m,nd,h1,h2,hk=>by
  show bindC kindOf ((p,w)::P.zip vs) m x=_;unfold bindC;exact bc8 (i:=i) (List.nodup_cons.mp nd).2 (by simpa using h1) (by simpa using h2) hk
noncomputable def x0(N:List Str)(vs:List V):St:=vs.map some++List.replicate (N.length-vs.length) none
noncomputable def at5(CX:CXT)(P:Program)(w:World)(K:W.Frag)(mg:Str→Option Value)(base:Heap)(N:List Str)(qual:Str)(scope:Scope)(f:Addr)(cd:Value)(A:Around)(outer:List Env)(s:Shared)(H:Hp)(E:XK):Cx where
 prog:=P
 w:=w
 K:=K
 mg:=mg
 base:=base
 A:=A.deeper (envOfC qual scope s.heap.objs.size f cd)
 N:=N
 s₀:=s
 H₀:=H
 env:=envOfC qual scope s.heap.objs.size f cd
 outer:=outer
 stack:=envOfC qual scope s.heap.objs.size f cd::outer
 ex:=[]
 calm:=true
 fn:=fun _=>true
 pn:=[]
 xe:=fun e s'=>wpAny (model P w) (A.deeper (envOfC qual scope s.heap.objs.size f cd)) (leaving (envOfC qual scope s.heap.objs.size f cd) e) (fun _ s''=>CX outer H s E e s'') (fun e' s''=>CX outer H s E e' s'') s'
theorem be4{sc:Scope}{n:Nat}{x:Str}(h:sc.names.lookup x=some .cell):∃c,(cellsFrom n sc.names []).lookup x=some c:=by
 have q:=W.cellsFrom_some sc.names n [] (.inl h);exact Option.isSome_iff_exists.mp q
theorem b30{CX:CXT}{P:Program}{w:World}{K:W.Frag}{mg:Str→Option Value}{base:Heap}{N ps:List Str}{qual:Str}{scope:Scope}{f:Addr}{cd:Value}{A:Around}{outer:List Env}{s s1:Shared}{H:Hp}{E:XK}{us:List Value}{vs:List V}
  (S:FnScope N ps scope) (hd:A.handled=none) (e0:Env0 P w K mg base A outer s H) (hl:vs.length=ps.length) (r:e9 vs us)
  (x:InCallC s s.heap.objs.size (bindL (envOfC qual scope s.heap.objs.size f cd).kindOf (ps.zip us) fun _=>none) (cellsFrom (s.heap.objs.size+1) scope.names []) (bindC (envOfC qual scope s.heap.objs.size f cd).kindOf (ps.zip us) fun _=>none) s1) :
  Inv (at5 CX P w K mg base N qual scope f cd A outer s H E) [] (x0 N vs) H s1:=by
 have hpl:ps.length≤N.length:=by have:=congrArg List.length S.pre;rw[List.length_take]at this;omega
 obtain ⟨h1,tk,rfl,hk⟩:=x.done;have noA:∀ b:Addr,b ∉ (at5 CX P w K mg base N qual scope f cd A outer s H E).ex:=fun b z=>absurd (show b ∈ ([]:List Addr) from z) (by simp);refine ⟨⟨e0.mod,S.kind,rfl,rfl,Nat.le_refl _,fun y z c h1 h2=>?_,fun y hy=>?_,fun y c _ h=>?_,fun _=>hd,Around.frames_deeper e0.frames,.inr ⟨rfl,rfl⟩,fun b z=>absurd z (noA b),e0.bs,e0.bsz,fun b _ _=>noA b,fun b z=>absurd z (noA b),e0.funs,e0.frf⟩,
  rfl,e0.bare,Un.kept hk,⟨_,x.toInCall.ns,fun i y v h1 h2 h3=>?_⟩,fun y c h=>⟨_,x.cell y c h⟩,e0.hok.fresh (Nat.le_refl _),fun y c h=>?_,fun p hp=>absurd (show p ∈ ([]:List (Addr × Obj)) from hp) (by simp),e0.hok.kept hk,?_⟩
 ·exact name_of_addr x.apart (PySem.mem_of_lookup h1) (PySem.mem_of_lookup h2)
 ·have hy:scope.names.lookup y=some .cell∨scope.names.lookup y=some .free:=hy
  rcases hy with hy|hy
  ·exact be4 hy
  ·exact absurd rfl (S.nofree _ (PySem.mem_of_lookup hy))
 ·exact Nat.le_of_lt (x.above y c (PySem.mem_of_lookup h))
 ·have hi:i<vs.length:=by
   unfold x0 at h2
   by_cases hi:i<vs.length
   ·exact hi
   ·rw[List.getElem?_append_right (by simpa using hi)]at h2;rw[List.getElem?_replicate]at h2
    split at h2<;>cases h2
  have ha:vs[i]?=some v:=by
   unfold x0 at h2;rw[List.getElem?_append_left (by simpa using hi),List.getElem?_map]at h2;cases e:vs[i]? with
   |none=>rw[e]at h2;cases h2
   |some a=>rw[e]at h2;cases h2;rfl
  obtain⟨u,hu,rv⟩:=r.get ha;have hp:ps[i]?=some y:=by
   rw[←S.pre,List.getElem?_take_of_lt (by omega)];exact h1
  have ndP:ps.Nodup:=by rw[←S.pre];exact S.nd.sublist (List.take_sublist _ _)
  refine⟨u,rv,?_⟩
  rcases S.par y (List.mem_of_getElem? hp)with k|k
  ·exact .inl ⟨k,bb3 ndP hp hu k⟩
  ·obtain⟨c,e⟩:=be4 (n:=s.heap.objs.size+1) k;refine .inr ⟨.inl k,c,e,?_⟩;have q:=x.cell y c e;rw[bc8 ndP hp hu (by show scope.names.lookup y≠_;rw[k];decide)]at q;exact q
 ·exact .inl (e0.hok.fresh (Nat.le_of_lt (x.above y c (PySem.mem_of_lookup h))))
 ·unfold x0;show _=N.length;rw[List.length_append,List.length_map,List.length_replicate];omega
end L2
namespace L2
open PySem PySem.Spec PyProof.Rows
section
variable {X:Cx} {x:Str} {p pos:Pos} {e:Expr} {es:List Expr} {t:TA} {id T:String} {r:List V→Hp→VK→Prop}
noncomputable def tCB(r:List V→Hp→VK→Prop)(t:TA):TE:=fun σ H Q=>t σ H fun vs H1=>r vs H1 Q
theorem ae2(hc:E5 X (.builtin id) r)(hg:Gl X x)(hm:X.mg x=none)(hv:bootBuiltins x=some (.builtin id))(ha:PA X (e::es) t)(hn:x≠"__name__":=by decide)(hdb:(x==("__debug__":Str))=false:=by decide)
  (he:starEach (e::es) X.env=(false,eval e X.env)::starEach es X.env:=by rfl) (hpl:(backTo pos (starEach es X.env)).any (·.1)=false:=by rfl):PE X (.Call (.Name x p) (e::es) [] pos) (tCB r t):=by
 intro pins s σ H Q I h;refine wpAny_Call_Name_kw (G5 I hg hm hv ?_ hn hdb);exact PyProof.Rows.callWith_builtin1 (thn (ha pos pins s σ H _ I h) fun us s1⟨vs,H1,I1,r1,q1⟩=>hc pins s1 σ H1 vs us Q I1 r1 q1) he hpl
theorem b08(hc:E5 X (.type T) r)(hg:Gl X x)(hm:X.mg x=none)(hv:bootBuiltins x=some (.type T))(ha:PA X (e::es) t)(hn:x≠"__name__":=by decide)(hdb:(x==("__debug__":Str))=false:=by decide)
  (he:starEach (e::es) X.env=(false,eval e X.env)::starEach es X.env:=by rfl) (hpl:(backTo pos (starEach es X.env)).any (·.1)=false:=by rfl):PE X (.Call (.Name x p) (e::es) [] pos) (tCB r t):=by
 intro pins s σ H Q I h;refine wpAny_Call_Name_kw (G5 I hg hm hv ?_ hn hdb);exact PyProof.Rows.callWith_type1 (thn (ha pos pins s σ H _ I h) fun us s1⟨vs,H1,I1,r1,q1⟩=>hc pins s1 σ H1 vs us Q I1 r1 q1) he hpl
end
end L2
namespace HT
open PySem PyProof.Rows
section
open PySem.SeqAt
open PySem.AutoSeq1 (wpAny_loadPart')
open PySem.MeetsSeq PySem.MeetsSeq2 PySem.MeetsSeq3
end
section
variable {prog:Program} {w:World} {A:Around} {E:Value→Shared→Prop} {s:Shared}
theorem cat_tup{t b:Addr}{vs ws:List Value}{Q:Value→Shared→Prop}(ht:IsTup s.heap t vs.toArray)(hb:IsTup s.heap b ws.toArray)(hv:vs≠[])
  (h1:ws=[]→Q (.ref t) s) (h2:ws≠[]→Q (.ref s.heap.objs.size) {s with heap:=s.heap.push {cls:=.type "tuple",data:=.seq (vs++ws).toArray}})
  (hsz:vs.length+ws.length≤sizeLine):wpAny (model prog w) A (binaryOp .Add (.ref t) (.ref b)) Q E s:=by
 obtain⟨⟨cls,dd,data,sl⟩,ho,hc,n,hd⟩:=id ht;obtain⟨⟨cls2,dd2,data2,sl2⟩,ho2,hc2,n2,hd2⟩:=id hb;simp only at hc hd hc2 hd2;subst hc hd hc2 hd2;have e:vs.toArray++ws.toArray=(vs++ws).toArray:=by simp
 by_cases hw:ws=[]
 ·exact concat_meets ⟨_,ho,rfl⟩ ⟨_,ho2,rfl⟩ noFill_tuple_add seq_tuple_add PySem.F.slot_tuple_add PySem.F.entry_tuple_add (PySem.F.args_tuple_add_2 _ _)
   (tuple_addW1 t b vs.toArray ws.toArray n n2 dd dd2 sl sl2 (by simpa using hv) (by simp[hw])) ⟨ho,ho2,h1 hw⟩
 ·refine concat_meets ⟨_,ho,rfl⟩ ⟨_,ho2,rfl⟩ noFill_tuple_add seq_tuple_add PySem.F.slot_tuple_add PySem.F.entry_tuple_add (PySem.F.args_tuple_add_2 _ _)
   (tuple_addW2 t b vs.toArray ws.toArray n n2 dd dd2 sl sl2 (by simpa using hv) (by simpa using hw) (by rw[List.size_toArray,List.size_toArray];exact hsz)) ⟨ho,ho2,?_⟩
  rw[e];exact h2 hw
noncomputable def sIx(n d:Nat):Option Int→Nat
 |none=>d
 |some v=>if v<0 then(v+(n:Int)).toNat else min v.toNat n
theorem bq2(n d:Nat)(hd:d≤n)(o:Option Int):sIx n d o≤n:=by
 cases o with
 |none=>exact hd
 |some v=>
  show(if v<0 then(v+(n:Int)).toNat else min v.toNat n)≤n
  by_cases hv:v<0
  ·rw[if_pos hv];omega
  ·rw[if_neg hv];exact Nat.min_le_right _ _
theorem bl6(v:Int)(n d:Nat):(if v<0 then max (v+(n:Int)) 0 else min v (n:Int))=((sIx n d (some v):Nat):Int):=by
 show(if v<0 then max (v+(n:Int)) 0 else min v (n:Int))=(((if v<0 then(v+(n:Int)).toNat else min v.toNat n):Nat):Int)
 by_cases hv:v<0
 ·simp only[if_pos hv];omega
 ·simp only[if_neg hv];omega
theorem by7(lo hi:Option Int)(n:Nat):Builtin.Slice.sliceAdjust lo hi 1 (n:Int)=(((sIx n 0 lo:Nat):Int),((sIx n n hi:Nat):Int)):=by
 have h1:¬((1:Int)<0):=by omega
 unfold Builtin.Slice.sliceAdjust;simp only[h1,if_false];refine Prod.ext ?_ ?_
 ·cases lo with
  |none=>rfl
  |some v=>exact bl6 v n 0
 ·cases hi with
  |none=>rfl
  |some v=>exact bl6 v n n
theorem bz3(i j:Nat):Builtin.Slice.slicePlaces (i:Int) (j:Int) 1=j-i:=by
 unfold Builtin.Slice.slicePlaces;have h1:(1:Int)>0:=by omega
 simp only[h1,if_true,Int.ediv_one]
 split<;>omega
theorem ba2{v:Value}{o:Option Int}{Q:Option Int→Shared→Prop}(p:IsPart v o)(h:Q o s):wpAny (model prog w) A (Builtin.Slice.slicePartIndex v) Q E s:=by
 cases p with
 |none=>exact slicePart_none h
 |int i t=>exact slicePart_int h
theorem a80{sl:Addr}{vl vu:Value}{lo hi:Option Int}{n:Nat}{Q:Int×Int×Nat→Shared→Prop}(hs:s.heap.IsSliceOf sl vl vu .none)(pl:IsPart vl lo)(pu:IsPart vu hi)
  (h:Q (((sIx n 0 lo:Nat):Int),1,sIx n n hi-sIx n 0 lo) s):wpAny (model prog w) A (Builtin.Slice.sliceApplied (.ref sl) (pure (n:Int))) Q E s:=by
 obtain⟨os,hos,hcs,hds⟩:=id hs;unfold Builtin.Slice.sliceApplied Builtin.Slice.sliceFields;refine wpAny_bind (wpAny_bind (wpAny_field hos hds (x:=vl) rfl (wpAny_bind (wpAny_field hos hds (x:=vu) rfl (wpAny_bind (wpAny_field hos hds (x:=.none) rfl (wpAny_pure ?_)))))));refine wpAny_bind (slicePart_none ?_);show wpAny _ _ (if((1:Int)==0)=true then _ else _) _ _ s;rw[if_neg (by decide)];refine wpAny_bind (ba2 pl (wpAny_bind (ba2 pu (wpAny_bind (wpAny_pure ?_)))));show wpAny _ _ (match Builtin.Slice.sliceAdjust lo hi 1 (n:Int)with|(lo,hi)=>pure (lo,(1:Int),Builtin.Slice.slicePlaces lo hi 1)) _ _ s;rw[by7 lo hi n];show wpAny _ _ (pure (((sIx n 0 lo:Nat):Int),(1:Int),Builtin.Slice.slicePlaces ((sIx n 0 lo:Nat):Int) ((sIx n n hi:Nat):Int) 1)) _ _ s;rw[bz3];exact wpAny_pure h
theorem b84(xs:Array Value)(i k:Nat):((List.range k).filterMap fun(m:Nat)=>xs[((i:Int)+(m:Int)*1).toNat]?).toArray=((xs.toList.drop i).take k).toArray:=by
 have e:(fun(m:Nat)=>xs[((i:Int)+(m:Int)*1).toNat]?)=fun m=>xs[i+m]?:=by
  funext m
  have:((i:Int)+(m:Int)*1).toNat=i+m:=by omega
  rw[this]
 rw[e];have:=pick_run xs i k;rw[List.filterMap_map]at this;have e2:((fun x=>xs[x]?)∘fun x=>i+x)=fun m=>xs[i+m]?:=rfl;rw[e2]at this;rw[this]
theorem getItem_tuple_cut{t sl:Addr}{items:Array Value}{vl vu:Value}{lo hi:Option Int}{Q:Value→Shared→Prop}(ht:IsTup s.heap t items)(hs:s.heap.IsSliceOf sl vl vu .none)(pl:IsPart vl lo)(pu:IsPart vu hi)
  (hw:¬(sIx items.size 0 lo=0∧sIx items.size items.size hi=items.size))
  (h:Q (.ref s.heap.objs.size) {s with heap:=s.heap.push {cls:=.type "tuple",data:=.seq ((items.toList.drop (sIx items.size 0 lo)).take (sIx items.size items.size hi-sIx items.size 0 lo)).toArray}})
  (hsz:items.size≤sizeLine):wpAny (model prog w) A (getItem (.ref t) (.ref sl)) Q E s:=by
 have htake:sizeOk (.seq ((items.toList.drop (sIx items.size 0 lo)).take (sIx items.size items.size hi-sIx items.size 0 lo)).toArray):=by
  show((items.toList.drop (sIx items.size 0 lo)).take (sIx items.size items.size hi-sIx items.size 0 lo)).toArray.size≤sizeLine;rw[List.size_toArray,List.length_take,List.length_drop,Array.length_toList];omega
 have hj:sIx items.size items.size hi≤items.size:=bq2 _ _ (Nat.le_refl _) hi;obtain⟨os,hos,hcs,hds⟩:=id hs;have hTs:s.TypeIs (.ref sl) "slice":=⟨os,hos,hcs⟩;unfold getItem
 try with_reducible refine wpAny_holding ?_
 first|refine wpAny_bind (wpAny_pure ?_)|skip
 refine wpAny_bind (wpAny_sequenceKey ht.typeIs (by decide) ?_);refine wpAny_bind (wpAny_callSpecial?_slot (name:=Str.ofString "__getitem__") ht.typeIs PyProof.Rows.slot_tuple_getitem
  (wpAny_call_entry PyProof.Rows.slot_tuple_getitem ht.typeIs entry_tuple_getitem ?_ (args_tuple_getitem _ _)))
 show wpAny _ _ (Builtin.Tuple.tupleItemsOf (.ref t)>>=_) _ _ s;refine wpAny_bind (tupleItemsOf_ ht ?_);refine wpAny_bind (wpAny_typeOf hTs ?_);rw[if_pos (by decide)];refine wpAny_bind (a80 hs pl pu ?_);have hno:¬((((sIx items.size 0 lo:Nat):Int)==0&&(1:Int)==1&&(sIx items.size items.size hi-sIx items.size 0 lo)==items.size)=true):=by
  intro q;rw[Bool.and_eq_true,Bool.and_eq_true]at q;have q1:((sIx items.size 0 lo:Nat):Int)=0:=eq_of_beq q.1.1;have q2:sIx items.size items.size hi-sIx items.size 0 lo=items.size:=eq_of_beq q.2;exact hw ⟨by omega,by omega⟩
 show wpAny _ _ (if(((sIx items.size 0 lo:Nat):Int)==0&&(1:Int)==1&&(sIx items.size items.size hi-sIx items.size 0 lo)==items.size)=true then _ else _) _ _ s;rw[if_neg hno,b84]
 first
  |exact wpAny_bind (m:=Builtin.Tuple.tupleExact _) (wpAny_newObj_type (wpAny_pure ⟨_,rfl,wpAny_pure h⟩) htake)
  |exact wpAny_bind (m:=Builtin.Tuple.tupleExact _) (wpAny_newObj_type (wpAny_bind (wpAny_pure (wpAny_pure ⟨_,rfl,wpAny_pure h⟩))) htake)
  |exact wpAny_bind (wpAny_bind (m:=Builtin.Tuple.tupleExact _) (wpAny_newObj_type (wpAny_pure (wpAny_pure ⟨_,rfl,wpAny_pure h⟩)) htake))
  |exact wpAny_bind (wpAny_bind (m:=Builtin.Tuple.tupleExact _) (wpAny_newObj_type (wpAny_pure ⟨_,rfl,wpAny_pure h⟩) htake))
end
end HT
namespace L2
open PySem PySem.Spec PyProof.Rows
noncomputable abbrev TO:=St→Hp→(Option Int→Hp→Prop)→Prop
noncomputable def PO(X:Cx)(e:Option Expr)(t:TO):Prop:=
 ∀(pins:List (Addr×Obj))(s:Shared)(σ:St)(H:Hp)(Q:Option Int→Hp→Prop),Inv X pins σ H s→t σ H Q →
  wpAny (model X.prog X.w) X.A (evalPart e X.env) (fun u s'=>∃o H',Inv X pins σ H' s'∧IsPart u o∧Q o H') X.xe s
noncomputable def ci6:TO:=fun _ H Q=>Q none H
noncomputable def cy3(t:TE):TO:=fun σ H Q=>t σ H fun x H1=>∃i,x=.int i∧Q (some i) H1
section
variable {X:Cx} {e:Expr} {te:TE} {lo hi:Option Expr} {tl th:TO} {pos p2:Pos}
theorem cc5:PO X none ci6:=by
 intro pins s σ H Q I h;rw[evalPart_none];exact wpAny_pure ⟨none,H,I,.none,h⟩
theorem cb2(h:PE X e te):PO X (some e) (cy3 te):=by
 intro pins s σ H Q I hw;rw[evalPart_some];refine thn (h pins s σ H _ I hw) fun u s1⟨x,H1,I1,r1,q1⟩=>?_;obtain⟨i,rfl,q⟩:=q1;obtain⟨t,rfl⟩:=r1;exact⟨some i,H1,I1,.int i t,q⟩
noncomputable def SlR(X:Cx)(r:V→Option Int→Option Int→Hp→VK→Prop):Prop:=
 ∀(pins:List (Addr×Obj))(s:Shared)(σ:St)(H:Hp)(x:V)(v vl vu:Value)(lo hi:Option Int)(sl:Addr)(Q:VK),Inv X pins σ H s→i6 x v→s.heap.IsSliceOf sl vl vu .none→IsPart vl lo→IsPart vu hi→r x lo hi H Q →
  ∃T id,typeLookup (.type T) "__getitem__"=pure (some (.builtin id))∧s.TypeIs v T∧wpAny (model X.prog X.w) X.A (getItem v (.ref sl)) (EP X pins σ Q) X.xe s
theorem SlR.or{r r':V→Option Int→Option Int→Hp→VK→Prop}(h:SlR X r)(h':SlR X r'):SlR X (fun x lo hi H Q=>r x lo hi H Q∨r' x lo hi H Q):=by
 intro pins s σ H x v vl vu lo hi sl Q I rx hs pl pu q
 rcases q with q|q
 ·exact h pins s σ H x v vl vu lo hi sl Q I rx hs pl pu q
 ·exact h' pins s σ H x v vl vu lo hi sl Q I rx hs pl pu q
noncomputable def tSl(r:V→Option Int→Option Int→Hp→VK→Prop)(te:TE)(tl th:TO):TE:=fun σ H Q=>te σ H fun x H1=>tl σ H1 fun l H2=>th σ H2 fun u H3=>r x l u H3 Q
theorem be6{r:V→Option Int→Option Int→Hp→VK→Prop}(hr:SlR X r)(he:PE X e te)(hl:PO X lo tl)(hu:PO X hi th):PE X (.Subscript e (.Slice lo hi none p2) pos) (tSl r te tl th):=by
 intro pins s σ H Q I h;refine Subscript_ (thn (he pins s σ H _ I h) fun v s1⟨x,H1,I1,r1,q1⟩=>?_);refine wpAny_Slice (thn (hl pins s1 σ H1 _ I1 q1) fun vl s2⟨l,H2,I2,pl,q2⟩=>thn (hu pins s2 σ H2 _ I2 q2) fun vu s3⟨u,H3,I3,pu,q3⟩=>?_);rw[evalPart_none];refine wpAny_pure ?_;have I4:Inv X pins σ H3 {s3 with heap:=s3.heap.push {cls:=.type "slice",data:=.fields #[vl,vu,.none]}}:=I3.kept (t':=s3.toks) fun b ob q=>Heap.get?_push_of_some _ q;obtain⟨T,id,hT,ht,hg⟩:=hr pins {s3 with heap:=s3.heap.push {cls:=.type "slice",data:=.fields #[vl,vu,.none]}} σ H3 x v vl vu l u s3.heap.objs.size Q I4 r1 (Heap.IsSliceOf.new ..) pl pu q3;show wpAny (model X.prog X.w) X.A (subscriptTail e (.Slice lo hi none p2) v (.ref s3.heap.objs.size)) (EP X pins σ Q) X.xe {s3 with heap:=s3.heap.push {cls:=.type "slice",data:=.fields #[vl,vu,.none]}};exact tail_any (ops:=[.ref s3.heap.objs.size,v]) ht hT hg (by with_unfolding_all rfl)
noncomputable def N0(xs:List V)(lo hi:Option Int):List V:=(xs.drop (HT.sIx xs.length 0 lo)).take (HT.sIx xs.length xs.length hi-HT.sIx xs.length 0 lo)
theorem a87(xs:List V)(lo hi:Option Int):(N0 xs lo hi).length≤xs.length:=by
 unfold N0;rw[List.length_take,List.length_drop];omega
noncomputable def c61(K:W.Frag):V→Option Int→Option Int→Hp→VK→Prop:=fun x lo hi H Q=>∃a xs,x=.ref a∧SqT K H a xs ∧
 ¬(HT.sIx xs.length 0 lo=0∧HT.sIx xs.length xs.length hi=xs.length)∧∀p,H p=none→Q (.ref p) (upd H p (.tup (N0 xs lo hi)))
theorem bp4:SlR X (c61 X.K):=by
 intro pins s σ H x v vl vu lo hi sl Q I rx hs pl pu h;obtain⟨a,xs,rfl,hx,hw,q⟩:=h;cases rx;obtain⟨its,r,ht,hz⟩:=I.tuple hx;have hlen:its.toArray.size=xs.length:=by rw[List.size_toArray];exact r.length.symm
 refine⟨"tuple",_,PyProof.Rows.slot_tuple_getitem.lookup,ht.typeIs,?_⟩;refine HT.getItem_tuple_cut ht hs pl pu (by rw[hlen];exact hw) ?_ (by rw[hlen];exact hz);rw[hlen];refine⟨.ref s.heap.objs.size,_,I.laid (t':=s.toks) (o:=.tup (N0 xs lo hi)) (fun b ob q=>Heap.get?_push_of_some _ q) (Nat.le_refl _) ?_,rfl,q _ (I.hok.fresh (Nat.le_refl _))⟩;exact⟨Nat.le_trans (a87 xs lo hi) hz,_,(r.drop (HT.sIx xs.length 0 lo)).take (HT.sIx xs.length xs.length hi-HT.sIx xs.length 0 lo),D2.new _ _⟩
noncomputable def cy8(K:W.Frag):R2:=fun x y H Q=>∃a b xs ys,x=.ref a∧y=.ref b∧SqT K H a xs∧SqT K H b ys∧xs≠[]∧xs.length+ys.length≤sizeLine ∧
 (ys=[]→Q (.ref a) H)∧(ys≠[]→∀p,H p=none→Q (.ref p) (upd H p (.tup (xs++ys))))
theorem e9.nil_iff{xs:List V}{us:List Value}(r:e9 xs us):us=[]↔xs=[]:=by
 cases r with
 |nil=>simp
 |cons _ _=>simp
theorem ci8:OpR X (binaryOp .Add) (cy8 X.K):=by
 intro pins s σ H x y v u Q I rx ry h;obtain⟨a,b,xs,ys,rfl,rfl,ha,hb,hx,hz,q1,q2⟩:=h;cases rx;cases ry;obtain⟨its,r1,p1,_⟩:=I.tuple ha;obtain⟨its2,r2,p2,_⟩:=I.tuple hb;refine HT.cat_tup p1 p2 (fun z=>hx (r1.nil_iff.mp z)) (fun z=>⟨.ref a,H,I,rfl,q1 (r2.nil_iff.mp z)⟩) (fun z=>?_) (by rw[←r1.length,←r2.length];exact hz);refine⟨.ref s.heap.objs.size,_,I.laid (t':=s.toks) (o:=.tup (xs++ys)) (fun b ob q=>Heap.get?_push_of_some _ q) (Nat.le_refl _) ?_,rfl,q2 (fun w=>z (r2.nil_iff.mpr w)) _ (I.hok.fresh (Nat.le_refl _))⟩;exact⟨by rw[List.length_append];exact hz,_,r1.append r2,D2.new _ _⟩
end
end L2
namespace L2
open PySem PySem.Spec PyProof.Rows
noncomputable def ixN(n:Nat)(i:Int):Option Nat:=if 0≤i then(if i<n then some i.toNat else none)else if -(n:Int)≤i then some (i+n).toNat else none
noncomputable def atI{α:Type}(xs:List α)(i:Int):Option α:=(ixN xs.length i).bind fun j=>xs[j]?
theorem bh8{n:Nat}{i:Int}{j:Nat}(h:ixN n i=some j):seqIndex? i n=some j∧j<n∧-(n:Int)≤i∧i<n:=by
 unfold ixN at h
 by_cases h0:0≤i
 ·rw[if_pos h0]at h
  by_cases h1:i<n
  ·rw[if_pos h1]at h;have e:i.toNat=j:=Option.some.inj h;exact⟨by rw[seqIndex_of h0 h1,e],by omega,by omega,h1⟩
  ·rw[if_neg h1]at h;cases h
 ·rw[if_neg h0]at h
  by_cases h1:-(n:Int)≤i
  ·rw[if_pos h1]at h;have e:(i+n).toNat=j:=Option.some.inj h;exact⟨by rw[seqIndex_neg (by omega) h1,e],by omega,h1,by omega⟩
  ·rw[if_neg h1]at h;cases h
theorem a02{α:Type}{xs:List α}{i:Int}{v:α}(h:atI xs i=some v):∃j,seqIndex? i xs.length=some j∧xs[j]?=some v∧j<xs.length∧-(xs.length:Int)≤i∧i<xs.length:=by
 unfold atI at h;cases e:ixN xs.length i with
 |none=>rw[e]at h;cases h
 |some j=>
  rw[e]at h;obtain⟨h1,h2,h3,h4⟩:=bh8 e;exact⟨j,h1,h,h2,h3,h4⟩
noncomputable def bl7(b:Expr):Prop:=∀o i,subscripted b false o i=operate [o,i] (getItem o i)
noncomputable def IxR(X:Cx)(r:R2):Prop:=
 ∀(value slice:Expr)(pins:List (Addr×Obj))(s:Shared)(σ:St)(H:Hp)(x y:V)(v u:Value)(Q:VK),Inv X pins σ H s→i6 x v→i6 y u→r x y H Q →
  subscripted slice false v u=operate [v,u] (getItem v u)→wpAny (model X.prog X.w) X.A (subscriptTail value slice v u) (EP X pins σ Q) X.xe s
noncomputable def MtR(X:Cx)(id:String)(r:V→List V→Hp→VK→Prop):Prop:=
 ∀(pins:List (Addr×Obj))(s:Shared)(σ:St)(H:Hp)(x:V)(xs:List V)(v:Value)(us:List Value)(Q:VK),Inv X pins σ H s→i6 x v→e9 xs us→r x xs H Q →
  wpAny (model X.prog X.w) X.A (call (.builtin id) (v::us)) (EP X pins σ Q) X.xe s
section
variable {X:Cx} {a b:Expr} {ta tb:TE} {pos:Pos}
theorem IxR.or{r r':R2}(h:IxR X r)(h':IxR X r'):IxR X (fun x y H Q=>r x y H Q∨r' x y H Q):=by
 intro value slice pins s σ H x y v u Q I rx ry q hs
 rcases q with q|q
 ·exact h value slice pins s σ H x y v u Q I rx ry q hs
 ·exact h' value slice pins s σ H x y v u Q I rx ry q hs
theorem c01{r:R2}(hr:IxR X r)(ha:PE X a ta)(hb:PE X b tb)(hs:bl7 b):PE X (.Subscript a b pos) (tOp r ta tb):=by
 intro pins s σ H Q I h;exact Subscript_ (a72 ha hb I h fun v u s2 x y H2 I2 rx ry q=>hr a b pins s2 σ H2 x y v u Q I2 rx ry q (hs _ _))
noncomputable def c08(K:W.Frag):R2:=fun x y H Q=>∃p xs i v,x=.ref p∧y=.int i∧SqL K H p xs∧atI xs i=some v∧Q v H
noncomputable def c35(K:W.Frag):R2:=fun x y H Q=>∃p xs i v,x=.ref p∧y=.int i∧SqT K H p xs∧atI xs i=some v∧Q v H
noncomputable def c51:R2:=fun x y H Q=>∃z i c,x=.str z∧y=.int i∧z.length≤sizeLine∧atI z.cps.toList i=some c∧Q (.str ⟨#[c]⟩) H
theorem ch6:IxR X (c08 X.K):=by
 intro value slice pins s σ H x y v u Q I rx ry h hs;obtain⟨p,xs,i,z,rfl,rfl,hq,he,q⟩:=h;cases rx;obtain⟨t,rfl⟩:=ry;obtain⟨its,r,pl,hz⟩:=I.list hq;obtain⟨j,h1,h2,h3,h4,h5⟩:=a02 he;obtain⟨w,ew,rw'⟩:=r.get h2;have hl:=r.length;have hn:=ak2;have fin:EP X pins σ Q w s:=⟨z,H,I,rw',q⟩
 by_cases h0:0≤i
 ·have hj:i.toNat=j:=by
   rw[seqIndex_of h0 h5]at h1;exact Option.some.inj h1
  exact item_listR pl.isList h0 (by omega) (by rw[hj];simpa using ew) fin hs
 ·have hj:(i+(its.toArray.size:Int)).toNat=j:=by
   rw[seqIndex_neg (by omega) h4]at h1;rw[List.size_toArray,←hl];exact Option.some.inj h1
  exact subscriptTail_builtinR (x:=w) pl.isList.typeIs slot_list_getitem.lookup
   (wpAny_getItem_list_neg (Q:=fun r s'=>r=w∧EP X pins σ Q r s') pl.isList (by omega) (by rw[List.size_toArray]<;>omega) (by omega) (by rw[hj];simpa using ew) ⟨rfl,fin⟩) hs
theorem cj7:IxR X (c35 X.K):=by
 intro value slice pins s σ H x y v u Q I rx ry h hs;obtain⟨p,xs,i,z,rfl,rfl,hq,he,q⟩:=h;cases rx;obtain⟨t,rfl⟩:=ry;obtain⟨its,r,pl,hz⟩:=I.tuple hq;obtain⟨j,h1,h2,h3,h4,h5⟩:=a02 he;obtain⟨w,ew,rw'⟩:=r.get h2;have hl:=r.length;have hn:=ak2;have fin:EP X pins σ Q w s:=⟨z,H,I,rw',q⟩;exact subscriptTail_builtinR (x:=w) pl.typeIs slot_tuple_getitem.lookup
  (getItem_tuple (j:=j) (Q:=fun r s'=>r=w∧EP X pins σ Q r s') pl (by omega) (by omega) (by rw[List.size_toArray,←hl];exact h1) (by simpa using ew) ⟨rfl,fin⟩) hs
theorem cv7:IxR X c51:=by
 intro value slice pins s σ H x y v u Q I rx ry h hs;obtain⟨z,i,c,rfl,rfl,hz,he,q⟩:=h;obtain⟨t,rfl⟩:=rx;obtain⟨t',rfl⟩:=ry;obtain⟨j,h1,h2,h3,h4,h5⟩:=a02 he;have hl:z.cps.toList.length=z.length:=by simp[Str.length]
 rw[hl]at h1 h4 h5;have hn:=ak2;exact tail_any (typeIs_str s z t) slot_str_getitem.lookup (getItem_str (c:=c) (by
  have e1:decide (i < -(2^63:Int))=false:=decide_eq_false (by omega);have e2:decide (i≥2^63)=false:=decide_eq_false (by omega);rw[e1,e2,Bool.or_false]) (by rw[h1];simpa using h2) ⟨.str ⟨#[c]⟩,H,I.tok _,⟨_,rfl⟩,q⟩) hs
theorem bv8(lo hi:Option Int)(n:Nat):(sliceBounds lo hi none n).1=((HT.sIx n 0 lo:Nat):Int)∧(sliceBounds lo hi none n).2.1=((HT.sIx n n hi:Nat):Int)∧(sliceBounds lo hi none n).2.2=1:=by
 refine⟨?_,?_,rfl⟩
 ·cases lo with
  |none=>simp[sliceBounds,HT.sIx]
  |some i=>
   simp only[sliceBounds,HT.sIx,Option.getD_none,show(1:Int)>0 by decide,if_true]
   by_cases h:i<0
   ·simp only[h,if_true]<;>omega
   ·simp only[h,if_false]<;>omega
 ·cases hi with
  |none=>simp[sliceBounds,HT.sIx]
  |some i=>
   simp only[sliceBounds,HT.sIx,Option.getD_none,show(1:Int)>0 by decide,if_true]
   by_cases h:i<0
   ·simp only[h,if_true]<;>omega
   ·simp only[h,if_false]<;>omega
theorem bv5(its:List Value)(lo hi:Option Int):slicePick its.toArray lo hi none=((its.drop (HT.sIx its.length 0 lo)).take (HT.sIx its.length its.length hi-HT.sIx its.length 0 lo)).toArray:=by
 obtain⟨h1,h2,h3⟩:=bv8 lo hi its.toArray.size;unfold slicePick;rw[h1,h2,h3];simp only[sliceRange_one,pick_run,List.size_toArray]<;>rfl
noncomputable def c45(K:W.Frag):V→Option Int→Option Int→Hp→VK→Prop:=fun x lo hi H Q=>∃a xs,x=.ref a∧SqL K H a xs∧∀p,H p=none→Q (.ref p) (upd H p (.lst (N0 xs lo hi)))
theorem ci0:SlR X (c45 X.K):=by
 intro pins s σ H x v vl vu lo hi sl Q I rx hs pl pu h;obtain⟨a,xs,rfl,hx,q⟩:=h;cases rx;obtain⟨its,r,ht,hz⟩:=I.list hx;have hlen:=r.length;refine⟨"list",_,slot_list_getitem.lookup,ht.isList.typeIs,?_⟩;refine wpAny_getItem_list_slice ht.isList hs pl pu .none (by simp) ?_ (by rw[List.size_toArray]<;>omega);rw[bv5,←hlen];refine⟨.ref s.heap.objs.size,_,I.laid (t':=s.toks) (o:=.lst (N0 xs lo hi)) (fun b ob q=>Heap.get?_push_of_some _ q) (Nat.le_refl _) ?_,rfl,q _ (I.hok.fresh (Nat.le_refl _))⟩;exact⟨Nat.le_trans (a87 xs lo hi) hz,_,0,(r.drop (HT.sIx xs.length 0 lo)).take (HT.sIx xs.length xs.length hi-HT.sIx xs.length 0 lo),Heap.get?_push_size _ rfl⟩
theorem bw0:E5 X (.builtin "len") (fun xs H Q=>∃p ys,xs=[.ref p]∧(SqL X.K H p ys∨SqT X.K H p ys)∧Q (.int ys.length) H):=by
 intro pins s σ H xs us Q I r h;obtain⟨p,ys,rfl,hq,q⟩:=h;obtain⟨u,rfl,rx⟩:=Y9 r;cases rx;have hn:=ak2
 rcases hq with hq|hq
 ·obtain⟨its,r',pl,hz⟩:=I.list hq;have hlen:=r'.length;exact Calls.call_len_list pl.isList (by simp only[List.size_toArray]<;>omega) ⟨.int ys.length,H,I.tok _,⟨s.toks+1,by rw[List.size_toArray,hlen]⟩,q⟩
 ·obtain⟨its,r',pl,hz⟩:=I.tuple hq;have hlen:=r'.length;exact len_tuple pl (by simp only[List.size_toArray]<;>omega) ⟨.int ys.length,H,I.tok _,⟨s.toks+1,by rw[List.size_toArray,hlen]⟩,q⟩
theorem bw3:E5 X (.type "list") (fun xs H Q=>∃p ys,xs=[.ref p]∧(SqL X.K H p ys∨SqT X.K H p ys)∧∀l,H l=none→Q (.ref l) (upd H l (.lst ys))):=by
 intro pins s σ H xs us Q I r h;obtain⟨p,ys,rfl,hq,q⟩:=h;obtain⟨u,rfl,rx⟩:=Y9 r;cases rx;have fin:∀(its:List Value),e9 ys its→ys.length≤sizeLine→∀(h':Heap)(c':Nat),(∀b o',s.heap.get? b=some o'→h'.get? b=some o') →
   h'.get? s.heap.objs.size=some {cls:=.type "list",dict:=none,data:=.seq its.toArray c',slots:=#[]}→EP X pins σ Q (.ref s.heap.objs.size) {s with heap:=h'}:=fun its r' hz h' c' kp e=>
  ⟨.ref s.heap.objs.size,_,I.laid (t':=s.toks) kp (Nat.le_refl _) (show m8 X.prog X.w _ h' _ (.lst ys) from⟨hz,its,c',r',e⟩),rfl,q _ (I.hok.fresh (Nat.le_refl _))⟩
 rcases hq with hq|hq
 ·obtain⟨its,r',pl,hz⟩:=I.list hq;have hlen:=r'.length;obtain⟨o,ho,hc,n,hd⟩:=pl.isList;exact call_list_seq p (.inl rfl) ho hc hd (fun h' c' kp e=>fin its r' hz h' c' kp e) (by simp only[List.size_toArray]<;>omega)
 ·obtain⟨its,r',pl,hz⟩:=I.tuple hq;have hlen:=r'.length;obtain⟨o,ho,hc,n,hd⟩:=pl;exact call_list_seq p (.inr rfl) ho hc hd (fun h' c' kp e=>fin its r' hz h' c' kp e) (by simp only[List.size_toArray]<;>omega)
theorem bv6:E5 X (.type "tuple") (fun xs H Q=>∃p ys,xs=[.ref p]∧((SqL X.K H p ys∧∀l,H l=none→Q (.ref l) (upd H l (.tup ys)))∨(SqT X.K H p ys∧Q (.ref p) H))):=by
 intro pins s σ H xs us Q I r h;obtain⟨p,ys,rfl,h⟩:=h;obtain⟨u,rfl,rx⟩:=Y9 r;cases rx
 rcases h with⟨hq,q⟩|⟨hq,q⟩
 ·obtain⟨its,r',pl,hz⟩:=I.list hq;have hlen:=r'.length;refine call_tuple_list pl.isList (fun h' kp=>?_) (by simp only[List.size_toArray]<;>omega);have I1:Inv X pins σ H {s with heap:=h'}:=I.kept (t':=s.toks) kp;have I2:Inv X pins σ (upd H h'.objs.size (.tup ys)) {s with heap:=h'.push {cls:=.type "tuple",data:=.seq its.toArray}}:=
   I1.laid (t':=s.toks) (fun b o e=>Heap.get?_push_of_some _ e) (Nat.le_refl _) (show m8 X.prog X.w _ _ _ (.tup ys) from⟨hz,its,r',D2.new _ _⟩)
  exact⟨.ref h'.objs.size,_,I2,rfl,q _ (I1.hok.fresh (Nat.le_refl _))⟩
 ·obtain⟨its,r',pl,hz⟩:=I.tuple hq;exact call_tuple_same pl ⟨.ref p,H,I,rfl,q⟩
noncomputable def tyV(K:W.Frag)(T:String)(x:V)(H:Hp):Prop:=match x with
 |.str _=>T="str"
 |.int _=>T="int"
 |.ref p=>(T="list"∧∃xs,SqL K H p xs)∨(T="tuple"∧∃o,K.lookup p=some o∧o.cls=.type "tuple"∧o.dict=none)∨
   (T="dict"∧((∃kvs,H p=some (.dK kvs))∨∃kvs,H p=some (.dT kvs)))∨(T="set"∧∃S n,H p=some (.set S n))
 |_=>False
theorem bn5{pins:List (Addr×Obj)}{σ:St}{H:Hp}{s:Shared}{T:String}{x:V}{v:Value}(I:Inv X pins σ H s)(r:i6 x v)(ty:tyV X.K T x H):
  s.TypeIs v T∧∀a,v=.ref a→∃ob,s.heap.get? a=some ob∧ob.dict=none:=by
 cases x with
 |str z=>
  obtain⟨t,rfl⟩:=r;cases(show T="str" from ty);exact⟨typeIs_str s z t,fun _ e=>nomatch e⟩
 |int i=>
  obtain⟨t,rfl⟩:=r;cases(show T="int" from ty);exact⟨typeIs_int s i t,fun _ e=>nomatch e⟩
 |ref p=>
  cases r
  rcases ty with⟨rfl,xs,hq⟩|⟨rfl,o,hk,hc,hd⟩|⟨rfl,hk⟩|⟨rfl,S,n,hk⟩
  ·obtain⟨its,_,pl,_⟩:=I.list hq;refine⟨pl.isList.typeIs,fun a e=>?_⟩;cases e;obtain⟨o,n,e,c,hd,_⟩:=pl;exact⟨o,e,hd⟩
  ·refine⟨⟨o,I.kIn p o hk,hc⟩,fun a e=>?_⟩;cases e;exact⟨o,I.kIn _ o hk,hd⟩
  ·have z:∃o,s.heap.get? p=some o∧o.ExactDict:=by
    rcases hk with⟨kvs,hk⟩|⟨kvs,hk⟩
    ·obtain⟨_,_,_,_,o,_,_,e,ex,_⟩:=I.hok p _ hk;exact⟨o,e,ex⟩
    ·obtain⟨_,_,_,_,o,_,_,e,ex,_⟩:=I.hok p _ hk;exact⟨o,e,ex⟩
   obtain⟨o,e,ex⟩:=z;refine⟨⟨o,e,ex.1⟩,fun a e2=>?_⟩;cases e2;exact⟨o,e,ex.2.1⟩
  ·obtain⟨o,_,_,_,e,ex,_⟩:=I.hok p _ hk;refine⟨⟨o,e,ex.1⟩,fun a e2=>?_⟩;cases e2;exact⟨o,e,ex.2.1⟩
 |_=>exact False.elim ty
noncomputable def c06(K:W.Frag)(T:String)(r:V→List V→Hp→VK→Prop)(to:TE):TE:=fun σ H Q=>to σ H fun x H1=>tyV K T x H1∧r x [] H1 Q
noncomputable def tBM(K:W.Frag)(T:String)(r:V→List V→Hp→VK→Prop)(to:TE)(t:TA):TE:=fun σ H Q=>to σ H fun x H1=>tyV K T x H1∧t σ H1 fun xs H2=>r x xs H2 Q
variable {o e:Expr} {es:List Expr} {to:TE} {t:TA} {name:Str} {apos cpos:Pos} {T id:String} {r:V→List V→Hp→VK→Prop}
theorem bo0(pa:PlainAttrs T)(slot:Slot T name id)(hty:typeOf (.builtin id)=pure (.type "method_descriptor"))(hm:MtR X id r)(ho:PE X o to)
  (hbase:attributeBase o name X.env (eval o X.env)=eval o X.env:=by rfl) (hline:(apos.endLine==cpos.line)=true:=by rfl):PE X (.Call (.Attribute o name apos) [] [] cpos) (c06 X.K T r to):=by
 intro pins s σ H Q I h;refine wpAny_Call_method0_late hbase hline (thn (ho pins s σ H _ I h) fun v s1⟨x,H1,I1,r1,ty,q1⟩=>?_);obtain⟨h1,h2⟩:=bn5 I1 r1 ty;exact⟨T,id,pa,slot,hty,h1,h2,Calls.callWith_builtin rfl (PySem.evalArgs_none (hm pins s1 σ H1 x [] v [] Q I1 r1 .nil q1))⟩
theorem cw4(pa:PlainAttrs T)(slot:Slot T name id)(hty:typeOf (.builtin id)=pure (.type "method_descriptor"))(hm:MtR X id r)(ho:PE X o to)(ha:PA X (e::es) t)
  (hbase:attributeBase o name X.env (eval o X.env)=eval o X.env:=by rfl)
  (hfew:((backTo cpos (starEach (e::es) X.env)).all (fun x=>!x.1)&&(backToKw cpos (keywordEach [] X.env)).all (fun x=>x.1.isSome)
   &&decide ((e::es).length+([]:List Keyword).length+(if([]:List Keyword).isEmpty then 0 else 1)<30))=true:=by rfl)
  (hline:(apos.endLine==cpos.line)=true:=by rfl) (hs:starEach (e::es) X.env=(false,eval e X.env)::starEach es X.env:=by rfl) (hplain:(backTo cpos (starEach es X.env)).any (·.1)=false:=by rfl) :
  PE X (.Call (.Attribute o name apos) (e::es) [] cpos) (tBM X.K T r to t):=by
 intro pins s σ H Q I h;refine wpAny_Call_method_late hbase hfew hline rfl (thn (ho pins s σ H _ I h) fun v s1⟨x,H1,I1,r1,ty,q1⟩=>?_);obtain⟨h1,h2⟩:=bn5 I1 r1 ty;refine⟨T,id,pa,slot,hty,h1,h2,?_⟩;have hA:=ha cpos pins s1 σ H1 _ I1 q1;rw[hs]at hA ⊢;refine Calls.callWith_builtin (by show(false||(backTo cpos (starEach es X.env)).any (·.1))=false;rw[hplain]<;>rfl) (Calls.evalArgs_plain ?_);exact thn hA fun us s2⟨vs,H2,I2,r2,q2⟩=>hm pins s2 σ H2 x vs v us Q I2 r1 r2 q2
end
end L2
namespace L2
open PySem PySem.Spec PyProof.Rows
noncomputable def MtM(X:Cx)(id:String)(r:V→List V→Hp→VK→Prop):Prop:=
 ∀(pins:List (Addr×Obj))(s:Shared)(σ:St)(H:Hp)(x:V)(xs:List V)(v:Value)(us:List Value)(Q:VK),Inv X pins σ H s→i6 x v→e9 xs us→r x xs H Q →
  wpAny (model X.prog X.w) X.A (call (.builtin id) (v::us)) (EP X pins σ Q) X.xe s
theorem e9.one:∀{x:V}{us:List Value},e9 [x] us→∃u,us=[u]∧i6 x u
 |_,_,.cons r .nil=>⟨_,rfl,r⟩
theorem e9.two{x y:V}{us:List Value}(h:e9 [x,y] us):∃u v,us=[u,v]∧i6 x u∧i6 y v:=by
 cases h with|cons r t=>cases t with|cons q t=>cases t;exact⟨_,_,rfl,r,q⟩
theorem e9.zero:∀{us:List Value},e9 [] us→us=[]
 |_,.nil=>rfl
theorem e9.dropLast{xs:List V}{us:List Value}(h:e9 xs us):e9 xs.dropLast us.dropLast:=by
 induction h with
 |nil=>exact .nil
 |cons r t ih=>
  cases t with
  |nil=>exact .nil
  |cons q t'=>exact .cons r ih
theorem e9.eraseIdx:∀{xs:List V}{us:List Value}(i:Nat),e9 xs us→e9 (xs.eraseIdx i) (us.eraseIdx i)
 |_,_,_,.nil=>.nil
 |_,_,0,.cons _ t=>t
 |_,_,i+1,.cons r t=>.cons r (e9.eraseIdx i t)
theorem e9.reverse{xs:List V}{us:List Value}(h:e9 xs us):e9 xs.reverse us.reverse:=by
 induction h with
 |nil=>exact .nil
 |cons r t ih=>rw[List.reverse_cons,List.reverse_cons];exact e9.append ih (.cons r .nil)
theorem bz4{α:Type}(l:List α):l.eraseIdx (l.length-1)=l.dropLast:=by
 induction l with
 |nil=>rfl
 |cons a r ih=>
  cases r with
  |nil=>rfl
  |cons b r=>
   have e:(a::b::r).length-1=((b::r).length-1)+1:=by
    have h1:(a::b::r).length=r.length+2:=rfl;have h2:(b::r).length=r.length+1:=rfl;omega
   rw[e,List.eraseIdx_cons_succ,ih]
   all_goals rfl
theorem bc0{α:Type}:∀(l:List α)(i:Nat),(l.eraseIdx i).length≤l.length
 |[],_=>Nat.le_refl _
 |_::_,0=>Nat.le_succ _
 |_::r,i+1=>Nat.succ_le_succ (bc0 r i)
section
variable {X:Cx} {pins:List (Addr×Obj)} {σ:St} {H:Hp} {s:Shared} {l b:Addr} {xs ys zs:List V}
theorem Inv.lset{its its':List Value}{n:Nat}{f:Array Value→Array Value}{t':Nat}(I:Inv X pins σ H s)(hH:H l=some (.lst xs))
  (e:s.heap.get? l=some {cls:=.type "list",data:=.seq its.toArray n}) (hf:f its.toArray=its'.toArray) (hv:e9 ys its') (hz:ys.length≤sizeLine) :
  Inv X pins σ (upd H l (.lst ys)) {s with heap:=s.heap.update l (Obj.mapSeq f),toks:=t'}:=by
 have q:=PySem.IsL.update e f;rw[hf]at q;refine I.write (x:=l) (e:=l) (by rw[hH];exact trivial) (.inl rfl) (fun b' u hb hu=>(Heap.get?_update_other s.heap (Obj.mapSeq f) (Ne.symm hb)).trans hu) ⟨_,q⟩ ?_;exact⟨hz,its',_,hv,q⟩
theorem Inv.lnew{its:List Value}{t':Nat}(I:Inv X pins σ H s)(hv:e9 ys its)(hz:ys.length≤sizeLine):
  Inv X pins σ (upd H s.heap.objs.size (.lst ys)) {s with heap:=s.heap.push {cls:=.type "list",data:=.seq its.toArray},toks:=t'}:=
 I.laid (fun _ _ q=>Heap.get?_push_of_some _ q) (Nat.le_refl _) ⟨hz,its,0,hv,Heap.get?_push_size _ rfl⟩
theorem Inv.fresh(I:Inv X pins σ H s):H s.heap.objs.size=none:=I.hok.fresh (Nat.le_refl _)
theorem Inv.lstM(I:Inv X pins σ H s)(hH:H l=some (.lst xs)):xs.length≤sizeLine∧∃(its:List Value)(n:Nat),e9 xs its∧xs.length=its.length∧s.heap.get? l=some {cls:=.type "list",data:=.seq its.toArray n}:=by
 obtain⟨z,its,n,r,e⟩:=I.hok l _ hH;exact⟨z,its,n,r,r.length,e⟩
theorem bf8{n:Nat}(h:n≤sizeLine):Builtin.List.listTooLong n=false:=by
 unfold Builtin.List.listTooLong;exact decide_eq_false (by omega)
end
section
variable {X:Cx}
noncomputable def cg8:V→List V→Hp→VK→Prop:=fun x vs H Q=>∃l xs y,x=.ref l∧vs=[y]∧H l=some (.lst xs)∧xs.length<sizeLine∧Q .non (upd H l (.lst (xs++[y])))
theorem bc4:MtM X "list.append" cg8:=by
 intro pins s σ H x vs v us Q I rx rv h;obtain⟨l,xs,y,rfl,rfl,hH,hz,q⟩:=h;cases rx;obtain⟨u,rfl,ru⟩:=rv.one;obtain⟨z,its,n,r,hl,e⟩:=I.lstM hH;refine call_meets F.slot_list_append ⟨_,e,rfl⟩ F.entry_list_append (F.args_list_append_2 _ _) (PySem.list_append l its.toArray n u (by rw[List.size_toArray];omega)) ⟨e,?_⟩;refine⟨.non,_,I.lset (its':=its++[u]) hH e (by simp) (r.append (.cons ru .nil)) ?_,rfl,q⟩;rw[List.length_append,List.length_singleton];omega
noncomputable def bi0:V→List V→Hp→VK→Prop:=fun x vs H Q=>∃l b xs zs,x=.ref l∧vs=[.ref b]∧H l=some (.lst xs)∧H b=some (.lst zs)∧xs.length+zs.length≤sizeLine∧Q .non (upd H l (.lst (xs++zs)))
theorem b27:MtM X "list.extend" bi0:=by
 intro pins s σ H x vs v us Q I rx rv h;obtain⟨l,b,xs,zs,rfl,rfl,hH,hB,hz,q⟩:=h;cases rx;obtain⟨u,rfl,ru⟩:=rv.one;cases ru;obtain⟨z,its,n,r,hl,e⟩:=I.lstM hH;obtain⟨z2,its2,n2,r2,hl2,e2⟩:=I.lstM hB;have hsz:its.toArray.size+its2.toArray.size≤sizeLine:=by rw[List.size_toArray,List.size_toArray];omega
 have hlong:¬(!its.toArray.isEmpty&&Builtin.List.listTooLong (its.toArray.size+its2.toArray.size))=true:=by
  rw[bf8 hsz,Bool.and_false];exact Bool.false_ne_true
 refine call_meets F.slot_list_extend ⟨_,e,rfl⟩ F.entry_list_extend (F.args_list_extend_2 _ _)
  (AutoSeq1.list_extend_list_list_0 l its.toArray n b its2.toArray n2 hlong (by rw[List.size_toArray];omega) (by omega)) ⟨e,e2,?_⟩
 refine⟨.non,_,I.lset (its':=its++its2) hH e (by simp) (r.append r2) ?_,rfl,q⟩;rw[List.length_append];omega
noncomputable def c56:V→List V→Hp→VK→Prop:=fun x vs H Q=>∃l xs y,x=.ref l∧vs=[]∧H l=some (.lst xs)∧xs[xs.length-1]?=some y∧Q y (upd H l (.lst xs.dropLast))
theorem cq5:MtM X "list.pop" c56:=by
 intro pins s σ H x vs v us Q I rx rv h;obtain⟨l,xs,y,rfl,rfl,hH,hy,q⟩:=h;cases rx;have hus:=rv.zero;subst hus;obtain⟨z,its,n,r,hl,e⟩:=I.lstM hH;obtain⟨u,hu,ru⟩:=r.get hy;have hy':its.toArray[its.toArray.size-1]?=some u:=by
  show its.toArray[its.length-1]?=some u;rw[←Array.getElem?_toList,←hl];exact hu
 refine call_meets F.slot_list_pop ⟨_,e,rfl⟩ F.entry_list_pop (F.args_list_pop_1 _) (MeetsSeq.list_pop_last l its.toArray n u hy' (by rw[List.size_toArray];omega)) ⟨e,?_⟩;refine⟨y,_,I.lset (its':=its.dropLast) hH e ?_ r.dropLast ?_,ru,q⟩
 ·show its.toArray.eraseIdxIfInBounds (its.toArray.size-1)=its.dropLast.toArray;rw[List.size_toArray,List.eraseIdxIfInBounds_toArray,bz4]
 ·rw[List.length_dropLast];omega
noncomputable def cq1:V→List V→Hp→VK→Prop:=fun x vs H Q=>∃l xs i k y,x=.ref l∧vs=[.int i]∧H l=some (.lst xs)∧-(2^63)≤i∧i<2^63∧seqIndex? i xs.length=some k∧xs[k]?=some y∧Q y (upd H l (.lst (xs.eraseIdx k)))
theorem b93:MtM X "list.pop" cq1:=by
 intro pins s σ H x vs v us Q I rx rv h;obtain⟨l,xs,i,k,y,rfl,rfl,hH,h1,h2,hk,hy,q⟩:=h;cases rx;obtain⟨u,rfl,ru⟩:=rv.one;obtain⟨t,rfl⟩:=ru;obtain⟨z,its,n,r,hl,e⟩:=I.lstM hH;obtain⟨w,hw,rw'⟩:=r.get hy;refine call_meets F.slot_list_pop ⟨_,e,rfl⟩ F.entry_list_pop (F.args_list_pop_2 _ _)
  (MeetsSeq.list_pop_at l its.toArray n i t k w (fitsIndex_both h1 h2) (by rw[List.size_toArray,←hl];exact hk) (by rw[←Array.getElem?_toList];exact hw) (by rw[List.size_toArray];omega)) ⟨e,?_⟩
 refine⟨y,_,I.lset (its':=its.eraseIdx k) hH e ?_ (r.eraseIdx k) ?_,rw',q⟩
 ·show its.toArray.eraseIdxIfInBounds k=(its.eraseIdx k).toArray;rw[List.eraseIdxIfInBounds_toArray]
 ·have:=bc0 xs k;omega
noncomputable def c34:R2:=fun x y H Q=>∃l b xs zs,x=.ref l∧y=.ref b∧H l=some (.lst xs)∧H b=some (.lst zs)∧xs.length+zs.length≤sizeLine∧∀p,H p=none→Q (.ref p) (upd H p (.lst (xs++zs)))
theorem cp8:OpR X (binaryOp .Add) c34:=by
 intro pins s σ H x y v u Q I rx ry h;obtain⟨l,b,xs,zs,rfl,rfl,hH,hB,hz,q⟩:=h;cases rx;cases ry;obtain⟨z,its,n,r,hl,e⟩:=I.lstM hH;obtain⟨z2,its2,n2,r2,hl2,e2⟩:=I.lstM hB;refine PySem.P.add_list e e2 ?_ (by rw[List.size_toArray,List.size_toArray];omega);have ea:its.toArray++its2.toArray=(its++its2).toArray:=by simp
 rw[ea];exact⟨.ref _,_,I.lnew (t':=s.toks) (r.append r2) (by rw[List.length_append];omega),rfl,q _ I.fresh⟩
end
end L2
namespace L2
open PySem PySem.Spec PyProof.Rows
section
variable {κ:Type} [DecidableEq κ]
noncomputable def o9(kvs:List (κ×V))(k:κ):Option V:=(kvs.find? fun kv=>decide (kv.1=k)).map (·.2)
noncomputable def u4(kvs:List (κ×V))(k:κ)(v:V):List (κ×V):=
 if(kvs.any fun kv=>decide (kv.1=k))=true then kvs.map (fun kv=>if kv.1=k then(kv.1,v)else kv)else kvs++[(k,v)]
theorem az0{p:κ×V}{r:List (κ×V)}{k:κ}(e:p.1=k):o9 (p::r) k=some p.2:=by simp[o9,List.find?_cons,e]
theorem ay9{p:κ×V}{r:List (κ×V)}{k:κ}(e:¬p.1=k):o9 (p::r) k=o9 r k:=by simp[o9,List.find?_cons,e]
theorem ay1(k:κ):∀kvs:List (κ×V),(kvs.any fun kv=>decide (kv.1=k))=(o9 kvs k).isSome
 |[]=>rfl
 |p::r=>by
  rw[List.any_cons]
  by_cases e:p.1=k
  ·simp only[az0 e,decide_eq_true e,Bool.true_or,Option.isSome_some]
  ·rw[ay9 e,decide_eq_false e,Bool.false_or];exact ay1 k r
theorem aw2(kvs:List (κ×V))(k:κ)(v:V):(u4 kvs k v).length≤kvs.length+1:=by
 unfold u4
 split
 ·rw[List.length_map];omega
 ·rw[List.length_append,List.length_cons,List.length_nil];omega
theorem b63{kvs:List (κ×V)}{k:κ}(v:V)(h:o9 kvs k=none):u4 kvs k v=kvs++[(k,v)]:=by
 unfold u4;rw[ay1,h];exact if_neg (by decide)
theorem z0.isSome_eq{o:Option V}{u:Option Value}(r:z0 o u):o.isSome=u.isSome:=by
 cases o with
 |none=>cases u with
  |none=>rfl
  |some _=>exact(show False from r).elim
 |some _=>cases u with
  |none=>exact(show False from r).elim
  |some _=>rfl
theorem z0.getD{o:Option V}{u:Option Value}{d:V}{d':Value}(r:z0 o u)(rd:i6 d d'):i6 (o.getD d) (u.getD d'):=by
 cases o with
 |none=>cases u with
  |none=>exact rd
  |some _=>exact(show False from r).elim
 |some _=>cases u with
  |none=>exact(show False from r).elim
  |some _=>exact r
theorem KV.val{kvs:List (κ×V)}{vs:List (κ×Value)}(r:KV kvs vs)(k:κ):z0 (o9 kvs k) (valueAt vs k):=by
 unfold KV at r
 induction r with
 |nil=>exact True.intro
 |@cons p q ps qs h t ih=>
  obtain⟨h1,h2⟩:=h
  by_cases e:p.1=k
  ·have e':q.1=k:=h1.symm.trans e;have b:valueAt (q::qs) k=some q.2:=by simp[valueAt,List.find?_cons,e']
   rw[az0 e,b];exact h2
  ·have e':¬q.1=k:=fun z=>e (h1.trans z);have b:valueAt (q::qs) k=valueAt qs k:=by simp[valueAt,List.find?_cons,e']
   rw[ay9 e,b];exact ih
theorem KV.any{kvs:List (κ×V)}{vs:List (κ×Value)}(r:KV kvs vs)(k:κ):(kvs.any fun kv=>decide (kv.1=k))=vs.any fun kv=>decide (kv.1=k):=by
 unfold KV at r
 induction r with
 |nil=>rfl
 |cons h t ih=>rw[List.any_cons,List.any_cons,ih,h.1]
theorem KV.repl{kvs:List (κ×V)}{vs:List (κ×Value)}(r:KV kvs vs)(k:κ){y:V}{u:Value}(ry:i6 y u):
  KV (kvs.map fun kv=>if kv.1=k then(kv.1,y)else kv) (vs.map fun kv=>if kv.1=k then(kv.1,u)else kv):=by
 unfold KV at r ⊢
 induction r with
 |nil=>exact .nil
 |@cons p q ps qs h t ih=>
  rw[List.map_cons,List.map_cons];refine .cons ?_ ih;obtain⟨h1,h2⟩:=h
  by_cases e:p.1=k
  ·rw[if_pos e,if_pos (h1.symm.trans e)];exact⟨h1,ry⟩
  ·rw[if_neg e,if_neg (fun z=>e (h1.trans z))];exact⟨h1,h2⟩
theorem KV.put{kvs:List (κ×V)}{vs:List (κ×Value)}(r:KV kvs vs)(k:κ){y:V}{u:Value}(ry:i6 y u):KV (u4 kvs k y) (stored vs k u):=by
 unfold u4 stored;rw[r.any k]
 by_cases e:(vs.any fun kv=>decide (kv.1=k))=true
 ·rw[if_pos e,if_pos e];exact r.repl k ry
 ·rw[if_neg e,if_neg e];exact Paired.snoc r ⟨rfl,ry⟩
theorem KV.length{kvs:List (κ×V)}{vs:List (κ×Value)}(r:KV kvs vs):kvs.length=vs.length:=Paired.length r
end
theorem U5{P:Program}{w:World}{k:Key}{u:Value}(r:i6 (kV k) u):(E9 P w).is k u=true:=by
 cases k with
 |inl i=>obtain⟨t,e⟩:=(show ∃t,u=Value.int i t from r);subst e;exact bw9 P w i t
 |inr x=>obtain⟨t,e⟩:=(show ∃t,u=Value.str x t from r);subst e;exact bx2 P w x t
noncomputable abbrev KT(H:Hp):List (PyData×V)→List (PyData×Addr×Value)→Prop:=Paired fun p q=>p.1=q.1∧D8 H p.1 q.2.1∧i6 p.2 q.2.2
theorem KT.val{H:Hp}{kvs:List (PyData×V)}{xs:List (PyData×Addr×Value)}(r:KT H kvs xs)(k:PyData):z0 (o9 kvs k) ((atKey xs k).map (·.2)):=by
 induction r with
 |nil=>exact True.intro
 |@cons p q ps qs h t ih=>
  obtain⟨h1,_,h2⟩:=h
  by_cases e:p.1=k
  ·have e':q.1=k:=h1.symm.trans e;have b:atKey (q::qs) k=some q.2:=by simp[atKey,List.find?_cons,e']
   rw[az0 e,b];exact h2
  ·have e':¬q.1=k:=fun z=>e (h1.trans z);have b:atKey (q::qs) k=atKey qs k:=by simp[atKey,List.find?_cons,e']
   rw[ay9 e,b];exact ih
theorem KT.repl{H:Hp}{kvs:List (PyData×V)}{xs:List (PyData×Addr×Value)}(r:KT H kvs xs)(k:PyData){y:V}{u:Value}(ry:i6 y u):
  KT H (kvs.map fun kv=>if kv.1=k then(kv.1,y)else kv) (xs.map (putAt k u)):=by
 induction r with
 |nil=>exact .nil
 |@cons p q ps qs h t ih=>
  rw[List.map_cons,List.map_cons];refine .cons ?_ ih;obtain⟨h1,h2,h3⟩:=h;unfold putAt
  by_cases e:p.1=k
  ·rw[if_pos e,if_pos (h1.symm.trans e)];exact⟨h1,h2,ry⟩
  ·rw[if_neg e,if_neg (fun z=>e (h1.trans z))];exact⟨h1,h2,h3⟩
theorem KT.put{H:Hp}{kvs:List (PyData×V)}{xs:List (PyData×Addr×Value)}(r:KT H kvs xs)(k:PyData){b:Addr}{y:V}{u:Value}(hb:D8 H k b)(ry:i6 y u):
  KT H (u4 kvs k y) (storedH xs k b u):=by
 have e:(kvs.any fun kv=>decide (kv.1=k))=(atKey xs k).isSome:=by
  rw[ay1,(r.val k).isSome_eq,Option.isSome_map]
 unfold u4 storedH;rw[e]
 by_cases q:(atKey xs k).isSome=true
 ·rw[if_pos q,if_pos q];exact r.repl k ry
 ·rw[if_neg q,if_neg q];exact Paired.snoc r ⟨rfl,hb,ry⟩
theorem KT.keeps{H H':Hp}{kvs:List (PyData×V)}{xs:List (PyData×Addr×Value)}(r:KT H kvs xs)(ht:∀b ys,H b=some (.tup ys)→H' b=some (.tup ys)):KT H' kvs xs:=
 Paired.mapP r fun _ _ z=>⟨z.1,z.2.1.keeps ht,z.2.2⟩
section
variable {P:Program} {w:World} {H:Hp} {h:Heap} {a:Addr}
theorem bq8{u:HO}(ok:HOk P w H h)(e:Rd H a u):m8 P w H h a u:=e.ok ok
theorem Q0{kvs:List (Key×V)}(ok:HOk P w H h)(e:Rd H a (.dK kvs)):kvs.length≤sizeLine∧(a==sysModules)=false∧∃vs,KV kvs vs∧h.DictOf (E9 P w) a vs:=
 show m8 P w H h a (.dK kvs) from bq8 ok e
theorem bq5{kvs:List (Key×V)}(ok:HOk P w H h)(e:H a=some (.dK kvs)):kvs.length≤sizeLine∧(a==sysModules)=false∧∃vs,KV kvs vs∧h.DictOf (E9 P w) a vs:=Q0 ok (.inl e)
theorem b26(ok:HOk P w H h):∀(n:Nat)(d:PyData),d.depth≤n→∀{v:V}{u:Value},HRd H d v→i6 v u→∃as,Reads h u d as:=by
 have all:∀n,(∀d:PyData,d.depth≤n→∀{v:V}{u:Value},HRd H d v→i6 v u→∃as,Reads h u d as)→∀(ds:List PyData),PyData.depthAll ds≤n→∀{vs:List V}{us:List Value},J7 H ds vs→e9 vs us→∃as,ReadsAll h us ds as:=fun n ih ds=>by
  induction ds with
  |nil=>
   intro _ vs us q r;obtain rfl:vs=[]:=q;cases r;exact⟨_,.nil⟩
  |cons d ds ihd=>
   intro hd vs us q r;obtain⟨v,vr,rfl,q1,q2⟩:=q;have hd':max d.depth (PyData.depthAll ds)≤n:=hd;cases r with
   |cons r1 r2=>
    obtain⟨a1,x1⟩:=ih d (by omega) q1 r1;obtain⟨a2,x2⟩:=ihd (by omega) q2 r2;exact⟨_,.cons x1 x2⟩
 intro n
 induction n with
 |zero=>
  intro d hd v u q r;cases d with
  |int i=>obtain rfl:v=.int i:=q;obtain⟨t,rfl⟩:=(show ∃t,u=Value.int i t from r);exact⟨_,.int _ _⟩
  |str x=>obtain rfl:v=.str x:=q;obtain⟨t,rfl⟩:=(show ∃t,u=Value.str x t from r);exact⟨_,.str _ _⟩
  |tuple ds=>rw[NK.depth_tup]at hd;omega
  |none=>exact q.elim
  |bool _=>exact q.elim
  |list _=>exact q.elim
  |dict _=>exact q.elim
 |succ n ih=>
  intro d hd v u q r;cases d with
  |int i=>obtain rfl:v=.int i:=q;obtain⟨t,rfl⟩:=(show ∃t,u=Value.int i t from r);exact⟨_,.int _ _⟩
  |str x=>obtain rfl:v=.str x:=q;obtain⟨t,rfl⟩:=(show ∃t,u=Value.str x t from r);exact⟨_,.str _ _⟩
  |none=>exact q.elim
  |bool _=>exact q.elim
  |list _=>exact q.elim
  |dict _=>exact q.elim
  |tuple ds=>
   rw[NK.depth_tup]at hd;obtain⟨b,vs,rfl,q1,q2⟩:=q;cases(show u=Value.ref b from r);obtain⟨_,its,rv,o,h1,h2,_,m,h3⟩:=(show m8 P w H h b (.tup vs) from ok b _ q1);obtain⟨as,x⟩:=all n ih ds (by omega) q2 rv;exact⟨_,.tuple h1 h2 h3 (by simpa using x)⟩
theorem G8{k:PyData}(ok:HOk P w H h)(e:D8 H k a):(NK.dataKind P w).is h k a:=⟨e.1,e.2.1,b26 ok 7 k e.2.1 e.2.2 rfl⟩
theorem P7{kvs:List (PyData×V)}(ok:HOk P w H h)(e:Rd H a (.dT kvs)):kvs.length≤sizeLine∧(a==sysModules)=false ∧
  ∃xs,KT H kvs xs∧h.DictOfH (NK.dataKind P w) a xs:=by
 obtain⟨z,y,xs,r,o,es,ep,h1,h2,h3,h4,h5⟩:=(show m8 P w H h a (.dT kvs) from bq8 ok e);refine⟨z,y,xs,r,o,es,ep,h1,h2,h3,h4,fun x hx=>?_,h5⟩;have all:∀{l:List (PyData×V)}{m:List (PyData×Addr×Value)},KT H l m→∀x∈m,(NK.dataKind P w).is h x.1 x.2.1:=by
  intro l m q
  induction q with
  |nil=>intro x hx;exact nomatch hx
  |@cons p q ps qs hq t ih=>
   intro x hx
   rcases List.mem_cons.mp hx with e|hx
   ·subst e;exact G8 ok (by rw[←hq.1];exact hq.2.1)
   ·exact ih x hx
 exact all r x hx
theorem cy4{kvs:List (PyData×V)}(ok:HOk P w H h)(e:H a=some (.dT kvs)):kvs.length≤sizeLine∧(a==sysModules)=false ∧
  ∃xs,KT H kvs xs∧h.DictOfH (NK.dataKind P w) a xs:=P7 ok (.inl e)
end
noncomputable def u9(H:Hp)(a:Addr)(y:V)(r:Option V):Prop:=
 (∃kvs k,Rd H a (.dK kvs)∧y=kV k∧r=o9 kvs k)∨∃kvs k b,Rd H a (.dT kvs)∧y=.ref b∧D8 H k b∧r=o9 kvs k
noncomputable def Z9(H:Hp)(a:Addr)(y v:V)(H':Hp):Prop:=
 (∃kvs k,H a=some (.dK kvs)∧y=kV k∧kvs.length<sizeLine∧H'=upd H a (.dK (u4 kvs k v)))∨
 ∃kvs k b,H a=some (.dT kvs)∧y=.ref b∧D8 H k b∧kvs.length<sizeLine∧H'=upd H a (.dT (u4 kvs k v))
theorem u9.k{H:Hp}{a:Addr}{kvs:List (Key×V)}{k:Key}(e:H a=some (.dK kvs)):u9 H a (kV k) (o9 kvs k):=.inl ⟨kvs,k,.inl e,rfl,rfl⟩
theorem u9.t{H:Hp}{a b:Addr}{kvs:List (PyData×V)}{k:PyData}(e:H a=some (.dT kvs))(eb:D8 H k b):u9 H a (.ref b) (o9 kvs k):=.inr ⟨kvs,k,b,.inl e,rfl,eb,rfl⟩
theorem Z9.t{H:Hp}{a b:Addr}{kvs:List (PyData×V)}{k:PyData}{v:V}(e:H a=some (.dT kvs))(eb:D8 H k b)(hl:kvs.length<sizeLine):
  Z9 H a (.ref b) v (upd H a (.dT (u4 kvs k v))):=.inr ⟨kvs,k,b,e,rfl,eb,hl,rfl⟩
section
variable {X:Cx} {pins:List (Addr×Obj)} {σ:St} {H:Hp} {s:Shared} {a:Addr} {y v:V} {u r:Value} {o:Option V} {A:Around} {E:Value→Shared→Prop}
theorem Inv.big(I:Inv X pins σ H s):sysModules<s.heap.objs.size:=by
 have h:mainGlobals<s.heap.objs.size:=(I.mod.glob.keeps I.bk).lt;exact Nat.lt_trans (by decide) h
theorem bb8{Q:Value→Shared→Prop}(hu:A.units+20<cLine)(I:Inv X pins σ H s)(g:u9 H a y (some v))(ry:i6 y u)(h:∀w' s',Inv X pins σ H s'→i6 v w'→Q w' s'):
  wpAny (model X.prog X.w) A (getItem (.ref a) u) Q E s:=by
 rcases g with⟨kvs,k,e,ey,l⟩|⟨kvs,k,b,e,ey,eb,l⟩
 ·subst ey;obtain⟨z,hd,vs,rel,dd⟩:=Q0 I.hok e;obtain⟨w',hw,rw'⟩:=z0.some_of (v:=v) (o:=valueAt vs k) (by rw[l];exact rel.val k);exact wpAny_getItem_of (U5 ry) dd.mapOf hw (h w' _ (I.tok _) rw')
 ·subst ey;cases(show u=Value.ref b from ry);obtain⟨z,hd,xs,rel,dd⟩:=P7 I.hok e;obtain⟨w',hw,rw'⟩:=z0.some_of (v:=v) (o:=(atKey xs k).map (·.2)) (by rw[l];exact rel.val k);obtain⟨p,hp,hp2⟩:=Option.map_eq_some_iff.mp hw;refine wpAny_getItem_heap (NK.dataKind_room_in1 hu) (G8 I.hok eb) dd hp ?_;rw[hp2];exact h w' _ (I.tok _) rw'
theorem bs1{Q:Value→Shared→Prop}(hu:A.units+20<cLine)(I:Inv X pins σ H s)(g:u9 H a y o)(ry:i6 y u)(h:∀s',Inv X pins σ H s'→Q (.bool o.isSome) s'):
  wpAny (model X.prog X.w) A (compareOp .In u (.ref a)) Q E s:=by
 rcases g with⟨kvs,k,e,ey,l⟩|⟨kvs,k,b,e,ey,eb,l⟩
 ·subst ey;obtain⟨z,hd,vs,rel,dd⟩:=Q0 I.hok e;refine wpAny_in_of (U5 ry) hd dd.mapOf ?_;rw[←(rel.val k).isSome_eq,←l];exact h _ (I.tok _)
 ·subst ey;cases(show u=Value.ref b from ry);obtain⟨z,hd,xs,rel,dd⟩:=P7 I.hok e;refine wpAny_in_heap (NK.dataKind_room_in1 hu) (G8 I.hok eb) hd dd ?_;have q:=(rel.val k).isSome_eq;rw[Option.isSome_map]at q;rw[←q,←l];exact h _ (I.tok _)
theorem bl9{Q:Value→Shared→Prop}(hu:A.units+20<cLine)(I:Inv X pins σ H s)(g:u9 H a y o)(ry:i6 y u)(h:∀s',Inv X pins σ H s'→Q (.bool (!o.isSome)) s'):
  wpAny (model X.prog X.w) A (compareOp .NotIn u (.ref a)) Q E s:=by
 rcases g with⟨kvs,k,e,ey,l⟩|⟨kvs,k,b,e,ey,eb,l⟩
 ·subst ey;obtain⟨z,hd,vs,rel,dd⟩:=Q0 I.hok e;refine wpAny_notIn_of (U5 ry) hd dd.mapOf ?_;rw[←(rel.val k).isSome_eq,←l];exact h _ (I.tok _)
 ·subst ey;cases(show u=Value.ref b from ry);obtain⟨z,hd,xs,rel,dd⟩:=P7 I.hok e;refine wpAny_notIn_heap (NK.dataKind_room_in1 hu) (G8 I.hok eb) hd dd ?_;have q:=(rel.val k).isSome_eq;rw[Option.isSome_map]at q;rw[←q,←l];exact h _ (I.tok _)
theorem a30{h':Heap}{t':Nat}{ob:HO}(I:Inv X pins σ H s)(mu:Mut (H a))(hs:Heap.SameBut a s.heap h')(he:∃q,h'.get? a=some q)(new:m8 X.prog X.w (upd H a ob) h' a ob):
  Inv X pins σ (upd H a ob) {s with heap:=h',toks:=t'}:=
 I.write (x:=a) (e:=a) mu (.inl rfl) (fun b q hb z=>(hs.2 b hb).trans z) he new
theorem bq3{P:Program}{w:World}{H':Hp}{h':Heap}{kvs:List (Key×V)}{vs:List (Key×Value)}(z:kvs.length≤sizeLine)(hd:(a==sysModules)=false)(rel:KV kvs vs)(dd:h'.DictOf (E9 P w) a vs):
  m8 P w H' h' a (.dK kvs):=⟨z,hd,vs,rel,dd⟩
theorem b05{H':Hp}{Q:Unit→Shared→Prop}(hu:A.units+20<cLine)(I:Inv X pins σ H s)(g:Z9 H a y v H')(ry:i6 y u)(rv:i6 v r)(h:∀s',Inv X pins σ H' s'→Q () s'):
  wpAny (model X.prog X.w) A (setItem (.ref a) u r) Q E s:=by
 rcases g with⟨kvs,k,e,ey,l,eH⟩|⟨kvs,k,b,e,ey,eb,l,eH⟩
 ·subst ey eH;obtain⟨z,hd,vs,rel,dd⟩:=bq5 I.hok e;have hz:vs.length≤sizeLine:=by rw[←rel.length];exact z
  have hl:(u4 kvs k v).length≤sizeLine:=by have:=aw2 kvs k v;omega
  refine wpAny_setItem_pairs (hsz:=hz) (U5 ry) dd fun h' dd' hs=>h _ ?_;have he:∃q,h'.get? a=some q:=let⟨q,_,_,hq,_⟩:=dd';⟨q,hq⟩;exact a30 I (by rw[e];exact True.intro) hs he (bq3 hl hd (rel.put k rv) dd')
 ·subst ey eH;cases(show u=Value.ref b from ry);obtain⟨z,hd,xs,rel,dd⟩:=cy4 I.hok e;have hz:xs.length≤sizeLine:=by rw[←Paired.length rel];exact z
  have hl:(u4 kvs k v).length≤sizeLine:=by have:=aw2 kvs k v;omega
  refine wpAny_setItem_heap (hsz:=hz) (NK.dataKind_room_in1 hu) (G8 I.hok eb) dd fun h' dd' hs=>h _ ?_;obtain⟨q,es,ep,hq,h2,h3,h4,_,h5⟩:=dd';refine a30 I (by rw[e];exact True.intro) hs ⟨q,hq⟩ ⟨hl,hd,_,(rel.put k eb rv).keeps fun c ys ec=>?_,q,es,ep,hq,h2,h3,h4,h5⟩;rw[i8 (cx1 ec e (fun z=>nomatch z))];exact ec
end
noncomputable def bs0(i:Expr):Prop:=∀ov iv,subscripted i false ov iv=operate [ov,iv] (getItem ov iv)
theorem ca9{prog:Program}{w:World}{A:Around}{E:Value→Shared→Prop}{s:Shared}{env:Env}{value slice:Expr}{pos:Pos}{T id:String}{Q:Value→Shared→Prop}
  (hl:typeLookup (.type T) "__getitem__"=pure (some (.builtin id))) (hs:bs0 slice)
  (h:wpAny (model prog w) A (eval value env) (fun o s₁=>wpAny (model prog w) A (eval slice env) (fun i s₂=>s₂.TypeIs o T∧wpAny (model prog w) A (getItem o i) Q E s₂) E s₁) E s) :
  wpAny (model prog w) A (eval (.Subscript value slice pos) env) Q E s:=by
 refine Subscript_ (wpAny_mono h (fun o s₁ h₁=>wpAny_mono h₁ (fun i s₂ h₂=>?_) fun _ _ x=>x) fun _ _ x=>x);obtain⟨hT,h₂⟩:=h₂;unfold subscriptTail;refine wpAny_bind ?_;rw[getitemInPython_of_ne hT.not_modules];refine wpAny_bind (wpAny_specialOf hT hl ?_);have fin:wpAny (model prog w) A (subscripted slice false o i) (fun r s₃=>wpAny (model prog w) A (letTemporaryGo value o r>>=fun _=>pure r) Q E s₃) E s₂:=by
  rw[hs o i];exact wpAny_operating (wpAny_mono h₂ (fun r s₃ h₃=>wpAny_bind (wpAny_letTemporaryGo (wpAny_pure h₃))) fun _ _ x=>x)
 first
  |exact wpAny_pure (wpAny_bind fin)
  |exact wpAny_bind (wpAny_pure (wpAny_bind fin))
  |exact wpAny_bind fin
theorem a86{X:Cx}{pins:List (Addr×Obj)}{σ:St}{H:Hp}{s:Shared}{a:Addr}{y:V}{o:Option V}(I:Inv X pins σ H s)(g:u9 H a y o):s.TypeIs (.ref a) "dict":=by
 rcases g with⟨kvs,k,e,_,_⟩|⟨kvs,k,b,e,_,_,_⟩
 ·obtain⟨_,_,vs,_,dd⟩:=Q0 I.hok e;exact dd.typeIs
 ·obtain⟨_,_,xs,_,dd⟩:=P7 I.hok e;exact dd.typeIs
noncomputable def cz1(td ty:TE):TE:=fun σ H Q=>td σ H fun x H1=>ty σ H1 fun y H2=>∃a v,x=.ref a∧u9 H2 a y (some v)∧Q v H2
noncomputable def cx2(td ty tv:TE):TS:=fun D σ H=>tv σ H fun v H1=>td σ H1 fun x H2=>ty σ H2 fun y H3=>∃a H4,x=.ref a∧Z9 H3 a y v H4∧D.nx σ H4
section
variable {X:Cx} {o i e value:Expr} {pos pos' tpos:Pos} {td ty tv:TE}
theorem cg7(hu:X.A.units+20<cLine)(ho:PE X o td)(hi:PE X i ty)(hs:bs0 i):PE X (.Subscript o i pos) (cz1 td ty):=by
 intro pins s σ H Q I h;refine ca9 PySem.F.slot_dict_getitem.lookup hs (thn (ho pins s σ H _ I h) fun u s1⟨x,H1,I1,rx,q1⟩=>thn (hi pins s1 σ H1 _ I1 q1) fun iv s2⟨y,H2,I2,ry,a,v,ex,g,q2⟩=>?_);subst ex;obtain rfl:u=Value.ref a:=rx;exact⟨a86 I2 g,bb8 hu I2 g ry fun w' s3 I3 rw'=>⟨v,H2,I3,rw',q2⟩⟩
theorem cg5(hu:X.A.units+20<cLine)(ho:PE X o td)(hi:PE X i ty)(hv:PE X value tv)(hs:swapsWith value (some (.Subscript o i pos')) pos.line X.env=pure false):
  PS X (.Assign [.Subscript o i pos'] value pos) (cx2 td ty tv):=by
 intro pins s σ H D I h;refine wpAny_Assign_Subscript (thn (hv pins s σ H _ I h) fun r s1⟨v,H1,I1,rv,q1⟩=>thn (ho pins s1 σ H1 _ I1 q1) fun u s2⟨x,H2,I2,rx,q2⟩=>thn (hi pins s2 σ H2 _ I2 q2) fun iv s3⟨y,H3,I3,ry,a,H4,ex,g,q3⟩=>?_) hs;subst ex;obtain rfl:u=Value.ref a:=rx;exact b05 hu I3 g ry rv fun s4 I4=>⟨σ,H4,I4,q3⟩
end
theorem b48{P:Program}{w:World}{H:Hp}(h:Heap)(hb:sysModules<h.objs.size):m8 P w H (h.push {cls:=.type "dict",data:=.dict #[]}) h.objs.size (.dK []):=
 ⟨Nat.zero_le _,beq_eq_false_iff_ne.mpr (Ne.symm (Nat.ne_of_lt hb)),[],.nil,Heap.DictOf.new h⟩
theorem b86{P:Program}{w:World}{H:Hp}(h:Heap)(hb:sysModules<h.objs.size):m8 P w H (h.push {cls:=.type "dict",data:=.dict #[]}) h.objs.size (.dT []):=
 ⟨Nat.zero_le _,beq_eq_false_iff_ne.mpr (Ne.symm (Nat.ne_of_lt hb)),[],.nil,_,#[],0,Heap.get?_push_size _ rfl,⟨rfl,rfl,rfl⟩,rfl,rfl,List.nodup_nil⟩
noncomputable def cn0:TE:=fun _ H Q=>∀p,H p=none→Q (.ref p) (upd H p (.dT []))
section
variable {X:Cx} {pos:Pos}
theorem b68:PE X (.Dict [] [] pos) cn0:=fun pins s σ H Q I h=>
 wpAny_Dict_empty ⟨.ref s.heap.objs.size,_,I.laid (a:=s.heap.objs.size) (o:=.dT []) (t':=s.toks) (fun _ _ q=>Heap.get?_push_of_some _ q) (Nat.le_refl _) (b86 s.heap I.big),rfl,h _ (I.hok.fresh (Nat.le_refl _))⟩
end
noncomputable def Y1:List (TE×TE)→St→Hp→(List (V×V)→Hp→Prop)→Prop
 |[],_,H,Q=>Q [] H
 |(tk,tv)::r,σ,H,Q=>tk σ H fun x H1=>tv σ H1 fun y H2=>Y1 r σ H2 fun ps H3=>Q ((x,y)::ps) H3
noncomputable abbrev VV:List (V×V)→List (Value×Value)→Prop:=Paired fun p q=>i6 p.1 q.1∧i6 p.2 q.2
noncomputable def PPs(X:Cx)(pos:Pos)(keys:List (Option Expr))(values:List Expr)(trs:List (TE×TE)):Prop:=
 ∀(pins:List (Addr×Obj))(s:Shared)(σ:St)(H:Hp)(Q:List (V×V)→Hp→Prop),Inv X pins σ H s→Y1 trs σ H Q →
  wpAny (model X.prog X.w) X.A (evalPairs (pairTrees keys values X.env pos)) (fun vs s'=>∃ps H',Inv X pins σ H' s'∧VV ps vs∧Q ps H') X.xe s
theorem ci5{X:Cx}{pos:Pos}:PPs X pos [] [] []:=fun pins s σ H Q I h=>pairTrees_nil_walk ⟨[],H,I,.nil,h⟩
theorem b83{X:Cx}{pos:Pos}{k v:Expr}{ks:List (Option Expr)}{vs:List Expr}{tk tv:TE}{trs:List (TE×TE)}(hk:PE X k tk)(hv:PE X v tv)(hr:PPs X pos ks vs trs):
  PPs X pos (some k::ks) (v::vs) ((tk,tv)::trs):=fun pins s σ H Q I h=>
 pairTrees_cons_walk (thn (hk pins s σ H _ I h) fun u s1⟨x,H1,I1,rx,q1⟩=>thn (hv pins s1 σ H1 _ I1 q1) fun w2 s2⟨y,H2,I2,ry,q2⟩=>
  thn (hr pins s2 σ H2 _ I2 q2) fun ws s3⟨ps,H3,I3,rel,q3⟩=>⟨(x,y)::ps,H3,I3,.cons ⟨rx,ry⟩ rel,q3⟩)
noncomputable def F3(kvs more:List (Key×V)):List (Key×V):=more.foldl (fun acc kv=>u4 acc kv.1 kv.2) kvs
theorem KV.merge:∀{more:List (Key×V)}{rs:List (Key×Value)}{kvs:List (Key×V)}{vs:List (Key×Value)},KV more rs→KV kvs vs→KV (F3 kvs more) (merged vs rs):=by
 intro more rs kvs vs r;unfold KV at r
 induction r generalizing kvs vs with
 |nil=>intro q;exact q
 |@cons p q ps qs h t ih=>
  intro r0;have e:KV (u4 kvs p.1 p.2) (stored vs q.1 q.2):=by
   have:=r0.put p.1 h.2;rw[←h.1];exact this
  exact ih e
theorem a81:∀(more kvs:List (Key×V)),(F3 kvs more).length≤kvs.length+more.length
 |[],kvs=>by show kvs.length≤kvs.length+0;omega
 |p::r,kvs=>by
  have h1:=a81 r (u4 kvs p.1 p.2);have h2:=aw2 kvs p.1 p.2;show(F3 (u4 kvs p.1 p.2) r).length≤_;rw[List.length_cons];omega
theorem a91{P:Program}{w:World}:∀{kvs:List (Key×V)}{ws:List (Value×Value)},VV (kvs.map fun kv=>(kV kv.1,kv.2)) ws→∃rs,Carries (E9 P w) ws rs∧KV kvs rs
 |[],_,r=>by rw[List.map_nil]at r;cases r;exact⟨[],True.intro,.nil⟩
 |p::kvs,_,r=>by
  rw[List.map_cons]at r;cases r with
  |@cons a b as bs h t=>
   obtain⟨rs,c,q⟩:=a91 (P:=P) (w:=w) t;obtain⟨b1,b2⟩:=b;exact⟨(p.1,b2)::rs,⟨U5 h.1,rfl,c⟩,.cons ⟨rfl,h.2⟩ q⟩
noncomputable def cy5(trs:List (TE×TE)):TE:=fun σ H Q=>∀p,H p=none→Y1 trs σ (upd H p (.dK [])) fun ps H2=>H2 p=some (.dK [])∧∃kvs:List (Key×V),ps=kvs.map (fun kv=>(kV kv.1,kv.2))∧kvs.length≤15∧Q (.ref p) (upd H2 p (.dK (F3 [] kvs)))
theorem bj9{X:Cx}{pos:Pos}{keys:List (Option Expr)}{values:List Expr}{trs:List (TE×TE)}(h:PPs X pos keys values trs)(hall:keys.all (·.isSome)=true)(hl:keys.length=values.length)(h0:keys≠[])
  (h15:keys.length≤15):PE X (.Dict keys values pos) (cy5 trs):=by
 intro pins s σ H Q I q;have hn:=I.hok.fresh (Nat.le_refl s.heap.objs.size);have I1:=I.laid (a:=s.heap.objs.size) (o:=.dK []) (h':=s.heap.push {cls:=.type "dict",data:=.dict #[]}) (t':=s.toks) (fun _ _ q=>Heap.get?_push_of_some _ q) (Nat.le_refl _) (b48 s.heap I.big);refine wpAny_Dict_walk (knd:=E9 X.prog X.w) hall hl h0 h15 (thn (h pins _ σ _ _ I1 (q _ hn)) fun ws s2⟨ps,H2,I2,rel,e,kvs,ep,lk,q2⟩=>?_);subst ep;obtain⟨rs,c,rk⟩:=a91 (P:=X.prog) (w:=X.w) rel;obtain⟨z,hd,vs0,r0,dd⟩:=bq5 I2.hok e;cases r0;refine⟨rs,c,dd,fun h' dd' hs=>⟨.ref s.heap.objs.size,_,?_,rfl,q2⟩⟩;have hz:(F3 [] kvs).length≤sizeLine:=by
  have h1:=a81 kvs [];rw[List.length_nil]at h1;rw[sizeLine_eq];omega
 have he:∃q,h'.get? s.heap.objs.size=some q:=let⟨q,_,_,hq,_⟩:=dd';⟨q,hq⟩;exact a30 I2 (by rw[e];exact True.intro) hs he (bq3 hz hd (rk.merge .nil) dd')
structure M1(X:Cx)(o:Expr)(m:Str)(apos:Pos)(e:Expr)(cpos:Pos):Prop where
 base:attributeBase o m X.env (eval o X.env)=eval o X.env
 few:((backTo cpos (starEach [e] X.env)).all (fun x=>!x.1)&&(backToKw cpos (keywordEach [] X.env)).all (fun x=>x.1.isSome)
  &&decide (([e]:List Expr).length+([]:List Keyword).length+(if([]:List Keyword).isEmpty then 0 else 1)<30))=true
 line:(apos.endLine==cpos.line)=true
 trees:backTo cpos (starEach [e] X.env)=[(false,eval e X.env)]
noncomputable def IsD(H:Hp)(a:Addr):Prop:=(∃kvs,Rd H a (.dK kvs))∨∃kvs,Rd H a (.dT kvs)
theorem cp2{X:Cx}{pins:List (Addr×Obj)}{σ:St}{H:Hp}{s:Shared}{a:Addr}(I:Inv X pins σ H s)(d:IsD H a):
  s.TypeIs (.ref a) "dict"∧(∀b,Value.ref a=.ref b→∃ob,s.heap.get? b=some ob∧ob.dict=none)∧(a==sysModules)=false:=by
 rcases d with⟨kvs,e⟩|⟨kvs,e⟩
 ·obtain⟨_,hd,vs,_,dd⟩:=Q0 I.hok e;refine⟨dd.typeIs,fun b q=>?_,hd⟩;cases q;obtain⟨ob,_,_,h1,h2,_⟩:=dd;exact⟨ob,h1,h2.2.1⟩
 ·obtain⟨_,hd,xs,_,dd⟩:=P7 I.hok e;refine⟨dd.typeIs,fun b q=>?_,hd⟩;cases q;obtain⟨ob,_,_,h1,h2,_⟩:=dd;exact⟨ob,h1,h2.2.1⟩
section
variable {X:Cx} {pins:List (Addr×Obj)} {σ:St} {H:Hp} {s:Shared} {a:Addr} {y d:V} {u r:Value} {o:Option V} {A:Around} {E:Value→Shared→Prop}
theorem cr7{Q:Value→Shared→Prop}(hu:A.units+20<cLine)(I:Inv X pins σ H s)(g:u9 H a y o)(ry:i6 y u)(h:∀w' s',Inv X pins σ H s'→i6 (o.getD .non) w'→Q w' s'):
  wpAny (model X.prog X.w) A (call (.builtin "dict.get") [.ref a,u]) Q E s:=by
 rcases g with⟨kvs,k,e,ey,l⟩|⟨kvs,k,b,e,ey,eb,l⟩
 ·subst ey;obtain⟨z,hd,vs,rel,dd⟩:=Q0 I.hok e;refine call_meetsIn PySem.F.slot_dict_get dd.typeIs PySem.F.entry_dict_get (PySem.F.args_dict_get_2 _ _) (meets_dict_get (E9 X.prog X.w) a (U5 ry) hd) ⟨_,dd.mapOf,h _ _ (I.tok _) ?_⟩;rw[l];exact(rel.val k).getD rfl
 ·subst ey;cases(show u=Value.ref b from ry);obtain⟨z,hd,xs,rel,dd⟩:=P7 I.hok e;refine call_meetsIn PySem.F.slot_dict_get dd.typeIs PySem.F.entry_dict_get (PySem.F.args_dict_get_2 _ _) (meetsH_dict_get (NK.dataKind X.prog X.w) a b hd) ⟨NK.dataKind_room_in1 hu,k,xs,G8 I.hok eb,dd,h _ _ (I.tok _) ?_⟩;rw[l];exact(rel.val k).getD rfl
end
noncomputable def cm5(td ty:TE):TE:=fun σ H Q=>td σ H fun x H1=>∃a,x=.ref a∧IsD H1 a∧ty σ H1 fun y H2=>∃o,u9 H2 a y o∧Q (o.getD .non) H2
section
variable {X:Cx} {o e f:Expr} {apos cpos:Pos} {td ty tx:TE}
theorem b98(hu:X.A.units+20<cLine)(ho:PE X o td)(he:PE X e ty)(m:M1 X o "get" apos e cpos):PE X (.Call (.Attribute o "get" apos) [e] [] cpos) (cm5 td ty):=by
 intro pins s σ H Q I h;refine wpAny_Call_method m.base m.few m.line PySem.F.plainAttrs_dict PySem.F.slot_dict_get PySem.F.type_dict_get (thn (ho pins s σ H _ I h) fun u s1⟨x,H1,I1,rx,a,ex,d,q1⟩=>?_);subst ex;obtain rfl:u=Value.ref a:=rx;obtain⟨t1,t2,_⟩:=cp2 I1 d;refine⟨t1,t2,?_⟩;rw[m.trees];refine Calls.callWith_builtin rfl (Calls.evalArgs_plain (Calls.spliced_cons (thn (he pins s1 σ H1 _ I1 q1) fun iv s2⟨y,H2,I2,ry,ov,g,q2⟩=>Calls.spliced_nil ?_)));exact cr7 hu I2 g ry fun w' s3 I3 rw'=>⟨_,H2,I3,rw',q2⟩
end
end L2
namespace Att
open PySem PySem.W PySem.Calls PyProof.Rows
theorem bv0{P:Params}{h:Heap}:∀(ns:List Int)(vs:List Value),WellAll P h vs (ns.map WData.int)→IntsAre vs ns:=by
 intro ns
 induction ns with
 |nil=>
  intro vs w;rw[List.map_nil]at w;cases w;exact .nil
 |cons n ns ih=>
  intro vs w;rw[List.map_cons]at w;cases w with
  |cons a b=>
   cases a;exact .cons _ _ (ih _ b)
theorem b39{l:OpenLaw}{n:Nat}(hn:l.most=some n){P:Params}{h:Heap}{args:List WData}{vals:List Value}
  (hpre:l.row.toRowW.claim.pre args=true) (hwl:WellAll P h vals args) :
  ∃a vs ns,vals=[Value.ref a]∧args=[WData.list (ns.map WData.int)]∧h.get? a=some {cls:=.type "list",data:=.seq vs.toArray}∧IntsAre vs ns∧ns.length≤n:=by
 have hsh:WShape.hasAll [] args [.list .int]=true:=(pre_splitW hpre).1;have hc:l.pre.holds [] {args:=args}=true:=(pre_splitW hpre).2;obtain⟨d,r,rfl,h1,h2⟩:=hasAllW_cons hsh;obtain rfl:=hasAllW_nil h2;obtain⟨xs,rfl,h3⟩:=hasW_list h1;obtain⟨ns,rfl⟩:=items_int h3;have hlen:ns.length≤n:=by
  unfold OpenLaw.pre at hc;have h4:(WTm.not (.lt (.lit (.int (n:Int))) (.len (.arg 0)))).holds [] {args:=[.list (ns.map .int)]}=true:=by
   have h4:=(holds_andW hc).1;rw[hn]at h4;exact h4
  have h5:=condW_of h4 (w_not (w_lt w_lit (w_len_list (w_arg rfl))));rw[List.length_map]at h5;refine Nat.le_of_not_lt fun q=>?_;have q':(n:Int)<((ns.length:Nat):Int):=by omega
  first
   |(rw[decide_eq_true q']at h5;exact absurd h5 (by decide))
   |(simp at h5;omega)
 cases hwl with
 |cons w1 w2=>
  cases w2;cases w1 with
  |list ho hall=>exact⟨_,_,ns,rfl,rfl,ho,bv0 ns _ hall,hlen⟩
theorem b35(l:OpenLaw)(args:List WData):l.row.toRowW.claim.post args (.bool true) args=true:=
 postW_of (r:=l.row.toRowW) (X:=(true==true))
  (show WShape.has [] (.bool true) .bool=true by first|rfl|decide|simp[WShape.has,WShape.arms,WShape.armsAll])
  (show(WTm.eq .res (.lit (.bool true))).value [] {args:=args,res:=some (.bool true),after:=args}=some (.bool (true==true)) from w_eq_bool (w_res rfl) w_lit) rfl
theorem attach_call{l:OpenLaw}{n:Nat}{q:Program}{loose:List Str}{XP:(Str→Option Value)→Heap→Prop}{YP:World→Heap→Prop}{d:DefRec}
  (hn:l.most=some n) (hdf:d.params.defaults=[])
  (call:∀(w:World)(s₀ s₁:Shared)(mg mb:Str→Option Value)(fa:Addr)(o:Obj)(pm cd doc:Value)(a:Addr)(vs:List Value)(ns:List Int),
   Ground q loose [] XP w s₀ mg mb s₁.heap→YP w s₁.heap →
   s₁.heap.get? fa=some o→o.data=.func (docDef d.name d.params d.body d.scope pm cd doc)→s₁.heap.CodeRec cd d.name→mg d.name=some (.ref fa) →
   s₁.heap.get? a=some {cls:=.type "list",data:=.seq vs.toArray}→IntsAre vs ns→ns.length≤n→s₁.gens=#[] →
   codeAny (model l.prog w) callerA (.call (.ref fa) ⟨[.ref a],[]⟩) (fun r s'=>r=.ok (.ret (.bool true))∧OldK s₁.heap s'.heap∧s'.os=s₁.os∧AllBare s'.gens) s₁) :
  WalkO q loose XP YP l.row.toRowW d [] (fun f vs=>PySem.call f vs):=by
 intro w s₀ s₁ mg mb G Y fa o pm cd doc dV kV ho hd hcd hD hmg hg args vals as hpre hlay hrd hwl hlo;obtain rfl:dV=.none:=Dflts.none hD hdf;obtain rfl:kV=.none:=Dflts.noKw hD;obtain⟨a,vs,ns,rfl,rfl,hobj,hints,hlen⟩:=b39 hn hpre hwl;refine enter_call (codeAny_mono (call w s₀ s₁ mg mb fa o pm cd doc a vs ns G Y ho (fd_plain hd) hcd hmg hobj hints hlen hg) fun r s' hq=>?_);obtain⟨rfl,h2,h3,h4⟩:=hq;exact⟨.inl ⟨.bool true,.bool true,[],rfl,fun _=>rfl,.bool true,b35 l _,fun _=>⟨List.Pairwise.nil,fun _ hm=>(nomatch hm)⟩⟩,h2,h3,h4⟩
section
variable {prog:Program} {w:World} {A:Around} {E:Value→Shared→Prop} {s:Shared} {K:Frag}
noncomputable def c65(h:Heap)(L d:Addr):List (Addr×Obj):=(List.range h.objs.size).filterMap fun a=>if a=L∨a=d then none else(h.get? a).map fun o=>(a,o)
end
end Att
namespace L2
open PySem PySem.Spec PyProof.Rows
theorem bb7:∀{vs:List Value}{ns:List Int},IntsAre vs ns→e9 (ns.map V.int) vs
 |_,_,.nil=>.nil
 |_,_,.cons n t h=>.cons ⟨t,rfl⟩ (bb7 h)
end L2
namespace L2
open PySem PySem.Spec PyProof.Rows
end L2
namespace L2
open PySem PySem.Spec PyProof.Rows
noncomputable def m5(s:Stmt):Arguments:=match s with
 |.FunctionDef _ a _ _ _ _ _ _ _ _=>a
 |_=>{posonlyargs:=[],args:=[],vararg:=none,kwonlyargs:=[],kw_defaults:=[],kwarg:=none,defaults:=[]}
noncomputable def j8(s:Stmt):List Stmt:=match s with
 |.FunctionDef _ _ b _ _ _ _ _ _ _=>b
 |_=>[]
noncomputable def j4(s:Stmt):Scope:=match s with
 |.FunctionDef _ _ _ _ _ _ sc _ _ _=>sc
 |_=>{kind:=.function,names:=[],isGenerator:=false,isCoroutine:=false}
noncomputable abbrev CX0:CXT:=fun _ _ _ _ _ _=>False
noncomputable abbrev E0:XK:=fun _ _ _=>False
theorem P6{X:Cx}:S9 CX0 X E0:=fun _ _ _ _ _ _ _ h=>h.elim
structure Fun(K:W.Frag)(x qual:Str)(st:Stmt)(f:Addr)(fd:FuncData):Prop where
 ex:∃(oc:Value)(od:Option Addr)(kV doc pm:Value)(an:Option Addr)(cdv ct:Value)(osl:Array (Option Value)),
  fd=W.fnOf x qual (m5 st) (j8 st) (j4 st) .none kV doc pm an cdv ct∧K.lookup f=some ⟨oc,od,.func fd,osl⟩∧W.codeIn K cdv qual=true
 kp:W.keepIn K (.ref f)=true
section
variable {P:Program} {w:World} {K:W.Frag} {mg:Str→Option Value} {base:Heap}
theorem bn4{x qual:Str}{st:Stmt}{f:Addr}{oc:Value}{od an:Option Addr}{osl:Array (Option Value)}{kV doc pm cdv ct:Value}(l:K.lookup f=some ⟨oc,od,.func (W.fnOf x qual (m5 st) (j8 st) (j4 st) .none kV doc pm an cdv ct),osl⟩)
  (c:W.codeIn K cdv qual=true) (k:W.keepIn K (.ref f)=true):Fun K x qual st f (W.fnOf x qual (m5 st) (j8 st) (j4 st) .none kV doc pm an cdv ct):=⟨⟨oc,od,kV,doc,pm,an,cdv,ct,osl,rfl,l,c⟩,k⟩
end
theorem bb2{n:Nat}(h:n≤1000):n<sizeLine:=Nat.lt_of_le_of_lt h (by decide)
noncomputable def D6(H H':Hp):Prop:=∀b o,H b=some o→H' b=some o
theorem D6.refl(H:Hp):D6 H H:=fun _ _ h=>h
theorem D6.trans{H H1 H2:Hp}(a:D6 H H1)(b:D6 H1 H2):D6 H H2:=fun c o h=>b c o (a c o h)
end L2
namespace L2
open PySem PySem.Spec PyProof.Rows
theorem bv9{prog:Program}{w:World}{A:Around}{R:Result→Shared→Prop}{s:Shared}{elt target iter:Expr}{ifs:List Expr}{scope:Scope}{pos:Pos}{it acc:Value}{env:Env}(I:Nat→Shared→Prop)
  (turn:∀n s,I n s→wpAny (model prog w) A (pyNext it) (fun r s₁=>match r with
   |none=>R (.ok .next) s₁
   |some v=>wpAny (model prog w) A (letOwnedTupleGo target it v) (fun _ s₁'=>wpAny (model prog w) A (assign target env v) (fun _ s₂=>
     wpAny (model prog w) A (forIn ifs true fun c r=>if r=true then do let ok ←isTrue c env (eval c env);pure (ForInStep.yield ok)else pure (ForInStep.yield r)) (fun ok s₃=>
      if ok=true then wpAny (model prog w) A (eval elt env) (fun x s₄=>
       wpAny (model prog w) A (call (.builtin "list.append") [acc,x]) (fun _ s₅=>∃m,m<n∧I m s₅) (fun _ _=>False) s₄) (fun _ _=>False) s₃
      else ∃m,m<n∧I m s₃) (fun _ _=>False) s₂) (fun _ _=>False) s₁') (fun _ _=>False) s₁) (fun _ _=>False) s)
  (n:Nat) (h:I n s) :
  codeAny (model prog w) A (.compLoop (.ListComp elt [⟨target,iter,ifs,0⟩] scope pos) 0 it acc env) R s:=by
 refine codeAny_loop rfl I (fun n s hI=>?_) n h;show wpAny _ A ((compTurn (.ListComp elt [⟨target,iter,ifs,0⟩] scope pos) 0 it acc env).onRaise (fun x=>do noteFrame x env;theTreesLotGoes x)) _ _ s;refine wpAny_noted ?_;rw[compTurn_list];refine wpAny_bind (wpAny_standAt (wpAny_bind (wpAny_mono (turn n s hI) (fun r s₁ h₁=>?_) fun _ _ h'=>h'.elim)));cases r with
 |none=>exact wpAny_pure h₁
 |some v=>
  refine wpAny_bind (wpAny_mono h₁ (fun _ s₁' h₁'=>?_) fun _ _ h'=>h'.elim);refine wpAny_bind (wpAny_mono h₁' (fun _ s₂ h₂=>wpAny_bind (wpAny_mono h₂ (fun ok s₃ h₃=>?_) fun _ _ h'=>h'.elim)) fun _ _ h'=>h'.elim);cases ok with
  |false=>exact wpAny_pure ⟨rfl,h₃⟩
  |true=>
   exact wpAny_bind (wpAny_bind (wpAny_mono h₃ (fun x s₄ h₄=>wpAny_bind (wpAny_mono h₄ (fun _ s₅ h₅=>wpAny_pure (wpAny_pure ⟨rfl,h₅⟩)) fun _ _ h'=>h'.elim)) fun _ _ h'=>h'.elim))
noncomputable def t9(cells:List (Str×Addr)):List (Str×NameKind)→List (Str×Addr)→List (Str×Addr)
 |[],acc=>acc
 |(n,k)::r,acc=>t9 cells r (if k==.free then(match cells.lookup n with|some a=>(n,a)::acc|none=>acc)else acc)
theorem aw8{env:Env}:∀(names:List (Str×NameKind))(acc:List (Str×Addr)),(∀x∈names,x.2=.free→(env.cells.lookup x.1).isSome=true) →
  (forIn names acc fun x r=>match x with
   |(name,kind)=>if(kind==NameKind.free)=true then do let a ←cellOf env name;pure (ForInStep.yield ((name,a)::r))else pure (ForInStep.yield r):Sem (List (Str×Addr)))=pure (t9 env.cells names acc)
 |[],acc,_=>rfl
 |(n,k)::r,acc,h=>by
  have hr:∀x∈r,x.2=.free→(env.cells.lookup x.1).isSome=true:=fun x hx=>h x (List.mem_cons_of_mem _ hx);rw[List.forIn_cons];cases hk:(k==NameKind.free)with
  |false=>
   simp only[hk,Bool.false_eq_true,if_false,pure_bind];rw[aw8 r acc hr];simp only[t9,hk,Bool.false_eq_true,if_false]
  |true=>
   have hf:k=.free:=by simpa using hk
   obtain⟨a,ha⟩:=Option.isSome_iff_exists.mp (h (n,k) List.mem_cons_self hf);have hc:cellOf env n=pure a:=by unfold cellOf;rw[ha]
   simp only[hk,if_true,hc,pure_bind];rw[aw8 r _ hr];simp only[t9,hk,if_true,ha]
theorem aw5{env:Env}{scope:Scope}(h:∀x∈scope.names,x.2=.free→(env.cells.lookup x.1).isSome=true):closureFor scope env=pure (t9 env.cells scope.names []):=by
 unfold closureFor;have e:=aw8 (env:=env) scope.names [] h;show((forIn scope.names ([]:List (Str×Addr)) (fun x r=>match x with
   |(name,kind)=>if(kind==NameKind.free)=true then do let a ←cellOf env name;pure (ForInStep.yield ((name,a)::r))else pure (ForInStep.yield r)):Sem (List (Str×Addr)))>>=fun cs=>pure cs)=_
 rw[e];rfl
theorem bf7{cells:List (Str×Addr)}:∀{names:List (Str×NameKind)}{acc:List (Str×Addr)}{x:Str}{c:Addr},(x,c)∈t9 cells names acc→(x,c)∈acc∨(cells.lookup x=some c∧(x,NameKind.free)∈names)
 |[],acc,x,c,h=>.inl h
 |(n,k)::r,acc,x,c,h=>by
  unfold t9 at h
  rcases bf7 h with h1|⟨h1,h2⟩
  ·cases hk:(k==NameKind.free)with
   |false=>simp only[hk,Bool.false_eq_true,if_false]at h1;exact .inl h1
   |true=>
    have hf:k=.free:=by simpa using hk
    subst hf;simp only[hk,if_true]at h1;cases hc:cells.lookup n with
    |none=>rw[hc]at h1;exact .inl h1
    |some a=>
     rw[hc]at h1
     rcases List.mem_cons.mp h1 with e|e
     ·cases e;exact .inr ⟨hc,List.mem_cons_self⟩
     ·exact .inl e
  ·exact .inr ⟨h1,List.mem_cons_of_mem _ h2⟩
theorem be1{cells:List (Str×Addr)}:∀{names:List (Str×NameKind)}{acc:List (Str×Addr)}{x:Str}{c:Addr},cells.lookup x=some c→((x,NameKind.free)∈names∨(x,c)∈acc)→(x,c)∈t9 cells names acc
 |[],acc,x,c,_,h=>by
  rcases h with h|h
  ·cases h
  ·exact h
 |(n,k)::r,acc,x,c,hc,h=>by
  unfold t9;refine be1 hc ?_
  rcases h with h|h
  ·rcases List.mem_cons.mp h with e|e
   ·cases e;refine .inr ?_;rw[if_pos (by decide),hc];exact List.mem_cons_self
   ·exact .inl e
  ·refine .inr ?_
   split
   ·split
    ·exact List.mem_cons_of_mem _ h
    ·exact h
   ·exact h
theorem ax0{α:Type}{l:List (Str×α)}{x:Str}{a:α}(h:l.lookup x=some a):(x,a)∈l:=PySem.mem_of_lookup h
theorem ba7{α:Type}:∀{l:List (Str×α)}{x:Str}{a:α},(x,a)∈l→∃b,l.lookup x=some b
 |[],_,_,h=>by cases h
 |(y,b)::r,x,a,h=>by
  rw[List.lookup_cons];cases e:x==y with
  |true=>exact⟨b,rfl⟩
  |false=>
   rcases List.mem_cons.mp h with z|z
   ·cases z;simp at e
   ·exact ba7 z
theorem L4{cells:List (Str×Addr)}{names:List (Str×NameKind)}{x:Str}{c:Addr}(h:(t9 cells names []).lookup x=some c):cells.lookup x=some c∧(x,NameKind.free)∈names:=by
 rcases bf7 (ax0 h)with z|z
 ·cases z
 ·exact z
theorem af0{cells:List (Str×Addr)}{names:List (Str×NameKind)}{x:Str}{c:Addr}(h:cells.lookup x=some c)(hm:(x,NameKind.free)∈names):(t9 cells names []).lookup x=some c:=by
 obtain⟨b,hb⟩:=ba7 (be1 (acc:=[]) h (.inl hm));have:=(L4 hb).1;rw[h]at this;cases this;exact hb
structure CompScope(X:Cx)(scope:Scope)(Nc:List Str)(fr:List Nat)(k:Nat):Prop where
 kind:scope.kind=.function
 nocell:∀y∈scope.names,y.2≠.cell
 names:∀y∈scope.names,y.2=.local→scope.names.lookup y.1=some .local
 frees:∀y∈scope.names,y.2=.free→X.env.scope.names.lookup y.1=some .cell∨X.env.scope.names.lookup y.1=some .free
 uniq:∀y∈scope.names,y.2=.free→(y.1,NameKind.local)∉scope.names
 nd:Nc.Nodup
 len:Nc.length=fr.length+k
 fre:∀i x,Nc[i]?=some x→i<fr.length→∃j,fr[i]?=some j∧X.N[j]?=some x∧(x,NameKind.free)∈scope.names
noncomputable def F2(fr:List Nat)(k:Nat)(σ:St):St:=(fr.map fun j=>(σ[j]?).join)++List.replicate k none
theorem bw2{scope:Scope}{env:Env}{x:Str}(h:((relabel scope env).names.lookup x=some .cell∨(relabel scope env).names.lookup x=some .free))(hc:∀y∈scope.names,y.2≠.cell):(x,NameKind.free)∈scope.names:=by
 have go:∀k,(relabel scope env).names.lookup x=some k→(k=.cell∨k=.free)→(x,NameKind.free)∈scope.names:=by
  intro k hk hkk;have hm:=ax0 hk;unfold relabel at hm;obtain⟨⟨n,k'⟩,h1,h2⟩:=List.mem_map.mp hm;dsimp only at h2
  split at h2
  ·rename_i hcond;cases h2;have:k'=.free:=by
    simp only[Bool.and_eq_true,beq_iff_eq]at hcond;exact hcond.1.1
   rw[←this];exact h1
  ·cases h2
   rcases hkk with z|z
   ·exact absurd z (hc _ h1)
   ·rw[←z];exact h1
 rcases h with h|h
 ·exact go _ h (.inl rfl)
 ·exact go _ h (.inr rfl)
theorem bx6{scope:Scope}{env:Env}{x:Str}:∀{k},(relabel scope env).names.lookup x=some k→∃k',(x,k')∈scope.names∧(k=k'∨(k'=.free∧k=.cell)):=by
 intro k hk;have hm:=ax0 hk;unfold relabel at hm;obtain⟨⟨n,k'⟩,h1,h2⟩:=List.mem_map.mp hm;dsimp only at h2
 split at h2
 ·rename_i hcond;cases h2;refine⟨_,h1,.inr ⟨?_,rfl⟩⟩;simp only[Bool.and_eq_true,beq_iff_eq]at hcond;exact hcond.1.1
 ·cases h2;exact⟨_,h1,.inl rfl⟩
noncomputable def Cx.comp(X:Cx)(scope:Scope)(Nc:List Str)(C:Addr)(fp:List Addr)(pins:List (Addr×Obj))(s:Shared)(H:Hp):Cx:=
 {X with N:=Nc,s₀:=s,H₀:=H,env:=compEnvC scope (t9 X.env.cells scope.names []) C X.env,outer:=X.stack,stack:=X.stack,ex:=fp,fn:=fun _=>false,pn:=X.pn++pins,xe:=fun _ _=>False,ow:=fun _=>false}
theorem Cx.comp_ok{X:Cx}{scope:Scope}{Nc:List Str}{fr:List Nat}{k:Nat}{C:Addr}{fp:List Addr}{pins:List (Addr×Obj)}{σ:St}{H:Hp}{s:Shared}(S:CompScope X scope Nc fr k)(I:Inv X pins σ H s)
  (hC:s.heap.objs.size≤C) (hf:∀b∈fp,y9 X pins H b) (hlt:∀b∈fp,b<s.heap.objs.size):(X.comp scope Nc C fp pins s H).Ok where
 mod:=I.ok.mod
 kind:=S.kind
 glob:=I.ok.glob
 blt:=I.ok.blt
 above:=hC
 inj:=fun x y c h1 h2=>I.ok.inj x y c (L4 h1).1 (L4 h2).1
 has:=fun x h=>by
  have hm:=bw2 h S.nocell;have hx:=S.frees _ hm rfl;obtain⟨c,hc⟩:=I.ok.has x hx;exact⟨c,af0 hc hm⟩
 cab:=fun x c h _=>h.elim (fun z=>nomatch z) fun z=>nomatch z
 hd:=I.ok.hd
 frames:=I.ok.frames
 stk:=.inl rfl
 exf:=fun b hb=>⟨fun z=>by have h1:=hlt b hb;have h2:b=C:=z;rw[h2]at h1;exact absurd h1 (Nat.not_lt.mpr hC),fun x c h=>(hf b hb).2.2.2.2.1 x c (L4 h).1⟩
 bs:=I.bs
 bsz:=Nat.le_trans I.ok.bsz I.sz
 noex:=fun b o e hb=>by
  obtain⟨h0,h1,h2,h3,h4,h5⟩:=hf b hb
  rcases h3 with z|z
  ·exact I.ok.noex b o e z
  ·have:=(I.ok.bs b o e).1;exact absurd (Nat.lt_of_lt_of_le (Heap.lt_size this) z) (Nat.lt_irrefl _)
 exfs:=fun b hb z=>by
  obtain⟨h0,h1,h2,_⟩:=hf b hb
  rcases List.mem_cons.mp (I.stkSub b z)with e|e
  ·exact h1 e
  ·exact h2 e
 funs:=I.stack
 frf:=I.stkFree
theorem by3{X:Cx}{scope:Scope}{Nc:List Str}{fr:List Nat}{k:Nat}{C:Addr}{fp:List Addr}{pins:List (Addr×Obj)}{σ:St}{H:Hp}{s:Shared}{h1:Heap}{tk:Nat}(S:CompScope X scope Nc fr k)(I:Inv X pins σ H s)
  (hC:s.heap.objs.size≤C) (hf:∀b∈fp,y9 X pins H b) (hlt:∀b∈fp,b<s.heap.objs.size) (hk:∀b o,s.heap.get? b=some o→h1.get? b=some o) (hn:h1.Ns C (fun _=>none)) :
  Inv (X.comp scope Nc C fp pins s H) [] (F2 fr k σ) H {s with heap:=h1,toks:=tk}:=by
 have hfC:H C=none:=I.hok.fresh hC;refine⟨Cx.comp_ok S I hC hf hlt,rfl,I.bare,Un.kept hk,⟨_,hn,fun i x v e1 e2 e3=>?_⟩,fun x c e=>?_,hfC,fun x c e=>(I.freeC x c (L4 e).1).imp id fun z=>⟨rfl,z.2⟩,fun p hp=>?_,I.hok.kept hk,?_⟩
 ·have hi:i<fr.length:=by
   unfold F2 at e2
   by_cases hi:i<fr.length
   ·exact hi
   ·rw[List.getElem?_append_right (by simpa using hi),List.getElem?_replicate]at e2
    split at e2<;>cases e2
  obtain⟨j,hj,hN,hm⟩:=S.fre i x e1 hi;have e2':σ[j]?=some (some v):=by
   unfold F2 at e2;rw[List.getElem?_append_left (by simpa using hi),List.getElem?_map,hj]at e2;simp only[Option.map_some,Option.some.injEq]at e2;cases q:σ[j]? with
   |none=>rw[q]at e2;cases e2
   |some o=>rw[q]at e2;exact congrArg some e2
  obtain⟨m,hns,hl⟩:=I.loc;have hvis:Vis X.env.scope x:=by
   rcases S.frees _ hm rfl with z|z
   ·exact .inr (.inl z)
   ·exact .inr (.inr z)
  obtain⟨u,r,l⟩:=hl j x v hN e2' hvis;refine⟨u,r,?_⟩
  rcases l with⟨l1,_⟩|⟨l1,c,lc,lz⟩
  ·exfalso;have l1':X.env.scope.names.lookup x=some .local:=l1
   rcases S.frees _ hm rfl with z|z
   ·rw[l1']at z;cases z
   ·rw[l1']at z;cases z
  ·refine .inr ⟨?_,c,af0 lc hm,?_⟩
   ·have e3':Vis (relabel scope X.env) x:=e3
    rcases e3' with z|z|z
    ·exfalso;obtain⟨k',h1,h2⟩:=bx6 z
     rcases h2 with h2|h2
     ·subst h2;exact S.uniq _ hm rfl h1
     ·cases h2.2
    ·exact .inl z
    ·exact .inr z
   ·obtain⟨o,ho,hd⟩:=lz;exact⟨o,hk _ _ ho,hd⟩
 ·obtain⟨v,o,ho,hd⟩:=I.cell x c (L4 e).1;exact⟨v,o,hk _ _ ho,hd⟩
 ·have hp':p∈X.pn++pins:=by
   have:p∈(X.pn++pins)++[]:=hp;simpa using this
  obtain⟨q1,q2,q3,q4,q5⟩:=I.pin p hp';refine⟨hk _ _ q1,q2,fun z=>?_,fun z=>?_,q5⟩
  ·have h2:p.1=C:=z;have h3:=Heap.lt_size q1;rw[h2]at h3;exact absurd h3 (Nat.not_lt.mpr hC)
  ·rcases List.mem_cons.mp (I.stkSub p.1 z)with e|e
   ·exact q3 e
   ·exact q4 e
 ·unfold F2;rw[List.length_append,List.length_map,List.length_replicate];exact S.len.symm
theorem b37{X:Cx}{scope:Scope}{Nc:List Str}{C:Addr}{fp:List Addr}{pins pl:List (Addr×Obj)}{σ σc:St}{H H':Hp}{s s':Shared}(I:Inv X pins σ H s)(hf:∀b∈fp,y9 X pins H b)
  (I':Inv (X.comp scope Nc C fp pins s H) pl σc H' s'):Inv X pins σ H' s':=by
 obtain⟨hh,g,d,t,os'⟩:=s';obtain rfl:os'=s.os:=I'.os;exact I.call (h':=hh) (g':=g) (d':=d) (t':=t) (ch:=fp) I'.base I'.hok I'.bare fun b hb=>by
  obtain⟨h0,h1,h2,h3,h4,h5⟩:=hf b hb;exact⟨h3,h1,h4,h5⟩
theorem a90{X:Cx}{C:Addr}{pins:List (Addr×Obj)}{σ σ0:St}{H H0:Hp}{s s0:Shared}{h':Heap}(I0:Inv X pins σ0 H0 s0)(hC:s0.heap.objs.size≤C)(I:Inv X pins σ H s)(hn:H C=none)
  (sb:Heap.SameBut C s.heap h'):Inv X pins σ H {s with heap:=h'}:=by
 refine I.turned (t':=s.toks) (it:=C) (fun b o hb e=>(sb.2 b hb).trans e) hn ?_ (.inr (Nat.le_trans I0.sz hC)) ?_ ?_
 ·exact fun z=>absurd (Nat.lt_of_lt_of_le I0.lt hC) (by rw[z];exact Nat.lt_irrefl _)
 ·intro x c e z;obtain⟨v,q⟩:=I0.cell x c e;exact absurd (Nat.lt_of_lt_of_le q.lt hC) (by rw[z];exact Nat.lt_irrefl _)
 ·intro p hp z;exact absurd (Nat.lt_of_lt_of_le (Heap.lt_size (I0.pin p hp).1) hC) (by rw[z];exact Nat.lt_irrefl _)
noncomputable def a40(fr:List Nat)(k:Nat)(wi:TI)(g:TG)(tc:TT)(te:TE)(fin:V→Hp→Prop):St→Hp→Prop:=fun σ H=>
 wi σ H fun J H1=>∀p,H1 p=none→∃W:Nat→Nat→St→Hp→Prop,(∃m,W 0 m (F2 fr k σ) (upd H1 p (.lst [])))∧∀i m σc H2,W i m σc H2 →
  (J.stop i H2∧fin (.ref p) H2)∨(J.go i H2∧∃N:St→Hp→Prop,(∀σ' H',N σ' H'→∃m',m'<m∧W (i+1) m' σ' H') ∧
   ∀x H3,J.yld i H2 x H3→g x σc H3 fun σ4 H4=>tc σ4 H4 fun b H5=>if b=true then te σ4 H5 fun v H6=>∃ys,H6 p=some (.lst ys)∧ys.length<sizeLine∧N σ4 (upd H6 p (.lst (ys++[v])))else N σ4 H5)
noncomputable def PCs(X:Cx)(ifs:List Expr)(t:TT):Prop:=
 ∀(pins:List (Addr×Obj))(s:Shared)(σ:St)(H:Hp)(Q:Bool→Hp→Prop),Inv X pins σ H s→t σ H Q →
  wpAny (model X.prog X.w) X.A (forIn ifs true fun c r=>if r=true then do let ok ←isTrue c X.env (eval c X.env);pure (ForInStep.yield ok)else pure (ForInStep.yield r)) (TP X pins σ Q) X.xe s
noncomputable def cx3:TT:=fun _ H Q=>Q true H
theorem bi3{X:Cx}:PCs X [] cx3:=fun _ _ _ H _ I h=>wpAny_tests_nil ⟨H,I,h⟩
theorem bi5{X:Cx}{c:Expr}{t:TT}(hc:PT X c t):PCs X [c] t:=fun pins s σ H Q I h=>wpAny_tests_one (hc pins s σ H Q I h)
section
variable {X:Cx} {scope:Scope} {Nc:List Str} {fr:List Nat} {k:Nat} {tg iter elt:Expr} {ifs:List Expr} {wi:TI} {g:TG} {tc:TT} {te:TE} {pos:Pos}
theorem ba6(hc:X.calm=true)(S:CompScope X scope Nc fr k)(hg:∀C fp pins s H,PG (X.comp scope Nc C fp pins s H) tg g)(ht:∀C fp pins s H,PCs (X.comp scope Nc C fp pins s H) ifs tc)(he:∀C fp pins s H,PE (X.comp scope Nc C fp pins s H) elt te)
  {pins:List (Addr×Obj)} {σ:St} {s2:Shared} {H2:Hp} {it:Addr} {fp:List Addr} {tn:Nat→Heap→Prop} {J:It} {fin:V→Hp→Prop} {RR:Value→Addr→Result→Shared→Prop} {E:Value→Shared→Prop}
  (I2:Inv X pins σ H2 s2) (T:Turn X.prog X.w X.K tg J fp it tn) (st2:tn 0 s2.heap) (f2:∀b∈fp,y9 X pins H2 b)
  (h:∀p,H2 p=none→∃W:Nat→Nat→St→Hp→Prop,(∃m,W 0 m (F2 fr k σ) (upd H2 p (.lst [])))∧∀i m σc H2,W i m σc H2 →
   (J.stop i H2∧fin (.ref p) H2)∨(J.go i H2∧∃N:St→Hp→Prop,(∀σ' H',N σ' H'→∃m',m'<m∧W (i+1) m' σ' H') ∧
    ∀x H3,J.yld i H2 x H3→g x σc H3 fun σ4 H4=>tc σ4 H4 fun b H5=>if b=true then te σ4 H5 fun v H6=>∃ys,H6 p=some (.lst ys)∧ys.length<sizeLine∧N σ4 (upd H6 p (.lst (ys++[v])))else N σ4 H5))
  (hRR:∀(D C:Addr)(H':Hp)(s':Shared)(s3:Shared)(H3:Hp)(m':Str→Option Value),Inv X pins σ H3 s3→s3.heap.objs.size≤C→Inv X pins σ H' s'→H' C=none→s'.heap.Ns C m'→fin (.ref D) H'→RR (.ref D) C (.ok .next) s') :
  wpAny (model X.prog X.w) X.A (newList []) (fun acc s₃=>wpAny (model X.prog X.w) X.A (newFunctionEnv scope X.env.globals (t9 X.env.cells scope.names []) [] X.env.qual none .none (some X.env)) (fun cenv s₄=>
   codeAny (model X.prog X.w) X.A (.compStart (.ListComp elt [⟨tg,iter,ifs,0⟩] scope pos) 0 (.ref it) acc {cenv with scope:=relabel scope X.env}) (RR acc cenv.locals) s₄) E s₃) E s2:=by
 have hp:=I2.hok.fresh (Nat.le_refl s2.heap.objs.size);obtain⟨W,⟨m0,w0⟩,turn⟩:=h s2.heap.objs.size hp;refine wpAny_newObj_type (wpAny_newFunctionEnv S.nocell (by intro y hy;simp at hy) (fun h₁ hns₁ hsb₁=>?_) S.kind);dsimp only at hns₁ hsb₁ ⊢;have I3:Inv X pins σ (upd H2 s2.heap.objs.size (.lst [])) {s2 with heap:=s2.heap.push {cls:=.type "list",dict:=none,data:=.seq ([]:List Value).toArray}}:=
  I2.laid (t':=s2.toks) (fun b u e=>Heap.get?_push_of_some _ e) (Nat.le_refl _) ⟨Nat.zero_le _,[],0,.nil,Heap.get?_push_size _ rfl⟩
 have hlt2:∀b∈fp,b<s2.heap.objs.size:=fun b hb=>by
  obtain⟨o,e,_⟩:=T.obj _ _ st2 b hb;exact Heap.lt_size e
 have f3:∀b∈fp,y9 X pins (upd H2 s2.heap.objs.size (.lst [])) b:=fun b hb=>by
  obtain⟨q0,q⟩:=f2 b hb;exact⟨by rw[i8 (Nat.ne_of_lt (hlt2 b hb))];exact q0,q⟩
 generalize hH3:(s2.heap.push {cls:=.type "list",dict:=none,data:=.seq ([]:List Value).toArray}:Heap)=g3 at I3 hns₁ hsb₁ ⊢;have hsz:g3.objs.size=s2.heap.objs.size+1:=by rw[←hH3,Heap.size_push]
 have hlt3:∀b∈fp,b<g3.objs.size:=fun b hb=>by rw[hsz];exact Nat.lt_succ_of_lt (hlt2 b hb)
 have k3:∀b o,g3.get? b=some o→h₁.get? b=some o:=fun b o e=>hsb₁.extBut b o (Nat.ne_of_lt (Heap.lt_size e)) (Heap.get?_push_of_some _ e);have st3:tn 0 g3:=T.keep _ _ _ st2 fun b _ o e=>by rw[←hH3];exact Heap.get?_push_of_some _ e
 have st4:tn 0 h₁:=T.keep _ _ _ st3 fun b _ o e=>k3 b o e;have I4:Inv (X.comp scope Nc g3.objs.size fp pins {s2 with heap:=g3} (upd H2 s2.heap.objs.size (.lst []))) [] (F2 fr k σ) (upd H2 s2.heap.objs.size (.lst [])) {s2 with heap:=h₁,toks:=s2.toks+([]:List (Str×Value)).length}:=
  by3 (s:={s2 with heap:=g3}) S I3 (Nat.le_refl _) f3 hlt3 k3 hns₁
 generalize hXc:X.comp scope Nc g3.objs.size fp pins {s2 with heap:=g3} (upd H2 s2.heap.objs.size (.lst []))=Xc at I4;have eA:Xc.A=X.A:=by rw[←hXc];rfl
 have eP:Xc.prog=X.prog:=by rw[←hXc];rfl
 have ew:Xc.w=X.w:=by rw[←hXc];rfl
 have eK:Xc.K=X.K:=by rw[←hXc];rfl
 have ec:Xc.calm=true:=by rw[←hXc];exact hc
 have ee:Xc.env=compEnvC scope (t9 X.env.cells scope.names []) g3.objs.size X.env:=by rw[←hXc];rfl
 have ex:Xc.xe=fun _ _=>False:=by rw[←hXc];rfl
 have T':Turn Xc.prog Xc.w Xc.K tg J fp it tn:=by rw[eP,ew,eK];exact T
 have stat:∀{H':Hp},(∀b∈fp,H' b=none)→∀b∈fp,y9 Xc [] H' b:=fun hn b hb=>by
  obtain⟨q0,q1,q2,q3,q4,q5⟩:=f3 b hb;subst hXc;refine⟨hn b hb,Nat.ne_of_lt (hlt3 b hb),fun z=>?_,.inl hb,fun x c e=>q4 x c (L4 e).1,fun p hp=>q5 p ?_⟩
  ·rcases List.mem_cons.mp (I3.stkSub b z)with e|e
   ·exact q1 e
   ·exact q2 e
  ·have:p∈(X.pn++pins)++[]:=hp;simpa using this
 have loop:∀s₃:Shared,s₃={s2 with heap:=h₁,toks:=s2.toks+([]:List (Str×Value)).length} →
   codeAny (model X.prog X.w) X.A (.compLoop (.ListComp elt [⟨tg,iter,ifs,0⟩] scope pos) 0 (.ref it) (.ref s2.heap.objs.size) (compEnvC scope (t9 X.env.cells scope.names []) g3.objs.size X.env)) (RR (.ref s2.heap.objs.size) g3.objs.size) s₃:=by
  rintro s₃ rfl;rw[←ee,←eA,←eP,←ew];refine bv9 (fun n s'=>∃i σ' H',Inv Xc [] σ' H' s'∧tn i s'.heap∧(∀b∈fp,H' b=none)∧W i n σ' H') ?_ m0 ⟨0,_,_,I4,st4,fun b hb=>(f3 b hb).1,w0⟩;rintro n s5 ⟨i,σ5,H5,I5,st5,fr5,w5⟩
  rcases turn i n σ5 H5 w5 with⟨stop,qn⟩|⟨go,N,hN,step⟩
  ·refine thn (T'.done Xc rfl rfl rfl ec i [] s5 σ5 H5 _ I5 (stat fr5) st5 stop) fun r s6⟨hr,I6⟩=>?_;subst hr;subst hXc;obtain⟨m',hm,_⟩:=id I6.loc;exact hRR _ _ H5 s6 _ _ m' I3 (Nat.le_refl _) (b37 I3 f3 I6) I6.free hm qn
  ·refine thn (T'.item Xc rfl rfl rfl ec i [] s5 σ5 H5 _ I5 (stat fr5) st5 go) fun r s6⟨u,hr,h6⟩=>?_;subst hr;refine thn h6 fun _ s7⟨x,H7,I7,r7,y7,st7,fr7⟩=>?_;have I7':=I7.pinned (stat fr7) (T.obj _ _ st7);have hgX:PG Xc tg g:=by rw[←hXc];exact hg _ _ _ _ _
   have htX:PCs Xc ifs tc:=by rw[←hXc];exact ht _ _ _ _ _
   have heX:PE Xc elt te:=by rw[←hXc];exact he _ _ _ _ _
   have again:∀{s9:Shared}{σ9:St}{H9:Hp},Inv Xc ([]++X3 fp s7.heap) σ9 H9 s9→N σ9 H9→∃m,m<n∧∃i σ' H',Inv Xc [] σ' H' s9∧tn i s9.heap∧(∀b∈fp,H' b=none)∧W i m σ' H':=fun{s9 σ9 H9}I9 n9=>by
    obtain⟨m',hm,w9⟩:=hN σ9 H9 n9;refine⟨m',hm,i+1,σ9,H9,I9.unpinned,T.keep _ _ _ st7 fun b hb o e=>(I9.pin (b,o) (List.mem_append_right _ (List.mem_append_right _ (ad2 hb e)))).1,fun b hb=>?_,w9⟩;obtain⟨o,e,d⟩:=T.obj _ _ st7 b hb;exact(I9.pin (b,o) (List.mem_append_right _ (List.mem_append_right _ (ad2 hb e)))).2.1
   have hgw:=hgX _ s7 σ5 H7 x u _ I7' r7 (step x H7 y7);rw[ex]at hgw;refine thn hgw fun _ s8⟨σ8,H8,I8,q8⟩=>?_;have htw:=htX _ s8 σ8 H8 _ I8 q8;rw[ex]at htw;refine thn htw fun ok s9⟨H9,I9,q9⟩=>?_;cases ok with
   |false=>
    rw[if_neg Bool.false_ne_true]at q9 ⊢;exact again I9 q9
   |true=>
    rw[if_pos rfl]at q9 ⊢;have hew:=heX _ s9 σ8 H9 _ I9 q9;rw[ex]at hew;refine thn hew fun xv s10⟨v,H10,I10,r10,ys,hys,hlen,n10⟩=>?_;have hap:=bc4 (X:=Xc) _ s10 σ8 H10 (.ref s2.heap.objs.size) [v] (.ref s2.heap.objs.size) [xv] (fun _ H11=>N σ8 H11) I10 rfl (.cons r10 .nil) ⟨_,ys,v,rfl,rfl,hys,hlen,n10⟩;rw[ex]at hap;exact thn hap fun _ s11⟨_,H11,I11,_,n11⟩=>again I11 n11
 exact codeAny_compStart_list (loop _ rfl) (T.self _ 0 _ _ _ st4 (loop _ rfl))
theorem a98{pins:List (Addr×Obj)}{σ:St}{H:Hp}{s:Shared}(S:CompScope X scope Nc fr k)(I:Inv X pins σ H s):∀x∈scope.names,x.2=.free→(X.env.cells.lookup x.1).isSome=true:=fun x hx hf=>by
 obtain⟨c,e⟩:=I.ok.has x.1 (S.frees x hx hf);rw[e];rfl
theorem ca4(hc:X.calm=true)(S:CompScope X scope Nc fr k)(hi:PI X tg iter wi)(hg:∀C fp pins s H,PG (X.comp scope Nc C fp pins s H) tg g)(ht:∀C fp pins s H,PCs (X.comp scope Nc C fp pins s H) ifs tc)(he:∀C fp pins s H,PE (X.comp scope Nc C fp pins s H) elt te)
  (hs:∀x,foldedSetIterable iter X.env x=pure x:=by intro _;rfl):PE X (.ListComp elt [⟨tg,iter,ifs,0⟩] scope pos) (fun σ H Q=>a40 fr k wi g tc te Q σ H):=by
 intro pins s σ H Q I h;rw[eval_ListComp];refine wpAny_comprehension_free (use:=none) (cl:=t9 X.env.cells scope.names []) rfl hs (aw5 (a98 S I)) S.kind S.names ?_;refine thn (hi pins s σ H _ I h) fun xv s1 h1=>thn h1 fun itv s2 h2=>?_;obtain⟨it,fp,tn,J,H2,e,I2,T,st2,f2,h⟩:=h2;subst e;refine ba6 (RR:=fun acc C=>compPost (model X.prog X.w) X.A X.xe none (EP X pins σ Q) acc C) hc S hg ht he I2 T st2 f2 h ?_;intro D C H' s' s3 H3 m' I3 hC I' hn hns q;exact⟨m',hns,fun h' sb=>⟨.ref D,H',a90 I3 hC I' hn sb,rfl,q⟩⟩
theorem by8{i:Nat}{y:Str}{py spos:Pos}(hc:X.calm=true)(hN:X.N.Nodup)(hiy:X.N[i]?=some y)(hy:Loc X.env.scope y)(hfy:X.fn y=true∨X.env.scope.names.lookup y=some .local)
  (S:CompScope X scope Nc fr k) (hi:PI X tg iter wi) (hg:∀C fp pins s H,PG (X.comp scope Nc C fp pins s H) tg g) (ht:∀C fp pins s H,PCs (X.comp scope Nc C fp pins s H) ifs tc) (he:∀C fp pins s H,PE (X.comp scope Nc C fp pins s H) elt te)
  (hsw:swapsWith (.ListComp elt [⟨tg,iter,ifs,0⟩] scope pos) (some (.Name y py)) spos.line X.env=pure true)
  (hs:∀x,foldedSetIterable iter X.env x=pure x:=by intro _;rfl):PS X (.Assign [.Name y py] (.ListComp elt [⟨tg,iter,ifs,0⟩] scope pos) spos) (fun D σ H=>a40 fr k wi g tc te (fun v H'=>D.nx (σ.set i (some v)) H') σ H):=by
 intro pins s σ H D I h;rw[exec_Assign_Name_used _ _ _ _ hsw];refine wpAny_bind (wpAny_standAt (wpAny_bind ?_));show wpAny _ X.A (do let _ ←comprehension (.ListComp elt [⟨tg,iter,ifs,0⟩] scope pos) scope X.env _ (newList []) false (eval iter X.env) (some (assign (.Name y py) X.env))) _ _ s;refine wpAny_bind (wpAny_mono (wpAny_comprehension_free (use:=some (assign (.Name y py) X.env)) (cl:=t9 X.env.cells scope.names []) (Q:=fun _ s'=>SP X pins D .next s') rfl hs (aw5 (a98 S I)) S.kind S.names ?_) (fun _ s' hq=>wpAny_pure (wpAny_pure hq)) fun _ _ e=>e);refine thn (hi pins s σ H _ I h) fun xv s1 h1=>thn h1 fun itv s2 h2=>?_;obtain⟨it,fp,tn,J,H2,e,I2,T,st2,f2,h⟩:=h2;subst e;refine ba6 (RR:=fun acc C=>compPost (model X.prog X.w) X.A X.xe (some (assign (.Name y py) X.env)) (fun _ s'=>SP X pins D .next s') acc C) (fin:=fun v H'=>D.nx (σ.set i (some v)) H') hc S hg ht he I2 T st2 f2 h ?_;intro D' C H' s' s3 H3 m' I3 hC I' hn hns q;show wpAny _ X.A (assign (.Name y py) X.env (.ref D')) _ _ s';obtain⟨oC,es,ep,hoC,hdC,hrest⟩:=id hns;have neL:C≠X.env.locals:=fun z=>absurd (Nat.lt_of_lt_of_le I3.lt hC) (by rw[z];exact Nat.lt_irrefl _);have nfs:C∉X.fs:=I3.nofs hC;have I'':Inv X (pins++[(C,oC)]) σ H' s':=I'.pins_of fun p hp=>by
  rcases List.mem_append.mp hp with z|z
  ·exact I'.pin p (List.mem_append_right _ z)
  ·have e:p=(C,oC):=by simpa using z
   subst e;exact⟨hoC,hn,neL,nfs,fun v z=>by rw[hdC]at z;cases z⟩
 refine wpAny_assign_Name (ae7 I'' hN hiy hy (v:=.ref D') rfl (fun s'' J''=>?_) hfy);obtain⟨p1,p2,_⟩:=J''.pin (C,oC) (by simp);refine⟨m',⟨oC,es,ep,p1,hdC,hrest⟩,fun h' sb=>⟨_,H',a90 I3 hC J''.unpinned p2 sb,q⟩⟩
end
end L2
namespace PySem
section
variable {prog:Program} {w:World} {A:Around} {E:Value→Shared→Prop} {s:Shared}
theorem bs4{it l:Addr}{i:Nat}{items}{x:Value}{Q:Value→Shared→Prop}(hit:s.heap.IsTupleIter it l i)
  (hl:s.heap.IsTuple l items) (hx:items[i]?=some x)
  (hQ:∀h',h'.IsTupleIter it l (i+1)→Heap.SameBut it s.heap h'→Q x {s with heap:=h'}) :
  wpAny (model prog w) A (Builtin.SmallTypes.nextOf (.ref it)) Q E s:=by
 obtain⟨o,ho,hc,hd⟩:=id hit;obtain⟨ol,hol,_,nl,hdl⟩:=hl;unfold Builtin.SmallTypes.nextOf;refine wpAny_bind (wpAny_callSpecial?_slot (name:=Str.ofString "__next__") hit.typeIs F.slot_tuple_iterator_next
  (wpAny_call_entry F.slot_tuple_iterator_next hit.typeIs F.entry_tuple_iterator_next ?_ (F.args_tuple_iterator_next_1 _)))
 show wpAny _ _ (field (.ref it) 0 >>= _) _ _ s;refine wpAny_bind (wpAny_field ho hd (x:=.ref l) rfl ?_);show wpAny _ _ (if (Value.ref l == Value.none)=true then _ else _) _ _ s;rw [if_neg (show ¬ ((Value.ref l == Value.none)=true) from Bool.false_ne_true)];show wpAny _ _ (field (.ref it) 1 >>= _) _ _ s;refine wpAny_bind (wpAny_field ho hd (x:=.int i 0) rfl ?_);show wpAny _ _ (seqItems? (.ref l) >>= _) _ _ s;refine wpAny_bind (wpAny_seqItems hol hdl ?_);simp only [Int.toNat_natCast,hx];refine wpAny_bind (wpAny_setField ho hd (by simp) (wpAny_pure ⟨x,rfl,wpAny_pure (hQ _ ?_ (Heap.SameBut.update ..))⟩));exact ⟨_,Heap.get?_update_self _ ho (Obj.isFreed_of_fields (Obj.data_mapFields hd _)),(Obj.cls_mapFields ..).trans hc,by
  rw[Obj.data_mapFields hd];simp[rawInt]⟩
theorem bs5{it l:Addr}{i:Nat}{items}{Q:Value→Shared→Prop}(hh:A.handled=none)
  (hit:s.heap.IsTupleIter it l i) (hl:s.heap.IsTuple l items) (hx:items[i]?=none)
  (hE:∀h' e,Heap.ExtBut it s.heap h'→(∃o,h'.get? e=some o∧o.cls=.type "StopIteration")→E (.ref e) {s with heap:=h'}) :
  wpAny (model prog w) A (Builtin.SmallTypes.nextOf (.ref it)) Q E s:=by
 obtain⟨o,ho,hc,hd⟩:=id hit;obtain⟨ol,hol,_,nl,hdl⟩:=hl;unfold Builtin.SmallTypes.nextOf;refine wpAny_bind (wpAny_callSpecial?_slot (name:=Str.ofString "__next__") hit.typeIs F.slot_tuple_iterator_next
  (wpAny_call_entry F.slot_tuple_iterator_next hit.typeIs F.entry_tuple_iterator_next ?_ (F.args_tuple_iterator_next_1 _)))
 show wpAny _ _ (field (.ref it) 0>>=_) _ _ s;refine wpAny_bind (wpAny_field ho hd (x:=.ref l) rfl ?_);show wpAny _ _ (if(Value.ref l==Value.none)=true then _ else _) _ _ s;rw[if_neg (show ¬((Value.ref l==Value.none)=true) from Bool.false_ne_true)];show wpAny _ _ (field (.ref it) 1>>=_) _ _ s;refine wpAny_bind (wpAny_field ho hd (x:=.int i 0) rfl ?_);show wpAny _ _ (seqItems? (.ref l)>>=_) _ _ s;refine wpAny_bind (wpAny_seqItems hol hdl ?_);simp only[Int.toNat_natCast,hx];refine wpAny_bind (wpAny_rule (wpAny_bind (wpAny_setField ho hd (by simp) ?_)));show wpAny _ _ (newExc (.type "StopIteration") []>>=_) _ _ _;refine wpAny_bind ?_;simp only[newExc,newTuple];refine wpAny_bind (wpAny_newObj_type ?_ (by size_fits));refine wpAny_bind (m:=firstArgMember _ _) (wpAny_of_eq (a:=Value.none) (by first|rfl|(simp only[firstArgMember];rfl)) ?_);refine wpAny_newObj_type ?_ (by size_fits);simp only[raiseNew];refine wpAny_bind (wpAny_handled ?_)
 first|rw[show A.in1.handled=none from hh]|rw[hh]
 refine wpAny_bind (wpAny_pure (wpAny_throw ?_));exact hE _ _ (((Heap.SameBut.update ..).extBut.push _).push _) ⟨_,Heap.get?_push_size _ rfl,rfl⟩
end
end PySem
namespace PySem
end PySem
namespace L2
open PySem PySem.Spec PyProof.Rows
section
variable {X:Cx} {pins:List (Addr×Obj)} {σ:St} {H:Hp} {s:Shared} {h':Heap}
theorem Inv.turnedNew{t':Nat}{ch:List Addr}{o:HO}(I:Inv X pins σ H s)(hch:∀b∈ch,y9 X pins H b)(k:∀b u,b∉ch→s.heap.get? b=some u→h'.get? b=some u)(ex:∀b∈ch,∃u,h'.get? b=some u)
  (new:m8 X.prog X.w (upd H s.heap.objs.size o) h' s.heap.objs.size o):Inv X pins σ (upd H s.heap.objs.size o) {s with heap:=h',toks:=t'}:=by
 have hT:H s.heap.objs.size=none:=I.hok.fresh (Nat.le_refl _);have neT:∀b u,s.heap.get? b=some u→b≠s.heap.objs.size:=fun b u e=>Nat.ne_of_lt (Heap.lt_size e);have nch:∀b u,H b=some u→b∉ch:=fun b u e z=>by rw[(hch b z).1]at e;cases e
 refine I.step (g':=s.gens) (d':=s.drawn) (ch:=ch) (fun b hb=>?_) (fun b u _ _ hc e _=>k b u hc e) (fun b u _ _ hc e _=>⟨u.slots,k b u hc e⟩) (fun b u _ e n=>by rw[i8 (neT b u e)];exact n)
  (fun b u hc e=>⟨u,k b u hc e⟩) (fun b xs e=>by rw[i8 (t6 e hT)];exact e) (fun b u v e=>by rw[i8 (t6 e hT)];exact e) (fun b ps e=>⟨#[],by rw[i8 (t6 e hT),e];simp⟩) (fun m hm=>?_) (fun b u e=>?_) I.bare
 ·obtain⟨h0,h1,h2,h3,h4,h5⟩:=hch b hb;exact⟨h3,h1,h4,h5⟩
 ·obtain⟨ob,es,ep,ho,r⟩:=hm;exact⟨ob,es,ep,k _ ob (fun z=>(hch _ z).2.1 rfl) ho,r⟩
 ·by_cases hb:b=s.heap.objs.size
  ·subst hb;rw[o8]at e;cases e;exact new
  ·rw[i8 hb]at e;refine(I.hok b u e).stay (fun c v hc q=>k c v ?_ q) (fun c q=>by rw[i8 (t6 q hT)];exact q) fun c xs q=>by rw[i8 (t6 q hT)];exact q
   rcases hc with z|z
   ·rw[z];exact nch b u e
   ·exact nch c _ z
theorem Inv.turnedAll{t':Nat}{ch:List Addr}(I:Inv X pins σ H s)(hch:∀b∈ch,y9 X pins H b)(k:∀b u,b∉ch→s.heap.get? b=some u→h'.get? b=some u):Inv X pins σ H {s with heap:=h',toks:=t'}:=by
 have nch:∀b u,H b=some u→b∉ch:=fun b u e z=>by rw[(hch b z).1]at e;cases e
 refine I.step (g':=s.gens) (d':=s.drawn) (ch:=ch) (fun b hb=>?_) (fun b u _ _ hc e _=>k b u hc e) (fun b u _ _ hc e _=>⟨u.slots,k b u hc e⟩) (fun b u _ e n=>n)
  (fun b u hc e=>⟨u,k b u hc e⟩) (fun b xs e=>e) (fun b u v e=>e) (fun b ps e=>⟨#[],by rw[e];simp⟩) (fun m hm=>?_) (fun b u e=>?_) I.bare
 ·obtain⟨h0,h1,h2,h3,h4,h5⟩:=hch b hb;exact⟨h3,h1,h4,h5⟩
 ·obtain⟨ob,es,ep,ho,r⟩:=hm;exact⟨ob,es,ep,k _ ob (fun z=>(hch _ z).2.1 rfl) ho,r⟩
 ·refine(I.hok b u e).stay (fun c v hc q=>k c v ?_ q) (fun c q=>q) fun c xs q=>q
  rcases hc with z|z
  ·rw[z];exact nch b u e
  ·exact nch c _ z
end
section
variable {X:Cx}
theorem bv2:bootBuiltins "reversed"=some (.type "reversed"):=by decide+kernel
noncomputable def Itv(K:W.Frag)(a:Addr)(n:Nat):It:=
 ⟨fun i H=>(∃xs,SqL K H a xs∧xs.length=n)∧i<n,fun i H x H'=>H'=H∧∀xs,SqL K H a xs→xs[n-1-i]?=some x,fun i H=>(∃xs,SqL K H a xs∧xs.length=n)∧i=n⟩
theorem b73{P:Program}{w:World}{K:W.Frag}{tg:Expr}(a it:Addr)(n:Nat):Turn P w K tg (Itv K a n) [it] it (fun i h=>h.IsRevIter it a ((n:Int)-1-(i:Int))) where
 mem:=by simp
 obj:=fun i h st b hb=>by
  have e:b=it:=by simpa using hb
  subst e;obtain⟨o,e,c,d⟩:=st;exact⟨o,e,fun v z=>by rw[d]at z;cases z⟩
 keep:=fun i h h' st k=>st.at fun o e=>k it (by simp) o e
 item:=by
  intro X hP hw hK hc i pins s σ H E I hf st hg;subst hP hw hK;obtain⟨⟨xs,hq,hn⟩,hi⟩:=hg;subst hn;obtain⟨its,rv,p,hz⟩:=I.list hq;obtain⟨x,hx⟩:∃x,xs[xs.length-1-i]?=some x:=⟨_,List.getElem?_eq_getElem (by omega)⟩;obtain⟨u,hu,ru⟩:=rv.get hx;obtain⟨f0,f1,f2,f3,f4,f5⟩:=hf it (by simp);have e:(xs.length:Int)-1-(i:Int)=((xs.length-1-i:Nat):Int):=by omega
  rw[e]at st;refine wpAny_pyNext_rev_item st p.isList (x:=u) (by simpa using hu) fun h' st' sb=>?_;have I1:Inv X pins σ H {s with heap:=h'}:=I.turned (t':=s.toks) (fun b o hb e=>(sb.2 b hb).trans e) f0 f1 f3 f4 f5;obtain⟨o,e',c,d⟩:=id st';have e2:((xs.length-1-i:Nat):Int)-1=(xs.length:Int)-1-((i+1:Nat):Int):=by omega
  rw[e2]at st';exact⟨u,rfl,ao3 (s:={s with heap:=h'}) e' c d (by decide) ⟨x,H,I1,ru,⟨rfl,fun ys hy=>by rw[I.list_inj hy hq];exact hx⟩,st',fun b hb=>(hf b hb).1⟩⟩
 done:=by
  intro X hP hw hK hc i pins s σ H E I hf st hg;subst hP hw hK;obtain⟨_,hi⟩:=hg;obtain⟨f0,f1,f2,f3,f4,f5⟩:=hf it (by simp);have e:(n:Int)-1-(i:Int)=-1:=by omega
  rw[e]at st;exact wpAny_pyNext_rev_end (I.ok.hd hc) st fun h' eb=>⟨rfl,I.turned (t':=s.toks) (fun b o hb e=>eb b o hb e) f0 f1 f3 f4 f5⟩
 self:=fun _ _ _ _ _ st h=>wpAny_pyIter_revIter st h
noncomputable def c05(K:W.Frag)(ta:TA):TI:=fun σ H R=>ta σ H fun vs H1=>∃a xs,vs=[.ref a]∧SqL K H1 a xs∧R (Itv K a xs.length) H1
theorem cf3{tg a:Expr}{ta:TA}{p pos:Pos}(hg:Gl X "reversed")(hm:X.mg "reversed"=none)(ha:PA X [a] ta)(hs:starEach [a] X.env=[(false,eval a X.env)]:=by rfl):
  PI X tg (.Call (.Name "reversed" p) [a] [] pos) (c05 X.K ta):=by
 intro pins s σ H R I h;refine Call_ (G5 I hg hm bv2 (PyProof.Rows.callWith_type1 (thn (ha pos pins s σ H _ I h) fun us s1⟨vs,H1,I1,r1,q1⟩=>?_) hs rfl));obtain⟨l,xs,e,hq,q⟩:=q1;subst e;obtain⟨u,rfl,ru⟩:=r1.one;cases ru;obtain⟨its,rv,pl,hz⟩:=I1.list hq;refine call_reversed_list pl.isList ?_;have hit:(s1.heap.push (revObj l ((its.toArray.size:Int)-1))).IsRevIter s1.heap.objs.size l ((xs.length:Int)-1-((0:Nat):Int)):=by
  refine⟨_,Heap.get?_push_size _ rfl,rfl,?_⟩;have e:((its.toArray.size:Nat):Int)-1=(xs.length:Int)-1-((0:Nat):Int):=by rw[List.size_toArray,←rv.length];omega
  rw[e];rfl
 refine wpAny_pyIter_revIter (s:={s1 with heap:=s1.heap.push (revObj l ((its.toArray.size:Int)-1))}) hit ?_;refine⟨s1.heap.objs.size,[s1.heap.objs.size],_,_,H1,rfl,I1.kept (t':=s1.toks) fun b o e=>Heap.get?_push_of_some _ e,b73 l _ xs.length,hit,fun b hb=>?_,q⟩;have e:b=s1.heap.objs.size:=by simpa using hb
 subst e;exact I1.fpOk (Nat.le_refl _) (I1.hok.fresh (Nat.le_refl _))
theorem bx5{T:String}{b:Bool}:E5 X (.builtin "isinstance") (fun xs H Q=>∃x t,xs=[x,.ty T]∧TyOf X.K H x t∧W.kitOne X.K t (.type T)=some b∧Q (.bl b) H):=by
 intro pins s σ H xs us Q I r h;obtain⟨x,t,rfl,ty,hk,q⟩:=h;obtain⟨u,v,rfl,ru,rv⟩:=r.two;cases rv;exact bb1 I ru ty hk fun tk=>⟨.bl b,H,I.tok _,rfl,q⟩
noncomputable def a58(i j:Int):Prop:=0<j∧j.natAbs.log2<9000
theorem b67:OpR X (binaryOp .FloorDiv) (rI a58 fun i j=>.int (i / j)):=opI fun i j _ _ _ _ _ hc q=>by
 have h1:(0:Int)<j:=hc.1;exact floordiv_int (by omega) (by rw[Int.fdiv_eq_ediv_of_nonneg i (by omega)];exact q) (.inl (PyProof.noPylong_of_log2 hc.2))
noncomputable def cw9(K:W.Frag):R2:=fun x y H Q=>∃a b xs ys,x=.ref a∧y=.ref b∧SqT K H a xs∧SqT K H b ys∧xs.length+ys.length≤sizeLine ∧
 (xs=[]→Q (.ref b) H)∧(xs≠[]→ys=[]→Q (.ref a) H)∧(xs≠[]→ys≠[]→∀p,H p=none→Q (.ref p) (upd H p (.tup (xs++ys))))
theorem ch7:OpR X (binaryOp .Add) (cw9 X.K):=by
 intro pins s σ H x y v u Q I rx ry h;obtain⟨a,b,xs,ys,rfl,rfl,ha,hb,hz,q0,q1,q2⟩:=h
 by_cases hx:xs=[]
 ·subst hx;cases rx;cases ry;obtain⟨its,r1,p1,_⟩:=I.tuple ha;obtain⟨its2,r2,p2,_⟩:=I.tuple hb;cases r1;obtain⟨⟨cls,dd,data,sl⟩,ho,hc,n,hd⟩:=id p1;obtain⟨⟨cls2,dd2,data2,sl2⟩,ho2,hc2,n2,hd2⟩:=id p2;simp only at hc hd hc2 hd2;subst hc hd hc2 hd2;exact concat_meets ⟨_,ho,rfl⟩ ⟨_,ho2,rfl⟩ noFill_tuple_add seq_tuple_add PySem.F.slot_tuple_add PySem.F.entry_tuple_add (PySem.F.args_tuple_add_2 _ _)
   (tuple_addW0 a b #[] its2.toArray n n2 dd dd2 sl sl2 (by simp)) ⟨ho,ho2,⟨.ref b,H,I,rfl,q0 rfl⟩⟩
 ·exact ci8 pins s σ H _ _ v u Q I rx ry ⟨a,b,xs,ys,rfl,rfl,ha,hb,hx,hz,q1 hx,q2 hx⟩
end
end L2
namespace Ek
open PySem PySem.Spec PyProof.Rows L2
inductive Tg where
 |n (i:Nat)|tup (is:List Nat)
mutual
inductive E where
 |non|bl (b:Bool)|int (i:Int)|str (x:Str)
 |v (i:Nat)
 |tup (es:Es)|lst (es:Es)
 |bin (o:Operator) (a b:E)
 |neg (a:E)
 |cmp (o:CmpOp) (a b:E)
 |isN (a:E)|notN (a:E)
 |and (a b:E)|or (a b:E)|not (a:E)
 |ite (c a b:E)
 |ix (a b:E)
 |sl (a lo hi:E)
 |slw (a lo hi:E)
 |dsel (ks:List Str) (vs:Es) (k:E)
 |len (a:E)|toInt (a:E)|list (a:E)|tuple (a:E)|isList (a:E)
 |min (a b:E)|sorted (a:E)|lzip (a b:E)
 |call (f:Str) (es:Es)|gf (f:Str)|callv (i:Nat) (es:Es)|dict (ks:List Str) (vs:Es)|isT (t:String) (a:E)|cmpl (ne:Bool) (a b:E)
 |fld (a:E) (f:Str)|meth (a:E) (m:Str) (es:Es)|make (c:Str) (es:Es)
 |app (a b:E)|ext (a b:E)|popAt (a b:E)|pop (a:E)|index (a b:E)
 |lrev (a:E)
 |lam (np:Nat) (N:List Str) (cp:List Nat) (e:E)|gc (g:Str)
 |dnt|dgt (a k:E)|din (ne:Bool) (k a:E)
 |comp (Nc:List Str) (fr:List Nat) (k:Nat) (t:Tg) (it:It) (c:E) (e:E)
inductive Es where
 |nil|cons (e:E) (r:Es)
inductive It where
 |seq (e:E)|rng (a:E)|rng2 (a b:E)|rev (e:E)|zip (a b:E)
end
mutual
inductive S where
 |set (i:Nat) (e:E)
 |dput (o i v:E)
 |fldS (o:E) (f:Str) (v:E)
 |ex (e:E)
 |iff (c:E) (a b:Ss)
 |ret (e:E)|retN
 |for (t:Tg) (it:It) (b:Ss)
 |while (c:E) (b:Ss)
 |pass|dead
 |dfn (i np:Nat) (N:List Str) (cp:List Nat) (b:Ss)
inductive Ss where
 |nil|cons (s:S) (r:Ss)
end
noncomputable def Es.len:Es→Nat
 |.nil=>0
 |.cons _ r=>r.len+1
inductive D where
 |non|bl (b:Bool)|int (i:Int)|str (x:Str)|tup (ds:List D)|ref (a:Addr)|fn (f:Str)|clo (np:Nat) (N:List Str) (b:Ss) (cs:List D)
inductive Ob where
 |lst (ds:List D)|fro (ds:List D)|dct (kvs:List (Key×D))|dtt (kvs:List (PyData×D))|ins (c:Str) (fs:List (Str×D))
noncomputable abbrev Sto:=Addr→Option Ob
noncomputable abbrev i9:=List (Option D)
noncomputable abbrev DK:=D→Sto→Prop
noncomputable abbrev DT:=i9→Sto→DK→Prop
noncomputable abbrev DB:=i9→Sto→(Bool→Sto→Prop)→Prop
noncomputable abbrev DA:=i9→Sto→(List D→Sto→Prop)→Prop
noncomputable def d7(st:Sto)(a:Addr)(o:Ob):Sto:=fun b=>if b=a then some o else st b
theorem d8{st:Sto}{a:Addr}{o:Ob}:d7 st a o a=some o:=by unfold d7;rw[if_pos rfl]
theorem B6{st:Sto}{a b:Addr}{o:Ob}(h:b≠a):d7 st a o b=st b:=by unfold d7;rw[if_neg h]
noncomputable def rdS(st:Sto)(a:Addr)(ds:List D):Prop:=st a=some (.lst ds)∨st a=some (.fro ds)
noncomputable def Sub(st st':Sto):Prop:=∀a o,st a=some o→st' a=some o
theorem Sub.refl(st:Sto):Sub st st:=fun _ _ h=>h
mutual
noncomputable def D.py:D→PyData
 |.non=>.none|.bl b=>.bool b|.int i=>.int i|.str x=>.str x|.tup ds=>.tuple (D.pys ds)|.ref _=>.none|.fn _=>.none|.clo _ _ _ _=>.none
noncomputable def D.pys:List D→List PyData
 |[]=>[]
 |d::r=>d.py::D.pys r
end
mutual
noncomputable def D.pure:D→Bool
 |.tup ds=>D.pures ds
 |.ref _=>false
 |.fn _=>false
 |.clo _ _ _ _=>false
 |.str x=>PyData.canLay0 (.str x)
 |_=>true
noncomputable def D.pures:List D→Bool
 |[]=>true
 |d::r=>d.pure&&D.pures r
end
noncomputable def deq(d e:D):Bool:=PyData.eqv d.py e.py
noncomputable def j5(d:D):Nat:=d.py.depth
noncomputable abbrev Spec:=List D→Sto→DK→Prop
structure Sg where
 F:Str→Bool
 Phi:Str→Spec
 G:Str→List (Str×D)
 C:Str→List Str
 Mk:Str→Spec
 MF:Str→Bool
 PhiC:Nat→List Str→Ss→List D→Spec
 Kc:Str→Option Int
def i5(c m:Str):Str:=⟨c.cps++#[46]++m.cps⟩
noncomputable def p9(f:Str)(d:D):List (Str×D)→List (Str×D)
 |[]=>[(f,d)]
 |(g,e)::r=>if g=f then(g,d)::r else(g,e)::p9 f d r
noncomputable def U1(Z:Sg)(ta:Sto→(List D→Sto→Prop)→Prop)(st:Sto)(Q:DK):D→Prop
 |.fn f=>Z.F f=true∧ta st fun ds st1=>Z.Phi f ds st1 Q
 |.clo np N b cs=>ta st fun ds st1=>Z.PhiC np N b cs ds st1 Q
 |_=>False
noncomputable def E7(env:i9):List Nat→Option (List D)
 |[]=>some []
 |i::is=>match env[i]?,E7 env is with
  |some (some d),some ds=>some (d::ds)
  |_,_=>none
noncomputable def O7(i j:Int):Prop:=a77 i j∨(i.natAbs<2^20000∧j.natAbs<2^20000)
noncomputable def B0(kvs:List (Key×D))(k:Key):Option D:=(kvs.find? fun kv=>decide (kv.1=k)).map (·.2)
noncomputable def A0:Operator→D→D→Sto→DK→Prop
 |.Add,.int i,.int j,st,Q=>Q (.int (i+j)) st
 |.Add,.tup xs,.tup ys,st,Q=>xs.length+ys.length≤sizeLine∧Q (.tup (xs++ys)) st
 |.Add,.ref a,.ref b,st,Q=>∃xs ys,st a=some (.lst xs)∧st b=some (.lst ys)∧xs.length+ys.length≤sizeLine∧∀p,st p=none→Q (.ref p) (d7 st p (.lst (xs++ys)))
 |.Sub,.int i,.int j,st,Q=>Q (.int (i-j)) st
 |.Mult,.int i,.int j,st,Q=>O7 i j∧Q (.int (i*j)) st
 |.Mod,.int i,.int j,st,Q=>0<j∧Q (.int (i % j)) st
 |.FloorDiv,.int i,.int j,st,Q=>a58 i j∧Q (.int (i / j)) st
 |.Pow,.int i,.int j,st,Q=>a75 i j∧Q (.int (i^j.toNat)) st
 |_,_,_,_,_=>False
noncomputable def u7:CmpOp→D→D→Sto→DK→Prop
 |.Eq,x,y,st,Q=>x.pure=true∧y.pure=true∧Nat.min (j5 x) (j5 y)≤150∧Q (.bl (deq x y)) st
 |.NotEq,x,y,st,Q=>x.pure=true∧y.pure=true∧Nat.min (j5 x) (j5 y)≤150∧Q (.bl (!deq x y)) st
 |.Lt,.int i,.int j,st,Q=>Q (.bl (decide (i<j))) st
 |.LtE,.int i,.int j,st,Q=>Q (.bl (decide (i≤j))) st
 |.Gt,.int i,.int j,st,Q=>Q (.bl (decide (j<i))) st
 |.GtE,.int i,.int j,st,Q=>Q (.bl (decide (j≤i))) st
 |.In,x,.tup ys,st,Q=>x.pure=true∧D.pures ys=true∧j5 x≤150∧Q (.bl (ys.any fun y=>deq y x)) st
 |.NotIn,x,.tup ys,st,Q=>x.pure=true∧D.pures ys=true∧j5 x≤150∧Q (.bl (!ys.any fun y=>deq y x)) st
 |.In,.str w,.ref a,st,Q=>∃kvs,st a=some (.dct kvs)∧Q (.bl (B0 kvs (.inr w)).isSome) st
 |.NotIn,.str w,.ref a,st,Q=>∃kvs,st a=some (.dct kvs)∧Q (.bl (!(B0 kvs (.inr w)).isSome)) st
 |.In,.int i,.ref a,st,Q=>∃kvs,st a=some (.dct kvs)∧Q (.bl (B0 kvs (.inl i)).isSome) st
 |.NotIn,.int i,.ref a,st,Q=>∃kvs,st a=some (.dct kvs)∧Q (.bl (!(B0 kvs (.inl i)).isSome)) st
 |_,_,_,_,_=>False
noncomputable def ixR:D→D→Sto→DK→Prop
 |.tup ds,.int i,st,Q=>∃d,atI ds i=some d∧Q d st
 |.ref a,.int i,st,Q=>(∃ds d,rdS st a ds∧atI ds i=some d∧Q d st)∨∃kvs d,st a=some (.dct kvs)∧B0 kvs (.inl i)=some d∧Q d st
 |.ref a,.str w,st,Q=>∃kvs d,st a=some (.dct kvs)∧B0 kvs (.inr w)=some d∧Q d st
 |.str w,.int i,st,Q=>∃c,w.length≤sizeLine∧atI w.cps.toList i=some c∧Q (.str ⟨#[c]⟩) st
 |_,_,_,_=>False
noncomputable def y8(xs:List D)(lo hi:Option Int):List D:=(xs.drop (HT.sIx xs.length 0 lo)).take (HT.sIx xs.length xs.length hi-HT.sIx xs.length 0 lo)
noncomputable def slR:D→Option Int→Option Int→Sto→DK→Prop
 |.tup ds,lo,hi,st,Q=>¬(HT.sIx ds.length 0 lo=0∧HT.sIx ds.length ds.length hi=ds.length)∧Q (.tup (y8 ds lo hi)) st
 |.ref a,lo,hi,st,Q=>∃ds,rdS st a ds∧∀p,st p=none→Q (.ref p) (d7 st p (.lst (y8 ds lo hi)))
 |_,_,_,_,_=>False
noncomputable def B8:List (Str×D)→Str→Option D
 |[],_=>none
 |(k,d)::r,x=>if k=x then some d else B8 r x
noncomputable def Q5:D→Sto→DK→Prop
 |.tup ds,st,Q=>Q (.int ds.length) st
 |.ref a,st,Q=>∃ds,rdS st a ds∧Q (.int ds.length) st
 |_,_,_=>False
noncomputable def X7:D→Sto→DK→Prop
 |.bl b,st,Q=>Q (.int (if b then 1 else 0)) st
 |.int i,st,Q=>Q (.int i) st
 |_,_,_=>False
noncomputable def ap4:D→Sto→DK→Prop
 |.tup ds,st,Q=>∀p,st p=none→Q (.ref p) (d7 st p (.lst ds))
 |.ref a,st,Q=>∃ds,rdS st a ds∧∀p,st p=none→Q (.ref p) (d7 st p (.lst ds))
 |_,_,_=>False
noncomputable def T4:D→Sto→DK→Prop
 |.tup ds,st,Q=>Q (.tup ds) st
 |.ref a,st,Q=>∃ds,rdS st a ds∧Q (.tup ds) st
 |_,_,_=>False
noncomputable def R6:D→Sto→DK→Prop
 |.ref a,st,Q=>∃ds,rdS st a ds∧Q (.bl true) st
 |_,_,_=>False
noncomputable def a32:D→Sto→DK→Prop
 |.ref a,st,Q=>∃ss:List Str,rdS st a (ss.map D.str)∧ss.length<64∧∀(ts:List Str)p,ts.Perm ss→sortedS ts=true→st p=none→Q (.ref p) (d7 st p (.lst (ts.map D.str)))
 |_,_,_=>False
noncomputable def p7(xs ys:List D):List D:=(xs.zip ys).map fun p=>.tup [p.1,p.2]
noncomputable def t7(st:Sto):D→List D→Prop
 |.tup ds,xs=>ds=xs
 |.ref a,xs=>rdS st a xs
 |_,_=>False
noncomputable def a45:D→D→Sto→DK→Prop
 |.ref a,.int i,st,Q=>(-(2^62)≤i∧i<2^62)∧∃ds k d,st a=some (.lst ds)∧ixN ds.length i=some k∧ds[k]?=some d∧Q d (d7 st a (.lst (ds.eraseIdx k)))
 |_,_,_,_=>False
noncomputable def aa4:D→Sto→DK→Prop
 |.ref a,st,Q=>∃ds d,st a=some (.lst (ds++[d]))∧Q d (d7 st a (.lst ds))
 |_,_,_=>False
noncomputable def aa0:D→Sto→DK→Prop
 |.ref a,st,Q=>∃ds,st a=some (.lst ds)∧Q .non (d7 st a (.lst ds.reverse))
 |_,_,_=>False
noncomputable def z8(kvs:List (PyData×D))(k:PyData):Option D:=(kvs.find? fun kv=>decide (kv.1=k)).map (·.2)
noncomputable def M8(kvs:List (PyData×D))(k:PyData)(v:D):List (PyData×D):=
 if(kvs.any fun kv=>decide (kv.1=k))=true then kvs.map (fun kv=>if kv.1=k then(kv.1,v)else kv)else kvs++[(k,v)]
noncomputable def D.key(d:D):Prop:=NK.lit d.py=true∧d.py.depth≤7
noncomputable def av1:D→Option Int→Option Int→Sto→DK→Prop
 |.tup ds,lo,hi,st,Q=>Q (.tup (y8 ds lo hi)) st
 |_,_,_,_,_=>False
noncomputable def a74:D→Sto→Prop
 |.ref a,st=>∃kvs,st a=some (.dtt kvs)
 |_,_=>False
noncomputable def a79:D→D→Sto→DK→Prop
 |.ref a,.tup ks,st,Q=>∃kvs,st a=some (.dtt kvs)∧D.key (.tup ks)∧Q ((z8 kvs (D.tup ks).py).getD .non) st
 |_,_,_,_=>False
noncomputable def Q4(ne:Bool):D→D→Sto→DK→Prop
 |.tup ks,.ref a,st,Q=>∃kvs,st a=some (.dtt kvs)∧D.key (.tup ks)∧Q (.bl (ne != (z8 kvs (D.tup ks).py).isSome)) st
 |_,_,_,_=>False
noncomputable def a63:D→D→D→Sto→(Sto→Prop)→Prop
 |.ref a,.tup ks,d,st,K=>∃kvs,st a=some (.dtt kvs)∧D.key (.tup ks)∧kvs.length<sizeLine∧K (d7 st a (.dtt (M8 kvs (D.tup ks).py d)))
 |_,_,_,_,_=>False
noncomputable def aa2:D→D→Sto→DK→Prop
 |.ref a,d,st,Q=>∃ds,st a=some (.lst ds)∧ds.length<sizeLine∧Q .non (d7 st a (.lst (ds++[d])))
 |_,_,_,_=>False
noncomputable def V3:D→D→Sto→DK→Prop
 |.ref a,.ref b,st,Q=>∃ds es,st a=some (.lst ds)∧st b=some (.lst es)∧ds.length+es.length≤sizeLine∧Q .non (d7 st a (.lst (ds++es)))
 |.ref a,.tup es,st,Q=>∃ds,st a=some (.lst ds)∧ds.length+es.length≤sizeLine∧Q .non (d7 st a (.lst (ds++es)))
 |_,_,_,_=>False
noncomputable def O1:D→D→Sto→DK→Prop
 |.ref a,x,st,Q=>∃ds,rdS st a ds∧x.pure=true∧D.pures ds=true∧j5 x≤150∧∃(j:Nat)(d:D),ds[j]?=some d∧deq d x=true∧(∀(i:Nat)e,i<j→ds[i]?=some e→deq e x=false)∧Q (.int (j:Int)) st
 |_,_,_,_=>False
noncomputable def C2:D→Sto→Prop
 |.ref a,st=>∃ds,rdS st a ds
 |_,_=>False
noncomputable def aa1:D→Sto→Prop
 |.ref a,st=>∃ds,rdS st a ds
 |_,_=>False
noncomputable def tyD:D→Sto→Option String
 |.non,_=>some "NoneType"|.bl _,_=>some "bool"|.int _,_=>some "int"|.str _,_=>some "str"|.tup _,_=>some "tuple"
 |_,_=>none
noncomputable def C4(l:List (List D)):List PyData:=l.map fun ds=>.list (D.pys ds)
noncomputable def av5(st:Sto):List D→List (List D)→Prop
 |[],[]=>True
 |d::ds,l::ls=>(∃a,d=.ref a∧rdS st a l∧D.pures l=true)∧av5 st ds ls
 |_,_=>False
noncomputable def J4(ne:Bool):D→D→Sto→DK→Prop
 |.ref a,.ref b,st,Q=>∃xs ys,rdS st a xs∧rdS st b ys∧((D.pures xs=true∧D.pures ys=true∧PyData.depthAll (D.pys xs)≤149∧Q (.bl (ne != PyData.eqvAll (D.pys xs) (D.pys ys))) st)∨(xs.length≠ys.length∧Q (.bl ne) st)∨∃xss yss,av5 st xs xss∧av5 st ys yss∧PyData.depthAll (C4 xss)≤149∧Q (.bl (ne != PyData.eqvAll (C4 xss) (C4 yss))) st)
 |_,_,_,_=>False
noncomputable def U0(t:String)(d:D)(st:Sto)(Q:DK):Prop:=(∃ty,tyD d st=some ty∧Q (.bl (ty==t||(ty=="bool"&&t=="int"))) st)∨∃a ds,d=.ref a∧rdS st a ds∧Q (.bl (t=="list")) st
noncomputable def O3:i9→List Nat→List D→i9
 |env,i::is,d::ds=>O3 (env.set i (some d)) is ds
 |env,_,_=>env
noncomputable def J6:Tg→D→i9→(i9→Prop)→Prop
 |.n i,d,env,k=>k (env.set i (some d))
 |.tup is,d,env,k=>∃ds,d=.tup ds∧ds.length=is.length∧k (O3 env is ds)
noncomputable def p8(lo:Int)(n:Nat):List D:=(List.range n).map fun i=>.int (lo+(i:Nat))
noncomputable def ao4:Nat→List D→List D
 |_,[]=>[]
 |i,d::ds=>.tup [.int i,d]::ao4 (i+1) ds
noncomputable def u3(chk:Sto→Prop)(t:Tg)(tc:DB)(te:DT)(Q:List D→Sto→Prop):List D→List D→i9→Sto→Prop
 |[],acc,_,st=>chk st∧Q acc st
 |d::ds,acc,env,st=>chk st∧J6 t d env fun env'=>tc env' st fun b st1=>
   if b=true then te env' st1 fun v st2=>u3 chk t tc te Q ds (acc++[v]) env' st2
   else u3 chk t tc te Q ds acc env' st1
noncomputable def O0(fr:List Nat)(k:Nat)(env:i9):i9:=(fr.map fun j=>(env[j]?).join)++List.replicate k none
noncomputable def E.isNon:E→Bool
 |.non=>true
 |_=>false
noncomputable abbrev ItK:=List D→(Sto→Prop)→Sto→Prop
mutual
noncomputable def wpE(Z:Sg):E→DT
 |.non=>fun _ st Q=>Q .non st
 |.bl b=>fun _ st Q=>Q (.bl b) st
 |.int i=>fun _ st Q=>Q (.int i) st
 |.str x=>fun _ st Q=>Q (.str x) st
 |.v i=>fun env st Q=>∃d,env[i]?=some (some d)∧Q d st
 |.tup es=>fun env st Q=>r6 Z es env st fun ds st1=>Q (.tup ds) st1
 |.lst es=>fun env st Q=>r6 Z es env st fun ds st1=>∀p,st1 p=none→Q (.ref p) (d7 st1 p (.lst ds))
 |.bin o a b=>fun env st Q=>wpE Z a env st fun x st1=>wpE Z b env st1 fun y st2=>A0 o x y st2 Q
 |.neg a=>fun env st Q=>wpE Z a env st fun x st1=>∃i,x=.int i∧Q (.int (-i)) st1
 |.cmp o a b=>fun env st Q=>wpE Z a env st fun x st1=>wpE Z b env st1 fun y st2=>u7 o x y st2 Q
 |.isN a=>fun env st Q=>wpE Z a env st fun x st1=>(x=.non∧Q (.bl true) st1)∨(x≠.non∧Q (.bl false) st1)
 |.notN a=>fun env st Q=>wpE Z a env st fun x st1=>(x=.non∧Q (.bl false) st1)∨(x≠.non∧Q (.bl true) st1)
 |.and a b=>fun env st Q=>wpE Z a env st fun x st1=>∃c,x=.bl c∧(if c=true then wpE Z b env st1 Q else Q (.bl false) st1)
 |.or a b=>fun env st Q=>wpE Z a env st fun x st1=>∃c,x=.bl c∧(if c=true then Q (.bl true) st1 else wpE Z b env st1 Q)
 |.not a=>fun env st Q=>wpE Z a env st fun x st1=>∃c,x=.bl c∧Q (.bl (!c)) st1
 |.ite c a b=>fun env st Q=>wpE Z c env st fun x st1=>∃k,x=.bl k∧(if k=true then wpE Z a env st1 Q else wpE Z b env st1 Q)
 |.ix a b=>fun env st Q=>wpE Z a env st fun x st1=>wpE Z b env st1 fun y st2=>ixR x y st2 Q
 |.sl a lo hi=>fun env st Q=>wpE Z a env st fun x st1=>
   (if lo.isNon=true then fun k=>k none st1 else fun(k:Option Int→Sto→Prop)=>wpE Z lo env st1 fun d st'=>∃i,d=.int i∧k (some i) st') fun l st2=>
   (if hi.isNon=true then fun k=>k none st2 else fun(k:Option Int→Sto→Prop)=>wpE Z hi env st2 fun d st'=>∃i,d=.int i∧k (some i) st') fun h st3=>slR x l h st3 Q
 |.slw a lo hi=>fun env st Q=>wpE Z a env st fun x st1=>
   (if lo.isNon=true then fun k=>k none st1 else fun(k:Option Int→Sto→Prop)=>wpE Z lo env st1 fun d st'=>∃i,d=.int i∧k (some i) st') fun l st2=>
   (if hi.isNon=true then fun k=>k none st2 else fun(k:Option Int→Sto→Prop)=>wpE Z hi env st2 fun d st'=>∃i,d=.int i∧k (some i) st') fun h st3=>av1 x l h st3 Q
 |.dsel ks vs k=>fun env st Q=>r6 Z vs env st fun ds st1=>wpE Z k env st1 fun x st2=>∃w d,x=.str w∧B8 (ks.zip ds) w=some d∧Q d st2
 |.len a=>fun env st Q=>wpE Z a env st fun x st1=>Q5 x st1 Q
 |.toInt a=>fun env st Q=>wpE Z a env st fun x st1=>X7 x st1 Q
 |.list a=>fun env st Q=>wpE Z a env st fun x st1=>ap4 x st1 Q
 |.tuple a=>fun env st Q=>wpE Z a env st fun x st1=>T4 x st1 Q
 |.isList a=>fun env st Q=>wpE Z a env st fun x st1=>R6 x st1 Q
 |.min a b=>fun env st Q=>wpE Z a env st fun x st1=>wpE Z b env st1 fun y st2=>∃i j,x=.int i∧y=.int j∧Q (.int (if j<i then j else i)) st2
 |.sorted a=>fun env st Q=>wpE Z a env st fun x st1=>a32 x st1 Q
 |.lzip a b=>fun env st Q=>wpE Z a env st fun x st1=>wpE Z b env st1 fun y st2=>∃xs ys,x=.tup xs∧y=.tup ys∧min xs.length ys.length≤1000000∧∀p,st2 p=none→Q (.ref p) (d7 st2 p (.lst (p7 xs ys)))
 |.call f es=>fun env st Q=>Z.F f=true∧r6 Z es env st fun ds st1=>Z.Phi f ds st1 Q
 |.gf f=>fun _ st Q=>Z.F f=true∧Q (.fn f) st
 |.callv i es=>fun env st Q=>∃x,env[i]?=some (some x)∧U1 Z (r6 Z es env) st Q x
 |.gc g=>fun _ st Q=>∃i,Z.Kc g=some i∧Q (.int i) st
 |.lam np N cp e=>fun env st Q=>∃cs,E7 env cp=some cs∧Q (.clo np N (.cons (.ret e) .nil) cs) st
 |.dict ks vs=>fun env st Q=>r6 Z vs env st fun ds st1=>∀p,st1 p=none→Q (.ref p) (d7 st1 p (.dct ((ks.zip ds).map fun kv=>(.inr kv.1,kv.2))))
 |.isT t a=>fun env st Q=>wpE Z a env st fun x st1=>U0 t x st1 Q
 |.cmpl ne a b=>fun env st Q=>wpE Z a env st fun x st1=>wpE Z b env st1 fun y st2=>J4 ne x y st2 Q
 |.fld a f=>fun env st Q=>wpE Z a env st fun x st1=>∃p c fs d,x=.ref p∧st1 p=some (.ins c fs)∧f∈Z.C c∧fs.lookup f=some d∧Q d st1
 |.meth a m es=>fun env st Q=>wpE Z a env st fun x st1=>∃p c fs,x=.ref p∧st1 p=some (.ins c fs)∧fs.lookup m=none∧Z.F (i5 c m)=true∧r6 Z es env st1 fun ds st2=>Z.Phi (i5 c m) (.ref p::ds) st2 Q
 |.make c es=>fun env st Q=>Z.MF (i5 c "__init__")=true∧r6 Z es env st fun ds st1=>∀p,st1 p=none→Z.Mk (i5 c "__init__") (.ref p::ds) (d7 st1 p (.ins c [])) fun v st2=>v=.non∧Q (.ref p) st2
 |.app a b=>fun env st Q=>wpE Z a env st fun x st1=>C2 x st1∧wpE Z b env st1 fun y st2=>aa2 x y st2 Q
 |.ext a b=>fun env st Q=>wpE Z a env st fun x st1=>C2 x st1∧wpE Z b env st1 fun y st2=>V3 x y st2 Q
 |.popAt a b=>fun env st Q=>wpE Z a env st fun x st1=>C2 x st1∧wpE Z b env st1 fun y st2=>a45 x y st2 Q
 |.pop a=>fun env st Q=>wpE Z a env st fun x st1=>aa4 x st1 Q
 |.dnt=>fun env st Q=>Z.C "!kt"≠[]∧∀p,st p=none→Q (.ref p) (d7 st p (.dtt []))
 |.dgt a k=>fun env st Q=>wpE Z a env st fun x st1=>a74 x st1∧wpE Z k env st1 fun y st2=>a79 x y st2 Q
 |.din ne k a=>fun env st Q=>wpE Z k env st fun y st1=>wpE Z a env st1 fun x st2=>Q4 ne y x st2 Q
 |.lrev a=>fun env st Q=>wpE Z a env st fun x st1=>aa0 x st1 Q
 |.index a b=>fun env st Q=>wpE Z a env st fun x st1=>aa1 x st1∧wpE Z b env st1 fun y st2=>O1 x y st2 Q
 |.comp _ fr k t it c e=>fun env st Q=>F6 Z it env st fun items chk st1=>items.length≤1000000 ∧
   u3 chk t (if c.isNon=true then fun _ st Q=>Q true st else fun env st Q=>wpE Z c env st fun d st'=>∃b,d=.bl b∧Q b st') (fun env st Q=>wpE Z e env st Q) (fun acc st'=>∀p,st' p=none→Q (.ref p) (d7 st' p (.lst acc))) items [] (O0 fr k env) st1
noncomputable def r6(Z:Sg):Es→DA
 |.nil=>fun _ st Q=>Q [] st
 |.cons e r=>fun env st Q=>wpE Z e env st fun d st1=>r6 Z r env st1 fun ds st2=>Q (d::ds) st2
noncomputable def F6(Z:Sg):It→i9→Sto→ItK→Prop
 |.seq e=>fun env st k=>wpE Z e env st fun d st1=>(∃ds,d=.tup ds∧k ds (fun _=>True) st1)∨(∃a ds,d=.ref a∧rdS st1 a ds∧k ds (fun st'=>rdS st' a ds) st1)
 |.rng a=>fun env st k=>wpE Z a env st fun d st1=>∃j:Int,d=.int j∧(-(2^62)≤j∧j<2^62)∧k (p8 0 j.toNat) (fun _=>True) st1
 |.rng2 a b=>fun env st k=>wpE Z a env st fun d st1=>wpE Z b env st1 fun e st2=>∃i j:Int,d=.int i∧e=.int j∧(-(2^62)≤i∧i<2^62∧-(2^62)≤j∧j<2^62)∧k (p8 i (j-i).toNat) (fun _=>True) st2
 |.zip a b=>fun env st k=>wpE Z a env st fun d st1=>wpE Z b env st1 fun e st2=>∃xs ys,t7 st2 d xs∧t7 st2 e ys∧k (p7 xs ys) (fun st'=>t7 st' d xs∧t7 st' e ys) st2
 |.rev e=>fun env st k=>wpE Z e env st fun d st1=>∃a ds,d=.ref a∧rdS st1 a ds∧k ds.reverse (fun st'=>rdS st' a ds) st1
end
noncomputable def wpT(Z:Sg)(e:E):DB:=fun env st Q=>wpE Z e env st fun d st'=>∃b,d=.bl b∧Q b st'
structure DEnds where
 nx:i9→Sto→Prop
 rt:DK
 bk:i9→Sto→Prop:=fun _ _=>False
 ct:i9→Sto→Prop:=fun _ _=>False
noncomputable abbrev DS:=DEnds→i9→Sto→Prop
noncomputable def u5(chk:Sto→Prop)(t:Tg)(tb:DS)(F:DEnds):List D→i9→Sto→Prop
 |[],env,st=>chk st∧F.nx env st
 |d::ds,env,st=>chk st∧J6 t d env fun env'=>tb {F with nx:=u5 chk t tb F ds,ct:=u5 chk t tb F ds,bk:=F.nx} env' st
noncomputable def E4(tc:DB)(tb:DS)(F:DEnds):Nat→i9→Sto→Prop
 |0,_,_=>False
 |n+1,env,st=>tc env st fun b st1=>if b=true then tb {F with nx:=E4 tc tb F n,ct:=E4 tc tb F n,bk:=F.nx} env st1 else F.nx env st1
mutual
noncomputable def wpS(Z:Sg):S→DS
 |.set i e=>fun F env st=>wpE Z e env st fun d st1=>F.nx (env.set i (some d)) st1
 |.dput o i v=>fun F env st=>wpE Z v env st fun d st1=>wpE Z o env st1 fun x st2=>wpE Z i env st2 fun y st3=>a63 x y d st3 fun st4=>F.nx env st4
 |.fldS o f v=>fun F env st=>wpE Z v env st fun d st1=>wpE Z o env st1 fun x st2=>∃p c fs,x=.ref p∧st2 p=some (.ins c fs)∧f∈Z.C c∧fs.length<1000∧F.nx env (d7 st2 p (.ins c (p9 f d fs)))
 |.ex e=>fun F env st=>wpE Z e env st fun _ st1=>F.nx env st1
 |.iff c a b=>fun F env st=>wpT Z c env st fun k st1=>if k=true then m9 Z a F env st1 else m9 Z b F env st1
 |.ret e=>fun F env st=>wpE Z e env st F.rt
 |.retN=>fun F _ st=>F.rt .non st
 |.for t it b=>fun F env st=>F6 Z it env st fun items chk st1=>u5 chk t (m9 Z b) F items env st1
 |.while c b=>fun F env st=>∃n,E4 (wpT Z c) (m9 Z b) F n env st
 |.dead=>fun _ _ _=>False
 |.pass=>fun F env st=>F.nx env st
 |.dfn i np N cp b=>fun F env st=>∃cs,E7 env cp=some cs∧F.nx (env.set i (some (.clo np N b cs))) st
noncomputable def m9(Z:Sg):Ss→DS
 |.nil=>fun F env st=>F.nx env st
 |.cons s r=>fun F env st=>wpS Z s {F with nx:=m9 Z r F} env st
end
structure Def where
 np:Nat
 N:List Str
 body:Ss
noncomputable abbrev j9:=Str→Option Def
noncomputable def al3(f:Def)(ds:List D):i9:=ds.map some++List.replicate (f.N.length-ds.length) none
structure Gs where
 tab:Str→List (Str×D)
 cls:Str→List Str
 cst:Str→Option Int
noncomputable def br9(P:j9)(G:Gs)(lo lo2:Str→Spec)(po:Bool)(lc:Nat→List Str→Ss→List D→Spec)(f:Str):Spec:=fun ds st Q=>∃fd,P f=some fd∧ds.length=fd.np∧m9 ⟨fun f=>(P f).isSome,lo,G.tab,G.cls,lo2,fun f=>po&&(P f).isSome,lc,G.cst⟩ fd.body
   {nx:=fun _ st'=>∃s2,Sub s2 st'∧Q .non s2,rt:=fun d st'=>∃s2,Sub s2 st'∧Q d s2} (al3 fd ds) st
noncomputable def L9(N:List Str)(ds cs:List D):i9:=(ds++cs).map some++List.replicate (N.length-(ds++cs).length) none
noncomputable def bs3(P:j9)(G:Gs)(lo lo2:Str→Spec)(po:Bool)(lc:Nat→List Str→Ss→List D→Spec)(np:Nat)(N:List Str)(b:Ss)(cs:List D):Spec:=fun ds st Q=>ds.length=np∧m9 ⟨fun f=>(P f).isSome,lo,G.tab,G.cls,lo2,fun f=>po&&(P f).isSome,lc,G.cst⟩ b
   {nx:=fun _ st'=>∃s2,Sub s2 st'∧Q .non s2,rt:=fun d st'=>∃s2,Sub s2 st'∧Q d s2} (L9 N ds cs) st
noncomputable def u8(P:j9)(G:Gs):Nat→(Str→Spec)×(Str→Spec)×Bool×(Nat→List Str→Ss→List D→Spec)
 |0=>(fun _ _ _ _=>False,fun _ _ _ _=>False,false,fun _ _ _ _ _ _ _=>False)
 |n+1=>(br9 P G (u8 P G n).1 (u8 P G n).2.1 (u8 P G n).2.2.1 (u8 P G n).2.2.2,(u8 P G n).1,true,bs3 P G (u8 P G n).1 (u8 P G n).2.1 (u8 P G n).2.2.1 (u8 P G n).2.2.2)
noncomputable def sem(P:j9)(G:Gs)(n:Nat):Str→Spec:=(u8 P G n).1
noncomputable def J8(P:j9)(G:Gs)(n:Nat):Nat→List Str→Ss→List D→Spec:=(u8 P G n).2.2.2
theorem b62{P:j9}{G:Gs}{n:Nat}:sem P G (n+1)=br9 P G (sem P G n) (u8 P G n).2.1 (u8 P G n).2.2.1 (J8 P G n):=rfl
theorem b38{P:j9}{G:Gs}{n:Nat}:J8 P G (n+1)=bs3 P G (sem P G n) (u8 P G n).2.1 (u8 P G n).2.2.1 (J8 P G n):=rfl
end Ek
namespace Ek
open PySem PySem.Spec PyProof.Rows L2
class Tbs where
 ps:List Addr
 mt:Ss→Scope→List Str→FuncBody→Prop
 kt:Bool
structure FnScC(N P:List Str)(sc:Scope):Prop where
 kind:sc.kind=.function
 co:sc.isCoroutine=false
 gen:sc.isGenerator=false
 nd:N.Nodup
 pre:N.take P.length=P
 par:∀x∈P,sc.names.lookup x=some .local
 nocell:∀y∈sc.names,y.2≠.cell
 fre:∀y∈sc.names,y.2=.free→sc.names.lookup y.1=some .free
noncomputable def M6(H:Hp)(cv:Value):Prop:=∃c o u vs q t,cv=.ref c∧H c=some (.frz o u)∧(∀vs,u≠.lst vs)∧o.data=.fields vs∧vs[1]?=some (.str q t)
variable [Tbs]
structure CloF(fd:FuncData)(np:Nat)(N ps:List Str)(b:Ss):Prop where
 sc:FnScC N ps fd.scope
 np:ps.length=np
 mt:Tbs.mt b fd.scope N fd.body
 bind:∀us:List Value,us.length=ps.length→bindArgs fd ⟨us,[]⟩=pure (ps.zip us)
 gl:fd.globals=mainGlobals
 bl:fd.builtins=builtinsNs
 has:∀x,(x,NameKind.free)∈fd.scope.names→∃c,fd.closure.lookup x=some c
 fre:∀x c,fd.closure.lookup x=some c→(x,NameKind.free)∈fd.scope.names
 inj:∀x y c,fd.closure.lookup x=some c→fd.closure.lookup y=some c→x=y
structure CloR(H:Hp)(f:Addr)(fd:FuncData)(np:Nat)(N:List Str)(us:List V):Prop where
 ex:∃o u,H f=some (.frz o u)∧(∀vs,u≠.lst vs)∧o.data=.func fd
 cd:M6 H fd.code
 cl:∀x c,fd.closure.lookup x=some c→∃o' u' w,H c=some (.frz o' u')∧(∀vs,u'≠.lst vs)∧o'.data=.cell (some w)
 at':∀(i:Nat)v,us[i]?=some v→∃x c o' u' w,N[np+i]?=some x∧fd.closure.lookup x=some c∧H c=some (.frz o' u')∧(∀vs,u'≠.lst vs)∧o'.data=.cell (some w)∧i6 v w
noncomputable def Z3(H:Hp)(f:Addr)(np:Nat)(N:List Str)(b:Ss)(us:List V):Prop:=∃fd ps,CloF fd np N ps b∧CloR H f fd np N us
noncomputable def SqX(K:W.Frag)(H:Hp)(a:Addr)(xs:List V):Prop:=H a=some (.tup xs)∨(Tbs.kt=true∧SqT K H a xs)
theorem SqX.sqt{K:W.Frag}{H:Hp}{a:Addr}{xs:List V}(h:SqX K H a xs):SqT K H a xs:=h.elim (fun h=>.inl (.inl h)) fun h=>h.2
theorem SqX.of{K:W.Frag}{H:Hp}{a:Addr}{xs:List V}(h:H a=some (.tup xs)):SqX K H a xs:=.inl h
theorem SqX.trk{K:W.Frag}{H:Hp}{a:Addr}{xs:List V}(hk:Tbs.kt=false)(h:SqX K H a xs):H a=some (.tup xs):=h.elim (fun h=>h) fun h=>by rw[hk]at h;exact absurd h.1 (by decide)
inductive IsD(K:W.Frag)(H:Hp):D→V→Prop where
 |non:IsD K H .non .non
 |bl (b:Bool):IsD K H (.bl b) (.bl b)
 |int (i:Int):IsD K H (.int i) (.int i)
 |str (x:Str):IsD K H (.str x) (.str x)
 |ref (a:Addr):IsD K H (.ref a) (.ref a)
 |fn {f:Str} {a:Addr}:W.nsIn K mainGlobals f=some (some (.ref a))→IsD K H (.fn f) (.ref a)
 |clo {f:Addr} {np:Nat} {N:List Str} {b:Ss} {ds:List D} {us:List V}:Z3 H f np N b us→ds.length=us.length→(∀(i:Nat)d v,ds[i]?=some d→us[i]?=some v→IsD K H d v)→IsD K H (.clo np N b ds) (.ref f)
 |tup {a:Addr} {ds:List D} {vs:List V}:SqX K H a vs→ds.length=vs.length→(∀(i:Nat)d v,ds[i]?=some d→vs[i]?=some v→IsD K H d v)→IsD K H (.tup ds) (.ref a)
structure IsDs(K:W.Frag)(H:Hp)(ds:List D)(vs:List V):Prop where
 len:ds.length=vs.length
 at':∀(i:Nat)d v,ds[i]?=some d→vs[i]?=some v→IsD K H d v
section
variable {K:W.Frag} {H H' H2:Hp} {d:D} {v:V} {ds es:List D} {vs ws:List V}
theorem IsD.mk(h:SqX K H a vs)(r:IsDs K H ds vs):IsD K H (.tup ds) (.ref a):=.tup h r.len r.at'
theorem IsD.tup_invX{v:V}(h:IsD K H (.tup ds) v):∃a vs,v=.ref a∧SqX K H a vs∧IsDs K H ds vs:=by
 cases h with
 |tup a b c=>exact⟨_,_,rfl,a,⟨b,c⟩⟩
theorem IsD.tup_inv{v:V}(h:IsD K H (.tup ds) v):∃a vs,v=.ref a∧SqT K H a vs∧IsDs K H ds vs:=let⟨a,vs,e,q,r⟩:=h.tup_invX;⟨a,vs,e,q.sqt,r⟩
theorem IsDs.nil:IsDs K H [] []:=⟨rfl,fun i d v h=>by simp at h⟩
theorem IsDs.cons(h:IsD K H d v)(r:IsDs K H ds vs):IsDs K H (d::ds) (v::vs):=⟨by simp[r.len],fun i e w h1 h2=>by
 cases i with
 |zero=>simp at h1 h2;subst h1 h2;exact h
 |succ i=>exact r.at' i e w (by simpa using h1) (by simpa using h2)⟩
theorem IsDs.get(r:IsDs K H ds vs){i:Nat}{d:D}(h:ds[i]?=some d):∃v,vs[i]?=some v∧IsD K H d v:=by
 have hi:i<ds.length:=(List.getElem?_eq_some_iff.mp h).1;rw[r.len]at hi;exact⟨vs[i],List.getElem?_eq_getElem hi,r.at' i d _ h (List.getElem?_eq_getElem hi)⟩
theorem IsDs.get'(r:IsDs K H ds vs){i:Nat}{v:V}(h:vs[i]?=some v):∃d,ds[i]?=some d∧IsD K H d v:=by
 have hi:i<vs.length:=(List.getElem?_eq_some_iff.mp h).1;rw[←r.len]at hi;exact⟨ds[i],List.getElem?_eq_getElem hi,r.at' i _ v (List.getElem?_eq_getElem hi) h⟩
theorem IsDs.inv_cons{d:D}{ds:List D}{vs:List V}(r:IsDs K H (d::ds) vs):∃v ws,vs=v::ws∧IsD K H d v∧IsDs K H ds ws:=by
 cases vs with
 |nil=>have:=r.len;simp at this
 |cons v ws=>exact⟨v,ws,rfl,r.at' 0 d v rfl rfl,⟨by have:=r.len;simpa using this,fun i e w h1 h2=>r.at' (i+1) e w (by simpa using h1) (by simpa using h2)⟩⟩
theorem IsDs.inv_nil{vs:List V}(r:IsDs K H [] vs):vs=[]:=by
 cases vs with
 |nil=>rfl
 |cons v ws=>have:=r.len;simp at this
theorem IsDs.append(r:IsDs K H ds vs)(q:IsDs K H es ws):IsDs K H (ds++es) (vs++ws):=⟨by simp[r.len,q.len],fun i d v h1 h2=>by
 by_cases hi:i<ds.length
 ·rw[List.getElem?_append_left hi]at h1;rw[List.getElem?_append_left (by rw[←r.len];exact hi)]at h2;exact r.at' i d v h1 h2
 ·rw[List.getElem?_append_right (by omega)]at h1;rw[List.getElem?_append_right (by rw[←r.len];omega),←r.len]at h2;exact q.at' _ d v h1 h2⟩
theorem IsDs.drop(r:IsDs K H ds vs)(n:Nat):IsDs K H (ds.drop n) (vs.drop n):=⟨by simp[r.len],fun i d v h1 h2=>by
 rw[List.getElem?_drop]at h1 h2;exact r.at' _ d v h1 h2⟩
theorem IsDs.take(r:IsDs K H ds vs)(n:Nat):IsDs K H (ds.take n) (vs.take n):=⟨by simp[r.len],fun i d v h1 h2=>by
 rw[List.getElem?_take]at h1 h2
 split at h1
 ·rename_i hi;rw[if_pos hi]at h2;exact r.at' _ d v h1 h2
 ·cases h1⟩
theorem IsDs.erase:∀{ds:List D}{vs:List V}(r:IsDs K H ds vs)(n:Nat),IsDs K H (ds.eraseIdx n) (vs.eraseIdx n)
 |[],vs,r,n=>by rw[r.inv_nil];simpa using IsDs.nil
 |d::ds,vs,r,n=>by
  obtain⟨v,ws,rfl,h1,h2⟩:=r.inv_cons;cases n with
  |zero=>simpa using h2
  |succ n=>simpa using IsDs.cons h1 (IsDs.erase h2 n)
theorem IsDs.rev:∀{ds:List D}{vs:List V}(r:IsDs K H ds vs),IsDs K H ds.reverse vs.reverse
 |[],vs,r=>by rw[r.inv_nil];exact IsDs.nil
 |d::ds,vs,r=>by
  obtain⟨v,ws,rfl,h1,h2⟩:=r.inv_cons;rw[List.reverse_cons,List.reverse_cons];exact(IsDs.rev h2).append (IsDs.cons h1 IsDs.nil)
noncomputable def TK(K:W.Frag)(H H':Hp):Prop:=((∀a xs,SqT K H a xs→SqT K H' a xs)∧∀a xs,H a=some (.tup xs)→H' a=some (.tup xs))∧∀a o u,H a=some (.frz o u)→(∀vs,u≠.lst vs)→H' a=some (.frz o u)
theorem SqX.keep{a:Addr}{xs:List V}(h:SqX K H a xs)(k:TK K H H'):SqX K H' a xs:=h.elim (fun h=>.inl (k.1.2 _ _ h)) fun h=>.inr ⟨h.1,k.1.1 _ _ h.2⟩
theorem TK.refl:TK K H H:=⟨⟨fun _ _ h=>h,fun _ _ h=>h⟩,fun _ _ _ h _=>h⟩
theorem TK.trans(a:TK K H H')(b:TK K H' H2):TK K H H2:=⟨⟨fun c xs h=>b.1.1 c xs (a.1.1 c xs h),fun c xs h=>b.1.2 c xs (a.1.2 c xs h)⟩,fun c o u h n=>b.2 c o u (a.2 c o u h n) n⟩
theorem TK.upd'{p:Addr}{o:HO}(h:∀xs,H p≠some (.tup xs))(h2:∀o u,H p≠some (.frz o u)):TK K H (upd H p o):=⟨⟨fun a xs q=>by
 rcases q with(q|⟨o',q⟩)|q
 ·exact .inl (.inl (by have ne:a≠p:=(fun z=>h xs (by rw[←z];exact q));rw[i8 ne];exact q))
 ·exact .inl (.inr ⟨o',by have ne:a≠p:=(fun z=>h2 _ _ (by rw[←z];exact q));rw[i8 ne];exact q⟩)
 ·exact .inr q,fun a xs q=>by have ne:a≠p:=(fun z=>h xs (by rw[←z];exact q));rw[i8 ne];exact q⟩,fun a o' u q n=>by have ne:a≠p:=(fun z=>h2 _ _ (by rw[←z];exact q));rw[i8 ne];exact q⟩
theorem TK.new{p:Addr}{o:HO}(h:H p=none):TK K H (upd H p o):=TK.upd' (by rw[h];exact fun _=>nofun) (by rw[h];exact fun _ _=>nofun)
theorem TK.putI{p:Addr}{o:HO}{C dx:Addr}{xs:List (Str×V)}(h:H p=some (.ins C dx xs)):TK K H (upd H p o):=TK.upd' (by rw[h];exact fun _ z=>by cases z) (by rw[h];exact fun _ _ z=>by cases z)
theorem TK.putD{p:Addr}{o:HO}{xs:List (Key×V)}(h:H p=some (.dK xs)):TK K H (upd H p o):=TK.upd' (by rw[h];exact fun _ z=>by cases z) (by rw[h];exact fun _ _ z=>by cases z)
theorem TK.put{p:Addr}{o:HO}{xs:List V}(h:H p=some (.lst xs)):TK K H (upd H p o):=TK.upd' (by rw[h];exact fun _ z=>by cases z) (by rw[h];exact fun _ _ z=>by cases z)
theorem M6.mono{cv:Value}(h:M6 H cv)(k:TK K H H'):M6 H' cv:=let⟨c,o,u,vs,q,t,e1,e2,e3,e4⟩:=h;⟨c,o,u,vs,q,t,e1,k.2 _ _ _ e2 e3,e3,e4⟩
theorem CloR.mono{f:Addr}{fd:FuncData}{np:Nat}{N:List Str}{us:List V}(h:CloR H f fd np N us)(k:TK K H H'):CloR H' f fd np N us:=by
 obtain⟨⟨o,u,e1,e2,e3⟩,e5,e6,e7⟩:=h;refine⟨⟨o,u,k.2 _ _ _ e1 e2,e2,e3⟩,e5.mono k,fun x c hx=>?_,fun i v hv=>?_⟩
 ·obtain⟨o',u',w,a,b,c⟩:=e6 x c hx;exact⟨o',u',w,k.2 _ _ _ a b,b,c⟩
 ·obtain⟨x,c,o',u',w,a1,a2,a3,a4,a5⟩:=e7 i v hv;exact⟨x,c,o',u',w,a1,a2,k.2 _ _ _ a3 a4,a4,a5⟩
theorem Z3.mono{f:Addr}{np:Nat}{N:List Str}{b:Ss}{us:List V}(h:Z3 H f np N b us)(k:TK K H H'):Z3 H' f np N b us:=let⟨fd,ps,a,b⟩:=h;⟨fd,ps,a,b.mono k⟩
theorem IsD.mono(h:IsD K H d v)(k:TK K H H'):IsD K H' d v:=by
 induction h with
 |non=>exact .non
 |bl b=>exact .bl b
 |int i=>exact .int i
 |str x=>exact .str x
 |ref a=>exact .ref a
 |fn h=>exact .fn h
 |clo a b _ ih=>exact .clo (a.mono k) b ih
 |tup a b _ ih=>exact .tup (a.keep k) b ih
theorem IsDs.mono(h:IsDs K H ds vs)(k:TK K H H'):IsDs K H' ds vs:=⟨h.len,fun i d v a b=>(h.at' i d v a b).mono k⟩
structure RelE(K:W.Frag)(H:Hp)(env:i9)(σ:L2.St):Prop where
 len:env.length=σ.length
 at':∀(i:Nat)d,env[i]?=some (some d)→∃v,σ[i]?=some (some v)∧IsD K H d v
variable {env:i9} {σ:L2.St} {st st':Sto}
theorem RelE.mono(r:RelE K H env σ)(k:TK K H H'):RelE K H' env σ:=⟨r.len,fun i d h=>let⟨v,a,b⟩:=r.at' i d h;⟨v,a,b.mono k⟩⟩
theorem RelE.set(r:RelE K H env σ)(h:IsD K H d v)(i:Nat):RelE K H (env.set i (some d)) (σ.set i (some v)):=⟨by simp[r.len],fun j e q=>by
 rw[List.getElem?_set]at q ⊢
 by_cases hi:i=j
 ·rw[if_pos hi]at q ⊢
  split at q
  ·rename_i hl;rw[←r.len,if_pos hl];cases q;exact⟨v,rfl,h⟩
  ·cases q
 ·rw[if_neg hi]at q ⊢;exact r.at' j e q⟩
structure IsKs(K:W.Frag)(H:Hp)(kvs:List (Key×D))(vs:List (Key×V)):Prop where
 ks:kvs.map (·.1)=vs.map (·.1)
 ds:IsDs K H (kvs.map (·.2)) (vs.map (·.2))
theorem IsKs.mono{kvs:List (Key×D)}{vs:List (Key×V)}(h:IsKs K H kvs vs)(k:TK K H H'):IsKs K H' kvs vs:=⟨h.ks,h.ds.mono k⟩
theorem IsKs.inv_cons{e:Key×D}{kvs:List (Key×D)}{vs:List (Key×V)}(h:IsKs K H (e::kvs) vs):∃v ws,vs=(e.1,v)::ws∧IsD K H e.2 v∧IsKs K H kvs ws:=by
 cases vs with
 |nil=>have:=h.ks;simp at this
 |cons f ws=>
  obtain⟨k,v⟩:=f;have e1:=h.ks;simp only[List.map_cons,List.cons.injEq]at e1;have e2:=h.ds;simp only[List.map_cons]at e2;obtain⟨v',ws',e3,i1,i2⟩:=e2.inv_cons;simp only[List.cons.injEq]at e3;obtain⟨rfl,rfl⟩:=e3;exact⟨v,ws,by rw[e1.1],i1,⟨e1.2,i2⟩⟩
theorem IsKs.look:∀{kvs:List (Key×D)}{vs:List (Key×V)}(h:IsKs K H kvs vs)(k:Key),(B0 kvs k=none∧o9 vs k=none)∨∃d v,B0 kvs k=some d∧o9 vs k=some v∧IsD K H d v
 |[],vs,h,k=>by
  have:vs=[]:=by have:=h.ks;simpa using this.symm
  subst this;exact .inl ⟨rfl,rfl⟩
 |e::kvs,vs,h,k=>by
  obtain⟨v,ws,rfl,i1,i2⟩:=h.inv_cons;unfold B0 o9;rw[List.find?_cons,List.find?_cons]
  by_cases hk:e.1=k
  ·simp only[hk,decide_true];exact .inr ⟨e.2,v,rfl,rfl,i1⟩
  ·simp only[hk,decide_false];exact IsKs.look i2 k
structure IsPs(K:W.Frag)(H:Hp)(kvs:List (PyData×D))(vs:List (PyData×V)):Prop where
 ks:kvs.map (·.1)=vs.map (·.1)
 ds:IsDs K H (kvs.map (·.2)) (vs.map (·.2))
theorem IsPs.nil:IsPs K H [] []:=⟨rfl,.nil⟩
theorem IsPs.mono{kvs:List (PyData×D)}{vs:List (PyData×V)}(h:IsPs K H kvs vs)(k:TK K H H'):IsPs K H' kvs vs:=⟨h.ks,h.ds.mono k⟩
theorem IsPs.inv_cons{e:PyData×D}{kvs:List (PyData×D)}{vs:List (PyData×V)}(h:IsPs K H (e::kvs) vs):∃v ws,vs=(e.1,v)::ws∧IsD K H e.2 v∧IsPs K H kvs ws:=by
 cases vs with
 |nil=>have:=h.ks;simp at this
 |cons f ws=>
  obtain⟨k,v⟩:=f;have e1:=h.ks;simp only[List.map_cons,List.cons.injEq]at e1;have e2:=h.ds;simp only[List.map_cons]at e2;obtain⟨v',ws',e3,i1,i2⟩:=e2.inv_cons;simp only[List.cons.injEq]at e3;obtain⟨rfl,rfl⟩:=e3;exact⟨v,ws,by rw[e1.1],i1,⟨e1.2,i2⟩⟩
theorem IsPs.cons{k:PyData}{d:D}{v:V}{kvs:List (PyData×D)}{vs:List (PyData×V)}(i:IsD K H d v)(h:IsPs K H kvs vs):IsPs K H ((k,d)::kvs) ((k,v)::vs):=⟨by simp[h.ks],by simpa using IsDs.cons i h.ds⟩
theorem IsPs.look:∀{kvs:List (PyData×D)}{vs:List (PyData×V)}(h:IsPs K H kvs vs)(k:PyData),(z8 kvs k=none∧o9 vs k=none)∨∃d v,z8 kvs k=some d∧o9 vs k=some v∧IsD K H d v
 |[],vs,h,k=>by
  have:vs=[]:=by have:=h.ks;simpa using this.symm
  subst this;exact .inl ⟨rfl,rfl⟩
 |e::kvs,vs,h,k=>by
  obtain⟨v,ws,rfl,i1,i2⟩:=h.inv_cons;unfold z8 o9;rw[List.find?_cons,List.find?_cons]
  by_cases hk:e.1=k
  ·simp only[hk,decide_true];exact .inr ⟨e.2,v,rfl,rfl,i1⟩
  ·simp only[hk,decide_false];exact IsPs.look i2 k
theorem IsPs.any:∀{kvs:List (PyData×D)}{vs:List (PyData×V)}(h:IsPs K H kvs vs)(k:PyData),(kvs.any fun kv=>decide (kv.1=k))=(vs.any fun kv=>decide (kv.1=k))
 |[],vs,h,k=>by
  have:vs=[]:=by have:=h.ks;simpa using this.symm
  subst this;rfl
 |e::kvs,vs,h,k=>by
  obtain⟨v,ws,rfl,i1,i2⟩:=h.inv_cons;rw[List.any_cons,List.any_cons,IsPs.any i2 k]
theorem IsPs.repl{d:D}{v:V}(i:IsD K H d v)(k:PyData):∀{kvs:List (PyData×D)}{vs:List (PyData×V)}(h:IsPs K H kvs vs),IsPs K H (kvs.map fun kv=>if kv.1=k then(kv.1,d)else kv) (vs.map fun kv=>if kv.1=k then(kv.1,v)else kv)
 |[],vs,h=>by
  have:vs=[]:=by have:=h.ks;simpa using this.symm
  subst this;exact .nil
 |e::kvs,vs,h=>by
  obtain⟨u,ws,rfl,i1,i2⟩:=h.inv_cons;obtain⟨x,y⟩:=e;rw[List.map_cons,List.map_cons];simp only
  by_cases hk:x=k
  ·rw[if_pos hk,if_pos hk];exact IsPs.cons i (IsPs.repl i k i2)
  ·rw[if_neg hk,if_neg hk];exact IsPs.cons i1 (IsPs.repl i k i2)
theorem IsPs.snoc{d:D}{v:V}(i:IsD K H d v)(k:PyData):∀{kvs:List (PyData×D)}{vs:List (PyData×V)}(h:IsPs K H kvs vs),IsPs K H (kvs++[(k,d)]) (vs++[(k,v)])
 |[],vs,h=>by
  have:vs=[]:=by have:=h.ks;simpa using this.symm
  subst this;exact IsPs.cons i .nil
 |e::kvs,vs,h=>by
  obtain⟨u,ws,rfl,i1,i2⟩:=h.inv_cons;exact IsPs.cons i1 (IsPs.snoc i k i2)
theorem IsPs.put{kvs:List (PyData×D)}{vs:List (PyData×V)}(h:IsPs K H kvs vs){d:D}{v:V}(i:IsD K H d v)(k:PyData):IsPs K H (M8 kvs k d) (u4 vs k v):=by
 unfold M8 u4;rw[h.any k]
 by_cases q:(vs.any fun kv=>decide (kv.1=k))=true
 ·rw[if_pos q,if_pos q];exact IsPs.repl i k h
 ·rw[if_neg q,if_neg q];exact IsPs.snoc i k h
theorem IsPs.len{kvs:List (PyData×D)}{vs:List (PyData×V)}(h:IsPs K H kvs vs):kvs.length=vs.length:=by
 have:=congrArg List.length h.ks;simpa using this
structure IsFs(K:W.Frag)(H:Hp)(fs:List (Str×D))(vs:List (Str×V)):Prop where
 ks:fs.map (·.1)=vs.map (·.1)
 ds:IsDs K H (fs.map (·.2)) (vs.map (·.2))
theorem IsFs.nil:IsFs K H [] []:=⟨rfl,.nil⟩
theorem IsFs.mono{fs:List (Str×D)}{vs:List (Str×V)}(h:IsFs K H fs vs)(k:TK K H H'):IsFs K H' fs vs:=⟨h.ks,h.ds.mono k⟩
theorem IsFs.inv_cons{e:Str×D}{fs:List (Str×D)}{vs:List (Str×V)}(h:IsFs K H (e::fs) vs):∃v ws,vs=(e.1,v)::ws∧IsD K H e.2 v∧IsFs K H fs ws:=by
 cases vs with
 |nil=>have:=h.ks;simp at this
 |cons f ws=>
  obtain⟨k,v⟩:=f;have e1:=h.ks;simp only[List.map_cons,List.cons.injEq]at e1;have e2:=h.ds;simp only[List.map_cons]at e2;obtain⟨v',ws',e3,i1,i2⟩:=e2.inv_cons;simp only[List.cons.injEq]at e3;obtain⟨rfl,rfl⟩:=e3;exact⟨v,ws,by rw[e1.1],i1,⟨e1.2,i2⟩⟩
theorem IsFs.cons{k:Str}{d:D}{v:V}{fs:List (Str×D)}{vs:List (Str×V)}(h:IsD K H d v)(r:IsFs K H fs vs):IsFs K H ((k,d)::fs) ((k,v)::vs):=⟨by simp only[List.map_cons,r.ks],by simp only[List.map_cons];exact .cons h r.ds⟩
theorem IsFs.length{fs:List (Str×D)}{vs:List (Str×V)}(h:IsFs K H fs vs):fs.length=vs.length:=by simpa using h.ds.len
theorem IsFs.look:∀{fs:List (Str×D)}{vs:List (Str×V)}(h:IsFs K H fs vs)(k:Str),(fs.lookup k=none∧vs.lookup k=none)∨∃d v,fs.lookup k=some d∧vs.lookup k=some v∧IsD K H d v
 |[],vs,h,k=>by
  have:vs=[]:=by have:=h.ks;simpa using this.symm
  subst this;exact .inl ⟨rfl,rfl⟩
 |e::fs,vs,h,k=>by
  obtain⟨v,ws,rfl,i1,i2⟩:=h.inv_cons;obtain⟨g,d⟩:=e;rw[List.lookup_cons,List.lookup_cons];cases hk:k==g with
  |true=>exact .inr ⟨d,v,rfl,rfl,i1⟩
  |false=>exact IsFs.look i2 k
theorem IsFs.put:∀{fs:List (Str×D)}{vs:List (Str×V)}(h:IsFs K H fs vs){d:D}{v:V}(i:IsD K H d v)(f:Str),IsFs K H (p9 f d fs) (v9 f v vs)
 |[],vs,h,d,v,i,f=>by
  have:vs=[]:=by have:=h.ks;simpa using this.symm
  subst this;exact .cons i .nil
 |e::fs,vs,h,d,v,i,f=>by
  obtain⟨w,ws,rfl,i1,i2⟩:=h.inv_cons;obtain⟨g,x⟩:=e;unfold p9 v9
  by_cases hg:g=f
  ·rw[if_pos hg,if_pos hg];exact .cons i i2
  ·rw[if_neg hg,if_neg hg];exact .cons i1 (IsFs.put i2 i f)
noncomputable def ObR(K:W.Frag)(H:Hp)(a:Addr):Ob→Prop
 |.lst ds=>∃vs,H a=some (.lst vs)∧IsDs K H ds vs
 |.fro ds=>∃vs,Rd H a (.lst vs)∧IsDs K H ds vs
 |.dct kvs=>∃vs,H a=some (.dK vs)∧IsKs K H kvs vs
 |.dtt kvs=>∃vs,H a=some (.dT vs)∧IsPs K H kvs vs∧Tbs.kt=false
 |.ins c fs=>∃C dx vs,H a=some (.ins C dx vs)∧W.nsIn K mainGlobals c=some (some (.ref C))∧IsFs K H fs vs
structure TabOk(H:Hp)(ps:Array Value):Prop where
 tr:TriplesOk ps.toList
 co:∀pos cv,codeAmong pos ps.toList=some cv→M6 H cv
noncomputable def am0(H:Hp):Prop:=∀P∈Tbs.ps,∃ps,H P=some (.tbl ps)∧TabOk H ps
theorem am0.stay(h:am0 H)(k:TK K H H')(t:∀a ps,H a=some (.tbl ps)→H' a=some (.tbl ps)):am0 H':=fun P hP=>by
 obtain⟨ps,e,o⟩:=h P hP;exact⟨ps,t P ps e,o.tr,fun pos cv hc=>(o.co pos cv hc).mono k⟩
structure RelS(K:W.Frag)(st:Sto)(H:Hp):Prop where
 ob:∀a o,st a=some o→ObR K H a o
 tb:am0 H
theorem RelS.free(r:RelS K st H){p:Addr}(h:H p=none):st p=none:=by
 cases q:st p with
 |none=>rfl
 |some o=>
  have z:=r.ob p o q;cases o with
  |lst ds=>obtain⟨vs,a,_⟩:=z;rw[h]at a;cases a
  |fro ds=>
   obtain⟨vs,a|⟨o',a⟩,_⟩:=z
   ·rw[h]at a;cases a
   ·rw[h]at a;cases a
  |dct kvs=>obtain⟨vs,a,_⟩:=z;rw[h]at a;cases a
  |dtt kvs=>obtain⟨vs,a,_⟩:=z;rw[h]at a;cases a
  |ins c fs=>obtain⟨C,dx,vs,a,_⟩:=z;rw[h]at a;cases a
theorem RelS.sub(r:RelS K st' H)(s:Sub st st'):RelS K st H:=⟨fun a o h=>r.ob a o (s a o h),r.tb⟩
theorem RelS.stay(r:RelS K st H)(k:TK K H H')(ho:∀a o,st a=some o→H' a=H a)(t:∀a ps,H a=some (.tbl ps)→H' a=some (.tbl ps)):RelS K st H':=⟨fun a o h=>by
 have z:=r.ob a o h;have e:=ho a o h;cases o with
 |lst ds=>obtain⟨vs,q,w⟩:=z;exact⟨vs,by rw[e];exact q,w.mono k⟩
 |fro ds=>
  obtain⟨vs,q|⟨o',q⟩,w⟩:=z
  ·exact⟨vs,.inl (by rw[e];exact q),w.mono k⟩
  ·exact⟨vs,.inr ⟨o',by rw[e];exact q⟩,w.mono k⟩
 |dct kvs=>obtain⟨vs,q,w⟩:=z;exact⟨vs,by rw[e];exact q,w.mono k⟩
 |dtt kvs=>obtain⟨vs,q,w,t⟩:=z;exact⟨vs,by rw[e];exact q,w.mono k,t⟩
 |ins c fs=>obtain⟨C,dx,vs,q,n,w⟩:=z;exact⟨C,dx,vs,by rw[e];exact q,n,w.mono k⟩,r.tb.stay k t⟩
theorem ah5{p:Addr}{o:HO}(h:∀ps,H p≠some (.tbl ps)):∀a ps,H a=some (.tbl ps)→(upd H p o) a=some (.tbl ps):=fun a ps e=>by
 have ne:a≠p:=fun z=>h ps (by rw[←z];exact e);rw[i8 ne];exact e
theorem b69{p:Addr}{o:HO}(h:H p=none):∀a ps,H a=some (.tbl ps)→(upd H p o) a=some (.tbl ps):=ah5 (by rw[h];exact fun _=>nofun)
theorem RelS.new(r:RelS K st H){p:Addr}{o:HO}(h:H p=none):RelS K st (upd H p o):=r.stay (TK.new h) (fun a u e=>i8 fun z=>by
 rw[z,r.free h]at e;cases e) (b69 h)
theorem RelS.putAny(r:RelS K st H){p:Addr}{ob:Ob}{o':HO}(tk:TK K H (upd H p o'))(w:ObR K (upd H p o') p ob)(t:∀ps,H p≠some (.tbl ps)):RelS K (d7 st p ob) (upd H p o'):=by
 have r':RelS K (fun b=>if b=p then none else st b) H:=⟨fun b u q=>by
  split at q
  ·cases q
  ·exact r.ob b u q,r.tb⟩
 have r2:=r'.stay tk (fun b u q=>i8 fun z=>by
  have q':(if b=p then none else st b)=some u:=q;rw[if_pos z]at q';cases q') (ah5 t)
 refine⟨fun a o e=>?_,r2.tb⟩
 by_cases ha:a=p
 ·subst ha;rw[d8]at e;cases e;exact w
 ·rw[B6 ha]at e;exact r2.ob a o (by show(if a=p then none else st a)=some o;rw[if_neg ha];exact e)
theorem RelS.putNew(r:RelS K st H){p:Addr}(h:H p=none)(w:IsDs K H ds vs):RelS K (d7 st p (.lst ds)) (upd H p (.lst vs)):=
 r.putAny (TK.new h) ⟨vs,o8,w.mono (TK.new h)⟩ (by rw[h];exact fun _=>nofun)
theorem RelS.putOld(r:RelS K st H){p:Addr}{xs:List V}(h:H p=some (.lst xs))(w:IsDs K H ds vs):RelS K (d7 st p (.lst ds)) (upd H p (.lst vs)):=
 r.putAny (TK.put h) ⟨vs,o8,w.mono (TK.put h)⟩ (by rw[h];exact fun _ z=>by cases z)
theorem RelS.lst(r:RelS K st H){a:Addr}{ds:List D}(h:st a=some (.lst ds)):∃vs,H a=some (.lst vs)∧IsDs K H ds vs:=r.ob a _ h
theorem RelS.dct(r:RelS K st H){a:Addr}{kvs:List (Key×D)}(h:st a=some (.dct kvs)):∃vs,H a=some (.dK vs)∧IsKs K H kvs vs:=r.ob a _ h
theorem RelS.ins(r:RelS K st H){a:Addr}{c:Str}{fs:List (Str×D)}(h:st a=some (.ins c fs)):∃C dx vs,H a=some (.ins C dx vs)∧W.nsIn K mainGlobals c=some (some (.ref C))∧IsFs K H fs vs:=r.ob a _ h
theorem RelS.rd(r:RelS K st H){a:Addr}{ds:List D}(h:rdS st a ds):∃vs,SqL K H a vs∧IsDs K H ds vs:=by
 rcases h with h|h
 ·obtain⟨vs,a,b⟩:=r.ob a _ h;exact⟨vs,.inl (.inl a),b⟩
 ·obtain⟨vs,a,b⟩:=r.ob a _ h;exact⟨vs,.inl a,b⟩
theorem RelS.rdR(r:RelS K st H){a:Addr}{ds:List D}(h:rdS st a ds):∃vs,Rd H a (.lst vs)∧IsDs K H ds vs:=by
 rcases h with h|h
 ·obtain⟨vs,a,b⟩:=r.ob a _ h;exact⟨vs,.inl a,b⟩
 ·obtain⟨vs,a,b⟩:=r.ob a _ h;exact⟨vs,a,b⟩
end
noncomputable def TbE(o o':HO):Prop:=o'=o∨∃p p',o=.tbl p∧o'=.tbl p'
theorem TbE.trans{a b c:HO}(x:TbE a b)(y:TbE b c):TbE a c:=by
 rcases x with rfl|⟨p,p',rfl,rfl⟩
 ·exact y
 ·rcases y with rfl|⟨q,q',_,rfl⟩
  ·exact .inr ⟨p,p',rfl,rfl⟩
  ·exact .inr ⟨p,q',rfl,rfl⟩
noncomputable def Ev(st:Sto)(H:Hp)(st':Sto)(H':Hp):Prop:=∀a o,H a=some o→st a=none→(∃o',H' a=some o'∧TbE o o')∧st' a=none
section
variable {K:W.Frag} {st st1 st2:Sto} {H H1 H2:Hp}
theorem Ev.get(e:Ev st H st1 H1){a:Addr}{o:HO}(h:H a=some o)(k:st a=none)(n:∀p,o≠.tbl p):H1 a=some o∧st1 a=none:=by
 obtain⟨⟨o',h',t⟩,k'⟩:=e a o h k
 rcases t with rfl|⟨p,_,rfl,_⟩
 ·exact⟨h',k'⟩
 ·exact absurd rfl (n p)
theorem Ev.refl:Ev st H st H:=fun _ o h k=>⟨⟨o,h,.inl rfl⟩,k⟩
theorem Ev.trans(a:Ev st H st1 H1)(b:Ev st1 H1 st2 H2):Ev st H st2 H2:=fun c o h k=>by
 obtain⟨⟨o',h',t⟩,y⟩:=a c o h k;obtain⟨⟨o2,h2,t2⟩,z⟩:=b c o' h' y;exact⟨⟨o2,h2,t.trans t2⟩,z⟩
theorem RelS.no(r:RelS K st H){a:Addr}{o:HO}(h:H a=some o)(n1:∀vs,o≠.lst vs)(n2:∀u vs,o≠.frz u (.lst vs))(n3:∀vs,o≠.dK vs)(n4:∀C dx vs,o≠.ins C dx vs)(n5:∀vs,o≠.dT vs):st a=none:=by
 cases z:st a with
 |none=>rfl
 |some ob=>
  have w:=r.ob a ob z;cases ob with
  |lst ds=>obtain⟨vs,w1,_⟩:=w;rw[h]at w1;cases w1;exact absurd rfl (n1 vs)
  |fro ds=>
   obtain⟨vs,w1|⟨u,w1⟩,_⟩:=w
   ·rw[h]at w1;cases w1;exact absurd rfl (n1 vs)
   ·rw[h]at w1;cases w1;exact absurd rfl (n2 u vs)
  |dct kvs=>obtain⟨vs,w1,_⟩:=w;rw[h]at w1;cases w1;exact absurd rfl (n3 vs)
  |dtt kvs=>obtain⟨vs,w1,_⟩:=w;rw[h]at w1;cases w1;exact absurd rfl (n5 vs)
  |ins c fs=>obtain⟨C,dx,vs,w1,_⟩:=w;rw[h]at w1;cases w1;exact absurd rfl (n4 C dx vs)
theorem Ev.tk(e:Ev st H st1 H1)(r:RelS K st H):TK K H H1:=⟨⟨fun a xs q=>by
 rcases q with(q|⟨o',q⟩)|q
 ·exact .inl (.inl (e.get q (r.no q (fun _ z=>by cases z) (fun _ _ z=>by cases z) (fun _ z=>by cases z) (fun _ _ _ z=>by cases z) (fun _ z=>by cases z)) (fun _ z=>by cases z)).1)
 ·exact .inl (.inr ⟨o',(e.get q (r.no q (fun _ z=>by cases z) (fun _ _ z=>by cases z) (fun _ z=>by cases z) (fun _ _ _ z=>by cases z) (fun _ z=>by cases z)) (fun _ z=>by cases z)).1⟩)
 ·exact .inr q,fun a xs q=>(e.get q (r.no q (fun _ z=>by cases z) (fun _ _ z=>by cases z) (fun _ z=>by cases z) (fun _ _ _ z=>by cases z) (fun _ z=>by cases z)) (fun _ z=>by cases z)).1⟩,fun a o u q n=>(e.get q (r.no q (fun _ z=>by cases z) (fun _ vs z=>by cases z;exact n vs rfl) (fun _ z=>by cases z) (fun _ _ _ z=>by cases z) (fun _ z=>by cases z)) (fun _ z=>by cases z)).1⟩
theorem Ev.new{p:Addr}{o:HO}(h:H p=none):Ev st H st (upd H p o):=fun a u e k=>⟨⟨u,by rw[i8 (t6 e h)];exact e,.inl rfl⟩,k⟩
theorem Ev.newS{p:Addr}{o:HO}{ob:Ob}(h:H p=none):Ev st H (d7 st p ob) (upd H p o):=fun a u e k=>⟨⟨u,by rw[i8 (t6 e h)];exact e,.inl rfl⟩,by rw[B6 (t6 e h)];exact k⟩
theorem Ev.put{p:Addr}{o:HO}{ob ob':Ob}(h:st p=some ob'):Ev st H (d7 st p ob) (upd H p o):=fun a u e k=>by
 have ne:a≠p:=fun z=>by rw[z,h]at k;cases k
 exact⟨⟨u,by rw[i8 ne];exact e,.inl rfl⟩,by rw[B6 ne];exact k⟩
theorem Ev.drop(s:Sub st2 st1)(e:Ev st H st1 H1):Ev st H st2 H1:=fun a o h k=>by
 obtain⟨x,y⟩:=e a o h k;refine⟨x,?_⟩;cases z:st2 a with
 |none=>rfl
 |some u=>rw[s a u z]at y;cases y
end
noncomputable def t5(K:W.Frag)(st:Sto)(H:Hp)(Qd:DK)(Q:VK):Prop:=∀v d H' st',Ev st H st' H'→IsD K H' d v→RelS K st' H'→Qd d st'→Q v H'
noncomputable def up(K:W.Frag)(t:DT):TE:=fun σ H Q=>∃env st Qd,RelE K H env σ∧RelS K st H∧t env st Qd∧t5 K st H Qd Q
noncomputable def upB(K:W.Frag)(t:DB):TT:=fun σ H Q=>∃env st Qd,RelE K H env σ∧RelS K st H∧t env st Qd∧∀b H' st',Ev st H st' H'→RelS K st' H'→Qd b st'→Q b H'
noncomputable def upA(K:W.Frag)(n:Nat)(t:DA):TA:=fun σ H Q=>∃env st Qd,RelE K H env σ∧RelS K st H∧t env st Qd∧∀vs ds H' st',Ev st H st' H'→IsDs K H' ds vs→ds.length=n→RelS K st' H'→Qd ds st'→Q vs H'
theorem _root_.L2.PE.imp{X:Cx}{x:Expr}{t t':TE}(h:PE X x t)(i:∀σ H Q,t' σ H Q→t σ H Q):PE X x t':=fun pins s σ H Q I q=>h pins s σ H Q I (i σ H Q q)
theorem _root_.L2.PT.imp{X:Cx}{x:Expr}{t t':TT}(h:PT X x t)(i:∀σ H Q,t' σ H Q→t σ H Q):PT X x t':=fun pins s σ H Q I q=>h pins s σ H Q I (i σ H Q q)
theorem _root_.L2.PW.imp{X:Cx}{x:Expr}{t t':TT}(h:PW X x t)(i:∀σ H Q,t' σ H Q→t σ H Q):PW X x t':=fun w pins s σ H Q I q=>h w pins s σ H Q I (i σ H Q q)
theorem _root_.L2.PA.imp{X:Cx}{x:List Expr}{t t':TA}(h:PA X x t)(i:∀σ H Q,t' σ H Q→t σ H Q):PA X x t':=fun pos pins s σ H Q I q=>h pos pins s σ H Q I (i σ H Q q)
theorem _root_.L2.PSs.imp{X:Cx}{x:List Stmt}{t t':TS}(h:PSs X x t)(i:∀D σ H,t' D σ H→t D σ H):PSs X x t':=fun pins s σ H D I q=>h pins s σ H D I (i D σ H q)
theorem _root_.L2.PS.imp{X:Cx}{x:Stmt}{t t':TS}(h:PS X x t)(i:∀D σ H,t' D σ H→t D σ H):PS X x t':=fun pins s σ H D I q=>h pins s σ H D I (i D σ H q)
theorem t5.after{K:W.Frag}{st st1:Sto}{H H1:Hp}{Qd:DK}{Q:VK}(p:t5 K st H Qd Q)(e:Ev st H st1 H1):t5 K st1 H1 Qd Q:=fun v d H2 st2 e2 is rs q=>p v d H2 st2 (e.trans e2) is rs q
theorem t5.here{K:W.Frag}{H:Hp}{Qd:DK}{Q:VK}{v:V}{d:D}{st:Sto}(p:t5 K st H Qd Q)(i:IsD K H d v)(r:RelS K st H)(q:Qd d st):Q v H:=p v d H st Ev.refl i r q
theorem t5.newL{K:W.Frag}{H:Hp}{Qd:DK}{Q:VK}{ds:List D}{vs:List V}{st:Sto}(p:t5 K st H Qd Q)(r:RelS K st H)(w:IsDs K H ds vs)(q:∀p,st p=none→Qd (.ref p) (d7 st p (.lst ds))):∀l,H l=none→Q (.ref l) (upd H l (.lst vs)):=fun l hl=>
 p _ (.ref l) _ (d7 st l (.lst ds)) (Ev.newS hl) (.ref l) (r.putNew hl w) (q l (r.free hl))
theorem t5.newT{K:W.Frag}{H:Hp}{Qd:DK}{Q:VK}{ds:List D}{vs:List V}{st:Sto}(p:t5 K st H Qd Q)(r:RelS K st H)(w:IsDs K H ds vs)(q:Qd (.tup ds) st):∀l,H l=none→Q (.ref l) (upd H l (.tup vs)):=fun l hl=>
 p _ (.tup ds) _ st (Ev.new hl) (IsD.mk (SqX.of o8) (w.mono (TK.new hl))) (r.new hl) q
theorem up1{K:W.Frag}{t:DT}{f:D→Sto→DK→Prop}{σ:L2.St}{H:Hp}{Q:VK}{R:V→Hp→Prop}(h:up K (fun env st Q=>t env st fun d st1=>f d st1 Q) σ H Q)
  (k:∀v d H' st' Qd,IsD K H' d v→RelS K st' H'→f d st' Qd→t5 K st' H' Qd Q→R v H'):up K t σ H R:=by
 obtain⟨env,st,Qd,hE,hS,ht,hq⟩:=h;exact⟨env,st,_,hE,hS,ht,fun v d H' st' ev is rs q=>k v d H' st' Qd is rs q (hq.after ev)⟩
theorem up2{K:W.Frag}{t u:DT}{f:D→D→Sto→DK→Prop}{σ:L2.St}{H:Hp}{Q:VK}{R:V→V→Hp→Prop}(h:up K (fun env st Q=>t env st fun d st1=>u env st1 fun e st2=>f d e st2 Q) σ H Q)
  (k:∀v w d e H' st' Qd,IsD K H' d v→IsD K H' e w→RelS K st' H'→f d e st' Qd→t5 K st' H' Qd Q→R v w H'):up K t σ H fun v H1=>up K u σ H1 fun w H2=>R v w H2:=by
 obtain⟨env,st,Qd,hE,hS,ht,hq⟩:=h;exact⟨env,st,_,hE,hS,ht,fun v d H' st' ev is rs q=>⟨env,st',_,hE.mono (ev.tk hS),rs,q,fun w e H2 st2 ev2 is2 rs2 q2=>
  k v w d e H2 st2 Qd (is.mono (ev2.tk rs)) is2 rs2 q2 ((hq.after ev).after ev2)⟩⟩
theorem a76{K:W.Frag}{n:Nat}{t:DA}{f:List D→Sto→DK→Prop}{σ:L2.St}{H:Hp}{Q:VK}{R:List V→Hp→Prop}(h:up K (fun env st Q=>t env st fun ds st1=>f ds st1 Q) σ H Q)
  (k:∀vs ds H' st' Qd,IsDs K H' ds vs→ds.length=n→RelS K st' H'→f ds st' Qd→t5 K st' H' Qd Q→R vs H'):upA K n t σ H R:=by
 obtain⟨env,st,Qd,hE,hS,ht,hq⟩:=h;exact⟨env,st,_,hE,hS,ht,fun vs ds H' st' ev is hl rs q=>k vs ds H' st' Qd is hl rs q (hq.after ev)⟩
theorem cv8{X:Cx}{x:Expr}{t:DT}(h:PE X x (up X.K t))(he:∀whole,isTrue x X.env whole=(do let v ←whole;standAt x.pos;holding [v] (truthy v))):
  PT X x (upB X.K fun env st Q=>t env st fun d st'=>∃b,d=.bl b∧Q b st'):=PT.imp (cn7 h he) fun σ H Q q=>by
 obtain⟨env,st,Qd,hE,hS,ht,hq⟩:=q;refine⟨env,st,_,hE,hS,ht,fun v d H' st' ev is rs q=>?_⟩;obtain⟨b,rfl,q⟩:=q;cases is;exact⟨b,rfl,hq b H' st' ev rs q⟩
end Ek
namespace Ek
open PySem PySem.Spec PyProof.Rows L2
variable [Tbs]
mutual
theorem G6:∀d:D,d.pure=true→d.py.canLay0=true
 |.non,_=>rfl
 |.bl _,_=>rfl
 |.int _,_=>rfl
 |.str _,h=>h
 |.tup ds,h=>by show PyData.canLayAll0 (D.pys ds)=true;exact N8 ds h
 |.ref _,h=>nomatch h
 |.fn _,h=>nomatch h
 |.clo _ _ _ _,h=>nomatch h
theorem N8:∀ds:List D,D.pures ds=true→PyData.canLayAll0 (D.pys ds)=true
 |[],_=>rfl
 |d::r,h=>by
  have h':d.pure=true∧D.pures r=true:=by simpa[D.pures]using h
  show(d.py.canLay0&&PyData.canLayAll0 (D.pys r))=true;rw[G6 d h'.1,N8 r h'.2];rfl
end
theorem ax2:∀{ds:List D},D.pures ds=true→∀d∈ds,d.pure=true
 |[],_,d,h=>by cases h
 |e::r,h,d,hd=>by
  have h':e.pure=true∧D.pures r=true:=by simpa[D.pures]using h
  rcases List.mem_cons.mp hd with z|z
  ·rw[z];exact h'.1
  ·exact ax2 h'.2 d z
section
variable {X:Cx} {pins:List (Addr×Obj)} {σ:L2.St} {H:Hp} {s:Shared}
theorem a89{P:D→Prop}(ih:∀d v u,P d→IsD X.K H d v→i6 v u→∃as,Reads s.heap u d.py as):∀(ds:List D)(vs:List V)(us:List Value),(∀d∈ds,P d)→IsDs X.K H ds vs→e9 vs us→∃as,ReadsAll s.heap us (D.pys ds) as
 |[],vs,us,_,r,q=>by rw[r.inv_nil]at q;cases q;exact⟨[],.nil⟩
 |d::ds,vs,us,hp,r,q=>by
  obtain⟨v,ws,rfl,h1,h2⟩:=r.inv_cons;cases q with
  |cons q1 q2=>
   obtain⟨as,ra⟩:=ih d v _ (hp d (by simp)) h1 q1;obtain⟨bs,rb⟩:=a89 ih ds ws _ (fun e he=>hp e (by simp[he])) h2 q2;exact⟨as++bs,.cons ra rb⟩
theorem E1(I:L2.Inv X pins σ H s){d:D}{v:V}(h:IsD X.K H d v):∀{u:Value},d.pure=true→i6 v u→∃as,Reads s.heap u d.py as:=by
 induction h with
 |non=>intro u _ r;cases r;exact⟨_,.none⟩
 |bl b=>intro u _ r;cases r;exact⟨_,.bool b⟩
 |int i=>intro u _ r;obtain⟨t,rfl⟩:=r;exact⟨_,.int i t⟩
 |str x=>intro u _ r;obtain⟨t,rfl⟩:=r;exact⟨_,.str x t⟩
 |ref a=>intro u h;cases h
 |fn _=>intro u h;cases h
 |clo _ _ _ _=>intro u h;cases h
 |@tup a ds vs hq hl hat ih=>
  intro u hp r;cases r;obtain⟨its,rv,⟨o,ho,hc,n,hd⟩,hz⟩:=I.tuple hq.sqt;have all:∀(ds':List D)(vs':List V)(us':List Value),(∀(i:Nat)d v,ds'[i]?=some d→vs'[i]?=some v→∀{u:Value},d.pure=true→i6 v u→∃as,Reads s.heap u d.py as)→ds'.length=vs'.length→D.pures ds'=true→e9 vs' us'→∃as,ReadsAll s.heap us' (D.pys ds') as:=by
   intro ds'
   induction ds' with
   |nil=>intro vs' us' _ hl' _ q;cases vs' with
    |nil=>cases q;exact⟨[],.nil⟩
    |cons a b=>simp at hl'
   |cons e es ihe=>
    intro vs' us' hat' hl' hp' q;cases vs' with
    |nil=>simp at hl'
    |cons w ws=>
     have hp2:e.pure=true∧D.pures es=true:=by simpa[D.pures]using hp'
     cases q with
     |cons q1 q2=>
      obtain⟨as,ra⟩:=hat' 0 e w rfl rfl hp2.1 q1;obtain⟨bs,rb⟩:=ihe ws _ (fun i d v a b=>hat' (i+1) d v (by simpa using a) (by simpa using b)) (by simpa using hl') hp2.2 q2;exact⟨as++bs,.cons ra rb⟩
  obtain⟨as,ra⟩:=all ds vs its ih hl hp rv;exact⟨as,.tuple ho hc hd (by simpa using ra)⟩
theorem bh4{A:Around}{a b:Nat}(hu:A.units+200<cLine)(h:Nat.min a b≤150):A.units+min a b<cLine:=by
 have:min a b≤150:=h;omega
theorem cu8(hu:X.A.units+200<cLine):OpR X (compareOp .Eq) (fun x y H Q=>∃d e,IsD X.K H d x∧IsD X.K H e y∧d.pure=true∧e.pure=true∧Nat.min (j5 d) (j5 e)≤150∧Q (.bl (deq d e)) H):=by
 intro pins s σ H x y v u Q I rx ry h;obtain⟨d,e,h1,h2,p1,p2,hd,q⟩:=h;obtain⟨as,ra⟩:=E1 I h1 p1 rx;obtain⟨bs,rb⟩:=E1 I h2 p2 ry;exact SeqAt.rcAt_reads ra rb (G6 d p1) (G6 e p2) (bh4 hu hd) X.prog X.w _ _ ⟨.bl (deq d e),H,I,rfl,q⟩
theorem cq7(hu:X.A.units+200<cLine):OpR X (compareOp .NotEq) (fun x y H Q=>∃d e,IsD X.K H d x∧IsD X.K H e y∧d.pure=true∧e.pure=true∧Nat.min (j5 d) (j5 e)≤150∧Q (.bl (!deq d e)) H):=by
 intro pins s σ H x y v u Q I rx ry h;obtain⟨d,e,h1,h2,p1,p2,hd,q⟩:=h;obtain⟨as,ra⟩:=E1 I h1 p1 rx;obtain⟨bs,rb⟩:=E1 I h2 p2 ry;exact SeqAt.rcNeAt_reads ra rb (G6 d p1) (G6 e p2) (bh4 hu hd) X.prog X.w _ _ ⟨.bl (!deq d e),H,I,rfl,q⟩
theorem a00:∀(ds:List D)(x:D),((D.pys ds).any fun y=>PyData.eqv y x.py)=ds.any fun y=>deq y x
 |[],_=>rfl
 |d::r,x=>by
  show(PyData.eqv d.py x.py||(D.pys r).any _)=(deq d x||r.any _);rw[a00 r x];rfl
theorem a34{A:Around}{a b:Nat}(hu:A.units+200<cLine)(h:b≤150):A.units+1+min a b<cLine:=by
 have:min a b≤b:=Nat.min_le_right _ _;omega
theorem cs5(hu:X.A.units+200<cLine):OpR X (compareOp .In) (fun x y H Q=>∃d es,IsD X.K H d x∧IsD X.K H (.tup es) y∧d.pure=true∧D.pures es=true∧j5 d≤150∧Q (.bl (es.any fun e=>deq e d)) H):=by
 intro pins s σ H x y v u Q I rx ry h;obtain⟨d,es,h1,h2,p1,p2,hd,q⟩:=h;obtain⟨as,ra⟩:=E1 I h1 p1 rx;obtain⟨bs,rb⟩:=E1 I h2 p2 ry;have rb':Reads s.heap u (.tuple (D.pys es)) bs:=rb;exact SeqAt.in_tuple_reads rb' ra (N8 es p2) (G6 d p1) (a34 hu hd) (by rw[a00];exact⟨.bl _,H,I,rfl,q⟩)
theorem ci9(hu:X.A.units+200<cLine):OpR X (compareOp .NotIn) (fun x y H Q=>∃d es,IsD X.K H d x∧IsD X.K H (.tup es) y∧d.pure=true∧D.pures es=true∧j5 d≤150∧Q (.bl (!es.any fun e=>deq e d)) H):=by
 intro pins s σ H x y v u Q I rx ry h;obtain⟨d,es,h1,h2,p1,p2,hd,q⟩:=h;obtain⟨as,ra⟩:=E1 I h1 p1 rx;obtain⟨bs,rb⟩:=E1 I h2 p2 ry;have rb':Reads s.heap u (.tuple (D.pys es)) bs:=rb;exact SeqAt.notIn_tuple_reads rb' ra (N8 es p2) (G6 d p1) (a34 hu hd) (by rw[a00];exact⟨.bl _,H,I,rfl,q⟩)
end
end Ek
namespace Ek
open PySem PySem.Spec PyProof.Rows L2
variable [Tbs]
section
variable {X:Cx} {a b c:Expr} {ta tb tc:DT} {pos:Pos}
theorem at7{x:Expr}{d:D}{v:V}(h:PE X x (tC v))(i:∀H,IsD X.K H d v):PE X x (up X.K fun _ st Q=>Q d st):=PE.imp h fun σ H Q q=>by
 obtain⟨env,st,Qd,hE,hS,ht,hq⟩:=q;exact hq.here (i H) hS ht
theorem cr8{i:Nat}{x:Str}(hN:X.N[i]?=some x)(hv:Vis X.env.scope x)(hd:(x==("__debug__":Str))=false)(hcd:(x==("__classdict__":Str))=false):PE X (.Name x pos) (up X.K fun env st Q=>∃d,env[i]?=some (some d)∧Q d st):=
 PE.imp (a55 hN hv hd hcd) fun σ H Q q=>by
  obtain⟨env,st,Qd,hE,hS,⟨d,h1,ht⟩,hq⟩:=q;obtain⟨v,h2,is⟩:=hE.at' i d h1;exact⟨v,h2,hq.here is hS ht⟩
theorem n8{x:Expr}{xs:List Expr}{env:Env}(h:∀e p,x≠.Starred e p):starEach (x::xs) env=(false,eval x env)::starEach xs env:=by
 cases x<;>first|rfl|exact absurd rfl (h _ _)
theorem bm7:PA X [] (upA X.K 0 fun _ st Q=>Q [] st):=PA.imp a54 fun σ H Q q=>by
 obtain⟨env,st,Qd,hE,hS,ht,hq⟩:=q;exact hq [] [] H st Ev.refl .nil rfl hS ht
theorem W9{es:List Expr}{n:Nat}{t:DA}(ha:PE X a (up X.K ta))(hr:PA X es (upA X.K n t))(h:∀e p,a≠.Starred e p):PA X (a::es) (upA X.K (n+1) fun env st Q=>ta env st fun d st1=>t env st1 fun ds st2=>Q (d::ds) st2):=
 PA.imp (X0 ha hr (n8 h)) fun σ H Q q=>by
  obtain⟨env,st,Qd,hE,hS,ht,hq⟩:=q;exact⟨env,st,_,hE,hS,ht,fun v d H1 st1 ev is rs q1=>⟨env,st1,_,hE.mono (ev.tk hS),rs,q1,fun vs ds H2 st2 ev2 is2 hl rs2 q2=>
   hq (v::vs) (d::ds) H2 st2 (ev.trans ev2) (.cons (is.mono (ev2.tk rs)) is2) (by simp[hl]) rs2 q2⟩⟩
theorem cm1{es:List Expr}{n k:Nat}{t:DA}(h:PA X es (upA X.K n t))(hn:n≤1000):PE X (.Tuple es k pos) (up X.K fun env st Q=>t env st fun ds st1=>Q (.tup ds) st1):=
 PE.imp (co6 h) fun σ H Q q=>a76 (f:=fun ds st1 Q=>Q (.tup ds) st1) q fun vs ds H' st' Qd is hl rs ht hq=>⟨by rw[←is.len,hl];exact Nat.le_of_lt (bb2 hn),hq.newT rs is ht⟩
theorem cv2{es:List Expr}{n:Nat}{t:DA}(h:PA X es (upA X.K n t))(hn:n≤1000):PE X (.List es pos) (up X.K fun env st Q=>t env st fun ds st1=>∀p,st1 p=none→Q (.ref p) (d7 st1 p (.lst ds))):=
 PE.imp (cu0 h) fun σ H Q q=>a76 (f:=fun ds st1 Q=>∀p,st1 p=none→Q (.ref p) (d7 st1 p (.lst ds))) q fun vs ds H' st' Qd is hl rs ht hq=>⟨by rw[←is.len,hl];exact Nat.le_of_lt (bb2 hn),hq.newL rs is ht⟩
theorem IsD.int_inv{K:W.Frag}{H:Hp}{i:Int}{v:V}(h:IsD K H (.int i) v):v=.int i:=by cases h;rfl
theorem IsD.str_inv{K:W.Frag}{H:Hp}{i:Str}{v:V}(h:IsD K H (.str i) v):v=.str i:=by cases h;rfl
theorem IsD.bl_inv{K:W.Frag}{H:Hp}{i:Bool}{v:V}(h:IsD K H (.bl i) v):v=.bl i:=by cases h;rfl
theorem IsD.ref_inv{K:W.Frag}{H:Hp}{i:Addr}{v:V}(h:IsD K H (.ref i) v):v=.ref i:=by cases h;rfl
theorem cb9{n k:Nat}(h:n<2^k)(h0:n≠0):n.log2<k:=(Nat.log2_lt h0).mpr h
theorem bk7{i:Int}(h:i.natAbs<2^20000):Builtin.Int.intBits i≤20000:=by
 unfold Builtin.Int.intBits
 by_cases h0:i=0
 ·subst h0;exact Nat.zero_le _
 ·rw[if_neg (by simpa using h0)];exact cb9 h (by omega)
theorem O7.ok{i j:Int}(h:O7 i j):IntMulOk i j:=by
 rcases h with h|⟨h1,h2⟩
 ·exact h.ok
 ·have b1:=bk7 h1;have b2:=bk7 h2;unfold IntMulOk;have:Builtin.Int.intTooBig ((Builtin.Int.intBits i:Int)+(Builtin.Int.intBits j:Int))=false:=by
   unfold Builtin.Int.intTooBig;refine decide_eq_false ?_;have:(40000:Int)≤(bitsLine:Nat):=by decide
   omega
  first
   |(rw[this];simp)
   |(intro z;simp only[Bool.and_eq_true]at z;have z3:=z.2;first|(rw[this]at z3;cases z3)|(simp[this]at z3))
theorem cc0:OpR X (binaryOp .Mult) (rI O7 fun i j=>.int (i*j)):=opI fun _ _ _ _ _ _ _ hc q=>mul_int q hc.ok
theorem cp3{o:Operator}(ha:PE X a (up X.K ta))(hb:PE X b (up X.K tb)):PE X (.BinOp a o b pos) (up X.K fun env st Q=>ta env st fun x st1=>tb env st1 fun y st2=>A0 o x y st2 Q):=by
 have bad:∀{P:Prop},False→P:=fun h=>h.elim;cases o with
 |Add=>
  refine PE.imp (Q1 (cq3.or (ch7.or cp8)) ha hb) fun σ H Q q=>up2 (f:=A0 .Add) q fun v w d e H' st' Qd i1 i2 rs ht hq=>?_;cases d<;>cases e<;>first|exact False.elim ht|skip
  ·exact .inl ⟨_,_,i1.int_inv,i2.int_inv,hq.here (.int _) rs ht⟩
  ·rename_i xs ys;obtain⟨p,vs,e1,q1,r1⟩:=i1.tup_invX;obtain⟨q',ws,e2,q2,r2⟩:=i2.tup_invX;refine .inr (.inl ⟨p,q',vs,ws,e1,e2,q1.sqt,q2.sqt,by rw[←r1.len,←r2.len];exact ht.1,fun z=>?_,fun z1 z2=>?_,fun _ _=>hq.newT rs (r1.append r2) ht.2⟩)
   ·have:xs=[]:=by rw[z]at r1;have:=r1.len;exact List.eq_nil_of_length_eq_zero (by simpa using this)
    subst this;exact hq.here (IsD.mk q2 r2) rs ht.2
   ·have:ys=[]:=by rw[z2]at r2;have:=r2.len;exact List.eq_nil_of_length_eq_zero (by simpa using this)
    subst this;have h2:=ht.2;rw[List.append_nil]at h2;exact hq.here (IsD.mk q1 r1) rs h2
  ·obtain⟨xs,ys,s1,s2,hz,h2⟩:=ht;obtain⟨vs,e1,r1⟩:=rs.lst s1;obtain⟨ws,e2,r2⟩:=rs.lst s2;exact .inr (.inr ⟨_,_,vs,ws,i1.ref_inv,i2.ref_inv,e1,e2,by rw[←r1.len,←r2.len];exact hz,hq.newL rs (r1.append r2) h2⟩)
 |Sub=>
  refine PE.imp (Q1 cs9 ha hb) fun σ H Q q=>up2 (f:=A0 .Sub) q fun v w d e H' st' Qd i1 i2 rs ht hq=>?_;cases d<;>cases e<;>first|exact False.elim ht|skip
  exact⟨_,_,i1.int_inv,i2.int_inv,hq.here (.int _) rs ht⟩
 |Mult=>
  refine PE.imp (Q1 cc0 ha hb) fun σ H Q q=>up2 (f:=A0 .Mult) q fun v w d e H' st' Qd i1 i2 rs ht hq=>?_;cases d<;>cases e<;>first|exact False.elim ht|skip
  exact⟨_,_,i1.int_inv,i2.int_inv,ht.1,hq.here (.int _) rs ht.2⟩
 |Mod=>
  refine PE.imp (Q1 cv0 ha hb) fun σ H Q q=>up2 (f:=A0 .Mod) q fun v w d e H' st' Qd i1 i2 rs ht hq=>?_;cases d<;>cases e<;>first|exact False.elim ht|skip
  exact⟨_,_,i1.int_inv,i2.int_inv,ht.1,hq.here (.int _) rs ht.2⟩
 |FloorDiv=>
  refine PE.imp (Q1 b67 ha hb) fun σ H Q q=>up2 (f:=A0 .FloorDiv) q fun v w d e H' st' Qd i1 i2 rs ht hq=>?_;cases d<;>cases e<;>first|exact False.elim ht|skip
  exact⟨_,_,i1.int_inv,i2.int_inv,ht.1,hq.here (.int _) rs ht.2⟩
 |Pow=>
  refine PE.imp (Q1 co1 ha hb) fun σ H Q q=>up2 (f:=A0 .Pow) q fun v w d e H' st' Qd i1 i2 rs ht hq=>?_;cases d<;>cases e<;>first|exact False.elim ht|skip
  exact⟨_,_,i1.int_inv,i2.int_inv,ht.1,hq.here (.int _) rs ht.2⟩
 |_=>
  refine PE.imp (Q1 (op:=_) (r:=fun _ _ _ _=>False) (fun _ _ _ _ _ _ _ _ _ _ _ _ h=>h.elim) ha hb) fun σ H Q q=>up2 (f:=fun _ _ _ _=>False) (by
   obtain⟨env,st,Qd,hE,hS,ht,hq⟩:=q;exact⟨env,st,Qd,hE,hS,ht,hq⟩) fun v w d e H' st' Qd i1 i2 rs ht hq=>ht
theorem cl4(ha:PE X a (up X.K ta)):PE X (.UnaryOp .USub a pos) (up X.K fun env st Q=>ta env st fun x st1=>∃i,x=.int i∧Q (.int (-i)) st1):=
 PE.imp (cz4 cp4 ha) fun σ H Q q=>up1 (f:=fun x st1 Q=>∃i,x=.int i∧Q (.int (-i)) st1) q fun v d H' st' Qd is rs ht hq=>by
  obtain⟨i,rfl,ht⟩:=ht;exact⟨i,is.int_inv,hq.here (.int _) rs ht⟩
noncomputable def au2(X:Cx):CmpOp→R2
 |.Eq=>fun x y H Q=>∃d e,IsD X.K H d x∧IsD X.K H e y∧d.pure=true∧e.pure=true∧Nat.min (j5 d) (j5 e)≤150∧Q (.bl (deq d e)) H
 |.NotEq=>fun x y H Q=>∃d e,IsD X.K H d x∧IsD X.K H e y∧d.pure=true∧e.pure=true∧Nat.min (j5 d) (j5 e)≤150∧Q (.bl (!deq d e)) H
 |.Lt=>rI0 fun i j=>.bl (decide (i<j))
 |.LtE=>rI0 fun i j=>.bl (decide (i≤j))
 |.Gt=>rI0 fun i j=>.bl (decide (j<i))
 |.GtE=>rI0 fun i j=>.bl (decide (j≤i))
 |.In=>fun x y H Q=>(∃d es,IsD X.K H d x∧IsD X.K H (.tup es) y∧d.pure=true∧D.pures es=true∧j5 d≤150∧Q (.bl (es.any fun e=>deq e d)) H)∨∃a k kvs,x=kV k∧y=.ref a∧H a=some (.dK kvs)∧Q (.bl (o9 kvs k).isSome) H
 |.NotIn=>fun x y H Q=>(∃d es,IsD X.K H d x∧IsD X.K H (.tup es) y∧d.pure=true∧D.pures es=true∧j5 d≤150∧Q (.bl (!es.any fun e=>deq e d)) H)∨∃a k kvs,x=kV k∧y=.ref a∧H a=some (.dK kvs)∧Q (.bl (!(o9 kvs k).isSome)) H
 |_=>fun _ _ _ _=>False
theorem bk5(hu:X.A.units+200<cLine):∀o:CmpOp,OpR X (compareOp o) (au2 X o)
 |.Eq=>cu8 hu
 |.NotEq=>cq7 hu
 |.Lt=>cx5
 |.LtE=>cw8
 |.Gt=>cx8
 |.GtE=>cy2
 |.In=>fun pins s σ H x y v u Q I rx ry h=>by
  rcases h with h|⟨a,k,kvs,rfl,rfl,e,q⟩
  ·exact cs5 hu pins s σ H x y v u Q I rx ry h
  ·cases ry;exact bs1 (by omega) I (u9.k e) rx fun s' I'=>⟨.bl _,H,I',rfl,q⟩
 |.NotIn=>fun pins s σ H x y v u Q I rx ry h=>by
  rcases h with h|⟨a,k,kvs,rfl,rfl,e,q⟩
  ·exact ci9 hu pins s σ H x y v u Q I rx ry h
  ·cases ry;exact bl9 (by omega) I (u9.k e) rx fun s' I'=>⟨.bl _,H,I',rfl,q⟩
 |.Is=>fun _ _ _ _ _ _ _ _ _ _ _ _ h=>h.elim
 |.IsNot=>fun _ _ _ _ _ _ _ _ _ _ _ _ h=>h.elim
theorem bo4{o:CmpOp}{v w:V}{d e:D}{H':Hp}{st':Sto}{Qd:DK}{Q:VK}(i1:IsD X.K H' d v)(i2:IsD X.K H' e w)(rs:RelS X.K st' H')(ht:u7 o d e st' Qd)(hq:t5 X.K st' H' Qd Q):au2 X o v w H' Q:=by
 cases o with
 |Eq=>exact⟨d,e,i1,i2,ht.1,ht.2.1,ht.2.2.1,hq.here (.bl _) rs ht.2.2.2⟩
 |NotEq=>exact⟨d,e,i1,i2,ht.1,ht.2.1,ht.2.2.1,hq.here (.bl _) rs ht.2.2.2⟩
 |Lt=>cases d<;>cases e<;>first|exact False.elim ht|exact⟨_,_,i1.int_inv,i2.int_inv,hq.here (.bl _) rs ht⟩
 |LtE=>cases d<;>cases e<;>first|exact False.elim ht|exact⟨_,_,i1.int_inv,i2.int_inv,hq.here (.bl _) rs ht⟩
 |Gt=>cases d<;>cases e<;>first|exact False.elim ht|exact⟨_,_,i1.int_inv,i2.int_inv,hq.here (.bl _) rs ht⟩
 |GtE=>cases d<;>cases e<;>first|exact False.elim ht|exact⟨_,_,i1.int_inv,i2.int_inv,hq.here (.bl _) rs ht⟩
 |In=>
  have hd:∀(k:Key)(a:Addr)(kvs:List (Key×D)),v=kV k→w=.ref a→st' a=some (.dct kvs)→Qd (.bl (B0 kvs k).isSome) st'→au2 X .In v w H' Q:=fun k a kvs e1 e2 e3 ht=>by
   obtain⟨vs,h1,h2⟩:=rs.dct e3;refine .inr ⟨a,k,vs,e1,e2,h1,?_⟩
   rcases h2.look k with⟨l1,l2⟩|⟨d,v,l1,l2,_⟩<;>(rw[l1]at ht;rw[l2];exact hq.here (.bl _) rs ht)
  cases e with
  |tup es=>exact .inl ⟨d,es,i1,i2,ht.1,ht.2.1,ht.2.2.1,hq.here (.bl _) rs ht.2.2.2⟩
  |ref a=>
   cases d<;>first|exact False.elim ht|skip
   ·obtain⟨kvs,e,ht⟩:=ht;exact hd (.inl _) a kvs i1.int_inv i2.ref_inv e ht
   ·obtain⟨kvs,e,ht⟩:=ht;exact hd (.inr _) a kvs i1.str_inv i2.ref_inv e ht
  |_=>exact False.elim (by cases d<;>exact ht)
 |NotIn=>
  have hd:∀(k:Key)(a:Addr)(kvs:List (Key×D)),v=kV k→w=.ref a→st' a=some (.dct kvs)→Qd (.bl (!(B0 kvs k).isSome)) st'→au2 X .NotIn v w H' Q:=fun k a kvs e1 e2 e3 ht=>by
   obtain⟨vs,h1,h2⟩:=rs.dct e3;refine .inr ⟨a,k,vs,e1,e2,h1,?_⟩
   rcases h2.look k with⟨l1,l2⟩|⟨d,v,l1,l2,_⟩<;>(rw[l1]at ht;rw[l2];exact hq.here (.bl _) rs ht)
  cases e with
  |tup es=>exact .inl ⟨d,es,i1,i2,ht.1,ht.2.1,ht.2.2.1,hq.here (.bl _) rs ht.2.2.2⟩
  |ref a=>
   cases d<;>first|exact False.elim ht|skip
   ·obtain⟨kvs,e,ht⟩:=ht;exact hd (.inl _) a kvs i1.int_inv i2.ref_inv e ht
   ·obtain⟨kvs,e,ht⟩:=ht;exact hd (.inr _) a kvs i1.str_inv i2.ref_inv e ht
  |_=>exact False.elim (by cases d<;>exact ht)
 |Is=>exact False.elim ht
 |IsNot=>exact False.elim ht
theorem Q9(o:CmpOp)(b:Expr)(h:∀es k p,b≠.Set es k p):behindInMarks o b=false:=by
 cases b<;>first|rfl|exact absurd rfl (h _ _ _)
theorem cu3{o:CmpOp}(hu:X.A.units+200<cLine)(ha:PE X a (up X.K ta))(hb:PE X b (up X.K tb))(hm:∀es k p,b≠.Set es k p):PE X (.Compare a [o] [b] pos) (up X.K fun env st Q=>ta env st fun x st1=>tb env st1 fun y st2=>u7 o x y st2 Q):=
 PE.imp (az6 (bk5 hu o) ha hb (Q9 o b hm)) fun σ H Q q=>up2 (f:=u7 o) q fun v w d e H' st' Qd i1 i2 rs ht hq=>bo4 i1 i2 rs ht hq
theorem cv3{o:CmpOp}(hu:X.A.units+200<cLine)(ha:PE X a (up X.K ta))(hb:PE X b (up X.K tb))(hm:∀es k p,b≠.Set es k p):
  PT X (.Compare a [o] [b] pos) (upB X.K fun env st Q=>ta env st fun x st1=>tb env st1 fun y st2=>u7 o x y st2 fun d st'=>∃k,d=.bl k∧Q k st'):=
 PT.imp (a29 (bk5 hu o) ha hb (Q9 o b hm)) fun σ H Q q=>by
  obtain⟨env,st,Qd,hE,hS,ht,hq⟩:=q;refine up2 (f:=u7 o) (Q:=fun x H'=>∃k,x=.bl k∧Q k H') ⟨env,st,_,hE,hS,ht,fun v d H' st' ev is rs q1=>?_⟩ fun v w d e H' st' Qd i1 i2 rs ht hq=>bo4 i1 i2 rs ht hq;obtain⟨k,rfl,q1⟩:=q1;exact⟨k,is.bl_inv,hq k H' st' ev rs q1⟩
theorem ck6{j pos'}(ha:PE X a (up X.K ta)):PE X (.Compare a [.Is] [.Constant .none j pos'] pos) (up X.K fun env st Q=>ta env st fun x st1=>(x=.non∧Q (.bl true) st1)∨(x≠.non∧Q (.bl false) st1)):=
 PE.imp (bo9 (bo8 ha) rfl) fun σ H Q q=>up1 (f:=fun x st1 Q=>(x=.non∧Q (.bl true) st1)∨(x≠.non∧Q (.bl false) st1)) q fun v d H' st' Qd is rs ht hq=>by
  rcases ht with⟨rfl,ht⟩|⟨hn,ht⟩
  ·cases is;exact hq.here (.bl _) rs (by simpa using ht)
  ·have e:decide (v=V.non)=false:=decide_eq_false fun z=>hn (by subst z;cases is;rfl);rw[e];exact hq.here (.bl _) rs ht
theorem ce6{j pos'}(ha:PE X a (up X.K ta)):PE X (.Compare a [.IsNot] [.Constant .none j pos'] pos) (up X.K fun env st Q=>ta env st fun x st1=>(x=.non∧Q (.bl false) st1)∨(x≠.non∧Q (.bl true) st1)):=
 PE.imp (bo9 (bl2 ha) rfl) fun σ H Q q=>up1 (f:=fun x st1 Q=>(x=.non∧Q (.bl false) st1)∨(x≠.non∧Q (.bl true) st1)) q fun v d H' st' Qd is rs ht hq=>by
  rcases ht with⟨rfl,ht⟩|⟨hn,ht⟩
  ·cases is;exact hq.here (.bl _) rs (by simpa using ht)
  ·have e:decide (v=V.non)=false:=decide_eq_false fun z=>hn (by subst z;cases is;rfl);rw[e];exact hq.here (.bl _) rs ht
theorem br0{x:Expr}{t:TE}{f:DT}(h:PT X x (tB t))(i:∀σ H Q,up X.K f σ H Q→t σ H Q):PT X x (upB X.K fun env st Q=>f env st fun d st'=>∃b,d=.bl b∧Q b st'):=PT.imp h fun σ H Q q=>by
 obtain⟨env,st,Qd,hE,hS,ht,hq⟩:=q;refine i σ H _ ⟨env,st,_,hE,hS,ht,fun v d H' st' ev is rs q=>?_⟩;obtain⟨b,rfl,q⟩:=q;cases is;exact⟨b,rfl,hq b H' st' ev rs q⟩
theorem cn1{j pos'}(ha:PE X a (up X.K ta)):PT X (.Compare a [.Is] [.Constant .none j pos'] pos) (upB X.K fun env st Q=>ta env st fun x st1=>(x=.non∧∃b,D.bl true=.bl b∧Q b st1)∨(x≠.non∧∃b,D.bl false=.bl b∧Q b st1)):=
 br0 (f:=fun env st Q=>ta env st fun x st1=>(x=.non∧Q (.bl true) st1)∨(x≠.non∧Q (.bl false) st1)) (bp6 (bo8 ha) rfl) fun σ H Q q=>up1 (f:=fun x st1 Q=>(x=.non∧Q (.bl true) st1)∨(x≠.non∧Q (.bl false) st1)) q fun v d H' st' Qd is rs ht hq=>by
  rcases ht with⟨rfl,ht⟩|⟨hn,ht⟩
  ·cases is;exact hq.here (.bl _) rs (by simpa using ht)
  ·have e:decide (v=V.non)=false:=decide_eq_false fun z=>hn (by subst z;cases is;rfl);rw[e];exact hq.here (.bl _) rs ht
theorem cg9{j pos'}(ha:PE X a (up X.K ta)):PT X (.Compare a [.IsNot] [.Constant .none j pos'] pos) (upB X.K fun env st Q=>ta env st fun x st1=>(x=.non∧∃b,D.bl false=.bl b∧Q b st1)∨(x≠.non∧∃b,D.bl true=.bl b∧Q b st1)):=
 br0 (f:=fun env st Q=>ta env st fun x st1=>(x=.non∧Q (.bl false) st1)∨(x≠.non∧Q (.bl true) st1)) (bp6 (bl2 ha) rfl) fun σ H Q q=>up1 (f:=fun x st1 Q=>(x=.non∧Q (.bl false) st1)∨(x≠.non∧Q (.bl true) st1)) q fun v d H' st' Qd is rs ht hq=>by
  rcases ht with⟨rfl,ht⟩|⟨hn,ht⟩
  ·cases is;exact hq.here (.bl _) rs (by simpa using ht)
  ·have e:decide (v=V.non)=false:=decide_eq_false fun z=>hn (by subst z;cases is;rfl);rw[e];exact hq.here (.bl _) rs ht
noncomputable abbrev tst(t:DT):DB:=fun env st Q=>t env st fun d st'=>∃b,d=.bl b∧Q b st'
variable {j1:List Expr}
theorem bo7(ha:PE X a (up X.K ta))(hb:PE X (.BoolOp .And (b::j1) pos) (up X.K tb)):PE X (.BoolOp .And (a::b::j1) pos) (up X.K fun env st Q=>ta env st fun x st1=>∃c,x=.bl c∧(if c=true then tb env st1 Q else Q (.bl false) st1)):=
 PE.imp (ck7 ha hb) fun σ H Q q=>by
  obtain⟨env,st,Qd,hE,hS,ht,hq⟩:=q;refine⟨env,st,_,hE,hS,ht,fun v d H1 st1 ev is rs q1=>?_⟩;obtain⟨k,rfl,q1⟩:=q1;refine⟨k,is.bl_inv,?_⟩;cases k with
  |true=>exact⟨env,st1,Qd,hE.mono (ev.tk hS),rs,q1,hq.after ev⟩
  |false=>exact(hq.after ev).here (.bl _) rs q1
theorem br2(ha:PE X a (up X.K ta))(hb:PE X (.BoolOp .Or (b::j1) pos) (up X.K tb)):PE X (.BoolOp .Or (a::b::j1) pos) (up X.K fun env st Q=>ta env st fun x st1=>∃c,x=.bl c∧(if c=true then Q (.bl true) st1 else tb env st1 Q)):=
 PE.imp (cz6 ha hb) fun σ H Q q=>by
  obtain⟨env,st,Qd,hE,hS,ht,hq⟩:=q;refine⟨env,st,_,hE,hS,ht,fun v d H1 st1 ev is rs q1=>?_⟩;obtain⟨k,rfl,q1⟩:=q1;refine⟨k,is.bl_inv,?_⟩;cases k with
  |false=>exact⟨env,st1,Qd,hE.mono (ev.tk hS),rs,q1,hq.after ev⟩
  |true=>exact(hq.after ev).here (.bl _) rs q1
theorem cj8(ha:PE X a (up X.K ta)):PE X (.UnaryOp .Not a pos) (up X.K fun env st Q=>ta env st fun x st1=>∃c,x=.bl c∧Q (.bl (!c)) st1):=
 PE.imp (cn9 ha) fun σ H Q q=>up1 (f:=fun x st1 Q=>∃c,x=.bl c∧Q (.bl (!c)) st1) q fun v d H' st' Qd is rs ht hq=>by
  obtain⟨c,rfl,ht⟩:=ht;exact⟨c,is.bl_inv,hq.here (.bl _) rs ht⟩
theorem bp5(ha:PT X a (upB X.K (tst ta)))(hb:PW X (.BoolOp .And (b::j1) pos) (upB X.K (tst tb))):PW X (.BoolOp .And (a::b::j1) pos) (upB X.K (tst fun env st Q=>ta env st fun x st1=>∃c,x=.bl c∧(if c=true then tb env st1 Q else Q (.bl false) st1))):=
 PW.imp (cr1 ha hb) fun σ H Q q=>by
  obtain⟨env,st,Qd,hE,hS,ht,hq⟩:=q;refine⟨env,st,fun c st1=>if c=true then tb env st1 (fun d st'=>∃b,d=.bl b∧Qd b st')else ∃b,D.bl false=.bl b∧Qd b st1,hE,hS,ht,fun k H1 st1 ev rs q1=>?_⟩;cases k with
  |true=>
   rw[if_pos rfl]at q1 ⊢;exact⟨env,st1,Qd,hE.mono (ev.tk hS),rs,q1,fun c H2 st2 ev2 rs2 q2=>hq c H2 st2 (ev.trans ev2) rs2 q2⟩
  |false=>
   rw[if_neg Bool.false_ne_true]at q1 ⊢;obtain⟨b,e,q1⟩:=q1;cases e;exact hq false H1 st1 ev rs q1
theorem br1(ha:PT X a (upB X.K (tst ta)))(hb:PW X (.BoolOp .Or (b::j1) pos) (upB X.K (tst tb))):PW X (.BoolOp .Or (a::b::j1) pos) (upB X.K (tst fun env st Q=>ta env st fun x st1=>∃c,x=.bl c∧(if c=true then Q (.bl true) st1 else tb env st1 Q))):=
 PW.imp (cy7 ha hb) fun σ H Q q=>by
  obtain⟨env,st,Qd,hE,hS,ht,hq⟩:=q;refine⟨env,st,fun c st1=>if c=true then ∃b,D.bl true=.bl b∧Qd b st1 else tb env st1 (fun d st'=>∃b,d=.bl b∧Qd b st'),hE,hS,ht,fun k H1 st1 ev rs q1=>?_⟩;cases k with
  |false=>
   rw[if_neg Bool.false_ne_true]at q1 ⊢;exact⟨env,st1,Qd,hE.mono (ev.tk hS),rs,q1,fun c H2 st2 ev2 rs2 q2=>hq c H2 st2 (ev.trans ev2) rs2 q2⟩
  |true=>
   rw[if_pos rfl]at q1 ⊢;obtain⟨b,e,q1⟩:=q1;cases e;exact hq true H1 st1 ev rs q1
theorem cj6(ha:PT X a (upB X.K (tst ta))):PT X (.UnaryOp .Not a pos) (upB X.K (tst fun env st Q=>ta env st fun x st1=>∃c,x=.bl c∧Q (.bl (!c)) st1)):=
 PT.imp (cs7 ha) fun σ H Q q=>by
  obtain⟨env,st,Qd,hE,hS,ht,hq⟩:=q;refine⟨env,st,fun c st1=>∃b,D.bl (!c)=.bl b∧Qd b st1,hE,hS,ht,fun k H1 st1 ev rs q1=>?_⟩;obtain⟨b,e,q1⟩:=q1;cases e;exact hq _ H1 st1 ev rs q1
theorem cs8{t1:DT}(hc:PT X c (upB X.K (tst t1)))(ha:PE X a (up X.K ta))(hb:PE X b (up X.K tb)):PE X (.IfExp c a b pos) (up X.K fun env st Q=>t1 env st fun x st1=>∃k,x=.bl k∧(if k=true then ta env st1 Q else tb env st1 Q)):=
 PE.imp (b78 hc ha hb) fun σ H Q q=>by
  obtain⟨env,st,Qd,hE,hS,ht,hq⟩:=q;refine⟨env,st,fun k st1=>if k=true then ta env st1 Qd else tb env st1 Qd,hE,hS,ht,fun k H1 st1 ev rs q1=>?_⟩;cases k with
  |true=>exact⟨env,st1,Qd,hE.mono (ev.tk hS),rs,q1,hq.after ev⟩
  |false=>exact⟨env,st1,Qd,hE.mono (ev.tk hS),rs,q1,hq.after ev⟩
end
end Ek
namespace Ek
open PySem PySem.Spec PyProof.Rows L2
variable [Tbs]
section
variable {X:Cx} {a b c:Expr} {ta tb tc:DT} {pos p:Pos}
theorem bp0{K:W.Frag}{H:Hp}{ds:List D}{vs:List V}{i:Int}{d:D}(r:IsDs K H ds vs)(h:atI ds i=some d):∃v,atI vs i=some v∧IsD K H d v:=by
 unfold atI at h ⊢;rw[←r.len];cases e:ixN ds.length i with
 |none=>rw[e]at h;cases h
 |some j=>
  rw[e]at h;exact r.get h
theorem ba5(h:∀l u s p,b≠.Slice l u s p):bl7 b:=fun o i=>by
 cases b<;>first|rfl|exact absurd rfl (h _ _ _ _)
noncomputable def c48:R2:=fun x y H Q=>∃p k kvs v,x=.ref p∧y=kV k∧H p=some (.dK kvs)∧o9 kvs k=some v∧Q v H
theorem co5(hu:X.A.units+200<cLine):IxR X c48:=by
 intro value slice pins s σ H x y v u Q I rx ry h hs;obtain⟨p,k,kvs,z,rfl,rfl,hH,hv,q⟩:=h;cases rx;have g:u9 H p (kV k) (some z):=by rw[←hv];exact u9.k hH
 have hT:=a86 I g;unfold subscriptTail;refine wpAny_bind ?_;rw[getitemInPython_of_ne hT.not_modules];refine wpAny_bind (wpAny_specialOf hT PySem.F.slot_dict_getitem.lookup ?_);have fin:wpAny (model X.prog X.w) X.A (subscripted slice false (.ref p) u) (fun r s₃=>wpAny (model X.prog X.w) X.A (letTemporaryGo value (.ref p) r>>=fun _=>pure r) (EP X pins σ Q) X.xe s₃) X.xe s:=by
  rw[hs];refine wpAny_operating (bb8 (by omega) I g ry fun w' s3 I3 rw'=>wpAny_bind (wpAny_letTemporaryGo (wpAny_pure ⟨z,H,I3,rw',q⟩)))
 first
  |exact wpAny_pure (wpAny_bind fin)
  |exact wpAny_bind (wpAny_pure (wpAny_bind fin))
  |exact wpAny_bind fin
theorem cw1(hu:X.A.units+200<cLine)(ha:PE X a (up X.K ta))(hb:PE X b (up X.K tb))(hs:∀l u s p,b≠.Slice l u s p):PE X (.Subscript a b pos) (up X.K fun env st Q=>ta env st fun x st1=>tb env st1 fun y st2=>ixR x y st2 Q):=
 PE.imp (c01 (ch6.or (cj7.or ((co5 hu).or cv7))) ha hb (ba5 hs)) fun σ H Q q=>up2 (f:=ixR) q fun v w d e H' st' Qd i1 i2 rs ht hq=>by
  cases d<;>cases e<;>first|exact False.elim ht|skip
  ·obtain⟨c,hl,e1,ht⟩:=ht;exact .inr (.inr (.inr ⟨_,_,c,i1.str_inv,i2.int_inv,hl,e1,hq.here (.str _) rs ht⟩))
  ·obtain⟨d,e1,ht⟩:=ht;obtain⟨p,vs,rfl,hq',r⟩:=i1.tup_inv;obtain⟨v',e2,is⟩:=bp0 r e1;exact .inr (.inl ⟨p,vs,_,v',rfl,i2.int_inv,hq',e2,hq.here is rs ht⟩)
  ·rcases ht with⟨ds,d,hr,e1,ht⟩|⟨kvs,d,hr,e1,ht⟩
   ·obtain⟨vs,hq',r⟩:=rs.rd hr;obtain⟨v',e2,is⟩:=bp0 r e1;exact .inl ⟨_,vs,_,v',i1.ref_inv,i2.int_inv,hq',e2,hq.here is rs ht⟩
   ·obtain⟨vs,hH,r⟩:=rs.dct hr
    rcases r.look (.inl _)with⟨l1,l2⟩|⟨d',v',l1,l2,is⟩
    ·rw[l1]at e1;cases e1
    ·rw[l1]at e1;cases e1;exact .inr (.inr (.inl ⟨_,.inl _,vs,v',i1.ref_inv,i2.int_inv,hH,l2,hq.here is rs ht⟩))
  ·obtain⟨kvs,d,hr,e1,ht⟩:=ht;obtain⟨vs,hH,r⟩:=rs.dct hr
   rcases r.look (.inr _)with⟨l1,l2⟩|⟨d',v',l1,l2,is⟩
   ·rw[l1]at e1;cases e1
   ·rw[l1]at e1;cases e1;exact .inr (.inr (.inl ⟨_,.inr _,vs,v',i1.ref_inv,i2.str_inv,hH,l2,hq.here is rs ht⟩))
noncomputable abbrev DO:=i9→Sto→(Option Int→Sto→Prop)→Prop
noncomputable def upO(K:W.Frag)(t:DO):TO:=fun σ H Q=>∃env st Qd,RelE K H env σ∧RelS K st H∧t env st Qd∧∀o H' st',Ev st H st' H'→RelS K st' H'→Qd o st'→Q o H'
theorem _root_.L2.PO.imp{X:Cx}{x:Option Expr}{t t':TO}(h:PO X x t)(i:∀σ H Q,t' σ H Q→t σ H Q):PO X x t':=fun pins s σ H Q I q=>h pins s σ H Q I (i σ H Q q)
theorem ag0:PO X none (upO X.K fun _ st k=>k none st):=PO.imp cc5 fun σ H Q q=>by
 obtain⟨env,st,Qd,hE,hS,ht,hq⟩:=q;exact hq none H st Ev.refl hS ht
theorem ah6(ha:PE X a (up X.K ta)):PO X (some a) (upO X.K fun env st k=>ta env st fun d st'=>∃i,d=.int i∧k (some i) st'):=PO.imp (cb2 ha) fun σ H Q q=>by
 obtain⟨env,st,Qd,hE,hS,ht,hq⟩:=q;refine⟨env,st,_,hE,hS,ht,fun v d H' st' ev is rs q1=>?_⟩;obtain⟨i,rfl,q1⟩:=q1;exact⟨i,is.int_inv,hq _ H' st' ev rs q1⟩
theorem a49{K:W.Frag}{H:Hp}{ds:List D}{vs:List V}(r:IsDs K H ds vs)(lo hi:Option Int):IsDs K H (y8 ds lo hi) (N0 vs lo hi):=by
 unfold y8 N0;rw[r.len];exact(r.drop _).take _
theorem cz0{lo hi:Option Expr}{tl th:DO}{p2:Pos}(ha:PE X a (up X.K ta))(hl:PO X lo (upO X.K tl))(hh:PO X hi (upO X.K th)):
  PE X (.Subscript a (.Slice lo hi none p2) pos) (up X.K fun env st Q=>ta env st fun x st1=>tl env st1 fun l st2=>th env st2 fun h st3=>slR x l h st3 Q):=
 PE.imp (be6 (bp4.or ci0) ha hl hh) fun σ H Q q=>by
  obtain⟨env,st,Qd,hE,hS,ht,hq⟩:=q;refine⟨env,st,_,hE,hS,ht,fun v d H1 st1 ev1 is1 rs1 q1=>⟨env,st1,_,hE.mono (ev1.tk hS),rs1,q1,fun l H2 st2 ev2 rs2 q2=>⟨env,st2,_,(hE.mono (ev1.tk hS)).mono (ev2.tk rs1),rs2,q2,fun h H3 st3 ev3 rs3 q3=>?_⟩⟩⟩;have is3:=(is1.mono (ev2.tk rs1)).mono (ev3.tk rs2);have hq3:=((hq.after ev1).after ev2).after ev3;cases d<;>first|exact False.elim q3|skip
  ·obtain⟨p,vs,rfl,hs,r⟩:=is3.tup_inv;exact .inl ⟨p,vs,rfl,hs,by rw[←r.len];exact q3.1,hq3.newT rs3 (a49 r l h) q3.2⟩
  ·obtain⟨ds,hr,q3⟩:=q3;obtain⟨vs,hs,r⟩:=rs3.rd hr;exact .inr ⟨_,vs,is3.ref_inv,hs,hq3.newL rs3 (a49 r l h) q3⟩
theorem O5(ha:PE X a (up X.K ta))(h:∀e p,a≠.Starred e p):PA X [a] (upA X.K 1 fun env st Q=>ta env st fun d st1=>Q [d] st1):=W9 ha bm7 h
theorem br4{id:String}{f:Str}{r:List V→Hp→VK→Prop}{g:D→Sto→DK→Prop}(hc:E5 X (.builtin id) r)(hg:Gl X f)(hm:X.mg f=none)(hv:bootBuiltins f=some (.builtin id))(ha:PE X a (up X.K ta))(hs:∀e p,a≠.Starred e p)
  (imp:∀v d H' st' Qd Q,IsD X.K H' d v→RelS X.K st' H'→g d st' Qd→t5 X.K st' H' Qd Q→r [v] H' Q) (hn:f≠"__name__") (hdb:(f==("__debug__":Str))=false) :
  PE X (.Call (.Name f p) [a] [] pos) (up X.K fun env st Q=>ta env st fun x st1=>g x st1 Q):=
 PE.imp (ae2 hc hg hm hv (O5 ha hs) hn hdb (n8 hs) rfl) fun σ H Q q=>by
  obtain⟨env,st,Qd,hE,hS,ht,hq⟩:=q;refine⟨env,st,(fun ds st1=>match ds with|[d]=>g d st1 Qd|_=>False),hE,hS,ht,fun vs ds H' st' ev is hl rs q1=>?_⟩
  match ds,hl with
  |[d],_=>
   obtain⟨v,ws,rfl,i1,i2⟩:=is.inv_cons;rw[i2.inv_nil];exact imp v d H' st' Qd Q i1 rs q1 (hq.after ev)
theorem a59{T:String}{f:Str}{r:List V→Hp→VK→Prop}{g:D→Sto→DK→Prop}(hc:E5 X (.type T) r)(hg:Gl X f)(hm:X.mg f=none)(hv:bootBuiltins f=some (.type T))(ha:PE X a (up X.K ta))(hs:∀e p,a≠.Starred e p)
  (imp:∀v d H' st' Qd Q,IsD X.K H' d v→RelS X.K st' H'→g d st' Qd→t5 X.K st' H' Qd Q→r [v] H' Q) (hn:f≠"__name__") (hdb:(f==("__debug__":Str))=false) :
  PE X (.Call (.Name f p) [a] [] pos) (up X.K fun env st Q=>ta env st fun x st1=>g x st1 Q):=
 PE.imp (b08 hc hg hm hv (O5 ha hs) hn hdb (n8 hs) rfl) fun σ H Q q=>by
  obtain⟨env,st,Qd,hE,hS,ht,hq⟩:=q;refine⟨env,st,(fun ds st1=>match ds with|[d]=>g d st1 Qd|_=>False),hE,hS,ht,fun vs ds H' st' ev is hl rs q1=>?_⟩
  match ds,hl with
  |[d],_=>
   obtain⟨v,ws,rfl,i1,i2⟩:=is.inv_cons;rw[i2.inv_nil];exact imp v d H' st' Qd Q i1 rs q1 (hq.after ev)
theorem a88:bootBuiltins "isinstance"=some (.builtin "isinstance"):=by decide+kernel
theorem b72:bootBuiltins "int"=some (.type "int"):=by decide+kernel
theorem aw7:bootBuiltins "list"=some (.type "list"):=by decide+kernel
theorem bx0:bootBuiltins "tuple"=some (.type "tuple"):=by decide+kernel
theorem cm2(hg:Gl X "len")(hm:X.mg "len"=none)(ha:PE X a (up X.K ta))(hs:∀e p,a≠.Starred e p):PE X (.Call (.Name "len" p) [a] [] pos) (up X.K fun env st Q=>ta env st fun x st1=>Q5 x st1 Q):=
 br4 bw0 hg hm PySem.boot_len ha hs (fun v d H' st' Qd Q is rs ht hq=>by
  cases d<;>first|exact False.elim ht|skip
  ·obtain⟨p,vs,rfl,hs,r⟩:=is.tup_inv;exact⟨p,vs,rfl,.inr hs,by rw[←r.len];exact hq.here (.int _) rs ht⟩
  ·obtain⟨ds,hr,ht⟩:=ht;obtain⟨vs,hs,r⟩:=rs.rd hr;exact⟨_,vs,by rw[is.ref_inv],.inl hs,by rw[←r.len];exact hq.here (.int _) rs ht⟩) (by decide) (by decide)
theorem b92(hg:Gl X "int")(hm:X.mg "int"=none)(ha:PE X a (up X.K ta))(hs:∀e p,a≠.Starred e p):PE X (.Call (.Name "int" p) [a] [] pos) (up X.K fun env st Q=>ta env st fun x st1=>X7 x st1 Q):=
 a59 b09 hg hm b72 ha hs (fun v d H' st' Qd Q is rs ht hq=>by
  cases d<;>first|exact False.elim ht|skip
  ·exact .inr ⟨_,by rw[is.bl_inv],hq.here (.int _) rs ht⟩
  ·exact .inl ⟨_,by rw[is.int_inv],hq.here (.int _) rs ht⟩) (by decide) (by decide)
theorem cg6(hg:Gl X "list")(hm:X.mg "list"=none)(ha:PE X a (up X.K ta))(hs:∀e p,a≠.Starred e p):PE X (.Call (.Name "list" p) [a] [] pos) (up X.K fun env st Q=>ta env st fun x st1=>ap4 x st1 Q):=
 a59 bw3 hg hm aw7 ha hs (fun v d H' st' Qd Q is rs ht hq=>by
  cases d<;>first|exact False.elim ht|skip
  ·obtain⟨p,vs,rfl,hs,r⟩:=is.tup_inv;exact⟨p,vs,rfl,.inr hs,hq.newL rs r ht⟩
  ·obtain⟨ds,hr,ht⟩:=ht;obtain⟨vs,hs,r⟩:=rs.rd hr;exact⟨_,vs,by rw[is.ref_inv],.inl hs,hq.newL rs r ht⟩) (by decide) (by decide)
theorem b43(hg:Gl X "tuple")(hm:X.mg "tuple"=none)(ha:PE X a (up X.K ta))(hs:∀e p,a≠.Starred e p):PE X (.Call (.Name "tuple" p) [a] [] pos) (up X.K fun env st Q=>ta env st fun x st1=>T4 x st1 Q):=
 a59 bv6 hg hm bx0 ha hs (fun v d H' st' Qd Q is rs ht hq=>by
  cases d<;>first|exact False.elim ht|skip
  ·obtain⟨p,vs,rfl,hs,r⟩:=is.tup_inv;exact⟨p,vs,rfl,.inr ⟨hs,hq.here is rs ht⟩⟩
  ·obtain⟨ds,hr,ht⟩:=ht;obtain⟨vs,hs,r⟩:=rs.rd hr;exact⟨_,vs,by rw[is.ref_inv],.inl ⟨hs,hq.newT rs r ht⟩⟩) (by decide) (by decide)
theorem al7(ha:PE X a (up X.K ta))(hb:PE X b (up X.K tb))(h:∀e p,a≠.Starred e p)(h':∀e p,b≠.Starred e p):PA X [a,b] (upA X.K 2 fun env st Q=>ta env st fun d st1=>tb env st1 fun e st2=>Q [d,e] st2):=W9 ha (O5 hb h') h
theorem b59(K:W.Frag):W.kitOne K (.type "list") (.type "list")=some true:=by
 unfold W.kitOne;rw[if_pos (by decide)]
theorem b29{p2:Pos}(hg:Gl X "isinstance")(hm:X.mg "isinstance"=none)(hg2:Gl X "list")(hm2:X.mg "list"=none)(ha:PE X a (up X.K ta))(hs:∀e p,a≠.Starred e p):
  PE X (.Call (.Name "isinstance" p) [a,.Name "list" p2] [] pos) (up X.K fun env st Q=>ta env st fun x st1=>R6 x st1 Q):=
 PE.imp (ae2 (bx5 (T:="list") (b:=true)) hg hm a88 (X0 ha (X0 (bm3 (v:=.ty "list") hg2 hm2 aw7 rfl (by decide) (by decide)) a54 rfl) (n8 hs)) (by decide) (by decide) (n8 hs) rfl) fun σ H Q q=>
  up1 (f:=R6) q fun v d H' st' Qd is rs ht hq=>by
   cases d<;>first|exact False.elim ht|skip
   obtain⟨ds,hr,ht⟩:=ht;obtain⟨vs,hs,r⟩:=rs.rdR hr;refine⟨_,.type "list",rfl,?_,b59 _,hq.here (.bl _) rs ht⟩;rw[is.ref_inv]
   rcases hs with hs|⟨o,hs⟩
   ·exact .lst hs
   ·exact .frz hs
theorem ax1{pins:List (Addr×Obj)}{σ:L2.St}{H:Hp}{s:Shared}(I:L2.Inv X pins σ H s){a:Addr}{ds:List D}{vs:List V}(hq:SqL X.K H a vs)(r:IsDs X.K H ds vs)(hp:D.pures ds=true):∃as,Reads s.heap (.ref a) (.list (D.pys ds)) as:=by
 obtain⟨its,rv,⟨o,n,ho,hc,_,hd⟩,hz⟩:=I.list hq;obtain⟨as,ra⟩:=a89 (P:=fun d=>d.pure=true) (fun d v u hp is ru=>E1 I is hp ru) ds vs its (fun d hd=>ax2 hp d hd) r rv;exact⟨_,.list ho hc hd (by simpa using ra)⟩
noncomputable def Lls(K:W.Frag)(H:Hp):List V→List (List D)→Prop
 |[],[]=>True
 |v::vs,l::ls=>(∃a ws,v=.ref a∧SqL K H a ws∧IsDs K H l ws∧D.pures l=true)∧Lls K H vs ls
 |_,_=>False
theorem a51{st:Sto}{H:Hp}(rs:RelS X.K st H):∀{ds:List D}{vs:List V}{ls:List (List D)},IsDs X.K H ds vs→av5 st ds ls→Lls X.K H vs ls
 |[],vs,[],r,_=>by rw[r.inv_nil];trivial
 |[],vs,l::ls,r,h=>h.elim
 |d::ds,vs,[],r,h=>h.elim
 |d::ds,vs,l::ls,r,h=>by
  obtain⟨v,ws,rfl,h1,h2⟩:=r.inv_cons;obtain⟨⟨a,rfl,hr,hp⟩,h⟩:=h;obtain⟨us,q,ru⟩:=rs.rd hr;exact⟨⟨a,us,h1.ref_inv,q,ru,hp⟩,a51 rs h2 h⟩
theorem az1{K:W.Frag}{H:Hp}:∀{vs:List V}{ls:List (List D)},Lls K H vs ls→PyData.canLayAll0 (C4 ls)=true
 |[],[],_=>rfl
 |[],l::ls,h=>h.elim
 |v::vs,[],h=>h.elim
 |v::vs,l::ls,h=>by
  obtain⟨⟨a,us,_,_,_,hp⟩,h⟩:=h;show(PyData.canLay0 (.list (D.pys l))&&PyData.canLayAll0 (C4 ls))=true;rw[az1 h,PyData.canLay0,N8 l hp];rfl
theorem bd6{pins:List (Addr×Obj)}{σ:L2.St}{H:Hp}{s:Shared}(I:L2.Inv X pins σ H s):∀{vs:List V}{us:List Value}{ls:List (List D)},e9 vs us→Lls X.K H vs ls→∃as,ReadsAll s.heap us (C4 ls) as
 |[],us,[],q,_=>by cases q;exact⟨[],.nil⟩
 |[],us,l::ls,q,h=>h.elim
 |v::vs,us,[],q,h=>h.elim
 |v::vs,us,l::ls,q,h=>by
  obtain⟨⟨a,ws,rfl,hs,ru,hp⟩,h⟩:=h;cases q with
  |cons q1 q2=>
   cases q1;obtain⟨as,ra⟩:=ax1 I hs ru hp;obtain⟨bs,rb⟩:=bd6 I q2 h;exact⟨as++bs,.cons ra rb⟩
theorem bd0{pins:List (Addr×Obj)}{σ:L2.St}{H:Hp}{s:Shared}(I:L2.Inv X pins σ H s){a:Addr}{vs:List V}{ls:List (List D)}(hq:SqL X.K H a vs)(h:Lls X.K H vs ls):∃as,Reads s.heap (.ref a) (.list (C4 ls)) as:=by
 obtain⟨its,rv,⟨o,n,ho,hc,_,hd⟩,hz⟩:=I.list hq;obtain⟨as,ra⟩:=bd6 I rv h;exact⟨_,.list ho hc hd (by simpa using ra)⟩
theorem bl4(hu:X.A.units+200<cLine)(ne:Bool):OpR X (compareOp (if ne then .NotEq else .Eq)) (fun x y H Q=>∃a b xs ys vs ws,x=.ref a∧y=.ref b∧SqL X.K H a vs∧SqL X.K H b ws∧IsDs X.K H xs vs∧IsDs X.K H ys ws∧((D.pures xs=true∧D.pures ys=true∧PyData.depthAll (D.pys xs)≤149∧Q (.bl (ne != PyData.eqvAll (D.pys xs) (D.pys ys))) H)∨(xs.length≠ys.length∧Q (.bl ne) H)∨∃xss yss,Lls X.K H vs xss∧Lls X.K H ws yss∧PyData.depthAll (C4 xss)≤149∧Q (.bl (ne != PyData.eqvAll (C4 xss) (C4 yss))) H)):=by
 intro pins s σ H x y v u Q I rx ry h;obtain⟨a,b,xs,ys,vs,ws,rfl,rfl,q1,q2,r1,r2,hor⟩:=h;cases rx;cases ry;have hor':(xs.length≠ys.length∧Q (.bl ne) H)∨∃ps qs as bs,Reads s.heap (.ref a) (.list ps) as∧Reads s.heap (.ref b) (.list qs) bs∧PyData.canLayAll0 ps=true∧PyData.canLayAll0 qs=true∧PyData.depthAll ps≤149∧Q (.bl (ne != PyData.eqvAll ps qs)) H:=by
  rcases hor with⟨p1,p2,hd,q⟩|h|⟨xss,yss,l1,l2,hd,q⟩
  ·obtain⟨as,ra⟩:=ax1 I q1 r1 p1;obtain⟨bs,rb⟩:=ax1 I q2 r2 p2;exact .inr ⟨_,_,as,bs,ra,rb,N8 xs p1,N8 ys p2,hd,q⟩
  ·exact .inl h
  ·obtain⟨as,ra⟩:=bd0 I q1 l1;obtain⟨bs,rb⟩:=bd0 I q2 l2;exact .inr ⟨_,_,as,bs,ra,rb,az1 l1,az1 l2,hd,q⟩
 rcases hor' with⟨hne,q⟩|⟨ps,qs,as,bs,ra,rb,k1,k2,hd,q⟩
 ·obtain⟨its,rv,pl,hz⟩:=I.list q1;obtain⟨jts,rw',pl',hz'⟩:=I.list q2;have hsz:(its.toArray.size != jts.toArray.size)=true:=by
   rw[List.size_toArray,List.size_toArray,←rv.length,←rw'.length,←r1.len,←r2.len];simpa using hne
  cases ne with
  |true=>exact SeqAt.RcNeAt.lists_lengths pl.isList pl'.isList hsz (by omega) X.prog X.w _ _ ⟨.bl _,H,I,rfl,q⟩
  |false=>exact SeqAt.RcAt.lists_lengths pl.isList pl'.isList hsz (by omega) X.prog X.w _ _ ⟨.bl _,H,I,rfl,q⟩
 have c1:PyData.canLay0 (.list ps)=true:=by rw[PyData.canLay0];exact k1
 have c2:PyData.canLay0 (.list qs)=true:=by rw[PyData.canLay0];exact k2
 have hroom:X.A.units+min (PyData.depth (.list ps)) (PyData.depth (.list qs))<cLine:=by
  have:min (PyData.depth (.list ps)) (PyData.depth (.list qs))≤PyData.depth (.list ps):=Nat.min_le_left _ _;have e1:PyData.depth (.list ps)=PyData.depthAll ps+1:=by rw[PyData.depth]
  omega
 cases ne with
 |true=>
  have eb:(!PyData.eqv (.list ps) (.list qs))=(true != PyData.eqvAll ps qs):=by rw[PyData.eqv];cases PyData.eqvAll ps qs<;>rfl
  exact SeqAt.rcNeAt_reads ra rb c1 c2 hroom X.prog X.w _ _ ⟨.bl _,H,I,congrArg Value.bool eb,q⟩
 |false=>
  have eb:PyData.eqv (.list ps) (.list qs)=(false != PyData.eqvAll ps qs):=by rw[PyData.eqv];cases PyData.eqvAll ps qs<;>rfl
  exact SeqAt.rcAt_reads ra rb c1 c2 hroom X.prog X.w _ _ ⟨.bl _,H,I,congrArg Value.bool eb,q⟩
theorem bj0{ne:Bool}{v w:V}{d e:D}{H':Hp}{st':Sto}{Qd:DK}{Q:VK}(i1:IsD X.K H' d v)(i2:IsD X.K H' e w)(rs:RelS X.K st' H')(ht:J4 ne d e st' Qd)(hq:t5 X.K st' H' Qd Q):∃a b xs ys vs ws,v=.ref a∧w=.ref b∧SqL X.K H' a vs∧SqL X.K H' b ws∧IsDs X.K H' xs vs∧IsDs X.K H' ys ws∧((D.pures xs=true∧D.pures ys=true∧PyData.depthAll (D.pys xs)≤149∧Q (.bl (ne != PyData.eqvAll (D.pys xs) (D.pys ys))) H')∨(xs.length≠ys.length∧Q (.bl ne) H')∨∃xss yss,Lls X.K H' vs xss∧Lls X.K H' ws yss∧PyData.depthAll (C4 xss)≤149∧Q (.bl (ne != PyData.eqvAll (C4 xss) (C4 yss))) H'):=by
 cases d<;>cases e<;>first|exact False.elim ht|skip
 obtain⟨xs,ys,h1,h2,hor⟩:=ht;obtain⟨vs,q1,r1⟩:=rs.rd h1;obtain⟨ws,q2,r2⟩:=rs.rd h2;refine⟨_,_,xs,ys,vs,ws,i1.ref_inv,i2.ref_inv,q1,q2,r1,r2,?_⟩
 rcases hor with⟨p1,p2,hd,ht⟩|⟨hne,ht⟩|⟨xss,yss,l1,l2,hd,ht⟩
 ·exact .inl ⟨p1,p2,hd,hq.here (.bl _) rs ht⟩
 ·exact .inr (.inl ⟨hne,hq.here (.bl _) rs ht⟩)
 ·exact .inr (.inr ⟨xss,yss,a51 rs r1 l1,a51 rs r2 l2,hd,hq.here (.bl _) rs ht⟩)
theorem cb8{ne:Bool}{o:CmpOp}(ho:o=if ne then .NotEq else .Eq)(hu:X.A.units+200<cLine)(ha:PE X a (up X.K ta))(hb:PE X b (up X.K tb))(hm:∀es k p,b≠.Set es k p):PE X (.Compare a [o] [b] pos) (up X.K fun env st Q=>ta env st fun x st1=>tb env st1 fun y st2=>J4 ne x y st2 Q):=by
 subst ho;exact PE.imp (az6 (bl4 hu ne) ha hb (Q9 _ b hm)) fun σ H Q q=>up2 (f:=J4 ne) q fun v w d e H' st' Qd i1 i2 rs ht hq=>bj0 i1 i2 rs ht hq
theorem ce9{ne:Bool}{o:CmpOp}(ho:o=if ne then .NotEq else .Eq)(hu:X.A.units+200<cLine)(ha:PE X a (up X.K ta))(hb:PE X b (up X.K tb))(hm:∀es k p,b≠.Set es k p):
  PT X (.Compare a [o] [b] pos) (upB X.K fun env st Q=>ta env st fun x st1=>tb env st1 fun y st2=>J4 ne x y st2 fun d st'=>∃k,d=.bl k∧Q k st'):=by
 subst ho;refine PT.imp (a29 (bl4 hu ne) ha hb (Q9 _ b hm)) fun σ H Q q=>?_;obtain⟨env,st,Qd,hE,hS,ht,hq⟩:=q;refine up2 (f:=J4 ne) (Q:=fun x H'=>∃k,x=.bl k∧Q k H') ⟨env,st,_,hE,hS,ht,fun v d H' st' ev is rs q1=>?_⟩ fun v w d e H' st' Qd i1 i2 rs ht hq=>bj0 i1 i2 rs ht hq;obtain⟨k,rfl,q1⟩:=q1;exact⟨k,is.bl_inv,hq k H' st' ev rs q1⟩
noncomputable def L7:List String:=["tuple","int","bool","str","list"]
theorem bn0(K:W.Frag):∀t∈L7,∀ty∈["NoneType","bool","int","str","tuple","list"],W.kitOne K (.type ty) (.type t)=some (ty==t||(ty=="bool"&&t=="int")):=by
 intro t ht ty hty;simp only[L7,List.mem_cons,List.not_mem_nil,or_false]at ht hty
 rcases ht with rfl|rfl|rfl|rfl|rfl<;>rcases hty with rfl|rfl|rfl|rfl|rfl|rfl<;>first|rfl|(unfold W.kitOne;rfl)|(unfold W.kitOne;first|(rw[if_pos (by decide)];rfl)|(rw[if_neg (by decide)];decide+kernel))
theorem cr6{p2:Pos}{t:String}{f:Str}(hin:t∈L7)(hg:Gl X "isinstance")(hm:X.mg "isinstance"=none)(hg2:Gl X f)(hm2:X.mg f=none)(hboot:bootBuiltins f=some (.type t))(hn:f≠"__name__")(hdb:(f==("__debug__":Str))=false)(ha:PE X a (up X.K ta))(hs:∀e p,a≠.Starred e p):
  PE X (.Call (.Name "isinstance" p) [a,.Name f p2] [] pos) (up X.K fun env st Q=>ta env st fun x st1=>U0 t x st1 Q):=by
 intro pins s σ H Q I q;obtain⟨env,st,Qd,hE,hS,ht,hq⟩:=q;have arg:PA X [a,.Name f p2] (a62 (up X.K ta) (a62 (tC (.ty t)) a71)):=X0 ha (X0 (bm3 (v:=.ty t) hg2 hm2 hboot rfl hn hdb) a54 rfl) (n8 hs);refine ae2 (r:=fun vs H Q=>(∃x ty b,vs=[x,.ty t]∧TyOf X.K H x ty∧W.kitOne X.K ty (.type t)=some b∧Q (.bl b) H)∨∃q' xs b,vs=[.ref q',.ty t]∧SqT X.K H q' xs∧W.kitOne X.K (.type "tuple") (.type t)=some b∧Q (.bl b) H) ?_ hg hm a88 arg (by decide) (by decide) (n8 hs) rfl pins s σ H Q I ?_
 ·intro pins s σ H vs us Q I r h
  rcases h with⟨x,ty,b,rfl,h1,h2,q⟩|⟨q',xs,b,rfl,h1,h2,q⟩
  ·obtain⟨u,v,rfl,ru,rv⟩:=r.two;cases rv;exact bb1 I ru h1 h2 fun tk=>⟨.bl b,H,I.tok _,rfl,q⟩
  ·obtain⟨u,v,rfl,ru,rv⟩:=r.two;cases rv;cases ru;obtain⟨its,_,⟨o,e1,e2,_⟩,_⟩:=I.tupleD h1;exact W.kia_one W.kitx_tuple I.kIn ⟨o,e1,e2⟩ h2 (fun z=>nomatch z) fun tk=>⟨.bl b,H,I.tok _,rfl,q⟩
 ·refine⟨env,st,_,hE,hS,ht,fun v d H' st' ev is rs q1=>?_⟩;have fin:∀ty:String,ty∈["NoneType","bool","int","str","tuple","list"]→TyOf X.K H' v (.type ty)→Qd (.bl (ty==t||(ty=="bool"&&t=="int"))) st'→(∃x ty b,[v,V.ty t]=[x,.ty t]∧TyOf X.K H' x ty∧W.kitOne X.K ty (.type t)=some b∧Q (.bl b) H')∨∃q' xs b,[v,V.ty t]=[.ref q',.ty t]∧SqT X.K H' q' xs∧W.kitOne X.K (.type "tuple") (.type t)=some b∧Q (.bl b) H':=fun ty hty h1 h2=>.inl ⟨v,.type ty,_,rfl,h1,bn0 X.K t hin ty hty,(hq.after ev).here (.bl _) rs h2⟩
  rcases q1 with⟨ty,e,q1⟩|⟨b,ds,rfl,hr,q1⟩
  ·cases d<;>first|(simp[tyD]at e;done)|skip
   all_goals (simp only[tyD,Option.some.injEq]at e;subst e)
   ·cases is;exact fin "NoneType" (by simp) .non q1
   ·cases is;exact fin "bool" (by simp) (.bl _) q1
   ·cases is;exact fin "int" (by simp) (.int _) q1
   ·cases is;exact fin "str" (by simp) (.str _) q1
   ·obtain⟨q',vs,rfl,hq',r⟩:=is.tup_inv;exact .inr ⟨q',vs,_,rfl,hq',bn0 X.K t hin "tuple" (by simp),(hq.after ev).here (.bl _) rs q1⟩
  ·obtain⟨vs,hs',r⟩:=rs.rdR hr;rw[is.ref_inv];have q2:Qd (.bl ("list"==t||("list"=="bool"&&t=="int"))) st':=by
    have e:("list"==t||("list"=="bool"&&t=="int"))=(t=="list"):=by simp only[L7,List.mem_cons,List.not_mem_nil,or_false]at hin;rcases hin with rfl|rfl|rfl|rfl|rfl<;>decide
    rw[e];exact q1
   rw[is.ref_inv]at fin
   rcases hs' with h|⟨o,h⟩
   ·exact fin "list" (by simp) (.lst h) q2
   ·exact fin "list" (by simp) (.frz h) q2
noncomputable def B9(K:W.Frag)(sp:Spec):Sp:=fun vs H Q _=>∃ds st Qd,IsDs K H ds vs∧RelS K st H∧sp ds st Qd∧t5 K st H Qd Q
theorem cf2{f:Str}{k:Nat}{fa:Addr}{fd:FuncData}{ps:List Str}{sp:Spec}{es:List Expr}{n:Nat}{t:DA}(F:FnOk X.prog X.w X.K X.mg X.base CX0 k fa fd ps (B9 X.K sp))(hr:Room k X.A)(hg:Gl X f)(hm:X.mg f=some (.ref fa))(hk:W.keepIn X.K (.ref fa)=true)
  (hb:z7 X.K fd ps []) (ha:PA X (a::es) (upA X.K n t)) (hdb:(f==("__debug__":Str))=false) (hs:∀e p,a≠.Starred e p) (hpl:(backTo pos (starEach es X.env)).any (·.1)=false) :
  PE X (.Call (.Name f p) (a::es) [] pos) (up X.K fun env st Q=>t env st fun ds st1=>sp ds st1 Q):=
 PE.imp (cb1 F hr hg hm hk hb .nil P6 ha hdb (n8 hs) hpl) fun σ H Q q=>a76 (f:=sp) q fun vs ds H' st' Qd is hl rs ht hq=>⟨ds,st',Qd,by rw[List.append_nil];exact is,rs,ht,hq⟩
theorem cy0{f:Str}{fa:Addr}(hg:Gl X f)(hm:X.mg f=some (.ref fa))(hns:W.nsIn X.K mainGlobals f=some (some (.ref fa)))(hdb:(f==("__debug__":Str))=false):PE X (.Name f p) (up X.K fun _ st Q=>Q (.fn f) st):=
 PE.imp (bh5 (v:=.ref fa) hg hm rfl hdb) fun σ H Q q=>by
  obtain⟨env,st,Qd,hE,hS,ht,hq⟩:=q;exact hq.here (.fn hns) hS ht
noncomputable def Y8(K:W.Frag)(f:Addr)(fd:FuncData)(np:Nat)(N:List Str)(cs:List D)(sp:Spec):Sp:=fun vs H Q _=>∃us ds st Qd,CloR H f fd np N us∧IsDs K H cs us∧IsDs K H ds vs∧RelS K st H∧sp ds st Qd∧t5 K st H Qd Q
theorem CloR.fnAt{f:Addr}{fd:FuncData}{np:Nat}{N:List Str}{us:List V}(h:CloR H f fd np N us)(I:Inv X pins σ H s):W.FnAt f s.heap:=by
 obtain⟨o,u,e1,_,e3⟩:=h.ex;obtain⟨h1,_⟩:=I.hok f _ e1;obtain⟨oc,od,da,sl⟩:=o;have e3':da=.func fd:=e3;subst e3';exact⟨oc,od,fd,sl,h1⟩
theorem b74{i:Nat}{x:Str}{es:List Expr}{n:Nat}{t:DA}{Z:Sg}(hN:X.N[i]?=some x)(hv:Vis X.env.scope x)(hd:(x==("__debug__":Str))=false)(hcd:(x==("__classdict__":Str))=false)
  (hF:∀f fa,Z.F f=true→W.nsIn X.K mainGlobals f=some (some (.ref fa))→∃k fd ps,FnOk X.prog X.w X.K X.mg X.base CX0 k fa fd ps (B9 X.K (Z.Phi f))∧Room k X.A∧W.keepIn X.K (.ref fa)=true∧z7 X.K fd ps [])
  (hC:∀np N b cs fa fd ps,CloF fd np N ps b→∃k,FnOk X.prog X.w X.K X.mg X.base CX0 k fa fd ps (Y8 X.K fa fd np N cs (Z.PhiC np N b cs))∧Room k X.A)
  (ha:PA X (a::es) (upA X.K n t)) (hs:∀e p,a≠.Starred e p) (hpl:(backTo pos (starEach es X.env)).any (·.1)=false) :
  PE X (.Call (.Name x p) (a::es) [] pos) (up X.K fun env st Q=>∃x,env[i]?=some (some x)∧U1 Z (t env) st Q x):=by
 intro pins s σ H Q I q;obtain⟨env,st,Qd,hE,hS,⟨d,he,hc⟩,hq⟩:=q;obtain⟨v,hv1,isv⟩:=hE.at' i _ he;cases d with
 |fn f=>
  obtain⟨hf,ht⟩:Z.F f=true∧t env st fun ds st1=>Z.Phi f ds st1 Qd:=hc;obtain⟨fa,rfl,hns⟩:∃fa,v=.ref fa∧W.nsIn X.K mainGlobals f=some (some (.ref fa)):=by cases isv with|fn h=>exact⟨_,rfl,h⟩
  obtain⟨k,fd,ps,Fo,hr,hk,hb⟩:=hF f fa hf hns;refine wpAny_Call_Name_kw (thn (a55 hN hv hd hcd pins s σ H (fun v H1=>v=.ref fa∧H1=H) I ⟨_,hv1,rfl,rfl⟩) fun u s1⟨v,H1,I1,r1,e1,e2⟩=>?_);subst e1 e2;cases r1;refine W.callWith_K (h₀:=X.base) I1.ok.mod.kin hk (thn (ha pos pins s1 σ H1 (fun vs H2=>∃ds st1,Ev st H1 st1 H2∧IsDs X.K H2 ds vs∧RelS X.K st1 H2∧Z.Phi f ds st1 Qd) I1 ⟨env,st,_,hE,hS,ht,fun vs ds H' st' ev is hl rs q=>⟨ds,st',ev,is,rs,q⟩⟩) fun us s2⟨vs,H2,I2,r,ds,st1,ev,is,rs,q⟩=>⟨I2.kIn,?_⟩) (n8 hs) hpl;exact Y6 Fo hr hb .nil P6 I2 r ⟨ds,st1,Qd,by rw[List.append_nil];exact is,rs,q,hq.after ev⟩
 |clo np N b cs=>
  have ht:t env st fun ds st1=>Z.PhiC np N b cs ds st1 Qd:=hc;obtain⟨fa,us0,rfl,ca,ics⟩:∃fa us,v=.ref fa∧Z3 H fa np N b us∧IsDs X.K H cs us:=by cases isv with|clo h1 h2 h3=>exact⟨_,_,rfl,h1,h2,h3⟩
  obtain⟨fd,ps,cf,cr⟩:=ca;obtain⟨k,Fo,hr⟩:=hC np N b cs fa fd ps cf;refine wpAny_Call_Name_kw (thn (a55 hN hv hd hcd pins s σ H (fun v H1=>v=.ref fa∧H1=H) I ⟨_,hv1,rfl,rfl⟩) fun u s1⟨v,H1,I1,r1,e1,e2⟩=>?_);subst e1 e2;cases r1;refine W.callWith_F (cr.fnAt I1) (thn (ha pos pins s1 σ H1 (fun vs H2=>∃ds st1,Ev st H1 st1 H2∧IsDs X.K H2 ds vs∧RelS X.K st1 H2∧Z.PhiC np N b cs ds st1 Qd) I1 ⟨env,st,_,hE,hS,ht,fun vs ds H' st' ev is hl rs q=>⟨ds,st',ev,is,rs,q⟩⟩) fun us s2⟨vs,H2,I2,r,ds,st1,ev,is,rs,q⟩=>⟨(cr.mono (K:=X.K) (ev.tk hS)).fnAt I2,?_⟩) (n8 hs) hpl;exact Y6 Fo hr (.all cf.bind) .nil P6 I2 r ⟨us0,ds,st1,Qd,cr.mono (K:=X.K) (ev.tk hS),ics.mono (ev.tk hS),by rw[List.append_nil];exact is,rs,q,hq.after ev⟩
 |_=>exact(hc:False).elim
theorem E3{o:Expr}{nm:Str}{env:Env}{w:Sem Value}(h:∀i p p',o≠.Call (.Name i p) [] [] p'):attributeBase o nm env w=w:=by
 unfold attributeBase
 split
 ·exact absurd rfl (h _ _ _)
 ·rfl
theorem ck2{f:Str}{C:Str→List Str}(hC:∀c Ca,W.nsIn X.K mainGlobals c=some (some (.ref Ca))→f∈C c→Cls X.K Ca∧F4 X.K Ca f)(ha:PE X a (up X.K ta))(hbase:attributeBase a f X.env (eval a X.env)=eval a X.env):
  PE X (.Attribute a f pos) (up X.K fun env st Q=>ta env st fun x st1=>∃p c fs d,x=.ref p∧st1 p=some (.ins c fs)∧f∈C c∧fs.lookup f=some d∧Q d st1):=
 PE.imp (cj9 ha hbase) fun σ H Q q=>up1 (f:=fun x st1 Q=>∃p c fs d,x=.ref p∧st1 p=some (.ins c fs)∧f∈C c∧fs.lookup f=some d∧Q d st1) q fun v d H' st' Qd is rs ht hq=>by
  obtain⟨p,c,fs,e,rfl,hs,hf,hl,ht⟩:=ht;obtain⟨Ca,dx,vs,hH,hn,r⟩:=rs.ins hs;obtain⟨c1,c2⟩:=hC c Ca hn hf
  rcases r.look f with⟨l1,_⟩|⟨d',v',l1,l2,is'⟩
  ·rw[l1]at hl;cases hl
  ·rw[l1]at hl;cases hl;exact⟨p,Ca,dx,vs,v',is.ref_inv,hH,c1,c2,l2,hq.here is' rs ht⟩
theorem bj6{y m:Str}{py apos pos:Pos}{args:List Expr}{env:Env}(hfew:methodCallForm (args.length+0) (backTo pos (starEach args env)) (backToKw pos (keywordEach [] env))=true)(hline:(apos.endLine==pos.line)=true):
  eval (.Call (.Attribute (.Name y py) m apos) args [] pos) env=(do
   let ov ←eval (.Name y py) env
   standAt apos.atName
   let(f,first) ←holding [ov] (getMethod ov m (do return (←importBound (.Name y py) env).getD true))
   callWith pos f first (backTo pos (starEach args env)) (backToKw pos (keywordEach [] env))):=by
 rw[arm_eval_Call,E3 (by intros;exact nofun)]
 congr 1
 funext ov
 congr 1
 funext _
 unfold methodCall;simp only[List.length_nil]at hfew ⊢;rw[hfew];unfold methodCallPos calleeOf;simp only[hline,Bool.not_true,Bool.false_or,if_true];rfl
theorem cf6{m:Str}{y:Str}{py apos:Pos}{es:List Expr}{n:Nat}{t:DA}{F:Str→Bool}{Ph:Str→Spec}
  (hM:∀c Ca,W.nsIn X.K mainGlobals c=some (some (.ref Ca))→F (i5 c m)=true→∃k f fd ps,Cls X.K Ca∧Meth X.K Ca m f∧FnOk X.prog X.w X.K X.mg X.base CX0 k f fd ps (B9 X.K (Ph (i5 c m)))∧Room k X.A∧z7 X.K fd ps [])
  (hfew:methodCallForm ((a::es).length+0) (backTo pos (starEach (a::es) X.env)) (backToKw pos (keywordEach [] X.env))=true) (hline:(apos.endLine==pos.line)=true) (ho:PE X (.Name y py) (up X.K ta)) (ha:PA X (a::es) (upA X.K n t)) (hs:∀e p,a≠.Starred e p) (hpl:(backTo pos (starEach es X.env)).any (·.1)=false) :
  PE X (.Call (.Attribute (.Name y py) m apos) (a::es) [] pos) (up X.K fun env st Q=>ta env st fun x st1=>∃p c fs,x=.ref p∧st1 p=some (.ins c fs)∧fs.lookup m=none∧F (i5 c m)=true∧t env st1 fun ds st2=>Ph (i5 c m) (.ref p::ds) st2 Q):=by
 intro pins s σ H Q I q;obtain⟨env,st,Qd,hE,hS,ht,hq⟩:=q;refine W.methodCall_KW (thn (ho pins s σ H (fun v H1=>∃p c fs st1,v=.ref p∧Ev st H st1 H1∧RelS X.K st1 H1∧st1 p=some (.ins c fs)∧fs.lookup m=none∧F (i5 c m)=true∧t env st1 fun ds st2=>Ph (i5 c m) (.ref p::ds) st2 Qd) I ⟨env,st,_,hE,hS,ht,fun v d H1 st1 ev is rs q1=>?_⟩) fun u s1⟨v,H1,I1,rx,p,c,fs,st1,ev,e1,rs,h1,h2,h3,h4⟩=>?_) (bj6 hfew hline)
 ·obtain⟨p,c,fs,rfl,q1⟩:=q1;exact⟨p,c,fs,st1,is.ref_inv,ev,rs,q1⟩
 subst ev;cases rx;obtain⟨Ca,dx,vs,hH,hn,r⟩:=rs.ins h1;obtain⟨k,f,fd,ps,cl,me,Fo,hr,hb⟩:=hM c Ca hn h3;have hl:vs.lookup m=none:=by
  rcases r.look m with⟨_,l2⟩|⟨d',v',l1,_,_⟩
  ·exact l2
  ·rw[h2]at l1;cases l1
 refine ba9 I1 hH cl me hl ?_;refine W.callWith_K (first:=[.ref p]) (h₀:=X.base) I.ok.mod.kin me.kp (thn (ha pos pins s1 σ H1 (fun vs H2=>∃ds st2,Ev st1 H1 st2 H2∧IsDs X.K H2 ds vs∧RelS X.K st2 H2∧Ph (i5 c m) (.ref p::ds) st2 Qd) I1 ⟨env,st1,_,hE.mono (e1.tk hS),rs,h4,fun vs ds H' st' ev is hl rs q=>⟨ds,st',ev,is,rs,q⟩⟩) fun us s2⟨vs,H2,I2,r2,ds,st2,ev2,is2,rs2,q2⟩=>⟨I2.kIn,?_⟩) (n8 hs) hpl;exact Y6 (us:=.ref p::us) (vs:=.ref p::vs) Fo hr hb .nil P6 I2 (.cons rfl r2) ⟨.ref p::ds,st2,Qd,by rw[List.append_nil];exact .cons (.ref p) is2,rs2,q2,(hq.after e1).after ev2⟩
theorem b44{m:Str}{y:Str}{py apos:Pos}{F:Str→Bool}{Ph:Str→Spec}
  (hM:∀c Ca,W.nsIn X.K mainGlobals c=some (some (.ref Ca))→F (i5 c m)=true→∃k f fd ps,Cls X.K Ca∧Meth X.K Ca m f∧FnOk X.prog X.w X.K X.mg X.base CX0 k f fd ps (B9 X.K (Ph (i5 c m)))∧Room k X.A∧z7 X.K fd ps [])
  (hline:(apos.endLine==pos.line)=true) (ho:PE X (.Name y py) (up X.K ta)) :
  PE X (.Call (.Attribute (.Name y py) m apos) [] [] pos) (up X.K fun env st Q=>ta env st fun x st1=>∃p c fs,x=.ref p∧st1 p=some (.ins c fs)∧fs.lookup m=none∧F (i5 c m)=true∧Ph (i5 c m) [.ref p] st1 Q):=by
 intro pins s σ H Q I q;obtain⟨env,st,Qd,hE,hS,ht,hq⟩:=q;refine W.methodCall_KW (thn (ho pins s σ H (fun v H1=>∃p c fs st1,v=.ref p∧Ev st H st1 H1∧RelS X.K st1 H1∧st1 p=some (.ins c fs)∧fs.lookup m=none∧F (i5 c m)=true∧Ph (i5 c m) [.ref p] st1 Qd) I ⟨env,st,_,hE,hS,ht,fun v d H1 st1 ev is rs q1=>?_⟩) fun u s1⟨v,H1,I1,rx,p,c,fs,st1,ev,e1,rs,h1,h2,h3,h4⟩=>?_) (bj6 rfl hline)
 ·obtain⟨p,c,fs,rfl,q1⟩:=q1;exact⟨p,c,fs,st1,is.ref_inv,ev,rs,q1⟩
 subst ev;cases rx;obtain⟨Ca,dx,vs,hH,hn,r⟩:=rs.ins h1;obtain⟨k,f,fd,ps,cl,me,Fo,hr,hb⟩:=hM c Ca hn h3;have hl:vs.lookup m=none:=by
  rcases r.look m with⟨_,l2⟩|⟨d',v',l1,_,_⟩
  ·exact l2
  ·rw[h2]at l1;cases l1
 refine ba9 I1 hH cl me hl ?_;exact W.callWith_K0 (first:=[.ref p]) I1.kIn me.kp (Y6 (us:=[.ref p]) (vs:=[.ref p]) Fo hr hb .nil P6 I1 (.cons rfl .nil) ⟨[.ref p],st1,Qd,by rw[List.append_nil];exact .cons (.ref p) .nil,rs,h4,hq.after e1⟩)
theorem bk8{c:Str}{Ca:Addr}{sp:Spec}{H1:Hp}{st st1:Sto}{H:Hp}{Qd:DK}{Q:VK}{ds:List D}{vs:List V}(hn:W.nsIn X.K mainGlobals c=some (some (.ref Ca)))(ev:Ev st H st1 H1)(is:IsDs X.K H1 ds vs)(rs:RelS X.K st1 H1)(hq:t5 X.K st H Qd Q)
  (q:∀p,st1 p=none→sp (.ref p::ds) (d7 st1 p (.ins c [])) fun v st2=>v=.non∧Qd (.ref p) st2):∀x dx,H1 x=none→H1 dx=none→dx≠x→B9 X.K sp (.ref x::(vs++[])) (upd (upd H1 dx (.own x)) x (.ins Ca dx [])) (fun v H2=>v=.non∧Q (.ref x) H2) E0:=by
 intro x dx hx hdx hne;have tk1:TK X.K H1 (upd H1 dx (.own x)):=TK.new hdx;have hx':upd H1 dx (.own x) x=none:=by rw[i8 (fun z=>hne z.symm)];exact hx
 have tk2:TK X.K (upd H1 dx (.own x)) (upd (upd H1 dx (.own x)) x (.ins Ca dx [])):=TK.new hx';refine⟨.ref x::ds,d7 st1 x (.ins c []),_,by rw[List.append_nil];exact .cons (.ref x) ((is.mono tk1).mono tk2),(rs.new hdx).putAny (ob:=.ins c []) tk2 ⟨Ca,dx,[],o8,hn,.nil⟩ (by rw[hx'];exact fun _=>nofun),q x (rs.free hx),fun v d H2 st2 ev2 is2 rs2 q2=>?_⟩;obtain⟨rfl,q2⟩:=q2;cases is2;refine⟨rfl,hq _ (.ref x) H2 st2 (fun b o hb hs=>?_) (.ref x) rs2 q2⟩;obtain⟨⟨o1,b1,t1⟩,b2⟩:=ev b o hb hs;have nx:b≠x:=t6 b1 hx;have nd:b≠dx:=t6 b1 hdx;obtain⟨⟨o2,c1,t2⟩,c2⟩:=ev2 b o1 (by rw[i8 nx,i8 nd];exact b1) (by rw[B6 nx];exact b2);exact⟨⟨o2,c1,t1.trans t2⟩,c2⟩
theorem cg1{c:Str}{es:List Expr}{n k:Nat}{t:DA}{sp:Spec}{Ca f:Addr}{fd:FuncData}{ps:List Str}(hn:W.nsIn X.K mainGlobals c=some (some (.ref Ca)))(M:Mk X.K Ca f)(Fo:FnOk X.prog X.w X.K X.mg X.base CX0 k f fd ps (B9 X.K sp))(hr:Room (k+1) X.A)(hg:Gl X c)(hm:X.mg c=some (.ref Ca))(hb:z7 X.K fd ps [])
  (ha:PA X (a::es) (upA X.K n t)) (hdb:(c==("__debug__":Str))=false) (hs:∀e p,a≠.Starred e p) (hpl:(backTo pos (starEach es X.env)).any (·.1)=false) :
  PE X (.Call (.Name c p) (a::es) [] pos) (up X.K fun env st Q=>t env st fun ds st1=>∀p,st1 p=none→sp (.ref p::ds) (d7 st1 p (.ins c [])) fun v st2=>v=.non∧Q (.ref p) st2):=
 PE.imp (cc3 M Fo hr hg hm hb .nil P6 ha hdb (n8 hs) hpl) fun σ H Q q=>by
  obtain⟨env,st,Qd,hE,hS,ht,hq⟩:=q;exact⟨env,st,_,hE,hS,ht,fun vs ds H' st' ev is hl rs q=>bk8 hn ev is rs hq q⟩
theorem b55{c:Str}{k:Nat}{sp:Spec}{Ca f:Addr}{fd:FuncData}{ps:List Str}(hn:W.nsIn X.K mainGlobals c=some (some (.ref Ca)))(M:Mk X.K Ca f)(Fo:FnOk X.prog X.w X.K X.mg X.base CX0 k f fd ps (B9 X.K sp))(hr:Room (k+1) X.A)(hg:Gl X c)(hm:X.mg c=some (.ref Ca))(hb:z7 X.K fd ps [])(hdb:(c==("__debug__":Str))=false):
  PE X (.Call (.Name c p) [] [] pos) (up X.K fun env st Q=>∀p,st p=none→sp [.ref p] (d7 st p (.ins c [])) fun v st2=>v=.non∧Q (.ref p) st2):=
 PE.imp (b90 M Fo hr hg hm hb .nil P6 hdb) fun σ H Q q=>by
  obtain⟨env,st,Qd,hE,hS,ht,hq⟩:=q;exact bk8 (ds:=[]) (vs:=[]) hn Ev.refl .nil hS hq ht
theorem tyL{K:W.Frag}{H:Hp}{st:Sto}{d:D}{v:V}(is:IsD K H d v)(rs:RelS K st H)(h:C2 d st):tyV K "list" v H:=by
 cases d<;>first|exact False.elim h|skip
 obtain⟨ds,hr⟩:=h;obtain⟨vs,hs,_⟩:=rs.rd hr;rw[is.ref_inv];exact .inl ⟨rfl,vs,hs⟩
theorem a61{nm:Str}{id:String}{r:V→List V→Hp→VK→Prop}{g:D→D→Sto→DK→Prop}{apos:Pos}(slot:Slot "list" nm id)(hty:typeOf (.builtin id)=pure (.type "method_descriptor"))(hm:MtR X id r)
  (ha:PE X a (up X.K ta)) (hb:PE X b (up X.K tb)) (hbase:∀i p p',a≠.Call (.Name i p) [] [] p') (hs:∀e p,b≠.Starred e p) (hline:(apos.endLine==pos.line)=true)
  (imp:∀v w d e H' st' Qd Q,IsD X.K H' d v→IsD X.K H' e w→RelS X.K st' H'→g d e st' Qd→t5 X.K st' H' Qd Q→r v [w] H' Q) :
  PE X (.Call (.Attribute a nm apos) [b] [] pos) (up X.K fun env st Q=>ta env st fun x st1=>C2 x st1∧tb env st1 fun y st2=>g x y st2 Q):=
 PE.imp (cw4 PySem.F.plainAttrs_list slot hty hm ha (O5 hb hs) (E3 hbase) (by rw[n8 hs];rfl) hline (n8 hs) rfl) fun σ H Q q=>by
  obtain⟨env,st,Qd,hE,hS,ht,hq⟩:=q;refine⟨env,st,_,hE,hS,ht,fun v d H1 st1 ev is rs q1=>⟨tyL is rs q1.1,?_⟩⟩;refine⟨env,st1,(fun ds st2=>match ds with|[e]=>g d e st2 Qd|_=>False),hE.mono (ev.tk hS),rs,q1.2,fun vs ds H' st' ev2 is2 hl rs2 q2=>?_⟩
  match ds,hl with
  |[e],_=>
   obtain⟨w,ws,rfl,i1,i2⟩:=is2.inv_cons;rw[i2.inv_nil];exact imp v w d e H' st' Qd Q (is.mono (ev2.tk rs)) i1 rs2 q2 ((hq.after ev).after ev2)
theorem cr0{apos:Pos}(ha:PE X a (up X.K ta))(hb:PE X b (up X.K tb))(hbase:∀i p p',a≠.Call (.Name i p) [] [] p')(hs:∀e p,b≠.Starred e p)(hline:(apos.endLine==pos.line)=true):
  PE X (.Call (.Attribute a "append" apos) [b] [] pos) (up X.K fun env st Q=>ta env st fun x st1=>C2 x st1∧tb env st1 fun y st2=>aa2 x y st2 Q):=
 a61 PySem.F.slot_list_append PySem.F.type_list_append bc4 ha hb hbase hs hline fun v w d e H' st' Qd Q i1 i2 rs ht hq=>by
  cases d<;>first|exact False.elim ht|skip
  obtain⟨ds,hr,hz,ht⟩:=ht;obtain⟨vs,hH,r⟩:=rs.lst hr;rw[i1.ref_inv];exact⟨_,vs,w,rfl,rfl,hH,by rw[←r.len];exact hz,hq _ _ _ _ (Ev.put hr) .non (rs.putOld hH (r.append (.cons i2 .nil))) ht⟩
theorem by1(l:Addr)(items:Array Value)(n:Nat)(b:Addr)(items2:Array Value)(n2:Nat)(sl:Array (Option Value))(hs0:¬(!items.isEmpty&&Builtin.List.listTooLong (items.size+items2.size))=true)(hs1:items.size≤sizeLine)(hs2:items.size+items2.size≤sizeLine+1):
  Meets (Builtin.«list.extend» ⟨[.ref l,.ref b],[]⟩) (fun _ R s=>s.heap.get? l=some {cls:=.type "list",dict:=none,data:=.seq items n,slots:=#[]}∧s.heap.get? b=some {cls:=.type "tuple",dict:=none,data:=.seq items2 n2,slots:=sl}∧R (.ok (.ret Value.none)) {s with heap:=s.heap.update l (Obj.mapSeq fun x=>x++items2),toks:=s.toks}):=
 .of_wp fun prog w A R s h=>by
  obtain⟨hp,g,d,tk,os⟩:=s;obtain⟨hl,hb,h⟩:=h;have f1:=AutoSeq1.idx_int;have f2:=AutoSeq1.sub_tuple_tuple;have f3:=AutoSeq1.sub_list_list;have f4:=AutoSeq1.sub_tuple_list;have f5:=AutoSeq1.sub_list_tuple;have hz':(items++items2).size≤sizeLine+1:=by rw[Array.size_append];exact hs2
  wp_walk using(wpAny_updateSeq hl rfl (hz:=hs1) (_hz':=hz')),AutoSeq1.wpAny_loadPart' hl,AutoSeq1.wpAny_loadPart' hb;exact⟨_,rfl,h⟩
noncomputable def bf2(K:W.Frag):V→List V→Hp→VK→Prop:=fun x vs H Q=>∃l b xs zs,x=.ref l∧vs=[.ref b]∧H l=some (.lst xs)∧SqT K H b zs∧xs.length+zs.length≤sizeLine∧Q .non (upd H l (.lst (xs++zs)))
theorem bz7:MtM X "list.extend" (bf2 X.K):=by
 intro pins s σ H x vs v us Q I rx rv h;obtain⟨l,b,xs,zs,rfl,rfl,hH,hB,hz,q⟩:=h;cases rx;obtain⟨u,rfl,ru⟩:=rv.one;cases ru;obtain⟨z,its,n,r,hl,e⟩:=I.lstM hH;obtain⟨its2,r2,⟨o,e2,ec,ed,n2,es⟩,z2⟩:=I.tupleD hB;obtain⟨cls,dd,data,sl⟩:=o;simp only at ec ed es;subst ec ed es;have hl2:=r2.length;have hsz:its.toArray.size+its2.toArray.size≤sizeLine:=by rw[List.size_toArray,List.size_toArray];omega
 have hlong:¬(!its.toArray.isEmpty&&Builtin.List.listTooLong (its.toArray.size+its2.toArray.size))=true:=by
  rw[bf8 hsz,Bool.and_false];exact Bool.false_ne_true
 refine call_meets F.slot_list_extend ⟨_,e,rfl⟩ F.entry_list_extend (F.args_list_extend_2 _ _)
  (by1 l its.toArray n b its2.toArray n2 sl hlong (by rw[List.size_toArray];omega) (by omega)) ⟨e,e2,?_⟩
 refine⟨.non,_,I.lset (its':=its++its2) hH e (by simp) (r.append r2) ?_,rfl,q⟩;rw[List.length_append];omega
theorem ch1:MtM X "list.extend" (fun x vs H Q=>bi0 x vs H Q∨bf2 X.K x vs H Q):=fun pins s σ H x vs v us Q I rx rv h=>h.elim (b27 pins s σ H x vs v us Q I rx rv) (bz7 pins s σ H x vs v us Q I rx rv)
theorem cq4{apos:Pos}(ha:PE X a (up X.K ta))(hb:PE X b (up X.K tb))(hbase:∀i p p',a≠.Call (.Name i p) [] [] p')(hs:∀e p,b≠.Starred e p)(hline:(apos.endLine==pos.line)=true):
  PE X (.Call (.Attribute a "extend" apos) [b] [] pos) (up X.K fun env st Q=>ta env st fun x st1=>C2 x st1∧tb env st1 fun y st2=>V3 x y st2 Q):=
 a61 PySem.F.slot_list_extend PySem.F.type_list_extend ch1 ha hb hbase hs hline fun v w d e H' st' Qd Q i1 i2 rs ht hq=>by
  cases d<;>cases e<;>first|exact False.elim ht|skip
  ·obtain⟨ds,hr,hz,ht⟩:=ht;obtain⟨vs,hH,r⟩:=rs.lst hr;obtain⟨b,ws,rfl,hq2,r2⟩:=i2.tup_inv;rw[i1.ref_inv];exact .inr ⟨_,_,vs,ws,rfl,rfl,hH,hq2,by rw[←r.len,←r2.len];exact hz,hq _ _ _ _ (Ev.put hr) .non (rs.putOld hH (r.append r2)) ht⟩
  ·obtain⟨ds,es,hr,hr2,hz,ht⟩:=ht;obtain⟨vs,hH,r⟩:=rs.lst hr;obtain⟨ws,hH2,r2⟩:=rs.lst hr2;rw[i1.ref_inv,i2.ref_inv];exact .inl ⟨_,_,vs,ws,rfl,rfl,hH,hH2,by rw[←r.len,←r2.len];exact hz,hq _ _ _ _ (Ev.put hr) .non (rs.putOld hH (r.append r2)) ht⟩
theorem b95{apos:Pos}(ha:PE X a (up X.K ta))(hb:PE X b (up X.K tb))(hbase:∀i p p',a≠.Call (.Name i p) [] [] p')(hs:∀e p,b≠.Starred e p)(hline:(apos.endLine==pos.line)=true):
  PE X (.Call (.Attribute a "pop" apos) [b] [] pos) (up X.K fun env st Q=>ta env st fun x st1=>C2 x st1∧tb env st1 fun y st2=>a45 x y st2 Q):=
 a61 PySem.F.slot_list_pop PySem.F.type_list_pop b93 ha hb hbase hs hline fun v w d e H' st' Qd Q i1 i2 rs ht hq=>by
  cases d<;>cases e<;>first|exact False.elim ht|skip
  rename_i i;obtain⟨⟨b1,b2⟩,ds,k,d,hr,hk,hd,ht⟩:=ht;obtain⟨vs,hH,r⟩:=rs.lst hr;obtain⟨v',hv',is'⟩:=r.get hd;rw[i1.ref_inv,i2.int_inv];obtain⟨q1,q2,q3,q4⟩:=bh8 hk;exact⟨_,vs,_,k,v',rfl,rfl,hH,by omega,by omega,by rw[←r.len];exact q1,hv',hq _ _ _ _ (Ev.put hr) (is'.mono (TK.put hH)) (rs.putOld hH (r.erase k)) ht⟩
theorem cn4{apos:Pos}(ha:PE X a (up X.K ta))(hbase:∀i p p',a≠.Call (.Name i p) [] [] p')(hline:(apos.endLine==pos.line)=true):
  PE X (.Call (.Attribute a "pop" apos) [] [] pos) (up X.K fun env st Q=>ta env st fun x st1=>aa4 x st1 Q):=
 PE.imp (bo0 PySem.F.plainAttrs_list PySem.F.slot_list_pop PySem.F.type_list_pop cq5 ha (E3 hbase) hline) fun σ H Q q=>up1 (f:=aa4) q fun v d H' st' Qd is rs ht hq=>by
  cases d<;>first|exact False.elim ht|skip
  obtain⟨ds,d,hr,ht⟩:=ht;obtain⟨vs,hH,r⟩:=rs.lst hr;have hl:=r.len;rw[List.length_append,List.length_singleton]at hl;obtain⟨v',hv',is'⟩:=r.get (i:=ds.length) (d:=d) (by simp);rw[is.ref_inv];refine⟨.inl ⟨rfl,vs,.inl (.inl hH)⟩,_,vs,v',rfl,rfl,hH,by rw[←hl,Nat.add_sub_cancel];exact hv',hq _ _ _ (d7 st' _ (.lst ds)) (Ev.put hr) (is'.mono (TK.put hH)) (rs.putOld hH ?_) ht⟩;have e:vs.dropLast=vs.take ds.length:=by rw[List.dropLast_eq_take,←hl,Nat.add_sub_cancel]
  rw[e];have q:=r.take ds.length
  rwa [List.take_left']at q
  rfl
end
end Ek
namespace Ek
open PySem PySem.Spec PyProof.Rows L2
variable [Tbs]
theorem bx8{prog:Program}{w:World}{A:Around}{E:Value→Shared→Prop}{s:Shared}{a:Addr}{items:Array Value}{x:Value}{e:Value→Bool}{j:Nat}{Q:Value→Shared→Prop}(ht:s.heap.IsList a items)(hj:j<items.size)(hz:items.size≤sizeLine)(he:∀y,y∈items→SeqAt.EqAt A.in1 s y x (e y))
  (hit:e items[j]=true) (hno:∀m(hm:m<items.size),m<j→e items[m]=false) (hQ:Q (.int j s.toks) {s with toks:=s.toks+1}) :
  wpAny (model prog w) A (call (.builtin "list.index") [.ref a,x]) Q E s:=by
 obtain⟨⟨cls,dd,data,sl⟩,ho,hc,n,hd⟩:=id ht;simp only at hc hd;subst hc hd;have hb:sizeLine=16777216:=rfl;exact call_meets PySem.F.slot_list_index ⟨_,ho,rfl⟩ PySem.F.entry_list_index (PySem.F.args_list_index_2 _ _) (SeqAt.list_indexAt a items n dd sl x e j hj (by omega) hit hno) ⟨ho,he,hQ⟩
section
variable {X:Cx} {a b c:Expr} {ta tb tc:DT} {pos p:Pos}
open Classical in
noncomputable def a69(h:Heap)(x:PyData)(u:Value):Bool:=decide (∃dt as,Reads h u dt as∧PyData.eqv dt x=true)
open Classical in
theorem a38{h:Heap}{x dt:PyData}{u:Value}{as:List Addr}(r:Reads h u dt as)(hc:dt.canLay0=true):a69 h x u=PyData.eqv dt x:=by
 unfold a69;cases hb:PyData.eqv dt x with
 |true=>exact decide_eq_true ⟨dt,as,r,hb⟩
 |false=>
  refine decide_eq_false fun⟨d',as',r',hb'⟩=>?_;rw[←SeqAt.Reads.unique dt d' u as as' hc r r',hb]at hb';cases hb'
theorem b91{apos:Pos}(hu:X.A.units+200<cLine)(ha:PE X a (up X.K ta))(hb:PE X b (up X.K tb))(hbase:∀i p p',a≠.Call (.Name i p) [] [] p')(hs:∀e p,b≠.Starred e p)(hline:(apos.endLine==pos.line)=true):
  PE X (.Call (.Attribute a "index" apos) [b] [] pos) (up X.K fun env st Q=>ta env st fun x st1=>aa1 x st1∧tb env st1 fun y st2=>O1 x y st2 Q):=by
 intro pins s σ H Q I q;obtain⟨env,st,Qd,hE,hS,ht,hq⟩:=q;refine wpAny_Call_method_late (E3 hbase) (by rw[n8 hs];rfl) hline rfl (thn (ha pins s σ H (fun v H1=>∃d st1,Ev st H st1 H1∧IsD X.K H1 d v∧RelS X.K st1 H1∧aa1 d st1∧tb env st1 fun y st2=>O1 d y st2 Qd) I ⟨env,st,_,hE,hS,ht,fun v d H1 st1 ev is rs q1=>⟨d,st1,ev,is,rs,q1⟩⟩) fun u s1⟨v,H1,I1,r1,d,st1,ev,is,rs,q1,q2⟩=>?_);have hA0:=O5 hb hs pos pins s1 σ H1 (fun vs H2=>∃w e st2,vs=[w]∧Ev st1 H1 st2 H2∧IsD X.K H2 e w∧RelS X.K st2 H2∧O1 d e st2 Qd) I1 ⟨env,st1,(fun ds st2=>match ds with|[e]=>O1 d e st2 Qd|_=>False),hE.mono (ev.tk hS),rs,q2,fun vs ds H2 st2 ev2 is2 hl rs2 q3=>by
  match ds,hl with
  |[e],_=>
   obtain⟨w,ws,rfl,i1,i2⟩:=is2.inv_cons;rw[i2.inv_nil];exact⟨w,e,st2,rfl,ev2,i1,rs2,q3⟩⟩
 rw[n8 hs]at hA0;cases d with
 |tup ds=>exact q1.elim
 |ref a0=>
  obtain⟨ds0,hr0⟩:=q1;have ev1:=is.ref_inv;subst ev1;cases r1;obtain⟨vs0,hq0,_⟩:=rs.rd hr0;obtain⟨its0,_,pl0,_⟩:=I1.list hq0;refine⟨"list","list.index",PySem.F.plainAttrs_list,PySem.F.slot_list_index,PySem.F.type_list_index,pl0.isList.typeIs,fun a e=>?_,?_⟩
  ·cases e;obtain⟨o,n,g1,g2,g3,g4⟩:=pl0;exact⟨o,g1,g3⟩
  rw[n8 hs];refine Calls.callWith_builtin (by rfl) (Calls.evalArgs_plain ?_);refine thn hA0 fun us s2⟨vs,H2,I2,r2,w,e,st2,ev',ev2,is2,rs2,q3⟩=>?_;subst ev';obtain⟨uw,rfl,rw'⟩:=r2.one;obtain⟨ds,hr,p1,p2,hd,j,dj,hjd,hit,hno,hQ⟩:=q3;obtain⟨vs,hsq,r⟩:=rs2.rd hr;obtain⟨its,rv,pl,hz⟩:=I2.list hsq;have hlen:its.length=ds.length:=by rw[←rv.length,←r.len]
  have hj:j<ds.length:=(List.getElem?_eq_some_iff.mp hjd).1;obtain⟨as,ra⟩:=E1 I2 is2 p1 rw';have at':∀(i:Nat)(hi:i<ds.length),∃bs,Reads s2.heap (its[i]'(by omega)) (ds[i]).py bs∧(ds[i]).py.canLay0=true:=fun i hi=>by
   have e1:ds[i]?=some ds[i]:=List.getElem?_eq_getElem hi;obtain⟨v,hv,isv⟩:=r.get e1;obtain⟨u,hu',ruv⟩:=rv.get hv;have pp:=ax2 p2 ds[i] (List.getElem_mem hi);obtain⟨bs,rb⟩:=E1 I2 isv pp ruv;have e2:its[i]'(by omega)=u:=by
    have:its[i]?=some (its[i]'(by omega)):=List.getElem?_eq_getElem (by omega);rw[this]at hu';exact Option.some.inj hu'
   rw[e2];exact⟨bs,rb,G6 _ pp⟩
  refine bx8 (items:=its.toArray) (j:=j) (e:=a69 s2.heap e.py) pl.isList (by simpa[hlen]using hj) (by rw[List.size_toArray,←rv.length];exact hz) (fun y hy=>?_) ?_ (fun m hm hlt=>?_) ?_
  ·obtain⟨i,hi,rfl⟩:=List.mem_iff_getElem.mp (show y∈its by simpa using hy);obtain⟨bs,rb,cb⟩:=at' i (by omega);rw[a38 rb cb];exact SeqAt.eqAt_reads _ _ X.A.in1 s2 _ uw bs as rb ra cb (G6 _ p1) (a34 hu hd)
  ·obtain⟨bs,rb,cb⟩:=at' j hj;have e1:its.toArray[j]'(by simpa[hlen]using hj)=its[j]'(by omega):=by simp
   rw[e1,a38 rb cb];have e2:dj=ds[j]:=by rw[List.getElem?_eq_getElem hj]at hjd;exact(Option.some.inj hjd).symm
   rw[e2]at hit;exact hit
  ·have hm':m<ds.length:=by omega
   obtain⟨bs,rb,cb⟩:=at' m hm';have e1:its.toArray[m]'hm=its[m]'(by omega):=by simp
   rw[e1,a38 rb cb];exact hno m ds[m] hlt (List.getElem?_eq_getElem hm')
  ·exact⟨.int j,H2,I2.tok _,⟨_,rfl⟩,((hq.after ev).after ev2).here (.int _) rs2 hQ⟩
 |_=>exact q1.elim
end
end Ek
namespace Ek
open PySem PySem.Spec PyProof.Rows L2
variable [Tbs]
section
variable {X:Cx} {a b c:Expr} {ta tb tc:DT} {pos p:Pos}
noncomputable def DPs(X:Cx)(pos:Pos)(keys:List (Option Expr))(values:List Expr)(ks:List Str)(t:DA):Prop:=
 ∃trs,PPs X pos keys values trs∧∀(σ:L2.St)(H:Hp)(Q:List (V×V)→Hp→Prop),(∃env st Qd,RelE X.K H env σ∧RelS X.K st H∧t env st Qd ∧
  ∀vs ds H' st',Ev st H st' H'→IsDs X.K H' ds vs→ds.length=ks.length→RelS X.K st' H'→Qd ds st'→Q ((ks.zip vs).map fun kv=>(V.str kv.1,kv.2)) H')→Y1 trs σ H Q
theorem co8:DPs X pos [] [] [] (fun _ st Q=>Q [] st):=⟨[],ci5,fun σ H Q⟨env,st,Qd,hE,hS,ht,hq⟩=>hq [] [] H st Ev.refl .nil rfl hS ht⟩
theorem ch8{k:Str}{j:Nat}{kp:Pos}{ks:List Str}{keys:List (Option Expr)}{values:List Expr}{t:DA}(ha:PE X a (up X.K ta))(hr:DPs X pos keys values ks t):
  DPs X pos (some (.Constant (.str k) j kp)::keys) (a::values) (k::ks) (fun env st Q=>ta env st fun d st1=>t env st1 fun ds st2=>Q (d::ds) st2):=by
 obtain⟨trs,h1,h2⟩:=hr;refine⟨_,b83 bm8 ha h1,fun σ H Q⟨env,st,Qd,hE,hS,ht,hq⟩=>?_⟩;show up X.K ta σ H fun y H2=>Y1 trs σ H2 fun ps H3=>Q ((V.str k,y)::ps) H3;exact⟨env,st,_,hE,hS,ht,fun v d H1 st1 ev is rs q1=>h2 σ H1 _ ⟨env,st1,_,hE.mono (ev.tk hS),rs,q1,fun vs ds H2 st2 ev2 is2 hl rs2 q2=>
  hq (v::vs) (d::ds) H2 st2 (ev.trans ev2) (.cons (is.mono (ev2.tk rs)) is2) (by simp[hl]) rs2 q2⟩⟩
theorem ax8:∀(more kvs:List (Key×V)),(∀k∈more.map (·.1),o9 kvs k=none)→(more.map (·.1)).Nodup→F3 kvs more=kvs++more
 |[],kvs,_,_=>by simp[F3]
 |(k,v)::r,kvs,h,nd=>by
  have nd':=List.nodup_cons.mp (show(k::r.map (·.1)).Nodup from nd);show F3 (u4 kvs k v) r=_;rw[b63 v (h k (by simp)),ax8 r _ (fun k' hk'=>?_) nd'.2,List.append_assoc]
  ·rfl
  ·have hne:k'≠k:=fun z=>nd'.1 (by rw[←z];exact hk');have h1:=h k' (by simp only[List.map_cons,List.mem_cons];exact .inr hk');unfold o9 at h1 ⊢;rw[Option.map_eq_none_iff]at h1 ⊢;rw[List.find?_append,h1];simp[Ne.symm hne]
theorem bc1:∀(ks:List Str)(ds:List D)(vs:List V)(w:Str)(d:D){K:W.Frag}{H:Hp},IsDs K H ds vs→B8 (ks.zip ds) w=some d→∃v,o9 ((ks.zip vs).map fun kv=>((Sum.inr kv.1:Key),kv.2)) (Sum.inr w)=some v∧IsD K H d v
 |[],ds,vs,w,d,K,H,r,h=>by simp[B8]at h
 |k::ks,[],vs,w,d,K,H,r,h=>by simp[B8]at h
 |k::ks,e::ds,vs,w,d,K,H,r,h=>by
  obtain⟨v,ws,rfl,h1,h2⟩:=r.inv_cons;simp only[List.zip_cons_cons,B8]at h
  by_cases hk:k=w
  ·rw[if_pos hk]at h;cases h;refine⟨v,?_,h1⟩;unfold o9;simp[hk]
  ·rw[if_neg hk]at h;obtain⟨v',h3,h4⟩:=bc1 ks ds ws w d h2 h;refine⟨v',?_,h4⟩;unfold o9 at h3 ⊢;simp only[List.zip_cons_cons,List.map_cons,List.find?_cons];have:decide ((Sum.inr k:Key)=Sum.inr w)=false:=decide_eq_false fun z=>hk (Sum.inr.inj z);rw[this];exact h3
theorem ch9{ks:List Str}{keys:List (Option Expr)}{values:List Expr}{t:DA}{dp:Pos}(hu:X.A.units+200<cLine)(hd:DPs X dp keys values ks t)(hall:keys.all (·.isSome)=true)(hl:keys.length=values.length)(h0:keys≠[])(hkl:keys.length=ks.length)(h15:keys.length≤15)(nd:ks.Nodup)
  (hb:PE X b (up X.K tb)) (hs:∀l u s p,b≠.Slice l u s p) :
  PE X (.Subscript (.Dict keys values dp) b pos) (up X.K fun env st Q=>t env st fun ds st1=>tb env st1 fun x st2=>∃w d,x=.str w∧B8 (ks.zip ds) w=some d∧Q d st2):=by
 obtain⟨trs,h1,h2⟩:=hd;refine PE.imp (cg7 (by omega) (bj9 h1 hall hl h0 h15) hb (ba5 hs)) fun σ H Q q=>?_;obtain⟨env,st,Qd,hE,hS,ht,hq⟩:=q;intro p hp;have sp:st p=none:=hS.free hp;refine h2 σ _ _ ⟨env,st,_,hE.mono (TK.new hp),hS.new hp,ht,fun vs ds H2 st2 ev2 is2 hl2 rs2 q2=>?_⟩;obtain⟨e2,sp2⟩:=ev2.get o8 sp (fun _=>nofun);refine⟨e2,(ks.zip vs).map fun kv=>((Sum.inr kv.1:Key),kv.2),by rw[List.map_map];rfl,?_,?_⟩
 ·rw[List.length_map,List.length_zip,←is2.len,hl2];omega
 have hm:F3 [] ((ks.zip vs).map fun kv=>((Sum.inr kv.1:Key),kv.2))=(ks.zip vs).map fun kv=>((Sum.inr kv.1:Key),kv.2):=by
  rw[ax8 _ [] (fun _ _=>rfl)]
  ·rfl
  ·rw[List.map_map];have:((fun x:Key×V=>x.1)∘fun kv:Str×V=>((Sum.inr kv.1:Key),kv.2))=(fun x:Str=>(Sum.inr x:Key))∘(fun kv:Str×V=>kv.1):=rfl;rw[this,←List.map_map];have e:(ks.zip vs).map (fun kv:Str×V=>kv.1)=ks:=by
    have:=List.map_fst_zip (l₁:=ks) (l₂:=vs) (by rw[←is2.len,hl2];exact Nat.le_refl _);exact this
   rw[e];exact List.Pairwise.map _ (fun a b hab z=>hab (Sum.inr.inj z)) nd
 rw[hm];have tk3:TK X.K H2 (upd H2 p (.dK ((ks.zip vs).map fun kv=>((Sum.inr kv.1:Key),kv.2)))):=TK.putD e2;have rs3:RelS X.K st2 (upd H2 p (.dK ((ks.zip vs).map fun kv=>((Sum.inr kv.1:Key),kv.2)))):=rs2.stay tk3 (fun c u z=>i8 fun w=>by rw[w,sp2]at z;cases z) (ah5 (by rw[e2];exact fun _ z=>by cases z));refine⟨env,st2,_,((hE.mono (TK.new hp)).mono (ev2.tk (hS.new hp))).mono tk3,rs3,q2,fun y x H4 st4 ev4 is4 rs4 q4=>?_⟩;obtain⟨w,d,rfl,lk,q4⟩:=q4;obtain⟨e4,sp4⟩:=ev4.get o8 sp2 (fun _=>nofun);have is2':=(is2.mono tk3).mono (ev4.tk rs3);obtain⟨v,hv,isv⟩:=bc1 ks ds vs w d is2' lk;refine⟨p,v,rfl,?_,hq v d H4 st4 (fun c o hc hs=>?_) isv rs4 q4⟩
 ·rw[is4.str_inv,←hv];exact u9.k (k:=Sum.inr w) e4
 ·have ne:c≠p:=t6 hc hp;obtain⟨⟨o1,x1,t1⟩,y1⟩:=ev2 c o (by rw[i8 ne];exact hc) hs;obtain⟨⟨o2,x2,t2⟩,y2⟩:=ev4 c o1 (by rw[i8 ne];exact x1) y1;exact⟨⟨o2,x2,t1.trans t2⟩,y2⟩
theorem Y2{α:Type}(ks:List Str)(vs:List α)(h:ks.length=vs.length):((ks.zip vs).map fun kv=>((Sum.inr kv.1:Key),kv.2)).map (·.1)=ks.map Sum.inr∧((ks.zip vs).map fun kv=>((Sum.inr kv.1:Key),kv.2)).map (·.2)=vs:=by
 induction ks generalizing vs with
 |nil=>
  cases vs with
  |nil=>exact⟨rfl,rfl⟩
  |cons _ _=>simp at h
 |cons k ks ih=>
  cases vs with
  |nil=>simp at h
  |cons v vs=>
   obtain⟨h1,h2⟩:=ih vs (by simpa using h);simp only[List.zip_cons_cons,List.map_cons];exact⟨by rw[h1],by rw[h2]⟩
theorem cf5{ks:List Str}{keys:List (Option Expr)}{values:List Expr}{t:DA}{dp:Pos}(hd:DPs X dp keys values ks t)(hall:keys.all (·.isSome)=true)(hl:keys.length=values.length)(h0:keys≠[])(hkl:keys.length=ks.length)(h15:keys.length≤15)(nd:ks.Nodup):
  PE X (.Dict keys values dp) (up X.K fun env st Q=>t env st fun ds st1=>∀p,st1 p=none→Q (.ref p) (d7 st1 p (.dct ((ks.zip ds).map fun kv=>(.inr kv.1,kv.2))))):=by
 obtain⟨trs,h1,h2⟩:=hd;refine PE.imp (bj9 h1 hall hl h0 h15) fun σ H Q q=>?_;obtain⟨env,st,Qd,hE,hS,ht,hq⟩:=q;intro p hp;have sp:st p=none:=hS.free hp;refine h2 σ _ _ ⟨env,st,_,hE.mono (TK.new hp),hS.new hp,ht,fun vs ds H2 st2 ev2 is2 hl2 rs2 q2=>?_⟩;obtain⟨e2,sp2⟩:=ev2.get o8 sp (fun _=>nofun);have hlv:ks.length=vs.length:=by rw[←is2.len,hl2]
 have hld:ks.length=ds.length:=by rw[hl2]
 refine⟨e2,(ks.zip vs).map fun kv=>((Sum.inr kv.1:Key),kv.2),by rw[List.map_map];rfl,?_,?_⟩
 ·rw[List.length_map,List.length_zip,←is2.len,hl2];omega
 have hm:F3 [] ((ks.zip vs).map fun kv=>((Sum.inr kv.1:Key),kv.2))=(ks.zip vs).map fun kv=>((Sum.inr kv.1:Key),kv.2):=by
  rw[ax8 _ [] (fun _ _=>rfl)]
  ·rfl
  ·rw[(Y2 ks vs hlv).1];exact List.Pairwise.map _ (fun a b hab z=>hab (Sum.inr.inj z)) nd
 rw[hm];have tk3:TK X.K H2 (upd H2 p (.dK ((ks.zip vs).map fun kv=>((Sum.inr kv.1:Key),kv.2)))):=TK.putD e2;refine hq _ (.ref p) _ (d7 st2 p (.dct ((ks.zip ds).map fun kv=>(.inr kv.1,kv.2)))) (fun c o hc hs=>?_) (.ref p) (rs2.putAny (ob:=.dct ((ks.zip ds).map fun kv=>(.inr kv.1,kv.2))) tk3 ⟨_,o8,⟨?_,?_⟩⟩ (by rw[e2];exact fun _ z=>by cases z)) (q2 p sp2)
 ·have ne:c≠p:=t6 hc hp;obtain⟨⟨o1,x1,t1⟩,y1⟩:=ev2 c o (by rw[i8 ne];exact hc) hs;exact⟨⟨o1,by rw[i8 ne];exact x1,t1⟩,by rw[B6 ne];exact y1⟩
 ·rw[(Y2 ks ds hld).1,(Y2 ks vs hlv).1]
 ·rw[(Y2 ks ds hld).2,(Y2 ks vs hlv).2];exact is2.mono tk3
noncomputable abbrev c09(h:Heap)(a:Addr)(T:List (Str×Value)):Prop:=KTD.TabOf (fun(d v:Value)=>v=d) h a T
structure GTab(P:Program)(w:World)(K:W.Frag)(mg:Str→Option Value)(g:Str)(kvs:List (Str×D)):Prop where
 ex:∃(a:Addr)(T:List (Str×Value)),mg g=some (.ref a)∧(∀h:Heap,K.In h→c09 h a T)∧(∀x d,B8 kvs x=some d→∃u v,KTD.datumAt x T=some u∧i6 v u∧∀H,IsD K H d v)∧∀x,B8 kvs x=none→KTD.datumAt x T=none
end
end Ek
namespace Ek
open PySem PySem.Spec PyProof.Rows L2
variable [Tbs]
section
variable {X:Cx} {a b c:Expr} {ta tb tc:DT} {pos p:Pos}
structure ItOk(K:W.Frag)(H1:Hp)(J:L2.It)(items:List D)(chk:Sto→Prop):Prop where
 go:∀(i:Nat)st H,TK K H1 H→RelS K st H→chk st→i<items.length→J.go i H
 yld:∀(i:Nat)st H x H',TK K H1 H→RelS K st H→chk st→i<items.length→J.yld i H x H'→∃d,items[i]?=some d∧IsD K H' d x∧Ev st H st H'∧RelS K st H'
 stop:∀st H,TK K H1 H→RelS K st H→chk st→J.stop items.length H
noncomputable def upI(K:W.Frag)(t:i9→Sto→ItK→Prop):TI:=fun σ H R=>∃env st k,RelE K H env σ∧RelS K st H∧t env st k∧∀items chk st' H' J,Ev st H st' H'→RelS K st' H'→ItOk K H' J items chk→k items chk st'→R J H'
theorem _root_.L2.PI.imp{X:Cx}{tg x:Expr}{t t':TI}(h:PI X tg x t)(i:∀σ H Q,t' σ H Q→t σ H Q):PI X tg x t':=fun pins s σ H Q I q=>h pins s σ H Q I (i σ H Q q)
variable {K:W.Frag}
theorem cp9{q:Addr}{ds:List D}{vs:List V}{H1:Hp}(hq:SqT K H1 q vs)(r:IsDs K H1 ds vs):ItOk K H1 (Itt K q) ds (fun _=>True) where
 go:=fun i st H tk rs _ hi=>by
  obtain⟨v,hv,_⟩:=r.get (List.getElem?_eq_getElem hi);exact⟨vs,v,tk.1.1 _ _ hq,hv⟩
 yld:=fun i st H x H' tk rs _ hi y=>by
  obtain⟨rfl,y⟩:=y;obtain⟨d,hd,is⟩:=r.get' (y vs (tk.1.1 _ _ hq));exact⟨d,hd,is.mono tk,Ev.refl,rs⟩
 stop:=fun st H tk rs _=>⟨vs,tk.1.1 _ _ hq,by rw[r.len];exact Nat.le_refl _⟩
theorem cq9{q:Addr}{ds:List D}{H1:Hp}:ItOk K H1 (Itl K q) ds (fun st=>rdS st q ds) where
 go:=fun i st H tk rs hc hi=>by
  obtain⟨vs,hs,r⟩:=rs.rd hc;obtain⟨v,hv,_⟩:=r.get (List.getElem?_eq_getElem hi);exact⟨vs,v,hs,hv⟩
 yld:=fun i st H x H' tk rs hc hi y=>by
  obtain⟨rfl,y⟩:=y;obtain⟨vs,hs,r⟩:=rs.rd hc;obtain⟨d,hd,is⟩:=r.get' (y vs hs);exact⟨d,hd,is,Ev.refl,rs⟩
 stop:=fun st H tk rs hc=>by
  obtain⟨vs,hs,r⟩:=rs.rd hc;exact⟨vs,hs,by rw[r.len];exact Nat.le_refl _⟩
theorem bq4{lo:Int}{n:Nat}{H1:Hp}:ItOk K H1 (Itr lo n) (p8 lo n) (fun _=>True) where
 go:=fun i st H tk rs _ hi=>by show i<n;simpa[p8]using hi
 yld:=fun i st H x H' tk rs _ hi y=>by
  obtain⟨rfl,rfl⟩:=y;have hi':i<n:=by simpa[p8]using hi
  exact⟨.int (lo+i),by simp[p8,hi'],.int _,Ev.refl,rs⟩
 stop:=fun st H tk rs _=>by show n≤(p8 lo n).length;simp[p8]
theorem cm4{q:Addr}{ds:List D}{H1:Hp}:ItOk K H1 (Itv K q ds.length) ds.reverse (fun st=>rdS st q ds) where
 go:=fun i st H tk rs hc hi=>by
  obtain⟨vs,hs,r⟩:=rs.rd hc;exact⟨⟨vs,hs,r.len.symm⟩,by simpa using hi⟩
 yld:=fun i st H x H' tk rs hc hi y=>by
  obtain⟨rfl,y⟩:=y;obtain⟨vs,hs,r⟩:=rs.rd hc;have hi':i<ds.length:=by simpa using hi
  obtain⟨d,hd,is⟩:=r.get' (y vs hs);exact⟨d,by rw[List.getElem?_reverse hi'];exact hd,is,Ev.refl,rs⟩
 stop:=fun st H tk rs hc=>by
  obtain⟨vs,hs,r⟩:=rs.rd hc;exact⟨⟨vs,hs,r.len.symm⟩,by simp⟩
variable {tg:Expr}
theorem cn5(ha:PE X a (up X.K ta)):PI X tg a (upI X.K fun env st k=>ta env st fun d st1=>(∃ds,d=.tup ds∧k ds (fun _=>True) st1)∨(∃a ds,d=.ref a∧rdS st1 a ds∧k ds (fun st'=>rdS st' a ds) st1)):=by
 intro pins s σ H R I q;obtain⟨env,st,kk,hE,hS,ht,hq⟩:=q;refine thn (ha pins s σ H (fun v H1=>∃d st1,Ev st H st1 H1∧IsD X.K H1 d v∧RelS X.K st1 H1∧((∃ds,d=.tup ds∧kk ds (fun _=>True) st1)∨(∃a ds,d=.ref a∧rdS st1 a ds∧kk ds (fun st'=>rdS st' a ds) st1))) I ⟨env,st,_,hE,hS,ht,fun v d H1 st1 ev is rs q1=>⟨d,st1,ev,is,rs,q1⟩⟩) fun u s1⟨v,H1,I1,r1,d,st1,ev,is,rs,q1⟩=>?_
 rcases q1 with⟨ds,rfl,q1⟩|⟨q,ds,rfl,hr,q1⟩
 ·obtain⟨q,vs,rfl,hsq,r⟩:=is.tup_inv;cases r1;obtain⟨its,rv,pl,hz⟩:=I1.tuple hsq;refine wpAny_pyIter_tuple (show s1.heap.IsTuple q its.toArray from pl) ?_;refine⟨s1.heap.objs.size,[s1.heap.objs.size],_,_,H1,rfl,I1.kept (t':=s1.toks) fun b o e=>Heap.get?_push_of_some _ e,bz6 q _,⟨_,Heap.get?_push_size _ rfl,rfl,rfl⟩,fun b hb=>?_,hq ds _ st1 H1 _ ev rs (cp9 hsq r) q1⟩;have e:b=s1.heap.objs.size:=by simpa using hb
  subst e;exact I1.fpOk (Nat.le_refl _) (I1.hok.fresh (Nat.le_refl _))
 ·rw[is.ref_inv]at r1;cases r1;obtain⟨vs,hsq,r⟩:=rs.rd hr;obtain⟨its,rv,pl,hz⟩:=I1.list hsq;refine wpAny_pyIter_list pl.isList ?_;refine⟨s1.heap.objs.size,[s1.heap.objs.size],_,_,H1,rfl,I1.kept (t':=s1.toks) fun b o e=>Heap.get?_push_of_some _ e,b22 q _,⟨_,Heap.get?_push_size _ rfl,rfl,rfl⟩,fun b hb=>?_,hq ds _ st1 H1 _ ev rs cq9 q1⟩;have e:b=s1.heap.objs.size:=by simpa using hb
  subst e;exact I1.fpOk (Nat.le_refl _) (I1.hok.fresh (Nat.le_refl _))
theorem cl1(hg:Gl X "range")(hm:X.mg "range"=none)(ha:PE X a (up X.K ta))(hs:∀e p,a≠.Starred e p):PI X tg (.Call (.Name "range" p) [a] [] pos) (upI X.K fun env st k=>ta env st fun d st1=>∃j:Int,d=.int j∧(-(2^62)≤j∧j<2^62)∧k (p8 0 j.toNat) (fun _=>True) st1):=
 PI.imp (b21 hg hm (O5 ha hs) (by rw[n8 hs];rfl)) fun σ H R q=>by
  obtain⟨env,st,kk,hE,hS,ht,hq⟩:=q;refine⟨env,st,(fun ds st1=>match ds with|[d]=>∃j:Int,d=.int j∧(-(2^62)≤j∧j<2^62)∧kk (p8 0 j.toNat) (fun _=>True) st1|_=>False),hE,hS,ht,fun vs ds H' st' ev is hl rs q1=>?_⟩
  match ds,hl with
  |[d],_=>
   obtain⟨v,ws,rfl,i1,i2⟩:=is.inv_cons;rw[i2.inv_nil];obtain⟨j,rfl,hj,q1⟩:=q1;exact⟨j,by rw[i1.int_inv],hj.1,hj.2,hq _ _ st' H' _ ev rs bq4 q1⟩
theorem ca3(hg:Gl X "range")(hm:X.mg "range"=none)(ha:PE X a (up X.K ta))(hb:PE X b (up X.K tb))(hs:∀e p,a≠.Starred e p)(hs':∀e p,b≠.Starred e p):PI X tg (.Call (.Name "range" p) [a,b] [] pos) (upI X.K fun env st k=>ta env st fun d st1=>tb env st1 fun e st2=>∃i j:Int,d=.int i∧e=.int j∧(-(2^62)≤i∧i<2^62∧-(2^62)≤j∧j<2^62)∧k (p8 i (j-i).toNat) (fun _=>True) st2):=
 PI.imp (b19 hg hm (al7 ha hb hs hs') (by rw[n8 hs,n8 hs'];rfl) (by rw[n8 hs'];rfl)) fun σ H R q=>by
  obtain⟨env,st,kk,hE,hS,ht,hq⟩:=q;refine⟨env,st,(fun ds st1=>match ds with|[d,e]=>∃i j:Int,d=.int i∧e=.int j∧(-(2^62)≤i∧i<2^62∧-(2^62)≤j∧j<2^62)∧kk (p8 i (j-i).toNat) (fun _=>True) st1|_=>False),hE,hS,ht,fun vs ds H' st' ev is hl rs q1=>?_⟩
  match ds,hl with
  |[d,e],_=>
   obtain⟨v,ws,rfl,i1,i2⟩:=is.inv_cons;obtain⟨w,ws',rfl,i3,i4⟩:=i2.inv_cons;rw[i4.inv_nil];obtain⟨i,j,rfl,rfl,hj,q1⟩:=q1;exact⟨i,j,by rw[i1.int_inv,i3.int_inv],hj,hq _ _ st' H' _ ev rs bq4 q1⟩
theorem cm9(hg:Gl X "reversed")(hm:X.mg "reversed"=none)(ha:PE X a (up X.K ta))(hs:∀e p,a≠.Starred e p):PI X tg (.Call (.Name "reversed" p) [a] [] pos) (upI X.K fun env st k=>ta env st fun d st1=>∃a ds,d=.ref a∧rdS st1 a ds∧k ds.reverse (fun st'=>rdS st' a ds) st1):=
 PI.imp (cf3 hg hm (O5 ha hs) (by rw[n8 hs];rfl)) fun σ H R q=>by
  obtain⟨env,st,kk,hE,hS,ht,hq⟩:=q;refine⟨env,st,(fun ds st1=>match ds with|[d]=>∃a ds,d=.ref a∧rdS st1 a ds∧kk ds.reverse (fun st'=>rdS st' a ds) st1|_=>False),hE,hS,ht,fun vs ds H' st' ev is hl rs q1=>?_⟩
  match ds,hl with
  |[d],_=>
   obtain⟨v,ws,rfl,i1,i2⟩:=is.inv_cons;rw[i2.inv_nil];obtain⟨q,ds,rfl,hr,q1⟩:=q1;obtain⟨vs,hsq,r⟩:=rs.rd hr;exact⟨q,vs,by rw[i1.ref_inv],hsq,by rw[←r.len];exact hq _ _ st' H' _ ev rs cm4 q1⟩
end
end Ek
namespace PySem
noncomputable def m6(b:Bool)(h:Heap)(l:Addr)(xs:Array Value):Prop:=match b with|true=>h.IsTuple l xs|false=>h.IsList l xs
noncomputable def o0(b:Bool)(h:Heap)(it l:Addr)(i:Nat):Prop:=match b with|true=>h.IsTupleIter it l i|false=>h.IsListIter it l i
theorem m6.stay{b:Bool}{h h':Heap}{l:Addr}{xs:Array Value}(x:m6 b h l xs)(k:∀o,h.get? l=some o→h'.get? l=some o):m6 b h' l xs:=by
 cases b with
 |true=>obtain⟨o,ho,r⟩:=x;exact⟨o,k o ho,r⟩
 |false=>exact Heap.IsList.at x k
theorem o0.stay{b:Bool}{h h':Heap}{it l:Addr}{i:Nat}(x:o0 b h it l i)(k:∀o,h.get? it=some o→h'.get? it=some o):o0 b h' it l i:=by
 cases b with
 |true=>obtain⟨o,ho,r⟩:=x;exact⟨o,k o ho,r⟩
 |false=>exact Heap.IsListIter.at x k
theorem o0.obj{b:Bool}{h:Heap}{it l:Addr}{i:Nat}(x:o0 b h it l i):∃o,h.get? it=some o∧∀v,o.data≠.cell v:=by
 cases b with
 |true=>obtain⟨o,ho,hc,hd⟩:=x;exact⟨o,ho,fun v z=>by rw[hd]at z;cases z⟩
 |false=>obtain⟨o,ho,hc,hd⟩:=x;exact⟨o,ho,fun v z=>by rw[hd]at z;cases z⟩
theorem m6.lt{b:Bool}{h:Heap}{l:Addr}{xs:Array Value}(x:m6 b h l xs):l<h.objs.size:=by
 cases b with
 |true=>obtain⟨o,ho,_⟩:=x;exact Heap.lt_size ho
 |false=>obtain⟨o,ho,_⟩:=x;exact Heap.lt_size ho
section
variable {prog:Program} {w:World} {A:Around} {E:Value→Shared→Prop} {s:Shared}
theorem S4{b:Bool}{it l:Addr}{i:Nat}{xs:Array Value}{x:Value}{Q:Value→Shared→Prop}(I:o0 b s.heap it l i)(L:m6 b s.heap l xs)(hx:xs[i]?=some x)
  (q:∀h',o0 b h' it l (i+1)→Heap.SameBut it s.heap h'→Q x {s with heap:=h'}):wpAny (model prog w) A (Builtin.SmallTypes.nextOf (.ref it)) Q E s:=by
 cases b with
 |true=>exact bs4 I L hx q
 |false=>exact wpAny_nextOf_list_item I L hx q
theorem ak7{b:Bool}{it l:Addr}{i:Nat}{xs:Array Value}{Q:Value→Shared→Prop}(hh:A.handled=none)(I:o0 b s.heap it l i)(L:m6 b s.heap l xs)(hx:xs[i]?=none)
  (q:∀h' e,Heap.ExtBut it s.heap h'→(∃o,h'.get? e=some o∧o.cls=.type "StopIteration")→E (.ref e) {s with heap:=h'}):wpAny (model prog w) A (Builtin.SmallTypes.nextOf (.ref it)) Q E s:=by
 cases b with
 |true=>exact bs5 hh I L hx q
 |false=>exact wpAny_nextOf_list_end hh I L hx q
theorem ba4{a:Addr}{Q:Option Obj→Shared→Prop}(h:Q (s.heap.get? a) s):wpAny (model prog w) A (loadIfAlive a) Q E s:=fun Γ p _=>by
 unfold loadIfAlive;rw[Sem.wp_loadIfAlive];exact h
noncomputable def r9(h:Heap)(z TI TO:Addr)(f:Value)(b:Bool):Prop:=h.get? z=some {cls:=.type "zip",dict:=none,data:=.fields #[f,.bool b,.bool false,.ref TI,.ref TO],slots:=#[]}
theorem Y5{h h':Heap}{T c:Addr}{x y:Value}(p:IsPair h T x y)(sb:Heap.SameBut c h h')(n:T≠c):IsPair h' T x y:=sb.extBut _ _ n p
theorem bi7{z TI TO i1 i2 l1 l2:Addr}{b1 b2:Bool}{k:Nat}{xs ys:Array Value}{x y a b f:Value}{fb:Bool}{Q:Value→Shared→Prop}(D:ZipApart z TI TO i1 i2 l1 l2)(Z0:r9 s.heap z TI TO f fb)
  (free:∀R:Bool→Shared→Prop,R true s→wpAny (model prog w) A (Builtin.SmallTypes.ownedTupleIsFree (.ref z)) R E s) (PI:IsPair s.heap TI (.ref i1) (.ref i2)) (PO:IsPair s.heap TO a b)
  (I1:o0 b1 s.heap i1 l1 k) (I2:o0 b2 s.heap i2 l2 k) (L1:m6 b1 s.heap l1 xs) (L2:m6 b2 s.heap l2 ys) (hx:xs[k]?=some x) (hy:ys[k]?=some y)
  (q:∀h',r9 h' z TI TO (rawInt s.heap.objs.size) false→IsPair h' TO x y→o0 b1 h' i1 l1 (k+1)→o0 b2 h' i2 l2 (k+1)→IsPair h' s.heap.objs.size x y→h'.objs.size=s.heap.objs.size+1 →
   (∀c o,c≠z→c≠TO→c≠i1→c≠i2→s.heap.get? c=some o→h'.get? c=some o)→Q (.ref s.heap.objs.size) {s with heap:=h'}) :
  wpAny (model prog w) A (Builtin.«zip.__next__» ⟨[.ref z],[]⟩) (fun fin s'=>∃v,fin=.done (.ret v)∧Q v s') E s:=by
 show wpAny _ _ (field (.ref z) 2>>=_) _ _ _;refine wpAny_bind (wpAny_field Z0 rfl (x:=.bool false) rfl ?_);show wpAny _ _ (field (.ref z) 3>>=_) _ _ _;refine wpAny_bind (wpAny_field Z0 rfl (x:=.ref TI) rfl ?_);refine wpAny_bind (wpAny_seqItems PI rfl ?_);show wpAny _ _ (Builtin.SmallTypes.ownedTupleIsFree (.ref z)>>=_) _ _ _;refine wpAny_bind (free _ ?_);simp only[if_true];refine wpAny_bind (wpAny_rule (wpAny_bind (wpAny_field Z0 rfl (x:=.ref TO) rfl ?_)));refine wpAny_bind (wpAny_setField_rec Z0 (by simp) fun g1 Z1 e1=>?_);replace Z1:r9 g1 z TI TO .ellipsis fb:=Z1;refine wpAny_bind ?_;simp only[List.zipIdx_cons,List.zipIdx_nil,List.forIn_cons,List.forIn_nil];refine wpAny_bind (wpAny_bind (wpAny_onRaise ?_));show wpAny _ _ (Builtin.SmallTypes.nextOf (.ref i1)>>=_) _ _ _;refine wpAny_bind (S4 (I1.stay fun o e=>e1.extBut _ _ D.i1z e) (L1.stay fun o e=>e1.extBut _ _ D.l1z e) hx fun g2 J1 e2=>wpAny_pure ?_);have P2:IsPair g2 TO a b:=Y5 (Y5 PO e1 D.TOz) e2 D.TOi1;refine wpAny_bind (wpAny_seqItems P2 rfl (wpAny_bind (wpAny_updateSeq_pair P2 fun g3 P3 e3=>?_)));replace P3:IsPair g3 TO x b:=P3;refine wpAny_bind (wpAny_letGo (wpAny_pure (wpAny_bind (wpAny_bind (wpAny_onRaise ?_)))));show wpAny _ _ (Builtin.SmallTypes.nextOf (.ref i2)>>=_) _ _ _;have up3:∀c o,c≠z→c≠i1→c≠TO→s.heap.get? c=some o→g3.get? c=some o:=fun c o n1 n2 n3 e=>e3.extBut _ _ n3 (e2.extBut _ _ n2 (e1.extBut _ _ n1 e));refine wpAny_bind (S4 (I2.stay fun o e=>up3 _ _ D.i2z D.i12.symm D.TOi2.symm e) (L2.stay fun o e=>up3 _ _ D.l2z D.l2i1 D.l2TO e) hy fun g4 J2 e4=>wpAny_pure ?_);have P4:IsPair g4 TO x b:=Y5 P3 e4 D.TOi2;refine wpAny_bind (wpAny_seqItems P4 rfl (wpAny_bind (wpAny_updateSeq_pair P4 fun g5 P5 e5=>?_)));replace P5:IsPair g5 TO x y:=P5;refine wpAny_bind (wpAny_letGo (wpAny_pure (wpAny_pure ?_)));refine wpAny_bind (wpAny_seqItems P5 rfl (wpAny_bind (wpAny_newTuple ?_)));have sz:g5.objs.size=s.heap.objs.size:=by rw[e5.1,e4.1,e3.1,e2.1,e1.1]
 have Z5:r9 g5 z TI TO .ellipsis fb:=e5.extBut _ _ D.TOz.symm (e4.extBut _ _ D.i2z.symm (e3.extBut _ _ D.TOz.symm (e2.extBut _ _ D.i1z.symm Z1)));have up5:∀c o,c≠z→c≠TO→c≠i1→c≠i2→s.heap.get? c=some o→g5.get? c=some o:=fun c o n1 n2 n3 n4 e=>e5.extBut _ _ n2 (e4.extBut _ _ n4 (up3 c o n1 n3 n2 e));have J1':o0 b1 g5 i1 l1 (k+1):=J1.stay fun o e=>e5.extBut _ _ D.TOi1.symm (e4.extBut _ _ D.i12 (e3.extBut _ _ D.TOi1.symm e));have J2':o0 b2 g5 i2 l2 (k+1):=J2.stay fun o e=>e5.extBut _ _ D.TOi2.symm e;have zlt:z<g5.objs.size:=Heap.lt_size Z5;show wpAny _ _ (Builtin.SmallTypes.ownedTupleHandOut (.ref z) (.ref g5.objs.size)>>=_) _ _ _;refine wpAny_bind ?_;unfold Builtin.SmallTypes.ownedTupleHandOut;have Z6:r9 (g5.push {cls:=.type "tuple",data:=.seq #[x,y]}) z TI TO .ellipsis fb:=Heap.get?_push_of_some _ Z5;refine wpAny_bind (wpAny_setField_rec Z6 (by simp) fun g7 Z7 e7=>?_);replace Z7:r9 g7 z TI TO (rawInt g5.objs.size) fb:=Z7;refine wpAny_setField_rec Z7 (by simp) fun g8 Z8 e8=>?_;replace Z8:r9 g8 z TI TO (rawInt g5.objs.size) false:=Z8;have up8:∀c o,c≠z→g5.get? c=some o→g8.get? c=some o:=fun c o n1 e=>e8.extBut _ _ n1 (e7.extBut _ _ n1 (Heap.get?_push_of_some _ e));have T8:IsPair g8 g5.objs.size x y:=e8.extBut _ _ (Nat.ne_of_gt zlt) (e7.extBut _ _ (Nat.ne_of_gt zlt) (Heap.get?_push_size _ rfl));have sz8:g8.objs.size=g5.objs.size+1:=by rw[e8.1,e7.1,Heap.size_push]
 rw[sz]at Z8 T8 sz8;refine wpAny_pure ⟨_,rfl,?_⟩;show Q (.ref g5.objs.size) _;rw[sz];exact q g8 Z8 (up8 _ _ D.TOz P5) (J1'.stay fun o e=>up8 _ o D.i1z e) (J2'.stay fun o e=>up8 _ o D.i2z e) T8 sz8 fun c o n1 n2 n3 n4 e=>up8 c o n1 (up5 c o n1 n2 n3 n4 e)
theorem ch5{z TI TO i1 i2 l1 l2:Addr}{b1 b2:Bool}{k:Nat}{xs ys:Array Value}{x y a b f:Value}{fb:Bool}{Q:Value→Shared→Prop}(D:ZipApart z TI TO i1 i2 l1 l2)(Z0:r9 s.heap z TI TO f fb)
  (busy:∀R:Bool→Shared→Prop,(∀h' fb',r9 h' z TI TO f fb'→Heap.SameBut z s.heap h'→R false {s with heap:=h'})→wpAny (model prog w) A (Builtin.SmallTypes.ownedTupleIsFree (.ref z)) R E s) (PI:IsPair s.heap TI (.ref i1) (.ref i2)) (PO:IsPair s.heap TO a b)
  (I1:o0 b1 s.heap i1 l1 k) (I2:o0 b2 s.heap i2 l2 k) (L1:m6 b1 s.heap l1 xs) (L2:m6 b2 s.heap l2 ys) (hx:xs[k]?=some x) (hy:ys[k]?=some y)
  (q:∀h' fb',r9 h' z TI TO f fb'→IsPair h' TO a b→o0 b1 h' i1 l1 (k+1)→o0 b2 h' i2 l2 (k+1)→IsPair h' s.heap.objs.size x y→h'.objs.size=s.heap.objs.size+1 →
   (∀c o,c≠z→c≠TO→c≠i1→c≠i2→s.heap.get? c=some o→h'.get? c=some o)→Q (.ref s.heap.objs.size) {s with heap:=h'}) :
  wpAny (model prog w) A (Builtin.«zip.__next__» ⟨[.ref z],[]⟩) (fun fin s'=>∃v,fin=.done (.ret v)∧Q v s') E s:=by
 show wpAny _ _ (field (.ref z) 2>>=_) _ _ _;refine wpAny_bind (wpAny_field Z0 rfl (x:=.bool false) rfl ?_);show wpAny _ _ (field (.ref z) 3>>=_) _ _ _;refine wpAny_bind (wpAny_field Z0 rfl (x:=.ref TI) rfl ?_);refine wpAny_bind (wpAny_seqItems PI rfl ?_);show wpAny _ _ (Builtin.SmallTypes.ownedTupleIsFree (.ref z)>>=_) _ _ _;refine wpAny_bind (busy _ fun g1 fb' Z1 e1=>?_);simp only[Bool.false_eq_true,if_false];refine wpAny_bind ?_;simp only[List.forIn_toArray,List.forIn_cons,List.forIn_nil];refine wpAny_bind (wpAny_bind (wpAny_holding ?_));show wpAny _ _ (Builtin.SmallTypes.nextOf (.ref i1)>>=_) _ _ _;refine wpAny_bind (S4 (I1.stay fun o e=>e1.extBut _ _ D.i1z e) (L1.stay fun o e=>e1.extBut _ _ D.l1z e) hx fun g2 J1 e2=>wpAny_pure (wpAny_pure ?_));refine wpAny_bind (wpAny_bind (wpAny_holding ?_));show wpAny _ _ (Builtin.SmallTypes.nextOf (.ref i2)>>=_) _ _ _;have up2:∀c o,c≠z→c≠i1→s.heap.get? c=some o→g2.get? c=some o:=fun c o n1 n2 e=>e2.extBut _ _ n2 (e1.extBut _ _ n1 e);refine wpAny_bind (S4 (I2.stay fun o e=>up2 _ _ D.i2z D.i12.symm e) (L2.stay fun o e=>up2 _ _ D.l2z D.l2i1 e) hy fun g4 J2 e4=>wpAny_pure (wpAny_pure ?_));refine wpAny_pure ?_;have sz:g4.objs.size=s.heap.objs.size:=by rw[e4.1,e2.1,e1.1]
 have up4:∀c o,c≠z→c≠i1→c≠i2→s.heap.get? c=some o→g4.get? c=some o:=fun c o n1 n2 n3 e=>e4.extBut _ _ n3 (up2 c o n1 n2 e);refine wpAny_bind (wpAny_newTuple (hsz:=by show 2≤sizeLine;decide) (wpAny_pure ⟨_,rfl,?_⟩));show Q (.ref g4.objs.size) _;have T5:IsPair (g4.push {cls:=.type "tuple",data:=.seq #[x,y]}) g4.objs.size x y:=Heap.get?_push_size _ rfl;rw[sz]at T5 ⊢;have pu:∀{c o},g4.get? c=some o→(g4.push {cls:=.type "tuple",data:=.seq #[x,y]}).get? c=some o:=fun e=>Heap.get?_push_of_some _ e;exact q _ fb' (pu (e4.extBut _ _ D.i2z.symm (e2.extBut _ _ D.i1z.symm Z1))) (pu (up4 _ _ D.TOz D.TOi1 D.TOi2 PO)) (J1.stay fun o e=>pu (e4.extBut _ _ D.i12 e)) (J2.stay fun o e=>pu e) T5 (by rw[Heap.size_push,sz]) fun c o n1 n2 n3 n4 e=>pu (up4 c o n1 n3 n4 e)
theorem ay5{z TI TO:Addr}{fb:Bool}(Z0:r9 s.heap z TI TO .none fb){R:Bool→Shared→Prop}(r:R true s):wpAny (model prog w) A (Builtin.SmallTypes.ownedTupleIsFree (.ref z)) R E s:=by
 unfold Builtin.SmallTypes.ownedTupleIsFree;exact wpAny_bind (wpAny_field Z0 rfl (x:=.none) rfl (wpAny_pure r))
theorem bg7{z TI TO a:Addr}{fb:Bool}(Z0:r9 s.heap z TI TO (rawInt a) fb)(hd:s.heap.get? a=none){R:Bool→Shared→Prop}(r:R true s):wpAny (model prog w) A (Builtin.SmallTypes.ownedTupleIsFree (.ref z)) R E s:=by
 unfold Builtin.SmallTypes.ownedTupleIsFree;refine wpAny_bind (wpAny_field Z0 rfl (x:=.int a 0) rfl ?_);show wpAny _ _ (loadIfAlive (Int.toNat (a:Int))>>=_) _ _ _;rw[Int.toNat_natCast];refine wpAny_bind (ba4 ?_);rw[hd];exact wpAny_pure r
theorem bg0{z TI TO a:Addr}{fb:Bool}{o:Obj}(Z0:r9 s.heap z TI TO (rawInt a) fb)(hd:s.heap.get? a=some o){R:Bool→Shared→Prop}(r:∀h' fb',r9 h' z TI TO (rawInt a) fb'→Heap.SameBut z s.heap h'→R false {s with heap:=h'}):wpAny (model prog w) A (Builtin.SmallTypes.ownedTupleIsFree (.ref z)) R E s:=by
 unfold Builtin.SmallTypes.ownedTupleIsFree;refine wpAny_bind (wpAny_field Z0 rfl (x:=.int a 0) rfl ?_);show wpAny _ _ (loadIfAlive (Int.toNat (a:Int))>>=_) _ _ _;rw[Int.toNat_natCast];refine wpAny_bind (ba4 ?_);rw[hd];show wpAny _ _ (field (.ref z) 1>>=_) _ _ _;refine wpAny_bind (wpAny_field Z0 rfl (x:=.bool fb) rfl ?_);cases fb with
 |true=>
  show wpAny _ _ (pure false) _ _ _;exact wpAny_pure (r s.heap true Z0 ⟨rfl,fun b hb=>rfl⟩)
 |false=>
  show wpAny _ _ (setField (.ref z) 1 (.bool true)>>=fun _=>pure false) _ _ _;exact wpAny_bind (wpAny_setField_rec Z0 (by simp) fun g1 Z1 e1=>wpAny_pure (r g1 true Z1 e1))
theorem ch2{z TI TO i1 i2 l1 l2:Addr}{b1 b2:Bool}{k:Nat}{xs ys:Array Value}{x y a b f:Value}{fb:Bool}{Q:Value→Shared→Prop}(D:ZipApart z TI TO i1 i2 l1 l2)(Z0:r9 s.heap z TI TO f fb)(hf:f=.none∨∃c:Addr,f=rawInt c)
  (PI:IsPair s.heap TI (.ref i1) (.ref i2)) (PO:IsPair s.heap TO a b)
  (I1:o0 b1 s.heap i1 l1 k) (I2:o0 b2 s.heap i2 l2 k) (L1:m6 b1 s.heap l1 xs) (L2:m6 b2 s.heap l2 ys) (hx:xs[k]?=some x) (hy:ys[k]?=some y)
  (q:∀h' f' fb' a' b',r9 h' z TI TO f' fb'→(f'=.none∨∃c:Addr,f'=rawInt c)→IsPair h' TO a' b'→o0 b1 h' i1 l1 (k+1)→o0 b2 h' i2 l2 (k+1)→IsPair h' s.heap.objs.size x y→h'.objs.size=s.heap.objs.size+1 →
   (∀c o,c≠z→c≠TO→c≠i1→c≠i2→s.heap.get? c=some o→h'.get? c=some o)→Q (.ref s.heap.objs.size) {s with heap:=h'}) :
  wpAny (model prog w) A (Builtin.«zip.__next__» ⟨[.ref z],[]⟩) (fun fin s'=>∃v,fin=.done (.ret v)∧Q v s') E s:=by
 have fr:(∀R:Bool→Shared→Prop,R true s→wpAny (model prog w) A (Builtin.SmallTypes.ownedTupleIsFree (.ref z)) R E s)→wpAny (model prog w) A (Builtin.«zip.__next__» ⟨[.ref z],[]⟩) (fun fin s'=>∃v,fin=.done (.ret v)∧Q v s') E s:=fun free=>
  bi7 D Z0 free PI PO I1 I2 L1 L2 hx hy fun h' a1 a2 a3 a4 a5 a6 a7=>q h' _ _ _ _ a1 (.inr ⟨_,rfl⟩) a2 a3 a4 a5 a6 a7
 rcases hf with rfl|⟨c,rfl⟩
 ·exact fr fun R r=>ay5 Z0 r
 ·cases hd:s.heap.get? c with
  |none=>exact fr fun R r=>bg7 Z0 hd r
  |some o=>exact ch5 D Z0 (fun R r=>bg0 Z0 hd r) PI PO I1 I2 L1 L2 hx hy fun h' fb' a1 a2 a3 a4 a5 a6 a7=>q h' _ fb' _ _ a1 (.inr ⟨_,rfl⟩) a2 a3 a4 a5 a6 a7
theorem cc7{z TI TO i1 i2 l1 l2:Addr}{b1 b2:Bool}{k:Nat}{xs ys:Array Value}{a b f:Value}{fb:Bool}{Q:Fin→Shared→Prop}(hh:A.handled=none)(D:ZipApart z TI TO i1 i2 l1 l2)(Z0:r9 s.heap z TI TO f fb)(hf:f=.none∨∃c:Addr,f=rawInt c)
  (PI:IsPair s.heap TI (.ref i1) (.ref i2)) (PO:IsPair s.heap TO a b)
  (I1:o0 b1 s.heap i1 l1 k) (I2:o0 b2 s.heap i2 l2 k) (L1:m6 b1 s.heap l1 xs) (L2:m6 b2 s.heap l2 ys) (he:xs[k]?=none∨ys[k]?=none)
  (q:∀h' e,(∀c o,c≠z→c≠TO→c≠i1→c≠i2→s.heap.get? c=some o→h'.get? c=some o)→(∃o,h'.get? e=some o∧o.cls=.type "StopIteration")→E (.ref e) {s with heap:=h'}) :
  wpAny (model prog w) A (Builtin.«zip.__next__» ⟨[.ref z],[]⟩) Q E s:=by
 have free:(∀R:Bool→Shared→Prop,R true s→wpAny (model prog w) A (Builtin.SmallTypes.ownedTupleIsFree (.ref z)) R E s)→wpAny (model prog w) A (Builtin.«zip.__next__» ⟨[.ref z],[]⟩) Q E s:=fun free=>by
  show wpAny _ _ (field (.ref z) 2>>=_) _ _ _;refine wpAny_bind (wpAny_field Z0 rfl (x:=.bool false) rfl ?_);show wpAny _ _ (field (.ref z) 3>>=_) _ _ _;refine wpAny_bind (wpAny_field Z0 rfl (x:=.ref TI) rfl (wpAny_bind (wpAny_seqItems PI rfl ?_)));show wpAny _ _ (Builtin.SmallTypes.ownedTupleIsFree (.ref z)>>=_) _ _ _;refine wpAny_bind (free _ ?_);simp only[if_true];refine wpAny_bind (wpAny_rule (wpAny_bind (wpAny_field Z0 rfl (x:=.ref TO) rfl ?_)));refine wpAny_bind (wpAny_setField_rec Z0 (by simp) fun g1 Z1 e1=>?_);replace Z1:r9 g1 z TI TO .ellipsis fb:=Z1;refine wpAny_bind ?_;simp only[List.zipIdx_cons,List.zipIdx_nil,List.forIn_cons,List.forIn_nil];refine wpAny_bind (wpAny_bind (wpAny_onRaise ?_));show wpAny _ _ (Builtin.SmallTypes.nextOf (.ref i1)>>=_) _ _ _;cases hx:xs[k]? with
  |none=>
   refine wpAny_bind (ak7 hh (I1.stay fun o e=>e1.extBut _ _ D.i1z e) (L1.stay fun o e=>e1.extBut _ _ D.l1z e) hx fun g2 e e2⟨oe,hoe,hce⟩=>?_);have Z2:r9 g2 z TI TO .ellipsis fb:=e2 _ _ D.i1z.symm Z1;have nez:e≠z:=fun v=>by subst v;rw[Z2]at hoe;cases hoe;simp at hce
   exact wpAny_setField_rec Z2 (by simp) fun g3 _ e3=>q g3 e (fun c o n1 _ n3 _ v=>e3.extBut _ _ n1 (e2 _ _ n3 (e1.extBut _ _ n1 v))) ⟨oe,e3.extBut _ _ nez hoe,hce⟩
  |some x=>
   have hy:ys[k]?=none:=he.elim (fun v=>by rw[hx]at v;cases v) id;refine wpAny_bind (S4 (I1.stay fun o e=>e1.extBut _ _ D.i1z e) (L1.stay fun o e=>e1.extBut _ _ D.l1z e) hx fun g2 J1 e2=>wpAny_pure ?_);have P2:IsPair g2 TO a b:=Y5 (Y5 PO e1 D.TOz) e2 D.TOi1;refine wpAny_bind (wpAny_seqItems P2 rfl (wpAny_bind (wpAny_updateSeq_pair P2 fun g3 P3 e3=>?_)));refine wpAny_bind (wpAny_letGo (wpAny_pure (wpAny_bind (wpAny_bind (wpAny_onRaise ?_)))));show wpAny _ _ (Builtin.SmallTypes.nextOf (.ref i2)>>=_) _ _ _;have up3:∀c o,c≠z→c≠i1→c≠TO→s.heap.get? c=some o→g3.get? c=some o:=fun c o n1 n2 n3 e=>e3.extBut _ _ n3 (e2.extBut _ _ n2 (e1.extBut _ _ n1 e));refine wpAny_bind (ak7 hh (I2.stay fun o e=>up3 _ _ D.i2z D.i12.symm D.TOi2.symm e) (L2.stay fun o e=>up3 _ _ D.l2z D.l2i1 D.l2TO e) hy fun g4 e e4⟨oe,hoe,hce⟩=>?_);have Z4:r9 g4 z TI TO .ellipsis fb:=e4 _ _ D.i2z.symm (e3.extBut _ _ D.TOz.symm (e2.extBut _ _ D.i1z.symm Z1));have nez:e≠z:=fun v=>by subst v;rw[Z4]at hoe;cases hoe;simp at hce
   exact wpAny_setField_rec Z4 (by simp) fun g5 _ e5=>q g5 e (fun c o n1 n2 n3 n4 v=>e5.extBut _ _ n1 (e4 _ _ n4 (up3 c o n1 n3 n2 v))) ⟨oe,e5.extBut _ _ nez hoe,hce⟩
 rcases hf with rfl|⟨c,rfl⟩
 ·exact free fun R r=>ay5 Z0 r
 ·cases hd:s.heap.get? c with
  |none=>exact free fun R r=>bg7 Z0 hd r
  |some o=>
   show wpAny _ _ (field (.ref z) 2>>=_) _ _ _;refine wpAny_bind (wpAny_field Z0 rfl (x:=.bool false) rfl ?_);show wpAny _ _ (field (.ref z) 3>>=_) _ _ _;refine wpAny_bind (wpAny_field Z0 rfl (x:=.ref TI) rfl (wpAny_bind (wpAny_seqItems PI rfl ?_)));show wpAny _ _ (Builtin.SmallTypes.ownedTupleIsFree (.ref z)>>=_) _ _ _;refine wpAny_bind (bg0 Z0 hd fun g1 fb' Z1 e1=>?_);simp only[Bool.false_eq_true,if_false];refine wpAny_bind ?_;simp only[List.forIn_toArray,List.forIn_cons,List.forIn_nil];refine wpAny_bind (wpAny_bind (wpAny_holding ?_));show wpAny _ _ (Builtin.SmallTypes.nextOf (.ref i1)>>=_) _ _ _;cases hx:xs[k]? with
   |none=>
    exact wpAny_bind (ak7 hh (I1.stay fun o e=>e1.extBut _ _ D.i1z e) (L1.stay fun o e=>e1.extBut _ _ D.l1z e) hx fun g2 e e2 v=>q g2 e (fun c o n1 _ n3 _ w=>e2 _ _ n3 (e1.extBut _ _ n1 w)) v)
   |some x=>
    have hy:ys[k]?=none:=he.elim (fun v=>by rw[hx]at v;cases v) id;refine wpAny_bind (S4 (I1.stay fun o e=>e1.extBut _ _ D.i1z e) (L1.stay fun o e=>e1.extBut _ _ D.l1z e) hx fun g2 J1 e2=>wpAny_pure (wpAny_pure ?_));refine wpAny_bind (wpAny_bind (wpAny_holding ?_));show wpAny _ _ (Builtin.SmallTypes.nextOf (.ref i2)>>=_) _ _ _;have up2:∀c o,c≠z→c≠i1→s.heap.get? c=some o→g2.get? c=some o:=fun c o n1 n2 e=>e2.extBut _ _ n2 (e1.extBut _ _ n1 e);exact wpAny_bind (ak7 hh (I2.stay fun o e=>up2 _ _ D.i2z D.i12.symm e) (L2.stay fun o e=>up2 _ _ D.l2z D.l2i1 e) hy fun g4 e e4 v=>q g4 e (fun c o n1 _ n3 n4 w=>e4 _ _ n4 (up2 c o n1 n3 w)) v)
noncomputable def ZAt(b1 b2:Bool)(z TI TO i1 i2 l1 l2:Addr)(k:Nat)(h:Heap):Prop:=(∃f fb,r9 h z TI TO f fb∧(f=.none∨∃c:Addr,f=rawInt c))∧IsPair h TI (.ref i1) (.ref i2)∧(∃a b,IsPair h TO a b)∧o0 b1 h i1 l1 k∧o0 b2 h i2 l2 k
theorem ZAt.stay{b1 b2:Bool}{z TI TO i1 i2 l1 l2:Addr}{k:Nat}{h h':Heap}(Z:ZAt b1 b2 z TI TO i1 i2 l1 l2 k h)(up:∀c∈[z,TI,TO,i1,i2],∀o,h.get? c=some o→h'.get? c=some o):ZAt b1 b2 z TI TO i1 i2 l1 l2 k h':=by
 obtain⟨⟨f,fb,Z0,hf⟩,PI,⟨a,b,PO⟩,I1,I2⟩:=Z;exact⟨⟨f,fb,up z (by simp) _ Z0,hf⟩,up TI (by simp) _ PI,⟨a,b,up TO (by simp) _ PO⟩,I1.stay fun o e=>up i1 (by simp) o e,I2.stay fun o e=>up i2 (by simp) o e⟩
theorem ZAt.type{b1 b2:Bool}{z TI TO i1 i2 l1 l2:Addr}{k:Nat}(Z:ZAt b1 b2 z TI TO i1 i2 l1 l2 k s.heap):s.TypeIs (.ref z) "zip":=by
 obtain⟨⟨f,fb,Z0,hf⟩,_⟩:=Z;exact⟨_,Z0,rfl⟩
theorem ce1{b1 b2:Bool}{z TI TO i1 i2 l1 l2:Addr}{k:Nat}{xs ys:Array Value}{x y:Value}{Q:Option Value→Shared→Prop}(D:ZipApart z TI TO i1 i2 l1 l2)(Z:ZAt b1 b2 z TI TO i1 i2 l1 l2 k s.heap)(L1:m6 b1 s.heap l1 xs)(L2:m6 b2 s.heap l2 ys)(hx:xs[k]?=some x)(hy:ys[k]?=some y)
  (q:∀h',ZAt b1 b2 z TI TO i1 i2 l1 l2 (k+1) h'→IsPair h' s.heap.objs.size x y→h'.objs.size=s.heap.objs.size+1→(∀c o,c≠z→c≠TO→c≠i1→c≠i2→s.heap.get? c=some o→h'.get? c=some o)→Q (some (.ref s.heap.objs.size)) {s with heap:=h'}):wpAny (model prog w) A (pyNext (.ref z)) Q E s:=by
 have ty:=Z.type;obtain⟨⟨f,fb,Z0,hf⟩,PI,⟨a,b,PO⟩,I1,I2⟩:=Z;unfold pyNext;refine wpAny_bind (wpAny_attempt (wpAny_callSpecial?_slot (name:=Str.ofString "__next__") ty F.slot_zip_next (wpAny_call_entry F.slot_zip_next ty F.entry_zip_next ?_ (F.args_zip_next_1 _))));exact ch2 D Z0 hf PI PO I1 I2 L1 L2 hx hy fun h' f' fb' a' b' c1 c2 c3 c4 c5 c6 c7 c8=>wpAny_pure (q h' ⟨⟨f',fb',c1,c2⟩,c8 _ _ D.TIz D.TITO D.TIi1 D.TIi2 PI,⟨a',b',c3⟩,c4,c5⟩ c6 c7 c8)
theorem bh9{b1 b2:Bool}{z TI TO i1 i2 l1 l2:Addr}{k:Nat}{xs ys:Array Value}{Q:Option Value→Shared→Prop}(hh:A.handled=none)(D:ZipApart z TI TO i1 i2 l1 l2)(Z:ZAt b1 b2 z TI TO i1 i2 l1 l2 k s.heap)(L1:m6 b1 s.heap l1 xs)(L2:m6 b2 s.heap l2 ys)(he:xs[k]?=none∨ys[k]?=none)
  (q:∀h',(∀c o,c≠z→c≠TO→c≠i1→c≠i2→s.heap.get? c=some o→h'.get? c=some o)→Q none {s with heap:=h'}):wpAny (model prog w) A (pyNext (.ref z)) Q E s:=by
 have ty:=Z.type;obtain⟨⟨f,fb,Z0,hf⟩,PI,⟨a,b,PO⟩,I1,I2⟩:=Z;unfold pyNext;refine wpAny_bind (wpAny_attempt (wpAny_callSpecial?_slot (name:=Str.ofString "__next__") ty F.slot_zip_next (wpAny_call_entry F.slot_zip_next ty F.entry_zip_next ?_ (F.args_zip_next_1 _))));refine cc7 hh D Z0 hf PI PO I1 I2 L1 L2 he fun h' e up⟨o,ho,hc⟩=>?_;exact wpAny_bind (wpAny_isInstance (T:="StopIteration") (b:=true) ⟨o,ho,hc⟩ isSubtype_stop (wpAny_pure (q _ up)))
theorem az8{b1 b2:Bool}{z TI TO i1 i2 l1 l2:Addr}{k:Nat}{Q:Value→Shared→Prop}(Z:ZAt b1 b2 z TI TO i1 i2 l1 l2 k s.heap)(h:Q (.ref z) s):wpAny (model prog w) A (pyIter (.ref z)) Q E s:=by
 have ty:=Z.type;refine wpAny_pyIter_slot ty F.slot_zip_iter (wpAny_call_entry F.slot_zip_iter ty F.entry_zip_iter ?_ (F.args_zip_iter_1 _));exact wpAny_pure ⟨_,rfl,"zip",_,ty,F.slot_zip_next.lookup,h⟩
noncomputable def itO(b:Bool)(l:Addr):Obj:={cls:=.type (if b then "tuple_iterator" else "list_iterator"),data:=.fields #[.ref l,.int 0 0]}
theorem bj1{b:Bool}{l:Addr}{xs:Array Value}{Q:Value→Shared→Prop}(L:m6 b s.heap l xs)(q:Q (.ref s.heap.objs.size) {s with heap:=s.heap.push (itO b l)}):wpAny (model prog w) A (pyIter (.ref l)) Q E s:=by
 cases b with
 |true=>exact wpAny_pyIter_tuple L q
 |false=>exact wpAny_pyIter_list L q
theorem bo3{b:Bool}{l:Addr}{h:Heap}{it:Addr}(e:h.get? it=some (itO b l)):o0 b h it l 0:=by
 cases b with
 |true=>exact⟨_,e,rfl,rfl⟩
 |false=>exact⟨_,e,rfl,rfl⟩
noncomputable abbrev zg1(h:Heap)(b1:Bool)(l1:Addr):Heap:=h.push (itO b1 l1)
noncomputable abbrev zg2(h:Heap)(b1 b2:Bool)(l1 l2:Addr):Heap:=(zg1 h b1 l1).push (itO b2 l2)
noncomputable abbrev zg3(h:Heap)(b1 b2:Bool)(l1 l2:Addr):Heap:=(zg2 h b1 b2 l1 l2).push {cls:=.type "tuple",data:=.seq #[.ref h.objs.size,.ref (zg1 h b1 l1).objs.size]}
noncomputable abbrev zg4(h:Heap)(b1 b2:Bool)(l1 l2:Addr):Heap:=(zg3 h b1 b2 l1 l2).push {cls:=.type "tuple",data:=.seq #[.none,.none]}
noncomputable abbrev zg5(h:Heap)(b1 b2:Bool)(l1 l2:Addr):Heap:=(zg4 h b1 b2 l1 l2).push {cls:=.type "zip",data:=.fields #[.none,.bool false,.bool false,.ref (zg2 h b1 b2 l1 l2).objs.size,.ref (zg3 h b1 b2 l1 l2).objs.size]}
end
theorem by5(b1 b2:Bool)(l1 l2:Addr)(xs ys:Array Value):
  Meets (Builtin.«zip.__new__» ⟨[.type "zip",.ref l1,.ref l2],[]⟩) (fun _ R s=>m6 b1 s.heap l1 xs∧m6 b2 s.heap l2 ys∧R (.ok (.ret (.ref (zg4 s.heap b1 b2 l1 l2).objs.size))) {s with heap:=zg5 s.heap b1 b2 l1 l2}):=
 .of_wp fun prog w A R s h=>by
  obtain⟨hp,g,d,tk,os⟩:=s;obtain⟨L1,L2,h⟩:=h;have hsub:=sub_zip;have M1:m6 b1 (Shared.heap ⟨hp,g,d,tk,os⟩) l1 xs:=L1;have M2:m6 b2 (Shared.heap ⟨hp.push (itO b1 l1),g,d,tk,os⟩) l2 ys:=m6.stay L2 fun o e=>Heap.get?_push_of_some _ e
  wp_walk using bj1 M1,bj1 M2
  exact⟨_,rfl,h⟩
section
variable {prog:Program} {w:World} {A:Around} {E:Value→Shared→Prop} {s:Shared}
theorem bc3{b1 b2:Bool}{l1 l2:Addr}{xs ys:Array Value}{Q:Value→Shared→Prop}(L1:m6 b1 s.heap l1 xs)(L2:m6 b2 s.heap l2 ys)
  (q:∀h',ZAt b1 b2 (s.heap.objs.size+4) (s.heap.objs.size+2) (s.heap.objs.size+3) s.heap.objs.size (s.heap.objs.size+1) l1 l2 0 h'→r9 h' (s.heap.objs.size+4) (s.heap.objs.size+2) (s.heap.objs.size+3) .none false→h'.objs.size=s.heap.objs.size+5→(∀c o,s.heap.get? c=some o→h'.get? c=some o)→Q (.ref (s.heap.objs.size+4)) {s with heap:=h'}) :
  wpAny (model prog w) A (call (.type "zip") [.ref l1,.ref l2]) Q E s:=by
 refine callType_new F.called_zip (by decide) (F.typeCall_zip_2 _ _) (F.newCall_zip_2 _ _) (fun obj=>F.args_object_init_3 obj _ _) F.entry_zip_new (by5 b1 b2 l1 l2 xs ys) ⟨L1,L2,?_⟩;have y1:(zg1 s.heap b1 l1).objs.size=s.heap.objs.size+1:=Heap.size_push ..;have y2:(zg2 s.heap b1 b2 l1 l2).objs.size=s.heap.objs.size+2:=by rw[Heap.size_push,y1]
 have y3:(zg3 s.heap b1 b2 l1 l2).objs.size=s.heap.objs.size+3:=by rw[Heap.size_push,y2]
 have y4:(zg4 s.heap b1 b2 l1 l2).objs.size=s.heap.objs.size+4:=by rw[Heap.size_push,y3]
 have y5:(zg5 s.heap b1 b2 l1 l2).objs.size=s.heap.objs.size+5:=by rw[Heap.size_push,y4]
 have w5:(zg5 s.heap b1 b2 l1 l2).get? (zg4 s.heap b1 b2 l1 l2).objs.size=some _:=Heap.get?_push_size _ rfl;have w4:(zg5 s.heap b1 b2 l1 l2).get? (zg3 s.heap b1 b2 l1 l2).objs.size=some _:=Heap.get?_push_of_some _ (Heap.get?_push_size _ rfl);have w3:(zg5 s.heap b1 b2 l1 l2).get? (zg2 s.heap b1 b2 l1 l2).objs.size=some _:=Heap.get?_push_of_some _ (Heap.get?_push_of_some _ (Heap.get?_push_size _ rfl));have w2:(zg5 s.heap b1 b2 l1 l2).get? (zg1 s.heap b1 l1).objs.size=some (itO b2 l2):=Heap.get?_push_of_some _ (Heap.get?_push_of_some _ (Heap.get?_push_of_some _ (Heap.get?_push_size _ rfl)));have w1:(zg5 s.heap b1 b2 l1 l2).get? s.heap.objs.size=some (itO b1 l1):=Heap.get?_push_of_some _ (Heap.get?_push_of_some _ (Heap.get?_push_of_some _ (Heap.get?_push_of_some _ (Heap.get?_push_size _ rfl))));show _∧_;rw[y2,y3,y4]at w5;rw[y1,y2]at w3;rw[y3]at w4;rw[y1]at w2;rw[y4];exact⟨⟨_,w5,rfl⟩,q _ ⟨⟨_,_,w5,.inl rfl⟩,w3,⟨_,_,w4⟩,bo3 w1,bo3 w2⟩ w5 y5 fun c o x=>
  Heap.get?_push_of_some _ (Heap.get?_push_of_some _ (Heap.get?_push_of_some _ (Heap.get?_push_of_some _ (Heap.get?_push_of_some _ x))))⟩
noncomputable def ZL(m0:Nat)(av:List Addr)(h:Heap)(xs ys acc:Array Value):Prop:=(∀(j:Nat)(v:Value),acc[j]?=some v→∃T x y,v=.ref T∧T∉av∧xs[j]?=some x∧ys[j]?=some y∧IsPair h T x y∧m0≤T)∧∀(j k:Nat)(v:Value),acc[j]?=some v→acc[k]?=some v→j=k
theorem cb7{b1 b2:Bool}{z TI TO i1 i2 l1 l2 S:Addr}{xs ys:Array Value}{res:Value}{R:Result→Shared→Prop}{m0:Nat}(hh:A.handled=none)(D:ZipApart z TI TO i1 i2 l1 l2)(nS:S∉[z,TI,TO,i1,i2,l1,l2])(hz:min xs.size ys.size≤1000000):
  ∀(m i:Nat)(s:Shared)(acc:Array Value)(c:Nat),min xs.size ys.size-i=m→i≤min xs.size ys.size→ZAt b1 b2 z TI TO i1 i2 l1 l2 i s.heap→m6 b1 s.heap l1 xs→m6 b2 s.heap l2 ys →
  s.heap.get? S=some {cls:=.type "list",dict:=none,data:=.seq acc c,slots:=#[]}→acc.size=i→m0≤s.heap.objs.size→ZL m0 [S,z,TO,i1,i2] s.heap xs ys acc →
  (∀h' acc' c',(∀b o,b∉[S,z,TO,i1,i2]→s.heap.get? b=some o→h'.get? b=some o)→h'.get? S=some {cls:=.type "list",dict:=none,data:=.seq acc' c',slots:=#[]}→acc'.size=min xs.size ys.size→ZL m0 [S,z,TO,i1,i2] h' xs ys acc'→R (.ok (.ret res)) {s with heap:=h'}) →
  codeAny (model prog w) A (.builtin "list.extend.loop" ⟨[.ref S,.ref z,res],[]⟩) R s:=by
 simp only[List.mem_cons,List.not_mem_nil,or_false,not_or]at nS;obtain⟨s1,s2,s3,s4,s5,s6,s7⟩:=nS;intro m
 induction m with
 |zero=>
  intro i s acc c hm hi Z L1 L2 hS ha hm0 zl hR;have hin:i=min xs.size ys.size:=by omega
  refine codeAny_builtin F.entry_extend_loop ?_;rw[Around.under_plainId F.plain_extend_loop _];show wpAny _ A.in1 (pyNext (.ref z)>>=_) _ _ s;refine wpAny_bind (bh9 hh D Z L1 L2 ?_ fun h' up=>wpAny_pure (hR h' acc c (fun b o hb e=>?_) (up S _ s1 s3 s4 s5 hS) (by rw[ha,hin]) ?_))
  ·rw[hin]
   rcases Nat.le_total xs.size ys.size with v|v
   ·exact .inl (by rw[Nat.min_eq_left v];exact Array.getElem?_eq_none (Nat.le_refl _))
   ·exact .inr (by rw[Nat.min_eq_right v];exact Array.getElem?_eq_none (Nat.le_refl _))
  ·simp only[List.mem_cons,List.not_mem_nil,or_false,not_or]at hb;exact up b o hb.2.1 hb.2.2.1 hb.2.2.2.1 hb.2.2.2.2 e
  ·refine⟨fun j v hj=>?_,zl.2⟩;obtain⟨T,x,y,h1,h2,h3,h4,h5,h6⟩:=zl.1 j v hj;have h2':=h2;simp only[List.mem_cons,List.not_mem_nil,or_false,not_or]at h2';exact⟨T,x,y,h1,h2,h3,h4,up T _ h2'.2.1 h2'.2.2.1 h2'.2.2.2.1 h2'.2.2.2.2 h5,h6⟩
 |succ m ih=>
  intro i s acc c hm hi Z L1 L2 hS ha hm0 zl hR;have hlt:i<min xs.size ys.size:=by omega
  have hix:i<xs.size:=Nat.lt_of_lt_of_le hlt (Nat.min_le_left ..);have hiy:i<ys.size:=Nat.lt_of_lt_of_le hlt (Nat.min_le_right ..);refine codeAny_builtin F.entry_extend_loop ?_;rw[Around.under_plainId F.plain_extend_loop _];show wpAny _ A.in1 (pyNext (.ref z)>>=_) _ _ s;refine wpAny_bind (ce1 D Z L1 L2 (Array.getElem?_eq_getElem hix) (Array.getElem?_eq_getElem hiy) fun h1 Z1 T1 sz1 up1=>?_);have hS1:=up1 S _ s1 s3 s4 s5 hS;have lt:∀{c o},s.heap.get? c=some o→s.heap.objs.size≠c:=fun e=>Nat.ne_of_gt (Heap.lt_size e);have nT:s.heap.objs.size∉[S,z,TO,i1,i2]:=by
   obtain⟨⟨f,fb,Z0,hf⟩,PI,⟨a,b,PO⟩,I1,I2⟩:=Z;obtain⟨o1,e1,_⟩:=I1.obj;obtain⟨o2,e2,_⟩:=I2.obj;simp only[List.mem_cons,List.not_mem_nil,or_false,not_or];exact⟨lt hS,lt Z0,lt PO,lt e1,lt e2⟩
  show wpAny _ A.in1 (updateSeq S (·.push (.ref s.heap.objs.size))>>=_) _ _ _;refine wpAny_bind ?_;have oth:∀b o,b≠S→h1.get? b=some o→(h1.update S (Obj.mapSeq (·.push (.ref s.heap.objs.size)))).get? b=some o:=fun b o hb e=>(Heap.get?_update_other _ _ (Ne.symm hb)).trans e;have nTS:s.heap.objs.size≠S:=fun v=>nT (by simp[v]);refine wpAny_updateSeq hS1 rfl (wpAny_pure ⟨plainId_quiet F.plain_extend_loop _,ih (i+1) {s with heap:=_} (acc.push (.ref s.heap.objs.size)) _ (by omega) hlt ?_ ?_ ?_ (Heap.get?_update_self _ hS1 rfl) (by rw[Array.size_push,ha]) ?_ ?_ fun h2 acc' c' up2 hS2 ha2 zl2=>?_⟩)
   (by rw[ha,sizeLine_eq];omega) (by show(acc.push _).size≤sizeLine+1;rw[Array.size_push,ha,sizeLine_eq];omega)
  ·refine Z1.stay fun c hc o e=>oth c o (fun v=>?_) e;subst v;simp only[List.mem_cons,List.not_mem_nil,or_false]at hc
   rcases hc with v|v|v|v|v
   ·exact s1 v
   ·exact s2 v
   ·exact s3 v
   ·exact s4 v
   ·exact s5 v
  ·exact(L1.stay fun o e=>up1 _ _ D.l1z D.l1TO D.l1i1 D.l1i2 e).stay fun o e=>oth _ o (Ne.symm s6) e
  ·exact(L2.stay fun o e=>up1 _ _ D.l2z D.l2TO D.l2i1 D.l2i2 e).stay fun o e=>oth _ o (Ne.symm s7) e
  ·show m0≤(h1.update S _).objs.size;rw[(Heap.SameBut.update h1 S _).1,sz1];omega
  ·have old:∀(j:Nat),acc[j]?≠some (.ref s.heap.objs.size):=fun j hj=>by
    obtain⟨T,x,y,g1,g2,g3,g4,g5,g6⟩:=zl.1 j _ hj;cases g1;exact absurd (Heap.lt_size g5) (Nat.lt_irrefl _)
   refine⟨fun j v hj=>?_,fun j k v hj hk=>?_⟩
   ·rw[Array.getElem?_push]at hj
    split at hj
    ·rename_i hjs;cases hj;rw[hjs,ha];exact⟨_,_,_,rfl,nT,Array.getElem?_eq_getElem hix,Array.getElem?_eq_getElem hiy,oth _ _ nTS T1,hm0⟩
    ·obtain⟨T,x,y,g1,g2,g3,g4,g5,g6⟩:=zl.1 j v hj;have g2':=g2;simp only[List.mem_cons,List.not_mem_nil,or_false,not_or]at g2';exact⟨T,x,y,g1,g2,g3,g4,oth _ _ g2'.1 (up1 T _ g2'.2.1 g2'.2.2.1 g2'.2.2.2.1 g2'.2.2.2.2 g5),g6⟩
   ·rw[Array.getElem?_push]at hj hk
    split at hj
    ·split at hk
     ·omega
     ·cases hj;exact absurd hk (old k)
    ·split at hk
     ·cases hk;exact absurd hj (old j)
     ·exact zl.2 j k v hj hk
  ·refine hR h2 acc' c' (fun b o hb e=>up2 b o hb ?_) hS2 ha2 zl2;simp only[List.mem_cons,List.not_mem_nil,or_false,not_or]at hb;exact oth b o hb.1 (up1 b o hb.2.1 hb.2.2.1 hb.2.2.2.1 hb.2.2.2.2 e)
theorem bz1:typeLookup (.type "zip") "__len__"=pure none:=by rw[typeLookup_type,builtinLookup_eq_fast];kernel_rfl
theorem bx4:typeLookup (.type "zip") "__length_hint__"=pure none:=by rw[typeLookup_type,builtinLookup_eq_fast];kernel_rfl
theorem b18{m0:Nat}{b1 b2:Bool}{z TI TO i1 i2 l1 l2 S:Addr}{xs ys:Array Value}{res:Value}{R:Result→Shared→Prop}{c0:Nat}(hh:A.handled=none)(D:ZipApart z TI TO i1 i2 l1 l2)(nS:S∉[z,TI,TO,i1,i2,l1,l2])(hz:min xs.size ys.size≤1000000)
  (Z:ZAt b1 b2 z TI TO i1 i2 l1 l2 0 s.heap) (L1:m6 b1 s.heap l1 xs) (L2:m6 b2 s.heap l2 ys) (hS:s.heap.get? S=some {cls:=.type "list",data:=.seq #[] c0}) (hm0:m0≤s.heap.objs.size)
  (hR:∀h' acc' c',(∀b o,b∉[S,z,TO,i1,i2]→s.heap.get? b=some o→h'.get? b=some o)→h'.get? S=some {cls:=.type "list",dict:=none,data:=.seq acc' c',slots:=#[]}→acc'.size=min xs.size ys.size→ZL m0 [S,z,TO,i1,i2] h' xs ys acc'→R (.ok (.ret res)) {s with heap:=h'}) :
  wpAny (model prog w) A.in1 (Builtin.List.listExtendWith (.ref S) (.ref z) res)
   (fun fin s'=>match fin with|.done f=>R (.ok f) s'|.again c'=>c'.quiet=true∧codeAny (model prog w) A c' R s') (fun e s'=>R (.error e) s') s:=by
 have nS':=nS;simp only[List.mem_cons,List.not_mem_nil,or_false,not_or]at nS';obtain⟨s1,s2,s3,s4,s5,s6,s7⟩:=nS';unfold Builtin.List.listExtendWith;refine wpAny_bind (wpAny_typeOf Z.type ?_);have h1:Builtin.List.listSameRef (.ref S) (.ref z)=false:=by simp[Builtin.List.listSameRef,s1]
 have h2:(Value.type "zip"==Value.type "list")=false:=by decide
 have h3:(Value.type "zip"==Value.type "tuple")=false:=by decide
 simp only[h1,h2,h3,Bool.or_false,Bool.false_eq_true,if_false];refine wpAny_bind (az8 Z (wpAny_bind (wpAny_holding ?_)));unfold Builtin.List.listLengthHint;refine wpAny_bind (wpAny_specialOf Z.type bz1 ?_);show wpAny _ A.in1 (specialOf (Value.ref z) (Str.ofString "__length_hint__")>>=_) _ _ _;refine wpAny_bind (wpAny_specialOf Z.type bx4 (wpAny_pure ?_));show wpAny _ A.in1 (rule "list.extend.makes-room">>=fun _=>Builtin.List.listTouch (.ref S)>>=fun _=>again (.builtin "list.extend.loop" ⟨[.ref S,.ref z,res],[]⟩)) _ _ _;refine wpAny_bind (wpAny_rule (wpAny_bind ?_));show wpAny _ A.in1 (updateSeq S (·.push .none)>>=fun _=>updateSeq S (·.pop)) _ _ _;refine wpAny_bind (wpAny_updateSeq hS rfl ?_);have k2:=Heap.get?_update_self (Obj.mapSeq (·.push Value.none)) hS rfl;refine wpAny_updateSeq (hz:=by seq_fits) k2 rfl ?_;have k3:=Heap.get?_update_self (Obj.mapSeq (·.pop)) k2 rfl;have oth:∀b o,b≠S→s.heap.get? b=some o→((s.heap.update S (Obj.mapSeq (·.push Value.none))).update S (Obj.mapSeq (·.pop))).get? b=some o:=fun b o hb e=>(Heap.get?_update_other _ _ (Ne.symm hb)).trans ((Heap.get?_update_other _ _ (Ne.symm hb)).trans e);refine wpAny_pure ⟨plainId_quiet F.plain_extend_loop _,cb7 (m0:=m0) hh D nS hz (min xs.size ys.size) 0 {s with heap:=_} #[] _ (by omega) (Nat.zero_le _) (Z.stay fun c hc o e=>oth c o (fun v=>?_) e) (L1.stay fun o e=>oth _ o (Ne.symm s6) e) (L2.stay fun o e=>oth _ o (Ne.symm s7) e) k3 rfl ?_ ⟨fun j v hj=>by simp at hj,fun j k v hj=>by simp at hj⟩ fun h' acc' c' up hS' ha' zl'=>?_⟩
 ·subst v;simp only[List.mem_cons,List.not_mem_nil,or_false]at hc
  rcases hc with v|v|v|v|v
  ·exact s1 v
  ·exact s2 v
  ·exact s3 v
  ·exact s4 v
  ·exact s5 v
 ·show m0≤((s.heap.update S _).update S _).objs.size;rw[(Heap.SameBut.update _ S _).1,(Heap.SameBut.update _ S _).1];exact hm0
 ·exact hR h' acc' c' (fun b o hb e=>up b o hb (oth b o (fun v=>hb (by simp[v])) e)) hS' ha' zl'
theorem bw5{b1 b2:Bool}{z TI TO i1 i2 l1 l2:Addr}{xs ys:Array Value}{Q:Value→Shared→Prop}(hh:A.handled=none)(D:ZipApart z TI TO i1 i2 l1 l2)(hlt:∀c∈[z,TI,TO,i1,i2,l1,l2],c<s.heap.objs.size)(hz:min xs.size ys.size≤1000000)
  (Z:ZAt b1 b2 z TI TO i1 i2 l1 l2 0 s.heap) (L1:m6 b1 s.heap l1 xs) (L2:m6 b2 s.heap l2 ys)
  (hQ:∀h' acc' c',(∀b o,b∉[z,TO,i1,i2]→s.heap.get? b=some o→h'.get? b=some o)→h'.get? s.heap.objs.size=some {cls:=.type "list",dict:=none,data:=.seq acc' c',slots:=#[]}→acc'.size=min xs.size ys.size→ZL s.heap.objs.size [s.heap.objs.size,z,TO,i1,i2] h' xs ys acc'→Q (.ref s.heap.objs.size) {s with heap:=h'}) :
  wpAny (model prog w) A (call (.type "list") [.ref z]) Q E s:=by
 have nS:s.heap.objs.size∉[z,TI,TO,i1,i2,l1,l2]:=fun v=>Nat.lt_irrefl _ (hlt _ v);refine callType_codes (Q₁:=fun obj u=>obj=.ref s.heap.objs.size∧u={s with heap:=s.heap.push {cls:=.type "list",data:=.seq #[]}}) F.called_list (F.typeCall_list_1 _) F.entry_list_init (code_list_new _ ⟨rfl,rfl⟩) fun obj u hu=>?_;obtain⟨rfl,rfl⟩:=hu;have hS:(s.heap.push {cls:=.type "list",data:=.seq #[]}).get? s.heap.objs.size=some {cls:=.type "list",data:=.seq #[]}:=Heap.get?_push_size _ rfl;refine⟨⟨_,hS,rfl⟩,F.args_list_init_2 _ _,?_⟩;show wpAny _ A.in1.in1 (do let old ←Builtin.List.listItems (.ref s.heap.objs.size);Builtin.List.listUpdate (.ref s.heap.objs.size) (fun _=>#[]);letGo old.toList.reverse;Builtin.List.listExtendWith (.ref s.heap.objs.size) (.ref z) .none) _ _ _;refine wpAny_bind ?_;unfold Builtin.List.listItems;refine wpAny_bind (wpAny_seqItems hS rfl (wpAny_pure ?_));show wpAny _ A.in1.in1 (updateSeq s.heap.objs.size (fun _=>#[])>>=fun _=>letGo (#[]:Array Value).toList.reverse>>=fun _=>Builtin.List.listExtendWith (.ref s.heap.objs.size) (.ref z) .none) _ _ _;refine wpAny_bind (wpAny_updateSeq hS rfl ?_);have k2:=Heap.get?_update_self (Obj.mapSeq (fun _=>(#[]:Array Value))) hS rfl;have oth:∀b o,s.heap.get? b=some o→((s.heap.push {cls:=.type "list",data:=.seq #[]}).update s.heap.objs.size (Obj.mapSeq (fun _=>(#[]:Array Value)))).get? b=some o:=fun b o e=>(Heap.get?_update_other _ _ (Nat.ne_of_gt (Heap.lt_size e))).trans (Heap.get?_push_of_some _ e);refine wpAny_bind (wpAny_letGo ?_);refine b18 (m0:=s.heap.objs.size) (A:=A.in1) hh D nS hz (Z.stay fun c hc o e=>oth c o e) (L1.stay fun o e=>oth _ o e) (L2.stay fun o e=>oth _ o e) k2 ?_ fun h' acc' c' up hS' ha' zl'=>?_
 ·show s.heap.objs.size≤((s.heap.push _).update _ _).objs.size;rw[(Heap.SameBut.update _ _ _).1,Heap.size_push];omega
 refine⟨rfl,hQ h' acc' c' (fun b o hb e=>up b o (fun v=>?_) (oth b o e)) hS' ha' zl'⟩
 rcases List.mem_cons.mp v with v|v
 ·exact absurd (Heap.lt_size e) (by rw[v];exact Nat.lt_irrefl _)
 ·exact hb v
end
end PySem
namespace PySem
section
variable {prog:Program} {w:World} {A:Around} {E:Value→Shared→Prop} {s:Shared}
noncomputable def ZFr(b1 b2:Bool)(z TI TO i1 i2 l1 l2:Addr)(k:Nat)(h:Heap):Prop:=r9 h z TI TO .none false∧IsPair h TI (.ref i1) (.ref i2)∧(∃a b,IsPair h TO a b)∧o0 b1 h i1 l1 k∧o0 b2 h i2 l2 k
theorem ZFr.at{b1 b2:Bool}{z TI TO i1 i2 l1 l2:Addr}{k:Nat}{h:Heap}(Z:ZFr b1 b2 z TI TO i1 i2 l1 l2 k h):ZAt b1 b2 z TI TO i1 i2 l1 l2 k h:=⟨⟨_,_,Z.1,.inl rfl⟩,Z.2⟩
theorem cf9{b1 b2:Bool}{z TI TO i1 i2 l1 l2:Addr}{k:Nat}{xs ys:Array Value}{x y:Value}{Q:Option Value→Shared→Prop}(D:ZipApart z TI TO i1 i2 l1 l2)(Z:ZFr b1 b2 z TI TO i1 i2 l1 l2 k s.heap)(L1:m6 b1 s.heap l1 xs)(L2:m6 b2 s.heap l2 ys)(hx:xs[k]?=some x)(hy:ys[k]?=some y)
  (q:∀h',r9 h' z TI TO (rawInt s.heap.objs.size) false→IsPair h' TI (.ref i1) (.ref i2)→(∃a b,IsPair h' TO a b)→o0 b1 h' i1 l1 (k+1)→o0 b2 h' i2 l2 (k+1)→IsPair h' s.heap.objs.size x y→h'.objs.size=s.heap.objs.size+1→(∀c o,c≠z→c≠TO→c≠i1→c≠i2→s.heap.get? c=some o→h'.get? c=some o)→Q (some (.ref s.heap.objs.size)) {s with heap:=h'}):wpAny (model prog w) A (pyNext (.ref z)) Q E s:=by
 have ty:=Z.at.type;obtain⟨Z0,PI,⟨a,b,PO⟩,I1,I2⟩:=Z;unfold pyNext;refine wpAny_bind (wpAny_attempt (wpAny_callSpecial?_slot (name:=Str.ofString "__next__") ty F.slot_zip_next (wpAny_call_entry F.slot_zip_next ty F.entry_zip_next ?_ (F.args_zip_next_1 _))));exact bi7 D Z0 (fun R r=>ay5 Z0 r) PI PO I1 I2 L1 L2 hx hy fun h' c1 c2 c3 c4 c5 c6 c7=>wpAny_pure (q h' c1 (c7 _ _ D.TIz D.TITO D.TIi1 D.TIi2 PI) ⟨_,_,c2⟩ c3 c4 c5 c6 c7)
end
end PySem
namespace L2
open PySem PySem.Spec PyProof.Rows
section
variable {X:Cx} {pins:List (Addr×Obj)} {σ:St} {H:Hp} {s:Shared}
theorem Inv.track{b:Addr}{o:HO}(I:Inv X pins σ H s)(hb:y9 X pins H b)(new:m8 X.prog X.w (upd H b o) s.heap b o):Inv X pins σ (upd H b o) s:=by
 obtain⟨h0,h1,h2,h3,h4,h5⟩:=hb;have ne:∀c u,H c=some u→c≠b:=fun c u e z=>by rw[z,h0]at e;cases e
 have:=I.step (H':=upd H b o) (h':=s.heap) (g':=s.gens) (d':=s.drawn) (t':=s.toks) (ch:=[b]) (fun c hc=>by
   have e:c=b:=by simpa using hc
   subst e;exact⟨h3,h1,h4,h5⟩) (fun c u _ _ _ e _=>e) (fun c u _ _ _ e _=>⟨u.slots,e⟩) (fun c u hc e n=>by rw[i8 (by simpa using hc)];exact n) (fun c u _ e=>⟨u,e⟩)
  (fun c xs e=>by rw[i8 (ne c _ e)];exact e) (fun c u v e=>by rw[i8 (ne c _ e)];exact e) (fun c ps e=>⟨#[],by rw[i8 (ne c _ e),e];simp⟩) (fun m hm=>hm) (fun c u e=>?_) I.bare
 ·exact this
 ·by_cases hc:c=b
  ·subst hc;rw[o8]at e;cases e;exact new
  ·rw[i8 hc]at e;exact(I.hok c u e).stay (fun _ _ _ q=>q) (fun d q=>by rw[i8 (ne d _ q)];exact q) fun d xs q=>by rw[i8 (ne d _ q)];exact q
noncomputable def SqB(b:Bool)(K:W.Frag)(H:Hp)(a:Addr)(xs:List V):Prop:=match b with|true=>SqT K H a xs|false=>SqL K H a xs
theorem Inv.seqB{b:Bool}{a:Addr}{xs:List V}(I:Inv X pins σ H s)(h:SqB b X.K H a xs):∃its:List Value,e9 xs its∧m6 b s.heap a its.toArray∧xs.length≤sizeLine:=by
 cases b with
 |true=>obtain⟨its,rv,pl,hz⟩:=I.tuple h;exact⟨its,rv,show s.heap.IsTuple a its.toArray from pl,hz⟩
 |false=>obtain⟨its,rv,pl,hz⟩:=I.list h;exact⟨its,rv,pl.isList,hz⟩
theorem Inv.seqB_inj{b:Bool}{a:Addr}{xs ys:List V}(I:Inv X pins σ H s)(h1:SqB b X.K H a xs)(h2:SqB b X.K H a ys):xs=ys:=by
 cases b with
 |true=>exact I.tuple_inj h1 h2
 |false=>exact I.list_inj h1 h2
end
noncomputable def Itz(K:W.Frag)(b1 b2:Bool)(l1 l2:Addr):It:=
 ⟨fun i H=>∃xs ys x y,SqB b1 K H l1 xs∧SqB b2 K H l2 ys∧xs[i]?=some x∧ys[i]?=some y,
   fun i H x H'=>∃t v u,H t=none∧x=.ref t∧H'=upd H t (.tup [v,u])∧(∀xs,SqB b1 K H l1 xs→xs[i]?=some v)∧∀ys,SqB b2 K H l2 ys→ys[i]?=some u,
   fun i H=>∃xs ys,SqB b1 K H l1 xs∧SqB b2 K H l2 ys∧(xs[i]?=none∨ys[i]?=none)⟩
theorem b51{P:Program}{w:World}{K:W.Frag}{elts:List Expr}{k0:Nat}{tp:Pos}{b1 b2:Bool}{z TI TO i1 i2 l1 l2:Addr}(D:ZipApart z TI TO i1 i2 l1 l2):
  Turn P w K (.Tuple elts k0 tp) (Itz K b1 b2 l1 l2) [z,TI,TO,i1,i2] z (fun i h=>ZFr b1 b2 z TI TO i1 i2 l1 l2 i h) where
 mem:=by simp
 obj:=fun i h st b hb=>by
  obtain⟨Z0,PI,⟨a,b',PO⟩,I1,I2⟩:=st;simp only[List.mem_cons,List.not_mem_nil,or_false]at hb
  rcases hb with rfl|rfl|rfl|rfl|rfl
  ·exact⟨_,Z0,fun v z=>by cases z⟩
  ·exact⟨_,PI,fun v z=>by cases z⟩
  ·exact⟨_,PO,fun v z=>by cases z⟩
  ·exact I1.obj
  ·exact I2.obj
 keep:=fun i h h' st k=>by
  obtain⟨Z0,PI,⟨a,b',PO⟩,I1,I2⟩:=st;exact⟨k z (by simp) _ Z0,k TI (by simp) _ PI,⟨a,b',k TO (by simp) _ PO⟩,I1.stay fun o e=>k i1 (by simp) o e,I2.stay fun o e=>k i2 (by simp) o e⟩
 item:=by
  intro X hP hw hK hc i pins s σ H E I hf st hg;subst hP hw hK;obtain⟨xs,ys,x,y,q1,q2,hx,hy⟩:=hg;obtain⟨its,rv,L1,hz⟩:=I.seqB q1;obtain⟨jts,rw',L2,hz2⟩:=I.seqB q2;obtain⟨u,hu,ru⟩:=rv.get hx;obtain⟨u2,hu2,ru2⟩:=rw'.get hy;have st':=st;refine cf9 D st L1 L2 (by simpa using hu) (by simpa using hu2) fun h1 c1 c2 c3 c4 c5 c6 c7 c8=>?_;refine⟨_,rfl,?_⟩;refine wpAny_letOwnedTupleGo_zip c1 fun h2 e2 hs2=>?_;have q2':Heap.SameBut z h1 h2:=hs2;have zlt:z<s.heap.objs.size:=Heap.lt_size st'.1;have kk:∀b u,b∉[z,TI,TO,i1,i2]→s.heap.get? b=some u→h2.get? b=some u:=fun b u hb q=>by
   simp only[List.mem_cons,List.not_mem_nil,or_false,not_or]at hb;exact(q2'.2 b hb.1).trans (c8 b u hb.1 hb.2.2.1 hb.2.2.2.1 hb.2.2.2.2 q)
  have hT2:h2.get? s.heap.objs.size=some {cls:=.type "tuple",data:=.seq #[u,u2]}:=(q2'.2 _ (Nat.ne_of_gt zlt)).trans c6;obtain⟨a,b',c3⟩:=c3;have stn:ZFr b1 b2 z TI TO i1 i2 l1 l2 (i+1) h2:=⟨e2,(q2'.2 _ D.TIz).trans c2,⟨a,b',(q2'.2 _ D.TOz).trans c3⟩,c4.stay fun o e=>(q2'.2 _ D.i1z).trans e,c5.stay fun o e=>(q2'.2 _ D.i2z).trans e⟩;have hT':H s.heap.objs.size=none:=I.hok.fresh (Nat.le_refl _);have I1:Inv X pins σ (upd H s.heap.objs.size (.tup [x,y])) {s with heap:=h2,toks:=s.toks}:=by
   refine I.turnedNew (ch:=[z,TI,TO,i1,i2]) hf kk (fun b hb=>?_) ?_
   ·obtain⟨Z0,PI,⟨a,b',PO⟩,I1,I2⟩:=stn;simp only[List.mem_cons,List.not_mem_nil,or_false]at hb
    rcases hb with rfl|rfl|rfl|rfl|rfl
    ·exact⟨_,Z0⟩
    ·exact⟨_,PI⟩
    ·exact⟨_,PO⟩
    ·obtain⟨o,e,_⟩:=I1.obj;exact⟨o,e⟩
    ·obtain⟨o,e,_⟩:=I2.obj;exact⟨o,e⟩
   ·exact⟨by show 2≤sizeLine;decide,[u,u2],.cons ru (.cons ru2 .nil),⟨_,hT2,rfl,rfl,_,rfl⟩⟩
  refine⟨.ref s.heap.objs.size,_,I1,rfl,⟨s.heap.objs.size,x,y,hT',rfl,rfl,fun zs hq=>by rw[I.seqB_inj hq q1];exact hx,fun zs hq=>by rw[I.seqB_inj hq q2];exact hy⟩,stn,fun b hb=>?_⟩;have nb:b≠s.heap.objs.size:=by
   obtain⟨Z0,PI,⟨a,b',PO⟩,I1,I2⟩:=st';simp only[List.mem_cons,List.not_mem_nil,or_false]at hb
   rcases hb with rfl|rfl|rfl|rfl|rfl
   ·exact Nat.ne_of_lt (Heap.lt_size Z0)
   ·exact Nat.ne_of_lt (Heap.lt_size PI)
   ·exact Nat.ne_of_lt (Heap.lt_size PO)
   ·obtain⟨o,e,_⟩:=I1.obj;exact Nat.ne_of_lt (Heap.lt_size e)
   ·obtain⟨o,e,_⟩:=I2.obj;exact Nat.ne_of_lt (Heap.lt_size e)
  rw[i8 nb];exact(hf b hb).1
 done:=by
  intro X hP hw hK hc i pins s σ H E I hf st hg;subst hP hw hK;obtain⟨xs,ys,q1,q2,he⟩:=hg;obtain⟨its,rv,L1,hz⟩:=I.seqB q1;obtain⟨jts,rw',L2,hz2⟩:=I.seqB q2;have l1':=rv.length;have l2':=rw'.length;refine bh9 (I.ok.hd hc) D st.at L1 L2 ?_ fun h1 up=>⟨rfl,?_⟩
  ·rcases he with e|e
   ·refine .inl ?_;have:=List.getElem?_eq_none_iff.mp e;simp;omega
   ·refine .inr ?_;have:=List.getElem?_eq_none_iff.mp e;simp;omega
  ·exact I.turnedAll (t':=s.toks) (ch:=[z,TI,TO,i1,i2]) hf fun b u hb q=>by
    simp only[List.mem_cons,List.not_mem_nil,or_false,not_or]at hb;exact up b u hb.1 hb.2.2.1 hb.2.2.2.1 hb.2.2.2.2 q
 self:=fun A i s Q E st h=>az8 st.at h
section
variable {X:Cx}
theorem be9:bootBuiltins "zip"=some (.type "zip"):=by decide+kernel
theorem co9{elts:List Expr}{k0:Nat}{tp:Pos}{pins:List (Addr×Obj)}{σ:St}{H1:Hp}{s1:Shared}{R:It→Hp→Prop}{b1 b2:Bool}{l1 l2:Addr}{xs ys:List V}{E:Value→Shared→Prop}(I1:Inv X pins σ H1 s1)(q1:SqB b1 X.K H1 l1 xs)(q2:SqB b2 X.K H1 l2 ys)(q:R (Itz X.K b1 b2 l1 l2) H1):
  wpAny (model X.prog X.w) X.A (call (.type "zip") [.ref l1,.ref l2]) (fun v s=>wpAny (model X.prog X.w) X.A (pyIter v) (PIE X pins σ (.Tuple elts k0 tp) R) E s) E s1:=by
 obtain⟨its,rv,L1,hz⟩:=I1.seqB q1;obtain⟨jts,rw',L2,hz2⟩:=I1.seqB q2;refine bc3 L1 L2 fun h' Z Z0 sz kk=>az8 Z ?_;have I2:Inv X pins σ H1 {s1 with heap:=h'}:=I1.kept (t':=s1.toks) kk;obtain⟨_,PI,PO,J1,J2⟩:=Z;refine⟨s1.heap.objs.size+4,[s1.heap.objs.size+4,s1.heap.objs.size+2,s1.heap.objs.size+3,s1.heap.objs.size,s1.heap.objs.size+1],_,_,H1,rfl,I2,b51 (zipApart_new L1.lt L2.lt),⟨Z0,PI,PO,J1,J2⟩,fun b hb=>?_,q⟩;have hlt:s1.heap.objs.size≤b:=by
  simp only[List.mem_cons,List.not_mem_nil,or_false]at hb
  rcases hb with rfl|rfl|rfl|rfl|rfl
  ·exact Nat.le_add_right _ _
  ·exact Nat.le_add_right _ _
  ·exact Nat.le_add_right _ _
  ·exact Nat.le_refl _
  ·exact Nat.le_add_right _ _
 exact I1.fpOk hlt (I1.hok.fresh hlt)
end
end L2
namespace L2
open PySem PySem.Spec PyProof.Rows
section
variable {X:Cx}
noncomputable def c38:V→List V→Hp→VK→Prop:=fun x vs H Q=>∃l xs,x=.ref l∧vs=[]∧H l=some (.lst xs)∧Q .non (upd H l (.lst xs.reverse))
theorem cm7:MtM X "list.reverse" c38:=by
 intro pins s σ H x vs v us Q I rx rv h;obtain⟨l,xs,rfl,rfl,hH,q⟩:=h;cases rx;have hus:=rv.zero;subst hus;obtain⟨z,its,n,r,hl,e⟩:=I.lstM hH;refine call_meets F.slot_list_reverse ⟨_,e,rfl⟩ F.entry_list_reverse (F.args_list_reverse_1 _) (AutoSeq1.list_reverse_list_0 l its.toArray n (by rw[List.size_toArray];omega)) ⟨e,?_⟩;refine⟨.non,_,I.lset (its':=its.reverse) hH e ?_ r.reverse ?_,rfl,q⟩
 ·simp
 ·rw[List.length_reverse];omega
end
end L2
namespace Ek
open PySem PySem.Spec PyProof.Rows L2
variable [Tbs]
section
variable {X:Cx} {a:Expr} {ta:DT} {pos:Pos}
theorem ce4{apos:Pos}(ha:PE X a (up X.K ta))(hbase:∀i p p',a≠.Call (.Name i p) [] [] p')(hline:(apos.endLine==pos.line)=true):
  PE X (.Call (.Attribute a "reverse" apos) [] [] pos) (up X.K fun env st Q=>ta env st fun x st1=>aa0 x st1 Q):=
 PE.imp (bo0 PySem.F.plainAttrs_list PySem.F.slot_list_reverse PySem.F.type_list_reverse cm7 ha (E3 hbase) hline) fun σ H Q q=>up1 (f:=aa0) q fun v d H' st' Qd is rs ht hq=>by
  cases d<;>first|exact False.elim ht|skip
  obtain⟨ds,hr,ht⟩:=ht;obtain⟨vs,hH,r⟩:=rs.lst hr;rw[is.ref_inv];exact⟨.inl ⟨rfl,vs,.inl (.inl hH)⟩,_,vs,rfl,rfl,hH,hq _ _ _ (d7 st' _ (.lst ds.reverse)) (Ev.put hr) .non (rs.putOld hH r.rev) ht⟩
end
end Ek
namespace PySem
open PyProof.Rows
namespace F
end F
end PySem
namespace PySem
open PyProof.Rows
end PySem
namespace PySem
open PyProof.Rows
end PySem
namespace PySem
open PyProof.Rows
end PySem
namespace PySem
open PyProof.Rows
end PySem
namespace L2
open PySem PySem.Spec PyProof.Rows
end L2
namespace Ek
open PySem PySem.Spec PyProof.Rows L2
variable [Tbs]
end Ek
namespace Ek
open PySem PySem.Spec PyProof.Rows L2
variable [Tbs]
section
variable {X:Cx} {a b:Expr} {ta tb:DT} {pos p:Pos} {K:W.Frag}
theorem ay0(ds es:List D):(p7 ds es).length=min ds.length es.length:=by unfold p7;rw[List.length_map,List.length_zip]
theorem b70{ds es:List D}{i:Nat}{d e:D}(h1:ds[i]?=some d)(h2:es[i]?=some e):(p7 ds es)[i]?=some (.tup [d,e]):=by
 have h:(ds.zip es)[i]?=some (d,e):=List.getElem?_zip_eq_some.mpr ⟨h1,h2⟩;unfold p7;rw[List.getElem?_map,h];rfl
theorem cq0{b1 b2:Bool}{l1 l2:Addr}{ds es:List D}{H1:Hp}{chk:Sto→Prop}(h:∀st H,TK K H1 H→RelS K st H→chk st→(∃vs,SqB b1 K H l1 vs∧IsDs K H ds vs)∧∃us,SqB b2 K H l2 us∧IsDs K H es us):ItOk K H1 (Itz K b1 b2 l1 l2) (p7 ds es) chk where
 go:=fun i st H tk rs hc hi=>by
  obtain⟨⟨vs,hs,r⟩,us,hu,r2⟩:=h st H tk rs hc;rw[ay0]at hi;obtain⟨v,hv,_⟩:=r.get (List.getElem?_eq_getElem (show i<ds.length by omega));obtain⟨u,hu',_⟩:=r2.get (List.getElem?_eq_getElem (show i<es.length by omega));exact⟨vs,us,v,u,hs,hu,hv,hu'⟩
 yld:=fun i st H x H' tk rs hc hi y=>by
  obtain⟨t,v,u,ht,rfl,rfl,y1,y2⟩:=y;obtain⟨⟨vs,hs,r⟩,us,hu,r2⟩:=h st H tk rs hc;obtain⟨d,hd,is⟩:=r.get' (y1 vs hs);obtain⟨e,he,is2⟩:=r2.get' (y2 us hu);exact⟨_,b70 hd he,IsD.mk (SqX.of o8) (.cons (is.mono (TK.new ht)) (.cons (is2.mono (TK.new ht)) .nil)),Ev.new ht,rs.new ht⟩
 stop:=fun st H tk rs hc=>by
  obtain⟨⟨vs,hs,r⟩,us,hu,r2⟩:=h st H tk rs hc;refine⟨vs,us,hs,hu,?_⟩;rw[ay0,r.len,r2.len]
  rcases Nat.le_total vs.length us.length with z|z
  ·exact .inl (by rw[Nat.min_eq_left z];exact List.getElem?_eq_none (Nat.le_refl _))
  ·exact .inr (by rw[Nat.min_eq_right z];exact List.getElem?_eq_none (Nat.le_refl _))
theorem bn9{d:D}{xs:List D}{v:V}{st1:Sto}{H1:Hp}(is:IsD K H1 d v)(hi:t7 st1 d xs):∃b l,v=.ref l∧∀st H,TK K H1 H→RelS K st H→t7 st d xs→∃vs,SqB b K H l vs∧IsDs K H xs vs:=by
 cases d<;>first|exact False.elim hi|skip
 ·have e:_=xs:=hi;subst e;obtain⟨l,vs,rfl,hsq,r⟩:=is.tup_inv;exact⟨true,l,rfl,fun st H tk rs _=>⟨vs,tk.1.1 _ _ hsq,r.mono tk⟩⟩
 ·exact⟨false,_,is.ref_inv,fun st H tk rs hc=>rs.rd hc⟩
theorem cl5{elts:List Expr}{k0:Nat}{tp:Pos}(hg:Gl X "zip")(hm:X.mg "zip"=none)(ha:PE X a (up X.K ta))(hb:PE X b (up X.K tb))(hs:∀e p,a≠.Starred e p)(hs':∀e p,b≠.Starred e p):PI X (.Tuple elts k0 tp) (.Call (.Name "zip" p) [a,b] [] pos)
  (upI X.K fun env st k=>ta env st fun d st1=>tb env st1 fun e st2=>∃xs ys,t7 st2 d xs∧t7 st2 e ys∧k (p7 xs ys) (fun st'=>t7 st' d xs∧t7 st' e ys) st2):=by
 have hst2:starEach [b] X.env=[(false,eval b X.env)]:=by rw[n8 hs'];rfl
 have hst:starEach [a,b] X.env=(false,eval a X.env)::starEach [b] X.env:=by rw[n8 hs]
 intro pins s σ H R I q;obtain⟨env,st,kk,hE,hS,ht,hq⟩:=q;have hA:=al7 ha hb hs hs';refine Call_ (G5 I hg hm L2.be9 (PyProof.Rows.callWith_type1 (thn (hA pos pins s σ H (fun vs H1=>∃v w d e st1,vs=[v,w]∧Ev st H st1 H1∧IsD X.K H1 d v∧IsD X.K H1 e w∧RelS X.K st1 H1∧∃xs ys,t7 st1 d xs∧t7 st1 e ys∧kk (p7 xs ys) (fun st'=>t7 st' d xs∧t7 st' e ys) st1) I
  ⟨env,st,(fun ds st1=>match ds with|[d,e]=>∃xs ys,t7 st1 d xs∧t7 st1 e ys∧kk (p7 xs ys) (fun st'=>t7 st' d xs∧t7 st' e ys) st1|_=>False),hE,hS,ht,fun vs ds H' st' ev is hl rs q1=>by
   match ds,hl with
   |[d,e],_=>
    obtain⟨v,ws,rfl,i1,i2⟩:=is.inv_cons;obtain⟨w,ws',rfl,i3,i4⟩:=i2.inv_cons;rw[i4.inv_nil];exact⟨v,w,d,e,st',rfl,ev,i1,i3,rs,q1⟩⟩) fun us s1 hh=>?_) hst (by rw[hst2];rfl)))
 obtain⟨vs,H1,I1,r1,v,w,d,e,st1,e1,ev,is,is2,rs,xs,ys,hx,hy,q1⟩:=hh;subst e1;obtain⟨u,u2,rfl,ru,ru2⟩:=r1.two;obtain⟨b1,l1,rfl,k1⟩:=bn9 is hx;obtain⟨b2,l2,rfl,k2⟩:=bn9 is2 hy;cases ru;cases ru2;obtain⟨vs,s1',_⟩:=k1 st1 H1 TK.refl rs hx;obtain⟨us,s2',_⟩:=k2 st1 H1 TK.refl rs hy;exact co9 I1 s1' s2' (hq _ _ st1 H1 _ ev rs (cq0 fun st H tk rs hc=>⟨k1 st H tk rs hc.1,k2 st H tk rs hc.2⟩) q1)
theorem ck5(hc:X.calm=true)(hg:Gl X "min")(hm:X.mg "min"=none)(ha:PE X a (up X.K ta))(hb:PE X b (up X.K tb))(hs:∀e p,a≠.Starred e p)(hs':∀e p,b≠.Starred e p):
  PE X (.Call (.Name "min" p) [a,b] [] pos) (up X.K fun env st Q=>ta env st fun x st1=>tb env st1 fun y st2=>∃i j,x=.int i∧y=.int j∧Q (.int (if j<i then j else i)) st2):=
 PE.imp (ae2 (b25 hc) hg hm (by decide+kernel) (al7 ha hb hs hs') (by decide) (by decide) (n8 hs) (by rw[n8 hs'];rfl)) fun σ H Q q=>by
  obtain⟨env,st,Qd,hE,hS,ht,hq⟩:=q;refine⟨env,st,(fun ds st1=>match ds with|[x,y]=>∃i j,x=.int i∧y=.int j∧Qd (.int (if j<i then j else i)) st1|_=>False),hE,hS,ht,fun vs ds H' st' ev is hl rs q1=>?_⟩
  match ds,hl with
  |[d,e],_=>
   obtain⟨v,ws,rfl,i1,i2⟩:=is.inv_cons;obtain⟨w,ws',rfl,i3,i4⟩:=i2.inv_cons;rw[i4.inv_nil];obtain⟨i,j,rfl,rfl,q1⟩:=q1;exact⟨i,j,by rw[i1.int_inv,i3.int_inv],(hq.after ev).here (.int _) rs q1⟩
theorem bm4:∀{ss:List Str}{its:List Value},e9 (ss.map V.str) its→StrsAre its ss
 |[],_,h=>by cases h;exact .nil
 |x::ss,_,h=>by
  cases h with
  |cons r rr=>
   obtain⟨t,rfl⟩:=r;exact .cons x t (bm4 rr)
theorem bd5:∀{ss:List Str}{its:List Value},StrsAre its ss→e9 (ss.map V.str) its
 |_,_,.nil=>.nil
 |_,_,.cons y t h=>.cons ⟨t,rfl⟩ (bd5 h)
theorem _root_.Ek.IsDs.strs{H:Hp}{ss:List Str}{vs:List V}(r:IsDs K H (ss.map D.str) vs):vs=ss.map V.str:=by
 refine List.ext_getElem? fun i=>?_;rw[List.getElem?_map];cases hv:vs[i]? with
 |none=>
  have h1:=List.getElem?_eq_none_iff.mp hv;have h2:=r.len;rw[List.length_map]at h2;rw[List.getElem?_eq_none (by omega)];rfl
 |some v=>
  have h1:=(List.getElem?_eq_some_iff.mp hv).1;have h2:=r.len;rw[List.length_map]at h2;have h3:ss[i]?=some (ss[i]'(by omega)):=List.getElem?_eq_getElem (by omega);rw[h3];have:=(r.at' i _ v (by rw[List.getElem?_map,h3];rfl) hv).str_inv;rw[this];rfl
theorem bw8:E5 X (.builtin "sorted") (fun xs H Q=>∃(q:Addr)(ss:List Str),xs=[.ref q]∧SqL X.K H q (ss.map V.str)∧ss.length<64∧∀(ts:List Str)l,ts.Perm ss→sortedS ts=true→H l=none→Q (.ref l) (upd H l (.lst (ts.map V.str)))):=by
 intro pins s σ H xs us Q I r h;obtain⟨q,ss,rfl,hq,hl,hQ⟩:=h;obtain⟨u,rfl,ru⟩:=r.one;cases ru;obtain⟨its,rv,pl,hz⟩:=I.list hq;have hle:its.length=ss.length:=by have:=rv.length;rw[List.length_map]at this;exact this.symm
 refine sorted_strs pl.isList (bm4 rv) (by omega) fun out ts a1 a2 a3=>?_;obtain⟨e,he⟩:=sortedAll_at s.heap its out;have hlt:ts.length=ss.length:=a2.length_eq;refine⟨.ref _,_,I.laid (t':=s.toks) (fun b u e=>sortedAll_old e) (Nat.le_succ _) (show m8 X.prog X.w _ _ _ (.lst (ts.map V.str)) from⟨by rw[List.length_map,hlt];exact Nat.le_of_lt (Nat.lt_of_lt_of_le hl (by decide)),out.toList,e,bd5 a1,?_⟩),rfl,hQ ts _ a2 a3 (I.hok.fresh (Nat.le_succ _))⟩;simpa[seqObj]using he
theorem b02(hg:Gl X "sorted")(hm:X.mg "sorted"=none)(ha:PE X a (up X.K ta))(hs:∀e p,a≠.Starred e p):PE X (.Call (.Name "sorted" p) [a] [] pos) (up X.K fun env st Q=>ta env st fun x st1=>a32 x st1 Q):=
 br4 bw8 hg hm boot_sorted ha hs (fun v d H' st' Qd Q is rs ht hq=>by
  cases d<;>first|exact False.elim ht|skip
  obtain⟨ss,hr,hl,ht⟩:=ht;obtain⟨vs,hs,r⟩:=rs.rd hr;refine⟨_,ss,by rw[is.ref_inv],by rw[←r.strs];exact hs,hl,fun ts l h1 h2 h3=>?_⟩;refine hq.newL rs (ds:=ts.map D.str) (vs:=ts.map V.str) ⟨by simp,fun i d v e1 e2=>?_⟩ (fun p hp=>ht ts p h1 h2 hp) l h3;rw[List.getElem?_map]at e1 e2;cases hh:ts[i]? with
  |none=>rw[hh]at e1;cases e1
  |some x=>rw[hh]at e1 e2;cases e1;cases e2;exact .str _) (by decide) (by decide)
theorem bm0{pins:List (Addr×Obj)}{σ:L2.St}{s:Shared}{st:Sto}:∀(Ts:List Addr)(vs us:List V)(i1 i2:List Value)(ds es:List D)(H:Hp),Inv X pins σ H s→RelS X.K st H→e9 vs i1→e9 us i2→IsDs X.K H ds vs→IsDs X.K H es us→Ts.length=min vs.length us.length →
  (∀(j:Nat)T x y,Ts[j]?=some T→i1[j]?=some x→i2[j]?=some y→IsPair s.heap T x y)→Ts.Nodup→(∀T∈Ts,y9 X pins H T) →
  ∃H2,Inv X pins σ H2 s∧Ev st H st H2∧RelS X.K st H2∧IsDs X.K H2 (p7 ds es) (Ts.map V.ref)∧∀b,b∉Ts→H2 b=H b
 |[],vs,us,i1,i2,ds,es,H,I,rs,_,_,r1,r2,hl,_,_,_=>by
  refine⟨H,I,Ev.refl,rs,⟨?_,fun i d v e1 e2=>by simp at e2⟩,fun b _=>rfl⟩;rw[ay0,r1.len,r2.len];simpa using hl.symm
 |T::Ts,[],us,i1,i2,ds,es,H,I,rs,v1,v2,r1,r2,hl,_,_,_=>by simp at hl
 |T::Ts,v::vs,[],i1,i2,ds,es,H,I,rs,v1,v2,r1,r2,hl,_,_,_=>by simp at hl
 |T::Ts,v::vs,u::us,[],i2,ds,es,H,I,rs,v1,v2,r1,r2,hl,hp,hn,hf=>by cases v1
 |T::Ts,v::vs,u::us,x::i1,[],ds,es,H,I,rs,v1,v2,r1,r2,hl,hp,hn,hf=>by cases v2
 |T::Ts,v::vs,u::us,x::i1,y::i2,ds,es,H,I,rs,v1',v2',r1,r2,hl,hp,hn,hf=>by
  obtain⟨a1,v1⟩:i6 v x∧e9 vs i1:=by cases v1' with|cons a b=>exact⟨a,b⟩
  obtain⟨a2,v2⟩:i6 u y∧e9 us i2:=by cases v2' with|cons a b=>exact⟨a,b⟩
  obtain⟨d,ds,rfl⟩:∃d ds',ds=d::ds':=by cases ds with|nil=>have:=r1.len;simp at this|cons d ds=>exact⟨d,ds,rfl⟩
  obtain⟨e,es,rfl⟩:∃d ds',es=d::ds':=by cases es with|nil=>have:=r2.len;simp at this|cons d ds=>exact⟨d,ds,rfl⟩
  have hpT:IsPair s.heap T x y:=hp 0 T x y rfl rfl rfl;have hfT:=hf T (by simp);have hT:H T=none:=hfT.1;have I1:Inv X pins σ (upd H T (.tup [v,u])) s:=I.track hfT ⟨by show 2≤sizeLine;decide,[x,y],.cons a1 (.cons a2 .nil),⟨_,hpT,rfl,rfl,_,rfl⟩⟩;have tk:TK X.K H (upd H T (.tup [v,u])):=TK.new hT;have hn':=List.nodup_cons.mp hn;have t1:IsDs X.K (upd H T (.tup [v,u])) ds vs:=⟨by have:=r1.len;simpa using this,fun i d' v' e1 e2=>(r1.at' (i+1) d' v' (by simpa using e1) (by simpa using e2)).mono tk⟩;have t2:IsDs X.K (upd H T (.tup [v,u])) es us:=⟨by have:=r2.len;simpa using this,fun i d' v' e1 e2=>(r2.at' (i+1) d' v' (by simpa using e1) (by simpa using e2)).mono tk⟩;obtain⟨H2,I2,ev,rs2,is,same⟩:=bm0 Ts vs us i1 i2 ds es _ I1 (rs.new hT) v1 v2 t1 t2 (by simp only[List.length_cons]at hl;omega) (fun j T' x' y' h1 h2 h3=>hp (j+1) T' x' y' (by simpa using h1) (by simpa using h2) (by simpa using h3)) hn'.2 fun T' hT'=>by
   obtain⟨f0,f⟩:=hf T' (by simp[hT']);exact⟨by rw[i8 (fun z=>hn'.1 (by rw[←z];exact hT'))];exact f0,f⟩
  have e0:H2 T=some (.tup [v,u]):=by rw[same T hn'.1];exact o8
  have d0:IsD X.K H d v:=r1.at' 0 d v rfl rfl;have d1:IsD X.K H e u:=r2.at' 0 e u rfl rfl;have tk2:TK X.K H H2:=TK.trans tk (ev.tk (rs.new hT));refine⟨H2,I2,(Ev.new hT).trans ev,rs2,?_,fun b hb=>?_⟩
  ·show IsDs X.K H2 (.tup [d,e]::p7 ds es) (.ref T::Ts.map V.ref);exact .cons (IsD.mk (SqX.of e0) (.cons (d0.mono tk2) (.cons (d1.mono tk2) .nil))) is
  ·simp only[List.mem_cons,not_or]at hb;rw[same b hb.2,i8 hb.1]
theorem ce8{p2 pos2:Pos}(hc:X.calm=true)(hg:Gl X "list")(hm:X.mg "list"=none)(hg2:Gl X "zip")(hm2:X.mg "zip"=none)(ha:PE X a (up X.K ta))(hb:PE X b (up X.K tb))(hs:∀e p,a≠.Starred e p)(hs':∀e p,b≠.Starred e p):
  PE X (.Call (.Name "list" p) [.Call (.Name "zip" p2) [a,b] [] pos2] [] pos) (up X.K fun env st Q=>ta env st fun x st1=>tb env st1 fun y st2=>∃xs ys,x=.tup xs∧y=.tup ys∧min xs.length ys.length≤1000000∧∀p,st2 p=none→Q (.ref p) (d7 st2 p (.lst (p7 xs ys)))):=by
 intro pins s σ H Q I q;obtain⟨env,st,Qd,hE,hS,ht,hq⟩:=q;have hst2:starEach [b] X.env=[(false,eval b X.env)]:=by rw[n8 hs'];rfl
 have hst:starEach [a,b] X.env=(false,eval a X.env)::starEach [b] X.env:=by rw[n8 hs]
 refine Call_ (G5 I hg hm aw7 (PyProof.Rows.callWith_type1 (Q:=_) (Calls.spliced_cons ?_) rfl rfl));refine Call_ (G5 I hg2 hm2 L2.be9 (PyProof.Rows.callWith_type1 (thn (al7 ha hb hs hs' pos2 pins s σ H (fun vs H1=>∃v w xs ys st1,vs=[v,w]∧Ev st H st1 H1∧IsD X.K H1 (.tup xs) v∧IsD X.K H1 (.tup ys) w∧RelS X.K st1 H1∧min xs.length ys.length≤1000000∧∀p,st1 p=none→Qd (.ref p) (d7 st1 p (.lst (p7 xs ys)))) I
  ⟨env,st,(fun ds st1=>match ds with|[x,y]=>∃xs ys,x=.tup xs∧y=.tup ys∧min xs.length ys.length≤1000000∧∀p,st1 p=none→Qd (.ref p) (d7 st1 p (.lst (p7 xs ys)))|_=>False),hE,hS,ht,fun vs ds H' st' ev is hl rs q1=>?_⟩) fun us s1 hh=>?_) hst (by rw[hst2];rfl)))
 ·match ds,hl with
  |[d,e],_=>
   obtain⟨v,ws,rfl,i1,i2⟩:=is.inv_cons;obtain⟨w,ws',rfl,i3,i4⟩:=i2.inv_cons;rw[i4.inv_nil];obtain⟨xs,ys,rfl,rfl,q1⟩:=q1;exact⟨v,w,xs,ys,st',rfl,ev,i1,i3,rs,q1⟩
 obtain⟨vs,H1,I1,r1,v,w,xs,ys,st1,e,ev,is,is2,rs,hle,q1⟩:=hh;subst e;obtain⟨u,u2,rfl,ru,ru2⟩:=r1.two;obtain⟨l1,vs,rfl,q1s,rr1⟩:=is.tup_inv;obtain⟨l2,ws,rfl,q2s,rr2⟩:=is2.tup_inv;cases ru;cases ru2;obtain⟨its,rv,L1,hz1⟩:=I1.seqB (b:=true) q1s;obtain⟨jts,rw',L2,hz2⟩:=I1.seqB (b:=true) q2s;have n1:=rv.length;have n2:=rw'.length;have hlen:min its.toArray.size jts.toArray.size=min xs.length ys.length:=by simp only[List.size_toArray];rw[←n1,←n2,rr1.len,rr2.len]
 refine bc3 L1 L2 fun h1 Z Z0 sz kk=>?_;refine Calls.spliced_nil ?_;have I2:Inv X pins σ H1 {s1 with heap:=h1}:=I1.kept (t':=s1.toks) kk;have D:=zipApart_new L1.lt L2.lt;have bl:∀c∈[s1.heap.objs.size+4,s1.heap.objs.size+3,s1.heap.objs.size,s1.heap.objs.size+1],s1.heap.objs.size≤c:=fun c hc=>by
  simp only[List.mem_cons,List.not_mem_nil,or_false]at hc
  rcases hc with rfl|rfl|rfl|rfl
  ·exact Nat.le_add_right _ _
  ·exact Nat.le_add_right _ _
  ·exact Nat.le_refl _
  ·exact Nat.le_add_right _ _
 refine bw5 (s:={s1 with heap:=h1}) (I2.ok.hd hc) D (fun c hc=>?_) (by rw[hlen];exact hle) Z (L1.stay fun o e=>kk _ o e) (L2.stay fun o e=>kk _ o e) fun h2 acc c' up hS2 hacc zl=>?_
 ·show c<h1.objs.size;rw[sz];simp only[List.mem_cons,List.not_mem_nil,or_false]at hc
  rcases hc with rfl|rfl|rfl|rfl|rfl|rfl|rfl
  ·exact Nat.add_lt_add_left (by decide) _
  ·exact Nat.add_lt_add_left (by decide) _
  ·exact Nat.add_lt_add_left (by decide) _
  ·exact Nat.lt_add_of_pos_right (by decide)
  ·exact Nat.add_lt_add_left (by decide) _
  ·exact Nat.lt_of_lt_of_le L1.lt (Nat.le_add_right _ _)
  ·exact Nat.lt_of_lt_of_le L2.lt (Nat.le_add_right _ _)
 have I3:Inv X pins σ H1 {s1 with heap:=h2,toks:=s1.toks}:=I2.turnedAll (s:={s1 with heap:=h1}) (t':=s1.toks) (ch:=[s1.heap.objs.size+4,s1.heap.objs.size+3,s1.heap.objs.size,s1.heap.objs.size+1]) (fun c hc=>I1.fpOk (bl c hc) (I1.hok.fresh (bl c hc))) fun c u hc e=>up c u hc e;have hS0:s1.heap.objs.size≤h1.objs.size:=by rw[sz];omega
 have hget:∀(j:Nat),j<acc.size→∃T,acc[j]?=some (.ref T):=fun j hj=>by
  obtain⟨T,x,y,g1,_⟩:=zl.1 j _ (Array.getElem?_eq_getElem hj);exact⟨T,by rw[Array.getElem?_eq_getElem hj,g1]⟩
 obtain⟨Ts,hTs⟩:∃Ts:List Addr,acc.toList=Ts.map Value.ref:=by
  have:∀l:List Value,(∀v∈l,∃T,v=.ref T)→∃Ts:List Addr,l=Ts.map Value.ref:=fun l=>by
   induction l with
   |nil=>intro _;exact⟨[],rfl⟩
   |cons v l ih=>
    intro h;obtain⟨T,rfl⟩:=h v (by simp);obtain⟨Ts,rfl⟩:=ih fun w hw=>h w (by simp[hw]);exact⟨T::Ts,rfl⟩
  refine this _ fun v hv=>?_;obtain⟨j,hj⟩:=List.mem_iff_getElem?.mp hv;obtain⟨T,x,y,g1,_⟩:=zl.1 j v (by simpa using hj);exact⟨T,g1⟩
 have hacc':∀(j:Nat)T,Ts[j]?=some T→acc[j]?=some (.ref T):=fun j T h=>by
  have:acc.toList[j]?=some (.ref T):=by rw[hTs,List.getElem?_map,h];rfl
  simpa using this
 have hTl:Ts.length=acc.size:=by have:=congrArg List.length hTs;simpa using this.symm
 have hnd:Ts.Nodup:=by
  rw[List.Nodup,List.pairwise_iff_getElem];intro i j hi hj hij e;have h1:=hacc' i _ (List.getElem?_eq_getElem hi);have h2:Ts[j]?=some Ts[i]:=by rw[e];exact List.getElem?_eq_getElem hj
  have:=zl.2 i j _ h1 (hacc' j _ h2);omega
 have hTf:∀T∈Ts,y9 X pins H1 T:=fun T hT=>by
  obtain⟨j,hj⟩:=List.mem_iff_getElem?.mp hT;obtain⟨T',x,y,g1,g2,g3,g4,g5,g6⟩:=zl.1 j _ (hacc' j T hj);cases g1;have:s1.heap.objs.size≤T:=Nat.le_trans hS0 g6;exact I1.fpOk this (I1.hok.fresh this)
 have hSn:h1.objs.size∉Ts:=fun hT=>by
  obtain⟨j,hj⟩:=List.mem_iff_getElem?.mp hT;obtain⟨T',x,y,g1,g2,_⟩:=zl.1 j _ (hacc' j _ hj);cases g1;exact g2 (by simp)
 obtain⟨H2,I4,ev2,rs2,is3,same⟩:=bm0 (X:=X) (st:=st1) (s:={s1 with heap:=h2,toks:=s1.toks}) Ts vs ws its jts xs ys H1 I3 rs rv rw' rr1 rr2 (by rw[hTl,hacc,hlen,rr1.len,rr2.len]) (fun j T x y t1 t2 t3=>by
   obtain⟨T',x',y',g1,g2,g3,g4,g5,g6⟩:=zl.1 j _ (hacc' j T t1);cases g1;have f1:its[j]?=some x':=by simpa using g3
   have f2:jts[j]?=some y':=by simpa using g4
   have e1:x'=x:=by rw[t2]at f1;exact(Option.some.inj f1).symm
   have e2:y'=y:=by rw[t3]at f2;exact(Option.some.inj f2).symm
   rw[←e1,←e2];exact g5) hnd hTf
 have hS1:H1 h1.objs.size=none:=I1.hok.fresh hS0;have hS3:H2 h1.objs.size=none:=by rw[same _ hSn];exact hS1
 have hfS:y9 X pins H2 h1.objs.size:=I1.fpOk hS0 hS3;have vr:e9 (Ts.map V.ref) acc.toList:=by
  rw[hTs];have:∀l:List Addr,e9 (l.map V.ref) (l.map Value.ref):=fun l=>by
   induction l with
   |nil=>exact .nil
   |cons t l ih=>exact .cons rfl ih
  exact this Ts
 have I5:Inv X pins σ (upd H2 h1.objs.size (.lst (Ts.map V.ref))) {s1 with heap:=h2,toks:=s1.toks}:=I4.track hfS (show m8 X.prog X.w _ h2 _ (.lst (Ts.map V.ref)) from⟨by rw[List.length_map,hTl,hacc,hlen];exact Nat.le_trans hle (by decide),acc.toList,c',vr,by simpa using hS2⟩);refine⟨.ref _,_,I5,rfl,?_⟩;exact(((hq.after ev).after ev2).newL rs2 is3 q1) _ hS3
end
end Ek
namespace PySem
end PySem
namespace Ek
open PySem PySem.Spec PyProof.Rows L2
variable [Tbs]
end Ek
namespace Ek
open PySem PySem.Spec PyProof.Rows L2
variable [Tbs]
section
variable {X:Cx} {a b c:Expr} {ta tb tc:DT} {pos p:Pos} {K:W.Frag}
noncomputable def upG(K:W.Frag)(t:Tg):TG:=fun v σ H Q=>∃d env k,IsD K H d v∧RelE K H env σ∧J6 t d env k∧∀env' σ',RelE K H env' σ'→k env'→Q σ' H
theorem _root_.L2.PG.imp{X:Cx}{x:Expr}{t t':TG}(h:PG X x t)(i:∀v σ H Q,t' v σ H Q→t v σ H Q):PG X x t':=fun pins s σ H v u Q I r q=>h pins s σ H v u Q I r (i v σ H Q q)
theorem ca7{i:Nat}{x:Str}(hN:X.N.Nodup)(hi:X.N[i]?=some x)(hx:Loc X.env.scope x)(hf:X.fn x=true∨X.env.scope.names.lookup x=some .local):PG X (.Name x pos) (upG X.K (.n i)):=
 PG.imp (bj7 hN hi hx hf) fun v σ H Q q=>by
  obtain⟨d,env,k,is,hE,ht,hq⟩:=q;exact hq _ _ (hE.set is i) ht
noncomputable def au7:List Nat→TGs
 |[]=>br8
 |i::is=>bq9 (a67 i) (au7 is)
theorem bq0{K:W.Frag}{H:Hp}{Q:L2.St→Hp→Prop}{k:i9→Prop}:∀(is:List Nat)(ds:List D)(vs:List V)(env:i9)(σ:L2.St),ds.length=is.length→IsDs K H ds vs→RelE K H env σ→k (O3 env is ds)→(∀env' σ',RelE K H env' σ'→k env'→Q σ' H)→au7 is vs σ H Q
 |[],[],vs,env,σ,_,r,hE,ht,hq=>⟨r.inv_nil,hq _ _ hE ht⟩
 |i::is,d::ds,vs,env,σ,hl,r,hE,ht,hq=>by
  obtain⟨v,ws,rfl,h1,h2⟩:=r.inv_cons;exact⟨v,ws,rfl,bq0 is ds ws _ _ (by simpa using hl) h2 (hE.set h1 i) ht hq⟩
 |[],d::ds,vs,env,σ,hl,_,_,_,_=>by simp at hl
 |i::is,[],vs,env,σ,hl,_,_,_,_=>by simp at hl
theorem co4{es:List Expr}{k0:Nat}{is:List Nat}(hc:X.calm=true)(h:PGs X es (au7 is))(hn:(assignEach es X.env).length=is.length)(hst:(assignEach es X.env).findIdx? (·.1)=none):PG X (.Tuple es k0 pos) (upG X.K (.tup is)):=
 PG.imp (cu6 hc h hn hst) fun v σ H Q q=>by
  obtain⟨d,env,k,i1,hE,⟨ds,rfl,hl,ht⟩,hq⟩:=q;obtain⟨q,vs,rfl,hsq,r⟩:=i1.tup_inv;exact⟨q,vs,rfl,hsq,by rw[←r.len];exact hl,bq0 is ds vs env σ hl r hE ht hq⟩
structure EndsR(K:W.Frag)(st:Sto)(H:Hp)(Fd:DEnds)(F:Ends):Prop where
 nx:∀env σ H' st',Ev st H st' H'→RelE K H' env σ→RelS K st' H'→Fd.nx env st'→F.nx σ H'
 bk:∀env σ H' st',Ev st H st' H'→RelE K H' env σ→RelS K st' H'→Fd.bk env st'→F.bk σ H'
 ct:∀env σ H' st',Ev st H st' H'→RelE K H' env σ→RelS K st' H'→Fd.ct env st'→F.ct σ H'
 rt:t5 K st H Fd.rt F.rt
theorem EndsR.after{st st1:Sto}{H H1:Hp}{Fd:DEnds}{F:Ends}(e:EndsR K st H Fd F)(ev:Ev st H st1 H1):EndsR K st1 H1 Fd F:=
 ⟨fun env σ H' st' ev'=>e.nx env σ H' st' (ev.trans ev'),fun env σ H' st' ev'=>e.bk env σ H' st' (ev.trans ev'),fun env σ H' st' ev'=>e.ct env σ H' st' (ev.trans ev'),e.rt.after ev⟩
noncomputable def upS(K:W.Frag)(t:DS):TS:=fun F σ H=>∃env st Fd,RelE K H env σ∧RelS K st H∧t Fd env st∧EndsR K st H Fd F
variable {t u:DS} {s1:Stmt} {j1:List Stmt}
theorem cl0:PSs X [] (upS X.K fun F env st=>F.nx env st):=PSs.imp ce2 fun F σ H⟨env,st,Fd,hE,hS,ht,hq⟩=>hq.nx env σ H st Ev.refl hE hS ht
theorem cb6(h1:PS X s1 (upS X.K t))(h2:PSs X j1 (upS X.K u)):PSs X (s1::j1) (upS X.K fun F env st=>t {F with nx:=u F} env st):=
 PSs.imp (b81 h1 h2) fun F σ H⟨env,st,Fd,hE,hS,ht,hq⟩=>⟨env,st,{Fd with nx:=u Fd},hE,hS,ht,fun env' σ' H' st' ev hE' hS' q=>⟨env',st',Fd,hE',hS',q,hq.after ev⟩,hq.bk,hq.ct,hq.rt⟩
theorem bo1{i:Nat}{x:Str}{pos':Pos}(hN:X.N.Nodup)(hi:X.N[i]?=some x)(hx:Loc X.env.scope x)(ha:PE X a (up X.K ta))(hs:swapsWith a (some (.Name x pos')) pos.line X.env=pure false)(hf:X.fn x=true∨X.env.scope.names.lookup x=some .local):
  PS X (.Assign [.Name x pos'] a pos) (upS X.K fun F env st=>ta env st fun d st1=>F.nx (env.set i (some d)) st1):=
 PS.imp (cp6 hN hi hx ha hs hf) fun F σ H⟨env,st,Fd,hE,hS,ht,hq⟩=>⟨env,st,_,hE,hS,ht,fun v d H' st' ev is rs q=>hq.nx _ _ H' st' ev ((hE.mono (ev.tk hS)).set is i) rs q⟩
theorem ce0{o v:Expr}{to tv:DT}{f:Str}{pos':Pos}{C:Str→List Str}(hC:∀c Ca,W.nsIn X.K mainGlobals c=some (some (.ref Ca))→f∈C c→Cls X.K Ca∧F4 X.K Ca f)(hv:PE X v (up X.K tv))(ho:PE X o (up X.K to))(hs:swapsWith v (some (.Attribute o f pos')) pos.line X.env=pure false):
  PS X (.Assign [.Attribute o f pos'] v pos) (upS X.K fun F env st=>tv env st fun d st1=>to env st1 fun x st2=>∃p c fs,x=.ref p∧st2 p=some (.ins c fs)∧f∈C c∧fs.length<1000∧F.nx env (d7 st2 p (.ins c (p9 f d fs)))):=
 PS.imp (cp5 ho hv hs) fun F σ H q=>by
  obtain⟨env,st,Fd,hE,hS,ht,hq⟩:=q;refine⟨env,st,_,hE,hS,ht,fun w d H1 st1 ev is rs q1=>?_⟩;refine⟨env,st1,_,hE.mono (ev.tk hS),rs,q1,fun y x H2 st2 ev2 is2 rs2 q2=>?_⟩;obtain⟨p,c,fs,rfl,hs2,hf,hl,hn⟩:=q2;obtain⟨Ca,dx,vs,hH,hns,r⟩:=rs2.ins hs2;obtain⟨c1,c2⟩:=hC c Ca hns hf;have is1:=is.mono (ev2.tk rs);have tk:=TK.putI (K:=X.K) (o:=.ins Ca dx (v9 f w vs)) hH;refine⟨p,Ca,dx,vs,is2.ref_inv,hH,c1,c2,by rw[←r.length];exact hl,?_⟩;refine hq.nx env σ _ _ ((ev.trans ev2).trans (Ev.put hs2)) (((hE.mono (ev.tk hS)).mono (ev2.tk rs)).mono tk) (rs2.putAny (ob:=.ins c (p9 f d fs)) tk ⟨Ca,dx,_,o8,hns,(r.put is1 f).mono tk⟩ (by rw[hH];exact fun _ z=>by cases z)) hn
theorem cx0(ha:PE X a (up X.K ta))(hs:swapsWith a none pos.line X.env=pure false):PS X (.Expr a pos) (upS X.K fun F env st=>ta env st fun _ st1=>F.nx env st1):=
 PS.imp (ci3 ha hs) fun F σ H⟨env,st,Fd,hE,hS,ht,hq⟩=>⟨env,st,_,hE,hS,ht,fun v d H' st' ev is rs q=>hq.nx _ _ H' st' ev (hE.mono (ev.tk hS)) rs q⟩
theorem co3(ha:PE X a (up X.K ta)):PS X (.Return (some a) pos) (upS X.K fun F env st=>ta env st F.rt):=
 PS.imp (cv5 ha) fun F σ H⟨env,st,Fd,hE,hS,ht,hq⟩=>⟨env,st,_,hE,hS,ht,hq.rt⟩
theorem ca6:PS X (.Return none pos) (upS X.K fun F _ st=>F.rt .non st):=PS.imp cj3 fun F σ H⟨env,st,Fd,hE,hS,ht,hq⟩=>hq.rt.here .non hS ht
theorem cf0:PS X (.Pass pos) (upS X.K fun F env st=>F.nx env st):=PS.imp cc8 fun F σ H⟨env,st,Fd,hE,hS,ht,hq⟩=>hq.nx env σ H st Ev.refl hE hS ht
theorem cy9{tc:DB}{x y:List Stmt}(hc:PT X c (upB X.K tc))(h1:PSs X x (upS X.K t))(h2:PSs X y (upS X.K u)):PS X (.If c x y pos) (upS X.K fun F env st=>tc env st fun k st1=>if k=true then t F env st1 else u F env st1):=
 PS.imp (cw6 hc h1 h2) fun F σ H⟨env,st,Fd,hE,hS,ht,hq⟩=>⟨env,st,_,hE,hS,ht,fun k H' st' ev rs q=>by
  cases k with
  |true=>exact⟨env,st',Fd,hE.mono (ev.tk hS),rs,q,hq.after ev⟩
  |false=>exact⟨env,st',Fd,hE.mono (ev.tk hS),rs,q,hq.after ev⟩⟩
theorem b75{tc:DB}{x:List Stmt}(hp:PassesOwn (model X.prog X.w) X.A X.env X.xe)(hc:PT X c (upB X.K tc))(h1:PSs X x (upS X.K t)):PS X (.While c x [] pos) (upS X.K fun F env st=>∃n,E4 tc t F n env st):=
 PS.imp (ca1 hp hc h1) fun F σ H⟨env,st,Fd,hE,hS,⟨n,ht⟩,hq⟩=>by
  refine⟨fun m σ' H'=>∃env' st',RelE X.K H' env' σ'∧RelS X.K st' H'∧Ev st H st' H'∧E4 tc t Fd m env' st',⟨n,env,st,hE,hS,Ev.refl,ht⟩,?_⟩;rintro m σ1 H1 ⟨env1,st1,hE1,hS1,ev1,w1⟩;cases m with
  |zero=>exact w1.elim
  |succ m=>
   refine⟨env1,st1,_,hE1,hS1,w1,fun k H2 st2 ev2 rs2 q2=>?_⟩;cases k with
   |false=>
    simp only[Bool.false_eq_true,if_false]at q2 ⊢;exact hq.nx env1 σ1 H2 st2 (ev1.trans ev2) (hE1.mono (ev2.tk hS1)) rs2 q2
   |true=>
    simp only[if_true]at q2 ⊢;refine⟨fun σ' H'=>∃env' st',RelE X.K H' env' σ'∧RelS X.K st' H'∧Ev st H st' H'∧E4 tc t Fd m env' st',fun σ' H' h=>⟨m,Nat.lt_succ_self _,h⟩,?_⟩;have hq2:=hq.after (ev1.trans ev2);have ev12:=ev1.trans ev2;exact⟨env1,st2,_,hE1.mono (ev2.tk hS1),rs2,q2,fun env' σ' H' st' ev hE' hS' q=>⟨env',st',hE',hS',ev12.trans ev,q⟩,hq2.nx,fun env' σ' H' st' ev hE' hS' q=>⟨env',st',hE',hS',ev12.trans ev,q⟩,hq2.rt⟩
theorem cu9{tg iter:Expr}{x:List Stmt}{ti:i9→Sto→ItK→Prop}{g:Tg}(hp:PassesOwn (model X.prog X.w) X.A X.env X.xe)(hc:X.calm=true)(hi:PI X tg iter (upI X.K ti))(hg:PG X tg (upG X.K g))(h1:PSs X x (upS X.K t))(hs:∀v,foldedSetIterable iter X.env v=pure v):
  PS X (.For tg iter x [] pos) (upS X.K fun F env st=>ti env st fun items chk st1=>u5 chk g t F items env st1):=
 PS.imp (ck1 hp hc hi hg h1 hs) fun F σ H⟨env,st,Fd,hE,hS,ht,hq⟩=>by
  refine⟨env,st,_,hE,hS,ht,fun items chk st1 H1 J ev1 rs1 ok q1=>?_⟩;refine⟨fun i m σ' H'=>m=items.length-i∧i≤items.length∧∃env' st',RelE X.K H' env' σ'∧RelS X.K st' H'∧Ev st H st' H'∧TK X.K H1 H'∧u5 chk g t Fd (items.drop i) env' st',⟨items.length,by simp,Nat.zero_le _,env,st1,hE.mono (ev1.tk hS),rs1,ev1,TK.refl,q1⟩,?_⟩;rintro i m σ2 H2 ⟨rfl,hi,env2,st2,hE2,hS2,ev2,tk2,w2⟩
  by_cases hlt:i<items.length
  ·right
   rw[List.drop_eq_getElem_cons hlt]at w2;obtain⟨hchk,w2⟩:=w2;refine⟨ok.go i st2 H2 tk2 hS2 hchk hlt,fun σ' H'=>i+1≤items.length∧∃env' st',RelE X.K H' env' σ'∧RelS X.K st' H'∧Ev st H st' H'∧TK X.K H1 H'∧u5 chk g t Fd (items.drop (i+1)) env' st',fun σ' H' h=>⟨items.length-(i+1),by omega,rfl,h⟩,fun v H3 y=>?_⟩;obtain⟨d,hd,is3,ev3,rs3⟩:=ok.yld i st2 H2 v H3 tk2 hS2 hchk hlt y;have ed:d=items[i]:=by rw[List.getElem?_eq_getElem hlt]at hd;exact(Option.some.inj hd).symm
   subst ed;refine⟨_,env2,_,is3,hE2.mono (ev3.tk hS2),w2,fun env4 σ4 hE4 q4=>?_⟩;have ev23:=ev2.trans ev3;have hq4:=hq.after ev23;have tk3:TK X.K H1 H3:=tk2.trans (ev3.tk hS2);exact⟨env4,st2,_,hE4,rs3,q4,fun env' σ' H' st' ev hE' hS' q=>⟨hlt,env',st',hE',hS',ev23.trans ev,tk3.trans (ev.tk rs3),q⟩,hq4.nx,fun env' σ' H' st' ev hE' hS' q=>⟨hlt,env',st',hE',hS',ev23.trans ev,tk3.trans (ev.tk rs3),q⟩,hq4.rt⟩
  ·left
   have e:i=items.length:=by omega
   subst e;rw[List.drop_length]at w2;exact⟨ok.stop st2 H2 tk2 hS2 w2.1,hq.nx env2 σ2 H2 st2 ev2 hE2 hS2 w2.2⟩
theorem b99{H:Hp}{env:i9}{σ:L2.St}{fr:List Nat}{k:Nat}(r:RelE K H env σ):RelE K H (O0 fr k env) (F2 fr k σ):=by
 refine⟨by simp[O0,F2],fun i d h=>?_⟩;unfold O0 at h;unfold F2
 by_cases hi:i<fr.length
 ·rw[List.getElem?_append_left (by simpa using hi),List.getElem?_map]at h ⊢;rw[List.getElem?_eq_getElem hi]at h ⊢;simp only[Option.map_some,Option.some.injEq]at h ⊢;cases q:env[fr[i]]? with
  |none=>rw[q]at h;cases h
  |some o=>
   rw[q]at h;have h':o=some d:=h;subst h';obtain⟨v,hv,is⟩:=r.at' _ d q;exact⟨v,by rw[hv];rfl,is⟩
 ·rw[List.getElem?_append_right (by simpa using hi),List.getElem?_replicate]at h
  split at h<;>cases h
theorem bc6{ti:i9→Sto→ItK→Prop}{g:Tg}{tc:DB}{fr:List Nat}{k:Nat}{σ:L2.St}{H:Hp}{Q:VK}
  (h:up K (fun env st Q=>ti env st fun items chk st1=>items.length≤1000000∧u3 chk g tc ta (fun acc st'=>∀p,st' p=none→Q (.ref p) (d7 st' p (.lst acc))) items [] (O0 fr k env) st1) σ H Q) :
  a40 fr k (upI K ti) (upG K g) (upB K tc) (up K ta) Q σ H:=by
 obtain⟨env,st,Qd,hE,hS,ht,hq⟩:=h;refine⟨env,st,_,hE,hS,ht,fun items chk st1 H1 J ev1 rs1 ok q1 p hp=>?_⟩;obtain⟨hlen,q1⟩:=q1;have hEc:RelE K H1 env σ:=hE.mono (ev1.tk hS);refine⟨fun i m σ' H'=>m=items.length-i∧i≤items.length∧∃env' st' acc ys,RelE K H' env' σ'∧RelS K st' H'∧st' p=none∧H' p=some (.lst ys)∧IsDs K H' acc ys∧acc.length≤i∧TK K H1 H'∧(∀a o,H a=some o→st a=none→a≠p∧(∃o',H' a=some o'∧TbE o o')∧st' a=none) ∧
  u3 chk g tc ta (fun acc st'=>∀p,st' p=none→Qd (.ref p) (d7 st' p (.lst acc))) (items.drop i) acc env' st',⟨items.length,by simp,Nat.zero_le _,O0 fr k env,st1,[],[],(b99 hEc).mono (TK.new hp),rs1.new hp,rs1.free hp,o8,.nil,Nat.zero_le _,TK.new hp,fun a o h1 h2=>?_,q1⟩,?_⟩
 ·obtain⟨⟨o',x,t⟩,y⟩:=ev1 a o h1 h2;have ne:a≠p:=t6 x hp;exact⟨ne,⟨o',by rw[i8 ne];exact x,t⟩,y⟩
 rintro i m σ2 H2 ⟨rfl,hi,env2,st2,acc,ys,hE2,hS2,sp2,hp2,ra,hal,tk2,old,w2⟩
 by_cases hlt:i<items.length
 ·right
  rw[List.drop_eq_getElem_cons hlt]at w2;obtain⟨hchk,w2⟩:=w2;refine⟨ok.go i st2 H2 tk2 hS2 hchk hlt,fun σ' H'=>i+1≤items.length∧∃env' st' acc ys,RelE K H' env' σ'∧RelS K st' H'∧st' p=none∧H' p=some (.lst ys)∧IsDs K H' acc ys∧acc.length≤i+1∧TK K H1 H'∧(∀a o,H a=some o→st a=none→a≠p∧(∃o',H' a=some o'∧TbE o o')∧st' a=none) ∧
   u3 chk g tc ta (fun acc st'=>∀p,st' p=none→Qd (.ref p) (d7 st' p (.lst acc))) (items.drop (i+1)) acc env' st',fun σ' H' h=>⟨items.length-(i+1),by omega,rfl,h⟩,fun v H3 y=>?_⟩
  obtain⟨d,hd,is3,ev3,rs3⟩:=ok.yld i st2 H2 v H3 tk2 hS2 hchk hlt y;have ed:d=items[i]:=by rw[List.getElem?_eq_getElem hlt]at hd;exact(Option.some.inj hd).symm
  subst ed;refine⟨_,env2,_,is3,hE2.mono (ev3.tk hS2),w2,fun env4 σ4 hE4 q4=>?_⟩;have old3:∀{H':Hp}{st':Sto},Ev st2 H2 st' H'→∀a o,H a=some o→st a=none→a≠p∧(∃o',H' a=some o'∧TbE o o')∧st' a=none:=fun ev a o h1 h2=>by
   obtain⟨x,⟨o1,y,t1⟩,z⟩:=old a o h1 h2;obtain⟨⟨o2,y',t2⟩,z'⟩:=ev a o1 y z;exact⟨x,⟨o2,y',t1.trans t2⟩,z'⟩
  refine⟨env4,st2,_,hE4,rs3,q4,fun bb H5 st5 ev5 rs5 q5=>?_⟩;have ev25:Ev st2 H2 st5 H5:=ev3.trans ev5;have tk25:TK K H2 H5:=ev25.tk hS2;obtain⟨hp5,sp5⟩:=ev25.get hp2 sp2 (fun _=>nofun);cases bb with
  |false=>
   simp only[Bool.false_eq_true,if_false]at q5 ⊢;exact⟨hlt,env4,st5,acc,ys,hE4.mono (ev5.tk rs3),rs5,sp5,hp5,ra.mono tk25,by omega,tk2.trans tk25,old3 ev25,q5⟩
  |true=>
   simp only[if_true]at q5 ⊢;refine⟨env4,st5,_,hE4.mono (ev5.tk rs3),rs5,q5,fun w e H6 st6 ev6 is6 rs6 q6=>?_⟩;have ev26:Ev st2 H2 st6 H6:=ev25.trans ev6;have tk26:TK K H2 H6:=ev26.tk hS2;obtain⟨hp6,sp6⟩:=ev26.get hp2 sp2 (fun _=>nofun);have ra6:=ra.mono tk26;have hsz:ys.length<sizeLine:=by
    rw[←ra6.len];have:(1000001:Nat)≤sizeLine:=by decide
    omega
   refine⟨ys,hp6,hsz,hlt,env4,st6,acc++[e],ys++[w],(hE4.mono ((ev5.trans ev6).tk rs3)).mono (TK.put hp6),rs6.stay (TK.put hp6) (fun a o h1=>i8 fun z=>by rw[z,sp6]at h1;cases h1) (ah5 (by rw[hp6];exact fun _ z=>by cases z)),sp6,o8,(ra6.append (.cons is6 .nil)).mono (TK.put hp6),by simp;omega,(tk2.trans tk26).trans (TK.put hp6),fun a o h1 h2=>?_,q6⟩;obtain⟨x,⟨o',y,t⟩,z⟩:=old3 ev26 a o h1 h2;exact⟨x,⟨o',by rw[i8 x];exact y,t⟩,z⟩
 ·left
  have e:i=items.length:=by omega
  subst e;rw[List.drop_length]at w2;refine⟨ok.stop st2 H2 tk2 hS2 w2.1,hq _ (.ref p) H2 (d7 st2 p (.lst acc)) (fun a o h1 h2=>?_) (.ref p) ⟨fun a o h1=>?_,hS2.tb⟩ (w2.2 p sp2)⟩
  ·obtain⟨x,y,z⟩:=old a o h1 h2;exact⟨y,by rw[B6 x];exact z⟩
  ·by_cases ha:a=p
   ·subst ha;rw[d8]at h1;cases h1;exact⟨ys,hp2,ra⟩
   ·rw[B6 ha]at h1;exact hS2.ob a o h1
end
end Ek
namespace HT
open PySem PySem.Spec PyProof.Rows
section
variable {prog:Program} {w:World} {A:Around} {E:Value→Shared→Prop} {s:Shared}
theorem getItem_tuple_whole{t sl:Addr}{items:Array Value}{vl vu:Value}{lo hi:Option Int}{Q:Value→Shared→Prop}(ht:IsTup s.heap t items)(hs:s.heap.IsSliceOf sl vl vu .none)(pl:IsPart vl lo)(pu:IsPart vu hi)
  (hw:sIx items.size 0 lo=0∧sIx items.size items.size hi=items.size)
  (h:Q (.ref t) s):wpAny (model prog w) A (getItem (.ref t) (.ref sl)) Q E s:=by
 have hj:sIx items.size items.size hi≤items.size:=bq2 _ _ (Nat.le_refl _) hi;obtain⟨os,hos,hcs,hds⟩:=id hs;have hTs:s.TypeIs (.ref sl) "slice":=⟨os,hos,hcs⟩;unfold getItem
 try with_reducible refine wpAny_holding ?_
 first|refine wpAny_bind (wpAny_pure ?_)|skip
 refine wpAny_bind (wpAny_sequenceKey ht.typeIs (by decide) ?_);refine wpAny_bind (wpAny_callSpecial?_slot (name:=Str.ofString "__getitem__") ht.typeIs PyProof.Rows.slot_tuple_getitem
  (wpAny_call_entry PyProof.Rows.slot_tuple_getitem ht.typeIs entry_tuple_getitem ?_ (args_tuple_getitem _ _)))
 show wpAny _ _ (Builtin.Tuple.tupleItemsOf (.ref t)>>=_) _ _ s;refine wpAny_bind (tupleItemsOf_ ht ?_);refine wpAny_bind (wpAny_typeOf hTs ?_);rw[if_pos (by decide)];refine wpAny_bind (a80 hs pl pu ?_);have hyes:(((sIx items.size 0 lo:Nat):Int)==0&&(1:Int)==1&&(sIx items.size items.size hi-sIx items.size 0 lo)==items.size)=true:=by
  rw[hw.1,hw.2];simp
 show wpAny _ _ (if(((sIx items.size 0 lo:Nat):Int)==0&&(1:Int)==1&&(sIx items.size items.size hi-sIx items.size 0 lo)==items.size)=true then _ else _) _ _ s;rw[if_pos hyes];refine wpAny_bind ?_;unfold Builtin.Tuple.tupleIsExact;refine wpAny_bind (wpAny_typeOf ht.typeIs ?_);refine wpAny_pure ?_;rw[if_pos (by decide)];exact wpAny_bind (wpAny_rule (wpAny_pure ⟨_,rfl,wpAny_pure h⟩))
end
end HT
namespace L2
open PySem PySem.Spec PyProof.Rows
section
variable {X:Cx}
noncomputable def cx9(K:W.Frag):V→Option Int→Option Int→Hp→VK→Prop:=fun x lo hi H Q=>∃a xs,x=.ref a∧SqT K H a xs ∧
 (HT.sIx xs.length 0 lo=0∧HT.sIx xs.length xs.length hi=xs.length)∧Q (.ref a) H
theorem cb0:SlR X (cx9 X.K):=by
 intro pins s σ H x v vl vu lo hi sl Q I rx hs pl pu h;obtain⟨a,xs,rfl,hx,hw,q⟩:=h;cases rx;obtain⟨its,r,ht,hz⟩:=I.tuple hx;have hlen:its.toArray.size=xs.length:=by rw[List.size_toArray];exact r.length.symm
 refine⟨"tuple",_,PyProof.Rows.slot_tuple_getitem.lookup,ht.typeIs,?_⟩;exact HT.getItem_tuple_whole ht hs pl pu (by rw[hlen];exact hw) ⟨.ref a,H,I,rfl,q⟩
end
end L2
namespace Ek
open PySem PySem.Spec PyProof.Rows L2
variable [Tbs]
mutual
theorem bp2{K:W.Frag}{H:Hp}(kt:Tbs.kt=false):∀(d:D){v:V},IsD K H d v→NK.lit d.py=true→HRd H d.py v
 |.int i,v,h,_=>h.int_inv
 |.str x,v,h,_=>h.str_inv
 |.tup ds,v,h,hl=>by
  obtain⟨a,vs,rfl,q,r⟩:=h.tup_invX;exact⟨a,vs,rfl,q.trk kt,bm1 kt ds r hl⟩
 |.non,v,h,hl=>nomatch hl
 |.bl _,v,h,hl=>nomatch hl
 |.ref _,v,h,hl=>nomatch hl
 |.fn _,v,h,hl=>nomatch hl
 |.clo _ _ _ _,v,h,hl=>nomatch hl
theorem bm1{K:W.Frag}{H:Hp}(kt:Tbs.kt=false):∀(ds:List D){vs:List V},IsDs K H ds vs→NK.lits (D.pys ds)=true→J7 H (D.pys ds) vs
 |[],vs,r,_=>r.inv_nil
 |d::ds,vs,r,hl=>by
  obtain⟨v,ws,rfl,i1,i2⟩:=r.inv_cons;have h':NK.lit d.py=true∧NK.lits (D.pys ds)=true:=by
   have:(NK.lit d.py&&NK.lits (D.pys ds))=true:=hl;simpa using this
  exact⟨v,ws,rfl,bp2 kt d i1 h'.1,bm1 kt ds i2 h'.2⟩
end
theorem a39{K:W.Frag}{H:Hp}(kt:Tbs.kt=false){ks:List D}{v:V}(h:IsD K H (.tup ks) v)(hk:D.key (.tup ks)):∃b,v=.ref b∧D8 H (D.tup ks).py b:=by
 obtain⟨a,vs,rfl,_⟩:=h.tup_invX;exact⟨a,rfl,hk.1,hk.2,bp2 kt _ h hk.1⟩
section
variable {X:Cx} {a b o i v:Expr} {ta tb to ti tv:DT} {pos apos pos':Pos}
theorem RelS.dtt{K:W.Frag}{st:Sto}{H:Hp}(r:RelS K st H){a:Addr}{kvs:List (PyData×D)}(h:st a=some (.dtt kvs)):∃vs,H a=some (.dT vs)∧IsPs K H kvs vs∧Tbs.kt=false:=r.ob a _ h
theorem cl6{c:List Str}(hk:c≠[]→Tbs.kt=false):PE X (.Dict [] [] pos) (up X.K fun env st Q=>c≠[]∧∀p,st p=none→Q (.ref p) (d7 st p (.dtt []))):=
 PE.imp b68 fun σ H Q q=>by
  obtain⟨env,st,Qd,hE,hS,ht,hq⟩:=q;exact fun p hp=>hq _ (.ref p) _ (d7 st p (.dtt [])) (Ev.newS hp) (.ref p) (hS.putAny (TK.new hp) ⟨[],o8,.nil,hk ht.1⟩ (by rw[hp];exact fun _=>nofun)) (ht.2 p (hS.free hp))
theorem cl7(hu:X.A.units+200<cLine)(ha:PE X a (up X.K ta))(hb:PE X b (up X.K tb))(hbase:∀i p p',a≠.Call (.Name i p) [] [] p')(hs:∀e p,b≠.Starred e p)(hline:(apos.endLine==pos.line)=true):
  PE X (.Call (.Attribute a "get" apos) [b] [] pos) (up X.K fun env st Q=>ta env st fun x st1=>a74 x st1∧tb env st1 fun y st2=>a79 x y st2 Q):=
 PE.imp (b98 (by omega) ha hb ⟨E3 hbase,by rw[n8 hs];rfl,hline,by rw[n8 hs];rfl⟩) fun σ H Q q=>by
  obtain⟨env,st,Qd,hE,hS,ht,hq⟩:=q;refine⟨env,st,_,hE,hS,ht,fun x d H1 st1 ev is rs q1=>?_⟩;obtain⟨hd,q1⟩:=q1;cases d<;>first|exact hd.elim|skip
  rename_i p;obtain⟨kvs,hp⟩:=hd;obtain⟨vs,hH,r,kt⟩:=rs.dtt hp;refine⟨p,is.ref_inv,.inr ⟨vs,.inl hH⟩,env,st1,_,hE.mono (ev.tk hS),rs,q1,fun y e H2 st2 ev2 is2 rs2 q2=>?_⟩;cases e<;>first|exact q2.elim|skip
  rename_i ks;obtain⟨kvs2,hp2,hk,q2⟩:=q2;obtain⟨vs2,hH2,r2,_⟩:=rs2.dtt hp2;obtain⟨b,rfl,hb⟩:=a39 kt is2 hk;refine⟨_,u9.t hH2 hb,?_⟩
  rcases r2.look (D.tup ks).py with⟨l1,l2⟩|⟨d,v,l1,l2,i⟩
  ·rw[l2];rw[l1]at q2;exact hq _ _ _ st2 (ev.trans ev2) .non rs2 q2
  ·rw[l2];rw[l1]at q2;exact hq _ _ _ st2 (ev.trans ev2) i rs2 q2
theorem TK.putT{K:W.Frag}{H:Hp}{p:Addr}{u:HO}{xs:List (PyData×V)}(h:H p=some (.dT xs)):TK K H (upd H p u):=TK.upd' (by rw[h];exact fun _ z=>by cases z) (by rw[h];exact fun _ _ z=>by cases z)
theorem bj2(hu:X.A.units+200<cLine)(ne:Bool):OpR X (compareOp (if ne then .NotIn else .In)) (fun x y H Q=>∃a o,y=.ref a∧u9 H a x o∧Q (.bl (ne != o.isSome)) H):=by
 intro pins s σ H x y v u Q I rx ry h;obtain⟨a,o,rfl,g,q⟩:=h;cases(show u=Value.ref a from ry);cases ne with
 |true=>exact bl9 (by omega) I g rx fun s' I'=>⟨.bl _,H,I',rfl,by cases h:o.isSome<;>(rw[h]at q;exact q)⟩
 |false=>exact bs1 (by omega) I g rx fun s' I'=>⟨.bl _,H,I',rfl,by cases h:o.isSome<;>(rw[h]at q;exact q)⟩
theorem bm9{ne:Bool}{v w:V}{d e:D}{H':Hp}{st':Sto}{Qd:DK}{Q:VK}(i1:IsD X.K H' d v)(i2:IsD X.K H' e w)(rs:RelS X.K st' H')(ht:Q4 ne d e st' Qd)(hq:t5 X.K st' H' Qd Q):∃a o,w=.ref a∧u9 H' a v o∧Q (.bl (ne != o.isSome)) H':=by
 cases d<;>cases e<;>first|exact False.elim ht|skip
 rename_i ks a;obtain⟨kvs,hp,hk,ht⟩:=ht;obtain⟨vs,hH,r,kt⟩:=rs.dtt hp;obtain⟨b,rfl,hb⟩:=a39 kt i1 hk;refine⟨_,_,i2.ref_inv,u9.t hH hb,?_⟩
 rcases r.look (D.tup ks).py with⟨l1,l2⟩|⟨d,v,l1,l2,i⟩
 ·rw[l2];rw[l1]at ht;exact hq.here (.bl _) rs ht
 ·rw[l2];rw[l1]at ht;exact hq.here (.bl _) rs ht
theorem cm6{ne:Bool}{c:CmpOp}(ho:c=if ne then .NotIn else .In)(hu:X.A.units+200<cLine)(ha:PE X a (up X.K ta))(hb:PE X b (up X.K tb))(hm:∀es k p,b≠.Set es k p):PE X (.Compare a [c] [b] pos) (up X.K fun env st Q=>ta env st fun x st1=>tb env st1 fun y st2=>Q4 ne x y st2 Q):=by
 subst ho;exact PE.imp (az6 (bj2 hu ne) ha hb (Q9 _ b hm)) fun σ H Q q=>up2 (f:=Q4 ne) q fun v w d e H' st' Qd i1 i2 rs ht hq=>bm9 i1 i2 rs ht hq
theorem cp1{ne:Bool}{c:CmpOp}(ho:c=if ne then .NotIn else .In)(hu:X.A.units+200<cLine)(ha:PE X a (up X.K ta))(hb:PE X b (up X.K tb))(hm:∀es k p,b≠.Set es k p):
  PT X (.Compare a [c] [b] pos) (upB X.K fun env st Q=>ta env st fun x st1=>tb env st1 fun y st2=>Q4 ne x y st2 fun d st'=>∃k,d=.bl k∧Q k st'):=by
 subst ho;refine PT.imp (a29 (bj2 hu ne) ha hb (Q9 _ b hm)) fun σ H Q q=>?_;obtain⟨env,st,Qd,hE,hS,ht,hq⟩:=q;refine up2 (f:=Q4 ne) (Q:=fun x H'=>∃k,x=.bl k∧Q k H') ⟨env,st,_,hE,hS,ht,fun v d H' st' ev is rs q1=>?_⟩ fun v w d e H' st' Qd i1 i2 rs ht hq=>bm9 i1 i2 rs ht hq;obtain⟨k,rfl,q1⟩:=q1;exact⟨k,is.bl_inv,hq k H' st' ev rs q1⟩
theorem cf4(hu:X.A.units+200<cLine)(hv:PE X v (up X.K tv))(ho:PE X o (up X.K to))(hi:PE X i (up X.K ti))(hs:swapsWith v (some (.Subscript o i pos')) pos.line X.env=pure false):
  PS X (.Assign [.Subscript o i pos'] v pos) (upS X.K fun F env st=>tv env st fun d st1=>to env st1 fun x st2=>ti env st2 fun y st3=>a63 x y d st3 fun st4=>F.nx env st4):=
 PS.imp (cg5 (by omega) ho hi hv hs) fun F σ H⟨env,st,Fd,hE,hS,ht,hq⟩=>⟨env,st,_,hE,hS,ht,fun w d H1 st1 ev1 is1 rs1 q1=>
  ⟨env,st1,_,hE.mono (ev1.tk hS),rs1,q1,fun ov x H2 st2 ev2 is2 rs2 q2=>⟨env,st2,_,(hE.mono (ev1.tk hS)).mono (ev2.tk rs1),rs2,q2,fun iv y H3 st3 ev3 is3 rs3 q3=>by
   cases x<;>cases y<;>first|exact q3.elim|skip
   obtain⟨kvs,hp,hk,hl,q3⟩:=q3;obtain⟨vs,hH,r,kt⟩:=rs3.dtt hp;obtain⟨b,rfl,hb⟩:=a39 kt is3 hk;have is1':=(is1.mono (ev2.tk rs1)).mono (ev3.tk rs2);refine⟨_,_,(is2.mono (ev3.tk rs2)).ref_inv,Z9.t hH hb (by rw[←r.len];exact hl),?_⟩;exact hq.nx env σ _ _ (((ev1.trans ev2).trans ev3).trans (Ev.put hp)) ((((hE.mono (ev1.tk hS)).mono (ev2.tk rs1)).mono (ev3.tk rs2)).mono (TK.putT hH)) (rs3.putAny (ob:=.dtt (M8 kvs _ d)) (TK.putT hH) ⟨_,o8,(r.put is1' _).mono (TK.putT hH),kt⟩ (by rw[hH];exact fun _ z=>by cases z)) q3⟩⟩⟩
theorem b32{ds:List D}{lo hi:Option Int}(h:HT.sIx ds.length 0 lo=0∧HT.sIx ds.length ds.length hi=ds.length):y8 ds lo hi=ds:=by
 unfold y8;rw[h.1,h.2];simp
theorem cl8{lo hi:Option Expr}{tl th:DO}{p2:Pos}(ha:PE X a (up X.K ta))(hl:PO X lo (upO X.K tl))(hh:PO X hi (upO X.K th)):
  PE X (.Subscript a (.Slice lo hi none p2) pos) (up X.K fun env st Q=>ta env st fun x st1=>tl env st1 fun l st2=>th env st2 fun h st3=>av1 x l h st3 Q):=
 PE.imp (be6 (bp4.or cb0) ha hl hh) fun σ H Q q=>by
  obtain⟨env,st,Qd,hE,hS,ht,hq⟩:=q;refine⟨env,st,_,hE,hS,ht,fun v d H1 st1 ev1 is1 rs1 q1=>⟨env,st1,_,hE.mono (ev1.tk hS),rs1,q1,fun l H2 st2 ev2 rs2 q2=>⟨env,st2,_,(hE.mono (ev1.tk hS)).mono (ev2.tk rs1),rs2,q2,fun h H3 st3 ev3 rs3 q3=>?_⟩⟩⟩;have is3:=(is1.mono (ev2.tk rs1)).mono (ev3.tk rs2);have hq3:=((hq.after ev1).after ev2).after ev3;cases d<;>first|exact False.elim q3|skip
  rename_i ds;obtain⟨p,vs,rfl,hs,r⟩:=is3.tup_invX
  by_cases hw:HT.sIx ds.length 0 l=0∧HT.sIx ds.length ds.length h=ds.length
  ·have q4:Qd (.tup (y8 ds l h)) st3:=q3;rw[b32 hw]at q4;exact .inr ⟨p,vs,rfl,hs.sqt,by rw[←r.len];exact hw,hq3.here (IsD.mk hs r) rs3 q4⟩
  ·exact .inl ⟨p,vs,rfl,hs.sqt,by rw[←r.len];exact hw,hq3.newT rs3 (a49 r l h) q3⟩
end
end Ek
namespace Ek
open PySem PySem.Spec PyProof.Rows L2
variable [Tbs]
noncomputable abbrev Fz:HO:=.ext fun _=>True
theorem a65:∀vs,Fz≠.lst vs:=fun _=>nofun
theorem aq6{P:Program}{w:World}{H:Hp}{h:Heap}{a:Addr}{o:Obj}(e:h.get? a=some o):m8 P w H h a (.frz o Fz):=⟨e,trivial,⟨o,e⟩,fun _ _ _ _=>trivial⟩
section
variable {X:Cx} {pins:List (Addr×Obj)} {σ:L2.St} {H H':Hp} {s:Shared}
theorem bz0{x:Str}{c:Addr}{o:Obj}{v:Option Value}(I:L2.Inv X pins σ H s)(hl:X.env.cells.lookup x=some c)(hfn:X.fn x=false)(hab:X.s₀.heap.objs.size≤c)(hn:H c=none)(ho:s.heap.get? c=some o)(hd:o.data=.cell v):
  L2.Inv X pins σ (upd H c (.frz o Fz)) s:=by
 have nn:∀{b:Addr}{u:HO},H b=some u→b≠c:=fun e=>t6 e hn;refine⟨I.ok,I.os,I.bare,⟨I.base.keep,I.base.slot,fun b ob e n hx=>?_,I.base.there,fun b xs e=>?_,fun b ob u e=>?_,fun b ps e=>?_⟩,I.loc,I.cell,?_,fun x' c' e=>?_,fun p hp=>?_,fun b u e=>?_,I.len⟩
 ·rw[i8 (Nat.ne_of_lt (Nat.lt_of_lt_of_le (Heap.lt_size e) hab))];exact I.base.free b ob e n hx
 ·have:=I.base.tups b xs e;rw[i8 (nn this)];exact this
 ·have:=I.base.frzs b ob u e;rw[i8 (nn this)];exact this
 ·obtain⟨m,q⟩:=I.base.tbls b ps e;exact⟨m,by rw[i8 (nn q)];exact q⟩
 ·rw[i8 (Ne.symm (I.cne x c hl))];exact I.free
 ·by_cases hc:c'=c
  ·subst hc;have:=I.ok.inj x' x c' e hl;subst this;exact .inr ⟨hfn,o,Fz,o8⟩
  ·rw[i8 hc];exact I.freeC x' c' e
 ·obtain⟨e,n,ne,nf,d⟩:=I.pin p hp;refine⟨e,?_,ne,nf,d⟩;rw[i8 fun z=>?_]
  ·exact n
  ·rw[z,ho]at e;exact d v (by rw[←Option.some.inj e];exact hd)
 ·by_cases hb:b=c
  ·subst hb;rw[o8]at e;cases e;exact aq6 ho
  ·rw[i8 hb]at e;exact(I.hok b u e).stay (fun _ _ _ q=>q) (fun a r=>by rw[i8 (nn r)];exact r) fun a xs r=>by rw[i8 (nn r)];exact r
theorem bi9{K:W.Frag}(e:D6 H H'):TK K H H':=⟨⟨fun a xs q=>by
 rcases q with(q|⟨o',q⟩)|q
 ·exact .inl (.inl (e _ _ q))
 ·exact .inl (.inr ⟨o',e _ _ q⟩)
 ·exact .inr q,fun a xs q=>e _ _ q⟩,fun a o u q _=>e _ _ q⟩
theorem be0{K:W.Frag}{a:Addr}{o:Ob}(z:ObR K H a o):∃u,H a=some u∧∀ps,u≠.tbl ps:=by
 cases o with
 |lst ds=>obtain⟨vs,w1,_⟩:=z;exact⟨_,w1,fun _=>nofun⟩
 |fro ds=>
  obtain⟨vs,w1|⟨u,w1⟩,_⟩:=z
  ·exact⟨_,w1,fun _=>nofun⟩
  ·exact⟨_,w1,fun _=>nofun⟩
 |dct kvs=>obtain⟨vs,w1,_⟩:=z;exact⟨_,w1,fun _=>nofun⟩
 |dtt kvs=>obtain⟨vs,w1,_⟩:=z;exact⟨_,w1,fun _=>nofun⟩
 |ins c fs=>obtain⟨C,dx,vs,w1,_⟩:=z;exact⟨_,w1,fun _=>nofun⟩
theorem b49{K:W.Frag}{st:Sto}(r:RelS K st H)(e:D6 H H'):RelS K st H':=r.stay (bi9 e) (fun a o h=>by
 obtain⟨u,hu,_⟩:=be0 (r.ob a o h);rw[hu,e _ _ hu]) fun a ps h=>e _ _ h
theorem ch4{st:Sto}(e:D6 H H'):Ev st H st H':=fun a o h k=>⟨⟨o,e _ _ h,.inl rfl⟩,k⟩
theorem a94(I:L2.Inv X pins σ H s):∀(xs:List Str),(∀x∈xs,X.fn x=false∧X.ow x=true∧∃c,X.env.cells.lookup x=some c) →
  ∃H',L2.Inv X pins σ H' s∧D6 H H'∧∀x∈xs,∃c o u,X.env.cells.lookup x=some c∧H' c=some (.frz o u)∧(∀vs,u≠.lst vs)∧s.heap.get? c=some o
 |[],_=>⟨H,I,D6.refl H,fun x h=>absurd h List.not_mem_nil⟩
 |x::xs,h=>by
  obtain⟨H1,I1,e1,f1⟩:=a94 I xs fun y hy=>h y (List.mem_cons_of_mem _ hy);obtain⟨hfn,how,c,hc⟩:=h x List.mem_cons_self;obtain⟨v,o,ho,hd⟩:=I1.cell x c hc
  rcases I1.freeC x c hc with hn|⟨_,o',u,hz⟩
  ·have I2:=bz0 I1 hc hfn (I1.ok.cab x c (.inr how) hc) hn ho hd;have e2:D6 H1 (upd H1 c (.frz o Fz)):=fun b u q=>by rw[i8 (t6 q hn)];exact q
   refine⟨_,I2,e1.trans e2,fun y hy=>?_⟩
   rcases List.mem_cons.mp hy with rfl|hy
   ·exact⟨c,o,Fz,hc,o8,a65,ho⟩
   ·obtain⟨c',o',u',a1,a2,a3,a4⟩:=f1 y hy;exact⟨c',o',u',a1,e2 _ _ a2,a3,a4⟩
  ·refine⟨H1,I1,e1,fun y hy=>?_⟩
   rcases List.mem_cons.mp hy with rfl|hy
   ·obtain⟨z1,z2⟩:=I1.hok c _ hz;refine⟨c,o',u,hc,hz,fun vs w=>?_,z1⟩;subst w;obtain⟨_,its,n,_,z3⟩:=z2;rw[ho]at z3;cases z3;cases hd
   ·exact f1 y hy
end
theorem a85{l:List Value}(h:TriplesOk l):l=[]∨∃i s j t v r,l=.int i s::.int j t::v::r∧TriplesOk r:=by
 unfold TriplesOk at h
 split at h
 ·exact .inl rfl
 ·exact .inr ⟨_,_,_,_,_,_,rfl,h⟩
 ·exact h.elim
theorem a82{a b:Int}{s t:Tok}{c:Value}:∀(n:Nat)(l:List Value),l.length≤n→TriplesOk l→TriplesOk (l++[.int a s,.int b t,c])
 |0,l,hn,_=>by
  have:l=[]:=List.eq_nil_of_length_eq_zero (by omega);subst this;exact trivial
 |n+1,l,hn,h=>by
  rcases a85 h with rfl|⟨i,s',j,t',v,r,rfl,hr⟩
  ·exact trivial
  ·simp only[List.length_cons]at hn;exact(a82 n r (by omega) hr:TriplesOk (r++_))
theorem a99{pos:Pos}{cv:Value}{a b:Int}{s t:Tok}{c:Value}:∀(n:Nat)(l:List Value),l.length≤n→TriplesOk l→codeAmong pos (l++[.int a s,.int b t,c])=some cv→codeAmong pos l=some cv∨cv=c
 |n,l,hn,h,q=>by
  rcases a85 h with rfl|⟨i,s',j,t',v,r,rfl,hr⟩
  ·have h':(if a==pos.line&&b==pos.col then some c else none)=some cv:=q
   split at h'
   ·exact .inr (Option.some.inj h').symm
   ·cases h'
  ·cases n with
   |zero=>simp at hn
   |succ n=>
    simp only[List.length_cons]at hn;have q':(if i==pos.line&&j==pos.col then some v else codeAmong pos (r++[.int a s,.int b t,c]))=some cv:=q;show(if i==pos.line&&j==pos.col then some v else codeAmong pos r)=some cv∨cv=c
    split at q'
    ·rename_i hc;rw[if_pos hc];exact .inl q'
    ·rename_i hc;rw[if_neg hc];exact a99 n r (by omega) hr q'
end Ek
namespace Ek
open PySem PySem.Spec PyProof.Rows L2
variable [Tbs]
noncomputable def C5(name qual:Str)(params:Arguments)(fb:FuncBody)(scope:Scope)(cl:List (Str×Addr))(doc pm cv ct:Value):FuncData:=
 {name,qualname:=qual,params,body:=fb,scope,globals:=mainGlobals,closure:=cl,defaults:=.none,kwdefaults:=.none,doc:=doc,pyModule:=pm,annotations:=none,code:=cv,closureTuple:=ct,builtins:=builtinsNs}
noncomputable def M7(fd:FuncData):Obj:={cls:=.type "function",data:=.func fd}
noncomputable def V0(mg:Str→Option Value)(h:Heap):Prop:=∃bm ob,mg "__builtins__"=some (.ref bm)∧bm≠builtinsNs∧h.get? bm=some ob∧ob.cls=.type "module"∧ob.dict=some builtinsNs∧ob.data=.plain
structure LamOk(X:Cx):Prop where
 tab:∃c P,X.env.code=.ref c∧W.CodeHd X.base c P∧P∈Tbs.ps
 bm:V0 X.mg X.base
section
variable {X:Cx} {pins:List (Addr×Obj)} {σ:L2.St} {H:Hp} {s:Shared} {st:Sto}
structure Made(X:Cx)(pins:List (Addr×Obj))(σ:L2.St)(H:Hp)(st:Sto)(f:Addr)(fd:FuncData)(H':Hp)(s':Shared):Prop where
 inv:L2.Inv X pins σ H' s'
 tk:TK X.K H H'
 ev:Ev st H st H'
 rs:RelS X.K st H'
 fn:H' f=some (.frz (M7 fd) Fz)
 cd:M6 H' fd.code
theorem bf6{fd:FuncData}{h':Heap}{tk:Nat}(I:L2.Inv X pins σ H s)(rs:RelS X.K st H)(hk:∀b o,s.heap.get? b=some o→h'.get? b=some o)(hsz:s.heap.objs.size≤h'.objs.size)(cd:M6 H fd.code):
  Made X pins σ H st h'.objs.size fd (upd H h'.objs.size (.frz (M7 fd) Fz)) {s with heap:=h'.push (M7 fd),toks:=tk}:=by
 have hn:H h'.objs.size=none:=I.hok.fresh hsz;exact⟨I.laid (fun b o e=>Heap.get?_push_of_some _ (hk b o e)) hsz (aq6 (Heap.get?_push_size _ rfl)),TK.new hn,Ev.new hn,rs.new hn,o8,cd.mono (K:=X.K) (TK.new hn)⟩
theorem bh2{P c':Addr}{ps:Array Value}{fd:FuncData}{h':Heap}{tk:Nat}{i j:Int}{t1 t2:Tok}{q:Str}(I:L2.Inv X pins σ H s)(rs:RelS X.K st H)(hP:H P=some (.tbl ps))(hT:TabOk H ps)
  (hx:Heap.ExtBut P s.heap h') (hc:s.heap.objs.size≤c') (hlt:c'<h'.objs.size) (hr:h'.CodeRec (.ref c') q) (ht:h'.get? P=some (W.tabObj (ps++#[.int i t1,.int j t2,.ref c']))) (hcd:fd.code=.ref c') :
  ∃H',Made X pins σ H st h'.objs.size fd H' {s with heap:=h'.push (M7 fd),toks:=tk}:=by
 obtain⟨c2,oc,vs,t,e2,hoc,hd,hv⟩:=hr;cases e2;have hPs:s.heap.get? P=some (W.tabObj ps):=I.hok P _ hP;have hsz:s.heap.objs.size≤h'.objs.size:=Nat.le_of_lt (Nat.lt_of_le_of_lt hc hlt);have n1:H c'=none:=I.hok.fresh hc;have n2:H h'.objs.size=none:=I.hok.fresh hsz;have cf:c'≠h'.objs.size:=Nat.ne_of_lt hlt;have cP:P≠c':=fun z=>by rw[z,n1]at hP;cases hP
 have fP:P≠h'.objs.size:=fun z=>by rw[z,n2]at hP;cases hP
 let H':Hp:=upd (upd (upd H c' (.frz oc Fz)) h'.objs.size (.frz (M7 fd) Fz)) P (.tbl (ps++#[.int i t1,.int j t2,.ref c']))
 have gP:H' P=some (.tbl (ps++#[.int i t1,.int j t2,.ref c'])):=o8;have gf:H' h'.objs.size=some (.frz (M7 fd) Fz):=by show upd _ _ _ _=_;rw[i8 (Ne.symm fP)];exact o8
 have gc:H' c'=some (.frz oc Fz):=by show upd _ _ _ _=_;rw[i8 (Ne.symm cP),i8 cf];exact o8
 have ge:∀b,b≠P→b≠h'.objs.size→b≠c'→H' b=H b:=fun b b1 b2 b3=>by show upd _ _ _ _=_;rw[i8 b1,i8 b2,i8 b3]
 have go:∀b u,H b=some u→b≠P→H' b=some u:=fun b u e b1=>by rw[ge b b1 (t6 e n2) (t6 e n1)];exact e
 have nt:∀b u,H b=some u→(∀ps,u≠.tbl ps)→b≠P:=fun b u e n z=>by rw[z,hP]at e;cases e;exact n _ rfl
 have hk:∀b o,b≠P→s.heap.get? b=some o→(h'.push (M7 fd)).get? b=some o:=fun b o n e=>Heap.get?_push_of_some _ (hx b o n e);have TKH:TK X.K H H':=⟨⟨fun a xs z=>by
  rcases z with(z|⟨o',z⟩)|z
  ·exact .inl (.inl (go _ _ z (nt _ _ z fun _=>nofun)))
  ·exact .inl (.inr ⟨o',go _ _ z (nt _ _ z fun _=>nofun)⟩)
  ·exact .inr z,fun a xs z=>go _ _ z (nt _ _ z fun _=>nofun)⟩,fun a o u z _=>go _ _ z (nt _ _ z fun _=>nofun)⟩
 have CF:M6 H' (.ref c'):=⟨c',oc,Fz,vs,q,t,rfl,gc,a65,hd,hv⟩;refine⟨H',I.un (h':=h'.push (M7 fd)) ⟨fun b o e n _ _=>?_,fun b o e n _ _=>?_,fun b o e n _=>?_,fun b o e _=>?_,fun b xs e=>?_,fun b o u e=>?_,fun b qs e=>?_⟩ (fun b u e=>?_),TKH,fun a o e k=>?_,⟨fun a o e=>?_,fun P0 hP0=>?_⟩,gf,by rw[hcd];exact CF⟩
 ·exact hk b o (fun z=>by rw[z,hP]at n;cases n) e
 ·exact⟨o.slots,hk b o (fun z=>by rw[z,hP]at n;cases n) e⟩
 ·have lb:=Heap.lt_size e;rw[ge b (fun z=>by rw[z,hP]at n;cases n) (Nat.ne_of_lt (Nat.lt_of_lt_of_le lb hsz)) (Nat.ne_of_lt (Nat.lt_of_lt_of_le lb hc))];exact n
 ·by_cases hb:b=P
  ·subst hb;exact⟨_,Heap.get?_push_of_some _ ht⟩
  ·exact⟨o,hk b o hb e⟩
 ·exact go _ _ e (nt _ _ e fun _=>nofun)
 ·exact go _ _ e (nt _ _ e fun _=>nofun)
 ·by_cases hb:b=P
  ·subst hb;rw[hP]at e;cases e;exact⟨_,gP⟩
  ·exact⟨#[],by rw[go _ _ e hb];simp⟩
 ·by_cases b1:b=P
  ·subst b1;rw[gP]at e;cases e;exact Heap.get?_push_of_some _ ht
  by_cases b2:b=h'.objs.size
  ·subst b2;rw[gf]at e;cases e;exact aq6 (Heap.get?_push_size _ rfl)
  by_cases b3:b=c'
  ·subst b3;rw[gc]at e;cases e;exact aq6 (Heap.get?_push_of_some _ hoc)
  rw[ge b b1 b2 b3]at e;refine(I.hok b u e).stay (fun c v hc' z=>hk c v ?_ z) (fun a z=>go _ _ z (nt _ _ z fun _=>nofun)) fun a xs z=>go _ _ z (nt _ _ z fun _=>nofun)
  rcases hc' with rfl|hc'
  ·exact b1
  ·exact nt _ _ hc' fun _=>nofun
 ·by_cases ha:a=P
  ·subst ha;rw[hP]at e;cases e;exact⟨⟨_,gP,.inr ⟨_,_,rfl,rfl⟩⟩,k⟩
  ·exact⟨⟨o,go _ _ e ha,.inl rfl⟩,k⟩
 ·have z:=rs.ob a o e;obtain⟨u,hu,hn⟩:=be0 z;have ea:H' a=H a:=by rw[hu];exact go _ _ hu (nt _ _ hu hn)
  cases o with
  |lst ds=>obtain⟨vs,q,w⟩:=z;exact⟨vs,by rw[ea];exact q,w.mono TKH⟩
  |fro ds=>
   obtain⟨vs,q|⟨o',q⟩,w⟩:=z
   ·exact⟨vs,.inl (by rw[ea];exact q),w.mono TKH⟩
   ·exact⟨vs,.inr ⟨o',by rw[ea];exact q⟩,w.mono TKH⟩
  |dct kvs=>obtain⟨vs,q,w⟩:=z;exact⟨vs,by rw[ea];exact q,w.mono TKH⟩
  |dtt kvs=>obtain⟨vs,q,w,t⟩:=z;exact⟨vs,by rw[ea];exact q,w.mono TKH,t⟩
  |ins c fs=>obtain⟨C,dx,vs,q,n,w⟩:=z;exact⟨C,dx,vs,by rw[ea];exact q,n,w.mono TKH⟩
 ·by_cases hb:P0=P
  ·subst hb;refine⟨_,gP,?_,fun pos cv hcv=>?_⟩
   ·rw[Array.toList_append];exact a82 _ _ (Nat.le_refl _) hT.tr
   ·rw[Array.toList_append]at hcv
    rcases a99 _ _ (Nat.le_refl _) hT.tr hcv with z|z
    ·exact(hT.co pos cv z).mono TKH
    ·rw[z];exact CF
  ·obtain⟨qs,e,o⟩:=rs.tb P0 hP0;exact⟨qs,go _ _ e hb,o.tr,fun pos cv hcv=>(o.co pos cv hcv).mono TKH⟩
theorem ci4{name qual:Str}{params:Arguments}{fb:FuncBody}{scope:Scope}{pos:Pos}{line:Nat}{cl:List (Str×Addr)}{Q:Value→Shared→Prop}(I:L2.Inv X pins σ H s)(rs:RelS X.K st H)(L:LamOk X)(hcl:closureFor scope X.env=pure cl)
  (h:∀f doc pm cv ct H' s',Made X pins σ H st f (C5 name qual params fb scope cl doc pm cv ct) H' s'→Q (.ref f) s') :
  wpAny (model X.prog X.w) X.A (makeFunction name qual params fb scope X.env [] [] [] pos line) Q X.xe s:=by
 obtain⟨c,P,hcode,C,hPs⟩:=L.tab;obtain⟨ps,hP,hT⟩:=rs.tb P hPs;have hPh:s.heap.get? P=some (W.tabObj ps):=I.hok P _ hP;have hg:s.heap.Ns mainGlobals X.mg:=I.mod.glob.keeps I.bk;have hgP:mainGlobals≠P:=fun z=>by
  obtain⟨o,es,ep,e,hd,_⟩:=hg;rw[z,hPh]at e;cases e;cases hd
 have hB:s.heap.BuiltinsAt X.mg P:=by
  obtain⟨bm,ob,b1,b2,b3,b4,b5,b6⟩:=L.bm;have b3':=I.bk _ _ b3;refine⟨bm,ob,b1,b2,fun z=>?_,fun z=>?_,b3',b4,b5,b6⟩
  ·obtain⟨o,es,ep,e,hd,_⟩:=hg;rw[←z,b3']at e;cases e;rw[b6]at hd;cases hd
  ·rw[z,hPh]at b3';cases b3';cases b4
 have C':=C.keeps I.bk;cases hh:codeAmong pos ps.toList with
 |none=>
  cases fb with
  |stmts body=>
   refine W.makeFunction_K (mg:=X.mg) hcl I.ok.glob hg hcode C' hPh hT.tr hh hgP hB fun c' ct doc h' tk hx hc hlt hr ht=>?_;obtain⟨H',M⟩:=bh2 (fd:=C5 name qual params (.stmts body) scope cl doc ((X.mg "__name__").getD .none) (.ref c') ct) (tk:=tk) I rs hP hT hx hc hlt hr ht rfl;exact h _ _ _ _ _ _ _ M
  |expr body=>
   refine W.kla_makeFunction (mg:=X.mg) hcl I.ok.glob hg hcode C' hPh hT.tr hh hgP hB fun c' ct h' tk hx hc hlt hr ht=>?_;obtain⟨H',M⟩:=bh2 (fd:=C5 name qual params (.expr body) scope cl .none ((X.mg "__name__").getD .none) (.ref c') ct) (tk:=tk) I rs hP hT hx hc hlt hr ht rfl;exact h _ _ _ _ _ _ _ M
 |some cv=>
  have cd:=hT.co pos cv hh;cases fb with
  |stmts body=>
   refine W.makeFunction_hit (mg:=X.mg) hcl I.ok.glob hg hcode C' hPh hT.tr hh hB fun ct doc h' tk hk hsz=>?_;exact h _ doc ((X.mg "__name__").getD .none) cv ct _ _ (bf6 (fd:=C5 name qual params (.stmts body) scope cl doc ((X.mg "__name__").getD .none) cv ct) (tk:=tk) I rs hk hsz cd)
  |expr body=>
   refine W.kla_makeFunctionHit (mg:=X.mg) hcl I.ok.glob hg hcode C' hPh hT.tr hh hB fun ct h' tk hk hsz=>?_;exact h _ .none ((X.mg "__name__").getD .none) cv ct _ _ (bf6 (fd:=C5 name qual params (.expr body) scope cl .none ((X.mg "__name__").getD .none) cv ct) (tk:=tk) I rs hk hsz cd)
end
end Ek
namespace Ek
open PySem PySem.Spec PyProof.Rows L2
variable [Tbs]
theorem bg5{K:W.Frag}{H:Hp}{env:i9}{σ:L2.St}(hE:RelE K H env σ):∀{cp:List Nat}{cs:List D},E7 env cp=some cs →
  ∃us:List V,IsDs K H cs us∧us.length=cp.length∧∀(i:Nat)v,us[i]?=some v→∃j,cp[i]?=some j∧σ[j]?=some (some v)
 |[],cs,h=>by
  cases h;exact⟨[],.nil,rfl,fun i v z=>by simp at z⟩
 |j::cp,cs,h=>by
  unfold E7 at h
  split at h
  ·rename_i d ds h1 h2;cases h;obtain⟨us,r,l,a⟩:=bg5 hE h2;obtain⟨v,hv,is⟩:=hE.at' j d h1;refine⟨v::us,.cons is r,by simp[l],fun i w z=>?_⟩;cases i with
   |zero=>simp at z;subst z;exact⟨j,rfl,hv⟩
   |succ i=>exact a i w (by simpa using z)
  ·cases h
structure NestOk(X:Cx)(params:Arguments)(fb:FuncBody)(scope:Scope)(np:Nat)(N ps:List Str)(cp:List Nat)(b:Ss):Prop where
 sc:FnScC N ps scope
 lp:ps.length=np
 mt:Tbs.mt b scope N fb
 bind:∀(name qual:Str)(cl:List (Str×Addr))(doc pm cv ct:Value)(us:List Value),us.length=ps.length→bindArgs (C5 name qual params fb scope cl doc pm cv ct) ⟨us,[]⟩=pure (ps.zip us)
 cap:∀(i j:Nat),cp[i]?=some j→∃x,X.N[j]?=some x∧N[np+i]?=some x∧(x,NameKind.free)∈scope.names
 fre:∀x,(x,NameKind.free)∈scope.names→(∃i:Nat,∃j:Nat,cp[i]?=some j∧X.N[j]?=some x)∧X.env.scope.names.lookup x=some .cell∧X.fn x=false∧X.ow x=true
section
variable {X:Cx} {pins:List (Addr×Obj)} {σ:L2.St} {H:Hp} {s:Shared} {st:Sto}
theorem bk9{name qual:Str}{params:Arguments}{fb:FuncBody}{scope:Scope}{pos:Pos}{line:Nat}{np:Nat}{N ps:List Str}{cp:List Nat}{b:Ss}{env:i9}{cs:List D}{Q:Value→Shared→Prop}
  (I:L2.Inv X pins σ H s) (rs:RelS X.K st H) (hE:RelE X.K H env σ) (L:LamOk X) (S:NestOk X params fb scope np N ps cp b) (hc:E7 env cp=some cs)
  (h:∀f H' s',L2.Inv X pins σ H' s'→TK X.K H H'→Ev st H st H'→RelS X.K st H'→IsD X.K H' (.clo np N b cs) (.ref f)→Q (.ref f) s') :
  wpAny (model X.prog X.w) X.A (makeFunction name qual params fb scope X.env [] [] [] pos line) Q X.xe s:=by
 obtain⟨us,ius,lus,aus⟩:=bg5 hE hc
 let fs:List Str:=(scope.names.filter fun y=>y.2==.free).map (·.1)
 have mfs:∀x,x∈fs↔(x,NameKind.free)∈scope.names:=fun x=>by
  simp only[fs,List.mem_map,List.mem_filter,beq_iff_eq];constructor
  ·rintro⟨⟨y,k⟩,⟨h1,h2⟩,rfl⟩;simp only at h2;subst h2;exact h1
  ·intro h1;exact⟨(x,.free),⟨h1,rfl⟩,rfl⟩
 have hcel:∀x,(x,NameKind.free)∈scope.names→∃c,X.env.cells.lookup x=some c:=fun x hx=>I.ok.has x (.inl (S.fre x hx).2.1);obtain⟨H1,I1,e1,f1⟩:=a94 I fs fun x hx=>⟨(S.fre x ((mfs x).mp hx)).2.2.1,(S.fre x ((mfs x).mp hx)).2.2.2,hcel x ((mfs x).mp hx)⟩;have hcl:closureFor scope X.env=pure (t9 X.env.cells scope.names []):=aw5 fun y hy hk=>by
  obtain⟨y,k⟩:=y;simp only at hk;subst hk;obtain⟨c,hc⟩:=hcel y hy;simp only[hc,Option.isSome_some]
 refine ci4 I1 (b49 rs e1) L hcl fun f doc pm cv ct H2 s2 M=>?_;have tk:TK X.K H H2:=(bi9 e1).trans M.tk;have val:∀(j:Nat)x v,X.N[j]?=some x→σ[j]?=some (some v)→(x,NameKind.free)∈scope.names→∃c o u w,(t9 X.env.cells scope.names []).lookup x=some c∧H2 c=some (.frz o u)∧(∀vs,u≠.lst vs)∧o.data=.cell (some w)∧i6 v w:=fun j x v hN hs hx=>by
  obtain⟨m,hn,hl⟩:=I1.loc;obtain⟨w,r,l⟩:=hl j x v hN hs (.inr (.inl (S.fre x hx).2.1));obtain⟨c,o,u,a1,a2,a3,a4⟩:=f1 x ((mfs x).mpr hx)
  rcases l with⟨k1,_⟩|⟨_,c2,l1,o2,l2,l3⟩
  ·have k1':X.env.scope.names.lookup x=some .local:=k1;rw[(S.fre x hx).2.1]at k1';cases k1'
  ·rw[a1]at l1;cases l1;rw[a4]at l2;cases l2;exact⟨c,o,u,w,af0 a1 hx,M.tk.2 _ _ _ a2 a3,a3,l3,r⟩
 have un:∀x c,(t9 X.env.cells scope.names []).lookup x=some c→X.env.cells.lookup x=some c∧(x,NameKind.free)∈scope.names:=fun x c hx=>L4 hx;refine h f H2 s2 M.inv tk ((ch4 e1).trans M.ev) M.rs (.clo (us:=us) ⟨C5 name qual params fb scope (t9 X.env.cells scope.names []) doc pm cv ct,ps,⟨S.sc,S.lp,S.mt,S.bind name qual _ doc pm cv ct,rfl,rfl,fun x hx=>?_,fun x c hx=>(un x c hx).2,fun x y c hx hy=>I.ok.inj x y c (un x c hx).1 (un y c hy).1⟩,⟨⟨_,_,M.fn,a65,rfl⟩,M.cd,fun x c hx=>?_,fun i v hv=>?_⟩⟩ (by rw[ius.len]) (ius.mono tk).at')
 ·obtain⟨c,hc⟩:=hcel x hx;exact⟨c,af0 hc hx⟩
 ·obtain⟨⟨i,j,hi,hj⟩,_⟩:=S.fre x (un x c hx).2;have hil:i<us.length:=by rw[lus];exact(List.getElem?_eq_some_iff.mp hi).1
  obtain⟨j',hj',hs'⟩:=aus i _ (List.getElem?_eq_getElem hil);rw[hi]at hj';cases hj';obtain⟨c',o,u,w,b1,b2,b3,b4,b5⟩:=val j x _ hj hs' (un x c hx).2;have hx':(t9 X.env.cells scope.names []).lookup x=some c:=hx;rw[b1]at hx';cases hx';exact⟨o,u,w,b2,b3,b4⟩
 ·obtain⟨j,hj,hs⟩:=aus i v hv;obtain⟨x,n1,n2,n3⟩:=S.cap i j hj;obtain⟨c,o,u,w,b1,b2,b3,b4,b5⟩:=val j x v n1 hs n3;exact⟨x,c,o,u,w,n2,b1,b2,b3,b4,b5⟩
theorem cq8{params:Arguments}{body:Expr}{scope:Scope}{pos:Pos}{np:Nat}{N ps:List Str}{cp:List Nat}{b:Ss}(hd:∀env,defaultsOf params env=([],[]))(L:LamOk X)(S:NestOk X params (.expr body) scope np N ps cp b):
  PE X (.Lambda params body scope pos) (up X.K fun env st Q=>∃cs,E7 env cp=some cs∧Q (.clo np N b cs) st):=by
 intro pins s σ H Q I q;obtain⟨env,st,Qd,hE,hS,⟨cs,hc,ht⟩,hq⟩:=q;refine W.kla_eval (hd _) (bk9 I hS hE L S hc fun f H' s' I' tk ev rs is=>?_);exact⟨.ref f,H',I',rfl,hq _ _ H' st ev is rs ht⟩
theorem cq6{name:Str}{params:Arguments}{body:List Stmt}{scope:Scope}{pos:Pos}{i np:Nat}{N ps:List Str}{cp:List Nat}{b:Ss}(hN:X.N.Nodup)(hi:X.N[i]?=some name)(hx:Loc X.env.scope name)(hf:X.fn name=true∨X.env.scope.names.lookup name=some .local)
  (h1:params.defaults=[]) (h2:params.kw_defaults=[]) (h3:∀env,annTrees params none env=[]) (L:LamOk X) (S:NestOk X params (.stmts body) scope np N ps cp b) :
  PS X (.FunctionDef name params body [] none [] scope none name pos) (upS X.K fun F env st=>∃cs,E7 env cp=some cs∧F.nx (env.set i (some (.clo np N b cs))) st):=by
 intro pins s σ H F I q;obtain⟨env,st,Fd,hE,hS,⟨cs,hc,ht⟩,hq⟩:=q;refine W.nestDef_K h1 h2 (h3 _) (bk9 I hS hE L S hc fun f H' s' I' tk ev rs is=>?_);refine ae7 I' hN hi hx (v:=.ref f) rfl (fun s2 I2=>?_) hf;exact⟨_,H',I2,hq.nx _ _ H' st ev ((hE.mono tk).set is i) rs ht⟩
end
end Ek
namespace Ek
open PySem PySem.Spec PyProof.Rows L2
variable [Tbs]
noncomputable def b53(fb:FuncBody)(env:Env):Code:=match fb with
 |.stmts b=>.func b env
 |.expr e=>.expr e env
theorem b47{prog:Program}{w:World}{A:Around}{R:Result→Shared→Prop}{s:Shared}{a c:Addr}{args:Args}{o oc:Obj}{fd:FuncData}{vs:Array Value}{q:Str}{t:Tok}(hroom:A.depth<recursionLimit)(ho:s.heap.get? a=some o)(hd':o.data=.func fd)
  (hco:fd.scope.isCoroutine=false) (hgen:fd.scope.isGenerator=false) (hc:fd.code=.ref c) (hoc:s.heap.get? c=some oc) (hdc:oc.data=.fields vs) (hq:vs[1]?=some (.str q t))
  (h:wpAny (model prog w) A.in1 (bindArgs fd args) (fun binds s₁=>
   wpAny (model prog w) A.in1 (newFunctionEnv fd.scope fd.globals fd.closure binds (q++".<locals>.") (some a) fd.code none fd.builtins)
    (fun env s₂=>s₂.heap.NoLimit∧codeAny (model prog w) A (b53 fd.body env) R s₂) (fun e s'=>R (.error e) s') s₁) (fun e s'=>R (.error e) s') s) :
  codeAny (model prog w) A (.call (.ref a) args) R s:=by
 refine codeAny_of_tree ?_;show wpAny _ A.in1 (callAny (.ref a) args) _ _ s;simp only[callAny];refine wpAny_bind (wpAny_load ho ?_);simp only[hd',callFunction,hco,hgen,hc];rw[hc]at h;refine wpAny_bind (m:=field (.ref c) 1) (wpAny_field hoc hdc hq (wpAny_bind (wpAny_pure ?_)));refine wpAny_bind (wpAny_mono h (fun binds s₁ h₁=>wpAny_bind (wpAny_mono h₁ (fun env s₂ h₂=>wpAny_bind (wpAny_enterFrame h₂.1 hroom
  ?_)) fun _ _ h'=>h')) fun _ _ h'=>h')
 have h3:=h₂.2;cases hb:fd.body with
 |stmts b=>rw[hb]at h3;exact wpAny_pure (And.intro rfl h3)
 |expr e=>rw[hb]at h3;exact wpAny_pure (And.intro rfl h3)
theorem ba1{x:Str}{u:Value}:∀{ps:List Str}{us:List Value}{i:Nat},ps.Nodup→ps[i]?=some x→us[i]?=some u→(ps.zip us).reverse.lookup x=some u
 |[],_,_,_,h,_=>by simp at h
 |_::_,[],_,_,_,h=>by simp at h
 |p::ps,w::us,i,nd,h1,h2=>by
  rw[List.zip_cons_cons,List.reverse_cons,List.lookup_append];cases i with
  |zero=>
   simp at h1 h2;subst h1 h2;have:(ps.zip us).reverse.lookup p=none:=by
    rw[List.lookup_eq_none_iff];intro y hy;have:=(List.of_mem_zip (List.mem_reverse.mp hy)).1;have ne:p≠y.1:=fun z=>(List.nodup_cons.mp nd).1 (z▸this);simpa using ne
   rw[this];simp[List.lookup]
  |succ i=>
   rw[ba1 (i:=i) (List.nodup_cons.mp nd).2 (by simpa using h1) (by simpa using h2)];rfl
noncomputable def cxC(P:Program)(w:World)(K:W.Frag)(mg:Str→Option Value)(base:Heap)(N:List Str)(scope:Scope)(cl:List (Str×Addr))(q:Str)(f:Addr)(cd:Value)(A:Around)(outer:List Env)(s:Shared)(H:Hp):Cx where
 prog:=P
 w:=w
 K:=K
 mg:=mg
 base:=base
 A:=A.deeper (newEnv scope s.heap.objs.size mainGlobals cl (q++".<locals>.") (some f) cd none builtinsNs)
 N:=N
 s₀:=s
 H₀:=H
 env:=newEnv scope s.heap.objs.size mainGlobals cl (q++".<locals>.") (some f) cd none builtinsNs
 outer:=outer
 stack:=newEnv scope s.heap.objs.size mainGlobals cl (q++".<locals>.") (some f) cd none builtinsNs::outer
 ex:=[]
 calm:=true
 fn:=fun y=>!(scope.names.any fun z=>z.1==y&&z.2==.free)
 pn:=[]
 xe:=fun _ _=>False
theorem by0{P:Program}{w:World}{K:W.Frag}{mg:Str→Option Value}{base:Heap}{N ps:List Str}{np:Nat}{b:Ss}{q:Str}{f:Addr}{fd:FuncData}{A:Around}{outer:List Env}{s:Shared}{h1:Heap}{tk:Nat}{H:Hp}{us:List Value}{vs us0:List V}
  (cf:CloF fd np N ps b) (cr:CloR H f fd np N us0) (hd:A.handled=none) (e0:Env0 P w K mg base A outer s H) (hl:vs.length=ps.length) (r:e9 vs us)
  (hns:h1.Ns s.heap.objs.size (fun x=>(ps.zip us).reverse.lookup x)) (hk:∀b o,s.heap.get? b=some o→h1.get? b=some o) :
  Inv (cxC P w K mg base N fd.scope fd.closure q f fd.code A outer s H) [] (x0 N (vs++us0)) H {s with heap:=h1,toks:=tk}:=by
 have S:=cf.sc;have noA:∀b:Addr,b∉(cxC P w K mg base N fd.scope fd.closure q f fd.code A outer s H).ex:=fun b z=>absurd (show b∈([]:List Addr) from z) (by simp);have hpl:ps.length≤N.length:=by have:=congrArg List.length S.pre;rw[List.length_take]at this;omega
 have hful:(vs++us0).length≤N.length:=by
  rw[List.length_append,hl];cases hu:us0.length with
  |zero=>omega
  |succ m=>
   have hm:m<us0.length:=by omega
   obtain⟨x,_,_,_,_,n1,_⟩:=cr.at' m _ (List.getElem?_eq_getElem hm);have:=(List.getElem?_eq_some_iff.mp n1).1;have:=cf.np;omega
 have fnF:∀x c,fd.closure.lookup x=some c→(!(fd.scope.names.any fun z=>z.1==x&&z.2==.free))=false:=fun x c h=>by
  have hm:=cf.fre x c h;have:(fd.scope.names.any fun z=>z.1==x&&z.2==.free)=true:=List.any_eq_true.mpr ⟨(x,.free),hm,by simp⟩;rw[this];rfl
 have celH:∀{c:Addr}{o:Obj}{u:HO},H c=some (.frz o u)→h1.get? c=some o:=fun{c o u}e=>by
  obtain⟨z,_⟩:=e0.hok c _ e;exact hk _ _ z
 refine⟨⟨e0.mod,S.kind,rfl,rfl,Nat.le_refl _,fun y z c h1 h2=>cf.inj y z c h1 h2,fun y hy=>?_,fun y c h hc=>?_,fun _=>hd,Around.frames_deeper e0.frames,.inr ⟨rfl,rfl⟩,fun b z=>absurd z (noA b),e0.bs,e0.bsz,fun b _ _=>noA b,fun b z=>absurd z (noA b),e0.funs,e0.frf⟩,
  rfl,e0.bare,Un.kept hk,⟨_,hns,fun i y v h1 h2 h3=>?_⟩,fun y c h=>?_,e0.hok.fresh (Nat.le_refl _),fun y c h=>?_,fun p hp=>absurd (show p ∈ ([]:List (Addr × Obj)) from hp) (by simp),e0.hok.kept hk,?_⟩
 ·have hy:fd.scope.names.lookup y=some .cell∨fd.scope.names.lookup y=some .free:=hy
  rcases hy with hy|hy
  ·exact absurd rfl (S.nocell _ (PySem.mem_of_lookup hy))
  ·exact cf.has y (PySem.mem_of_lookup hy)
 ·have hc':fd.closure.lookup y=some c:=hc
  rcases h with h|h
  ·have h':(!(fd.scope.names.any fun z=>z.1==y&&z.2==.free))=true:=h;rw[fnF y c hc']at h';cases h'
  ·cases h
 ·have hi:i<(vs++us0).length:=by
   unfold L2.x0 at h2
   by_cases hi:i<(vs++us0).length
   ·exact hi
   ·rw[List.getElem?_append_right (by simpa using hi)]at h2;rw[List.getElem?_replicate]at h2
    split at h2<;>cases h2
  have ha:(vs++us0)[i]?=some v:=by
   unfold L2.x0 at h2;rw[List.getElem?_append_left (by simpa using hi),List.getElem?_map]at h2;cases e:(vs++us0)[i]? with
   |none=>rw[e]at h2;cases h2
   |some a=>rw[e]at h2;cases h2;rfl
  have h1':N[i]?=some y:=h1
  by_cases hv:i<vs.length
  ·rw[List.getElem?_append_left hv]at ha;obtain⟨u,hu,rv⟩:=r.get ha;have hp:ps[i]?=some y:=by
    rw[←S.pre,List.getElem?_take_of_lt (by omega)];exact h1'
   have ndP:ps.Nodup:=by rw[←S.pre];exact S.nd.sublist (List.take_sublist _ _)
   exact⟨u,rv,.inl ⟨S.par y (List.mem_of_getElem? hp),ba1 ndP hp hu⟩⟩
  ·rw[List.getElem?_append_right (by omega)]at ha;obtain⟨x,c,o',u',ww,n1,n2,n3,n4,n5,n6⟩:=cr.at' _ v ha;have e:np+(i-vs.length)=i:=by have:=cf.np;omega
   rw[e,h1']at n1;cases n1;exact⟨ww,n6,.inr ⟨.inr (S.fre _ (cf.fre y c n2) rfl),c,n2,o',celH n3,n5⟩⟩
 ·obtain⟨o',u',ww,n3,n4,n5⟩:=cr.cl y c h;exact⟨some ww,o',celH n3,n5⟩
 ·obtain⟨o',u',ww,n3,n4,n5⟩:=cr.cl y c h;exact .inr ⟨fnF y c h,o',u',n3⟩
 ·unfold L2.x0;show _=N.length;rw[List.length_append,List.length_map,List.length_replicate];omega
noncomputable def cv1(X:Cx)(fb:FuncBody)(Z:Sg)(b:Ss):Prop:=match fb with
 |.stmts l=>PSs X l (upS X.K (m9 Z b))
 |.expr x=>∃e,b=.cons (.ret e) .nil∧PE X x (up X.K (wpE Z e))
theorem ba8{K:W.Frag}{H:Hp}{N:List Str}{ds:List D}{vs:List V}(r:IsDs K H ds vs):RelE K H (ds.map some++List.replicate (N.length-ds.length) none) (L2.x0 N vs):=by
 refine⟨by simp[L2.x0,r.len],fun i x h=>?_⟩;unfold L2.x0
 by_cases hi:i<ds.length
 ·rw[List.getElem?_append_left (by simpa using hi),List.getElem?_map,List.getElem?_eq_getElem hi]at h;simp only[Option.map_some,Option.some.injEq]at h;obtain⟨v,hv,is⟩:=r.get (List.getElem?_eq_getElem hi);refine⟨v,?_,by rw[←h];exact is⟩;rw[List.getElem?_append_left (by rw[List.length_map,←r.len];exact hi),List.getElem?_map,hv];rfl
 ·rw[List.getElem?_append_right (by simpa using hi),List.getElem?_replicate]at h
  split at h<;>cases h
theorem bz2{K:W.Frag}{H:Hp}{N:List Str}{ds cs:List D}{vs us:List V}(r:IsDs K H ds vs)(r2:IsDs K H cs us):RelE K H (L9 N ds cs) (L2.x0 N (vs++us)):=ba8 (r.append r2)
theorem cs2{P:Program}{w:World}{K:W.Frag}{mg:Str→Option Value}{base:Heap}{n np:Nat}{fa:Addr}{fd:FuncData}{N ps:List Str}{b:Ss}{cs:List D}{Z:Sg}(cf:CloF fd np N ps b)
  (hbody:∀(q:Str)(A:Around)(outer:List Env)(s:Shared)(H:Hp),Room n (cxC P w K mg base N fd.scope fd.closure q fa fd.code A outer s H).A→cv1 (cxC P w K mg base N fd.scope fd.closure q fa fd.code A outer s H) fd.body Z b) :
  FnOk P w K mg base CX0 (n+1) fa fd ps (Y8 K fa fd np N cs fun ds st Q=>ds.length=np∧m9 Z b {nx:=fun _ st'=>∃s2,Sub s2 st'∧Q .non s2,rt:=fun d st'=>∃s2,Sub s2 st'∧Q d s2} (L9 N ds cs) st):=by
 refine⟨fun vs H Q E hsp=>?_,fun A outer s H args us vs Q E hr e0 hb r hsp=>?_⟩
 ·obtain⟨us0,ds,st,Qd,cr,ics,is,rs,hs,hq⟩:=hsp;rw[←is.len,hs.1,cf.np]
 ·obtain⟨us0,ds,st,Qd,cr,ics,is,rs,⟨hlen,hs⟩,hq⟩:=hsp;have S:=cf.sc;have hl:vs.length=ps.length:=by rw[←is.len,hlen,cf.np]
  have lim:s.heap.NoLimit:=e0.mod.nolimit.keeps fun b o e=>(e0.bs b o e).1;obtain⟨o,u,f1,f2,f3⟩:=cr.ex;obtain⟨c,oc,uc,vc,q,t,c1,c2,c3,c4,c5⟩:=cr.cd;obtain⟨ho,_⟩:=e0.hok fa _ f1;obtain⟨hoc,_⟩:=e0.hok c _ c2;have hloc:∀y∈ps.zip us,fd.scope.names.lookup y.1=some .local:=fun⟨x,v⟩hy=>S.par x (List.of_mem_zip hy).1;refine b47 hr.depth ho f3 S.co S.gen c1 hoc c4 c5 (hb _ _ _ _ ?_);rw[cf.gl,cf.bl];refine wpAny_newFunctionEnv S.nocell hloc (fun h1 hns hsb=>?_) S.kind;have hk:∀b o,s.heap.get? b=some o→h1.get? b=some o:=fun b o e=>hsb.extBut b o (Nat.ne_of_lt (Heap.lt_size e)) (Heap.get?_push_of_some _ e);refine⟨lim.keeps hk,?_⟩;have I:=by0 (q:=q) (tk:=s.toks+(ps.zip us).length) cf cr hr.hd e0 hl r hns hk;have hB:=hbody q A outer s H (hr.deeper _);have hE:RelE K H (L9 N ds cs) (x0 N (vs++us0)):=bz2 is ics;have fin:∀{σ':L2.St}{H':Hp}{v:V}{u:Value}{s':Shared},Inv (cxC P w K mg base N fd.scope fd.closure q fa fd.code A outer s H) [] σ' H' s'→i6 v u→Q v H'→CE outer P w H s Q u s':=
   fun{σ' H' v u s'}J rv q=>⟨v,H',J.os,J.bare,J.base,J.hok,rv,q⟩
  have rt:∀v d H' st',Ev st H st' H'→IsD K H' d v→RelS K st' H'→(∃s2,Sub s2 st'∧Qd d s2)→Q v H':=fun v d H' st' ev is' rs'⟨s2,sub,q⟩=>hq v d H' s2 (ev.drop sub) is' (rs'.sub sub) q;cases hfb:fd.body with
  |stmts l=>
   rw[hfb]at hB;refine codeAny_func (wpAny_mono (hB [] _ _ H {nx:=fun _ H'=>Q .non H',rt:=Q} I ⟨L9 N ds cs,st,_,hE,rs,hs,fun env σ H' st' ev hE hS q=>rt _ .non H' st' ev .non hS q,fun env σ H' st' ev hE hS q=>q.elim,fun env σ H' st' ev hE hS q=>q.elim,fun v e H' st' ev is' rs' q=>rt v e H' st' ev is' rs' q⟩) (fun fl s' hs=>?_) fun e s' z=>z.elim);cases fl with
   |ret u=>
    obtain⟨v,σ',H',J,rv,q⟩:=hs;exact fin J rv q
   |next=>
    obtain⟨σ',H',J,q⟩:=hs;exact fin (v:=V.non) (u:=Value.none) J rfl q
   |brk=>
    obtain⟨_,_,_,q⟩:=hs;exact False.elim q
   |cont=>
    obtain⟨_,_,_,q⟩:=hs;exact False.elim q
  |expr x=>
   rw[hfb]at hB;obtain⟨e,rfl,hB⟩:=hB;refine W.kla_codeExpr (wpAny_mono (hB [] _ _ H Q I ⟨L9 N ds cs,st,_,hE,rs,(show wpE Z e (L9 N ds cs) st _ from hs),fun v d H' st' ev is' rs' q=>rt v d H' st' ev is' rs' q⟩) (fun u s' hs=>?_) fun e s' z=>z.elim);obtain⟨v,H',J,rv,q⟩:=hs;exact fin J rv q
end Ek
namespace Ek
open PySem PySem.Spec PyProof.Rows L2
variable [Tbs]
noncomputable def W3:List Str:=["len","abs","int","sum","list","tuple","isinstance","max","range","enumerate","reversed","str","bool","min","sorted","zip"]
noncomputable def isM(f:Str):Bool:=f.cps.contains 46
structure FOk(X:Cx)(f:Str)(sp:Spec):Prop where
 ex:∃k a fd ps,FnOk X.prog X.w X.K X.mg X.base CX0 k a fd ps (B9 X.K sp)∧Room k X.A∧X.mg f=some (.ref a)∧W.keepIn X.K (.ref a)=true∧z7 X.K fd ps []∧W.nsIn X.K mainGlobals f=some (some (.ref a))
noncomputable def v4:Str:=⟨#[33]⟩
noncomputable def w6(x:Str):Str:=⟨#[33]++x.cps⟩
noncomputable def ad9:Arguments→Option (List Str)
 |⟨[],[⟨a,none,_⟩],none,[],[],none,[]⟩=>some [a]
 |⟨[],[⟨a,none,_⟩,⟨b,none,_⟩],none,[],[],none,[]⟩=>if b==a then none else some [a,b]
 |_=>none
noncomputable def ar4(sc:Scope)(N:List Str)(scope:Scope)(Nl ps:List Str)(np:Nat)(cp:List Nat):Bool:=
 (ps.length==np)&&(scope.kind==.function)&&!scope.isCoroutine&&!scope.isGenerator&&decide Nl.Nodup&&(Nl.take ps.length==ps)&&ps.all (fun x=>scope.names.lookup x==some .local)&&scope.names.all (fun y=>!(y.2==.cell))&&
 scope.names.all (fun y=>!(y.2==.free)||(scope.names.lookup y.1==some .free&&sc.names.lookup y.1==some .cell&&N.contains (w6 y.1)&&(List.range cp.length).any fun i=>match cp[i]? with|some j=>N[j]?==some y.1|none=>false))&&
 (List.range cp.length).all (fun i=>match cp[i]? with|some j=>(match N[j]? with|some x=>(Nl[np+i]?==some x)&&scope.names.any (fun z=>z.1==x&&z.2==.free)|none=>false)|none=>false)
noncomputable def glb(sc:Scope)(f:Str):Bool:=sc.names.lookup f==some .globalImplicit
noncomputable def au9(sc:Scope)(x:Str):Bool:=match sc.names.lookup x with
 |some .local=>true|some .cell=>true|some .free=>true|_=>false
noncomputable def M9(sc:Scope)(x:Str):Bool:=match sc.names.lookup x with
 |some .local=>true|some .cell=>true|_=>false
noncomputable def lcl(sc:Scope)(x:Str):Bool:=sc.names.lookup x==some .local
noncomputable def okN(x:Str):Bool:=!(x==("__debug__":Str))&&!(x==("__classdict__":Str))
noncomputable def bp3:Expr→Bool
 |.Starred ..=>false|.Slice ..=>false|.Set ..=>false|_=>true
noncomputable def J0:Expr→Bool
 |.Call (.Name _ _) [] [] _=>false|_=>true
noncomputable def D7:Expr→Bool
 |.IfExp ..=>false|_=>true
noncomputable def Y7:Expr→Bool
 |.ListComp ..=>false|.SetComp ..=>false|.DictComp ..=>false|_=>true
noncomputable def a78(scope sc:Scope):Scope:=
 {scope with names:=scope.names.map fun(n,k)=>if(k==.free&&sc.kind==.function&&sc.names.lookup n==some .cell)then(n,.cell)else(n,k)}
noncomputable def X9(sc scope:Scope)(N Nc:List Str)(fr:List Nat)(k:Nat):Bool:=
 (scope.kind==.function)&&scope.names.all (fun y=>!(y.2==.cell))&&scope.names.all (fun y=>!(y.2==.local)||scope.names.lookup y.1==some .local)&&
 scope.names.all (fun y=>!(y.2==.free)||sc.names.lookup y.1==some .cell||sc.names.lookup y.1==some .free)&&scope.names.all (fun y=>!(y.2==.free)||!(scope.names.any fun z=>z.1==y.1&&z.2==.local))&&
 decide Nc.Nodup&&!(Nc.contains v4)&&(Nc.length==fr.length+k)&&((List.range fr.length).all fun i=>match Nc[i]?,fr[i]? with
  |some x,some j=>(N[j]?==some x)&&scope.names.any (fun z=>z.1==x&&z.2==.free)|_,_=>false)
noncomputable def mTg(ow:Bool)(t:Tg)(sc:Scope)(N:List Str)(x:Expr):Bool:=match t with
 |.n i=>(match x with
  |.Name y _=>(N[i]?==some y)&&M9 sc y&&((ow&&!(N.contains (w6 y)))||lcl sc y)
  |_=>false)
 |.tup is=>(match x with
  |.Tuple es _ _=>(is.length==es.length)&&((is.zip es).all fun p=>match p.2 with
   |.Name y _=>(N[p.1]?==some y)&&M9 sc y&&((ow&&!(N.contains (w6 y)))||lcl sc y)|_=>false)
  |_=>false)
noncomputable def mKs:List Str→List (Option Expr)→Bool
 |[],[]=>true
 |k::ks,some (.Constant (.str c) _ _)::r=>(k==c)&&mKs ks r
 |_,_=>false
mutual
noncomputable def mE:E→Scope→List Str→Expr→Bool
 |.non,_,_,x=>match x with|.Constant .none _ _=>true|_=>false
 |.bl b,_,_,x=>match x with|.Constant (.bool c) _ _=>b==c|_=>false
 |.int i,_,_,x=>match x with|.Constant (.int c) _ _=>i==c|_=>false
 |.str y,_,_,x=>match x with|.Constant (.str c) _ _=>y==c|_=>false
 |.v i,sc,N,x=>match x with|.Name y _=>(N[i]?==some y)&&au9 sc y&&okN y|_=>false
 |.tup es,sc,N,x=>match x with|.Tuple xs _ _=>mEs es sc N xs&&decide (es.len≤1000)|_=>false
 |.lst es,sc,N,x=>match x with|.List xs _=>mEs es sc N xs&&decide (es.len≤1000)|_=>false
 |.bin o a b,sc,N,x=>match x with|.BinOp p q r _=>(o==q)&&mE a sc N p&&mE b sc N r|_=>false
 |.neg a,sc,N,x=>match x with|.UnaryOp .USub p _=>mE a sc N p|_=>false
 |.cmp o a b,sc,N,x=>match x with|.Compare p [q] [r] _=>(o==q)&&mE a sc N p&&mE b sc N r|_=>false
 |.isN a,sc,N,x=>match x with|.Compare p [.Is] [.Constant .none _ _] _=>mE a sc N p|_=>false
 |.notN a,sc,N,x=>match x with|.Compare p [.IsNot] [.Constant .none _ _] _=>mE a sc N p|_=>false
 |.and a b,sc,N,x=>match x with
  |.BoolOp .And [p,q] _=>mE a sc N p&&mE b sc N q&&D7 p&&D7 q
  |.BoolOp .And (p::q::r::j1) ps=>mE a sc N p&&mE b sc N (.BoolOp .And (q::r::j1) ps)&&D7 p
  |_=>false
 |.or a b,sc,N,x=>match x with
  |.BoolOp .Or [p,q] _=>mE a sc N p&&mE b sc N q&&D7 p&&D7 q
  |.BoolOp .Or (p::q::r::j1) ps=>mE a sc N p&&mE b sc N (.BoolOp .Or (q::r::j1) ps)&&D7 p
  |_=>false
 |.not a,sc,N,x=>match x with|.UnaryOp .Not p _=>mE a sc N p&&D7 p|_=>false
 |.ite c a b,sc,N,x=>match x with|.IfExp p q r _=>mE c sc N p&&mE a sc N q&&mE b sc N r&&D7 p|_=>false
 |.ix a b,sc,N,x=>match x with|.Subscript p q _=>mE a sc N p&&mE b sc N q|_=>false
 |.sl a lo hi,sc,N,x=>match x with
  |.Subscript p (.Slice l h none _) _=>mE a sc N p&&(match l with|none=>lo.isNon|some l=>!lo.isNon&&mE lo sc N l)&&(match h with|none=>hi.isNon|some h=>!hi.isNon&&mE hi sc N h)
  |_=>false
 |.slw a lo hi,sc,N,x=>match x with
  |.Subscript p (.Slice l h none _) _=>mE a sc N p&&(match l with|none=>lo.isNon|some l=>!lo.isNon&&mE lo sc N l)&&(match h with|none=>hi.isNon|some h=>!hi.isNon&&mE hi sc N h)
  |_=>false
 |.dsel ks vs k,sc,N,x=>match x with
  |.Subscript (.Dict keys xs _) q _=>mKs ks keys&&mEs vs sc N xs&&mE k sc N q&&(ks.length==vs.len)&&decide ks.Nodup&&decide (ks.length≤15)&&!ks.isEmpty
  |_=>false
 |.len a,sc,N,x=>match x with|.Call (.Name f _) [p] [] _=>(f==("len":Str))&&glb sc "len"&&mE a sc N p|_=>false
 |.toInt a,sc,N,x=>match x with|.Call (.Name f _) [p] [] _=>(f==("int":Str))&&glb sc "int"&&mE a sc N p|_=>false
 |.list a,sc,N,x=>match x with|.Call (.Name f _) [p] [] _=>(f==("list":Str))&&glb sc "list"&&mE a sc N p|_=>false
 |.tuple a,sc,N,x=>match x with|.Call (.Name f _) [p] [] _=>(f==("tuple":Str))&&glb sc "tuple"&&mE a sc N p|_=>false
 |.isList a,sc,N,x=>match x with|.Call (.Name f _) [p,.Name g _] [] _=>(f==("isinstance":Str))&&(g==("list":Str))&&glb sc "isinstance"&&glb sc "list"&&mE a sc N p|_=>false
 |.min a b,sc,N,x=>match x with|.Call (.Name f _) [p,q] [] _=>(f==("min":Str))&&glb sc "min"&&mE a sc N p&&mE b sc N q|_=>false
 |.sorted a,sc,N,x=>match x with|.Call (.Name f _) [p] [] _=>(f==("sorted":Str))&&glb sc "sorted"&&mE a sc N p|_=>false
 |.lzip a b,sc,N,x=>match x with|.Call (.Name f _) [.Call (.Name g _) [p,q] [] _] [] _=>(f==("list":Str))&&(g==("zip":Str))&&glb sc "list"&&glb sc "zip"&&mE a sc N p&&mE b sc N q|_=>false
 |.call f es,sc,N,x=>match x with|.Call (.Name g _) (y::ys) [] _=>(f==g)&&glb sc f&&okN f&&mEs es sc N (y::ys)&&!isM f|_=>false
 |.gf f,sc,_,x=>match x with|.Name g _=>(f==g)&&glb sc f&&okN f&&!isM f|_=>false
 |.callv i es,sc,N,x=>match x with|.Call (.Name y _) (z::zs) [] _=>(N[i]?==some y)&&au9 sc y&&okN y&&mEs es sc N (z::zs)|_=>false
 |.dict ks vs,sc,N,x=>match x with
  |.Dict keys xs _=>mKs ks keys&&mEs vs sc N xs&&(ks.length==vs.len)&&decide ks.Nodup&&decide (ks.length≤15)&&!ks.isEmpty
  |_=>false
 |.isT t a,sc,N,x=>match x with|.Call (.Name f _) [p,.Name g _] [] _=>(f==("isinstance":Str))&&(g==Str.ofString t)&&glb sc "isinstance"&&glb sc g&&L7.contains t&&mE a sc N p|_=>false
 |.cmpl ne a b,sc,N,x=>match x with|.Compare p [q] [r] _=>(q==(if ne then CmpOp.NotEq else .Eq))&&mE a sc N p&&mE b sc N r|_=>false
 |.fld a f,sc,N,x=>match x with|.Attribute o g _=>(f==g)&&J0 o&&mE a sc N o|_=>false
 |.meth a m es,sc,N,x=>match x with|.Call (.Attribute (.Name y py) g ap) args [] cp=>(m==g)&&(ap.endLine==cp.line)&&mE a sc N (.Name y py)&&mEs es sc N args&&decide (args.length<29)|_=>false
 |.make c es,sc,N,x=>match x with|.Call (.Name g _) args [] _=>(c==g)&&glb sc c&&okN c&&mEs es sc N args|_=>false
 |.app a b,sc,N,x=>match x with|.Call (.Attribute o m ap) [p] [] cp=>(m==("append":Str))&&(ap.endLine==cp.line)&&J0 o&&mE a sc N o&&mE b sc N p|_=>false
 |.ext a b,sc,N,x=>match x with|.Call (.Attribute o m ap) [p] [] cp=>(m==("extend":Str))&&(ap.endLine==cp.line)&&J0 o&&mE a sc N o&&mE b sc N p|_=>false
 |.popAt a b,sc,N,x=>match x with|.Call (.Attribute o m ap) [p] [] cp=>(m==("pop":Str))&&(ap.endLine==cp.line)&&J0 o&&mE a sc N o&&mE b sc N p|_=>false
 |.pop a,sc,N,x=>match x with|.Call (.Attribute o m ap) [] [] cp=>(m==("pop":Str))&&(ap.endLine==cp.line)&&J0 o&&mE a sc N o|_=>false
 |.dnt,sc,N,x=>match x with|.Dict [] [] _=>true|_=>false
 |.dgt a b,sc,N,x=>match x with|.Call (.Attribute o m ap) [p] [] cp=>(m==("get":Str))&&(ap.endLine==cp.line)&&J0 o&&mE a sc N o&&mE b sc N p|_=>false
 |.din ne a b,sc,N,x=>match x with|.Compare p [q] [r] _=>(q==(if ne then CmpOp.NotIn else .In))&&mE a sc N p&&mE b sc N r|_=>false
 |.lrev a,sc,N,x=>match x with|.Call (.Attribute o m ap) [] [] cp=>(m==("reverse":Str))&&(ap.endLine==cp.line)&&J0 o&&mE a sc N o|_=>false
 |.gc g,sc,_,x=>match x with|.Name y _=>(g==y)&&glb sc g&&okN g|_=>false
 |.lam np Nl cp e,sc,N,x=>match x with
  |.Lambda args body scope _=>(match ad9 args with|some ps=>N.contains v4&&ar4 sc N scope Nl ps np cp&&!(Nl.contains v4)&&mE e scope Nl body|none=>false)
  |_=>false
 |.index a b,sc,N,x=>match x with|.Call (.Attribute o m ap) [p] [] cp=>(m==("index":Str))&&(ap.endLine==cp.line)&&J0 o&&mE a sc N o&&mE b sc N p|_=>false
 |.comp Nc fr k t it c e,sc,N,x=>match x with
  |.ListComp el [⟨tg,itx,ifs,0⟩] scope _=>X9 sc scope N Nc fr k&&mIt it sc N tg itx&&mTg false t (a78 scope sc) Nc tg&&mE e (a78 scope sc) Nc el&&
    (match ifs with|[]=>c.isNon|[cx]=>!c.isNon&&D7 cx&&mE c (a78 scope sc) Nc cx|_=>false)
  |_=>false
noncomputable def mEs:Es→Scope→List Str→List Expr→Bool
 |.nil,_,_,xs=>xs.isEmpty
 |.cons e r,sc,N,xs=>match xs with|x::xs=>mE e sc N x&&mEs r sc N xs|[]=>false
noncomputable def mIt:It→Scope→List Str→Expr→Expr→Bool
 |.seq e,sc,N,_,x=>mE e sc N x
 |.rng a,sc,N,_,x=>match x with|.Call (.Name f _) [p] [] _=>(f==("range":Str))&&glb sc "range"&&mE a sc N p|_=>false
 |.rng2 a b,sc,N,_,x=>match x with|.Call (.Name f _) [p,q] [] _=>(f==("range":Str))&&glb sc "range"&&mE a sc N p&&mE b sc N q|_=>false
 |.zip a b,sc,N,tg,x=>(match tg with|.Tuple ..=>true|_=>false)&&(match x with|.Call (.Name f _) [p,q] [] _=>(f==("zip":Str))&&glb sc "zip"&&mE a sc N p&&mE b sc N q|_=>false)
 |.rev e,sc,N,_,x=>match x with|.Call (.Name f _) [p] [] _=>(f==("reversed":Str))&&glb sc "reversed"&&mE e sc N p|_=>false
end
structure XOk(Z:Sg)(X:Cx):Prop where
 calm:X.calm=true
 xe:X.xe=fun _ _=>False
 units:X.A.units+200<cLine
 nd:X.N.Nodup
 blt:∀b∈W3,X.mg b=none
 fns:∀f,isM f=false→Z.F f=true→FOk X f (Z.Phi f)
 nom:∀f fa,Z.F f=true→W.nsIn X.K mainGlobals f=some (some (.ref fa))→isM f=false
 cls:∀f c Ca,W.nsIn X.K mainGlobals c=some (some (.ref Ca))→f∈Z.C c→Cls X.K Ca∧F4 X.K Ca f
 mth:∀m c Ca,W.nsIn X.K mainGlobals c=some (some (.ref Ca))→Z.F (i5 c m)=true→∃k f fd ps,Cls X.K Ca∧Meth X.K Ca m f∧FnOk X.prog X.w X.K X.mg X.base CX0 k f fd ps (B9 X.K (Z.Phi (i5 c m)))∧Room k X.A∧z7 X.K fd ps []
 mks:∀c,Z.MF (i5 c "__init__")=true→∃Ca k f fd ps,W.nsIn X.K mainGlobals c=some (some (.ref Ca))∧Mk X.K Ca f∧FnOk X.prog X.w X.K X.mg X.base CX0 k f fd ps (B9 X.K (Z.Mk (i5 c "__init__")))∧Room (k+1) X.A∧X.mg c=some (.ref Ca)∧z7 X.K fd ps []
 tabs:∀g,Z.G g≠[]→GTab X.prog X.w X.K X.mg g (Z.G g)
 cst:∀g i,Z.Kc g=some i→∃t,X.mg g=some (.int i t)
 kt:Tbs.kt=(Z.C "!kt").isEmpty
 lam:X.N.contains v4=true→LamOk X∧∀x,X.N.contains (w6 x)=true→X.fn x=false∧X.ow x=true
 mtE:∀(e:E)(sc:Scope)(N:List Str)(x:Expr),mE e sc N x=true→N.contains v4=false→Tbs.mt (.cons (.ret e) .nil) sc N (.expr x)
 clo:∀np N b cs fa fd ps,CloF fd np N ps b→∃k,FnOk X.prog X.w X.K X.mg X.base CX0 k fa fd ps (Y8 X.K fa fd np N cs (Z.PhiC np N b cs))∧Room k X.A
end Ek
namespace Ek
open PySem PySem.Spec PyProof.Rows L2
variable [Tbs]
structure Snd(Z:Sg)(X:Cx)(e:E)(x:Expr):Prop where
 v:PE X x (up X.K (wpE Z e))
 t:D7 x=true→PT X x (upB X.K (wpT Z e))
 w:∀op vs p,x=.BoolOp op vs p→PW X x (upB X.K (wpT Z e))
 st:∀y p,x≠.Starred y p
 sl:∀l u s p,x≠.Slice l u s p
 se:∀l k p,x≠.Set l k p
theorem a73{x:Expr}(h:bp3 x=true):(∀y p,x≠.Starred y p)∧(∀l u s p,x≠.Slice l u s p)∧(∀l k p,x≠.Set l k p):=
 ⟨fun _ _ z=>(by rw[z]at h;cases h),fun _ _ _ _ z=>(by rw[z]at h;cases h),fun _ _ _ z=>(by rw[z]at h;cases h)⟩
theorem Snd.plain{Z:Sg}{X:Cx}{e:E}{x:Expr}(he:PE X x (up X.K (wpE Z e)))(hi:∀whole,isTrue x X.env whole=(do let v ←whole;standAt x.pos;holding [v] (truthy v)))(hu:bp3 x=true)(hb:∀op vs p,x≠.BoolOp op vs p):Snd Z X e x:=
 ⟨he,fun _=>cv8 he hi,fun op vs p z=>absurd z (hb op vs p),(a73 hu).1,(a73 hu).2.1,(a73 hu).2.2⟩
theorem u0{X:Cx}{f:Str}(h:glb X.env.scope f=true):Gl X f:=by
 have:X.env.scope.names.lookup f=some .globalImplicit:=by simpa[glb]using h
 exact this
theorem bp8{sc:Scope}{f:Str}(h:au9 sc f=true):Vis sc f:=by
 unfold au9 at h
 split at h
 ·exact .inl (by assumption)
 ·exact .inr (.inl (by assumption))
 ·exact .inr (.inr (by assumption))
 ·cases h
theorem F1{sc:Scope}{f:Str}(h:M9 sc f=true):Loc sc f:=by
 unfold M9 at h
 split at h
 ·exact .inl (by assumption)
 ·exact .inr (by assumption)
 ·cases h
theorem G7{x:Str}(h:okN x=true):(x==("__debug__":Str))=false∧(x==("__classdict__":Str))=false:=by
 simpa[okN]using h
theorem M4{o:Expr}(h:J0 o=true):∀i p p',o≠.Call (.Name i p) [] [] p':=fun _ _ _ z=>by rw[z]at h;cases h
theorem XOk.blt'{Z:Sg}{X:Cx}(h:XOk Z X)(b:Str)(hb:W3.contains b=true:=by decide):X.mg b=none:=h.blt b (by simpa using hb)
theorem XOk.pass{Z:Sg}{X:Cx}(h:XOk Z X):PassesOwn (model X.prog X.w) X.A X.env X.xe:=by rw[h.xe];exact PassesOwn.never
theorem a68{X:Cx}{ow:Bool}{t:Tg}{x:Expr}(hc:X.calm=true)(hN:X.N.Nodup)(how:ow=true→∀y,Loc X.env.scope y→X.N.contains (w6 y)=false→X.fn y=true∨X.env.scope.names.lookup y=some .local)(h:mTg ow t X.env.scope X.N x=true):PG X x (upG X.K t):=by
 have one:∀(i:Nat)(y:Str)(p:Pos),((X.N[i]?==some y)&&M9 X.env.scope y&&((ow&&!(X.N.contains (w6 y)))||lcl X.env.scope y))=true→X.N[i]?=some y∧Loc X.env.scope y∧(X.fn y=true∨X.env.scope.names.lookup y=some .local):=fun i y p h=>by
  simp only[Bool.and_eq_true,beq_iff_eq,Bool.or_eq_true,Bool.not_eq_true']at h;refine⟨h.1.1,F1 h.1.2,?_⟩
  rcases h.2 with z|z
  ·exact how z.1 y (F1 h.1.2) z.2
  ·exact .inr (by simpa[lcl]using z)
 cases t with
 |n i=>
  unfold mTg at h;simp only at h
  split at h
  ·obtain⟨a,b,c⟩:=one _ _ ⟨0,0,0,0⟩ h;exact ca7 hN a b c
  ·cases h
 |tup is=>
  unfold mTg at h;simp only at h
  split at h
  ·rename_i es k p;simp only[Bool.and_eq_true,beq_iff_eq]at h;obtain⟨hl,ha⟩:=h;have all:∀(is:List Nat)(es:List Expr),is.length=es.length→((is.zip es).all fun p=>match p.2 with
     |.Name y _=>(X.N[p.1]?==some y)&&M9 X.env.scope y&&((ow&&!(X.N.contains (w6 y)))||lcl X.env.scope y)|_=>false)=true→PGs X es (au7 is)∧(assignEach es X.env).length=is.length∧(assignEach es X.env).findIdx? (·.1)=none:=by
    intro is
    induction is with
    |nil=>
     intro es hl _;cases es with
     |nil=>exact⟨cc1,rfl,rfl⟩
     |cons a b=>simp at hl
    |cons i is ih=>
     intro es hl h;cases es with
     |nil=>simp at hl
     |cons e es=>
      simp only[List.zip_cons_cons,List.all_cons,Bool.and_eq_true]at h;obtain⟨h1,h2⟩:=h;obtain⟨g1,g2,g3⟩:=ih es (by simpa using hl) h2;cases e<;>first|cases h1|skip
      rename_i y py;obtain⟨a,b,c⟩:=one i y py h1;refine⟨b82 (bj7 hN a b c) g1 rfl,?_,?_⟩
      ·show(assignEach es X.env).length+1=_;rw[g2];rfl
      ·show List.findIdx? _ ((false,assign (.Name y py) X.env)::assignEach es X.env)=none;rw[List.findIdx?_cons];simp only[Bool.false_eq_true,if_false];rw[g3];rfl
   obtain⟨g1,g2,g3⟩:=all is es hl ha;exact co4 hc g1 g2 g3
  ·cases h
theorem bc7{X:Cx}{scope:Scope}{Nc:List Str}{fr:List Nat}{k:Nat}(h:X9 X.env.scope scope X.N Nc fr k=true):CompScope X scope Nc fr k:=by
 unfold X9 at h;simp only[Bool.and_eq_true,beq_iff_eq,decide_eq_true_eq,List.all_eq_true]at h;obtain⟨⟨⟨⟨⟨⟨⟨⟨h1,h2⟩,h3⟩,h4⟩,h5⟩,h6⟩,_⟩,h7⟩,h8⟩:=h;refine⟨h1,fun y hy=>?_,fun y hy hl=>?_,fun y hy hf=>?_,fun y hy hf hm=>?_,h6,h7,fun i x hx hi=>?_⟩
 ·simpa using h2 y hy
 ·have:=h3 y hy;rw[hl]at this;simpa using this
 ·have:=h4 y hy;rw[hf]at this;simpa using this
 ·have:=h5 y hy;rw[hf]at this;have:(scope.names.any fun z=>z.1==y.1&&z.2==.local)=false:=by simpa using this
  rw[List.any_eq_false]at this;exact absurd (by simp) (this _ hm)
 ·have:=h8 i (by simpa using hi);rw[hx]at this;cases q:fr[i]? with
  |none=>rw[q]at this;cases this
  |some j=>
   rw[q]at this;simp only[Bool.and_eq_true,beq_iff_eq,List.any_eq_true]at this;obtain⟨a,⟨n,kd⟩,hm,e1,e2⟩:=this;simp only at e1 e2;subst e1 e2;exact⟨j,rfl,a,hm⟩
theorem ad4{X:Cx}{scope:Scope}{Nc:List Str}{fr:List Nat}{k:Nat}(h:X9 X.env.scope scope X.N Nc fr k=true):Nc.contains v4=false:=by
 unfold X9 at h;simp only[Bool.and_eq_true,Bool.not_eq_true']at h;exact h.1.1.2
theorem XOk.comp{Z:Sg}{X:Cx}{scope:Scope}{Nc:List Str}{fr:List Nat}{k:Nat}(h:XOk Z X)(nl:Nc.contains v4=false)(S:CompScope X scope Nc fr k)(C:Addr)(fp:List Addr)(pins:List (Addr×Obj))(s:Shared)(H:Hp):XOk Z (X.comp scope Nc C fp pins s H) where
 calm:=h.calm
 xe:=rfl
 units:=h.units
 nd:=S.nd
 blt:=h.blt
 fns:=fun f hm hf=>let⟨k,a,fd,ps,x⟩:=(h.fns f hm hf).ex;⟨k,a,fd,ps,x⟩
 nom:=fun f fa a b=>h.nom f fa a b
 cls:=fun f c Ca a b=>h.cls f c Ca a b
 mth:=fun m c Ca a b=>h.mth m c Ca a b
 mks:=fun c a=>h.mks c a
 tabs:=fun g hg=>⟨(h.tabs g hg).ex⟩
 lam:=fun z=>by
  have z':Nc.contains v4=true:=z;rw[nl]at z';cases z'
 cst:=h.cst
 kt:=h.kt
 mtE:=h.mtE
 clo:=fun np N b cs fa fd ps cf=>h.clo np N b cs fa fd ps cf
theorem cx7(name qual:Str)(a:Str)(pos:Pos)(fb:FuncBody)(scope:Scope)(cl:List (Str×Addr))(doc pm cv ct:Value)(u:Value):bindArgs (C5 name qual ⟨[],[⟨a,none,pos⟩],none,[],[],none,[]⟩ fb scope cl doc pm cv ct) ⟨[u],[]⟩=pure [(a,u)]:=by
 have e:seqItems? Value.none=pure none:=rfl;simp[bindArgs,C5,e,List.lookup]
theorem cz3(name qual:Str)(a b:Str)(hab:(b==a)=false)(pos pos2:Pos)(fb:FuncBody)(scope:Scope)(cl:List (Str×Addr))(doc pm cv ct:Value)(u v:Value):bindArgs (C5 name qual ⟨[],[⟨a,none,pos⟩,⟨b,none,pos2⟩],none,[],[],none,[]⟩ fb scope cl doc pm cv ct) ⟨[u,v],[]⟩=pure [(a,u),(b,v)]:=by
 have e:seqItems? Value.none=pure none:=rfl;simp[bindArgs,C5,e,List.lookup,hab]
theorem ba0{p:Arguments}{ps:List Str}(h:ad9 p=some ps):p.defaults=[]∧p.kw_defaults=[]∧(∀env,defaultsOf p env=([],[]))∧(∀env,annTrees p none env=[]) ∧
  ∀(name qual:Str)(fb:FuncBody)(scope:Scope)(cl:List (Str×Addr))(doc pm cv ct:Value)(us:List Value),us.length=ps.length→bindArgs (C5 name qual p fb scope cl doc pm cv ct) ⟨us,[]⟩=pure (ps.zip us):=by
 unfold ad9 at h
 split at h
 ·cases h;exact⟨rfl,rfl,fun _=>rfl,fun _=>rfl,fun _ _ _ _ _ _ _ _ _ us hl=>match us,hl with|[_],_=>cx7 ..⟩
 ·split at h
  ·cases h
  ·rename_i hab;cases h;exact⟨rfl,rfl,fun _=>rfl,fun _=>rfl,fun _ _ _ _ _ _ _ _ _ us hl=>match us,hl with|[_,_],_=>cz3 _ _ _ _ (by simpa using hab) ..⟩
 ·cases h
theorem bk3{X:Cx}{params:Arguments}{fb:FuncBody}{scope:Scope}{np:Nat}{Nl ps:List Str}{cp:List Nat}{b:Ss}(h:ar4 X.env.scope X.N scope Nl ps np cp=true)(hc:∀x,X.N.contains (w6 x)=true→X.fn x=false∧X.ow x=true)(mt:Tbs.mt b scope Nl fb)
  (bind:∀(name qual:Str)(cl:List (Str×Addr))(doc pm cv ct:Value)(us:List Value),us.length=ps.length→bindArgs (C5 name qual params fb scope cl doc pm cv ct) ⟨us,[]⟩=pure (ps.zip us)):NestOk X params fb scope np Nl ps cp b:=by
 unfold ar4 at h;simp only[Bool.and_eq_true,beq_iff_eq,Bool.not_eq_true',decide_eq_true_eq,List.all_eq_true]at h;obtain⟨⟨⟨⟨⟨⟨⟨⟨⟨h1,h2⟩,h3⟩,h4⟩,h5⟩,h6⟩,h7⟩,h8⟩,h9⟩,h10⟩:=h;have key:∀x,(x,NameKind.free)∈scope.names→scope.names.lookup x=some .free∧X.env.scope.names.lookup x=some .cell∧X.N.contains (w6 x)=true∧∃i:Nat,∃j:Nat,cp[i]?=some j∧X.N[j]?=some x:=fun x hx=>by
  have:=h9 _ hx;simp only[beq_self_eq_true,Bool.not_true,Bool.false_or,Bool.and_eq_true,beq_iff_eq,List.any_eq_true]at this;obtain⟨⟨⟨a,b⟩,c⟩,i,_,d⟩:=this;refine⟨a,b,c,i,?_⟩
  split at d
  ·rename_i j hj;exact⟨j,hj,by simpa using d⟩
  ·cases d
 refine⟨⟨h2,h3,h4,h5,h6,h7,fun y hy=>by simpa using h8 y hy,fun y hy hk=>?_⟩,h1,mt,bind,fun i j hj=>?_,fun x hx=>?_⟩
 ·obtain⟨y,k⟩:=y;simp only at hk;subst hk;exact(key y hy).1
 ·have hi:=(List.getElem?_eq_some_iff.mp hj).1;have:=h10 i (by simpa using hi);rw[hj]at this;simp only at this
  split at this
  ·rename_i x hx;simp only[Bool.and_eq_true,beq_iff_eq,List.any_eq_true]at this;obtain⟨a,⟨y,k⟩,hm,e1,e2⟩:=this;simp only at e1 e2;subst e1 e2;exact⟨_,hx,a,hm⟩
  ·cases this
 ·obtain⟨a,b,c,i,j,d1,d2⟩:=key x hx;exact⟨⟨i,j,d1,d2⟩,b,hc x c⟩
end Ek
namespace Ek
open PySem PySem.Spec PyProof.Rows L2
variable [Tbs]
structure SndA(Z:Sg)(X:Cx)(es:Es)(xs:List Expr):Prop where
 a:PA X xs (upA X.K es.len (r6 Z es))
 pl:∀pos:Pos,(backTo pos (starEach xs X.env)).any (·.1)=false
theorem bp1{X:Cx}{o:BoolOp}{q:Expr}{pos:Pos}{t:DT}(h:PT X q (upB X.K (tst t))):PW X (.BoolOp o [q] pos) (upB X.K (tst t)):=by
 cases o with
 |And=>exact cf8 h
 |Or=>exact cv4 h
theorem b57:∀(e:E)(sc:Scope)(N:List Str)(l:List Expr)(k:Nat)(p:Pos),mE e sc N (.Set l k p)=false:=by
 intro e sc N l k p;cases e<;>rfl
theorem cf1{t:String}(h:t∈L7):bootBuiltins (Str.ofString t)=some (.type t)∧Str.ofString t≠"__name__"∧(Str.ofString t==("__debug__":Str))=false∧W3.contains (Str.ofString t)=true:=by
 simp only[L7,List.mem_cons,List.not_mem_nil,or_false]at h
 rcases h with rfl|rfl|rfl|rfl|rfl<;>exact⟨by decide+kernel,by decide,by decide,by decide⟩
theorem a57{env:Env}{it:It}{sc:Scope}{N:List Str}{tg x:Expr}(h:mIt it sc N tg x=true):∀v,foldedSetIterable x env v=pure v:=by
 have hx:∀l k p,x≠.Set l k p:=fun l k p z=>by
  subst z;cases it with
  |seq e=>unfold mIt at h;rw[b57]at h;cases h
  |rng a=>cases h
  |rng2 a b=>cases h
  |zip a b=>unfold mIt at h;simp at h
  |rev e=>cases h
 intro v;cases x<;>first|rfl|exact absurd rfl (hx _ _ _)
mutual
theorem g9(Z:Sg):∀(e:E)(X:Cx)(x:Expr),XOk Z X→mE e X.env.scope X.N x=true→Snd Z X e x
 |.non,X,x,hX,h=>by
  conv at h=>lhs;whnf
  split at h
  ·exact Snd.plain (by exact at7 cl9 fun _=>.non) (fun _=>rfl) rfl (by intros;exact nofun)
  ·cases h
 |.bl b,X,x,hX,h=>by
  conv at h=>lhs;whnf
  split at h
  ·have e:=beq_iff_eq.mp h;subst e;exact Snd.plain (by exact at7 cv9 fun _=>.bl _) (fun _=>rfl) rfl (by intros;exact nofun)
  ·cases h
 |.int i,X,x,hX,h=>by
  conv at h=>lhs;whnf
  split at h
  ·have e:=beq_iff_eq.mp h;subst e;exact Snd.plain (by exact at7 cs1 fun _=>.int _) (fun _=>rfl) rfl (by intros;exact nofun)
  ·cases h
 |.str y,X,x,hX,h=>by
  conv at h=>lhs;whnf
  split at h
  ·have e:=beq_iff_eq.mp h;subst e;exact Snd.plain (by exact at7 bm8 fun _=>.str _) (fun _=>rfl) rfl (by intros;exact nofun)
  ·cases h
 |.v i,X,x,hX,h=>by
  conv at h=>lhs;whnf
  split at h
  ·simp only[Bool.and_eq_true,beq_iff_eq]at h;exact Snd.plain (by exact cr8 h.1.1 (bp8 h.1.2) (G7 h.2).1 (G7 h.2).2) (fun _=>rfl) rfl (by intros;exact nofun)
  ·cases h
 |.tup es,X,x,hX,h=>by
  conv at h=>lhs;whnf
  split at h
  ·simp only[Bool.and_eq_true,decide_eq_true_eq]at h;exact Snd.plain (by exact cm1 (G9 Z es X _ hX h.1).a h.2) (fun _=>rfl) rfl (by intros;exact nofun)
  ·cases h
 |.lst es,X,x,hX,h=>by
  conv at h=>lhs;whnf
  split at h
  ·simp only[Bool.and_eq_true,decide_eq_true_eq]at h;exact Snd.plain (by exact cv2 (G9 Z es X _ hX h.1).a h.2) (fun _=>rfl) rfl (by intros;exact nofun)
  ·cases h
 |.bin o a b,X,x,hX,h=>by
  conv at h=>lhs;whnf
  split at h
  ·simp only[Bool.and_eq_true,beq_iff_eq]at h;obtain⟨⟨e,h1⟩,h2⟩:=h;subst e;exact Snd.plain (by exact cp3 (g9 Z a X _ hX h1).v (g9 Z b X _ hX h2).v) (fun _=>rfl) rfl (by intros;exact nofun)
  ·cases h
 |.neg a,X,x,hX,h=>by
  conv at h=>lhs;whnf
  split at h
  ·exact Snd.plain (by exact cl4 (g9 Z a X _ hX h).v) (fun _=>rfl) rfl (by intros;exact nofun)
  ·cases h
 |.cmp o a b,X,x,hX,h=>by
  conv at h=>lhs;whnf
  split at h
  ·simp only[Bool.and_eq_true,beq_iff_eq]at h;obtain⟨⟨e,h1⟩,h2⟩:=h;subst e;have ia:=g9 Z a X _ hX h1;have ib:=g9 Z b X _ hX h2;refine⟨by exact cu3 hX.units ia.v ib.v ib.se,fun _=>?_,(fun _ _ _ z=>nomatch z),nofun,nofun,nofun⟩;unfold wpT;exact cv3 hX.units ia.v ib.v ib.se
  ·cases h
 |.isN a,X,x,hX,h=>by
  conv at h=>lhs;whnf
  split at h
  ·have ia:=g9 Z a X _ hX h;refine⟨by exact ck6 ia.v,fun _=>?_,(fun _ _ _ z=>nomatch z),nofun,nofun,nofun⟩;unfold wpT;exact cn1 ia.v
  ·cases h
 |.notN a,X,x,hX,h=>by
  conv at h=>lhs;whnf
  split at h
  ·have ia:=g9 Z a X _ hX h;refine⟨by exact ce6 ia.v,fun _=>?_,(fun _ _ _ z=>nomatch z),nofun,nofun,nofun⟩;unfold wpT;exact cg9 ia.v
  ·cases h
 |.and a b,X,x,hX,h=>by
  conv at h=>lhs;whnf
  split at h
  ·rename_i p q ps;simp only[Bool.and_eq_true]at h;obtain⟨⟨⟨h1,h2⟩,h3⟩,h4⟩:=h;have ia:=g9 Z a X _ hX h1;have ib:=g9 Z b X _ hX h2;have w:PW X (.BoolOp .And [p,q] ps) (upB X.K (wpT Z (.and a b))):=by unfold wpT;exact bp5 (ia.t h3) (bp1 (ib.t h4))
   exact⟨by exact bo7 ia.v (bp7 ib.v),fun _=>w.pt,fun _ _ _ _=>w,nofun,nofun,nofun⟩
  ·rename_i p q r j1 ps;simp only[Bool.and_eq_true]at h;obtain⟨⟨h1,h2⟩,h3⟩:=h;have ia:=g9 Z a X _ hX h1;have ib:=g9 Z b X _ hX h2;have w:PW X (.BoolOp .And (p::q::r::j1) ps) (upB X.K (wpT Z (.and a b))):=by unfold wpT;exact bp5 (ia.t h3) (ib.w _ _ _ rfl)
   exact⟨by exact bo7 ia.v ib.v,fun _=>w.pt,fun _ _ _ _=>w,nofun,nofun,nofun⟩
  ·cases h
 |.or a b,X,x,hX,h=>by
  conv at h=>lhs;whnf
  split at h
  ·rename_i p q ps;simp only[Bool.and_eq_true]at h;obtain⟨⟨⟨h1,h2⟩,h3⟩,h4⟩:=h;have ia:=g9 Z a X _ hX h1;have ib:=g9 Z b X _ hX h2;have w:PW X (.BoolOp .Or [p,q] ps) (upB X.K (wpT Z (.or a b))):=by unfold wpT;exact br1 (ia.t h3) (bp1 (ib.t h4))
   exact⟨by exact br2 ia.v (bp7 ib.v),fun _=>w.pt,fun _ _ _ _=>w,nofun,nofun,nofun⟩
  ·rename_i p q r j1 ps;simp only[Bool.and_eq_true]at h;obtain⟨⟨h1,h2⟩,h3⟩:=h;have ia:=g9 Z a X _ hX h1;have ib:=g9 Z b X _ hX h2;have w:PW X (.BoolOp .Or (p::q::r::j1) ps) (upB X.K (wpT Z (.or a b))):=by unfold wpT;exact br1 (ia.t h3) (ib.w _ _ _ rfl)
   exact⟨by exact br2 ia.v ib.v,fun _=>w.pt,fun _ _ _ _=>w,nofun,nofun,nofun⟩
  ·cases h
 |.not a,X,x,hX,h=>by
  conv at h=>lhs;whnf
  split at h
  ·simp only[Bool.and_eq_true]at h;have ia:=g9 Z a X _ hX h.1;refine⟨by exact cj8 ia.v,fun _=>?_,(fun _ _ _ z=>nomatch z),nofun,nofun,nofun⟩;unfold wpT;exact cj6 (ia.t h.2)
  ·cases h
 |.ite c a b,X,x,hX,h=>by
  conv at h=>lhs;whnf
  split at h
  ·simp only[Bool.and_eq_true]at h;obtain⟨⟨⟨h1,h2⟩,h3⟩,h4⟩:=h;exact⟨by exact cs8 ((g9 Z c X _ hX h1).t h4) (g9 Z a X _ hX h2).v (g9 Z b X _ hX h3).v,(fun z=>nomatch z),(fun _ _ _ z=>nomatch z),nofun,nofun,nofun⟩
  ·cases h
 |.ix a b,X,x,hX,h=>by
  conv at h=>lhs;whnf
  split at h
  ·simp only[Bool.and_eq_true]at h;have ib:=g9 Z b X _ hX h.2;exact Snd.plain (by exact cw1 hX.units (g9 Z a X _ hX h.1).v ib.v ib.sl) (fun _=>rfl) rfl (by intros;exact nofun)
  ·cases h
 |.sl a lo hi,X,x,hX,h=>by
  conv at h=>lhs;whnf
  split at h
  ·rename_i p l hh p1 p2;simp only[Bool.and_eq_true]at h;obtain⟨⟨h1,h2⟩,h3⟩:=h;have ia:=g9 Z a X _ hX h1;have hl:PO X l (upO X.K fun env st k=>(if lo.isNon=true then fun k=>k none st else fun(k:Option Int→Sto→Prop)=>wpE Z lo env st fun d st'=>∃i,d=.int i∧k (some i) st') k):=by
    cases l with
    |none=>simp only at h2;rw[h2];simp only[if_true];exact ag0
    |some l=>
     simp only[Bool.and_eq_true,Bool.not_eq_true']at h2;rw[h2.1];simp only[Bool.false_eq_true,if_false];exact ah6 (g9 Z lo X _ hX h2.2).v
   have hh:PO X hh (upO X.K fun env st k=>(if hi.isNon=true then fun k=>k none st else fun(k:Option Int→Sto→Prop)=>wpE Z hi env st fun d st'=>∃i,d=.int i∧k (some i) st') k):=by
    cases hh with
    |none=>simp only at h3;rw[h3];simp only[if_true];exact ag0
    |some l=>
     simp only[Bool.and_eq_true,Bool.not_eq_true']at h3;rw[h3.1];simp only[Bool.false_eq_true,if_false];exact ah6 (g9 Z hi X _ hX h3.2).v
   exact Snd.plain (by exact cz0 ia.v hl hh) (fun _=>rfl) rfl (by intros;exact nofun)
  ·cases h
 |.slw a lo hi,X,x,hX,h=>by
  conv at h=>lhs;whnf
  split at h
  ·rename_i p l hh p1 p2;simp only[Bool.and_eq_true]at h;obtain⟨⟨h1,h2⟩,h3⟩:=h;have ia:=g9 Z a X _ hX h1;have hl:PO X l (upO X.K fun env st k=>(if lo.isNon=true then fun k=>k none st else fun(k:Option Int→Sto→Prop)=>wpE Z lo env st fun d st'=>∃i,d=.int i∧k (some i) st') k):=by
    cases l with
    |none=>simp only at h2;rw[h2];simp only[if_true];exact ag0
    |some l=>
     simp only[Bool.and_eq_true,Bool.not_eq_true']at h2;rw[h2.1];simp only[Bool.false_eq_true,if_false];exact ah6 (g9 Z lo X _ hX h2.2).v
   have hh:PO X hh (upO X.K fun env st k=>(if hi.isNon=true then fun k=>k none st else fun(k:Option Int→Sto→Prop)=>wpE Z hi env st fun d st'=>∃i,d=.int i∧k (some i) st') k):=by
    cases hh with
    |none=>simp only at h3;rw[h3];simp only[if_true];exact ag0
    |some l=>
     simp only[Bool.and_eq_true,Bool.not_eq_true']at h3;rw[h3.1];simp only[Bool.false_eq_true,if_false];exact ah6 (g9 Z hi X _ hX h3.2).v
   exact Snd.plain (by exact cl8 ia.v hl hh) (fun _=>rfl) rfl (by intros;exact nofun)
  ·cases h
 |.dsel ks vs k,X,x,hX,h=>by
  conv at h=>lhs;whnf
  split at h
  ·rename_i keys xs dp q pos;simp only[Bool.and_eq_true,beq_iff_eq,decide_eq_true_eq,Bool.not_eq_true']at h;obtain⟨⟨⟨⟨⟨⟨h1,h2⟩,h3⟩,h4⟩,h5⟩,h6⟩,h7⟩:=h;have ik:=g9 Z k X _ hX h3;obtain⟨d,e1,e2,e3⟩:=a60 Z vs X ks _ _ dp hX h1 h2 h4;have hne:∀{l:List (Option Expr)},l.length=ks.length→l≠[]:=fun e3 z=>by
    rw[z]at e3;simp only[List.length_nil]at e3;have:ks=[]:=List.eq_nil_of_length_eq_zero e3.symm;rw[this]at h7;cases h7
   exact Snd.plain (by exact ch9 hX.units d e1 e2 (hne e3) e3 (by omega) h5 ik.v ik.sl) (fun _=>rfl) rfl (by intros;exact nofun)
  ·cases h
 |.len a,X,x,hX,h=>by
  conv at h=>lhs;whnf
  split at h
  ·simp only[Bool.and_eq_true,beq_iff_eq]at h;obtain⟨⟨e,h1⟩,h2⟩:=h;subst e;have ia:=g9 Z a X _ hX h2;exact Snd.plain (by exact cm2 (u0 h1) (hX.blt' _) ia.v ia.st) (fun _=>rfl) rfl (by intros;exact nofun)
  ·cases h
 |.toInt a,X,x,hX,h=>by
  conv at h=>lhs;whnf
  split at h
  ·simp only[Bool.and_eq_true,beq_iff_eq]at h;obtain⟨⟨e,h1⟩,h2⟩:=h;subst e;have ia:=g9 Z a X _ hX h2;exact Snd.plain (by exact b92 (u0 h1) (hX.blt' _) ia.v ia.st) (fun _=>rfl) rfl (by intros;exact nofun)
  ·cases h
 |.list a,X,x,hX,h=>by
  conv at h=>lhs;whnf
  split at h
  ·simp only[Bool.and_eq_true,beq_iff_eq]at h;obtain⟨⟨e,h1⟩,h2⟩:=h;subst e;have ia:=g9 Z a X _ hX h2;exact Snd.plain (by exact cg6 (u0 h1) (hX.blt' _) ia.v ia.st) (fun _=>rfl) rfl (by intros;exact nofun)
  ·cases h
 |.tuple a,X,x,hX,h=>by
  conv at h=>lhs;whnf
  split at h
  ·simp only[Bool.and_eq_true,beq_iff_eq]at h;obtain⟨⟨e,h1⟩,h2⟩:=h;subst e;have ia:=g9 Z a X _ hX h2;exact Snd.plain (by exact b43 (u0 h1) (hX.blt' _) ia.v ia.st) (fun _=>rfl) rfl (by intros;exact nofun)
  ·cases h
 |.isList a,X,x,hX,h=>by
  conv at h=>lhs;whnf
  split at h
  ·simp only[Bool.and_eq_true,beq_iff_eq]at h;obtain⟨⟨⟨⟨e,e'⟩,h1⟩,h1'⟩,h2⟩:=h;subst e e';have ia:=g9 Z a X _ hX h2;exact Snd.plain (by exact b29 (u0 h1) (hX.blt' _) (u0 h1') (hX.blt' _) ia.v ia.st) (fun _=>rfl) rfl (by intros;exact nofun)
  ·cases h
 |.min a b,X,x,hX,h=>by
  conv at h=>lhs;whnf
  split at h
  ·simp only[Bool.and_eq_true,beq_iff_eq]at h;obtain⟨⟨⟨e,h1⟩,h2⟩,h3⟩:=h;subst e;have ia:=g9 Z a X _ hX h2;have ib:=g9 Z b X _ hX h3;exact Snd.plain (by exact ck5 hX.calm (u0 h1) (hX.blt' _) ia.v ib.v ia.st ib.st) (fun _=>rfl) rfl (by intros;exact nofun)
  ·cases h
 |.sorted a,X,x,hX,h=>by
  conv at h=>lhs;whnf
  split at h
  ·simp only[Bool.and_eq_true,beq_iff_eq]at h;obtain⟨⟨e,h1⟩,h2⟩:=h;subst e;have ia:=g9 Z a X _ hX h2;exact Snd.plain (by exact b02 (u0 h1) (hX.blt' _) ia.v ia.st) (fun _=>rfl) rfl (by intros;exact nofun)
  ·cases h
 |.lzip a b,X,x,hX,h=>by
  conv at h=>lhs;whnf
  split at h
  ·simp only[Bool.and_eq_true,beq_iff_eq]at h;obtain⟨⟨⟨⟨⟨e,e2⟩,h1⟩,h2⟩,h3⟩,h4⟩:=h;subst e e2;have ia:=g9 Z a X _ hX h3;have ib:=g9 Z b X _ hX h4;exact Snd.plain (by exact ce8 hX.calm (u0 h1) (hX.blt' _) (u0 h2) (hX.blt' _) ia.v ib.v ia.st ib.st) (fun _=>rfl) rfl (by intros;exact nofun)
  ·cases h
 |.call f es,X,x,hX,h=>by
  conv at h=>lhs;whnf
  split at h
  ·rename_i g p y ys pos;simp only[Bool.and_eq_true,beq_iff_eq]at h;obtain⟨⟨⟨⟨e,h1⟩,h2⟩,h3⟩,hnm⟩:=h;have hnm:isM f=false:=by simpa using hnm
   subst e;cases es with
   |nil=>simp[mEs]at h3
   |cons e0 er=>
    have h3':=h3;unfold mEs at h3';simp only[Bool.and_eq_true]at h3';have i0:=g9 Z e0 X _ hX h3'.1;have ir:=G9 Z er X _ hX h3'.2;have ia:PA X (y::ys) (upA X.K (Es.cons e0 er).len (r6 Z (.cons e0 er))):=by exact W9 i0.v ir.a i0.st
    refine Snd.plain ?_ (fun _=>rfl) rfl (by intros;exact nofun)
    by_cases hF:Z.F f=true
    ·obtain⟨k,a,fd,ps,F,hr,hm,hk,hb,_⟩:=(hX.fns f hnm hF).ex;exact PE.imp (cf2 F hr (u0 h1) hm hk hb ia (G7 h2).1 i0.st (ir.pl _)) fun σ H Q⟨env,st,Qd,hE,hS,ht,hq⟩=>⟨env,st,Qd,hE,hS,ht.2,hq⟩
    ·intro pins s σ H Q I q;obtain⟨env,st,Qd,hE,hS,ht,hq⟩:=q;exact absurd ht.1 hF
  ·cases h
 |.gf f,X,x,hX,h=>by
  conv at h=>lhs;whnf
  split at h
  ·rename_i g p;simp only[Bool.and_eq_true,beq_iff_eq]at h;obtain⟨⟨⟨e,h1⟩,h2⟩,hnm⟩:=h;have hnm:isM f=false:=by simpa using hnm
   subst e;refine Snd.plain ?_ (fun _=>rfl) rfl (by intros;exact nofun)
   by_cases hF:Z.F f=true
   ·obtain⟨k,a,fd,ps,F,hr,hm,hk,hb,hn⟩:=(hX.fns f hnm hF).ex;exact PE.imp (cy0 (u0 h1) hm hn (G7 h2).1) fun σ H Q⟨env,st,Qd,hE,hS,ht,hq⟩=>⟨env,st,Qd,hE,hS,ht.2,hq⟩
   ·intro pins s σ H Q I q;obtain⟨env,st,Qd,hE,hS,ht,hq⟩:=q;exact absurd ht.1 hF
  ·cases h
 |.gc g,X,x,hX,h=>by
  conv at h=>lhs;whnf
  split at h
  ·simp only[Bool.and_eq_true,beq_iff_eq]at h;obtain⟨⟨e,h1⟩,h2⟩:=h;subst e;refine Snd.plain ?_ (fun _=>rfl) rfl (by intros;exact nofun);cases hk:Z.Kc g with
   |none=>
    intro pins s σ H Q I q;obtain⟨env,st,Qd,hE,hS,⟨i,hi,_⟩,hq⟩:=q;rw[hk]at hi;cases hi
   |some i=>
    obtain⟨t,hm⟩:=hX.cst g i hk;exact PE.imp (bh5 (v:=.int i) (u0 h1) hm ⟨t,rfl⟩ (G7 h2).1) fun σ H Q q=>by
     obtain⟨env,st,Qd,hE,hS,⟨i',hi,ht⟩,hq⟩:=q;rw[hk]at hi;cases hi;exact hq.here (.int _) hS ht
  ·cases h
 |.lam np Nl cp e,X,x,hX,h=>by
  conv at h=>lhs;whnf
  split at h
  ·split at h
   ·rename_i args body scope pos _ ps hp;simp only[Bool.and_eq_true,Bool.not_eq_true']at h;obtain⟨⟨⟨h1,h2⟩,h3⟩,h4⟩:=h;obtain⟨L,hc⟩:=hX.lam h1;obtain⟨a1,a2,a3,a4,a5⟩:=ba0 hp;exact Snd.plain (by exact cq8 a3 L (bk3 h2 hc (hX.mtE e scope Nl body h4 h3) (fun name qual cl doc pm cv ct us hl=>a5 name qual _ scope cl doc pm cv ct us hl))) (fun _=>rfl) rfl (by intros;exact nofun)
   ·cases h
  ·cases h
 |.callv i es,X,x,hX,h=>by
  conv at h=>lhs;whnf
  split at h
  ·rename_i y p z zs pos;simp only[Bool.and_eq_true,beq_iff_eq]at h;obtain⟨⟨⟨h0,h1⟩,h2⟩,h3⟩:=h;cases es with
   |nil=>simp[mEs]at h3
   |cons e0 er=>
    have h3':=h3;unfold mEs at h3';simp only[Bool.and_eq_true]at h3';have i0:=g9 Z e0 X _ hX h3'.1;have ir:=G9 Z er X _ hX h3'.2;have ia:PA X (z::zs) (upA X.K (Es.cons e0 er).len (r6 Z (.cons e0 er))):=by exact W9 i0.v ir.a i0.st
    refine Snd.plain ?_ (fun _=>rfl) rfl (by intros;exact nofun);refine b74 (Z:=Z) h0 (bp8 h1) (G7 h2).1 (G7 h2).2 (fun f fa hF hns=>?_) hX.clo ia i0.st (ir.pl _);obtain⟨k,a,fd,ps,F,hr,hm,hk,hb,hn⟩:=(hX.fns f (hX.nom f fa hF hns) hF).ex;rw[hn]at hns;cases hns;exact⟨k,fd,ps,F,hr,hk,hb⟩
  ·cases h
 |.dict ks vs,X,x,hX,h=>by
  conv at h=>lhs;whnf
  split at h
  ·rename_i keys xs dp;simp only[Bool.and_eq_true,beq_iff_eq,decide_eq_true_eq,Bool.not_eq_true']at h;obtain⟨⟨⟨⟨⟨h1,h2⟩,h4⟩,h5⟩,h6⟩,h7⟩:=h;obtain⟨d,e1,e2,e3⟩:=a60 Z vs X ks _ _ dp hX h1 h2 h4;have hne:∀{l:List (Option Expr)},l.length=ks.length→l≠[]:=fun e3 z=>by
    rw[z]at e3;simp only[List.length_nil]at e3;have:ks=[]:=List.eq_nil_of_length_eq_zero e3.symm;rw[this]at h7;cases h7
   exact Snd.plain (by exact cf5 d e1 e2 (hne e3) e3 (by omega) h5) (fun _=>rfl) rfl (by intros;exact nofun)
  ·cases h
 |.isT t a,X,x,hX,h=>by
  conv at h=>lhs;whnf
  split at h
  ·rename_i f p q g p2 pos;simp only[Bool.and_eq_true,beq_iff_eq]at h;obtain⟨⟨⟨⟨⟨e,e2⟩,h1⟩,h2⟩,h3⟩,h4⟩:=h;subst e e2;have hin:t∈L7:=by simpa using h3
   obtain⟨b1,b2,b3,b4⟩:=cf1 hin;have ia:=g9 Z a X _ hX h4;exact Snd.plain (by exact cr6 hin (u0 h1) (hX.blt' _) (u0 h2) (hX.blt' _ b4) b1 b2 b3 ia.v ia.st) (fun _=>rfl) rfl (by intros;exact nofun)
  ·cases h
 |.cmpl ne a b,X,x,hX,h=>by
  conv at h=>lhs;whnf
  split at h
  ·simp only[Bool.and_eq_true,beq_iff_eq]at h;obtain⟨⟨e,h1⟩,h2⟩:=h;have ia:=g9 Z a X _ hX h1;have ib:=g9 Z b X _ hX h2;refine⟨by exact cb8 e hX.units ia.v ib.v ib.se,fun _=>?_,(fun _ _ _ z=>nomatch z),nofun,nofun,nofun⟩;unfold wpT;exact ce9 e hX.units ia.v ib.v ib.se
  ·cases h
 |.fld a f,X,x,hX,h=>by
  conv at h=>lhs;whnf
  split at h
  ·rename_i o g ap;simp only[Bool.and_eq_true,beq_iff_eq]at h;obtain⟨⟨e,h1⟩,h2⟩:=h;subst e;exact Snd.plain (by exact ck2 (C:=Z.C) (fun c Ca=>hX.cls f c Ca) (g9 Z a X _ hX h2).v (E3 (M4 h1))) (fun _=>rfl) rfl (by intros;exact nofun)
  ·cases h
 |.meth a m es,X,x,hX,h=>by
  conv at h=>lhs;whnf
  split at h
  ·rename_i y py g ap args cp;simp only[Bool.and_eq_true,beq_iff_eq,decide_eq_true_eq]at h;obtain⟨⟨⟨⟨e,h1⟩,h2⟩,h3⟩,h4⟩:=h;subst e;have ia:=g9 Z a X _ hX h2;refine Snd.plain ?_ (fun _=>rfl) rfl (by intros;exact nofun);cases args with
   |nil=>
    cases es with
    |nil=>
     refine PE.imp (b44 (F:=Z.F) (Ph:=Z.Phi) (fun c Ca=>hX.mth m c Ca) (by simpa using h1) ia.v) fun σ H Q q=>?_;obtain⟨env,st,Qd,hE,hS,ht,hq⟩:=q;refine⟨env,st,Qd,hE,hS,?_,hq⟩;exact ht
    |cons _ _=>simp[mEs]at h3
   |cons z zs=>
    cases es with
    |nil=>simp[mEs]at h3
    |cons e0 er=>
     have h3':=h3;unfold mEs at h3';simp only[Bool.and_eq_true]at h3';have i0:=g9 Z e0 X _ hX h3'.1;have ir:=G9 Z er X _ hX h3'.2;have iall:=G9 Z (.cons e0 er) X _ hX h3;refine cf6 (F:=Z.F) (Ph:=Z.Phi) (fun c Ca=>hX.mth m c Ca) ?_ (by simpa using h1) ia.v iall.a i0.st (ir.pl _);have hp:=iall.pl cp;unfold methodCallForm;have e1:(backTo cp (starEach (z::zs) X.env)).all (fun x=>!x.1)=true:=by
      rw[List.all_eq_true];intro w hw;rw[List.any_eq_false]at hp;simpa using hp w hw
     rw[e1];simp only[Bool.true_and];show(true&&decide ((z::zs).length+0+0<30))=true;simp only[Bool.true_and,decide_eq_true_eq];omega
  ·cases h
 |.make c es,X,x,hX,h=>by
  conv at h=>lhs;whnf
  split at h
  ·rename_i g p args pos;simp only[Bool.and_eq_true,beq_iff_eq]at h;obtain⟨⟨⟨e,h1⟩,h2⟩,h3⟩:=h;subst e;have iall:=G9 Z es X _ hX h3;refine Snd.plain ?_ (fun _=>rfl) rfl (by intros;exact nofun)
   by_cases hF:Z.MF (i5 c "__init__")=true
   ·obtain⟨Ca,k,f,fd,ps,hn,M,Fo,hr,hm,hb⟩:=hX.mks c hF
    ·cases args with
     |nil=>
      cases es with
      |nil=>
       refine PE.imp (b55 hn M Fo hr (u0 h1) hm hb (G7 h2).1) fun σ H Q q=>?_;obtain⟨env,st,Qd,hE,hS,ht,hq⟩:=q;refine⟨env,st,Qd,hE,hS,?_,hq⟩;have:=ht.2;simpa only[r6]using this
      |cons _ _=>simp[mEs]at h3
     |cons z zs=>
      cases es with
      |nil=>simp[mEs]at h3
      |cons e0 er=>
       have h3':=h3;unfold mEs at h3';simp only[Bool.and_eq_true]at h3';have i0:=g9 Z e0 X _ hX h3'.1;have ir:=G9 Z er X _ hX h3'.2;exact PE.imp (cg1 hn M Fo hr (u0 h1) hm hb iall.a (G7 h2).1 i0.st (ir.pl _)) fun σ H Q⟨env,st,Qd,hE,hS,ht,hq⟩=>⟨env,st,Qd,hE,hS,ht.2,hq⟩
   ·intro pins s σ H Q I q;obtain⟨env,st,Qd,hE,hS,ht,hq⟩:=q;exact absurd ht.1 hF
  ·cases h
 |.app a b,X,x,hX,h=>by
  conv at h=>lhs;whnf
  split at h
  ·simp only[Bool.and_eq_true,beq_iff_eq]at h;obtain⟨⟨⟨⟨e,h1⟩,h2⟩,h3⟩,h4⟩:=h;subst e;have ib:=g9 Z b X _ hX h4;exact Snd.plain (by exact cr0 (g9 Z a X _ hX h3).v ib.v (M4 h2) ib.st (by simpa using h1)) (fun _=>rfl) rfl (by intros;exact nofun)
  ·cases h
 |.ext a b,X,x,hX,h=>by
  conv at h=>lhs;whnf
  split at h
  ·simp only[Bool.and_eq_true,beq_iff_eq]at h;obtain⟨⟨⟨⟨e,h1⟩,h2⟩,h3⟩,h4⟩:=h;subst e;have ib:=g9 Z b X _ hX h4;exact Snd.plain (by exact cq4 (g9 Z a X _ hX h3).v ib.v (M4 h2) ib.st (by simpa using h1)) (fun _=>rfl) rfl (by intros;exact nofun)
  ·cases h
 |.popAt a b,X,x,hX,h=>by
  conv at h=>lhs;whnf
  split at h
  ·simp only[Bool.and_eq_true,beq_iff_eq]at h;obtain⟨⟨⟨⟨e,h1⟩,h2⟩,h3⟩,h4⟩:=h;subst e;have ib:=g9 Z b X _ hX h4;exact Snd.plain (by exact b95 (g9 Z a X _ hX h3).v ib.v (M4 h2) ib.st (by simpa using h1)) (fun _=>rfl) rfl (by intros;exact nofun)
  ·cases h
 |.pop a,X,x,hX,h=>by
  conv at h=>lhs;whnf
  split at h
  ·simp only[Bool.and_eq_true,beq_iff_eq]at h;obtain⟨⟨⟨e,h1⟩,h2⟩,h3⟩:=h;subst e;exact Snd.plain (by exact cn4 (g9 Z a X _ hX h3).v (M4 h2) (by simpa using h1)) (fun _=>rfl) rfl (by intros;exact nofun)
  ·cases h
 |.dnt,X,x,hX,h=>by
  conv at h=>lhs;whnf
  split at h
  ·exact Snd.plain (by exact cl6 (c:=Z.C "!kt") fun hz=>by rw[hX.kt];cases e:Z.C "!kt" with|nil=>exact absurd e hz|cons _ _=>rfl) (fun _=>rfl) rfl (by intros;exact nofun)
  ·cases h
 |.dgt a b,X,x,hX,h=>by
  conv at h=>lhs;whnf
  split at h
  ·simp only[Bool.and_eq_true,beq_iff_eq]at h;obtain⟨⟨⟨⟨e,h1⟩,h2⟩,h3⟩,h4⟩:=h;subst e;have ib:=g9 Z b X _ hX h4;exact Snd.plain (by exact cl7 hX.units (g9 Z a X _ hX h3).v ib.v (M4 h2) ib.st (by simpa using h1)) (fun _=>rfl) rfl (by intros;exact nofun)
  ·cases h
 |.din ne a b,X,x,hX,h=>by
  conv at h=>lhs;whnf
  split at h
  ·simp only[Bool.and_eq_true,beq_iff_eq]at h;obtain⟨⟨e,h1⟩,h2⟩:=h;have ia:=g9 Z a X _ hX h1;have ib:=g9 Z b X _ hX h2;refine⟨by exact cm6 e hX.units ia.v ib.v ib.se,fun _=>?_,(fun _ _ _ z=>nomatch z),nofun,nofun,nofun⟩;unfold wpT;exact cp1 e hX.units ia.v ib.v ib.se
  ·cases h
 |.lrev a,X,x,hX,h=>by
  conv at h=>lhs;whnf
  split at h
  ·simp only[Bool.and_eq_true,beq_iff_eq]at h;obtain⟨⟨⟨e,h1⟩,h2⟩,h3⟩:=h;subst e;exact Snd.plain (by exact ce4 (g9 Z a X _ hX h3).v (M4 h2) (by simpa using h1)) (fun _=>rfl) rfl (by intros;exact nofun)
  ·cases h
 |.index a b,X,x,hX,h=>by
  conv at h=>lhs;whnf
  split at h
  ·simp only[Bool.and_eq_true,beq_iff_eq]at h;obtain⟨⟨⟨⟨e,h1⟩,h2⟩,h3⟩,h4⟩:=h;subst e;have ib:=g9 Z b X _ hX h4;exact Snd.plain (by exact b91 hX.units (g9 Z a X _ hX h3).v ib.v (M4 h2) ib.st (by simpa using h1)) (fun _=>rfl) rfl (by intros;exact nofun)
  ·cases h
 |.comp Nc fr k t it c e,X,x,hX,h=>by
  conv at h=>lhs;whnf
  split at h
  ·rename_i el tg itx ifs scope pos;simp only[Bool.and_eq_true]at h;obtain⟨⟨⟨⟨h1,h2⟩,h3⟩,h4⟩,h5⟩:=h;have Sc:=bc7 h1;have hi:=a64 Z it X tg itx hX h2;have hg:∀C fp pins s H,PG (X.comp scope Nc C fp pins s H) tg (upG X.K t):=fun C fp pins s H=>a68 (X:=X.comp scope Nc C fp pins s H) (ow:=false) hX.calm Sc.nd (fun z=>nomatch z) h3;have he:∀C fp pins s H,PE (X.comp scope Nc C fp pins s H) el (up X.K (wpE Z e)):=fun C fp pins s H=>(g9 Z e (X.comp scope Nc C fp pins s H) el (hX.comp (ad4 h1) Sc C fp pins s H) h4).v;have ht:∀C fp pins s H,PCs (X.comp scope Nc C fp pins s H) ifs (upB X.K (if c.isNon=true then fun _ st Q=>Q true st else fun env st Q=>wpE Z c env st fun d st'=>∃b,d=.bl b∧Q b st')):=fun C fp pins s H=>by
    cases ifs with
    |nil=>
     simp only at h5;rw[h5];simp only[if_true];intro pins' s' σ' H' Q' I' q;obtain⟨env,st,Qd,hE,hS,ht,hq⟩:=q;exact bi3 pins' s' σ' H' Q' I' (hq true H' st Ev.refl hS ht)
    |cons cx j1=>
     cases j1 with
     |cons _ _=>cases h5
     |nil=>
      simp only[Bool.and_eq_true,Bool.not_eq_true']at h5;rw[h5.1.1];simp only[Bool.false_eq_true,if_false];exact bi5 ((g9 Z c (X.comp scope Nc C fp pins s H) cx (hX.comp (ad4 h1) Sc C fp pins s H) h5.2).t h5.1.2)
   refine Snd.plain ?_ (fun _=>rfl) rfl (by intros;exact nofun);exact PE.imp (ca4 hX.calm Sc hi hg ht he (a57 h2)) fun σ H Q q=>bc6 q
  ·cases h
theorem G9(Z:Sg):∀(es:Es)(X:Cx)(xs:List Expr),XOk Z X→mEs es X.env.scope X.N xs=true→SndA Z X es xs
 |.nil,X,xs,hX,h=>by
  have e:xs=[]:=by cases xs with|nil=>rfl|cons=>cases h
  subst e;exact⟨by exact bm7,fun _=>rfl⟩
 |.cons e r,X,xs,hX,h=>by
  conv at h=>lhs;whnf
  split at h
  ·simp only[Bool.and_eq_true]at h;have i0:=g9 Z e X _ hX h.1;have ir:=G9 Z r X _ hX h.2;refine⟨by exact W9 i0.v ir.a i0.st,fun pos=>?_⟩;rw[n8 i0.st];show(false||(backTo pos (starEach _ X.env)).any (·.1))=false;rw[ir.pl pos];rfl
  ·cases h
theorem a60(Z:Sg):∀(vs:Es)(X:Cx)(ks:List Str)(keys:List (Option Expr))(xs:List Expr)(dp:Pos),XOk Z X→mKs ks keys=true→mEs vs X.env.scope X.N xs=true→ks.length=vs.len →
  DPs X dp keys xs ks (r6 Z vs)∧keys.all (·.isSome)=true∧keys.length=xs.length∧keys.length=ks.length
 |.nil,X,ks,keys,xs,dp,hX,h1,h2,h3=>by
  unfold mEs at h2;have e:xs=[]:=by simpa using h2
  subst e;have e2:ks=[]:=List.eq_nil_of_length_eq_zero h3;subst e2;cases keys with
  |nil=>exact⟨by exact co8,rfl,rfl,rfl⟩
  |cons _ _=>cases h1
 |.cons e r,X,ks,keys,xs,dp,hX,h1,h2,h3=>by
  unfold mEs at h2
  split at h2
  ·simp only[Bool.and_eq_true]at h2;cases ks with
   |nil=>simp[Es.len]at h3
   |cons k ks=>
    cases keys with
    |nil=>cases h1
    |cons kx keys=>
     cases kx with
     |none=>cases h1
     |some kx=>
      cases kx<;>first|cases h1|skip
      rename_i c _ _;cases c<;>first|cases h1|skip
      simp only[mKs,Bool.and_eq_true,beq_iff_eq]at h1;obtain⟨e1,h1⟩:=h1;subst e1;obtain⟨d,a1,a2,a3⟩:=a60 Z r X ks keys _ dp hX h1 h2.2 (by simpa[Es.len]using h3);exact⟨by exact ch8 (g9 Z e X _ hX h2.1).v d,by simpa using a1,by simp[a2],by simp[a3]⟩
  ·cases h2
theorem a64(Z:Sg):∀(it:It)(X:Cx)(tg x:Expr),XOk Z X→mIt it X.env.scope X.N tg x=true→PI X tg x (upI X.K (F6 Z it))
 |.seq e,X,tg,x,hX,h=>by
  conv at h=>lhs;whnf
  exact cn5 (g9 Z e X x hX h).v
 |.rng a,X,tg,x,hX,h=>by
  conv at h=>lhs;whnf
  split at h
  ·simp only[Bool.and_eq_true,beq_iff_eq]at h;obtain⟨⟨e,h1⟩,h2⟩:=h;subst e;have ia:=g9 Z a X _ hX h2;exact cl1 (u0 h1) (hX.blt' _) ia.v ia.st
  ·cases h
 |.rng2 a b,X,tg,x,hX,h=>by
  conv at h=>lhs;whnf
  split at h
  ·simp only[Bool.and_eq_true,beq_iff_eq]at h;obtain⟨⟨⟨e,h1⟩,h2⟩,h3⟩:=h;subst e;have ia:=g9 Z a X _ hX h2;have ib:=g9 Z b X _ hX h3;exact ca3 (u0 h1) (hX.blt' _) ia.v ib.v ia.st ib.st
  ·cases h
 |.zip a b,X,tg,x,hX,h=>by
  change(_&&_)=true at h;simp only[Bool.and_eq_true]at h;obtain⟨h0,h⟩:=h
  split at h
  ·simp only[Bool.and_eq_true,beq_iff_eq]at h;obtain⟨⟨⟨e',h1⟩,h2⟩,h3⟩:=h;subst e';have ia:=g9 Z a X _ hX h2;have ib:=g9 Z b X _ hX h3;cases tg<;>first|cases h0|skip
   exact cl5 (u0 h1) (hX.blt' _) ia.v ib.v ia.st ib.st
  ·cases h
 |.rev e,X,tg,x,hX,h=>by
  conv at h=>lhs;whnf
  split at h
  ·simp only[Bool.and_eq_true,beq_iff_eq]at h;obtain⟨⟨e',h1⟩,h2⟩:=h;subst e';have ia:=g9 Z e X _ hX h2;exact cm9 (u0 h1) (hX.blt' _) ia.v ia.st
  ·cases h
end
end Ek
namespace Ek
open PySem PySem.Spec PyProof.Rows L2
variable [Tbs]
mutual
noncomputable def mS:S→Scope→List Str→Stmt→Bool
 |.set i e,sc,N,s=>match s with|.Assign [.Name y _] x _=>(N[i]?==some y)&&M9 sc y&&mE e sc N x&&!(N.contains (w6 y))|_=>false
 |.dput o i v,sc,N,s=>match s with|.Assign [.Subscript p q _] x _=>mE o sc N p&&mE i sc N q&&mE v sc N x&&Y7 x|_=>false
 |.fldS o f v,sc,N,s=>match s with|.Assign [.Attribute p g _] x _=>(f==g)&&mE o sc N p&&mE v sc N x&&Y7 x|_=>false
 |.ex e,sc,N,s=>match s with|.Expr x _=>mE e sc N x&&Y7 x|_=>false
 |.iff c a b,sc,N,s=>match s with|.If x p q _=>mE c sc N x&&D7 x&&mSs a sc N p&&mSs b sc N q|_=>false
 |.ret e,sc,N,s=>match s with|.Return (some x) _=>mE e sc N x|_=>false
 |.retN,_,_,s=>match s with|.Return none _=>true|_=>false
 |.for t it b,sc,N,s=>match s with|.For tg x p [] _=>mTg true t sc N tg&&mIt it sc N tg x&&mSs b sc N p|_=>false
 |.while c b,sc,N,s=>match s with|.While x p [] _=>mE c sc N x&&D7 x&&mSs b sc N p|_=>false
 |.dead,_,_,_=>true
 |.dfn i np Nl cp b,sc,N,s=>match s with
  |.FunctionDef name args body [] none [] scope none bind _=>(match ad9 args with|some ps=>(name==bind)&&(N[i]?==some name)&&M9 sc name&&!(N.contains (w6 name))&&N.contains v4&&ar4 sc N scope Nl ps np cp&&!(Nl.contains v4)&&mSs b scope Nl body|none=>false)
  |_=>false
 |.pass,_,_,s=>match s with|.Pass _=>true|_=>false
noncomputable def mSs:Ss→Scope→List Str→List Stmt→Bool
 |.nil,_,_,l=>l.isEmpty
 |.cons s r,sc,N,l=>match l with|x::xs=>mS s sc N x&&mSs r sc N xs|[]=>false
end
noncomputable def mFB(b:Ss)(sc:Scope)(N:List Str)(fb:FuncBody):Prop:=N.contains v4=false∧match fb with
 |.stmts l=>mSs b sc N l=true
 |.expr x=>∃e,b=.cons (.ret e) .nil∧mE e sc N x=true
noncomputable abbrev HF(X:Cx):Prop:=∀y,Loc X.env.scope y→X.N.contains (w6 y)=false→X.fn y=true∨X.env.scope.names.lookup y=some .local
theorem c02{e:E}{sc:Scope}{N:List Str}{el:Expr}{gs:List Comprehension}{scope:Scope}{p:Pos}:mE e sc N (.SetComp el gs scope p)=false:=by cases e<;>rfl
theorem cw3{e:E}{sc:Scope}{N:List Str}{a b:Expr}{gs:List Comprehension}{scope:Scope}{p:Pos}:mE e sc N (.DictComp a b gs scope p)=false:=by cases e<;>rfl
theorem cz5{e:E}{sc:Scope}{N:List Str}{el:Expr}{gs:List Comprehension}{scope:Scope}{p:Pos}(h:mE e sc N (.ListComp el gs scope p)=true):∃Nc fr k t it c e',e=.comp Nc fr k t it c e':=by
 cases e<;>first|exact⟨_,_,_,_,_,_,_,rfl⟩|exact absurd h Bool.false_ne_true
theorem ae8{x:Expr}{t:Option Expr}{n:Nat}{env:Env}(h:Y7 x=true):swapsWith x t n env=pure false:=by
 cases x<;>first|rfl|cases h
theorem by2{el:Expr}{gs:List Comprehension}{scope:Scope}{p py:Pos}{y:Str}{n:Nat}{env:Env}:∃b,swapsWith (.ListComp el gs scope p) (some (.Name y py)) n env=pure b:=⟨_,rfl⟩
mutual
theorem c40(Z:Sg)(hm:∀(b:Ss)(sc:Scope)(N:List Str)(l:List Stmt),mSs b sc N l=true→N.contains v4=false→Tbs.mt b sc N (.stmts l)):∀(s:S)(X:Cx)(x:Stmt),XOk Z X→HF X→mS s X.env.scope X.N x=true→PS X x (upS X.K (wpS Z s))
 |.set i e,X,x,hX,hf,h=>by
  unfold mS at h
  split at h
  ·rename_i y py v pos;simp only[Bool.and_eq_true,beq_iff_eq,Bool.not_eq_true']at h;obtain⟨⟨⟨h1,h2⟩,h3⟩,h9⟩:=h;have ie:=g9 Z e X v hX h3
   by_cases hc:Y7 v=true
   ·exact bo1 hX.nd h1 (F1 h2) ie.v (ae8 hc) (hf y (F1 h2) h9)
   ·cases v with
    |ListComp el gs scope p=>
     obtain⟨b,hb⟩:=by2 (el:=el) (gs:=gs) (scope:=scope) (p:=p) (py:=py) (y:=y) (n:=pos.line) (env:=X.env);cases b with
     |false=>exact bo1 hX.nd h1 (F1 h2) ie.v hb (hf y (F1 h2) h9)
     |true=>
      obtain⟨Nc,fr,k,t,it,c,e,rfl⟩:=cz5 h3
      conv at h3=>lhs;whnf
      split at h3
      ·rename_i heq;cases heq;rename_i tg itx ifs;have h4:=h3;simp only[Bool.and_eq_true]at h4;obtain⟨⟨⟨⟨g1,g2⟩,g3⟩,g4⟩,g5⟩:=h4;have Sc:=bc7 g1;have hi:=a64 Z it X tg itx hX g2;have hg:∀C fp pins s H,PG (X.comp scope Nc C fp pins s H) tg (upG X.K t):=fun C fp pins s H=>a68 (X:=X.comp scope Nc C fp pins s H) (ow:=false) hX.calm Sc.nd (fun z=>nomatch z) g3;have he:∀C fp pins s H,PE (X.comp scope Nc C fp pins s H) el (up X.K (wpE Z e)):=fun C fp pins s H=>(g9 Z e (X.comp scope Nc C fp pins s H) el (hX.comp (ad4 g1) Sc C fp pins s H) g4).v;have ht:∀C fp pins s H,PCs (X.comp scope Nc C fp pins s H) ifs (upB X.K (if c.isNon=true then fun _ st Q=>Q true st else fun env st Q=>wpE Z c env st fun d st'=>∃b,d=.bl b∧Q b st')):=fun C fp pins s H=>by
        cases ifs with
        |nil=>
         simp only at g5;rw[g5];simp only[if_true];intro pins' s' σ' H' Q' I' q;obtain⟨env,st,Qd,hE,hS,ht,hq⟩:=q;exact bi3 pins' s' σ' H' Q' I' (hq true H' st Ev.refl hS ht)
        |cons cx j1=>
         cases j1 with
         |cons _ _=>cases g5
         |nil=>
          simp only[Bool.and_eq_true,Bool.not_eq_true']at g5;rw[g5.1.1];simp only[Bool.false_eq_true,if_false];exact bi5 ((g9 Z c (X.comp scope Nc C fp pins s H) cx (hX.comp (ad4 g1) Sc C fp pins s H) g5.2).t g5.1.2)
       refine PS.imp (by8 hX.calm hX.nd h1 (F1 h2) (hf y (F1 h2) h9) Sc hi hg ht he hb (a57 g2)) fun F σ H q=>?_;obtain⟨env,st,Fd,hE,hS,ht',hq⟩:=q;exact bc6 ⟨env,st,(fun d st'=>Fd.nx (env.set i (some d)) st'),hE,hS,ht',fun v d H' st' ev is rs q=>hq.nx _ _ H' st' ev ((hE.mono (ev.tk hS)).set is i) rs q⟩
      ·cases h3
    |SetComp el gs scope p=>rw[c02]at h3;cases h3
    |DictComp a b gs scope p=>rw[cw3]at h3;cases h3
    |_=>exact absurd rfl hc
  ·cases h
 |.dput o i v,X,x,hX,hf,h=>by
  unfold mS at h
  split at h
  ·rename_i p q ps y pos;simp only[Bool.and_eq_true]at h;obtain⟨⟨⟨h1,h2⟩,h3⟩,h4⟩:=h;exact cf4 hX.units (g9 Z v X y hX h3).v (g9 Z o X p hX h1).v (g9 Z i X q hX h2).v (ae8 h4)
  ·cases h
 |.fldS o f v,X,x,hX,hf,h=>by
  unfold mS at h
  split at h
  ·rename_i p g ps y pos;simp only[Bool.and_eq_true,beq_iff_eq]at h;obtain⟨⟨⟨h1,h2⟩,h3⟩,h4⟩:=h;subst h1;exact ce0 (hX.cls f) (g9 Z v X y hX h3).v (g9 Z o X p hX h2).v (ae8 h4)
  ·cases h
 |.ex e,X,x,hX,hf,h=>by
  unfold mS at h
  split at h
  ·simp only[Bool.and_eq_true]at h;exact cx0 (g9 Z e X _ hX h.1).v (ae8 h.2)
  ·cases h
 |.iff c a b,X,x,hX,hf,h=>by
  unfold mS at h
  split at h
  ·simp only[Bool.and_eq_true]at h;obtain⟨⟨⟨h1,h2⟩,h3⟩,h4⟩:=h;exact cy9 ((g9 Z c X _ hX h1).t h2) (O9 Z hm a X _ hX hf h3) (O9 Z hm b X _ hX hf h4)
  ·cases h
 |.ret e,X,x,hX,hf,h=>by
  unfold mS at h
  split at h
  ·exact co3 (g9 Z e X _ hX h).v
  ·cases h
 |.retN,X,x,hX,hf,h=>by
  unfold mS at h
  split at h
  ·exact ca6
  ·cases h
 |.for t it b,X,x,hX,hf,h=>by
  unfold mS at h
  split at h
  ·simp only[Bool.and_eq_true]at h;obtain⟨⟨h1,h2⟩,h3⟩:=h;exact cu9 hX.pass hX.calm (a64 Z it X _ _ hX h2) (a68 hX.calm hX.nd (fun _=>hf) h1) (O9 Z hm b X _ hX hf h3) (a57 h2)
  ·cases h
 |.while c b,X,x,hX,hf,h=>by
  unfold mS at h
  split at h
  ·simp only[Bool.and_eq_true]at h;obtain⟨⟨h1,h2⟩,h3⟩:=h;exact b75 hX.pass ((g9 Z c X _ hX h1).t h2) (O9 Z hm b X _ hX hf h3)
  ·cases h
 |.dfn i np Nl cp b,X,x,hX,hf,h=>by
  unfold mS at h
  split at h
  ·split at h
   ·rename_i name args body scope bind pos _ ps hp;simp only[Bool.and_eq_true,beq_iff_eq,Bool.not_eq_true']at h;obtain⟨⟨⟨⟨⟨⟨⟨h0,h1⟩,h2⟩,h3⟩,h4⟩,h5⟩,h6⟩,h7⟩:=h;subst h0;obtain⟨L,hc⟩:=hX.lam h4;obtain⟨a1,a2,a3,a4,a5⟩:=ba0 hp;exact cq6 hX.nd h1 (F1 h2) (hf _ (F1 h2) h3) a1 a2 a4 L (bk3 h5 hc (hm b scope Nl body h7 h6) (fun name qual cl doc pm cv ct us hl=>a5 name qual _ scope cl doc pm cv ct us hl))
   ·cases h
  ·cases h
 |.dead,X,x,hX,hf,h=>by
  intro pins s σ H F I q;obtain⟨env,st,Fd,hE,hS,ht,hq⟩:=q;exact ht.elim
 |.pass,X,x,hX,hf,h=>by
  unfold mS at h
  split at h
  ·exact cf0
  ·cases h
theorem O9(Z:Sg)(hm:∀(b:Ss)(sc:Scope)(N:List Str)(l:List Stmt),mSs b sc N l=true→N.contains v4=false→Tbs.mt b sc N (.stmts l)):∀(l:Ss)(X:Cx)(xs:List Stmt),XOk Z X→HF X→mSs l X.env.scope X.N xs=true→PSs X xs (upS X.K (m9 Z l))
 |.nil,X,xs,hX,hf,h=>by
  unfold mSs at h;have e:xs=[]:=by simpa using h
  subst e;exact cl0
 |.cons s r,X,xs,hX,hf,h=>by
  unfold mSs at h
  split at h
  ·simp only[Bool.and_eq_true]at h;rw[m9];exact cb6 (c40 Z hm s X _ hX hf h.1) (O9 Z hm r X _ hX hf h.2)
  ·cases h
end
end Ek
namespace Ek
open PySem PySem.Spec PyProof.Rows L2
variable [Tbs]
structure Stat(st:Stmt)(d:Def)(ps:List Str)(x f:Str):Prop where
 sc:FnScope d.N ps (j4 st)
 np:ps.length=d.np
 body:mSs d.body (j4 st) d.N (j8 st)=true
 bind:∀(kV doc pm:Value)(an:Option Addr)(cdv ct:Value)(us:List Value),us.length=ps.length→bindArgs (W.fnOf x f (m5 st) (j8 st) (j4 st) .none kV doc pm an cdv ct) ⟨us,[]⟩=pure (ps.zip us)
structure DefAt(K:W.Frag)(f:Str)(d:Def)(a:Addr)(fd:FuncData)(ps:List Str):Prop where
 ex:∃(st:Stmt)(x:Str),Fun K x f st a fd∧Stat st d ps x f
 lam:d.N.contains v4=true→∃c P,fd.code=.ref c∧W.codeHdIn K c P=true∧P∈Tbs.ps
structure DefOk(K:W.Frag)(mg:Str→Option Value)(f:Str)(d:Def):Prop where
 ex:∃(a:Addr)(fd:FuncData)(ps:List Str),DefAt K f d a fd ps∧mg f=some (.ref a)∧W.nsIn K mainGlobals f=some (some (.ref a))
structure MthOk(K:W.Frag)(mg:Str→Option Value)(c m:Str)(d:Def):Prop where
 ex:∃(Ca a:Addr)(fd:FuncData)(ps:List Str),DefAt K (i5 c m) d a fd ps∧W.nsIn K mainGlobals c=some (some (.ref Ca))∧mg c=some (.ref Ca)∧Cls K Ca∧Meth K Ca m a∧(m="__init__"→Mk K Ca a)
 nom:W.nsIn K mainGlobals (i5 c m)=some none
theorem G8:∀{a b a' b':List Nat},(46:Nat)∉a'→(46:Nat)∉b'→a++46::b=a'++46::b'→a=a'∧b=b'
 |[],b,[],b',_,_,h=>⟨rfl,by simpa using h⟩
 |[],b,x::a',b',h1,_,h=>by
  simp only[List.nil_append,List.cons_append,List.cons.injEq]at h;exact absurd (h.1▸List.mem_cons_self) h1
 |x::a,b,[],b',_,h2,h=>by
  simp only[List.nil_append,List.cons_append,List.cons.injEq]at h;exact absurd (h.2▸List.mem_append_right _ List.mem_cons_self) h2
 |x::a,b,y::a',b',h1,h2,h=>by
  simp only[List.cons_append,List.cons.injEq]at h;obtain⟨e,f⟩:=G8 (fun z=>h1 (List.mem_cons_of_mem _ z)) h2 h.2;exact⟨by rw[h.1,e],f⟩
theorem o3{K:W.Frag}{mg:Str→Option Value}{h:Heap}{f:Str}{d:Def}{st:Stmt}{ps:List Str}{fa:Addr}{od an:Option Addr}{sl:Array (Option Value)}{oc kV dc pm cd ct:Value}(X:K.In h)(G:h.Ns mainGlobals mg)(S:Stat st d ps f f)
  (a1:W.nsIn K mainGlobals f=some (some (.ref fa))) (l1:K.lookup fa=some ⟨oc,od,.func (W.fnOf f f (m5 st) (j8 st) (j4 st) .none kV dc pm an cd ct),sl⟩) (c1:W.codeIn K cd f=true) (k1:W.keepIn K (.ref fa)=true)
  (m1:d.N.contains v4=true→∃c P,cd=.ref c∧W.codeHdIn K c P=true∧P∈Tbs.ps:=by exact fun h=>absurd h (by decide+kernel)):DefOk K mg f d:=
 ⟨fa,_,ps,⟨⟨st,f,bn4 l1 c1 k1,S⟩,m1⟩,W.mg_of X G a1,a1⟩
theorem S8{K:W.Frag}{mg:Str→Option Value}{h:Heap}{c m:Str}{d:Def}{st:Stmt}{ps:List Str}{Ca fa:Addr}{od an:Option Addr}{sl:Array (Option Value)}{oc kV dc pm cd ct:Value}(X:K.In h)(G:h.Ns mainGlobals mg)(S:Stat st d ps m (i5 c m))
  (a0:W.nsIn K mainGlobals (i5 c m)=some none) (a1:W.nsIn K mainGlobals c=some (some (.ref Ca))) (hc:Cls K Ca) (hm:Meth K Ca m fa) (hi:m="__init__"→Mk K Ca fa)
  (l1:K.lookup fa=some ⟨oc,od,.func (W.fnOf m (i5 c m) (m5 st) (j8 st) (j4 st) .none kV dc pm an cd ct),sl⟩) (c1:W.codeIn K cd (i5 c m)=true)
  (m1:d.N.contains v4=true→∃c P,cd=.ref c∧W.codeHdIn K c P=true∧P∈Tbs.ps:=by exact fun h=>absurd h (by decide+kernel)):MthOk K mg c m d:=
 ⟨⟨Ca,fa,_,ps,⟨⟨st,m,bn4 l1 c1 hm.kp,S⟩,m1⟩,a1,W.mg_of X G a1,hc,hm,hi⟩,a0⟩
theorem Fun.bind0{K:W.Frag}{x f:Str}{st:Stmt}{a:Addr}{fd:FuncData}{d:Def}{ps:List Str}(F:Fun K x f st a fd)(S:Stat st d ps x f):∀us:List Value,us.length=ps.length→bindArgs fd ⟨us,[]⟩=pure (ps.zip us):=by
 obtain⟨oc,od,kV,doc,pm,an,cdv,ct,osl,rfl,lk,hcd⟩:=F.ex;exact S.bind kV doc pm an cdv ct
theorem DefAt.binds{K:W.Frag}{f:Str}{d:Def}{a:Addr}{fd:FuncData}{ps:List Str}(D:DefAt K f d a fd ps):z7 K fd ps []:=by
 obtain⟨st,x,F,S⟩:=D.ex;exact .all (Fun.bind0 F S)
theorem DefAt.kp{K:W.Frag}{f:Str}{d:Def}{a:Addr}{fd:FuncData}{ps:List Str}(D:DefAt K f d a fd ps):W.keepIn K (.ref a)=true:=by
 obtain⟨st,x,F,S⟩:=D.ex;exact F.kp
structure AllOk(Pr:Program)(w:World)(K:W.Frag)(mg:Str→Option Value)(P:j9)(G:Gs):Prop where
 fns:∀f d,P f=some d→isM f=false→DefOk K mg f d
 mts:∀f d,P f=some d→isM f=true→∃c m,f=i5 c m∧isM c=false∧isM m=false∧MthOk K mg c m d
 cls:∀f c Ca,W.nsIn K mainGlobals c=some (some (.ref Ca))→f∈G.cls c→Cls K Ca∧F4 K Ca f
 blt:∀b∈W3,mg b=none
 tabs:∀g,G.tab g≠[]→GTab Pr w K mg g (G.tab g)
 cst:∀g i,G.cst g=some i→∃t,mg g=some (.int i t)
 kt:Tbs.kt=(G.cls "!kt").isEmpty
theorem b71{c m:Str}:isM (i5 c m)=true:=by
 unfold isM i5;simp
theorem b94{c m c' m':Str}(h1:isM c'=false)(h2:isM m'=false)(h:i5 c m=i5 c' m'):c=c'∧m=m':=by
 unfold isM at h1 h2;unfold i5 at h;have h':=congrArg (fun s:Str=>s.cps.toList) h;simp only[Array.toList_append,List.append_assoc,List.singleton_append]at h';have e:=G8 (by simpa using h1) (by simpa using h2) h';exact⟨by cases c;cases c';simpa using e.1,by cases m;cases m';simpa using e.2⟩
theorem AllOk.mth{Pr:Program}{w:World}{K:W.Frag}{mg:Str→Option Value}{P:j9}{G:Gs}(h:AllOk Pr w K mg P G){c m:Str}{d:Def}(e:P (i5 c m)=some d):MthOk K mg c m d:=by
 obtain⟨c',m',e',h1,h2,M⟩:=h.mts _ d e b71;obtain⟨rfl,rfl⟩:=b94 h1 h2 e';exact M
theorem b41{K:W.Frag}{H:Hp}{d:Def}{ds:List D}{vs:List V}(r:IsDs K H ds vs):RelE K H (al3 d ds) (L2.x0 d.N vs):=ba8 r
theorem b52{X:Cx}{pins:List (Addr×Obj)}{σ:L2.St}{H:Hp}{s:Shared}(I:L2.Inv X pins σ H s)(hfn:∀x,X.fn x=true)(g k:Str→Bool)(e:Value→Shared→Prop):L2.Inv {X with fn:=g,ow:=k,xe:=e} pins σ H s:=
 ⟨⟨I.ok.mod,I.ok.kind,I.ok.glob,I.ok.blt,I.ok.above,I.ok.inj,I.ok.has,fun x c _ h=>I.ok.cab x c (.inl (hfn x)) h,I.ok.hd,I.ok.frames,I.ok.stk,I.ok.exf,I.ok.bs,I.ok.bsz,I.ok.noex,I.ok.exfs,I.ok.funs,I.ok.frf⟩,I.os,I.bare,I.base,I.loc,I.cell,I.free,
  fun x c h=>.inl ((I.freeC x c h).resolve_right fun z=>by rw[hfn x]at z;exact absurd z.1 (by decide)),I.pin,I.hok,I.len⟩
noncomputable def cxF(P:Program)(w:World)(K:W.Frag)(mg:Str→Option Value)(base:Heap)(N:List Str)(qual:Str)(scope:Scope)(f:Addr)(cd:Value)(A:Around)(outer:List Env)(s:Shared)(H:Hp):Cx:=
 {at5 CX0 P w K mg base N qual scope f cd A outer s H E0 with fn:=fun y=>!(N.contains (w6 y)),ow:=fun _=>true,xe:=fun _ _=>False}
theorem cm3{P:Program}{w:World}{K:W.Frag}{mg:Str→Option Value}{base:Heap}{k:Nat}{f:Addr}{x qual:Str}{st:Stmt}{fd:FuncData}{N ps:List Str}{sp:Sp}(F:Fun K x qual st f fd)(S:FnScope N ps (j4 st))
  (len:∀vs H Q E,sp vs H Q E→vs.length=ps.length)
  (hbody:∀(A:Around)(outer:List Env)(s:Shared)(H:Hp)(vs:List V)(Q:VK)(E:XK),Room k (A.deeper (envOfC qual (j4 st) s.heap.objs.size f fd.code))→sp vs H Q E →
   ∃t,PSs (cxF P w K mg base N qual (j4 st) f fd.code A outer s H) (j8 st) t∧t {nx:=fun _ H'=>Q .non H',rt:=Q} (L2.x0 N vs) H) :
  FnOk P w K mg base CX0 (k+1) f fd ps sp:=by
 obtain⟨oc,od,kV,doc,pm,an,cdv,ct,osl,rfl,lk,hcd⟩:=F.ex;refine⟨len,fun A outer s H args us vs Q E hr e0 hb r hsp=>?_⟩;have hl:=len _ _ _ _ hsp;have KX:K.In s.heap:=e0.mod.kin.keeps fun b o e=>(e0.bs b o e).1;have lim:s.heap.NoLimit:=e0.mod.nolimit.keeps fun b o e=>(e0.bs b o e).1;have hkind:∀y∈ps.zip us,(j4 st).names.lookup y.1=some .local∨((j4 st).names.lookup y.1=some .cell∧((cellsFrom (s.heap.objs.size+1) (j4 st).names []).lookup y.1).isSome=true):=fun⟨n,v⟩hy=>by
  rcases S.par n (List.of_mem_zip hy).1 with q|q
  ·exact .inl q
  ·exact .inr ⟨q,W.cellsFrom_some _ _ _ (.inl q)⟩
 refine codeAny_call_function hr.depth (KX _ _ lk) rfl S.co S.gen rfl (W.codeRec_of KX hcd) (hb _ _ _ _ ?_);refine wpAny_newFunctionEnv_cells S.kind hkind fun env he s1 x=>?_;subst he;refine⟨lim.keeps x.toInCall.keep,codeAny_func ?_⟩;obtain⟨t,ht,hq⟩:=hbody A outer s H vs Q E (hr.deeper _) hsp;have I0:Inv (at5 CX0 P w K mg base N qual (j4 st) f cdv A outer s H E0) [] (L2.x0 N vs) H s1:=b30 S hr.hd e0 hl r x;have I:Inv (cxF P w K mg base N qual (j4 st) f cdv A outer s H) [] (L2.x0 N vs) H s1:=b52 I0 (fun _=>rfl) _ _ _;refine wpAny_mono (ht [] s1 (L2.x0 N vs) H _ I hq) (fun fl s' hs=>?_) fun e s' hs=>False.elim hs;have fin:∀{σ':L2.St}{H':Hp}{v:V}{u:Value},Inv (cxF P w K mg base N qual (j4 st) f cdv A outer s H) [] σ' H' s'→i6 v u→Q v H'→CE outer P w H s Q u s':=
  fun{σ' H' v u}J rv q=>⟨v,H',J.os,J.bare,J.base,J.hok,rv,q⟩
 cases fl with
 |ret u=>
  obtain⟨v,σ',H',J,rv,q⟩:=hs;exact fin J rv q
 |next=>
  obtain⟨σ',H',J,q⟩:=hs;exact fin (v:=V.non) (u:=Value.none) J rfl q
 |brk=>
  obtain⟨_,_,_,q⟩:=hs;exact False.elim q
 |cont=>
  obtain⟨_,_,_,q⟩:=hs;exact False.elim q
section
variable {Pr:Program} {w:World} {K:W.Frag} {mg:Str→Option Value} {base:Heap} {P:j9} {G:Gs}
structure LvOk(Pr:Program)(w:World)(K:W.Frag)(mg:Str→Option Value)(base:Heap)(P:j9)(G:Gs)(n:Nat):Prop where
 fn:∀m,m≤n→∀(f:Str)(d:Def),P f=some d→∀(a:Addr)(fd:FuncData)(ps:List Str),DefAt K f d a fd ps→FnOk Pr w K mg base CX0 m a fd ps (B9 K (sem P G m f))
 clo:∀np N b cs fa fd ps,CloF fd np N ps b→FnOk Pr w K mg base CX0 n fa fd ps (Y8 K fa fd np N cs (J8 P G n np N b cs))
noncomputable abbrev Zl(P:j9)(G:Gs)(n:Nat):Sg:=⟨fun f=>(P f).isSome,sem P G n,G.tab,G.cls,(u8 P G n).2.1,fun f=>(u8 P G n).2.2.1&&(P f).isSome,J8 P G n,G.cst⟩
theorem bm5{X:Cx}{n:Nat}(hA:AllOk Pr w K mg P G)(L:LvOk Pr w K mg base P G n)(e1:X.prog=Pr)(e2:X.w=w)(e3:X.K=K)(e4:X.mg=mg)(e5:X.base=base)(hr:Room n X.A)(calm:X.calm=true)(xe:X.xe=fun _ _=>False)(nd:X.N.Nodup)
  (lam:X.N.contains v4=true→LamOk X∧∀x,X.N.contains (w6 x)=true→X.fn x=false∧X.ow x=true)
  (mt:∀b sc N fb,mFB b sc N fb→Tbs.mt b sc N fb):XOk (Zl P G n) X where
 calm:=calm
 xe:=xe
 units:=by have:=hr.un;omega
 nd:=nd
 blt:=by rw[e4];exact hA.blt
 fns:=fun g hi hg=>by
  obtain⟨dg,hdg⟩:=Option.isSome_iff_exists.mp hg;obtain⟨ag,fdg,pg,Dg,mgg,nsg⟩:=(hA.fns g dg hdg hi).ex;refine⟨n,ag,fdg,pg,?_,hr,by rw[e4];exact mgg,by rw[e3];exact Dg.kp,by rw[e3];exact Dg.binds,by rw[e3];exact nsg⟩;rw[e1,e2,e3,e4,e5];exact L.fn n (Nat.le_refl _) g dg hdg ag fdg pg Dg
 nom:=fun g ga hg hn=>by
  obtain⟨dg,hdg⟩:=Option.isSome_iff_exists.mp hg;cases e:isM g with
  |false=>rfl
  |true=>
   obtain⟨c,m,rfl,_,_,M⟩:=hA.mts g dg hdg e;rw[e3,M.nom]at hn;cases hn
 cls:=by rw[e3];exact hA.cls
 mth:=fun m c Ca hc hg=>by
  obtain⟨dg,hdg⟩:=Option.isSome_iff_exists.mp hg;obtain⟨Ca',ag,fdg,pg,Dg,nsc,mgc,C1,M1,I1⟩:=(hA.mth hdg).ex;rw[e3,nsc]at hc;cases hc;refine⟨n,ag,fdg,pg,by rw[e3];exact C1,by rw[e3];exact M1,?_,hr,by rw[e3];exact Dg.binds⟩;rw[e1,e2,e3,e4,e5];exact L.fn n (Nat.le_refl _) _ dg hdg ag fdg pg Dg
 mks:=fun c hg=>by
  simp only[Bool.and_eq_true]at hg;obtain⟨dg,hdg⟩:=Option.isSome_iff_exists.mp hg.2;obtain⟨Ca',ag,fdg,pg,Dg,nsc,mgc,C1,M1,I1⟩:=(hA.mth hdg).ex;cases n with
  |zero=>exact absurd hg.1 Bool.false_ne_true
  |succ m=>
   refine⟨Ca',m,ag,fdg,pg,by rw[e3];exact nsc,by rw[e3];exact I1 rfl,?_,hr,by rw[e4];exact mgc,by rw[e3];exact Dg.binds⟩;rw[e1,e2,e3,e4,e5];exact L.fn m (Nat.le_succ _) _ dg hdg ag fdg pg Dg
 tabs:=by rw[e1,e2,e3,e4];exact hA.tabs
 cst:=by rw[e4];exact hA.cst
 kt:=hA.kt
 lam:=lam
 mtE:=fun e sc N x h1 h2=>mt _ _ _ _ ⟨h2,e,rfl,h1⟩
 clo:=fun np N b cs fa fd ps cf=>⟨n,by rw[e1,e2,e3,e4,e5];exact L.clo np N b cs fa fd ps cf,hr⟩
theorem cg0:LvOk Pr w K mg base P G 0:=by
 refine⟨fun m hm f d hf a fd ps D=>?_,fun np N b cs fa fd ps cf=>?_⟩
 ·obtain rfl:m=0:=by omega
  have no:∀vs H Q E,¬B9 K (sem P G 0 f) vs H Q E:=fun vs H Q E h=>by
   obtain⟨ds,s0,Qd,_,_,h,_⟩:=h;exact h
  exact⟨fun vs H Q E h=>absurd h (no vs H Q E),fun A outer s H args us vs Q E _ _ _ _ h=>absurd h (no vs H Q E)⟩
 ·have no:∀vs H Q E,¬Y8 K fa fd np N cs (J8 P G 0 np N b cs) vs H Q E:=fun vs H Q E h=>by
   obtain⟨us0,ds,st,Qd,_,_,_,_,h,_⟩:=h;exact h
  exact⟨fun vs H Q E h=>absurd h (no vs H Q E),fun A outer s H args us vs Q E _ _ _ _ h=>absurd h (no vs H Q E)⟩
theorem cj1{n:Nat}(hA:AllOk Pr w K mg P G)(hb0:V0 mg base)(hK0:K.In base)(mt:∀b sc N fb,mFB b sc N fb↔Tbs.mt b sc N fb)(L:LvOk Pr w K mg base P G n):LvOk Pr w K mg base P G (n+1):=by
 have hmS:∀(b:Ss)(sc:Scope)(N:List Str)(l:List Stmt),mSs b sc N l=true→N.contains v4=false→Tbs.mt b sc N (.stmts l):=fun b sc N l h1 h2=>(mt _ _ _ _).mp ⟨h2,h1⟩;refine⟨fun m hm f d hf a fd ps D=>?_,fun np N b cs fa fd ps cf=>?_⟩
 ·by_cases hmn:m≤n
  ·exact L.fn m hmn f d hf a fd ps D
  obtain rfl:m=n+1:=by omega
  obtain⟨st,x,F,S⟩:=D.ex;refine cm3 F S.sc (fun vs H Q E h=>?_) (fun A outer s H vs Q E hr h=>?_)
  ·obtain⟨ds,s0,Qd,is,_,hs,_⟩:=h;obtain⟨d',hd',hl,_⟩:=hs;rw[hf]at hd';cases hd';rw[←is.len,hl,S.np]
  ·obtain⟨ds,s0,Qd,is,rs,hs,hq⟩:=h;obtain⟨d',hd',hl,hb⟩:=hs;rw[hf]at hd';cases hd';have hX:XOk (Zl P G n) (cxF Pr w K mg base d.N f (j4 st) a fd.code A outer s H):=bm5 hA L rfl rfl rfl rfl rfl hr rfl rfl S.sc.nd (fun hl=>by
    obtain⟨c,P',e1,e2,e3⟩:=D.lam hl;refine⟨⟨⟨c,P',e1,W.codeHd_of_K hK0 e2,e3⟩,hb0⟩,fun x hx=>⟨?_,rfl⟩⟩;show(!(d.N.contains (w6 x)))=false;have hx':d.N.contains (w6 x)=true:=hx;rw[hx'];rfl) fun b sc N fb=>(mt b sc N fb).mp
   have hF:HF (cxF Pr w K mg base d.N f (j4 st) a fd.code A outer s H):=fun y _ hy=>.inl (by
    show(!(d.N.contains (w6 y)))=true;have hy':d.N.contains (w6 y)=false:=hy;rw[hy'];rfl)
   refine⟨_,O9 _ hmS d.body _ _ hX hF S.body,al3 d ds,s0,_,b41 is,rs,hb,fun env σ H' st' ev hE hS q=>?_,fun env σ H' st' ev hE hS q=>q.elim,fun env σ H' st' ev hE hS q=>q.elim,fun v e H' st' ev is' rs' q=>?_⟩
   ·obtain⟨s2,sub,q⟩:=q;exact hq _ .non H' s2 (ev.drop sub) .non (hS.sub sub) q
   ·obtain⟨s2,sub,q⟩:=q;exact hq v e H' s2 (ev.drop sub) is' (rs'.sub sub) q
 ·refine cs2 (Z:=Zl P G n) cf fun q A outer s H hr=>?_;obtain⟨hnl,hfb⟩:=(mt _ _ _ _).mpr cf.mt;have hX:XOk (Zl P G n) (cxC Pr w K mg base N fd.scope fd.closure q fa fd.code A outer s H):=bm5 hA L rfl rfl rfl rfl rfl hr rfl rfl cf.sc.nd (fun hl=>by
   have hl':N.contains v4=true:=hl;rw[hnl]at hl';cases hl') fun b sc N fb=>(mt b sc N fb).mp
  have hF:HF (cxC Pr w K mg base N fd.scope fd.closure q fa fd.code A outer s H):=fun y hy _=>by
   have hy':fd.scope.names.lookup y=some .local∨fd.scope.names.lookup y=some .cell:=hy
   rcases hy' with z|z
   ·exact .inr z
   ·exact absurd rfl (cf.sc.nocell _ (PySem.mem_of_lookup z))
  cases hb:fd.body with
  |stmts l=>rw[hb]at hfb;exact O9 _ hmS b _ l hX hF hfb
  |expr x=>
   rw[hb]at hfb;obtain⟨e,rfl,he⟩:=hfb;exact⟨e,rfl,(g9 _ e _ x hX he).v⟩
theorem bm6(hA:AllOk Pr w K mg P G)(hb0:V0 mg base)(hK0:K.In base)(mt:∀b sc N fb,mFB b sc N fb↔Tbs.mt b sc N fb):∀n,LvOk Pr w K mg base P G n
 |0=>cg0
 |n+1=>cj1 hA hb0 hK0 mt (bm6 hA hb0 hK0 mt n)
end
noncomputable def st0(a:Addr)(ns:List Int):Sto:=fun b=>if b=a then some (.fro (ns.map D.int))else none
theorem bd4{K:W.Frag}{H:Hp}:∀ns:List Int,IsDs K H (ns.map D.int) (ns.map V.int)
 |[]=>.nil
 |n::r=>.cons (.int n) (bd4 r)
noncomputable def S6(K:W.Frag):Bool:=K.all fun p=>!(p.2.cls==.type "list")
theorem a92{K:W.Frag}{a:Addr}{o:Obj}(h:S6 K=true)(e:K.lookup a=some o):o.cls≠.type "list":=by
 unfold S6 at h;rw[List.all_eq_true]at h;have hm:(a,o)∈K:=by
  induction K with
  |nil=>cases e
  |cons p r ih=>
   obtain⟨b,x⟩:=p;rw[List.lookup_cons]at e;cases q:a==b with
   |true=>rw[q]at e;cases e;rw[beq_iff_eq.mp q];exact List.mem_cons_self
   |false=>rw[q]at e;exact List.mem_cons_of_mem _ (ih (fun p hp=>h p (List.mem_cons_of_mem _ hp)) e)
 have:=h _ hm;simpa using this
end Ek
namespace Ek
open PySem PySem.Spec PyProof.Rows L2
theorem b06{P:Program}{w:World}{K:W.Frag}{mg mb:Str→Option Value}{k:Nat}{fa a:Addr}{fd:FuncData}{x:Str}{sp:Sp}{s₁:Shared}{vs:List Value}{ns:List Int}{ts:List Addr}
  (KX:K.In s₁.heap) (hns:s₁.heap.Ns mainGlobals mg) (hb:s₁.heap.Ns builtinsNs mb) (hbb:∀x:Str,x≠"__name__"→mb x=bootBuiltins x) (hlim:s₁.heap.NoLimit) (hbm:V0 mg s₁.heap) (hg:s₁.gens=#[])
  (ha:s₁.heap.get? a=some {cls:=.type "list",data:=.seq vs.toArray}) (hi:IntsAre vs ns) (hl:ns.length≤sizeLine) (hr:Room k callerA)
  (hT:∀P∈ts,s₁.heap.get? P=some (W.tabObj #[])∧isCodeTable s₁.heap P) (hKt:∀P∈ts,K.lookup P=none) (hKa:K.lookup a=none)
  (F:∀base:Heap,K.In base→base.Ns mainGlobals mg→V0 mg base→FnOk P w K mg base CX0 k fa fd [x] sp) (hbind:∀(s:Shared)(u:Value),BindsTo s fd ⟨[u],[]⟩ [(x,u)])
  (hsp:∀H:Hp,(∀P∈ts,H P=some (.tbl #[]))→SqL K H a (ns.map V.int)→sp [.ref a] H (fun v _=>v=.bl true) fun _ _ _=>False) :
  codeAny (model P w) callerA (.call (.ref fa) ⟨[.ref a],[]⟩) (fun r s'=>r=.ok (.ret (.bool true))∧OldK s₁.heap s'.heap∧s'.os=s₁.os∧AllBare s'.gens) s₁:=by
 have rv:=bb7 hi;have naT:a∉ts:=fun z=>by
  have:=(hT a z).1;rw[ha]at this;cases this
 let H:Hp:=fun b=>if b=a then some (.frz {cls:=.type "list",data:=.seq vs.toArray} (.lst (ns.map V.int)))else if b∈ts then some (.tbl #[])else none
 have Ha:H a=some (.frz {cls:=.type "list",data:=.seq vs.toArray} (.lst (ns.map V.int))):=if_pos rfl;have Ht:∀P∈ts,H P=some (.tbl #[]):=fun P hP=>by
  have ne:P≠a:=fun z=>naT (z▸hP);show(if P=a then _ else if P∈ts then _ else _)=_;rw[if_neg ne,if_pos hP]
 have Hc:∀b u,H b=some u→b=a∨b∈ts:=fun b u e=>by
  by_cases h1:b=a
  ·exact .inl h1
  ·by_cases h2:b∈ts
   ·exact .inr h2
   ·have e':(if b=a then some (HO.frz {cls:=.type "list",data:=.seq vs.toArray} (.lst (ns.map V.int)))else if b∈ts then some (.tbl #[])else none)=some u:=e;rw[if_neg h1,if_neg h2]at e';cases e'
 have hok:HOk P w H s₁.heap:=fun b u e=>by
  rcases Hc b u e with rfl|hb
  ·rw[Ha]at e;cases e;exact⟨ha,by rw[List.length_map];exact hl,vs,_,rv,ha⟩
  ·rw[Ht b hb]at e;cases e;exact(hT b hb).1
 have E3:∀{b:Addr}{o:Obj},s₁.heap.get? b=some o→H b=none→(F9 s₁.heap H).get? b=some o:=fun e n=>b46 e n;have none_of:∀b o,s₁.heap.get? b=some o→(∀xs n,o.data≠.seq xs n)→(∀xs,o.data≠.fields xs)→H b=none:=fun b o e n1 n2=>by
  cases q:H b with
  |none=>rfl
  |some u=>
   rcases Hc b u q with rfl|hb
   ·rw[ha]at e;cases e;exact absurd rfl (n1 _ _)
   ·rw[(hT b hb).1]at e;cases e;exact absurd rfl (n2 _)
 have nsK:∀{b:Addr}{m:Str→Option Value},s₁.heap.Ns b m→(F9 s₁.heap H).Ns b m:=fun{b m}⟨o,es,ep,e,d,r⟩=>⟨o,es,ep,E3 e (none_of b o e (by rw[d];exact fun _ _=>nofun) (by rw[d];exact fun _=>nofun)),d,r⟩;have hKb:K.In (F9 s₁.heap H):=fun b o e=>E3 (KX b o e) (by
  cases q:H b with
  |none=>rfl
  |some u=>
   rcases Hc b u q with rfl|hb
   ·rw[hKa]at e;cases e
   ·rw[hKt b hb]at e;cases e)
 have hBb:V0 mg (F9 s₁.heap H):=by
  obtain⟨bm,ob,b1,b2,b3,b4,b5,b6⟩:=hbm;exact⟨bm,ob,b1,b2,E3 b3 (none_of bm ob b3 (by rw[b6];exact fun _ _=>nofun) (by rw[b6];exact fun _=>nofun)),b4,b5,b6⟩
 have hM:Mod K mg (F9 s₁.heap H):=⟨hKb,nsK hns,⟨mb,nsK hb,hbb⟩,let⟨mc,h1,h2⟩:=hlim;⟨mc,nsK h1,h2⟩⟩;have e0:Env0 P w K mg (F9 s₁.heap H) callerA [] s₁ H:=⟨rfl,hM,fun b o e=>ce5 e,Nat.le_of_eq (b23 _ _),trivial,fun b hb=>absurd (show b∈([]:List Addr) from hb) (by simp),hok,.of_eq hg⟩;refine codeAny_mono ((F _ hKb (nsK hns) hBb).run callerA [] s₁ H ⟨[.ref a],[]⟩ [.ref a] [.ref a] _ _ hr e0 (hbind s₁ (.ref a)) (.cons rfl .nil) (hsp H Ht (.inl (.inr ⟨_,Ha⟩)))) fun r s' h=>?_;cases r with
 |error e=>exact False.elim h
 |ok fl=>
  cases fl with
  |next=>exact False.elim h
  |brk=>exact False.elim h
  |cont=>exact False.elim h
  |ret u=>
   obtain⟨v,H',os,bare,un,hok',r',q⟩:=h;have q':v=.bl true:=q;subst q';obtain rfl:u=Value.bool true:=r';refine⟨rfl,⟨fun b o e=>?_,fun b o e=>un.there b o e (by simp)⟩,os,bare⟩;cases q:H b with
   |none=>exact .inl (un.keep b o e q (by intro z;exact absurd (show b∈([]:List Addr) from z) (by simp)) (by simp))
   |some u=>
    rcases Hc b u q with rfl|hb
    ·rw[Ha]at q;cases q;have z2:=un.frzs b _ _ Ha;obtain⟨e2,_⟩:=hok' b _ z2;rw[ha]at e;cases e;exact .inl e2
    ·obtain⟨t1,t2⟩:=hT b hb;rw[t1]at e;cases e;obtain⟨more,z⟩:=un.tbls b _ (Ht b hb);have e2:=hok' b _ z;exact .inr (.inl ⟨t2,rfl,#[],more,rfl,e2⟩)
theorem bw1 [Tbs]{K:W.Frag}{h:Heap}{a:Addr}{o:Obj}(X:K.In h)(hn:S6 K=true)(e:h.get? a=some o)(hc:o.cls=.type "list"):K.lookup a=none:=by
 cases q:K.lookup a with
 |none=>rfl
 |some o'=>
  have:=X a o' q;rw[e]at this;cases this;exact absurd hc (a92 hn q)
theorem ce3{l:W.OpenLaw}{q:Program}{loose:List Str}{XP:(Str→Option Value)→Heap→Prop}{YP:World→Heap→Prop}{d:DefRec}{K:Params→W.Frag}{P:j9}{G:Gs}{n:Nat}{x:Str}{dl:Def}{ts:List Addr}
  (hn:l.most=some 63) (hdf:d.params.defaults=[]) (hdn:d.name="law") (hr:Room n callerA) (hY:∀(w:World)(h:Heap),YP w h→(K w.params).In h∧∀P∈ts,h.get? P=some (W.tabObj #[])) (hl:P "law"=some dl)
  (hst:∀st y ps,Stat st dl ps y "law"→ps=[x])
  (F:∀(w:World)(mg:Str→Option Value)(h:Heap),(K w.params).In h→h.Ns mainGlobals mg→(letI:Tbs:=⟨ts,mFB,(G.cls "!kt").isEmpty⟩;AllOk l.prog w (K w.params) mg P G)∧S6 (K w.params)=true∧W.noTabs (K w.params)=true∧∀P∈ts,∃c,W.codeHdIn (K w.params) c P=true)
  (core:∀(a:Addr)(ns:List Int),ns.length≤63→sem P G n "law" [.ref a] (st0 a ns) fun d _=>d=.bl true) :
  W.WalkO q loose XP YP l.row.toRowW d [] (fun f vs=>PySem.call f vs):=by
 letI:Tbs:=⟨ts,mFB,(G.cls "!kt").isEmpty⟩
 refine Att.attach_call hn hdf fun w s₀ s₁ mg mb fa o pm cd doc a vs ns GG Y ho hd hcd hmg hobj hints hlen hg=>?_;obtain⟨KX,hTs⟩:=hY w _ Y;obtain⟨hA,hNL,hNT,hC⟩:=F w mg _ KX GG.T.g;obtain⟨ad,fd,ps,Df,mf,_⟩:=(hA.fns "law" dl hl (by decide+kernel)).ex;obtain⟨st,y,Ff,Sf⟩:=Df.ex;have e:=hst st y ps Sf;subst e;rw[hdn]at hmg;have ea:fa=ad:=by rw[hmg]at mf;cases mf;rfl
 subst ea;have hKa:(K w.params).lookup a=none:=bw1 KX hNL hobj rfl;refine b06 (ts:=ts) (sp:=B9 (K w.params) (sem P G n "law")) KX GG.T.g GG.T.b GG.T.builtins GG.T.nolimit GG.T.bmain hg hobj hints (Nat.le_trans hlen (by decide)) hr (fun P hP=>⟨hTs P hP,?_⟩) (fun P hP=>?_) hKa (fun base hb hbg hbm=>(bm6 hA hbm hb (fun _ _ _ _=>Iff.rfl) n).fn n (Nat.le_refl _) "law" dl hl fa fd [x] Df) (fun s u=>.of_eq (Fun.bind0 Ff Sf [u] rfl)) (fun H hH hS=>?_)
 ·obtain⟨c,hc⟩:=hC P hP;exact((W.codeHd_of_K KX hc).tab (hTs P hP)).isCodeTable
 ·cases qq:(K w.params).lookup P with
  |none=>rfl
  |some o'=>
   have z:=KX P o' qq;rw[hTs P hP]at z;cases z;unfold W.noTabs at hNT;rw[List.all_eq_true]at hNT;exact absurd (hNT _ (W.mem_of_lookupK qq)) Bool.false_ne_true
 ·refine⟨[.ref a],st0 a ns,_,.cons (.ref a) .nil,⟨fun b o e=>?_,fun P hP=>⟨#[],hH P hP,trivial,fun pos cv z=>by cases z⟩⟩,core a ns hlen,fun v d' H' st' ev is rs q=>?_⟩
  ·unfold st0 at e
   split at e
   ·rename_i hb;cases e;subst hb
    rcases hS with hS|⟨ob,its,m,hk,hc,_⟩
    ·exact⟨_,hS,bd4 ns⟩
    ·exact absurd hc (a92 hNL hk)
   ·cases e
  ·have q':d'=.bl true:=q;subst q';cases is;rfl
noncomputable def ci7(P:Addr)(o:Obj):Bool:=match o with
 |⟨.type "code",_,.fields vs,_⟩=>(match(vs[11]?:Option Value)with|some (.ref P')=>P'==P|_=>false)
 |_=>false
noncomputable def a70(K:W.Frag)(ts:List Addr):Bool:=ts.all fun P=>match K.find? fun p=>ci7 P p.2 with
 |some p=>W.codeHdIn K p.1 P
 |none=>false
theorem cf7{K:W.Frag}{ts:List Addr}(h:a70 K ts=true):∀P∈ts,∃c,W.codeHdIn K c P=true:=fun P hP=>by
 unfold a70 at h;rw[List.all_eq_true]at h;have:=h P hP
 split at this
 ·exact⟨_,this⟩
 ·cases this
noncomputable def ao8(K:W.Frag)(cd:Value):Option (Addr×Addr):=match cd with
 |.ref c=>(match K.lookup c with
  |some ⟨_,_,.fields vs,_⟩=>(match(vs[11]?:Option Value)with|some (.ref P)=>some (c,P)|_=>none)
  |_=>none)
 |_=>none
theorem bo2{K:W.Frag}{cd:Value}{c P:Addr}{ts:List Addr}(h:ao8 K cd=some (c,P))(h2:W.codeHdIn K c P=true)(h3:ts.contains P=true):∃c P,cd=.ref c∧W.codeHdIn K c P=true∧P∈ts:=by
 unfold ao8 at h
 split at h
 ·split at h
  ·split at h
   ·cases h;exact⟨_,_,rfl,h2,by simpa using h3⟩
   ·cases h
  ·cases h
 ·cases h
end Ek
namespace Ek
open PySem L2
theorem L3(s:String):Str.ofString s=⟨(s.toList.map Char.toNat).toArray⟩:=by
 unfold Str.ofString;rw[cpsOfBytes_string]
theorem bx1:∀(x y:Char),x.toNat=y.toNat→x=y:=fun x y h=>Char.ext (UInt32.toNat_inj.mp h)
theorem a95:∀(a b:List Char),a.map Char.toNat=b.map Char.toNat→a=b
 |[],[],_=>rfl
 |[],_::_,h=>by simp at h
 |_::_,[],h=>by simp at h
 |x::a,y::b,h=>by
  simp only[List.map_cons,List.cons.injEq]at h;rw[bx1 x y h.1,a95 a b h.2]
theorem v3{a b:String}:(Str.ofString a=Str.ofString b)=(a=b):=by
 refine propext ⟨fun h=>?_,fun h=>by rw[h]⟩;rw[L3,L3]at h;simp only[Str.mk.injEq]at h;have h':a.toList.map Char.toNat=b.toList.map Char.toNat:=by simpa using h
 exact String.toList_inj.mp (a95 _ _ h')
theorem B3(s:String):(D.str (Str.ofString s)).pure=true:=by
 show PyData.strOk (Str.ofString s)=true;unfold PyData.strOk;rw[L3];simp only[List.all_toArray,List.all_map,List.all_eq_true];intro c _;have h:=c.valid;simp only[UInt32.isValidChar,Nat.isValidChar]at h;simp only[Function.comp_apply,decide_eq_true_eq];show c.val.toNat<1114112;omega
end Ek
namespace Ek
open PySem L2
noncomputable def Kp(L:List Addr)(st st':Sto):Prop:=∀b o,b∉L→st b=some o→st' b=some o
theorem Kp.refl{L:List Addr}{st:Sto}:Kp L st st:=fun _ _ _ h=>h
theorem Kp.trans{L:List Addr}{a b c:Sto}(x:Kp L a b)(y:Kp L b c):Kp L a c:=fun d o n h=>y d o n (x d o n h)
theorem Kp.more{L M:List Addr}{a b:Sto}(x:Kp L a b)(s:∀d∈L,d∈M):Kp M a b:=fun d o n h=>x d o (fun z=>n (s d z)) h
theorem Kp.new{L:List Addr}{st st':Sto}{p:Addr}{o:Ob}(x:Kp L st st')(h:st' p=none):Kp L st (d7 st' p o):=fun d u n e=>by
 have e':=x d u n e;rw[B6 (fun z=>by rw[z,h]at e';cases e')];exact e'
theorem Kp.put{L:List Addr}{st st':Sto}{p:Addr}{o:Ob}(x:Kp L st st')(h:p∈L):Kp L st (d7 st' p o):=fun d u n e=>by
 rw[B6 (fun z=>n (by rw[z];exact h))];exact x d u n e
theorem Kp.at'{L:List Addr}{st st':Sto}{b:Addr}{o:Ob}(x:Kp L st st')(h:st b=some o)(n:b∉L):st' b=some o:=x b o n h
theorem i7{st:Sto}{a p:Addr}{o u:Ob}(h:st a=some o)(hp:st p=none):d7 st p u a=some o:=by
 rw[B6 (fun z=>by rw[z,hp]at h;cases h)];exact h
theorem m7{st:Sto}{a p:Addr}{o:Ob}(h:st a=some o)(hp:st p=none):a≠p:=fun z=>by rw[z,hp]at h;cases h
theorem j3{st:Sto}{a p:Addr}{o u:Ob}(h:st a=some o)(n:a≠p):d7 st p u a=some o:=by
 rw[B6 n];exact h
noncomputable def C3(st:Sto)(a:Addr):Prop:=∃l:List Int,st a=some (.lst (l.map .int))
theorem C3.keep{L:List Addr}{st st':Sto}{b:Addr}(h:C3 st b)(x:Kp L st st')(n:b∉L):C3 st' b:=let⟨l,e⟩:=h;⟨l,x.at' e n⟩
theorem C3.new{st:Sto}{b p:Addr}{u:Ob}(h:C3 st b)(hp:st p=none):C3 (d7 st p u) b:=let⟨l,e⟩:=h;⟨l,i7 e hp⟩
noncomputable def o6(Q:DK):DEnds:={nx:=fun _ st'=>∃s2,Sub s2 st'∧Q .non s2,rt:=fun d st'=>∃s2,Sub s2 st'∧Q d s2}
theorem d9{Q:DK}{d:D}{st:Sto}(h:Q d st):(o6 Q).rt d st:=⟨st,Sub.refl st,h⟩
theorem ce7{Q:DK}{env:i9}{st:Sto}(h:Q .non st):(o6 Q).nx env st:=⟨st,Sub.refl st,h⟩
noncomputable abbrev Zg(P:j9)(G:Gs)(n:Nat):Sg:=⟨fun f=>(P f).isSome,sem P G n,G.tab,G.cls,(u8 P G n).2.1,fun f=>(u8 P G n).2.2.1&&(P f).isSome,J8 P G n,G.cst⟩
theorem j6{P:j9}{G:Gs}{n:Nat}{f:Str}{fd:Def}{ds:List D}{st:Sto}{Q:DK}(hP:P f=some fd)(hl:ds.length=fd.np)(env:i9)(he:al3 fd ds=env)
  (h:m9 (Zg P G n) fd.body (o6 Q) env st):sem P G (n+1) f ds st Q:=by
 rw[b62];exact⟨fd,hP,hl,by rw[he];exact h⟩
theorem a01{P:j9}{G:Gs}{n np:Nat}{N:List Str}{b:Ss}{cs ds:List D}{st:Sto}{Q:DK}(hl:ds.length=np)(env:i9)(he:L9 N ds cs=env)
  (h:m9 (Zg P G n) b (o6 Q) env st):J8 P G (n+1) np N b cs ds st Q:=by
 rw[b38];exact⟨hl,by rw[he];exact h⟩
section
variable {Z:Sg} {F:DEnds} {env:i9} {st:Sto} {Q:DK}
theorem T9{s:S}{r:Ss}:m9 Z (.cons s r) F env st=wpS Z s ⟨m9 Z r F,F.rt,F.bk,F.ct⟩ env st:=rfl
theorem ap3:m9 Z .nil F env st=F.nx env st:=rfl
theorem ao1{i:Nat}{e:E}:wpS Z (.set i e) F env st=wpE Z e env st fun d st1=>F.nx (env.set i (some d)) st1:=rfl
theorem al2{o i v:E}:wpS Z (.dput o i v) F env st=wpE Z v env st fun d st1=>wpE Z o env st1 fun x st2=>wpE Z i env st2 fun y st3=>a63 x y d st3 fun st4=>F.nx env st4:=rfl
theorem au1{e:E}:wpS Z (.ex e) F env st=wpE Z e env st fun _ st1=>F.nx env st1:=rfl
theorem U7{c:E}{a b:Ss}:wpS Z (.iff c a b) F env st=wpE Z c env st fun d st1=>∃k,d=.bl k∧if k=true then m9 Z a F env st1 else m9 Z b F env st1:=rfl
theorem aq8{e:E}:wpS Z (.ret e) F env st=wpE Z e env st F.rt:=rfl
theorem ak1:wpS Z .retN F env st=F.rt .non st:=rfl
theorem as9{t:Tg}{it:It}{b:Ss}:wpS Z (.for t it b) F env st=F6 Z it env st fun items chk st1=>u5 chk t (m9 Z b) F items env st1:=rfl
theorem ak4:wpS Z .pass F env st=F.nx env st:=rfl
theorem aq3:wpE Z .non env st Q=Q .non st:=rfl
theorem at8{b:Bool}:wpE Z (.bl b) env st Q=Q (.bl b) st:=rfl
theorem P9{i:Int}:wpE Z (.int i) env st Q=Q (.int i) st:=rfl
theorem U6{x:Str}:wpE Z (.str x) env st Q=Q (.str x) st:=rfl
theorem e_v{i:Nat}:wpE Z (.v i) env st Q=∃d,env[i]?=some (some d)∧Q d st:=rfl
theorem as3{es:Es}:wpE Z (.tup es) env st Q=r6 Z es env st fun ds st1=>Q (.tup ds) st1:=rfl
theorem at4{es:Es}:wpE Z (.lst es) env st Q=r6 Z es env st fun ds st1=>∀p,st1 p=none→Q (.ref p) (d7 st1 p (.lst ds)):=rfl
theorem ap0{o:Operator}{a b:E}:wpE Z (.bin o a b) env st Q=wpE Z a env st fun x st1=>wpE Z b env st1 fun y st2=>A0 o x y st2 Q:=rfl
theorem ao7{a:E}:wpE Z (.neg a) env st Q=wpE Z a env st fun x st1=>∃i,x=.int i∧Q (.int (-i)) st1:=rfl
theorem U4{o:CmpOp}{a b:E}:wpE Z (.cmp o a b) env st Q=wpE Z a env st fun x st1=>wpE Z b env st1 fun y st2=>u7 o x y st2 Q:=rfl
theorem ao6{a:E}:wpE Z (.isN a) env st Q=wpE Z a env st fun x st1=>(x=.non∧Q (.bl true) st1)∨(x≠.non∧Q (.bl false) st1):=rfl
theorem am3{a:E}:wpE Z (.notN a) env st Q=wpE Z a env st fun x st1=>(x=.non∧Q (.bl false) st1)∨(x≠.non∧Q (.bl true) st1):=rfl
theorem U9{a b:E}:wpE Z (.and a b) env st Q=wpE Z a env st fun x st1=>∃c,x=.bl c∧(if c=true then wpE Z b env st1 Q else Q (.bl false) st1):=rfl
theorem av0{a b:E}:wpE Z (.or a b) env st Q=wpE Z a env st fun x st1=>∃c,x=.bl c∧(if c=true then Q (.bl true) st1 else wpE Z b env st1 Q):=rfl
theorem as7{a:E}:wpE Z (.not a) env st Q=wpE Z a env st fun x st1=>∃c,x=.bl c∧Q (.bl (!c)) st1:=rfl
theorem at2{c a b:E}:wpE Z (.ite c a b) env st Q=wpE Z c env st fun x st1=>∃k,x=.bl k∧(if k=true then wpE Z a env st1 Q else wpE Z b env st1 Q):=rfl
theorem V5{a b:E}:wpE Z (.ix a b) env st Q=wpE Z a env st fun x st1=>wpE Z b env st1 fun y st2=>ixR x y st2 Q:=rfl
noncomputable def bnd(Z:Sg)(e:E)(env:i9)(st:Sto):(Option Int→Sto→Prop)→Prop:=if e.isNon=true then fun k=>k none st else fun k=>wpE Z e env st fun d st'=>∃i,d=.int i∧k (some i) st'
theorem ag1{k:Option Int→Sto→Prop}:bnd Z .non env st k=k none st:=rfl
theorem N6{e:E}{k:Option Int→Sto→Prop}(h:e.isNon=false):bnd Z e env st k=wpE Z e env st fun d st'=>∃i,d=.int i∧k (some i) st':=by
 unfold bnd;rw[h];rfl
theorem ah3{i:Int}{k:Option Int→Sto→Prop}:bnd Z (.int i) env st k=k (some i) st:=by
 rw[N6 rfl,P9];exact propext ⟨fun⟨_,h,q⟩=>by cases h;exact q,fun q=>⟨_,rfl,q⟩⟩
theorem at3{a lo hi:E}:wpE Z (.slw a lo hi) env st Q=wpE Z a env st fun x st1=>bnd Z lo env st1 fun l st2=>bnd Z hi env st2 fun h st3=>av1 x l h st3 Q:=rfl
theorem au8{a lo hi:E}:wpE Z (.sl a lo hi) env st Q=wpE Z a env st fun x st1=>bnd Z lo env st1 fun l st2=>bnd Z hi env st2 fun h st3=>slR x l h st3 Q:=rfl
theorem ai4{ks:List Str}{vs:Es}{k:E}:wpE Z (.dsel ks vs k) env st Q=r6 Z vs env st fun ds st1=>wpE Z k env st1 fun x st2=>∃w d,x=.str w∧B8 (ks.zip ds) w=some d∧Q d st2:=rfl
theorem ar5{a:E}:wpE Z (.len a) env st Q=wpE Z a env st fun x st1=>Q5 x st1 Q:=rfl
theorem ai0{a:E}:wpE Z (.toInt a) env st Q=wpE Z a env st fun x st1=>X7 x st1 Q:=rfl
theorem aj0{a:E}:wpE Z (.list a) env st Q=wpE Z a env st fun x st1=>ap4 x st1 Q:=rfl
theorem af9{a:E}:wpE Z (.tuple a) env st Q=wpE Z a env st fun x st1=>T4 x st1 Q:=rfl
theorem af2{a:E}:wpE Z (.isList a) env st Q=wpE Z a env st fun x st1=>R6 x st1 Q:=rfl
theorem as6{a b:E}:wpE Z (.min a b) env st Q=wpE Z a env st fun x st1=>wpE Z b env st1 fun y st2=>∃i j,x=.int i∧y=.int j∧Q (.int (if j<i then j else i)) st2:=rfl
theorem af1{a:E}:wpE Z (.sorted a) env st Q=wpE Z a env st fun x st1=>a32 x st1 Q:=rfl
theorem al9{a b:E}:wpE Z (.lzip a b) env st Q=wpE Z a env st fun x st1=>wpE Z b env st1 fun y st2=>∃xs ys,x=.tup xs∧y=.tup ys∧min xs.length ys.length≤1000000∧∀p,st2 p=none→Q (.ref p) (d7 st2 p (.lst (p7 xs ys))):=rfl
theorem ak0{f:Str}{es:Es}:wpE Z (.call f es) env st Q=(Z.F f=true∧r6 Z es env st fun ds st1=>Z.Phi f ds st1 Q):=rfl
theorem at9{f:Str}:wpE Z (.gf f) env st Q=(Z.F f=true∧Q (.fn f) st):=rfl
theorem aq1{a:E}{f:Str}:wpE Z (.fld a f) env st Q=wpE Z a env st fun x st1=>∃p c fs d,x=.ref p∧st1 p=some (.ins c fs)∧f∈Z.C c∧fs.lookup f=some d∧Q d st1:=rfl
theorem X6{a:E}{m:Str}{es:Es}:wpE Z (.meth a m es) env st Q=wpE Z a env st fun x st1=>∃p c fs,x=.ref p∧st1 p=some (.ins c fs)∧fs.lookup m=none∧Z.F (i5 c m)=true∧r6 Z es env st1 fun ds st2=>Z.Phi (i5 c m) (.ref p::ds) st2 Q:=rfl
theorem ai1{c:Str}{es:Es}:wpE Z (.make c es) env st Q=(Z.MF (i5 c "__init__")=true∧r6 Z es env st fun ds st1=>∀p,st1 p=none→Z.Mk (i5 c "__init__") (.ref p::ds) (d7 st1 p (.ins c [])) fun v st2=>v=.non∧Q (.ref p) st2):=rfl
theorem ai5{o v:E}{f:Str}:wpS Z (.fldS o f v) F env st=wpE Z v env st fun d st1=>wpE Z o env st1 fun x st2=>∃p c fs,x=.ref p∧st2 p=some (.ins c fs)∧f∈Z.C c∧fs.length<1000∧F.nx env (d7 st2 p (.ins c (p9 f d fs))):=rfl
theorem ak6:wpS Z .dead F env st=False:=rfl
theorem ah9{i:Nat}{es:Es}:wpE Z (.callv i es) env st Q=∃x,env[i]?=some (some x)∧U1 Z (r6 Z es env) st Q x:=rfl
theorem at0{ta:Sto→(List D→Sto→Prop)→Prop}{f:Str}:U1 Z ta st Q (.fn f)=(Z.F f=true∧ta st fun ds st1=>Z.Phi f ds st1 Q):=rfl
theorem aj1{ta:Sto→(List D→Sto→Prop)→Prop}{np:Nat}{N:List Str}{b:Ss}{cs:List D}:U1 Z ta st Q (.clo np N b cs)=ta st fun ds st1=>Z.PhiC np N b cs ds st1 Q:=rfl
noncomputable def Q2(env:i9):List Nat→(List D→Prop)→Prop
 |[],k=>k []
 |i::is,k=>∃d,env[i]?=some (some d)∧Q2 env is fun ds=>k (d::ds)
theorem ae4{k:List D→Prop}:Q2 env [] k=k []:=rfl
theorem W2{i:Nat}{is:List Nat}{k:List D→Prop}:Q2 env (i::is) k=∃d,env[i]?=some (some d)∧Q2 env is fun ds=>k (d::ds):=rfl
theorem ar0:∀{cp:List Nat}{k:List D→Prop},(∃cs,E7 env cp=some cs∧k cs)=Q2 env cp k
 |[],k=>propext ⟨fun⟨_,h,q⟩=>by cases h;exact q,fun q=>⟨_,rfl,q⟩⟩
 |i::is,k=>by
  rw[W2];refine propext ⟨fun⟨cs,h,q⟩=>?_,fun⟨d,hd,q⟩=>?_⟩
  ·unfold E7 at h
   split at h
   ·rename_i d ds h1 h2;cases h;exact⟨d,h1,(ar0 (k:=fun ds=>k (d::ds)))▸⟨ds,h2,q⟩⟩
   ·cases h
  ·rw[←ar0]at q;obtain⟨ds,h2,q⟩:=q;exact⟨d::ds,by unfold E7;rw[hd,h2],q⟩
theorem am6{np:Nat}{N:List Str}{cp:List Nat}{e:E}:wpE Z (.lam np N cp e) env st Q=Q2 env cp fun cs=>Q (.clo np N (.cons (.ret e) .nil) cs) st:=ar0
theorem aq7{i np:Nat}{N:List Str}{cp:List Nat}{b:Ss}:wpS Z (.dfn i np N cp b) F env st=Q2 env cp fun cs=>F.nx (env.set i (some (.clo np N b cs))) st:=ar0
theorem av8{g:Str}:wpE Z (.gc g) env st Q=∃i,Z.Kc g=some i∧Q (.int i) st:=rfl
theorem ai9{ks:List Str}{vs:Es}:wpE Z (.dict ks vs) env st Q=r6 Z vs env st fun ds st1=>∀p,st1 p=none→Q (.ref p) (d7 st1 p (.dct ((ks.zip ds).map fun kv=>(.inr kv.1,kv.2)))):=rfl
theorem aq4{t:String}{a:E}:wpE Z (.isT t a) env st Q=wpE Z a env st fun x st1=>U0 t x st1 Q:=rfl
theorem aj9{ne:Bool}{a b:E}:wpE Z (.cmpl ne a b) env st Q=wpE Z a env st fun x st1=>wpE Z b env st1 fun y st2=>J4 ne x y st2 Q:=rfl
theorem ao0{a b:E}:wpE Z (.app a b) env st Q=wpE Z a env st fun x st1=>C2 x st1∧wpE Z b env st1 fun y st2=>aa2 x y st2 Q:=rfl
theorem ao2{a b:E}:wpE Z (.ext a b) env st Q=wpE Z a env st fun x st1=>C2 x st1∧wpE Z b env st1 fun y st2=>V3 x y st2 Q:=rfl
theorem ag4{a b:E}:wpE Z (.popAt a b) env st Q=wpE Z a env st fun x st1=>C2 x st1∧wpE Z b env st1 fun y st2=>a45 x y st2 Q:=rfl
theorem am8{a:E}:wpE Z (.pop a) env st Q=wpE Z a env st fun x st1=>aa4 x st1 Q:=rfl
theorem ao5:wpE Z .dnt env st Q=(Z.C "!kt"≠[]∧∀p,st p=none→Q (.ref p) (d7 st p (.dtt []))):=rfl
theorem ap1{a b:E}:wpE Z (.dgt a b) env st Q=wpE Z a env st fun x st1=>a74 x st1∧wpE Z b env st1 fun y st2=>a79 x y st2 Q:=rfl
theorem ap7{ne:Bool}{a b:E}:wpE Z (.din ne a b) env st Q=wpE Z a env st fun x st1=>wpE Z b env st1 fun y st2=>Q4 ne x y st2 Q:=rfl
theorem ai8{a:E}:wpE Z (.lrev a) env st Q=wpE Z a env st fun x st1=>aa0 x st1 Q:=rfl
theorem ag5{a b:E}:wpE Z (.index a b) env st Q=wpE Z a env st fun x st1=>aa1 x st1∧wpE Z b env st1 fun y st2=>O1 x y st2 Q:=rfl
theorem X4{Q:List D→Sto→Prop}:r6 Z .nil env st Q=Q [] st:=rfl
theorem X1{e:E}{r:Es}{Q:List D→Sto→Prop}:r6 Z (.cons e r) env st Q=wpE Z e env st fun d st1=>r6 Z r env st1 fun ds st2=>Q (d::ds) st2:=rfl
noncomputable def D5(Z:Sg)(c:E):DB:=if c.isNon=true then fun _ st Q=>Q true st else fun env st Q=>wpE Z c env st fun d st'=>∃b,d=.bl b∧Q b st'
theorem al6{Nc:List Str}{fr:List Nat}{k:Nat}{t:Tg}{it:It}{c e:E}:wpE Z (.comp Nc fr k t it c e) env st Q=F6 Z it env st fun items chk st1=>items.length≤1000000∧u3 chk t (D5 Z c) (fun env st Q=>wpE Z e env st Q) (fun acc st'=>∀p,st' p=none→Q (.ref p) (d7 st' p (.lst acc))) items [] (O0 fr k env) st1:=rfl
variable {k:ItK}
theorem aq0{e:E}:F6 Z (.seq e) env st k=wpE Z e env st fun d st1=>(∃ds,d=.tup ds∧k ds (fun _=>True) st1)∨(∃a ds,d=.ref a∧rdS st1 a ds∧k ds (fun st'=>rdS st' a ds) st1):=rfl
theorem ar2{a:E}:F6 Z (.rng a) env st k=wpE Z a env st fun d st1=>∃j:Int,d=.int j∧(-(2^62)≤j∧j<2^62)∧k (p8 0 j.toNat) (fun _=>True) st1:=rfl
theorem aj7{a b:E}:F6 Z (.rng2 a b) env st k=wpE Z a env st fun d st1=>wpE Z b env st1 fun e st2=>∃i j:Int,d=.int i∧e=.int j∧(-(2^62)≤i∧i<2^62∧-(2^62)≤j∧j<2^62)∧k (p8 i (j-i).toNat) (fun _=>True) st2:=rfl
theorem as2{a b:E}:F6 Z (.zip a b) env st k=wpE Z a env st fun d st1=>wpE Z b env st1 fun e st2=>∃xs ys,t7 st2 d xs∧t7 st2 e ys∧k (p7 xs ys) (fun st'=>t7 st' d xs∧t7 st' e ys) st2:=rfl
theorem am7{e:E}:F6 Z (.rev e) env st k=wpE Z e env st fun d st1=>∃a ds,d=.ref a∧rdS st1 a ds∧k ds.reverse (fun st'=>rdS st' a ds) st1:=rfl
end
end Ek
namespace Ek
open PySem L2
section
variable {st:Sto} {Q:DK} {i j:Int} {a p:Addr} {ds es xs ys:List D} {x y d:D}
theorem av3{a:D}{r:i9}{Q:D→Prop}:(∃d,(some a::r)[0]?=some (some d)∧Q d)=Q a:=propext ⟨fun⟨_,h,q⟩=>by cases h;exact q,fun q=>⟨a,rfl,q⟩⟩
theorem av4{a:Option D}{r:i9}{i:Nat}{Q:D→Prop}:(∃d,(a::r)[i+1]?=some (some d)∧Q d)=∃d,r[i]?=some (some d)∧Q d:=by simp only[List.getElem?_cons_succ]
theorem V2{a:D}{Q:D→Prop}:(∃d,some (some a)=some (some d)∧Q d)=Q a:=propext ⟨fun⟨_,h,q⟩=>by cases h;exact q,fun q=>⟨a,rfl,q⟩⟩
theorem as0{i:Int}{Q:Int→Prop}:(∃d,D.int i=.int d∧Q d)=Q i:=propext ⟨fun⟨_,h,q⟩=>by cases h;exact q,fun q=>⟨i,rfl,q⟩⟩
theorem au4{i:Bool}{Q:Bool→Prop}:(∃d,D.bl i=.bl d∧Q d)=Q i:=propext ⟨fun⟨_,h,q⟩=>by cases h;exact q,fun q=>⟨i,rfl,q⟩⟩
theorem ar6{Q:List D→Prop}:(∃d,D.tup ds=.tup d∧Q d)=Q ds:=propext ⟨fun⟨_,h,q⟩=>by cases h;exact q,fun q=>⟨_,rfl,q⟩⟩
theorem am5{α:Type}{a:α}{Q:α→Prop}:(∃d,some a=some d∧Q d)=Q a:=propext ⟨fun⟨_,h,q⟩=>by cases h;exact q,fun q=>⟨a,rfl,q⟩⟩
theorem ap8{i:Str}{l:List (Str×D)}{Q:D→Prop}:(∃w d,D.str i=.str w∧B8 l w=some d∧Q d)=(∃d,B8 l i=some d∧Q d):=propext ⟨fun⟨_,d,h,e,q⟩=>by cases h;exact⟨d,e,q⟩,fun⟨d,e,q⟩=>⟨_,d,rfl,e,q⟩⟩
theorem aj8{i j:Int}{Q:Int→Int→Prop}:(∃a b,D.int i=.int a∧D.int j=.int b∧Q a b)=Q i j:=propext ⟨fun⟨_,_,h,h',q⟩=>by cases h;cases h';exact q,fun q=>⟨_,_,rfl,rfl,q⟩⟩
theorem ak3:A0 .Add (.int i) (.int j) st Q=Q (.int (i+j)) st:=rfl
theorem ai6:A0 .Add (.tup xs) (.tup ys) st Q=(xs.length+ys.length≤sizeLine∧Q (.tup (xs++ys)) st):=rfl
theorem ak5{a b:Addr}:A0 .Add (.ref a) (.ref b) st Q=∃xs ys,st a=some (.lst xs)∧st b=some (.lst ys)∧xs.length+ys.length≤sizeLine∧∀p,st p=none→Q (.ref p) (d7 st p (.lst (xs++ys))):=rfl
theorem ai2:A0 .Sub (.int i) (.int j) st Q=Q (.int (i-j)) st:=rfl
theorem ak8:A0 .Mult (.int i) (.int j) st Q=(O7 i j∧Q (.int (i*j)) st):=rfl
theorem Y0:A0 .Mod (.int i) (.int j) st Q=(0<j∧Q (.int (i % j)) st):=rfl
theorem aj6:A0 .FloorDiv (.int i) (.int j) st Q=(a58 i j∧Q (.int (i / j)) st):=rfl
theorem al8:A0 .Pow (.int i) (.int j) st Q=(a75 i j∧Q (.int (i^j.toNat)) st):=rfl
theorem az9:deq (.int i) (.int j)=decide (i=j):=by
 unfold deq D.py PyData.eqv;exact Bool.eq_iff_iff.mpr (by simp)
theorem F0{x y:Str}:deq (.str x) (.str y)=decide (x=y):=by
 unfold deq D.py PyData.eqv;exact Bool.eq_iff_iff.mpr (by simp)
noncomputable def y6:List D→List D→Bool
 |[],[]=>true
 |x::xs,y::ys=>deq x y&&y6 xs ys
 |_,_=>false
theorem a35:∀xs ys:List D,PyData.eqvAll (D.pys xs) (D.pys ys)=y6 xs ys
 |[],[]=>rfl
 |[],_::_=>rfl
 |_::_,[]=>rfl
 |x::xs,y::ys=>by show(PyData.eqv x.py y.py&&PyData.eqvAll (D.pys xs) (D.pys ys))=_;rw[a35 xs ys];rfl
theorem N9:deq (.tup xs) (.tup ys)=y6 xs ys:=by
 show PyData.eqv (.tuple (D.pys xs)) (.tuple (D.pys ys))=_;rw[PyData.eqv,a35]
theorem T3:j5 (.int i)=0:=rfl
theorem v6{x:Str}:j5 (.str x)=0:=rfl
theorem aq9:u7 .Eq (.int i) (.int j) st Q=Q (.bl (decide (i=j))) st:=by
 show(_∧_∧_∧_)=_;rw[az9];exact propext ⟨fun h=>h.2.2.2,fun h=>⟨rfl,rfl,by rw[T3,T3];exact Nat.zero_le _,h⟩⟩
theorem am9:u7 .NotEq (.int i) (.int j) st Q=Q (.bl (!decide (i=j))) st:=by
 show(_∧_∧_∧_)=_;rw[az9];exact propext ⟨fun h=>h.2.2.2,fun h=>⟨rfl,rfl,by rw[T3,T3];exact Nat.zero_le _,h⟩⟩
theorem as5{x y:String}:u7 .Eq (.str (Str.ofString x)) (.str (Str.ofString y)) st Q=Q (.bl (decide (x=y))) st:=by
 show(_∧_∧_∧_)=_;simp only[F0,v3];exact propext ⟨fun h=>h.2.2.2,fun h=>⟨B3 _,B3 _,by rw[v6,v6];exact Nat.zero_le _,h⟩⟩
theorem as8{x y:String}:u7 .NotEq (.str (Str.ofString x)) (.str (Str.ofString y)) st Q=Q (.bl (!decide (x=y))) st:=by
 show(_∧_∧_∧_)=_;simp only[F0,v3];exact propext ⟨fun h=>h.2.2.2,fun h=>⟨B3 _,B3 _,by rw[v6,v6];exact Nat.zero_le _,h⟩⟩
theorem bq7:u7 .Eq x y st Q=(x.pure=true∧y.pure=true∧Nat.min (j5 x) (j5 y)≤150∧Q (.bl (deq x y)) st):=by cases x<;>cases y<;>rfl
theorem at1:u7 .NotEq x y st Q=(x.pure=true∧y.pure=true∧Nat.min (j5 x) (j5 y)≤150∧Q (.bl (!deq x y)) st):=by cases x<;>cases y<;>rfl
theorem ao9:u7 .Lt (.int i) (.int j) st Q=Q (.bl (decide (i<j))) st:=rfl
theorem ar7:u7 .LtE (.int i) (.int j) st Q=Q (.bl (decide (i≤j))) st:=rfl
theorem ap6:u7 .Gt (.int i) (.int j) st Q=Q (.bl (decide (j<i))) st:=rfl
theorem aq2:u7 .GtE (.int i) (.int j) st Q=Q (.bl (decide (j≤i))) st:=rfl
theorem au6:u7 .In x (.tup ys) st Q=(x.pure=true∧D.pures ys=true∧j5 x≤150∧Q (.bl (ys.any fun y=>deq y x)) st):=rfl
theorem ar1:u7 .NotIn x (.tup ys) st Q=(x.pure=true∧D.pures ys=true∧j5 x≤150∧Q (.bl (!ys.any fun y=>deq y x)) st):=rfl
theorem aa7:ixR (.tup ds) (.int i) st Q=∃d,atI ds i=some d∧Q d st:=rfl
theorem c31:ixR (.ref a) (.int i) st Q=((∃ds d,rdS st a ds∧atI ds i=some d∧Q d st)∨∃kvs d,st a=some (.dct kvs)∧B0 kvs (.inl i)=some d∧Q d st):=rfl
theorem cl2{kvs:List (Key×D)}(h:rdS st a ds)(h':st a=some (.dct kvs)):False:=by rcases h with h|h<;>rw[h]at h'<;>cases h'
theorem al0(h:rdS st a xs)(h':rdS st a ys):xs=ys:=by
 rcases h with h|h<;>rcases h' with h'|h'<;>rw[h]at h'<;>cases h'<;>rfl
theorem D4(h:rdS st a ds):ixR (.ref a) (.int i) st Q=∃d,atI ds i=some d∧Q d st:=by
 rw[c31];exact propext ⟨fun z=>z.elim (fun⟨es,d,r,q⟩=>by rw[al0 h r];exact⟨d,q⟩) (fun⟨_,_,e,_⟩=>(cl2 h e).elim),fun⟨d,q⟩=>.inl ⟨ds,d,h,q⟩⟩
theorem O8:rdS (d7 st p (.lst ds)) p ds:=.inl d8
theorem ap9:ixR (.ref p) (.int i) (d7 st p (.lst ds)) Q=∃d,atI ds i=some d∧Q d (d7 st p (.lst ds)):=D4 O8
theorem aa6{α:Type}{xs:List α}:atI xs 0=xs[0]?:=by
 unfold atI ixN;simp only[Int.le_refl,if_true];split
 ·rfl
 ·rename_i h;rw[List.getElem?_eq_none (by omega)];rfl
theorem B7{α:Type}{xs:List α}{k:Nat}:atI xs (k:Int)=xs[k]?:=by
 unfold atI ixN;rw[if_pos (by omega)];split
 ·rw[Int.toNat_natCast];rfl
 ·rename_i h;rw[List.getElem?_eq_none (by omega)];rfl
theorem av6{α:Type}{xs:List α}:atI xs 1=xs[1]?:=B7 (k:=1)
theorem av7{α:Type}{xs:List α}:atI xs 2=xs[2]?:=B7 (k:=2)
theorem av2{α:Type}{xs:List α}:atI xs 3=xs[3]?:=B7 (k:=3)
theorem ap2{lo hi:Option Int}:av1 (.tup ds) lo hi st Q=Q (.tup (y8 ds lo hi)) st:=rfl
theorem aa3{lo hi:Option Int}:slR (.tup ds) lo hi st Q=(¬(HT.sIx ds.length 0 lo=0∧HT.sIx ds.length ds.length hi=ds.length)∧Q (.tup (y8 ds lo hi)) st):=rfl
theorem c52{lo hi:Option Int}(h:rdS st a ds):slR (.ref a) lo hi st Q=∀p,st p=none→Q (.ref p) (d7 st p (.lst (y8 ds lo hi))):=by
 show(∃ds,rdS st a ds∧_)=_;exact propext ⟨fun⟨es,r,q⟩=>by rw[al0 h r];exact q,fun q=>⟨ds,h,q⟩⟩
theorem ar9:Q5 (.tup ds) st Q=Q (.int ds.length) st:=rfl
theorem u1(h:rdS st a ds):Q5 (.ref a) st Q=Q (.int ds.length) st:=by
 show(∃ds,rdS st a ds∧_)=_;exact propext ⟨fun⟨es,r,q⟩=>by rw[al0 h r];exact q,fun q=>⟨ds,h,q⟩⟩
theorem am1:Q5 (.ref p) (d7 st p (.lst ds)) Q=Q (.int ds.length) (d7 st p (.lst ds)):=u1 O8
theorem ap5{b:Bool}:X7 (.bl b) st Q=Q (.int (if b then 1 else 0)) st:=rfl
theorem as4:X7 (.int i) st Q=Q (.int i) st:=rfl
theorem aj3:ap4 (.tup ds) st Q=∀p,st p=none→Q (.ref p) (d7 st p (.lst ds)):=rfl
theorem ah7:T4 (.tup ds) st Q=Q (.tup ds) st:=rfl
theorem bk0(h:rdS st a ds):T4 (.ref a) st Q=Q (.tup ds) st:=by
 show(∃ds,rdS st a ds∧_)=_;exact propext ⟨fun⟨es,r,q⟩=>by rw[al0 h r];exact q,fun q=>⟨ds,h,q⟩⟩
theorem af3:T4 (.ref p) (d7 st p (.lst ds)) Q=Q (.tup ds) (d7 st p (.lst ds)):=bk0 O8
theorem bq6(h:rdS st a ds):R6 (.ref a) st Q=Q (.bl true) st:=by
 show(∃ds,rdS st a ds∧_)=_;exact propext ⟨fun⟨es,r,q⟩=>q,fun q=>⟨ds,h,q⟩⟩
theorem al1:R6 (.ref p) (d7 st p (.lst ds)) Q=Q (.bl true) (d7 st p (.lst ds)):=bq6 O8
theorem z6(h:rdS st a ds):C2 (.ref a) st=True:=propext ⟨fun _=>trivial,fun _=>⟨ds,h⟩⟩
theorem ag2:C2 (.ref p) (d7 st p (.lst ds))=True:=z6 O8
theorem bn6(h:rdS st a ds):aa1 (.ref a) st=True:=propext ⟨fun _=>trivial,fun _=>⟨ds,h⟩⟩
theorem J5(h:st a=some (.lst ds)):aa2 (.ref a) d st Q=(ds.length<sizeLine∧Q .non (d7 st a (.lst (ds++[d])))):=by
 show(∃ds,st a=some (.lst ds)∧_)=_;exact propext ⟨fun⟨es,r,q⟩=>by rw[h]at r;cases r;exact q,fun q=>⟨ds,h,q⟩⟩
theorem P1{b:Addr}(h:st a=some (.lst ds))(h':st b=some (.lst es)):V3 (.ref a) (.ref b) st Q=(ds.length+es.length≤sizeLine∧Q .non (d7 st a (.lst (ds++es)))):=by
 show(∃ds es,st a=some (.lst ds)∧st b=some (.lst es)∧_)=_;exact propext ⟨fun⟨_,_,r,r',q⟩=>by rw[h]at r;rw[h']at r';cases r;cases r';exact q,fun q=>⟨ds,es,h,h',q⟩⟩
theorem ch3{chk:Sto→Prop}{t:Tg}{tb:DS}{F:DEnds}{env:i9}:u5 chk t tb F [] env st=(chk st∧F.nx env st):=by rw[u5]
theorem b56{chk:Sto→Prop}{t:Tg}{tb:DS}{F:DEnds}{env:i9}:u5 chk t tb F (d::ds) env st=(chk st∧J6 t d env fun env'=>tb {F with nx:=u5 chk t tb F ds,ct:=u5 chk t tb F ds,bk:=F.nx} env' st):=by rw[u5]
theorem X5{k:Nat}{env:i9}{K:i9→Prop}:J6 (.n k) d env K=K (env.set k (some d)):=rfl
theorem aj2{is:List Nat}{env:i9}{K:i9→Prop}:J6 (.tup is) (.tup ds) env K=(ds.length=is.length∧K (O3 env is ds)):=by
 show(∃es,D.tup ds=.tup es∧_)=_;exact propext ⟨fun⟨es,r,q⟩=>by cases r;exact q,fun q=>⟨ds,rfl,q⟩⟩
theorem ac8{env:i9}{k:Nat}{is:List Nat}:O3 env (k::is) (d::ds)=O3 (env.set k (some d)) is ds:=rfl
theorem ad5{env:i9}:O3 env [] []=env:=rfl
theorem bd8{chk:Sto→Prop}{t:Tg}{tc:DB}{te:DT}{R:List D→Sto→Prop}{acc:List D}{env:i9}:u3 chk t tc te R [] acc env st=(chk st∧R acc st):=by rw[u3]
theorem bc2{chk:Sto→Prop}{t:Tg}{tc:DB}{te:DT}{R:List D→Sto→Prop}{acc:List D}{env:i9}:u3 chk t tc te R (d::ds) acc env st=(chk st∧J6 t d env fun env'=>tc env' st fun b st1=>if b=true then te env' st1 fun v st2=>u3 chk t tc te R ds (acc++[v]) env' st2 else u3 chk t tc te R ds acc env' st1):=by rw[u3]
theorem as1{k:ItK}:((∃es,D.tup ds=.tup es∧k es (fun _=>True) st)∨(∃a es,D.tup ds=.ref a∧rdS st a es∧k es (fun st'=>rdS st' a es) st))=k ds (fun _=>True) st:=
 propext ⟨(fun h=>by
  rcases h with⟨es,r,q⟩|⟨a,es,r,_⟩
  ·cases r;exact q
  ·cases r),fun q=>.inl ⟨ds,rfl,q⟩⟩
theorem c64{k:ItK}:((∃es,D.tup ds=.tup es∧k (ao4 0 es) (fun _=>True) st)∨(∃a es,D.tup ds=.ref a∧rdS st a es∧k (ao4 0 es) (fun st'=>rdS st' a es) st))=k (ao4 0 ds) (fun _=>True) st:=
 propext ⟨(fun h=>by
  rcases h with⟨es,r,q⟩|⟨a,es,r,_⟩
  ·cases r;exact q
  ·cases r),fun q=>.inl ⟨ds,rfl,q⟩⟩
end
end Ek
namespace Ek
open PySem L2
theorem v5{chk:Sto→Prop}{t:Tg}{tb:DS}{F:DEnds}(I:List D→i9→Sto→Prop)(h0:∀env st,I [] env st→chk st∧F.nx env st)
  (h1:∀d ds env st,(∀env st,I ds env st→u5 chk t tb F ds env st)→I (d::ds) env st→chk st∧J6 t d env fun env'=>tb {F with nx:=u5 chk t tb F ds,ct:=u5 chk t tb F ds,bk:=F.nx} env' st):∀ds env st,I ds env st→u5 chk t tb F ds env st
 |[],env,st,h=>by rw[ch3];exact h0 env st h
 |d::ds,env,st,h=>by rw[b56];exact h1 d ds env st (v5 I h0 h1 ds) h
theorem W4{chk:Sto→Prop}{t:Tg}{tc:DB}{te:DT}{R:List D→Sto→Prop}(I:List D→List D→i9→Sto→Prop)(h0:∀acc env st,I [] acc env st→chk st∧R acc st)
  (h1:∀d ds acc env st,(∀acc env st,I ds acc env st→u3 chk t tc te R ds acc env st)→I (d::ds) acc env st→chk st∧J6 t d env fun env'=>tc env' st fun b st1=>if b=true then te env' st1 fun v st2=>u3 chk t tc te R ds (acc++[v]) env' st2 else u3 chk t tc te R ds acc env' st1):∀ds acc env st,I ds acc env st→u3 chk t tc te R ds acc env st
 |[],acc,env,st,h=>by rw[bd8];exact h0 acc env st h
 |d::ds,acc,env,st,h=>by rw[bc2];exact h1 d ds acc env st (W4 I h0 h1 ds) h
theorem ag9{Z:Sg}{env:i9}{st:Sto}{K:Bool→Sto→Prop}:D5 Z .non env st K=K true st:=rfl
theorem W6{Z:Sg}{c:E}{env:i9}{st:Sto}{K:Bool→Sto→Prop}(h:c.isNon=false):D5 Z c env st K=wpE Z c env st fun d st'=>∃b,d=.bl b∧K b st':=by unfold D5;rw[h];rfl
theorem S7{i j:Int}(h:-(2^64)<j∧j<2^64):O7 i j:=.inl (.inr h)
theorem T7{i j:Int}(h:-(2^64)<i∧i<2^64):O7 i j:=.inl (.inl h)
theorem A8{n:Nat}(h:n≤16000000):n≤sizeLine:=Nat.le_trans h (by decide)
theorem E6{n:Nat}(h:n<16000000):n<sizeLine:=Nat.lt_of_lt_of_le h (by decide)
end Ek
namespace Ek
noncomputable def Ss.drop:Nat→Ss→Ss
 |0,s=>s
 |_+1,.nil=>.nil
 |k+1,.cons _ r=>Ss.drop k r
end Ek
namespace Ek
theorem au0{ds:List D}{R:PySem.Addr→List D→Prop}:(∃a es,D.tup ds=.ref a∧R a es)=False:=propext ⟨fun⟨_,_,h,_⟩=>(by cases h),False.elim⟩
theorem av9{a:PySem.Addr}{R:List D→Prop}:(∃es,D.ref a=.tup es∧R es)=False:=propext ⟨fun⟨_,h,_⟩=>(by cases h),False.elim⟩
theorem au3{a:PySem.Addr}{R:PySem.Addr→List D→Prop}:(∃b es,D.ref a=.ref b∧R b es)=∃es,R a es:=propext ⟨fun⟨_,es,h,q⟩=>by cases h;exact⟨es,q⟩,fun⟨es,q⟩=>⟨a,es,rfl,q⟩⟩
end Ek
namespace Ek
open PySem L2
section
variable {Z:Sg} {env:i9} {st:Sto} {k:Option Int→Sto→Prop} {K:Bool→Sto→Prop} {a b:E}
theorem ag8{o:Operator}:bnd Z (.bin o a b) env st k=wpE Z (.bin o a b) env st fun d st'=>∃i,d=.int i∧k (some i) st':=N6 rfl
theorem ar8{j:Nat}:bnd Z (.v j) env st k=wpE Z (.v j) env st fun d st'=>∃i,d=.int i∧k (some i) st':=N6 rfl
theorem ah8:bnd Z (.len a) env st k=wpE Z (.len a) env st fun d st'=>∃i,d=.int i∧k (some i) st':=N6 rfl
theorem ah2:bnd Z (.neg a) env st k=wpE Z (.neg a) env st fun d st'=>∃i,d=.int i∧k (some i) st':=N6 rfl
theorem ai3:bnd Z (.ix a b) env st k=wpE Z (.ix a b) env st fun d st'=>∃i,d=.int i∧k (some i) st':=N6 rfl
theorem ae6{f:Str}{es:Es}:bnd Z (.call f es) env st k=wpE Z (.call f es) env st fun d st'=>∃i,d=.int i∧k (some i) st':=N6 rfl
theorem ag3{o:CmpOp}:D5 Z (.cmp o a b) env st K=wpE Z (.cmp o a b) env st fun d st'=>∃b,d=.bl b∧K b st':=W6 rfl
theorem ah1:D5 Z (.and a b) env st K=wpE Z (.and a b) env st fun d st'=>∃b,d=.bl b∧K b st':=W6 rfl
theorem al4:D5 Z (.or a b) env st K=wpE Z (.or a b) env st fun d st'=>∃b,d=.bl b∧K b st':=W6 rfl
theorem af8:D5 Z (.not a) env st K=wpE Z (.not a) env st fun d st'=>∃b,d=.bl b∧K b st':=W6 rfl
theorem ae9{f:Str}{es:Es}:D5 Z (.call f es) env st K=wpE Z (.call f es) env st fun d st'=>∃b,d=.bl b∧K b st':=W6 rfl
end
end Ek
namespace Ek
open PySem L2
theorem bl1{n d:Nat}:HT.sIx n d none=d:=rfl
theorem a50{n d k:Nat}:HT.sIx n d (some (k:Int))=min k n:=by
 show(if(k:Int)<0 then((k:Int)+(n:Int)).toNat else min (k:Int).toNat n)=min k n;rw[if_neg (by omega),Int.toNat_natCast]
theorem cr4{ds:List D}{k:Nat}:y8 ds none (some (k:Int))=ds.take k:=by
 unfold y8;rw[bl1,a50,List.drop_zero,Nat.sub_zero]
 by_cases h:k≤ds.length
 ·rw[Nat.min_eq_left h]
 ·rw[Nat.min_eq_right (by omega),List.take_of_length_le (Nat.le_refl _),List.take_of_length_le (by omega)]
theorem b61{ds:List D}{k:Nat}:y8 ds (some (k:Int)) none=ds.drop k:=by
 unfold y8;rw[bl1,a50]
 by_cases h:k≤ds.length
 ·rw[Nat.min_eq_left h,List.take_of_length_le (by rw[List.length_drop];omega)]
 ·rw[Nat.min_eq_right (by omega),List.drop_of_length_le (Nat.le_refl _),List.drop_of_length_le (by omega),List.take_nil]
end Ek
namespace Ek
open PySem L2
theorem cz7{st:Sto}{a:Addr}{ds es:List D}{Q:DK}(h:st a=some (.lst ds)):V3 (.ref a) (.tup es) st Q=(ds.length+es.length≤sizeLine∧Q .non (d7 st a (.lst (ds++es)))):=by
 show(∃ds,st a=some (.lst ds)∧_)=_;exact propext ⟨fun⟨_,r,q⟩=>by rw[h]at r;cases r;exact q,fun q=>⟨ds,h,q⟩⟩
theorem cp7{ne:Bool}{st:Sto}{a b:Addr}{xs ys:List D}{Q:DK}(h1:rdS st a xs)(h2:rdS st b ys)(p1:D.pures xs=true)(p2:D.pures ys=true)(hd:PyData.depthAll (D.pys xs)≤149)(q:Q (.bl (ne != y6 xs ys)) st):J4 ne (.ref a) (.ref b) st Q:=⟨xs,ys,h1,h2,.inl ⟨p1,p2,hd,by rw[a35];exact q⟩⟩
theorem c43{t:String}{d:D}{ty:String}{st:Sto}{Q:DK}(h:tyD d st=some ty)(q:Q (.bl (ty==t||(ty=="bool"&&t=="int"))) st):U0 t d st Q:=.inl ⟨ty,h,q⟩
theorem af6{Z:Sg}{F:DEnds}{env:i9}{st:Sto}{c:E}{b:Ss}:wpS Z (.while c b) F env st=∃n,E4 (wpT Z c) (m9 Z b) F n env st:=rfl
theorem R5{Z:Sg}{e:E}{env:i9}{st:Sto}{K:Bool→Sto→Prop}:wpT Z e env st K=wpE Z e env st fun d st'=>∃b,d=.bl b∧K b st':=rfl
theorem Q8{tc:DB}{tb:DS}{F:DEnds}(I:Nat→i9→Sto→Prop)(step:∀m env st(W:i9→Sto→Prop),I m env st→(∀m' env' st',m'<m→I m' env' st'→W env' st')→tc env st fun b st1=>if b=true then tb {F with nx:=W,ct:=W,bk:=F.nx} env st1 else F.nx env st1):∀m env st,I m env st→∃n,E4 tc tb F n env st:=by
 have main:∀k m env st,m≤k→I m env st→E4 tc tb F (k+1) env st:=by
  intro k
  induction k with
  |zero=>
   intro m env st hm hI;rw[E4];exact step m env st _ hI fun m' env' st' hlt _=>by omega
  |succ k ih=>
   intro m env st hm hI;rw[E4];exact step m env st _ hI fun m' env' st' hlt hI'=>ih m' env' st' (by omega) hI'
 exact fun m env st hI=>⟨m+1,main m m env st (Nat.le_refl _) hI⟩
theorem a66{st:Sto}{a:Addr}{ds:List D}{d:D}{Q:DK}(h:st a=some (.lst (ds++[d]))):aa4 (.ref a) st Q=Q d (d7 st a (.lst ds)):=by
 show(∃ds d,st a=some (.lst (ds++[d]))∧_)=_;refine propext ⟨fun⟨es,e,r,q⟩=>?_,fun q=>⟨ds,d,h,q⟩⟩;rw[h]at r;simp only[Option.some.injEq,Ob.lst.injEq]at r;obtain⟨r1,r2⟩:=List.append_inj' r rfl;cases r2;rw[r1];exact q
theorem cy6{st:Sto}{a:Addr}{ds:List D}{Q:DK}(h:st a=some (.lst ds)):aa0 (.ref a) st Q=Q .non (d7 st a (.lst ds.reverse)):=by
 show(∃ds,st a=some (.lst ds)∧_)=_;exact propext ⟨fun⟨_,r,q⟩=>by rw[h]at r;cases r;exact q,fun q=>⟨ds,h,q⟩⟩
theorem c53{st:Sto}{a:Addr}{kvs:List (Key×D)}{w:Str}{Q:DK}(h:st a=some (.dct kvs)):u7 .In (.str w) (.ref a) st Q=Q (.bl (B0 kvs (.inr w)).isSome) st:=by
 show(∃kvs,st a=some (.dct kvs)∧_)=_;exact propext ⟨fun⟨_,r,q⟩=>by rw[h]at r;cases r;exact q,fun q=>⟨kvs,h,q⟩⟩
theorem c54{st:Sto}{a:Addr}{kvs:List (Key×D)}{w:Str}{d:D}{Q:DK}(h:st a=some (.dct kvs))(hl:B0 kvs (.inr w)=some d):ixR (.ref a) (.str w) st Q=Q d st:=by
 show(∃kvs d,st a=some (.dct kvs)∧_)=_;exact propext ⟨fun⟨_,_,r,l,q⟩=>by rw[h]at r;cases r;rw[hl]at l;cases l;exact q,fun q=>⟨kvs,d,h,hl,q⟩⟩
theorem au5{f:Str}{Q:Str→Prop}:(∃g,some (some (D.fn f))=some (some (.fn g))∧Q g)=Q f:=propext ⟨fun⟨_,h,q⟩=>by cases h;exact q,fun q=>⟨f,rfl,q⟩⟩
end Ek
namespace Ek
open PySem L2
inductive Kd where
 |non|one|eith (a b:Kd)|both (a b:Kd)|way (a b:Kd)
 deriving DecidableEq
noncomputable def Kd.d:Kd→D
 |.non=>.tup [.str "none"]
 |.one=>.tup [.str "one"]
 |.eith a b=>.tup [.str "either",a.d,b.d]
 |.both a b=>.tup [.str "both",a.d,b.d]
 |.way a b=>.tup [.str "way",a.d,b.d]
noncomputable def Kd.cnt:Kd→Nat
 |.non=>0|.one=>1
 |.eith a b=>a.cnt+b.cnt
 |.both a b=>a.cnt*b.cnt
 |.way a b=>b.cnt^a.cnt
noncomputable def Kd.nest:Kd→Nat
 |.non=>0|.one=>0
 |.eith a b=>1+max a.nest b.nest
 |.both a b=>1+max a.nest b.nest
 |.way a b=>1+max a.nest b.nest
noncomputable def Kd.bd(m:Nat):Kd→Prop
 |.non=>True|.one=>1≤m
 |.eith a b=>a.bd m∧b.bd m∧a.cnt+b.cnt≤m
 |.both a b=>a.bd m∧b.bd m∧a.cnt*b.cnt≤m
 |.way a b=>a.bd m∧b.bd m∧b.cnt^a.cnt≤m
theorem Kd.bd_le{m:Nat}:∀{k:Kd},k.bd m→k.cnt≤m
 |.non,_=>Nat.zero_le _
 |.one,h=>h
 |.eith _ _,h=>h.2.2
 |.both _ _,h=>h.2.2
 |.way _ _,h=>h.2.2
theorem Kd.bd_mono{m m':Nat}(hm:m≤m'):∀{k:Kd},k.bd m→k.bd m'
 |.non,_=>trivial
 |.one,h=>Nat.le_trans h hm
 |.eith _ _,h=>⟨bd_mono hm h.1,bd_mono hm h.2.1,Nat.le_trans h.2.2 hm⟩
 |.both _ _,h=>⟨bd_mono hm h.1,bd_mono hm h.2.1,Nat.le_trans h.2.2 hm⟩
 |.way _ _,h=>⟨bd_mono hm h.1,bd_mono hm h.2.1,Nat.le_trans h.2.2 hm⟩
theorem cl3:∀a b:Kd,deq a.d b.d=decide (a=b):=by
 intro a
 induction a with
 |non=>intro b;cases b<;>simp[Kd.d,N9,y6,F0,v3]
 |one=>intro b;cases b<;>simp[Kd.d,N9,y6,F0,v3]
 |eith a c iha ihc=>intro b;cases b<;>simp[Kd.d,N9,y6,F0,v3,iha,ihc]
 |both a c iha ihc=>intro b;cases b<;>simp[Kd.d,N9,y6,F0,v3,iha,ihc]
 |way a c iha ihc=>intro b;cases b<;>simp[Kd.d,N9,y6,F0,v3,iha,ihc]
theorem G1{d:D}{r:List D}:D.pures (d::r)=(d.pure&&D.pures r):=rfl
theorem N5:D.pures []=true:=rfl
theorem R1{r:List D}:(D.tup r).pure=D.pures r:=rfl
theorem L6:∀k:Kd,k.d.pure=true
 |.non=>by simp only[Kd.d,R1,G1,N5,B3,Bool.and_self]
 |.one=>by simp only[Kd.d,R1,G1,N5,B3,Bool.and_self]
 |.eith a b=>by simp only[Kd.d,R1,G1,N5,B3,L6 a,L6 b,Bool.and_self]
 |.both a b=>by simp only[Kd.d,R1,G1,N5,B3,L6 a,L6 b,Bool.and_self]
 |.way a b=>by simp only[Kd.d,R1,G1,N5,B3,L6 a,L6 b,Bool.and_self]
noncomputable def o5:List D→Nat
 |[]=>0
 |d::r=>max (j5 d) (o5 r)
theorem ax9:∀l:List D,PyData.depthAll (D.pys l)=o5 l
 |[]=>rfl
 |d::r=>by show max (PyData.depth d.py) (PyData.depthAll (D.pys r))=_;rw[ax9 r];rfl
theorem v7{l:List D}:j5 (.tup l)=o5 l+1:=by
 show PyData.depth (.tuple (D.pys l))=_;rw[PyData.depth,ax9]
theorem J3:∀k:Kd,j5 k.d=k.nest+1
 |.non=>by simp only[Kd.d,v7,o5,v6,Kd.nest];rfl
 |.one=>by simp only[Kd.d,v7,o5,v6,Kd.nest];rfl
 |.eith a b=>by simp only[Kd.d,v7,o5,v6,Kd.nest,J3 a,J3 b,Nat.max_zero];omega
 |.both a b=>by simp only[Kd.d,v7,o5,v6,Kd.nest,J3 a,J3 b,Nat.max_zero];omega
 |.way a b=>by simp only[Kd.d,v7,o5,v6,Kd.nest,J3 a,J3 b,Nat.max_zero];omega
end Ek
namespace Ek
open PySem
end Ek
namespace Ek
open PySem L2
set_option hygiene false
local macro_rules | `(tactic| walk_at "ek")=>`(tactic| try simp only [ao1,al2,au1,U7,aq8,ak1,as9,af6,ak4,ap3,aq3,at8,P9,U6,e_v,as3,at4,ap0,ao7,U4,ao6,am3,U9,av0,as7,at2,V5,au8,at3,ap2,ag1,ah3,ag8,ar8,ah8,ah2,ai3,ae6,ag9,ag3,ah1,al4,af8,ae9,ai4,ar5,ai0,aj0,af9,af2,as6,af1,al9,ak0,at9,ah9,at0,aj1,am6,aq7,ae4,W2,av8,aq1,X6,ai1,ai5,ak6,ai9,aq4,aj9,ao0,ao2,ag4,am8,ao5,ap1,ap7,ai8,ag5,al6,X4,X1,aq0,ar2,aj7,as2,am7,av3,av4,V2,au5,as0,au4,ar6,am5,ap8,aj8,au0,av9,au3,or_false,false_or,ak3,ai6,ai2,ak8,Y0,aj6,al8,aq9,am9,as5,as8,ao9,ar7,ap6,aq2,au6,ar1,aa7,ap9,aa6,av6,av7,av2,aa3,ar9,am1,ap5,as4,aj3,ah7,af3,al1,ag2,X5,aj2,ac8,ad5,as1,List.set_cons_zero,List.set_cons_succ,List.getElem?_cons_zero,List.getElem?_cons_succ,decide_eq_true_eq,Bool.not_eq_true',decide_eq_false_iff_not,if_true,if_false,true_and,and_true,Bool.false_eq_true,Bool.true_eq_false,List.length_cons,List.length_nil,String.reduceEq,decide_true,decide_false,Bool.not_true,Bool.not_false])
set_option hygiene true
set_option hygiene false
local macro_rules | `(tactic| walk_at "es")=>`(tactic| ((try dsimp only);rw [T9];walk_at "ek"))
set_option hygiene true
structure PB0(P:j9):Prop where
 mixed:P "_law_mixed"=some d_law_mixed
 deck:P "_law_deck"=some d_law_deck
 next:P "_law_next"=some d_law_next
 power:P "_law_power"=some d_law_power
 count:P "_law_count"=some d_law_count
 kind:P "_law_kind"=some d_law_kind
structure PB(P:j9):Prop extends PB0 P where
 least:P "_law_least"=some d_law_least
 made:P "_law_made"=some d_law_made
 nest:P "_law_nest"=some d_law_nest
 asked:P "_law_asked"=some d_law_asked
 grown:P "_law_grown"=some d_law_grown
 inner:P "_law_inner"=some d_law_inner
 parts:P "_law_parts"=some d_law_parts
 program:P "_law_program"=some d_law_program
 names:P "_law_names"=some d_law_names
theorem b77{ns:List Int}{lo hi:Option Int}:∃ms:List Int,y8 (ns.map D.int) lo hi=ms.map D.int∧ms.length≤ns.length:=by
 refine⟨(ns.drop (HT.sIx (ns.map D.int).length 0 lo)).take (HT.sIx (ns.map D.int).length (ns.map D.int).length hi-HT.sIx (ns.map D.int).length 0 lo),by unfold y8;rw[List.map_take,List.map_drop],?_⟩;rw[List.length_take,List.length_drop];omega
theorem aw0{lo:Int}{n:Nat}:(p8 lo n).length=n:=by simp[p8]
end Ek
namespace Ek
open PySem
noncomputable def ac2:Def:=⟨3,["whole","parts_of","made","order","done","here","many"],
 (.cons (.set 3 (.call "order_of_few" (.cons (.v 0) (.cons (.v 1) .nil))))
 (.cons (.iff (.isN (.v 3))
   (.cons .dead
  .nil)
   .nil)
 (.cons (.set 4 (.lst .nil))
 (.cons (.for (.tup [5,6]) (.rev (.v 3))
   (.cons (.ex (.app (.v 4) (.callv 2 (.cons (.v 5) (.cons (.ite (.cmp .Gt (.v 6) (.int 0)) (.call "taken" (.cons (.v 4) (.cons (.v 6) .nil))) (.lst .nil)) .nil)))))
  .nil))
 (.cons (.ret (.ix (.v 4) (.int 0)))
 .nil)))))⟩
noncomputable def ac6:Def:=⟨2,["whole","parts_of","order","ahead","here","parts"],
 (.cons (.set 2 (.lst .nil))
 (.cons (.set 3 (.lst (.cons (.v 0) .nil)))
 (.cons (.while (.cmp .Gt (.len (.v 3)) (.int 0))
   (.cons (.set 4 (.pop (.v 3)))
  (.cons (.set 5 (.callv 1 (.cons (.v 4) .nil)))
  (.cons (.ex (.app (.v 2) (.tup (.cons (.v 4) (.cons (.len (.v 5)) .nil)))))
  (.cons (.ex (.ext (.v 3) (.v 5)))
  (.cons (.iff (.cmp .Gt (.len (.v 2)) (.gc "FEW"))
    (.cons (.ret .non)
   .nil)
    .nil)
  .nil))))))
 (.cons (.ret (.v 2))
 .nil))))⟩
noncomputable def ah0:Def:=⟨2,["done","many","parts","number"],
 (.cons (.set 2 (.lst .nil))
 (.cons (.for (.n 3) (.rng (.v 1))
   (.cons (.ex (.app (.v 2) (.pop (.v 0))))
  .nil))
 (.cons (.ex (.lrev (.v 2)))
 (.cons (.ret (.v 2))
 .nil))))⟩
noncomputable def ae1:Def:=⟨1,["kind"],
 (.cons (.ret (.call "built_up" (.cons (.v 0) (.cons (.dict ["none","one"] (.cons (.lst .nil) (.cons (.lst (.cons (.tup .nil) .nil)) .nil))) (.cons (.gf "joined_things") .nil)))))
 .nil)⟩
noncomputable def ad3:Def:=⟨3,["kind","plain","joined","made","!plain","!joined","!"],
 (.cons (.dfn 3 2 ["here","parts","plain","joined"] [1,2]
   (.cons (.ret (.ite (.cmp .In (.ix (.v 0) (.int 0)) (.v 2)) (.ix (.v 2) (.ix (.v 0) (.int 0))) (.callv 3 (.cons (.ix (.v 0) (.int 0)) (.cons (.ix (.v 1) (.int 0)) (.cons (.ix (.v 1) (.int 1)) .nil))))))
  .nil))
 (.cons (.ret (.call "made_of_parts" (.cons (.v 0) (.cons (.lam 1 ["here"] [] (.sl (.v 0) (.int 1) .non)) (.cons (.v 3) .nil)))))
 .nil))⟩
noncomputable def ac3:Def:=⟨3,["word","first","second"],
 (.cons (.iff (.cmp .Eq (.v 0) (.str "either"))
   (.cons (.ret (.bin .Add (.comp ["thing"] [] 1 (.n 0) (.seq (.v 1)) .non (.tup (.cons (.str "l") (.cons (.v 0) .nil)))) (.comp ["thing"] [] 1 (.n 0) (.seq (.v 2)) .non (.tup (.cons (.str "r") (.cons (.v 0) .nil))))))
  .nil)
   .nil)
 (.cons (.iff (.cmp .Eq (.v 0) (.str "both"))
   (.cons (.ret (.call "pairs" (.cons (.v 1) (.cons (.v 2) .nil))))
  .nil)
   .nil)
 (.cons (.ret (.comp ["row"] [] 1 (.n 0) (.seq (.call "rows_over" (.cons (.len (.v 1)) (.cons (.v 2) .nil)))) .non (.tup (.cons (.str "w") (.cons (.v 0) .nil)))))
 .nil)))⟩
noncomputable def af7:Def:=⟨2,["first","second","answer","thing"],
 (.cons (.set 2 (.lst .nil))
 (.cons (.for (.n 3) (.seq (.v 0))
   (.cons (.ex (.ext (.v 2) (.comp ["thing","other"] [3] 1 (.n 1) (.seq (.v 1)) .non (.tup (.cons (.str "p") (.cons (.v 0) (.cons (.v 1) .nil)))))))
  .nil))
 (.cons (.ret (.v 2))
 .nil)))⟩
noncomputable def ac9:Def:=⟨2,["length","choices","rows","done","longer","row"],
 (.cons (.set 2 (.lst (.cons (.tup .nil) .nil)))
 (.cons (.for (.n 3) (.rng (.v 0))
   (.cons (.set 4 (.lst .nil))
  (.cons (.for (.n 5) (.seq (.v 2))
    (.cons (.ex (.ext (.v 4) (.comp ["row","choice"] [5] 1 (.n 1) (.seq (.v 1)) .non (.bin .Add (.v 0) (.tup (.cons (.v 1) .nil))))))
   .nil))
  (.cons (.set 2 (.v 4))
  .nil))))
 (.cons (.ret (.v 2))
 .nil)))⟩
end Ek
namespace Ek
open PySem L2
set_option hygiene false
local macro_rules | `(tactic| walk_at "ek")=>`(tactic| try simp only [ao1,al2,au1,U7,aq8,ak1,as9,af6,ak4,ap3,aq3,at8,P9,U6,e_v,as3,at4,ap0,ao7,U4,ao6,am3,U9,av0,as7,at2,V5,au8,at3,ap2,ag1,ah3,ag8,ar8,ah8,ah2,ai3,ae6,ag9,ag3,ah1,al4,af8,ae9,ai4,ar5,ai0,aj0,af9,af2,as6,af1,al9,ak0,at9,ah9,at0,aj1,am6,aq7,ae4,W2,av8,aq1,X6,ai1,ai5,ak6,ai9,aq4,aj9,ao0,ao2,ag4,am8,ao5,ap1,ap7,ai8,ag5,al6,X4,X1,aq0,ar2,aj7,as2,am7,av3,av4,V2,au5,as0,au4,ar6,am5,ap8,aj8,au0,av9,au3,or_false,false_or,ak3,ai6,ai2,ak8,Y0,aj6,al8,aq9,am9,as5,as8,ao9,ar7,ap6,aq2,au6,ar1,aa7,ap9,aa6,av6,av7,av2,aa3,ar9,am1,ap5,as4,aj3,ah7,af3,al1,ag2,X5,aj2,ac8,ad5,as1,List.set_cons_zero,List.set_cons_succ,List.getElem?_cons_zero,List.getElem?_cons_succ,decide_eq_true_eq,Bool.not_eq_true',decide_eq_false_iff_not,if_true,if_false,true_and,and_true,Bool.false_eq_true,Bool.true_eq_false,List.length_cons,List.length_nil,String.reduceEq,decide_true,decide_false,Bool.not_true,Bool.not_false])
set_option hygiene true
set_option hygiene false
local macro_rules | `(tactic| walk_at "es")=>`(tactic| ((try dsimp only);rw [T9];walk_at "ek"))
set_option hygiene true
theorem aw6{α:Type}(l:List α):l=[]∨∃l' c,l=l'++[c]:=by
 rcases List.eq_nil_or_concat l with h|⟨l',c,h⟩
 ·exact .inl h
 ·exact .inr ⟨l',c,by rw[h,List.concat_eq_append]⟩
noncomputable def P8(P:j9)(G:Gs)(n:Nat):D→Spec
 |.fn f=>sem P G n f
 |.clo np N b cs=>J8 P G n np N b cs
 |_=>fun _ _ _=>False
noncomputable def Cok(P:j9):D→Prop
 |.fn f=>(P f).isSome=true
 |.clo _ _ _ _=>True
 |_=>False
theorem bf9{P:j9}{G:Gs}{n:Nat}{ta:Sto→(List D→Sto→Prop)→Prop}{st:Sto}{Q:DK}{x:D}(h:Cok P x)(q:ta st fun ds st1=>P8 P G n x ds st1 Q):U1 (Zg P G n) ta st Q x:=by
 cases x<;>first|exact h.elim|exact⟨h,q⟩|exact q
section
variable {T:Type} (subs:T→List T)
inductive Ord:List T→List T→Prop where
 |nil:Ord [] []
 |cons {S l:List T} {c:T}:Ord (S++subs c) l→Ord (S++[c]) (c::l)
inductive Rn:List T→List T→T→Prop where
 |done (t:T):Rn [] [t] t
 |step {h r:T} {l S:List T}:Rn l (S++[h]) r→Rn (h::l) (S++subs h) r
theorem cs4{S l:List T}(h:Ord subs S l):∀{l' S0:List T}{r:T},Rn subs l' (S0++S) r→Rn subs (l.reverse++l') S0 r:=by
 induction h with
 |nil=>intro l' S0 r q;simpa using q
 |@cons S l c _ ih=>
  intro l' S0 r q;rw[List.reverse_cons,List.append_assoc];refine ih ?_;rw[←List.append_assoc];refine .step ?_;rw[List.append_assoc];exact q
end
theorem none_of{st st':Sto}{p:Addr}(K:Kp [] st st')(h:st' p=none):st p=none:=by
 cases z:st p with
 |none=>rfl
 |some u=>rw[K.at' z (by simp)]at h;cases h
theorem az2{W:Type}{J:W→Sto→Prop}{L:List Addr}{st st':Sto}{p:Addr}{s:W}(K:Kp L st st')(hL:∀a∈L,∃o,st a=some o)(h:st' p=none)(Js:J s st')(hJL:∀{s st},J s st→∀a∈L,∃o,st a=some o):st p=none:=by
 cases z:st p with
 |none=>rfl
 |some u=>
  by_cases hp:p∈L
  ·obtain⟨o,e⟩:=hJL Js p hp;rw[h]at e;cases e
  ·rw[K.at' z hp]at h;cases h
noncomputable def a41(st st':Sto)(d:D)(xs:List D):Prop:=d=.tup xs∨∃a,d=.ref a∧st a=none∧st' a=some (.lst xs)
theorem af5{T:Type}(f:T→Nat):∀{l:List T}{c:T},c∈l→f c≤(l.map f).sum
 |a::l,c,h=>by
  rw[List.map_cons,List.sum_cons]
  rcases List.mem_cons.mp h with rfl|h
  ·omega
  ·have:=af5 f h;omega
theorem bi2{T:Type}{size:T→Nat}{subs:T→List T}(hsz:∀t,size t=1+((subs t).map size).sum):∀l:List T,l.length≤(l.map size).sum
 |[]=>by simp
 |a::l=>by have:=hsz a;have:=bi2 hsz l;simp only[List.map_cons,List.sum_cons,List.length_cons];omega
structure PM(P:j9)(G:Gs):Prop where
 mop:P "made_of_parts"=some ac2
 few:P "order_of_few"=some ac6
 taken:P "taken"=some ah0
 cst:G.cst "FEW"=some 2000
section
variable {P:j9} {G:Gs} (T0:PM P G) {n:Nat} {st:Sto} {Q:DK} {T:Type} {enc:T→D} {subs:T→List T} {size:T→Nat} {Good:T→Prop}
include T0
theorem ck4{W:Type}{J:W→Sto→Prop}{le:W→W→Prop}{L:List Addr}(lr:∀s,le s s)(lt:∀{s t u},le s t→le t u→le s u)(hJ:∀{s st st' dn},J s st→dn∉L→Kp [dn] st st'→J s st'){s0:W}{μ:W→Nat}{B:Nat}(j0:J s0 st)(hJL:∀{s st},J s st→∀a∈L,∃o,st a=some o)(hsz:∀t,size t=1+((subs t).map size).sum)(hg:∀t,Good t→∀c∈subs t,Good c){F:D}(hF:Cok P F)(t:T)(hs:size t≤2000)(hB:μ s0+1≤B)(hgt:Good t)
  (hp:∀c st' Q s,Good c→μ s+1≤B→J s st'→Kp L st st'→(∀d s' st2,a41 st' st2 d ((subs c).map enc)→le s s'→μ s'≤μ s→J s' st2→Kp L st' st2→Q d st2)→P8 P G n F [enc c] st' Q)
  (q:∀a st' l s,st a=none→Ord subs [t] l→(∀c∈l,Good c)→st' a=some (.lst (l.map fun c=>.tup [enc c,.int (subs c).length]))→le s0 s→μ s≤μ s0→J s st'→Kp L st st'→l.length≤size t→Q (.ref a) st'):sem P G (n+1) "order_of_few" [enc t,F] st Q:=by
 have inL:∀{p:Addr},st p=none→p∉L:=fun{p}hp z=>by
  obtain⟨o,e⟩:=hJL j0 p z;rw[hp]at e;cases e
 refine j6 T0.few rfl [some (enc t),some F,none,none,none,none] rfl ?_;unfold ac6;walk_at "es";intro o ho;walk_at "es";intro h hh;have hoh:o≠h:=m7 d8 hh;have hsh:st h=none:=by
  cases z:st h with
  |none=>rfl
  |some u=>rw[i7 z ho]at hh;cases hh
 have hoL:=inL ho;have hhL:=inL hsh;walk_at "es";refine Q8 (fun m env st'=>∃(sw:W)(dn S:List T)(x y:Option D),env=[some (enc t),some F,some (.ref o),some (.ref h),x,y]∧st' o=some (.lst (dn.map fun c=>.tup [enc c,.int (subs c).length]))∧st' h=some (.lst (S.map enc))∧(∀l,Ord subs S l→Ord subs [t] (dn++l))∧(∀c∈dn,Good c)∧(∀c∈S,Good c)∧(S.map size).sum=m∧dn.length+m=size t∧le s0 sw∧μ sw≤μ s0∧J sw st'∧Kp L st st') ?_ _ _ _ ⟨s0,[],[t],none,none,rfl,i7 d8 hh,d8,fun l z=>z,by simp,by simpa using hgt,rfl,by simp,lr s0,Nat.le_refl _,hJ (hJ j0 hoL (Kp.refl.new ho)) hhL (Kp.refl.new hh),(Kp.refl.new ho).new hh⟩;rintro m env st' _ ⟨sw,dn,S,x,y,rfl,h1,h2,h3,gd,gS,h4,h5,hle,hμ,Js,K⟩ ih;rw[R5];walk_at "ek";rw[u1 (.inl h2)];walk_at "ek"
 rcases aw6 S with rfl|⟨S,c,rfl⟩
 ·rw[if_neg (by simp)];walk_at "es";refine d9 (q o st' dn sw ho ?_ gd h1 hle hμ Js K (by omega));have:=h3 [] .nil;simpa using this
 ·rw[if_pos (by simp only[List.map_append,List.map_cons,List.map_nil,List.length_append,List.length_map,List.length_cons,List.length_nil];omega)];rw[List.map_append,List.map_cons,List.map_nil]at h2;simp only[List.map_append,List.map_cons,List.map_nil,List.sum_append,List.sum_cons,List.sum_nil]at h4;have sc:=hsz c;have gc:Good c:=gS c (by simp);have hlen:∀l:List T,l.length≤(l.map size).sum:=fun l=>by
   induction l with
   |nil=>simp
   |cons a l ih=>have:=hsz a;simp only[List.map_cons,List.sum_cons,List.length_cons];omega
  have hl3:=hlen S;have hl4:=hlen (subs c);walk_at "es";rw[a66 h2];have h1':d7 st' h (.lst (S.map enc)) o=some (.lst (dn.map fun c=>.tup [enc c,.int (subs c).length])):=j3 h1 hoh;walk_at "es";refine bf9 hF ?_;walk_at "ek";have K1:Kp L st (d7 st' h (.lst (S.map enc))):=fun b u nb e=>j3 (K b u nb e) (fun z=>by rw[z,hsh]at e;cases e);have J1:J sw (d7 st' h (.lst (S.map enc))):=hJ Js hhL (Kp.refl.put (by simp));refine hp c _ _ sw gc (by omega) J1 K1 fun d sw2 st2 hd hle2 hμ2 Js2 K2=>?_;have o2:=K2.at' h1' hoL;have s2:=K2.at' (d8 (st:=st') (a:=h) (o:=.lst (S.map enc))) hhL;walk_at "es";rw[z6 (.inl o2)];have hlenR:∀{R:DK},R (.int (subs c).length) st2→Q5 d st2 R:=fun{R}z=>by
   rcases hd with rfl|⟨a,rfl,_,ha⟩
   ·show R _ st2;simpa using z
   ·rw[u1 (.inl ha)];simpa using z
  refine⟨trivial,hlenR ?_⟩;rw[J5 o2];refine⟨E6 (by simp only[List.length_map];omega),?_⟩;walk_at "es";have s3:d7 st2 o (.lst ((dn.map fun c=>D.tup [enc c,.int (subs c).length])++[.tup [enc c,.int (subs c).length]])) h=some (.lst (S.map enc)):=j3 s2 hoh.symm;rw[z6 (.inl s3)];have hext:∀{R:DK},R .non (d7 (d7 st2 o (.lst ((dn.map fun c=>D.tup [enc c,.int (subs c).length])++[.tup [enc c,.int (subs c).length]]))) h (.lst (S.map enc++(subs c).map enc)))→V3 (.ref h) d (d7 st2 o (.lst ((dn.map fun c=>D.tup [enc c,.int (subs c).length])++[.tup [enc c,.int (subs c).length]]))) R:=fun{R}z=>by
   rcases hd with rfl|⟨a,rfl,han,ha⟩
   ·rw[cz7 s3];exact⟨A8 (by simp only[List.length_map];omega),z⟩
   ·have nao:a≠o:=fun z=>by rw[z,h1']at han;cases han
    rw[P1 s3 (j3 ha nao)];exact⟨A8 (by simp only[List.length_map];omega),z⟩
  refine⟨trivial,hext ?_⟩;walk_at "es";rw[u1 (.inl (j3 d8 hoh))];walk_at "ek";refine⟨2000,T0.cst,?_⟩;walk_at "ek";rw[if_neg (by simp only[List.length_append,List.length_map,List.length_cons,List.length_nil];omega)];walk_at "ek";refine ih ((S++subs c).map size).sum _ _ (by simp only[List.map_append,List.sum_append];omega) ⟨sw2,dn++[c],S++subs c,_,_,rfl,?_,?_,?_,?_,?_,rfl,?_,lt hle hle2,by omega,hJ (hJ Js2 hoL (Kp.refl.put (by simp))) hhL (Kp.refl.put (by simp)),?_⟩
  ·rw[List.map_append];exact j3 d8 hoh
  ·rw[List.map_append];exact d8
  ·intro l hl;have:=h3 (c::l) (.cons hl);simpa using this
  ·intro z hz
   rcases List.mem_append.mp hz with hz|hz
   ·exact gd z hz
   ·simp at hz;rw[hz];exact gc
  ·intro z hz
   rcases List.mem_append.mp hz with hz|hz
   ·exact gS z (by simp[hz])
   ·exact hg c gc z hz
  ·simp only[List.length_append,List.length_cons,List.length_nil,List.map_append,List.sum_append];omega
  ·intro b u nb e;have eh:b≠h:=fun z=>by rw[z,hsh]at e;cases e
   have eo:b≠o:=fun z=>by rw[z,ho]at e;cases e
   exact j3 (j3 (K2.at' (K1 b u nb e) nb) eo) eh
theorem b65{dn:Addr}{ds xs:List D}{m:Nat}(hm:xs.length=m)(hd:st dn=some (.lst (ds++xs)))(hb:xs.length≤2000)
  (q:∀a st',st a=none→a≠dn→st' a=some (.lst xs)→st' dn=some (.lst ds)→Kp [dn] st st'→Q (.ref a) st'):sem P G (n+1) "taken" [.ref dn,.int m] st Q:=by
 subst hm;refine j6 T0.taken rfl [some (.ref dn),some (.int xs.length),none,none] rfl ?_;unfold ah0;walk_at "es";intro o ho;have hod:dn≠o:=m7 hd ho;walk_at "es";refine⟨⟨by omega,by omega⟩,?_⟩;refine v5 (fun l env st'=>∃(pre suf:List D)(x:Option D),xs=pre++suf∧l.length=pre.length∧(∀d∈l,∃i,d=.int i)∧env=[some (.ref dn),some (.int xs.length),some (.ref o),x]∧st' dn=some (.lst (ds++pre))∧st' o=some (.lst suf.reverse)∧Kp [dn] st st') ?_ ?_ _ _ _ ⟨xs,[],none,by simp,by simp[p8],fun d hd=>by simp[p8]at hd;obtain⟨i,_,rfl⟩:=hd;exact⟨_,rfl⟩,rfl,by rw[i7 hd ho],d8,Kp.refl.new ho⟩
 ·rintro env st' ⟨pre,suf,x,e,hl,_,rfl,h1,h2,K⟩;have:pre=[]:=by simpa using hl.symm
  subst this;simp only[List.nil_append]at e;subst e;refine⟨trivial,?_⟩;walk_at "es";rw[cy6 h2];walk_at "es";refine d9 (q o _ ho (fun z=>hod z.symm) ?_ (j3 (by simpa using h1) hod) fun b u nb e=>j3 (K b u nb e) (fun z=>by rw[z,ho]at e;cases e));rw[d8,List.reverse_reverse]
 ·rintro d0 dl env st' ih ⟨pre,suf,x,e,hl,hi,rfl,h1,h2,K⟩;obtain⟨i,rfl⟩:=hi d0 (by simp)
  rcases aw6 pre with rfl|⟨pre,c,rfl⟩
  ·simp at hl
  refine⟨trivial,?_⟩;walk_at "ek";walk_at "es";rw[z6 (.inl h2),a66 (by rw[h1,List.append_assoc]:st' dn=some (.lst ((ds++pre)++[c])))];have h2':d7 st' dn (.lst (ds++pre)) o=some (.lst suf.reverse):=j3 h2 hod.symm;rw[J5 h2'];have hle:suf.length≤xs.length:=by rw[e];simp;omega
  refine⟨trivial,E6 (by rw[List.length_reverse];omega),?_⟩;walk_at "ek";refine ih _ _ ⟨pre,c::suf,_,by rw[e];simp,by simp at hl ⊢;omega,fun d hd=>hi d (by simp[hd]),rfl,j3 d8 hod,by rw[d8,List.reverse_cons],fun b u nb e=>j3 (j3 (K b u nb e) (fun z=>nb (by simp[z]))) (fun z=>by rw[z,ho]at e;cases e)⟩
theorem bl5{W:Type}{J:W→Sto→Prop}{le:W→W→Prop}{L:List Addr}(lr:∀s,le s s)(lt:∀{s t u},le s t→le t u→le s u)(hJ:∀{s st st' dn},J s st→dn∉L→Kp [dn] st st'→J s st')(hsz:∀t,size t=1+((subs t).map size).sum)(hg:∀t,Good t→∀c∈subs t,Good c){F M:D}(hF:Cok P F)(hM:Cok P M)(t:T)(hs:size t≤2000)(hgt:Good t){V:Addr→W→T→D→Sto→Prop}(hV:∀{dn s s' k d st st'},V dn s k d st→le s s'→Kp (dn::L) st st'→V dn s' k d st')
  {s0:W} {μ:W→Nat} {B:Nat} (hB:μ s0+size t≤B) (j0:J s0 st) (hJL:∀{s st},J s st→∀a∈L,∃o,st a=some o)
  (hp:∀c st' Q s,Good c→μ s+1≤B→J s st'→Kp L st st'→(∀d s' st2,a41 st' st2 d ((subs c).map enc)→le s s'→μ s'≤μ s→J s' st2→Kp L st' st2→Q d st2)→P8 P G n F [enc c] st' Q)
  (hm:∀c dn la st' Q ds s,Good c→μ s+1≤B→J s st'→Kp L st st'→st dn=none→la∉L→la≠dn→st la=none→st' la=some (.lst ds)→ds.length=(subs c).length→(∀(i:Nat)c' d,(subs c)[i]?=some c'→ds[i]?=some d→V dn s c' d st')→(∃xs,st' dn=some (.lst xs))→(∀d s' st2,V dn s' c d st2→le s s'→μ s'≤μ s+1→J s' st2→Kp L st' st2→Q d st2)→P8 P G (n+1) M [enc c,.ref la] st' Q)
  (q:∀dn d s' st',st dn=none→V dn s' t d st'→le s0 s'→μ s'≤B→J s' st'→Kp L st st'→Q d st'):sem P G (n+2) "made_of_parts" [enc t,F,M] st Q:=by
 have hL:=hJL j0;refine j6 T0.mop rfl [some (enc t),some F,some M,none,none,none,none] rfl ?_;unfold ac2;walk_at "es";refine⟨by rw[T0.few];rfl,ck4 T0 (Good:=fun c=>Good c∧size c≤2000) (J:=J) (s0:=s0) lr lt hJ (μ:=μ) (B:=B) j0 hJL hsz (fun c gc c' hc'=>⟨hg c gc.1 c' hc',Nat.le_trans (af5 size hc') (by have:=hsz c;have:=gc.2;omega)⟩) hF t hs (by have:=hsz t;omega) ⟨hgt,hs⟩ (fun c st' Q s gc=>hp c st' Q s gc.1) fun oa st1 l s1 hoa0 hord gl hoa hle1 hμ1 Js1 K1 hl=>?_⟩;walk_at "es";refine .inr ⟨nofun,?_⟩;walk_at "ek";walk_at "es";intro dn hdn;have hod:oa≠dn:=m7 hoa hdn;have hdn0:st dn=none:=az2 K1 hL hdn Js1 hJL;have hdL:dn∉L:=fun z=>by obtain⟨o,e⟩:=hL dn z;rw[hdn0]at e;cases e
 have hoL:oa∉L:=fun z=>by obtain⟨o,e⟩:=hL oa z;rw[hoa0]at e;cases e
 walk_at "es";refine⟨_,.inl (i7 hoa hdn),?_⟩;rw[←List.map_reverse];have K1':Kp L st (d7 st1 dn (.lst [])):=K1.new hdn;have J1:J s1 (d7 st1 dn (.lst [])):=hJ Js1 hdL (Kp.refl.new hdn);have kdn:∀(u:Ob)(st2:Sto),Kp L st st2→Kp L st (d7 st2 dn u):=fun u st2 K b o nb e=>j3 (K b o nb e) (fun z=>by rw[z,hdn0]at e;cases e);refine v5 (fun ll env st'=>∃(s:W)(j1 S:List T)(ds:List D)(x5 x6:Option D),ll=j1.map (fun c=>D.tup [enc c,.int (subs c).length])∧(∀c∈j1,Good c∧size c≤2000)∧Rn subs j1 S t∧env=[some (enc t),some F,some M,some (.ref oa),some (.ref dn),x5,x6]∧st' dn=some (.lst ds)∧ds.length=S.length∧S.length+j1.length≤100000∧(∀(i:Nat)c d,S[i]?=some c→ds[i]?=some d→V dn s c d st')∧st' oa=some (.lst (l.map fun c=>.tup [enc c,.int (subs c).length]))∧J s st'∧le s0 s∧μ s+j1.length≤B∧Kp L st st') ?_ ?_ _ _ _ ⟨s1,l.reverse,[],[],none,none,rfl,fun c hc=>gl c (by simpa using hc),by simpa using cs4 subs hord (.done t) (S0:=[]) ,rfl,d8,rfl,by simp;omega,by simp,i7 hoa hdn,J1,hle1,by rw[List.length_reverse];omega,K1'⟩
 ·rintro env st' ⟨s,j1,S,ds,x5,x6,el,_,hr,rfl,hd,hl',_,hv,hoa',Js,hle,hμ,K⟩;have es:j1=[]:=by simpa using el.symm
  subst es;refine⟨.inl hoa',?_⟩;cases hr;obtain⟨d,rfl⟩:∃d,ds=[d]:=by match ds,hl' with|[d],_=>exact⟨d,rfl⟩
  walk_at "es";rw[D4 (.inl hd)];exact⟨d,rfl,d9 (q dn d s st' hdn0 (hv 0 t d rfl rfl) hle (by omega) Js K)⟩
 ·rintro d0 dl env st' ih ⟨s,j1,S,ds,x5,x6,el,hin,hr,rfl,hd,hl',hb,hv,hoa',Js,hle,hμ,K⟩;refine⟨.inl hoa',?_⟩;cases j1 with
  |nil=>simp at el
  |cons h j1=>
   simp only[List.map_cons,List.cons.injEq]at el;obtain⟨rfl,rfl⟩:=el;simp only[List.length_cons]at hb hμ;have gh:Good h:=(hin h (by simp)).1;cases hr with
   |@step _ _ _ S hr=>
   simp only[List.length_append]at hl' hb;obtain⟨ds,xs,rfl,hlS,hlx⟩:∃ds' xs,ds=ds'++xs∧ds'.length=S.length∧xs.length=(subs h).length:=⟨ds.take S.length,ds.drop S.length,(List.take_append_drop _ _).symm,by rw[List.length_take];omega,by rw[List.length_drop];omega⟩;have hss:(subs h).length≤2000:=by
    have h1:=(hin h (by simp)).2;have h2:=hsz h;have h3:=bi2 hsz (subs h);omega
   have vx:∀(i:Nat)c' d,(subs h)[i]?=some c'→xs[i]?=some d→V dn s c' d st':=fun i c' d e1 e2=>hv (S.length+i) c' d (by rw[List.getElem?_append_right (by omega)];rw[show S.length+i-S.length=i by omega];exact e1) (by rw[List.getElem?_append_right (by omega),hlS];rw[show S.length+i-S.length=i by omega];exact e2);have vS:∀(i:Nat)c' d,S[i]?=some c'→ds[i]?=some d→V dn s c' d st':=fun i c' d e1 e2=>hv i c' d (by rw[List.getElem?_append_left (List.getElem?_eq_some_iff.mp e1).1];exact e1) (by rw[List.getElem?_append_left (List.getElem?_eq_some_iff.mp e2).1];exact e2);have main:∀la st2,la∉L→la≠dn→st la=none→st2 la=some (.lst xs)→st2 dn=some (.lst ds)→Kp [dn] st' st2→P8 P G (n+1) M [enc h,.ref la] st2 fun d st3=>aa2 (.ref dn) d st3 fun _ st4=>u5 (fun st'=>rdS st' oa (l.map fun c=>.tup [enc c,.int (subs c).length])) (.tup [5,6]) (m9 (Zg P G (n+1)) (.cons (.ex (.app (.v 4) (.callv 2 (.cons (.v 5) (.cons (.ite (.cmp .Gt (.v 6) (.int 0)) (.call "taken" (.cons (.v 4) (.cons (.v 6) .nil))) (.lst .nil)) .nil))))) .nil)) ⟨m9 (Zg P G (n+1)) (.cons (.ret (.ix (.v 4) (.int 0))) .nil) (o6 Q),(o6 Q).rt,(o6 Q).bk,(o6 Q).ct⟩ (j1.map fun c=>D.tup [enc c,.int (subs c).length]) [some (enc t),some F,some M,some (.ref oa),some (.ref dn),some (enc h),some (.int (subs h).length)] st4:=fun la st2 hla hne hl0 hl2 hd2 K2=>by
    have KK:Kp L st st2:=fun b u nb e=>K2.at' (K b u nb e) (by simp;exact fun z=>by rw[z,hdn0]at e;cases e);refine hm h dn la st2 _ xs s gh (by omega) (hJ Js hdL K2) KK hdn0 hla hne hl0 hl2 hlx (fun i c' d e1 e2=>hV (vx i c' d e1 e2) (lr s) (K2.more (by simp))) ⟨_,hd2⟩ fun d s' st3 vd hle' hμ' Js' K3=>?_;have hd3:=K3.at' hd2 hdL;rw[J5 hd3];refine⟨E6 (by omega),?_⟩;refine ih _ _ ⟨s',j1,S++[h],ds++[d],_,_,rfl,fun c hc=>hin c (by simp[hc]),hr,rfl,d8,by simp[hlS],by simp;omega,fun i c' d' e1 e2=>?_,j3 (K3.at' (K2.at' hoa' (by simpa using hod)) hoL) hod,hJ Js' hdL (Kp.refl.put (by simp)),lt hle hle',by omega,kdn _ _ (KK.trans K3)⟩
    by_cases hi:i<S.length
    ·rw[List.getElem?_append_left hi]at e1;rw[List.getElem?_append_left (by omega)]at e2;exact hV (hV (hV (vS i c' d' e1 e2) (lr s) (K2.more (by simp))) hle' (K3.more (by intro x hx;simp[hx]))) (lr s') (Kp.refl.put (by simp))
    ·rw[List.getElem?_append_right (by omega)]at e1;rw[List.getElem?_append_right (by omega)]at e2;have hi0:i-S.length=0:=by
      have:=(List.getElem?_eq_some_iff.mp e1).1;simp at this;omega
     rw[hi0]at e1;rw[show i-ds.length=0 by omega]at e2;cases e1;cases e2;exact hV vd (lr s') (Kp.refl.put (by simp))
   have inL:∀{p:Addr},st' p=none→p∉L:=fun{p}hp z=>by
    obtain⟨o,e⟩:=hJL Js p z;rw[hp]at e;cases e
   walk_at "ek";walk_at "es";rw[z6 (.inl hd)];refine⟨trivial,bf9 hM ?_⟩;walk_at "ek"
   by_cases h0:(subs h).length=0
   ·rw[if_neg (by omega)];intro la hla;have exs:xs=[]:=List.eq_nil_of_length_eq_zero (by omega);subst exs;exact main la _ (inL hla) (m7 hd hla).symm (az2 K hL hla Js hJL) d8 (i7 (by simpa using hd) hla) (Kp.refl.new hla)
   ·rw[if_pos (by omega)];refine⟨by rw[T0.taken];rfl,?_⟩;exact b65 T0 hlx hd (by omega) fun la st2 hla hne hl2 hd2 K2=>main la st2 (inL hla) hne (az2 K hL hla Js hJL) hl2 hd2 K2
theorem cu1(hsz:∀t,size t=1+((subs t).map size).sum)(hg:∀t,Good t→∀c∈subs t,Good c){F M:D}(hF:Cok P F)(hM:Cok P M)(t:T)(hs:size t≤2000)(hgt:Good t){V:Addr→T→D→Sto→Prop}(hVk:∀{dn k d st st'},V dn k d st→Kp [dn] st st'→V dn k d st')
  (hp:∀c st' Q,Good c→Kp [] st st'→(∀d st2,a41 st' st2 d ((subs c).map enc)→Kp [] st' st2→Q d st2)→P8 P G n F [enc c] st' Q)
  (hm:∀c dn la st' Q ds,Good c→st dn=none→Kp [] st st'→st la=none→la≠dn→st' la=some (.lst ds)→ds.length=(subs c).length→(∀(i:Nat)c' d,(subs c)[i]?=some c'→ds[i]?=some d→V dn c' d st')→(∃xs,st' dn=some (.lst xs))→(∀d st2,V dn c d st2→Kp [] st' st2→Q d st2)→P8 P G (n+1) M [enc c,.ref la] st' Q)
  (q:∀dn d st',st dn=none→V dn t d st'→Kp [] st st'→Q d st'):sem P G (n+2) "made_of_parts" [enc t,F,M] st Q:=
 bl5 T0 (W:=Unit) (J:=fun _ _=>True) (le:=fun _ _=>True) (L:=[]) (fun _=>trivial) (fun _ _=>trivial) (fun _ _ _=>trivial) hsz hg hF hM t hs hgt (V:=fun dn _=>V dn) (fun v _ K=>hVk v K) (s0:=()) (μ:=fun _=>0) (B:=4000) (by omega) trivial (fun _=>by simp)
  (fun c st' Q _ gc _ _ K k=>hp c st' Q gc K fun d st2 h K2=>k d () st2 h trivial (Nat.zero_le _) trivial K2)
  (fun c dn la st' Q ds _ gc _ _ K h0 _ hne hl h1 h2 hv hx k=>hm c dn la st' Q ds gc h0 K hl hne h1 h2 hv hx fun d st2 v K2=>k d () st2 v trivial (Nat.zero_le _) trivial K2)
  fun dn d _ st' h0 v _ _ _ K=>q dn d st' h0 v K
end
noncomputable def o7:Nat→List D→List (List D)
 |0,_=>[[]]
 |n+1,cs=>(o7 n cs).flatMap fun r=>cs.map fun c=>r++[c]
noncomputable def Kd.things:Kd→List D
 |.non=>[]
 |.one=>[.tup []]
 |.eith a b=>a.things.map (fun t=>.tup [.str "l",t])++b.things.map (fun t=>.tup [.str "r",t])
 |.both a b=>a.things.flatMap fun x=>b.things.map fun y=>.tup [.str "p",x,y]
 |.way a b=>(o7 a.things.length b.things).map fun r=>.tup [.str "w",.tup r]
theorem N7{α β:Type}(f:α→List β)(k:Nat)(h:∀x,(f x).length=k):∀l:List α,(l.flatMap f).length=l.length*k
 |[]=>by simp
 |x::l=>by rw[List.flatMap_cons,List.length_append,h x,N7 f k h l,List.length_cons,Nat.add_mul,Nat.one_mul,Nat.add_comm]
theorem R3:∀(n:Nat)(cs:List D),(o7 n cs).length=cs.length^n
 |0,_=>rfl
 |n+1,cs=>by rw[o7,N7 _ cs.length (fun r=>by simp),R3 n cs,Nat.pow_succ]
theorem t4:∀k:Kd,k.things.length=k.cnt
 |.non=>rfl
 |.one=>rfl
 |.eith a b=>by simp only[Kd.things,List.length_append,List.length_map,t4 a,t4 b,Kd.cnt]
 |.both a b=>by rw[Kd.things,N7 _ b.things.length (fun x=>by simp),t4 a,t4 b,Kd.cnt]
 |.way a b=>by rw[Kd.things,List.length_map,R3,t4 a,t4 b,Kd.cnt]
noncomputable def Kd.subs:Kd→List Kd
 |.non=>[]|.one=>[]|.eith a b=>[a,b]|.both a b=>[a,b]|.way a b=>[a,b]
noncomputable def Kd.w:Kd→String
 |.non=>"none"|.one=>"one"|.eith _ _=>"either"|.both _ _=>"both"|.way _ _=>"way"
theorem Kd.d_w(k:Kd):k.d=.tup (.str k.w::k.subs.map Kd.d):=by cases k<;>rfl
theorem cz8{k:Kd}{st:Sto}{Q:DK}:slR k.d (some 1) none st Q=Q (.tup (k.subs.map Kd.d)) st:=by
 rw[Kd.d_w k,aa3];have e:(1:Int)=((1:Nat):Int):=rfl;rw[e,b61,a50];refine propext ⟨fun h=>h.2,fun h=>⟨fun z=>?_,h⟩⟩;rw[List.length_cons]at z;omega
noncomputable def Kd.pre:Kd→List Kd
 |.non=>[.non]|.one=>[.one]
 |.eith a b=>.eith a b::(b.pre++a.pre)
 |.both a b=>.both a b::(b.pre++a.pre)
 |.way a b=>.way a b::(b.pre++a.pre)
noncomputable def Kd.size:Kd→Nat
 |.non=>1|.one=>1
 |.eith a b=>1+a.size+b.size
 |.both a b=>1+a.size+b.size
 |.way a b=>1+a.size+b.size
theorem be7(k:Kd):k.pre=k::(k.subs.reverse.flatMap Kd.pre):=by cases k<;>simp[Kd.pre,Kd.subs]
theorem b04(k:Kd):k.size=1+(k.subs.map Kd.size).sum:=by cases k<;>simp[Kd.size,Kd.subs]<;>omega
theorem bb4(k:Kd):k.size+1≤2^(k.nest+1):=by
 have two:∀a b:Kd,a.size+1≤2^(a.nest+1)→b.size+1≤2^(b.nest+1)→1+a.size+b.size+1≤2^(1+max a.nest b.nest+1):=fun a b ha hb=>by
  have e1:2^(a.nest+1)≤2^(max a.nest b.nest+1):=Nat.pow_le_pow_right (by decide) (by omega);have e2:2^(b.nest+1)≤2^(max a.nest b.nest+1):=Nat.pow_le_pow_right (by decide) (by omega);have e3:2^(1+max a.nest b.nest+1)=2*2^(max a.nest b.nest+1):=by rw[show 1+max a.nest b.nest+1=(max a.nest b.nest+1)+1 by omega,Nat.pow_succ,Nat.mul_comm]
  omega
 induction k with
 |non=>decide
 |one=>decide
 |eith a b iha ihb=>exact two a b iha ihb
 |both a b iha ihb=>exact two a b iha ihb
 |way a b iha ihb=>exact two a b iha ihb
theorem ae3(k:Kd):k∈k.pre:=by cases k<;>simp[Kd.pre]
theorem ax3:∀{k h c:Kd},h∈k.pre→c∈h.pre→c∈k.pre:=by
 intro k
 induction k with
 |non=>intro h c hh hc;simp[Kd.pre]at hh;subst hh;exact hc
 |one=>intro h c hh hc;simp[Kd.pre]at hh;subst hh;exact hc
 |eith a b iha ihb|both a b iha ihb|way a b iha ihb=>
  intro h c hh hc;simp only[Kd.pre,List.mem_cons,List.mem_append]at hh
  rcases hh with rfl|hh|hh
  ·exact hc
  ·simp only[Kd.pre,List.mem_cons,List.mem_append];exact .inr (.inl (ihb hh hc))
  ·simp only[Kd.pre,List.mem_cons,List.mem_append];exact .inr (.inr (iha hh hc))
theorem ck8{k h c:Kd}(hh:h∈k.pre)(hc:c∈h.subs):c∈k.pre:=by
 refine ax3 hh ?_;rw[be7 h];exact List.mem_cons_of_mem _ (List.mem_flatMap.mpr ⟨c,by simpa using hc,ae3 c⟩)
structure PT0(P:j9)(G:Gs):Prop extends PM P G where
 bu:P "built_up"=some ad3
structure PT1(P:j9)(G:Gs):Prop extends PT0 P G where
 things:P "things"=some ae1
 joined:P "joined_things"=some ac3
 pairs:P "pairs"=some af7
 rows:P "rows_over"=some ac9
section
variable {P:j9} {G:Gs} (T:PT0 P G) {n:Nat} {st:Sto} {Q:DK}
include T
theorem bf5{V:Addr→Kd→D→Sto→Prop}{J:Str}(hVk:∀{dn k d st st'},V dn k d st→Kp [dn] st st'→V dn k d st')(k:Kd)(hs:k.size≤2000)(hn:1≤n){pd:Addr}{v0 v1:D}(hpd:st pd=some (.dct [(.inr "none",v0),(.inr "one",v1)]))(hJ0:(P J).isSome=true)
  (h0:∀dn st',st dn=none→Kp [] st st'→V dn .non v0 st') (h1:∀dn st',st dn=none→Kp [] st st'→V dn .one v1 st')
  (hJ:∀(h a b:Kd)(dn:Addr)(d1 d2:D)(st':Sto)(Q:DK),h∈k.pre→Kp [] st st'→h.subs=[a,b]→V dn a d1 st'→V dn b d2 st'→(∃ds,st' dn=some (.lst ds))→(∀d st2,V dn h d st2→Kp [] st' st2→Q d st2)→sem P G n J [.str h.w,d1,d2] st' Q)
  (q:∀dn d st',st dn=none→V dn k d st'→Kp [] st st'→Q d st'):sem P G (n+3) "built_up" [k.d,.ref pd,.fn J] st Q:=by
 obtain⟨n,rfl⟩:∃m,n=m+1:=⟨n-1,by omega⟩;refine j6 T.bu rfl [some k.d,some (.ref pd),some (.fn J),none,none,none,none] rfl ?_;unfold ad3;walk_at "es";walk_at "es";refine⟨by rw[T.mop];rfl,cu1 T.toPM (n:=n+1) (enc:=Kd.d) (subs:=Kd.subs) (size:=Kd.size) (Good:=fun h=>h∈k.pre) b04 (V:=V) (fun h hh c hc=>ck8 hh hc) (show Cok P (.clo _ _ _ _) from trivial) (show Cok P (.clo _ _ _ _) from trivial) k hs (ae3 k) hVk (fun c st' Q hc K q=>?_) (fun c dn la st' Q ds hc hdn K hla hne hl hlen hv hxs q=>?_) fun dn d st' hdn v K=>d9 (q dn d st' hdn v K)⟩
 ·refine a01 rfl [some c.d] rfl ?_;walk_at "es";rw[cz8];exact d9 (q _ _ (.inl rfl) Kp.refl)
 ·refine a01 rfl [some c.d,some (.ref la),some (.ref pd),some (.fn J)] rfl ?_;have hpd':=K.at' hpd (by simp);walk_at "es";rw[Kd.d_w c];walk_at "ek";rw[c53 hpd'];have lk:B0 [((Sum.inr "none":Key),v0),(.inr "one",v1)] (.inr c.w)=if c=.non then some v0 else if c=.one then some v1 else none:=by
   cases c<;>simp[B0,Kd.w,v3]
  rw[lk];walk_at "ek";have leaf:∀v,(if c=Kd.non then some v0 else if c=.one then some v1 else none)=some v→V dn c v st'→if(if c=Kd.non then some v0 else if c=Kd.one then some v1 else none).isSome=true then ixR (D.ref pd) (D.str (Str.ofString c.w)) st' (o6 Q).rt else(P J).isSome=true∧ixR (D.ref la) (D.int 0) st' fun d st1=>ixR (D.ref la) (D.int 1) st1 fun d_1 st1=>sem P G (n+1) J [D.str (Str.ofString c.w),d,d_1] st1 (o6 Q).rt:=fun v hv1 hv2=>by
   rw[hv1];simp only[Option.isSome_some,if_true];rw[c54 hpd' (lk.trans hv1)];exact d9 (q v st' hv2 Kp.refl)
  have node:∀a b:Kd,c.subs=[a,b]→(if c=Kd.non then some v0 else if c=.one then some v1 else none)=none→if(if c=Kd.non then some v0 else if c=Kd.one then some v1 else none).isSome=true then ixR (D.ref pd) (D.str (Str.ofString c.w)) st' (o6 Q).rt else(P J).isSome=true∧ixR (D.ref la) (D.int 0) st' fun d st1=>ixR (D.ref la) (D.int 1) st1 fun d_1 st1=>sem P G (n+1) J [D.str (Str.ofString c.w),d,d_1] st1 (o6 Q).rt:=fun a b hsub hno=>by
   rw[hno];simp only[Option.isSome_none,Bool.false_eq_true,if_false];rw[hsub]at hlen hv;obtain⟨d1,d2,rfl⟩:∃d1 d2,ds=[d1,d2]:=by match ds,hlen with|[d1,d2],_=>exact⟨d1,d2,rfl⟩
   refine⟨hJ0,?_⟩;rw[D4 (.inl hl)];refine⟨d1,rfl,?_⟩;rw[D4 (.inl hl)];exact⟨d2,rfl,hJ c a b dn d1 d2 st' _ hc K hsub (hv 0 a d1 rfl rfl) (hv 1 b d2 rfl rfl) hxs fun d st2 v K2=>d9 (q d st2 v K2)⟩
  cases c with
  |non=>exact leaf v0 (by simp) (h0 dn st' hdn K)
  |one=>exact leaf v1 (by simp) (h1 dn st' hdn K)
  |eith a b=>exact node a b rfl (by simp)
  |both a b=>exact node a b rfl (by simp)
  |way a b=>exact node a b rfl (by simp)
end
theorem C7{chk:Sto→Prop}{i:Nat}{tc:DB}{te:DT}{R:List D→Sto→Prop}{st:Sto}(f:D→D)(Ok:i9→Prop)(hset:∀env d,Ok env→Ok (env.set i (some d)))(htc:∀env K,K true st→tc env st K)(hte:∀env d K,Ok env→K (f d) st→te (env.set i (some d)) st K)(hc:chk st):
  ∀(ds acc:List D)(env:i9),Ok env→R (acc++ds.map f) st→u3 chk (.n i) tc te R ds acc env st
 |[],acc,env,hE,hR=>by rw[bd8];exact⟨hc,by simpa using hR⟩
 |d::ds,acc,env,hE,hR=>by
  rw[bc2,X5];refine⟨hc,htc _ _ ?_⟩;rw[if_pos rfl];exact hte env d _ hE (C7 f Ok hset htc hte hc ds (acc++[f d]) _ (hset env d hE) (by simpa using hR))
theorem ad6{c i n:Nat}(h:i≤n):c^i≤max 1 (c^n):=by
 cases c with
 |zero=>
  cases i with
  |zero=>simp;omega
  |succ i=>rw[Nat.zero_pow (by omega)];omega
 |succ c=>exact Nat.le_trans (Nat.pow_le_pow_right (by omega) h) (by omega)
section
variable {P:j9} {G:Gs} (T:PT1 P G) {n:Nat} {st:Sto} {Q:DK}
include T
theorem ca2{fa sa:Addr}{xs ys:List D}(h1:st fa=some (.lst xs))(h2:st sa=some (.lst ys))(hz:xs.length*ys.length≤1000000)(hy:ys.length≤1000000)(q:∀a st',st a=none→st' a=some (.lst (xs.flatMap fun x=>ys.map fun y=>.tup [.str "p",x,y]))→Kp [] st st'→Q (.ref a) st'):sem P G (n+1) "pairs" [.ref fa,.ref sa] st Q:=by
 refine j6 T.pairs rfl [some (.ref fa),some (.ref sa),none,none] rfl ?_;unfold af7;walk_at "es";intro an han;have n1:fa≠an:=m7 h1 han;have n2:sa≠an:=m7 h2 han;walk_at "es";refine⟨_,.inl (i7 h1 han),?_⟩;refine v5 (fun l env st'=>∃(pre:List D)(x:Option D),xs=pre++l∧env=[some (.ref fa),some (.ref sa),some (.ref an),x]∧st' an=some (.lst (pre.flatMap fun x=>ys.map fun y=>.tup [.str "p",x,y]))∧Kp [] st st') ?_ ?_ _ _ _ ⟨[],none,rfl,rfl,d8,Kp.refl.new han⟩
 ·rintro env st' ⟨pre,x,e,rfl,hs,K⟩;refine⟨.inl (K.at' h1 (by simp)),?_⟩;walk_at "es";rw[List.append_nil]at e;subst e;exact d9 (q an st' han hs K)
 ·rintro d ds env st' ih ⟨pre,x,e,rfl,hs,K⟩;refine⟨.inl (K.at' h1 (by simp)),?_⟩;walk_at "ek";walk_at "es";rw[z6 (.inl hs)];have h2':=K.at' h2 (by simp);refine⟨trivial,ys,.inl h2',hy,?_⟩;refine C7 (fun y=>.tup [.str "p",d,y]) (fun env=>∃x,env=[some d,x]) (fun env y h=>by obtain⟨x,rfl⟩:=h;exact⟨_,rfl⟩) (fun env K h=>h) (fun env y K h hk=>by
   obtain⟨x,rfl⟩:=h;walk_at "ek";exact hk) (.inl h2') _ _ _ ⟨none,rfl⟩ ?_
  intro p hp;have hnp:an≠p:=m7 hs hp;rw[P1 (i7 hs hp) d8];have el:(pre.flatMap fun x=>ys.map fun y=>D.tup [.str "p",x,y]).length=pre.length*ys.length:=N7 _ _ (fun x=>by simp) _;have hle:pre.length*ys.length+ys.length≤1000000:=by
   have:xs.length=pre.length+(ds.length+1):=by rw[e];simp
   have h3:(pre.length+1)*ys.length≤xs.length*ys.length:=Nat.mul_le_mul_right _ (by omega);rw[Nat.add_mul,Nat.one_mul]at h3;omega
  refine⟨A8 (by rw[el];simp only[List.nil_append,List.length_map];omega),?_⟩;walk_at "ek";refine ih _ _ ⟨pre++[d],_,by rw[e];simp,rfl,by rw[d8,List.flatMap_append];simp,fun b u nb eb=>j3 (i7 (K b u nb eb) hp) (m7 eb han)⟩
theorem cj0{m:Nat}{sa:Addr}{cs:List D}(h2:st sa=some (.lst cs))(hz:max 1 (cs.length^m)≤100000)(hm:m≤1000)(hc:cs.length≤100000)(q:∀a st',st a=none→st' a=some (.lst ((o7 m cs).map D.tup))→Kp [] st st'→Q (.ref a) st'):sem P G (n+1) "rows_over" [.int m,.ref sa] st Q:=by
 refine j6 T.rows rfl [some (.int m),some (.ref sa),none,none,none,none] rfl ?_;unfold ac9;walk_at "es";intro ra hra;walk_at "es";refine⟨by omega,?_⟩;refine v5 (fun l env st'=>∃(i:Nat)(ra:Addr)(x3 x4 x5:Option D),i+l.length=m∧env=[some (.int m),some (.ref sa),some (.ref ra),x3,x4,x5]∧st ra=none∧st' ra=some (.lst ((o7 i cs).map D.tup))∧Kp [] st st') ?_ ?_ _ _ _ ⟨0,ra,none,none,none,by simp[p8],rfl,hra,d8,Kp.refl.new hra⟩
 ·rintro env st' ⟨i,ra,x3,x4,x5,hi,rfl,hra,hs,K⟩;refine⟨trivial,?_⟩;walk_at "es";simp only[List.length_nil,Nat.add_zero]at hi;subst hi;exact d9 (q ra st' hra hs K)
 ·rintro d ds env st' ih ⟨i,ra,x3,x4,x5,hi,rfl,hra,hs,K⟩;refine⟨trivial,?_⟩;simp only[List.length_cons]at hi;walk_at "ek";walk_at "es";intro la hla;have hrl:ra≠la:=m7 hs hla;have hsl:st la=none:=by
   cases z:st la with
   |none=>rfl
   |some u=>rw[K.at' z (by simp)]at hla;cases hla
  walk_at "es";refine⟨_,.inl (i7 hs hla),?_⟩;have b1:=ad6 (c:=cs.length) (i:=i+1) (n:=m) (by omega);have b0:=ad6 (c:=cs.length) (i:=i) (n:=m) (by omega);refine v5 (fun l env st2=>∃(pre suf:List (List D))(x5:Option D),o7 i cs=pre++suf∧l=suf.map D.tup∧env=[some (.int m),some (.ref sa),some (.ref ra),some d,some (.ref la),x5]∧st2 la=some (.lst ((pre.flatMap fun r=>cs.map fun c=>r++[c]).map D.tup))∧st2 ra=some (.lst ((o7 i cs).map D.tup))∧Kp [] st st2) ?_ ?_ _ _ _ ⟨[],o7 i cs,_,rfl,rfl,rfl,d8,i7 hs hla,K.new hla⟩
  ·rintro env st2 ⟨pre,suf,x5,e,el,rfl,hl,hr,K2⟩;refine⟨.inl hr,?_⟩;have es:suf=[]:=by simpa using el.symm
   subst es;rw[List.append_nil]at e;walk_at "es";exact ih _ _ ⟨i+1,la,_,_,_,by omega,rfl,hsl,by rw[o7,e];exact hl,K2⟩
  ·rintro d2 ds2 env st2 ih2 ⟨pre,suf,x5,e,el,rfl,hl,hr,K2⟩;refine⟨.inl hr,?_⟩;cases suf with
   |nil=>simp at el
   |cons r suf=>
    simp only[List.map_cons,List.cons.injEq]at el;obtain⟨rfl,rfl⟩:=el;have h2':=K2.at' h2 (by simp);have hlr:pre.length+(suf.length+1)=cs.length^i:=by have:=R3 i cs;rw[e]at this;simpa using this
    have hrl2:r.length≤1000:=by
     have rl:∀(i:Nat),∀r∈o7 i cs,r.length=i:=fun i=>by
      induction i with
      |zero=>intro r hr;simp[o7]at hr;simp[hr]
      |succ i ihh=>
       intro r hr;simp only[o7,List.mem_flatMap,List.mem_map]at hr;obtain⟨r',hr',c,_,rfl⟩:=hr;simp[ihh r' hr']
     have:=rl i r (by rw[e];simp);omega
    walk_at "ek";walk_at "es";rw[z6 (.inl hl)];refine⟨trivial,cs,.inl h2',by omega,?_⟩;refine C7 (fun c=>.tup (r++[c])) (fun env=>∃x,env=[some (.tup r),x]) (fun env y h=>by obtain⟨x,rfl⟩:=h;exact⟨_,rfl⟩) (fun env K h=>h) (fun env y K h hk=>by
     obtain⟨x,rfl⟩:=h;walk_at "ek";exact⟨A8 (by omega),hk⟩) (.inl h2') _ _ _ ⟨none,rfl⟩ ?_
    intro p hp;rw[P1 (i7 hl hp) d8];have el2:(pre.flatMap fun r=>cs.map fun c=>r++[c]).length=pre.length*cs.length:=N7 _ _ (fun x=>by simp) _;have hle:pre.length*cs.length+cs.length≤100000:=by
     have h3:(pre.length+1)*cs.length≤cs.length^i*cs.length:=Nat.mul_le_mul_right _ (by omega);rw[Nat.add_mul,Nat.one_mul]at h3;rw[Nat.pow_succ]at b1;omega
    refine⟨A8 (by rw[List.length_map,el2];simp only[List.nil_append,List.length_map];omega),?_⟩;walk_at "ek";have hrp:ra≠p:=m7 hr hp;refine ih2 _ _ ⟨pre++[r],suf,_,by rw[e];simp,rfl,rfl,?_,j3 (i7 hr hp) hrl,fun b u nb eb=>j3 (i7 (K2 b u nb eb) hp) (fun z=>by rw[z,hsl]at eb;cases eb)⟩;rw[d8,List.flatMap_append,List.map_append];simp[List.map_map,Function.comp_def]
noncomputable def VT(s0:Sto)(dn:Addr)(k:Kd)(d:D)(st:Sto):Prop:=∃a,d=.ref a∧a≠dn∧s0 a=none∧st a=some (.lst k.things)
theorem b36{s0:Sto}{h a b:Kd}{dn:Addr}{d1 d2:D}(K0:Kp [] s0 st)(hs:h.subs=[a,b])(hb:h.bd 100)(hn:1≤n)(v1:VT s0 dn a d1 st)(v2:VT s0 dn b d2 st)(hdn:∃ds,st dn=some (.lst ds))(q:∀d st2,VT s0 dn h d st2→Kp [] st st2→Q d st2):sem P G (n+1) "joined_things" [.str h.w,d1,d2] st Q:=by
 obtain⟨n,rfl⟩:∃m,n=m+1:=⟨n-1,by omega⟩;obtain⟨fa,rfl,nf,_,hf⟩:=v1;obtain⟨sa,rfl,ns,_,hsa⟩:=v2;obtain⟨dsn,hdn⟩:=hdn;have fresh:∀(p:Addr)(st2:Sto),st p=none→p≠dn:=fun p st2 hp z=>by rw[z,hdn]at hp;cases hp
 refine j6 T.joined rfl [some (.str h.w),some (.ref fa),some (.ref sa)] rfl ?_;unfold ac3;have la:=t4 a;have lb:=t4 b;cases h with
 |non=>cases hs
 |one=>cases hs
 |eith a' b'=>
  cases hs;have ba:=Kd.bd_le hb.1;have bb:=Kd.bd_le hb.2.1;simp only[Kd.w];walk_at "es";walk_at "es";refine⟨_,.inl hf,by omega,?_⟩;refine C7 (fun t=>.tup [.str "l",t]) (fun env=>∃x,env=[x]) (fun env y h=>by obtain⟨x,rfl⟩:=h;exact⟨_,rfl⟩) (fun env K h=>h) (fun env y K h hk=>by
   obtain⟨x,rfl⟩:=h;walk_at "ek";exact hk) (.inl hf) _ _ _ ⟨none,rfl⟩ ?_
  intro p hp;have hsa':=i7 (u:=.lst ([]++a.things.map fun t=>D.tup [.str "l",t])) hsa hp;refine⟨_,.inl hsa',by omega,?_⟩;refine C7 (fun t=>.tup [.str "r",t]) (fun env=>∃x,env=[x]) (fun env y h=>by obtain⟨x,rfl⟩:=h;exact⟨_,rfl⟩) (fun env K h=>h) (fun env y K h hk=>by
   obtain⟨x,rfl⟩:=h;walk_at "ek";exact hk) (.inl hsa') _ _ _ ⟨none,rfl⟩ ?_
  intro p2 hp2;rw[ak5];refine⟨_,_,i7 d8 hp2,d8,A8 (by simp only[List.nil_append,List.length_map];omega),fun p3 hp3=>d9 (q _ _ ⟨p3,rfl,?_,none_of (((K0.new hp).new hp2)) hp3,?_⟩ (((Kp.refl.new hp).new hp2).new hp3))⟩
  ·exact(m7 (i7 (i7 hdn hp) hp2) hp3).symm
  ·rw[d8];rfl
 |both a' b'=>
  cases hs;have ba:=Kd.bd_le hb.1;have bb:=Kd.bd_le hb.2.1;simp only[Kd.w];walk_at "es";walk_at "es";walk_at "es";refine⟨by rw[T.pairs];rfl,ca2 T hf hsa (by rw[la,lb];have:=hb.2.2;omega) (by omega) fun p st2 hp hs2 K=>d9 (q _ _ ⟨p,rfl,fresh p st2 hp,none_of K0 hp,hs2⟩ K)⟩
 |way a' b'=>
  cases hs;have ba:=Kd.bd_le hb.1;have bb:=Kd.bd_le hb.2.1;have bw:b.cnt^a.cnt≤100:=hb.2.2;simp only[Kd.w];walk_at "es";walk_at "es";walk_at "es";rw[u1 (.inl hf)];refine⟨by rw[T.rows];rfl,cj0 T hsa (by rw[la,lb];omega) (by omega) (by omega) fun p st2 hp hs2 K=>?_⟩;walk_at "ek";refine⟨_,.inl hs2,by rw[List.length_map,R3,la,lb];omega,?_⟩;refine C7 (fun r=>.tup [.str "w",r]) (fun env=>∃x,env=[x]) (fun env y h=>by obtain⟨x,rfl⟩:=h;exact⟨_,rfl⟩) (fun env K h=>h) (fun env y K h hk=>by
   obtain⟨x,rfl⟩:=h;walk_at "ek";exact hk) (.inl hs2) _ _ _ ⟨none,rfl⟩ ?_
  intro p2 hp2;have hdn2:=K.at' hdn (by simp);refine d9 (q _ _ ⟨p2,rfl,(m7 hdn2 hp2).symm,none_of (K0.trans K) hp2,?_⟩ (K.new hp2));rw[d8,List.nil_append,List.map_map];rfl
omit T in
theorem bo5{m:Nat}:∀{k h:Kd},k.bd m→h∈k.pre→h.bd m:=by
 intro k
 induction k with
 |non=>intro h hb hm;simp[Kd.pre]at hm;subst hm;exact hb
 |one=>intro h hb hm;simp[Kd.pre]at hm;subst hm;exact hb
 |eith a b iha ihb|both a b iha ihb|way a b iha ihb=>
  intro h hb hm;simp only[Kd.pre,List.mem_cons,List.mem_append]at hm
  rcases hm with rfl|hm|hm
  ·exact hb
  ·exact ihb hb.2.1 hm
  ·exact iha hb.1 hm
theorem ax7{k:Kd}(hn:6≤n)(hb:k.bd 100)(hk:k.nest≤9)(q:∀a st',st a=none→st' a=some (.lst k.things)→Kp [] st st'→Q (.ref a) st'):sem P G n "things" [k.d] st Q:=by
 obtain⟨n,rfl⟩:∃m,n=m+6:=⟨n-6,by omega⟩;have hs:k.size≤2000:=by
  have:=bb4 k;have:2^(k.nest+1)≤2^10:=Nat.pow_le_pow_right (by decide) (by omega);omega
 refine j6 T.things rfl [some k.d] rfl ?_;unfold ae1;walk_at "es";refine⟨by rw[T.bu];rfl,fun p0 hp0 p1 hp1 pd hpd=>⟨by rw[T.joined];rfl,?_⟩⟩;have hp1':=none_of (Kp.refl.new hp0) hp1;generalize hst3:d7 (d7 (d7 st p0 (.lst [])) p1 (.lst [D.tup []])) pd _=st3;have e0:st3 p0=some (.lst []):=by rw[←hst3];exact i7 (i7 d8 hp1) hpd
 have e1:st3 p1=some (.lst [D.tup []]):=by rw[←hst3];exact i7 d8 hpd
 have e2:st3 pd=some (.dct [(.inr "none",.ref p0),(.inr "one",.ref p1)]):=by rw[←hst3];exact d8
 have K0:Kp [] st st3:=by rw[←hst3];exact((Kp.refl.new hp0).new hp1).new hpd
 refine bf5 T.toPT0 (n:=n+2) (V:=VT st) (fun{dn k d st1 st'}v K=>?_) k hs (by omega) (v0:=.ref p0) (v1:=.ref p1) e2 (by rw[T.joined];rfl) (fun dn st' hdn K=>⟨p0,rfl,fun z=>?_,hp0,K.at' e0 (by simp)⟩) (fun dn st' hdn K=>⟨p1,rfl,fun z=>?_,hp1',K.at' e1 (by simp)⟩) (fun h a b dn d1 d2 st' Q hh KK hsub v1 v2 hdn q=>b36 T (n:=n+1) (K0.trans KK) hsub (bo5 hb hh) (by omega) v1 v2 hdn q) fun dn d st' hdn v K=>?_
 ·obtain⟨a,rfl,ne,hz,e⟩:=v;exact⟨a,rfl,ne,hz,K.at' e (by simp;exact ne)⟩
 ·rw[←z,e0]at hdn;cases hdn
 ·rw[←z,e1]at hdn;cases hdn
 ·obtain⟨a,rfl,ne,hz,e⟩:=v;exact d9 (q a st' hz e (K0.trans K))
end
mutual
noncomputable def D.lit:D→Bool
 |.int _=>true
 |.str x=>PyData.canLay0 (.str x)
 |.tup ds=>D.lits ds
 |_=>false
noncomputable def D.lits:List D→Bool
 |[]=>true
 |d::r=>d.lit&&D.lits r
end
mutual
theorem C9:∀d:D,d.lit=true→d.pure=true
 |.int _,_=>rfl
 |.str _,h=>h
 |.tup ds,h=>by rw[R1];exact V8 ds h
 |.non,h=>nomatch h
 |.bl _,h=>nomatch h
 |.ref _,h=>nomatch h
 |.fn _,h=>nomatch h
theorem V8:∀ds:List D,D.lits ds=true→D.pures ds=true
 |[],_=>rfl
 |d::r,h=>by
  have h':d.lit=true∧D.lits r=true:=by simpa[D.lits]using h
  rw[G1,C9 d h'.1,V8 r h'.2];rfl
end
mutual
theorem R9:∀x y:D,x.lit=true→y.lit=true→(deq x y=true↔x=y)
 |.int i,y,hx,hy=>by
  cases y<;>first|(simp[D.lit]at hy;done)|skip
  ·rw[az9];simp
  ·constructor
   ·intro h;simp[deq,D.py,PyData.eqv]at h
   ·intro h;cases h
  ·constructor
   ·intro h;simp[deq,D.py,PyData.eqv]at h
   ·intro h;cases h
 |.str x,y,hx,hy=>by
  cases y<;>first|(simp[D.lit]at hy;done)|skip
  ·constructor
   ·intro h;simp[deq,D.py,PyData.eqv]at h
   ·intro h;cases h
  ·rw[F0];simp
  ·constructor
   ·intro h;simp[deq,D.py,PyData.eqv]at h
   ·intro h;cases h
 |.tup xs,y,hx,hy=>by
  cases y<;>first|(simp[D.lit]at hy;done)|skip
  ·constructor
   ·intro h;simp[deq,D.py,PyData.eqv]at h
   ·intro h;cases h
  ·constructor
   ·intro h;simp[deq,D.py,PyData.eqv]at h
   ·intro h;cases h
  ·rename_i ys;rw[N9,ay2 xs ys hx hy];simp
 |.non,y,hx,hy=>nomatch hx
 |.bl _,y,hx,hy=>nomatch hx
 |.ref _,y,hx,hy=>nomatch hx
 |.fn _,y,hx,hy=>nomatch hx
theorem ay2:∀xs ys:List D,D.lits xs=true→D.lits ys=true→(y6 xs ys=true↔xs=ys)
 |[],[],_,_=>by simp[y6]
 |[],y::ys,_,_=>by simp[y6]
 |x::xs,[],_,_=>by simp[y6]
 |x::xs,y::ys,hx,hy=>by
  have h1:x.lit=true∧D.lits xs=true:=by simpa[D.lits]using hx
  have h2:y.lit=true∧D.lits ys=true:=by simpa[D.lits]using hy
  rw[y6,Bool.and_eq_true,R9 x y h1.1 h2.1,ay2 xs ys h1.2 h2.2,List.cons.injEq]
end
theorem W7{x y:D}(hx:x.lit=true)(hy:y.lit=true)(h:x≠y):deq x y=false:=by
 cases e:deq x y with
 |false=>rfl
 |true=>exact absurd ((R9 x y hx hy).mp e) h
theorem C6{x:D}(hx:x.lit=true):deq x x=true:=(R9 x x hx hx).mpr rfl
theorem E8{ds:List D}:D.lits ds=true↔∀d∈ds,d.lit=true:=by
 induction ds with
 |nil=>simp[D.lits]
 |cons d r ih=>simp[D.lits,ih]
theorem B4(s:String):(D.str (Str.ofString s)).lit=true:=B3 s
theorem z5{ds:List D}:(D.tup ds).lit=D.lits ds:=rfl
theorem A6{d:D}{r:List D}:D.lits (d::r)=(d.lit&&D.lits r):=rfl
theorem B1:D.lits []=true:=rfl
theorem W8:∀(n:Nat)(cs r:List D),r∈o7 n cs→r.length=n∧∀d∈r,d∈cs
 |0,cs,r,h=>by simp[o7]at h;subst h;simp
 |n+1,cs,r,h=>by
  simp only[o7,List.mem_flatMap,List.mem_map]at h;obtain⟨r',hr,c,hc,rfl⟩:=h;obtain⟨h1,h2⟩:=W8 n cs r' hr;refine⟨by simp[h1],fun d hd=>?_⟩
  rcases List.mem_append.mp hd with hd|hd
  ·exact h2 d hd
  ·simp only[List.mem_singleton]at hd;subst hd;exact hc
theorem t0:∀(k:Kd)(t:D),t∈k.things→t.lit=true∧j5 t≤2*k.nest+1
 |.non,t,h=>by simp[Kd.things]at h
 |.one,t,h=>by simp only[Kd.things,List.mem_singleton]at h;subst h;exact⟨rfl,by rw[v7];simp[o5,Kd.nest]⟩
 |.eith a b,t,h=>by
  simp only[Kd.things,List.mem_append,List.mem_map]at h;simp only[Kd.nest]
  rcases h with⟨x,hx,rfl⟩|⟨x,hx,rfl⟩
  ·obtain⟨h1,h2⟩:=t0 a x hx;exact⟨by simp only[z5,A6,B1,B4,h1,Bool.and_self],by simp only[v7,o5,v6];omega⟩
  ·obtain⟨h1,h2⟩:=t0 b x hx;exact⟨by simp only[z5,A6,B1,B4,h1,Bool.and_self],by simp only[v7,o5,v6];omega⟩
 |.both a b,t,h=>by
  simp only[Kd.things,List.mem_flatMap,List.mem_map]at h;simp only[Kd.nest];obtain⟨x,hx,y,hy,rfl⟩:=h;obtain⟨h1,h2⟩:=t0 a x hx;obtain⟨h3,h4⟩:=t0 b y hy;exact⟨by simp only[z5,A6,B1,B4,h1,h3,Bool.and_self],by simp only[v7,o5,v6];omega⟩
 |.way a b,t,h=>by
  simp only[Kd.things,List.mem_map]at h;simp only[Kd.nest];obtain⟨r,hr,rfl⟩:=h;obtain⟨_,hm⟩:=W8 _ _ _ hr;have hd:o5 r≤2*b.nest+1:=by
   have:∀r:List D,(∀d∈r,d∈b.things)→o5 r≤2*b.nest+1:=fun r=>by
    induction r with
    |nil=>intro _;exact Nat.zero_le _
    |cons d r ih=>
     intro hm;have:=(t0 b d (hm d (by simp))).2;have:=ih fun d hd=>hm d (by simp[hd]);rw[o5];exact Nat.max_le.mpr ⟨by omega,by omega⟩
   exact this r hm
  refine⟨?_,by simp only[v7,o5,v6];omega⟩;simp only[z5,A6,B1,B4,Bool.and_true,Bool.true_and];exact E8.mpr fun d hd=>(t0 b d (hm d hd)).1
theorem aw9{α β:Type}{f:α→List β}:∀{l:List α},l.Nodup→(∀x∈l,(f x).Nodup)→(∀x∈l,∀y∈l,∀z,z∈f x→z∈f y→x=y)→(l.flatMap f).Nodup
 |[],_,_,_=>by simp
 |x::l,hn,hf,hd=>by
  rw[List.flatMap_cons,List.nodup_append];have hn':=List.nodup_cons.mp hn;refine⟨hf x (by simp),aw9 hn'.2 (fun y hy=>hf y (by simp[hy])) (fun y hy z hz=>hd y (by simp[hy]) z (by simp[hz])),fun a ha b hb e=>?_⟩;subst e;obtain⟨y,hy,hay⟩:=List.mem_flatMap.mp hb;exact hn'.1 (hd x (by simp) y (by simp[hy]) a ha hay▸hy)
theorem V9{α β:Type}{f:α→β}(hf:∀x y,f x=f y→x=y){l:List α}(h:l.Nodup):(l.map f).Nodup:=List.Pairwise.map f (fun a b hab e=>hab (hf a b e)) h
theorem a97{cs:List D}(h:cs.Nodup):∀n,(o7 n cs).Nodup
 |0=>by simp[o7]
 |n+1=>by
  rw[o7];refine aw9 (a97 h n) (fun r _=>V9 (fun x y e=>by simpa using e) h) (fun r _ r' _ z hz hz'=>?_);obtain⟨c,_,rfl⟩:=List.mem_map.mp hz;obtain⟨c',_,e⟩:=List.mem_map.mp hz';exact(List.append_inj' e rfl).1.symm
theorem N1:∀k:Kd,k.things.Nodup
 |.non=>by simp[Kd.things]
 |.one=>by simp[Kd.things]
 |.eith a b=>by
  rw[Kd.things,List.nodup_append];refine⟨V9 (fun x y e=>by simpa using e) (N1 a),V9 (fun x y e=>by simpa using e) (N1 b),fun x hx y hy e=>?_⟩;obtain⟨t,_,rfl⟩:=List.mem_map.mp hx;obtain⟨t',_,rfl⟩:=List.mem_map.mp hy;simp[v3]at e
 |.both a b=>by
  rw[Kd.things];refine aw9 (N1 a) (fun x _=>V9 (fun y y' e=>by simpa using e) (N1 b)) (fun x _ x' _ z hz hz'=>?_);obtain⟨y,_,rfl⟩:=List.mem_map.mp hz;obtain⟨y',_,e⟩:=List.mem_map.mp hz';simp at e;exact e.1.symm
 |.way a b=>by
  rw[Kd.things];exact V9 (fun x y e=>by simpa using e) (a97 (N1 b) _)
theorem ad7{α:Type}:∀{l:List α},l.Nodup→∀(i j:Nat)(x:α),l[i]?=some x→l[j]?=some x→i=j
 |[],_,i,j,x,h,_=>by simp at h
 |a::l,hn,i,j,x,hi,hj=>by
  have hn':=List.nodup_cons.mp hn;cases i with
  |zero=>
   cases j with
   |zero=>rfl
   |succ j=>
    simp at hi;subst hi;exact absurd (List.mem_of_getElem? (by simpa using hj)) hn'.1
  |succ i=>
   cases j with
   |zero=>
    simp at hj;subst hj;exact absurd (List.mem_of_getElem? (by simpa using hi)) hn'.1
   |succ j=>rw[ad7 hn'.2 i j x (by simpa using hi) (by simpa using hj)]
theorem cr5{st:Sto}{a:Addr}{k:Kd}{j:Nat}{t:D}{Q:DK}(h:st a=some (.lst k.things))(hn:k.nest≤20)(hj:k.things[j]?=some t)(q:Q (.int j) st):O1 (.ref a) t st Q:=by
 have hm:=List.mem_of_getElem? hj;obtain⟨lt,dt⟩:=t0 k t hm;refine⟨k.things,.inl h,C9 t lt,V8 _ (E8.mpr fun d hd=>(t0 k d hd).1),by omega,j,t,hj,C6 lt,fun i e hi he=>?_,q⟩;refine W7 (t0 k e (List.mem_of_getElem? he)).1 lt fun z=>?_;subst z;have:=ad7 (N1 k) i j _ he hj;omega
end Ek
namespace Ek
open PySem
noncomputable def ac0:Def:=⟨2,["one","other","ahead","turn","here","shelf"],
 (.cons (.set 2 (.lst (.cons (.tup (.cons (.v 0) (.cons (.v 1) .nil))) .nil)))
 (.cons (.for (.n 3) (.rng (.gc "FEW"))
   (.cons (.iff (.cmp .Eq (.len (.v 2)) (.int 0))
    (.cons (.ret (.bl true))
   .nil)
    .nil)
  (.cons (.set 4 (.pop (.v 2)))
  (.cons (.iff (.and (.isT "tuple" (.ix (.v 4) (.int 0))) (.isT "tuple" (.ix (.v 4) (.int 1))))
    (.cons (.iff (.cmp .NotEq (.len (.ix (.v 4) (.int 0))) (.len (.ix (.v 4) (.int 1))))
     (.cons (.ret (.bl false))
    .nil)
     .nil)
   (.cons (.ex (.ext (.v 2) (.lzip (.ix (.v 4) (.int 0)) (.ix (.v 4) (.int 1)))))
   .nil))
    (.cons (.iff (.cmp .NotEq (.ix (.v 4) (.int 0)) (.ix (.v 4) (.int 1)))
     (.cons (.ret (.bl false))
    .nil)
     .nil)
   .nil))
  .nil))))
 (.cons .dead
 (.cons .dead
 .nil))))⟩
noncomputable def ad1:Def:=⟨3,["kind","way","thing"],
 (.cons (.ret (.ix (.ix (.v 1) (.int 1)) (.call "place_of" (.cons (.ix (.v 0) (.int 1)) (.cons (.v 2) .nil)))))
 .nil)⟩
noncomputable def ac5:Def:=⟨2,["kind","thing"],
 (.cons (.ret (.index (.comp ["thing","one"] [1] 1 (.n 1) (.seq (.call "things" (.cons (.v 0) .nil))) .non (.call "are_alike" (.cons (.v 1) (.cons (.v 0) .nil)))) (.bl true)))
 .nil)⟩
end Ek
namespace Ek
open PySem L2
set_option hygiene false
local macro_rules | `(tactic| walk_at "ek")=>`(tactic| try simp only [ao1,al2,au1,U7,aq8,ak1,as9,af6,ak4,ap3,aq3,at8,P9,U6,e_v,as3,at4,ap0,ao7,U4,ao6,am3,U9,av0,as7,at2,V5,au8,at3,ap2,ag1,ah3,ag8,ar8,ah8,ah2,ai3,ae6,ag9,ag3,ah1,al4,af8,ae9,ai4,ar5,ai0,aj0,af9,af2,as6,af1,al9,ak0,at9,ah9,at0,aj1,am6,aq7,ae4,W2,av8,aq1,X6,ai1,ai5,ak6,ai9,aq4,aj9,ao0,ao2,ag4,am8,ao5,ap1,ap7,ai8,ag5,al6,X4,X1,aq0,ar2,aj7,as2,am7,av3,av4,V2,au5,as0,au4,ar6,am5,ap8,aj8,au0,av9,au3,or_false,false_or,ak3,ai6,ai2,ak8,Y0,aj6,al8,aq9,am9,as5,as8,ao9,ar7,ap6,aq2,au6,ar1,aa7,ap9,aa6,av6,av7,av2,aa3,ar9,am1,ap5,as4,aj3,ah7,af3,al1,ag2,X5,aj2,ac8,ad5,as1,List.set_cons_zero,List.set_cons_succ,List.getElem?_cons_zero,List.getElem?_cons_succ,decide_eq_true_eq,Bool.not_eq_true',decide_eq_false_iff_not,if_true,if_false,true_and,and_true,Bool.false_eq_true,Bool.true_eq_false,List.length_cons,List.length_nil,String.reduceEq,decide_true,decide_false,Bool.not_true,Bool.not_false])
set_option hygiene true
set_option hygiene false
local macro_rules | `(tactic| walk_at "es")=>`(tactic| ((try dsimp only);rw [T9];walk_at "ek"))
set_option hygiene true
mutual
noncomputable def D.sz:D→Nat
 |.tup ds=>1+D.szs ds
 |_=>1
noncomputable def D.szs:List D→Nat
 |[]=>0
 |d::r=>d.sz+D.szs r
end
theorem O4{ds:List D}:(D.tup ds).sz=1+D.szs ds:=rfl
theorem R7:D.szs []=0:=rfl
theorem L5{d:D}{r:List D}:D.szs (d::r)=d.sz+D.szs r:=rfl
theorem aj5{x:Str}:(D.str x).sz=1:=rfl
theorem a46(d:D):1≤d.sz:=by cases d<;>first|exact Nat.le_refl _|(rw[O4];omega)
theorem bn8{m:Nat}:∀(r:List D),(∀d∈r,d.sz≤m)→D.szs r≤r.length*m
 |[],_=>by simp[R7]
 |d::r,h=>by
  have h1:=h d (by simp);have h2:=bn8 r fun e he=>h e (by simp[he]);rw[L5,List.length_cons,Nat.add_mul,Nat.one_mul];omega
theorem c37{a b:D}{S0:Sto}{A E:Sto→Prop}(la:a.lit=true)(lb:b.lit=true)(hA:∀as bs,a=.tup as→b=.tup bs→A S0)(hE:(¬∃as bs,a=.tup as∧b=.tup bs)→E S0):
  U0 "tuple" a S0 fun x st1=>∃c,x=D.bl c∧if c=true then U0 "tuple" b st1 fun d st1=>∃k,d=D.bl k∧if k=true then A st1 else E st1 else E st1:=by
 have lits:∀x:D,x.lit=true→(∃ds,x=.tup ds)∨((∀ds,x≠.tup ds)∧∃ty,(ty=="tuple"||(ty=="bool"&&"tuple"=="int"))=false∧∀s,tyD x s=some ty):=fun x hx=>by
  cases x with
  |tup ds=>exact .inl ⟨ds,rfl⟩
  |int i=>exact .inr ⟨fun _=>nofun,"int",by decide,fun _=>rfl⟩
  |str y=>exact .inr ⟨fun _=>nofun,"str",by decide,fun _=>rfl⟩
  |_=>simp[D.lit]at hx
 rcases lits a la with⟨as,rfl⟩|⟨na,ty,e1,e2⟩
 ·refine .inl ⟨"tuple",rfl,true,rfl,?_⟩;rw[if_pos rfl]
  rcases lits b lb with⟨bs,rfl⟩|⟨nb,ty,e1,e2⟩
  ·exact .inl ⟨"tuple",rfl,true,rfl,by rw[if_pos rfl];exact hA as bs rfl rfl⟩
  ·refine .inl ⟨ty,e2 _,false,by rw[e1],?_⟩;rw[if_neg (by decide)];exact hE fun⟨_,bs,_,z⟩=>nb bs z
 ·refine .inl ⟨ty,e2 _,false,by rw[e1],?_⟩;rw[if_neg (by decide)];exact hE fun⟨as,_,z,_⟩=>na as z
noncomputable def Kd.sml(k:Kd):Prop:=∀x∈k.things,x.lit=true∧x.sz≤1900∧j5 x≤100
structure PG1(P:j9)(G:Gs):Prop extends PT1 P G where
 gift:P "gift"=some ad1
 place:P "place_of"=some ac5
 alike:P "are_alike"=some ac0
noncomputable def M5(l:List (D×D)):Prop:=∀p∈l,p.1=p.2
noncomputable def pd(l:List (D×D)):List D:=l.map fun p=>.tup [p.1,p.2]
section
variable {P:j9} {G:Gs} (T:PG1 P G)
include T
theorem b87{n:Nat}{st:Sto}{Q:DK}{t u:D}(lt:t.lit=true)(lu:u.lit=true)(hs:t.sz≤1900)(hd:j5 t≤100)(q:∀st',Kp [] st st'→Q (.bl (deq t u)) st'):sem P G (n+1) "are_alike" [t,u] st Q:=by
 refine j6 T.alike rfl [some t,some u,none,none,none,none] rfl ?_;unfold ac0;walk_at "es";intro h hh;walk_at "es";refine⟨2000,T.cst,?_⟩;walk_at "ek";refine⟨⟨by decide,by decide⟩,?_⟩;refine v5 (fun l env st'=>∃(ps:List (D×D))(x y:Option D),(∀d∈l,∃i,d=.int i)∧(t=u↔M5 ps)∧(∀p∈ps,p.1.lit=true∧p.2.lit=true∧j5 p.1≤100)∧(ps.map fun p=>p.1.sz).sum+1≤l.length∧(ps.map fun p=>p.1.sz).sum≤1900∧env=[some t,some u,some (.ref h),x,y,none]∧st' h=some (.lst (pd ps))∧Kp [] st st') ?_ ?_ _ _ _ ⟨[(t,u)],none,none,fun d hd=>by simp[p8]at hd;obtain⟨i,_,rfl⟩:=hd;exact⟨_,rfl⟩,by simp[M5],by simp[lt,lu,hd],by simp[p8];omega,by simp;omega,rfl,d8,Kp.refl.new hh⟩
 ·rintro env st' ⟨ps,x,y,_,_,_,hl,_⟩;simp at hl
 ·rintro d0 dl env st' ih ⟨ps,x,y,hi,he,hp,hl,hz,rfl,hs',K⟩;obtain⟨i,rfl⟩:=hi d0 (by simp);refine⟨trivial,?_⟩;walk_at "ek";walk_at "es";rw[u1 (.inl hs')];walk_at "ek"
  rcases aw6 ps with rfl|⟨ps,p,rfl⟩
  ·rw[if_pos (by simp[pd])];walk_at "es";have e:t=u:=he.mpr (by simp[M5]);have e2:deq t u=true:=by rw[e];exact C6 lu
   have:=q st' K;rw[e2]at this;exact d9 this
  ·rw[if_neg (by simp[pd];omega)];obtain⟨a,b⟩:=p;have hab:=hp (a,b) (by simp);simp only at hab;simp only[List.map_append,List.map_cons,List.map_nil,List.sum_append,List.sum_cons,List.sum_nil,List.length_cons]at hl hz;have pa:=a46 a;have hs2:st' h=some (.lst (pd ps++[.tup [a,b]])):=by rw[hs'];simp[pd]
   have hlen:∀l:List (D×D),l.length≤(l.map fun p=>p.1.sz).sum:=fun l=>by
    induction l with
    |nil=>simp
    |cons p l ih=>have:=a46 p.1;simp only[List.map_cons,List.sum_cons,List.length_cons];omega
   have hlp:=hlen ps;walk_at "ek";walk_at "es";rw[a66 hs2];walk_at "es";have kh:∀u:Ob,Kp [] st (d7 st' h u):=fun u b o nb e=>j3 (K b o nb e) (fun z=>by rw[z,hh]at e;cases e);have no:¬(a=b)→deq t u=false:=fun hne=>W7 lt lu fun z=>hne (he.mp z (a,b) (by simp));refine c37 hab.1 hab.2.1 (fun as bs ea eb=>?_) fun hno=>?_
   ·subst ea eb;walk_at "es"
    by_cases hll:as.length=bs.length
    ·rw[if_neg (by omega)];walk_at "es";rw[O4]at hl hz;have hlz:(as.zip bs).length=as.length:=by rw[List.length_zip];omega
     have hls:as.length≤D.szs as:=by
      generalize as=l
      induction l with
      |nil=>simp
      |cons d l ih=>have:=a46 d;rw[L5,List.length_cons];omega
     refine⟨_,_,rfl,rfl,by omega,fun pz hpz=>?_⟩;have hhz:=i7 (u:=.lst (p7 as bs)) (d8 (st:=st') (a:=h) (o:=.lst (pd ps))) hpz;rw[P1 hhz d8];have ez:p7 as bs=pd (as.zip bs):=rfl;refine⟨A8 (by rw[ez];simp only[pd,List.length_map];omega),?_⟩;walk_at "ek";have ne:pz≠h:=fun z=>by rw[z,d8]at hpz;cases hpz
     have la:D.lits as=true:=hab.1;have lb:D.lits bs=true:=hab.2.1;have hsum:∀(as bs:List D),as.length=bs.length→((as.zip bs).map fun p=>p.1.sz).sum=D.szs as:=fun as=>by
      induction as with
      |nil=>intro bs _;simp[R7]
      |cons d as ih=>
       intro bs hb;cases bs with
       |nil=>simp at hb
       |cons e bs=>simp only[List.zip_cons_cons,List.map_cons,List.sum_cons,L5];rw[ih bs (by simpa using hb)]
     refine ih _ _ ⟨ps++as.zip bs,_,_,fun d hd=>hi d (by simp[hd]),?_,fun p hp'=>?_,?_,?_,rfl,?_,fun b o nb e=>j3 (i7 (kh _ b o nb e) hpz) (fun z=>by rw[z,hh]at e;cases e)⟩
     ·rw[he];have hz:∀(as bs:List D),as.length=bs.length→(as=bs↔M5 (as.zip bs)):=fun as=>by
       induction as with
       |nil=>intro bs hb;cases bs with|nil=>simp[M5]|cons _ _=>simp at hb
       |cons d as ih=>
        intro bs hb;cases bs with
        |nil=>simp at hb
        |cons e bs=>
         have:=ih bs (by simpa using hb);simp only[M5,List.zip_cons_cons,List.mem_cons,List.cons.injEq]at this ⊢;constructor
         ·rintro⟨rfl,rfl⟩ p (rfl|hp)
          ·rfl
          ·exact this.mp rfl p hp
         ·intro h;exact⟨h (d,e) (.inl rfl),this.mpr fun p hp=>h p (.inr hp)⟩
      have hz':=hz as bs hll;simp only[M5,List.mem_append,List.mem_singleton]at hz' ⊢;constructor
      ·intro h p hp
       rcases hp with hp|hp
       ·exact h p (.inl hp)
       ·have:=h (.tup as,.tup bs) (.inr rfl);simp only[D.tup.injEq]at this;exact hz'.mp this p hp
      ·intro h p hp
       rcases hp with hp|rfl
       ·exact h p (.inl hp)
       ·show D.tup as=.tup bs;rw[hz'.mpr fun p hp=>h p (.inr hp)]
     ·rcases List.mem_append.mp hp' with hp'|hp'
      ·exact hp p (by simp[hp'])
      ·obtain⟨m1,m2⟩:=List.of_mem_zip hp';refine⟨E8.mp la _ m1,E8.mp lb _ m2,?_⟩;have:=hab.2.2;rw[v7]at this;have hdl:∀(l:List D)d,d∈l→j5 d≤o5 l:=fun l=>by
        induction l with
        |nil=>intro d hd;simp at hd
        |cons e l ih=>
         intro d hd;rw[o5]
         rcases List.mem_cons.mp hd with rfl|hd
         ·exact Nat.le_max_left _ _
         ·exact Nat.le_trans (ih d hd) (Nat.le_max_right _ _)
       have:=hdl as p.1 m1;omega
     ·rw[List.map_append,List.sum_append,hsum as bs hll];omega
     ·rw[List.map_append,List.sum_append,hsum as bs hll];omega
     ·rw[d8,ez];simp[pd]
    ·rw[if_pos (by omega)];walk_at "es";have:=q _ (kh (.lst (pd ps)));rw[no (fun z=>hll (by cases z;rfl))]at this;exact d9 this
   ·walk_at "es";rw[at1];refine⟨C9 _ hab.1,C9 _ hab.2.1,Nat.le_trans (Nat.min_le_left _ _) (by omega),?_⟩;cases hde:deq a b with
    |false=>
     walk_at "ek";walk_at "es";have:=q _ (kh (.lst (pd ps)));rw[no (fun z=>by rw[z,C6 hab.2.1]at hde;cases hde)]at this;exact d9 this
    |true=>
     have eab:=(R9 a b hab.1 hab.2.1).mp hde;walk_at "ek";refine ih _ _ ⟨ps,_,_,fun d hd=>hi d (by simp[hd]),?_,fun p hp'=>hp p (by simp[hp']),by omega,by omega,rfl,d8,kh _⟩;rw[he];simp only[M5,List.mem_append,List.mem_singleton];constructor
     ·intro h p hp;exact h p (.inl hp)
     ·rintro h p (hp|rfl)
      ·exact h p hp
      ·exact eab
theorem b45{n:Nat}{st:Sto}{Q:DK}{k:Kd}{j:Nat}{t:D}(hn:7≤n)(all:k.sml)(hb:k.bd 100)(hk:k.nest≤4)(hj:k.things[j]?=some t)(q:∀st',Kp [] st st'→Q (.int j) st'):sem P G n "place_of" [k.d,t] st Q:=by
 obtain⟨n,rfl⟩:∃m,n=m+1:=⟨n-1,by omega⟩;have lk:=t4 k;have ck:=Kd.bd_le hb;refine j6 T.place rfl [some k.d,some t] rfl ?_;unfold ac5;walk_at "es";refine⟨by rw[T.things];rfl,ax7 T.toPT1 (by omega) hb (by omega) fun fa st2 hfa0 hfa K2=>?_⟩;have tl:=(all t (List.mem_of_getElem? hj)).1;refine .inr ⟨fa,_,rfl,.inl hfa,by omega,?_⟩;refine W4 (fun l acc env' st'=>∃(pre:List D)(x:Option D),k.things=pre++l∧env'=[some t,x]∧acc=pre.map (fun y=>D.bl (deq y t))∧Kp [] st2 st') ?_ ?_ _ _ _ _ ⟨[],none,rfl,rfl,rfl,Kp.refl⟩
 ·rintro acc env' st3 ⟨pre,x,e,rfl,rfl,K3⟩;rw[List.append_nil]at e;subst e;refine⟨.inl (K3.at' hfa (by simp)),fun p hp=>?_⟩;rw[bn6 (.inl d8)];refine⟨trivial,?_⟩;refine⟨_,.inl d8,rfl,?_,by decide,j,.bl (deq t t),?_,?_,fun i e hi he=>?_,d9 (q _ ((K2.trans K3).new hp))⟩
  ·generalize k.things=l
   induction l with
   |nil=>rfl
   |cons d l ih=>rw[List.map_cons,G1,ih];rfl
  ·rw[List.getElem?_map,hj];rfl
  ·rw[C6 tl];rfl
  ·rw[List.getElem?_map]at he;obtain⟨y,hy,rfl⟩:=Option.map_eq_some_iff.mp he;have nd:=N1 k;have ne:y≠t:=fun z=>by
    subst z;have h1:=(List.getElem?_eq_some_iff.mp hy);have h2:=(List.getElem?_eq_some_iff.mp hj);obtain⟨a1,b1⟩:=h1;obtain⟨a2,b2⟩:=h2;exact List.pairwise_iff_getElem.mp nd i j a1 a2 hi (b1.trans b2.symm)
   rw[W7 (all y (List.mem_of_getElem? hy)).1 tl ne];rfl
 ·rintro y l acc env' st3 ih ⟨pre,x,e,rfl,rfl,K3⟩;refine⟨.inl (K3.at' hfa (by simp)),?_⟩;have my:=all y (by rw[e];simp);walk_at "ek";obtain⟨n,rfl⟩:∃m,n=m+1:=⟨n-1,by omega⟩;refine⟨by rw[T.alike];rfl,b87 T my.1 tl my.2.1 my.2.2 fun st4 K4=>?_⟩;exact ih _ _ _ ⟨pre++[y],_,by rw[e];simp,rfl,by simp,K3.trans K4⟩
theorem cb5{n:Nat}{st:Sto}{Q:DK}{k g:Kd}{row:List D}{j:Nat}{t d:D}(hn:8≤n)(hg:k.sml)(hb:k.bd 100)(hk:k.nest≤4)(hj:k.things[j]?=some t)(hr:row[j]?=some d)(q:∀st',Kp [] st st'→Q d st'):sem P G n "gift" [(Kd.way k g).d,.tup [.str "w",.tup row],t] st Q:=by
 obtain⟨n,rfl⟩:∃m,n=m+1:=⟨n-1,by omega⟩;refine j6 T.gift rfl [some (Kd.way k g).d,some (.tup [.str "w",.tup row]),some t] rfl ?_;unfold ad1;simp only[Kd.d];walk_at "es";refine⟨by rw[T.place];rfl,b45 T (by omega) hg hb hk hj fun st' K=>?_⟩;walk_at "ek";exact⟨d,by rw[B7];exact hr,d9 (q st' K)⟩
end
end Ek
namespace Ek
open PySem
noncomputable def ad0:Def:=⟨1,["kind"],
 (.cons (.ret (.call "built_up" (.cons (.v 0) (.cons (.dict ["none","one"] (.cons (.int 0) (.cons (.int 1) .nil))) (.cons (.gf "joined_count") .nil)))))
 .nil)⟩
noncomputable def ab4:Def:=⟨3,["word","first","second"],
 (.cons (.iff (.cmp .Eq (.v 0) (.str "either"))
   (.cons (.ret (.bin .Add (.v 1) (.v 2)))
  .nil)
   .nil)
 (.cons (.iff (.cmp .Eq (.v 0) (.str "both"))
   (.cons (.ret (.bin .Mult (.v 1) (.v 2)))
  .nil)
   .nil)
 (.cons (.ret (.call "power" (.cons (.v 2) (.cons (.v 1) .nil))))
 .nil)))⟩
noncomputable def N2:Def:=⟨2,["base","exponent","answer","square","left"],
 (.cons (.set 2 (.int 1))
 (.cons (.set 3 (.v 0))
 (.cons (.set 4 (.v 1))
 (.cons (.while (.cmp .Gt (.v 4) (.int 0))
   (.cons (.iff (.cmp .Eq (.bin .Mod (.v 4) (.int 2)) (.int 1))
    (.cons (.set 2 (.bin .Mult (.v 2) (.v 3)))
   .nil)
    .nil)
  (.cons (.set 4 (.bin .FloorDiv (.v 4) (.int 2)))
  (.cons (.iff (.cmp .Gt (.v 4) (.int 0))
    (.cons (.set 3 (.bin .Mult (.v 3) (.v 3)))
   .nil)
    .nil)
  .nil))))
 (.cons (.ret (.v 2))
 .nil)))))⟩
end Ek
namespace Ek
open PySem
noncomputable def ab0:Def:=⟨1,["self"],
 (.cons (.fldS (.v 0) "numbers" .dnt)
 (.cons (.fldS (.v 0) "stored" (.lst .nil))
 (.cons (.fldS (.v 0) "parts" (.lst .nil))
 (.cons (.fldS (.v 0) "waiting" (.lst .nil))
 .nil))))⟩
noncomputable def ab7:Def:=⟨2,["self","one","made","!self","!"],
 (.cons (.dfn 2 2 ["here","numbers","self"] [0]
   (.cons (.ret (.meth (.v 2) "numbered" (.cons (.slw (.v 0) .non (.bin .Sub (.len (.v 0)) (.len (.v 1)))) (.cons (.tuple (.v 1)) .nil))))
  .nil))
 (.cons (.ret (.call "made_of_parts" (.cons (.v 1) (.cons (.gf "tuples_in") (.cons (.v 2) .nil)))))
 .nil))⟩
noncomputable def aa9:Def:=⟨3,["self","front","numbers","key","number"],
 (.cons (.set 3 (.tup (.cons (.v 1) (.cons (.v 2) .nil))))
 (.cons (.set 4 (.dgt (.fld (.v 0) "numbers") (.v 3)))
 (.cons (.iff (.isN (.v 4))
   (.cons (.set 4 (.len (.fld (.v 0) "stored")))
  (.cons (.dput (.fld (.v 0) "numbers") (.v 3) (.v 4))
  (.cons (.ex (.app (.fld (.v 0) "stored") (.bin .Add (.v 1) (.tuple (.comp ["self","part"] [0] 1 (.n 1) (.seq (.v 2)) .non (.ix (.fld (.v 0) "stored") (.v 1)))))))
  (.cons (.ex (.app (.fld (.v 0) "parts") (.v 2)))
  .nil))))
   .nil)
 (.cons (.ret (.v 4))
 .nil))))⟩
noncomputable def ab1:Def:=⟨2,["self","number"],
 (.cons (.ret (.ix (.fld (.v 0) "stored") (.v 1)))
 .nil)⟩
noncomputable def ab2:Def:=⟨2,["self","number"],
 (.cons (.ret (.ix (.ix (.fld (.v 0) "stored") (.v 1)) (.int 0)))
 .nil)⟩
noncomputable def ab5:Def:=⟨2,["self","number"],
 (.cons (.ret (.ix (.fld (.v 0) "parts") (.v 1)))
 .nil)⟩
noncomputable def ab9:Def:=⟨1,["one"],
 (.cons (.ret (.comp ["part"] [] 1 (.n 0) (.seq (.v 0)) (.isT "tuple" (.v 0)) (.v 0)))
 .nil)⟩
noncomputable def N3:Def:=⟨3,["kind","one","other","shelf","whole","ahead","before","longer","looks","here","look","inside"],
 (.cons (.set 3 (.make "Shelf" .nil))
 (.cons (.set 4 (.tup (.cons (.meth (.v 3) "laid" (.cons (.v 0) .nil)) (.cons (.meth (.v 3) "laid" (.cons (.v 1) .nil)) (.cons (.meth (.v 3) "laid" (.cons (.v 2) .nil)) .nil)))))
 (.cons (.set 5 (.ite (.cmp .NotEq (.ix (.v 4) (.int 1)) (.ix (.v 4) (.int 2))) (.lst (.cons (.tup (.cons (.tup .nil) (.cons (.v 4) .nil))) .nil)) (.lst .nil)))
 (.cons (.set 6 .dnt)
 (.cons (.while (.cmp .Gt (.len (.v 5)) (.int 0))
   (.cons (.set 7 (.lst .nil))
  (.cons (.for (.tup [8,9]) (.seq (.v 5))
    (.cons (.iff (.and (.cmp .Eq (.meth (.v 3) "word_at" (.cons (.ix (.v 9) (.int 0)) .nil)) (.str "either")) (.cmp .NotEq (.meth (.v 3) "word_at" (.cons (.ix (.v 9) (.int 1)) .nil)) (.meth (.v 3) "word_at" (.cons (.ix (.v 9) (.int 2)) .nil))))
     (.cons (.ret (.list (.v 8)))
    .nil)
     .nil)
   (.cons (.for (.tup [10,11]) (.seq (.call "looks_at_both" (.cons (.v 3) (.cons (.v 9) .nil))))
     (.cons (.iff (.and (.cmp .NotEq (.ix (.v 11) (.int 1)) (.ix (.v 11) (.int 2))) (.din true (.v 11) (.v 6)))
      (.cons (.dput (.v 6) (.v 11) (.bl true))
     (.cons (.ex (.app (.v 7) (.tup (.cons (.bin .Add (.v 8) (.tup (.cons (.v 10) .nil))) (.cons (.v 11) .nil)))))
     .nil))
      .nil)
    .nil))
   .nil)))
  (.cons (.set 5 (.v 7))
  .nil))))
 (.cons (.ret .non)
 .nil))))))⟩
noncomputable def ab3:Def:=⟨2,["shelf","here","kinds","one","other","word","gifts","asked"],
 (.cons (.set 2 (.meth (.v 0) "within" (.cons (.ix (.v 1) (.int 0)) .nil)))
 (.cons (.set 3 (.meth (.v 0) "within" (.cons (.ix (.v 1) (.int 1)) .nil)))
 (.cons (.set 4 (.meth (.v 0) "within" (.cons (.ix (.v 1) (.int 2)) .nil)))
 (.cons (.set 5 (.meth (.v 0) "word_at" (.cons (.ix (.v 1) (.int 0)) .nil)))
 (.cons (.iff (.cmp .Eq (.v 5) (.str "both"))
   (.cons (.ret (.lst (.cons (.tup (.cons (.tup (.cons (.str "first") .nil)) (.cons (.tup (.cons (.ix (.v 2) (.int 0)) (.cons (.ix (.v 3) (.int 0)) (.cons (.ix (.v 4) (.int 0)) .nil)))) .nil))) (.cons (.tup (.cons (.tup (.cons (.str "second") .nil)) (.cons (.tup (.cons (.ix (.v 2) (.int 1)) (.cons (.ix (.v 3) (.int 1)) (.cons (.ix (.v 4) (.int 1)) .nil)))) .nil))) .nil))))
  .nil)
   .nil)
 (.cons (.iff (.and (.cmp .Eq (.v 5) (.str "either")) (.cmp .Eq (.meth (.v 0) "word_at" (.cons (.ix (.v 1) (.int 1)) .nil)) (.str "l")))
   (.cons (.ret (.lst (.cons (.tup (.cons (.tup (.cons (.str "left") .nil)) (.cons (.tup (.cons (.ix (.v 2) (.int 0)) (.cons (.ix (.v 3) (.int 0)) (.cons (.ix (.v 4) (.int 0)) .nil)))) .nil))) .nil)))
  .nil)
   .nil)
 (.cons (.iff (.cmp .Eq (.v 5) (.str "either"))
   (.cons (.ret (.lst (.cons (.tup (.cons (.tup (.cons (.str "right") .nil)) (.cons (.tup (.cons (.ix (.v 2) (.int 1)) (.cons (.ix (.v 3) (.int 0)) (.cons (.ix (.v 4) (.int 0)) .nil)))) .nil))) .nil)))
  .nil)
   .nil)
 (.cons (.set 6 (.lzip (.meth (.v 0) "within" (.cons (.ix (.v 3) (.int 0)) .nil)) (.meth (.v 0) "within" (.cons (.ix (.v 4) (.int 0)) .nil))))
 (.cons (.set 7 (.call "things" (.cons (.meth (.v 0) "tuple_at" (.cons (.ix (.v 2) (.int 0)) .nil)) .nil)))
 (.cons (.ret (.comp ["kinds","thing","given"] [2] 2 (.tup [1,2]) (.zip (.v 7) (.v 6)) .non (.tup (.cons (.tup (.cons (.str "give") (.cons (.v 1) .nil))) (.cons (.tup (.cons (.ix (.v 0) (.int 1)) (.cons (.ix (.v 2) (.int 0)) (.cons (.ix (.v 2) (.int 1)) .nil)))) .nil)))))
 .nil))))))))))⟩
noncomputable def ac7:Def:=⟨3,["kind","thing","looks","here","look"],
 (.cons (.set 3 (.tup (.cons (.v 0) (.cons (.v 1) .nil))))
 (.cons (.for (.n 4) (.seq (.v 2))
   (.cons (.set 3 (.call "looked_once" (.cons (.ix (.v 3) (.int 0)) (.cons (.ix (.v 3) (.int 1)) (.cons (.v 4) .nil)))))
  (.cons (.iff (.isN (.v 3))
    (.cons (.ret .non)
   .nil)
    .nil)
  .nil)))
 (.cons (.ret (.v 3))
 .nil)))⟩
noncomputable def Q6:Def:=⟨3,["kind","thing","look"],
 (.cons (.iff (.cmp .Eq (.ix (.v 2) (.int 0)) (.str "first"))
   (.cons (.ret (.tup (.cons (.ix (.v 0) (.int 1)) (.cons (.ix (.v 1) (.int 1)) .nil))))
  .nil)
   .nil)
 (.cons (.iff (.cmp .Eq (.ix (.v 2) (.int 0)) (.str "second"))
   (.cons (.ret (.tup (.cons (.ix (.v 0) (.int 2)) (.cons (.ix (.v 1) (.int 2)) .nil))))
  .nil)
   .nil)
 (.cons (.iff (.cmp .Eq (.ix (.v 2) (.int 0)) (.str "give"))
   (.cons (.ret (.tup (.cons (.ix (.v 0) (.int 2)) (.cons (.call "gift" (.cons (.v 0) (.cons (.v 1) (.cons (.ix (.v 2) (.int 1)) .nil)))) .nil))))
  .nil)
   .nil)
 (.cons (.iff (.cmp .Eq (.ix (.v 2) (.int 0)) (.str "left"))
   (.cons (.ret (.ite (.cmp .Eq (.ix (.v 1) (.int 0)) (.str "l")) (.tup (.cons (.ix (.v 0) (.int 1)) (.cons (.ix (.v 1) (.int 1)) .nil))) .non))
  .nil)
   .nil)
 (.cons (.ret (.ite (.cmp .Eq (.ix (.v 1) (.int 0)) (.str "r")) (.tup (.cons (.ix (.v 0) (.int 2)) (.cons (.ix (.v 1) (.int 1)) .nil))) .non))
 .nil)))))⟩
noncomputable def D9:Def:=⟨1,["_law_script","_law_deck_here","_law_k","_law_cell","_law_j","_law_number"],
 (.cons (.set 1 (.lst .nil))
 (.cons (.for (.n 2) (.rng (.min (.int 63) (.len (.v 0))))
   (.cons (.set 3 (.ix (.v 0) (.v 2)))
  (.cons (.iff (.cmp .GtE (.v 3) (.bin .Pow (.int 10) (.int 18)))
    (.cons (.for (.n 4) (.rng (.int 60))
     (.cons (.iff (.cmp .Gt (.v 3) (.int 0))
      (.cons (.ex (.app (.v 1) (.bin .Mod (.v 3) (.int 720720))))
     (.cons (.set 3 (.bin .FloorDiv (.v 3) (.int 720720)))
     .nil))
      .nil)
    .nil))
   .nil)
    (.cons (.set 5 (.bin .Mod (.bin .Add (.bin .Add (.bin .Mult (.bin .Mod (.v 3) (.int 2147483629)) (.int 48271)) (.bin .Mult (.int 7919) (.v 2))) (.int 13)) (.int 2147483629)))
   (.cons (.set 5 (.bin .Mod (.bin .Add (.bin .Mult (.v 5) (.bin .Add (.bin .FloorDiv (.v 5) (.int 5)) (.int 16807))) (.bin .Mult (.int 69621) (.v 2))) (.int 2147483587)))
   (.cons (.ex (.ext (.v 1) (.lst (.cons (.bin .Mod (.v 5) (.int 720720)) (.cons (.bin .Mod (.bin .Mod (.bin .Mult (.v 5) (.int 40692)) (.int 2147483399)) (.int 720720)) .nil)))))
   .nil))))
  .nil)))
 (.cons (.for (.n 2) (.rng2 (.len (.v 1)) (.int 150))
   (.cons (.set 5 (.int 11))
  (.cons (.iff (.cmp .Gt (.len (.v 0)) (.int 0))
    (.cons (.set 5 (.bin .Mod (.ix (.v 0) (.bin .Mod (.v 2) (.min (.int 63) (.len (.v 0))))) (.int 2147483629)))
   .nil)
    .nil)
  (.cons (.set 5 (.bin .Mod (.bin .Add (.bin .Add (.bin .Mult (.v 5) (.int 48271)) (.bin .Mult (.int 7919) (.v 2))) (.int 13)) (.int 2147483629)))
  (.cons (.set 5 (.bin .Mod (.bin .Add (.bin .Mult (.v 5) (.bin .Add (.bin .FloorDiv (.v 5) (.int 5)) (.int 16807))) (.bin .Mult (.int 69621) (.v 2))) (.int 2147483587)))
  (.cons (.ex (.app (.v 1) (.bin .Mod (.bin .Mod (.bin .Mult (.v 5) (.int 40692)) (.int 2147483399)) (.int 720720))))
  .nil))))))
 (.cons (.ret (.sl (.v 1) .non (.int 150)))
 .nil))))⟩
noncomputable def ac4:Def:=⟨2,["_law_deck_here","_law_many_here"],
 (.cons (.iff (.cmp .Eq (.len (.v 0)) (.int 0))
   (.cons (.ret (.int 0))
  .nil)
   .nil)
 (.cons (.ret (.bin .Mod (.popAt (.v 0) (.int 0)) (.v 1)))
 .nil))⟩
noncomputable def Q7:Def:=⟨2,["_law_deck_here","_law_deep","_law_two","_law_way","_law_one"],
 (.cons (.set 2 (.tup (.cons (.str "either") (.cons (.tup (.cons (.str "one") .nil)) (.cons (.tup (.cons (.str "one") .nil)) .nil)))))
 (.cons (.set 3 (.call "_law_next" (.cons (.v 0) (.cons (.ix (.lst (.cons (.int 3) (.cons (.int 9) .nil))) (.toInt (.cmp .Gt (.v 1) (.int 0)))) .nil))))
 (.cons (.iff (.cmp .Lt (.v 3) (.int 3))
   (.cons (.ret (.ix (.lst (.cons (.tup (.cons (.str "one") .nil)) (.cons (.v 2) (.cons (.v 2) .nil)))) (.v 3)))
  .nil)
   .nil)
 (.cons (.iff (.cmp .Eq (.v 3) (.int 3))
   (.cons (.ret (.tup (.cons (.str "way") (.cons (.tup (.cons (.str "none") .nil)) (.cons (.v 2) .nil)))))
  .nil)
   .nil)
 (.cons (.iff (.cmp .Eq (.v 3) (.int 8))
   (.cons (.ret (.tup (.cons (.str "either") (.cons (.tup (.cons (.str "none") .nil)) (.cons (.call "_law_kind" (.cons (.v 0) (.cons (.bin .Sub (.v 1) (.int 1)) .nil))) .nil)))))
  .nil)
   .nil)
 (.cons (.set 4 (.call "_law_kind" (.cons (.v 0) (.cons (.bin .Sub (.v 1) (.int 1)) .nil))))
 (.cons (.ret (.tup (.cons (.ix (.lst (.cons (.str "either") (.cons (.str "both") (.cons (.str "way") (.cons (.str "both") .nil))))) (.bin .Sub (.v 3) (.int 4))) (.cons (.v 4) (.cons (.call "_law_kind" (.cons (.v 0) (.cons (.int 0) .nil))) .nil)))))
 .nil)))))))⟩
noncomputable def V7:Def:=⟨1,["_law_kind_here","_law_one","_law_other","_law_found","_law_turn"],
 (.cons (.iff (.cmp .In (.ix (.v 0) (.int 0)) (.tup (.cons (.str "none") (.cons (.str "one") .nil))))
   (.cons (.ret (.toInt (.cmp .Eq (.ix (.v 0) (.int 0)) (.str "one"))))
  .nil)
   .nil)
 (.cons (.set 1 (.call "_law_many" (.cons (.ix (.v 0) (.int 1)) .nil)))
 (.cons (.set 2 (.call "_law_many" (.cons (.ix (.v 0) (.int 2)) .nil)))
 (.cons (.iff (.cmp .Eq (.ix (.v 0) (.int 0)) (.str "either"))
   (.cons (.ret (.bin .Add (.v 1) (.v 2)))
  .nil)
   .nil)
 (.cons (.iff (.cmp .Eq (.ix (.v 0) (.int 0)) (.str "both"))
   (.cons (.ret (.bin .Mult (.v 1) (.v 2)))
  .nil)
   .nil)
 (.cons (.set 3 (.int 1))
 (.cons (.for (.n 4) (.rng (.v 1))
   (.cons (.set 3 (.bin .Mult (.v 3) (.v 2)))
  .nil))
 (.cons (.ret (.v 3))
 .nil))))))))⟩
noncomputable def ab6:Def:=⟨2,["_law_many_here","_law_some","_law_found","_law_turn","_law_wider","_law_row"],
 (.cons (.set 2 (.lst (.cons (.tup .nil) .nil)))
 (.cons (.for (.n 3) (.rng (.v 0))
   (.cons (.set 4 (.lst .nil))
  (.cons (.for (.n 5) (.seq (.v 2))
    (.cons (.ex (.ext (.v 4) (.comp ["_law_row","_law_thing"] [5] 1 (.n 1) (.seq (.v 1)) .non (.bin .Add (.v 0) (.tup (.cons (.v 1) .nil))))))
   .nil))
  (.cons (.set 2 (.v 4))
  .nil))))
 (.cons (.ret (.v 2))
 .nil)))⟩
noncomputable def L0:Def:=⟨1,["_law_kind_here","_law_one","_law_other","_law_found","_law_thing"],
 (.cons (.iff (.cmp .Eq (.ix (.v 0) (.int 0)) (.str "none"))
   (.cons (.ret (.lst .nil))
  .nil)
   .nil)
 (.cons (.iff (.cmp .Eq (.ix (.v 0) (.int 0)) (.str "one"))
   (.cons (.ret (.lst (.cons (.tup .nil) .nil)))
  .nil)
   .nil)
 (.cons (.set 1 (.call "_law_things" (.cons (.ix (.v 0) (.int 1)) .nil)))
 (.cons (.set 2 (.call "_law_things" (.cons (.ix (.v 0) (.int 2)) .nil)))
 (.cons (.iff (.cmp .Eq (.ix (.v 0) (.int 0)) (.str "either"))
   (.cons (.ret (.bin .Add (.comp ["_law_thing"] [] 1 (.n 0) (.seq (.v 1)) .non (.tup (.cons (.str "l") (.cons (.v 0) .nil)))) (.comp ["_law_thing"] [] 1 (.n 0) (.seq (.v 2)) .non (.tup (.cons (.str "r") (.cons (.v 0) .nil))))))
  .nil)
   .nil)
 (.cons (.iff (.cmp .Eq (.ix (.v 0) (.int 0)) (.str "way"))
   (.cons (.ret (.comp ["_law_row"] [] 1 (.n 0) (.seq (.call "_law_rows_of" (.cons (.len (.v 1)) (.cons (.v 2) .nil)))) .non (.tup (.cons (.str "w") (.cons (.v 0) .nil)))))
  .nil)
   .nil)
 (.cons (.set 3 (.lst .nil))
 (.cons (.for (.n 4) (.seq (.v 1))
   (.cons (.ex (.ext (.v 3) (.comp ["_law_thing","_law_there"] [4] 1 (.n 1) (.seq (.v 2)) .non (.tup (.cons (.str "p") (.cons (.v 0) (.cons (.v 1) .nil)))))))
  .nil))
 (.cons (.ret (.v 3))
 .nil)))))))))⟩
noncomputable def ab8:Def:=⟨1,["_law_kind_here"],
 (.cons (.iff (.cmp .Eq (.ix (.v 0) (.int 0)) (.str "both"))
   (.cons (.ret (.lst (.cons (.tup (.cons (.str "first") .nil)) (.cons (.tup (.cons (.str "second") .nil)) .nil))))
  .nil)
   .nil)
 (.cons (.iff (.cmp .Eq (.ix (.v 0) (.int 0)) (.str "either"))
   (.cons (.ret (.lst (.cons (.tup (.cons (.str "left") .nil)) (.cons (.tup (.cons (.str "right") .nil)) .nil))))
  .nil)
   .nil)
 (.cons (.iff (.cmp .Eq (.ix (.v 0) (.int 0)) (.str "way"))
   (.cons (.ret (.comp ["_law_thing"] [] 1 (.n 0) (.seq (.call "_law_things" (.cons (.ix (.v 0) (.int 1)) .nil))) .non (.tup (.cons (.str "give") (.cons (.v 0) .nil)))))
  .nil)
   .nil)
 (.cons (.ret (.lst .nil))
 .nil))))⟩
noncomputable def V6:Def:=⟨3,["_law_kind_here","_law_thing","_law_look"],
 (.cons (.iff (.cmp .Eq (.ix (.v 2) (.int 0)) (.str "first"))
   (.cons (.ret (.tup (.cons (.ix (.v 0) (.int 1)) (.cons (.ix (.v 1) (.int 1)) .nil))))
  .nil)
   .nil)
 (.cons (.iff (.cmp .Eq (.ix (.v 2) (.int 0)) (.str "second"))
   (.cons (.ret (.tup (.cons (.ix (.v 0) (.int 2)) (.cons (.ix (.v 1) (.int 2)) .nil))))
  .nil)
   .nil)
 (.cons (.iff (.cmp .Eq (.ix (.v 2) (.int 0)) (.str "give"))
   (.cons (.ret (.tup (.cons (.ix (.v 0) (.int 2)) (.cons (.ix (.ix (.v 1) (.int 1)) (.index (.call "_law_things" (.cons (.ix (.v 0) (.int 1)) .nil)) (.ix (.v 2) (.int 1)))) .nil))))
  .nil)
   .nil)
 (.cons (.iff (.cmp .NotEq (.ix (.v 1) (.int 0)) (.ix (.ix (.v 2) (.int 0)) (.int 0)))
   (.cons (.ret .non)
  .nil)
   .nil)
 (.cons (.ret (.tup (.cons (.ix (.v 0) (.bin .Add (.int 1) (.toInt (.cmp .Eq (.ix (.v 1) (.int 0)) (.str "r"))))) (.cons (.ix (.v 1) (.int 1)) .nil))))
 .nil)))))⟩
noncomputable def ac1:Def:=⟨3,["_law_kind_here","_law_one","_law_other","_law_some","_law_more","_law_looks_here","_law_here","_law_a","_law_b","_law_look","_law_first","_law_second"],
 (.cons (.set 3 (.lst (.cons (.tup (.cons (.lst .nil) (.cons (.v 0) (.cons (.v 1) (.cons (.v 2) .nil))))) .nil)))
 (.cons (.while (.cmp .Gt (.len (.v 3)) (.int 0))
   (.cons (.set 4 (.lst .nil))
  (.cons (.for (.tup [5,6,7,8]) (.seq (.v 3))
    (.cons (.iff (.and (.cmp .Eq (.ix (.v 6) (.int 0)) (.str "either")) (.cmp .NotEq (.ix (.v 7) (.int 0)) (.ix (.v 8) (.int 0))))
     (.cons (.ret (.v 5))
    .nil)
     .nil)
   (.cons (.for (.n 9) (.seq (.call "_law_looks" (.cons (.v 6) .nil)))
     (.cons (.set 10 (.call "_law_beheld" (.cons (.v 6) (.cons (.v 7) (.cons (.v 9) .nil)))))
    (.cons (.set 11 (.call "_law_beheld" (.cons (.v 6) (.cons (.v 8) (.cons (.v 9) .nil)))))
    (.cons (.iff (.and (.notN (.v 10)) (.and (.notN (.v 11)) (.cmp .NotEq (.v 10) (.v 11))))
      (.cons (.ex (.app (.v 4) (.tup (.cons (.bin .Add (.v 5) (.lst (.cons (.v 9) .nil))) (.cons (.ix (.v 10) (.int 0)) (.cons (.ix (.v 10) (.int 1)) (.cons (.ix (.v 11) (.int 1)) .nil)))))))
     .nil)
      .nil)
    .nil))))
   .nil)))
  (.cons (.set 3 (.v 4))
  .nil))))
 (.cons (.ret .non)
 .nil)))⟩
noncomputable def G2:Def:=⟨1,["_law_script","_law_deck_here","_law_kind_here","_law_some","_law_one","_law_other","_law_due","_law_found","_law_here","_law_there","_law_word"],
 (.cons (.set 1 (.call "_law_deck" (.cons (.v 0) .nil)))
 (.cons (.set 2 (.call "_law_kind" (.cons (.v 1) (.cons (.int 3) .nil))))
 (.cons (.while (.cmp .Gt (.call "_law_many" (.cons (.v 2) .nil)) (.int 40))
   (.cons (.set 2 (.ix (.v 2) (.int 1)))
  .nil))
 (.cons (.set 3 (.call "_law_things" (.cons (.v 2) .nil)))
 (.cons (.iff (.or (.cmpl true (.call "things" (.cons (.v 2) .nil)) (.v 3)) (.cmp .NotEq (.call "count" (.cons (.v 2) .nil)) (.len (.v 3))))
   (.cons (.ret (.bl false))
  .nil)
   .nil)
 (.cons (.set 4 (.ix (.v 3) (.call "_law_next" (.cons (.v 1) (.cons (.len (.v 3)) .nil)))))
 (.cons (.set 5 (.ix (.v 3) (.call "_law_next" (.cons (.v 1) (.cons (.len (.v 3)) .nil)))))
 (.cons (.iff (.cmp .Eq (.call "_law_next" (.cons (.v 1) (.cons (.int 4) .nil))) (.int 0))
   (.cons (.set 5 (.v 4))
  .nil)
   .nil)
 (.cons (.set 6 (.call "_law_least" (.cons (.v 2) (.cons (.v 4) (.cons (.v 5) .nil)))))
 (.cons (.iff (.cmp .Eq (.v 4) (.v 5))
   (.cons (.ret (.and (.isN (.call "part" (.cons (.v 2) (.cons (.v 4) (.cons (.v 5) .nil))))) (.isN (.v 6))))
  .nil)
   .nil)
 (.cons (.set 7 (.call "part" (.cons (.v 2) (.cons (.v 4) (.cons (.v 5) .nil)))))
 (.cons (.iff (.or (.not (.isList (.v 7))) (.or (.cmpl true (.v 7) (.v 6)) (.cmpl true (.call "part" (.cons (.v 2) (.cons (.v 5) (.cons (.v 4) .nil)))) (.v 6))))
   (.cons (.ret (.bl false))
  .nil)
   .nil)
 (.cons (.set 8 (.call "looked" (.cons (.v 2) (.cons (.v 4) (.cons (.v 7) .nil)))))
 (.cons (.set 9 (.call "looked" (.cons (.v 2) (.cons (.v 5) (.cons (.v 7) .nil)))))
 (.cons (.iff (.or (.isN (.v 8)) (.or (.isN (.v 9)) (.or (.cmp .NotEq (.ix (.v 8) (.int 0)) (.ix (.v 9) (.int 0))) (.cmp .NotEq (.ix (.ix (.v 8) (.int 0)) (.int 0)) (.str "either")))))
   (.cons (.ret (.bl false))
  .nil)
   .nil)
 (.cons (.iff (.or (.cmpl true (.sorted (.lst (.cons (.ix (.ix (.v 8) (.int 1)) (.int 0)) (.cons (.ix (.ix (.v 9) (.int 1)) (.int 0)) .nil)))) (.lst (.cons (.str "l") (.cons (.str "r") .nil)))) (.cmp .NotEq (.call "looked" (.cons (.v 2) (.cons (.v 4) (.cons (.lst .nil) .nil)))) (.tup (.cons (.v 2) (.cons (.v 4) .nil)))))
   (.cons (.ret (.bl false))
  .nil)
   .nil)
 (.cons (.set 10 (.dsel ["l","r"] (.cons (.str "right") (.cons (.str "left") .nil)) (.ix (.ix (.v 8) (.int 1)) (.int 0))))
 (.cons (.ret (.and (.isN (.call "looked" (.cons (.v 2) (.cons (.v 4) (.cons (.bin .Add (.v 7) (.lst (.cons (.tup (.cons (.v 10) .nil)) .nil))) .nil))))) (.cmpl false (.call "part" (.cons (.v 2) (.cons (.v 4) (.cons (.v 5) .nil)))) (.v 7))))
 .nil))))))))))))))))))⟩
noncomputable def X2:List (Str×Def):=[(("Shelf.__init__":Str),ab0),(("Shelf.laid":Str),ab7),(("Shelf.numbered":Str),aa9),(("Shelf.tuple_at":Str),ab1),(("Shelf.word_at":Str),ab2),(("Shelf.within":Str),ab5),(("made_of_parts":Str),ac2),(("order_of_few":Str),ac6),(("taken":Str),ah0),(("tuples_in":Str),ab9),(("are_alike":Str),ac0),(("count":Str),ad0),(("things":Str),ae1),(("gift":Str),ad1),(("place_of":Str),ac5),(("built_up":Str),ad3),(("joined_count":Str),ab4),(("power":Str),N2),(("joined_things":Str),ac3),(("pairs":Str),af7),(("rows_over":Str),ac9),(("part":Str),N3),(("looks_at_both":Str),ab3),(("looked":Str),ac7),(("looked_once":Str),Q6),(("_law_deck":Str),D9),(("_law_next":Str),ac4),(("_law_kind":Str),Q7),(("_law_many":Str),V7),(("_law_rows_of":Str),ab6),(("_law_things":Str),L0),(("_law_looks":Str),ab8),(("_law_beheld":Str),V6),(("_law_least":Str),ac1),(("law":Str),G2)]
noncomputable def ag6:j9:=fun f=>X2.lookup f
noncomputable def G3:Gs:=⟨fun g=>[],fun c=>if c="!kt" then ["n"]else if c="Shelf" then ["numbers","stored","parts","waiting"]else [],fun g=>if g="FEW" then some 2000 else none⟩
end Ek
namespace Ek
open PySem L2
set_option hygiene false
local macro_rules | `(tactic| walk_at "ek")=>`(tactic| try simp only [ao1,al2,au1,U7,aq8,ak1,as9,af6,ak4,ap3,aq3,at8,P9,U6,e_v,as3,at4,ap0,ao7,U4,ao6,am3,U9,av0,as7,at2,V5,au8,at3,ap2,ag1,ah3,ag8,ar8,ah8,ah2,ai3,ae6,ag9,ag3,ah1,al4,af8,ae9,ai4,ar5,ai0,aj0,af9,af2,as6,af1,al9,ak0,at9,ah9,at0,aj1,am6,aq7,ae4,W2,av8,aq1,X6,ai1,ai5,ak6,ai9,aq4,aj9,ao0,ao2,ag4,am8,ao5,ap1,ap7,ai8,ag5,al6,X4,X1,aq0,ar2,aj7,as2,am7,av3,av4,V2,au5,as0,au4,ar6,am5,ap8,aj8,au0,av9,au3,or_false,false_or,ak3,ai6,ai2,ak8,Y0,aj6,al8,aq9,am9,as5,as8,ao9,ar7,ap6,aq2,au6,ar1,aa7,ap9,aa6,av6,av7,av2,aa3,ar9,am1,ap5,as4,aj3,ah7,af3,al1,ag2,X5,aj2,ac8,ad5,as1,List.set_cons_zero,List.set_cons_succ,List.getElem?_cons_zero,List.getElem?_cons_succ,decide_eq_true_eq,Bool.not_eq_true',decide_eq_false_iff_not,if_true,if_false,true_and,and_true,Bool.false_eq_true,Bool.true_eq_false,List.length_cons,List.length_nil,String.reduceEq,decide_true,decide_false,Bool.not_true,Bool.not_false])
set_option hygiene true
set_option hygiene false
local macro_rules | `(tactic| walk_at "es")=>`(tactic| ((try dsimp only);rw [T9];walk_at "ek"))
set_option hygiene true
structure PSh(P:j9)(G:Gs):Prop extends PM P G where
 init:P (i5 "Shelf" "__init__")=some ab0
 laid:P (i5 "Shelf" "laid")=some ab7
 numb:P (i5 "Shelf" "numbered")=some aa9
 tup:P (i5 "Shelf" "tuple_at")=some ab1
 word:P (i5 "Shelf" "word_at")=some ab2
 wthn:P (i5 "Shelf" "within")=some ab5
 tin:P "tuples_in"=some ab9
 cls:G.cls "Shelf"=[("numbers":Str),("stored":Str),("parts":Str),("waiting":Str)]
 kt:G.cls "!kt"≠[]
noncomputable def u6(ns:List Nat):D:=.tup (ns.map fun(n:Nat)=>D.int (n:Int))
structure It3 where
 fr:List D
 ns:List Nat
 t:D
noncomputable def It3.key(e:It3):D:=.tup [.tup e.fr,u6 e.ns]
inductive Lay:D→Prop where
 |mk {fr inn:List D}:(∀d∈fr,∃s:String,d=.str s)→(∀d∈inn,Lay d)→fr.length≤10→inn.length≤1000→Lay (.tup (fr++inn))
structure Wf(S:List It3):Prop where
 wh:∀(i:Nat)(e:It3),S[i]?=some e→(∀d∈e.fr,∃s:String,d=.str s)∧∃inn,e.t=.tup (e.fr++inn)∧inn.length=e.ns.length∧∀(j n:Nat),e.ns[j]?=some n→n<i∧∃e',S[n]?=some e'∧inn[j]?=some e'.t
 nd:(S.map It3.key).Nodup
structure ShA(sh dn sa pa wa:Addr)(S:List It3)(st:Sto):Prop where
 ins:st sh=some (.ins "Shelf" [(("numbers":Str),D.ref dn),(("stored":Str),D.ref sa),(("parts":Str),D.ref pa),(("waiting":Str),D.ref wa)])
 num:st dn=some (.dtt (S.mapIdx fun i e=>(e.key.py,.int i)))
 sto:st sa=some (.lst (S.map It3.t))
 par:st pa=some (.lst (S.map fun e=>u6 e.ns))
 wai:∃o,st wa=some o
 wf:Wf S
 ml:S.length≤10000
 fl:∀e∈S,e.fr.length≤10∧e.ns.length≤1000
theorem bi1{fr fr' inn inn':List D}(h1:∀d∈fr,∃s:String,d=.str s)(h2:∀d∈fr',∃s:String,d=.str s)(h3:∀d∈inn,∃l,d=.tup l)(h4:∀d∈inn',∃l,d=.tup l)(h:fr++inn=fr'++inn'):fr=fr'∧inn=inn':=by
 induction fr generalizing fr' with
 |nil=>
  cases fr' with
  |nil=>exact⟨rfl,h⟩
  |cons x fr'=>
   obtain⟨s,rfl⟩:=h2 x (by simp);rw[List.nil_append,List.cons_append]at h;obtain⟨l,e⟩:=h3 (.str s) (by rw[h];simp);cases e
 |cons x fr ih=>
  cases fr' with
  |nil=>
   obtain⟨s,rfl⟩:=h1 x (by simp);rw[List.nil_append,List.cons_append]at h;obtain⟨l,e⟩:=h4 (.str s) (by rw[←h];simp);cases e
  |cons y fr'=>
   rw[List.cons_append,List.cons_append,List.cons.injEq]at h;obtain⟨rfl,h⟩:=h;obtain⟨rfl,rfl⟩:=ih (fun d hd=>h1 d (by simp[hd])) (fun d hd=>h2 d (by simp[hd])) h;exact⟨rfl,rfl⟩
theorem Wf.inn{S:List It3}(w:Wf S){i:Nat}{e:It3}(h:S[i]?=some e):∃inn,e.t=.tup (e.fr++inn)∧inn.length=e.ns.length∧(∀d∈inn,∃l,d=.tup l)∧∀(j n:Nat),e.ns[j]?=some n→n<i∧∃e',S[n]?=some e'∧inn[j]?=some e'.t:=by
 obtain⟨_,inn,h1,h2,h3⟩:=w.wh i e h;refine⟨inn,h1,h2,fun d hd=>?_,h3⟩;obtain⟨j,hj⟩:=List.mem_iff_getElem?.mp hd;have hjl:j<e.ns.length:=by rw[←h2];exact(List.getElem?_eq_some_iff.mp hj).1
 obtain⟨_,e',he',hi⟩:=h3 j _ (List.getElem?_eq_getElem hjl);rw[hj]at hi;obtain⟨_,inn',h1',_⟩:=w.wh _ e' he';cases hi;exact⟨_,h1'⟩
theorem Wf.inj{S:List It3}(w:Wf S):∀(m:Nat){i j:Nat}{e e':It3},i≤m→S[i]?=some e→S[j]?=some e'→e.t=e'.t→i=j:=by
 intro m
 induction m using Nat.strongRecOn with
 |ind m ih=>
 intro i j e e' him hi hj ht;obtain⟨inn,h1,h2,h3,h4⟩:=w.inn hi;obtain⟨inn',h1',h2',h3',h4'⟩:=w.inn hj;rw[h1,h1']at ht;have ht':e.fr++inn=e'.fr++inn':=by injection ht
 obtain⟨ef,ei⟩:=bi1 (w.wh i e hi).1 (w.wh j e' hj).1 h3 h3' ht';subst ei;have en:e.ns=e'.ns:=by
  refine List.ext_getElem? fun k=>?_
  by_cases hk:k<e.ns.length
  ·have hk':k<e'.ns.length:=by rw[←h2',h2];exact hk
   obtain⟨l1,f,hf,g1⟩:=h4 k _ (List.getElem?_eq_getElem hk);obtain⟨l2,f',hf',g2⟩:=h4' k _ (List.getElem?_eq_getElem hk');rw[g1]at g2;have:=ih e.ns[k] (by omega) (Nat.le_refl _) hf hf' (by injection g2);rw[List.getElem?_eq_getElem hk,List.getElem?_eq_getElem hk',this]
  ·rw[List.getElem?_eq_none (by omega),List.getElem?_eq_none (by rw[←h2',h2];omega)]
 have ek:e.key=e'.key:=by unfold It3.key;rw[ef,en]
 exact ad7 w.nd i j e.key (by rw[List.getElem?_map,hi];rfl) (by rw[List.getElem?_map,hj,ek];rfl)
mutual
theorem X8:∀d:D,d.lit=true→NK.lit d.py=true
 |.int _,_=>rfl
 |.str _,h=>h
 |.tup ds,h=>bl3 ds h
 |.non,h=>nomatch h
 |.bl _,h=>nomatch h
 |.ref _,h=>nomatch h
 |.fn _,h=>nomatch h
theorem bl3:∀ds:List D,D.lits ds=true→NK.lits (D.pys ds)=true
 |[],_=>rfl
 |d::r,h=>by
  have h':d.lit=true∧D.lits r=true:=by simpa[D.lits]using h
  show(NK.lit d.py&&NK.lits (D.pys r))=true;rw[X8 d h'.1,bl3 r h'.2];rfl
end
theorem a52{x y:D}(hx:x.lit=true)(hy:y.lit=true)(h:x.py=y.py):x=y:=by
 refine(R9 x y hx hy).mp ?_;unfold deq;rw[h];exact(NK.eqv_lit _ _ (X8 y hy) (X8 y hy)).mpr rfl
theorem bj4{e:It3}(h:∀d∈e.fr,∃s:String,d=.str s):e.key.lit=true:=by
 have h1:D.lits e.fr=true:=E8.mpr fun d hd=>by obtain⟨s,rfl⟩:=h d hd;exact B4 s
 have h2:(u6 e.ns).lit=true:=E8.mpr fun d hd=>by
  obtain⟨n,_,rfl⟩:=List.mem_map.mp hd;rfl
 show D.lits [.tup e.fr,u6 e.ns]=true;rw[A6,A6,B1,z5,h1,h2];rfl
theorem cr2{e:It3}(h:∀d∈e.fr,∃s:String,d=.str s):j5 e.key≤2:=by
 unfold It3.key;rw[v7];have h1:o5 e.fr≤0:=by
  generalize e.fr=l at h
  induction l with
  |nil=>exact Nat.le_refl _
  |cons d l ih=>
   obtain⟨s,rfl⟩:=h d (by simp);have:=ih fun d hd=>h d (by simp[hd]);show max (j5 (.str s)) (o5 l)≤0;rw[v6];omega
 have h2:∀ns:List Nat,o5 (ns.map fun(n:Nat)=>D.int (n:Int))≤0:=fun ns=>by
  induction ns with
  |nil=>exact Nat.le_refl _
  |cons n ns ih=>
   show max (j5 (.int n)) (o5 _)≤0;rw[T3];omega
 have h3:=h2 e.ns;show max (j5 (.tup e.fr)) (max (j5 (u6 e.ns)) 0)+1≤2;unfold u6;rw[v7,v7];omega
theorem bb9:∀(S:List It3)(k:D)(o:Nat),(∀e∈S,e.key.py≠k.py)→z8 (S.mapIdx fun i e=>(e.key.py,D.int ((o+i:Nat):Int))) k.py=none
 |[],k,o,_=>by simp[z8]
 |e::S,k,o,h=>by
  have:=bb9 S k (o+1) fun e' he=>h e' (by simp[he]);rw[List.mapIdx_cons];unfold z8 at this ⊢;rw[List.find?_cons,decide_eq_false (h e (by simp))];simp only;simpa[Nat.add_assoc,Nat.add_comm 1]using this
theorem bc5:∀(S:List It3)(k:D)(o i:Nat)(e:It3),S[i]?=some e→e.key.py=k.py→(∀j e',j<i→S[j]?=some e'→e'.key.py≠k.py)→z8 (S.mapIdx fun i e=>(e.key.py,D.int ((o+i:Nat):Int))) k.py=some (.int ((o+i:Nat):Int))
 |[],k,o,i,e,h,_,_=>by simp at h
 |x::S,k,o,0,e,h,hk,_=>by
  simp at h;subst h;rw[List.mapIdx_cons];unfold z8;rw[List.find?_cons,decide_eq_true hk];rfl
 |x::S,k,o,i+1,e,h,hk,hj=>by
  have:=bc5 S k (o+1) i e (by simpa using h) hk fun j e' hji he'=>hj (j+1) e' (by omega) (by simpa using he');rw[List.mapIdx_cons];unfold z8 at this ⊢;rw[List.find?_cons,decide_eq_false (hj 0 x (by omega) rfl)];simp only;simpa[Nat.add_assoc,Nat.add_comm 1]using this
theorem bh0:∀{a b:List Nat},u6 a=u6 b→a=b:=by
 intro a b h;unfold u6 at h;injection h with h
 induction a generalizing b with
 |nil=>cases b with
  |nil=>rfl
  |cons y b=>simp at h
 |cons x a ih=>cases b with
  |nil=>simp at h
  |cons y b=>
   rw[List.map_cons,List.map_cons,List.cons.injEq]at h;have hx:x=y:=by have h1:=h.1;injection h1 with h1;omega
   rw[hx,ih h.2]
theorem cn6{S:List It3}{ns:List Nat}{x y:List D}(hx:x.length=ns.length)(hy:y.length=ns.length)(h1:∀(j n:Nat),ns[j]?=some n→∃e,S[n]?=some e∧x[j]?=some e.t)(h2:∀(j n:Nat),ns[j]?=some n→∃e,S[n]?=some e∧y[j]?=some e.t):x=y:=by
 refine List.ext_getElem? fun j=>?_
 by_cases hj:j<ns.length
 ·obtain⟨e,he,g1⟩:=h1 j _ (List.getElem?_eq_getElem hj);obtain⟨e',he',g2⟩:=h2 j _ (List.getElem?_eq_getElem hj);rw[he]at he';cases he';rw[g1,g2]
 ·rw[List.getElem?_eq_none (by omega),List.getElem?_eq_none (by omega)]
section
variable {P:j9} {G:Gs} (T:PSh P G)
include T
theorem bx7{n:Nat}{st:Sto}{Q:DK}{sh dn sa pa wa:Addr}{S:List It3}(A:ShA sh dn sa pa wa S st)(hd:[sh,dn,sa,pa].Nodup){fr inn:List D}{ns:List Nat}(hfr:∀d∈fr,∃s:String,d=.str s)(hlen:inn.length=ns.length)(hns:∀(j n:Nat),ns[j]?=some n→∃e,S[n]?=some e∧inn[j]?=some e.t)(b1:fr.length≤10)(b2:ns.length≤1000)(b3:S.length<10000)
  (q:∀m S' st',ShA sh dn sa pa wa S' st'→S <+: S'→S'.length≤S.length+1→S'[m]?=some ⟨fr,ns,.tup (fr++inn)⟩→Kp [dn,sa,pa] st st'→Q (.int (m:Nat)) st'):sem P G (n+1) (i5 "Shelf" "numbered") [.ref sh,.tup fr,u6 ns] st Q:=by
 obtain⟨E,hE⟩:∃E:It3,E=⟨fr,ns,.tup (fr++inn)⟩:=⟨_,rfl⟩;have hk:E.key=.tup [.tup fr,u6 ns]:=by rw[hE];rfl
 have hlE:=bj4 (e:=E) (by rw[hE];exact hfr);have hdE:=cr2 (e:=E) (by rw[hE];exact hfr);have hkey:D.key (.tup [.tup fr,u6 ns]):=by
  rw[←hk];exact⟨X8 _ hlE,Nat.le_trans hdE (by decide)⟩
 have hlS:∀e∈S,e.key.lit=true:=fun e he=>by
  obtain⟨i,hi⟩:=List.mem_iff_getElem?.mp he;exact bj4 (A.wf.wh i e hi).1
 have hidx:(S.mapIdx fun i e=>(e.key.py,D.int i))=S.mapIdx fun i e=>(e.key.py,D.int ((0+i:Nat):Int)):=by
  congr 1;funext i e;rw[Nat.zero_add]
 refine j6 T.numb rfl [some (.ref sh),some (.tup fr),some (u6 ns),none,none] rfl ?_;unfold aa9;walk_at "es";walk_at "es";refine⟨sh,"Shelf",_,.ref dn,rfl,A.ins,by show _∈G.cls "Shelf";rw[T.cls];simp,rfl,⟨_,A.num⟩,_,A.num,hkey,?_⟩;rw[←hk]
 by_cases hex:∃(i:Nat)(e:It3),S[i]?=some e∧e.key=E.key
 ·obtain⟨i,e,hi,he⟩:=hex;have hl:z8 (S.mapIdx fun i e=>(e.key.py,D.int i)) E.key.py=some (.int i):=by
   rw[hidx,bc5 S E.key 0 i e hi (by rw[he]) fun j e' hj he' z=>?_,Nat.zero_add];have hz:=a52 (hlS e' (List.mem_of_getElem? he')) hlE z;have:=ad7 A.wf.nd j i E.key (by rw[List.getElem?_map,he'];exact congrArg some hz) (by rw[List.getElem?_map,hi];exact congrArg some he);omega
  rw[hl];walk_at "es";refine .inr ⟨nofun,?_⟩;walk_at "ek";walk_at "es";refine d9 (q i S st A (List.prefix_refl S) (by omega) ?_ Kp.refl);rw[hi];have hk2:e.key=.tup [.tup fr,u6 ns]:=by rw[he,hk]
  unfold It3.key at hk2;injection hk2 with hk2
  simp only[List.cons.injEq,and_true]at hk2;obtain⟨k1,k2⟩:=hk2;injection k1 with k1
  have k3:e.ns=ns:=bh0 k2;obtain⟨inn',h1,h2,_,h4⟩:=A.wf.inn hi;have:inn'=inn:=cn6 h2 (by rw[k3];exact hlen) (fun j n hj=>(h4 j n hj).2) (by rw[k3];exact hns);obtain⟨a,b,c⟩:=e;simp only at k1 k3 h1;subst k1;subst k3;subst this;rw[h1]
 ·have hno:∀e∈S,e.key.py≠E.key.py:=fun e he z=>hex (by
   obtain⟨i,hi⟩:=List.mem_iff_getElem?.mp he;exact⟨i,e,hi,a52 (hlS e he) hlE z⟩)
  have hl:z8 (S.mapIdx fun i e=>(e.key.py,D.int i)) E.key.py=none:=by rw[hidx];exact bb9 S E.key 0 hno
  rw[hl];walk_at "es";refine .inl ⟨rfl,?_⟩;walk_at "ek";walk_at "es";have hc:∀f∈[("numbers":Str),("stored":Str),("parts":Str),("waiting":Str)],f∈G.cls "Shelf":=fun f hf=>by rw[T.cls];exact hf
  refine⟨sh,"Shelf",_,.ref sa,rfl,A.ins,hc _ (by simp),rfl,?_⟩;rw[u1 (.inl A.sto),List.length_map];walk_at "es";refine⟨sh,"Shelf",_,.ref dn,rfl,A.ins,hc _ (by simp),rfl,?_⟩;rw[hk];refine⟨_,A.num,hkey,E6 (by rw[List.length_mapIdx];omega),?_⟩;rw[←hk];simp only[List.nodup_cons,List.mem_cons,List.not_mem_nil,or_false,not_or]at hd;obtain⟨⟨d1,d2,d3⟩,⟨d4,d5⟩,d6,_⟩:=hd;have hput:M8 (S.mapIdx fun i e=>(e.key.py,D.int i)) E.key.py (.int S.length)=(S++[E]).mapIdx fun i e=>(e.key.py,D.int i):=by
   unfold M8;rw[if_neg,List.mapIdx_append]
   ·simp
   ·rw[Bool.not_eq_true,List.any_eq_false];intro x hx;rw[List.mem_mapIdx]at hx;obtain⟨i,hi,rfl⟩:=hx;simpa using hno _ (List.getElem_mem hi)
  rw[hput];have a1:∀u,d7 st dn u sh=some (.ins "Shelf" [(("numbers":Str),D.ref dn),(("stored":Str),D.ref sa),(("parts":Str),D.ref pa),(("waiting":Str),D.ref wa)]):=fun u=>j3 A.ins d1;walk_at "es";have n1:=j3 (u:=.dtt ((S++[E]).mapIdx fun i e=>(e.key.py,D.int i))) A.sto (fun z=>d4 z.symm);have n2:=j3 (u:=.dtt ((S++[E]).mapIdx fun i e=>(e.key.py,D.int i))) A.par (fun z=>d5 z.symm);have n0:d7 st dn (.dtt ((S++[E]).mapIdx fun i e=>(e.key.py,D.int i))) dn=_:=d8;have a0:=a1 (.dtt ((S++[E]).mapIdx fun i e=>(e.key.py,D.int i)));have nw:∃o,d7 st dn (.dtt ((S++[E]).mapIdx fun i e=>(e.key.py,D.int i))) wa=some o:=by
   by_cases z:wa=dn
   ·exact⟨_,by rw[z];exact d8⟩
   ·obtain⟨o,e⟩:=A.wai;exact⟨o,j3 e z⟩
  have K0:Kp [dn,sa,pa] st (d7 st dn (.dtt ((S++[E]).mapIdx fun i e=>(e.key.py,D.int i)))):=Kp.refl.put (by simp);revert n1 n2 n0 a0 nw K0;generalize d7 st dn (.dtt ((S++[E]).mapIdx fun i e=>(e.key.py,D.int i)))=st1;intro n1 n2 n0 a0 nw K0;refine⟨sh,"Shelf",_,.ref sa,rfl,a0,hc _ (by simp),rfl,by rw[z6 (.inl n1)];trivial,.inl ⟨_,rfl,by simp only[List.length_map];omega,?_⟩⟩;refine W4 (fun l acc env' st'=>st'=st1∧∃(pre suf:List Nat)(x:Option D),ns=pre++suf∧l=suf.map (fun(n:Nat)=>D.int (n:Int))∧acc=inn.take pre.length∧env'=[some (.ref sh),x]) ?_ ?_ _ _ _ _ ⟨rfl,[],ns,none,rfl,rfl,by simp,rfl⟩
  ·rintro acc env' st' ⟨rfl,pre,suf,x,e,el,rfl,rfl⟩;have:suf=[]:=by simpa using el.symm
   subst this;rw[List.append_nil]at e;subst e;rw[←hlen,List.take_length];refine⟨trivial,fun p hp=>⟨A8 (by omega),?_⟩⟩;have g1:=i7 (u:=.lst inn) n1 hp;rw[J5 g1];refine⟨E6 (by rw[List.length_map];omega),?_⟩;have g2:=j3 (u:=.lst (S.map It3.t++[.tup (fr++inn)])) (i7 (u:=.lst inn) n2 hp) (fun z=>d6 z.symm);have g3:=j3 (u:=.lst (S.map It3.t++[.tup (fr++inn)])) (i7 (u:=.lst inn) n0 hp) d4;have g4:=j3 (u:=.lst (S.map It3.t++[.tup (fr++inn)])) (i7 (u:=.lst inn) a0 hp) d2;have g5:d7 (d7 st' p (.lst inn)) sa (.lst (S.map It3.t++[.tup (fr++inn)])) sa=_:=d8;have gw:∃o,d7 (d7 st' p (.lst inn)) sa (.lst (S.map It3.t++[.tup (fr++inn)])) wa=some o:=by
    by_cases z:wa=sa
    ·exact⟨_,by rw[z];exact d8⟩
    ·obtain⟨o,e⟩:=nw;exact⟨o,j3 (i7 e hp) z⟩
   have K1:Kp [dn,sa,pa] st (d7 (d7 st' p (.lst inn)) sa (.lst (S.map It3.t++[.tup (fr++inn)]))):=(K0.new hp).put (by simp);revert g2 g3 g4 g5 gw K1;generalize d7 (d7 st' p (.lst inn)) sa (.lst (S.map It3.t++[.tup (fr++inn)]))=st2;intro g2 g3 g4 g5 gw K1;walk_at "es";refine⟨sh,"Shelf",_,.ref pa,rfl,g4,hc _ (by simp),rfl,by rw[z6 (.inl g2)];trivial,?_⟩;rw[J5 g2];refine⟨E6 (by rw[List.length_map];omega),?_⟩;walk_at "ek";walk_at "es";refine d9 (q S.length (S++[E]) _ ⟨j3 g4 d3,j3 g3 d5,?_,?_,?_,⟨fun i e hi=>?_,?_⟩,by simp;omega,fun e he=>?_⟩ (List.prefix_append S [E]) (by simp) (by rw[List.getElem?_append_right (Nat.le_refl _),Nat.sub_self,hE];rfl) (K1.put (by simp)))
   ·rw[List.map_append,hE];exact j3 g5 d6
   ·rw[d8,List.map_append,hE];rfl
   ·by_cases z:wa=pa
    ·exact⟨_,by rw[z];exact d8⟩
    ·obtain⟨o,e⟩:=gw;exact⟨o,j3 e z⟩
   ·by_cases hil:i<S.length
    ·rw[List.getElem?_append_left hil]at hi;obtain⟨h1,inn',h2,h3,h4⟩:=A.wf.wh i e hi;refine⟨h1,inn',h2,h3,fun j n hj=>?_⟩;obtain⟨l1,e',he',g⟩:=h4 j n hj;exact⟨l1,e',by rw[List.getElem?_append_left (by omega)];exact he',g⟩
    ·rw[List.getElem?_append_right (by omega)]at hi;have hi0:i-S.length=0:=by have:=(List.getElem?_eq_some_iff.mp hi).1;simp at this;omega
     rw[hi0]at hi;simp at hi;subst hi;rw[hE];refine⟨hfr,inn,rfl,hlen,fun j n hj=>?_⟩;obtain⟨e',he',g⟩:=hns j n hj;have:=(List.getElem?_eq_some_iff.mp he').1;exact⟨by omega,e',by rw[List.getElem?_append_left this];exact he',g⟩
   ·rw[List.map_append,List.nodup_append];refine⟨A.wf.nd,by simp,fun x hx y hy z=>?_⟩;simp at hy;subst hy;obtain⟨e,he,rfl⟩:=List.mem_map.mp hx;exact hno e he (by rw[z])
   ·rcases List.mem_append.mp he with he|he
    ·exact A.fl e he
    ·rw[List.mem_singleton]at he;subst he;rw[hE];exact⟨b1,b2⟩
  ·rintro d ds acc env' st' ih ⟨rfl,pre,suf,x,e,el,rfl,rfl⟩;refine⟨trivial,?_⟩;cases suf with
   |nil=>simp at el
   |cons m suf=>
    simp only[List.map_cons,List.cons.injEq]at el;obtain⟨rfl,rfl⟩:=el;obtain⟨e',he',g⟩:=hns pre.length m (by rw[e];simp);walk_at "ek";refine⟨sh,"Shelf",_,.ref sa,rfl,a0,hc _ (by simp),rfl,?_⟩;rw[D4 (.inl n1)];refine⟨e'.t,by rw[B7,List.getElem?_map,he'];rfl,ih _ _ _ ⟨rfl,pre++[m],suf,_,by rw[e];simp,rfl,?_,rfl⟩⟩;rw[List.length_append,List.length_cons,List.length_nil,List.take_add_one,g];rfl
end
noncomputable def z9:D→Bool
 |.tup _=>true
 |_=>false
noncomputable def V4:D→List D
 |.tup ds=>ds.filter z9
 |_=>[]
mutual
noncomputable def dsz:D→Nat
 |.tup ds=>1+F8 ds
 |_=>1
noncomputable def F8:List D→Nat
 |[]=>0
 |d::r=>(if z9 d then dsz d else 0)+F8 r
end
theorem bg1:∀ds:List D,F8 ds=((ds.filter z9).map dsz).sum
 |[]=>rfl
 |d::r=>by
  rw[F8,bg1 r,List.filter_cons]
  by_cases h:z9 d=true
  ·rw[if_pos h,if_pos h,List.map_cons,List.sum_cons]
  ·rw[if_neg h,if_neg h,Nat.zero_add]
theorem af4(t:D):dsz t=1+((V4 t).map dsz).sum:=by
 cases t<;>first|rfl|skip
 rename_i ds;rw[dsz,bg1];rfl
theorem a37{d:D}(h:Lay d):z9 d=true:=by cases h;rfl
theorem a04{fr inn:List D}(h1:∀d∈fr,∃s:String,d=.str s)(h2:∀d∈inn,z9 d=true):(fr++inn).filter z9=inn:=by
 rw[List.filter_append,List.filter_eq_nil_iff.mpr (fun d hd=>by obtain⟨s,rfl⟩:=h1 d hd;simp[z9]),List.nil_append];exact List.filter_eq_self.mpr h2
theorem cb4{t c:D}(h:Lay t)(hc:c∈V4 t):Lay c:=by
 cases h with
 |@mk fr inn h1 h2 _ _=>
  rw[V4,a04 h1 fun d hd=>a37 (h2 d hd)]at hc;exact h2 c hc
noncomputable def Nm(S:List It3)(t d:D):Prop:=∃(m:Nat)(e:It3),d=.int m∧S[m]?=some e∧e.t=t
theorem Nm.mono{S S':List It3}{t d:D}(h:Nm S t d)(hp:S <+: S'):Nm S' t d:=by
 obtain⟨m,e,rfl,h1,h2⟩:=h;obtain⟨r,rfl⟩:=hp;exact⟨m,e,rfl,by rw[List.getElem?_append_left (List.getElem?_eq_some_iff.mp h1).1];exact h1,h2⟩
theorem bi8{S:List It3}:∀{inn ds:List D},ds.length=inn.length→(∀(i:Nat)c' d,inn[i]?=some c'→ds[i]?=some d→Nm S c' d)→∃ns:List Nat,ds=ns.map (fun(n:Nat)=>D.int (n:Int))∧inn.length=ns.length∧∀(j n:Nat),ns[j]?=some n→∃e,S[n]?=some e∧inn[j]?=some e.t
 |[],ds,hlen,_=>⟨[],List.eq_nil_of_length_eq_zero (by simpa using hlen),rfl,by simp⟩
 |x::inn,[],hlen,_=>by simp at hlen
 |x::inn,d::ds,hlen,hv=>by
  obtain⟨m,e,rfl,g1,g2⟩:=hv 0 x d rfl rfl;obtain⟨ns,i1,i2,i3⟩:=bi8 (inn:=inn) (ds:=ds) (by simpa using hlen) fun i c' d' e1 e2=>hv (i+1) c' d' (by simpa using e1) (by simpa using e2);refine⟨m::ns,by rw[i1];rfl,by simp[i2],fun j n hj=>?_⟩;cases j with
  |zero=>simp at hj;subst hj;exact⟨e,g1,by rw[g2];rfl⟩
  |succ j=>
   obtain⟨e',a1,a2⟩:=i3 j n (by simpa using hj);exact⟨e',a1,by simpa using a2⟩
section
variable {P:j9} {G:Gs} (T:PSh P G)
include T
theorem cn2{n:Nat}{st:Sto}{Q:DK}{ds:List D}(hl:ds.length≤2000)(hs:∀d∈ds,d.lit=true)(q:∀a st',st a=none→st' a=some (.lst (ds.filter z9))→Kp [] st st'→Q (.ref a) st'):sem P G (n+1) "tuples_in" [.tup ds] st Q:=by
 refine j6 T.tin rfl [some (.tup ds)] rfl ?_;unfold ab9;walk_at "es";refine⟨by omega,?_⟩;refine W4 (fun l acc env' st'=>st'=st∧∃(pre:List D)(x:Option D),ds=pre++l∧acc=pre.filter z9∧env'=[x]) ?_ ?_ _ _ _ _ ⟨rfl,[],none,rfl,rfl,rfl⟩
 ·rintro acc env' st' ⟨rfl,pre,x,e,rfl,rfl⟩;rw[List.append_nil]at e;subst e;exact⟨trivial,fun p hp=>d9 (q p _ hp d8 (Kp.refl.new hp))⟩
 ·rintro d l acc env' st' ih ⟨rfl,pre,x,e,rfl,rfl⟩;refine⟨trivial,?_⟩;have hd:=hs d (by rw[e];simp);walk_at "ek";have go:∀(ty:String),tyD d st'=some ty→(ty=="tuple"||(ty=="bool"&&"tuple"=="int"))=z9 d→D5 (Zg P G n) (E.isT "tuple" (E.v 0)) [some d] st' fun b st1=>if b=true then u3 (fun x=>True) (Tg.n 0) (D5 (Zg P G n) (E.isT "tuple" (E.v 0))) (fun env st Q=>∃d,env[0]?=some (some d)∧Q d st) (fun acc st'=>∀(p:Addr),st' p=none→(o6 Q).rt (D.ref p) (d7 st' p (Ob.lst acc))) l (List.filter z9 pre++[d]) [some d] st1 else u3 (fun x=>True) (Tg.n 0) (D5 (Zg P G n) (E.isT "tuple" (E.v 0))) (fun env st Q=>∃d,env[0]?=some (some d)∧Q d st) (fun acc st'=>∀(p:Addr),st' p=none→(o6 Q).rt (D.ref p) (d7 st' p (Ob.lst acc))) l (List.filter z9 pre) [some d] st1:=fun ty h1 h2=>by
   show wpE (Zg P G n) (E.isT "tuple" (E.v 0)) [some d] st' fun x st1=>∃b,x=.bl b∧_;walk_at "ek";refine c43 h1 ?_;rw[h2];refine⟨_,rfl,?_⟩;cases hb:z9 d with
   |true=>
    rw[if_pos rfl];exact ih _ _ _ ⟨rfl,pre++[d],_,by rw[e];simp,by rw[List.filter_append];simp[hb],rfl⟩
   |false=>
    rw[if_neg (by decide)];exact ih _ _ _ ⟨rfl,pre++[d],_,by rw[e];simp,by rw[List.filter_append];simp[hb],rfl⟩
  cases d with
  |int i=>exact go "int" rfl rfl
  |str x=>exact go "str" rfl rfl
  |tup ds=>exact go "tuple" rfl rfl
  |_=>cases hd
theorem cc6:∀(m:Nat){t:D},dsz t≤m→Lay t→t.lit=true:=by
 intro m
 induction m with
 |zero=>intro t h;rw[af4]at h;omega
 |succ m ih=>
  intro t h hl;have hs:=af4 t;cases hl with
  |@mk fr inn h1 h2 _ _=>
   have ht:=a04 h1 fun d hd=>a37 (h2 d hd);rw[z5,E8];intro d hd
   rcases List.mem_append.mp hd with hd|hd
   ·obtain⟨s,rfl⟩:=h1 d hd;exact B4 s
   ·refine ih ?_ (h2 d hd);rw[V4,ht]at hs;have:=af5 dsz hd;omega
omit T in
theorem ShA.keepL{sh dn sa pa wa:Addr}{S:List It3}{st st':Sto}{L:List Addr}(A:ShA sh dn sa pa wa S st)(K:Kp L st st')(h:∀x∈L,x∉[sh,dn,sa,pa,wa]):ShA sh dn sa pa wa S st':=
 ⟨K.at' A.ins (fun z=>h _ z (by simp)),K.at' A.num (fun z=>h _ z (by simp)),K.at' A.sto (fun z=>h _ z (by simp)),K.at' A.par (fun z=>h _ z (by simp)),(by obtain⟨o,e⟩:=A.wai;exact⟨o,K.at' e (fun z=>h _ z (by simp))⟩),A.wf,A.ml,A.fl⟩
omit T in
theorem ShA.keep{sh dn sa pa wa:Addr}{S:List It3}{st st':Sto}(A:ShA sh dn sa pa wa S st)(K:Kp [] st st'):ShA sh dn sa pa wa S st':=A.keepL K (by simp)
theorem az7{n:Nat}{st:Sto}{Q:DK}{sh dn sa pa wa:Addr}{S:List It3}(hn:1≤n)(A:ShA sh dn sa pa wa S st)(hd:[sh,dn,sa,pa].Nodup){t:D}(ht:Lay t)(hz:dsz t≤2000)(hS:S.length+2000≤9000)
  (q:∀d S' st',Nm S' t d→S <+: S'→S'.length≤S.length+2000→ShA sh dn sa pa wa S' st'→Kp [sh,dn,sa,pa,wa] st st'→Q d st'):sem P G (n+3) (i5 "Shelf" "laid") [.ref sh,t] st Q:=by
 refine j6 T.laid rfl [some (.ref sh),some t,none,none,none] rfl ?_;unfold ab7;walk_at "es";walk_at "es";refine⟨by rw[T.mop];rfl,by rw[T.tin];rfl,?_⟩;obtain⟨n,rfl⟩:∃m,n=m+1:=⟨n-1,by omega⟩;refine bl5 T.toPM (n:=n+1) (T:=D) (enc:=fun d=>d) (subs:=V4) (size:=dsz) (Good:=fun d=>Lay d∧dsz d≤2000) (W:=List It3) (J:=fun S st=>ShA sh dn sa pa wa S st) (le:=fun S S'=>S <+: S') (L:=[sh,dn,sa,pa,wa]) (μ:=fun S=>S.length) (B:=S.length+2000) (fun s=>List.prefix_refl s) (fun a b=>a.trans b) ?_ af4 (fun c gc c' hc'=>⟨cb4 gc.1 hc',?_⟩) (F:=.fn "tuples_in") (show(P _).isSome=true by rw[T.tin];rfl) (show Cok P (.clo _ _ _ _) from trivial) t hz ⟨ht,hz⟩ (V:=fun _ S t d _=>Nm S t d) (fun v l _=>v.mono l) (by omega) A ?_ ?_ ?_ ?_
 ·intro S st st' d A hdn K;simp only[List.mem_cons,List.not_mem_nil,or_false,not_or]at hdn;obtain⟨h1,h2,h3,h4,h5⟩:=hdn;exact⟨K.at' A.ins (by simp;exact fun z=>h1 z.symm),K.at' A.num (by simp;exact fun z=>h2 z.symm),K.at' A.sto (by simp;exact fun z=>h3 z.symm),K.at' A.par (by simp;exact fun z=>h4 z.symm),(by obtain⟨o,e⟩:=A.wai;exact⟨o,K.at' e (by simp;exact fun z=>h5 z.symm)⟩),A.wf,A.ml,A.fl⟩
 ·have:=af4 c;have:=af5 dsz hc';have:=gc.2;omega
 ·rintro S st A a ha;simp only[List.mem_cons,List.not_mem_nil,or_false]at ha
  rcases ha with rfl|rfl|rfl|rfl|rfl
  ·exact⟨_,A.ins⟩
  ·exact⟨_,A.num⟩
  ·exact⟨_,A.sto⟩
  ·exact⟨_,A.par⟩
  ·exact A.wai
 ·intro c st' Q S' gc _ A' K q;have hlit:=cc6 T _ (Nat.le_refl _) gc.1;obtain⟨gl,_⟩:=gc;cases gl with
  |@mk fr inn h1 h2 b1 b2=>
   refine cn2 T (by rw[List.length_append];omega) (E8.mp (by rw[z5]at hlit;exact hlit)) fun a st2 ha hs K2=>q _ _ _ (.inr ⟨a,rfl,ha,?_⟩) (List.prefix_refl _) (Nat.le_refl _) (A'.keep K2) (K2.more (by simp));rw[hs,List.map_id'];rfl
 ·intro c _ la st' Q ds S' gc hμ A' K _ hla _ _ hl hlen hv _ q;obtain⟨gl,_⟩:=gc;cases gl with
  |@mk fr inn h1 h2 b1 b2=>
   have hf:=a04 h1 fun d hd=>a37 (h2 d hd);simp only[V4,hf]at hlen hv;obtain⟨ns,hns,hnl,hnn⟩:=bi8 hlen hv;refine a01 rfl [some (.tup (fr++inn)),some (.ref la),some (.ref sh)] rfl ?_;walk_at "es";refine⟨sh,"Shelf",_,rfl,A'.ins,rfl,by rw[T.numb];rfl,?_⟩;rw[u1 (.inl hl)];walk_at "ek";rw[bk0 (.inl hl)];have hcut:y8 (fr++inn) none (some (((fr++inn).length:Int)-(ds.length:Int)))=fr:=by
    rw[List.length_append,hlen,show(((fr.length+inn.length:Nat):Int)-(inn.length:Int))=((fr.length:Nat):Int) by omega,cr4];simp
   rw[hcut,hns];refine bx7 T A' hd h1 hnl hnn b1 (by omega) (by have:=A'.ml;omega) fun m S2 st2 A2 hp2 hl2 hm2 K2=>d9 (q _ S2 st2 ⟨m,_,rfl,hm2,rfl⟩ hp2 hl2 A2 (K2.more (by simp)))
 ·intro _ d S' st' _ v l hμ A' K;exact d9 (q d S' st' v l hμ A' K)
end
structure PK81(P:j9)(G:Gs):Prop extends PG1 P G,PSh P G where
 count:P "count"=some ad0
 jcount:P "joined_count"=some ab4
 power:P "power"=some N2
 part:P "part"=some N3
 atboth:P "looks_at_both"=some ab3
 looked:P "looked"=some ac7
 once:P "looked_once"=some Q6
 deck:P "_law_deck"=some D9
 next:P "_law_next"=some ac4
 kind:P "_law_kind"=some Q7
 many:P "_law_many"=some V7
 rowsof:P "_law_rows_of"=some ab6
 lthings:P "_law_things"=some L0
 lks:P "_law_looks"=some ab8
 beheld:P "_law_beheld"=some V6
 least:P "_law_least"=some ac1
 law:P "law"=some G2
theorem bi6{k h a b:Kd}(hh:h∈k.pre)(hs:h.subs=[a,b]):a∈k.pre∧b∈k.pre:=by
 have ha:=ae3 a;have hb:=ae3 b;refine⟨ax3 hh ?_,ax3 hh ?_⟩<;>(rw[be7 h,hs];simp;simp[ha,hb])
section
variable {P:j9} {G:Gs} (T:PK81 P G)
include T
theorem cs6{n:Nat}{st:Sto}{Q:DK}{b e:Nat}(hb:max b (max 1 (b^e))<2^20000)(q:Q (.int (b^e:Nat)) st):sem P G (n+1) "power" [.int b,.int e] st Q:=by
 refine j6 T.power rfl [some (.int b),some (.int e),none,none,none] rfl ?_;unfold N2;walk_at "es";walk_at "es";walk_at "es";walk_at "es";refine Q8 (fun m env st'=>st'=st∧∃(an sq:Nat),env=[some (.int b),some (.int e),some (.int an),some (.int sq),some (.int m)]∧an*sq^m=b^e∧an≤max 1 (b^e)∧sq≤max b (max 1 (b^e))) ?_ e _ _ ⟨rfl,1,b,rfl,by simp,by omega,by omega⟩;rintro m env st' W ⟨rfl,an,sq,rfl,h1,h2,h3⟩ ih;rw[R5];walk_at "ek";cases m with
 |zero=>
  rw[if_neg (by simp)];walk_at "es";simp only[Nat.pow_zero,Nat.mul_one]at h1;rw[h1];exact d9 q
 |succ m=>
  rw[if_pos (by omega)];have hmod:(((m+1:Nat):Int) % 2=1)↔(m+1) % 2=1:=by omega
  have hdiv:(((m+1:Nat):Int) / 2)=(((m+1) / 2:Nat):Int):=by omega
  have fin:∀an':Nat,an'*(sq*sq)^((m+1) / 2)=b^e→an'≤max 1 (b^e)→m9 (Zg P G n) (match N2.body.drop 3 with|.cons (.while _ b) _=>b.drop 1|_=>.nil) ⟨W,(o6 Q).rt,m9 (Zg P G n) (N2.body.drop 4) (o6 Q),W⟩ [some (.int b),some (.int e),some (.int an'),some (.int sq),some (.int (m+1:Nat))] st':=by
   intro an' e1 e2;simp only[N2,Ss.drop];walk_at "es";refine⟨⟨by decide,by decide⟩,?_⟩;rw[hdiv];walk_at "es"
   by_cases h0:(0:Int)<(((m+1) / 2:Nat):Int)
   ·simp only[h0,if_true];walk_at "es";refine⟨.inr ⟨by omega,by omega⟩,ih ((m+1) / 2) _ _ (by omega) ⟨rfl,an',sq*sq,by rw[Int.natCast_mul],e1,e2,?_⟩⟩
    by_cases ha:an'=0
    ·subst ha;have hz:b^e=0:=by rw[←e1];simp
     have hb0:b=0:=by
      by_cases hb0:b=0
      ·exact hb0
      ·exact absurd hz (Nat.pos_iff_ne_zero.mp (Nat.pow_pos (Nat.pos_of_ne_zero hb0)))
     have:sq≤1:=by rw[hz,hb0]at h3;simpa using h3
     have:sq*sq≤1*1:=Nat.mul_le_mul this this;omega
    ·by_cases hs:sq=0
     ·subst hs;simp
     ·have p1:sq*sq≤(sq*sq)^((m+1) / 2):=by
       have:=Nat.pow_le_pow_right (show 0<sq*sq from Nat.mul_pos (Nat.pos_of_ne_zero hs) (Nat.pos_of_ne_zero hs)) (show 1≤(m+1) / 2 by omega);simpa using this
      have p2:(sq*sq)^((m+1) / 2)≤an'*(sq*sq)^((m+1) / 2):=Nat.le_mul_of_pos_left _ (Nat.pos_of_ne_zero ha);omega
   ·simp only[h0,if_false];walk_at "ek";have hz:(m+1) / 2=0:=by omega
    exact ih ((m+1) / 2) _ _ (by omega) ⟨rfl,an',sq,rfl,by rw[hz]at e1 ⊢;simpa using e1,e2,h3⟩
  walk_at "es";refine⟨by decide,?_⟩
  by_cases hodd:(m+1) % 2=1
  ·simp only[hmod.mpr hodd,if_true];walk_at "es";have ee:an*sq*(sq*sq)^((m+1) / 2)=b^e:=by
    rw[←h1,Nat.mul_assoc,←Nat.pow_two,←Nat.pow_mul];have:m+1=2*((m+1) / 2)+1:=by omega
    rw[show sq^(m+1)=sq^(2*((m+1) / 2)+1) by rw[←this],Nat.pow_succ,Nat.mul_comm (sq^_) sq]
   refine⟨.inr ⟨by omega,by omega⟩,?_⟩;rw[←Int.natCast_mul];refine fin (an*sq) ee ?_
   by_cases hs:sq=0
   ·subst hs;simp
   ·have:an*sq≤an*sq*(sq*sq)^((m+1) / 2):=Nat.le_mul_of_pos_right _ (Nat.pow_pos (Nat.mul_pos (Nat.pos_of_ne_zero hs) (Nat.pos_of_ne_zero hs)));omega
  ·rw[if_neg (fun z=>hodd (hmod.mp z))];walk_at "ek";refine fin an ?_ h2;rw[←h1,←Nat.pow_two,←Nat.pow_mul];rw[show 2*((m+1) / 2)=m+1 by omega]
noncomputable def Kd.big(k:Kd):Prop:=∀h∈k.pre,h.cnt<2^9000
theorem cm8{n:Nat}{st:Sto}{Q:DK}{k:Kd}(hn:6≤n)(hs:k.size≤2000)(hb:k.big)(q:∀st',Kp [] st st'→Q (.int k.cnt) st'):sem P G n "count" [k.d] st Q:=by
 obtain⟨n,rfl⟩:∃m,n=m+6:=⟨n-6,by omega⟩;refine j6 T.count rfl [some k.d] rfl ?_;unfold ad0;walk_at "es";refine⟨by rw[T.bu];rfl,fun pd hpd=>⟨by rw[T.jcount];rfl,?_⟩⟩;refine bf5 T.toPT0 (n:=n+2) (V:=fun _ k d _=>d=.int k.cnt) (fun h _=>h) k hs (by omega) (v0:=.int 0) (v1:=.int 1) d8 (by rw[T.jcount];rfl) (fun _ _ _ _=>rfl) (fun _ _ _ _=>rfl) (fun h a b dn d1 d2 st' Q hh _ hsub v1 v2 _ q=>?_) fun dn d st' _ v K=>?_
 ·subst v1 v2;have ha:=hb a (bi6 hh hsub).1;have hbb:=hb b (bi6 hh hsub).2;have hhh:=hb h hh;have e2:(2:Nat)^9000<2^20000:=Nat.pow_lt_pow_right (by decide) (by decide);refine j6 T.jcount rfl [some (.str h.w),some (.int a.cnt),some (.int b.cnt)] rfl ?_;unfold ab4;cases h with
  |non=>cases hsub
  |one=>cases hsub
  |eith a' b'=>
   cases hsub;simp only[Kd.w];walk_at "es";walk_at "es";exact d9 (q _ _ (by simp[Kd.cnt]) Kp.refl)
  |both a' b'=>
   cases hsub;simp only[Kd.w];walk_at "es";walk_at "es";walk_at "es";exact⟨.inr ⟨by omega,by omega⟩,d9 (q _ _ (by simp[Kd.cnt]) Kp.refl)⟩
  |way a' b'=>
   cases hsub;simp only[Kd.w];walk_at "es";walk_at "es";walk_at "es";have hw:b.cnt^a.cnt<2^9000:=hhh;have e1:(1:Nat)<2^9000:=Nat.one_lt_two_pow (by decide);refine⟨by rw[T.power];rfl,cs6 T (by omega) (d9 (q _ _ rfl Kp.refl))⟩
 ·subst v;exact d9 (q st' ((Kp.refl.new hpd).trans K))
theorem b16{n:Nat}{st:Sto}{Q:DK}{m:Nat}{sa:Addr}{cs:List D}(h2:st sa=some (.lst cs))(hz:max 1 (cs.length^m)≤100000)(hm:m≤1000)(hc:cs.length≤100000)(q:∀a st',st a=none→st' a=some (.lst ((o7 m cs).map D.tup))→Kp [] st st'→Q (.ref a) st'):sem P G (n+1) "_law_rows_of" [.int m,.ref sa] st Q:=by
 refine j6 T.rowsof rfl [some (.int m),some (.ref sa),none,none,none,none] rfl ?_;unfold ab6;walk_at "es";intro ra hra;walk_at "es";refine⟨by omega,?_⟩;refine v5 (fun l env st'=>∃(i:Nat)(ra:Addr)(x3 x4 x5:Option D),i+l.length=m∧env=[some (.int m),some (.ref sa),some (.ref ra),x3,x4,x5]∧st ra=none∧st' ra=some (.lst ((o7 i cs).map D.tup))∧Kp [] st st') ?_ ?_ _ _ _ ⟨0,ra,none,none,none,by simp[p8],rfl,hra,d8,Kp.refl.new hra⟩
 ·rintro env st' ⟨i,ra,x3,x4,x5,hi,rfl,hra,hs,K⟩;refine⟨trivial,?_⟩;walk_at "es";simp only[List.length_nil,Nat.add_zero]at hi;subst hi;exact d9 (q ra st' hra hs K)
 ·rintro d ds env st' ih ⟨i,ra,x3,x4,x5,hi,rfl,hra,hs,K⟩;refine⟨trivial,?_⟩;simp only[List.length_cons]at hi;walk_at "ek";walk_at "es";intro la hla;have hrl:ra≠la:=m7 hs hla;have hsl:st la=none:=by
   cases z:st la with
   |none=>rfl
   |some u=>rw[K.at' z (by simp)]at hla;cases hla
  walk_at "es";refine⟨_,.inl (i7 hs hla),?_⟩;have b1:=ad6 (c:=cs.length) (i:=i+1) (n:=m) (by omega);have b0:=ad6 (c:=cs.length) (i:=i) (n:=m) (by omega);refine v5 (fun l env st2=>∃(pre suf:List (List D))(x5:Option D),o7 i cs=pre++suf∧l=suf.map D.tup∧env=[some (.int m),some (.ref sa),some (.ref ra),some d,some (.ref la),x5]∧st2 la=some (.lst ((pre.flatMap fun r=>cs.map fun c=>r++[c]).map D.tup))∧st2 ra=some (.lst ((o7 i cs).map D.tup))∧Kp [] st st2) ?_ ?_ _ _ _ ⟨[],o7 i cs,_,rfl,rfl,rfl,d8,i7 hs hla,K.new hla⟩
  ·rintro env st2 ⟨pre,suf,x5,e,el,rfl,hl,hr,K2⟩;refine⟨.inl hr,?_⟩;have es:suf=[]:=by simpa using el.symm
   subst es;rw[List.append_nil]at e;walk_at "es";exact ih _ _ ⟨i+1,la,_,_,_,by omega,rfl,hsl,by rw[o7,e];exact hl,K2⟩
  ·rintro d2 ds2 env st2 ih2 ⟨pre,suf,x5,e,el,rfl,hl,hr,K2⟩;refine⟨.inl hr,?_⟩;cases suf with
   |nil=>simp at el
   |cons r suf=>
    simp only[List.map_cons,List.cons.injEq]at el;obtain⟨rfl,rfl⟩:=el;have h2':=K2.at' h2 (by simp);have hlr:pre.length+(suf.length+1)=cs.length^i:=by have:=R3 i cs;rw[e]at this;simpa using this
    have hrl2:r.length≤1000:=by
     have rl:∀(i:Nat),∀r∈o7 i cs,r.length=i:=fun i=>by
      induction i with
      |zero=>intro r hr;simp[o7]at hr;simp[hr]
      |succ i ihh=>
       intro r hr;simp only[o7,List.mem_flatMap,List.mem_map]at hr;obtain⟨r',hr',c,_,rfl⟩:=hr;simp[ihh r' hr']
     have:=rl i r (by rw[e];simp);omega
    walk_at "ek";walk_at "es";rw[z6 (.inl hl)];refine⟨trivial,cs,.inl h2',by omega,?_⟩;refine C7 (fun c=>.tup (r++[c])) (fun env=>∃x,env=[some (.tup r),x]) (fun env y h=>by obtain⟨x,rfl⟩:=h;exact⟨_,rfl⟩) (fun env K h=>h) (fun env y K h hk=>by
     obtain⟨x,rfl⟩:=h;walk_at "ek";exact⟨A8 (by omega),hk⟩) (.inl h2') _ _ _ ⟨none,rfl⟩ ?_
    intro p hp;rw[P1 (i7 hl hp) d8];have el2:(pre.flatMap fun r=>cs.map fun c=>r++[c]).length=pre.length*cs.length:=N7 _ _ (fun x=>by simp) _;have hle:pre.length*cs.length+cs.length≤100000:=by
     have h3:(pre.length+1)*cs.length≤cs.length^i*cs.length:=Nat.mul_le_mul_right _ (by omega);rw[Nat.add_mul,Nat.one_mul]at h3;rw[Nat.pow_succ]at b1;omega
    refine⟨A8 (by rw[List.length_map,el2];simp only[List.nil_append,List.length_map];omega),?_⟩;walk_at "ek";have hrp:ra≠p:=m7 hr hp;refine ih2 _ _ ⟨pre++[r],suf,_,by rw[e];simp,rfl,rfl,?_,j3 (i7 hr hp) hrl,fun b u nb eb=>j3 (i7 (K2 b u nb eb) hp) (fun z=>by rw[z,hsl]at eb;cases eb)⟩;rw[d8,List.flatMap_append,List.map_append];simp[List.map_map,Function.comp_def]
theorem R0{n:Nat}{st:Sto}{Q:DK}{a:Addr}{m:Int}(hm:0<m)(h:C3 st a)(q:∀r st',0≤r→r<m→C3 st' a→Kp [a] st st'→Q (.int r) st'):sem P G (n+1) "_law_next" [.ref a,.int m] st Q:=by
 obtain⟨l,h⟩:=h;refine j6 T.next rfl [some (.ref a),some (.int m)] rfl ?_;unfold ac4;dsimp only;walk_at "es";rw[u1 (.inl h)];walk_at "ek";cases l with
 |nil=>
  rw[if_pos (by simp)];walk_at "es";exact d9 (q 0 st (Int.le_refl _) hm ⟨[],h⟩ Kp.refl)
 |cons x l=>
  rw[if_neg (by simp only[List.map_cons,List.length_cons];omega)];walk_at "es";rw[z6 (.inl h)];refine⟨trivial,⟨by decide,by decide⟩,_,0,.int x,h,by simp[ixN],rfl,?_⟩;simp only[Y0];refine⟨hm,d9 (q _ _ (Int.emod_nonneg _ (by omega)) (Int.emod_lt_of_pos _ hm) ⟨l,?_⟩ (Kp.refl.put (by simp)))⟩;rw[d8];rfl
theorem b54{n:Nat}{st:Sto}{Q:DK}{a:Addr}{ns:List Int}(hl:ns.length≤63)(h:rdS st a (ns.map D.int))(q:∀p st',C3 st' p→Kp [] st st'→Q (.ref p) st'):sem P G (n+1) "_law_deck" [.ref a] st Q:=by
 refine j6 T.deck rfl [some (.ref a),none,none,none,none,none] rfl ?_;unfold D9;walk_at "es";intro p hp;have hpa:a≠p:=h.elim (fun h=>m7 h hp) (fun h=>m7 h hp);walk_at "es";have h1:rdS (d7 st p (.lst [])) a (ns.map D.int):=h.elim (fun h=>.inl (i7 h hp)) (fun h=>.inr (i7 h hp));rw[u1 h1];walk_at "ek";simp only[List.length_map];have hmin:(if(ns.length:Int)<63 then(ns.length:Int)else 63)=(ns.length:Int):=by split<;>omega
 rw[hmin];refine⟨by omega,?_⟩;have keepA:∀{st':Sto}{u:Ob},rdS st' a (ns.map D.int)→rdS (d7 st' p u) a (ns.map D.int):=fun h=>h.elim (fun h=>.inl (j3 h hpa)) (fun h=>.inr (j3 h hpa));have keepK:∀{st':Sto}{u:Ob},Kp [] st st'→Kp [] st (d7 st' p u):=fun K b o nb e=>j3 (K b o nb e) (m7 e hp);refine v5 (fun l env st'=>∃(dk:List Int)(x2 x3 x4 x5:Option D),(∀d∈l,∃j:Nat,d=.int j∧j<ns.length)∧env=[some (.ref a),some (.ref p),x2,x3,x4,x5]∧st' p=some (.lst (dk.map D.int))∧dk.length+60*l.length≤60*63∧rdS st' a (ns.map D.int)∧Kp [] st st') ?_ ?_ _ _ _ ⟨[],_,_,_,_,fun d hd=>?_,rfl,d8,?_,h1,Kp.refl.new hp⟩
 ·rintro env st' ⟨dk,x2,x3,x4,x5,el,rfl,hd,hb,hra,K⟩;refine⟨trivial,?_⟩;walk_at "es";rw[u1 (.inl hd)];walk_at "ek";simp only[List.length_map,List.length_nil]at hb ⊢;refine⟨by omega,?_⟩;refine v5 (fun l env st'=>∃(dk:List Int)(x2 x3 x4 x5:Option D),(∀d∈l,∃i:Int,d=.int i∧0≤i)∧env=[some (.ref a),some (.ref p),x2,x3,x4,x5]∧st' p=some (.lst (dk.map D.int))∧dk.length+l.length≤10000∧rdS st' a (ns.map D.int)∧Kp [] st st') ?_ ?_ _ _ _ ⟨dk,_,_,_,_,fun d hd=>by simp only[p8,List.mem_map]at hd;obtain⟨i,_,rfl⟩:=hd;exact⟨_,rfl,by omega⟩,rfl,hd,by rw[aw0];omega,hra,K⟩
  ·rintro env st' ⟨dk,x2,x3,x4,x5,el,rfl,hd,hb,hra,K⟩;refine⟨trivial,?_⟩;walk_at "es";rw[c52 (.inl hd)];intro r hr;obtain⟨ks,ek,_⟩:=b77 (ns:=dk) (lo:=none) (hi:=some 150);rw[ek];exact d9 (q r _ ⟨ks,d8⟩ (K.new hr))
  ·rintro d ds env st' ih ⟨dk,x2,x3,x4,x5,el,rfl,hd,hb,hra,K⟩;obtain⟨i,rfl,hi0⟩:=el d (by simp);simp only[List.length_cons]at hb;refine⟨trivial,?_⟩;have fin:∀num:Int,m9 (Zg P G n) (match D9.body.drop 2 with|.cons (.for _ _ b) _=>b.drop 2|_=>.nil) ⟨u5 (fun _=>True) (.n 2) (m9 (Zg P G n) (match D9.body.drop 2 with|.cons (.for _ _ b) _=>b|_=>.nil)) ⟨m9 (Zg P G n) (D9.body.drop 3) (o6 Q),(o6 Q).rt,(o6 Q).bk,(o6 Q).ct⟩ ds,(o6 Q).rt,m9 (Zg P G n) (D9.body.drop 3) (o6 Q),u5 (fun _=>True) (.n 2) (m9 (Zg P G n) (match D9.body.drop 2 with|.cons (.for _ _ b) _=>b|_=>.nil)) ⟨m9 (Zg P G n) (D9.body.drop 3) (o6 Q),(o6 Q).rt,(o6 Q).bk,(o6 Q).ct⟩ ds⟩ [some (.ref a),some (.ref p),some (.int i),x3,x4,some (.int num)] st':=by
    intro num;simp only[D9,Ss.drop];walk_at "es";refine⟨S7 ⟨by decide,by decide⟩,T7 ⟨by decide,by decide⟩,by decide,?_⟩;walk_at "es";have e0:∀z:Int,0≤z % 2147483629∧z % 2147483629<2147483629:=fun z=>⟨Int.emod_nonneg _ (by decide),Int.emod_lt_of_pos _ (by decide)⟩;refine⟨⟨by decide,by decide⟩,T7 (by have:=e0 (num*48271+7919*i+13);omega),T7 ⟨by decide,by decide⟩,by decide,?_⟩;walk_at "es";rw[z6 (.inl hd)];refine⟨trivial,S7 ⟨by decide,by decide⟩,by decide,by decide,?_⟩;rw[J5 hd];refine⟨E6 (by simp only[List.length_map];omega),?_⟩;refine ih _ _ ⟨dk++[_],_,_,_,_,fun d hd=>el d (by simp[hd]),rfl,by rw[d8,List.map_append];rfl,by simp only[List.length_append,List.length_cons,List.length_nil];omega,keepA hra,keepK K⟩
   walk_at "ek";walk_at "es";walk_at "es";rw[u1 hra];walk_at "ek"
   by_cases h0:(0:Int)<((ns.map D.int).length:Int)
   ·simp only[h0,if_true];walk_at "es";rw[u1 hra];walk_at "ek";simp only[List.length_map]at h0 ⊢;rw[hmin];refine⟨h0,?_⟩;rw[D4 hra];obtain⟨j,hj⟩:=Int.eq_ofNat_of_zero_le (Int.emod_nonneg i (show(ns.length:Int)≠0 by omega));have hjl:j<ns.length:=by have:=Int.emod_lt_of_pos i h0;omega
    rw[hj];refine⟨.int ns[j],by rw[B7,List.getElem?_map,List.getElem?_eq_getElem hjl];rfl,?_⟩;walk_at "ek";exact⟨by decide,fin _⟩
   ·simp only[h0,if_false];walk_at "ek";exact fin _
 ·rintro d ds env st' ih ⟨dk,x2,x3,x4,x5,el,rfl,hd,hb,hra,K⟩;obtain⟨j,rfl,hj⟩:=el d (by simp);simp only[List.length_cons]at hb;refine⟨trivial,?_⟩;walk_at "ek";walk_at "es";rw[D4 hra];refine⟨.int ns[j],by rw[B7,List.getElem?_map,List.getElem?_eq_getElem hj];rfl,?_⟩;generalize ns[j]=c;walk_at "es";refine⟨⟨by decide,by decide,by decide⟩,?_⟩
  by_cases h18:10^Int.toNat 18≤c
  ·simp only[h18,if_true];walk_at "es";refine⟨by decide,?_⟩;refine v5 (fun l env st'=>∃(dk:List Int)(c:Int)(x4:Option D),env=[some (.ref a),some (.ref p),some (.int j),some (.int c),x4,x5]∧st' p=some (.lst (dk.map D.int))∧dk.length+l.length+60*ds.length≤60*63∧rdS st' a (ns.map D.int)∧Kp [] st st') ?_ ?_ _ _ _ ⟨dk,c,_,rfl,hd,by rw[aw0];have:Int.toNat 60=60:=rfl;omega,hra,K⟩
   ·rintro env st' ⟨dk,c,x4,rfl,hd,hb,hra,K⟩;refine⟨trivial,?_⟩;walk_at "ek";exact ih _ _ ⟨dk,_,_,_,_,fun d hd=>el d (by simp[hd]),rfl,hd,by simpa using hb,hra,K⟩
   ·rintro d' ds' env st' ih2 ⟨dk,c,x4,rfl,hd,hb,hra,K⟩;refine⟨trivial,?_⟩;simp only[List.length_cons]at hb;walk_at "ek";walk_at "es"
    by_cases h0:0<c
    ·simp only[h0,if_true];walk_at "es";rw[z6 (.inl hd)];refine⟨trivial,by decide,?_⟩;rw[J5 hd];refine⟨E6 (by simp only[List.length_map];omega),?_⟩;walk_at "es";refine⟨⟨by decide,by decide⟩,ih2 _ _ ⟨dk++[_],_,_,rfl,by rw[d8,List.map_append];rfl,by simp only[List.length_append,List.length_cons,List.length_nil];omega,keepA hra,keepK K⟩⟩
    ·simp only[h0,if_false];walk_at "ek";exact ih2 _ _ ⟨dk,_,_,rfl,hd,by omega,hra,K⟩
  ·simp only[h18,if_false];walk_at "es";refine⟨by decide,S7 ⟨by decide,by decide⟩,T7 ⟨by decide,by decide⟩,by decide,?_⟩;walk_at "es";have e0:∀z:Int,0≤z % 2147483629∧z % 2147483629<2147483629:=fun z=>⟨Int.emod_nonneg _ (by decide),Int.emod_lt_of_pos _ (by decide)⟩;refine⟨⟨by decide,by decide⟩,T7 (by have:=e0 (c % 2147483629*48271+7919*j+13);omega),T7 ⟨by decide,by decide⟩,by decide,?_⟩;walk_at "es";rw[z6 (.inl hd)];refine⟨trivial,by decide,S7 ⟨by decide,by decide⟩,by decide,by decide,fun r hr=>?_⟩;rw[P1 (i7 hd hr) d8];refine⟨A8 (by simp only[List.length_map,List.length_cons,List.length_nil];omega),?_⟩;refine ih _ _ ⟨dk++[_,_],_,_,_,_,fun d hd=>el d (by simp[hd]),rfl,by rw[d8,List.map_append];rfl,by simp only[List.length_append,List.length_cons,List.length_nil];omega,keepA (hra.elim (fun h=>.inl (i7 h hr)) (fun h=>.inr (i7 h hr))),keepK (K.new hr)⟩
 ·simp only[p8,List.mem_map,List.mem_range]at hd;obtain⟨i,hi,rfl⟩:=hd;exact⟨i,by congr 1;omega,by omega⟩
 ·rw[aw0];simp only[List.length_nil];omega
end
noncomputable def bD:Nat→Nat
 |0=>2
 |d+1=>2^bD d
theorem M3:∀d,2≤bD d
 |0=>Nat.le_refl _
 |d+1=>by
  have:=M3 d;have:2^1≤2^bD d:=Nat.pow_le_pow_right (by decide) (by omega);simpa[bD]using this
theorem aw4:∀n,2≤n→2*n≤2^n
 |2,_=>by decide
 |n+3,_=>by
  have:=aw4 (n+2) (by omega);rw[show n+3=(n+2)+1 from rfl,Nat.pow_succ];omega
theorem br3(d:Nat):bD d≤bD (d+1):=by
 have:=M3 d;have:=aw4 (bD d) this;show bD d≤2^bD d;omega
noncomputable def r8:Kd:=.eith .one .one
noncomputable def Kd.gz:Kd→Prop
 |.non=>True
 |.one=>True
 |.eith a b=>a.gz∧b.gz
 |.both a b=>a.gz∧(b=.one∨b=r8)
 |.way a b=>a.gz∧(b=.one∨b=r8)
theorem ai7{b:Kd}(h:b=.one∨b=r8):b.gz∧∀x∈b.things,x.sz≤3:=by
 rcases h with rfl|rfl
 ·exact⟨trivial,fun x hx=>by simp only[Kd.things,List.mem_singleton]at hx;subst hx;decide⟩
 ·refine⟨⟨trivial,trivial⟩,fun x hx=>?_⟩;simp only[r8,Kd.things,List.map_cons,List.map_nil,List.mem_append,List.mem_singleton]at hx
  rcases hx with rfl|rfl<;>exact Nat.le_refl _
theorem U8:∀(k:Kd)(t:D),k.gz→k.bd 100→t∈k.things→t.sz≤303+5*k.nest
 |.non,t,_,_,h=>by simp[Kd.things]at h
 |.one,t,_,_,h=>by simp only[Kd.things,List.mem_singleton]at h;subst h;decide
 |.eith a b,t,g,hb,h=>by
  simp only[Kd.things,List.mem_append,List.mem_map]at h;simp only[Kd.nest]
  rcases h with⟨x,hx,rfl⟩|⟨x,hx,rfl⟩
  ·have:=U8 a x g.1 hb.1 hx;simp only[O4,L5,R7,aj5];omega
  ·have:=U8 b x g.2 hb.2.1 hx;simp only[O4,L5,R7,aj5];omega
 |.both a b,t,g,hb,h=>by
  simp only[Kd.things,List.mem_flatMap,List.mem_map]at h;simp only[Kd.nest];obtain⟨x,hx,y,hy,rfl⟩:=h;have h1:=U8 a x g.1 hb.1 hx;have h2:=(ai7 g.2).2 y hy;simp only[O4,L5,R7,aj5];omega
 |.way a b,t,g,hb,h=>by
  simp only[Kd.things,List.mem_map]at h;obtain⟨r,hr,rfl⟩:=h;obtain⟨hl,hm⟩:=W8 _ _ _ hr;rw[t4]at hl;have h1:=bn8 (m:=3) r fun d hd=>(ai7 g.2).2 d (hm d hd);have h2:=Kd.bd_le hb.1;simp only[O4,L5,R7,aj5];omega
theorem co2{k:Kd}(g:k.gz)(hb:k.bd 100)(hn:k.nest≤10):k.sml:=fun x hx=>by
 obtain⟨h1,h2⟩:=t0 k x hx;have h3:=U8 k x g hb hx;exact⟨h1,by omega,by omega⟩
noncomputable def KOk(d:Nat)(k:Kd):Prop:=(k.gz∧0<k.cnt∧(d=0→k=.one∨k=r8))∧k.nest≤d+1∧k.bd (bD d)∧(0<d→(k.cnt≤2*bD (d-1)+2∨∃a c,k=.way a c)∧∀a c,k=.eith a c∨k=.both a c∨k=.way a c→a.bd (bD (d-1))∧c.bd (bD (d-1)))
theorem a43(d:Nat):KOk d .one:=⟨⟨trivial,Nat.one_pos,fun _=>.inl rfl⟩,Nat.zero_le _,(by have:=M3 d;show 1≤bD d;omega),fun _=>⟨.inl (by show 1≤_;omega),fun a c h=>by rcases h with h|h|h<;>cases h⟩⟩
theorem T2(d:Nat):KOk d r8:=by
 have h1:=M3 d;have h2:=M3 (d-1);refine⟨⟨⟨trivial,trivial⟩,by decide,fun _=>.inr rfl⟩,by show 1≤_;omega,⟨show 1≤_ by omega,show 1≤_ by omega,show 2≤_ by omega⟩,fun _=>⟨.inl (by show 2≤_;omega),fun a c h=>?_⟩⟩
 rcases h with h|h|h<;>cases h
 exact⟨show 1≤_ by omega,show 1≤_ by omega⟩
theorem cu4(d:Nat):KOk (d+1) (.way .non r8):=by
 have h1:=M3 (d+1);have h2:=M3 d;refine⟨⟨⟨trivial,.inr rfl⟩,by decide,nofun⟩,by show 2≤_;omega,⟨trivial,⟨show 1≤_ by omega,show 1≤_ by omega,show 2≤_ by omega⟩,show 1≤_ by omega⟩,fun _=>⟨.inl (by show 1≤_;omega),fun a c h=>?_⟩⟩
 rcases h with h|h|h<;>cases h
 exact⟨trivial,show 1≤_ by simp;omega,show 1≤_ by simp;omega,show 2≤_ by simp;omega⟩
theorem cx6{d:Nat}{k:Kd}(h:KOk d k):KOk (d+1) (.eith .non k):=by
 have h1:=br3 d;obtain⟨g,ne,b,_⟩:=h;have hb:=Kd.bd_le b;refine⟨⟨⟨trivial,g.1⟩,by show 0<0+k.cnt;have:=g.2.1;omega,nofun⟩,by show 1+max 0 k.nest≤_;omega,⟨trivial,Kd.bd_mono h1 b,by show 0+k.cnt≤_;omega⟩,fun _=>⟨.inl (by show 0+k.cnt≤_;simp;omega),fun a c h=>?_⟩⟩
 rcases h with h|h|h<;>cases h
 exact⟨trivial,by simpa using b⟩
theorem aq5{d:Nat}{k g:Kd}(h:KOk d k)(hg:KOk 0 g)(w:Kd)(hw:w=.eith k g∨w=.both k g∨w=.way k g):KOk (d+1) w:=by
 have h1:=br3 d;have h2:=M3 d;obtain⟨gk,nk,bk,_⟩:=h;obtain⟨⟨gg,pg,g0⟩,ng,bg,_⟩:=hg;have pk:=gk.2.1;have ck:=Kd.bd_le bk;have cg:g.cnt≤2:=Kd.bd_le bg;have bg':g.bd (bD d):=Kd.bd_mono h2 bg;have bgs:g.bd (bD (d+1)):=Kd.bd_mono h1 bg';have h3:=aw4 (bD d) h2;have e3:bD (d+1)=2^bD d:=rfl
 rcases hw with rfl|rfl|rfl
 ·refine⟨⟨⟨gk.1,gg⟩,by show 0<k.cnt+g.cnt;omega,nofun⟩,by show 1+max k.nest g.nest≤_;omega,⟨Kd.bd_mono h1 bk,bgs,by show k.cnt+g.cnt≤_;omega⟩,fun _=>⟨.inl (by show k.cnt+g.cnt≤_;simp;omega),fun a c h=>?_⟩⟩
  rcases h with h|h|h<;>cases h
  exact⟨by simpa using bk,by simpa using bg'⟩
 ·have hm:k.cnt*g.cnt≤bD d*2:=Nat.mul_le_mul ck cg;refine⟨⟨⟨gk.1,g0 rfl⟩,Nat.mul_pos pk pg,nofun⟩,by show 1+max k.nest g.nest≤_;omega,⟨Kd.bd_mono h1 bk,bgs,by show k.cnt*g.cnt≤_;omega⟩,fun _=>⟨.inl (by show k.cnt*g.cnt≤_;simp;omega),fun a c h=>?_⟩⟩
  rcases h with h|h|h<;>cases h
  exact⟨by simpa using bk,by simpa using bg'⟩
 ·have hp:g.cnt^k.cnt≤2^bD d:=Nat.le_trans (Nat.pow_le_pow_left cg _) (Nat.pow_le_pow_right (by decide) ck);refine⟨⟨⟨gk.1,g0 rfl⟩,Nat.pow_pos pg,nofun⟩,by show 1+max k.nest g.nest≤_;omega,⟨Kd.bd_mono h1 bk,bgs,by show g.cnt^k.cnt≤_;omega⟩,fun _=>⟨.inr ⟨k,g,rfl⟩,fun a c h=>?_⟩⟩
  rcases h with h|h|h<;>cases h
  exact⟨by simpa using bk,by simpa using bg'⟩
section
variable {P:j9} {G:Gs} (T:PK81 P G)
include T
theorem b85:∀(d:Nat){n:Nat}{st:Sto}{Q:DK}{da:Addr},d+2≤n→C3 st da→(∀k st',KOk d k→C3 st' da→Kp [da] st st'→Q k.d st')→sem P G n "_law_kind" [.ref da,.int d] st Q:=by
 intro d
 induction d with
 |zero=>
  intro n st Q da hn I q;obtain⟨n,rfl⟩:∃m,n=m+2:=⟨n-2,by omega⟩;refine j6 T.kind rfl [some (.ref da),some (.int (0:Nat)),none,none,none] rfl ?_;unfold Q7;walk_at "es";walk_at "es";refine⟨by rw[T.next];rfl,fun p hp=>?_⟩;refine⟨.int 3,by simp[atI,ixN],R0 T (by decide) (I.new hp) fun r st2 r0 r1 I2 K2=>?_⟩;walk_at "es";rw[if_pos r1];walk_at "es";intro p2 hp2;have K3:Kp [da] st (d7 st2 p2 (.lst [.tup [.str "one"],r8.d,r8.d])):=((Kp.refl.new hp).trans K2).new hp2
  rcases(show r=0∨r=1∨r=2 by omega)with rfl|rfl|rfl
  ·exact⟨Kd.one.d,rfl,d9 (q .one _ (a43 0) (I2.new hp2) K3)⟩
  ·exact⟨r8.d,rfl,d9 (q r8 _ (T2 0) (I2.new hp2) K3)⟩
  ·exact⟨r8.d,rfl,d9 (q r8 _ (T2 0) (I2.new hp2) K3)⟩
 |succ d ih=>
  intro n st Q da hn I q;obtain⟨n,rfl⟩:∃m,n=m+3:=⟨n-3,by omega⟩;have zero:∀{st:Sto}{Q:DK},C3 st da→(∀k st',KOk 0 k→C3 st' da→Kp [da] st st'→Q k.d st')→sem P G (n+2) "_law_kind" [.ref da,.int (0:Nat)] st Q:=by
   intro st Q I q;refine j6 T.kind rfl [some (.ref da),some (.int (0:Nat)),none,none,none] rfl ?_;unfold Q7;walk_at "es";walk_at "es";refine⟨by rw[T.next];rfl,fun p hp=>?_⟩;refine⟨.int 3,by simp[atI,ixN],R0 T (by decide) (I.new hp) fun r st2 r0 r1 I2 K2=>?_⟩;walk_at "es";rw[if_pos r1];walk_at "es";intro p2 hp2;have K3:Kp [da] st (d7 st2 p2 (.lst [.tup [.str "one"],r8.d,r8.d])):=((Kp.refl.new hp).trans K2).new hp2
   rcases(show r=0∨r=1∨r=2 by omega)with rfl|rfl|rfl
   ·exact⟨Kd.one.d,rfl,d9 (q .one _ (a43 0) (I2.new hp2) K3)⟩
   ·exact⟨r8.d,rfl,d9 (q r8 _ (T2 0) (I2.new hp2) K3)⟩
   ·exact⟨r8.d,rfl,d9 (q r8 _ (T2 0) (I2.new hp2) K3)⟩
  refine j6 T.kind rfl [some (.ref da),some (.int (d+1:Nat)),none,none,none] rfl ?_;unfold Q7;walk_at "es";walk_at "es";have hd0:(0:Int)<((d+1:Nat):Int):=by omega
  have hd1:((d+1:Nat):Int)-1=(d:Int):=by omega
  refine⟨by rw[T.next];rfl,fun p hp=>?_⟩;simp only[hd0,decide_true,if_true];refine⟨.int 9,by simp[atI,ixN],R0 T (by decide) (I.new hp) fun r st2 r0 r1 I2 K2=>?_⟩;have K2':Kp [da] st st2:=(Kp.refl.new hp).trans K2;walk_at "es"
  by_cases h3:r<3
  ·rw[if_pos h3];walk_at "es";intro p2 hp2
   rcases(show r=0∨r=1∨r=2 by omega)with rfl|rfl|rfl
   ·exact⟨Kd.one.d,rfl,d9 (q .one _ (a43 _) (I2.new hp2) (K2'.new hp2))⟩
   ·exact⟨r8.d,rfl,d9 (q r8 _ (T2 _) (I2.new hp2) (K2'.new hp2))⟩
   ·exact⟨r8.d,rfl,d9 (q r8 _ (T2 _) (I2.new hp2) (K2'.new hp2))⟩
  ·rw[if_neg h3];walk_at "es"
   by_cases e3:r=3
   ·simp only[e3,if_true];walk_at "es";exact d9 (q (.way .non r8) st2 (cu4 d) I2 K2')
   ·simp only[e3,if_false];walk_at "es"
    by_cases e8:r=8
    ·simp only[e8,if_true];walk_at "es";rw[hd1];refine⟨by rw[T.kind];rfl,ih (by omega) I2 fun k st3 hk I3 K3=>?_⟩;walk_at "ek";exact d9 (q (.eith .non k) st3 (cx6 hk) I3 (K2'.trans K3))
    ·simp only[e8,if_false];walk_at "es";rw[hd1];refine⟨by rw[T.kind];rfl,ih (by omega) I2 fun k st3 hk I3 K3=>?_⟩;walk_at "es";intro p2 hp2;have I4:=I3.new (u:=.lst [.str "either",.str "both",.str "way",.str "both"]) hp2;have K4:=(K2'.trans K3).new (o:=.lst [.str "either",.str "both",.str "way",.str "both"]) hp2
     rcases(show r=4∨r=5∨r=6∨r=7 by omega)with rfl|rfl|rfl|rfl
     ·refine⟨.str "either",rfl,by rw[T.kind];rfl,zero I4 fun g st4 hg I5 K5=>?_⟩;walk_at "ek";exact d9 (q (.eith k g) st4 (aq5 hk hg _ (.inl rfl)) I5 (K4.trans K5))
     ·refine⟨.str "both",rfl,by rw[T.kind];rfl,zero I4 fun g st4 hg I5 K5=>?_⟩;walk_at "ek";exact d9 (q (.both k g) st4 (aq5 hk hg _ (.inr (.inl rfl))) I5 (K4.trans K5))
     ·refine⟨.str "way",rfl,by rw[T.kind];rfl,zero I4 fun g st4 hg I5 K5=>?_⟩;walk_at "ek";exact d9 (q (.way k g) st4 (aq5 hk hg _ (.inr (.inr rfl))) I5 (K4.trans K5))
     ·refine⟨.str "both",rfl,by rw[T.kind];rfl,zero I4 fun g st4 hg I5 K5=>?_⟩;walk_at "ek";exact d9 (q (.both k g) st4 (aq5 hk hg _ (.inr (.inl rfl))) I5 (K4.trans K5))
theorem b50{m:Nat}(hm:m≤2^40):∀(k:Kd){n:Nat}{st:Sto}{Q:DK},k.nest+1≤n→k.bd m→Q (.int k.cnt) st→sem P G n "_law_many" [k.d] st Q:=by
 have leaf:∀(w:String)(n:Nat)(st:Sto)(Q:DK),(w="none"∨w="one")→Q (.int (if w="one" then 1 else 0)) st→sem P G (n+1) "_law_many" [.tup [.str w]] st Q:=fun w n st Q hw q=>by
  refine j6 T.many rfl [some (.tup [.str w]),none,none,none,none] rfl ?_;unfold V7;walk_at "es";have e:(([.str "none",.str "one"]:List D).any fun y=>deq y (.str (Str.ofString w)))=true:=by
   simp only[List.any_cons,List.any_nil,F0,v3];rcases hw with rfl|rfl<;>decide
  refine⟨B3 w,by simp only[G1,N5,B3,Bool.and_self],by rw[v6];exact Nat.zero_le _,?_⟩;rw[e];walk_at "ek";walk_at "es";refine d9 ?_;simpa using q
 have node:∀(w:String)(a b:Kd)(n:Nat)(st:Sto)(Q:DK)(v:Nat),(∀Q:DK,Q (.int a.cnt) st→sem P G n "_law_many" [a.d] st Q)→(∀Q:DK,Q (.int b.cnt) st→sem P G n "_law_many" [b.d] st Q)→a.bd m→b.bd m →
   ((w="either"∧v=a.cnt+b.cnt)∨(w="both"∧v=a.cnt*b.cnt)∨(w="way"∧v=b.cnt^a.cnt∧v≤m))→Q (.int v) st→sem P G (n+1) "_law_many" [.tup [.str w,a.d,b.d]] st Q:=fun w a b n st Q v ha hb ba bb hw q=>by
  have la:=Kd.bd_le ba;have lb:=Kd.bd_le bb;refine j6 T.many rfl [some (.tup [.str w,a.d,b.d]),none,none,none,none] rfl ?_;unfold V7;walk_at "es";have e:(([.str "none",.str "one"]:List D).any fun y=>deq y (.str (Str.ofString w)))=false:=by
   simp only[List.any_cons,List.any_nil,F0,v3];rcases hw with⟨rfl,_⟩|⟨rfl,_⟩|⟨rfl,_⟩<;>decide
  refine⟨B3 w,by simp only[G1,N5,B3,Bool.and_self],by rw[v6];exact Nat.zero_le _,?_⟩;rw[e];walk_at "ek";walk_at "es";refine⟨by rw[T.many];rfl,ha _ ?_⟩;walk_at "es";refine⟨by rw[T.many];rfl,hb _ ?_⟩
  rcases hw with⟨rfl,rfl⟩|⟨rfl,rfl⟩|⟨rfl,rfl,hv⟩
  ·walk_at "es";walk_at "es";exact d9 (by simpa using q)
  ·walk_at "es";walk_at "es";walk_at "es";exact⟨S7 ⟨by omega,by omega⟩,d9 (by simpa using q)⟩
  ·walk_at "es";walk_at "es";walk_at "es";walk_at "es";refine⟨by omega,?_⟩;refine v5 (fun l env st'=>st'=st∧∃(f:Nat)(x:Option D),env=[some (.tup [.str "way",a.d,b.d]),some (.int a.cnt),some (.int b.cnt),some (.int f),x]∧f*b.cnt^l.length=b.cnt^a.cnt) ?_ ?_ _ _ _ ⟨rfl,1,none,rfl,by simp[p8]⟩
   ·rintro env st' ⟨rfl,f,x,rfl,e⟩;refine⟨trivial,?_⟩;walk_at "es";have:f=b.cnt^a.cnt:=by rw[←e];simp
    rw[this];exact d9 q
   ·rintro d ds env st' ih ⟨rfl,f,x,rfl,e⟩;refine⟨trivial,?_⟩;walk_at "ek";walk_at "es";refine⟨S7 ⟨by omega,by omega⟩,ih _ _ ⟨rfl,f*b.cnt,_,by rw[Int.natCast_mul],?_⟩⟩;rw[←e,List.length_cons,Nat.pow_succ,Nat.mul_assoc,Nat.mul_comm b.cnt]
 intro k
 induction k with
 |non=>intro n st Q hn _ q;obtain⟨n,rfl⟩:∃k,n=k+1:=⟨n-1,by omega⟩;exact leaf "none" n st Q (.inl rfl) q
 |one=>intro n st Q hn _ q;obtain⟨n,rfl⟩:∃k,n=k+1:=⟨n-1,by omega⟩;exact leaf "one" n st Q (.inr rfl) q
 |eith a b iha ihb=>
  intro n st Q hn hb q;obtain⟨n,rfl⟩:∃k,n=k+1:=⟨n-1,by omega⟩;simp only[Kd.nest]at hn;exact node "either" a b n st Q _ (fun Q q=>iha (by omega) hb.1 q) (fun Q q=>ihb (by omega) hb.2.1 q) hb.1 hb.2.1 (.inl ⟨rfl,rfl⟩) q
 |both a b iha ihb=>
  intro n st Q hn hb q;obtain⟨n,rfl⟩:∃k,n=k+1:=⟨n-1,by omega⟩;simp only[Kd.nest]at hn;exact node "both" a b n st Q _ (fun Q q=>iha (by omega) hb.1 q) (fun Q q=>ihb (by omega) hb.2.1 q) hb.1 hb.2.1 (.inr (.inl ⟨rfl,rfl⟩)) q
 |way a b iha ihb=>
  intro n st Q hn hb q;obtain⟨n,rfl⟩:∃k,n=k+1:=⟨n-1,by omega⟩;simp only[Kd.nest]at hn;exact node "way" a b n st Q _ (fun Q q=>iha (by omega) hb.1 q) (fun Q q=>ihb (by omega) hb.2.1 q) hb.1 hb.2.1 (.inr (.inr ⟨rfl,rfl,hb.2.2⟩)) q
theorem a53:∀(k:Kd){n:Nat}{st:Sto}{Q:DK},k.nest+2≤n→k.bd 100→(∀a st',st a=none→st' a=some (.lst k.things)→Kp [] st st'→Q (.ref a) st')→sem P G n "_law_things" [k.d] st Q:=by
 intro k
 induction k with
 |non=>
  intro n st Q hn _ q;obtain⟨n,rfl⟩:∃k,n=k+1:=⟨n-1,by omega⟩;refine j6 T.lthings rfl [some Kd.non.d,none,none,none,none] rfl ?_;unfold L0;simp only[Kd.d];walk_at "es";walk_at "es";exact fun p hp=>d9 (q p _ hp d8 (Kp.refl.new hp))
 |one=>
  intro n st Q hn _ q;obtain⟨n,rfl⟩:∃k,n=k+1:=⟨n-1,by omega⟩;refine j6 T.lthings rfl [some Kd.one.d,none,none,none,none] rfl ?_;unfold L0;simp only[Kd.d];walk_at "es";walk_at "es";walk_at "es";exact fun p hp=>d9 (q p _ hp d8 (Kp.refl.new hp))
 |eith a b iha ihb=>
  intro n st Q hn hb q;obtain⟨n,rfl⟩:∃k,n=k+1:=⟨n-1,by omega⟩;simp only[Kd.nest]at hn;have la:=t4 a;have lb:=t4 b;have ba:=Kd.bd_le hb.1;have bb:=Kd.bd_le hb.2.1;refine j6 T.lthings rfl [some (Kd.eith a b).d,none,none,none,none] rfl ?_;unfold L0;simp only[Kd.d];walk_at "es";walk_at "es";walk_at "es";refine⟨by rw[T.lthings];rfl,iha (by omega) hb.1 fun fa st1 hf0 hf K1=>?_⟩;walk_at "es";refine⟨by rw[T.lthings];rfl,ihb (by omega) hb.2.1 fun sa st2 hs0 hsa K2=>?_⟩;have hf2:=K2.at' hf (by simp);walk_at "es";walk_at "es";refine⟨_,.inl hf2,by omega,?_⟩;refine C7 (fun t=>.tup [.str "l",t]) (fun env=>∃x,env=[x]) (fun env y h=>by obtain⟨x,rfl⟩:=h;exact⟨_,rfl⟩) (fun env K h=>h) (fun env y K h hk=>by
   obtain⟨x,rfl⟩:=h;walk_at "ek";exact hk) (.inl hf2) _ _ _ ⟨none,rfl⟩ ?_
  intro p hp;have hsa':=i7 (u:=.lst ([]++a.things.map fun t=>D.tup [.str "l",t])) hsa hp;refine⟨_,.inl hsa',by omega,?_⟩;refine C7 (fun t=>.tup [.str "r",t]) (fun env=>∃x,env=[x]) (fun env y h=>by obtain⟨x,rfl⟩:=h;exact⟨_,rfl⟩) (fun env K h=>h) (fun env y K h hk=>by
   obtain⟨x,rfl⟩:=h;walk_at "ek";exact hk) (.inl hsa') _ _ _ ⟨none,rfl⟩ ?_
  intro p2 hp2;rw[ak5];have KK:=(K1.trans K2).new (o:=.lst ([]++a.things.map fun t=>D.tup [.str "l",t])) hp;refine⟨_,_,i7 d8 hp2,d8,A8 (by simp only[List.nil_append,List.length_map];omega),fun p3 hp3=>d9 (q p3 _ (none_of (KK.new hp2) hp3) ?_ ((KK.new hp2).new hp3))⟩;rw[d8];rfl
 |way a b iha ihb=>
  intro n st Q hn hb q;obtain⟨n,rfl⟩:∃k,n=k+2:=⟨n-2,by omega⟩;simp only[Kd.nest]at hn;have la:=t4 a;have lb:=t4 b;have ba:=Kd.bd_le hb.1;have bb:=Kd.bd_le hb.2.1;have bw:b.cnt^a.cnt≤100:=hb.2.2;refine j6 T.lthings rfl [some (Kd.way a b).d,none,none,none,none] rfl ?_;unfold L0;simp only[Kd.d];walk_at "es";walk_at "es";walk_at "es";refine⟨by rw[T.lthings];rfl,iha (by omega) hb.1 fun fa st1 hf0 hf K1=>?_⟩;walk_at "es";refine⟨by rw[T.lthings];rfl,ihb (by omega) hb.2.1 fun sa st2 hs0 hsa K2=>?_⟩;have hf2:=K2.at' hf (by simp);walk_at "es";walk_at "es";walk_at "es";rw[u1 (.inl hf2)];refine⟨by rw[T.rowsof];rfl,b16 T hsa (by rw[la,lb];omega) (by omega) (by omega) fun p st3 hp hs2 K3=>?_⟩;walk_at "ek";refine⟨_,.inl hs2,by rw[List.length_map,R3,la,lb];omega,?_⟩;refine C7 (fun r=>.tup [.str "w",r]) (fun env=>∃x,env=[x]) (fun env y h=>by obtain⟨x,rfl⟩:=h;exact⟨_,rfl⟩) (fun env K h=>h) (fun env y K h hk=>by
   obtain⟨x,rfl⟩:=h;walk_at "ek";exact hk) (.inl hs2) _ _ _ ⟨none,rfl⟩ ?_
  intro p2 hp2;have KK:=(K1.trans K2).trans K3;refine d9 (q p2 _ (none_of KK hp2) ?_ (KK.new hp2));rw[d8,List.nil_append,List.map_map];rfl
 |both a b iha ihb=>
  intro n st Q hn hb q;obtain⟨n,rfl⟩:∃k,n=k+1:=⟨n-1,by omega⟩;simp only[Kd.nest]at hn;have la:=t4 a;have lb:=t4 b;have ba:=Kd.bd_le hb.1;have bb:=Kd.bd_le hb.2.1;have bw:a.cnt*b.cnt≤100:=hb.2.2;refine j6 T.lthings rfl [some (Kd.both a b).d,none,none,none,none] rfl ?_;unfold L0;simp only[Kd.d];walk_at "es";walk_at "es";walk_at "es";refine⟨by rw[T.lthings];rfl,iha (by omega) hb.1 fun fa st1 hf0 hf K1=>?_⟩;walk_at "es";refine⟨by rw[T.lthings];rfl,ihb (by omega) hb.2.1 fun sa st2 hs0 hsa K2=>?_⟩;have hf2:=K2.at' hf (by simp);have K12:=K1.trans K2;walk_at "es";walk_at "es";walk_at "es";intro an han;have han0:=none_of K12 han;walk_at "es";refine⟨_,.inl (i7 hf2 han),?_⟩;refine v5 (fun l env st'=>∃(pre:List D)(x:Option D),a.things=pre++l∧env=[some (.tup [.str "both",a.d,b.d]),some (.ref fa),some (.ref sa),some (.ref an),x]∧st' an=some (.lst (pre.flatMap fun x=>b.things.map fun y=>.tup [.str "p",x,y]))∧Kp [] st2 st') ?_ ?_ _ _ _ ⟨[],none,rfl,rfl,d8,Kp.refl.new han⟩
  ·rintro env st' ⟨pre,x,e,rfl,hs,K⟩;refine⟨.inl (K.at' hf2 (by simp)),?_⟩;walk_at "es";rw[List.append_nil]at e;subst e;exact d9 (q an st' han0 hs (K12.trans K))
  ·rintro d ds env st' ih ⟨pre,x,e,rfl,hs,K⟩;refine⟨.inl (K.at' hf2 (by simp)),?_⟩;walk_at "ek";walk_at "es";rw[z6 (.inl hs)];have h2':=K.at' hsa (by simp);refine⟨trivial,b.things,.inl h2',by omega,?_⟩;refine C7 (fun y=>.tup [.str "p",d,y]) (fun env=>∃x,env=[some d,x]) (fun env y h=>by obtain⟨x,rfl⟩:=h;exact⟨_,rfl⟩) (fun env K h=>h) (fun env y K h hk=>by
    obtain⟨x,rfl⟩:=h;walk_at "ek";exact hk) (.inl h2') _ _ _ ⟨none,rfl⟩ ?_
   intro p hp;have hnp:an≠p:=m7 hs hp;rw[P1 (i7 hs hp) d8];have el:(pre.flatMap fun x=>b.things.map fun y=>D.tup [.str "p",x,y]).length=pre.length*b.things.length:=N7 _ _ (fun x=>by simp) _;have hle:pre.length*b.things.length+b.things.length≤100:=by
    have:a.things.length=pre.length+(ds.length+1):=by rw[e];simp
    have h3:(pre.length+1)*b.things.length≤a.things.length*b.things.length:=Nat.mul_le_mul_right _ (by omega);rw[Nat.add_mul,Nat.one_mul]at h3;rw[la,lb]at h3;rw[lb];omega
   refine⟨A8 (by rw[el];simp only[List.nil_append,List.length_map];omega),?_⟩;walk_at "ek";refine ih _ _ ⟨pre++[d],_,by rw[e];simp,rfl,by rw[d8,List.flatMap_append];simp,fun b u nb eb=>j3 (i7 (K b u nb eb) hp) (m7 eb han)⟩
end
noncomputable def Has(S:List It3)(t:D):Prop:=∃(m:Nat)(e:It3),S[m]?=some e∧e.t=t
open Classical in
noncomputable def nb(S:List It3)(t:D):Nat:=if h:Has S t then Classical.choose h else 0
theorem T6{S:List It3}{t:D}(h:Has S t):∃e,S[nb S t]?=some e∧e.t=t:=by
 unfold nb;rw[dif_pos h];exact Classical.choose_spec h
theorem br7{S:List It3}(w:Wf S){m:Nat}{e:It3}{t:D}(h:S[m]?=some e)(ht:e.t=t):nb S t=m:=by
 obtain⟨e',h1,h2⟩:=T6 (S:=S) (t:=t) ⟨m,e,h,ht⟩;exact w.inj _ (Nat.le_refl _) h1 h (h2.trans ht.symm)
theorem Y4{S:List It3}{t u:D}(h1:Has S t)(h2:Has S u)(h:nb S t=nb S u):t=u:=by
 obtain⟨e,a1,rfl⟩:=T6 h1;obtain⟨e',a2,rfl⟩:=T6 h2;rw[h,a2]at a1;cases a1;rfl
theorem a56{S:List It3}{t d:D}(w:Wf S)(h:Nm S t d):Has S t∧d=.int (nb S t:Nat):=by
 obtain⟨m,e,rfl,h1,h2⟩:=h;exact⟨⟨m,e,h1,h2⟩,by rw[br7 w h1 h2]⟩
theorem al5{S:List It3}(w:Wf S){fr inn:List D}(h:Has S (.tup (fr++inn)))(h1:∀d∈fr,∃s:String,d=.str s)(h2:∀d∈inn,∃l,d=.tup l):(∀d∈inn,Has S d)∧∃e,S[nb S (.tup (fr++inn))]?=some e∧e.ns=inn.map (nb S):=by
 obtain⟨e,he,ht⟩:=T6 h;obtain⟨inn',g1,g2,g3,g4⟩:=w.inn he;have hh:e.fr++inn'=fr++inn:=by rw[g1]at ht;injection ht
 obtain⟨_,rfl⟩:=bi1 (w.wh _ e he).1 h1 g3 h2 hh;refine⟨fun d hd=>?_,e,he,?_⟩
 ·obtain⟨j,hj⟩:=List.mem_iff_getElem?.mp hd;have hjl:j<e.ns.length:=by rw[←g2];exact(List.getElem?_eq_some_iff.mp hj).1
  obtain⟨_,e',he',hi⟩:=g4 j _ (List.getElem?_eq_getElem hjl);rw[hj]at hi;cases hi;exact⟨_,e',he',rfl⟩
 ·refine List.ext_getElem? fun j=>?_
  by_cases hj:j<e.ns.length
  ·obtain⟨_,e',he',hi⟩:=g4 j _ (List.getElem?_eq_getElem hj);rw[List.getElem?_eq_getElem hj,List.getElem?_map,hi];show some _=some (nb S e'.t);rw[br7 w he' rfl]
  ·rw[List.getElem?_eq_none (by omega),List.getElem?_eq_none (by rw[List.length_map];omega)]
theorem ak9{fr inn ds:List D}(he:ds=fr++inn)(h1:∀d∈fr,∃s:String,d=.str s)(h2:∀d∈inn,Lay d)(l1:fr.length≤10)(l2:inn.length≤1000):Lay (.tup ds):=by
 subst he;exact .mk h1 h2 l1 l2
theorem Q3{w:String}:∀d∈([.str w]:List D),∃s:String,d=.str s:=fun d hd=>by simp at hd;subst hd;exact⟨w,rfl⟩
theorem am2{w:String}{x y:D}(hx:Lay x)(hy:Lay y):Lay (.tup [.str w,x,y]):=ak9 (fr:=[.str w]) (inn:=[x,y]) rfl Q3 (fun d hd=>by simp at hd;rcases hd with rfl|rfl<;>assumption) (by simp) (by simp)
theorem a47{w:String}{x:D}(hx:Lay x):Lay (.tup [.str w,x]):=ak9 (fr:=[.str w]) (inn:=[x]) rfl Q3 (fun d hd=>by simp at hd;subst hd;exact hx) (by simp) (by simp)
theorem bn7{w:String}:Lay (.tup [.str w]):=ak9 (fr:=[.str w]) (inn:=[]) rfl Q3 (fun d hd=>by simp at hd) (by simp) (by simp)
theorem bj5{r:List D}(h:∀d∈r,Lay d)(hl:r.length≤1000):Lay (.tup r):=ak9 (fr:=[]) (inn:=r) rfl (fun d hd=>by simp at hd) h (by simp) hl
theorem O2:∀k:Kd,Lay k.d
 |.non=>bn7
 |.one=>bn7
 |.eith a b=>am2 (O2 a) (O2 b)
 |.both a b=>am2 (O2 a) (O2 b)
 |.way a b=>am2 (O2 a) (O2 b)
theorem t8:∀k:Kd,∃l,k.d=.tup l
 |.non=>⟨_,rfl⟩
 |.one=>⟨_,rfl⟩
 |.eith _ _=>⟨_,rfl⟩
 |.both _ _=>⟨_,rfl⟩
 |.way _ _=>⟨_,rfl⟩
theorem a05(w:String){a b:Kd}(h1:dsz a.d+1≤2^(a.nest+1))(h2:dsz b.d+1≤2^(b.nest+1)):dsz (.tup [.str w,a.d,b.d])+1≤2^(1+max a.nest b.nest+1):=by
 have h3:2^(a.nest+1)≤2^(max a.nest b.nest+1):=Nat.pow_le_pow_right (by decide) (by omega);have h4:2^(b.nest+1)≤2^(max a.nest b.nest+1):=Nat.pow_le_pow_right (by decide) (by omega);have e:2^(1+max a.nest b.nest+1)=2^(max a.nest b.nest+1)*2:=by rw[show 1+max a.nest b.nest+1=(max a.nest b.nest+1)+1 by omega,Nat.pow_succ]
 obtain⟨l1,e1⟩:=t8 a;obtain⟨l2,e2⟩:=t8 b;rw[dsz,F8,F8,F8,F8,e];have t1:z9 a.d=true:=by rw[e1];rfl
 have t2:z9 b.d=true:=by rw[e2];rfl
 rw[if_pos t1,if_pos t2,if_neg (by simp[z9])];omega
theorem O6:∀k:Kd,dsz k.d+1≤2^(k.nest+1)
 |.non=>by decide
 |.one=>by decide
 |.eith a b=>a05 _ (O6 a) (O6 b)
 |.both a b=>a05 _ (O6 a) (O6 b)
 |.way a b=>a05 _ (O6 a) (O6 b)
theorem N4:∀(k:Kd)(t:D),k.bd 1000→t∈k.things→Lay t
 |.non,t,_,h=>by simp[Kd.things]at h
 |.one,t,_,h=>by simp only[Kd.things,List.mem_singleton]at h;subst h;exact bj5 (by simp) (by simp)
 |.eith a b,t,hb,h=>by
  simp only[Kd.things,List.mem_append,List.mem_map]at h
  rcases h with⟨x,hx,rfl⟩|⟨x,hx,rfl⟩
  ·exact a47 (N4 a x hb.1 hx)
  ·exact a47 (N4 b x hb.2.1 hx)
 |.both a b,t,hb,h=>by
  simp only[Kd.things,List.mem_flatMap,List.mem_map]at h;obtain⟨x,hx,y,hy,rfl⟩:=h;exact am2 (N4 a x hb.1 hx) (N4 b y hb.2.1 hy)
 |.way a b,t,hb,h=>by
  simp only[Kd.things,List.mem_map]at h;obtain⟨r,hr,rfl⟩:=h;obtain⟨hl,hm⟩:=W8 _ _ _ hr;rw[t4]at hl;have:=Kd.bd_le hb.1;exact a47 (bj5 (fun d hd=>N4 b d hb.2.1 (hm d hd)) (by omega))
theorem z4{k:Kd}{t:D}(h:t∈k.things):∃l,t=.tup l:=by
 cases k with
 |non=>simp[Kd.things]at h
 |one=>simp only[Kd.things,List.mem_singleton]at h;exact⟨_,h⟩
 |eith a b=>simp only[Kd.things,List.mem_append,List.mem_map]at h;rcases h with⟨x,_,rfl⟩|⟨x,_,rfl⟩<;>exact⟨_,rfl⟩
 |both a b=>simp only[Kd.things,List.mem_flatMap,List.mem_map]at h;obtain⟨x,_,y,_,rfl⟩:=h;exact⟨_,rfl⟩
 |way a b=>simp only[Kd.things,List.mem_map]at h;obtain⟨r,_,rfl⟩:=h;exact⟨_,rfl⟩
section
variable {P:j9} {G:Gs} (T:PSh P G)
include T
theorem ae0{n:Nat}{st:Sto}{Q:DK}{sh dn sa pa wa:Addr}{S:List It3}(A:ShA sh dn sa pa wa S st){fr inn:List D}(h:Has S (.tup (fr++inn)))(h1:∀d∈fr,∃s:String,d=.str s)(h2:∀d∈inn,∃l,d=.tup l)(q:Q (u6 (inn.map (nb S))) st):sem P G (n+1) (i5 "Shelf" "within") [.ref sh,.int (nb S (.tup (fr++inn)):Nat)] st Q:=by
 obtain⟨_,e,he,hn⟩:=al5 A.wf h h1 h2;refine j6 T.wthn rfl [some (.ref sh),some (.int (nb S (.tup (fr++inn)):Nat))] rfl ?_;unfold ab5;walk_at "es";refine⟨sh,"Shelf",_,.ref pa,rfl,A.ins,by show _∈G.cls "Shelf";rw[T.cls];simp,rfl,?_⟩;rw[D4 (.inl A.par)];refine⟨u6 e.ns,by rw[B7,List.getElem?_map,he];rfl,d9 ?_⟩;rw[hn];exact q
theorem b89{n:Nat}{st:Sto}{Q:DK}{sh dn sa pa wa:Addr}{S:List It3}(A:ShA sh dn sa pa wa S st){t:D}(h:Has S t)(q:Q t st):sem P G (n+1) (i5 "Shelf" "tuple_at") [.ref sh,.int (nb S t:Nat)] st Q:=by
 obtain⟨e,he,ht⟩:=T6 h;refine j6 T.tup rfl [some (.ref sh),some (.int (nb S t:Nat))] rfl ?_;unfold ab1;walk_at "es";refine⟨sh,"Shelf",_,.ref sa,rfl,A.ins,by show _∈G.cls "Shelf";rw[T.cls];simp,rfl,?_⟩;rw[D4 (.inl A.sto)];exact⟨t,by rw[B7,List.getElem?_map,he,←ht];rfl,d9 q⟩
theorem D0{n:Nat}{st:Sto}{Q:DK}{sh dn sa pa wa:Addr}{S:List It3}(A:ShA sh dn sa pa wa S st){d:D}{r:List D}(h:Has S (.tup (d::r)))(q:Q d st):sem P G (n+1) (i5 "Shelf" "word_at") [.ref sh,.int (nb S (.tup (d::r)):Nat)] st Q:=by
 obtain⟨e,he,ht⟩:=T6 h;refine j6 T.word rfl [some (.ref sh),some (.int (nb S (.tup (d::r)):Nat))] rfl ?_;unfold ab2;walk_at "es";refine⟨sh,"Shelf",_,.ref sa,rfl,A.ins,by show _∈G.cls "Shelf";rw[T.cls];simp,rfl,?_⟩;rw[D4 (.inl A.sto)];refine⟨.tup (d::r),by rw[B7,List.getElem?_map,he,←ht];rfl,?_⟩;walk_at "ek";exact d9 q
theorem b60{n:Nat}{st:Sto}{Q:DK}{sh:Addr}(h0:st sh=none)(q:∀dn sa pa wa st',ShA sh dn sa pa wa [] st'→[sh,dn,sa,pa].Nodup→(∀a∈[sh,dn,sa,pa,wa],st a=none)→Kp [] st st'→Q .non st'):sem P G (n+1) (i5 "Shelf" "__init__") [.ref sh] (d7 st sh (.ins "Shelf" [])) Q:=by
 refine j6 T.init rfl [some (.ref sh)] rfl ?_;unfold ab0;have hc:∀f∈([("numbers":Str),("stored":Str),("parts":Str),("waiting":Str)]:List Str),f∈G.cls "Shelf":=fun f hf=>by rw[T.cls];exact hf
 walk_at "es";refine⟨T.kt,fun dn hdn=>⟨sh,"Shelf",[],rfl,i7 d8 hdn,hc _ (by simp),by decide,?_⟩⟩;have n1:sh≠dn:=m7 d8 hdn;have d0:st dn=none:=by rw[B6 n1.symm]at hdn;exact hdn
 have kS:∀{st':Sto}{u:Ob},Kp [] st st'→Kp [] st (d7 st' sh u):=fun K b o nb e=>j3 (K b o nb e) (m7 e h0);have a1:d7 (d7 (d7 st sh (.ins "Shelf" [])) dn (.dtt [])) sh (.ins "Shelf" (p9 "numbers" (.ref dn) [])) sh=some (.ins "Shelf" [(("numbers":Str),D.ref dn)]):=by rw[d8];rfl
 have a2:d7 (d7 (d7 st sh (.ins "Shelf" [])) dn (.dtt [])) sh (.ins "Shelf" (p9 "numbers" (.ref dn) [])) dn=some (.dtt []):=j3 d8 n1.symm;have K1:Kp [] st (d7 (d7 (d7 st sh (.ins "Shelf" [])) dn (.dtt [])) sh (.ins "Shelf" (p9 "numbers" (.ref dn) []))):=kS ((kS Kp.refl).new hdn);revert a1 a2 K1;generalize d7 (d7 (d7 st sh (.ins "Shelf" [])) dn (.dtt [])) sh (.ins "Shelf" (p9 "numbers" (.ref dn) []))=s1;intro a1 a2 K1;walk_at "es";refine fun sa hsa=>⟨sh,"Shelf",_,rfl,i7 a1 hsa,hc _ (by simp),by simp,?_⟩;have n2:sh≠sa:=m7 a1 hsa;have n3:dn≠sa:=m7 a2 hsa;have b1:d7 (d7 s1 sa (.lst [])) sh (.ins "Shelf" (p9 "stored" (.ref sa) [(("numbers":Str),D.ref dn)])) sh=some (.ins "Shelf" [(("numbers":Str),D.ref dn),(("stored":Str),D.ref sa)]):=by rw[d8];simp[p9,v3]
 have b2:d7 (d7 s1 sa (.lst [])) sh (.ins "Shelf" (p9 "stored" (.ref sa) [(("numbers":Str),D.ref dn)])) dn=some (.dtt []):=j3 (i7 a2 hsa) n1.symm;have b3:d7 (d7 s1 sa (.lst [])) sh (.ins "Shelf" (p9 "stored" (.ref sa) [(("numbers":Str),D.ref dn)])) sa=some (.lst []):=j3 d8 n2.symm;have K2:Kp [] st (d7 (d7 s1 sa (.lst [])) sh (.ins "Shelf" (p9 "stored" (.ref sa) [(("numbers":Str),D.ref dn)]))):=kS (K1.new hsa);have s0:st sa=none:=none_of K1 hsa;revert b1 b2 b3 K2;generalize d7 (d7 s1 sa (.lst [])) sh (.ins "Shelf" (p9 "stored" (.ref sa) [(("numbers":Str),D.ref dn)]))=s2;intro b1 b2 b3 K2;walk_at "es";refine fun pa hpa=>⟨sh,"Shelf",_,rfl,i7 b1 hpa,hc _ (by simp),by simp,?_⟩;have n4:sh≠pa:=m7 b1 hpa;have n5:dn≠pa:=m7 b2 hpa;have n6:sa≠pa:=m7 b3 hpa;have c1:d7 (d7 s2 pa (.lst [])) sh (.ins "Shelf" (p9 "parts" (.ref pa) [(("numbers":Str),D.ref dn),(("stored":Str),D.ref sa)])) sh=some (.ins "Shelf" [(("numbers":Str),D.ref dn),(("stored":Str),D.ref sa),(("parts":Str),D.ref pa)]):=by rw[d8];simp[p9,v3]
 have c2:d7 (d7 s2 pa (.lst [])) sh (.ins "Shelf" (p9 "parts" (.ref pa) [(("numbers":Str),D.ref dn),(("stored":Str),D.ref sa)])) dn=some (.dtt []):=j3 (i7 b2 hpa) n1.symm;have c3:d7 (d7 s2 pa (.lst [])) sh (.ins "Shelf" (p9 "parts" (.ref pa) [(("numbers":Str),D.ref dn),(("stored":Str),D.ref sa)])) sa=some (.lst []):=j3 (i7 b3 hpa) n2.symm;have c4:d7 (d7 s2 pa (.lst [])) sh (.ins "Shelf" (p9 "parts" (.ref pa) [(("numbers":Str),D.ref dn),(("stored":Str),D.ref sa)])) pa=some (.lst []):=j3 d8 n4.symm;have K3:Kp [] st (d7 (d7 s2 pa (.lst [])) sh (.ins "Shelf" (p9 "parts" (.ref pa) [(("numbers":Str),D.ref dn),(("stored":Str),D.ref sa)]))):=kS (K2.new hpa);have p0:st pa=none:=none_of K2 hpa;revert c1 c2 c3 c4 K3;generalize d7 (d7 s2 pa (.lst [])) sh (.ins "Shelf" (p9 "parts" (.ref pa) [(("numbers":Str),D.ref dn),(("stored":Str),D.ref sa)]))=s3;intro c1 c2 c3 c4 K3;walk_at "es";refine fun wa hwa=>⟨sh,"Shelf",_,rfl,i7 c1 hwa,hc _ (by simp),by simp,?_⟩;have n7:sh≠wa:=m7 c1 hwa;walk_at "ek";refine ce7 (q dn sa pa wa _ ⟨by rw[d8];simp[p9,v3],j3 (i7 c2 hwa) n1.symm,j3 (i7 c3 hwa) n2.symm,j3 (i7 c4 hwa) n4.symm,⟨_,j3 d8 n7.symm⟩,⟨by simp,by simp⟩,by simp,by simp⟩ ?_ ?_ (kS (K3.new hwa)))
 ·simp[n1,n2,n4,n3,n5,n6]
 ·intro a ha;simp only[List.mem_cons,List.not_mem_nil,or_false]at ha
  rcases ha with rfl|rfl|rfl|rfl|rfl
  ·exact h0
  ·exact d0
  ·exact s0
  ·exact p0
  ·exact none_of K3 hwa
end
inductive Lk where
 |first|second|left|right|give (t:D)
noncomputable def Lk.d:Lk→D
 |.first=>.tup [.str "first"]
 |.second=>.tup [.str "second"]
 |.left=>.tup [.str "left"]
 |.right=>.tup [.str "right"]
 |.give t=>.tup [.str "give",t]
noncomputable abbrev Kid:=Lk×Kd×D×D
noncomputable abbrev Ent:=List Lk×Kd×D×D
noncomputable def D.ats:D→Nat→D
 |.tup ds,i=>ds.getD i .non
 |_,_=>.non
noncomputable def D.its:D→List D
 |.tup ds=>ds
 |_=>[]
noncomputable def lft:D→Bool
 |.tup (.str w::_)=>decide (w="l")
 |_=>false
theorem w8{x:D}:lft (.tup [.str "l",x])=true:=by simp[lft]
theorem y0{x:D}:lft (.tup [.str "r",x])=false:=by simp[lft,v3]
noncomputable def m4:Kd→D→D→List Kid
 |.both k1 k2,a,b=>[(.first,k1,a.ats 1,b.ats 1),(.second,k2,a.ats 2,b.ats 2)]
 |.eith k1 k2,a,b=>if lft a then(if lft b then [(.left,k1,a.ats 1,b.ats 1)]else [])else if lft b then []else [(.right,k2,a.ats 1,b.ats 1)]
 |.way k1 k2,a,b=>(k1.things.zip ((a.ats 1).its.zip (b.ats 1).its)).map fun p=>(.give p.1,k2,p.2.1,p.2.2)
 |_,_,_=>[]
noncomputable def A9(k:Kd)(a b:D):List Kid:=(m4 k a b).filter fun e=>!deq e.2.2.1 e.2.2.2
noncomputable def prt:Kd→D→D→Bool
 |.eith _ _,a,b=>lft a != lft b
 |_,_,_=>false
noncomputable def j2:Nat→Kd→D→D→Option (List Lk)
 |0,k,a,b=>if prt k a b then some []else none
 |n+1,k,a,b=>(A9 k a b).findSome? fun e=>(j2 n e.2.1 e.2.2.1 e.2.2.2).map (e.1::·)
noncomputable def fnd(n:Nat)(L:List Ent):Option (List Lk):=L.findSome? fun e=>(j2 n e.2.1 e.2.2.1 e.2.2.2).map (e.1++·)
noncomputable def j7(e:Ent):List Ent:=(m4 e.2.1 e.2.2.1 e.2.2.2).map fun c=>(e.1++[c.1],c.2)
noncomputable def dif(c:Ent):Bool:=!deq c.2.2.1 c.2.2.2
noncomputable def nxt(L:List Ent):List Ent:=(L.flatMap j7).filter dif
theorem bo6{α β γ:Type}(f:α→Option β)(g:β→γ):∀l:List α,(l.findSome? f).map g=l.findSome? fun x=>(f x).map g
 |[]=>rfl
 |x::l=>by
  rw[List.findSome?_cons,List.findSome?_cons];cases f x with
  |none=>exact bo6 f g l
  |some y=>rfl
theorem aw1(e:Ent):(j7 e).filter dif=(A9 e.2.1 e.2.2.1 e.2.2.2).map fun c=>(e.1++[c.1],c.2):=by
 unfold j7 A9;rw[List.filter_map];rfl
theorem b80(e:Ent)(L:List Ent):nxt (e::L)=((A9 e.2.1 e.2.2.1 e.2.2.2).map fun c=>(e.1++[c.1],c.2))++nxt L:=by
 unfold nxt;rw[List.flatMap_cons,List.filter_append,aw1]
theorem S5(n:Nat)(L M:List Ent):fnd n (L++M)=(fnd n L).or (fnd n M):=by unfold fnd;rw[List.findSome?_append]
theorem a06(n:Nat):∀L:List Ent,fnd n (nxt L)=fnd (n+1) L
 |[]=>rfl
 |e::L=>by
  rw[b80,S5,a06 n L];show _=(e::L).findSome? _;rw[List.findSome?_cons,j2,bo6];have:fnd n ((A9 e.2.1 e.2.2.1 e.2.2.2).map fun c=>(e.1++[c.1],c.2))=(A9 e.2.1 e.2.2.1 e.2.2.2).findSome? fun x=>((j2 n x.2.1 x.2.2.1 x.2.2.2).map (x.1::·)).map (e.1++·):=by
   unfold fnd;rw[List.findSome?_map]
   congr 1
   funext c
   simp only[Function.comp_apply,Option.map_map]
   congr 1
   funext ls
   simp
  rw[this];cases(A9 e.2.1 e.2.2.1 e.2.2.2).findSome? fun x=>((j2 n x.2.1 x.2.2.1 x.2.2.2).map (x.1::·)).map (e.1++·)with
  |none=>rfl
  |some y=>rfl
noncomputable abbrev Key:=Kd×D×D
open Classical in
noncomputable def o4(p:List Ent×List Key)(c:Ent):List Ent×List Key:=if dif c=true∧c.2∉p.2 then(p.1++[c],p.2++[c.2])else p
theorem ndf{c:Ent}{seen:List Key}(hx:¬(dif c=true∧c.2∉seen)):dif c=false∨c.2∈seen:=by
 by_cases h1:dif c=true
 ·exact .inr (Classical.byContradiction fun z=>hx ⟨h1,z⟩)
 ·exact .inl (by simpa using h1)
theorem L8{p:List Ent×List Key}{c:Ent}(h:dif c=true)(h2:c.2∉p.2):o4 p c=(p.1++[c],p.2++[c.2]):=by unfold o4;rw[if_pos ⟨h,h2⟩]
theorem G4{p:List Ent×List Key}{c:Ent}(h:dif c=false∨c.2∈p.2):o4 p c=p:=by
 unfold o4;rw[if_neg];rintro⟨h1,h2⟩
 rcases h with h|h
 ·rw[h1]at h;cases h
 ·exact h2 h
theorem D1:∀k:Kd,k.d.lit=true
 |.non=>by simp only[Kd.d,z5,A6,B1,B4,Bool.and_self]
 |.one=>by simp only[Kd.d,z5,A6,B1,B4,Bool.and_self]
 |.eith a b=>by simp only[Kd.d,z5,A6,B1,B4,D1 a,D1 b,Bool.and_self]
 |.both a b=>by simp only[Kd.d,z5,A6,B1,B4,D1 a,D1 b,Bool.and_self]
 |.way a b=>by simp only[Kd.d,z5,A6,B1,B4,D1 a,D1 b,Bool.and_self]
theorem cr3{a b:Kd}(h:a.d=b.d):a=b:=by
 have:=cl3 a b;rw[h,C6 (D1 b)]at this;simpa using this.symm
noncomputable def EOk(e:Ent):Prop:=e.2.2.1∈e.2.1.things∧e.2.2.2∈e.2.1.things∧e.2.1.bd 100∧e.1.length+e.2.1.nest≤10
theorem cj2{n:Nat}{acc r:List Ent}{c e:Ent}(he:e∈acc)(h:e.2=c.2):fnd n (acc++c::r)=fnd n (acc++r):=by
 rw[S5,S5];cases hb:j2 n c.2.1 c.2.2.1 c.2.2.2 with
 |none=>
  have:fnd n (c::r)=fnd n r:=by unfold fnd;rw[List.findSome?_cons,hb];rfl
  rw[this]
 |some ls=>
  have:(fnd n acc).isSome=true:=by
   unfold fnd;rw[List.findSome?_isSome_iff];exact⟨e,he,by rw[h,hb];rfl⟩
  obtain⟨x,hx⟩:=Option.isSome_iff_exists.mp this;rw[hx];rfl
theorem b58{n:Nat}{acc r:List Ent}{c:Ent}(h:j2 n c.2.1 c.2.2.1 c.2.2.2=none):fnd n (acc++c::r)=fnd n (acc++r):=by
 rw[S5,S5];have:fnd n (c::r)=fnd n r:=by unfold fnd;rw[List.findSome?_cons,h];rfl
 rw[this]
theorem ae5{n:Nat}:∀(cs acc:List Ent)(seen:List Key),(∀k∈seen,j2 n k.1 k.2.1 k.2.2=none∨∃e∈acc,e.2=k)→fnd n (cs.foldl o4 (acc,seen)).1=fnd n (acc++cs.filter dif)
 |[],acc,seen,_=>by simp
 |c::cs,acc,seen,h=>by
  rw[List.foldl_cons,List.filter_cons]
  by_cases hd:dif c=true
  ·rw[if_pos hd]
   by_cases hs:c.2∈seen
   ·rw[G4 (.inr hs),ae5 cs acc seen h]
    rcases h _ hs with z|⟨e,he,z⟩
    ·exact(b58 z).symm
    ·exact(cj2 he z).symm
   ·rw[L8 hd hs,ae5 cs (acc++[c]) (seen++[c.2]) fun k hk=>?_,List.append_assoc]
    ·rfl
    ·rcases List.mem_append.mp hk with hk|hk
     ·rcases h k hk with z|⟨e,he,z⟩
      ·exact .inl z
      ·exact .inr ⟨e,by simp[he],z⟩
     ·rw[List.mem_singleton]at hk;exact .inr ⟨c,by simp,hk.symm⟩
  ·rw[if_neg hd,G4 (.inl (by simpa using hd))];exact ae5 cs acc seen h
theorem W1:∀(cs acc:List Ent)(seen:List Key),∀k∈(cs.foldl o4 (acc,seen)).2,k∈seen∨∃e∈(cs.foldl o4 (acc,seen)).1,e.2=k
 |[],acc,seen,k,h=>.inl h
 |c::cs,acc,seen,k,h=>by
  rw[List.foldl_cons]at h ⊢;have grow:∀(cs acc:List Ent)(seen:List Key),∀e∈acc,e∈(cs.foldl o4 (acc,seen)).1:=fun cs=>by
   induction cs with
   |nil=>intro acc seen e he;exact he
   |cons x cs ih=>
    intro acc seen e he;rw[List.foldl_cons]
    by_cases hx:dif x=true∧x.2∉seen
    ·rw[L8 hx.1 hx.2];exact ih _ _ e (by simp[he])
    ·rw[G4 (ndf hx)];exact ih _ _ e he
  by_cases hx:dif c=true∧c.2∉seen
  ·rw[L8 hx.1 hx.2]at h ⊢
   rcases W1 cs _ _ k h with z|z
   ·rcases List.mem_append.mp z with z|z
    ·exact .inl z
    ·rw[List.mem_singleton]at z;exact .inr ⟨c,grow _ _ _ c (by simp),z.symm⟩
   ·exact .inr z
  ·rw[G4 (ndf hx)]at h ⊢;exact W1 cs _ _ k h
theorem az3:∀(cs acc:List Ent)(seen:List Key),(cs.foldl o4 (acc,seen)).2.length+acc.length=seen.length+(cs.foldl o4 (acc,seen)).1.length
 |[],acc,seen=>rfl
 |c::cs,acc,seen=>by
  rw[List.foldl_cons]
  by_cases hx:dif c=true∧c.2∉seen
  ·rw[L8 hx.1 hx.2];have:=az3 cs (acc++[c]) (seen++[c.2]);simp only[List.length_append,List.length_cons,List.length_nil]at this ⊢;omega
  ·rw[G4 (ndf hx)];exact az3 cs acc seen
theorem C8{k1 k2:Kd}{a:D}(h:a∈(Kd.both k1 k2).things):∃x y,x∈k1.things∧y∈k2.things∧a=.tup [.str "p",x,y]:=by
 simp only[Kd.things,List.mem_flatMap,List.mem_map]at h;obtain⟨x,hx,y,hy,rfl⟩:=h;exact⟨x,y,hx,hy,rfl⟩
theorem A7{k1 k2:Kd}{a:D}(h:a∈(Kd.eith k1 k2).things):(∃x,x∈k1.things∧a=.tup [.str "l",x])∨∃x,x∈k2.things∧a=.tup [.str "r",x]:=by
 simp only[Kd.things,List.mem_append,List.mem_map]at h
 rcases h with⟨x,hx,rfl⟩|⟨x,hx,rfl⟩
 ·exact .inl ⟨x,hx,rfl⟩
 ·exact .inr ⟨x,hx,rfl⟩
theorem E2{k1 k2:Kd}{a:D}(h:a∈(Kd.way k1 k2).things):∃r,r.length=k1.things.length∧(∀d∈r,d∈k2.things)∧a=.tup [.str "w",.tup r]:=by
 simp only[Kd.things,List.mem_map]at h;obtain⟨r,hr,rfl⟩:=h;obtain⟨h1,h2⟩:=W8 _ _ _ hr;exact⟨r,h1,h2,rfl⟩
inductive Lks:Kd→D→Lk→Kd→D→Prop
 |first {k1 k2:Kd} {x y:D}:Lks (.both k1 k2) (.tup [.str "p",x,y]) .first k1 x
 |second {k1 k2:Kd} {x y:D}:Lks (.both k1 k2) (.tup [.str "p",x,y]) .second k2 y
 |left {k1 k2:Kd} {x:D}:Lks (.eith k1 k2) (.tup [.str "l",x]) .left k1 x
 |right {k1 k2:Kd} {x:D}:Lks (.eith k1 k2) (.tup [.str "r",x]) .right k2 x
 |give {k1 k2:Kd} {t d:D} {r:List D} {j:Nat} (h1:k1.things[j]?=some t) (h2:r[j]?=some d):Lks (.way k1 k2) (.tup [.str "w",.tup r]) (.give t) k2 d
noncomputable def c58(k k':Kd):Prop:=(∀m,k.bd m→k'.bd m)∧k'.nest<k.nest
theorem F5{k:Kd}{a b:D}(ha:a∈k.things)(hb:b∈k.things){c:Kid}(hc:c∈m4 k a b):c.2.2.1∈c.2.1.things∧c.2.2.2∈c.2.1.things∧c58 k c.2.1∧Lks k a c.1 c.2.1 c.2.2.1∧Lks k b c.1 c.2.1 c.2.2.2:=by
 cases k with
 |non=>cases hc
 |one=>cases hc
 |both k1 k2=>
  obtain⟨x,y,hx,hy,rfl⟩:=C8 ha;obtain⟨x',y',hx',hy',rfl⟩:=C8 hb;simp only[m4,List.mem_cons,List.not_mem_nil,or_false]at hc
  rcases hc with rfl|rfl
  ·exact⟨hx,hx',⟨fun m h=>h.1,by show k1.nest<1+max k1.nest k2.nest;omega⟩,.first,.first⟩
  ·exact⟨hy,hy',⟨fun m h=>h.2.1,by show k2.nest<1+max k1.nest k2.nest;omega⟩,.second,.second⟩
 |eith k1 k2=>
  rcases A7 ha with⟨x,hx,rfl⟩|⟨x,hx,rfl⟩<;>rcases A7 hb with⟨y,hy,rfl⟩|⟨y,hy,rfl⟩
  ·simp only[m4,w8,if_true,List.mem_singleton]at hc;subst hc;exact⟨hx,hy,⟨fun m h=>h.1,by show k1.nest<1+max k1.nest k2.nest;omega⟩,.left,.left⟩
  ·simp[m4,w8,y0]at hc
  ·simp[m4,w8,y0]at hc
  ·simp only[m4,y0,Bool.false_eq_true,if_false,List.mem_singleton]at hc;subst hc;exact⟨hx,hy,⟨fun m h=>h.2.1,by show k2.nest<1+max k1.nest k2.nest;omega⟩,.right,.right⟩
 |way k1 k2=>
  obtain⟨r,hr,hm,rfl⟩:=E2 ha;obtain⟨r',hr',hm',rfl⟩:=E2 hb;simp only[m4,List.mem_map]at hc;obtain⟨p,hp,rfl⟩:=hc;obtain⟨j,hj⟩:=List.mem_iff_getElem?.mp hp;simp only[List.getElem?_zip_eq_some]at hj;obtain⟨h1,h2,h3⟩:=hj;exact⟨hm _ (List.mem_of_getElem? h2),hm' _ (List.mem_of_getElem? h3),⟨fun m h=>h.2.1,by show k2.nest<1+max k1.nest k2.nest;omega⟩,.give h1 h2,.give h1 h3⟩
theorem cj4{e:Ent}(h:EOk e){c:Ent}(hc:c∈j7 e):EOk c:=by
 unfold j7 at hc;obtain⟨c',hc',rfl⟩:=List.mem_map.mp hc;obtain⟨h1,h2,⟨h3,h4⟩,_⟩:=F5 h.1 h.2.1 hc';exact⟨h1,h2,h3 _ h.2.2.1,by have:=h.2.2.2;show(e.1++[c'.1]).length+c'.2.1.nest≤10;rw[List.length_append];simp only[List.length_cons,List.length_nil];omega⟩
theorem a36{L:List Ent}(h:∀e∈L,EOk e):∀c∈L.flatMap j7,EOk c:=fun c hc=>by
 obtain⟨e,he,hce⟩:=List.mem_flatMap.mp hc;exact cj4 (h e he) hce
theorem ay8:∀(cs acc:List Ent)(seen:List Key),∀e∈(cs.foldl o4 (acc,seen)).1,e∈acc∨e∈cs.filter dif
 |[],acc,seen,e,h=>.inl h
 |c::cs,acc,seen,e,h=>by
  rw[List.foldl_cons]at h;rw[List.filter_cons]
  by_cases hx:dif c=true∧c.2∉seen
  ·rw[L8 hx.1 hx.2]at h;rw[if_pos hx.1]
   rcases ay8 cs _ _ e h with h|h
   ·rcases List.mem_append.mp h with h|h
    ·exact .inl h
    ·rw[List.mem_singleton]at h;subst h;exact .inr (by simp)
   ·exact .inr (List.mem_cons_of_mem _ h)
  ·rw[G4 (ndf hx)]at h
   rcases ay8 cs _ _ e h with h|h
   ·exact .inl h
   ·refine .inr ?_
    split
    ·exact List.mem_cons_of_mem _ h
    ·exact h
theorem cv6{L:List Ent}(h:∀e∈L,EOk e):∀c∈nxt L,EOk c:=fun c hc=>a36 h c (List.mem_filter.mp hc).1
noncomputable def wt(L:List Ent):Nat:=(L.map fun e=>e.2.1.cnt).sum
theorem am4(L M:List Ent):wt (L++M)=wt L+wt M:=by unfold wt;rw[List.map_append,List.sum_append]
theorem R8(e:Ent)(L:List Ent):wt (e::L)=e.2.1.cnt+wt L:=by unfold wt;rw[List.map_cons,List.sum_cons]
theorem aw3{k:Kd}{a:D}(h:a∈k.things):0<k.cnt:=by rw[←t4];exact List.length_pos_of_mem h
theorem a44:∀{L:List Ent},(∀e∈L,EOk e)→L.length≤wt L
 |[],_=>Nat.zero_le _
 |e::L,h=>by
  have:=a44 (L:=L) fun x hx=>h x (by simp[hx]);have:=aw3 (h e (by simp)).1;rw[R8,List.length_cons];omega
theorem ax4{k:Kd}{a b:D}(ha:a∈k.things)(hb:b∈k.things)(h:a≠b):2≤k.cnt:=by
 rw[←t4]
 match hl:k.things with
 |[]=>rw[hl]at ha;cases ha
 |[x]=>rw[hl]at ha hb;simp at ha hb;exact absurd (ha.trans hb.symm) h
 |x::y::r=>simp
theorem D3{x y:D}{k:Kd}(hx:x∈k.things)(hy:y∈k.things):(deq x y=false)↔x≠y:=by
 constructor
 ·intro h e;subst e;rw[C6 (t0 k x hx).1]at h;cases h
 ·exact fun h=>W7 (t0 k x hx).1 (t0 k y hy).1 h
theorem by4{a b:Nat}(ha:2≤a)(hb:2≤b):a+b≤a*b:=by
 have h1:a*2≤a*b:=Nat.mul_le_mul_left a hb;have h2:2*b≤a*b:=Nat.mul_le_mul_right b ha;omega
theorem a96{b:Nat}(hb:2≤b):∀n:Nat,n*b≤b^n
 |0=>by simp
 |1=>by simp
 |n+2=>by
  have h1:=a96 hb (n+1);have h2:b*1≤(n+1)*b:=by rw[Nat.add_mul];omega
  have h3:(n+1)*b*2≤b^(n+1)*b:=Nat.mul_le_mul h1 hb;rw[Nat.pow_succ];have:(n+2)*b=(n+1)*b+b:=by rw[Nat.add_mul (n+1) 1 b,Nat.one_mul]
  omega
theorem bc9{α:Type}(f:α→Nat)(m:Nat):∀l:List α,(∀x∈l,f x=m)→(l.map f).sum=l.length*m
 |[],_=>by simp
 |x::l,h=>by
  rw[List.map_cons,List.sum_cons,h x (by simp),bc9 f m l (fun y hy=>h y (by simp[hy])),List.length_cons,Nat.add_mul,Nat.one_mul,Nat.add_comm]
theorem b07{k:Kd}{a b:D}(ha:a∈k.things)(hb:b∈k.things):((A9 k a b).map fun c=>c.2.1.cnt).sum≤k.cnt:=by
 cases k with
 |non=>exact Nat.zero_le _
 |one=>exact Nat.zero_le _
 |both k1 k2=>
  obtain⟨x,y,hx,hy,rfl⟩:=C8 ha;obtain⟨x',y',hx',hy',rfl⟩:=C8 hb;have p1:=aw3 hx;have p2:=aw3 hy;show _≤k1.cnt*k2.cnt;have l1:k1.cnt≤k1.cnt*k2.cnt:=Nat.le_mul_of_pos_right _ p2;have l2:k2.cnt≤k1.cnt*k2.cnt:=Nat.le_mul_of_pos_left _ p1;unfold A9 m4;simp only[D.ats,List.getD_cons_succ,List.getD_cons_zero,List.filter_cons,List.filter_nil];cases h1:deq x x'<;>cases h2:deq y y'<;>simp
  ·exact by4 (ax4 hx hx' ((D3 hx hx').mp h1)) (ax4 hy hy' ((D3 hy hy').mp h2))
  ·exact l1
  ·exact l2
 |eith k1 k2=>
  show _≤k1.cnt+k2.cnt;have one:∀(l:Lk)(k:Kd)(x y:D),k.cnt≤k1.cnt+k2.cnt→((([(l,k,x,y)]:List Kid).filter fun e=>!deq e.2.2.1 e.2.2.2).map fun c=>c.2.1.cnt).sum≤k1.cnt+k2.cnt:=fun l k x y h=>by
   rw[List.filter_cons];split
   ·simpa using h
   ·simp
  unfold A9;simp only[m4];cases lft a<;>cases lft b
  ·exact one _ _ _ _ (by omega)
  ·exact Nat.zero_le _
  ·exact Nat.zero_le _
  ·exact one _ _ _ _ (by omega)
 |way k1 k2=>
  obtain⟨r,hr,hm,rfl⟩:=E2 ha;obtain⟨r',hr',hm',rfl⟩:=E2 hb;show _≤k2.cnt^k1.cnt;rw[bc9 _ k2.cnt _ (fun c hc=>by
   obtain⟨p,_,rfl⟩:=List.mem_map.mp (List.mem_filter.mp hc).1;rfl)]
  have hl:(A9 (.way k1 k2) (.tup [.str "w",.tup r]) (.tup [.str "w",.tup r'])).length≤k1.cnt:=by
   refine Nat.le_trans (List.length_filter_le _ _) ?_;unfold m4;rw[List.length_map,List.length_zip,t4];exact Nat.min_le_left _ _
  by_cases h2:2≤k2.cnt
  ·exact Nat.le_trans (Nat.mul_le_mul_right _ hl) (a96 h2 _)
  ·have:A9 (.way k1 k2) (.tup [.str "w",.tup r]) (.tup [.str "w",.tup r'])=[]:=by
    unfold A9;rw[List.filter_eq_nil_iff];intro c hc;have hc':=F5 ha hb hc;obtain⟨p,_,rfl⟩:=List.mem_map.mp hc;have:p.2.1=p.2.2:=Classical.byContradiction fun z=>h2 (ax4 hc'.1 hc'.2.1 z);simp only[this,C6 (t0 _ _ hc'.2.1).1];simp
   rw[this];simp
theorem b64{e:Ent}(h:EOk e):wt ((j7 e).filter dif)≤e.2.1.cnt:=by
 rw[aw1];unfold wt;rw[List.map_map];exact b07 h.1 h.2.1
theorem aj4:∀{L:List Ent},(∀e∈L,EOk e)→wt ((L.flatMap j7).filter dif)≤wt L
 |[],_=>Nat.le_refl _
 |e::L,h=>by
  rw[List.flatMap_cons,List.filter_append,am4,R8];have:=b64 (h e (by simp));have:=aj4 (L:=L) fun x hx=>h x (by simp[hx]);omega
theorem a33:∀(cs acc:List Ent)(seen:List Key),wt (cs.foldl o4 (acc,seen)).1≤wt acc+wt (cs.filter dif)
 |[],acc,seen=>by simp
 |c::cs,acc,seen=>by
  rw[List.foldl_cons,List.filter_cons]
  by_cases hx:dif c=true∧c.2∉seen
  ·rw[L8 hx.1 hx.2,if_pos hx.1];refine Nat.le_trans (a33 cs _ _) ?_;rw[am4,R8,R8];show wt acc+(_+0)+_≤_;omega
  ·rw[G4 (ndf hx)];refine Nat.le_trans (a33 cs _ _) ?_
   split
   ·rw[R8];omega
   ·omega
theorem W5{n:Nat}{k:Kd}{a b:D}{c:Kid}(hc:c∈m4 k a b)(hd:deq c.2.2.1 c.2.2.2=false)(h:(j2 n c.2.1 c.2.2.1 c.2.2.2).isSome=true):(j2 (n+1) k a b).isSome=true:=by
 rw[j2,List.findSome?_isSome_iff];exact⟨c,List.mem_filter.mpr ⟨hc,by rw[hd];rfl⟩,by rw[Option.isSome_map];exact h⟩
theorem R4:∀(k:Kd){a b:D},a∈k.things→b∈k.things→a≠b→∃n,(j2 n k a b).isSome=true
 |.non,a,b,ha,_,_=>by cases ha
 |.one,a,b,ha,hb,h=>by
  simp only[Kd.things,List.mem_singleton]at ha hb;exact absurd (ha.trans hb.symm) h
 |.both k1 k2,a,b,ha,hb,h=>by
  obtain⟨x,y,hx,hy,rfl⟩:=C8 ha;obtain⟨x',y',hx',hy',rfl⟩:=C8 hb
  by_cases e:x=x'
  ·have e2:y≠y':=fun z=>h (by rw[e,z]);obtain⟨n,hn⟩:=R4 k2 hy hy' e2;exact⟨n+1,W5 (c:=(.second,k2,y,y')) (by simp[m4,D.ats]) ((D3 hy hy').mpr e2) hn⟩
  ·obtain⟨n,hn⟩:=R4 k1 hx hx' e;exact⟨n+1,W5 (c:=(.first,k1,x,x')) (by simp[m4,D.ats]) ((D3 hx hx').mpr e) hn⟩
 |.eith k1 k2,a,b,ha,hb,h=>by
  rcases A7 ha with⟨x,hx,rfl⟩|⟨x,hx,rfl⟩<;>rcases A7 hb with⟨y,hy,rfl⟩|⟨y,hy,rfl⟩
  ·have e:x≠y:=fun z=>h (by rw[z]);obtain⟨n,hn⟩:=R4 k1 hx hy e;exact⟨n+1,W5 (c:=(.left,k1,x,y)) (by simp[m4,D.ats,w8]) ((D3 hx hy).mpr e) hn⟩
  ·exact⟨0,by simp[j2,prt,w8,y0]⟩
  ·exact⟨0,by simp[j2,prt,w8,y0]⟩
  ·have e:x≠y:=fun z=>h (by rw[z]);obtain⟨n,hn⟩:=R4 k2 hx hy e;exact⟨n+1,W5 (c:=(.right,k2,x,y)) (by simp[m4,D.ats,y0]) ((D3 hx hy).mpr e) hn⟩
 |.way k1 k2,a,b,ha,hb,h=>by
  obtain⟨r,hr,hm,rfl⟩:=E2 ha;obtain⟨r',hr',hm',rfl⟩:=E2 hb;have:∃j,r[j]?≠r'[j]?:=Classical.byContradiction fun z=>h (by
   rw[List.ext_getElem? fun j=>Classical.byContradiction fun w=>z ⟨j,w⟩])
  obtain⟨j,hj⟩:=this;have hjl:j<r.length:=Classical.byContradiction fun z=>hj (by rw[List.getElem?_eq_none (by omega),List.getElem?_eq_none (by omega)]);have h1:r[j]?=some r[j]:=List.getElem?_eq_getElem hjl;have h2:r'[j]?=some (r'[j]'(by omega)):=List.getElem?_eq_getElem (by omega);have h3:k1.things[j]?=some (k1.things[j]'(by omega)):=List.getElem?_eq_getElem (by omega);have e:r[j]≠r'[j]'(by omega):=fun z=>hj (by rw[h1,h2,z]);have m1:=hm _ (List.mem_of_getElem? h1);have m2:=hm' _ (List.mem_of_getElem? h2);obtain⟨n,hn⟩:=R4 k2 m1 m2 e;refine⟨n+1,W5 (c:=(.give (k1.things[j]'(by omega)),k2,r[j],r'[j]'(by omega))) ?_ ((D3 m1 m2).mpr e) hn⟩;simp only[m4,D.ats,List.getD_cons_succ,List.getD_cons_zero,D.its,List.mem_map];refine⟨(k1.things[j]'(by omega),r[j],r'[j]'(by omega)),?_,rfl⟩;refine List.mem_of_getElem? (i:=j) ?_;rw[List.getElem?_zip_eq_some];exact⟨h3,by rw[List.getElem?_zip_eq_some];exact⟨h1,h2⟩⟩
noncomputable def swp(c:Kid):Kid:=(c.1,c.2.1,c.2.2.2,c.2.2.1)
theorem bg4{k:Kd}{a b:D}:m4 k b a=(m4 k a b).map swp:=by
 cases k with
 |non=>rfl
 |one=>rfl
 |both k1 k2=>rfl
 |eith k1 k2=>simp only[m4];cases lft a<;>cases lft b<;>rfl
 |way k1 k2=>
  unfold m4;rw[List.map_map];have:∀(ts xs ys:List D),(ts.zip (ys.zip xs)).map (fun p=>((Lk.give p.1,k2,p.2.1,p.2.2):Kid))=(ts.zip (xs.zip ys)).map (swp∘fun p=>((Lk.give p.1,k2,p.2.1,p.2.2):Kid)):=by
   intro ts
   induction ts with
   |nil=>intro xs ys;rfl
   |cons t ts ih=>
    intro xs ys;cases xs<;>cases ys<;>first|rfl|(simp only[List.zip_cons_cons,List.map_cons,ih];rfl)
  exact this _ _ _
theorem cg2{k:Kd}{a b:D}:prt k b a=prt k a b:=by
 cases k<;>first|rfl|(simp only[prt];cases lft a<;>cases lft b<;>rfl)
theorem ay4:∀(n:Nat){k:Kd}{a b:D},a∈k.things→b∈k.things→j2 n k b a=j2 n k a b
 |0,k,a,b,_,_=>by rw[j2,j2,cg2]
 |n+1,k,a,b,ha,hb=>by
  rw[j2,j2];unfold A9;rw[bg4,List.filter_map,List.findSome?_map];have hf:(m4 k a b).filter ((fun e:Kid=>!deq e.2.2.1 e.2.2.2)∘swp)=(m4 k a b).filter fun e=>!deq e.2.2.1 e.2.2.2:=by
   refine List.filter_congr fun c hc=>?_;obtain⟨h1,h2,_⟩:=F5 ha hb hc;show(!deq c.2.2.2 c.2.2.1)=!deq c.2.2.1 c.2.2.2
   congr 1
   cases e:deq c.2.2.1 c.2.2.2 with
   |false=>exact(D3 h2 h1).mpr ((D3 h1 h2).mp e).symm
   |true=>
    have:c.2.2.1=c.2.2.2:=(R9 _ _ (t0 _ _ h1).1 (t0 _ _ h2).1).mp e;rw[this]at e ⊢;exact e
  rw[hf];have:∀l:List Kid,(∀c∈l,c∈m4 k a b)→l.findSome? ((fun e:Kid=>(j2 n e.2.1 e.2.2.1 e.2.2.2).map (e.1::·))∘swp)=l.findSome? fun e=>(j2 n e.2.1 e.2.2.1 e.2.2.2).map (e.1::·):=by
   intro l
   induction l with
   |nil=>intro _;rfl
   |cons c l ih=>
    intro h;obtain⟨h1,h2,_⟩:=F5 ha hb (h c (by simp));rw[List.findSome?_cons,List.findSome?_cons,ih fun x hx=>h x (by simp[hx])];have e:((fun e:Kid=>(j2 n e.2.1 e.2.2.1 e.2.2.2).map (e.1::·))∘swp) c=(j2 n c.2.1 c.2.2.1 c.2.2.2).map (c.1::·):=by
     show(j2 n c.2.1 c.2.2.2 c.2.2.1).map (c.1::·)=_;rw[ay4 n h1 h2]
    rw[e]
  exact this _ fun c hc=>(List.mem_filter.mp hc).1
inductive Fol:Kd→D→List Lk→Option (Kd×D)→Prop
 |nil {k:Kd} {a:D}:Fol k a [] (some (k,a))
 |step {k k':Kd} {a a':D} {l:Lk} {ls:List Lk} {r:Option (Kd×D)} (h:Lks k a l k' a') (t:Fol k' a' ls r):Fol k a (l::ls) r
 |badl {k1 k2:Kd} {x:D} {ls:List Lk}:Fol (.eith k1 k2) (.tup [.str "l",x]) (.right::ls) none
 |badr {k1 k2:Kd} {x:D} {ls:List Lk}:Fol (.eith k1 k2) (.tup [.str "r",x]) (.left::ls) none
theorem Fol.app{k k':Kd}{a x:D}{ls ls':List Lk}{r:Option (Kd×D)}{o:Option (Kd×D)}(h:Fol k a ls o)(ho:o=some (k',x))(h':Fol k' x ls' r):Fol k a (ls++ls') r:=by
 induction h with
 |nil=>cases ho;exact h'
 |step h t ih=>exact .step h (ih ho)
 |badl=>cases ho
 |badr=>cases ho
theorem bg3:∀(n:Nat){k:Kd}{a b:D}{ls:List Lk},a∈k.things→b∈k.things→j2 n k a b=some ls →
  ∃k1 k2 x y,Fol k a ls (some (.eith k1 k2,x))∧Fol k b ls (some (.eith k1 k2,y))∧lft x≠lft y∧x∈(Kd.eith k1 k2).things∧y∈(Kd.eith k1 k2).things∧(Kd.eith k1 k2).nest≤k.nest
 |0,k,a,b,ls,ha,hb,h=>by
  rw[j2]at h;cases k with
  |eith k1 k2=>
   split at h
   ·rename_i hp;cases h;exact⟨k1,k2,a,b,.nil,.nil,by simpa[prt]using hp,ha,hb,Nat.le_refl _⟩
   ·cases h
  |_=>simp[prt]at h
 |n+1,k,a,b,ls,ha,hb,h=>by
  rw[j2]at h;obtain⟨c,hc,he⟩:=List.exists_of_findSome?_eq_some h;obtain⟨h1,h2,⟨_,h3⟩,l1,l2⟩:=F5 ha hb (List.mem_filter.mp hc).1;cases hb':j2 n c.2.1 c.2.2.1 c.2.2.2 with
  |none=>rw[hb']at he;cases he
  |some ls'=>
   rw[hb']at he;cases he;obtain⟨k1,k2,x,y,f1,f2,hl,hx,hy,hn⟩:=bg3 n h1 h2 hb';exact⟨k1,k2,x,y,.step l1 f1,.step l2 f2,hl,hx,hy,by omega⟩
theorem ba3{k:Kd}{a:D}(ha:a∈k.things):A9 k a a=[]:=by
 unfold A9;rw[List.filter_eq_nil_iff];intro c hc;have h:=F5 ha ha hc;have hs:c.2.2.1=c.2.2.2:=by
  have e:m4 k a a=(m4 k a a).map swp:=bg4;cases k with
  |non=>cases hc
  |one=>cases hc
  |both k1 k2=>simp only[m4,List.mem_cons,List.not_mem_nil,or_false]at hc;rcases hc with rfl|rfl<;>rfl
  |eith k1 k2=>unfold m4 at hc;cases hl:lft a<;>(simp[hl]at hc;subst hc;rfl)
  |way k1 k2=>
   simp only[m4,List.mem_map]at hc;obtain⟨p,hp,rfl⟩:=hc;obtain⟨j,hj⟩:=List.mem_iff_getElem?.mp hp;simp only[List.getElem?_zip_eq_some]at hj;obtain⟨_,h2,h3⟩:=hj;rw[h2]at h3;exact Option.some.inj h3
 simp only[hs,C6 (t0 _ _ h.2.1).1];simp
theorem b97{k:Kd}{a b:D}(ha:a∈k.things)(hb:b∈k.things)(h:a≠b):∃N ls,j2 N k a b=some ls∧∀j,j<N→j2 j k a b=none:=by
 obtain⟨n,hn⟩:=R4 k ha hb h;have:∀m,(∃j,j<m∧(j2 j k a b).isSome=true)→∃N ls,j2 N k a b=some ls∧∀j,j<N→j2 j k a b=none:=by
  intro m
  induction m with
  |zero=>rintro⟨j,hj,_⟩;omega
  |succ m ih=>
   rintro⟨j,hj,hs⟩
   by_cases hm:∃j,j<m∧(j2 j k a b).isSome=true
   ·exact ih hm
   ·have ej:j=m:=Classical.byContradiction fun z=>hm ⟨j,by omega,hs⟩;subst ej;obtain⟨ls,hls⟩:=Option.isSome_iff_exists.mp hs;refine⟨j,ls,hls,fun i hi=>?_⟩;cases hb:j2 i k a b with
    |none=>rfl
    |some x=>exact absurd ⟨i,hi,by rw[hb];rfl⟩ hm
 exact this (n+1) ⟨n,by omega,hn⟩
noncomputable def B5(S:List It3)(k:Key):D:=.tup [.int (nb S k.1.d:Nat),.int (nb S k.2.1:Nat),.int (nb S k.2.2:Nat)]
noncomputable def aa8(S:List It3)(c:Kid):D:=.tup [c.1.d,B5 S c.2]
noncomputable def F7(S:List It3)(e:Ent):D:=.tup [.tup (e.1.map Lk.d),B5 S e.2]
noncomputable def v8(S:List It3)(k:Key):Prop:=Has S k.1.d∧Has S k.2.1∧Has S k.2.2
theorem ay6{S:List It3}{k:Key}:B5 S k=u6 [nb S k.1.d,nb S k.2.1,nb S k.2.2]:=rfl
theorem a03(ns:List Nat):(u6 ns).lit=true:=E8.mpr fun d hd=>by
 obtain⟨n,_,rfl⟩:=List.mem_map.mp hd;rfl
theorem be8{S:List It3}{k k':Key}(h1:v8 S k)(h2:v8 S k')(h:(B5 S k).py=(B5 S k').py):k=k':=by
 rw[ay6,ay6]at h;have e:=bh0 (a52 (a03 _) (a03 _) h);simp only[List.cons.injEq,and_true]at e;obtain⟨e1,e2,e3⟩:=e;exact Prod.ext (cr3 (Y4 h1.1 h2.1 e1)) (Prod.ext (Y4 h1.2.1 h2.2.1 e2) (Y4 h1.2.2 h2.2.2 e3))
theorem bd7{S:List It3}{k:Key}:D.key (B5 S k):=by
 rw[ay6];refine⟨X8 _ (a03 _),Nat.le_trans (show j5 (u6 _)≤1 from ?_) (by decide)⟩;unfold u6;rw[v7];simp[o5,T3]
noncomputable def B2(S:List It3)(seen:List Key):List (PyData×D):=seen.map fun k=>((B5 S k).py,D.bl true)
theorem cu5{S:List It3}{seen:List Key}{k:Key}(h:∀x∈seen,v8 S x)(hk:v8 S k):(z8 (B2 S seen) (B5 S k).py).isSome=true↔k∈seen:=by
 unfold z8 B2;rw[Option.isSome_map,List.find?_isSome];constructor
 ·rintro⟨x,hx,e⟩;obtain⟨y,hy,rfl⟩:=List.mem_map.mp hx;rw[←be8 (h y hy) hk (by simpa using e)];exact hy
 ·intro hk;exact⟨_,List.mem_map_of_mem hk,by simp⟩
theorem cc9{S:List It3}{seen:List Key}{k:Key}(h:∀x∈seen,v8 S x)(hk:v8 S k)(hn:k∉seen):M8 (B2 S seen) (B5 S k).py (.bl true)=B2 S (seen++[k]):=by
 unfold M8;rw[if_neg]
 ·unfold B2;rw[List.map_append];rfl
 ·rw[List.any_eq_true];rintro⟨x,hx,e⟩;unfold B2 at hx;obtain⟨y,hy,rfl⟩:=List.mem_map.mp hx;exact hn (by rw[←be8 (h y hy) hk (by simpa using e)];exact hy)
theorem bl8(ts xs ys:List D):p7 ts (p7 xs ys)=(ts.zip (xs.zip ys)).map fun p=>.tup [p.1,.tup [p.2.1,p.2.2]]:=by
 unfold p7;rw[List.zip_map_right,List.map_map];rfl
theorem cc4{Z:Sg}{env:i9}{st:Sto}{K:DK}{i j l:Nat}{k:Kd}{a b:D}(h1:env[i]?=some (some k.d))(h2:env[j]?=some (some a))(h3:env[l]?=some (some b))(ha:a∈k.things)(hb:b∈k.things)(q:K (.bl (prt k a b)) st):
  wpE Z (.and (.cmp .Eq (.ix (.v i) (.int 0)) (.str "either")) (.cmp .NotEq (.ix (.v j) (.int 0)) (.ix (.v l) (.int 0)))) env st K:=by
 simp only[U9,U4,V5,e_v,P9,U6,h1,h2,h3,V2];cases k with
 |non=>simp only[Kd.d];walk_at "ek";exact q
 |one=>simp only[Kd.d];walk_at "ek";exact q
 |both k1 k2=>simp only[Kd.d];walk_at "ek";exact q
 |way k1 k2=>simp only[Kd.d];walk_at "ek";exact q
 |eith k1 k2=>
  simp only[Kd.d];walk_at "ek"
  rcases A7 ha with⟨x,hx,rfl⟩|⟨x,hx,rfl⟩<;>rcases A7 hb with⟨y,hy,rfl⟩|⟨y,hy,rfl⟩
  ·walk_at "ek";simpa[prt,w8]using q
  ·walk_at "ek";simpa[prt,w8,y0]using q
  ·walk_at "ek";simpa[prt,w8,y0]using q
  ·walk_at "ek";simpa[prt,y0]using q
theorem az4{k k':Kd}{a a':D}{l:Lk}(h:Lks k a l k' a'):(∀m,k.bd m→k'.bd m)∧k'.nest<k.nest:=by
 cases h with
 |first=>exact⟨fun m h=>h.1,by show _<1+_;omega⟩
 |second=>exact⟨fun m h=>h.2.1,by show _<1+_;omega⟩
 |left=>exact⟨fun m h=>h.1,by show _<1+_;omega⟩
 |right=>exact⟨fun m h=>h.2.1,by show _<1+_;omega⟩
 |give h1 h2=>exact⟨fun m h=>h.2.1,by show _<1+_;omega⟩
noncomputable def itS(e:Ent):Nat→List Ent×List Key
 |0=>([e],[])
 |j+1=>((itS e j).1.flatMap j7).foldl o4 ([],(itS e j).2)
noncomputable def itL(e:Ent):Nat→List Ent
 |0=>[e]
 |j+1=>nxt (itL e j)
noncomputable def LOk(L:List Ent):Prop:=(∀e∈L,EOk e)∧wt L≤100
theorem bn3{e:Ent}(he:EOk e):LOk [e]:=⟨fun x hx=>by simp only[List.mem_singleton]at hx;subst hx;exact he,by
   have:=Kd.bd_le he.2.2.1;show wt [e]≤100;rw[R8];show _+0≤_;omega⟩
theorem a31{L dn j1:List Ent}{seen:List Key}(hL:LOk L)(h:L.flatMap j7=dn++j1):(∀e∈(dn.foldl o4 ([],seen)).1,EOk e∧dif e=true∧e∈L.flatMap j7)∧wt (dn.foldl o4 ([],seen)).1≤100∧(dn.foldl o4 ([],seen)).1.length≤100∧(dn.foldl o4 ([],seen)).2.length≤seen.length+100:=by
 have h0:=a36 hL.1;have hd:∀e∈(dn.foldl o4 ([],seen)).1,EOk e∧dif e=true∧e∈L.flatMap j7:=fun e he=>by
  rcases ay8 _ _ _ e he with z|z
  ·cases z
  ·have:=List.mem_filter.mp z;have hm:e∈L.flatMap j7:=by rw[h];exact List.mem_append_left _ this.1
   exact⟨h0 e hm,this.2,hm⟩
 have h1:=aj4 hL.1;rw[h,List.filter_append,am4]at h1;have h2:=a33 dn [] seen;have h3:=a44 fun e he=>(hd e he).1;have:=hL.2;have:wt ([]:List Ent)=0:=rfl;have h4:=az3 dn [] seen;simp only[List.length_nil]at h4;exact⟨hd,by omega,by omega,by omega⟩
theorem a42{e:Ent}(he:EOk e)(hd:dif e=true):∀j,LOk (itS e j).1∧(∀x∈(itS e j).1,dif x=true)∧(itS e j).2.length≤100*j
 |0=>⟨bn3 he,fun x hx=>by simp only[itS,List.mem_singleton]at hx;subst hx;exact hd,Nat.zero_le _⟩
 |j+1=>by
  obtain⟨h1,_,h2⟩:=a42 he hd j;obtain⟨g1,g2,g3,g4⟩:=a31 (seen:=(itS e j).2) h1 (show _=(itS e j).1.flatMap j7++[] by simp);exact⟨⟨fun x hx=>(g1 x hx).1,g2⟩,fun x hx=>(g1 x hx).2.1,by show((((itS e j).1.flatMap j7).foldl o4 ([],(itS e j).2)).2).length≤_;omega⟩
theorem bn2{e:Ent}(he:EOk e):∀j,LOk (itL e j)
 |0=>bn3 he
 |j+1=>by
  obtain⟨h1,h2⟩:=bn2 he j;exact⟨cv6 h1,Nat.le_trans (aj4 h1) h2⟩
theorem bk4{e:Ent}(he0:e.1=[]){N:Nat}(hlt:∀j,j<N→j2 j e.2.1 e.2.2.1 e.2.2.2=none):∀j,(∀n,n+j≤N→fnd n (itS e j).1=j2 (n+j) e.2.1 e.2.2.1 e.2.2.2)∧∀k∈(itS e j).2,∀n,n+j+1≤N→j2 n k.1 k.2.1 k.2.2=none
 |0=>by
  refine⟨fun n _=>?_,fun k hk=>by cases hk⟩;unfold fnd itS;rw[List.findSome?_cons,he0];cases j2 n e.2.1 e.2.2.1 e.2.2.2<;>simp[*]
 |j+1=>by
  obtain⟨h1,h2⟩:=bk4 he0 hlt j;have f1:∀n,n+(j+1)≤N→fnd n (itS e (j+1)).1=j2 (n+(j+1)) e.2.1 e.2.2.1 e.2.2.2:=fun n hn=>by
   show fnd n (((itS e j).1.flatMap j7).foldl o4 ([],(itS e j).2)).1=_;rw[ae5 _ _ _ fun k hk=>.inl (h2 k hk n (by omega)),List.nil_append];show fnd n (nxt (itS e j).1)=_;rw[a06,h1 (n+1) (by omega)];congr 1;omega
  refine⟨f1,fun k hk n hn=>?_⟩
  rcases W1 _ _ _ k hk with z|⟨x,hx,rfl⟩
  ·exact h2 k z n (by omega)
  ·have:=f1 n (by omega);rw[hlt _ (by omega)]at this;unfold fnd at this;rw[List.findSome?_eq_none_iff]at this;have:=this x hx;simpa using this
theorem bk1{e:Ent}(he0:e.1=[]):∀j n,fnd n (itL e j)=j2 (n+j) e.2.1 e.2.2.1 e.2.2.2
 |0,n=>by
  unfold fnd itL;rw[List.findSome?_cons,he0];cases j2 n e.2.1 e.2.2.1 e.2.2.2<;>simp
 |j+1,n=>by
  show fnd n (nxt (itL e j))=_;rw[a06,bk1 he0 j];congr 1;omega
theorem a93{pre suf:List Ent}{e:Ent}(h:∀x∈pre,prt x.2.1 x.2.2.1 x.2.2.2=false)(hp:prt e.2.1 e.2.2.1 e.2.2.2=true):fnd 0 (pre++e::suf)=some e.1:=by
 rw[S5];have:fnd 0 pre=none:=by
  unfold fnd;rw[List.findSome?_eq_none_iff];intro x hx;rw[j2,h x hx];rfl
 rw[this];unfold fnd;rw[List.findSome?_cons,j2,hp];simp
theorem bh3{L:List Ent}(h:∀x∈L,prt x.2.1 x.2.2.1 x.2.2.2=false):fnd 0 L=none:=by
 unfold fnd;rw[List.findSome?_eq_none_iff];intro x hx;rw[j2,h x hx];rfl
theorem ci2{L dn j1:List Ent}(hL:LOk L)(h:L.flatMap j7=dn++j1):(∀e∈dn.filter dif,EOk e)∧(dn.filter dif).length≤100:=by
 have h0:=a36 hL.1;have hd:∀e∈dn.filter dif,EOk e:=fun e he=>h0 e (by rw[h];exact List.mem_append_left _ (List.mem_filter.mp he).1);refine⟨hd,?_⟩;have h1:=aj4 hL.1;rw[h,List.filter_append,am4]at h1;have h3:=a44 hd;have:=hL.2;omega
theorem M0{S:List It3}(w:Wf S){v:String}{x y:D}(h:Has S (.tup [.str v,x,y]))(hx:∃l,x=.tup l)(hy:∃l,y=.tup l):Has S x∧Has S y:=by
 have:=(al5 w (fr:=[.str v]) (inn:=[x,y]) h Q3 (fun d hd=>by simp at hd;rcases hd with rfl|rfl<;>assumption)).1;exact⟨this x (by simp),this y (by simp)⟩
theorem Y3{S:List It3}(w:Wf S){v:String}{x:D}(h:Has S (.tup [.str v,x]))(hx:∃l,x=.tup l):Has S x:=
 (al5 w (fr:=[.str v]) (inn:=[x]) h Q3 (fun d hd=>by simp at hd;subst hd;exact hx)).1 x (by simp)
theorem ca5{S:List It3}(w:Wf S){r:List D}(h:Has S (.tup r))(hr:∀d∈r,∃l,d=.tup l):∀d∈r,Has S d:=
 (al5 w (fr:=[]) (inn:=r) h (by simp) hr).1
theorem bk2{S:List It3}(w:Wf S){k k':Kd}{a a':D}{l:Lk}(ha:a∈k.things)(h:Lks k a l k' a')(h1:Has S k.d)(h2:Has S a):Has S k'.d∧Has S a':=by
 cases h with
 |first=>
  obtain⟨x,y,hx,hy,e⟩:=C8 ha;cases e;exact⟨(M0 w h1 (t8 _) (t8 _)).1,(M0 w h2 (z4 hx) (z4 hy)).1⟩
 |second=>
  obtain⟨x,y,hx,hy,e⟩:=C8 ha;cases e;exact⟨(M0 w h1 (t8 _) (t8 _)).2,(M0 w h2 (z4 hx) (z4 hy)).2⟩
 |left=>
  rcases A7 ha with⟨x,hx,e⟩|⟨x,hx,e⟩
  ·cases e;exact⟨(M0 w h1 (t8 _) (t8 _)).1,Y3 w h2 (z4 hx)⟩
  ·simp[v3]at e
 |right=>
  rcases A7 ha with⟨x,hx,e⟩|⟨x,hx,e⟩
  ·simp[v3]at e
  ·cases e;exact⟨(M0 w h1 (t8 _) (t8 _)).2,Y3 w h2 (z4 hx)⟩
 |give g1 g2=>
  obtain⟨r,hr,hm,e⟩:=E2 ha;cases e;exact⟨(M0 w h1 (t8 _) (t8 _)).2,ca5 w (Y3 w h2 ⟨_,rfl⟩) (fun d hd=>z4 (hm d hd)) _ (List.mem_of_getElem? g2)⟩
theorem bh6{S:List It3}(w:Wf S){k:Kd}{a b:D}(ha:a∈k.things)(hb:b∈k.things)(h:v8 S (k,a,b)){c:Kid}(hc:c∈m4 k a b):v8 S c.2:=by
 obtain⟨_,_,_,l1,l2⟩:=F5 ha hb hc;obtain⟨g1,g2⟩:=bk2 w ha l1 h.1 h.2.1;exact⟨g1,g2,(bk2 w hb l2 h.1 h.2.2).2⟩
theorem bh1{S:List It3}(w:Wf S){L:List Ent}(hL:∀e∈L,EOk e)(h:∀e∈L,v8 S e.2):∀c∈L.flatMap j7,v8 S c.2:=fun c hc=>by
 obtain⟨e,he,hce⟩:=List.mem_flatMap.mp hc;unfold j7 at hce;obtain⟨c',hc',rfl⟩:=List.mem_map.mp hce;exact bh6 w (hL e he).1 (hL e he).2.1 (h e he) hc'
theorem bh7{S:List It3}(w:Wf S){e:Ent}(he:EOk e)(hd:dif e=true)(h:v8 S e.2):∀j,(∀x∈(itS e j).1,v8 S x.2)∧∀k∈(itS e j).2,v8 S k
 |0=>⟨fun x hx=>by simp only[itS,List.mem_singleton]at hx;subst hx;exact h,fun k hk=>by cases hk⟩
 |j+1=>by
  obtain⟨h1,h2⟩:=bh7 w he hd h j;have hL:=(a42 he hd j).1;have g:=bh1 w hL.1 h1;obtain⟨g1,_⟩:=a31 (seen:=(itS e j).2) hL (show _=(itS e j).1.flatMap j7++[] by simp);have f1:∀x∈(itS e (j+1)).1,v8 S x.2:=fun x hx=>g x (g1 x hx).2.2;refine⟨f1,fun k hk=>?_⟩
  rcases W1 _ _ _ k hk with z|⟨x,hx,rfl⟩
  ·exact h2 k z
  ·exact f1 x hx
theorem ShA.fresh{sh dn sa pa wa:Addr}{S:List It3}{st:Sto}(A:ShA sh dn sa pa wa S st){p:Addr}(hp:st p=none):p∉[sh,dn,sa,pa,wa]:=fun z=>by
 simp only[List.mem_cons,List.not_mem_nil,or_false]at z;obtain⟨o,e⟩:=A.wai
 rcases z with rfl|rfl|rfl|rfl|rfl
 ·rw[A.ins]at hp;cases hp
 ·rw[A.num]at hp;cases hp
 ·rw[A.sto]at hp;cases hp
 ·rw[A.par]at hp;cases hp
 ·rw[e]at hp;cases hp
theorem J9{S:List It3}{k:Kd}{a b:D}:B5 S (k,a,b)=.tup [.int (nb S k.d:Nat),.int (nb S a:Nat),.int (nb S b:Nat)]:=rfl
section
variable {P:j9} {G:Gs} (T:PK81 P G)
include T
theorem U2{n:Nat}{st:Sto}{Q:DK}{sh dn sa pa wa:Addr}{S:List It3}(A:ShA sh dn sa pa wa S st){w:String}{x y:D}(h:Has S (.tup [.str w,x,y]))(hx:∃l,x=.tup l)(hy:∃l,y=.tup l)(q:Q (.tup [.int (nb S x:Nat),.int (nb S y:Nat)]) st):sem P G (n+1) (i5 "Shelf" "within") [.ref sh,.int (nb S (.tup [.str w,x,y]):Nat)] st Q:=
 ae0 T.toPSh A (fr:=[.str w]) (inn:=[x,y]) h Q3 (fun d hd=>by simp at hd;rcases hd with rfl|rfl<;>assumption) q
theorem U3{n:Nat}{st:Sto}{Q:DK}{sh dn sa pa wa:Addr}{S:List It3}(A:ShA sh dn sa pa wa S st){w:String}{x:D}(h:Has S (.tup [.str w,x]))(hx:∃l,x=.tup l)(q:Q (.tup [.int (nb S x:Nat)]) st):sem P G (n+1) (i5 "Shelf" "within") [.ref sh,.int (nb S (.tup [.str w,x]):Nat)] st Q:=
 ae0 T.toPSh A (fr:=[.str w]) (inn:=[x]) h Q3 (fun d hd=>by simp at hd;subst hd;exact hx) q
theorem b24{n:Nat}{st:Sto}{Q:DK}{k:Kd}{a b:D}{sh dn sa pa wa:Addr}{S:List It3}(A:ShA sh dn sa pa wa S st)(hh:v8 S (k,a,b))(hn:9≤n)(ha:a∈k.things)(hb:b∈k.things)(hab:a≠b)(hp:prt k a b=false)(hbd:k.bd 100)(hne:k.nest≤10)(q:∀p st',st p=none→st' p=some (.lst ((m4 k a b).map (aa8 S)))→Kp [] st st'→Q (.ref p) st'):sem P G n "looks_at_both" [.ref sh,B5 S (k,a,b)] st Q:=by
 obtain⟨n,rfl⟩:∃m,n=m+2:=⟨n-2,by omega⟩;obtain⟨hk1,hk2,hk3⟩:=hh;simp only at hk1 hk2 hk3;refine j6 T.atboth rfl [some (.ref sh),some (B5 S (k,a,b)),none,none,none,none,none,none] rfl ?_;unfold ab3;rw[J9];cases k with
 |non=>cases ha
 |one=>
  simp only[Kd.things,List.mem_singleton]at ha hb;exact absurd (ha.trans hb.symm) hab
 |both k1 k2=>
  obtain⟨x,y,hx,hy,rfl⟩:=C8 ha;obtain⟨x',y',hx',hy',rfl⟩:=C8 hb;simp only[Kd.d]at hk1 ⊢;walk_at "es";refine⟨sh,"Shelf",_,rfl,A.ins,rfl,by rw[T.wthn];rfl,U2 T A hk1 (t8 _) (t8 _) ?_⟩;walk_at "es";refine⟨sh,"Shelf",_,rfl,A.ins,rfl,by rw[T.wthn];rfl,U2 T A hk2 (z4 hx) (z4 hy) ?_⟩;walk_at "es";refine⟨sh,"Shelf",_,rfl,A.ins,rfl,by rw[T.wthn];rfl,U2 T A hk3 (z4 hx') (z4 hy') ?_⟩;walk_at "es";refine⟨sh,"Shelf",_,rfl,A.ins,rfl,by rw[T.word];rfl,D0 T.toPSh A hk1 ?_⟩;walk_at "es";walk_at "es";exact fun p hp=>d9 (q p _ hp d8 (Kp.refl.new hp))
 |eith k1 k2=>
  simp only[Kd.d]at hk1 ⊢
  rcases A7 ha with⟨x,hx,rfl⟩|⟨x,hx,rfl⟩<;>rcases A7 hb with⟨y,hy,rfl⟩|⟨y,hy,rfl⟩
  ·walk_at "es";refine⟨sh,"Shelf",_,rfl,A.ins,rfl,by rw[T.wthn];rfl,U2 T A hk1 (t8 _) (t8 _) ?_⟩;walk_at "es";refine⟨sh,"Shelf",_,rfl,A.ins,rfl,by rw[T.wthn];rfl,U3 T A hk2 (z4 hx) ?_⟩;walk_at "es";refine⟨sh,"Shelf",_,rfl,A.ins,rfl,by rw[T.wthn];rfl,U3 T A hk3 (z4 hy) ?_⟩;walk_at "es";refine⟨sh,"Shelf",_,rfl,A.ins,rfl,by rw[T.word];rfl,D0 T.toPSh A hk1 ?_⟩;walk_at "es";walk_at "es";refine⟨sh,"Shelf",_,rfl,A.ins,rfl,by rw[T.word];rfl,D0 T.toPSh A hk2 ?_⟩;walk_at "ek";walk_at "es";exact fun p hp=>d9 (q p _ hp (by rw[d8];simp only[m4,w8,if_true];rfl) (Kp.refl.new hp))
  ·simp[prt,w8,y0]at hp
  ·simp[prt,w8,y0]at hp
  ·walk_at "es";refine⟨sh,"Shelf",_,rfl,A.ins,rfl,by rw[T.wthn];rfl,U2 T A hk1 (t8 _) (t8 _) ?_⟩;walk_at "es";refine⟨sh,"Shelf",_,rfl,A.ins,rfl,by rw[T.wthn];rfl,U3 T A hk2 (z4 hx) ?_⟩;walk_at "es";refine⟨sh,"Shelf",_,rfl,A.ins,rfl,by rw[T.wthn];rfl,U3 T A hk3 (z4 hy) ?_⟩;walk_at "es";refine⟨sh,"Shelf",_,rfl,A.ins,rfl,by rw[T.word];rfl,D0 T.toPSh A hk1 ?_⟩;walk_at "es";walk_at "es";refine⟨sh,"Shelf",_,rfl,A.ins,rfl,by rw[T.word];rfl,D0 T.toPSh A hk2 ?_⟩;walk_at "ek";walk_at "es";walk_at "es";exact fun p hp=>d9 (q p _ hp (by rw[d8];simp only[m4,y0,Bool.false_eq_true,if_false];rfl) (Kp.refl.new hp))
 |way k1 k2=>
  obtain⟨r,hr,hm,rfl⟩:=E2 ha;obtain⟨r',hr',hm',rfl⟩:=E2 hb;have hl:=t4 k1;have hc:=Kd.bd_le hbd.1;have hn1:k1.nest≤9:=by have:1+max k1.nest k2.nest≤10:=hne;omega
  simp only[Kd.d]at hk1 ⊢;walk_at "es";refine⟨sh,"Shelf",_,rfl,A.ins,rfl,by rw[T.wthn];rfl,U2 T A hk1 (t8 _) (t8 _) ?_⟩;walk_at "es";refine⟨sh,"Shelf",_,rfl,A.ins,rfl,by rw[T.wthn];rfl,U3 T A hk2 ⟨_,rfl⟩ ?_⟩;walk_at "es";refine⟨sh,"Shelf",_,rfl,A.ins,rfl,by rw[T.wthn];rfl,U3 T A hk3 ⟨_,rfl⟩ ?_⟩;walk_at "es";refine⟨sh,"Shelf",_,rfl,A.ins,rfl,by rw[T.word];rfl,D0 T.toPSh A hk1 ?_⟩;walk_at "es";walk_at "es";walk_at "es";walk_at "es";refine⟨sh,"Shelf",_,rfl,A.ins,rfl,by rw[T.wthn];rfl,ae0 T.toPSh A (fr:=[]) (inn:=r) (Y3 A.wf hk2 ⟨_,rfl⟩) (by simp) (fun d hd=>z4 (hm d hd)) ?_⟩;refine⟨sh,"Shelf",_,rfl,A.ins,rfl,by rw[T.wthn];rfl,ae0 T.toPSh A (fr:=[]) (inn:=r') (Y3 A.wf hk3 ⟨_,rfl⟩) (by simp) (fun d hd=>z4 (hm' d hd)) ?_⟩;refine⟨_,_,rfl,rfl,by simp only[List.length_map];omega,fun bp hbp=>?_⟩;have A2:=A.keep (Kp.refl.new (o:=.lst (p7 ((r.map (nb S)).map fun(n:Nat)=>D.int (n:Int)) ((r'.map (nb S)).map fun(n:Nat)=>D.int (n:Int)))) hbp);walk_at "es";refine⟨by rw[T.things];rfl,sh,"Shelf",_,rfl,A2.ins,rfl,by rw[T.tup];rfl,b89 T.toPSh A2 (M0 A.wf hk1 (t8 _) (t8 _)).1 ?_⟩;refine ax7 T.toPT1 (by omega) hbd.1 hn1 fun ta st2 hta0 hta K2=>?_;have hbp2:=K2.at' (d8 (st:=st) (a:=bp) (o:=.lst (p7 ((r.map (nb S)).map fun(n:Nat)=>D.int (n:Int)) ((r'.map (nb S)).map fun(n:Nat)=>D.int (n:Int))))) (by simp);walk_at "es";refine⟨k1.things,_,.inl hta,.inl hbp2,?_,?_⟩
  ·rw[bl8,List.length_map,List.length_zip];omega
  have ezz:p7 k1.things (p7 ((r.map (nb S)).map fun(n:Nat)=>D.int (n:Int)) ((r'.map (nb S)).map fun(n:Nat)=>D.int (n:Int)))=(k1.things.zip (r.zip r')).map fun p=>.tup [p.1,.tup [.int (nb S p.2.1:Nat),.int (nb S p.2.2:Nat)]]:=by
   rw[bl8,List.map_map,List.map_map,List.zip_map,List.zip_map_right,List.map_map];rfl
  rw[ezz];refine W4 (fun l acc env' st'=>∃(pre suf:List (D×D×D))(x y:Option D),k1.things.zip (r.zip r')=pre++suf∧l=suf.map (fun p=>D.tup [p.1,.tup [.int (nb S p.2.1:Nat),.int (nb S p.2.2:Nat)]])∧acc=pre.map (fun p=>aa8 S (.give p.1,k2,p.2.1,p.2.2))∧env'=[some (.tup [.int (nb S k1.d:Nat),.int (nb S k2.d:Nat)]),x,y]∧st'=st2) ?_ ?_ _ _ _ _ ⟨[],_,none,none,rfl,rfl,rfl,rfl,rfl⟩
  ·rintro acc env' st' ⟨pre,suf,x,y,e,el,rfl,rfl,rfl⟩;refine⟨⟨.inl hta,.inl hbp2⟩,fun p hp=>d9 (q p _ (none_of ((Kp.refl.new hbp).trans K2) hp) ?_ (((Kp.refl.new hbp).trans K2).new hp))⟩;have:suf=[]:=by simpa using el.symm
   subst this;rw[List.append_nil]at e;rw[d8];simp only[m4,D.ats,List.getD_cons_succ,List.getD_cons_zero,D.its,List.map_map,e];rfl
  ·rintro d ds acc env' st' ih ⟨pre,suf,x,y,e,el,rfl,rfl,rfl⟩;refine⟨⟨.inl hta,.inl hbp2⟩,?_⟩;cases suf with
   |nil=>cases el
   |cons p suf=>
    simp only[List.map_cons,List.cons.injEq]at el;obtain⟨rfl,rfl⟩:=el;walk_at "ek";exact ih _ _ _ ⟨pre++[p],suf,_,_,by rw[e];simp,rfl,by rw[List.map_append];rfl,rfl,rfl⟩
end
mutual
theorem a48:∀d:D,dsz d≤d.sz
 |.tup ds=>by have:=bm2 ds;rw[dsz,O4];omega
 |.non=>Nat.le_refl _
 |.bl _=>Nat.le_refl _
 |.int _=>Nat.le_refl _
 |.str _=>Nat.le_refl _
 |.ref _=>Nat.le_refl _
 |.fn _=>Nat.le_refl _
 |.clo _ _ _ _=>Nat.le_refl _
theorem bm2:∀ds:List D,F8 ds≤D.szs ds
 |[]=>Nat.le_refl _
 |d::r=>by
  have h1:=a48 d;have h2:=bm2 r;rw[F8,L5]
  split<;>omega
end
theorem ck9{k k':Kd}{a a':D}{l:Lk}(h:Lks k a l k' a')(g:k.gz):k'.gz:=by
 cases h with
 |first=>exact g.1
 |second=>exact(ai7 g.2).1
 |left=>exact g.1
 |right=>exact g.2
 |give h1 h2=>exact(ai7 g.2).1
theorem ay3{s0 s1 s2:Sto}{L:List Addr}(K1:Kp [] s0 s1)(hL:∀a∈L,s0 a=none)(K2:Kp L s1 s2):Kp [] s0 s2:=fun b o nb e=>K2.at' (K1 b o nb e) (fun z=>by rw[hL b z]at e;cases e)
theorem cw2{P:j9}{G:Gs}{n:Nat}{f:Str}{ds:List D}{st:Sto}{Q:DK}(h:sem P G n f ds st Q):(u8 P G (n+1)).2.1 f ds st Q:=h
section
variable {P:j9} {G:Gs} (T:PK81 P G)
include T
theorem bg2{n:Nat}{st:Sto}{Q:DK}{k:Kd}{a b:D}(hn:9≤n)(hbd:k.bd 100)(hg:k.gz)(hne:k.nest≤4)(ha:a∈k.things)(hb:b∈k.things)
  (q:∀sh dn sa pa wa S st',ShA sh dn sa pa wa S st'→v8 S (k,a,b)→Kp [] st st'→m9 (Zg P G n) (N3.body.drop 2) (o6 Q) [some k.d,some a,some b,some (.ref sh),some (B5 S (k,a,b)),none,none,none,none,none,none,none] st'):sem P G (n+1) "part" [k.d,a,b] st Q:=by
 obtain⟨n,rfl⟩:∃m,n=m+4:=⟨n-4,by omega⟩;have za:=Nat.le_trans (a48 a) (U8 k a hg hbd ha);have zb:=Nat.le_trans (a48 b) (U8 k b hg hbd hb);have zk:=O6 k;have zp:2^(k.nest+1)≤2^5:=Nat.pow_le_pow_right (by decide) (by omega);have hbd':k.bd 1000:=Kd.bd_mono (by decide) hbd;refine j6 T.part rfl [some k.d,some a,some b,none,none,none,none,none,none,none,none,none] rfl ?_;unfold N3;walk_at "es";refine⟨by show(true&&_)=true;rw[T.init];rfl,fun sh hsh=>?_⟩;refine cw2 (n:=n+3) ?_;refine b60 T.toPSh hsh fun dn sa pa wa s1 A1 hd hfr K1=>⟨rfl,?_⟩;walk_at "es";refine⟨sh,"Shelf",_,rfl,A1.ins,rfl,by rw[T.laid];rfl,?_⟩;refine az7 T.toPSh (n:=n+1) (by omega) A1 hd (O2 k) (by omega) (by simp) fun d1 S1 s2 m1 p1 l1 A2 K2=>?_;simp only[List.length_nil]at l1;refine⟨sh,"Shelf",_,rfl,A2.ins,rfl,by rw[T.laid];rfl,?_⟩;refine az7 T.toPSh (n:=n+1) (by omega) A2 hd (N4 k a hbd' ha) (by omega) (by omega) fun d2 S2 s3 m2 p2 l2 A3 K3=>?_;refine⟨sh,"Shelf",_,rfl,A3.ins,rfl,by rw[T.laid];rfl,?_⟩;refine az7 T.toPSh (n:=n+1) (by omega) A3 hd (N4 k b hbd' hb) (by omega) (by omega) fun d3 S3 s4 m3 p3 l3 A4 K4=>?_;obtain⟨h1,rfl⟩:=a56 A4.wf (m1.mono (p2.trans p3));obtain⟨h2,rfl⟩:=a56 A4.wf (m2.mono p3);obtain⟨h3,rfl⟩:=a56 A4.wf m3;walk_at "ek";exact q sh dn sa pa wa S3 s4 A4 ⟨h1,h2,h3⟩ (ay3 (ay3 (ay3 K1 hfr K2) hfr K3) hfr K4)
theorem b42{n:Nat}{st:Sto}{Q:DK}{k:Kd}{a:D}(hn:10≤n)(hbd:k.bd 100)(hg:k.gz)(hne:k.nest≤4)(ha:a∈k.things)(q:∀st',Kp [] st st'→Q .non st'):sem P G n "part" [k.d,a,a] st Q:=by
 obtain⟨n,rfl⟩:∃m,n=m+1:=⟨n-1,by omega⟩;refine bg2 T (by omega) hbd hg hne ha ha fun sh dn sa pa wa S st1 A hh K1=>?_;simp only[N3,Ss.drop,J9];walk_at "es";intro ap hap;walk_at "es";refine⟨T.kt,fun bp hbp=>?_⟩;have h1:d7 (d7 st1 ap (.lst [])) bp (.dtt []) ap=some (.lst []):=i7 d8 hbp;have K2:Kp [] st (d7 (d7 st1 ap (.lst [])) bp (.dtt [])):=(K1.new hap).new hbp;generalize d7 (d7 st1 ap (.lst [])) bp (.dtt [])=st2 at h1 K2;walk_at "es";refine Q8 (fun m env st'=>st'=st2∧env=[some k.d,some a,some a,some (.ref sh),some (.tup [.int (nb S k.d:Nat),.int (nb S a:Nat),.int (nb S a:Nat)]),some (.ref ap),some (.ref bp),none,none,none,none,none]) ?_ 0 _ _ ⟨rfl,rfl⟩;rintro m env st' W ⟨rfl,rfl⟩ ih;rw[R5];walk_at "ek";rw[u1 (.inl h1)];walk_at "ek";rw[if_neg (by decide)];walk_at "es";exact d9 (q _ K2)
theorem b66{n:Nat}{env:i9}{st:Sto}{K:DK}{sh dn sa pa wa:Addr}{S:List It3}{k:Kd}{a b:D}(A:ShA sh dn sa pa wa S st)(hh:v8 S (k,a,b))(h1:env[3]?=some (some (.ref sh)))(h2:env[9]?=some (some (.tup [.int (nb S k.d:Nat),.int (nb S a:Nat),.int (nb S b:Nat)])))(ha:a∈k.things)(hb:b∈k.things)(q:K (.bl (prt k a b)) st):
  wpE (Zg P G (n+1)) (.and (.cmp .Eq (.meth (.v 3) "word_at" (.cons (.ix (.v 9) (.int 0)) .nil)) (.str "either")) (.cmp .NotEq (.meth (.v 3) "word_at" (.cons (.ix (.v 9) (.int 1)) .nil)) (.meth (.v 3) "word_at" (.cons (.ix (.v 9) (.int 2)) .nil)))) env st K:=by
 obtain⟨hk1,hk2,hk3⟩:=hh;simp only at hk1 hk2 hk3;simp only[U9,U4,X6,X1,X4,V5,e_v,P9,U6,h1,h2,V2];refine⟨sh,"Shelf",_,rfl,A.ins,rfl,by rw[T.word];rfl,?_⟩;walk_at "ek";cases k with
 |non=>cases ha
 |one=>simp only[Kd.d]at hk1 ⊢;refine D0 T.toPSh A hk1 ?_;walk_at "ek";exact q
 |both k1 k2=>simp only[Kd.d]at hk1 ⊢;refine D0 T.toPSh A hk1 ?_;walk_at "ek";exact q
 |way k1 k2=>simp only[Kd.d]at hk1 ⊢;refine D0 T.toPSh A hk1 ?_;walk_at "ek";exact q
 |eith k1 k2=>
  simp only[Kd.d]at hk1 ⊢;refine D0 T.toPSh A hk1 ?_;walk_at "ek"
  rcases A7 ha with⟨x,hx,rfl⟩|⟨x,hx,rfl⟩<;>rcases A7 hb with⟨y,hy,rfl⟩|⟨y,hy,rfl⟩<;>(
   refine⟨sh,"Shelf",_,rfl,A.ins,rfl,by rw[T.word];rfl,D0 T.toPSh A hk2 ⟨sh,"Shelf",_,rfl,A.ins,rfl,by rw[T.word];rfl,D0 T.toPSh A hk3 ?_⟩⟩;walk_at "ek";simpa[prt,w8,y0,v3]using q)
theorem a07{n N:Nat}{st:Sto}{Q:DK}{k:Kd}{a b:D}{ls:List Lk}(hn:12≤n)(he:EOk ([],k,a,b))(hg:k.gz)(hne:k.nest≤4)(hab:a≠b)(ho:j2 N k a b=some ls)(hN:N≤10)(hlt:∀j,j<N→j2 j k a b=none)
  (q:∀p st',st p=none→st' p=some (.lst (ls.map Lk.d))→Kp [] st st'→Q (.ref p) st'):sem P G n "part" [k.d,a,b] st Q:=by
 obtain⟨n,rfl⟩:∃m,n=m+2:=⟨n-2,by omega⟩;have hd:dif ([],k,a,b)=true:=by
  unfold dif;rw[(D3 he.1 he.2.1).mpr hab];rfl
 refine bg2 T (by omega) he.2.2.1 hg hne he.1 he.2.1 fun sh dn sa pa wa S st1 A hh K1=>?_;have nab:((nb S a:Nat):Int)≠((nb S b:Nat):Int):=fun z=>hab (Y4 hh.2.1 hh.2.2 (by omega));simp only[N3,Ss.drop,J9];walk_at "es";rw[if_pos nab];walk_at "ek";intro ap hap;walk_at "es";refine⟨T.kt,fun bp hbp=>?_⟩;have hap2:d7 (d7 st1 ap (.lst [.tup [.tup [],.tup [.int (nb S k.d:Nat),.int (nb S a:Nat),.int (nb S b:Nat)]]])) bp (.dtt []) ap=some (.lst ((itS ([],k,a,b) 0).1.map (F7 S))):=i7 d8 hbp;have hbp2:d7 (d7 st1 ap (.lst [.tup [.tup [],.tup [.int (nb S k.d:Nat),.int (nb S a:Nat),.int (nb S b:Nat)]]])) bp (.dtt []) bp=some (.dtt (B2 S (itS ([],k,a,b) 0).2)):=d8;have K2:Kp [] st (d7 (d7 st1 ap (.lst [.tup [.tup [],.tup [.int (nb S k.d:Nat),.int (nb S a:Nat),.int (nb S b:Nat)]]])) bp (.dtt [])):=(K1.new hap).new hbp;have A2:=A.keep ((Kp.refl.new (o:=.lst [.tup [.tup [],.tup [.int (nb S k.d:Nat),.int (nb S a:Nat),.int (nb S b:Nat)]]]) hap).new (o:=.dtt []) hbp);have bf0:st bp=none:=none_of (K1.new hap) hbp;have bfA:bp∉[sh,dn,sa,pa,wa]:=(A.keep (Kp.refl.new (o:=.lst [.tup [.tup [],.tup [.int (nb S k.d:Nat),.int (nb S a:Nat),.int (nb S b:Nat)]]]) hap)).fresh hbp;revert hap2 hbp2 K2 A2;generalize d7 (d7 st1 ap (.lst [.tup [.tup [],.tup [.int (nb S k.d:Nat),.int (nb S a:Nat),.int (nb S b:Nat)]]])) bp (.dtt [])=st2;intro hap2 hbp2 K2 A2;walk_at "es";refine Q8 (fun m env st'=>m≤N∧∃(ap:Addr)(x7 x8 x9 x10 x11:Option D),env=[some k.d,some a,some b,some (.ref sh),some (.tup [.int (nb S k.d:Nat),.int (nb S a:Nat),.int (nb S b:Nat)]),some (.ref ap),some (.ref bp),x7,x8,x9,x10,x11]∧st' ap=some (.lst ((itS ([],k,a,b) (N-m)).1.map (F7 S)))∧st' bp=some (.dtt (B2 S (itS ([],k,a,b) (N-m)).2))∧ShA sh dn sa pa wa S st'∧Kp [] st st') ?_ N _ _ ⟨Nat.le_refl _,ap,_,_,_,_,_,rfl,by rw[Nat.sub_self];exact hap2,by rw[Nat.sub_self];exact hbp2,A2,K2⟩;clear hap2 hbp2 K2 A2 hap hbp A K1;rintro m env st' W ⟨hm,ap,x7,x8,x9,x10,x11,rfl,hap,hbp,A,K⟩ ih;obtain⟨hL,hLd,hLs⟩:=a42 he hd (N-m);obtain⟨hLh,hSh⟩:=bh7 A.wf he hd hh (N-m);have hf:=(bk4 (e:=([],k,a,b)) rfl hlt (N-m)).1;generalize hLL:(itS ([],k,a,b) (N-m)).1=L at *;generalize hSS:(itS ([],k,a,b) (N-m)).2=seen at *;rw[R5];walk_at "ek";rw[u1 (.inl hap)];walk_at "ek";have hnil:L≠[]:=fun z=>by
  have:=hf m (by omega);rw[show m+(N-m)=N by omega,z]at this;simp only at this;rw[ho]at this;cases this
 have hpos:(0:Int)<((L.map (F7 S)).length:Int):=by
  have:=List.length_pos_iff.mpr hnil;rw[List.length_map];omega
 rw[if_pos hpos];walk_at "es";intro lp hlp;have nal:ap≠lp:=m7 hap hlp;have nbl:bp≠lp:=m7 hbp hlp;have lpA:=A.fresh hlp;have lf0:st lp=none:=none_of K hlp;have nab':ap≠bp:=fun z=>by rw[z,hbp]at hap;cases hap
 walk_at "es";refine⟨_,.inl (i7 hap hlp),?_⟩;refine v5 (fun l env st2=>∃(pre suf:List Ent)(x8 x9 x10 x11:Option D),L=pre++suf∧l=suf.map (F7 S)∧(∀e∈pre,prt e.2.1 e.2.2.1 e.2.2.2=false)∧env=[some k.d,some a,some b,some (.ref sh),some (.tup [.int (nb S k.d:Nat),.int (nb S a:Nat),.int (nb S b:Nat)]),some (.ref ap),some (.ref bp),some (.ref lp),x8,x9,x10,x11]∧st2 ap=some (.lst (L.map (F7 S)))∧st2 lp=some (.lst (((pre.flatMap j7).foldl o4 ([],seen)).1.map (F7 S)))∧st2 bp=some (.dtt (B2 S ((pre.flatMap j7).foldl o4 ([],seen)).2))∧ShA sh dn sa pa wa S st2∧Kp [] st st2) ?_ ?_ _ _ _ ⟨[],L,_,_,_,_,rfl,rfl,by simp,rfl,i7 hap hlp,d8,i7 hbp hlp,A.keep (Kp.refl.new hlp),K.new hlp⟩
 ·rintro env st2 ⟨pre,suf,x8,x9,x10,x11,e,el,hpre,rfl,hap2,hlp2,hbp2,A2,K2⟩;refine⟨.inl hap2,?_⟩;have:suf=[]:=by simpa using el.symm
  subst this;rw[List.append_nil]at e;have hm0:m≠0:=fun z=>by
   subst z;have h0:=hf 0 (by omega);rw[e,bh3 hpre]at h0;simp only[Nat.zero_add,Nat.sub_zero]at h0;rw[ho]at h0;cases h0
  walk_at "es";refine ih (m-1) _ _ (by omega) ⟨by omega,lp,_,_,_,_,_,rfl,?_,?_,A2,K2⟩
  ·rw[hlp2,show N-(m-1)=(N-m)+1 by omega,itS,hLL,hSS,e]
  ·rw[hbp2,show N-(m-1)=(N-m)+1 by omega,itS,hLL,hSS,e]
 ·rintro d ds env st2 ih2 ⟨pre,suf,x8,x9,x10,x11,e,el,hpre,rfl,hap2,hlp2,hbp2,A2,K2⟩;refine⟨.inl hap2,?_⟩;cases suf with
  |nil=>cases el
  |cons en suf=>
   simp only[List.map_cons,List.cons.injEq]at el;obtain⟨rfl,rfl⟩:=el;obtain⟨lk,k',x,y⟩:=en;have hen:EOk (lk,k',x,y):=hL.1 _ (by rw[e];simp);have hdn:dif (lk,k',x,y)=true:=hLd _ (by rw[e];simp);have hhn:v8 S (k',x,y):=hLh (lk,k',x,y) (by rw[e];simp);have hz:lk.length≤10:=by have:=hen.2.2.2;simp only at this;omega
   have hxy:x≠y:=(D3 hen.1 hen.2.1).mp (by simpa[dif]using hdn);simp only[F7,J9];walk_at "ek";rw[T9,U7];refine b66 T A2 hhn rfl rfl hen.1 hen.2.1 ⟨_,rfl,?_⟩;cases hp:prt k' x y with
   |true=>
    simp only[if_true];walk_at "es";intro p hp0;have h0:=hf 0 (by omega);rw[e,a93 hpre (e:=(lk,k',x,y)) hp,Nat.zero_add]at h0;simp only at h0;have hm0:m=0:=Classical.byContradiction fun z=>by rw[hlt (N-m) (by omega)]at h0;cases h0
    subst hm0;rw[Nat.sub_zero,ho]at h0;cases h0;exact d9 (q p _ (none_of K2 hp0) d8 (K2.new hp0))
   |false=>
    simp only[Bool.false_eq_true,if_false];walk_at "ek";walk_at "es";refine⟨by rw[T.atboth];rfl,?_⟩;rw[←J9];refine b24 T A2 hhn (by omega) hen.1 hen.2.1 hxy hp hen.2.2.1 (by have:=hen.2.2.2;simp only at this;omega) fun kp st3 hkp0 hkp K3=>?_;have nkl:lp≠kp:=fun z=>by rw[←z,hlp2]at hkp0;cases hkp0
    have nkb:bp≠kp:=fun z=>by rw[←z,hbp2]at hkp0;cases hkp0
    walk_at "ek";refine⟨_,.inl hkp,?_⟩;rw[J9];refine v5 (fun l env st4=>∃(kpre ksuf:List Kid)(x10 x11:Option D),m4 k' x y=kpre++ksuf∧l=ksuf.map (aa8 S)∧env=[some k.d,some a,some b,some (.ref sh),some (.tup [.int (nb S k.d:Nat),.int (nb S a:Nat),.int (nb S b:Nat)]),some (.ref ap),some (.ref bp),some (.ref lp),some (.tup (lk.map Lk.d)),some (.tup [.int (nb S k'.d:Nat),.int (nb S x:Nat),.int (nb S y:Nat)]),x10,x11]∧st4 ap=some (.lst (L.map (F7 S)))∧st4 lp=some (.lst (((pre.flatMap j7++kpre.map fun c=>(lk++[c.1],c.2)).foldl o4 ([],seen)).1.map (F7 S)))∧st4 bp=some (.dtt (B2 S ((pre.flatMap j7++kpre.map fun c=>(lk++[c.1],c.2)).foldl o4 ([],seen)).2))∧st4 kp=some (.lst ((m4 k' x y).map (aa8 S)))∧ShA sh dn sa pa wa S st4∧Kp [] st st4) ?_ ?_ _ _ _ ⟨[],_,_,_,rfl,rfl,rfl,K3.at' hap2 (by simp),by simpa using K3.at' hlp2 (by simp),by simpa using K3.at' hbp2 (by simp),hkp,A2.keep K3,K2.trans K3⟩
    ·rintro env st4 ⟨kpre,ksuf,x10,x11,e',el',rfl,hap4,hlp4,hbp4,hkp4,A4,K4⟩;refine⟨.inl hkp4,?_⟩;have:ksuf=[]:=by simpa using el'.symm
     subst this;rw[List.append_nil]at e';have hkk:(pre++[(lk,k',x,y)]).flatMap j7=pre.flatMap j7++kpre.map fun c=>(lk++[c.1],c.2):=by
      rw[←e',List.flatMap_append,List.flatMap_cons,List.flatMap_nil,List.append_nil];rfl
     walk_at "ek";refine ih2 _ _ ⟨pre++[(lk,k',x,y)],suf,_,_,_,_,by rw[e];simp,rfl,fun z hz=>?_,rfl,hap4,by rw[hkk];exact hlp4,by rw[hkk];exact hbp4,A4,K4⟩
     rcases List.mem_append.mp hz with h|h
     ·exact hpre z h
     ·simp only[List.mem_singleton]at h;subst h;exact hp
    ·rintro d ds env st4 ih3 ⟨kpre,ksuf,x10,x11,e',el',rfl,hap4,hlp4,hbp4,hkp4,A4,K4⟩;refine⟨.inl hkp4,?_⟩;cases ksuf with
     |nil=>cases el'
     |cons c ksuf=>
      simp only[List.map_cons,List.cons.injEq]at el';obtain⟨rfl,rfl⟩:=el';have hck:c∈m4 k' x y:=by rw[e'];simp
      have hch:=bh6 A.wf hen.1 hen.2.1 hhn hck;obtain⟨hx,hy,_⟩:=F5 hen.1 hen.2.1 hck;obtain⟨l,k2,u,v⟩:=c;simp only at hx hy hch;have hfl:L.flatMap j7=(pre.flatMap j7++kpre.map fun c=>(lk++[c.1],c.2))++((lk++[l],k2,u,v)::(ksuf.map fun c=>(lk++[c.1],c.2))++suf.flatMap j7):=by
       rw[e,List.flatMap_append,List.flatMap_cons];have:j7 (lk,k',x,y)=(kpre.map fun c=>(lk++[c.1],c.2))++(lk++[l],k2,u,v)::(ksuf.map fun c=>(lk++[c.1],c.2)):=by
        unfold j7;simp only[e',List.map_append,List.map_cons]
       rw[this];simp
      obtain⟨g1,_,g3,g4⟩:=a31 (seen:=seen) hL hfl;have hkh:∀z∈((pre.flatMap j7++kpre.map fun c=>(lk++[c.1],c.2)).foldl o4 ([],seen)).2,v8 S z:=fun z hz=>by
       rcases W1 _ _ _ z hz with h|⟨w,hw,rfl⟩
       ·exact hSh z h
       ·exact bh1 A.wf hL.1 hLh w (g1 w hw).2.2
      have hst:((pre.flatMap j7++(kpre++[(l,k2,u,v)]).map fun c=>(lk++[c.1],c.2)).foldl o4 ([],seen))=o4 ((pre.flatMap j7++kpre.map fun c=>(lk++[c.1],c.2)).foldl o4 ([],seen)) (lk++[l],k2,u,v):=by
       rw[List.map_append,←List.append_assoc,List.foldl_append (l':=List.map _ [(l,k2,u,v)])];rfl
      generalize(pre.flatMap j7++kpre.map fun c=>(lk++[c.1],c.2)).foldl o4 ([],seen)=p at hlp4 hbp4 g1 g3 g4 hkh hst;have duv:dif (lk++[l],k2,u,v)=true↔u≠v:=by
       unfold dif;simp only[Bool.not_eq_true',D3 hx hy]
      have ndu:(((nb S u:Nat):Int)≠((nb S v:Nat):Int))↔u≠v:=⟨fun z w=>z (by rw[w]),fun z w=>z (Y4 hch.2.1 hch.2.2 (by omega))⟩;simp only[aa8,J9];walk_at "ek";walk_at "es"
      by_cases huv:u=v
      ·rw[if_neg (fun z=>(ndu.mp z) huv)];walk_at "ek";refine ih3 _ _ ⟨kpre++[(l,k2,u,v)],ksuf,_,_,by rw[e'];simp,rfl,rfl,hap4,?_,?_,hkp4,A4,K4⟩<;>rw[hst,G4 (.inl (by cases hq:dif (lk++[l],k2,u,v)with|false=>rfl|true=>exact absurd huv (duv.mp hq)))]
       ·exact hlp4
       ·exact hbp4
      ·rw[if_pos (ndu.mpr huv)];walk_at "ek";refine⟨_,hbp4,bd7 (S:=S) (k:=(k2,u,v)),?_⟩;have hbi:=cu5 (k:=(k2,u,v)) hkh hch;rw[J9]at hbi
       by_cases hin:((k2,u,v):Key)∈p.2
       ·rw[hbi.mpr hin];walk_at "ek";refine ih3 _ _ ⟨kpre++[(l,k2,u,v)],ksuf,_,_,by rw[e'];simp,rfl,rfl,hap4,?_,?_,hkp4,A4,K4⟩<;>rw[hst,G4 (.inr hin)]
        ·exact hlp4
        ·exact hbp4
       ·rw[show(z8 (B2 S p.2) (D.tup [.int (nb S k2.d:Nat),.int (nb S u:Nat),.int (nb S v:Nat)]).py).isSome=false by
         cases hq:(z8 (B2 S p.2) (D.tup [.int (nb S k2.d:Nat),.int (nb S u:Nat),.int (nb S v:Nat)]).py).isSome with
         |false=>rfl
         |true=>exact absurd (hbi.mp hq) hin]
        walk_at "ek";walk_at "es";refine⟨_,hbp4,bd7 (S:=S) (k:=(k2,u,v)),E6 (by unfold B2;rw[List.length_map];omega),?_⟩;have hbu:=cc9 (k:=(k2,u,v)) hkh hch hin;rw[J9]at hbu;rw[hbu];have h5:=j3 (u:=.dtt (B2 S (p.2++[(k2,u,v)]))) hlp4 nbl.symm;have A5:=A4.keepL (show Kp [bp] st4 (d7 st4 bp (.dtt (B2 S (p.2++[(k2,u,v)])))) from Kp.refl.put (by simp)) (fun z hz=>by simp only[List.mem_singleton]at hz;subst hz;exact bfA);walk_at "es";rw[z6 (.inl h5),J5 h5];refine⟨trivial,A8 (by simp only[List.length_map,List.length_cons,List.length_nil];omega),E6 (by simp only[List.length_map];omega),?_⟩;walk_at "ek";refine ih3 _ _ ⟨kpre++[(l,k2,u,v)],ksuf,_,_,by rw[e'];simp,rfl,rfl,j3 (j3 hap4 nab') nal,?_,?_,j3 (j3 hkp4 nkb.symm) nkl.symm,A5.keepL (L:=[lp]) (Kp.refl.put (by simp)) (fun z hz=>by simp only[List.mem_singleton]at hz;subst hz;exact lpA),fun b' o nb' eb=>j3 (j3 (K4 b' o nb' eb) (m7 eb bf0)) (m7 eb lf0)⟩
        ·rw[hst,L8 (duv.mpr huv) hin,d8,List.map_append];simp[F7,B5]
        ·rw[hst,L8 (duv.mpr huv) hin];exact j3 d8 nbl
theorem cg4{n:Nat}{st:Sto}{Q:DK}{k k':Kd}{a a':D}{l:Lk}(hn:10≤n)(h:Lks k a l k' a')(hb:k.bd 100)(hg:k.gz)(hne:k.nest≤4)(q:∀st',Kp [] st st'→Q (.tup [k'.d,a']) st'):sem P G n "looked_once" [k.d,a,l.d] st Q:=by
 obtain⟨n,rfl⟩:∃m,n=m+1:=⟨n-1,by omega⟩;refine j6 T.once rfl [some k.d,some a,some l.d] rfl ?_;unfold Q6;cases h with
 |first=>simp only[Kd.d,Lk.d];walk_at "es";walk_at "es";exact d9 (q st Kp.refl)
 |second=>simp only[Kd.d,Lk.d];walk_at "es";walk_at "es";walk_at "es";exact d9 (q st Kp.refl)
 |left=>simp only[Kd.d,Lk.d];walk_at "es";walk_at "es";walk_at "es";walk_at "es";walk_at "es";exact d9 (q st Kp.refl)
 |right=>simp only[Kd.d,Lk.d];walk_at "es";walk_at "es";walk_at "es";walk_at "es";walk_at "es";exact d9 (q st Kp.refl)
 |give h1 h2=>
  rename_i k1 t r j;have hn1:k1.nest≤4:=by have:1+max k1.nest k'.nest≤4:=hne;omega
  simp only[Kd.d,Lk.d];walk_at "es";walk_at "es";walk_at "es";walk_at "es";refine⟨by rw[T.gift];rfl,cb5 T.toPG1 (k:=k1) (g:=k') (by omega) (co2 hg.1 hb.1 (by omega)) hb.1 hn1 h1 h2 fun st' K=>d9 (q st' K)⟩
theorem be2{n:Nat}{st:Sto}{Q:DK}{k1 k2:Kd}{x:D}(q:Q .non st):sem P G (n+1) "looked_once" [(Kd.eith k1 k2).d,.tup [.str "l",x],Lk.right.d] st Q∧sem P G (n+1) "looked_once" [(Kd.eith k1 k2).d,.tup [.str "r",x],Lk.left.d] st Q:=by
 constructor
 ·refine j6 T.once rfl [some (Kd.eith k1 k2).d,some (.tup [.str "l",x]),some Lk.right.d] rfl ?_;unfold Q6;simp only[Kd.d,Lk.d];walk_at "es";walk_at "es";walk_at "es";walk_at "es";walk_at "es";exact d9 q
 ·refine j6 T.once rfl [some (Kd.eith k1 k2).d,some (.tup [.str "r",x]),some Lk.left.d] rfl ?_;unfold Q6;simp only[Kd.d,Lk.d];walk_at "es";walk_at "es";walk_at "es";walk_at "es";walk_at "es";exact d9 q
noncomputable def aa5:Option (Kd×D)→D
 |some p=>.tup [p.1.d,p.2]
 |none=>.non
theorem ad8{n:Nat}{st:Sto}{Q:DK}{k:Kd}{a:D}{ls:List Lk}{r:Option (Kd×D)}{la:Addr}(hn:11≤n)(h:Fol k a ls r)(hb:k.bd 100)(hg:k.gz)(hne:k.nest≤4)(hla:st la=some (.lst (ls.map Lk.d)))(q:∀st',Kp [] st st'→Q (aa5 r) st'):sem P G n "looked" [k.d,a,.ref la] st Q:=by
 obtain⟨n,rfl⟩:∃m,n=m+1:=⟨n-1,by omega⟩;refine j6 T.looked rfl [some k.d,some a,some (.ref la),none,none] rfl ?_;unfold ac7;walk_at "es";walk_at "es";refine⟨_,.inl hla,?_⟩;refine v5 (fun l env st'=>∃(k':Kd)(a':D)(suf:List Lk)(x:Option D),l=suf.map Lk.d∧Fol k' a' suf r∧k'.bd 100∧k'.gz∧k'.nest≤4∧env=[some k.d,some a,some (.ref la),some (.tup [k'.d,a']),x]∧Kp [] st st') ?_ ?_ _ _ _ ⟨k,a,ls,_,rfl,h,hb,hg,hne,rfl,Kp.refl⟩
 ·rintro env st' ⟨k',a',suf,x,el,hf,_,_,_,rfl,K⟩;refine⟨.inl (K.at' hla (by simp)),?_⟩;have:suf=[]:=by simpa using el.symm
  subst this;cases hf;walk_at "es";exact d9 (q st' K)
 ·rintro d ds env st' ih ⟨k',a',suf,x,el,hf,hb',hg',hn',rfl,K⟩;refine⟨.inl (K.at' hla (by simp)),?_⟩;cases suf with
  |nil=>cases el
  |cons l suf=>
   simp only[List.map_cons,List.cons.injEq]at el;obtain⟨rfl,rfl⟩:=el;walk_at "ek";walk_at "es";obtain⟨n,rfl⟩:∃m,n=m+1:=⟨n-1,by omega⟩;cases hf with
   |step h t=>
    rename_i k2 a2;obtain⟨s1,s2⟩:=az4 h;refine⟨by rw[T.once];rfl,cg4 T (by omega) h hb' hg' hn' fun st2 K2=>?_⟩;walk_at "es";refine .inr ⟨by simp,?_⟩;walk_at "ek";exact ih _ _ ⟨k2,a2,suf,_,rfl,t,s1 _ hb',ck9 h hg',by omega,rfl,K.trans K2⟩
   |badl=>
    refine⟨by rw[T.once];rfl,(be2 T ?_).1⟩;walk_at "es";exact .inl (d9 (q st' K))
   |badr=>
    refine⟨by rw[T.once];rfl,(be2 T ?_).2⟩;walk_at "es";exact .inl (d9 (q st' K))
end
noncomputable def ar3:Kd→List Lk
 |.both _ _=>[.first,.second]
 |.eith _ _=>[.left,.right]
 |.way k1 _=>k1.things.map .give
 |_=>[]
inductive Bd:Kd→D→Lk→Prop
 |l {k1 k2:Kd} {x:D}:Bd (.eith k1 k2) (.tup [.str "l",x]) .right
 |r {k1 k2:Kd} {x:D}:Bd (.eith k1 k2) (.tup [.str "r",x]) .left
theorem cu7{k:Kd}{a b:D}(ha:a∈k.things)(hb:b∈k.things)(hp:prt k a b=false):∃ps:List (Lk×Option Kid),ps.map (·.1)=ar3 k∧ps.filterMap (·.2)=m4 k a b ∧
  ∀p∈ps,(∃c,p.2=some c∧c.1=p.1∧Lks k a p.1 c.2.1 c.2.2.1∧Lks k b p.1 c.2.1 c.2.2.2)∨(p.2=none∧Bd k a p.1∧Bd k b p.1):=by
 cases k with
 |non=>cases ha
 |one=>exact⟨[],rfl,rfl,by simp⟩
 |both k1 k2=>
  obtain⟨x,y,hx,hy,rfl⟩:=C8 ha;obtain⟨x',y',hx',hy',rfl⟩:=C8 hb;refine⟨[(.first,some (.first,k1,x,x')),(.second,some (.second,k2,y,y'))],rfl,rfl,fun p hp=>?_⟩;simp only[List.mem_cons,List.not_mem_nil,or_false]at hp
  rcases hp with rfl|rfl
  ·exact .inl ⟨_,rfl,rfl,.first,.first⟩
  ·exact .inl ⟨_,rfl,rfl,.second,.second⟩
 |eith k1 k2=>
  rcases A7 ha with⟨x,hx,rfl⟩|⟨x,hx,rfl⟩<;>rcases A7 hb with⟨y,hy,rfl⟩|⟨y,hy,rfl⟩
  ·refine⟨[(.left,some (.left,k1,x,y)),(.right,none)],rfl,by simp[m4,w8,D.ats],fun p hp=>?_⟩;simp only[List.mem_cons,List.not_mem_nil,or_false]at hp
   rcases hp with rfl|rfl
   ·exact .inl ⟨_,rfl,rfl,.left,.left⟩
   ·exact .inr ⟨rfl,.l,.l⟩
  ·simp[prt,w8,y0]at hp
  ·simp[prt,w8,y0]at hp
  ·refine⟨[(.left,none),(.right,some (.right,k2,x,y))],rfl,by simp[m4,y0,D.ats],fun p hp=>?_⟩;simp only[List.mem_cons,List.not_mem_nil,or_false]at hp
   rcases hp with rfl|rfl
   ·exact .inr ⟨rfl,.r,.r⟩
   ·exact .inl ⟨_,rfl,rfl,.right,.right⟩
 |way k1 k2=>
  have hak:=ha;have hbk:=hb;obtain⟨r,hr,hm,rfl⟩:=E2 ha;obtain⟨r',hr',hm',rfl⟩:=E2 hb;refine⟨(k1.things.zip (r.zip r')).map fun p=>(.give p.1,some (.give p.1,k2,p.2.1,p.2.2)),?_,?_,fun p hp=>?_⟩
  ·rw[List.map_map];show(k1.things.zip (r.zip r')).map (Lk.give∘Prod.fst)=k1.things.map Lk.give;rw[←List.map_map,List.map_fst_zip (by rw[List.length_zip];omega)]
  ·rw[List.filterMap_map];show(k1.things.zip (r.zip r')).filterMap (some∘fun p=>((.give p.1,k2,p.2.1,p.2.2):Kid))=_;rw[List.filterMap_eq_map];rfl
  ·obtain⟨q,hq,rfl⟩:=List.mem_map.mp hp;have hk:((.give q.1,k2,q.2.1,q.2.2):Kid)∈m4 (.way k1 k2) (.tup [.str "w",.tup r]) (.tup [.str "w",.tup r']):=List.mem_map.mpr ⟨q,hq,rfl⟩;obtain⟨_,_,_,l1,l2⟩:=F5 hak hbk hk;exact .inl ⟨_,rfl,rfl,l1,l2⟩
theorem ixs{w v:String}{st:Sto}{Q:DK}{c:Nat}(h:w.toList.map Char.toNat=c::w.toList.tail.map Char.toNat)(hv:v.toList.map Char.toNat=[c])(hlen:(w.toList.map Char.toNat).length≤100)(q:Q (.str (Str.ofString v)) st):ixR (.str (Str.ofString w)) (.int 0) st Q:=by
 refine⟨c,?_,?_,?_⟩
 ·rw[L3];exact Nat.le_trans (show(w.toList.map Char.toNat).toArray.size≤100 by simpa using hlen) (by decide)
 ·rw[L3,aa6,h];rfl
 ·have:Str.ofString v=⟨#[c]⟩:=by rw[L3,hv]
  rw[←this];exact q
section
variable {P:j9} {G:Gs} (T:PK81 P G)
include T
theorem cn8{n:Nat}{st:Sto}{Q:DK}{k:Kd}(hn:k.nest+3≤n)(hb:k.bd 100)(q:∀p st',st p=none→st' p=some (.lst ((ar3 k).map Lk.d))→Kp [] st st'→Q (.ref p) st'):sem P G n "_law_looks" [k.d] st Q:=by
 obtain⟨n,rfl⟩:∃m,n=m+1:=⟨n-1,by omega⟩;refine j6 T.lks rfl [some k.d] rfl ?_;unfold ab8;cases k with
 |non=>simp only[Kd.d];walk_at "es";walk_at "es";walk_at "es";walk_at "es";exact fun p hp=>d9 (q p _ hp d8 (Kp.refl.new hp))
 |one=>simp only[Kd.d];walk_at "es";walk_at "es";walk_at "es";walk_at "es";exact fun p hp=>d9 (q p _ hp d8 (Kp.refl.new hp))
 |both k1 k2=>simp only[Kd.d];walk_at "es";walk_at "es";exact fun p hp=>d9 (q p _ hp d8 (Kp.refl.new hp))
 |eith k1 k2=>simp only[Kd.d];walk_at "es";walk_at "es";walk_at "es";exact fun p hp=>d9 (q p _ hp d8 (Kp.refl.new hp))
 |way k1 k2=>
  have hl:=t4 k1;have hc:=Kd.bd_le hb.1;simp only[Kd.nest]at hn;simp only[Kd.d];walk_at "es";walk_at "es";walk_at "es";walk_at "es";refine⟨by rw[T.lthings];rfl,a53 T k1 (by omega) hb.1 fun ta st1 ht0 ht K1=>?_⟩;walk_at "ek";refine⟨_,.inl ht,by omega,?_⟩;refine C7 (fun t=>.tup [.str "give",t]) (fun env=>∃x,env=[x]) (fun env y h=>by obtain⟨x,rfl⟩:=h;exact⟨_,rfl⟩) (fun env K h=>h) (fun env y K h hk=>by
   obtain⟨x,rfl⟩:=h;walk_at "ek";exact hk) (.inl ht) _ _ _ ⟨none,rfl⟩ ?_
  intro p hp;refine d9 (q p _ (none_of K1 hp) ?_ (K1.new hp));rw[d8];simp only[ar3,List.map_map,List.nil_append];rfl
theorem bq1{n:Nat}{st:Sto}{Q:DK}{k k':Kd}{a a':D}{l:Lk}(hn:k.nest+3≤n)(h:Lks k a l k' a')(hb:k.bd 100)(hne:k.nest≤10)(q:∀st',Kp [] st st'→Q (.tup [k'.d,a']) st'):sem P G n "_law_beheld" [k.d,a,l.d] st Q:=by
 obtain⟨n,rfl⟩:∃m,n=m+1:=⟨n-1,by omega⟩;refine j6 T.beheld rfl [some k.d,some a,some l.d] rfl ?_;unfold V6;cases h with
 |first=>simp only[Kd.d,Lk.d];walk_at "es";walk_at "es";exact d9 (q st Kp.refl)
 |second=>simp only[Kd.d,Lk.d];walk_at "es";walk_at "es";walk_at "es";exact d9 (q st Kp.refl)
 |left=>
  simp only[Kd.d,Lk.d];walk_at "es";walk_at "es";walk_at "es";walk_at "es";refine ixs (v:="l") (c:=108) rfl rfl (by decide) ?_;walk_at "ek";walk_at "es";exact⟨_,rfl,d9 (q st Kp.refl)⟩
 |right=>
  simp only[Kd.d,Lk.d];walk_at "es";walk_at "es";walk_at "es";walk_at "es";refine ixs (v:="r") (c:=114) rfl rfl (by decide) ?_;walk_at "ek";walk_at "es";exact⟨_,rfl,d9 (q st Kp.refl)⟩
 |give h1 h2=>
  rename_i k1 t r j;simp only[Kd.nest]at hn hne;simp only[Kd.d,Lk.d];walk_at "es";walk_at "es";walk_at "es";walk_at "es";refine⟨by rw[T.lthings];rfl,a53 T k1 (by omega) hb.1 fun ta st1 ht0 ht K1=>?_⟩;rw[bn6 (.inl ht)];refine⟨trivial,cr5 ht (by omega) h1 ?_⟩;rw[aa7];exact⟨a',by rw[B7];exact h2,d9 (q st1 K1)⟩
theorem bl0{n:Nat}{st:Sto}{Q:DK}{k:Kd}{a:D}{l:Lk}(h:Bd k a l)(q:Q .non st):sem P G (n+1) "_law_beheld" [k.d,a,l.d] st Q:=by
 refine j6 T.beheld rfl [some k.d,some a,some l.d] rfl ?_;unfold V6;cases h with
 |l=>
  simp only[Kd.d,Lk.d];walk_at "es";walk_at "es";walk_at "es";walk_at "es";refine ixs (v:="r") (c:=114) rfl rfl (by decide) ?_;walk_at "ek";walk_at "es";exact d9 q
 |r=>
  simp only[Kd.d,Lk.d];walk_at "es";walk_at "es";walk_at "es";walk_at "es";refine ixs (v:="l") (c:=108) rfl rfl (by decide) ?_;walk_at "ek";walk_at "es";exact d9 q
end
noncomputable def ltD(p:Addr×Ent):D:=.tup [.ref p.1,p.2.2.1.d,p.2.2.2.1,p.2.2.2.2]
noncomputable def RS(st:Sto)(rs:List (Addr×Ent)):Prop:=∀p∈rs,st p.1=some (.lst (p.2.1.map Lk.d))
theorem RS.keep{st st':Sto}{rs:List (Addr×Ent)}(h:RS st rs)(K:Kp [] st st'):RS st' rs:=fun p hp=>K.at' (h p hp) (by simp)
section
variable {P:j9} {G:Gs} (T:PK81 P G)
include T
theorem bb5{n N:Nat}{st:Sto}{Q:DK}{k:Kd}{a b:D}{o:Option (List Lk)}(hn:16≤n)(he:EOk ([],k,a,b))(ho:o=j2 N k a b)(hno:o=none→itL ([],k,a,b) N=[])(hlt:∀j,j<N→j2 j k a b=none)
  (qs:∀ls p st',o=some ls→st' p=some (.lst (ls.map Lk.d))→Kp [] st st'→Q (.ref p) st') (qn:o=none→∀st',Kp [] st st'→Q .non st'):sem P G n "_law_least" [k.d,a,b] st Q:=by
 obtain⟨n,rfl⟩:∃m,n=m+1:=⟨n-1,by omega⟩;refine j6 T.least rfl [some k.d,some a,some b,none,none,none,none,none,none,none,none,none] rfl ?_;unfold ac1;walk_at "es";intro r0 hr0 sp hsp;have hr0':=i7 (u:=.lst [D.tup [.ref r0,k.d,a,b]]) (d8 (st:=st) (a:=r0) (o:=.lst [])) hsp;walk_at "es";refine Q8 (fun m env st'=>m≤N∧∃(sp:Addr)(rs:List (Addr×Ent))(x4 x5 x6 x7 x8 x9 x10 x11:Option D),env=[some k.d,some a,some b,some (.ref sp),x4,x5,x6,x7,x8,x9,x10,x11]∧st' sp=some (.lst (rs.map ltD))∧rs.map (·.2)=itL ([],k,a,b) (N-m)∧RS st' rs∧Kp [] st st') ?_ N _ _ ⟨Nat.le_refl _,sp,[(r0,([],k,a,b))],_,_,_,_,_,_,_,_,rfl,d8,by rw[Nat.sub_self];rfl,fun p hp=>by simp only[List.mem_singleton]at hp;subst hp;exact hr0',(Kp.refl.new hr0).new hsp⟩;rintro m env st' W ⟨hm,sp,rs,x4,x5,x6,x7,x8,x9,x10,x11,rfl,hsp,hrs,hRS,K⟩ ih;have hL:=bn2 he (N-m);have hf:=bk1 (e:=([],k,a,b)) rfl (N-m);rw[←hrs]at hL hf;rw[R5];walk_at "ek";rw[u1 (.inl hsp)];walk_at "ek"
 by_cases hnil:rs=[]
 ·subst hnil;simp only[List.map_nil,List.length_nil];rw[if_neg (by decide)];walk_at "es";refine d9 (qn ?_ st' K);have:=hf m;rw[show m+(N-m)=N by omega]at this;rw[ho];exact this.symm
 have hpos:(0:Int)<((rs.map ltD).length:Int):=by
  have:=List.length_pos_iff.mpr hnil;rw[List.length_map];omega
 rw[if_pos hpos];walk_at "es";intro mp hmp;have nsm:sp≠mp:=m7 hsp hmp;walk_at "es";refine⟨_,.inl (i7 hsp hmp),?_⟩;refine v5 (fun l env st2=>∃(pre suf ms:List (Addr×Ent))(x5 x6 x7 x8 x9 x10 x11:Option D),rs=pre++suf∧l=suf.map ltD∧(∀p∈pre,prt p.2.2.1 p.2.2.2.1 p.2.2.2.2=false)∧env=[some k.d,some a,some b,some (.ref sp),some (.ref mp),x5,x6,x7,x8,x9,x10,x11]∧st2 mp=some (.lst (ms.map ltD))∧ms.map (·.2)=((pre.map (·.2)).flatMap j7).filter dif∧RS st2 ms∧Kp [] st' st2) ?_ ?_ _ _ _ ⟨[],rs,[],_,_,_,_,_,_,_,rfl,rfl,by simp,rfl,d8,rfl,by simp[RS],Kp.refl.new hmp⟩
 ·rintro env st2 ⟨pre,suf,ms,x5,x6,x7,x8,x9,x10,x11,e,el,hpre,rfl,hms,hmm,hR,K2⟩;refine⟨.inl (K2.at' hsp (by simp)),?_⟩;have:suf=[]:=by simpa using el.symm
  subst this;rw[List.append_nil]at e;subst e;have hm0:m≠0:=fun z=>by
   subst z;have h0:=hf 0;rw[bh3 (fun x hx=>by obtain⟨p,hp,rfl⟩:=List.mem_map.mp hx;exact hpre p hp),Nat.zero_add,Nat.sub_zero]at h0;rw[Nat.sub_zero,hno (by rw[ho];exact h0.symm)]at hrs;exact hnil (by simpa using hrs)
  walk_at "es";refine ih (m-1) _ _ (by omega) ⟨by omega,mp,ms,_,_,_,_,_,_,_,_,rfl,hms,?_,hR,K.trans K2⟩;rw[hmm,hrs,show N-(m-1)=(N-m)+1 by omega];rfl
 ·rintro d ds env st2 ih2 ⟨pre,suf,ms,x5,x6,x7,x8,x9,x10,x11,e,el,hpre,rfl,hms,hmm,hR,K2⟩;refine⟨.inl (K2.at' hsp (by simp)),?_⟩;cases suf with
  |nil=>cases el
  |cons en suf=>
   simp only[List.map_cons,List.cons.injEq]at el;obtain⟨rfl,rfl⟩:=el;obtain⟨r,ls,k',x,y⟩:=en;have hen:EOk (ls,k',x,y):=hL.1 _ (by rw[e];simp);have hz:ls.length+k'.nest≤10:=hen.2.2.2;have hr:st' r=some (.lst (ls.map Lk.d)):=hRS (r,ls,k',x,y) (by rw[e];simp);simp only[ltD];walk_at "ek";rw[T9,U7];refine cc4 (k:=k') (a:=x) (b:=y) rfl rfl rfl hen.1 hen.2.1 ⟨_,rfl,?_⟩;cases hp:prt k' x y with
   |true=>
    simp only[if_true];walk_at "es";have h0:=hf 0;rw[e,List.map_append,List.map_cons,a93 (fun z hz=>by obtain⟨p,hp,rfl⟩:=List.mem_map.mp hz;exact hpre p hp) (e:=(ls,k',x,y)) hp,Nat.zero_add]at h0;have hm0:m=0:=Classical.byContradiction fun z=>by rw[hlt (N-m) (by omega)]at h0;cases h0
    subst hm0;rw[Nat.sub_zero]at h0;exact d9 (qs ls r _ (by rw[ho];exact h0.symm) (K2.at' hr (by simp)) (K.trans K2))
   |false=>
    simp only[Bool.false_eq_true,if_false];walk_at "ek";walk_at "es";refine⟨by rw[T.lks];rfl,cn8 T (by omega) hen.2.2.1 fun lp st3 hlp0 hlp K3=>?_⟩;obtain⟨ps,hps1,hps2,hps3⟩:=cu7 hen.1 hen.2.1 hp;have nml:mp≠lp:=fun z=>by rw[←z,hms]at hlp0;cases hlp0
    walk_at "ek";refine⟨_,.inl hlp,?_⟩;refine v5 (fun l env st4=>∃(ppre psuf:List (Lk×Option Kid))(ms:List (Addr×Ent))(x9 x10 x11:Option D),ps=ppre++psuf∧l=psuf.map (fun p=>p.1.d)∧env=[some k.d,some a,some b,some (.ref sp),some (.ref mp),some (.ref r),some k'.d,some x,some y,x9,x10,x11]∧st4 mp=some (.lst (ms.map ltD))∧ms.map (·.2)=((pre.map (·.2)).flatMap j7++(ppre.filterMap (·.2)).map fun c=>(ls++[c.1],c.2)).filter dif∧RS st4 ms∧st4 lp=some (.lst ((ar3 k').map Lk.d))∧Kp [] st' st4) ?_ ?_ _ _ _ ⟨[],ps,ms,_,_,_,rfl,by rw[←hps1,List.map_map];rfl,rfl,K3.at' hms (by simp),by simpa using hmm,hR.keep K3,hlp,K2.trans K3⟩
    ·rintro env st4 ⟨ppre,psuf,ms,x9,x10,x11,e',el',rfl,hms4,hmm4,hR4,hlp4,K4⟩;refine⟨.inl hlp4,?_⟩;have:psuf=[]:=by simpa using el'.symm
     subst this;rw[List.append_nil]at e';subst e';walk_at "ek";refine ih2 _ _ ⟨pre++[(r,ls,k',x,y)],suf,ms,_,_,_,_,_,_,_,by rw[e];simp,rfl,fun z hz=>?_,rfl,hms4,?_,hR4,K4⟩
     ·rcases List.mem_append.mp hz with h|h
      ·exact hpre z h
      ·simp only[List.mem_singleton]at h;subst h;exact hp
     ·rw[hmm4,hps2,List.map_append,List.flatMap_append];simp only[List.map_cons,List.map_nil,List.flatMap_cons,List.flatMap_nil,List.append_nil];rfl
    ·rintro d ds env st4 ih3 ⟨ppre,psuf,ms,x9,x10,x11,e',el',rfl,hms4,hmm4,hR4,hlp4,K4⟩;refine⟨.inl hlp4,?_⟩;cases psuf with
     |nil=>cases el'
     |cons pp psuf=>
      simp only[List.map_cons,List.cons.injEq]at el';obtain⟨rfl,rfl⟩:=el';obtain⟨l,oc⟩:=pp;have hfl:∃j1,(rs.map (·.2)).flatMap j7=((pre.map (·.2)).flatMap j7++(ppre.filterMap (·.2)).map fun c=>(ls++[c.1],c.2))++j1:=by
       refine⟨((((l,oc)::psuf).filterMap (·.2)).map fun c=>(ls++[c.1],c.2))++(suf.map (·.2)).flatMap j7,?_⟩;rw[e,List.map_append,List.flatMap_append,List.map_cons,List.flatMap_cons];have:j7 (ls,k',x,y)=((ppre.filterMap (·.2)).map fun c=>(ls++[c.1],c.2))++((((l,oc)::psuf).filterMap (·.2)).map fun c=>(ls++[c.1],c.2)):=by
        unfold j7;simp only;rw[←hps2,e',List.filterMap_append,List.map_append]
       rw[this];simp
      obtain⟨j1,hfl⟩:=hfl;obtain⟨_,hlen⟩:=ci2 hL hfl;rw[←hmm4,List.length_map]at hlen;have hr4:=K4.at' hr (by simp);walk_at "ek";walk_at "es"
      rcases hps3 (l,oc) (by rw[e'];simp)with⟨c,hc,hcl,l1,l2⟩|⟨hc,b1,b2⟩
      ·simp only at hc hcl l1 l2;subst hc;obtain⟨cl,k2,cx,cy⟩:=c;simp only at hcl l1 l2;subst hcl;have hck:((cl,k2,cx,cy):Kid)∈m4 k' x y:=by rw[←hps2,e'];simp
       obtain⟨hx,hy,⟨_,hsn⟩,_⟩:=F5 hen.1 hen.2.1 hck;simp only at hx hy hsn;obtain⟨lx,dx⟩:=t0 k2 cx hx;obtain⟨ly,dy⟩:=t0 k2 cy hy;refine⟨by rw[T.beheld];rfl,bq1 T (by omega) l1 hen.2.2.1 (by show k'.nest≤10;omega) fun st5 K5=>?_⟩;walk_at "es";refine⟨by rw[T.beheld];rfl,bq1 T (by omega) l2 hen.2.2.1 (by show k'.nest≤10;omega) fun st6 K6=>?_⟩;have K46:=K5.trans K6;have hms6:=K46.at' hms4 (by simp);have hlp6:=K46.at' hlp4 (by simp);have hr6:=K46.at' hr4 (by simp);have hR6:=hR4.keep K46;have K06:=K4.trans K46;have lt1:(D.tup [k2.d,cx]).lit=true:=by simp only[z5,A6,B1,D1,lx,Bool.and_self]
       have lt2:(D.tup [k2.d,cy]).lit=true:=by simp only[z5,A6,B1,D1,ly,Bool.and_self]
       have hdq:deq (.tup [k2.d,cx]) (.tup [k2.d,cy])=deq cx cy:=by
        rw[N9,y6,y6,y6,C6 (D1 k2)];simp
       have hfm:((ppre++[(cl,some (cl,k2,cx,cy))]).filterMap (·.2)).map (fun c=>((ls++[c.1],c.2):Ent))=((ppre.filterMap (·.2)).map fun c=>(ls++[c.1],c.2))++[(ls++[cl],k2,cx,cy)]:=by
        rw[List.filterMap_append,List.map_append];rfl
       walk_at "es";refine .inr ⟨by simp,?_⟩;walk_at "ek";refine .inr ⟨by simp,?_⟩;walk_at "ek";rw[at1];refine⟨C9 _ lt1,C9 _ lt2,Nat.le_trans (Nat.min_le_left _ _) (by simp only[v7,o5,J3];omega),?_⟩;rw[hdq];walk_at "ek";cases hd:deq cx cy with
       |true=>
        simp only[Bool.true_eq_false,if_false];walk_at "ek";refine ih3 _ _ ⟨ppre++[(cl,some (cl,k2,cx,cy))],psuf,ms,_,_,_,by rw[e'];simp,rfl,rfl,hms6,?_,hR6,hlp6,K06⟩;rw[hmm4,hfm,←List.append_assoc,List.filter_append (l₂:=[(ls++[cl],k2,cx,cy)])];have:List.filter dif [((ls++[cl],k2,cx,cy):Ent)]=[]:=by simp[dif,hd]
        rw[this,List.append_nil]
       |false=>
        simp only[if_true];walk_at "es";rw[z6 (.inl hms6)];refine⟨trivial,fun p1 hp1=>?_⟩;rw[ak5];refine⟨_,_,i7 hr6 hp1,d8,A8 (by simp only[List.length_map,List.length_cons,List.length_nil];omega),fun p2 hp2=>?_⟩;have hms8:=i7 (u:=.lst (ls.map Lk.d++[cl.d])) (i7 (u:=.lst [cl.d]) hms6 hp1) hp2;have nm2:mp≠p2:=m7 (i7 (u:=.lst [cl.d]) hms6 hp1) hp2;walk_at "ek";rw[J5 hms8];refine⟨E6 (by simp only[List.length_map];omega),?_⟩;have up:∀{b:Addr}{u:Ob},b≠mp→st6 b=some u→d7 (d7 (d7 st6 p1 (.lst [cl.d])) p2 (.lst (ls.map Lk.d++[cl.d]))) mp (.lst (ms.map ltD++[D.tup [.ref p2,k2.d,cx,cy]])) b=some u:=fun nb eb=>j3 (i7 (i7 eb hp1) hp2) nb;refine ih3 _ _ ⟨ppre++[(cl,some (cl,k2,cx,cy))],psuf,ms++[(p2,ls++[cl],k2,cx,cy)],_,_,_,by rw[e'];simp,rfl,rfl,by rw[d8,List.map_append];rfl,?_,?_,up nml.symm hlp6,fun b u nb eb=>up (m7 eb hmp) (K06 b u nb eb)⟩
        ·rw[List.map_append,hmm4,hfm,←List.append_assoc,List.filter_append (l₂:=[(ls++[cl],k2,cx,cy)])];have:List.filter dif [((ls++[cl],k2,cx,cy):Ent)]=[(ls++[cl],k2,cx,cy)]:=by simp[dif,hd]
         rw[this];rfl
        ·intro p hp
         rcases List.mem_append.mp hp with h|h
         ·have h6:=hR6 p h;refine up (fun z=>?_) h6;rw[z,hms6]at h6;simp only[Option.some.injEq,Ob.lst.injEq]at h6;have hin:p∈ms:=h;have h7:ltD p∈p.2.1.map Lk.d:=by rw[←h6];exact List.mem_map_of_mem hin
          obtain⟨l',_,hl'⟩:=List.mem_map.mp h7;cases l'<;>simp[ltD,Lk.d]at hl'
         ·simp only[List.mem_singleton]at h;subst h;show d7 _ mp _ p2=_;rw[B6 nm2.symm,d8,List.map_append];rfl
      ·simp only at hc b1 b2;subst hc;obtain⟨n,rfl⟩:∃m,n=m+1:=⟨n-1,by omega⟩;refine⟨by rw[T.beheld];rfl,bl0 T b1 ?_⟩;walk_at "es";refine⟨by rw[T.beheld];rfl,bl0 T b2 ?_⟩;walk_at "es";refine .inl ?_;walk_at "ek";refine ih3 _ _ ⟨ppre++[(l,none)],psuf,ms,_,_,_,by rw[e'];simp,rfl,rfl,hms4,?_,hR4,hlp4,K4⟩;rw[hmm4,List.filterMap_append];simp
end
theorem cb3{k:Kd}{a:D}{ls:List Lk}{r:Option (Kd×D)}(h:Fol k a ls r):r≠none→∀l∈ls,l.d.lit=true∧j5 l.d≤2*k.nest+2:=by
 have sm:∀(w:String)(m:Nat),(D.tup [.str w]).lit=true∧j5 (D.tup [.str w])≤m+2:=fun w m=>⟨by simp only[z5,A6,B1,B4,Bool.and_self],by simp only[v7,o5,v6];simp⟩
 induction h with
 |nil=>intro _ l hl;cases hl
 |step h t ih=>
  intro hr l hl;have hs:=(az4 h).2
  rcases List.mem_cons.mp hl with rfl|hl
  ·cases h with
   |first=>exact sm _ _
   |second=>exact sm _ _
   |left=>exact sm _ _
   |right=>exact sm _ _
   |give h1 h2=>
    rename_i k1 t r j;obtain⟨h3,h4⟩:=t0 k1 t (List.mem_of_getElem? h1);refine⟨by simp only[Lk.d,z5,A6,B1,B4,h3,Bool.and_self],?_⟩;simp only[Lk.d,v7,o5,v6,Kd.nest];omega
  ·obtain⟨h1,h2⟩:=ih hr l hl;exact⟨h1,by omega⟩
 |badl=>intro hr;exact absurd rfl hr
 |badr=>intro hr;exact absurd rfl hr
theorem bj8{k:Kd}{a:D}{ls:List Lk}{r:Option (Kd×D)}(h:Fol k a ls r):r≠none→ls.length≤k.nest:=by
 induction h with
 |nil=>intro _;exact Nat.zero_le _
 |step h t ih=>intro hr;have:=(az4 h).2;have:=ih hr;rw[List.length_cons];omega
 |badl=>intro hr;exact absurd rfl hr
 |badr=>intro hr;exact absurd rfl hr
theorem be5:∀(n:Nat){k:Kd}{a b:D}{ls:List Lk},j2 n k a b=some ls→ls.length=n
 |0,k,a,b,ls,h=>by
  rw[j2]at h
  split at h
  ·cases h;rfl
  ·cases h
 |n+1,k,a,b,ls,h=>by
  rw[j2]at h;obtain⟨c,_,hc⟩:=List.exists_of_findSome?_eq_some h;cases hb:j2 n c.2.1 c.2.2.1 c.2.2.2 with
  |none=>rw[hb]at hc;cases hc
  |some l=>rw[hb]at hc;cases hc;rw[List.length_cons,be5 n hb]
theorem b17{xs:List D}(h:D.lits xs=true):y6 xs xs=true:=(ay2 xs xs h h).mpr rfl
theorem bg6{m:Nat}:∀{xs:List D},(∀d∈xs,j5 d≤m)→o5 xs≤m
 |[],_=>Nat.zero_le _
 |d::r,h=>by rw[o5];exact Nat.max_le.mpr ⟨h d (by simp),bg6 fun x hx=>h x (by simp[hx])⟩
theorem W0{ne:Bool}{st:Sto}{a b:Addr}{xs:List D}{Q:DK}(h1:rdS st a xs)(h2:rdS st b xs)(hx:∀d∈xs,d.lit=true∧j5 d≤100)(q:Q (.bl (ne != true)) st):J4 ne (.ref a) (.ref b) st Q:=by
 have hl:D.lits xs=true:=E8.mpr fun d hd=>(hx d hd).1;refine cp7 h1 h2 (V8 _ hl) (V8 _ hl) ?_ (by rw[b17 hl];exact q);rw[ax9];exact Nat.le_trans (bg6 fun d hd=>(hx d hd).2) (by decide)
theorem b96{α:Type}{ts:List α}{x y:α}(h:ts.Perm [x,y]):ts=[x,y]∨ts=[y,x]:=by
 have hl:=h.length_eq
 match ts,hl with
 |[u,v],_=>
  have hu:u∈[x,y]:=h.mem_iff.mp (by simp);simp only[List.mem_cons,List.not_mem_nil,or_false]at hu
  rcases hu with rfl|rfl
  ·have:=(List.perm_cons u).mp h;rw[List.perm_singleton]at this;exact .inl (by rw[List.cons.inj this |>.1])
  ·have h2:[u,v].Perm [u,x]:=h.trans (List.Perm.swap _ _ _);have:=(List.perm_cons u).mp h2;rw[List.perm_singleton]at this;exact .inr (by rw[List.cons.inj this |>.1])
theorem bn1:PyProof.Rows.sortedS [Str.ofString "r",Str.ofString "l"]=false:=by
 rw[L3,L3];rfl
section
variable {P:j9} {G:Gs} (T:PK81 P G)
include T
theorem bk6{n:Nat}{k:Kd}{a da sa:Addr}{x y:D}{st:Sto}(hn:40≤n)(hbd:k.bd 100)(hg:k.gz)(hne:k.nest≤4)(hx:x∈k.things)(hy:y∈k.things):
  m9 (Zg P G n) (G2.body.drop 8) (o6 fun d _=>d=.bl true) [some (.ref a),some (.ref da),some k.d,some (.ref sa),some x,some y,none,none,none,none,none] st:=by
 simp only[G2,Ss.drop];obtain⟨lx,dx⟩:=t0 k x hx;obtain⟨ly,dy⟩:=t0 k y hy;have ek:EOk ([],k,x,y):=⟨hx,hy,hbd,by show 0+k.nest≤10;omega⟩;have ek':EOk ([],k,y,x):=⟨hy,hx,hbd,by show 0+k.nest≤10;omega⟩
 by_cases hxy:x=y
 ·subst hxy;have hp:prt k x x=false:=by cases k<;>simp[prt]
  have b1:j2 1 k x x=none:=by rw[j2,ba3 hx];rfl
  have b0:∀j,j<1→j2 j k x x=none:=fun j hj=>by
   obtain rfl:j=0:=by omega
   rw[j2,hp];rfl
  have hke:(j7 ([],k,x,x)).filter dif=[]:=by rw[aw1,ba3 hx];rfl
  have iL:itL ([],k,x,x) 1=[]:=by
   show(([([],k,x,x)]:List Ent).flatMap j7).filter dif=[];rw[List.flatMap_cons,List.flatMap_nil,List.append_nil,hke]
  walk_at "es";refine⟨by rw[T.least];rfl,bb5 T (N:=1) (o:=none) (by omega) ek b1.symm (fun _=>iL) b0 (fun _ _ _ h=>by cases h) fun _ st1 K1=>?_⟩;walk_at "es";rw[bq7];refine⟨C9 x lx,C9 x lx,Nat.le_trans (Nat.min_le_left _ _) (by omega),?_⟩;rw[C6 lx];walk_at "ek";walk_at "es";refine⟨by rw[T.part];rfl,b42 T (by omega) hbd hg hne hx fun st2 K2=>?_⟩;walk_at "ek";exact .inl (.inl (d9 rfl))
 ·obtain⟨N,ls,hN,hlt⟩:=b97 hx hy hxy;have hN':j2 N k y x=some ls:=by rw[ay4 N hx hy];exact hN
  have hlt':∀j,j<N→j2 j k y x=none:=fun j hj=>by rw[ay4 j hx hy];exact hlt j hj
  obtain⟨k1,k2,x',y',f1,f2,hl,mx,my,hn12⟩:=bg3 N hx hy hN;have hN10:N≤10:=by
   have h1:=bj8 f1 (by simp);have h2:=be5 N hN;omega
  have hls:∀d∈ls.map Lk.d,d.lit=true∧j5 d≤100:=fun d hd=>by
   obtain⟨l,hl,rfl⟩:=List.mem_map.mp hd;obtain⟨h1,h2⟩:=cb3 f1 (by simp) l hl;exact⟨h1,by omega⟩
  walk_at "es";refine⟨by rw[T.least];rfl,bb5 T (N:=N) (o:=some ls) (by omega) ek hN.symm (fun h=>by cases h) hlt (fun ls' dp st1 h hdp K1=>?_) fun h=>by cases h⟩;cases h;walk_at "es";rw[bq7];refine⟨C9 x lx,C9 y ly,Nat.le_trans (Nat.min_le_left _ _) (by omega),?_⟩;rw[W7 lx ly hxy];walk_at "ek";walk_at "es";refine⟨by rw[T.part];rfl,a07 T (N:=N) (by omega) ek hg hne hxy hN hN10 hlt fun fp st2 hf0 hfp K2=>?_⟩;have hdp2:=K2.at' hdp (by simp);walk_at "es";rw[bq6 (.inl hfp)];walk_at "ek";refine W0 (.inl hfp) (.inl hdp2) hls ?_;simp only[Bool.bne_true,Bool.not_true];walk_at "ek";refine⟨by rw[T.part];rfl,a07 T (N:=N) (by omega) ek' hg hne (fun z=>hxy z.symm) hN' hN10 hlt' fun gp st3 hg0 hgp K3=>?_⟩;refine W0 (.inl hgp) (.inl (K3.at' hdp2 (by simp))) hls ?_;simp only[Bool.bne_true,Bool.not_true];walk_at "ek";have hfp3:=K3.at' hfp (by simp);walk_at "es";refine⟨by rw[T.looked];rfl,ad8 T (by omega) f1 hbd hg (by omega) hfp3 fun st4 K4=>?_⟩;have hfp4:=K4.at' hfp3 (by simp);simp only[aa5];walk_at "es";refine⟨by rw[T.looked];rfl,ad8 T (by omega) f2 hbd hg (by omega) hfp4 fun st5 K5=>?_⟩;have hfp5:=K5.at' hfp4 (by simp);simp only[aa5];walk_at "es";refine .inr ⟨by simp,.inr ⟨by simp,?_⟩⟩;rw[at1];refine⟨L6 _,L6 _,Nat.le_trans (Nat.min_le_left _ _) (by rw[J3];omega),?_⟩;rw[C6 (D1 _)];simp only[Kd.d];walk_at "ek";have side:∀(w v ww:String)(u u':D)(lw:Lk),x'=.tup [.str w,u]→y'=.tup [.str v,u']→((w="l"∧v="r"∧ww="right"∧lw=.right)∨(w="r"∧v="l"∧ww="left"∧lw=.left))→Fol k x (ls++[lw]) none →
    m9 (Zg P G n) (G2.body.drop 15) (o6 fun d _=>d=.bl true) [some (.ref a),some (.ref da),some k.d,some (.ref sa),some x,some y,some (.ref dp),some (.ref fp),some (.tup [.tup [.str "either",k1.d,k2.d],x']),some (.tup [.tup [.str "either",k1.d,k2.d],y']),none] st5:=by
   rintro w v ww u u' lw rfl rfl hw hfo;simp only[G2,Ss.drop];walk_at "es";intro p1 hp1;have hss:rdS (d7 st5 p1 (.lst [.str (Str.ofString w),.str (Str.ofString v)])) p1 ([Str.ofString w,Str.ofString v].map D.str):=O8;refine⟨[Str.ofString w,Str.ofString v],hss,by show 2<64;decide,fun ts p2 hperm hsort hp2=>?_⟩;have ets:ts=[Str.ofString "l",Str.ofString "r"]:=by
    rcases b96 hperm with h|h<;>rcases hw with⟨rfl,rfl,_⟩|⟨rfl,rfl,_⟩
    ·exact h
    ·rw[h,bn1]at hsort;cases hsort
    ·rw[h,bn1]at hsort;cases hsort
    ·exact h
   subst ets;walk_at "ek";intro p3 hp3;refine W0 (.inl (i7 d8 hp3)) O8 (fun d hd=>?_) ?_
   ·simp only[List.map_cons,List.map_nil,List.mem_cons,List.not_mem_nil,or_false]at hd
    rcases hd with rfl|rfl<;>exact⟨B4 _,by rw[v6];exact Nat.zero_le _⟩
   simp only[Bool.bne_true,Bool.not_true];walk_at "ek";have hfp8:=i7 (u:=.lst [.str (Str.ofString "l"),.str (Str.ofString "r")]) (i7 (u:=.lst (List.map D.str [Str.ofString "l",Str.ofString "r"])) (i7 (u:=.lst [.str (Str.ofString w),.str (Str.ofString v)]) hfp5 hp1) hp2) hp3;generalize d7 _ p3 _=st8 at hfp8 ⊢;refine⟨by rw[T.looked];rfl,fun p4 hp4=>ad8 T (ls:=[]) (by omega) Fol.nil hbd hg (by omega) d8 fun st9 K9=>?_⟩;have hfp9:=K9.at' (i7 hfp8 hp4) (by simp);simp only[aa5];walk_at "ek";have lt:(D.tup [k.d,x]).lit=true:=by simp only[z5,A6,B1,D1,lx,Bool.and_self]
   rw[at1];refine⟨C9 _ lt,C9 _ lt,Nat.le_trans (Nat.min_le_left _ _) (by simp only[v7,o5,J3];omega),?_⟩;rw[C6 lt];walk_at "ek";walk_at "es";refine⟨.str ww,?_,?_⟩
   ·rcases hw with⟨rfl,rfl,rfl,rfl⟩|⟨rfl,rfl,rfl,rfl⟩<;>simp[B8,v3]
   walk_at "es";refine⟨by rw[T.looked];rfl,fun p5 hp5=>?_⟩;rw[ak5];have hfp10:=i7 (u:=.lst [D.tup [.str ww]]) hfp9 hp5;refine⟨_,_,hfp10,d8,A8 ?_,fun p6 hp6=>?_⟩
   ·have hlen:=bj8 f1 (by simp);simp only[List.length_map,List.length_cons,List.length_nil];omega
   have hlw:ls.map Lk.d++[D.tup [.str (Str.ofString ww)]]=(ls++[lw]).map Lk.d:=by
    rcases hw with⟨rfl,rfl,rfl,rfl⟩|⟨rfl,rfl,rfl,rfl⟩<;>rw[List.map_append]<;>rfl
   rw[hlw];have hfp11:=i7 (u:=.lst ((ls++[lw]).map Lk.d)) hfp10 hp6;refine ad8 T (ls:=ls++[lw]) (by omega) hfo hbd hg (by omega) d8 fun st12 K12=>?_;have hfp12:=K12.at' hfp11 (by simp);simp only[aa5];walk_at "ek";refine .inl ?_;walk_at "ek";refine⟨by rw[T.part];rfl,a07 T (N:=N) (by omega) ek hg hne hxy hN hN10 hlt fun gp st13 hg0 hgp K13=>?_⟩;exact W0 (.inl hgp) (.inl (K13.at' hfp12 (by simp))) hls (d9 rfl)
  rcases A7 mx with⟨u,hu,rfl⟩|⟨u,hu,rfl⟩<;>rcases A7 my with⟨u',hu',rfl⟩|⟨u',hu',rfl⟩
  ·exact absurd (by rw[w8,w8]) hl
  ·exact side "l" "r" "right" u u' .right rfl rfl (.inl ⟨rfl,rfl,rfl,rfl⟩) (f1.app rfl .badl)
  ·exact side "r" "l" "left" u u' .left rfl rfl (.inr ⟨rfl,rfl,rfl,rfl⟩) (f1.app rfl .badr)
  ·exact absurd (by rw[y0,y0]) hl
theorem cu2{n:Nat}{st:Sto}{a:Addr}{ns:List Int}(hn:50≤n)(hl:ns.length≤63)(h:rdS st a (ns.map D.int)):sem P G n "law" [.ref a] st fun d _=>d=.bl true:=by
 obtain⟨n,rfl⟩:∃m,n=m+2:=⟨n-2,by omega⟩;refine j6 T.law rfl [some (.ref a),none,none,none,none,none,none,none,none,none,none] rfl ?_;unfold G2;walk_at "es";refine⟨by rw[T.deck];rfl,b54 T hl h fun da st1 I1 K1=>?_⟩;walk_at "es";refine⟨by rw[T.kind];rfl,b85 T 3 (by omega) I1 fun k st2 hk I2 K2=>?_⟩;walk_at "es";obtain⟨gk,nk,bk,hk3⟩:=hk;obtain⟨hk4,hk5⟩:=hk3 (by decide);refine Q8 (fun m env st'=>st'=st2∧∃k',env=[some (.ref a),some (.ref da),some k'.d,none,none,none,none,none,none,none,none]∧(k'.gz∧0<k'.cnt)∧k'.bd (bD 3)∧k'.nest≤4∧((m=1∧k'=k)∨(m=0∧k'.bd 16))) ?_ 1 _ _ ⟨rfl,k,rfl,⟨gk.1,gk.2.1⟩,bk,nk,.inl ⟨rfl,rfl⟩⟩;rintro m env st' W ⟨rfl,k',rfl,gk',bk',nk',hm⟩ ih;rw[R5];walk_at "ek";refine⟨by rw[T.many];rfl,b50 T (m:=bD 3) (by decide) k' (by omega) bk' ?_⟩;walk_at "ek"
 by_cases h40:(40:Int)<(k'.cnt:Int)
 ·rw[if_pos h40]
  rcases hm with⟨rfl,rfl⟩|⟨rfl,hb⟩
  ·rcases hk4 with hc|⟨a',c',rfl⟩
   ·have:bD (3-1)=16:=rfl;omega
   ·have ba:a'.bd 16:=(hk5 a' c' (.inr (.inr rfl))).1;simp only[Kd.d];walk_at "es";have pa:0<a'.cnt:=Classical.byContradiction fun z=>by
     have e0:a'.cnt=0:=by omega
     have:((Kd.way a' c').cnt:Int)=1:=by show((c'.cnt^a'.cnt:Nat):Int)=1;rw[e0];rfl
     omega
    refine ih 0 _ _ (by decide) ⟨rfl,a',rfl,⟨gk'.1.1,pa⟩,Kd.bd_mono (by decide) ba,?_,.inr ⟨rfl,ba⟩⟩;have:1+max a'.nest c'.nest≤4:=nk';omega
  ·have:=Kd.bd_le hb;omega
 ·rw[if_neg h40];have hbd:k'.bd 100:=by
   rcases hm with⟨_,rfl⟩|⟨_,hb⟩
   ·have e16:bD (3-1)=16:=rfl;rw[e16]at hk5;cases k' with
    |non=>trivial
    |one=>show 1≤100;decide
    |eith p q=>obtain⟨h1,h2⟩:=hk5 p q (.inl rfl);exact⟨Kd.bd_mono (by decide) h1,Kd.bd_mono (by decide) h2,by have h9:¬(40:Int)<((p.cnt+q.cnt:Nat):Int):=h40;omega⟩
    |both p q=>obtain⟨h1,h2⟩:=hk5 p q (.inr (.inl rfl));exact⟨Kd.bd_mono (by decide) h1,Kd.bd_mono (by decide) h2,by have h9:¬(40:Int)<((p.cnt*q.cnt:Nat):Int):=h40;omega⟩
    |way p q=>obtain⟨h1,h2⟩:=hk5 p q (.inr (.inr rfl));exact⟨Kd.bd_mono (by decide) h1,Kd.bd_mono (by decide) h2,by have h9:¬(40:Int)<((q.cnt^p.cnt:Nat):Int):=h40;omega⟩
   ·exact Kd.bd_mono (by decide) hb
  have lk:=t4 k';have ck:=gk'.2;have tl:∀d∈k'.things,d.lit=true∧j5 d≤100:=fun d hd=>by obtain⟨h1,h2⟩:=t0 k' d hd;exact⟨h1,by omega⟩
  walk_at "es";refine⟨by rw[T.lthings];rfl,a53 T k' (by omega) hbd fun sa st3 hsa0 hsa K3=>?_⟩;have nsd:sa≠da:=fun z=>by obtain⟨l,e⟩:=I2;rw[z,e]at hsa0;cases hsa0
  have I3:=I2.keep K3 (by simp);walk_at "es";refine⟨by rw[T.things];rfl,ax7 T.toPT1 (by omega) hbd (by omega) fun ta st4 hta0 hta K4=>?_⟩;have hsa4:=K4.at' hsa (by simp);have I4:=I3.keep K4 (by simp);refine W0 (.inl hta) (.inl hsa4) tl ?_;simp only[Bool.bne_true,Bool.not_true];walk_at "ek";have hsz:k'.size≤2000:=by
   have:=bb4 k';have:2^(k'.nest+1)≤2^5:=Nat.pow_le_pow_right (by decide) (by omega);omega
  have hbig:k'.big:=fun c hc=>Nat.lt_of_le_of_lt (Kd.bd_le (bo5 hbd hc)) (Nat.lt_of_lt_of_le (show 100<2^7 by decide) (Nat.pow_le_pow_right (by decide) (by decide)));refine⟨by rw[T.count];rfl,cm8 T (by omega) hsz hbig fun st5 K5=>?_⟩;have hsa5:=K5.at' hsa4 (by simp);have I5:=I4.keep K5 (by simp);rw[u1 (.inl hsa5)];walk_at "ek";rw[if_neg (by rw[lk];simp)];walk_at "ek";walk_at "es";rw[u1 (.inl hsa5)];refine⟨by rw[T.next];rfl,R0 T (by omega) I5 fun r st6 r0 r1 I6 K6=>?_⟩;have hsa6:=K6.at' hsa5 (by simpa using nsd);rw[D4 (.inl hsa6)];obtain⟨j,rfl⟩:=Int.eq_ofNat_of_zero_le r0;have hj:j<k'.things.length:=by omega
  refine⟨k'.things[j],by rw[B7];exact List.getElem?_eq_getElem hj,?_⟩;have hx:k'.things[j]∈k'.things:=List.getElem_mem hj;generalize k'.things[j]=x at hx ⊢;walk_at "es";rw[u1 (.inl hsa6)];refine⟨by rw[T.next];rfl,R0 T (by omega) I6 fun r st7 r0 r1 I7 K7=>?_⟩;have hsa7:=K7.at' hsa6 (by simpa using nsd);rw[D4 (.inl hsa7)];obtain⟨i,rfl⟩:=Int.eq_ofNat_of_zero_le r0;have hi:i<k'.things.length:=by omega
  refine⟨k'.things[i],by rw[B7];exact List.getElem?_eq_getElem hi,?_⟩;have hy:k'.things[i]∈k'.things:=List.getElem_mem hi;generalize k'.things[i]=y at hy ⊢;walk_at "es";refine⟨by rw[T.next];rfl,R0 T (by decide) I7 fun r st8 r0 r1 I8 K8=>?_⟩;walk_at "ek"
  by_cases hr:r=0
  ·simp only[hr,if_true];walk_at "es";exact bk6 T (by omega) hbd gk'.1 nk' hx hx
  ·simp only[hr,if_false];walk_at "ek";exact bk6 T (by omega) hbd gk'.1 nk' hx hy
end
end Ek
namespace Ek
open PySem L2
theorem c60:PK81 ag6 G3:=⟨⟨⟨⟨⟨rfl,rfl,rfl,rfl⟩,rfl⟩,rfl,rfl,rfl,rfl⟩,rfl,rfl,rfl⟩,rfl,rfl,rfl,rfl,rfl,rfl,rfl,rfl,nofun,rfl,rfl,rfl,rfl,rfl,rfl,rfl,rfl,rfl,rfl,rfl,rfl,rfl,rfl,rfl,rfl,rfl⟩
theorem b33(a:Addr)(ns:List Int)(h:ns.length≤63):sem ag6 G3 100 "law" [.ref a] (st0 a ns) fun d _=>d=.bl true:=
 cu2 c60 (by decide) h (.inr (by unfold st0;rw[if_pos rfl]))
end Ek
namespace Ek
open PySem L2
noncomputable def top(i:Nat):Stmt:=PySem.Challenge.pw_evenkinds_k81_looks_that_part.main.body.getD i (.Pass ⟨0,0,0,0⟩)
noncomputable def mth(i k:Nat):Stmt:=match top i with|.ClassDef _ _ _ b _ _ _ _ _ _ _=>b.getD k (.Pass ⟨0,0,0,0⟩)|_=>.Pass ⟨0,0,0,0⟩
theorem bd1{fd:FuncData}{ps:List Str}(h:∀a0,bindArgs fd ⟨[a0],[]⟩=pure (ps.zip [a0]))(us:List Value)(hl:us.length=1):bindArgs fd ⟨us,[]⟩=pure (ps.zip us):=match us,hl with|[a0],_=>h a0
theorem bd2{fd:FuncData}{ps:List Str}(h:∀a0 a1,bindArgs fd ⟨[a0,a1],[]⟩=pure (ps.zip [a0,a1]))(us:List Value)(hl:us.length=2):bindArgs fd ⟨us,[]⟩=pure (ps.zip us):=match us,hl with|[a0,a1],_=>h a0 a1
theorem bd3{fd:FuncData}{ps:List Str}(h:∀a0 a1 a2,bindArgs fd ⟨[a0,a1,a2],[]⟩=pure (ps.zip [a0,a1,a2]))(us:List Value)(hl:us.length=3):bindArgs fd ⟨us,[]⟩=pure (ps.zip us):=match us,hl with|[a0,a1,a2],_=>h a0 a1 a2
theorem bt8:Stat (top 4) ac2 ["whole","parts_of","made"] "made_of_parts" "made_of_parts":=⟨⟨rfl,rfl,rfl,by decide+kernel,rfl,by decide+kernel,by decide+kernel⟩,rfl,by decide+kernel,fun _ _ _ _ _ _=>bd3 fun _ _ _=>rfl⟩
theorem bu4:Stat (top 5) ac6 ["whole","parts_of"] "order_of_few" "order_of_few":=⟨⟨rfl,rfl,rfl,by decide+kernel,rfl,by decide+kernel,by decide+kernel⟩,rfl,by decide+kernel,fun _ _ _ _ _ _=>bd2 fun _ _=>rfl⟩
theorem b34:Stat (top 7) ah0 ["done","many"] "taken" "taken":=⟨⟨rfl,rfl,rfl,by decide+kernel,rfl,by decide+kernel,by decide+kernel⟩,rfl,by decide+kernel,fun _ _ _ _ _ _=>bd2 fun _ _=>rfl⟩
theorem bu1:Stat (top 11) ab9 ["one"] "tuples_in" "tuples_in":=⟨⟨rfl,rfl,rfl,by decide+kernel,rfl,by decide+kernel,by decide+kernel⟩,rfl,by decide+kernel,fun _ _ _ _ _ _=>bd1 fun _=>rfl⟩
theorem bu3:Stat (top 13) ac0 ["one","other"] "are_alike" "are_alike":=⟨⟨rfl,rfl,rfl,by decide+kernel,rfl,by decide+kernel,by decide+kernel⟩,rfl,by decide+kernel,fun _ _ _ _ _ _=>bd2 fun _ _=>rfl⟩
theorem bv7:Stat (top 15) ad0 ["kind"] "count" "count":=⟨⟨rfl,rfl,rfl,by decide+kernel,rfl,by decide+kernel,by decide+kernel⟩,rfl,by decide+kernel,fun _ _ _ _ _ _=>bd1 fun _=>rfl⟩
theorem bz8:Stat (top 16) ae1 ["kind"] "things" "things":=⟨⟨rfl,rfl,rfl,by decide+kernel,rfl,by decide+kernel,by decide+kernel⟩,rfl,by decide+kernel,fun _ _ _ _ _ _=>bd1 fun _=>rfl⟩
theorem bw7:Stat (top 17) ad1 ["kind","way","thing"] "gift" "gift":=⟨⟨rfl,rfl,rfl,by decide+kernel,rfl,by decide+kernel,by decide+kernel⟩,rfl,by decide+kernel,fun _ _ _ _ _ _=>bd3 fun _ _ _=>rfl⟩
theorem bu6:Stat (top 18) ac5 ["kind","thing"] "place_of" "place_of":=⟨⟨rfl,rfl,rfl,by decide+kernel,rfl,by decide+kernel,by decide+kernel⟩,rfl,by decide+kernel,fun _ _ _ _ _ _=>bd2 fun _ _=>rfl⟩
theorem bw6:Stat (top 19) ad3 ["kind","plain","joined"] "built_up" "built_up":=⟨⟨rfl,rfl,rfl,by decide+kernel,rfl,by decide+kernel,by decide+kernel⟩,rfl,by decide+kernel,fun _ _ _ _ _ _=>bd3 fun _ _ _=>rfl⟩
theorem bt1:Stat (top 20) ab4 ["word","first","second"] "joined_count" "joined_count":=⟨⟨rfl,rfl,rfl,by decide+kernel,rfl,by decide+kernel,by decide+kernel⟩,rfl,by decide+kernel,fun _ _ _ _ _ _=>bd3 fun _ _ _=>rfl⟩
theorem bv3:Stat (top 21) N2 ["base","exponent"] "power" "power":=⟨⟨rfl,rfl,rfl,by decide+kernel,rfl,by decide+kernel,by decide+kernel⟩,rfl,by decide+kernel,fun _ _ _ _ _ _=>bd2 fun _ _=>rfl⟩
theorem bt9:Stat (top 22) ac3 ["word","first","second"] "joined_things" "joined_things":=⟨⟨rfl,rfl,rfl,by decide+kernel,rfl,by decide+kernel,by decide+kernel⟩,rfl,by decide+kernel,fun _ _ _ _ _ _=>bd3 fun _ _ _=>rfl⟩
theorem b28:Stat (top 23) af7 ["first","second"] "pairs" "pairs":=⟨⟨rfl,rfl,rfl,by decide+kernel,rfl,by decide+kernel,by decide+kernel⟩,rfl,by decide+kernel,fun _ _ _ _ _ _=>bd2 fun _ _=>rfl⟩
theorem bv4:Stat (top 24) ac9 ["length","choices"] "rows_over" "rows_over":=⟨⟨rfl,rfl,rfl,by decide+kernel,rfl,by decide+kernel,by decide+kernel⟩,rfl,by decide+kernel,fun _ _ _ _ _ _=>bd2 fun _ _=>rfl⟩
theorem bw4:Stat (top 26) N3 ["kind","one","other"] "part" "part":=⟨⟨rfl,rfl,rfl,by decide+kernel,rfl,by decide+kernel,by decide+kernel⟩,rfl,by decide+kernel,fun _ _ _ _ _ _=>bd3 fun _ _ _=>rfl⟩
theorem bs9:Stat (top 27) ab3 ["shelf","here"] "looks_at_both" "looks_at_both":=⟨⟨rfl,rfl,rfl,by decide+kernel,rfl,by decide+kernel,by decide+kernel⟩,rfl,by decide+kernel,fun _ _ _ _ _ _=>bd2 fun _ _=>rfl⟩
theorem bv1:Stat (top 28) ac7 ["kind","thing","looks"] "looked" "looked":=⟨⟨rfl,rfl,rfl,by decide+kernel,rfl,by decide+kernel,by decide+kernel⟩,rfl,by decide+kernel,fun _ _ _ _ _ _=>bd3 fun _ _ _=>rfl⟩
theorem bt4:Stat (top 29) Q6 ["kind","thing","look"] "looked_once" "looked_once":=⟨⟨rfl,rfl,rfl,by decide+kernel,rfl,by decide+kernel,by decide+kernel⟩,rfl,by decide+kernel,fun _ _ _ _ _ _=>bd3 fun _ _ _=>rfl⟩
theorem bu5:Stat (top 31) D9 ["_law_script"] "_law_deck" "_law_deck":=⟨⟨rfl,rfl,rfl,by decide+kernel,rfl,by decide+kernel,by decide+kernel⟩,rfl,by decide+kernel,fun _ _ _ _ _ _=>bd1 fun _=>rfl⟩
theorem bu7:Stat (top 32) ac4 ["_law_deck_here","_law_many_here"] "_law_next" "_law_next":=⟨⟨rfl,rfl,rfl,by decide+kernel,rfl,by decide+kernel,by decide+kernel⟩,rfl,by decide+kernel,fun _ _ _ _ _ _=>bd2 fun _ _=>rfl⟩
theorem bu8:Stat (top 33) Q7 ["_law_deck_here","_law_deep"] "_law_kind" "_law_kind":=⟨⟨rfl,rfl,rfl,by decide+kernel,rfl,by decide+kernel,by decide+kernel⟩,rfl,by decide+kernel,fun _ _ _ _ _ _=>bd2 fun _ _=>rfl⟩
theorem bu9:Stat (top 34) V7 ["_law_kind_here"] "_law_many" "_law_many":=⟨⟨rfl,rfl,rfl,by decide+kernel,rfl,by decide+kernel,by decide+kernel⟩,rfl,by decide+kernel,fun _ _ _ _ _ _=>bd1 fun _=>rfl⟩
theorem bt3:Stat (top 36) ab6 ["_law_many_here","_law_some"] "_law_rows_of" "_law_rows_of":=⟨⟨rfl,rfl,rfl,by decide+kernel,rfl,by decide+kernel,by decide+kernel⟩,rfl,by decide+kernel,fun _ _ _ _ _ _=>bd2 fun _ _=>rfl⟩
theorem bt5:Stat (top 37) L0 ["_law_kind_here"] "_law_things" "_law_things":=⟨⟨rfl,rfl,rfl,by decide+kernel,rfl,by decide+kernel,by decide+kernel⟩,rfl,by decide+kernel,fun _ _ _ _ _ _=>bd1 fun _=>rfl⟩
theorem bu2:Stat (top 38) ab8 ["_law_kind_here"] "_law_looks" "_law_looks":=⟨⟨rfl,rfl,rfl,by decide+kernel,rfl,by decide+kernel,by decide+kernel⟩,rfl,by decide+kernel,fun _ _ _ _ _ _=>bd1 fun _=>rfl⟩
theorem bt7:Stat (top 39) V6 ["_law_kind_here","_law_thing","_law_look"] "_law_beheld" "_law_beheld":=⟨⟨rfl,rfl,rfl,by decide+kernel,rfl,by decide+kernel,by decide+kernel⟩,rfl,by decide+kernel,fun _ _ _ _ _ _=>bd3 fun _ _ _=>rfl⟩
theorem bu0:Stat (top 40) ac1 ["_law_kind_here","_law_one","_law_other"] "_law_least" "_law_least":=⟨⟨rfl,rfl,rfl,by decide+kernel,rfl,by decide+kernel,by decide+kernel⟩,rfl,by decide+kernel,fun _ _ _ _ _ _=>bd3 fun _ _ _=>rfl⟩
theorem bx3:Stat (top 41) G2 ["_law_script"] "law" "law":=⟨⟨rfl,rfl,rfl,by decide+kernel,rfl,by decide+kernel,by decide+kernel⟩,rfl,by decide+kernel,fun _ _ _ _ _ _=>bd1 fun _=>rfl⟩
theorem bs6:Stat (mth 12 0) ab0 ["self"] "__init__" (i5 "Shelf" "__init__"):=⟨⟨rfl,rfl,rfl,by decide+kernel,rfl,by decide+kernel,by decide+kernel⟩,rfl,by decide+kernel,fun _ _ _ _ _ _=>bd1 fun _=>rfl⟩
theorem bt6:Stat (mth 12 1) ab7 ["self","one"] "laid" (i5 "Shelf" "laid"):=⟨⟨rfl,rfl,rfl,by decide+kernel,rfl,by decide+kernel,by decide+kernel⟩,rfl,by decide+kernel,fun _ _ _ _ _ _=>bd2 fun _ _=>rfl⟩
theorem bs7:Stat (mth 12 4) aa9 ["self","front","numbers"] "numbered" (i5 "Shelf" "numbered"):=⟨⟨rfl,rfl,rfl,by decide+kernel,rfl,by decide+kernel,by decide+kernel⟩,rfl,by decide+kernel,fun _ _ _ _ _ _=>bd3 fun _ _ _=>rfl⟩
theorem bs8:Stat (mth 12 7) ab1 ["self","number"] "tuple_at" (i5 "Shelf" "tuple_at"):=⟨⟨rfl,rfl,rfl,by decide+kernel,rfl,by decide+kernel,by decide+kernel⟩,rfl,by decide+kernel,fun _ _ _ _ _ _=>bd2 fun _ _=>rfl⟩
theorem bt0:Stat (mth 12 8) ab2 ["self","number"] "word_at" (i5 "Shelf" "word_at"):=⟨⟨rfl,rfl,rfl,by decide+kernel,rfl,by decide+kernel,by decide+kernel⟩,rfl,by decide+kernel,fun _ _ _ _ _ _=>bd2 fun _ _=>rfl⟩
theorem bt2:Stat (mth 12 9) ab5 ["self","number"] "within" (i5 "Shelf" "within"):=⟨⟨rfl,rfl,rfl,by decide+kernel,rfl,by decide+kernel,by decide+kernel⟩,rfl,by decide+kernel,fun _ _ _ _ _ _=>bd2 fun _ _=>rfl⟩
theorem cs3{pr:Program}{w:World}{K:W.Frag}{h:Heap}{mg:Str→Option Value}{ts:List Addr}(X:K.In h)(G:h.Ns mainGlobals mg)
  {f0:Addr} {od0 an0:Option Addr} {sl0:Array (Option Value)} {oc0 kV0 dc0 pm0 cd0 ct0:Value} {f1:Addr} {od1 an1:Option Addr} {sl1:Array (Option Value)} {oc1 kV1 dc1 pm1 cd1 ct1:Value} {f2:Addr} {od2 an2:Option Addr} {sl2:Array (Option Value)} {oc2 kV2 dc2 pm2 cd2 ct2:Value} {f3:Addr} {od3 an3:Option Addr} {sl3:Array (Option Value)} {oc3 kV3 dc3 pm3 cd3 ct3:Value} {f4:Addr} {od4 an4:Option Addr} {sl4:Array (Option Value)} {oc4 kV4 dc4 pm4 cd4 ct4:Value} {f5:Addr} {od5 an5:Option Addr} {sl5:Array (Option Value)} {oc5 kV5 dc5 pm5 cd5 ct5:Value} {f6:Addr} {od6 an6:Option Addr} {sl6:Array (Option Value)} {oc6 kV6 dc6 pm6 cd6 ct6:Value} {f7:Addr} {od7 an7:Option Addr} {sl7:Array (Option Value)} {oc7 kV7 dc7 pm7 cd7 ct7:Value} {f8:Addr} {od8 an8:Option Addr} {sl8:Array (Option Value)} {oc8 kV8 dc8 pm8 cd8 ct8:Value} {f9:Addr} {od9 an9:Option Addr} {sl9:Array (Option Value)} {oc9 kV9 dc9 pm9 cd9 ct9:Value} {f10:Addr} {od10 an10:Option Addr} {sl10:Array (Option Value)} {oc10 kV10 dc10 pm10 cd10 ct10:Value} {f11:Addr} {od11 an11:Option Addr} {sl11:Array (Option Value)} {oc11 kV11 dc11 pm11 cd11 ct11:Value} {f12:Addr} {od12 an12:Option Addr} {sl12:Array (Option Value)} {oc12 kV12 dc12 pm12 cd12 ct12:Value} {f13:Addr} {od13 an13:Option Addr} {sl13:Array (Option Value)} {oc13 kV13 dc13 pm13 cd13 ct13:Value} {f14:Addr} {od14 an14:Option Addr} {sl14:Array (Option Value)} {oc14 kV14 dc14 pm14 cd14 ct14:Value} {f15:Addr} {od15 an15:Option Addr} {sl15:Array (Option Value)} {oc15 kV15 dc15 pm15 cd15 ct15:Value} {f16:Addr} {od16 an16:Option Addr} {sl16:Array (Option Value)} {oc16 kV16 dc16 pm16 cd16 ct16:Value} {f17:Addr} {od17 an17:Option Addr} {sl17:Array (Option Value)} {oc17 kV17 dc17 pm17 cd17 ct17:Value} {f18:Addr} {od18 an18:Option Addr} {sl18:Array (Option Value)} {oc18 kV18 dc18 pm18 cd18 ct18:Value} {f19:Addr} {od19 an19:Option Addr} {sl19:Array (Option Value)} {oc19 kV19 dc19 pm19 cd19 ct19:Value} {f20:Addr} {od20 an20:Option Addr} {sl20:Array (Option Value)} {oc20 kV20 dc20 pm20 cd20 ct20:Value} {f21:Addr} {od21 an21:Option Addr} {sl21:Array (Option Value)} {oc21 kV21 dc21 pm21 cd21 ct21:Value} {f22:Addr} {od22 an22:Option Addr} {sl22:Array (Option Value)} {oc22 kV22 dc22 pm22 cd22 ct22:Value} {f23:Addr} {od23 an23:Option Addr} {sl23:Array (Option Value)} {oc23 kV23 dc23 pm23 cd23 ct23:Value} {f24:Addr} {od24 an24:Option Addr} {sl24:Array (Option Value)} {oc24 kV24 dc24 pm24 cd24 ct24:Value} {f25:Addr} {od25 an25:Option Addr} {sl25:Array (Option Value)} {oc25 kV25 dc25 pm25 cd25 ct25:Value} {f26:Addr} {od26 an26:Option Addr} {sl26:Array (Option Value)} {oc26 kV26 dc26 pm26 cd26 ct26:Value} {f27:Addr} {od27 an27:Option Addr} {sl27:Array (Option Value)} {oc27 kV27 dc27 pm27 cd27 ct27:Value} {f28:Addr} {od28 an28:Option Addr} {sl28:Array (Option Value)} {oc28 kV28 dc28 pm28 cd28 ct28:Value} {mf0:Addr} {mod0 man0:Option Addr} {msl0:Array (Option Value)} {moc0 mkV0 mdc0 mpm0 mcd0 mct0:Value} {mf1:Addr} {mod1 man1:Option Addr} {msl1:Array (Option Value)} {moc1 mkV1 mdc1 mpm1 mcd1 mct1:Value} {mf2:Addr} {mod2 man2:Option Addr} {msl2:Array (Option Value)} {moc2 mkV2 mdc2 mpm2 mcd2 mct2:Value} {mf3:Addr} {mod3 man3:Option Addr} {msl3:Array (Option Value)} {moc3 mkV3 mdc3 mpm3 mcd3 mct3:Value} {mf4:Addr} {mod4 man4:Option Addr} {msl4:Array (Option Value)} {moc4 mkV4 mdc4 mpm4 mcd4 mct4:Value} {mf5:Addr} {mod5 man5:Option Addr} {msl5:Array (Option Value)} {moc5 mkV5 mdc5 mpm5 mcd5 mct5:Value}  {kt0:Tok} {hc9 hp9:Addr} {C0:Addr} {mhc1 mhp1:Addr}
  (a0:W.nsIn K mainGlobals "made_of_parts"=some (some (.ref f0))) (l0:K.lookup f0=some ⟨oc0,od0,.func (W.fnOf "made_of_parts" "made_of_parts" (m5 (top 4)) (j8 (top 4)) (j4 (top 4)) .none kV0 dc0 pm0 an0 cd0 ct0),sl0⟩) (c0:W.codeIn K cd0 "made_of_parts"=true) (k0:W.keepIn K (.ref f0)=true)
  (a1:W.nsIn K mainGlobals "order_of_few"=some (some (.ref f1))) (l1:K.lookup f1=some ⟨oc1,od1,.func (W.fnOf "order_of_few" "order_of_few" (m5 (top 5)) (j8 (top 5)) (j4 (top 5)) .none kV1 dc1 pm1 an1 cd1 ct1),sl1⟩) (c1:W.codeIn K cd1 "order_of_few"=true) (k1:W.keepIn K (.ref f1)=true)
  (a2:W.nsIn K mainGlobals "taken"=some (some (.ref f2))) (l2:K.lookup f2=some ⟨oc2,od2,.func (W.fnOf "taken" "taken" (m5 (top 7)) (j8 (top 7)) (j4 (top 7)) .none kV2 dc2 pm2 an2 cd2 ct2),sl2⟩) (c2:W.codeIn K cd2 "taken"=true) (k2:W.keepIn K (.ref f2)=true)
  (a3:W.nsIn K mainGlobals "tuples_in"=some (some (.ref f3))) (l3:K.lookup f3=some ⟨oc3,od3,.func (W.fnOf "tuples_in" "tuples_in" (m5 (top 11)) (j8 (top 11)) (j4 (top 11)) .none kV3 dc3 pm3 an3 cd3 ct3),sl3⟩) (c3:W.codeIn K cd3 "tuples_in"=true) (k3:W.keepIn K (.ref f3)=true)
  (a4:W.nsIn K mainGlobals "are_alike"=some (some (.ref f4))) (l4:K.lookup f4=some ⟨oc4,od4,.func (W.fnOf "are_alike" "are_alike" (m5 (top 13)) (j8 (top 13)) (j4 (top 13)) .none kV4 dc4 pm4 an4 cd4 ct4),sl4⟩) (c4:W.codeIn K cd4 "are_alike"=true) (k4:W.keepIn K (.ref f4)=true)
  (a5:W.nsIn K mainGlobals "count"=some (some (.ref f5))) (l5:K.lookup f5=some ⟨oc5,od5,.func (W.fnOf "count" "count" (m5 (top 15)) (j8 (top 15)) (j4 (top 15)) .none kV5 dc5 pm5 an5 cd5 ct5),sl5⟩) (c5:W.codeIn K cd5 "count"=true) (k5:W.keepIn K (.ref f5)=true)
  (a6:W.nsIn K mainGlobals "things"=some (some (.ref f6))) (l6:K.lookup f6=some ⟨oc6,od6,.func (W.fnOf "things" "things" (m5 (top 16)) (j8 (top 16)) (j4 (top 16)) .none kV6 dc6 pm6 an6 cd6 ct6),sl6⟩) (c6:W.codeIn K cd6 "things"=true) (k6:W.keepIn K (.ref f6)=true)
  (a7:W.nsIn K mainGlobals "gift"=some (some (.ref f7))) (l7:K.lookup f7=some ⟨oc7,od7,.func (W.fnOf "gift" "gift" (m5 (top 17)) (j8 (top 17)) (j4 (top 17)) .none kV7 dc7 pm7 an7 cd7 ct7),sl7⟩) (c7:W.codeIn K cd7 "gift"=true) (k7:W.keepIn K (.ref f7)=true)
  (a8:W.nsIn K mainGlobals "place_of"=some (some (.ref f8))) (l8:K.lookup f8=some ⟨oc8,od8,.func (W.fnOf "place_of" "place_of" (m5 (top 18)) (j8 (top 18)) (j4 (top 18)) .none kV8 dc8 pm8 an8 cd8 ct8),sl8⟩) (c8:W.codeIn K cd8 "place_of"=true) (k8:W.keepIn K (.ref f8)=true)
  (a9:W.nsIn K mainGlobals "built_up"=some (some (.ref f9))) (l9:K.lookup f9=some ⟨oc9,od9,.func (W.fnOf "built_up" "built_up" (m5 (top 19)) (j8 (top 19)) (j4 (top 19)) .none kV9 dc9 pm9 an9 cd9 ct9),sl9⟩) (c9:W.codeIn K cd9 "built_up"=true) (k9:W.keepIn K (.ref f9)=true)
  (a10:W.nsIn K mainGlobals "joined_count"=some (some (.ref f10))) (l10:K.lookup f10=some ⟨oc10,od10,.func (W.fnOf "joined_count" "joined_count" (m5 (top 20)) (j8 (top 20)) (j4 (top 20)) .none kV10 dc10 pm10 an10 cd10 ct10),sl10⟩) (c10:W.codeIn K cd10 "joined_count"=true) (k10:W.keepIn K (.ref f10)=true)
  (a11:W.nsIn K mainGlobals "power"=some (some (.ref f11))) (l11:K.lookup f11=some ⟨oc11,od11,.func (W.fnOf "power" "power" (m5 (top 21)) (j8 (top 21)) (j4 (top 21)) .none kV11 dc11 pm11 an11 cd11 ct11),sl11⟩) (c11:W.codeIn K cd11 "power"=true) (k11:W.keepIn K (.ref f11)=true)
  (a12:W.nsIn K mainGlobals "joined_things"=some (some (.ref f12))) (l12:K.lookup f12=some ⟨oc12,od12,.func (W.fnOf "joined_things" "joined_things" (m5 (top 22)) (j8 (top 22)) (j4 (top 22)) .none kV12 dc12 pm12 an12 cd12 ct12),sl12⟩) (c12:W.codeIn K cd12 "joined_things"=true) (k12:W.keepIn K (.ref f12)=true)
  (a13:W.nsIn K mainGlobals "pairs"=some (some (.ref f13))) (l13:K.lookup f13=some ⟨oc13,od13,.func (W.fnOf "pairs" "pairs" (m5 (top 23)) (j8 (top 23)) (j4 (top 23)) .none kV13 dc13 pm13 an13 cd13 ct13),sl13⟩) (c13:W.codeIn K cd13 "pairs"=true) (k13:W.keepIn K (.ref f13)=true)
  (a14:W.nsIn K mainGlobals "rows_over"=some (some (.ref f14))) (l14:K.lookup f14=some ⟨oc14,od14,.func (W.fnOf "rows_over" "rows_over" (m5 (top 24)) (j8 (top 24)) (j4 (top 24)) .none kV14 dc14 pm14 an14 cd14 ct14),sl14⟩) (c14:W.codeIn K cd14 "rows_over"=true) (k14:W.keepIn K (.ref f14)=true)
  (a15:W.nsIn K mainGlobals "part"=some (some (.ref f15))) (l15:K.lookup f15=some ⟨oc15,od15,.func (W.fnOf "part" "part" (m5 (top 26)) (j8 (top 26)) (j4 (top 26)) .none kV15 dc15 pm15 an15 cd15 ct15),sl15⟩) (c15:W.codeIn K cd15 "part"=true) (k15:W.keepIn K (.ref f15)=true)
  (a16:W.nsIn K mainGlobals "looks_at_both"=some (some (.ref f16))) (l16:K.lookup f16=some ⟨oc16,od16,.func (W.fnOf "looks_at_both" "looks_at_both" (m5 (top 27)) (j8 (top 27)) (j4 (top 27)) .none kV16 dc16 pm16 an16 cd16 ct16),sl16⟩) (c16:W.codeIn K cd16 "looks_at_both"=true) (k16:W.keepIn K (.ref f16)=true)
  (a17:W.nsIn K mainGlobals "looked"=some (some (.ref f17))) (l17:K.lookup f17=some ⟨oc17,od17,.func (W.fnOf "looked" "looked" (m5 (top 28)) (j8 (top 28)) (j4 (top 28)) .none kV17 dc17 pm17 an17 cd17 ct17),sl17⟩) (c17:W.codeIn K cd17 "looked"=true) (k17:W.keepIn K (.ref f17)=true)
  (a18:W.nsIn K mainGlobals "looked_once"=some (some (.ref f18))) (l18:K.lookup f18=some ⟨oc18,od18,.func (W.fnOf "looked_once" "looked_once" (m5 (top 29)) (j8 (top 29)) (j4 (top 29)) .none kV18 dc18 pm18 an18 cd18 ct18),sl18⟩) (c18:W.codeIn K cd18 "looked_once"=true) (k18:W.keepIn K (.ref f18)=true)
  (a19:W.nsIn K mainGlobals "_law_deck"=some (some (.ref f19))) (l19:K.lookup f19=some ⟨oc19,od19,.func (W.fnOf "_law_deck" "_law_deck" (m5 (top 31)) (j8 (top 31)) (j4 (top 31)) .none kV19 dc19 pm19 an19 cd19 ct19),sl19⟩) (c19:W.codeIn K cd19 "_law_deck"=true) (k19:W.keepIn K (.ref f19)=true)
  (a20:W.nsIn K mainGlobals "_law_next"=some (some (.ref f20))) (l20:K.lookup f20=some ⟨oc20,od20,.func (W.fnOf "_law_next" "_law_next" (m5 (top 32)) (j8 (top 32)) (j4 (top 32)) .none kV20 dc20 pm20 an20 cd20 ct20),sl20⟩) (c20:W.codeIn K cd20 "_law_next"=true) (k20:W.keepIn K (.ref f20)=true)
  (a21:W.nsIn K mainGlobals "_law_kind"=some (some (.ref f21))) (l21:K.lookup f21=some ⟨oc21,od21,.func (W.fnOf "_law_kind" "_law_kind" (m5 (top 33)) (j8 (top 33)) (j4 (top 33)) .none kV21 dc21 pm21 an21 cd21 ct21),sl21⟩) (c21:W.codeIn K cd21 "_law_kind"=true) (k21:W.keepIn K (.ref f21)=true)
  (a22:W.nsIn K mainGlobals "_law_many"=some (some (.ref f22))) (l22:K.lookup f22=some ⟨oc22,od22,.func (W.fnOf "_law_many" "_law_many" (m5 (top 34)) (j8 (top 34)) (j4 (top 34)) .none kV22 dc22 pm22 an22 cd22 ct22),sl22⟩) (c22:W.codeIn K cd22 "_law_many"=true) (k22:W.keepIn K (.ref f22)=true)
  (a23:W.nsIn K mainGlobals "_law_rows_of"=some (some (.ref f23))) (l23:K.lookup f23=some ⟨oc23,od23,.func (W.fnOf "_law_rows_of" "_law_rows_of" (m5 (top 36)) (j8 (top 36)) (j4 (top 36)) .none kV23 dc23 pm23 an23 cd23 ct23),sl23⟩) (c23:W.codeIn K cd23 "_law_rows_of"=true) (k23:W.keepIn K (.ref f23)=true)
  (a24:W.nsIn K mainGlobals "_law_things"=some (some (.ref f24))) (l24:K.lookup f24=some ⟨oc24,od24,.func (W.fnOf "_law_things" "_law_things" (m5 (top 37)) (j8 (top 37)) (j4 (top 37)) .none kV24 dc24 pm24 an24 cd24 ct24),sl24⟩) (c24:W.codeIn K cd24 "_law_things"=true) (k24:W.keepIn K (.ref f24)=true)
  (a25:W.nsIn K mainGlobals "_law_looks"=some (some (.ref f25))) (l25:K.lookup f25=some ⟨oc25,od25,.func (W.fnOf "_law_looks" "_law_looks" (m5 (top 38)) (j8 (top 38)) (j4 (top 38)) .none kV25 dc25 pm25 an25 cd25 ct25),sl25⟩) (c25:W.codeIn K cd25 "_law_looks"=true) (k25:W.keepIn K (.ref f25)=true)
  (a26:W.nsIn K mainGlobals "_law_beheld"=some (some (.ref f26))) (l26:K.lookup f26=some ⟨oc26,od26,.func (W.fnOf "_law_beheld" "_law_beheld" (m5 (top 39)) (j8 (top 39)) (j4 (top 39)) .none kV26 dc26 pm26 an26 cd26 ct26),sl26⟩) (c26:W.codeIn K cd26 "_law_beheld"=true) (k26:W.keepIn K (.ref f26)=true)
  (a27:W.nsIn K mainGlobals "_law_least"=some (some (.ref f27))) (l27:K.lookup f27=some ⟨oc27,od27,.func (W.fnOf "_law_least" "_law_least" (m5 (top 40)) (j8 (top 40)) (j4 (top 40)) .none kV27 dc27 pm27 an27 cd27 ct27),sl27⟩) (c27:W.codeIn K cd27 "_law_least"=true) (k27:W.keepIn K (.ref f27)=true)
  (a28:W.nsIn K mainGlobals "law"=some (some (.ref f28))) (l28:K.lookup f28=some ⟨oc28,od28,.func (W.fnOf "law" "law" (m5 (top 41)) (j8 (top 41)) (j4 (top 41)) .none kV28 dc28 pm28 an28 cd28 ct28),sl28⟩) (c28:W.codeIn K cd28 "law"=true) (k28:W.keepIn K (.ref f28)=true)
  (b0:W.nsIn K mainGlobals "len"=some none) (b1:W.nsIn K mainGlobals "abs"=some none) (b2:W.nsIn K mainGlobals "int"=some none) (b3:W.nsIn K mainGlobals "sum"=some none) (b4:W.nsIn K mainGlobals "list"=some none) (b5:W.nsIn K mainGlobals "tuple"=some none) (b6:W.nsIn K mainGlobals "isinstance"=some none) (b7:W.nsIn K mainGlobals "max"=some none) (b8:W.nsIn K mainGlobals "range"=some none) (b9:W.nsIn K mainGlobals "enumerate"=some none) (b10:W.nsIn K mainGlobals "reversed"=some none) (b11:W.nsIn K mainGlobals "str"=some none) (b12:W.nsIn K mainGlobals "bool"=some none) (b13:W.nsIn K mainGlobals "min"=some none) (b14:W.nsIn K mainGlobals "sorted"=some none) (b15:W.nsIn K mainGlobals "zip"=some none)
  (kc0:W.nsIn K mainGlobals "FEW"=some (some (.int 2000 kt0)))
  (ht9:ao8 K cd9=some (hc9,hp9)) (hd9:W.codeHdIn K hc9 hp9=true) (hm9:ts.contains hp9=true)
  (kx0:W.nsIn K mainGlobals "!kt"=some none)
  (ca0:W.nsIn K mainGlobals "Shelf"=some (some (.ref C0))) (cp0:W.plainGet K C0 Str.empty=true) (ch0:W.hasDictIn K C0=true) (co0:W.plainOver K C0=true) (cs0:W.findIn K (.ref C0) "__setattr__"=some (some (.builtin "object.__setattr__"))) (cm0:W.makesIn K C0=true) (ck0:W.keepIn K (.ref C0)=true) (cf0_0:W.findIn K (.ref C0) "numbers"=some none) (cf0_1:W.findIn K (.ref C0) "stored"=some none) (cf0_2:W.findIn K (.ref C0) "parts"=some none) (cf0_3:W.findIn K (.ref C0) "waiting"=some none)
  (ma0:W.nsIn K mainGlobals (i5 "Shelf" "__init__")=some none) (mt0:W.findIn K (.ref C0) "__init__"=some (some (.ref mf0))) (mn0:W.isFn K (.ref mf0)=true) (mk0:W.keepIn K (.ref mf0)=true) (ml0:K.lookup mf0=some ⟨moc0,mod0,.func (W.fnOf "__init__" (i5 "Shelf" "__init__") (m5 (mth 12 0)) (j8 (mth 12 0)) (j4 (mth 12 0)) .none mkV0 mdc0 mpm0 man0 mcd0 mct0),msl0⟩) (mc0:W.codeIn K mcd0 (i5 "Shelf" "__init__")=true)
  (ma1:W.nsIn K mainGlobals (i5 "Shelf" "laid")=some none) (mt1:W.findIn K (.ref C0) "laid"=some (some (.ref mf1))) (mn1:W.isFn K (.ref mf1)=true) (mk1:W.keepIn K (.ref mf1)=true) (ml1:K.lookup mf1=some ⟨moc1,mod1,.func (W.fnOf "laid" (i5 "Shelf" "laid") (m5 (mth 12 1)) (j8 (mth 12 1)) (j4 (mth 12 1)) .none mkV1 mdc1 mpm1 man1 mcd1 mct1),msl1⟩) (mc1:W.codeIn K mcd1 (i5 "Shelf" "laid")=true)
  (ma2:W.nsIn K mainGlobals (i5 "Shelf" "numbered")=some none) (mt2:W.findIn K (.ref C0) "numbered"=some (some (.ref mf2))) (mn2:W.isFn K (.ref mf2)=true) (mk2:W.keepIn K (.ref mf2)=true) (ml2:K.lookup mf2=some ⟨moc2,mod2,.func (W.fnOf "numbered" (i5 "Shelf" "numbered") (m5 (mth 12 4)) (j8 (mth 12 4)) (j4 (mth 12 4)) .none mkV2 mdc2 mpm2 man2 mcd2 mct2),msl2⟩) (mc2:W.codeIn K mcd2 (i5 "Shelf" "numbered")=true)
  (ma3:W.nsIn K mainGlobals (i5 "Shelf" "tuple_at")=some none) (mt3:W.findIn K (.ref C0) "tuple_at"=some (some (.ref mf3))) (mn3:W.isFn K (.ref mf3)=true) (mk3:W.keepIn K (.ref mf3)=true) (ml3:K.lookup mf3=some ⟨moc3,mod3,.func (W.fnOf "tuple_at" (i5 "Shelf" "tuple_at") (m5 (mth 12 7)) (j8 (mth 12 7)) (j4 (mth 12 7)) .none mkV3 mdc3 mpm3 man3 mcd3 mct3),msl3⟩) (mc3:W.codeIn K mcd3 (i5 "Shelf" "tuple_at")=true)
  (ma4:W.nsIn K mainGlobals (i5 "Shelf" "word_at")=some none) (mt4:W.findIn K (.ref C0) "word_at"=some (some (.ref mf4))) (mn4:W.isFn K (.ref mf4)=true) (mk4:W.keepIn K (.ref mf4)=true) (ml4:K.lookup mf4=some ⟨moc4,mod4,.func (W.fnOf "word_at" (i5 "Shelf" "word_at") (m5 (mth 12 8)) (j8 (mth 12 8)) (j4 (mth 12 8)) .none mkV4 mdc4 mpm4 man4 mcd4 mct4),msl4⟩) (mc4:W.codeIn K mcd4 (i5 "Shelf" "word_at")=true)
  (ma5:W.nsIn K mainGlobals (i5 "Shelf" "within")=some none) (mt5:W.findIn K (.ref C0) "within"=some (some (.ref mf5))) (mn5:W.isFn K (.ref mf5)=true) (mk5:W.keepIn K (.ref mf5)=true) (ml5:K.lookup mf5=some ⟨moc5,mod5,.func (W.fnOf "within" (i5 "Shelf" "within") (m5 (mth 12 9)) (j8 (mth 12 9)) (j4 (mth 12 9)) .none mkV5 mdc5 mpm5 man5 mcd5 mct5),msl5⟩) (mc5:W.codeIn K mcd5 (i5 "Shelf" "within")=true)
  (mht1:ao8 K mcd1=some (mhc1,mhp1)) (mhd1:W.codeHdIn K mhc1 mhp1=true) (mhm1:ts.contains mhp1=true) (nl:S6 K=true) (nt:W.noTabs K=true) (tso:a70 K ts=true) :
  (letI:Tbs:=⟨ts,mFB,(G3.cls "!kt").isEmpty⟩;AllOk pr w K mg ag6 G3)∧S6 K=true∧W.noTabs K=true∧∀P∈ts,∃c,W.codeHdIn K c P=true:=by
 letI:Tbs:=⟨ts,mFB,(G3.cls "!kt").isEmpty⟩
 refine⟨⟨fun f d hf hi=>?_,fun f d hf hi=>?_,fun f c Ca hn hf=>?_,fun b hb=>?_,fun g hg=>?_,fun g i hg=>?_,rfl⟩,nl,nt,cf7 tso⟩
 ·
  have hm:(f,d)∈X2:=PySem.mem_of_lookup hf;simp only[X2,List.mem_cons,List.not_mem_nil,or_false,Prod.mk.injEq]at hm
  rcases hm with⟨rfl,rfl⟩|⟨rfl,rfl⟩|⟨rfl,rfl⟩|⟨rfl,rfl⟩|⟨rfl,rfl⟩|⟨rfl,rfl⟩|⟨rfl,rfl⟩|⟨rfl,rfl⟩|⟨rfl,rfl⟩|⟨rfl,rfl⟩|⟨rfl,rfl⟩|⟨rfl,rfl⟩|⟨rfl,rfl⟩|⟨rfl,rfl⟩|⟨rfl,rfl⟩|⟨rfl,rfl⟩|⟨rfl,rfl⟩|⟨rfl,rfl⟩|⟨rfl,rfl⟩|⟨rfl,rfl⟩|⟨rfl,rfl⟩|⟨rfl,rfl⟩|⟨rfl,rfl⟩|⟨rfl,rfl⟩|⟨rfl,rfl⟩|⟨rfl,rfl⟩|⟨rfl,rfl⟩|⟨rfl,rfl⟩|⟨rfl,rfl⟩|⟨rfl,rfl⟩|⟨rfl,rfl⟩|⟨rfl,rfl⟩|⟨rfl,rfl⟩|⟨rfl,rfl⟩|⟨rfl,rfl⟩
  ·exact absurd hi (by decide+kernel)
  ·exact absurd hi (by decide+kernel)
  ·exact absurd hi (by decide+kernel)
  ·exact absurd hi (by decide+kernel)
  ·exact absurd hi (by decide+kernel)
  ·exact absurd hi (by decide+kernel)
  ·exact o3 X G bt8 a0 l0 c0 k0
  ·exact o3 X G bu4 a1 l1 c1 k1
  ·exact o3 X G b34 a2 l2 c2 k2
  ·exact o3 X G bu1 a3 l3 c3 k3
  ·exact o3 X G bu3 a4 l4 c4 k4
  ·exact o3 X G bv7 a5 l5 c5 k5
  ·exact o3 X G bz8 a6 l6 c6 k6
  ·exact o3 X G bw7 a7 l7 c7 k7
  ·exact o3 X G bu6 a8 l8 c8 k8
  ·exact o3 X G bw6 a9 l9 c9 k9 (fun _=>bo2 ht9 hd9 hm9)
  ·exact o3 X G bt1 a10 l10 c10 k10
  ·exact o3 X G bv3 a11 l11 c11 k11
  ·exact o3 X G bt9 a12 l12 c12 k12
  ·exact o3 X G b28 a13 l13 c13 k13
  ·exact o3 X G bv4 a14 l14 c14 k14
  ·exact o3 X G bw4 a15 l15 c15 k15
  ·exact o3 X G bs9 a16 l16 c16 k16
  ·exact o3 X G bv1 a17 l17 c17 k17
  ·exact o3 X G bt4 a18 l18 c18 k18
  ·exact o3 X G bu5 a19 l19 c19 k19
  ·exact o3 X G bu7 a20 l20 c20 k20
  ·exact o3 X G bu8 a21 l21 c21 k21
  ·exact o3 X G bu9 a22 l22 c22 k22
  ·exact o3 X G bt3 a23 l23 c23 k23
  ·exact o3 X G bt5 a24 l24 c24 k24
  ·exact o3 X G bu2 a25 l25 c25 k25
  ·exact o3 X G bt7 a26 l26 c26 k26
  ·exact o3 X G bu0 a27 l27 c27 k27
  ·exact o3 X G bx3 a28 l28 c28 k28
 ·
  have hm:(f,d)∈X2:=PySem.mem_of_lookup hf;simp only[X2,List.mem_cons,List.not_mem_nil,or_false,Prod.mk.injEq]at hm
  rcases hm with⟨rfl,rfl⟩|⟨rfl,rfl⟩|⟨rfl,rfl⟩|⟨rfl,rfl⟩|⟨rfl,rfl⟩|⟨rfl,rfl⟩|⟨rfl,rfl⟩|⟨rfl,rfl⟩|⟨rfl,rfl⟩|⟨rfl,rfl⟩|⟨rfl,rfl⟩|⟨rfl,rfl⟩|⟨rfl,rfl⟩|⟨rfl,rfl⟩|⟨rfl,rfl⟩|⟨rfl,rfl⟩|⟨rfl,rfl⟩|⟨rfl,rfl⟩|⟨rfl,rfl⟩|⟨rfl,rfl⟩|⟨rfl,rfl⟩|⟨rfl,rfl⟩|⟨rfl,rfl⟩|⟨rfl,rfl⟩|⟨rfl,rfl⟩|⟨rfl,rfl⟩|⟨rfl,rfl⟩|⟨rfl,rfl⟩|⟨rfl,rfl⟩|⟨rfl,rfl⟩|⟨rfl,rfl⟩|⟨rfl,rfl⟩|⟨rfl,rfl⟩|⟨rfl,rfl⟩|⟨rfl,rfl⟩
  ·exact⟨"Shelf","__init__",by decide+kernel,by decide+kernel,by decide+kernel,S8 X G bs6 ma0 ca0 ⟨cp0,ch0,co0,cs0⟩ ⟨mt0,mn0,mk0⟩ (fun _=>⟨cm0,mt0,mn0,ck0⟩) ml0 mc0⟩
  ·exact⟨"Shelf","laid",by decide+kernel,by decide+kernel,by decide+kernel,S8 X G bt6 ma1 ca0 ⟨cp0,ch0,co0,cs0⟩ ⟨mt1,mn1,mk1⟩ (fun h=>absurd h (by decide+kernel)) ml1 mc1 (fun _=>bo2 mht1 mhd1 mhm1)⟩
  ·exact⟨"Shelf","numbered",by decide+kernel,by decide+kernel,by decide+kernel,S8 X G bs7 ma2 ca0 ⟨cp0,ch0,co0,cs0⟩ ⟨mt2,mn2,mk2⟩ (fun h=>absurd h (by decide+kernel)) ml2 mc2⟩
  ·exact⟨"Shelf","tuple_at",by decide+kernel,by decide+kernel,by decide+kernel,S8 X G bs8 ma3 ca0 ⟨cp0,ch0,co0,cs0⟩ ⟨mt3,mn3,mk3⟩ (fun h=>absurd h (by decide+kernel)) ml3 mc3⟩
  ·exact⟨"Shelf","word_at",by decide+kernel,by decide+kernel,by decide+kernel,S8 X G bt0 ma4 ca0 ⟨cp0,ch0,co0,cs0⟩ ⟨mt4,mn4,mk4⟩ (fun h=>absurd h (by decide+kernel)) ml4 mc4⟩
  ·exact⟨"Shelf","within",by decide+kernel,by decide+kernel,by decide+kernel,S8 X G bt2 ma5 ca0 ⟨cp0,ch0,co0,cs0⟩ ⟨mt5,mn5,mk5⟩ (fun h=>absurd h (by decide+kernel)) ml5 mc5⟩
  ·exact absurd hi (by decide+kernel)
  ·exact absurd hi (by decide+kernel)
  ·exact absurd hi (by decide+kernel)
  ·exact absurd hi (by decide+kernel)
  ·exact absurd hi (by decide+kernel)
  ·exact absurd hi (by decide+kernel)
  ·exact absurd hi (by decide+kernel)
  ·exact absurd hi (by decide+kernel)
  ·exact absurd hi (by decide+kernel)
  ·exact absurd hi (by decide+kernel)
  ·exact absurd hi (by decide+kernel)
  ·exact absurd hi (by decide+kernel)
  ·exact absurd hi (by decide+kernel)
  ·exact absurd hi (by decide+kernel)
  ·exact absurd hi (by decide+kernel)
  ·exact absurd hi (by decide+kernel)
  ·exact absurd hi (by decide+kernel)
  ·exact absurd hi (by decide+kernel)
  ·exact absurd hi (by decide+kernel)
  ·exact absurd hi (by decide+kernel)
  ·exact absurd hi (by decide+kernel)
  ·exact absurd hi (by decide+kernel)
  ·exact absurd hi (by decide+kernel)
  ·exact absurd hi (by decide+kernel)
  ·exact absurd hi (by decide+kernel)
  ·exact absurd hi (by decide+kernel)
  ·exact absurd hi (by decide+kernel)
  ·exact absurd hi (by decide+kernel)
  ·exact absurd hi (by decide+kernel)
 ·
  unfold G3 at hf;simp only at hf
  by_cases hck:c="!kt"
  ·subst hck;rw[kx0]at hn;cases hn
  rw[if_neg hck]at hf
  by_cases hc0:c="Shelf"
  ·subst hc0;rw[ca0]at hn;cases hn;rw[if_pos rfl]at hf;simp only[List.mem_cons,List.not_mem_nil,or_false]at hf;refine⟨⟨cp0,ch0,co0,cs0⟩,?_⟩
   rcases hf with rfl|rfl|rfl|rfl
   ·exact cf0_0
   ·exact cf0_1
   ·exact cf0_2
   ·exact cf0_3
  rw[if_neg hc0]at hf;exact absurd hf List.not_mem_nil
 ·simp only[W3,List.mem_cons,List.not_mem_nil,or_false]at hb
  rcases hb with rfl|rfl|rfl|rfl|rfl|rfl|rfl|rfl|rfl|rfl|rfl|rfl|rfl|rfl|rfl|rfl
  ·exact W.mg_none_of X G b0
  ·exact W.mg_none_of X G b1
  ·exact W.mg_none_of X G b2
  ·exact W.mg_none_of X G b3
  ·exact W.mg_none_of X G b4
  ·exact W.mg_none_of X G b5
  ·exact W.mg_none_of X G b6
  ·exact W.mg_none_of X G b7
  ·exact W.mg_none_of X G b8
  ·exact W.mg_none_of X G b9
  ·exact W.mg_none_of X G b10
  ·exact W.mg_none_of X G b11
  ·exact W.mg_none_of X G b12
  ·exact W.mg_none_of X G b13
  ·exact W.mg_none_of X G b14
  ·exact W.mg_none_of X G b15
 ·unfold G3 at hg ⊢;simp only at hg ⊢;exact absurd rfl hg
 ·unfold G3 at hg;simp only at hg
  by_cases hg0:g="FEW"
  ·subst hg0;rw[if_pos rfl]at hg;cases hg;exact⟨_,W.mg_of X G kc0⟩
  rw[if_neg hg0]at hg;cases hg
end Ek
theorem PySem.W.Fast.tw16855520585316670856:True:=trivial
theorem PySem.W.Fast.tw9870403526955123728:True:=trivial
theorem PySem.W.Fast.tw11531848661568566782:True:=trivial
theorem PySem.W.Fast.tw15900422294149156548:True:=trivial
theorem PySem.W.Fast.tw13587318563969155439:True:=trivial
theorem PySem.W.Fast.tw215143689557890037:True:=trivial
theorem PySem.W.Fast.tw9762812038005498936:True:=trivial
theorem PySem.W.Fast.tw18048661767923586091:True:=trivial
theorem PySem.W.Fast.tw12772332062162362753:True:=trivial
theorem PySem.W.Fast.tw16328095724783040249:True:=trivial
theorem PySem.W.Fast.tw13412595959003891691:True:=trivial
theorem PySem.W.Fast.tw10987760562893432979:True:=trivial
theorem PySem.W.Fast.tw1022331173204525817:True:=trivial
theorem PySem.W.Fast.tw6437060223756245075:True:=trivial
theorem PySem.W.Fast.tw4079978027483814599:True:=trivial
theorem PySem.W.Fast.tw14490972857568999971:True:=trivial
theorem PySem.W.Fast.tw13606989512220075474:True:=trivial
theorem PySem.W.Fast.tw13445187354537595229:True:=trivial
theorem PySem.W.Fast.tw8865002953273485221:True:=trivial
theorem PySem.W.Fast.tw8646263163361771412:True:=trivial
theorem PySem.W.Fast.tw1021492808917635115:True:=trivial
theorem PySem.W.Fast.tw4733622620538153221:True:=trivial
theorem PySem.W.Fast.tw3501205493080772739:True:=trivial
theorem PySem.W.Fast.tw4024742704345814953:True:=trivial
theorem PySem.W.Fast.tw358658672980220581:True:=trivial
theorem PySem.W.Fast.tw9917343375866274780:True:=trivial
theorem PySem.W.Fast.tw14816246139793069861:True:=trivial
theorem PySem.W.Fast.tw16789000003929002474:True:=trivial
theorem PySem.W.Fast.tw15515227933214382705:True:=trivial
theorem PySem.W.Fast.tw14603785354474753259:True:=trivial
theorem PySem.W.Fast.tw249156021095478957:True:=trivial
theorem PySem.W.Fast.tw16316981284323896644:True:=trivial
theorem PySem.W.Fast.tw637831887568179250:True:=trivial
theorem PySem.W.Fast.tw10179487400418145521:True:=trivial
theorem PySem.W.Fast.tw15214219514061261241:True:=trivial
theorem PySem.W.Fast.tw3864582953342347090:True:=trivial
theorem PySem.W.Fast.tw495662889528702834:True:=trivial
theorem PySem.W.Fast.tw5582269751544610811:True:=trivial
theorem PySem.W.Fast.tw16178584217874374339:True:=trivial
theorem PySem.W.Fast.tw16278251550576623635:True:=trivial
theorem PySem.W.Fast.tw8711154451993150760:True:=trivial
theorem PySem.W.Fast.tw1454087606170300766:True:=trivial
theorem PySem.W.Fast.tw7416120624638170048:True:=trivial
theorem PySem.W.Fast.tw17144296068414466388:True:=trivial
theorem PySem.W.Fast.tw4711387704054243526:True:=trivial
theorem PySem.W.Fast.tw13835086938076392237:True:=trivial
theorem PySem.W.Fast.tw14859578370733419213:True:=trivial
theorem PySem.W.Fast.tw17432605302534156563:True:=trivial
theorem PySem.W.Fast.tw13063345351523719236:True:=trivial
theorem PySem.W.Fast.tw6953445839780660725:True:=trivial
theorem PySem.W.Fast.tw4783116511759369208:True:=trivial
theorem PySem.W.Fast.tw10802744875731818442:True:=trivial
theorem PySem.W.Fast.tw6498334397445861698:True:=trivial
theorem PySem.W.Fast.tw7992116138649453733:True:=trivial
theorem PySem.W.Fast.tw8095999966945714289:True:=trivial
theorem PySem.W.Fast.tw12156441924938940357:True:=trivial
theorem PySem.W.Fast.tw3451868861180079771:True:=trivial
theorem PySem.W.Fast.tw10052470208907677824:True:=trivial
theorem PySem.W.Fast.tw7453027679579395232:True:=trivial
theorem PySem.W.Fast.tw5757342883895841446:True:=trivial
theorem PySem.W.Fast.tw4287108158595076341:True:=trivial
theorem PySem.W.Fast.tw759003498791183773:True:=trivial
theorem PySem.W.Fast.tw13965267349815757528:True:=trivial
theorem PySem.W.Fast.tw10388269357737190254:True:=trivial
theorem PySem.W.Fast.tw14515755664595102031:True:=trivial
theorem PySem.W.Fast.tw10697397410503863700:True:=trivial
theorem PySem.W.Fast.tw12910287189764342538:True:=trivial
theorem PySem.W.Fast.tw7847145519978861497:True:=trivial
theorem PySem.W.Fast.tw4751653275558233006:True:=trivial
theorem PySem.W.Fast.tw2291012281279816465:True:=trivial
theorem PySem.W.Fast.tw2684622831709215602:True:=trivial
theorem PySem.W.Fast.tw12827033066114565220:True:=trivial
theorem PySem.W.Fast.tw17257630678136258439:True:=trivial
theorem PySem.W.Fast.tw15036806877295810368:True:=trivial
theorem PySem.W.Fast.tw13511058744942238188:True:=trivial
theorem PySem.W.Fast.tw4257419204776995378:True:=trivial
theorem PySem.W.Fast.tw2164604562211137526:True:=trivial
theorem PySem.W.Fast.tw13272167376778426398:True:=trivial
theorem PySem.W.Fast.tw12260548951892862000:True:=trivial
theorem PySem.W.Fast.tw2408465282637204558:True:=trivial
theorem PySem.W.Fast.tw1050199907193436842:True:=trivial
theorem PySem.W.Fast.tw9610732346906602946:True:=trivial
theorem PySem.W.Fast.tw622850972163074356:True:=trivial
theorem PySem.W.Fast.tw12761442066620876772:True:=trivial
theorem PySem.W.Fast.tw193930644221843759:True:=trivial
theorem PySem.W.Fast.tw2369546390195001740:True:=trivial
theorem PySem.W.Fast.tw9108050361141185273:True:=trivial
theorem PySem.W.Fast.tw6151800698152525536:True:=trivial
theorem PySem.W.Fast.tw17877896801149485761:True:=trivial
theorem PySem.W.Fast.tw4963684432212391806:True:=trivial
theorem PySem.W.Fast.tw4722619777848312308:True:=trivial
theorem PySem.W.Fast.tw13771409069724289368:True:=trivial
theorem PySem.W.Fast.tw11491478385031393602:True:=trivial
theorem PySem.W.Fast.tw4448084988334735667:True:=trivial
theorem PySem.W.Fast.tw7097340154198466445:True:=trivial
theorem PySem.W.Fast.tw15501193708606694926:True:=trivial
theorem PySem.W.Fast.tw17883700793718071676:True:=trivial
theorem PySem.W.Fast.tw8415124188514383218:True:=trivial
theorem PySem.W.Fast.tw729780111414378720:True:=trivial
theorem PySem.W.Fast.tw2095761316535404612:True:=trivial
theorem PySem.W.Fast.tw16939530782398270917:True:=trivial
theorem PySem.W.Fast.tw14933551838571335891:True:=trivial
theorem PySem.W.Fast.tw12367217233467808101:True:=trivial
theorem PySem.W.Fast.tw15733645855654515147:True:=trivial
theorem PySem.W.Fast.tw13497056020891170610:True:=trivial
theorem PySem.W.Fast.tw11645878240044321203:True:=trivial
theorem PySem.W.Fast.tw587896240536959206:True:=trivial
theorem PySem.W.Fast.tw9513810971741567825:True:=trivial
theorem PySem.W.Fast.tw1083191872649825799:True:=trivial
theorem PySem.W.Fast.tw4863456544617507757:True:=trivial
theorem PySem.W.Fast.tw12675270437811703087:True:=trivial
theorem PySem.W.Fast.tw4687477067073648555:True:=trivial
theorem PySem.W.Fast.tw15436360505895445443:True:=trivial
theorem PySem.W.Fast.tw4868165737962527300:True:=trivial
theorem PySem.W.Fast.tw9140842033088906051:True:=trivial
theorem PySem.W.Fast.tw271110565659455203:True:=trivial
theorem PySem.W.Fast.tw3774207491067131133:True:=trivial
theorem PySem.W.Fast.tw2906841805448628153:True:=trivial
theorem PySem.W.Fast.tw169815017871104274:True:=trivial
theorem PySem.W.Fast.tw10038068799178611488:True:=trivial
theorem PySem.W.Fast.tw4951520098670923612:True:=trivial
theorem PySem.W.Fast.tw18121752254501945789:True:=trivial
theorem PySem.W.Fast.tw17942275937997066160:True:=trivial
theorem PySem.W.Fast.tw260305861081166861:True:=trivial
theorem PySem.W.Fast.tw2724050439792962372:True:=trivial
theorem PySem.W.Fast.tw10768814374753704253:True:=trivial
theorem PySem.W.Fast.tw1625970149142205753:True:=trivial
theorem PySem.W.Fast.tw9835944520081316983:True:=trivial
theorem PySem.W.Fast.tw15027958030381468558:True:=trivial
theorem PySem.W.Fast.tw12428686947267833431:True:=trivial
theorem PySem.W.Fast.tw12739753004166301913:True:=trivial
theorem PySem.W.Fast.tw7761604872825110227:True:=trivial
theorem PySem.W.Fast.tw4439142026026437256:True:=trivial
theorem PySem.W.Fast.tw675348768441515565:True:=trivial
theorem PySem.W.Fast.tw1543616812795615903:True:=trivial
theorem PySem.W.Fast.tw17064149160461753979:True:=trivial
theorem PySem.W.Fast.tw4964789715983827239:True:=trivial
theorem PySem.W.Fast.tw14988906609284158597:True:=trivial
theorem PySem.W.Fast.tw2840711801724737619:True:=trivial
theorem PySem.W.Fast.tw18424098748752844792:True:=trivial
theorem PySem.W.Fast.tw10938440634457621338:True:=trivial
theorem PySem.W.Fast.tw2791982501996817233:True:=trivial
theorem PySem.W.Fast.tw3863421544232035641:True:=trivial
theorem PySem.W.Fast.tw4822320061260545998:True:=trivial
theorem PySem.W.Fast.tw14480197209373898973:True:=trivial
theorem PySem.W.Fast.tw17921575434594636689:True:=trivial
theorem PySem.W.Fast.tw10738756330774828696:True:=trivial
theorem PySem.W.Fast.tw8800645848271073484:True:=trivial
theorem PySem.W.Fast.tw2316540384024401212:True:=trivial
theorem PySem.W.Fast.tw16634922875063060115:True:=trivial
theorem PySem.W.Fast.tw3418729607576918239:True:=trivial
theorem PySem.W.Fast.tw15426520721866186794:True:=trivial
theorem PySem.W.Fast.tw346348842422565012:True:=trivial
theorem PySem.W.Fast.tw1554386005627280956:True:=trivial
theorem PySem.W.Fast.tw932863125051300092:True:=trivial
theorem PySem.W.Fast.tw5491884597650274294:True:=trivial
theorem PySem.W.Fast.tw5982660969742098230:True:=trivial
theorem PySem.W.Fast.tw15780259201025584168:True:=trivial
theorem PySem.W.Fast.tw1705740258850692167:True:=trivial
theorem PySem.W.Fast.tw14820820030474744279:True:=trivial
theorem PySem.W.Fast.tw12307715242330157940:True:=trivial
theorem PySem.W.Fast.tw14027890126418089619:True:=trivial
theorem PySem.W.Fast.tw13814901000310792899:True:=trivial
theorem PySem.W.Fast.tw3148404923972943115:True:=trivial
theorem PySem.W.Fast.tw14069153691179441677:True:=trivial
theorem PySem.W.Fast.tw11164647306791235562:True:=trivial
theorem PySem.W.Fast.tw5198208128412831337:True:=trivial
theorem PySem.W.Fast.tw4864310163341069223:True:=trivial
theorem PySem.W.Fast.tw4070223745972642732:True:=trivial
theorem PySem.W.Fast.tw957839180595309716:True:=trivial
theorem PySem.W.Fast.tw17952747821149592482:True:=trivial
theorem PySem.W.Fast.tw16186762292579605511:True:=trivial
theorem PySem.W.Fast.tw7591930374874694010:True:=trivial
theorem PySem.W.Fast.tw9539488937350092263:True:=trivial
theorem PySem.W.Fast.tw15504213455532400772:True:=trivial
theorem PySem.W.Fast.tw1719923244115121740:True:=trivial
theorem PySem.W.Fast.tw13925042383465808063:True:=trivial
theorem PySem.W.Fast.tw13756964061241816260:True:=trivial
theorem PySem.W.Fast.tw13023507406297696614:True:=trivial
theorem PySem.W.Fast.tw11511457606346432300:True:=trivial
theorem PySem.W.Fast.tw17225555247742902069:True:=trivial
theorem PySem.W.Fast.tw15793847615378315966:True:=trivial
theorem PySem.W.Fast.tw9204041334817955891:True:=trivial
theorem PySem.W.Fast.tw8510299926493749319:True:=trivial
theorem PySem.W.Fast.tw18024636407526854547:True:=trivial
theorem PySem.W.Fast.tw6844238933607757721:True:=trivial
theorem PySem.W.Fast.tw4429227501812546532:True:=trivial
open PySem PySem.W PyProof.Rows
set_option maxRecDepth 100000 in
set_option maxHeartbeats 0 in
theorem PySem.Challenge.cw_evenkinds_k81_looks_that_part_holds : PySem.Challenge.rw_evenkinds_k81_looks_that_part.Holds := by
 w_on;o_law;k_head;(case hw=>w_witness2)
 k_fill
 refine Ek.ce3 (l:=PySem.Challenge.rw_evenkinds_k81_looks_that_part) (P:=Ek.ag6) (G:=Ek.G3) (n:=100) (x:="_law_script") (dl:=Ek.G2) rfl rfl rfl ⟨rfl,by decide,by decide⟩ (fun w h Y=>⟨W.km_in_of Y,W.km_tabs_of Y⟩) rfl ?hst ?F Ek.b33
 case hst=>
  intro st y ps S;have e:=S.sc.pre;have e2:=S.np;rw[e2]at e;exact e.symm
 case F=>
  intro w mg h KX G
  refine' Ek.cs3 KX G ?a0 ?l0 ?c0 ?k0 ?a1 ?l1 ?c1 ?k1 ?a2 ?l2 ?c2 ?k2 ?a3 ?l3 ?c3 ?k3 ?a4 ?l4 ?c4 ?k4 ?a5 ?l5 ?c5 ?k5 ?a6 ?l6 ?c6 ?k6 ?a7 ?l7 ?c7 ?k7 ?a8 ?l8 ?c8 ?k8 ?a9 ?l9 ?c9 ?k9 ?a10 ?l10 ?c10 ?k10 ?a11 ?l11 ?c11 ?k11 ?a12 ?l12 ?c12 ?k12 ?a13 ?l13 ?c13 ?k13 ?a14 ?l14 ?c14 ?k14 ?a15 ?l15 ?c15 ?k15 ?a16 ?l16 ?c16 ?k16 ?a17 ?l17 ?c17 ?k17 ?a18 ?l18 ?c18 ?k18 ?a19 ?l19 ?c19 ?k19 ?a20 ?l20 ?c20 ?k20 ?a21 ?l21 ?c21 ?k21 ?a22 ?l22 ?c22 ?k22 ?a23 ?l23 ?c23 ?k23 ?a24 ?l24 ?c24 ?k24 ?a25 ?l25 ?c25 ?k25 ?a26 ?l26 ?c26 ?k26 ?a27 ?l27 ?c27 ?k27 ?a28 ?l28 ?c28 ?k28 ?b0 ?b1 ?b2 ?b3 ?b4 ?b5 ?b6 ?b7 ?b8 ?b9 ?b10 ?b11 ?b12 ?b13 ?b14 ?b15  ?kc0 ?ht9 ?hd9 ?hm9 ?kx0 ?ca0 ?cp0 ?ch0 ?co0 ?cs0 ?cm0 ?ck0 ?cf0_0 ?cf0_1 ?cf0_2 ?cf0_3 ?ma0 ?mt0 ?mn0 ?mk0 ?ml0 ?mc0 ?ma1 ?mt1 ?mn1 ?mk1 ?ml1 ?mc1 ?ma2 ?mt2 ?mn2 ?mk2 ?ml2 ?mc2 ?ma3 ?mt3 ?mn3 ?mk3 ?ml3 ?mc3 ?ma4 ?mt4 ?mn4 ?mk4 ?ml4 ?mc4 ?ma5 ?mt5 ?mn5 ?mk5 ?ml5 ?mc5 ?mht1 ?mhd1 ?mhm1 ?nl ?nt ?tso
  (case a0=>k_is);(case l0=>k_is);(case c0=>k_is);(case k0=>k_is)
  (case a1=>k_is);(case l1=>k_is);(case c1=>k_is);(case k1=>k_is)
  (case a2=>k_is);(case l2=>k_is);(case c2=>k_is);(case k2=>k_is)
  (case a3=>k_is);(case l3=>k_is);(case c3=>k_is);(case k3=>k_is)
  (case a4=>k_is);(case l4=>k_is);(case c4=>k_is);(case k4=>k_is)
  (case a5=>k_is);(case l5=>k_is);(case c5=>k_is);(case k5=>k_is)
  (case a6=>k_is);(case l6=>k_is);(case c6=>k_is);(case k6=>k_is)
  (case a7=>k_is);(case l7=>k_is);(case c7=>k_is);(case k7=>k_is)
  (case a8=>k_is);(case l8=>k_is);(case c8=>k_is);(case k8=>k_is)
  (case a9=>k_is);(case l9=>k_is);(case c9=>k_is);(case k9=>k_is)
  (case a10=>k_is);(case l10=>k_is);(case c10=>k_is);(case k10=>k_is)
  (case a11=>k_is);(case l11=>k_is);(case c11=>k_is);(case k11=>k_is)
  (case a12=>k_is);(case l12=>k_is);(case c12=>k_is);(case k12=>k_is)
  (case a13=>k_is);(case l13=>k_is);(case c13=>k_is);(case k13=>k_is)
  (case a14=>k_is);(case l14=>k_is);(case c14=>k_is);(case k14=>k_is)
  (case a15=>k_is);(case l15=>k_is);(case c15=>k_is);(case k15=>k_is)
  (case a16=>k_is);(case l16=>k_is);(case c16=>k_is);(case k16=>k_is)
  (case a17=>k_is);(case l17=>k_is);(case c17=>k_is);(case k17=>k_is)
  (case a18=>k_is);(case l18=>k_is);(case c18=>k_is);(case k18=>k_is)
  (case a19=>k_is);(case l19=>k_is);(case c19=>k_is);(case k19=>k_is)
  (case a20=>k_is);(case l20=>k_is);(case c20=>k_is);(case k20=>k_is)
  (case a21=>k_is);(case l21=>k_is);(case c21=>k_is);(case k21=>k_is)
  (case a22=>k_is);(case l22=>k_is);(case c22=>k_is);(case k22=>k_is)
  (case a23=>k_is);(case l23=>k_is);(case c23=>k_is);(case k23=>k_is)
  (case a24=>k_is);(case l24=>k_is);(case c24=>k_is);(case k24=>k_is)
  (case a25=>k_is);(case l25=>k_is);(case c25=>k_is);(case k25=>k_is)
  (case a26=>k_is);(case l26=>k_is);(case c26=>k_is);(case k26=>k_is)
  (case a27=>k_is);(case l27=>k_is);(case c27=>k_is);(case k27=>k_is)
  (case a28=>k_is);(case l28=>k_is);(case c28=>k_is);(case k28=>k_is)
  (case b0=>k_is)
  (case b1=>k_is)
  (case b2=>k_is)
  (case b3=>k_is)
  (case b4=>k_is)
  (case b5=>k_is)
  (case b6=>k_is)
  (case b7=>k_is)
  (case b8=>k_is)
  (case b9=>k_is)
  (case b10=>k_is)
  (case b11=>k_is)
  (case b12=>k_is)
  (case b13=>k_is)
  (case b14=>k_is)
  (case b15=>k_is)
  (case ca0=>k_is)
  (case cp0=>k_is)
  (case ch0=>k_is)
  (case co0=>k_is)
  (case cs0=>k_is)
  (case cm0=>k_is)
  (case ck0=>k_is)
  (case cf0_0=>k_is)
  (case cf0_1=>k_is)
  (case cf0_2=>k_is)
  (case cf0_3=>k_is)
  (case ma0=>k_is)
  (case mt0=>k_is)
  (case mn0=>k_is)
  (case mk0=>k_is)
  (case ml0=>k_is)
  (case mc0=>k_is)
  (case ma1=>k_is)
  (case mt1=>k_is)
  (case mn1=>k_is)
  (case mk1=>k_is)
  (case ml1=>k_is)
  (case mc1=>k_is)
  (case ma2=>k_is)
  (case mt2=>k_is)
  (case mn2=>k_is)
  (case mk2=>k_is)
  (case ml2=>k_is)
  (case mc2=>k_is)
  (case ma3=>k_is)
  (case mt3=>k_is)
  (case mn3=>k_is)
  (case mk3=>k_is)
  (case ml3=>k_is)
  (case mc3=>k_is)
  (case ma4=>k_is)
  (case mt4=>k_is)
  (case mn4=>k_is)
  (case mk4=>k_is)
  (case ml4=>k_is)
  (case mc4=>k_is)
  (case ma5=>k_is)
  (case mt5=>k_is)
  (case mn5=>k_is)
  (case mk5=>k_is)
  (case ml5=>k_is)
  (case mc5=>k_is)
  (case kc0=>k_is)
  (case kx0=>k_is)
  (case ht9=>rfl);(case hd9=>kernel_rfl);(case hm9=>decide)
  (case mht1=>rfl);(case mhd1=>kernel_rfl);(case mhm1=>decide)
  (case nl=>rfl);(case nt=>rfl);(case tso=>rfl)
#print axioms PySem.Challenge.cw_evenkinds_k81_looks_that_part_holds
