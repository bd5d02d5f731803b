import PyProof.Rows.All
import PyProof.TupleKey
import PyProof.P3Eq
import PyProof.DictKinds
import Wide.All
import OpenK.AllK
import Wide.FinOn
import Lean
import PyProof.EqAt
import PyProof.EqKinds
import PyProof.TupleCall
import PyProof.ZipIter
import PyProof.ListNew
import KE.KRevIter
import KE.LcSums
import PySem.Challenge.RW_evenkinds_k25_whole_put_in_and_lifted
set_option Elab.async false
set_option maxHeartbeats 4000000
set_option compiler.extract_closed false
set_option genSizeOf false
set_option bootstrap.genMatcherCode false
set_option linter.all false
namespace PySem
noncomputable instance decPyData:DecidableEq PyData:=fun a b=>Classical.propDecidable (a=b)
namespace NK
mutual
noncomputable def lit:PyData→Bool
 |.int _=>true
 |.str x=>PyData.canLay0 (.str x)
 |.tuple ds=>j6 ds
 |_=>false
noncomputable def j6:List PyData→Bool
 |[]=>true
 |d::r=>lit d&&j6 r
end
mutual
theorem ak0:∀d:PyData,lit d=true→d.canLay0=true
 |.int _,_=>rfl
 |.str _,h=>h
 |.tuple ds,h=>by rw[PyData.canLay0];exact at0 ds h
 |.none,h=>nomatch h
 |.bool _,h=>nomatch h
 |.list _,h=>nomatch h
 |.dict _,h=>nomatch h
theorem at0:∀ds:List PyData,j6 ds=true→PyData.canLayAll0 ds=true
 |[],_=>rfl
 |d::r,h=>by
  have h':lit d=true∧j6 r=true:=by simpa[j6]using h
  show(d.canLay0&&PyData.canLayAll0 r)=true;rw[ak0 d h'.1,at0 r h'.2];rfl
end
mutual
theorem aj5:∀x y:PyData,lit x=true→lit y=true→(PyData.eqv x y=true↔x=y)
 |.int i,.int j,_,_=>by rw[PyData.eqv];simp
 |.int i,.str y,_,_=>by simp[PyData.eqv]
 |.int i,.tuple ys,_,_=>by simp[PyData.eqv]
 |.str x,.int j,_,_=>by simp[PyData.eqv]
 |.str x,.str y,_,_=>by rw[PyData.eqv];simp
 |.str x,.tuple ys,_,_=>by simp[PyData.eqv]
 |.tuple xs,.int j,_,_=>by simp[PyData.eqv]
 |.tuple xs,.str y,_,_=>by simp[PyData.eqv]
 |.tuple xs,.tuple ys,hx,hy=>by rw[PyData.eqv,au8 xs ys hx hy];simp
 |.none,_,h,_=>nomatch h
 |.bool _,_,h,_=>nomatch h
 |.list _,_,h,_=>nomatch h
 |.dict _,_,h,_=>nomatch h
 |_,.none,_,h=>nomatch h
 |_,.bool _,_,h=>nomatch h
 |_,.list _,_,h=>nomatch h
 |_,.dict _,_,h=>nomatch h
theorem au8:∀xs ys:List PyData,j6 xs=true→j6 ys=true→(PyData.eqvAll xs ys=true↔xs=ys)
 |[],[],_,_=>by simp[PyData.eqvAll]
 |[],y::ys,_,_=>by simp[PyData.eqvAll]
 |x::xs,[],_,_=>by simp[PyData.eqvAll]
 |x::xs,y::ys,hx,hy=>by
  have hx':lit x=true∧j6 xs=true:=by simpa[j6]using hx
  have hy':lit y=true∧j6 ys=true:=by simpa[j6]using hy
  rw[PyData.eqvAll,Bool.and_eq_true,aj5 x y hx'.1 hy'.1,au8 xs ys hx'.2 hy'.2];simp
end
theorem aj1:∀{ds:List PyData},j6 ds=true→∀d∈ds,lit d=true
 |[],_,d,h=>by cases h
 |e::r,hl,d,h=>by
  have h':lit e=true∧j6 r=true:=by simpa[j6]using hl
  rcases List.mem_cons.mp h with rfl|h
  ·exact h'.1
  ·exact aj1 h'.2 d h
theorem ai1:∀{ds:List PyData}{d:PyData},d∈ds→d.depth≤PyData.depthAll ds
 |e::r,d,h=>by
  show d.depth≤max e.depth (PyData.depthAll r)
  rcases List.mem_cons.mp h with rfl|h
  ·omega
  ·have:=ai1 h;omega
theorem depth_tup{ds:List PyData}:(PyData.tuple ds).depth=PyData.depthAll ds+1:=by rw[PyData.depth]
mutual
theorem az0{h:Heap}:∀(x y:PyData){v:Value}{as bs:List Addr},lit x=true→lit y=true→Reads h v x as→Reads h v y bs→x=y
 |.int i,y,v,as,bs,_,hy,rx,ry=>by
  cases rx;cases ry;rfl
 |.str x,y,v,as,bs,_,hy,rx,ry=>by
  cases rx;cases ry;rfl
 |.tuple xs,y,v,as,bs,hx,hy,rx,ry=>by
  cases rx with
  |tuple e1 e2 e3 e4=>
   cases ry with
   |tuple f1 f2 f3 f4=>
    rw[e1]at f1;cases f1;rw[e3]at f3;cases f3;rw[av9 xs _ hx hy e4 f4]
   |list=>cases hy
   |dict=>cases hy
 |.none,_,_,_,_,h,_,_,_=>nomatch h
 |.bool _,_,_,_,_,h,_,_,_=>nomatch h
 |.list _,_,_,_,_,h,_,_,_=>nomatch h
 |.dict _,_,_,_,_,h,_,_,_=>nomatch h
theorem av9{h:Heap}:∀(xs ys:List PyData){vs:List Value}{as bs:List Addr},j6 xs=true→j6 ys=true→ReadsAll h vs xs as→ReadsAll h vs ys bs→xs=ys
 |[],ys,vs,as,bs,_,_,rx,ry=>by cases rx;cases ry;rfl
 |x::xs,ys,vs,as,bs,hx,hy,rx,ry=>by
  cases rx with
  |cons r1 r2=>cases ry with
   |@cons _ _ y ys _ _ q1 q2=>
    have hx':lit x=true∧j6 xs=true:=by simpa[j6]using hx
    have hy':lit y=true∧j6 ys=true:=by simpa[j6]using hy
    rw[az0 x y hx'.1 hy'.1 r1 q1,av9 xs ys hx'.2 hy'.2 r2 q2]
end
mutual
theorem av3{h h':Heap}{d:Addr}{o:Obj}{es:Array DictEntry}{ep:Nat}(ho:h.get? d=some o)(hd:o.data=.dict es ep)(hs:Heap.SameBut d h h'):∀(x:PyData){v:Value}{as:List Addr},lit x=true→Reads h v x as→∃bs,Reads h' v x bs
 |.int i,v,as,_,r=>by cases r;exact⟨_,.int _ _⟩
 |.str x,v,as,_,r=>by cases r;exact⟨_,.str _ _⟩
 |.tuple xs,v,as,hx,r=>by
  cases r with
  |@tuple a o' _ _ _ _ e1 e2 e3 e4=>
   have hne:a≠d:=by
    rintro rfl;rw[e1]at ho;cases ho;rw[hd]at e3;exact nomatch e3
   obtain⟨bs,r'⟩:=as8 ho hd hs xs hx e4;exact⟨_,.tuple ((hs.2 a hne).trans e1) e2 e3 r'⟩
 |.none,_,_,h,_=>nomatch h
 |.bool _,_,_,h,_=>nomatch h
 |.list _,_,_,h,_=>nomatch h
 |.dict _,_,_,h,_=>nomatch h
theorem as8{h h':Heap}{d:Addr}{o:Obj}{es:Array DictEntry}{ep:Nat}(ho:h.get? d=some o)(hd:o.data=.dict es ep)(hs:Heap.SameBut d h h'):∀(xs:List PyData){vs:List Value}{as:List Addr},j6 xs=true→ReadsAll h vs xs as→∃bs,ReadsAll h' vs xs bs
 |[],vs,as,_,r=>by cases r;exact⟨_,.nil⟩
 |x::xs,vs,as,hx,r=>by
  cases r with
  |cons r1 r2=>
   have hx':lit x=true∧j6 xs=true:=by simpa[j6]using hx
   obtain⟨b1,q1⟩:=av3 ho hd hs x hx'.1 r1;obtain⟨b2,q2⟩:=as8 ho hd hs xs hx'.2 r2;exact⟨_,.cons q1 q2⟩
end
mutual
noncomputable def hK(w:World):PyData→Int
 |.int i=>hashInt i
 |.str x=>hashStr w x
 |.tuple ds=>reduceHash (Builtin.Tuple.tupleHashOf (hKs w ds))
 |_=>0
noncomputable def hKs(w:World):List PyData→List Int
 |[]=>[]
 |d::r=>hK w d::hKs w r
end
mutual
noncomputable def dw:PyData→Nat
 |.tuple ds=>dws ds+1
 |_=>1
noncomputable def dws:List PyData→Nat
 |[]=>0
 |d::r=>dw d+dws r
end
theorem aj6(w:World):∀(a b:List PyData),hKs w (a++b)=hKs w a++hKs w b
 |[],b=>rfl
 |x::a,b=>by rw[List.cons_append,hKs,aj6 w a b];rfl
theorem aj8:∀(a b:List PyData),dws (a++b)=dws a+dws b
 |[],b=>by simp[dws]
 |x::a,b=>by rw[List.cons_append,dws,aj8 a b,dws,Nat.add_assoc]
variable {prog:Program} {w:World}
theorem bp2:∀(n:Nat)(d:PyData),d.depth≤n→lit d=true→∀{A:Around}{E:Value→Shared→Prop}{s:Shared}{v:Value}{as:List Addr}{Q:Int→Shared→Prop},A.units+n<cLine→Reads s.heap v d as→Q (hK w d) {s with toks:=s.toks+dw d}→wpAny (model prog w) A (pyHash v) Q E s:=by
 intro n
 induction n with
 |zero=>
  intro d hd hl A E s v as Q hu r h;cases r with
  |int i t=>exact wpAny_pyHash_int (by simpa[hK,dw]using h)
  |str x t=>exact wpAny_pyHash_str (by simpa[hK,dw]using h)
  |tuple=>rw[depth_tup]at hd;omega
  |none=>cases hl
  |bool=>cases hl
  |list=>cases hl
  |dict=>cases hl
 |succ n ih=>
  intro d hd hl A E s v as Q hu r h;cases r with
  |int i t=>exact wpAny_pyHash_int (by simpa[hK,dw]using h)
  |str x t=>exact wpAny_pyHash_str (by simpa[hK,dw]using h)
  |none=>cases hl
  |bool=>cases hl
  |list=>cases hl
  |dict=>cases hl
  |@tuple a o items m xs as ho hc hda hi=>
   rw[depth_tup]at hd;have hl':j6 xs=true:=hl;have hT:s.TypeIs (.ref a) "tuple":=⟨o,ho,hc⟩;unfold pyHash
   first|unfold pyHashByItsType|skip
   first|refine wpAny_bind (wpAny_cRoomFor_or (.inr (by omega)) ?_)|skip
   refine wpAny_bind (wpAny_specialOf hT F.slot_tuple_hash.lookup ?_);show wpAny _ _ (if(some (Value.builtin "tuple.__hash__")==some Value.none)=true then _ else _) Q E s;rw[if_neg (by rw[beq_builtin_none];exact Bool.false_ne_true)];refine wpAny_bind (wpAny_specialOf hT F.slot_tuple_hash.lookup ?_);show wpAny _ _ (callSpecialIfBoundUnlessNone? (.ref a) "__hash__" _>>=_) Q E s;refine wpAny_bind (wpAny_callSpecialIfBoundUnlessNone?_slot hT F.slot_tuple_hash (wpAny_call_entry F.slot_tuple_hash hT F.entry_tuple_hash ?_ (F.args_tuple_hash_1 _)));show wpAny _ _ (Builtin.Tuple.tupleItemsOf (.ref a)>>=_) _ _ s;refine wpAny_bind (wpAny_tupleItemsOf ho hda ?_);refine wpAny_bind ?_;rw[←Array.forIn_toList];refine wpAny_forIn_list _
    (fun d9(b:Array Int)s'=>∃done left bs,xs=done++left∧ReadsAll s.heap d9 left bs∧b.toList=hKs w done∧s'={s with toks:=s.toks+dws done})
    _ ?_ ?_ _ _ ⟨[],xs,_,rfl,hi,rfl,rfl⟩
   ·rintro x d9 b s' ⟨done,left,bs,rfl,hl2,hb,rfl⟩;cases hl2 with
    |@cons _ _ k ks' _ _ h1 hl3=>
     have hk:k∈done++k::ks':=by simp
     refine wpAny_bind (ih k (by have:=ai1 hk;omega) (aj1 hl' k hk) ?_ h1 ?_)
     ·show A.units+1+n<cLine;omega
     first
      |exact wpAny_pure ⟨done++[k],ks',_,by simp,hl3,by rw[aj6];simp[hb,hKs],by simp[aj8,dws,Nat.add_assoc]⟩
      |exact wpAny_bind (wpAny_pure (wpAny_pure ⟨done++[k],ks',_,by simp,hl3,by rw[aj6];simp[hb,hKs],by simp[aj8,dws,Nat.add_assoc]⟩))
   ·rintro b s' ⟨done,left,bs,rfl,hl2,hb,rfl⟩;cases hl2;rw[List.append_nil]at h;simp only[hK,dw]at h;show wpAny _ _ (retInt (Builtin.Tuple.tupleHashOf b.toList)) _ _ _;rw[hb];refine wpAny_ret_mkInt ?_;show wpAny _ _ (if(decide (-(2:Int)^63≤Builtin.Tuple.tupleHashOf (hKs w done))&&decide (Builtin.Tuple.tupleHashOf (hKs w done)<2^63))=true then _ else _) Q E _;unfold reduceHash at h
    by_cases hr:(decide (-(2:Int)^63≤Builtin.Tuple.tupleHashOf (hKs w done))&&decide (Builtin.Tuple.tupleHashOf (hKs w done)<2^63))=true
    ·rw[if_pos hr];rw[if_pos hr]at h;exact wpAny_pure (by simpa[Nat.add_assoc]using h)
    ·rw[if_neg hr];rw[if_neg hr]at h;exact wpAny_bind (wpAny_rule (wpAny_pure (by simpa[Nat.add_assoc]using h)))
theorem bi3:∀(n:Nat)(d:PyData),d.depth≤n→lit d=true→∀{A:Around}{E:Value→Shared→Prop}{s:Shared}{v:Value}{as:List Addr}{Q:Bool→Shared→Prop},Reads s.heap v d as→Q true s→wpAny (model prog w) A (eqIsQuiet n v) Q E s:=by
 intro n
 induction n with
 |zero=>
  intro d hd hl A E s v as Q r h;cases r with
  |int i t=>rw[eqIsQuiet_byValue _ rfl];exact wpAny_pure h
  |str x t=>rw[eqIsQuiet_byValue _ rfl];exact wpAny_pure h
  |tuple=>rw[depth_tup]at hd;omega
  |none=>cases hl
  |bool=>cases hl
  |list=>cases hl
  |dict=>cases hl
 |succ n ih=>
  intro d hd hl A E s v as Q r h;cases r with
  |int i t=>rw[eqIsQuiet_byValue _ rfl];exact wpAny_pure h
  |str x t=>rw[eqIsQuiet_byValue _ rfl];exact wpAny_pure h
  |none=>cases hl
  |bool=>cases hl
  |list=>cases hl
  |dict=>cases hl
  |@tuple a o items m xs as ho hc hda hi=>
   rw[depth_tup]at hd;have hl':j6 xs=true:=hl;have hT:s.TypeIs (.ref a) "tuple":=⟨o,ho,hc⟩;unfold eqIsQuiet;refine wpAny_bind (wpAny_specialOf hT F.slot_tuple_eq.lookup ?_);show wpAny _ _ (isInstance (.ref a) (.type "tuple")>>=_) _ _ s;refine wpAny_bind (wpAny_isInstance hT isSubtype_tuple_tuple ?_);simp only[Bool.not_true,Bool.false_eq_true,if_false];refine wpAny_bind (wpAny_seqItems ho hda ?_);refine wpAny_bind ?_;show wpAny _ _ (forIn items _ _) _ _ s;rw[←Array.forIn_toList];refine wpAny_forIn_list _ (fun d9 r s'=>r.1=none∧s'=s∧∃left bs,(∀k∈left,lit k=true∧k.depth≤n)∧ReadsAll s.heap d9 left bs) _ ?_ ?_ _ _ ⟨rfl,rfl,xs,_,fun k hk=>⟨aj1 hl' k hk,by have:=ai1 hk;omega⟩,hi⟩
   ·rintro v d9 r s' ⟨hr,rfl,left,bs,hall,hl2⟩;cases hl2 with
    |@cons _ _ k ks' _ _ h1 hl3=>
     obtain⟨k1,k2⟩:=hall k (by simp);refine wpAny_bind (ih k k2 k1 h1 ?_);simp only[Bool.not_true,Bool.false_eq_true,if_false];exact wpAny_pure ⟨rfl,rfl,ks',_,fun u hu'=>hall u (by simp[hu']),hl3⟩
   ·rintro⟨r1,r2⟩ s' ⟨hr,rfl,_⟩;simp only at hr;subst hr;exact wpAny_pure h
noncomputable def isK(h:Heap)(k:PyData)(a:Addr):Prop:=lit k=true∧k.depth≤7∧∃as,Reads h (.ref a) k as
noncomputable def dataKind(prog:Program)(w:World):HeapKind prog w PyData where
 is:=isK
 hash:=hK w
 draws:=dw
 room:=fun A=>A.units+8<cLine
 inj:=fun⟨l1,_,_,r1⟩⟨l2,_,_,r2⟩=>az0 _ _ l1 l2 r1 r2
 keeps:=fun⟨l1,d1,_,r1⟩ho hd hs=>⟨l1,d1,av3 ho hd hs _ l1 r1⟩
 pyHash:=fun hu⟨l1,d1,_,r1⟩h=>bp2 7 _ d1 l1 (by omega) r1 h
 eqBool:=fun{A E s x y a b Q}hu⟨l1,d1,_,r1⟩⟨l2,d2,_,r2⟩h=>by
  have e:PyData.eqv x y=decide (x=y):=by
   by_cases z:x=y
   ·rw[decide_eq_true z];exact(aj5 x y l1 l2).mpr z
   ·rw[decide_eq_false z];cases q:PyData.eqv x y with
    |false=>rfl
    |true=>exact absurd ((aj5 x y l1 l2).mp q) z
  have:=SeqAt.eqAt_reads x y A s _ _ _ _ r1 r2 (ak0 x l1) (ak0 y l2) (by have:min x.depth y.depth≤x.depth:=Nat.min_le_left _ _;omega);rw[e]at this;exact this prog w E Q h
 quiet:=fun⟨l1,d1,_,r1⟩h=>bi3 8 _ (by omega) l1 r1 h
theorem dataKind_room_in1{prog:Program}{w:World}{A:Around}(h:A.units+20<cLine):(dataKind prog w).room A.in1:=by
 show A.units+1+8<cLine;omega
end NK
end PySem
set_option maxRecDepth 100000
namespace L2
open PySem PySem.Spec PyProof.Rows
noncomputable abbrev Key:=Sum Int Str
noncomputable def F7:Key→Value→Bool
 |.inl k,v=>Value.isInt k v
 |.inr x,v=>Value.isStrOf x v
noncomputable def b71(w:World):Key→Int
 |.inl k=>hashInt k
 |.inr x=>hashStr w x
theorem z5:∀{k:Key}{v:Value},F7 k v=true→(∃i t,k=Sum.inl i∧v=Value.int i t)∨(∃x t,k=Sum.inr x∧v=Value.str x t)
 |.inl i,v,h=>by
  obtain⟨t,e⟩:=Value.isInt_shape (k:=i) (v:=v) h;exact .inl ⟨i,t,rfl,e⟩
 |.inr x,v,h=>by
  obtain⟨t,e⟩:=Value.isStrOf_shape (x:=x) (v:=v) h;exact .inr ⟨x,t,rfl,e⟩
theorem bc2(i:Int)(t:Tok):F7 (.inl i) (.int i t)=true:=by simp[F7,Value.isInt]
theorem ba7(x:Str)(t:Tok):F7 (.inr x) (.str x t)=true:=by simp[F7,Value.isStrOf]
theorem bq9(a b:Int):decide ((Sum.inl a:Key)=Sum.inl b)=(a==b):=by
 by_cases e:a=b
 ·subst e;simp
 ·have h:¬(Sum.inl a:Key)=Sum.inl b:=fun q=>e (Sum.inl.inj q);rw[decide_eq_false h];exact(beq_eq_false_iff_ne.mpr e).symm
theorem bu3(a b:Str):decide ((Sum.inr a:Key)=Sum.inr b)=decide (a=b):=by
 by_cases e:a=b
 ·subst e;simp
 ·have h:¬(Sum.inr a:Key)=Sum.inr b:=fun q=>e (Sum.inr.inj q);rw[decide_eq_false h,decide_eq_false e]
theorem bu7(a:Int)(b:Str):decide ((Sum.inl a:Key)=Sum.inr b)=false:=decide_eq_false (fun q=>nomatch q)
theorem bq0(a:Str)(b:Int):decide ((Sum.inr a:Key)=Sum.inl b)=false:=decide_eq_false (fun q=>nomatch q)
noncomputable def z9(prog:Program)(w:World):PySem.KeyKind prog w Key where
 is:=F7
 hash:=b71 w
 inj:=fun v a b ha hb=>by
  rcases z5 ha with⟨i,t,rfl,rfl⟩|⟨x,t,rfl,rfl⟩
  ·rcases z5 hb with⟨j,u,rfl,e⟩|⟨y,u,rfl,e⟩
   ·injection e with e1 _;rw[e1]
   ·exact nomatch e
  ·rcases z5 hb with⟨j,u,rfl,e⟩|⟨y,u,rfl,e⟩
   ·exact nomatch e
   ·injection e with e1 _;rw[e1]
 byValue:=fun k v h=>by
  rcases z5 h with⟨i,t,rfl,rfl⟩|⟨x,t,rfl,rfl⟩<;>rfl
 pyHash:=fun hv h=>by
  rcases z5 hv with⟨i,t,rfl,rfl⟩|⟨x,t,rfl,rfl⟩
  ·exact wpAny_pyHash_int h
  ·exact wpAny_pyHash_str h
 eqBool:=fun hu hv h=>by
  rcases z5 hu with⟨i,t,rfl,rfl⟩|⟨x,t,rfl,rfl⟩
  ·rcases z5 hv with⟨j,u,rfl,rfl⟩|⟨y,u,rfl,rfl⟩
   ·rw[bq9]at h;exact wpAny_eqBool_int h
   ·rw[bu7]at h;exact SeqAt.EqAt.int_str i t y u _ _ _ _ h
  ·rcases z5 hv with⟨j,u,rfl,rfl⟩|⟨y,u,rfl,rfl⟩
   ·rw[bq0]at h;exact SeqAt.EqAt.str_int x t j u _ _ _ _ h
   ·rw[bu3]at h;exact wpAny_eqBool_str h
 «strs»:=fun k x t v h=>by
  rcases z5 h with⟨i,u,rfl,e⟩|⟨y,u,rfl,e⟩
  ·exact nomatch e
  ·injection e with e1 _
   subst e1;cases v<;>rfl
theorem a81(prog:Program)(w:World)(i:Int)(t:Tok):(z9 prog w).is (.inl i) (.int i t)=true:=bc2 i t
theorem a83(prog:Program)(w:World)(x:Str)(t:Tok):(z9 prog w).is (.inr x) (.str x t)=true:=ba7 x t
end L2
namespace L2
open PySem PySem.Spec PyProof.Rows
inductive V where
 |non|bl (b:Bool)|int (i:Int)|str (x:Str)|byt (b:Array UInt8)|flt (b:UInt64)|ref (a:Addr)|ty (n:String)
 deriving DecidableEq
noncomputable def d7:V→Value→Prop
 |.non,u=>u=Value.none
 |.bl b,u=>u=Value.bool b
 |.int i,u=>∃t,u=Value.int i t
 |.str x,u=>∃t,u=Value.str x t
 |.byt b,u=>∃t,u=Value.bytes b t
 |.flt b,u=>∃t,u=Value.float b t
 |.ref a,u=>u=Value.ref a
 |.ty n,u=>u=Value.type n
noncomputable abbrev d4:List V→List Value→Prop:=Paired d7
theorem d4.length{xs:List V}{us:List Value}(r:d4 xs us):xs.length=us.length:=Paired.length r
theorem d4.get:∀{xs:List V}{us:List Value}{i:Nat}{x:V},d4 xs us→xs[i]?=some x→∃u,us[i]?=some u∧d7 x u
 |_,_,_,_,.nil,e=>by simp at e
 |_,_,0,_,.cons r _,e=>by simp at e;subst e;exact⟨_,rfl,r⟩
 |_,_,i+1,x,.cons _ t,e=>by
  obtain⟨u,h1,h2⟩:=d4.get (i:=i) (x:=x) t (by simpa using e);exact⟨u,by simpa using h1,h2⟩
theorem d4.set{x:V}{u:Value}(r:d7 x u):∀{xs:List V}{us:List Value}(i:Nat),d4 xs us→d4 (xs.set i x) (us.set i u)
 |_,_,_,.nil=>.nil
 |_,_,0,.cons _ t=>.cons r t
 |_,_,i+1,.cons q t=>.cons q (d4.set r i t)
theorem d4.append:∀{xs ys:List V}{us ws:List Value},d4 xs us→d4 ys ws→d4 (xs++ys) (us++ws)
 |_,_,_,_,.nil,s=>s
 |_,_,_,_,.cons r t,s=>.cons r (d4.append t s)
theorem d4.take:∀{xs:List V}{us:List Value}(n:Nat),d4 xs us→d4 (xs.take n) (us.take n)
 |_,_,0,_=>.nil
 |_,_,_+1,.nil=>.nil
 |_,_,n+1,.cons r t=>.cons r (d4.take n t)
theorem d4.drop:∀{xs:List V}{us:List Value}(n:Nat),d4 xs us→d4 (xs.drop n) (us.drop n)
 |_,_,0,r=>r
 |_,_,_+1,.nil=>.nil
 |_,_,n+1,.cons _ t=>d4.drop n t
noncomputable def y8:Option V→Option Value→Prop
 |some v,some u=>d7 v u
 |none,none=>True
 |_,_=>False
noncomputable def KV{κ:Type}:List (κ×V)→List (κ×Value)→Prop:=Paired fun(p:κ×V)(q:κ×Value)=>p.1=q.1∧d7 p.2 q.2
noncomputable def kV:Key→V
 |.inl i=>.int i
 |.inr x=>.str x
inductive HO where
 |lst (xs:List V)
 |tup (xs:List V)
 |dK (kvs:List (Key×V))|dT (kvs:List (PyData×V))
 |set (S:Int→Bool) (n:Nat)
 |ins (C dx:Addr) (fs:List (Str×V))
 |own (x:Addr)
 |xd (fs:List (Str×V))
 |met (f x:Addr)
 |rng (lo hi:Int)
 |frz (o:Obj) (u:HO)
 |tbl (ps:Array Value)
 |ext (φ:Heap→Prop)
noncomputable abbrev Hp:=Addr→Option HO
noncomputable def upd(H:Hp)(a:Addr)(o:HO):Hp:=fun b=>if b=a then some o else H b
theorem o4{H:Hp}{a:Addr}{o:HO}:upd H a o a=some o:=by unfold upd;rw[if_pos rfl]
theorem e8{H:Hp}{a b:Addr}{o:HO}(h:b≠a):upd H a o b=H b:=by unfold upd;rw[if_neg h]
theorem b30{H:Hp}{a b:Addr}{o u:HO}(h:H a=some o)(h':H b=some u)(d:o≠u):a≠b:=by
 intro e;subst e;rw[h]at h';exact d (Option.some.inj h')
theorem p0{H:Hp}{a b:Addr}{o:HO}(h:H a=some o)(h':H b=none):a≠b:=by
 intro e;subst e;rw[h]at h';cases h'
mutual
noncomputable def HRd(H:Hp):PyData→V→Prop
 |.int i,v=>v=.int i
 |.str x,v=>v=.str x
 |.tuple ds,v=>∃a vs,v=.ref a∧H a=some (.tup vs)∧C7 H ds vs
 |_,_=>False
noncomputable def C7(H:Hp):List PyData→List V→Prop
 |[],vs=>vs=[]
 |d::ds,vs=>∃v r,vs=v::r∧HRd H d v∧C7 H ds r
end
mutual
theorem HRd.keeps{H H':Hp}(ht:∀b ys,H b=some (.tup ys)→H' b=some (.tup ys)):∀(d:PyData){v:V},HRd H d v→HRd H' d v
 |.int i,v,h=>h
 |.str x,v,h=>h
 |.tuple ds,v,h=>let⟨a,vs,e,h1,h2⟩:=h;⟨a,vs,e,ht a vs h1,C7.keeps ht ds h2⟩
 |.none,_,h=>h.elim
 |.bool _,_,h=>h.elim
 |.list _,_,h=>h.elim
 |.dict _,_,h=>h.elim
theorem C7.keeps{H H':Hp}(ht:∀b ys,H b=some (.tup ys)→H' b=some (.tup ys)):∀(ds:List PyData){vs:List V},C7 H ds vs→C7 H' ds vs
 |[],vs,h=>h
 |d::ds,vs,h=>let⟨v,r,e,h1,h2⟩:=h;⟨v,r,e,HRd.keeps ht d h1,C7.keeps ht ds h2⟩
end
noncomputable def A7(H:Hp)(d:PyData)(b:Addr):Prop:=NK.lit d=true∧d.depth≤7∧HRd H d (.ref b)
theorem A7.keeps{H H':Hp}{d:PyData}{b:Addr}(h:A7 H d b)(ht:∀b ys,H b=some (.tup ys)→H' b=some (.tup ys)):A7 H' d b:=⟨h.1,h.2.1,HRd.keeps ht d h.2.2⟩
noncomputable def v0(h:Heap)(a:Addr)(items:Array Value):Prop:=∃o,h.get? a=some o∧o.cls=.type "tuple"∧o.dict=none∧∃n,o.data=.seq items n
theorem v0.tup{h:Heap}{a:Addr}{items:Array Value}(x:v0 h a items):IsTup h a items:=let⟨o,e,c,_,d⟩:=x;⟨o,e,c,d⟩
theorem v0.lt{h:Heap}{a:Addr}{items:Array Value}(x:v0 h a items):a<h.objs.size:=let⟨_,e,_⟩:=x;Heap.lt_size e
theorem v0.new(h:Heap)(items:Array Value):v0 (h.push {cls:=.type "tuple",data:=.seq items}) h.objs.size items:=⟨_,Heap.get?_push_size _ rfl,rfl,rfl,_,rfl⟩
section
variable (P:Program) (w:World)
noncomputable def j9(H:Hp)(h:Heap)(a:Addr):HO→Prop
 |.lst xs=>xs.length≤sizeLine∧∃(its:List Value)(n:Nat),d4 xs its∧h.get? a=some {cls:=.type "list",data:=.seq its.toArray n}
 |.tup xs=>xs.length≤sizeLine∧∃its:List Value,d4 xs its∧v0 h a its.toArray
 |.dK kvs=>kvs.length≤sizeLine∧(a==sysModules)=false∧∃vs,KV kvs vs∧h.DictOf (z9 P w) a vs
 |.dT kvs=>kvs.length≤sizeLine∧(a==sysModules)=false∧∃xs:List (PyData×Addr×Value),
   Paired (fun(p:PyData×V)(q:PyData×Addr×Value)=>p.1=q.1∧A7 H p.1 q.2.1∧d7 p.2 q.2.2) kvs xs ∧
   ∃o es ep,h.get? a=some o∧o.ExactDict∧o.data=.dict es ep∧es.toList=xs.map (entryOfKey (NK.dataKind P w))∧(xs.map (·.1)).Nodup
 |.set S n=>h.SetOf (intKind P w) a S n
 |.ins C dx fs=>H dx=some (.own a)∧fs.length≤1000∧dx≠a∧h.get? a=some (W.instObj C dx) ∧
   ∃mA,h.Ns1 dx mA∧(∀f,y8 (fs.lookup f) (mA f))∧PySem.Within mA (fs.map (·.1))
 |.own _=>∃o,h.get? a=some o
 |.xd fs=>∃mA,h.Ns1 a mA∧∀f,y8 (fs.lookup f) (mA f)
 |.rng lo hi=>∃t u v,h.get? a=some {cls:=.type "range",data:=.fields #[.int lo t,.int hi u,.int 1 v]}
 |.frz o u=>h.get? a=some o∧j9 H h a u
 |.tbl ps=>h.get? a=some {cls:=.none,data:=.fields ps}
 |.met f x=>h.get? a=some (W.methodObj (.ref f) (.ref x))
 |.ext φ=>φ h∧(∃o,h.get? a=some o)∧∀h1 h2:Heap,φ h1→(∀o,h1.get? a=some o→h2.get? a=some o)→φ h2
noncomputable def HOk(H:Hp)(h:Heap):Prop:=∀a o,H a=some o→j9 P w H h a o
end
section
variable {P:Program} {w:World} {H H':Hp} {h h':Heap} {a:Addr} {o:HO}
theorem j9.lt(x:j9 P w H h a o):a<h.objs.size:=by
 cases o with
 |lst xs=>obtain⟨_,_,_,_,e⟩:=x;exact Heap.lt_size e
 |tup xs=>obtain⟨_,_,_,p⟩:=x;exact p.lt
 |dK kvs=>obtain⟨_,_,_,_,o,_,_,e,_⟩:=x;exact Heap.lt_size e
 |dT kvs=>obtain⟨_,_,_,_,o,_,_,e,_⟩:=x;exact Heap.lt_size e
 |set S n=>obtain⟨o,_,_,_,e,_⟩:=x;exact Heap.lt_size e
 |ins C dx fs=>obtain⟨_,_,_,e,_⟩:=x;exact Heap.lt_size e
 |own y=>obtain⟨_,e⟩:=x;exact Heap.lt_size e
 |xd fs=>obtain⟨_,⟨_,_,_,e,_⟩,_⟩:=x;exact Heap.lt_size e
 |rng lo hi=>obtain⟨_,_,_,e⟩:=x;exact Heap.lt_size e
 |frz ob u=>obtain⟨e,_⟩:=x;exact Heap.lt_size e
 |tbl ps=>exact Heap.lt_size (show h.get? a=some _ from x)
 |met f y=>exact Heap.lt_size (show h.get? a=some _ from x)
 |ext φ=>obtain⟨_,⟨_,e⟩,_⟩:=x;exact Heap.lt_size e
theorem Paired.mapP{α β:Type}{F G:α→β→Prop}:∀{l₁:List α}{l₂:List β},Paired F l₁ l₂→(∀a b,F a b→G a b)→Paired G l₁ l₂
 |_,_,.nil,_=>.nil
 |_,_,.cons r t,f=>.cons (f _ _ r) (Paired.mapP t f)
theorem j9.stay(x:j9 P w H h a o)(k:∀b u,(b=a∨H b=some (.own a))→h.get? b=some u→h'.get? b=some u)
  (ho:∀b,H b=some (.own a)→H' b=some (.own a)) (ht:∀b xs,H b=some (.tup xs)→H' b=some (.tup xs)):j9 P w H' h' a o:=by
 induction o with
 |lst xs=>obtain⟨z,its,n,r,e⟩:=x;exact⟨z,its,n,r,k _ _ (.inl rfl) e⟩
 |tup xs=>obtain⟨z,its,r,ob,e,c⟩:=x;exact⟨z,its,r,ob,k _ _ (.inl rfl) e,c⟩
 |dK kvs=>obtain⟨z,y,vs,r,ob,es,ep,e,c⟩:=x;exact⟨z,y,vs,r,ob,es,ep,k _ _ (.inl rfl) e,c⟩
 |dT kvs=>
  obtain⟨z,y,xs,r,ob,es,ep,e,c⟩:=x;exact⟨z,y,xs,Paired.mapP r fun p q z=>⟨z.1,z.2.1.keeps ht,z.2.2⟩,ob,es,ep,k _ _ (.inl rfl) e,c⟩
 |set S n=>obtain⟨ob,es,ep,t,e,c⟩:=x;exact⟨ob,es,ep,t,k _ _ (.inl rfl) e,c⟩
 |ins C dx fs=>
  obtain⟨d,z,ne,e,mA,⟨od,es,ep,e2,c⟩,r⟩:=x;exact⟨ho _ d,z,ne,k _ _ (.inl rfl) e,mA,⟨od,es,ep,k _ _ (.inr d) e2,c⟩,r⟩
 |own y=>obtain⟨ob,e⟩:=x;exact⟨ob,k _ _ (.inl rfl) e⟩
 |xd fs=>obtain⟨mA,⟨od,es,ep,e,c⟩,r⟩:=x;exact⟨mA,⟨od,es,ep,k _ _ (.inl rfl) e,c⟩,r⟩
 |rng lo hi=>obtain⟨t,u,v,e⟩:=x;exact⟨t,u,v,k _ _ (.inl rfl) e⟩
 |frz ob u ih=>obtain⟨e,q⟩:=x;exact⟨k _ _ (.inl rfl) e,ih q⟩
 |tbl ps=>
  have e:h.get? a=some {cls:=.none,data:=.fields ps}:=x;show h'.get? a=some {cls:=.none,data:=.fields ps};exact k a _ (.inl rfl) e
 |met f y=>
  have e:h.get? a=some (W.methodObj (.ref f) (.ref y)):=x;show h'.get? a=some (W.methodObj (.ref f) (.ref y));exact k a _ (.inl rfl) e
 |ext φ=>obtain⟨p,⟨o,e⟩,st⟩:=x;exact⟨st _ _ p fun o q=>k _ _ (.inl rfl) q,⟨o,k _ _ (.inl rfl) e⟩,st⟩
theorem HOk.lt(x:HOk P w H h)(e:H a=some o):a<h.objs.size:=(x a o e).lt
theorem HOk.fresh(x:HOk P w H h)(e:h.objs.size≤a):H a=none:=by
 cases q:H a with
 |none=>rfl
 |some u=>exact absurd (Nat.lt_of_lt_of_le (x.lt q) e) (Nat.lt_irrefl _)
theorem HOk.kept(x:HOk P w H h)(k:∀b u,h.get? b=some u→h'.get? b=some u):HOk P w H h':=fun a o e=>
 (x a o e).stay (fun b u _ q=>k b u q) (fun _ q=>q) fun _ _ q=>q
theorem HOk.laid(x:HOk P w H h)(k:∀b u,h.get? b=some u→h'.get? b=some u)(hp:h.objs.size≤a)(new:j9 P w (upd H a o) h' a o):HOk P w (upd H a o) h':=fun b u e=>by
 have hn:=x.fresh hp
 by_cases hb:b=a
 ·subst hb;rw[o4]at e;cases e;exact new
 ·rw[e8 hb]at e;exact(x b u e).stay (fun c v _ q=>k c v q) (fun c q=>by rw[e8 (p0 q hn)];exact q) fun c xs q=>by rw[e8 (p0 q hn)];exact q
end
noncomputable def Rd(H:Hp)(a:Addr)(u:HO):Prop:=H a=some u∨∃o,H a=some (.frz o u)
theorem Rd.ok{P:Program}{w:World}{H:Hp}{h:Heap}{a:Addr}{u:HO}(r:Rd H a u)(x:HOk P w H h):j9 P w H h a u:=by
 rcases r with r|⟨o,r⟩
 ·exact x a u r
 ·obtain⟨_,q⟩:=x a _ r;exact q
noncomputable def Mut:Option HO→Prop
 |some (.lst _)=>True
 |some (.dK _)=>True
 |some (.dT _)=>True
 |some (.set _ _)=>True
 |some (.ins _ _ _)=>True
 |some (.ext _)=>True
 |_=>False
section
variable {P:Program} {w:World} {H:Hp} {h h':Heap} {x e:Addr} {o':HO}
theorem HOk.write(ok:HOk P w H h)(mu:Mut (H x))(he:e=x∨H e=some (.own x))(k:∀b u,b≠e→h.get? b=some u→h'.get? b=some u)(heo:∃u,h'.get? e=some u)
  (new:j9 P w (upd H x o') h' x o'):HOk P w (upd H x o') h':=fun b u q=>by
 have nown:∀c y,H c=some (.own y)→c≠x:=fun c y r z=>by subst z;rw[r]at mu;exact mu
 have ntup:∀c xs,H c=some (.tup xs)→c≠x:=fun c xs r z=>by subst z;rw[r]at mu;exact mu
 by_cases hb:b=x
 ·subst hb;rw[o4]at q;cases q;exact new
 ·rw[e8 hb]at q
  by_cases hbe:b=e
  ·have q':H b=some (.own x):=by
    rcases he with z|z
    ·exact absurd (hbe.trans z) hb
    ·rw[hbe];exact z
   rw[q]at q';cases q';obtain⟨v,hv⟩:=heo;exact⟨v,by rw[hbe];exact hv⟩
  ·refine(ok b u q).stay (fun c v hc r=>k c v ?_ r) (fun c r=>by rw[e8 (nown c b r)];exact r) fun c xs r=>by rw[e8 (ntup c xs r)];exact r
   rcases hc with rfl|hc
   ·exact hbe
   ·rintro rfl
    rcases he with z|z
    ·exact nown c b hc z
    ·rw[hc]at z;cases z;exact hb rfl
end
structure Un(fs ex:List Addr)(H H':Hp)(h h':Heap):Prop where
 keep:∀b o,h.get? b=some o→H b=none→b∉fs→b∉ex→h'.get? b=some o
 slot:∀b o,h.get? b=some o→H b=none→b∈fs→b∉ex→∃sl,h'.get? b=some {o with slots:=sl}
 free:∀b o,h.get? b=some o→H b=none→b∉ex→H' b=none
 there:∀b o,h.get? b=some o→b∉ex→∃o',h'.get? b=some o'
 tups:∀b xs,H b=some (.tup xs)→H' b=some (.tup xs)
 frzs:∀b o u,H b=some (.frz o u)→H' b=some (.frz o u)
 tbls:∀b ps,H b=some (.tbl ps)→∃more,H' b=some (.tbl (ps++more))
section
variable {fs fs' ex ex':List Addr} {H H1 H2:Hp} {h h1 h2 h':Heap} {a x e:Addr} {o:HO}
theorem Un.any(u:Un fs ex H H1 h h1){b:Addr}{ob:Obj}(q:h.get? b=some ob)(n:H b=none)(hx:b∉ex):∃sl,h1.get? b=some {ob with slots:=sl}:=by
 by_cases hb:b∈fs
 ·exact u.slot b ob q n hb hx
 ·exact⟨ob.slots,u.keep b ob q n hb hx⟩
theorem Un.kept(k:∀b u,h.get? b=some u→h'.get? b=some u):Un fs ex H H h h':=
 ⟨fun b ob q _ _ _=>k b ob q,fun b ob q _ _ _=>⟨ob.slots,k b ob q⟩,fun _ _ _ n _=>n,fun b ob q _=>⟨ob,k b ob q⟩,fun _ _ q=>q,fun _ _ _ q=>q,fun _ ps q=>⟨#[],by rw[q];simp⟩⟩
theorem Un.refl:Un fs ex H H h h:=Un.kept fun _ _ q=>q
theorem Un.laid(k:∀b u,h.get? b=some u→h'.get? b=some u)(hp:h.objs.size≤a)(hn:H a=none):Un fs ex H (upd H a o) h h' where
 keep:=fun b u q _ _ _=>k b u q
 slot:=fun b u q _ _ _=>⟨u.slots,k b u q⟩
 free:=fun b u q n _=>by rw[e8 (Nat.ne_of_lt (Nat.lt_of_lt_of_le (Heap.lt_size q) hp))];exact n
 there:=fun b u q _=>⟨u,k b u q⟩
 tups:=fun b xs q=>by rw[e8 (p0 q hn)];exact q
 frzs:=fun b u xs q=>by rw[e8 (p0 q hn)];exact q
 tbls:=fun b ps q=>⟨#[],by rw[e8 (p0 q hn),q];simp⟩
theorem Un.write(mu:Mut (H x))(he:e=x∨H e=some (.own x))(k:∀b u,b≠e→h.get? b=some u→h'.get? b=some u)(heo:∃u,h'.get? e=some u):Un fs ex H (upd H x o) h h':=by
 have hx:∀b,H b=none→b≠x:=fun b n z=>by subst z;rw[n]at mu;exact mu
 have hb:∀b,H b=none→b≠e:=fun b n z=>by
  subst z
  rcases he with r|r
  ·exact hx b n r
  ·rw[n]at r;cases r
 have hm:∀b u,H b=some u→¬Mut (some u)→b≠x:=fun b u q nm z=>by subst z;rw[q]at mu;exact nm mu
 refine⟨fun b u q n _ _=>k b u (hb b n) q,fun b u q n _ _=>⟨u.slots,k b u (hb b n) q⟩,fun b u q n _=>by rw[e8 (hx b n)];exact n,fun b u q _=>?_,
  fun b xs q=>by rw[e8 (hm b _ q fun z=>z)];exact q,fun b u xs q=>by rw[e8 (hm b _ q fun z=>z)];exact q,fun b ps q=>⟨#[],by rw[e8 (hm b _ q fun z=>z),q];simp⟩⟩
 by_cases hbe:b=e
 ·subst hbe;exact heo
 ·exact⟨u,k b u hbe q⟩
end
noncomputable def trk(h:Heap)(H:Hp):List Addr:=(List.range h.objs.size).filter fun a=>(H a).isSome
noncomputable def z0(h:Heap)(H:Hp):Heap:=W.hideAll h (trk h H)
theorem bb3(h:Heap)(H:Hp):(z0 h H).objs.size=h.objs.size:=W.hideAll_size _ _
theorem bg8{h:Heap}{H:Hp}{b:Addr}{o:Obj}(e:h.get? b=some o)(n:H b=none):(z0 h H).get? b=some o:=
 W.hideAll_get _ e fun hm=>by
  have q:(H b).isSome=true:=(List.mem_filter.mp hm).2;rw[n]at q;simp at q
theorem bj7{h:Heap}{H:Hp}{b:Addr}{o:Obj}(e:(z0 h H).get? b=some o):h.get? b=some o∧H b=none:=by
 have e':h.get? b=some o:=W.of_hideAll (trk h H) e;refine⟨e',?_⟩;cases q:H b with
 |none=>rfl
 |some x=>
  have hm:b∈trk h H:=List.mem_filter.mpr ⟨List.mem_range.mpr (Heap.lt_size e'),by simp[q]⟩;have z:(z0 h H).get? b=none:=W.hideAll_none (trk h H) hm;rw[z]at e;cases e
noncomputable def bj2(g h:Heap)(L:Addr):List (Addr×Obj):=(List.range h.objs.size).filterMap fun a=>if a=L∨(g.get? a).isSome=true then none else(h.get? a).map fun o=>(a,o)
noncomputable def d9(g h:Heap)(L d:Addr):List (Addr×Obj):=(bj2 g h L).filter fun p=>decide (p.1≠d)
end L2
namespace L2
open PySem PySem.Spec PyProof.Rows
structure Mod(K:W.Frag)(mg:Str→Option Value)(base:Heap):Prop where
 kin:K.In base
 glob:base.Ns mainGlobals mg
 blt:∃mb,base.Ns builtinsNs mb∧∀x:Str,x≠"__name__"→mb x=bootBuiltins x
 nolimit:base.NoLimit
structure Cx where
 prog:Program
 w:World
 K:W.Frag
 mg:Str→Option Value
 base:Heap
 A:Around
 N:List Str
 s₀:Shared
 H₀:Hp
 env:Env
 outer:List Env
 stack:List Env
 ex:List Addr
 fn:Str→Bool
 calm:Bool
 pn:List (Addr×Obj)
 xe:Value→Shared→Prop
 ow:Str→Bool:=fun _=>false
noncomputable def frs(l:List Env):List Addr:=l.filterMap (·.frame)
noncomputable abbrev Cx.fs(X:Cx):List Addr:=frs X.outer
noncomputable def Vis(sc:Scope)(x:Str):Prop:=sc.names.lookup x=some .local∨sc.names.lookup x=some .cell∨sc.names.lookup x=some .free
noncomputable def Loc(sc:Scope)(x:Str):Prop:=sc.names.lookup x=some .local∨sc.names.lookup x=some .cell
noncomputable def b84(env:Env)(h:Heap)(m:Str→Option Value)(x:Str)(u:Value):Prop:=
 (env.kindOf x=some .local∧m x=some u)∨((env.kindOf x=some .cell∨env.kindOf x=some .free)∧∃c,env.cells.lookup x=some c∧h.IsCell c (some u))
structure Cx.Ok(X:Cx):Prop where
 mod:Mod X.K X.mg X.base
 kind:X.env.scope.kind=.function
 glob:X.env.globals=mainGlobals
 blt:X.env.builtins=builtinsNs
 above:X.s₀.heap.objs.size≤X.env.locals
 inj:∀x y c,X.env.cells.lookup x=some c→X.env.cells.lookup y=some c→x=y
 has:∀x,(X.env.kindOf x=some .cell∨X.env.kindOf x=some .free)→∃c,X.env.cells.lookup x=some c
 cab:∀x c,X.fn x=true∨X.ow x=true→X.env.cells.lookup x=some c→X.s₀.heap.objs.size≤c
 hd:X.calm=true→X.A.handled=none
 frames:X.A.frames=some X.stack
 stk:X.stack=X.outer∨(X.stack=X.env::X.outer∧X.env.frame=some X.env.locals)
 exf:∀b∈X.ex,b≠X.env.locals∧∀x c,X.env.cells.lookup x=some c→c≠b
 bs:∀b o,X.base.get? b=some o→X.s₀.heap.get? b=some o∧X.H₀ b=none
 bsz:X.base.objs.size≤X.s₀.heap.objs.size
 noex:∀b o,X.base.get? b=some o→b∉X.ex
 exfs:∀b∈X.ex,b∉X.fs
 funs:X.s₀.heap.FunFrames X.base X.outer
 frf:∀b∈X.fs,X.H₀ b=none
structure Inv(X:Cx)(pins:List (Addr×Obj))(σ:List (Option V))(H:Hp)(s:Shared):Prop where
 ok:X.Ok
 os:s.os=X.s₀.os
 bare:AllBare s.gens
 base:Un X.fs X.ex X.H₀ H X.s₀.heap s.heap
 loc:∃m,s.heap.Ns X.env.locals m∧∀(i:Nat)(x:Str)(v:V),X.N[i]?=some x→σ[i]?=some (some v)→Vis X.env.scope x→∃u,d7 v u∧b84 X.env s.heap m x u
 cell:∀x c,X.env.cells.lookup x=some c→∃v,s.heap.IsCell c v
 free:H X.env.locals=none
 freeC:∀x c,X.env.cells.lookup x=some c→H c=none∨(X.fn x=false∧∃o u,H c=some (.frz o u))
 pin:∀p∈X.pn++pins,s.heap.get? p.1=some p.2∧H p.1=none∧p.1≠X.env.locals∧p.1∉X.fs∧∀v,p.2.data≠.cell v
 hok:HOk X.prog X.w H s.heap
 len:σ.length=X.N.length
section
variable {X:Cx} {pins:List (Addr×Obj)} {σ:List (Option V)} {H H':Hp} {s:Shared} {h':Heap}
theorem Cx.Ok.nofr(ok:X.Ok){b:Addr}{o:Obj}(e:X.base.get? b=some o):b∉X.fs:=fun hb=>by
 have:=(ok.funs.mem hb).1;rw[e]at this;cases this
theorem Inv.bs(I:Inv X pins σ H s):∀b o,X.base.get? b=some o→s.heap.get? b=some o∧H b=none:=fun b o e=>
 ⟨I.base.keep b o (I.ok.bs b o e).1 (I.ok.bs b o e).2 (I.ok.nofr e) (I.ok.noex b o e),I.base.free b o (I.ok.bs b o e).1 (I.ok.bs b o e).2 (I.ok.noex b o e)⟩
theorem Inv.bk(I:Inv X pins σ H s):∀b o,X.base.get? b=some o→s.heap.get? b=some o:=fun b o e=>(I.bs b o e).1
theorem Inv.mod(I:Inv X pins σ H s):Mod X.K X.mg X.base:=I.ok.mod
theorem Inv.kIn(I:Inv X pins σ H s):X.K.In s.heap:=I.ok.mod.kin.keeps I.bk
theorem Inv.lt(I:Inv X pins σ H s):X.env.locals<s.heap.objs.size:=let⟨_,hn,_⟩:=I.loc;hn.lt
theorem Inv.sz(I:Inv X pins σ H s):X.s₀.heap.objs.size≤s.heap.objs.size:=Nat.le_trans I.ok.above (Nat.le_of_lt I.lt)
theorem Inv.nofs(I:Inv X pins σ H s){a:Addr}(h:s.heap.objs.size≤a):a∉X.fs:=fun hb=>by
 obtain⟨_,o,ho,_⟩:=I.ok.funs.mem hb;exact absurd (Nat.lt_of_lt_of_le (Heap.lt_size ho) (Nat.le_trans I.sz h)) (Nat.lt_irrefl _)
theorem Inv.cne(I:Inv X pins σ H s):∀x c,X.env.cells.lookup x=some c→c≠X.env.locals:=fun x c e z=>by
 obtain⟨v,o,ho,hd⟩:=I.cell x c e;obtain⟨m,⟨o',es,ep,ho',hd',_⟩,_⟩:=I.loc;rw[z,ho']at ho;cases ho;rw[hd']at hd;cases hd
theorem Inv.funs(I:Inv X pins σ H s):s.heap.FunFrames X.base X.outer:=by
 have all:∀(l:List Env),(∀b∈frs l,b∈X.fs)→X.s₀.heap.FunFrames X.base l→s.heap.FunFrames X.base l:=by
  intro l
  induction l with
  |nil=>intro _ _;trivial
  |cons env r ih=>
   intro hs hl;obtain⟨hk,⟨L,o,hf,hn,ho,hd⟩,hr⟩:=hl;have hL:L∈X.fs:=hs L (by unfold frs;rw[List.filterMap_cons,hf];exact List.mem_cons_self);obtain⟨sl,e⟩:=I.base.slot L o ho (I.ok.frf L hL) hL fun z=>I.ok.exfs L z hL;exact⟨hk,⟨L,_,hf,hn,e,hd⟩,ih (fun b hb=>hs b (by unfold frs;rw[List.filterMap_cons,hf];exact List.mem_cons_of_mem _ hb)) hr⟩
 exact all X.outer (fun _ hb=>hb) I.ok.funs
theorem Inv.stack(I:Inv X pins σ H s):s.heap.FunFrames X.base X.stack:=by
 rcases I.ok.stk with e|⟨e,hf⟩
 ·rw[e];exact I.funs
 ·rw[e];obtain⟨m,hn,_⟩:=I.loc;refine .cons (by rw[I.ok.kind];decide) hf hn ?_ I.funs;exact Heap.get?_none_of_le (Nat.le_trans I.ok.bsz I.ok.above)
theorem Inv.stkSub(I:Inv X pins σ H s):∀b∈frs X.stack,b∈X.env.locals::X.fs:=fun b hb=>by
 rcases I.ok.stk with e|⟨e,hf⟩
 ·rw[e]at hb;exact List.mem_cons_of_mem _ hb
 ·rw[e]at hb;unfold frs at hb;rw[List.filterMap_cons,hf]at hb;exact hb
theorem Inv.stkFree(I:Inv X pins σ H s):∀b∈frs X.stack,H b=none:=fun b hb=>by
 rcases List.mem_cons.mp (I.stkSub b hb)with e|hb
 ·rw[e];exact I.free
 ·obtain⟨_,o,ho,_⟩:=I.ok.funs.mem hb;exact I.base.free b o ho (I.ok.frf b hb) fun z=>I.ok.exfs b z hb
theorem Inv.step{g':Array GenState}{t':Nat}{d':Drawn}{ch:List Addr}(I:Inv X pins σ H s)
  (hch:∀b∈ch,(b∈X.ex∨X.s₀.heap.objs.size≤b)∧b≠X.env.locals∧(∀x c,X.env.cells.lookup x=some c→c≠b)∧∀p∈X.pn++pins,p.1≠b)
  (keep:∀b o,b≠X.env.locals→b∉X.fs→b∉ch→s.heap.get? b=some o→H b=none→h'.get? b=some o)
  (slot:∀b o,b≠X.env.locals→b∈X.fs→b∉ch→s.heap.get? b=some o→H b=none→∃sl,h'.get? b=some {o with slots:=sl}) (free:∀b o,b∉ch→s.heap.get? b=some o→H b=none→H' b=none)
  (there:∀b o,b∉ch→s.heap.get? b=some o→∃o',h'.get? b=some o')
  (tups:∀b xs,H b=some (.tup xs)→H' b=some (.tup xs)) (frzs:∀b o u,H b=some (.frz o u)→H' b=some (.frz o u)) (tbls:∀b ps,H b=some (.tbl ps)→∃more,H' b=some (.tbl (ps++more)))
  (ns:∀m,s.heap.Ns X.env.locals m→h'.Ns X.env.locals m) (hok:HOk X.prog X.w H' h') (hg:AllBare g') :
  Inv X pins σ H' {s with heap:=h',gens:=g',drawn:=d',toks:=t'}:=by
 have neL:∀b o,X.s₀.heap.get? b=some o→b≠X.env.locals:=fun b o e=>Nat.ne_of_lt (Nat.lt_of_lt_of_le (Heap.lt_size e) I.ok.above);have neC:∀b o,X.s₀.heap.get? b=some o→b∉X.ex→b∉ch:=fun b o e hx hb=>by
  rcases(hch b hb).1 with z|z
  ·exact hx z
  ·exact absurd (Nat.lt_of_lt_of_le (Heap.lt_size e) z) (Nat.lt_irrefl _)
 have cellK:∀x c,X.env.cells.lookup x=some c→∀v,s.heap.IsCell c v→h'.IsCell c v:=fun x c e v⟨o,ho,hd⟩=>by
  have nch:c∉ch:=fun z=>(hch c z).2.2.1 x c e rfl
  rcases I.freeC x c e with hfr|⟨_,oz,uz,hz⟩
  ·by_cases hc:c∈X.fs
   ·obtain⟨sl,q⟩:=slot c o (I.cne x c e) hc nch ho hfr;exact⟨_,q,hd⟩
   ·exact⟨o,keep c o (I.cne x c e) hc nch ho hfr,hd⟩
  ·obtain⟨h1,_⟩:=I.hok c _ hz;obtain⟨h2,_⟩:=hok c _ (frzs c oz uz hz);rw[h1]at ho;cases ho;exact⟨_,h2,hd⟩
 refine⟨I.ok,I.os,hg,⟨fun b o e n hb hx=>?_,fun b o e n hb hx=>?_,fun b o e n hx=>?_,fun b o e hx=>?_,fun b xs e=>tups b xs (I.base.tups b xs e),fun b o xs e=>frzs b o xs (I.base.frzs b o xs e),fun b ps e=>?_⟩,?_,fun x c e=>?_,?_,fun x c e=>?_,fun p hp=>?_,hok,I.len⟩
 ·exact keep b o (neL b o e) hb (neC b o e hx) (I.base.keep b o e n hb hx) (I.base.free b o e n hx)
 ·obtain⟨sl,e1⟩:=I.base.slot b o e n hb hx;obtain⟨sl',e2⟩:=slot b _ (neL b o e) hb (neC b o e hx) e1 (I.base.free b o e n hx);exact⟨sl',e2⟩
 ·obtain⟨o',e1⟩:=I.base.there b o e hx;exact free b o' (neC b o e hx) e1 (I.base.free b o e n hx)
 ·obtain⟨o',e1⟩:=I.base.there b o e hx;exact there b o' (neC b o e hx) e1
 ·obtain⟨m1,e1⟩:=I.base.tbls b ps e;obtain⟨m2,e2⟩:=tbls b _ e1;exact⟨m1++m2,by rw[e2,Array.append_assoc]⟩
 ·obtain⟨m,hn,hl⟩:=I.loc;refine⟨m,ns m hn,fun i x v e1 e2 e3=>?_⟩;obtain⟨u,r,l⟩:=hl i x v e1 e2 e3;refine⟨u,r,?_⟩
  rcases l with l|⟨k,c,e,z⟩
  ·exact .inl l
  ·exact .inr ⟨k,c,e,cellK x c e _ z⟩
 ·obtain⟨v,z⟩:=I.cell x c e;exact⟨v,cellK x c e v z⟩
 ·obtain⟨m,⟨o,_,_,ho,_⟩,_⟩:=I.loc;exact free _ o (fun z=>(hch _ z).2.1 rfl) ho I.free
 ·obtain⟨v,o,ho,hd⟩:=I.cell x c e
  rcases I.freeC x c e with hfr|⟨hfn,oz,uz,hz⟩
  ·exact .inl (free c o (fun z=>(hch c z).2.2.1 x c e rfl) ho hfr)
  ·exact .inr ⟨hfn,oz,uz,frzs c oz uz hz⟩
 ·obtain⟨e,n,ne,nf,d⟩:=I.pin p hp;have nch:p.1∉ch:=fun z=>(hch p.1 z).2.2.2 p hp rfl;exact⟨keep p.1 p.2 ne nf nch e n,free p.1 p.2 nch e n,ne,nf,d⟩
theorem Inv.un{t':Nat}(I:Inv X pins σ H s)(u:Un X.fs [] H H' s.heap h')(hok:HOk X.prog X.w H' h'):Inv X pins σ H' {s with heap:=h',toks:=t'}:=by
 obtain⟨m,⟨o,es,ep,ho,r⟩,_⟩:=id I.loc;obtain⟨sl,hL⟩:=u.any ho I.free (by simp);exact I.step (g':=s.gens) (d':=s.drawn) (ch:=[]) (fun _ z=>nomatch z) (fun b o _ hb _ e n=>u.keep b o e n hb (by simp)) (fun b o _ hb _ e n=>u.slot b o e n hb (by simp)) (fun b o _ e n=>u.free b o e n (by simp)) (fun b o _ e=>u.there b o e (by simp)) u.tups u.frzs u.tbls (fun m' hm=>by
  obtain⟨o',es',ep',ho',r'⟩:=hm;rw[ho]at ho';cases ho';exact⟨_,es',ep',hL,r'⟩) hok I.bare
theorem Inv.call{g':Array GenState}{t':Nat}{d':Drawn}{ch:List Addr}(I:Inv X pins σ H s)(u:Un (frs X.stack) ch H H' s.heap h')(hok:HOk X.prog X.w H' h')(hg:AllBare g')
  (hch:∀b∈ch,(b∈X.ex∨X.s₀.heap.objs.size≤b)∧b≠X.env.locals∧(∀x c,X.env.cells.lookup x=some c→c≠b)∧∀p∈X.pn++pins,p.1≠b) :
  Inv X pins σ H' {s with heap:=h',gens:=g',drawn:=d',toks:=t'}:=by
 obtain⟨m,⟨o,es,ep,ho,r⟩,_⟩:=id I.loc;obtain⟨sl,hL⟩:=u.any ho I.free fun z=>(hch _ z).2.1 rfl;exact I.step (ch:=ch) hch (fun b o hL hb hc e n=>u.keep b o e n (fun z=>(List.mem_cons.mp (I.stkSub b z)).elim hL hb) hc) (fun b o _ _ hc e n=>u.any e n hc) (fun b o hc e n=>u.free b o e n hc) (fun b o hc e=>u.there b o e hc) u.tups u.frzs u.tbls (fun m' hm=>by
  obtain⟨o',es',ep',ho',r'⟩:=hm;rw[ho]at ho';cases ho';exact⟨_,es',ep',hL,r'⟩) hok hg
theorem Inv.turned{t':Nat}{it:Addr}(I:Inv X pins σ H s)(k:∀b o,b≠it→s.heap.get? b=some o→h'.get? b=some o)(hn:H it=none)(hL:it≠X.env.locals)
  (h1:it∈X.ex∨X.s₀.heap.objs.size≤it) (h2:∀x c,X.env.cells.lookup x=some c→c≠it) (h3:∀p∈X.pn++pins,p.1≠it):Inv X pins σ H {s with heap:=h',toks:=t'}:=by
 have nit:∀b u,H b=some u→b≠it:=fun b u e z=>by rw[z,hn]at e;cases e
 refine I.step (g':=s.gens) (d':=s.drawn) (ch:=[it]) (fun b hb=>?_) (fun b o _ _ hc e _=>k b o (fun z=>hc (by simp[z])) e) (fun b o _ _ hc e _=>⟨o.slots,k b o (fun z=>hc (by simp[z])) e⟩) (fun _ _ _ _ n=>n)
  (fun b o hc e=>⟨o,k b o (fun z=>hc (by simp[z])) e⟩) (fun _ _ e=>e) (fun _ _ _ e=>e) (fun b ps e=>⟨#[],by rw[e];simp⟩) (fun m hm=>?_) (fun b u e=>?_) I.bare
 ·have e:b=it:=by simpa using hb
  subst e;exact⟨h1,hL,h2,h3⟩
 ·obtain⟨o,es,ep,ho,r⟩:=hm;exact⟨o,es,ep,k _ o (Ne.symm hL) ho,r⟩
 ·refine(I.hok b u e).stay (fun c v hc q=>k c v ?_ q) (fun _ q=>q) fun _ _ q=>q
  rcases hc with z|z
  ·rw[z];exact nit b u e
  ·exact nit c _ z
theorem Inv.tok(I:Inv X pins σ H s)(t:Nat):Inv X pins σ H {s with toks:=t}:=I.un (h':=s.heap) (t':=t) Un.refl I.hok
theorem Inv.kept{t':Nat}(I:Inv X pins σ H s)(k:∀b u,s.heap.get? b=some u→h'.get? b=some u):Inv X pins σ H {s with heap:=h',toks:=t'}:=I.un (Un.kept k) (I.hok.kept k)
theorem Inv.laid{a:Addr}{o:HO}{t':Nat}(I:Inv X pins σ H s)(k:∀b u,s.heap.get? b=some u→h'.get? b=some u)(hp:s.heap.objs.size≤a)(new:j9 X.prog X.w (upd H a o) h' a o):
  Inv X pins σ (upd H a o) {s with heap:=h',toks:=t'}:=I.un (Un.laid k hp (I.hok.fresh hp)) (I.hok.laid k hp new)
theorem Inv.write{x e:Addr}{o:HO}{t':Nat}(I:Inv X pins σ H s)(mu:Mut (H x))(he:e=x∨H e=some (.own x))(k:∀b u,b≠e→s.heap.get? b=some u→h'.get? b=some u)(heo:∃u,h'.get? e=some u)
  (new:j9 X.prog X.w (upd H x o) h' x o):Inv X pins σ (upd H x o) {s with heap:=h',toks:=t'}:=I.un (Un.write mu he k heo) (I.hok.write mu he k heo new)
theorem Inv.pins_of{pins':List (Addr×Obj)}(I:Inv X pins σ H s)(h:∀p∈pins',s.heap.get? p.1=some p.2∧H p.1=none∧p.1≠X.env.locals∧p.1∉X.fs∧∀v,p.2.data≠.cell v):Inv X pins' σ H s:=
 ⟨I.ok,I.os,I.bare,I.base,I.loc,I.cell,I.free,I.freeC,fun p hp=>(List.mem_append.mp hp).elim (fun z=>I.pin p (List.mem_append_left _ z)) (h p),I.hok,I.len⟩
theorem au7{N:List Str}(hN:N.Nodup){i j:Nat}{x:Str}(a:N[i]?=some x)(b:N[j]?=some x):i=j:=by
 obtain⟨h1,e1⟩:=List.getElem?_eq_some_iff.mp a;obtain⟨h2,e2⟩:=List.getElem?_eq_some_iff.mp b;exact(List.getElem_inj hN).mp (e1.trans e2.symm)
theorem bc9{M:Model}{A:Around}{E:Value→Shared→Prop}{i:Nat}{x:Str}{v:V}{u:Value}{Q:Unit→Shared→Prop}(I:Inv X pins σ H s)(hN:X.N.Nodup)(hi:X.N[i]?=some x)(hx:Loc X.env.scope x)(r:d7 v u)
  (h:∀s',Inv X pins (σ.set i (some v)) H s'→(∃a,Heap.SameBut a s.heap s'.heap∧(a=X.env.locals∨X.env.cells.lookup x=some a))→Q () s') (hf:X.fn x=true∨X.env.scope.names.lookup x=some .local:=by first|exact .inl rfl|exact .inr rfl|assumption):wpAny M A (storeName X.env x u) Q E s:=by
 obtain⟨m,hn,hl⟩:=id I.loc;have hcls:(X.env.scope.kind==.class||(X.env.scope.kind==.module&&X.env.locals != X.env.globals))=false:=by rw[I.ok.kind];rfl
 have hiσ:i<σ.length:=by rw[I.len];exact(List.getElem?_eq_some_iff.mp hi).1
 have cne:=I.cne;have tracked:∀{a:Addr}{h':Heap},(∃o,s.heap.get? a=some o∧H a=none)→Heap.SameBut a s.heap h'→HOk X.prog X.w H h':=fun{a h'}ha hs b ob e=>by
  obtain⟨_,_,hfree⟩:=ha;refine(I.hok b ob e).stay (fun c w' hc q=>(hs.2 c ?_).trans q) (fun _ q=>q) fun _ _ q=>q;rintro rfl
  rcases hc with rfl|hc
  ·rw[hfree]at e;cases e
  ·rw[hfree]at hc;cases hc
 rcases hx with hk|hk
 ·refine wpAny_storeName_local hk hn (fun h' hn' hs=>?_) hcls;obtain⟨oL,_,_,hoL,_⟩:=id hn;refine h _ ⟨I.ok,I.os,I.bare,⟨fun b o e n hb hx=>?_,fun b o e n hb hx=>?_,I.base.free,fun b o e hx=>?_,I.base.tups,I.base.frzs,I.base.tbls⟩,⟨_,hn',fun j y v' e1 e2 e3=>?_⟩,fun y c e=>?_,I.free,I.freeC,fun p hp=>?_,tracked ⟨oL,hoL,I.free⟩ hs,by simpa using I.len⟩ ⟨_,hs,.inl rfl⟩
  ·exact(hs.2 b (Nat.ne_of_lt (Nat.lt_of_lt_of_le (Heap.lt_size e) I.ok.above))).trans (I.base.keep b o e n hb hx)
  ·obtain⟨sl,e1⟩:=I.base.slot b o e n hb hx;exact⟨sl,(hs.2 b (Nat.ne_of_lt (Nat.lt_of_lt_of_le (Heap.lt_size e) I.ok.above))).trans e1⟩
  ·obtain⟨o',e1⟩:=I.base.there b o e hx;exact⟨o',(hs.2 b (Nat.ne_of_lt (Nat.lt_of_lt_of_le (Heap.lt_size e) I.ok.above))).trans e1⟩
  ·by_cases hj:j=i
   ·subst hj;rw[hi]at e1;cases e1;rw[List.getElem?_set_self hiσ]at e2;cases e2;exact⟨u,r,.inl ⟨hk,by simp⟩⟩
   ·rw[List.getElem?_set_ne (Ne.symm hj)]at e2;obtain⟨u',r',q⟩:=hl j y v' e1 e2 e3;refine⟨u',r',?_⟩
    rcases q with⟨k,e⟩|⟨k,c,e,z⟩
    ·refine .inl ⟨k,?_⟩;have:y≠x:=fun e=>hj (au7 hN e1 (e▸hi));simp[this,e]
    ·exact .inr ⟨k,c,e,z.sameBut hs (cne y c e)⟩
  ·obtain⟨w',z⟩:=I.cell y c e;exact⟨w',z.sameBut hs (cne y c e)⟩
  ·obtain⟨e,n,ne,nf,d⟩:=I.pin p hp;exact⟨(hs.2 p.1 ne).trans e,n,ne,nf,d⟩
 ·have hfn:X.fn x=true:=by
   rcases hf with z|z
   ·exact z
   ·rw[z]at hk;cases hk
  obtain⟨c,hc⟩:=I.ok.has x (.inl hk);obtain⟨w',z⟩:=I.cell x c hc;have hfree:H c=none:=(I.freeC x c hc).resolve_right fun z=>by rw[hfn]at z;exact absurd z.1 (by decide)
  refine wpAny_storeName_cell I.ok.kind hk hc z (fun h' hc' hs=>?_);obtain⟨oc,hoc,hocd⟩:=id z;refine h {s with heap:=h'} ⟨I.ok,I.os,I.bare,⟨fun b o e n hb hx=>?_,fun b o e n hb hx=>?_,I.base.free,fun b o e hx=>?_,I.base.tups,I.base.frzs,I.base.tbls⟩,⟨m,hn.sameBut hs (Ne.symm (cne x c hc)),fun j y v' e1 e2 e3=>?_⟩,fun y c' e=>?_,I.free,I.freeC,fun p hp=>?_,tracked ⟨oc,hoc,hfree⟩ hs,by simpa using I.len⟩ ⟨c,hs,.inr hc⟩
  ·exact(hs.2 b (Nat.ne_of_lt (Nat.lt_of_lt_of_le (Heap.lt_size e) (I.ok.cab x c (.inl hfn) hc)))).trans (I.base.keep b o e n hb hx)
  ·obtain⟨sl,e1⟩:=I.base.slot b o e n hb hx;exact⟨sl,(hs.2 b (Nat.ne_of_lt (Nat.lt_of_lt_of_le (Heap.lt_size e) (I.ok.cab x c (.inl hfn) hc)))).trans e1⟩
  ·obtain⟨o',e1⟩:=I.base.there b o e hx;exact⟨o',(hs.2 b (Nat.ne_of_lt (Nat.lt_of_lt_of_le (Heap.lt_size e) (I.ok.cab x c (.inl hfn) hc)))).trans e1⟩
  ·by_cases hj:j=i
   ·subst hj;rw[hi]at e1;cases e1;rw[List.getElem?_set_self hiσ]at e2;cases e2;exact⟨u,r,.inr ⟨.inl hk,c,hc,hc'⟩⟩
   ·rw[List.getElem?_set_ne (Ne.symm hj)]at e2;obtain⟨u',r',q⟩:=hl j y v' e1 e2 e3;refine⟨u',r',?_⟩
    rcases q with q|⟨k,c',e,z'⟩
    ·exact .inl q
    ·refine .inr ⟨k,c',e,z'.sameBut hs ?_⟩;rintro rfl;exact hj (au7 hN e1 (I.ok.inj _ _ _ e hc▸hi))
  ·by_cases hcc:c'=c
   ·subst hcc;exact⟨_,hc'⟩
   ·obtain⟨w2,z2⟩:=I.cell y c' e;exact⟨w2,z2.sameBut hs hcc⟩
  ·obtain⟨e,n,ne,nf,d⟩:=I.pin p hp;refine⟨(hs.2 p.1 ?_).trans e,n,ne,nf,d⟩;intro q;rw[q,hoc]at e;have q':oc=p.2:=Option.some.inj e;exact d w' (by rw[←q'];exact hocd)
theorem Q2{M:Model}{A:Around}{E:Value→Shared→Prop}{i:Nat}{x:Str}{v:V}{u:Value}{Q:Unit→Shared→Prop}(I:Inv X pins σ H s)(hN:X.N.Nodup)(hi:X.N[i]?=some x)(hx:Loc X.env.scope x)(r:d7 v u)
  (h:∀s',Inv X pins (σ.set i (some v)) H s'→Q () s') (hf:X.fn x=true∨X.env.scope.names.lookup x=some .local:=by first|exact .inl rfl|exact .inr rfl|assumption):wpAny M A (storeName X.env x u) Q E s:=
 bc9 I hN hi hx r (fun s' I' _=>h s' I') hf
end
noncomputable abbrev XK:=Value→Option Addr→Hp→Prop
noncomputable abbrev St:=List (Option V)
noncomputable abbrev VK:=V→Hp→Prop
noncomputable abbrev TE:=St→Hp→VK→Prop
noncomputable abbrev TT:=St→Hp→(Bool→Hp→Prop)→Prop
noncomputable abbrev TA:=St→Hp→(List V→Hp→Prop)→Prop
structure Ends where
 nx:St→Hp→Prop
 rt:VK
 bk:St→Hp→Prop:=fun _ _=>False
 ct:St→Hp→Prop:=fun _ _=>False
noncomputable abbrev TS:=Ends→St→Hp→Prop
noncomputable def EP(X:Cx)(pins:List (Addr×Obj))(σ:St)(Q:VK)(u:Value)(s':Shared):Prop:=∃v H',Inv X pins σ H' s'∧d7 v u∧Q v H'
noncomputable def TP(X:Cx)(pins:List (Addr×Obj))(σ:St)(Q:Bool→Hp→Prop)(b:Bool)(s':Shared):Prop:=∃H',Inv X pins σ H' s'∧Q b H'
noncomputable def AP(X:Cx)(pins:List (Addr×Obj))(σ:St)(Q:List V→Hp→Prop)(us:List Value)(s':Shared):Prop:=∃vs H',Inv X pins σ H' s'∧d4 vs us∧Q vs H'
noncomputable def SP(X:Cx)(pins:List (Addr×Obj))(D:Ends)(f:Flow)(s':Shared):Prop:=
 match f with
 |.next=>∃σ' H',Inv X pins σ' H' s'∧D.nx σ' H'
 |.brk=>∃σ' H',Inv X pins σ' H' s'∧D.bk σ' H'
 |.cont=>∃σ' H',Inv X pins σ' H' s'∧D.ct σ' H'
 |.ret u=>∃v σ' H',Inv X pins σ' H' s'∧d7 v u∧D.rt v H'
noncomputable def PE(X:Cx)(e:Expr)(t:TE):Prop:=
 ∀(pins:List (Addr×Obj))(s:Shared)(σ:St)(H:Hp)(Q:VK),Inv X pins σ H s→t σ H Q→wpAny (model X.prog X.w) X.A (eval e X.env) (EP X pins σ Q) X.xe s
noncomputable def PT(X:Cx)(e:Expr)(t:TT):Prop:=
 ∀(pins:List (Addr×Obj))(s:Shared)(σ:St)(H:Hp)(Q:Bool→Hp→Prop),Inv X pins σ H s→t σ H Q→wpAny (model X.prog X.w) X.A (isTrue e X.env (eval e X.env)) (TP X pins σ Q) X.xe s
noncomputable def PW(X:Cx)(e:Expr)(t:TT):Prop:=
 ∀(whole:Sem Value)(pins:List (Addr×Obj))(s:Shared)(σ:St)(H:Hp)(Q:Bool→Hp→Prop),Inv X pins σ H s→t σ H Q→wpAny (model X.prog X.w) X.A (isTrue e X.env whole) (TP X pins σ Q) X.xe s
theorem PW.pt{X:Cx}{e:Expr}{t:TT}(h:PW X e t):PT X e t:=h _
noncomputable def PA(X:Cx)(es:List Expr)(t:TA):Prop:=
 ∀(pos:Pos)(pins:List (Addr×Obj))(s:Shared)(σ:St)(H:Hp)(Q:List V→Hp→Prop),Inv X pins σ H s→t σ H Q→wpAny (model X.prog X.w) X.A (spliced (backTo pos (starEach es X.env))) (AP X pins σ Q) X.xe s
noncomputable def PS(X:Cx)(st:Stmt)(t:TS):Prop:=
 ∀(pins:List (Addr×Obj))(s:Shared)(σ:St)(H:Hp)(D:Ends),Inv X pins σ H s→t D σ H→wpAny (model X.prog X.w) X.A (exec st X.env) (SP X pins D) X.xe s
noncomputable def PSs(X:Cx)(st:List Stmt)(t:TS):Prop:=
 ∀(pins:List (Addr×Obj))(s:Shared)(σ:St)(H:Hp)(D:Ends),Inv X pins σ H s→t D σ H→wpAny (model X.prog X.w) X.A (execs st X.env) (SP X pins D) X.xe s
theorem thn{α:Type}{t:Sem α}{Q Q':α→Shared→Prop}{M:Model}{A:Around}{E:Value→Shared→Prop}{s:Shared}(h:wpAny M A t Q E s)(hQ:∀a s,Q a s→Q' a s):wpAny M A t Q' E s:=wpAny_mono h hQ fun _ _ x=>x
end L2
namespace L2
open PySem PySem.Spec PyProof.Rows
section
variable {X:Cx}
theorem bin{a b:Expr}{ta tb:TE}(ha:PE X a ta)(hb:PE X b tb){pins:List (Addr×Obj)}{s:Shared}{σ:St}{H:Hp}{R:V→V→Hp→Prop}(I:Inv X pins σ H s)(h:ta σ H fun x H1=>tb σ H1 fun y H2=>R x y H2)
  {α:Type} {Q:α→Shared→Prop} {f:Value→Value→Sem α}
  (hf:∀v u s2 x y H2,Inv X pins σ H2 s2→d7 x v→d7 y u→R x y H2→wpAny (model X.prog X.w) X.A (f v u) Q X.xe s2) :
  wpAny (model X.prog X.w) X.A (eval a X.env) (fun v s₁=>wpAny (model X.prog X.w) X.A (eval b X.env) (fun u s₂=>wpAny (model X.prog X.w) X.A (f v u) Q X.xe s₂) X.xe s₁) X.xe s:=by
 refine thn (ha pins s σ H _ I h) fun v s1⟨x,H1,I1,r1,q1⟩=>?_;refine thn (hb pins s1 σ H1 _ I1 q1) fun u s2⟨y,H2,I2,r2,q2⟩=>?_;exact hf v u s2 x y H2 I2 r1 r2 q2
noncomputable def b55(i:Nat):TE:=fun σ H Q=>∃v,σ[i]?=some (some v)∧Q v H
noncomputable def tC(v:V):TE:=fun _ H Q=>Q v H
theorem ak8{i:Nat}{x:Str}{pos:Pos}(hN:X.N[i]?=some x)(hv:Vis X.env.scope x)(hd:(x==("__debug__":Str))=false:=by decide)(hcd:(x==("__classdict__":Str))=false:=by decide):PE X (.Name x pos) (b55 i):=by
 intro pins s σ H Q I h;obtain⟨v,e,h⟩:=h;obtain⟨m,hn,hl⟩:=I.loc;obtain⟨u,r,l⟩:=hl i x v hN e hv;have fin:EP X pins σ Q u s:=⟨v,H,I,r,h⟩
 rcases l with⟨hk,hm⟩|⟨hk,c,hc,hcell⟩
 ·exact wpAny_Name (wpAny_loadName_local I.ok.kind hk hn hm fin) hd
 ·rcases hk with hk|hk
  ·exact wpAny_Name (wpAny_loadName_cell I.ok.kind hk hc hcell fin) hd
  ·exact wpAny_Name (wpAny_loadName_free I.ok.kind hk hc hcell fin hcd) hd
theorem bv1{i j pos}:PE X (.Constant (.int i) j pos) (tC (.int i)):=fun _ _ _ H _ I h=>wpAny_Constant_int ⟨.int i,H,I.tok _,⟨_,rfl⟩,h⟩
theorem b39{b j pos}:PE X (.Constant (.bool b) j pos) (tC (.bl b)):=fun _ _ _ H _ I h=>Constant_bool ⟨.bl b,H,I,rfl,h⟩
theorem bz0{j pos}:PE X (.Constant .none j pos) (tC .non):=fun _ _ _ H _ I h=>Constant_none ⟨.non,H,I,rfl,h⟩
theorem ax8{x j pos}:PE X (.Constant (.str x) j pos) (tC (.str x)):=fun _ _ _ H _ I h=>Calls.Constant_str ⟨.str x,H,I.tok _,⟨_,rfl⟩,h⟩
noncomputable def Gl(X:Cx)(x:Str):Prop:=X.env.kindOf x=some .globalImplicit
theorem U6{E:Value→Shared→Prop}{pins:List (Addr×Obj)}{s:Shared}{σ:St}{H:Hp}{x:Str}{u:Value}{pos:Pos}{Q:Value→Shared→Prop}(I:Inv X pins σ H s)(hg:Gl X x)(hm:X.mg x=some u)(h:Q u s)
  (hd:(x==("__debug__":Str))=false:=by decide):wpAny (model X.prog X.w) X.A (eval (.Name x pos) X.env) Q E s:=
 Calls.Name_function_global I.ok.kind hg (Calls.loadGlobal_global (by rw[I.ok.glob];exact I.mod.glob.keeps I.bk) hm h) hd
theorem F2{E:Value→Shared→Prop}{pins:List (Addr×Obj)}{s:Shared}{σ:St}{H:Hp}{x:Str}{u:Value}{pos:Pos}{Q:Value→Shared→Prop}(I:Inv X pins σ H s)(hg:Gl X x)(hm:X.mg x=none)(hv:bootBuiltins x=some u)(h:Q u s)
  (hn:x≠"__name__":=by decide) (hd:(x==("__debug__":Str))=false:=by decide):wpAny (model X.prog X.w) X.A (eval (.Name x pos) X.env) Q E s:=by
 obtain⟨mb,h1,h2⟩:=I.mod.blt;exact Calls.Name_function_global I.ok.kind hg (Calls.loadGlobal_builtin (by rw[I.ok.glob];exact I.mod.glob.keeps I.bk) hm (by rw[I.ok.blt];exact h1.keeps I.bk) ((h2 x hn).trans hv) h) hd
theorem bj8{x:Str}{v:V}{u:Value}{pos:Pos}(hg:Gl X x)(hm:X.mg x=some u)(r:d7 v u)(hd:(x==("__debug__":Str))=false:=by decide):PE X (.Name x pos) (tC v):=
 fun _ _ _ H _ I h=>U6 I hg hm ⟨v,H,I,r,h⟩ hd
variable {a b:Expr} {ta tb:TE} {pos:Pos}
noncomputable def PC(X:Cx)(op:CmpOp)(a b:Expr)(t:TE):Prop:=
 ∀(pins:List (Addr×Obj))(s:Shared)(σ:St)(H:Hp)(Q:VK),Inv X pins σ H s→t σ H Q →
  wpAny (model X.prog X.w) X.A (eval a X.env) (fun v s₁=>wpAny (model X.prog X.w) X.A (eval b X.env) (fun u s₂=>wpAny (model X.prog X.w) X.A (compareOp op v u) (EP X pins σ Q) X.xe s₂) X.xe s₁) X.xe s
theorem au4(b:Expr){op:CmpOp}(h:op≠.In)(h2:op≠.NotIn):behindInMarks op b=false:=by
 have e1:(op==CmpOp.In)=false:=by cases op<;>first|rfl|exact absurd rfl h
 have e2:(op==CmpOp.NotIn)=false:=by cases op<;>first|rfl|exact absurd rfl h2
 cases b<;>simp[behindInMarks,e1,e2]
noncomputable def b54(ta:TE):TE:=fun σ H Q=>ta σ H fun x H1=>Q (.bl (decide (x=.non))) H1
noncomputable def b47(ta:TE):TE:=fun σ H Q=>ta σ H fun x H1=>Q (.bl (!decide (x=.non))) H1
theorem d7.none_iff{x:V}{v:Value}(r:d7 x v):(v==Value.none)=decide (x=.non):=by
 cases x with
 |non=>cases r;rfl
 |bl _=>cases r;rfl
 |int _=>obtain⟨t,rfl⟩:=r;rfl
 |str _=>obtain⟨t,rfl⟩:=r;rfl
 |byt _=>obtain⟨t,rfl⟩:=r;rfl
 |flt _=>obtain⟨t,rfl⟩:=r;rfl
 |ref _=>cases r;rfl
 |ty _=>cases r;rfl
theorem az9{j pos'}(ha:PE X a ta):PC X .Is a (.Constant .none j pos') (b54 ta):=by
 intro pins s σ H Q I h;refine thn (ha pins s σ H _ I h) fun v s1⟨x,H1,I1,r1,q1⟩=>?_;exact Constant_none (is_none_gen ⟨.bl _,H1,I1,by rw[r1.none_iff];rfl,q1⟩)
theorem av6{j pos'}(ha:PE X a ta):PC X .IsNot a (.Constant .none j pos') (b47 ta):=by
 intro pins s σ H Q I h;refine thn (ha pins s σ H _ I h) fun v s1⟨x,H1,I1,r1,q1⟩=>?_;exact Constant_none (isnot_none_gen ⟨.bl _,H1,I1,by rw[r1.none_iff];rfl,q1⟩)
noncomputable def tB(t:TE):TT:=fun σ H Q=>t σ H fun x H1=>∃c,x=.bl c∧Q c H1
theorem ax5{op:CmpOp}{t:TE}(h:PC X op a b t)(h1:behindInMarks op b=false:=by first|exact au4 _ (by decide) (by decide)|rfl):PE X (.Compare a [op] [b] pos) t:=fun pins s σ H Q I hw=>wpAny_Compare1 (h pins s σ H Q I hw) h1
theorem az5{op:CmpOp}{t:TE}(h:PC X op a b t)(h1:behindInMarks op b=false:=by first|exact au4 _ (by decide) (by decide)|rfl):PT X (.Compare a [op] [b] pos) (tB t):=by
 intro pins s σ H Q I hw;refine wpAny_isTrue_Compare1 (thn (h pins s σ H _ I hw) fun v s1 h1=>thn h1 fun u s2 h2=>thn h2 fun c s3⟨x,H1,I1,r1,q1⟩=>?_) h1;obtain⟨d,rfl,q⟩:=q1;cases r1;exact wpAny_truthy_bool ⟨H1,I1,q⟩
theorem bw9{e:Expr}{t:TE}(h:PE X e t)(he:∀whole,isTrue e X.env whole=(do let v ←whole;standAt e.pos;holding [v] (truthy v)):=by intro _;rfl):PT X e (tB t):=by
 intro pins s σ H Q I hw;refine isTrue_plain (thn (h pins s σ H _ I hw) fun v s1⟨x,H1,I1,r1,q1⟩=>?_) (he _);obtain⟨d,rfl,q⟩:=q1;cases r1;exact wpAny_truthy_bool ⟨H1,I1,q⟩
variable {tA tB':TT} {d9:List Expr}
noncomputable def b66(t u:TT):TT:=fun σ H Q=>t σ H fun c H1=>if c=true then u σ H1 Q else Q false H1
noncomputable def tOr(t u:TT):TT:=fun σ H Q=>t σ H fun c H1=>if c=true then Q true H1 else u σ H1 Q
noncomputable def b70(t:TT):TT:=fun σ H Q=>t σ H fun c H1=>Q (!c) H1
theorem bp1(ha:PT X a tA):PW X (.BoolOp .And [a] pos) tA:=by
 intro wh pins s σ H Q I h;refine isTrue_and (thn (ha pins s σ H Q I h) fun c s1 e=>?_);cases c with
 |true=>exact isTrue_and_nil e
 |false=>exact e
theorem bs9(ha:PT X a tA):PW X (.BoolOp .Or [a] pos) tA:=by
 intro wh pins s σ H Q I h;refine isTrue_or (thn (ha pins s σ H Q I h) fun c s1 e=>?_);cases c with
 |false=>exact isTrue_or_nil e
 |true=>exact e
theorem bq6(ha:PT X a tA)(hb:PW X (.BoolOp .And (b::d9) pos) tB'):PW X (.BoolOp .And (a::b::d9) pos) (b66 tA tB'):=by
 intro wh pins s σ H Q I h;refine isTrue_and (thn (ha pins s σ H _ I h) fun c s1⟨H1,I1,q1⟩=>?_);cases c with
 |true=>exact hb wh pins s1 σ H1 Q I1 q1
 |false=>exact⟨H1,I1,q1⟩
theorem bz5(ha:PT X a tA)(hb:PW X (.BoolOp .Or (b::d9) pos) tB'):PW X (.BoolOp .Or (a::b::d9) pos) (tOr tA tB'):=by
 intro wh pins s σ H Q I h;refine isTrue_or (thn (ha pins s σ H _ I h) fun c s1⟨H1,I1,q1⟩=>?_);cases c with
 |true=>exact⟨H1,I1,q1⟩
 |false=>exact hb wh pins s1 σ H1 Q I1 q1
theorem bw3(ha:PT X a tA):PT X (.UnaryOp .Not a pos) (b70 tA):=by
 intro pins s σ H Q I h;exact isTrue_not (ha pins s σ H (fun c H1=>Q (!c) H1) I h)
noncomputable def b00(ta tb:TE):TE:=fun σ H Q=>ta σ H fun x H1=>∃c,x=.bl c∧if c=true then tb σ H1 Q else Q (.bl false) H1
noncomputable def b59(ta tb:TE):TE:=fun σ H Q=>ta σ H fun x H1=>∃c,x=.bl c∧if c=true then Q (.bl true) H1 else tb σ H1 Q
noncomputable def b27(ta:TE):TE:=fun σ H Q=>ta σ H fun x H1=>∃c,x=.bl c∧Q (.bl (!c)) H1
theorem ay6{op}{t:TE}(h:PE X a t):PE X (.BoolOp op [a] pos) t:=fun pins s σ H Q I hw=>BoolOp_one (h pins s σ H Q I hw)
theorem bt6(ha:PE X a ta)(hb:PE X (.BoolOp .And (b::d9) pos) tb):PE X (.BoolOp .And (a::b::d9) pos) (b00 ta tb):=by
 intro pins s σ H Q I h;refine BoolOp_and (thn (ha pins s σ H _ I h) fun v s1⟨x,H1,I1,r1,q1⟩=>?_);obtain⟨c,rfl,q1⟩:=q1;cases r1;refine wpAny_truthy_bool ?_;cases c with
 |true=>exact hb pins s1 σ H1 Q I1 q1
 |false=>exact⟨.bl false,H1,I1,rfl,q1⟩
theorem b40(ha:PE X a ta)(hb:PE X (.BoolOp .Or (b::d9) pos) tb):PE X (.BoolOp .Or (a::b::d9) pos) (b59 ta tb):=by
 intro pins s σ H Q I h;refine BoolOp_or (thn (ha pins s σ H _ I h) fun v s1⟨x,H1,I1,r1,q1⟩=>?_);obtain⟨c,rfl,q1⟩:=q1;cases r1;refine wpAny_truthy_bool ?_;cases c with
 |false=>exact hb pins s1 σ H1 Q I1 q1
 |true=>exact⟨.bl true,H1,I1,rfl,q1⟩
theorem by8(ha:PE X a ta):PE X (.UnaryOp .Not a pos) (b27 ta):=by
 intro pins s σ H Q I h;refine UnaryOp_ (thn (ha pins s σ H _ I h) fun v s1⟨x,H1,I1,r1,q1⟩=>?_);obtain⟨c,rfl,q1⟩:=q1;cases r1;exact not_of (wpAny_truthy_bool ⟨.bl (!c),H1,I1,rfl,q1⟩)
noncomputable def tIf(t:TT)(ta tb:TE):TE:=fun σ H Q=>t σ H fun c H1=>if c=true then ta σ H1 Q else tb σ H1 Q
theorem bi2{c:Expr}(hc:PT X c tA)(ha:PE X a ta)(hb:PE X b tb):PE X (.IfExp c a b pos) (tIf tA ta tb):=by
 intro pins s σ H Q I h;refine wpAny_IfExp (thn (hc pins s σ H _ I h) fun d s1⟨H1,I1,q1⟩=>?_);cases d with
 |true=>exact ha pins s1 σ H1 Q I1 q1
 |false=>exact hb pins s1 σ H1 Q I1 q1
end
end L2
namespace L2
open PySem PySem.Spec PyProof.Rows
noncomputable def SqL(K:W.Frag)(H:Hp)(a:Addr)(xs:List V):Prop:=
 Rd H a (.lst xs)∨
  ∃(o:Obj)(its:Array Value)(n:Nat),K.lookup a=some o∧o.cls=.type "list"∧o.dict=none∧o.data=.seq its n∧its.size≤sizeLine∧d4 xs its.toList
noncomputable def SqT(K:W.Frag)(H:Hp)(a:Addr)(xs:List V):Prop:=
 Rd H a (.tup xs)∨
  ∃(o:Obj)(its:Array Value)(n:Nat),K.lookup a=some o∧o.cls=.type "tuple"∧o.dict=none∧o.data=.seq its n∧its.size≤sizeLine∧d4 xs its.toList
noncomputable def b65:Value→Option V
 |.none=>some .non
 |.bool b=>some (.bl b)
 |.int i _=>some (.int i)
 |.str x _=>some (.str x)
 |.bytes b _=>some (.byt b)
 |.float b _=>some (.flt b)
 |.ref a=>some (.ref a)
 |.type n=>some (.ty n)
 |_=>none
theorem d7.abs{x:V}{u:Value}(r:d7 x u):b65 u=some x:=by
 cases x with
 |non=>cases r;rfl
 |bl _=>cases r;rfl
 |int _=>obtain⟨t,rfl⟩:=r;rfl
 |str _=>obtain⟨t,rfl⟩:=r;rfl
 |byt _=>obtain⟨t,rfl⟩:=r;rfl
 |flt _=>obtain⟨t,rfl⟩:=r;rfl
 |ref _=>cases r;rfl
 |ty _=>cases r;rfl
theorem d7.inj{x y:V}{u:Value}(r:d7 x u)(q:d7 y u):x=y:=Option.some.inj (r.abs.symm.trans q.abs)
theorem d4.inj:∀{xs ys:List V}{us:List Value},d4 xs us→d4 ys us→xs=ys
 |_,_,_,.nil,.nil=>rfl
 |_,_,_,.cons r t,.cons r' t'=>by rw[r.inj r',d4.inj t t']
section
variable {X:Cx} {pins:List (Addr×Obj)} {σ:St} {H:Hp} {s:Shared} {a:Addr} {xs ys:List V}
theorem Inv.list(I:Inv X pins σ H s)(h:SqL X.K H a xs):∃its:List Value,d4 xs its∧PlainL s.heap a its.toArray∧xs.length≤sizeLine:=by
 rcases h with h|⟨o,its,n,hk,hc,hd,hs,hz,r⟩
 ·obtain⟨z,its,n,r,e⟩:=h.ok I.hok;exact⟨its,r,⟨_,n,e,rfl,rfl,rfl⟩,z⟩
 ·refine⟨its.toList,r,⟨o,n,I.kIn a o hk,hc,hd,by simpa using hs⟩,?_⟩;have e:=r.length;simp only[Array.length_toList]at e;omega
theorem Inv.tupleD(I:Inv X pins σ H s)(h:SqT X.K H a xs):∃its:List Value,d4 xs its∧v0 s.heap a its.toArray∧xs.length≤sizeLine:=by
 rcases h with h|⟨o,its,n,hk,hc,hdn,hs,hz,r⟩
 ·obtain⟨z,its,r,p⟩:=h.ok I.hok;exact⟨its,r,p,z⟩
 ·refine⟨its.toList,r,⟨o,I.kIn a o hk,hc,hdn,n,by simpa using hs⟩,?_⟩;have e:=r.length;simp only[Array.length_toList]at e;omega
theorem Inv.tuple(I:Inv X pins σ H s)(h:SqT X.K H a xs):∃its:List Value,d4 xs its∧IsTup s.heap a its.toArray∧xs.length≤sizeLine:=by
 obtain⟨its,r,p,z⟩:=I.tupleD h;exact⟨its,r,p.tup,z⟩
theorem Inv.list_inj(I:Inv X pins σ H s)(h:SqL X.K H a xs)(h':SqL X.K H a ys):xs=ys:=by
 obtain⟨its,r,⟨o,n,e,_,_,d⟩,_⟩:=I.list h;obtain⟨its',r',⟨o',n',e',_,_,d'⟩,_⟩:=I.list h';rw[e]at e';cases e';rw[d]at d';injection d' with d1 _
 have:its=its':=by simpa using congrArg Array.toList d1
 subst this;exact r.inj r'
theorem Inv.tuple_inj(I:Inv X pins σ H s)(h:SqT X.K H a xs)(h':SqT X.K H a ys):xs=ys:=by
 obtain⟨its,r,⟨o,e,_,n,d⟩,_⟩:=I.tuple h;obtain⟨its',r',⟨o',e',_,n',d'⟩,_⟩:=I.tuple h';rw[e]at e';cases e';rw[d]at d';injection d' with d1 _
 have:its=its':=by simpa using congrArg Array.toList d1
 subst this;exact r.inj r'
end
section
variable {X:Cx} {st:Stmt} {d9:List Stmt} {t u:TS} {e:Expr} {te:TE} {pos:Pos}
noncomputable def a07:TS:=fun D σ H=>D.nx σ H
noncomputable def b78(t u:TS):TS:=fun D σ H=>t {D with nx:=u D} σ H
theorem bo8:PSs X [] a07:=fun _ _ σ H _ I h=>wpAny_execs_nil ⟨σ,H,I,h⟩
theorem bi5(h1:PS X st t)(h2:PSs X d9 u):PSs X (st::d9) (b78 t u):=by
 intro pins s σ H D I h;refine wpAny_execs_cons (thn (h1 pins s σ H {D with nx:=u D} I h) fun f s1 q=>?_);cases f with
 |next=>
  obtain⟨σ',H',I',q⟩:=q;exact h2 pins s1 σ' H' D I' q
 |ret v=>exact q
 |brk=>exact q
 |cont=>exact q
theorem bm4:PS X (.Pass pos) a07:=fun _ _ σ H _ I h=>wpAny_Pass ⟨σ,H,I,h⟩
theorem Inv.quiet{pins:List (Addr×Obj)}{σ:St}{H:Hp}{s:Shared}(I:Inv X pins σ H s):interactive X.env=false:=by simp[interactive,I.ok.kind]
noncomputable def b34(te:TE):TS:=fun D σ H=>te σ H fun _ H1=>D.nx σ H1
theorem bo1(he:PE X e te)(hs:swapsWith e none pos.line X.env=pure false:=by rfl):PS X (.Expr e pos) (b34 te):=by
 intro pins s σ H D I h;exact wpAny_Expr_any (thn (he pins s σ H _ I h) fun v s1⟨x,H1,I1,r1,q1⟩=>⟨σ,H1,I1,q1⟩) I.quiet hs
noncomputable def b58(te:TE):TS:=fun D σ H=>te σ H D.rt
theorem br4(he:PE X e te):PS X (.Return (some e) pos) (b58 te):=by
 intro pins s σ H D I h;exact wpAny_Return_some (thn (he pins s σ H _ I h) fun v s1⟨x,H1,I1,r1,q1⟩=>⟨x,σ,H1,I1,r1,q1⟩)
noncomputable def bz9:TS:=fun D _ H=>D.rt .non H
theorem bn2:PS X (.Return none pos) bz9:=fun _ _ σ H _ I h=>wpAny_Return_none ⟨.non,σ,H,I,rfl,h⟩
noncomputable def b61(c:TT)(t u:TS):TS:=fun D σ H=>c σ H fun b H1=>if b=true then t D σ H1 else u D σ H1
theorem b25{c:Expr}{a b:List Stmt}{tc:TT}(hc:PT X c tc)(ha:PSs X a t)(hb:PSs X b u):PS X (.If c a b pos) (b61 tc t u):=by
 intro pins s σ H D I h;refine wpAny_If (thn (hc pins s σ H _ I h) fun d s1⟨H1,I1,q1⟩=>?_);cases d with
 |true=>exact ha pins s1 σ H1 D I1 q1
 |false=>exact hb pins s1 σ H1 D I1 q1
end
noncomputable abbrev TG:=V→St→Hp→(St→Hp→Prop)→Prop
noncomputable abbrev TGs:=List V→St→Hp→(St→Hp→Prop)→Prop
noncomputable def PG(X:Cx)(target:Expr)(t:TG):Prop:=
 ∀(pins:List (Addr×Obj))(s:Shared)(σ:St)(H:Hp)(v:V)(u:Value)(Q:St→Hp→Prop),Inv X pins σ H s→d7 v u→t v σ H Q →
  wpAny (model X.prog X.w) X.A (assign target X.env u) (fun _ s'=>∃σ' H',Inv X pins σ' H' s'∧Q σ' H') X.xe s
noncomputable def PGs(X:Cx)(ts:List Expr)(t:TGs):Prop:=
 ∀(pins:List (Addr×Obj))(s:Shared)(σ:St)(H:Hp)(vs:List V)(us:List Value)(Q:St→Hp→Prop),Inv X pins σ H s→d4 vs us→t vs σ H Q →
  wpAny (model X.prog X.w) X.A (assignInOrder ((assignEach ts X.env).map (·.2)) us) (fun _ s'=>∃σ' H',Inv X pins σ' H' s'∧Q σ' H') X.xe s
noncomputable abbrev am5:=V→V→V→Hp→(Hp→Prop)→Prop
noncomputable def a31(X:Cx)(t:am5):Prop:=
 ∀(pins:List (Addr×Obj))(s:Shared)(σ:St)(H:Hp)(o i v:V)(ov iv u:Value)(Q:Hp→Prop),Inv X pins σ H s→d7 o ov→d7 i iv→d7 v u→t o i v H Q →
  wpAny (model X.prog X.w) X.A (setItem ov iv u) (fun _ s'=>∃H',Inv X pins σ H' s'∧Q H') X.xe s
section
variable {X:Cx} {pos:Pos}
noncomputable def al9(i:Nat):TG:=fun v σ H Q=>Q (σ.set i (some v)) H
theorem aw0{i:Nat}{x:Str}(hN:X.N.Nodup)(hi:X.N[i]?=some x)(hx:Loc X.env.scope x)(hf:X.fn x=true∨X.env.scope.names.lookup x=some .local:=by first|exact .inl rfl|exact .inr rfl|assumption):PG X (.Name x pos) (al9 i):=by
 intro pins s σ H v u Q I r h;exact wpAny_assign_Name (Q2 I hN hi hx r (fun s' I'=>⟨_,H,I',h⟩) hf)
noncomputable def a28:TGs:=fun vs σ H Q=>vs=[]∧Q σ H
noncomputable def a27(t:TG)(u:TGs):TGs:=fun vs σ H Q=>∃v r,vs=v::r∧t v σ H fun σ' H'=>u r σ' H' Q
theorem bn0:PGs X [] a28:=by
 intro pins s σ H vs us Q I r h;obtain⟨e,h⟩:=h;subst e;cases r;exact assignInOrder_nil ⟨σ,H,I,h⟩
theorem bh6{e:Expr}{es:List Expr}{t:TG}{u:TGs}(h1:PG X e t)(h2:PGs X es u)
  (hs:(assignEach (e::es) X.env).map (·.2)=assign e X.env::(assignEach es X.env).map (·.2):=by rfl):PGs X (e::es) (a27 t u):=by
 intro pins s σ H vs us Q I r h;obtain⟨v,vr,e1,h⟩:=h;subst e1;cases r with
 |cons r rr=>
  rw[hs];refine assignInOrder_cons (thn (h1 pins s σ H _ _ _ I r h) fun _ s1⟨σ1,H1,I1,q1⟩=>?_);exact h2 pins s1 σ1 H1 _ _ Q I1 rr q1
noncomputable def b56(K:W.Frag)(n:Nat)(t:TGs):TG:=fun v σ H Q=>∃a xs,v=.ref a∧SqT K H a xs∧xs.length=n∧t xs σ H Q
theorem bt2{es:List Expr}{k:Nat}{t:TGs}{n:Nat}(hc:X.calm=true)(h:PGs X es t)
  (hn:(assignEach es X.env).length=n:=by rfl) (hst:(assignEach es X.env).findIdx? (·.1)=none:=by rfl):PG X (.Tuple es k pos) (b56 X.K n t):=by
 intro pins s σ H v u Q I r hw;obtain⟨a,xs,e1,hq,hl,hw⟩:=hw;subst e1;cases r;obtain⟨its,rv,ht,hz⟩:=I.tuple hq;refine assign_Tuple_tuple (I.ok.hd hc) ht (by simp[hn,←hl,rv.length]) hst fun h' hx=>?_;have I1:Inv X pins σ H {s with heap:=h'}:=I.kept (t':=s.toks) fun b o e=>hx b o (Nat.ne_of_lt (Heap.lt_size e)) e;exact h pins _ σ H xs _ Q I1 (by simpa using rv) hw
noncomputable def b79(to ti:TE)(t:am5):TG:=fun v σ H Q=>to σ H fun o H1=>ti σ H1 fun i H2=>t o i v H2 fun H3=>Q σ H3
theorem bt3{o i:Expr}{to ti:TE}{t:am5}(ho:PE X o to)(hi:PE X i ti)(hs:a31 X t)
  (ha:∀v,assign (.Subscript o i pos) X.env v=(do
   let ov ←holding [v] (eval o X.env)
   let iv ←holding [v,ov] (eval i X.env)
   standAt pos
   holding [v,ov,iv] (setItem ov iv v)
   release [v,ov,iv] []):=by intro _;rfl):PG X (.Subscript o i pos) (b79 to ti t):=by
 intro pins s σ H v u Q I r h;rw[ha];refine wpAny_bind (wpAny_holding (thn (ho pins s σ H _ I h) fun ov s1⟨x,H1,I1,r1,q1⟩=>?_));refine wpAny_bind (wpAny_holding (thn (hi pins s1 σ H1 _ I1 q1) fun iv s2⟨y,H2,I2,r2,q2⟩=>?_));refine wpAny_bind (wpAny_standAt (wpAny_bind (wpAny_holding (thn (hs pins s2 σ H2 x y v ov iv u _ I2 r1 r2 r q2) fun _ s3⟨H3,I3,q3⟩=>?_))));exact wpAny_release ⟨σ,H3,I3,q3⟩
noncomputable def a32(te:TE)(g:TG):TS:=fun D σ H=>te σ H fun x H1=>g x σ H1 D.nx
theorem bt5{tg e:Expr}{te:TE}{g:TG}(he:PE X e te)(hg:PG X tg g)(hs:swapsWithSole [tg] e pos.line X.env=pure false:=by rfl)(hw:swappedStores [tg] e X.env=pure none:=by rfl)
  (h1:(assignEach [tg] X.env).map (·.2)=[assign tg X.env]:=by rfl):PS X (.Assign [tg] e pos) (a32 te g):=by
 intro pins s σ H D I h;refine wpAny_Assign_stores (thn (he pins s σ H _ I h) fun v s1⟨x,H1,I1,r1,q1⟩=>?_) hs hw;rw[h1];exact thn (hg pins s1 σ H1 x v _ I1 r1 q1) fun _ s2 q=>q
theorem bt0{i:Nat}{x:Str}{e:Expr}{te:TE}{pos':Pos}(hN:X.N.Nodup)(hi:X.N[i]?=some x)(hx:Loc X.env.scope x)(he:PE X e te)(hs:swapsWith e (some (.Name x pos')) pos.line X.env=pure false:=by rfl)(hf:X.fn x=true∨X.env.scope.names.lookup x=some .local:=by first|exact .inl rfl|exact .inr rfl|assumption):
  PS X (.Assign [.Name x pos'] e pos) (a32 te (al9 i)):=by
 intro pins s σ H D I h;refine wpAny_Assign_Name (thn (he pins s σ H _ I h) fun v s1⟨y,H1,I1,r1,q1⟩=>?_) hs;exact Q2 I1 hN hi hx r1 (fun s2 I2=>⟨_,H1,I2,q1⟩) hf
end
section
variable {X:Cx} {pos:Pos}
noncomputable def bt8(c:TT)(tb:TS):TS:=fun D σ H=>∃W:Nat→St→Hp→Prop,(∃m,W m σ H)∧∀m σ H,W m σ H →
 c σ H fun b H1=>if b=true then ∃N:St→Hp→Prop,(∀σ' H',N σ' H'→∃m',m'<m∧W m' σ' H')∧tb {D with nx:=N,ct:=N,bk:=D.nx} σ H1 else D.nx σ H1
theorem bh7{c:Expr}{body:List Stmt}{tc:TT}{tb:TS}(hp:PassesOwn (model X.prog X.w) X.A X.env X.xe)(hc:PT X c tc)(hb:PSs X body tb):PS X (.While c body [] pos) (bt8 tc tb):=by
 intro pins s σ H D I h;obtain⟨W,⟨m0,w0⟩,turn⟩:=h;refine wpAny_While (codeAny_whileLoop (fun n s'=>∃σ' H',Inv X pins σ' H' s'∧W n σ' H') ?_ m0 ⟨σ,H,I,w0⟩);rintro n s1 ⟨σ1,H1,I1,w1⟩;refine wpAny_passesOwn hp (thn (hc pins s1 σ1 H1 _ I1 (turn n σ1 H1 w1)) fun b s2⟨H2,I2,q2⟩=>?_);cases b with
 |true=>
  obtain⟨N,hN,q2⟩:=q2;rw[if_pos rfl];refine wpAny_passesOwn hp (thn (hb pins s2 σ1 H2 _ I2 q2) fun f s3 q3=>?_);cases f with
  |next=>
   obtain⟨σ3,H3,I3,n3⟩:=q3;obtain⟨m',hm,w3⟩:=hN σ3 H3 n3;exact⟨m',hm,σ3,H3,I3,w3⟩
  |cont=>
   obtain⟨σ3,H3,I3,n3⟩:=q3;obtain⟨m',hm,w3⟩:=hN σ3 H3 n3;exact⟨m',hm,σ3,H3,I3,w3⟩
  |brk=>exact q3
  |ret v=>exact q3
 |false=>
  rw[if_neg Bool.false_ne_true];exact wpAny_execs_nil ⟨σ1,H2,I2,q2⟩
end
structure It where
 go:Nat→Hp→Prop
 yld:Nat→Hp→V→Hp→Prop
 stop:Nat→Hp→Prop
noncomputable def u1(X:Cx)(pins:List (Addr×Obj))(H:Hp)(b:Addr):Prop:=
 H b=none∧b≠X.env.locals∧b∉X.fs∧(b∈X.ex∨X.s₀.heap.objs.size≤b)∧(∀x c,X.env.cells.lookup x=some c→c≠b)∧∀p∈X.pn++pins,p.1≠b
theorem Inv.fpOk{X:Cx}{pins:List (Addr×Obj)}{σ:St}{H H':Hp}{s:Shared}{b:Addr}(I:Inv X pins σ H s)(hb:s.heap.objs.size≤b)(hn:H' b=none):u1 X pins H' b:=by
 refine⟨hn,Nat.ne_of_gt (Nat.lt_of_lt_of_le I.lt hb),I.nofs hb,.inr (Nat.le_trans I.sz hb),fun x c e z=>?_,fun p hp z=>?_⟩
 ·obtain⟨v,q⟩:=I.cell x c e;exact absurd (Nat.lt_of_lt_of_le q.lt (by rw[z];exact hb)) (Nat.lt_irrefl _)
 ·exact absurd (Nat.lt_of_lt_of_le (Heap.lt_size (I.pin p hp).1) (by rw[z];exact hb)) (Nat.lt_irrefl _)
structure Turn(P:Program)(w:World)(K:W.Frag)(tg:Expr)(J:It)(fp:List Addr)(it:Addr)(tn:Nat→Heap→Prop):Prop where
 mem:it∈fp
 obj:∀i h,tn i h→∀b∈fp,∃o,h.get? b=some o∧∀v,o.data≠.cell v
 keep:∀i h h',tn i h→(∀b∈fp,∀o,h.get? b=some o→h'.get? b=some o)→tn i h'
 item:∀(X:Cx),X.prog=P→X.w=w→X.K=K→X.calm=true→∀(i:Nat)(pins:List (Addr×Obj))(s:Shared)(σ:St)(H:Hp)(E:Value→Shared→Prop),Inv X pins σ H s→(∀b∈fp,u1 X pins H b)→tn i s.heap→J.go i H →
  wpAny (model P w) X.A (pyNext (.ref it)) (fun r s1=>∃u,r=some u ∧
   wpAny (model P w) X.A (letOwnedTupleGo tg (.ref it) u) (fun _ s2=>∃x H',Inv X pins σ H' s2∧d7 x u∧J.yld i H x H'∧tn (i+1) s2.heap∧∀b∈fp,H' b=none) E s1) E s
 done:∀(X:Cx),X.prog=P→X.w=w→X.K=K→X.calm=true→∀(i:Nat)(pins:List (Addr×Obj))(s:Shared)(σ:St)(H:Hp)(E:Value→Shared→Prop),Inv X pins σ H s→(∀b∈fp,u1 X pins H b)→tn i s.heap→J.stop i H →
  wpAny (model P w) X.A (pyNext (.ref it)) (fun r s1=>r=none∧Inv X pins σ H s1) E s
 self:∀(A:Around)(i:Nat)(s:Shared)(Q:Value→Shared→Prop)(E:Value→Shared→Prop),tn i s.heap→Q (.ref it) s→wpAny (model P w) A (pyIter (.ref it)) Q E s
noncomputable abbrev TI:=St→Hp→(It→Hp→Prop)→Prop
noncomputable def PIE(X:Cx)(pins:List (Addr×Obj))(σ:St)(tg:Expr)(R:It→Hp→Prop)(itv:Value)(s2:Shared):Prop:=
 ∃(it:Addr)(fp:List Addr)(tn:Nat→Heap→Prop)(J:It)(H':Hp),itv=.ref it∧Inv X pins σ H' s2∧Turn X.prog X.w X.K tg J fp it tn∧tn 0 s2.heap∧(∀b∈fp,u1 X pins H' b)∧R J H'
noncomputable def PI(X:Cx)(tg iter:Expr)(wi:TI):Prop:=
 ∀(pins:List (Addr×Obj))(s:Shared)(σ:St)(H:Hp)(R:It→Hp→Prop),Inv X pins σ H s→wi σ H R →
  wpAny (model X.prog X.w) X.A (eval iter X.env) (fun v s1=>wpAny (model X.prog X.w) X.A (pyIter v) (PIE X pins σ tg R) X.xe s1) X.xe s
theorem ad7{M:Model}{A:Around}{E:Value→Shared→Prop}{s:Shared}{tg:Expr}{it:Addr}{u:Value}{o:Obj}{n:String}{vs:Array Value}{Q:Unit→Shared→Prop}(ho:s.heap.get? it=some o)(hc:o.cls=.type n)(hd:o.data=.fields vs)
  (hn:["enumerate","zip","dict_itemiterator","dict_reverseitemiterator","odict_iterator","itertools.zip_longest","itertools.pairwise"].contains n=false) (hQ:Q () s):wpAny M A (letOwnedTupleGo tg (.ref it) u) Q E s:=by
 unfold letOwnedTupleGo;cases tg<;>first
  |exact wpAny_pure hQ
  | (cases u <;> first
    |exact wpAny_pure hQ
    | (refine wpAny_bind (wpAny_load ho ?_)
       rw[hc,hd];show wpAny M A (if(["enumerate","zip","dict_itemiterator","dict_reverseitemiterator","odict_iterator","itertools.zip_longest","itertools.pairwise"].contains n&&vs[0]?==some (rawInt _))=true then _ else _) Q E s;rw[if_neg (by intro h;rw[hn,Bool.false_and]at h;cases h)];exact wpAny_pure hQ))
noncomputable def Itl(K:W.Frag)(a:Addr):It:=
 ⟨fun i H=>∃xs x,SqL K H a xs∧xs[i]?=some x,fun i H x H'=>H'=H∧∀xs,SqL K H a xs→xs[i]?=some x,fun i H=>∃xs,SqL K H a xs∧xs.length≤i⟩
noncomputable def Itt(K:W.Frag)(a:Addr):It:=
 ⟨fun i H=>∃xs x,SqT K H a xs∧xs[i]?=some x,fun i H x H'=>H'=H∧∀xs,SqT K H a xs→xs[i]?=some x,fun i H=>∃xs,SqT K H a xs∧xs.length≤i⟩
noncomputable def Itr(lo:Int)(n:Nat):It:=⟨fun i _=>i<n,fun i H x H'=>H'=H∧x=.int (lo+i),fun i _=>n≤i⟩
theorem bd0{P:Program}{w:World}{K:W.Frag}{tg:Expr}(a it:Addr):Turn P w K tg (Itl K a) [it] it (fun i h=>h.IsListIter it a i) where
 mem:=by simp
 obj:=fun i h st b hb=>by
  have e:b=it:=by simpa using hb
  subst e;obtain⟨o,e,c,d⟩:=st;exact⟨o,e,fun v z=>by rw[d]at z;cases z⟩
 keep:=fun i h h' st k=>st.at fun o e=>k it (by simp) o e
 item:=by
  intro X hP hw hK hc i pins s σ H E I hf st hg;subst hP hw hK;obtain⟨xs,x,hq,hx⟩:=hg;obtain⟨its,rv,p,hz⟩:=I.list hq;obtain⟨u,hu,ru⟩:=rv.get hx;obtain⟨f0,f1,f2,f3,f4,f5⟩:=hf it (by simp);refine wpAny_pyNext_list_item st p.isList (x:=u) (by simpa using hu) fun h' st' sb=>?_;have I1:Inv X pins σ H {s with heap:=h'}:=I.turned (t':=s.toks) (fun b o hb e=>(sb.2 b hb).trans e) f0 f1 f3 f4 f5;obtain⟨o,e,c,d⟩:=id st';exact⟨u,rfl,ad7 (s:={s with heap:=h'}) e c d (by decide) ⟨x,H,I1,ru,⟨rfl,fun ys hy=>by rw[I.list_inj hy hq];exact hx⟩,st',fun b hb=>(hf b hb).1⟩⟩
 done:=by
  intro X hP hw hK hc i pins s σ H E I hf st hg;subst hP hw hK;obtain⟨xs,hq,hx⟩:=hg;obtain⟨its,rv,p,hz⟩:=I.list hq;obtain⟨f0,f1,f2,f3,f4,f5⟩:=hf it (by simp);have hl:=rv.length;exact wpAny_pyNext_list_end (I.ok.hd hc) st p.isList (by simp;omega) fun h' eb=>⟨rfl,I.turned (t':=s.toks) (fun b o hb e=>eb b o hb e) f0 f1 f3 f4 f5⟩
 self:=fun _ _ _ _ _ st h=>wpAny_pyIter_listiter st h
theorem a88{P:Program}{w:World}{K:W.Frag}{tg:Expr}(a it:Addr):Turn P w K tg (Itt K a) [it] it (fun i h=>h.IsTupleIter it a i) where
 mem:=by simp
 obj:=fun i h st b hb=>by
  have e:b=it:=by simpa using hb
  subst e;obtain⟨o,e,c,d⟩:=st;exact⟨o,e,fun v z=>by rw[d]at z;cases z⟩
 keep:=fun i h h' st k=>st.at fun o e=>k it (by simp) o e
 item:=by
  intro X hP hw hK hc i pins s σ H E I hf st hg;subst hP hw hK;obtain⟨xs,x,hq,hx⟩:=hg;obtain⟨its,rv,p,hz⟩:=I.tuple hq;obtain⟨u,hu,ru⟩:=rv.get hx;obtain⟨f0,f1,f2,f3,f4,f5⟩:=hf it (by simp);refine wpAny_pyNext_tuple_item st (show s.heap.IsTuple a its.toArray from p) (x:=u) (by simpa using hu) fun h' st' sb=>?_;have I1:Inv X pins σ H {s with heap:=h'}:=I.turned (t':=s.toks) (fun b o hb e=>(sb.2 b hb).trans e) f0 f1 f3 f4 f5;obtain⟨o,e,c,d⟩:=id st';exact⟨u,rfl,ad7 (s:={s with heap:=h'}) e c d (by decide) ⟨x,H,I1,ru,⟨rfl,fun ys hy=>by rw[I.tuple_inj hy hq];exact hx⟩,st',fun b hb=>(hf b hb).1⟩⟩
 done:=by
  intro X hP hw hK hc i pins s σ H E I hf st hg;subst hP hw hK;obtain⟨xs,hq,hx⟩:=hg;obtain⟨its,rv,p,hz⟩:=I.tuple hq;obtain⟨f0,f1,f2,f3,f4,f5⟩:=hf it (by simp);have hl:=rv.length;exact wpAny_pyNext_tuple_end (I.ok.hd hc) st (show s.heap.IsTuple a its.toArray from p) (by simp;omega) fun h' eb=>⟨rfl,I.turned (t':=s.toks) (fun b o hb e=>eb b o hb e) f0 f1 f3 f4 f5⟩
 self:=fun _ _ _ _ _ st h=>wpAny_pyIter_tupleiter st h
theorem a90{P:Program}{w:World}{K:W.Frag}{tg:Expr}(it:Addr)(lo:Int)(n:Nat):Turn P w K tg (Itr lo n) [it] it (fun i h=>IsRangeIter h it (lo+(i:Nat)*1) ((n:Int)-(i:Nat)) 1) where
 mem:=by simp
 obj:=fun i h st b hb=>by
  have e:b=it:=by simpa using hb
  subst e;exact⟨_,st,fun v z=>by
   have z':Data.fields _=Data.cell v:=z;cases z'⟩
 keep:=fun i h h' st k=>k it (by simp) _ st
 item:=by
  intro X hP hw hK hc i pins s σ H E I hf st hg;subst hP hw hK;obtain⟨f0,f1,f2,f3,f4,f5⟩:=hf it (by simp);have W:=Walks.range (prog:=X.prog) (w:=X.w) (I.ok.hd hc) it lo 1 n;refine W.item i s _ _ hg st fun v h' tk hv st' kk=>?_;obtain⟨t,rfl⟩:=hv;have I1:Inv X pins σ H {s with heap:=h',toks:=tk}:=I.turned (fun b o hb e=>kk b o (by simpa using hb) e) f0 f1 f3 f4 f5;refine⟨_,rfl,ad7 (s:={s with heap:=h',toks:=tk}) (n:="range_iterator") st' rfl rfl (by decide) ⟨.int (lo+i),H,I1,⟨t,?_⟩,⟨rfl,rfl⟩,st',fun b hb=>(hf b hb).1⟩⟩;rw[Int.mul_one]
 done:=by
  intro X hP hw hK hc i pins s σ H E I hf st hg;subst hP hw hK;obtain⟨f0,f1,f2,f3,f4,f5⟩:=hf it (by simp);exact wpAny_pyNext_range_end (I.ok.hd hc) st (by have:n≤i:=hg;omega) fun h' eb=>⟨rfl,I.turned (t':=s.toks) (fun b o hb e=>eb b o hb e) f0 f1 f3 f4 f5⟩
 self:=fun _ _ _ _ _ st h=>wpAny_pyIter_rangeiter st h
end L2
namespace L2
open PySem PySem.Spec PyProof.Rows
section
variable {X:Cx} {tg:Expr}
theorem au1{pins:List (Addr×Obj)}{σ:St}{H:Hp}{s:Shared}{R:It→Hp→Prop}{E:Value→Shared→Prop}{lo hi:Int}{t u v:Tok}{tk:Nat}(I:Inv X pins σ H s)(h1:-(2^62)≤lo)(h2:lo<2^62)(h3:-(2^62)≤hi)(h4:hi<2^62)
  (q:R (Itr lo (hi-lo).toNat) H):wpAny (model X.prog X.w) X.A (pyIter (.ref s.heap.objs.size)) (PIE X pins σ tg R) E {s with heap:=s.heap.push {cls:=.type "range",data:=.fields #[.int lo t,.int hi u,.int 1 v]},toks:=tk}:=by
 refine wpAny_pyIter_range (IsRange.new ..) (small_one h1 h2 h3 h4) ?_;have I1:Inv X pins σ H {s with heap:=s.heap.push {cls:=.type "range",data:=.fields #[.int lo t,.int hi u,.int 1 v]},toks:=tk}:=I.kept fun b o e=>Heap.get?_push_of_some _ e;refine⟨(s.heap.push {cls:=.type "range",data:=.fields #[.int lo t,.int hi u,.int 1 v]}).objs.size,[(s.heap.push {cls:=.type "range",data:=.fields #[.int lo t,.int hi u,.int 1 v]}).objs.size],_,_,H,rfl,
  I1.kept (t':=tk) fun b o e=>Heap.get?_push_of_some _ e,a90 _ lo (hi-lo).toNat,?_,fun b hb=>?_,q⟩
 ·have e1:lo+((0:Nat):Int)*1=lo:=by simp
  have e2:(((hi-lo).toNat:Nat):Int)-((0:Nat):Int)=Builtin.Range.rangeSize lo hi 1:=by rw[rangeSize_one];split<;>omega
  show IsRangeIter _ _ (lo+((0:Nat):Int)*1) ((((hi-lo).toNat:Nat):Int)-((0:Nat):Int)) 1;rw[e1,e2];exact Heap.get?_push_size _ rfl
 ·have e:b=(s.heap.push {cls:=.type "range",data:=.fields #[.int lo t,.int hi u,.int 1 v]}).objs.size:=by simpa using hb
  subst e;exact I1.fpOk (Nat.le_refl _) (I1.hok.fresh (Nat.le_refl _))
noncomputable def b05(ta:TA):TI:=fun σ H R=>ta σ H fun vs H1=>∃j:Int,vs=[.int j]∧-(2^62)≤j∧j<2^62∧R (Itr 0 j.toNat) H1
noncomputable def bz7(ta:TA):TI:=fun σ H R=>ta σ H fun vs H1=>∃i j:Int,vs=[.int i,.int j]∧(-(2^62)≤i∧i<2^62∧-(2^62)≤j∧j<2^62)∧R (Itr i (j-i).toNat) H1
theorem ba9{a:Expr}{ta:TA}{p pos:Pos}(hg:Gl X "range")(hm:X.mg "range"=none)(ha:PA X [a] ta)(hs:starEach [a] X.env=[(false,eval a X.env)]:=by rfl):PI X tg (.Call (.Name "range" p) [a] [] pos) (b05 ta):=by
 intro pins s σ H R I h;refine Call_ (F2 I hg hm boot_range (PyProof.Rows.callWith_type1 (thn (ha pos pins s σ H _ I h) fun us s1⟨vs,H1,I1,r1,q1⟩=>?_) hs rfl));obtain⟨j,e,q1,q2,q⟩:=q1;subst e;cases r1 with
 |cons r rr=>
  cases rr;obtain⟨t,rfl⟩:=r;exact call_range_1 (au1 I1 (by omega) (by omega) q1 q2 (by simpa using q))
theorem bc0{a b:Expr}{ta:TA}{p pos:Pos}(hg:Gl X "range")(hm:X.mg "range"=none)(ha:PA X [a,b] ta)(hs:starEach [a,b] X.env=[(false,eval a X.env),(false,eval b X.env)]:=by rfl)(hs2:starEach [b] X.env=[(false,eval b X.env)]:=by rfl):
  PI X tg (.Call (.Name "range" p) [a,b] [] pos) (bz7 ta):=by
 intro pins s σ H R I h;refine Call_ (F2 I hg hm boot_range (PyProof.Rows.callWith_type1 (thn (ha pos pins s σ H _ I h) fun us s1⟨vs,H1,I1,r1,q1⟩=>?_) (by rw[hs,hs2]) (by rw[hs2];rfl)));obtain⟨i,j,e,⟨q1,q2,q3,q4⟩,q⟩:=q1;subst e;cases r1 with
 |cons r rr=>
  cases rr with
  |cons r' rr=>
   cases rr;obtain⟨t,rfl⟩:=r;obtain⟨t',rfl⟩:=r';exact call_range_2 (au1 I1 q1 q2 q3 q4 q)
noncomputable def b81(wi:TI)(g:TG)(tb:TS):TS:=fun D σ H=>wi σ H fun J H1=>∃W:Nat→Nat→St→Hp→Prop,(∃m,W 0 m σ H1)∧∀i m σ H,W i m σ H →
 (J.stop i H∧D.nx σ H)∨(J.go i H∧∃N:St→Hp→Prop,(∀σ' H',N σ' H'→∃m',m'<m∧W (i+1) m' σ' H')∧∀x H',J.yld i H x H'→g x σ H' fun σ2 H2=>tb {D with nx:=N,ct:=N,bk:=D.nx} σ2 H2)
noncomputable def L4(fp:List Addr)(h:Heap):List (Addr×Obj):=fp.filterMap fun b=>(h.get? b).map fun o=>(b,o)
theorem P5{fp:List Addr}{h:Heap}{b:Addr}{o:Obj}(hb:b∈fp)(e:h.get? b=some o):(b,o)∈L4 fp h:=List.mem_filterMap.mpr ⟨b,hb,by rw[e];rfl⟩
theorem bc6{fp:List Addr}{h:Heap}{p:Addr×Obj}(hp:p∈L4 fp h):p.1∈fp∧h.get? p.1=some p.2:=by
 obtain⟨b,hb,e⟩:=List.mem_filterMap.mp hp;cases q:h.get? b with
 |none=>rw[q]at e;cases e
 |some o=>
  rw[q]at e;have e':(b,o)=p:=Option.some.inj e;subst e';exact⟨hb,q⟩
theorem Inv.pinned{pins:List (Addr×Obj)}{σ:St}{H:Hp}{s:Shared}{fp:List Addr}(I:Inv X pins σ H s)(hf:∀b∈fp,u1 X pins H b)(ho:∀b∈fp,∃o,s.heap.get? b=some o∧∀v,o.data≠.cell v):Inv X (pins++L4 fp s.heap) σ H s:=
 I.pins_of fun p hp=>(List.mem_append.mp hp).elim (fun z=>I.pin p (List.mem_append_right _ z)) fun z=>by
  obtain⟨hb,e⟩:=bc6 z;obtain⟨f0,f1,f2,_⟩:=hf p.1 hb;obtain⟨o,e',d⟩:=ho p.1 hb;rw[e]at e';cases e';exact⟨e,f0,f1,f2,d⟩
theorem Inv.unpinned{pins pl:List (Addr×Obj)}{σ:St}{H:Hp}{s:Shared}(I:Inv X (pins++pl) σ H s):Inv X pins σ H s:=I.pins_of fun p hp=>I.pin p (List.mem_append_right _ (List.mem_append_left _ hp))
theorem bs4{iter:Expr}{body:List Stmt}{wi:TI}{g:TG}{tb:TS}{pos:Pos}(hp:PassesOwn (model X.prog X.w) X.A X.env X.xe)(hc:X.calm=true)(hi:PI X tg iter wi)(hg:PG X tg g)(hb:PSs X body tb)
  (hs:∀x,foldedSetIterable iter X.env x=pure x:=by intro _;rfl):PS X (.For tg iter body [] pos) (b81 wi g tb):=by
 intro pins s σ H D I h;refine wpAny_For (thn (hi pins s σ H _ I h) fun v s1 h1=>thn h1 fun itv s2 h2=>?_) hs;obtain⟨it,fp,tn,J,H2,e,I2,T,st2,f2,W,⟨m0,w0⟩,turn⟩:=h2;subst e;have stat:∀{H':Hp},(∀b∈fp,H' b=none)→∀b∈fp,u1 X pins H' b:=fun hn b hb=>⟨hn b hb,(f2 b hb).2⟩;refine codeAny_forLoop_any (fun n s'=>∃i σ' H',Inv X pins σ' H' s'∧tn i s'.heap∧(∀b∈fp,H' b=none)∧W i n σ' H') ?_ m0 ⟨0,σ,H2,I2,st2,fun b hb=>(f2 b hb).1,w0⟩;rintro n s3 ⟨i,σ3,H3,I3,st3,fr3,w3⟩
 rcases turn i n σ3 H3 w3 with⟨stop,qn⟩|⟨go,N,hN,step⟩
 ·refine wpAny_passesOwn hp (thn (T.done X rfl rfl rfl hc i pins s3 σ3 H3 X.xe I3 (stat fr3) st3 stop) fun r s4⟨hr,I4⟩=>?_);subst hr;exact wpAny_execs_nil ⟨σ3,H3,I4,qn⟩
 ·refine wpAny_passesOwn hp (thn (T.item X rfl rfl rfl hc i pins s3 σ3 H3 X.xe I3 (stat fr3) st3 go) fun r s4⟨u,hr,h4⟩=>?_);subst hr;refine wpAny_passesOwn hp (thn h4 fun _ s5⟨x,H5,I5,r5,y5,st5,fr5⟩=>?_);have I5':=I5.pinned (stat fr5) (T.obj _ _ st5);refine wpAny_passesOwn hp (thn (hg _ s5 σ3 H5 x u _ I5' r5 (step x H5 y5)) fun _ s6⟨σ6,H6,I6,q6⟩=>?_);refine wpAny_passesOwn hp (thn (hb _ s6 σ6 H6 _ I6 q6) fun f s7 q7=>?_);have again:∀{σ7:St}{H7:Hp},Inv X (pins++L4 fp s5.heap) σ7 H7 s7→N σ7 H7→∃m,m<n∧∃i σ' H',Inv X pins σ' H' s7∧tn i s7.heap∧(∀b∈fp,H' b=none)∧W i m σ' H':=fun{σ7 H7}I7 n7=>by
   obtain⟨m',hm,w7⟩:=hN σ7 H7 n7;refine⟨m',hm,i+1,σ7,H7,I7.unpinned,T.keep _ _ _ st5 fun b hb o e=>(I7.pin (b,o) (List.mem_append_right _ (List.mem_append_right _ (P5 hb e)))).1,fun b hb=>?_,w7⟩;obtain⟨o,e,d⟩:=T.obj _ _ st5 b hb;exact(I7.pin (b,o) (List.mem_append_right _ (List.mem_append_right _ (P5 hb e)))).2.1
  cases f with
  |next=>obtain⟨σ7,H7,I7,n7⟩:=q7;exact again I7 n7
  |cont=>obtain⟨σ7,H7,I7,n7⟩:=q7;exact again I7 n7
  |brk=>obtain⟨σ7,H7,I7,q7⟩:=q7;exact⟨σ7,H7,I7.unpinned,q7⟩
  |ret v=>obtain⟨x7,σ7,H7,I7,r7,q7⟩:=q7;exact⟨x7,σ7,H7,I7.unpinned,r7,q7⟩
end
end L2
namespace L2
open PySem PySem.Spec PyProof.Rows
noncomputable abbrev R2:=V→V→Hp→VK→Prop
noncomputable def OpR(X:Cx)(f:Value→Value→Sem Value)(r:R2):Prop:=
 ∀(pins:List (Addr×Obj))(s:Shared)(σ:St)(H:Hp)(x y:V)(v u:Value)(Q:VK),Inv X pins σ H s→d7 x v→d7 y u→r x y H Q →
  wpAny (model X.prog X.w) X.A (f v u) (EP X pins σ Q) X.xe s
noncomputable def UnR(X:Cx)(f:Value→Sem Value)(r:V→Hp→VK→Prop):Prop:=
 ∀(pins:List (Addr×Obj))(s:Shared)(σ:St)(H:Hp)(x:V)(v:Value)(Q:VK),Inv X pins σ H s→d7 x v→r x H Q →
  wpAny (model X.prog X.w) X.A (f v) (EP X pins σ Q) X.xe s
noncomputable def v1(X:Cx)(f:Value)(r:List V→Hp→VK→Prop):Prop:=
 ∀(pins:List (Addr×Obj))(s:Shared)(σ:St)(H:Hp)(xs:List V)(us:List Value)(Q:VK),Inv X pins σ H s→d4 xs us→r xs H Q →
  wpAny (model X.prog X.w) X.A (call f us) (EP X pins σ Q) X.xe s
noncomputable def tOp(r:R2)(ta tb:TE):TE:=fun σ H Q=>ta σ H fun x H1=>tb σ H1 fun y H2=>r x y H2 Q
noncomputable def tUn(r:V→Hp→VK→Prop)(ta:TE):TE:=fun σ H Q=>ta σ H fun x H1=>r x H1 Q
noncomputable def rI(C:Int→Int→Prop)(g:Int→Int→V):R2:=fun x y H Q=>∃i j,x=.int i∧y=.int j∧C i j∧Q (g i j) H
noncomputable def rI0(g:Int→Int→V):R2:=fun x y H Q=>∃i j,x=.int i∧y=.int j∧Q (g i j) H
noncomputable def rU(g:Int→V):V→Hp→VK→Prop:=fun x H Q=>∃i,x=.int i∧Q (g i) H
section
variable {X:Cx} {a b c:Expr} {ta tb tc:TE} {pos:Pos}
theorem am8(ha:PE X a ta)(hb:PE X b tb){pins:List (Addr×Obj)}{s:Shared}{σ:St}{H:Hp}{R:V→V→Hp→Prop}(I:Inv X pins σ H s)
  (h:ta σ H fun x H1=>tb σ H1 fun y H2=>R x y H2) {Q:Value→Shared→Prop} {f:Value→Value→Sem Value}
  (hf:∀v u s2 x y H2,Inv X pins σ H2 s2→d7 x v→d7 y u→R x y H2→wpAny (model X.prog X.w) X.A (f v u) Q X.xe s2) :
  wpAny (model X.prog X.w) X.A (eval a X.env) (fun v s₁=>wpAny (model X.prog X.w) X.A (eval b X.env) (fun u s₂=>wpAny (model X.prog X.w) X.A (f v u) Q X.xe s₂) X.xe s₁) X.xe s:=by
 refine thn (ha pins s σ H _ I h) fun v s1⟨x,H1,I1,r1,q1⟩=>?_;refine thn (hb pins s1 σ H1 _ I1 q1) fun u s2⟨y,H2,I2,r2,q2⟩=>?_;exact hf v u s2 x y H2 I2 r1 r2 q2
theorem D8{op:Operator}{r:R2}(ho:OpR X (binaryOp op) r)(ha:PE X a ta)(hb:PE X b tb):PE X (.BinOp a op b pos) (tOp r ta tb):=by
 intro pins s σ H Q I h;exact wpAny_BinOp (am8 ha hb I h fun v u s2 x y H2 I2 rx ry q=>ho pins s2 σ H2 x y v u Q I2 rx ry q)
theorem b35{op:UnaryOp}{r:V→Hp→VK→Prop}(ho:UnR X (unaryOp op) r)(ha:PE X a ta):PE X (.UnaryOp op a pos) (tUn r ta):=by
 intro pins s σ H Q I h;exact UnaryOp_ (thn (ha pins s σ H _ I h) fun v s1⟨x,H1,I1,r1,q1⟩=>ho pins s1 σ H1 x v Q I1 r1 q1)
theorem opI{f:Value→Value→Sem Value}{C:Int→Int→Prop}{g:Int→Int→Int}
  (rule:∀(i j:Int)(t u:Tok)(s:Shared)(Q:Value→Shared→Prop)(E:Value→Shared→Prop),C i j→Q (.int (g i j) s.toks) {s with toks:=s.toks+1}→wpAny (model X.prog X.w) X.A (f (.int i t) (.int j u)) Q E s) :
  OpR X f (rI C fun i j=>.int (g i j)):=by
 intro pins s σ H x y v u Q I rx ry h;obtain⟨i,j,rfl,rfl,hc,q⟩:=h;obtain⟨t,rfl⟩:=rx;obtain⟨t',rfl⟩:=ry;exact rule i j t t' s _ _ hc ⟨.int (g i j),H,I.tok _,⟨_,rfl⟩,q⟩
theorem a30{f:Value→Value→Sem Value}{g:Int→Int→Int}
  (rule:∀(i j:Int)(t u:Tok)(s:Shared)(Q:Value→Shared→Prop)(E:Value→Shared→Prop),Q (.int (g i j) s.toks) {s with toks:=s.toks+1}→wpAny (model X.prog X.w) X.A (f (.int i t) (.int j u)) Q E s) :
  OpR X f (rI0 fun i j=>.int (g i j)):=by
 intro pins s σ H x y v u Q I rx ry h;obtain⟨i,j,rfl,rfl,q⟩:=h;obtain⟨t,rfl⟩:=rx;obtain⟨t',rfl⟩:=ry;exact rule i j t t' s _ _ ⟨.int (g i j),H,I.tok _,⟨_,rfl⟩,q⟩
theorem ae6{f:Value→Value→Sem Value}{g:Int→Int→Bool}
  (rule:∀(i j:Int)(t u:Tok)(s:Shared)(Q:Value→Shared→Prop)(E:Value→Shared→Prop),Q (.bool (g i j)) s→wpAny (model X.prog X.w) X.A (f (.int i t) (.int j u)) Q E s) :
  OpR X f (rI0 fun i j=>.bl (g i j)):=by
 intro pins s σ H x y v u Q I rx ry h;obtain⟨i,j,rfl,rfl,q⟩:=h;obtain⟨t,rfl⟩:=rx;obtain⟨t',rfl⟩:=ry;exact rule i j t t' s _ _ ⟨.bl (g i j),H,I,rfl,q⟩
noncomputable def am7(i j:Int):Prop:=0≤j∧j≤1000000∧i.natAbs<2^64
noncomputable def am4(i j:Int):Prop:=(-(2^64)<i∧i<2^64)∨(-(2^64)<j∧j<2^64)
theorem am4.ok{i j:Int}(h:am4 i j):IntMulOk i j:=by
 rcases h with⟨h1,h2⟩|⟨h1,h2⟩
 ·exact .of_left (intBits_le_64 h1 h2)
 ·exact .of_right (intBits_le_64 h1 h2)
theorem bw7:OpR X (binaryOp .Add) (rI0 fun i j=>.int (i+j)):=a30 fun _ _ _ _ _ _ _ q=>add_int q
theorem bs1:OpR X (binaryOp .Sub) (rI0 fun i j=>.int (i-j)):=a30 fun _ _ _ _ _ _ _ q=>sub_int q
theorem by6:OpR X (binaryOp .Mod) (rI (fun _ j=>0<j) fun i j=>.int (i % j)):=opI fun i j _ _ _ _ _ hc q=>by
 have h1:(0:Int)<j:=hc;exact mod_int' (by omega) (by rw[Int.fmod_eq_emod_of_nonneg i (by omega)];exact q)
theorem bv9:OpR X (binaryOp .Pow) (rI am7 fun i j=>.int (i^j.toNat)):=opI fun _ _ _ _ _ _ _ hc q=>pow_int_small hc.1 hc.2.1 hc.2.2 q
theorem unI{f:Value→Sem Value}{g:Int→Int}
  (rule:∀(i:Int)(t:Tok)(s:Shared)(Q:Value→Shared→Prop)(E:Value→Shared→Prop),Q (.int (g i) s.toks) {s with toks:=s.toks+1}→wpAny (model X.prog X.w) X.A (f (.int i t)) Q E s) :
  UnR X f (rU fun i=>.int (g i)):=by
 intro pins s σ H x v Q I rx h;obtain⟨i,rfl,q⟩:=h;obtain⟨t,rfl⟩:=rx;exact rule i t s _ _ ⟨.int (g i),H,I.tok _,⟨_,rfl⟩,q⟩
theorem bx2:UnR X (unaryOp .USub) (rU fun i=>.int (-i)):=unI fun _ _ _ _ _ q=>neg_int q
end
section
variable {X:Cx} {a b c:Expr} {ta tb tc:TE} {pos:Pos}
theorem bz4:OpR X (compareOp .Lt) (rI0 fun i j=>.bl (decide (i<j))):=ae6 fun _ _ _ _ _ _ _ q=>lt_int q
theorem b46:OpR X (compareOp .LtE) (rI0 fun i j=>.bl (decide (i≤j))):=ae6 fun _ _ _ _ _ _ _ q=>le_int q
theorem b17:OpR X (compareOp .Gt) (rI0 fun i j=>.bl (decide (j<i))):=ae6 fun _ _ _ _ _ _ _ q=>gt_int q
theorem b22:OpR X (compareOp .GtE) (rI0 fun i j=>.bl (decide (j≤i))):=ae6 fun _ _ _ _ _ _ _ q=>ge_int q
theorem OpR.or{f:Value→Value→Sem Value}{r r':R2}(h:OpR X f r)(h':OpR X f r'):OpR X f (fun x y H Q=>r x y H Q∨r' x y H Q):=by
 intro pins s σ H x y v u Q I rx ry q
 rcases q with q|q
 ·exact h pins s σ H x y v u Q I rx ry q
 ·exact h' pins s σ H x y v u Q I rx ry q
theorem b88(b:Expr){op:CmpOp}(h:op≠.In:=by decide)(h2:op≠.NotIn:=by decide):behindInMarks op b=false:=by
 have e1:(op==CmpOp.In)=false:=by cases op<;>first|rfl|exact absurd rfl h
 have e2:(op==CmpOp.NotIn)=false:=by cases op<;>first|rfl|exact absurd rfl h2
 cases b<;>simp[behindInMarks,e1,e2]
theorem bo3{op:CmpOp}{r:R2}(ho:OpR X (compareOp op) r)(ha:PE X a ta)(hb:PE X b tb)(hm:behindInMarks op b=false):PE X (.Compare a [op] [b] pos) (tOp r ta tb):=by
 intro pins s σ H Q I h;exact wpAny_Compare1 (am8 ha hb I h fun v u s2 x y H2 I2 rx ry q=>ho pins s2 σ H2 x y v u Q I2 rx ry q) hm
noncomputable def b43(t:TE):TT:=fun σ H Q=>t σ H fun x H'=>∃k,x=.bl k∧Q k H'
theorem bk0{op:CmpOp}{r:R2}(ho:OpR X (compareOp op) r)(ha:PE X a ta)(hb:PE X b tb)(hm:behindInMarks op b=false):PT X (.Compare a [op] [b] pos) (b43 (tOp r ta tb)):=by
 intro pins s σ H Q I h;refine wpAny_isTrue_Compare1 (thn (ha pins s σ H _ I h) fun v s1⟨x,H1,I1,r1,q1⟩=>thn (hb pins s1 σ H1 _ I1 q1) fun u s2⟨y,H2,I2,r2,q2⟩=>
  thn (ho pins s2 σ H2 x y v u _ I2 r1 r2 q2) fun c s3⟨z,H3,I3,r3,k,e,q3⟩=>?_) hm
 subst e;cases r3;exact wpAny_truthy_bool ⟨H3,I3,q3⟩
theorem L6:(sizeLine:Nat)<2^63:=by rw[sizeLine_eq];decide
theorem F6{x:V}{us:List Value}(r:d4 [x] us):∃u,us=[u]∧d7 x u:=by
 cases r with
 |cons r1 r2=>cases r2;exact⟨_,rfl,r1⟩
theorem b08{x y:V}{us:List Value}(r:d4 [x,y] us):∃u w',us=[u,w']∧d7 x u∧d7 y w':=by
 cases r with
 |cons r1 r2=>
  cases r2 with
  |cons r3 r4=>cases r4;exact⟨_,_,rfl,r1,r3⟩
theorem be5:v1 X (.builtin "abs") (fun xs H Q=>∃i,xs=[.int i]∧Q (.int (if i<0 then -i else i)) H):=by
 intro pins s σ H xs us Q I r h;obtain⟨i,rfl,q⟩:=h;obtain⟨u,rfl,t,rfl⟩:=F6 r;exact call_abs_int fun u tk=>⟨.int (if i<0 then -i else i),H,I.tok _,⟨_,rfl⟩,q⟩
theorem bb4(hc:X.calm=true):v1 X (.builtin "max") (fun xs H Q=>∃i j,xs=[.int i,.int j]∧Q (.int (if j>i then j else i)) H):=by
 intro pins s σ H xs us Q I r h;obtain⟨i,j,rfl,q⟩:=h;obtain⟨u,w',rfl,⟨t,rfl⟩,⟨t',rfl⟩⟩:=b08 r;refine max_two_ints (I.ok.hd hc) fun h' tk k=>⟨_,H,I.kept k,?_,q⟩
 by_cases hj:j>i
 ·rw[if_pos hj,if_pos hj];exact⟨_,rfl⟩
 ·rw[if_neg hj,if_neg hj];exact⟨_,rfl⟩
theorem bc8:v1 X (.type "int") (fun xs H Q=>(∃i,xs=[.int i]∧Q (.int i) H)∨∃k,xs=[.bl k]∧Q (.int (if k then 1 else 0)) H):=by
 intro pins s σ H xs us Q I r h
 rcases h with⟨i,rfl,q⟩|⟨k,rfl,q⟩
 ·obtain⟨u,rfl,t,rfl⟩:=F6 r;exact call_int_int ⟨.int i,H,I,⟨_,rfl⟩,q⟩
 ·obtain⟨u,rfl,r1⟩:=F6 r;cases r1;exact call_int_bool ⟨.int (if k then 1 else 0),H,I.tok _,⟨_,rfl⟩,q⟩
end
end L2
namespace L2
open PySem PySem.Spec PyProof.Rows
theorem y8.some_of{v:V}{o:Option Value}(r:y8 (some v) o):∃u,o=some u∧d7 v u:=by
 cases o with
 |none=>exact(show False from r).elim
 |some u=>exact⟨u,rfl,r⟩
structure Cls(K:W.Frag)(C:Addr):Prop where
 pg:W.plainGet K C Str.empty=true
 hd:W.hasDictIn K C=true
 po:W.plainOver K C=true
 sa:W.findIn K (.ref C) "__setattr__"=some (some (.builtin "object.__setattr__"))
noncomputable def az8(K:W.Frag)(C:Addr)(f:Str):Prop:=W.findIn K (.ref C) f=some none
structure Meth(K:W.Frag)(C:Addr)(m:Str)(f:Addr):Prop where
 at_:W.findIn K (.ref C) m=some (some (.ref f))
 fn:W.isFn K (.ref f)=true
 kp:W.keepIn K (.ref f)=true
end L2
namespace L2
open PySem PySem.Spec PyProof.Rows
structure Room(k:Nat)(A:Around):Prop where
 hd:A.handled=none
 dp:A.depth+3*k+5<recursionLimit
 un:A.units+16*k+200<cLine
theorem Room.deeper{k:Nat}{A:Around}(r:Room (k+1) A)(env:Env):Room k (A.deeper env):=
 ⟨r.hd,by have:=r.dp;show A.depth+1+3*k+5<_;omega,by have:=r.un;show A.units+3+16*k+200<_;omega⟩
theorem Room.depth{k:Nat}{A:Around}(r:Room k A):A.depth<recursionLimit:=by have:=r.dp;omega
noncomputable def b62:TA:=fun _ H Q=>Q [] H
noncomputable def b19(ta:TE)(tr:TA):TA:=fun σ H Q=>ta σ H fun x H1=>tr σ H1 fun xs H2=>Q (x::xs) H2
section
variable {X:Cx} {e:Expr} {es:List Expr} {te:TE} {t:TA} {pos:Pos}
theorem bx3:PA X [] b62:=fun _ _ _ _ H Q I h=>Calls.spliced_nil ⟨[],H,I,.nil,h⟩
theorem bn4(ha:PE X e te)(hr:PA X es t)(hs:starEach (e::es) X.env=(false,eval e X.env)::starEach es X.env:=by rfl):PA X (e::es) (b19 te t):=by
 intro pos pins s σ H Q I h;rw[hs];show wpAny _ _ (spliced ((false,eval e X.env)::backTo pos (starEach es X.env))) _ _ s;refine Calls.spliced_cons (thn (ha pins s σ H _ I h) fun u s1⟨x,H1,I1,r1,q1⟩=>?_);exact thn (hr pos pins s1 σ H1 _ I1 q1) fun us s2⟨xs,H2,I2,r2,q2⟩=>⟨x::xs,H2,I2,.cons r1 r2,q2⟩
noncomputable def b57(t:TA):TE:=fun σ H Q=>t σ H fun xs H1=>xs.length≤sizeLine∧∀p,H1 p=none→Q (.ref p) (upd H1 p (.tup xs))
noncomputable def b80(t:TA):TE:=fun σ H Q=>t σ H fun xs H1=>xs.length≤sizeLine∧∀p,H1 p=none→Q (.ref p) (upd H1 p (.lst xs))
theorem bs2{x1}(h:PA X es t):PE X (.Tuple es x1 pos) (b57 t):=by
 intro pins s σ H Q I hq;refine wpAny_Tuple_spliced (thn (h pos pins s σ H _ I hq) fun us s1⟨xs,H1,I1,r,z,q⟩=>⟨by rw[←r.length];exact z,?_⟩);have hf:H1 s1.heap.objs.size=none:=I1.hok.fresh (Nat.le_refl _);refine⟨.ref s1.heap.objs.size,upd H1 s1.heap.objs.size (.tup xs),I1.laid (t':=s1.toks) (fun b u e=>Heap.get?_push_of_some _ e) (Nat.le_refl _) ?_,rfl,q _ hf⟩;exact⟨z,us,r,v0.new _ _⟩
theorem bw2(h:PA X es t):PE X (.List es pos) (b80 t):=by
 intro pins s σ H Q I hq;refine wpAny_List_spliced (thn (h pos pins s σ H _ I hq) fun us s1⟨xs,H1,I1,r,z,q⟩=>⟨by rw[←r.length];exact z,?_⟩);have hf:H1 s1.heap.objs.size=none:=I1.hok.fresh (Nat.le_refl _);refine⟨.ref s1.heap.objs.size,upd H1 s1.heap.objs.size (.lst xs),I1.laid (t':=s1.toks) (fun b u e=>Heap.get?_push_of_some _ e) (Nat.le_refl _) ?_,rfl,q _ hf⟩;exact⟨z,us,0,r,Heap.get?_push_size _ rfl⟩
end
noncomputable abbrev Sp:=List V→Hp→VK→XK→Prop
noncomputable abbrev CXT:=List Env→Hp→Shared→XK→Value→Shared→Prop
structure Env0(P:Program)(w:World)(K:W.Frag)(mg:Str→Option Value)(base:Heap)(A:Around)(outer:List Env)(s:Shared)(H:Hp):Prop where
 frames:A.frames=some outer
 mod:Mod K mg base
 bs:∀b o,base.get? b=some o→s.heap.get? b=some o∧H b=none
 bsz:base.objs.size≤s.heap.objs.size
 funs:s.heap.FunFrames base outer
 frf:∀b∈frs outer,H b=none
 hok:HOk P w H s.heap
 bare:AllBare s.gens
noncomputable def CE(outer:List Env)(P:Program)(w:World)(H:Hp)(s:Shared)(Q:VK)(u:Value)(s':Shared):Prop:=
 ∃v H',s'.os=s.os∧AllBare s'.gens∧Un (frs outer) [] H H' s.heap s'.heap∧HOk P w H' s'.heap∧d7 v u∧Q v H'
noncomputable def CR(CX:CXT)(outer:List Env)(P:Program)(w:World)(H:Hp)(s:Shared)(Q:VK)(E:XK)(r:Result)(s':Shared):Prop:=
 match r with
 |.ok (.ret u)=>CE outer P w H s Q u s'
 |.ok _=>False
 |.error e=>CX outer H s E e s'
structure FnOk(P:Program)(w:World)(K:W.Frag)(mg:Str→Option Value)(base:Heap)(CX:CXT)(k:Nat)(f:Addr)(fd:FuncData)(ps:List Str)(sp:Sp):Prop where
 len:∀vs H Q E,sp vs H Q E→vs.length=ps.length
 run:∀(A:Around)(outer:List Env)(s:Shared)(H:Hp)(args:Args)(us:List Value)(vs:List V)(Q:VK)(E:XK),Room k A→Env0 P w K mg base A outer s H→BindsTo s fd args (ps.zip us)→d4 vs us→sp vs H Q E →
  codeAny (model P w) A (.call (.ref f) args) (CR CX outer P w H s Q E) s
section
variable {X:Cx} {pins:List (Addr×Obj)} {σ:St} {H:Hp} {s s':Shared}
theorem Inv.env0(I:Inv X pins σ H s):Env0 X.prog X.w X.K X.mg X.base X.A X.stack s H:=
 ⟨I.ok.frames,I.ok.mod,I.bs,Nat.le_trans I.ok.bsz I.sz,I.stack,I.stkFree,I.hok,I.bare⟩
theorem Inv.after{Q:VK}{u:Value}(I:Inv X pins σ H s)(h:CE X.stack X.prog X.w H s Q u s'):EP X pins σ Q u s':=by
 obtain⟨v,H',os,bare,un,hok,r,q⟩:=h;obtain⟨hh,g,d,t,os'⟩:=s';obtain rfl:os'=s.os:=os;exact⟨v,H',I.call (h':=hh) (g':=g) (d':=d) (t':=t) (ch:=[]) un hok bare (fun b z=>absurd z (by simp)),r,q⟩
end
noncomputable def b32(sp:Sp)(dvs:List V)(E:XK)(t:TA):TE:=fun σ H Q=>t σ H fun vs H1=>sp (vs++dvs) H1 Q E
noncomputable def y6(K:W.Frag)(fd:FuncData)(ps:List Str)(ds:List Value):Prop:=
 ∀(s:Shared)(us:List Value),K.In s.heap→(us++ds).length=ps.length→BindsTo s fd ⟨us,[]⟩ (ps.zip (us++ds))
theorem y6.all{K:W.Frag}{fd:FuncData}{ps:List Str}(h:∀us:List Value,us.length=ps.length→bindArgs fd ⟨us,[]⟩=pure (ps.zip us)):y6 K fd ps []:=fun s us _ hl=>by
 rw[List.append_nil]at hl ⊢;exact .of_eq (h us hl)
noncomputable def ak7(CX:CXT)(X:Cx)(E:XK):Prop:=∀(pins:List (Addr×Obj))(σ:St)(H:Hp)(s:Shared)(e:Value)(s':Shared),Inv X pins σ H s→CX X.stack H s E e s'→X.xe e s'
section
variable {X:Cx} {CX:CXT} {k:Nat} {f C:Addr} {fd:FuncData} {ps:List Str} {sp:Sp} {dvs:List V} {ds:List Value} {E:XK} {x m:Str} {p pos apos:Pos} {e o:Expr} {es:List Expr} {ta:TE} {t:TA}
theorem ak3{pins:List (Addr×Obj)}{σ:St}{H:Hp}{s:Shared}{Q:VK}{us:List Value}{vs:List V}(F:FnOk X.prog X.w X.K X.mg X.base CX k f fd ps sp)(hr:Room k X.A)(hb:y6 X.K fd ps ds)(hd:d4 dvs ds)(hx:ak7 CX X E)
  (I:Inv X pins σ H s) (r:d4 vs us) (h:sp (vs++dvs) H Q E):wpAny (model X.prog X.w) X.A (call (.ref f) us) (EP X pins σ Q) X.xe s:=by
 have r2:d4 (vs++dvs) (us++ds):=r.append hd;have hl:(us++ds).length=ps.length:=by rw[←r2.length];exact F.len _ _ _ _ h
 refine wpAny_call (codeAny_mono (F.run X.A X.stack s H ⟨us,[]⟩ (us++ds) (vs++dvs) Q E hr I.env0 (hb s us I.kIn hl) r2 h) fun r s' hq=>?_);cases r with
 |error e=>exact hx pins σ H s e s' I hq
 |ok fl=>
  cases fl with
  |ret u=>exact I.after hq
  |next=>exact False.elim hq
  |brk=>exact False.elim hq
  |cont=>exact False.elim hq
theorem bn9(F:FnOk X.prog X.w X.K X.mg X.base CX k f fd ps sp)(hr:Room k X.A)(hg:Gl X x)(hm:X.mg x=some (.ref f))(hk:W.keepIn X.K (.ref f)=true)(hb:y6 X.K fd ps ds)(hd:d4 dvs ds)(hx:ak7 CX X E)
  (ha:PA X (e::es) t) (hdb:(x==("__debug__":Str))=false:=by decide) (he:starEach (e::es) X.env=(false,eval e X.env)::starEach es X.env:=by rfl) (hpl:(backTo pos (starEach es X.env)).any (·.1)=false:=by rfl) :
  PE X (.Call (.Name x p) (e::es) [] pos) (b32 sp dvs E t):=by
 intro pins s σ H Q I h;refine wpAny_Call_Name_kw (U6 I hg hm ?_ hdb);refine W.callWith_K (h₀:=X.base) I.ok.mod.kin hk (thn (ha pos pins s σ H _ I h) fun us s1⟨vs,H1,I1,r,q⟩=>⟨I1.kIn,?_⟩) he hpl;exact ak3 F hr hb hd hx I1 r q
structure Mk(K:W.Frag)(C f:Addr):Prop where
 makes:W.makesIn K C=true
 init:W.findIn K (.ref C) "__init__"=some (some (.ref f))
 fn:W.isFn K (.ref f)=true
 kp:W.keepIn K (.ref C)=true
end
structure FnScope(N P:List Str)(sc:Scope):Prop where
 kind:sc.kind=.function
 co:sc.isCoroutine=false
 gen:sc.isGenerator=false
 nd:N.Nodup
 pre:N.take P.length=P
 par:∀x∈P,sc.names.lookup x=some .local∨sc.names.lookup x=some .cell
 nofree:∀y∈sc.names,y.2≠.free
theorem aq4{kindOf:Str→Option NameKind}{x:Str}:∀{binds:List (Str×Value)}{m:Str→Option Value},(∀v,(x,v)∉binds)→bindL kindOf binds m x=m x
 |[],_,_=>rfl
 |(n,v)::r,m,h=>by
  unfold bindL;rw[aq4 fun w hw=>h w (List.mem_cons_of_mem _ hw)]
  split
  ·have:x≠n:=by rintro rfl;exact h v List.mem_cons_self
   simp[this]
  ·rfl
theorem as2{kindOf:Str→Option NameKind}{x:Str}:∀{binds:List (Str×Value)}{m:Str→Option Value},(∀v,(x,v)∉binds)→bindC kindOf binds m x=m x
 |[],_,_=>rfl
 |(n,v)::r,m,h=>by
  unfold bindC;rw[as2 fun w hw=>h w (List.mem_cons_of_mem _ hw)]
  split
  ·rfl
  ·have:x≠n:=by rintro rfl;exact h v List.mem_cons_self
   simp[this]
theorem ar0{kindOf:Str→Option NameKind}{x:Str}{v:Value}:∀{P:List Str}{vs:List Value}{i:Nat}{m:Str→Option Value},P.Nodup→P[i]?=some x→vs[i]?=some v→kindOf x=some .local →
  bindL kindOf (P.zip vs) m x=some v
 |[],_,_,_,_,h,_,_=>by simp at h
 |_::_,[],_,_,_,_,h,_=>by simp at h
 |p::P,w::vs,0,m,nd,h1,h2,hk=>by
  simp at h1 h2;subst h1;subst h2;show bindL kindOf ((p,w)::P.zip vs) m p=_;unfold bindL;rw[aq4 fun v hv=>(List.nodup_cons.mp nd).1 (List.of_mem_zip hv).1,if_pos hk];simp
 |p::P,w::vs,i+1,m,nd,h1,h2,hk=>by
  show bindL kindOf ((p,w)::P.zip vs) m x=_;unfold bindL;exact ar0 (i:=i) (List.nodup_cons.mp nd).2 (by simpa using h1) (by simpa using h2) hk
theorem aq6{kindOf:Str→Option NameKind}{x:Str}{v:Value}:∀{P:List Str}{vs:List Value}{i:Nat}{m:Str→Option Value},P.Nodup→P[i]?=some x→vs[i]?=some v→kindOf x≠some .local →
  bindC kindOf (P.zip vs) m x=some v
 |[],_,_,_,_,h,_,_=>by simp at h
 |_::_,[],_,_,_,_,h,_=>by simp at h
 |p::P,w::vs,0,m,nd,h1,h2,hk=>by
  simp at h1 h2;subst h1;subst h2;show bindC kindOf ((p,w)::P.zip vs) m p=_;unfold bindC;rw[as2 fun v hv=>(List.nodup_cons.mp nd).1 (List.of_mem_zip hv).1,if_neg hk];simp
 |p::P,w::vs,i+1,m,nd,h1,h2,hk=>by
  show bindC kindOf ((p,w)::P.zip vs) m x=_;unfold bindC;exact aq6 (i:=i) (List.nodup_cons.mp nd).2 (by simpa using h1) (by simpa using h2) hk
noncomputable def p9(N:List Str)(vs:List V):St:=vs.map some++List.replicate (N.length-vs.length) none
noncomputable def ag4(CX:CXT)(P:Program)(w:World)(K:W.Frag)(mg:Str→Option Value)(base:Heap)(N:List Str)(qual:Str)(scope:Scope)(f:Addr)(cd:Value)(A:Around)(outer:List Env)(s:Shared)(H:Hp)(E:XK):Cx where
 prog:=P
 w:=w
 K:=K
 mg:=mg
 base:=base
 A:=A.deeper (envOfC qual scope s.heap.objs.size f cd)
 N:=N
 s₀:=s
 H₀:=H
 env:=envOfC qual scope s.heap.objs.size f cd
 outer:=outer
 stack:=envOfC qual scope s.heap.objs.size f cd::outer
 ex:=[]
 calm:=true
 fn:=fun _=>true
 pn:=[]
 xe:=fun e s'=>wpAny (model P w) (A.deeper (envOfC qual scope s.heap.objs.size f cd)) (leaving (envOfC qual scope s.heap.objs.size f cd) e) (fun _ s''=>CX outer H s E e s'') (fun e' s''=>CX outer H s E e' s'') s'
theorem at8{sc:Scope}{n:Nat}{x:Str}(h:sc.names.lookup x=some .cell):∃c,(cellsFrom n sc.names []).lookup x=some c:=by
 have q:=W.cellsFrom_some sc.names n [] (.inl h);exact Option.isSome_iff_exists.mp q
theorem bb2{CX:CXT}{P:Program}{w:World}{K:W.Frag}{mg:Str→Option Value}{base:Heap}{N ps:List Str}{qual:Str}{scope:Scope}{f:Addr}{cd:Value}{A:Around}{outer:List Env}{s s1:Shared}{H:Hp}{E:XK}{us:List Value}{vs:List V}
  (S:FnScope N ps scope) (hd:A.handled=none) (e0:Env0 P w K mg base A outer s H) (hl:vs.length=ps.length) (r:d4 vs us)
  (x:InCallC s s.heap.objs.size (bindL (envOfC qual scope s.heap.objs.size f cd).kindOf (ps.zip us) fun _=>none) (cellsFrom (s.heap.objs.size+1) scope.names []) (bindC (envOfC qual scope s.heap.objs.size f cd).kindOf (ps.zip us) fun _=>none) s1) :
  Inv (ag4 CX P w K mg base N qual scope f cd A outer s H E) [] (p9 N vs) H s1:=by
 have hpl:ps.length≤N.length:=by have:=congrArg List.length S.pre;rw[List.length_take]at this;omega
 obtain ⟨h1,tk,rfl,hk⟩:=x.done;have noA:∀ b:Addr,b ∉ (ag4 CX P w K mg base N qual scope f cd A outer s H E).ex:=fun b z=>absurd (show b ∈ ([]:List Addr) from z) (by simp);refine ⟨⟨e0.mod,S.kind,rfl,rfl,Nat.le_refl _,fun y z c h1 h2=>?_,fun y hy=>?_,fun y c _ h=>?_,fun _=>hd,Around.frames_deeper e0.frames,.inr ⟨rfl,rfl⟩,fun b z=>absurd z (noA b),e0.bs,e0.bsz,fun b _ _=>noA b,fun b z=>absurd z (noA b),e0.funs,e0.frf⟩,
  rfl,e0.bare,Un.kept hk,⟨_,x.toInCall.ns,fun i y v h1 h2 h3=>?_⟩,fun y c h=>⟨_,x.cell y c h⟩,e0.hok.fresh (Nat.le_refl _),fun y c h=>?_,fun p hp=>absurd (show p ∈ ([]:List (Addr × Obj)) from hp) (by simp),e0.hok.kept hk,?_⟩
 ·exact name_of_addr x.apart (PySem.mem_of_lookup h1) (PySem.mem_of_lookup h2)
 ·have hy:scope.names.lookup y=some .cell∨scope.names.lookup y=some .free:=hy
  rcases hy with hy|hy
  ·exact at8 hy
  ·exact absurd rfl (S.nofree _ (PySem.mem_of_lookup hy))
 ·exact Nat.le_of_lt (x.above y c (PySem.mem_of_lookup h))
 ·have hi:i<vs.length:=by
   unfold p9 at h2
   by_cases hi:i<vs.length
   ·exact hi
   ·rw[List.getElem?_append_right (by simpa using hi)]at h2;rw[List.getElem?_replicate]at h2
    split at h2<;>cases h2
  have ha:vs[i]?=some v:=by
   unfold p9 at h2;rw[List.getElem?_append_left (by simpa using hi),List.getElem?_map]at h2;cases e:vs[i]? with
   |none=>rw[e]at h2;cases h2
   |some a=>rw[e]at h2;cases h2;rfl
  obtain⟨u,hu,rv⟩:=r.get ha;have hp:ps[i]?=some y:=by
   rw[←S.pre,List.getElem?_take_of_lt (by omega)];exact h1
  have ndP:ps.Nodup:=by rw[←S.pre];exact S.nd.sublist (List.take_sublist _ _)
  refine⟨u,rv,?_⟩
  rcases S.par y (List.mem_of_getElem? hp)with k|k
  ·exact .inl ⟨k,ar0 ndP hp hu k⟩
  ·obtain⟨c,e⟩:=at8 (n:=s.heap.objs.size+1) k;refine .inr ⟨.inl k,c,e,?_⟩;have q:=x.cell y c e;rw[aq6 ndP hp hu (by show scope.names.lookup y≠_;rw[k];decide)]at q;exact q
 ·exact .inl (e0.hok.fresh (Nat.le_of_lt (x.above y c (PySem.mem_of_lookup h))))
 ·unfold p9;show _=N.length;rw[List.length_append,List.length_map,List.length_replicate];omega
end L2
namespace L2
open PySem PySem.Spec PyProof.Rows
section
variable {X:Cx} {x:Str} {p pos:Pos} {e:Expr} {es:List Expr} {t:TA} {id T:String} {r:List V→Hp→VK→Prop}
noncomputable def tCB(r:List V→Hp→VK→Prop)(t:TA):TE:=fun σ H Q=>t σ H fun vs H1=>r vs H1 Q
theorem at1(hc:v1 X (.builtin id) r)(hg:Gl X x)(hm:X.mg x=none)(hv:bootBuiltins x=some (.builtin id))(ha:PA X (e::es) t)(hn:x≠"__name__":=by decide)(hdb:(x==("__debug__":Str))=false:=by decide)
  (he:starEach (e::es) X.env=(false,eval e X.env)::starEach es X.env:=by rfl) (hpl:(backTo pos (starEach es X.env)).any (·.1)=false:=by rfl):PE X (.Call (.Name x p) (e::es) [] pos) (tCB r t):=by
 intro pins s σ H Q I h;refine wpAny_Call_Name_kw (F2 I hg hm hv ?_ hn hdb);exact PyProof.Rows.callWith_builtin1 (thn (ha pos pins s σ H _ I h) fun us s1⟨vs,H1,I1,r1,q1⟩=>hc pins s1 σ H1 vs us Q I1 r1 q1) he hpl
theorem ba5(hc:v1 X (.type T) r)(hg:Gl X x)(hm:X.mg x=none)(hv:bootBuiltins x=some (.type T))(ha:PA X (e::es) t)(hn:x≠"__name__":=by decide)(hdb:(x==("__debug__":Str))=false:=by decide)
  (he:starEach (e::es) X.env=(false,eval e X.env)::starEach es X.env:=by rfl) (hpl:(backTo pos (starEach es X.env)).any (·.1)=false:=by rfl):PE X (.Call (.Name x p) (e::es) [] pos) (tCB r t):=by
 intro pins s σ H Q I h;refine wpAny_Call_Name_kw (F2 I hg hm hv ?_ hn hdb);exact PyProof.Rows.callWith_type1 (thn (ha pos pins s σ H _ I h) fun us s1⟨vs,H1,I1,r1,q1⟩=>hc pins s1 σ H1 vs us Q I1 r1 q1) he hpl
end
end L2
namespace HT
open PySem PyProof.Rows
section
open PySem.SeqAt
open PySem.AutoSeq1 (wpAny_loadPart')
open PySem.MeetsSeq PySem.MeetsSeq2 PySem.MeetsSeq3
end
section
variable {prog:Program} {w:World} {A:Around} {E:Value→Shared→Prop} {s:Shared}
theorem cat_tup{t b:Addr}{vs ws:List Value}{Q:Value→Shared→Prop}(ht:IsTup s.heap t vs.toArray)(hb:IsTup s.heap b ws.toArray)(hv:vs≠[])
  (h1:ws=[]→Q (.ref t) s) (h2:ws≠[]→Q (.ref s.heap.objs.size) {s with heap:=s.heap.push {cls:=.type "tuple",data:=.seq (vs++ws).toArray}})
  (hsz:vs.length+ws.length≤sizeLine):wpAny (model prog w) A (binaryOp .Add (.ref t) (.ref b)) Q E s:=by
 obtain⟨⟨cls,dd,data,sl⟩,ho,hc,n,hd⟩:=id ht;obtain⟨⟨cls2,dd2,data2,sl2⟩,ho2,hc2,n2,hd2⟩:=id hb;simp only at hc hd hc2 hd2;subst hc hd hc2 hd2;have e:vs.toArray++ws.toArray=(vs++ws).toArray:=by simp
 by_cases hw:ws=[]
 ·exact concat_meets ⟨_,ho,rfl⟩ ⟨_,ho2,rfl⟩ noFill_tuple_add seq_tuple_add PySem.F.slot_tuple_add PySem.F.entry_tuple_add (PySem.F.args_tuple_add_2 _ _)
   (tuple_addW1 t b vs.toArray ws.toArray n n2 dd dd2 sl sl2 (by simpa using hv) (by simp[hw])) ⟨ho,ho2,h1 hw⟩
 ·refine concat_meets ⟨_,ho,rfl⟩ ⟨_,ho2,rfl⟩ noFill_tuple_add seq_tuple_add PySem.F.slot_tuple_add PySem.F.entry_tuple_add (PySem.F.args_tuple_add_2 _ _)
   (tuple_addW2 t b vs.toArray ws.toArray n n2 dd dd2 sl sl2 (by simpa using hv) (by simpa using hw) (by rw[List.size_toArray,List.size_toArray];exact hsz)) ⟨ho,ho2,?_⟩
  rw[e];exact h2 hw
noncomputable def sIx(n d:Nat):Option Int→Nat
 |none=>d
 |some v=>if v<0 then(v+(n:Int)).toNat else min v.toNat n
theorem bt7(n d:Nat)(hd:d≤n)(o:Option Int):sIx n d o≤n:=by
 cases o with
 |none=>exact hd
 |some v=>
  show(if v<0 then(v+(n:Int)).toNat else min v.toNat n)≤n
  by_cases hv:v<0
  ·rw[if_pos hv];omega
  ·rw[if_neg hv];exact Nat.min_le_right _ _
theorem av7(v:Int)(n d:Nat):(if v<0 then max (v+(n:Int)) 0 else min v (n:Int))=((sIx n d (some v):Nat):Int):=by
 show(if v<0 then max (v+(n:Int)) 0 else min v (n:Int))=(((if v<0 then(v+(n:Int)).toNat else min v.toNat n):Nat):Int)
 by_cases hv:v<0
 ·simp only[if_pos hv];omega
 ·simp only[if_neg hv];omega
theorem a85(lo hi:Option Int)(n:Nat):Builtin.Slice.sliceAdjust lo hi 1 (n:Int)=(((sIx n 0 lo:Nat):Int),((sIx n n hi:Nat):Int)):=by
 have h1:¬((1:Int)<0):=by omega
 unfold Builtin.Slice.sliceAdjust;simp only[h1,if_false];refine Prod.ext ?_ ?_
 ·cases lo with
  |none=>rfl
  |some v=>exact av7 v n 0
 ·cases hi with
  |none=>rfl
  |some v=>exact av7 v n n
theorem a91(i j:Nat):Builtin.Slice.slicePlaces (i:Int) (j:Int) 1=j-i:=by
 unfold Builtin.Slice.slicePlaces;have h1:(1:Int)>0:=by omega
 simp only[h1,if_true,Int.ediv_one]
 split<;>omega
theorem ap8{v:Value}{o:Option Int}{Q:Option Int→Shared→Prop}(p:IsPart v o)(h:Q o s):wpAny (model prog w) A (Builtin.Slice.slicePartIndex v) Q E s:=by
 cases p with
 |none=>exact slicePart_none h
 |int i t=>exact slicePart_int h
theorem a46{sl:Addr}{vl vu:Value}{lo hi:Option Int}{n:Nat}{Q:Int×Int×Nat→Shared→Prop}(hs:s.heap.IsSliceOf sl vl vu .none)(pl:IsPart vl lo)(pu:IsPart vu hi)
  (h:Q (((sIx n 0 lo:Nat):Int),1,sIx n n hi-sIx n 0 lo) s):wpAny (model prog w) A (Builtin.Slice.sliceApplied (.ref sl) (pure (n:Int))) Q E s:=by
 obtain⟨os,hos,hcs,hds⟩:=id hs;unfold Builtin.Slice.sliceApplied Builtin.Slice.sliceFields;refine wpAny_bind (wpAny_bind (wpAny_field hos hds (x:=vl) rfl (wpAny_bind (wpAny_field hos hds (x:=vu) rfl (wpAny_bind (wpAny_field hos hds (x:=.none) rfl (wpAny_pure ?_)))))));refine wpAny_bind (slicePart_none ?_);show wpAny _ _ (if((1:Int)==0)=true then _ else _) _ _ s;rw[if_neg (by decide)];refine wpAny_bind (ap8 pl (wpAny_bind (ap8 pu (wpAny_bind (wpAny_pure ?_)))));show wpAny _ _ (match Builtin.Slice.sliceAdjust lo hi 1 (n:Int)with|(lo,hi)=>pure (lo,(1:Int),Builtin.Slice.slicePlaces lo hi 1)) _ _ s;rw[a85 lo hi n];show wpAny _ _ (pure (((sIx n 0 lo:Nat):Int),(1:Int),Builtin.Slice.slicePlaces ((sIx n 0 lo:Nat):Int) ((sIx n n hi:Nat):Int) 1)) _ _ s;rw[a91];exact wpAny_pure h
theorem bf3(xs:Array Value)(i k:Nat):((List.range k).filterMap fun(m:Nat)=>xs[((i:Int)+(m:Int)*1).toNat]?).toArray=((xs.toList.drop i).take k).toArray:=by
 have e:(fun(m:Nat)=>xs[((i:Int)+(m:Int)*1).toNat]?)=fun m=>xs[i+m]?:=by
  funext m
  have:((i:Int)+(m:Int)*1).toNat=i+m:=by omega
  rw[this]
 rw[e];have:=pick_run xs i k;rw[List.filterMap_map]at this;have e2:((fun x=>xs[x]?)∘fun x=>i+x)=fun m=>xs[i+m]?:=rfl;rw[e2]at this;rw[this]
theorem getItem_tuple_cut{t sl:Addr}{items:Array Value}{vl vu:Value}{lo hi:Option Int}{Q:Value→Shared→Prop}(ht:IsTup s.heap t items)(hs:s.heap.IsSliceOf sl vl vu .none)(pl:IsPart vl lo)(pu:IsPart vu hi)
  (hw:¬(sIx items.size 0 lo=0∧sIx items.size items.size hi=items.size))
  (h:Q (.ref s.heap.objs.size) {s with heap:=s.heap.push {cls:=.type "tuple",data:=.seq ((items.toList.drop (sIx items.size 0 lo)).take (sIx items.size items.size hi-sIx items.size 0 lo)).toArray}})
  (hsz:items.size≤sizeLine):wpAny (model prog w) A (getItem (.ref t) (.ref sl)) Q E s:=by
 have htake:sizeOk (.seq ((items.toList.drop (sIx items.size 0 lo)).take (sIx items.size items.size hi-sIx items.size 0 lo)).toArray):=by
  show((items.toList.drop (sIx items.size 0 lo)).take (sIx items.size items.size hi-sIx items.size 0 lo)).toArray.size≤sizeLine;rw[List.size_toArray,List.length_take,List.length_drop,Array.length_toList];omega
 have hj:sIx items.size items.size hi≤items.size:=bt7 _ _ (Nat.le_refl _) hi;obtain⟨os,hos,hcs,hds⟩:=id hs;have hTs:s.TypeIs (.ref sl) "slice":=⟨os,hos,hcs⟩;unfold getItem
 try with_reducible refine wpAny_holding ?_
 first|refine wpAny_bind (wpAny_pure ?_)|skip
 refine wpAny_bind (wpAny_sequenceKey ht.typeIs (by decide) ?_);refine wpAny_bind (wpAny_callSpecial?_slot (name:=Str.ofString "__getitem__") ht.typeIs PyProof.Rows.slot_tuple_getitem
  (wpAny_call_entry PyProof.Rows.slot_tuple_getitem ht.typeIs entry_tuple_getitem ?_ (args_tuple_getitem _ _)))
 show wpAny _ _ (Builtin.Tuple.tupleItemsOf (.ref t)>>=_) _ _ s;refine wpAny_bind (tupleItemsOf_ ht ?_);refine wpAny_bind (wpAny_typeOf hTs ?_);rw[if_pos (by decide)];refine wpAny_bind (a46 hs pl pu ?_);have hno:¬((((sIx items.size 0 lo:Nat):Int)==0&&(1:Int)==1&&(sIx items.size items.size hi-sIx items.size 0 lo)==items.size)=true):=by
  intro q;rw[Bool.and_eq_true,Bool.and_eq_true]at q;have q1:((sIx items.size 0 lo:Nat):Int)=0:=eq_of_beq q.1.1;have q2:sIx items.size items.size hi-sIx items.size 0 lo=items.size:=eq_of_beq q.2;exact hw ⟨by omega,by omega⟩
 show wpAny _ _ (if(((sIx items.size 0 lo:Nat):Int)==0&&(1:Int)==1&&(sIx items.size items.size hi-sIx items.size 0 lo)==items.size)=true then _ else _) _ _ s;rw[if_neg hno,bf3]
 first
  |exact wpAny_bind (m:=Builtin.Tuple.tupleExact _) (wpAny_newObj_type (wpAny_pure ⟨_,rfl,wpAny_pure h⟩) htake)
  |exact wpAny_bind (m:=Builtin.Tuple.tupleExact _) (wpAny_newObj_type (wpAny_bind (wpAny_pure (wpAny_pure ⟨_,rfl,wpAny_pure h⟩))) htake)
  |exact wpAny_bind (wpAny_bind (m:=Builtin.Tuple.tupleExact _) (wpAny_newObj_type (wpAny_pure (wpAny_pure ⟨_,rfl,wpAny_pure h⟩)) htake))
  |exact wpAny_bind (wpAny_bind (m:=Builtin.Tuple.tupleExact _) (wpAny_newObj_type (wpAny_pure ⟨_,rfl,wpAny_pure h⟩) htake))
end
end HT
namespace L2
open PySem PySem.Spec PyProof.Rows
noncomputable abbrev TO:=St→Hp→(Option Int→Hp→Prop)→Prop
noncomputable def PO(X:Cx)(e:Option Expr)(t:TO):Prop:=
 ∀(pins:List (Addr×Obj))(s:Shared)(σ:St)(H:Hp)(Q:Option Int→Hp→Prop),Inv X pins σ H s→t σ H Q →
  wpAny (model X.prog X.w) X.A (evalPart e X.env) (fun u s'=>∃o H',Inv X pins σ H' s'∧IsPart u o∧Q o H') X.xe s
noncomputable def bm6:TO:=fun _ H Q=>Q none H
noncomputable def b29(t:TE):TO:=fun σ H Q=>t σ H fun x H1=>∃i,x=.int i∧Q (some i) H1
theorem a94{ns:List Int}:∀{us:List Value},d4 (ns.map V.int) us→IntsAre us ns:=by
 induction ns with
 |nil=>intro us r;rw[List.map_nil]at r;cases r;exact .nil
 |cons n ns ih=>
  intro us r;rw[List.map_cons]at r;cases r with
  |cons r1 r2=>
   obtain⟨t,e⟩:=r1;subst e;exact .cons n t (ih r2)
section
variable {X:Cx} {e:Expr} {te:TE} {lo hi:Option Expr} {tl th:TO} {pos p2:Pos}
theorem bj6:PO X none bm6:=by
 intro pins s σ H Q I h;rw[evalPart_none];exact wpAny_pure ⟨none,H,I,.none,h⟩
theorem bn1(h:PE X e te):PO X (some e) (b29 te):=by
 intro pins s σ H Q I hw;rw[evalPart_some];refine thn (h pins s σ H _ I hw) fun u s1⟨x,H1,I1,r1,q1⟩=>?_;obtain⟨i,rfl,q⟩:=q1;obtain⟨t,rfl⟩:=r1;exact⟨some i,H1,I1,.int i t,q⟩
noncomputable def SlR(X:Cx)(r:V→Option Int→Option Int→Hp→VK→Prop):Prop:=
 ∀(pins:List (Addr×Obj))(s:Shared)(σ:St)(H:Hp)(x:V)(v vl vu:Value)(lo hi:Option Int)(sl:Addr)(Q:VK),Inv X pins σ H s→d7 x v→s.heap.IsSliceOf sl vl vu .none→IsPart vl lo→IsPart vu hi→r x lo hi H Q →
  ∃T id,typeLookup (.type T) "__getitem__"=pure (some (.builtin id))∧s.TypeIs v T∧wpAny (model X.prog X.w) X.A (getItem v (.ref sl)) (EP X pins σ Q) X.xe s
theorem SlR.or{r r':V→Option Int→Option Int→Hp→VK→Prop}(h:SlR X r)(h':SlR X r'):SlR X (fun x lo hi H Q=>r x lo hi H Q∨r' x lo hi H Q):=by
 intro pins s σ H x v vl vu lo hi sl Q I rx hs pl pu q
 rcases q with q|q
 ·exact h pins s σ H x v vl vu lo hi sl Q I rx hs pl pu q
 ·exact h' pins s σ H x v vl vu lo hi sl Q I rx hs pl pu q
noncomputable def tSl(r:V→Option Int→Option Int→Hp→VK→Prop)(te:TE)(tl th:TO):TE:=fun σ H Q=>te σ H fun x H1=>tl σ H1 fun l H2=>th σ H2 fun u H3=>r x l u H3 Q
theorem bf4{r:V→Option Int→Option Int→Hp→VK→Prop}(hr:SlR X r)(he:PE X e te)(hl:PO X lo tl)(hu:PO X hi th):PE X (.Subscript e (.Slice lo hi none p2) pos) (tSl r te tl th):=by
 intro pins s σ H Q I h;refine Subscript_ (thn (he pins s σ H _ I h) fun v s1⟨x,H1,I1,r1,q1⟩=>?_);refine wpAny_Slice (thn (hl pins s1 σ H1 _ I1 q1) fun vl s2⟨l,H2,I2,pl,q2⟩=>thn (hu pins s2 σ H2 _ I2 q2) fun vu s3⟨u,H3,I3,pu,q3⟩=>?_);rw[evalPart_none];refine wpAny_pure ?_;have I4:Inv X pins σ H3 {s3 with heap:=s3.heap.push {cls:=.type "slice",data:=.fields #[vl,vu,.none]}}:=I3.kept (t':=s3.toks) fun b ob q=>Heap.get?_push_of_some _ q;obtain⟨T,id,hT,ht,hg⟩:=hr pins {s3 with heap:=s3.heap.push {cls:=.type "slice",data:=.fields #[vl,vu,.none]}} σ H3 x v vl vu l u s3.heap.objs.size Q I4 r1 (Heap.IsSliceOf.new ..) pl pu q3;show wpAny (model X.prog X.w) X.A (subscriptTail e (.Slice lo hi none p2) v (.ref s3.heap.objs.size)) (EP X pins σ Q) X.xe {s3 with heap:=s3.heap.push {cls:=.type "slice",data:=.fields #[vl,vu,.none]}};exact tail_any (ops:=[.ref s3.heap.objs.size,v]) ht hT hg (by with_unfolding_all rfl)
noncomputable def C9(xs:List V)(lo hi:Option Int):List V:=(xs.drop (HT.sIx xs.length 0 lo)).take (HT.sIx xs.length xs.length hi-HT.sIx xs.length 0 lo)
theorem ao9(xs:List V)(lo hi:Option Int):(C9 xs lo hi).length≤xs.length:=by
 unfold C9;rw[List.length_take,List.length_drop];omega
noncomputable def b86(K:W.Frag):V→Option Int→Option Int→Hp→VK→Prop:=fun x lo hi H Q=>∃a xs,x=.ref a∧SqT K H a xs ∧
 ¬(HT.sIx xs.length 0 lo=0∧HT.sIx xs.length xs.length hi=xs.length)∧∀p,H p=none→Q (.ref p) (upd H p (.tup (C9 xs lo hi)))
theorem bt4:SlR X (b86 X.K):=by
 intro pins s σ H x v vl vu lo hi sl Q I rx hs pl pu h;obtain⟨a,xs,rfl,hx,hw,q⟩:=h;cases rx;obtain⟨its,r,ht,hz⟩:=I.tuple hx;have hlen:its.toArray.size=xs.length:=by rw[List.size_toArray];exact r.length.symm
 refine⟨"tuple",_,PyProof.Rows.slot_tuple_getitem.lookup,ht.typeIs,?_⟩;refine HT.getItem_tuple_cut ht hs pl pu (by rw[hlen];exact hw) ?_ (by rw[hlen];exact hz);rw[hlen];refine⟨.ref s.heap.objs.size,_,I.laid (t':=s.toks) (o:=.tup (C9 xs lo hi)) (fun b ob q=>Heap.get?_push_of_some _ q) (Nat.le_refl _) ?_,rfl,q _ (I.hok.fresh (Nat.le_refl _))⟩;exact⟨Nat.le_trans (ao9 xs lo hi) hz,_,(r.drop (HT.sIx xs.length 0 lo)).take (HT.sIx xs.length xs.length hi-HT.sIx xs.length 0 lo),v0.new _ _⟩
noncomputable def b52(K:W.Frag):R2:=fun x y H Q=>∃a b xs ys,x=.ref a∧y=.ref b∧SqT K H a xs∧SqT K H b ys∧xs≠[]∧xs.length+ys.length≤sizeLine ∧
 (ys=[]→Q (.ref a) H)∧(ys≠[]→∀p,H p=none→Q (.ref p) (upd H p (.tup (xs++ys))))
theorem d4.nil_iff{xs:List V}{us:List Value}(r:d4 xs us):us=[]↔xs=[]:=by
 cases r with
 |nil=>simp
 |cons _ _=>simp
theorem bk6:OpR X (binaryOp .Add) (b52 X.K):=by
 intro pins s σ H x y v u Q I rx ry h;obtain⟨a,b,xs,ys,rfl,rfl,ha,hb,hx,hz,q1,q2⟩:=h;cases rx;cases ry;obtain⟨its,r1,p1,_⟩:=I.tuple ha;obtain⟨its2,r2,p2,_⟩:=I.tuple hb;refine HT.cat_tup p1 p2 (fun z=>hx (r1.nil_iff.mp z)) (fun z=>⟨.ref a,H,I,rfl,q1 (r2.nil_iff.mp z)⟩) (fun z=>?_) (by rw[←r1.length,←r2.length];exact hz);refine⟨.ref s.heap.objs.size,_,I.laid (t':=s.toks) (o:=.tup (xs++ys)) (fun b ob q=>Heap.get?_push_of_some _ q) (Nat.le_refl _) ?_,rfl,q2 (fun w=>z (r2.nil_iff.mpr w)) _ (I.hok.fresh (Nat.le_refl _))⟩;exact⟨by rw[List.length_append];exact hz,_,r1.append r2,v0.new _ _⟩
end
end L2
namespace L2
open PySem PySem.Spec PyProof.Rows
noncomputable def ixN(n:Nat)(i:Int):Option Nat:=if 0≤i then(if i<n then some i.toNat else none)else if -(n:Int)≤i then some (i+n).toNat else none
noncomputable def atI{α:Type}(xs:List α)(i:Int):Option α:=(ixN xs.length i).bind fun j=>xs[j]?
theorem aj4{n:Nat}{i:Int}{j:Nat}(h:ixN n i=some j):seqIndex? i n=some j∧j<n∧-(n:Int)≤i∧i<n:=by
 unfold ixN at h
 by_cases h0:0≤i
 ·rw[if_pos h0]at h
  by_cases h1:i<n
  ·rw[if_pos h1]at h;have e:i.toNat=j:=Option.some.inj h;exact⟨by rw[seqIndex_of h0 h1,e],by omega,by omega,h1⟩
  ·rw[if_neg h1]at h;cases h
 ·rw[if_neg h0]at h
  by_cases h1:-(n:Int)≤i
  ·rw[if_pos h1]at h;have e:(i+n).toNat=j:=Option.some.inj h;exact⟨by rw[seqIndex_neg (by omega) h1,e],by omega,h1,by omega⟩
  ·rw[if_neg h1]at h;cases h
theorem ak1{α:Type}{xs:List α}{i:Int}{v:α}(h:atI xs i=some v):∃j,seqIndex? i xs.length=some j∧xs[j]?=some v∧j<xs.length∧-(xs.length:Int)≤i∧i<xs.length:=by
 unfold atI at h;cases e:ixN xs.length i with
 |none=>rw[e]at h;cases h
 |some j=>
  rw[e]at h;obtain⟨h1,h2,h3,h4⟩:=aj4 e;exact⟨j,h1,h,h2,h3,h4⟩
noncomputable def ax4(b:Expr):Prop:=∀o i,subscripted b false o i=operate [o,i] (getItem o i)
noncomputable def IxR(X:Cx)(r:R2):Prop:=
 ∀(value slice:Expr)(pins:List (Addr×Obj))(s:Shared)(σ:St)(H:Hp)(x y:V)(v u:Value)(Q:VK),Inv X pins σ H s→d7 x v→d7 y u→r x y H Q →
  subscripted slice false v u=operate [v,u] (getItem v u)→wpAny (model X.prog X.w) X.A (subscriptTail value slice v u) (EP X pins σ Q) X.xe s
noncomputable def MtR(X:Cx)(id:String)(r:V→List V→Hp→VK→Prop):Prop:=
 ∀(pins:List (Addr×Obj))(s:Shared)(σ:St)(H:Hp)(x:V)(xs:List V)(v:Value)(us:List Value)(Q:VK),Inv X pins σ H s→d7 x v→d4 xs us→r x xs H Q →
  wpAny (model X.prog X.w) X.A (call (.builtin id) (v::us)) (EP X pins σ Q) X.xe s
section
variable {X:Cx} {a b:Expr} {ta tb:TE} {pos:Pos}
theorem IxR.or{r r':R2}(h:IxR X r)(h':IxR X r'):IxR X (fun x y H Q=>r x y H Q∨r' x y H Q):=by
 intro value slice pins s σ H x y v u Q I rx ry q hs
 rcases q with q|q
 ·exact h value slice pins s σ H x y v u Q I rx ry q hs
 ·exact h' value slice pins s σ H x y v u Q I rx ry q hs
theorem bz2{r:R2}(hr:IxR X r)(ha:PE X a ta)(hb:PE X b tb)(hs:ax4 b):PE X (.Subscript a b pos) (tOp r ta tb):=by
 intro pins s σ H Q I h;exact Subscript_ (am8 ha hb I h fun v u s2 x y H2 I2 rx ry q=>hr a b pins s2 σ H2 x y v u Q I2 rx ry q (hs _ _))
noncomputable def b68(K:W.Frag):R2:=fun x y H Q=>∃p xs i v,x=.ref p∧y=.int i∧SqL K H p xs∧atI xs i=some v∧Q v H
noncomputable def b64(K:W.Frag):R2:=fun x y H Q=>∃p xs i v,x=.ref p∧y=.int i∧SqT K H p xs∧atI xs i=some v∧Q v H
noncomputable def b67:R2:=fun x y H Q=>∃z i c,x=.str z∧y=.int i∧z.length≤sizeLine∧atI z.cps.toList i=some c∧Q (.str ⟨#[c]⟩) H
theorem bp6:IxR X (b68 X.K):=by
 intro value slice pins s σ H x y v u Q I rx ry h hs;obtain⟨p,xs,i,z,rfl,rfl,hq,he,q⟩:=h;cases rx;obtain⟨t,rfl⟩:=ry;obtain⟨its,r,pl,hz⟩:=I.list hq;obtain⟨j,h1,h2,h3,h4,h5⟩:=ak1 he;obtain⟨w,ew,rw'⟩:=r.get h2;have hl:=r.length;have hn:=L6;have fin:EP X pins σ Q w s:=⟨z,H,I,rw',q⟩
 by_cases h0:0≤i
 ·have hj:i.toNat=j:=by
   rw[seqIndex_of h0 h5]at h1;exact Option.some.inj h1
  exact item_listR pl.isList h0 (by omega) (by rw[hj];simpa using ew) fin hs
 ·have hj:(i+(its.toArray.size:Int)).toNat=j:=by
   rw[seqIndex_neg (by omega) h4]at h1;rw[List.size_toArray,←hl];exact Option.some.inj h1
  exact subscriptTail_builtinR (x:=w) pl.isList.typeIs slot_list_getitem.lookup
   (wpAny_getItem_list_neg (Q:=fun r s'=>r=w∧EP X pins σ Q r s') pl.isList (by omega) (by rw[List.size_toArray]<;>omega) (by omega) (by rw[hj];simpa using ew) ⟨rfl,fin⟩) hs
theorem bw4:IxR X (b64 X.K):=by
 intro value slice pins s σ H x y v u Q I rx ry h hs;obtain⟨p,xs,i,z,rfl,rfl,hq,he,q⟩:=h;cases rx;obtain⟨t,rfl⟩:=ry;obtain⟨its,r,pl,hz⟩:=I.tuple hq;obtain⟨j,h1,h2,h3,h4,h5⟩:=ak1 he;obtain⟨w,ew,rw'⟩:=r.get h2;have hl:=r.length;have hn:=L6;have fin:EP X pins σ Q w s:=⟨z,H,I,rw',q⟩;exact subscriptTail_builtinR (x:=w) pl.typeIs slot_tuple_getitem.lookup
  (getItem_tuple (j:=j) (Q:=fun r s'=>r=w∧EP X pins σ Q r s') pl (by omega) (by omega) (by rw[List.size_toArray,←hl];exact h1) (by simpa using ew) ⟨rfl,fin⟩) hs
theorem bs7:IxR X b67:=by
 intro value slice pins s σ H x y v u Q I rx ry h hs;obtain⟨z,i,c,rfl,rfl,hz,he,q⟩:=h;obtain⟨t,rfl⟩:=rx;obtain⟨t',rfl⟩:=ry;obtain⟨j,h1,h2,h3,h4,h5⟩:=ak1 he;have hl:z.cps.toList.length=z.length:=by simp[Str.length]
 rw[hl]at h1 h4 h5;have hn:=L6;exact tail_any (typeIs_str s z t) slot_str_getitem.lookup (getItem_str (c:=c) (by
  have e1:decide (i < -(2^63:Int))=false:=decide_eq_false (by omega);have e2:decide (i≥2^63)=false:=decide_eq_false (by omega);rw[e1,e2,Bool.or_false]) (by rw[h1];simpa using h2) ⟨.str ⟨#[c]⟩,H,I.tok _,⟨_,rfl⟩,q⟩) hs
theorem a89(its:List Value)(n j:Nat)(u:Value):Obj.mapSeq (·.setIfInBounds j u) {cls:=.type "list",data:=.seq its.toArray n}={cls:=.type "list",data:=.seq (its.set j u).toArray n}:=by
 simp[Obj.mapSeq]
theorem Inv.lst{pins:List (Addr×Obj)}{σ:St}{H:Hp}{s:Shared}{p:Addr}{xs:List V}(I:Inv X pins σ H s)(h:H p=some (.lst xs)):
  ∃(its:List Value)(n:Nat),d4 xs its∧s.heap.get? p=some {cls:=.type "list",data:=.seq its.toArray n}∧xs.length≤sizeLine:=by
 obtain⟨z,its,n,r,e⟩:=I.hok p _ h;exact⟨its,n,r,e,z⟩
theorem Inv.lstUpd{pins:List (Addr×Obj)}{σ:St}{H:Hp}{s:Shared}{p:Addr}{xs ys:List V}{its its':List Value}{n n':Nat}{f:Obj→Obj}(I:Inv X pins σ H s)(h:H p=some (.lst xs))
  (ho:s.heap.get? p=some {cls:=.type "list",data:=.seq its.toArray n}) (hf:f {cls:=.type "list",data:=.seq its.toArray n}={cls:=.type "list",data:=.seq its'.toArray n'}) (r:d4 ys its') (hz:ys.length≤sizeLine) (t:Nat) :
  Inv X pins σ (upd H p (.lst ys)) {s with heap:=s.heap.update p f,toks:=t}:=by
 have e:(s.heap.update p f).get? p=some {cls:=.type "list",data:=.seq its'.toArray n'}:=by
  rw[Heap.get?_update_self f ho (by rw[hf]<;>rfl),hf]
 refine I.write (x:=p) (e:=p) (by rw[h];trivial) (.inl rfl) (fun b u hb q=>(Heap.get?_update_other _ _ (Ne.symm hb)).trans q) ⟨_,e⟩ ?_;exact⟨hz,its',n',r,e⟩
noncomputable def b33:V→V→V→Hp→(Hp→Prop)→Prop:=fun o i v H Q=>∃p xs k j,o=.ref p∧i=.int k∧H p=some (.lst xs)∧ixN xs.length k=some j∧Q (upd H p (.lst (xs.set j v)))
theorem be6:a31 X b33:=by
 intro pins s σ H o i v ov iv u Q I ro ri rv h;obtain⟨p,xs,k,j,rfl,rfl,hp,hj,q⟩:=h;cases ro;obtain⟨t,rfl⟩:=ri;obtain⟨its,n,r,ho,hz⟩:=I.lst hp;obtain⟨h1,h2,h3,h4⟩:=aj4 hj;have hl:=r.length;have hn:=L6;have I':Inv X pins σ (upd H p (.lst (xs.set j v))) {s with heap:=s.heap.update p (Obj.mapSeq (·.setIfInBounds j u))}:=
  I.lstUpd hp ho (a89 its n j u) (r.set rv j) (by rw[List.length_set];exact hz) s.toks
 by_cases h0:0≤k
 ·have hk:k.toNat=j:=by
   rw[seqIndex_of h0 h4]at h1;exact Option.some.inj h1
  exact W.ki_setAt ho h0 (by omega) (by rw[List.size_toArray,←hl];exact h4) (by rw[hk];exact⟨_,I',q⟩)
 ·have hk:(k+(its.toArray.size:Int)).toNat=j:=by
   rw[seqIndex_neg (by omega) h3]at h1;rw[List.size_toArray,←hl];exact Option.some.inj h1
  exact W.ki_setBack ho (by omega) (by rw[List.size_toArray,←hl];exact h3) (by omega) (by rw[hk];exact⟨_,I',q⟩)
theorem a75(lo hi:Option Int)(n:Nat):(sliceBounds lo hi none n).1=((HT.sIx n 0 lo:Nat):Int)∧(sliceBounds lo hi none n).2.1=((HT.sIx n n hi:Nat):Int)∧(sliceBounds lo hi none n).2.2=1:=by
 refine⟨?_,?_,rfl⟩
 ·cases lo with
  |none=>simp[sliceBounds,HT.sIx]
  |some i=>
   simp only[sliceBounds,HT.sIx,Option.getD_none,show(1:Int)>0 by decide,if_true]
   by_cases h:i<0
   ·simp only[h,if_true]<;>omega
   ·simp only[h,if_false]<;>omega
 ·cases hi with
  |none=>simp[sliceBounds,HT.sIx]
  |some i=>
   simp only[sliceBounds,HT.sIx,Option.getD_none,show(1:Int)>0 by decide,if_true]
   by_cases h:i<0
   ·simp only[h,if_true]<;>omega
   ·simp only[h,if_false]<;>omega
theorem a60(its:List Value)(lo hi:Option Int):slicePick its.toArray lo hi none=((its.drop (HT.sIx its.length 0 lo)).take (HT.sIx its.length its.length hi-HT.sIx its.length 0 lo)).toArray:=by
 obtain⟨h1,h2,h3⟩:=a75 lo hi its.toArray.size;unfold slicePick;rw[h1,h2,h3];simp only[sliceRange_one,pick_run,List.size_toArray]<;>rfl
noncomputable def b75(K:W.Frag):V→Option Int→Option Int→Hp→VK→Prop:=fun x lo hi H Q=>∃a xs,x=.ref a∧SqL K H a xs∧∀p,H p=none→Q (.ref p) (upd H p (.lst (C9 xs lo hi)))
theorem bl5:SlR X (b75 X.K):=by
 intro pins s σ H x v vl vu lo hi sl Q I rx hs pl pu h;obtain⟨a,xs,rfl,hx,q⟩:=h;cases rx;obtain⟨its,r,ht,hz⟩:=I.list hx;have hlen:=r.length;refine⟨"list",_,slot_list_getitem.lookup,ht.isList.typeIs,?_⟩;refine wpAny_getItem_list_slice ht.isList hs pl pu .none (by simp) ?_ (by rw[List.size_toArray]<;>omega);rw[a60,←hlen];refine⟨.ref s.heap.objs.size,_,I.laid (t':=s.toks) (o:=.lst (C9 xs lo hi)) (fun b ob q=>Heap.get?_push_of_some _ q) (Nat.le_refl _) ?_,rfl,q _ (I.hok.fresh (Nat.le_refl _))⟩;exact⟨Nat.le_trans (ao9 xs lo hi) hz,_,0,(r.drop (HT.sIx xs.length 0 lo)).take (HT.sIx xs.length xs.length hi-HT.sIx xs.length 0 lo),Heap.get?_push_size _ rfl⟩
theorem a66:v1 X (.builtin "len") (fun xs H Q=>∃p ys,xs=[.ref p]∧(SqL X.K H p ys∨SqT X.K H p ys)∧Q (.int ys.length) H):=by
 intro pins s σ H xs us Q I r h;obtain⟨p,ys,rfl,hq,q⟩:=h;obtain⟨u,rfl,rx⟩:=F6 r;cases rx;have hn:=L6
 rcases hq with hq|hq
 ·obtain⟨its,r',pl,hz⟩:=I.list hq;have hlen:=r'.length;exact Calls.call_len_list pl.isList (by simp only[List.size_toArray]<;>omega) ⟨.int ys.length,H,I.tok _,⟨s.toks+1,by rw[List.size_toArray,hlen]⟩,q⟩
 ·obtain⟨its,r',pl,hz⟩:=I.tuple hq;have hlen:=r'.length;exact len_tuple pl (by simp only[List.size_toArray]<;>omega) ⟨.int ys.length,H,I.tok _,⟨s.toks+1,by rw[List.size_toArray,hlen]⟩,q⟩
theorem a74:v1 X (.type "list") (fun xs H Q=>∃p ys,xs=[.ref p]∧(SqL X.K H p ys∨SqT X.K H p ys)∧∀l,H l=none→Q (.ref l) (upd H l (.lst ys))):=by
 intro pins s σ H xs us Q I r h;obtain⟨p,ys,rfl,hq,q⟩:=h;obtain⟨u,rfl,rx⟩:=F6 r;cases rx;have fin:∀(its:List Value),d4 ys its→ys.length≤sizeLine→∀(h':Heap)(c':Nat),(∀b o',s.heap.get? b=some o'→h'.get? b=some o') →
   h'.get? s.heap.objs.size=some {cls:=.type "list",dict:=none,data:=.seq its.toArray c',slots:=#[]}→EP X pins σ Q (.ref s.heap.objs.size) {s with heap:=h'}:=fun its r' hz h' c' kp e=>
  ⟨.ref s.heap.objs.size,_,I.laid (t':=s.toks) kp (Nat.le_refl _) (show j9 X.prog X.w _ h' _ (.lst ys) from⟨hz,its,c',r',e⟩),rfl,q _ (I.hok.fresh (Nat.le_refl _))⟩
 rcases hq with hq|hq
 ·obtain⟨its,r',pl,hz⟩:=I.list hq;have hlen:=r'.length;obtain⟨o,ho,hc,n,hd⟩:=pl.isList;exact call_list_seq p (.inl rfl) ho hc hd (fun h' c' kp e=>fin its r' hz h' c' kp e) (by simp only[List.size_toArray]<;>omega)
 ·obtain⟨its,r',pl,hz⟩:=I.tuple hq;have hlen:=r'.length;obtain⟨o,ho,hc,n,hd⟩:=pl;exact call_list_seq p (.inr rfl) ho hc hd (fun h' c' kp e=>fin its r' hz h' c' kp e) (by simp only[List.size_toArray]<;>omega)
theorem a58:v1 X (.type "tuple") (fun xs H Q=>∃p ys,xs=[.ref p]∧((SqL X.K H p ys∧∀l,H l=none→Q (.ref l) (upd H l (.tup ys)))∨(SqT X.K H p ys∧Q (.ref p) H))):=by
 intro pins s σ H xs us Q I r h;obtain⟨p,ys,rfl,h⟩:=h;obtain⟨u,rfl,rx⟩:=F6 r;cases rx
 rcases h with⟨hq,q⟩|⟨hq,q⟩
 ·obtain⟨its,r',pl,hz⟩:=I.list hq;have hlen:=r'.length;refine call_tuple_list pl.isList (fun h' kp=>?_) (by simp only[List.size_toArray]<;>omega);have I1:Inv X pins σ H {s with heap:=h'}:=I.kept (t':=s.toks) kp;have I2:Inv X pins σ (upd H h'.objs.size (.tup ys)) {s with heap:=h'.push {cls:=.type "tuple",data:=.seq its.toArray}}:=
   I1.laid (t':=s.toks) (fun b o e=>Heap.get?_push_of_some _ e) (Nat.le_refl _) (show j9 X.prog X.w _ _ _ (.tup ys) from⟨hz,its,r',v0.new _ _⟩)
  exact⟨.ref h'.objs.size,_,I2,rfl,q _ (I1.hok.fresh (Nat.le_refl _))⟩
 ·obtain⟨its,r',pl,hz⟩:=I.tuple hq;exact call_tuple_same pl ⟨.ref p,H,I,rfl,q⟩
noncomputable def tyV(K:W.Frag)(T:String)(x:V)(H:Hp):Prop:=match x with
 |.str _=>T="str"
 |.int _=>T="int"
 |.ref p=>(T="list"∧∃xs,SqL K H p xs)∨(T="tuple"∧∃o,K.lookup p=some o∧o.cls=.type "tuple"∧o.dict=none)∨
   (T="dict"∧((∃kvs,H p=some (.dK kvs))∨∃kvs,H p=some (.dT kvs)))∨(T="set"∧∃S n,H p=some (.set S n))
 |_=>False
theorem ay1{pins:List (Addr×Obj)}{σ:St}{H:Hp}{s:Shared}{T:String}{x:V}{v:Value}(I:Inv X pins σ H s)(r:d7 x v)(ty:tyV X.K T x H):
  s.TypeIs v T∧∀a,v=.ref a→∃ob,s.heap.get? a=some ob∧ob.dict=none:=by
 cases x with
 |str z=>
  obtain⟨t,rfl⟩:=r;cases(show T="str" from ty);exact⟨typeIs_str s z t,fun _ e=>nomatch e⟩
 |int i=>
  obtain⟨t,rfl⟩:=r;cases(show T="int" from ty);exact⟨typeIs_int s i t,fun _ e=>nomatch e⟩
 |ref p=>
  cases r
  rcases ty with⟨rfl,xs,hq⟩|⟨rfl,o,hk,hc,hd⟩|⟨rfl,hk⟩|⟨rfl,S,n,hk⟩
  ·obtain⟨its,_,pl,_⟩:=I.list hq;refine⟨pl.isList.typeIs,fun a e=>?_⟩;cases e;obtain⟨o,n,e,c,hd,_⟩:=pl;exact⟨o,e,hd⟩
  ·refine⟨⟨o,I.kIn p o hk,hc⟩,fun a e=>?_⟩;cases e;exact⟨o,I.kIn _ o hk,hd⟩
  ·have z:∃o,s.heap.get? p=some o∧o.ExactDict:=by
    rcases hk with⟨kvs,hk⟩|⟨kvs,hk⟩
    ·obtain⟨_,_,_,_,o,_,_,e,ex,_⟩:=I.hok p _ hk;exact⟨o,e,ex⟩
    ·obtain⟨_,_,_,_,o,_,_,e,ex,_⟩:=I.hok p _ hk;exact⟨o,e,ex⟩
   obtain⟨o,e,ex⟩:=z;refine⟨⟨o,e,ex.1⟩,fun a e2=>?_⟩;cases e2;exact⟨o,e,ex.2.1⟩
  ·obtain⟨o,_,_,_,e,ex,_⟩:=I.hok p _ hk;refine⟨⟨o,e,ex.1⟩,fun a e2=>?_⟩;cases e2;exact⟨o,e,ex.2.1⟩
 |_=>exact False.elim ty
noncomputable def b74(K:W.Frag)(T:String)(r:V→List V→Hp→VK→Prop)(to:TE):TE:=fun σ H Q=>to σ H fun x H1=>tyV K T x H1∧r x [] H1 Q
noncomputable def tBM(K:W.Frag)(T:String)(r:V→List V→Hp→VK→Prop)(to:TE)(t:TA):TE:=fun σ H Q=>to σ H fun x H1=>tyV K T x H1∧t σ H1 fun xs H2=>r x xs H2 Q
variable {o e:Expr} {es:List Expr} {to:TE} {t:TA} {name:Str} {apos cpos:Pos} {T id:String} {r:V→List V→Hp→VK→Prop}
theorem az1(pa:PlainAttrs T)(slot:Slot T name id)(hty:typeOf (.builtin id)=pure (.type "method_descriptor"))(hm:MtR X id r)(ho:PE X o to)
  (hbase:attributeBase o name X.env (eval o X.env)=eval o X.env:=by rfl) (hline:(apos.endLine==cpos.line)=true:=by rfl):PE X (.Call (.Attribute o name apos) [] [] cpos) (b74 X.K T r to):=by
 intro pins s σ H Q I h;refine wpAny_Call_method0_late hbase hline (thn (ho pins s σ H _ I h) fun v s1⟨x,H1,I1,r1,ty,q1⟩=>?_);obtain⟨h1,h2⟩:=ay1 I1 r1 ty;exact⟨T,id,pa,slot,hty,h1,h2,Calls.callWith_builtin rfl (PySem.evalArgs_none (hm pins s1 σ H1 x [] v [] Q I1 r1 .nil q1))⟩
theorem b49(pa:PlainAttrs T)(slot:Slot T name id)(hty:typeOf (.builtin id)=pure (.type "method_descriptor"))(hm:MtR X id r)(ho:PE X o to)(ha:PA X (e::es) t)
  (hbase:attributeBase o name X.env (eval o X.env)=eval o X.env:=by rfl)
  (hfew:((backTo cpos (starEach (e::es) X.env)).all (fun x=>!x.1)&&(backToKw cpos (keywordEach [] X.env)).all (fun x=>x.1.isSome)
   &&decide ((e::es).length+([]:List Keyword).length+(if([]:List Keyword).isEmpty then 0 else 1)<30))=true:=by rfl)
  (hline:(apos.endLine==cpos.line)=true:=by rfl) (hs:starEach (e::es) X.env=(false,eval e X.env)::starEach es X.env:=by rfl) (hplain:(backTo cpos (starEach es X.env)).any (·.1)=false:=by rfl) :
  PE X (.Call (.Attribute o name apos) (e::es) [] cpos) (tBM X.K T r to t):=by
 intro pins s σ H Q I h;refine wpAny_Call_method_late hbase hfew hline rfl (thn (ho pins s σ H _ I h) fun v s1⟨x,H1,I1,r1,ty,q1⟩=>?_);obtain⟨h1,h2⟩:=ay1 I1 r1 ty;refine⟨T,id,pa,slot,hty,h1,h2,?_⟩;have hA:=ha cpos pins s1 σ H1 _ I1 q1;rw[hs]at hA ⊢;refine Calls.callWith_builtin (by show(false||(backTo cpos (starEach es X.env)).any (·.1))=false;rw[hplain]<;>rfl) (Calls.evalArgs_plain ?_);exact thn hA fun us s2⟨vs,H2,I2,r2,q2⟩=>hm pins s2 σ H2 x vs v us Q I2 r1 r2 q2
end
end L2
namespace L2
open PySem PySem.Spec PyProof.Rows
noncomputable def MtM(X:Cx)(id:String)(r:V→List V→Hp→VK→Prop):Prop:=
 ∀(pins:List (Addr×Obj))(s:Shared)(σ:St)(H:Hp)(x:V)(xs:List V)(v:Value)(us:List Value)(Q:VK),Inv X pins σ H s→d7 x v→d4 xs us→r x xs H Q →
  wpAny (model X.prog X.w) X.A (call (.builtin id) (v::us)) (EP X pins σ Q) X.xe s
theorem d4.one:∀{x:V}{us:List Value},d4 [x] us→∃u,us=[u]∧d7 x u
 |_,_,.cons r .nil=>⟨_,rfl,r⟩
theorem d4.zero:∀{us:List Value},d4 [] us→us=[]
 |_,.nil=>rfl
theorem d4.dropLast{xs:List V}{us:List Value}(h:d4 xs us):d4 xs.dropLast us.dropLast:=by
 induction h with
 |nil=>exact .nil
 |cons r t ih=>
  cases t with
  |nil=>exact .nil
  |cons q t'=>exact .cons r ih
theorem d4.eraseIdx:∀{xs:List V}{us:List Value}(i:Nat),d4 xs us→d4 (xs.eraseIdx i) (us.eraseIdx i)
 |_,_,_,.nil=>.nil
 |_,_,0,.cons _ t=>t
 |_,_,i+1,.cons r t=>.cons r (d4.eraseIdx i t)
theorem d4.reverse{xs:List V}{us:List Value}(h:d4 xs us):d4 xs.reverse us.reverse:=by
 induction h with
 |nil=>exact .nil
 |cons r t ih=>rw[List.reverse_cons,List.reverse_cons];exact d4.append ih (.cons r .nil)
theorem a96{α:Type}(l:List α):l.eraseIdx (l.length-1)=l.dropLast:=by
 induction l with
 |nil=>rfl
 |cons a r ih=>
  cases r with
  |nil=>rfl
  |cons b r=>
   have e:(a::b::r).length-1=((b::r).length-1)+1:=by
    have h1:(a::b::r).length=r.length+2:=rfl;have h2:(b::r).length=r.length+1:=rfl;omega
   rw[e,List.eraseIdx_cons_succ,ih]
   all_goals rfl
theorem aq9{α:Type}:∀(l:List α)(i:Nat),(l.eraseIdx i).length≤l.length
 |[],_=>Nat.le_refl _
 |_::_,0=>Nat.le_succ _
 |_::r,i+1=>Nat.succ_le_succ (aq9 r i)
section
variable {X:Cx} {pins:List (Addr×Obj)} {σ:St} {H:Hp} {s:Shared} {l b:Addr} {xs ys zs:List V}
theorem Inv.lset{its its':List Value}{n:Nat}{f:Array Value→Array Value}{t':Nat}(I:Inv X pins σ H s)(hH:H l=some (.lst xs))
  (e:s.heap.get? l=some {cls:=.type "list",data:=.seq its.toArray n}) (hf:f its.toArray=its'.toArray) (hv:d4 ys its') (hz:ys.length≤sizeLine) :
  Inv X pins σ (upd H l (.lst ys)) {s with heap:=s.heap.update l (Obj.mapSeq f),toks:=t'}:=by
 have q:=PySem.IsL.update e f;rw[hf]at q;refine I.write (x:=l) (e:=l) (by rw[hH];exact trivial) (.inl rfl) (fun b' u hb hu=>(Heap.get?_update_other s.heap (Obj.mapSeq f) (Ne.symm hb)).trans hu) ⟨_,q⟩ ?_;exact⟨hz,its',_,hv,q⟩
theorem Inv.lnew{its:List Value}{t':Nat}(I:Inv X pins σ H s)(hv:d4 ys its)(hz:ys.length≤sizeLine):
  Inv X pins σ (upd H s.heap.objs.size (.lst ys)) {s with heap:=s.heap.push {cls:=.type "list",data:=.seq its.toArray},toks:=t'}:=
 I.laid (fun _ _ q=>Heap.get?_push_of_some _ q) (Nat.le_refl _) ⟨hz,its,0,hv,Heap.get?_push_size _ rfl⟩
theorem Inv.fresh(I:Inv X pins σ H s):H s.heap.objs.size=none:=I.hok.fresh (Nat.le_refl _)
theorem Inv.lstM(I:Inv X pins σ H s)(hH:H l=some (.lst xs)):xs.length≤sizeLine∧∃(its:List Value)(n:Nat),d4 xs its∧xs.length=its.length∧s.heap.get? l=some {cls:=.type "list",data:=.seq its.toArray n}:=by
 obtain⟨z,its,n,r,e⟩:=I.hok l _ hH;exact⟨z,its,n,r,r.length,e⟩
theorem at7{n:Nat}(h:n≤sizeLine):Builtin.List.listTooLong n=false:=by
 unfold Builtin.List.listTooLong;exact decide_eq_false (by omega)
end
section
variable {X:Cx}
noncomputable def bp3:V→List V→Hp→VK→Prop:=fun x vs H Q=>∃l xs y,x=.ref l∧vs=[y]∧H l=some (.lst xs)∧xs.length<sizeLine∧Q .non (upd H l (.lst (xs++[y])))
theorem as1:MtM X "list.append" bp3:=by
 intro pins s σ H x vs v us Q I rx rv h;obtain⟨l,xs,y,rfl,rfl,hH,hz,q⟩:=h;cases rx;obtain⟨u,rfl,ru⟩:=rv.one;obtain⟨z,its,n,r,hl,e⟩:=I.lstM hH;refine call_meets F.slot_list_append ⟨_,e,rfl⟩ F.entry_list_append (F.args_list_append_2 _ _) (PySem.list_append l its.toArray n u (by rw[List.size_toArray];omega)) ⟨e,?_⟩;refine⟨.non,_,I.lset (its':=its++[u]) hH e (by simp) (r.append (.cons ru .nil)) ?_,rfl,q⟩;rw[List.length_append,List.length_singleton];omega
noncomputable def av2:V→List V→Hp→VK→Prop:=fun x vs H Q=>∃l b xs zs,x=.ref l∧vs=[.ref b]∧H l=some (.lst xs)∧H b=some (.lst zs)∧xs.length+zs.length≤sizeLine∧Q .non (upd H l (.lst (xs++zs)))
theorem ba4:MtM X "list.extend" av2:=by
 intro pins s σ H x vs v us Q I rx rv h;obtain⟨l,b,xs,zs,rfl,rfl,hH,hB,hz,q⟩:=h;cases rx;obtain⟨u,rfl,ru⟩:=rv.one;cases ru;obtain⟨z,its,n,r,hl,e⟩:=I.lstM hH;obtain⟨z2,its2,n2,r2,hl2,e2⟩:=I.lstM hB;have hsz:its.toArray.size+its2.toArray.size≤sizeLine:=by rw[List.size_toArray,List.size_toArray];omega
 have hlong:¬(!its.toArray.isEmpty&&Builtin.List.listTooLong (its.toArray.size+its2.toArray.size))=true:=by
  rw[at7 hsz,Bool.and_false];exact Bool.false_ne_true
 refine call_meets F.slot_list_extend ⟨_,e,rfl⟩ F.entry_list_extend (F.args_list_extend_2 _ _)
  (AutoSeq1.list_extend_list_list_0 l its.toArray n b its2.toArray n2 hlong (by rw[List.size_toArray];omega) (by omega)) ⟨e,e2,?_⟩
 refine⟨.non,_,I.lset (its':=its++its2) hH e (by simp) (r.append r2) ?_,rfl,q⟩;rw[List.length_append];omega
noncomputable def b63:V→List V→Hp→VK→Prop:=fun x vs H Q=>∃l xs y,x=.ref l∧vs=[]∧H l=some (.lst xs)∧xs[xs.length-1]?=some y∧Q y (upd H l (.lst xs.dropLast))
theorem bw5:MtM X "list.pop" b63:=by
 intro pins s σ H x vs v us Q I rx rv h;obtain⟨l,xs,y,rfl,rfl,hH,hy,q⟩:=h;cases rx;have hus:=rv.zero;subst hus;obtain⟨z,its,n,r,hl,e⟩:=I.lstM hH;obtain⟨u,hu,ru⟩:=r.get hy;have hy':its.toArray[its.toArray.size-1]?=some u:=by
  show its.toArray[its.length-1]?=some u;rw[←Array.getElem?_toList,←hl];exact hu
 refine call_meets F.slot_list_pop ⟨_,e,rfl⟩ F.entry_list_pop (F.args_list_pop_1 _) (MeetsSeq.list_pop_last l its.toArray n u hy' (by rw[List.size_toArray];omega)) ⟨e,?_⟩;refine⟨y,_,I.lset (its':=its.dropLast) hH e ?_ r.dropLast ?_,ru,q⟩
 ·show its.toArray.eraseIdxIfInBounds (its.toArray.size-1)=its.dropLast.toArray;rw[List.size_toArray,List.eraseIdxIfInBounds_toArray,a96]
 ·rw[List.length_dropLast];omega
noncomputable def bt9:V→List V→Hp→VK→Prop:=fun x vs H Q=>∃l xs i k y,x=.ref l∧vs=[.int i]∧H l=some (.lst xs)∧-(2^63)≤i∧i<2^63∧seqIndex? i xs.length=some k∧xs[k]?=some y∧Q y (upd H l (.lst (xs.eraseIdx k)))
theorem be0:MtM X "list.pop" bt9:=by
 intro pins s σ H x vs v us Q I rx rv h;obtain⟨l,xs,i,k,y,rfl,rfl,hH,h1,h2,hk,hy,q⟩:=h;cases rx;obtain⟨u,rfl,ru⟩:=rv.one;obtain⟨t,rfl⟩:=ru;obtain⟨z,its,n,r,hl,e⟩:=I.lstM hH;obtain⟨w,hw,rw'⟩:=r.get hy;refine call_meets F.slot_list_pop ⟨_,e,rfl⟩ F.entry_list_pop (F.args_list_pop_2 _ _)
  (MeetsSeq.list_pop_at l its.toArray n i t k w (fitsIndex_both h1 h2) (by rw[List.size_toArray,←hl];exact hk) (by rw[←Array.getElem?_toList];exact hw) (by rw[List.size_toArray];omega)) ⟨e,?_⟩
 refine⟨y,_,I.lset (its':=its.eraseIdx k) hH e ?_ (r.eraseIdx k) ?_,rw',q⟩
 ·show its.toArray.eraseIdxIfInBounds k=(its.eraseIdx k).toArray;rw[List.eraseIdxIfInBounds_toArray]
 ·have:=aq9 xs k;omega
noncomputable def b53:R2:=fun x y H Q=>∃l b xs zs,x=.ref l∧y=.ref b∧H l=some (.lst xs)∧H b=some (.lst zs)∧xs.length+zs.length≤sizeLine∧∀p,H p=none→Q (.ref p) (upd H p (.lst (xs++zs)))
theorem bw0:OpR X (binaryOp .Add) b53:=by
 intro pins s σ H x y v u Q I rx ry h;obtain⟨l,b,xs,zs,rfl,rfl,hH,hB,hz,q⟩:=h;cases rx;cases ry;obtain⟨z,its,n,r,hl,e⟩:=I.lstM hH;obtain⟨z2,its2,n2,r2,hl2,e2⟩:=I.lstM hB;refine PySem.P.add_list e e2 ?_ (by rw[List.size_toArray,List.size_toArray];omega);have ea:its.toArray++its2.toArray=(its++its2).toArray:=by simp
 rw[ea];exact⟨.ref _,_,I.lnew (t':=s.toks) (r.append r2) (by rw[List.length_append];omega),rfl,q _ I.fresh⟩
end
end L2
namespace L2
open PySem PySem.Spec PyProof.Rows
section
variable {κ:Type} [DecidableEq κ]
noncomputable def j7(kvs:List (κ×V))(k:κ):Option V:=(kvs.find? fun kv=>decide (kv.1=k)).map (·.2)
noncomputable def t0(kvs:List (κ×V))(k:κ)(v:V):List (κ×V):=
 if(kvs.any fun kv=>decide (kv.1=k))=true then kvs.map (fun kv=>if kv.1=k then(kv.1,v)else kv)else kvs++[(k,v)]
theorem ai7{p:κ×V}{r:List (κ×V)}{k:κ}(e:p.1=k):j7 (p::r) k=some p.2:=by simp[j7,List.find?_cons,e]
theorem ai6{p:κ×V}{r:List (κ×V)}{k:κ}(e:¬p.1=k):j7 (p::r) k=j7 r k:=by simp[j7,List.find?_cons,e]
theorem aj0(k:κ):∀kvs:List (κ×V),(kvs.any fun kv=>decide (kv.1=k))=(j7 kvs k).isSome
 |[]=>rfl
 |p::r=>by
  rw[List.any_cons]
  by_cases e:p.1=k
  ·simp only[ai7 e,decide_eq_true e,Bool.true_or,Option.isSome_some]
  ·rw[ai6 e,decide_eq_false e,Bool.false_or];exact aj0 k r
theorem ah3(kvs:List (κ×V))(k:κ)(v:V):(t0 kvs k v).length≤kvs.length+1:=by
 unfold t0
 split
 ·rw[List.length_map];omega
 ·rw[List.length_append,List.length_cons,List.length_nil];omega
theorem at9{kvs:List (κ×V)}{k:κ}(v:V)(h:j7 kvs k=none):t0 kvs k v=kvs++[(k,v)]:=by
 unfold t0;rw[aj0,h];exact if_neg (by decide)
theorem y8.isSome_eq{o:Option V}{u:Option Value}(r:y8 o u):o.isSome=u.isSome:=by
 cases o with
 |none=>cases u with
  |none=>rfl
  |some _=>exact(show False from r).elim
 |some _=>cases u with
  |none=>exact(show False from r).elim
  |some _=>rfl
theorem KV.val{kvs:List (κ×V)}{vs:List (κ×Value)}(r:KV kvs vs)(k:κ):y8 (j7 kvs k) (valueAt vs k):=by
 unfold KV at r
 induction r with
 |nil=>exact True.intro
 |@cons p q ps qs h t ih=>
  obtain⟨h1,h2⟩:=h
  by_cases e:p.1=k
  ·have e':q.1=k:=h1.symm.trans e;have b:valueAt (q::qs) k=some q.2:=by simp[valueAt,List.find?_cons,e']
   rw[ai7 e,b];exact h2
  ·have e':¬q.1=k:=fun z=>e (h1.trans z);have b:valueAt (q::qs) k=valueAt qs k:=by simp[valueAt,List.find?_cons,e']
   rw[ai6 e,b];exact ih
theorem KV.any{kvs:List (κ×V)}{vs:List (κ×Value)}(r:KV kvs vs)(k:κ):(kvs.any fun kv=>decide (kv.1=k))=vs.any fun kv=>decide (kv.1=k):=by
 unfold KV at r
 induction r with
 |nil=>rfl
 |cons h t ih=>rw[List.any_cons,List.any_cons,ih,h.1]
theorem KV.repl{kvs:List (κ×V)}{vs:List (κ×Value)}(r:KV kvs vs)(k:κ){y:V}{u:Value}(ry:d7 y u):
  KV (kvs.map fun kv=>if kv.1=k then(kv.1,y)else kv) (vs.map fun kv=>if kv.1=k then(kv.1,u)else kv):=by
 unfold KV at r ⊢
 induction r with
 |nil=>exact .nil
 |@cons p q ps qs h t ih=>
  rw[List.map_cons,List.map_cons];refine .cons ?_ ih;obtain⟨h1,h2⟩:=h
  by_cases e:p.1=k
  ·rw[if_pos e,if_pos (h1.symm.trans e)];exact⟨h1,ry⟩
  ·rw[if_neg e,if_neg (fun z=>e (h1.trans z))];exact⟨h1,h2⟩
theorem KV.put{kvs:List (κ×V)}{vs:List (κ×Value)}(r:KV kvs vs)(k:κ){y:V}{u:Value}(ry:d7 y u):KV (t0 kvs k y) (stored vs k u):=by
 unfold t0 stored;rw[r.any k]
 by_cases e:(vs.any fun kv=>decide (kv.1=k))=true
 ·rw[if_pos e,if_pos e];exact r.repl k ry
 ·rw[if_neg e,if_neg e];exact Paired.snoc r ⟨rfl,ry⟩
theorem KV.length{kvs:List (κ×V)}{vs:List (κ×Value)}(r:KV kvs vs):kvs.length=vs.length:=Paired.length r
end
theorem M9{P:Program}{w:World}{k:Key}{u:Value}(r:d7 (kV k) u):(z9 P w).is k u=true:=by
 cases k with
 |inl i=>obtain⟨t,e⟩:=(show ∃t,u=Value.int i t from r);subst e;exact a81 P w i t
 |inr x=>obtain⟨t,e⟩:=(show ∃t,u=Value.str x t from r);subst e;exact a83 P w x t
noncomputable abbrev KT(H:Hp):List (PyData×V)→List (PyData×Addr×Value)→Prop:=Paired fun p q=>p.1=q.1∧A7 H p.1 q.2.1∧d7 p.2 q.2.2
theorem KT.val{H:Hp}{kvs:List (PyData×V)}{xs:List (PyData×Addr×Value)}(r:KT H kvs xs)(k:PyData):y8 (j7 kvs k) ((atKey xs k).map (·.2)):=by
 induction r with
 |nil=>exact True.intro
 |@cons p q ps qs h t ih=>
  obtain⟨h1,_,h2⟩:=h
  by_cases e:p.1=k
  ·have e':q.1=k:=h1.symm.trans e;have b:atKey (q::qs) k=some q.2:=by simp[atKey,List.find?_cons,e']
   rw[ai7 e,b];exact h2
  ·have e':¬q.1=k:=fun z=>e (h1.trans z);have b:atKey (q::qs) k=atKey qs k:=by simp[atKey,List.find?_cons,e']
   rw[ai6 e,b];exact ih
theorem KT.repl{H:Hp}{kvs:List (PyData×V)}{xs:List (PyData×Addr×Value)}(r:KT H kvs xs)(k:PyData){y:V}{u:Value}(ry:d7 y u):
  KT H (kvs.map fun kv=>if kv.1=k then(kv.1,y)else kv) (xs.map (putAt k u)):=by
 induction r with
 |nil=>exact .nil
 |@cons p q ps qs h t ih=>
  rw[List.map_cons,List.map_cons];refine .cons ?_ ih;obtain⟨h1,h2,h3⟩:=h;unfold putAt
  by_cases e:p.1=k
  ·rw[if_pos e,if_pos (h1.symm.trans e)];exact⟨h1,h2,ry⟩
  ·rw[if_neg e,if_neg (fun z=>e (h1.trans z))];exact⟨h1,h2,h3⟩
theorem KT.put{H:Hp}{kvs:List (PyData×V)}{xs:List (PyData×Addr×Value)}(r:KT H kvs xs)(k:PyData){b:Addr}{y:V}{u:Value}(hb:A7 H k b)(ry:d7 y u):
  KT H (t0 kvs k y) (storedH xs k b u):=by
 have e:(kvs.any fun kv=>decide (kv.1=k))=(atKey xs k).isSome:=by
  rw[aj0,(r.val k).isSome_eq,Option.isSome_map]
 unfold t0 storedH;rw[e]
 by_cases q:(atKey xs k).isSome=true
 ·rw[if_pos q,if_pos q];exact r.repl k ry
 ·rw[if_neg q,if_neg q];exact Paired.snoc r ⟨rfl,hb,ry⟩
theorem KT.keeps{H H':Hp}{kvs:List (PyData×V)}{xs:List (PyData×Addr×Value)}(r:KT H kvs xs)(ht:∀b ys,H b=some (.tup ys)→H' b=some (.tup ys)):KT H' kvs xs:=
 Paired.mapP r fun _ _ z=>⟨z.1,z.2.1.keeps ht,z.2.2⟩
section
variable {P:Program} {w:World} {H:Hp} {h:Heap} {a:Addr}
theorem a02{u:HO}(ok:HOk P w H h)(e:Rd H a u):j9 P w H h a u:=e.ok ok
theorem M2{kvs:List (Key×V)}(ok:HOk P w H h)(e:Rd H a (.dK kvs)):kvs.length≤sizeLine∧(a==sysModules)=false∧∃vs,KV kvs vs∧h.DictOf (z9 P w) a vs:=
 show j9 P w H h a (.dK kvs) from a02 ok e
theorem a03{kvs:List (Key×V)}(ok:HOk P w H h)(e:H a=some (.dK kvs)):kvs.length≤sizeLine∧(a==sysModules)=false∧∃vs,KV kvs vs∧h.DictOf (z9 P w) a vs:=M2 ok (.inl e)
theorem bb8(ok:HOk P w H h):∀(n:Nat)(d:PyData),d.depth≤n→∀{v:V}{u:Value},HRd H d v→d7 v u→∃as,Reads h u d as:=by
 have all:∀n,(∀d:PyData,d.depth≤n→∀{v:V}{u:Value},HRd H d v→d7 v u→∃as,Reads h u d as)→∀(ds:List PyData),PyData.depthAll ds≤n→∀{vs:List V}{us:List Value},C7 H ds vs→d4 vs us→∃as,ReadsAll h us ds as:=fun n ih ds=>by
  induction ds with
  |nil=>
   intro _ vs us q r;obtain rfl:vs=[]:=q;cases r;exact⟨_,.nil⟩
  |cons d ds ihd=>
   intro hd vs us q r;obtain⟨v,vr,rfl,q1,q2⟩:=q;have hd':max d.depth (PyData.depthAll ds)≤n:=hd;cases r with
   |cons r1 r2=>
    obtain⟨a1,x1⟩:=ih d (by omega) q1 r1;obtain⟨a2,x2⟩:=ihd (by omega) q2 r2;exact⟨_,.cons x1 x2⟩
 intro n
 induction n with
 |zero=>
  intro d hd v u q r;cases d with
  |int i=>obtain rfl:v=.int i:=q;obtain⟨t,rfl⟩:=(show ∃t,u=Value.int i t from r);exact⟨_,.int _ _⟩
  |str x=>obtain rfl:v=.str x:=q;obtain⟨t,rfl⟩:=(show ∃t,u=Value.str x t from r);exact⟨_,.str _ _⟩
  |tuple ds=>rw[NK.depth_tup]at hd;omega
  |none=>exact q.elim
  |bool _=>exact q.elim
  |list _=>exact q.elim
  |dict _=>exact q.elim
 |succ n ih=>
  intro d hd v u q r;cases d with
  |int i=>obtain rfl:v=.int i:=q;obtain⟨t,rfl⟩:=(show ∃t,u=Value.int i t from r);exact⟨_,.int _ _⟩
  |str x=>obtain rfl:v=.str x:=q;obtain⟨t,rfl⟩:=(show ∃t,u=Value.str x t from r);exact⟨_,.str _ _⟩
  |none=>exact q.elim
  |bool _=>exact q.elim
  |list _=>exact q.elim
  |dict _=>exact q.elim
  |tuple ds=>
   rw[NK.depth_tup]at hd;obtain⟨b,vs,rfl,q1,q2⟩:=q;cases(show u=Value.ref b from r);obtain⟨_,its,rv,o,h1,h2,_,m,h3⟩:=(show j9 P w H h b (.tup vs) from ok b _ q1);obtain⟨as,x⟩:=all n ih ds (by omega) q2 rv;exact⟨_,.tuple h1 h2 h3 (by simpa using x)⟩
theorem B9{k:PyData}(ok:HOk P w H h)(e:A7 H k a):(NK.dataKind P w).is h k a:=⟨e.1,e.2.1,bb8 ok 7 k e.2.1 e.2.2 rfl⟩
theorem M6{kvs:List (PyData×V)}(ok:HOk P w H h)(e:Rd H a (.dT kvs)):kvs.length≤sizeLine∧(a==sysModules)=false ∧
  ∃xs,KT H kvs xs∧h.DictOfH (NK.dataKind P w) a xs:=by
 obtain⟨z,y,xs,r,o,es,ep,h1,h2,h3,h4,h5⟩:=(show j9 P w H h a (.dT kvs) from a02 ok e);refine⟨z,y,xs,r,o,es,ep,h1,h2,h3,h4,fun x hx=>?_,h5⟩;have all:∀{l:List (PyData×V)}{m:List (PyData×Addr×Value)},KT H l m→∀x∈m,(NK.dataKind P w).is h x.1 x.2.1:=by
  intro l m q
  induction q with
  |nil=>intro x hx;exact nomatch hx
  |@cons p q ps qs hq t ih=>
   intro x hx
   rcases List.mem_cons.mp hx with e|hx
   ·subst e;exact B9 ok (by rw[←hq.1];exact hq.2.1)
   ·exact ih x hx
 exact all r x hx
theorem b04{kvs:List (PyData×V)}(ok:HOk P w H h)(e:H a=some (.dT kvs)):kvs.length≤sizeLine∧(a==sysModules)=false ∧
  ∃xs,KT H kvs xs∧h.DictOfH (NK.dataKind P w) a xs:=M6 ok (.inl e)
end
noncomputable def v3(H:Hp)(a:Addr)(y:V)(r:Option V):Prop:=
 (∃kvs k,Rd H a (.dK kvs)∧y=kV k∧r=j7 kvs k)∨∃kvs k b,Rd H a (.dT kvs)∧y=.ref b∧A7 H k b∧r=j7 kvs k
noncomputable def G6(H:Hp)(a:Addr)(y v:V)(H':Hp):Prop:=
 (∃kvs k,H a=some (.dK kvs)∧y=kV k∧kvs.length<sizeLine∧H'=upd H a (.dK (t0 kvs k v)))∨
 ∃kvs k b,H a=some (.dT kvs)∧y=.ref b∧A7 H k b∧kvs.length<sizeLine∧H'=upd H a (.dT (t0 kvs k v))
theorem v3.k{H:Hp}{a:Addr}{kvs:List (Key×V)}{k:Key}(e:H a=some (.dK kvs)):v3 H a (kV k) (j7 kvs k):=.inl ⟨kvs,k,.inl e,rfl,rfl⟩
theorem G6.k{H:Hp}{a:Addr}{kvs:List (Key×V)}{k:Key}{v:V}(e:H a=some (.dK kvs))(hl:kvs.length<sizeLine):G6 H a (kV k) v (upd H a (.dK (t0 kvs k v))):=.inl ⟨kvs,k,e,rfl,hl,rfl⟩
section
variable {X:Cx} {pins:List (Addr×Obj)} {σ:St} {H:Hp} {s:Shared} {a:Addr} {y v:V} {u r:Value} {o:Option V} {A:Around} {E:Value→Shared→Prop}
theorem Inv.big(I:Inv X pins σ H s):sysModules<s.heap.objs.size:=by
 have h:mainGlobals<s.heap.objs.size:=(I.mod.glob.keeps I.bk).lt;exact Nat.lt_trans (by decide) h
theorem aq5{Q:Value→Shared→Prop}(hu:A.units+20<cLine)(I:Inv X pins σ H s)(g:v3 H a y (some v))(ry:d7 y u)(h:∀w' s',Inv X pins σ H s'→d7 v w'→Q w' s'):
  wpAny (model X.prog X.w) A (getItem (.ref a) u) Q E s:=by
 rcases g with⟨kvs,k,e,ey,l⟩|⟨kvs,k,b,e,ey,eb,l⟩
 ·subst ey;obtain⟨z,hd,vs,rel,dd⟩:=M2 I.hok e;obtain⟨w',hw,rw'⟩:=y8.some_of (v:=v) (o:=valueAt vs k) (by rw[l];exact rel.val k);exact wpAny_getItem_of (M9 ry) dd.mapOf hw (h w' _ (I.tok _) rw')
 ·subst ey;cases(show u=Value.ref b from ry);obtain⟨z,hd,xs,rel,dd⟩:=M6 I.hok e;obtain⟨w',hw,rw'⟩:=y8.some_of (v:=v) (o:=(atKey xs k).map (·.2)) (by rw[l];exact rel.val k);obtain⟨p,hp,hp2⟩:=Option.map_eq_some_iff.mp hw;refine wpAny_getItem_heap (NK.dataKind_room_in1 hu) (B9 I.hok eb) dd hp ?_;rw[hp2];exact h w' _ (I.tok _) rw'
theorem b76{Q:Value→Shared→Prop}(hu:A.units+20<cLine)(I:Inv X pins σ H s)(g:v3 H a y o)(ry:d7 y u)(h:∀s',Inv X pins σ H s'→Q (.bool o.isSome) s'):
  wpAny (model X.prog X.w) A (compareOp .In u (.ref a)) Q E s:=by
 rcases g with⟨kvs,k,e,ey,l⟩|⟨kvs,k,b,e,ey,eb,l⟩
 ·subst ey;obtain⟨z,hd,vs,rel,dd⟩:=M2 I.hok e;refine wpAny_in_of (M9 ry) hd dd.mapOf ?_;rw[←(rel.val k).isSome_eq,←l];exact h _ (I.tok _)
 ·subst ey;cases(show u=Value.ref b from ry);obtain⟨z,hd,xs,rel,dd⟩:=M6 I.hok e;refine wpAny_in_heap (NK.dataKind_room_in1 hu) (B9 I.hok eb) hd dd ?_;have q:=(rel.val k).isSome_eq;rw[Option.isSome_map]at q;rw[←q,←l];exact h _ (I.tok _)
theorem bl3{Q:Value→Shared→Prop}(hu:A.units+20<cLine)(I:Inv X pins σ H s)(g:v3 H a y o)(ry:d7 y u)(h:∀s',Inv X pins σ H s'→Q (.bool (!o.isSome)) s'):
  wpAny (model X.prog X.w) A (compareOp .NotIn u (.ref a)) Q E s:=by
 rcases g with⟨kvs,k,e,ey,l⟩|⟨kvs,k,b,e,ey,eb,l⟩
 ·subst ey;obtain⟨z,hd,vs,rel,dd⟩:=M2 I.hok e;refine wpAny_notIn_of (M9 ry) hd dd.mapOf ?_;rw[←(rel.val k).isSome_eq,←l];exact h _ (I.tok _)
 ·subst ey;cases(show u=Value.ref b from ry);obtain⟨z,hd,xs,rel,dd⟩:=M6 I.hok e;refine wpAny_notIn_heap (NK.dataKind_room_in1 hu) (B9 I.hok eb) hd dd ?_;have q:=(rel.val k).isSome_eq;rw[Option.isSome_map]at q;rw[←q,←l];exact h _ (I.tok _)
theorem aj9{h':Heap}{t':Nat}{ob:HO}(I:Inv X pins σ H s)(mu:Mut (H a))(hs:Heap.SameBut a s.heap h')(he:∃q,h'.get? a=some q)(new:j9 X.prog X.w (upd H a ob) h' a ob):
  Inv X pins σ (upd H a ob) {s with heap:=h',toks:=t'}:=
 I.write (x:=a) (e:=a) mu (.inl rfl) (fun b q hb z=>(hs.2 b hb).trans z) he new
theorem ay8{P:Program}{w:World}{H':Hp}{h':Heap}{kvs:List (Key×V)}{vs:List (Key×Value)}(z:kvs.length≤sizeLine)(hd:(a==sysModules)=false)(rel:KV kvs vs)(dd:h'.DictOf (z9 P w) a vs):
  j9 P w H' h' a (.dK kvs):=⟨z,hd,vs,rel,dd⟩
theorem bc4{H':Hp}{Q:Unit→Shared→Prop}(hu:A.units+20<cLine)(I:Inv X pins σ H s)(g:G6 H a y v H')(ry:d7 y u)(rv:d7 v r)(h:∀s',Inv X pins σ H' s'→Q () s'):
  wpAny (model X.prog X.w) A (setItem (.ref a) u r) Q E s:=by
 rcases g with⟨kvs,k,e,ey,l,eH⟩|⟨kvs,k,b,e,ey,eb,l,eH⟩
 ·subst ey eH;obtain⟨z,hd,vs,rel,dd⟩:=a03 I.hok e;have hz:vs.length≤sizeLine:=by rw[←rel.length];exact z
  have hl:(t0 kvs k v).length≤sizeLine:=by have:=ah3 kvs k v;omega
  refine wpAny_setItem_pairs (hsz:=hz) (M9 ry) dd fun h' dd' hs=>h _ ?_;have he:∃q,h'.get? a=some q:=let⟨q,_,_,hq,_⟩:=dd';⟨q,hq⟩;exact aj9 I (by rw[e];exact True.intro) hs he (ay8 hl hd (rel.put k rv) dd')
 ·subst ey eH;cases(show u=Value.ref b from ry);obtain⟨z,hd,xs,rel,dd⟩:=b04 I.hok e;have hz:xs.length≤sizeLine:=by rw[←Paired.length rel];exact z
  have hl:(t0 kvs k v).length≤sizeLine:=by have:=ah3 kvs k v;omega
  refine wpAny_setItem_heap (hsz:=hz) (NK.dataKind_room_in1 hu) (B9 I.hok eb) dd fun h' dd' hs=>h _ ?_;obtain⟨q,es,ep,hq,h2,h3,h4,_,h5⟩:=dd';refine aj9 I (by rw[e];exact True.intro) hs ⟨q,hq⟩ ⟨hl,hd,_,(rel.put k eb rv).keeps fun c ys ec=>?_,q,es,ep,hq,h2,h3,h4,h5⟩;rw[e8 (b30 ec e (fun z=>nomatch z))];exact ec
end
noncomputable def a34(i:Expr):Prop:=∀ov iv,subscripted i false ov iv=operate [ov,iv] (getItem ov iv)
theorem aw7{prog:Program}{w:World}{A:Around}{E:Value→Shared→Prop}{s:Shared}{env:Env}{value slice:Expr}{pos:Pos}{T id:String}{Q:Value→Shared→Prop}
  (hl:typeLookup (.type T) "__getitem__"=pure (some (.builtin id))) (hs:a34 slice)
  (h:wpAny (model prog w) A (eval value env) (fun o s₁=>wpAny (model prog w) A (eval slice env) (fun i s₂=>s₂.TypeIs o T∧wpAny (model prog w) A (getItem o i) Q E s₂) E s₁) E s) :
  wpAny (model prog w) A (eval (.Subscript value slice pos) env) Q E s:=by
 refine Subscript_ (wpAny_mono h (fun o s₁ h₁=>wpAny_mono h₁ (fun i s₂ h₂=>?_) fun _ _ x=>x) fun _ _ x=>x);obtain⟨hT,h₂⟩:=h₂;unfold subscriptTail;refine wpAny_bind ?_;rw[getitemInPython_of_ne hT.not_modules];refine wpAny_bind (wpAny_specialOf hT hl ?_);have fin:wpAny (model prog w) A (subscripted slice false o i) (fun r s₃=>wpAny (model prog w) A (letTemporaryGo value o r>>=fun _=>pure r) Q E s₃) E s₂:=by
  rw[hs o i];exact wpAny_operating (wpAny_mono h₂ (fun r s₃ h₃=>wpAny_bind (wpAny_letTemporaryGo (wpAny_pure h₃))) fun _ _ x=>x)
 first
  |exact wpAny_pure (wpAny_bind fin)
  |exact wpAny_bind (wpAny_pure (wpAny_bind fin))
  |exact wpAny_bind fin
theorem ao8{X:Cx}{pins:List (Addr×Obj)}{σ:St}{H:Hp}{s:Shared}{a:Addr}{y:V}{o:Option V}(I:Inv X pins σ H s)(g:v3 H a y o):s.TypeIs (.ref a) "dict":=by
 rcases g with⟨kvs,k,e,_,_⟩|⟨kvs,k,b,e,_,_,_⟩
 ·obtain⟨_,_,vs,_,dd⟩:=M2 I.hok e;exact dd.typeIs
 ·obtain⟨_,_,xs,_,dd⟩:=M6 I.hok e;exact dd.typeIs
noncomputable def bz8(td ty:TE):TE:=fun σ H Q=>td σ H fun x H1=>ty σ H1 fun y H2=>∃a v,x=.ref a∧v3 H2 a y (some v)∧Q v H2
noncomputable def b03(td ty tv:TE):TS:=fun D σ H=>tv σ H fun v H1=>td σ H1 fun x H2=>ty σ H2 fun y H3=>∃a H4,x=.ref a∧G6 H3 a y v H4∧D.nx σ H4
section
variable {X:Cx} {o i e value:Expr} {pos pos' tpos:Pos} {td ty tv:TE}
theorem bp8(hu:X.A.units+20<cLine)(ho:PE X o td)(hi:PE X i ty)(hs:a34 i):PE X (.Subscript o i pos) (bz8 td ty):=by
 intro pins s σ H Q I h;refine aw7 PySem.F.slot_dict_getitem.lookup hs (thn (ho pins s σ H _ I h) fun u s1⟨x,H1,I1,rx,q1⟩=>thn (hi pins s1 σ H1 _ I1 q1) fun iv s2⟨y,H2,I2,ry,a,v,ex,g,q2⟩=>?_);subst ex;obtain rfl:u=Value.ref a:=rx;exact⟨ao8 I2 g,aq5 hu I2 g ry fun w' s3 I3 rw'=>⟨v,H2,I3,rw',q2⟩⟩
theorem bp5(hu:X.A.units+20<cLine)(ho:PE X o td)(hi:PE X i ty)(hv:PE X value tv)(hs:swapsWith value (some (.Subscript o i pos')) pos.line X.env=pure false):
  PS X (.Assign [.Subscript o i pos'] value pos) (b03 td ty tv):=by
 intro pins s σ H D I h;refine wpAny_Assign_Subscript (thn (hv pins s σ H _ I h) fun r s1⟨v,H1,I1,rv,q1⟩=>thn (ho pins s1 σ H1 _ I1 q1) fun u s2⟨x,H2,I2,rx,q2⟩=>thn (hi pins s2 σ H2 _ I2 q2) fun iv s3⟨y,H3,I3,ry,a,H4,ex,g,q3⟩=>?_) hs;subst ex;obtain rfl:u=Value.ref a:=rx;exact bc4 hu I3 g ry rv fun s4 I4=>⟨σ,H4,I4,q3⟩
end
theorem at4{P:Program}{w:World}{H:Hp}(h:Heap)(hb:sysModules<h.objs.size):j9 P w H (h.push {cls:=.type "dict",data:=.dict #[]}) h.objs.size (.dK []):=
 ⟨Nat.zero_le _,beq_eq_false_iff_ne.mpr (Ne.symm (Nat.ne_of_lt hb)),[],.nil,Heap.DictOf.new h⟩
noncomputable def by7:TE:=fun _ H Q=>∀p,H p=none→Q (.ref p) (upd H p (.dK []))
section
variable {X:Cx} {pos:Pos}
theorem bi6:PE X (.Dict [] [] pos) by7:=fun pins s σ H Q I h=>
 wpAny_Dict_empty ⟨.ref s.heap.objs.size,_,I.laid (a:=s.heap.objs.size) (o:=.dK []) (t':=s.toks) (fun _ _ q=>Heap.get?_push_of_some _ q) (Nat.le_refl _) (at4 s.heap I.big),rfl,h _ (I.hok.fresh (Nat.le_refl _))⟩
end
noncomputable def L3:List (TE×TE)→St→Hp→(List (V×V)→Hp→Prop)→Prop
 |[],_,H,Q=>Q [] H
 |(tk,tv)::r,σ,H,Q=>tk σ H fun x H1=>tv σ H1 fun y H2=>L3 r σ H2 fun ps H3=>Q ((x,y)::ps) H3
noncomputable abbrev VV:List (V×V)→List (Value×Value)→Prop:=Paired fun p q=>d7 p.1 q.1∧d7 p.2 q.2
noncomputable def PPs(X:Cx)(pos:Pos)(keys:List (Option Expr))(values:List Expr)(trs:List (TE×TE)):Prop:=
 ∀(pins:List (Addr×Obj))(s:Shared)(σ:St)(H:Hp)(Q:List (V×V)→Hp→Prop),Inv X pins σ H s→L3 trs σ H Q →
  wpAny (model X.prog X.w) X.A (evalPairs (pairTrees keys values X.env pos)) (fun vs s'=>∃ps H',Inv X pins σ H' s'∧VV ps vs∧Q ps H') X.xe s
theorem bl7{X:Cx}{pos:Pos}:PPs X pos [] [] []:=fun pins s σ H Q I h=>pairTrees_nil_walk ⟨[],H,I,.nil,h⟩
theorem be3{X:Cx}{pos:Pos}{k v:Expr}{ks:List (Option Expr)}{vs:List Expr}{tk tv:TE}{trs:List (TE×TE)}(hk:PE X k tk)(hv:PE X v tv)(hr:PPs X pos ks vs trs):
  PPs X pos (some k::ks) (v::vs) ((tk,tv)::trs):=fun pins s σ H Q I h=>
 pairTrees_cons_walk (thn (hk pins s σ H _ I h) fun u s1⟨x,H1,I1,rx,q1⟩=>thn (hv pins s1 σ H1 _ I1 q1) fun w2 s2⟨y,H2,I2,ry,q2⟩=>
  thn (hr pins s2 σ H2 _ I2 q2) fun ws s3⟨ps,H3,I3,rel,q3⟩=>⟨(x,y)::ps,H3,I3,.cons ⟨rx,ry⟩ rel,q3⟩)
noncomputable def A3(kvs more:List (Key×V)):List (Key×V):=more.foldl (fun acc kv=>t0 acc kv.1 kv.2) kvs
theorem KV.merge:∀{more:List (Key×V)}{rs:List (Key×Value)}{kvs:List (Key×V)}{vs:List (Key×Value)},KV more rs→KV kvs vs→KV (A3 kvs more) (merged vs rs):=by
 intro more rs kvs vs r;unfold KV at r
 induction r generalizing kvs vs with
 |nil=>intro q;exact q
 |@cons p q ps qs h t ih=>
  intro r0;have e:KV (t0 kvs p.1 p.2) (stored vs q.1 q.2):=by
   have:=r0.put p.1 h.2;rw[←h.1];exact this
  exact ih e
theorem ao6:∀(more kvs:List (Key×V)),(A3 kvs more).length≤kvs.length+more.length
 |[],kvs=>by show kvs.length≤kvs.length+0;omega
 |p::r,kvs=>by
  have h1:=ao6 r (t0 kvs p.1 p.2);have h2:=ah3 kvs p.1 p.2;show(A3 (t0 kvs p.1 p.2) r).length≤_;rw[List.length_cons];omega
theorem ap3{P:Program}{w:World}:∀{kvs:List (Key×V)}{ws:List (Value×Value)},VV (kvs.map fun kv=>(kV kv.1,kv.2)) ws→∃rs,Carries (z9 P w) ws rs∧KV kvs rs
 |[],_,r=>by rw[List.map_nil]at r;cases r;exact⟨[],True.intro,.nil⟩
 |p::kvs,_,r=>by
  rw[List.map_cons]at r;cases r with
  |@cons a b as bs h t=>
   obtain⟨rs,c,q⟩:=ap3 (P:=P) (w:=w) t;obtain⟨b1,b2⟩:=b;exact⟨(p.1,b2)::rs,⟨M9 h.1,rfl,c⟩,.cons ⟨rfl,h.2⟩ q⟩
noncomputable def b51(trs:List (TE×TE)):TE:=fun σ H Q=>∀p,H p=none→L3 trs σ (upd H p (.dK [])) fun ps H2=>H2 p=some (.dK [])∧∃kvs:List (Key×V),ps=kvs.map (fun kv=>(kV kv.1,kv.2))∧kvs.length≤15∧Q (.ref p) (upd H2 p (.dK (A3 [] kvs)))
theorem bm1{X:Cx}{pos:Pos}{keys:List (Option Expr)}{values:List Expr}{trs:List (TE×TE)}(h:PPs X pos keys values trs)(hall:keys.all (·.isSome)=true)(hl:keys.length=values.length)(h0:keys≠[])
  (h15:keys.length≤15):PE X (.Dict keys values pos) (b51 trs):=by
 intro pins s σ H Q I q;have hn:=I.hok.fresh (Nat.le_refl s.heap.objs.size);have I1:=I.laid (a:=s.heap.objs.size) (o:=.dK []) (h':=s.heap.push {cls:=.type "dict",data:=.dict #[]}) (t':=s.toks) (fun _ _ q=>Heap.get?_push_of_some _ q) (Nat.le_refl _) (at4 s.heap I.big);refine wpAny_Dict_walk (knd:=z9 X.prog X.w) hall hl h0 h15 (thn (h pins _ σ _ _ I1 (q _ hn)) fun ws s2⟨ps,H2,I2,rel,e,kvs,ep,lk,q2⟩=>?_);subst ep;obtain⟨rs,c,rk⟩:=ap3 (P:=X.prog) (w:=X.w) rel;obtain⟨z,hd,vs0,r0,dd⟩:=a03 I2.hok e;cases r0;refine⟨rs,c,dd,fun h' dd' hs=>⟨.ref s.heap.objs.size,_,?_,rfl,q2⟩⟩;have hz:(A3 [] kvs).length≤sizeLine:=by
  have h1:=ao6 kvs [];rw[List.length_nil]at h1;rw[sizeLine_eq];omega
 have he:∃q,h'.get? s.heap.objs.size=some q:=let⟨q,_,_,hq,_⟩:=dd';⟨q,hq⟩;exact aj9 I2 (by rw[e];exact True.intro) hs he (ay8 hz hd (rk.merge .nil) dd')
noncomputable def IsD(H:Hp)(a:Addr):Prop:=(∃kvs,Rd H a (.dK kvs))∨∃kvs,Rd H a (.dT kvs)
end L2
namespace Att
open PySem PySem.W PySem.Calls PyProof.Rows
theorem a48{P:Params}{h:Heap}:∀(ns:List Int)(vs:List Value),WellAll P h vs (ns.map WData.int)→IntsAre vs ns:=by
 intro ns
 induction ns with
 |nil=>
  intro vs w;rw[List.map_nil]at w;cases w;exact .nil
 |cons n ns ih=>
  intro vs w;rw[List.map_cons]at w;cases w with
  |cons a b=>
   cases a;exact .cons _ _ (ih _ b)
theorem bc7{l:OpenLaw}{n:Nat}(hn:l.most=some n){P:Params}{h:Heap}{args:List WData}{vals:List Value}
  (hpre:l.row.toRowW.claim.pre args=true) (hwl:WellAll P h vals args) :
  ∃a vs ns,vals=[Value.ref a]∧args=[WData.list (ns.map WData.int)]∧h.get? a=some {cls:=.type "list",data:=.seq vs.toArray}∧IntsAre vs ns∧ns.length≤n:=by
 have hsh:WShape.hasAll [] args [.list .int]=true:=(pre_splitW hpre).1;have hc:l.pre.holds [] {args:=args}=true:=(pre_splitW hpre).2;obtain⟨d,r,rfl,h1,h2⟩:=hasAllW_cons hsh;obtain rfl:=hasAllW_nil h2;obtain⟨xs,rfl,h3⟩:=hasW_list h1;obtain⟨ns,rfl⟩:=items_int h3;have hlen:ns.length≤n:=by
  unfold OpenLaw.pre at hc;have h4:(WTm.not (.lt (.lit (.int (n:Int))) (.len (.arg 0)))).holds [] {args:=[.list (ns.map .int)]}=true:=by
   have h4:=(holds_andW hc).1;rw[hn]at h4;exact h4
  have h5:=condW_of h4 (w_not (w_lt w_lit (w_len_list (w_arg rfl))));rw[List.length_map]at h5;refine Nat.le_of_not_lt fun q=>?_;have q':(n:Int)<((ns.length:Nat):Int):=by omega
  first
   |(rw[decide_eq_true q']at h5;exact absurd h5 (by decide))
   |(simp at h5;omega)
 cases hwl with
 |cons w1 w2=>
  cases w2;cases w1 with
  |list ho hall=>exact⟨_,_,ns,rfl,rfl,ho,a48 ns _ hall,hlen⟩
theorem bc1(l:OpenLaw)(args:List WData):l.row.toRowW.claim.post args (.bool true) args=true:=
 postW_of (r:=l.row.toRowW) (X:=(true==true))
  (show WShape.has [] (.bool true) .bool=true by first|rfl|decide|simp[WShape.has,WShape.arms,WShape.armsAll])
  (show(WTm.eq .res (.lit (.bool true))).value [] {args:=args,res:=some (.bool true),after:=args}=some (.bool (true==true)) from w_eq_bool (w_res rfl) w_lit) rfl
theorem attach_call{l:OpenLaw}{n:Nat}{q:Program}{loose:List Str}{XP:(Str→Option Value)→Heap→Prop}{YP:World→Heap→Prop}{d:DefRec}
  (hn:l.most=some n) (hdf:d.params.defaults=[])
  (call:∀(w:World)(s₀ s₁:Shared)(mg mb:Str→Option Value)(fa:Addr)(o:Obj)(pm cd doc:Value)(a:Addr)(vs:List Value)(ns:List Int),
   Ground q loose [] XP w s₀ mg mb s₁.heap→YP w s₁.heap →
   s₁.heap.get? fa=some o→o.data=.func (docDef d.name d.params d.body d.scope pm cd doc)→s₁.heap.CodeRec cd d.name→mg d.name=some (.ref fa) →
   s₁.heap.get? a=some {cls:=.type "list",data:=.seq vs.toArray}→IntsAre vs ns→ns.length≤n→s₁.gens=#[] →
   codeAny (model l.prog w) callerA (.call (.ref fa) ⟨[.ref a],[]⟩) (fun r s'=>r=.ok (.ret (.bool true))∧OldK s₁.heap s'.heap∧s'.os=s₁.os∧AllBare s'.gens) s₁) :
  WalkO q loose XP YP l.row.toRowW d [] (fun f vs=>PySem.call f vs):=by
 intro w s₀ s₁ mg mb G Y fa o pm cd doc dV kV ho hd hcd hD hmg hg args vals as hpre hlay hrd hwl hlo;obtain rfl:dV=.none:=Dflts.none hD hdf;obtain rfl:kV=.none:=Dflts.noKw hD;obtain⟨a,vs,ns,rfl,rfl,hobj,hints,hlen⟩:=bc7 hn hpre hwl;refine enter_call (codeAny_mono (call w s₀ s₁ mg mb fa o pm cd doc a vs ns G Y ho (fd_plain hd) hcd hmg hobj hints hlen hg) fun r s' hq=>?_);obtain⟨rfl,h2,h3,h4⟩:=hq;exact⟨.inl ⟨.bool true,.bool true,[],rfl,fun _=>rfl,.bool true,bc1 l _,fun _=>⟨List.Pairwise.nil,fun _ hm=>(nomatch hm)⟩⟩,h2,h3,h4⟩
section
variable {prog:Program} {w:World} {A:Around} {E:Value→Shared→Prop} {s:Shared} {K:Frag}
noncomputable def b87(h:Heap)(L d:Addr):List (Addr×Obj):=(List.range h.objs.size).filterMap fun a=>if a=L∨a=d then none else(h.get? a).map fun o=>(a,o)
end
end Att
namespace L2
open PySem PySem.Spec PyProof.Rows
theorem ar3:∀{vs:List Value}{ns:List Int},IntsAre vs ns→d4 (ns.map V.int) vs
 |_,_,.nil=>.nil
 |_,_,.cons n t h=>.cons ⟨t,rfl⟩ (ar3 h)
end L2
namespace L2
open PySem PySem.Spec PyProof.Rows
end L2
namespace L2
open PySem PySem.Spec PyProof.Rows
noncomputable def i8(s:Stmt):Arguments:=match s with
 |.FunctionDef _ a _ _ _ _ _ _ _ _=>a
 |_=>{posonlyargs:=[],args:=[],vararg:=none,kwonlyargs:=[],kw_defaults:=[],kwarg:=none,defaults:=[]}
noncomputable def i6(s:Stmt):List Stmt:=match s with
 |.FunctionDef _ _ b _ _ _ _ _ _ _=>b
 |_=>[]
noncomputable def g6(s:Stmt):Scope:=match s with
 |.FunctionDef _ _ _ _ _ _ sc _ _ _=>sc
 |_=>{kind:=.function,names:=[],isGenerator:=false,isCoroutine:=false}
noncomputable abbrev CX0:CXT:=fun _ _ _ _ _ _=>False
noncomputable abbrev E0:XK:=fun _ _ _=>False
theorem al6{X:Cx}:ak7 CX0 X E0:=fun _ _ _ _ _ _ _ h=>h.elim
structure Fun(K:W.Frag)(x qual:Str)(st:Stmt)(f:Addr)(fd:FuncData):Prop where
 ex:∃(oc:Value)(od:Option Addr)(kV doc pm:Value)(an:Option Addr)(cdv ct:Value)(osl:Array (Option Value)),
  fd=W.fnOf x qual (i8 st) (i6 st) (g6 st) .none kV doc pm an cdv ct∧K.lookup f=some ⟨oc,od,.func fd,osl⟩∧W.codeIn K cdv qual=true
 kp:W.keepIn K (.ref f)=true
section
variable {P:Program} {w:World} {K:W.Frag} {mg:Str→Option Value} {base:Heap}
theorem bv8{x qual:Str}{st:Stmt}{f:Addr}{oc:Value}{od an:Option Addr}{osl:Array (Option Value)}{kV doc pm cdv ct:Value}(l:K.lookup f=some ⟨oc,od,.func (W.fnOf x qual (i8 st) (i6 st) (g6 st) .none kV doc pm an cdv ct),osl⟩)
  (c:W.codeIn K cdv qual=true) (k:W.keepIn K (.ref f)=true):Fun K x qual st f (W.fnOf x qual (i8 st) (i6 st) (g6 st) .none kV doc pm an cdv ct):=⟨⟨oc,od,kV,doc,pm,an,cdv,ct,osl,rfl,l,c⟩,k⟩
end
theorem ar1{n:Nat}(h:n≤1000):n<sizeLine:=Nat.lt_of_le_of_lt h (by decide)
noncomputable def v6(H H':Hp):Prop:=∀b o,H b=some o→H' b=some o
theorem v6.refl(H:Hp):v6 H H:=fun _ _ h=>h
theorem v6.trans{H H1 H2:Hp}(a:v6 H H1)(b:v6 H1 H2):v6 H H2:=fun c o h=>b c o (a c o h)
end L2
namespace L2
open PySem PySem.Spec PyProof.Rows
theorem a76{prog:Program}{w:World}{A:Around}{R:Result→Shared→Prop}{s:Shared}{elt target iter:Expr}{ifs:List Expr}{scope:Scope}{pos:Pos}{it acc:Value}{env:Env}(I:Nat→Shared→Prop)
  (turn:∀n s,I n s→wpAny (model prog w) A (pyNext it) (fun r s₁=>match r with
   |none=>R (.ok .next) s₁
   |some v=>wpAny (model prog w) A (letOwnedTupleGo target it v) (fun _ s₁'=>wpAny (model prog w) A (assign target env v) (fun _ s₂=>
     wpAny (model prog w) A (forIn ifs true fun c r=>if r=true then do let ok ←isTrue c env (eval c env);pure (ForInStep.yield ok)else pure (ForInStep.yield r)) (fun ok s₃=>
      if ok=true then wpAny (model prog w) A (eval elt env) (fun x s₄=>
       wpAny (model prog w) A (call (.builtin "list.append") [acc,x]) (fun _ s₅=>∃m,m<n∧I m s₅) (fun _ _=>False) s₄) (fun _ _=>False) s₃
      else ∃m,m<n∧I m s₃) (fun _ _=>False) s₂) (fun _ _=>False) s₁') (fun _ _=>False) s₁) (fun _ _=>False) s)
  (n:Nat) (h:I n s) :
  codeAny (model prog w) A (.compLoop (.ListComp elt [⟨target,iter,ifs,0⟩] scope pos) 0 it acc env) R s:=by
 refine codeAny_loop rfl I (fun n s hI=>?_) n h;show wpAny _ A ((compTurn (.ListComp elt [⟨target,iter,ifs,0⟩] scope pos) 0 it acc env).onRaise (fun x=>do noteFrame x env;theTreesLotGoes x)) _ _ s;refine wpAny_noted ?_;rw[compTurn_list];refine wpAny_bind (wpAny_standAt (wpAny_bind (wpAny_mono (turn n s hI) (fun r s₁ h₁=>?_) fun _ _ h'=>h'.elim)));cases r with
 |none=>exact wpAny_pure h₁
 |some v=>
  refine wpAny_bind (wpAny_mono h₁ (fun _ s₁' h₁'=>?_) fun _ _ h'=>h'.elim);refine wpAny_bind (wpAny_mono h₁' (fun _ s₂ h₂=>wpAny_bind (wpAny_mono h₂ (fun ok s₃ h₃=>?_) fun _ _ h'=>h'.elim)) fun _ _ h'=>h'.elim);cases ok with
  |false=>exact wpAny_pure ⟨rfl,h₃⟩
  |true=>
   exact wpAny_bind (wpAny_bind (wpAny_mono h₃ (fun x s₄ h₄=>wpAny_bind (wpAny_mono h₄ (fun _ s₅ h₅=>wpAny_pure (wpAny_pure ⟨rfl,h₅⟩)) fun _ _ h'=>h'.elim)) fun _ _ h'=>h'.elim))
noncomputable def m9(cells:List (Str×Addr)):List (Str×NameKind)→List (Str×Addr)→List (Str×Addr)
 |[],acc=>acc
 |(n,k)::r,acc=>m9 cells r (if k==.free then(match cells.lookup n with|some a=>(n,a)::acc|none=>acc)else acc)
theorem ah7{env:Env}:∀(names:List (Str×NameKind))(acc:List (Str×Addr)),(∀x∈names,x.2=.free→(env.cells.lookup x.1).isSome=true) →
  (forIn names acc fun x r=>match x with
   |(name,kind)=>if(kind==NameKind.free)=true then do let a ←cellOf env name;pure (ForInStep.yield ((name,a)::r))else pure (ForInStep.yield r):Sem (List (Str×Addr)))=pure (m9 env.cells names acc)
 |[],acc,_=>rfl
 |(n,k)::r,acc,h=>by
  have hr:∀x∈r,x.2=.free→(env.cells.lookup x.1).isSome=true:=fun x hx=>h x (List.mem_cons_of_mem _ hx);rw[List.forIn_cons];cases hk:(k==NameKind.free)with
  |false=>
   simp only[hk,Bool.false_eq_true,if_false,pure_bind];rw[ah7 r acc hr];simp only[m9,hk,Bool.false_eq_true,if_false]
  |true=>
   have hf:k=.free:=by simpa using hk
   obtain⟨a,ha⟩:=Option.isSome_iff_exists.mp (h (n,k) List.mem_cons_self hf);have hc:cellOf env n=pure a:=by unfold cellOf;rw[ha]
   simp only[hk,if_true,hc,pure_bind];rw[ah7 r _ hr];simp only[m9,hk,if_true,ha]
theorem ah6{env:Env}{scope:Scope}(h:∀x∈scope.names,x.2=.free→(env.cells.lookup x.1).isSome=true):closureFor scope env=pure (m9 env.cells scope.names []):=by
 unfold closureFor;have e:=ah7 (env:=env) scope.names [] h;show((forIn scope.names ([]:List (Str×Addr)) (fun x r=>match x with
   |(name,kind)=>if(kind==NameKind.free)=true then do let a ←cellOf env name;pure (ForInStep.yield ((name,a)::r))else pure (ForInStep.yield r)):Sem (List (Str×Addr)))>>=fun cs=>pure cs)=_
 rw[e];rfl
theorem au0{cells:List (Str×Addr)}:∀{names:List (Str×NameKind)}{acc:List (Str×Addr)}{x:Str}{c:Addr},(x,c)∈m9 cells names acc→(x,c)∈acc∨(cells.lookup x=some c∧(x,NameKind.free)∈names)
 |[],acc,x,c,h=>.inl h
 |(n,k)::r,acc,x,c,h=>by
  unfold m9 at h
  rcases au0 h with h1|⟨h1,h2⟩
  ·cases hk:(k==NameKind.free)with
   |false=>simp only[hk,Bool.false_eq_true,if_false]at h1;exact .inl h1
   |true=>
    have hf:k=.free:=by simpa using hk
    subst hf;simp only[hk,if_true]at h1;cases hc:cells.lookup n with
    |none=>rw[hc]at h1;exact .inl h1
    |some a=>
     rw[hc]at h1
     rcases List.mem_cons.mp h1 with e|e
     ·cases e;exact .inr ⟨hc,List.mem_cons_self⟩
     ·exact .inl e
  ·exact .inr ⟨h1,List.mem_cons_of_mem _ h2⟩
theorem av0{cells:List (Str×Addr)}:∀{names:List (Str×NameKind)}{acc:List (Str×Addr)}{x:Str}{c:Addr},cells.lookup x=some c→((x,NameKind.free)∈names∨(x,c)∈acc)→(x,c)∈m9 cells names acc
 |[],acc,x,c,_,h=>by
  rcases h with h|h
  ·cases h
  ·exact h
 |(n,k)::r,acc,x,c,hc,h=>by
  unfold m9;refine av0 hc ?_
  rcases h with h|h
  ·rcases List.mem_cons.mp h with e|e
   ·cases e;refine .inr ?_;rw[if_pos (by decide),hc];exact List.mem_cons_self
   ·exact .inl e
  ·refine .inr ?_
   split
   ·split
    ·exact List.mem_cons_of_mem _ h
    ·exact h
   ·exact h
theorem ah4{α:Type}{l:List (Str×α)}{x:Str}{a:α}(h:l.lookup x=some a):(x,a)∈l:=PySem.mem_of_lookup h
theorem ap5{α:Type}:∀{l:List (Str×α)}{x:Str}{a:α},(x,a)∈l→∃b,l.lookup x=some b
 |[],_,_,h=>by cases h
 |(y,b)::r,x,a,h=>by
  rw[List.lookup_cons];cases e:x==y with
  |true=>exact⟨b,rfl⟩
  |false=>
   rcases List.mem_cons.mp h with z|z
   ·cases z;simp at e
   ·exact ap5 z
theorem B2{cells:List (Str×Addr)}{names:List (Str×NameKind)}{x:Str}{c:Addr}(h:(m9 cells names []).lookup x=some c):cells.lookup x=some c∧(x,NameKind.free)∈names:=by
 rcases au0 (ah4 h)with z|z
 ·cases z
 ·exact z
theorem P8{cells:List (Str×Addr)}{names:List (Str×NameKind)}{x:Str}{c:Addr}(h:cells.lookup x=some c)(hm:(x,NameKind.free)∈names):(m9 cells names []).lookup x=some c:=by
 obtain⟨b,hb⟩:=ap5 (av0 (acc:=[]) h (.inl hm));have:=(B2 hb).1;rw[h]at this;cases this;exact hb
structure CompScope(X:Cx)(scope:Scope)(Nc:List Str)(fr:List Nat)(k:Nat):Prop where
 kind:scope.kind=.function
 nocell:∀y∈scope.names,y.2≠.cell
 names:∀y∈scope.names,y.2=.local→scope.names.lookup y.1=some .local
 frees:∀y∈scope.names,y.2=.free→X.env.scope.names.lookup y.1=some .cell∨X.env.scope.names.lookup y.1=some .free
 uniq:∀y∈scope.names,y.2=.free→(y.1,NameKind.local)∉scope.names
 nd:Nc.Nodup
 len:Nc.length=fr.length+k
 fre:∀i x,Nc[i]?=some x→i<fr.length→∃j,fr[i]?=some j∧X.N[j]?=some x∧(x,NameKind.free)∈scope.names
noncomputable def y4(fr:List Nat)(k:Nat)(σ:St):St:=(fr.map fun j=>(σ[j]?).join)++List.replicate k none
theorem a72{scope:Scope}{env:Env}{x:Str}(h:((relabel scope env).names.lookup x=some .cell∨(relabel scope env).names.lookup x=some .free))(hc:∀y∈scope.names,y.2≠.cell):(x,NameKind.free)∈scope.names:=by
 have go:∀k,(relabel scope env).names.lookup x=some k→(k=.cell∨k=.free)→(x,NameKind.free)∈scope.names:=by
  intro k hk hkk;have hm:=ah4 hk;unfold relabel at hm;obtain⟨⟨n,k'⟩,h1,h2⟩:=List.mem_map.mp hm;dsimp only at h2
  split at h2
  ·rename_i hcond;cases h2;have:k'=.free:=by
    simp only[Bool.and_eq_true,beq_iff_eq]at hcond;exact hcond.1.1
   rw[←this];exact h1
  ·cases h2
   rcases hkk with z|z
   ·exact absurd z (hc _ h1)
   ·rw[←z];exact h1
 rcases h with h|h
 ·exact go _ h (.inl rfl)
 ·exact go _ h (.inr rfl)
theorem a79{scope:Scope}{env:Env}{x:Str}:∀{k},(relabel scope env).names.lookup x=some k→∃k',(x,k')∈scope.names∧(k=k'∨(k'=.free∧k=.cell)):=by
 intro k hk;have hm:=ah4 hk;unfold relabel at hm;obtain⟨⟨n,k'⟩,h1,h2⟩:=List.mem_map.mp hm;dsimp only at h2
 split at h2
 ·rename_i hcond;cases h2;refine⟨_,h1,.inr ⟨?_,rfl⟩⟩;simp only[Bool.and_eq_true,beq_iff_eq]at hcond;exact hcond.1.1
 ·cases h2;exact⟨_,h1,.inl rfl⟩
noncomputable def Cx.comp(X:Cx)(scope:Scope)(Nc:List Str)(C:Addr)(fp:List Addr)(pins:List (Addr×Obj))(s:Shared)(H:Hp):Cx:=
 {X with N:=Nc,s₀:=s,H₀:=H,env:=compEnvC scope (m9 X.env.cells scope.names []) C X.env,outer:=X.stack,stack:=X.stack,ex:=fp,fn:=fun _=>false,pn:=X.pn++pins,xe:=fun _ _=>False,ow:=fun _=>false}
theorem Cx.comp_ok{X:Cx}{scope:Scope}{Nc:List Str}{fr:List Nat}{k:Nat}{C:Addr}{fp:List Addr}{pins:List (Addr×Obj)}{σ:St}{H:Hp}{s:Shared}(S:CompScope X scope Nc fr k)(I:Inv X pins σ H s)
  (hC:s.heap.objs.size≤C) (hf:∀b∈fp,u1 X pins H b) (hlt:∀b∈fp,b<s.heap.objs.size):(X.comp scope Nc C fp pins s H).Ok where
 mod:=I.ok.mod
 kind:=S.kind
 glob:=I.ok.glob
 blt:=I.ok.blt
 above:=hC
 inj:=fun x y c h1 h2=>I.ok.inj x y c (B2 h1).1 (B2 h2).1
 has:=fun x h=>by
  have hm:=a72 h S.nocell;have hx:=S.frees _ hm rfl;obtain⟨c,hc⟩:=I.ok.has x hx;exact⟨c,P8 hc hm⟩
 cab:=fun x c h _=>h.elim (fun z=>nomatch z) fun z=>nomatch z
 hd:=I.ok.hd
 frames:=I.ok.frames
 stk:=.inl rfl
 exf:=fun b hb=>⟨fun z=>by have h1:=hlt b hb;have h2:b=C:=z;rw[h2]at h1;exact absurd h1 (Nat.not_lt.mpr hC),fun x c h=>(hf b hb).2.2.2.2.1 x c (B2 h).1⟩
 bs:=I.bs
 bsz:=Nat.le_trans I.ok.bsz I.sz
 noex:=fun b o e hb=>by
  obtain⟨h0,h1,h2,h3,h4,h5⟩:=hf b hb
  rcases h3 with z|z
  ·exact I.ok.noex b o e z
  ·have:=(I.ok.bs b o e).1;exact absurd (Nat.lt_of_lt_of_le (Heap.lt_size this) z) (Nat.lt_irrefl _)
 exfs:=fun b hb z=>by
  obtain⟨h0,h1,h2,_⟩:=hf b hb
  rcases List.mem_cons.mp (I.stkSub b z)with e|e
  ·exact h1 e
  ·exact h2 e
 funs:=I.stack
 frf:=I.stkFree
theorem a95{X:Cx}{scope:Scope}{Nc:List Str}{fr:List Nat}{k:Nat}{C:Addr}{fp:List Addr}{pins:List (Addr×Obj)}{σ:St}{H:Hp}{s:Shared}{h1:Heap}{tk:Nat}(S:CompScope X scope Nc fr k)(I:Inv X pins σ H s)
  (hC:s.heap.objs.size≤C) (hf:∀b∈fp,u1 X pins H b) (hlt:∀b∈fp,b<s.heap.objs.size) (hk:∀b o,s.heap.get? b=some o→h1.get? b=some o) (hn:h1.Ns C (fun _=>none)) :
  Inv (X.comp scope Nc C fp pins s H) [] (y4 fr k σ) H {s with heap:=h1,toks:=tk}:=by
 have hfC:H C=none:=I.hok.fresh hC;refine⟨Cx.comp_ok S I hC hf hlt,rfl,I.bare,Un.kept hk,⟨_,hn,fun i x v e1 e2 e3=>?_⟩,fun x c e=>?_,hfC,fun x c e=>(I.freeC x c (B2 e).1).imp id fun z=>⟨rfl,z.2⟩,fun p hp=>?_,I.hok.kept hk,?_⟩
 ·have hi:i<fr.length:=by
   unfold y4 at e2
   by_cases hi:i<fr.length
   ·exact hi
   ·rw[List.getElem?_append_right (by simpa using hi),List.getElem?_replicate]at e2
    split at e2<;>cases e2
  obtain⟨j,hj,hN,hm⟩:=S.fre i x e1 hi;have e2':σ[j]?=some (some v):=by
   unfold y4 at e2;rw[List.getElem?_append_left (by simpa using hi),List.getElem?_map,hj]at e2;simp only[Option.map_some,Option.some.injEq]at e2;cases q:σ[j]? with
   |none=>rw[q]at e2;cases e2
   |some o=>rw[q]at e2;exact congrArg some e2
  obtain⟨m,hns,hl⟩:=I.loc;have hvis:Vis X.env.scope x:=by
   rcases S.frees _ hm rfl with z|z
   ·exact .inr (.inl z)
   ·exact .inr (.inr z)
  obtain⟨u,r,l⟩:=hl j x v hN e2' hvis;refine⟨u,r,?_⟩
  rcases l with⟨l1,_⟩|⟨l1,c,lc,lz⟩
  ·exfalso;have l1':X.env.scope.names.lookup x=some .local:=l1
   rcases S.frees _ hm rfl with z|z
   ·rw[l1']at z;cases z
   ·rw[l1']at z;cases z
  ·refine .inr ⟨?_,c,P8 lc hm,?_⟩
   ·have e3':Vis (relabel scope X.env) x:=e3
    rcases e3' with z|z|z
    ·exfalso;obtain⟨k',h1,h2⟩:=a79 z
     rcases h2 with h2|h2
     ·subst h2;exact S.uniq _ hm rfl h1
     ·cases h2.2
    ·exact .inl z
    ·exact .inr z
   ·obtain⟨o,ho,hd⟩:=lz;exact⟨o,hk _ _ ho,hd⟩
 ·obtain⟨v,o,ho,hd⟩:=I.cell x c (B2 e).1;exact⟨v,o,hk _ _ ho,hd⟩
 ·have hp':p∈X.pn++pins:=by
   have:p∈(X.pn++pins)++[]:=hp;simpa using this
  obtain⟨q1,q2,q3,q4,q5⟩:=I.pin p hp';refine⟨hk _ _ q1,q2,fun z=>?_,fun z=>?_,q5⟩
  ·have h2:p.1=C:=z;have h3:=Heap.lt_size q1;rw[h2]at h3;exact absurd h3 (Nat.not_lt.mpr hC)
  ·rcases List.mem_cons.mp (I.stkSub p.1 z)with e|e
   ·exact q3 e
   ·exact q4 e
 ·unfold y4;rw[List.length_append,List.length_map,List.length_replicate];exact S.len.symm
theorem ba8{X:Cx}{scope:Scope}{Nc:List Str}{C:Addr}{fp:List Addr}{pins pl:List (Addr×Obj)}{σ σc:St}{H H':Hp}{s s':Shared}(I:Inv X pins σ H s)(hf:∀b∈fp,u1 X pins H b)
  (I':Inv (X.comp scope Nc C fp pins s H) pl σc H' s'):Inv X pins σ H' s':=by
 obtain⟨hh,g,d,t,os'⟩:=s';obtain rfl:os'=s.os:=I'.os;exact I.call (h':=hh) (g':=g) (d':=d) (t':=t) (ch:=fp) I'.base I'.hok I'.bare fun b hb=>by
  obtain⟨h0,h1,h2,h3,h4,h5⟩:=hf b hb;exact⟨h3,h1,h4,h5⟩
theorem ap1{X:Cx}{C:Addr}{pins:List (Addr×Obj)}{σ σ0:St}{H H0:Hp}{s s0:Shared}{h':Heap}(I0:Inv X pins σ0 H0 s0)(hC:s0.heap.objs.size≤C)(I:Inv X pins σ H s)(hn:H C=none)
  (sb:Heap.SameBut C s.heap h'):Inv X pins σ H {s with heap:=h'}:=by
 refine I.turned (t':=s.toks) (it:=C) (fun b o hb e=>(sb.2 b hb).trans e) hn ?_ (.inr (Nat.le_trans I0.sz hC)) ?_ ?_
 ·exact fun z=>absurd (Nat.lt_of_lt_of_le I0.lt hC) (by rw[z];exact Nat.lt_irrefl _)
 ·intro x c e z;obtain⟨v,q⟩:=I0.cell x c e;exact absurd (Nat.lt_of_lt_of_le q.lt hC) (by rw[z];exact Nat.lt_irrefl _)
 ·intro p hp z;exact absurd (Nat.lt_of_lt_of_le (Heap.lt_size (I0.pin p hp).1) hC) (by rw[z];exact Nat.lt_irrefl _)
noncomputable def ak2(fr:List Nat)(k:Nat)(wi:TI)(g:TG)(tc:TT)(te:TE)(fin:V→Hp→Prop):St→Hp→Prop:=fun σ H=>
 wi σ H fun J H1=>∀p,H1 p=none→∃W:Nat→Nat→St→Hp→Prop,(∃m,W 0 m (y4 fr k σ) (upd H1 p (.lst [])))∧∀i m σc H2,W i m σc H2 →
  (J.stop i H2∧fin (.ref p) H2)∨(J.go i H2∧∃N:St→Hp→Prop,(∀σ' H',N σ' H'→∃m',m'<m∧W (i+1) m' σ' H') ∧
   ∀x H3,J.yld i H2 x H3→g x σc H3 fun σ4 H4=>tc σ4 H4 fun b H5=>if b=true then te σ4 H5 fun v H6=>∃ys,H6 p=some (.lst ys)∧ys.length<sizeLine∧N σ4 (upd H6 p (.lst (ys++[v])))else N σ4 H5)
noncomputable def PCs(X:Cx)(ifs:List Expr)(t:TT):Prop:=
 ∀(pins:List (Addr×Obj))(s:Shared)(σ:St)(H:Hp)(Q:Bool→Hp→Prop),Inv X pins σ H s→t σ H Q →
  wpAny (model X.prog X.w) X.A (forIn ifs true fun c r=>if r=true then do let ok ←isTrue c X.env (eval c X.env);pure (ForInStep.yield ok)else pure (ForInStep.yield r)) (TP X pins σ Q) X.xe s
noncomputable def b18:TT:=fun _ H Q=>Q true H
theorem av4{X:Cx}:PCs X [] b18:=fun _ _ _ H _ I h=>wpAny_tests_nil ⟨H,I,h⟩
theorem av8{X:Cx}{c:Expr}{t:TT}(hc:PT X c t):PCs X [c] t:=fun pins s σ H Q I h=>wpAny_tests_one (hc pins s σ H Q I h)
section
variable {X:Cx} {scope:Scope} {Nc:List Str} {fr:List Nat} {k:Nat} {tg iter elt:Expr} {ifs:List Expr} {wi:TI} {g:TG} {tc:TT} {te:TE} {pos:Pos}
theorem ap4(hc:X.calm=true)(S:CompScope X scope Nc fr k)(hg:∀C fp pins s H,PG (X.comp scope Nc C fp pins s H) tg g)(ht:∀C fp pins s H,PCs (X.comp scope Nc C fp pins s H) ifs tc)(he:∀C fp pins s H,PE (X.comp scope Nc C fp pins s H) elt te)
  {pins:List (Addr×Obj)} {σ:St} {s2:Shared} {H2:Hp} {it:Addr} {fp:List Addr} {tn:Nat→Heap→Prop} {J:It} {fin:V→Hp→Prop} {RR:Value→Addr→Result→Shared→Prop} {E:Value→Shared→Prop}
  (I2:Inv X pins σ H2 s2) (T:Turn X.prog X.w X.K tg J fp it tn) (st2:tn 0 s2.heap) (f2:∀b∈fp,u1 X pins H2 b)
  (h:∀p,H2 p=none→∃W:Nat→Nat→St→Hp→Prop,(∃m,W 0 m (y4 fr k σ) (upd H2 p (.lst [])))∧∀i m σc H2,W i m σc H2 →
   (J.stop i H2∧fin (.ref p) H2)∨(J.go i H2∧∃N:St→Hp→Prop,(∀σ' H',N σ' H'→∃m',m'<m∧W (i+1) m' σ' H') ∧
    ∀x H3,J.yld i H2 x H3→g x σc H3 fun σ4 H4=>tc σ4 H4 fun b H5=>if b=true then te σ4 H5 fun v H6=>∃ys,H6 p=some (.lst ys)∧ys.length<sizeLine∧N σ4 (upd H6 p (.lst (ys++[v])))else N σ4 H5))
  (hRR:∀(D C:Addr)(H':Hp)(s':Shared)(s3:Shared)(H3:Hp)(m':Str→Option Value),Inv X pins σ H3 s3→s3.heap.objs.size≤C→Inv X pins σ H' s'→H' C=none→s'.heap.Ns C m'→fin (.ref D) H'→RR (.ref D) C (.ok .next) s') :
  wpAny (model X.prog X.w) X.A (newList []) (fun acc s₃=>wpAny (model X.prog X.w) X.A (newFunctionEnv scope X.env.globals (m9 X.env.cells scope.names []) [] X.env.qual none .none (some X.env)) (fun cenv s₄=>
   codeAny (model X.prog X.w) X.A (.compStart (.ListComp elt [⟨tg,iter,ifs,0⟩] scope pos) 0 (.ref it) acc {cenv with scope:=relabel scope X.env}) (RR acc cenv.locals) s₄) E s₃) E s2:=by
 have hp:=I2.hok.fresh (Nat.le_refl s2.heap.objs.size);obtain⟨W,⟨m0,w0⟩,turn⟩:=h s2.heap.objs.size hp;refine wpAny_newObj_type (wpAny_newFunctionEnv S.nocell (by intro y hy;simp at hy) (fun h₁ hns₁ hsb₁=>?_) S.kind);dsimp only at hns₁ hsb₁ ⊢;have I3:Inv X pins σ (upd H2 s2.heap.objs.size (.lst [])) {s2 with heap:=s2.heap.push {cls:=.type "list",dict:=none,data:=.seq ([]:List Value).toArray}}:=
  I2.laid (t':=s2.toks) (fun b u e=>Heap.get?_push_of_some _ e) (Nat.le_refl _) ⟨Nat.zero_le _,[],0,.nil,Heap.get?_push_size _ rfl⟩
 have hlt2:∀b∈fp,b<s2.heap.objs.size:=fun b hb=>by
  obtain⟨o,e,_⟩:=T.obj _ _ st2 b hb;exact Heap.lt_size e
 have f3:∀b∈fp,u1 X pins (upd H2 s2.heap.objs.size (.lst [])) b:=fun b hb=>by
  obtain⟨q0,q⟩:=f2 b hb;exact⟨by rw[e8 (Nat.ne_of_lt (hlt2 b hb))];exact q0,q⟩
 generalize hH3:(s2.heap.push {cls:=.type "list",dict:=none,data:=.seq ([]:List Value).toArray}:Heap)=g3 at I3 hns₁ hsb₁ ⊢;have hsz:g3.objs.size=s2.heap.objs.size+1:=by rw[←hH3,Heap.size_push]
 have hlt3:∀b∈fp,b<g3.objs.size:=fun b hb=>by rw[hsz];exact Nat.lt_succ_of_lt (hlt2 b hb)
 have k3:∀b o,g3.get? b=some o→h₁.get? b=some o:=fun b o e=>hsb₁.extBut b o (Nat.ne_of_lt (Heap.lt_size e)) (Heap.get?_push_of_some _ e);have st3:tn 0 g3:=T.keep _ _ _ st2 fun b _ o e=>by rw[←hH3];exact Heap.get?_push_of_some _ e
 have st4:tn 0 h₁:=T.keep _ _ _ st3 fun b _ o e=>k3 b o e;have I4:Inv (X.comp scope Nc g3.objs.size fp pins {s2 with heap:=g3} (upd H2 s2.heap.objs.size (.lst []))) [] (y4 fr k σ) (upd H2 s2.heap.objs.size (.lst [])) {s2 with heap:=h₁,toks:=s2.toks+([]:List (Str×Value)).length}:=
  a95 (s:={s2 with heap:=g3}) S I3 (Nat.le_refl _) f3 hlt3 k3 hns₁
 generalize hXc:X.comp scope Nc g3.objs.size fp pins {s2 with heap:=g3} (upd H2 s2.heap.objs.size (.lst []))=Xc at I4;have eA:Xc.A=X.A:=by rw[←hXc];rfl
 have eP:Xc.prog=X.prog:=by rw[←hXc];rfl
 have ew:Xc.w=X.w:=by rw[←hXc];rfl
 have eK:Xc.K=X.K:=by rw[←hXc];rfl
 have ec:Xc.calm=true:=by rw[←hXc];exact hc
 have ee:Xc.env=compEnvC scope (m9 X.env.cells scope.names []) g3.objs.size X.env:=by rw[←hXc];rfl
 have ex:Xc.xe=fun _ _=>False:=by rw[←hXc];rfl
 have T':Turn Xc.prog Xc.w Xc.K tg J fp it tn:=by rw[eP,ew,eK];exact T
 have stat:∀{H':Hp},(∀b∈fp,H' b=none)→∀b∈fp,u1 Xc [] H' b:=fun hn b hb=>by
  obtain⟨q0,q1,q2,q3,q4,q5⟩:=f3 b hb;subst hXc;refine⟨hn b hb,Nat.ne_of_lt (hlt3 b hb),fun z=>?_,.inl hb,fun x c e=>q4 x c (B2 e).1,fun p hp=>q5 p ?_⟩
  ·rcases List.mem_cons.mp (I3.stkSub b z)with e|e
   ·exact q1 e
   ·exact q2 e
  ·have:p∈(X.pn++pins)++[]:=hp;simpa using this
 have loop:∀s₃:Shared,s₃={s2 with heap:=h₁,toks:=s2.toks+([]:List (Str×Value)).length} →
   codeAny (model X.prog X.w) X.A (.compLoop (.ListComp elt [⟨tg,iter,ifs,0⟩] scope pos) 0 (.ref it) (.ref s2.heap.objs.size) (compEnvC scope (m9 X.env.cells scope.names []) g3.objs.size X.env)) (RR (.ref s2.heap.objs.size) g3.objs.size) s₃:=by
  rintro s₃ rfl;rw[←ee,←eA,←eP,←ew];refine a76 (fun n s'=>∃i σ' H',Inv Xc [] σ' H' s'∧tn i s'.heap∧(∀b∈fp,H' b=none)∧W i n σ' H') ?_ m0 ⟨0,_,_,I4,st4,fun b hb=>(f3 b hb).1,w0⟩;rintro n s5 ⟨i,σ5,H5,I5,st5,fr5,w5⟩
  rcases turn i n σ5 H5 w5 with⟨stop,qn⟩|⟨go,N,hN,step⟩
  ·refine thn (T'.done Xc rfl rfl rfl ec i [] s5 σ5 H5 _ I5 (stat fr5) st5 stop) fun r s6⟨hr,I6⟩=>?_;subst hr;subst hXc;obtain⟨m',hm,_⟩:=id I6.loc;exact hRR _ _ H5 s6 _ _ m' I3 (Nat.le_refl _) (ba8 I3 f3 I6) I6.free hm qn
  ·refine thn (T'.item Xc rfl rfl rfl ec i [] s5 σ5 H5 _ I5 (stat fr5) st5 go) fun r s6⟨u,hr,h6⟩=>?_;subst hr;refine thn h6 fun _ s7⟨x,H7,I7,r7,y7,st7,fr7⟩=>?_;have I7':=I7.pinned (stat fr7) (T.obj _ _ st7);have hgX:PG Xc tg g:=by rw[←hXc];exact hg _ _ _ _ _
   have htX:PCs Xc ifs tc:=by rw[←hXc];exact ht _ _ _ _ _
   have heX:PE Xc elt te:=by rw[←hXc];exact he _ _ _ _ _
   have again:∀{s9:Shared}{σ9:St}{H9:Hp},Inv Xc ([]++L4 fp s7.heap) σ9 H9 s9→N σ9 H9→∃m,m<n∧∃i σ' H',Inv Xc [] σ' H' s9∧tn i s9.heap∧(∀b∈fp,H' b=none)∧W i m σ' H':=fun{s9 σ9 H9}I9 n9=>by
    obtain⟨m',hm,w9⟩:=hN σ9 H9 n9;refine⟨m',hm,i+1,σ9,H9,I9.unpinned,T.keep _ _ _ st7 fun b hb o e=>(I9.pin (b,o) (List.mem_append_right _ (List.mem_append_right _ (P5 hb e)))).1,fun b hb=>?_,w9⟩;obtain⟨o,e,d⟩:=T.obj _ _ st7 b hb;exact(I9.pin (b,o) (List.mem_append_right _ (List.mem_append_right _ (P5 hb e)))).2.1
   have hgw:=hgX _ s7 σ5 H7 x u _ I7' r7 (step x H7 y7);rw[ex]at hgw;refine thn hgw fun _ s8⟨σ8,H8,I8,q8⟩=>?_;have htw:=htX _ s8 σ8 H8 _ I8 q8;rw[ex]at htw;refine thn htw fun ok s9⟨H9,I9,q9⟩=>?_;cases ok with
   |false=>
    rw[if_neg Bool.false_ne_true]at q9 ⊢;exact again I9 q9
   |true=>
    rw[if_pos rfl]at q9 ⊢;have hew:=heX _ s9 σ8 H9 _ I9 q9;rw[ex]at hew;refine thn hew fun xv s10⟨v,H10,I10,r10,ys,hys,hlen,n10⟩=>?_;have hap:=as1 (X:=Xc) _ s10 σ8 H10 (.ref s2.heap.objs.size) [v] (.ref s2.heap.objs.size) [xv] (fun _ H11=>N σ8 H11) I10 rfl (.cons r10 .nil) ⟨_,ys,v,rfl,rfl,hys,hlen,n10⟩;rw[ex]at hap;exact thn hap fun _ s11⟨_,H11,I11,_,n11⟩=>again I11 n11
 exact codeAny_compStart_list (loop _ rfl) (T.self _ 0 _ _ _ st4 (loop _ rfl))
theorem aq1{pins:List (Addr×Obj)}{σ:St}{H:Hp}{s:Shared}(S:CompScope X scope Nc fr k)(I:Inv X pins σ H s):∀x∈scope.names,x.2=.free→(X.env.cells.lookup x.1).isSome=true:=fun x hx hf=>by
 obtain⟨c,e⟩:=I.ok.has x.1 (S.frees x hx hf);rw[e];rfl
theorem bi9(hc:X.calm=true)(S:CompScope X scope Nc fr k)(hi:PI X tg iter wi)(hg:∀C fp pins s H,PG (X.comp scope Nc C fp pins s H) tg g)(ht:∀C fp pins s H,PCs (X.comp scope Nc C fp pins s H) ifs tc)(he:∀C fp pins s H,PE (X.comp scope Nc C fp pins s H) elt te)
  (hs:∀x,foldedSetIterable iter X.env x=pure x:=by intro _;rfl):PE X (.ListComp elt [⟨tg,iter,ifs,0⟩] scope pos) (fun σ H Q=>ak2 fr k wi g tc te Q σ H):=by
 intro pins s σ H Q I h;rw[eval_ListComp];refine wpAny_comprehension_free (use:=none) (cl:=m9 X.env.cells scope.names []) rfl hs (ah6 (aq1 S I)) S.kind S.names ?_;refine thn (hi pins s σ H _ I h) fun xv s1 h1=>thn h1 fun itv s2 h2=>?_;obtain⟨it,fp,tn,J,H2,e,I2,T,st2,f2,h⟩:=h2;subst e;refine ap4 (RR:=fun acc C=>compPost (model X.prog X.w) X.A X.xe none (EP X pins σ Q) acc C) hc S hg ht he I2 T st2 f2 h ?_;intro D C H' s' s3 H3 m' I3 hC I' hn hns q;exact⟨m',hns,fun h' sb=>⟨.ref D,H',ap1 I3 hC I' hn sb,rfl,q⟩⟩
theorem ba0{i:Nat}{y:Str}{py spos:Pos}(hc:X.calm=true)(hN:X.N.Nodup)(hiy:X.N[i]?=some y)(hy:Loc X.env.scope y)(hfy:X.fn y=true∨X.env.scope.names.lookup y=some .local)
  (S:CompScope X scope Nc fr k) (hi:PI X tg iter wi) (hg:∀C fp pins s H,PG (X.comp scope Nc C fp pins s H) tg g) (ht:∀C fp pins s H,PCs (X.comp scope Nc C fp pins s H) ifs tc) (he:∀C fp pins s H,PE (X.comp scope Nc C fp pins s H) elt te)
  (hsw:swapsWith (.ListComp elt [⟨tg,iter,ifs,0⟩] scope pos) (some (.Name y py)) spos.line X.env=pure true)
  (hs:∀x,foldedSetIterable iter X.env x=pure x:=by intro _;rfl):PS X (.Assign [.Name y py] (.ListComp elt [⟨tg,iter,ifs,0⟩] scope pos) spos) (fun D σ H=>ak2 fr k wi g tc te (fun v H'=>D.nx (σ.set i (some v)) H') σ H):=by
 intro pins s σ H D I h;rw[exec_Assign_Name_used _ _ _ _ hsw];refine wpAny_bind (wpAny_standAt (wpAny_bind ?_));show wpAny _ X.A (do let _ ←comprehension (.ListComp elt [⟨tg,iter,ifs,0⟩] scope pos) scope X.env _ (newList []) false (eval iter X.env) (some (assign (.Name y py) X.env))) _ _ s;refine wpAny_bind (wpAny_mono (wpAny_comprehension_free (use:=some (assign (.Name y py) X.env)) (cl:=m9 X.env.cells scope.names []) (Q:=fun _ s'=>SP X pins D .next s') rfl hs (ah6 (aq1 S I)) S.kind S.names ?_) (fun _ s' hq=>wpAny_pure (wpAny_pure hq)) fun _ _ e=>e);refine thn (hi pins s σ H _ I h) fun xv s1 h1=>thn h1 fun itv s2 h2=>?_;obtain⟨it,fp,tn,J,H2,e,I2,T,st2,f2,h⟩:=h2;subst e;refine ap4 (RR:=fun acc C=>compPost (model X.prog X.w) X.A X.xe (some (assign (.Name y py) X.env)) (fun _ s'=>SP X pins D .next s') acc C) (fin:=fun v H'=>D.nx (σ.set i (some v)) H') hc S hg ht he I2 T st2 f2 h ?_;intro D' C H' s' s3 H3 m' I3 hC I' hn hns q;show wpAny _ X.A (assign (.Name y py) X.env (.ref D')) _ _ s';obtain⟨oC,es,ep,hoC,hdC,hrest⟩:=id hns;have neL:C≠X.env.locals:=fun z=>absurd (Nat.lt_of_lt_of_le I3.lt hC) (by rw[z];exact Nat.lt_irrefl _);have nfs:C∉X.fs:=I3.nofs hC;have I'':Inv X (pins++[(C,oC)]) σ H' s':=I'.pins_of fun p hp=>by
  rcases List.mem_append.mp hp with z|z
  ·exact I'.pin p (List.mem_append_right _ z)
  ·have e:p=(C,oC):=by simpa using z
   subst e;exact⟨hoC,hn,neL,nfs,fun v z=>by rw[hdC]at z;cases z⟩
 refine wpAny_assign_Name (Q2 I'' hN hiy hy (v:=.ref D') rfl (fun s'' J''=>?_) hfy);obtain⟨p1,p2,_⟩:=J''.pin (C,oC) (by simp);refine⟨m',⟨oC,es,ep,p1,hdC,hrest⟩,fun h' sb=>⟨_,H',ap1 I3 hC J''.unpinned p2 sb,q⟩⟩
end
end L2
namespace PySem
section
variable {prog:Program} {w:World} {A:Around} {E:Value→Shared→Prop} {s:Shared}
theorem a36{it l:Addr}{i:Nat}{items}{x:Value}{Q:Value→Shared→Prop}(hit:s.heap.IsTupleIter it l i)
  (hl:s.heap.IsTuple l items) (hx:items[i]?=some x)
  (hQ:∀h',h'.IsTupleIter it l (i+1)→Heap.SameBut it s.heap h'→Q x {s with heap:=h'}) :
  wpAny (model prog w) A (Builtin.SmallTypes.nextOf (.ref it)) Q E s:=by
 obtain⟨o,ho,hc,hd⟩:=id hit;obtain⟨ol,hol,_,nl,hdl⟩:=hl;unfold Builtin.SmallTypes.nextOf;refine wpAny_bind (wpAny_callSpecial?_slot (name:=Str.ofString "__next__") hit.typeIs F.slot_tuple_iterator_next
  (wpAny_call_entry F.slot_tuple_iterator_next hit.typeIs F.entry_tuple_iterator_next ?_ (F.args_tuple_iterator_next_1 _)))
 show wpAny _ _ (field (.ref it) 0 >>= _) _ _ s;refine wpAny_bind (wpAny_field ho hd (x:=.ref l) rfl ?_);show wpAny _ _ (if (Value.ref l == Value.none)=true then _ else _) _ _ s;rw [if_neg (show ¬ ((Value.ref l == Value.none)=true) from Bool.false_ne_true)];show wpAny _ _ (field (.ref it) 1 >>= _) _ _ s;refine wpAny_bind (wpAny_field ho hd (x:=.int i 0) rfl ?_);show wpAny _ _ (seqItems? (.ref l) >>= _) _ _ s;refine wpAny_bind (wpAny_seqItems hol hdl ?_);simp only [Int.toNat_natCast,hx];refine wpAny_bind (wpAny_setField ho hd (by simp) (wpAny_pure ⟨x,rfl,wpAny_pure (hQ _ ?_ (Heap.SameBut.update ..))⟩));exact ⟨_,Heap.get?_update_self _ ho (Obj.isFreed_of_fields (Obj.data_mapFields hd _)),(Obj.cls_mapFields ..).trans hc,by
  rw[Obj.data_mapFields hd];simp[rawInt]⟩
theorem a37{it l:Addr}{i:Nat}{items}{Q:Value→Shared→Prop}(hh:A.handled=none)
  (hit:s.heap.IsTupleIter it l i) (hl:s.heap.IsTuple l items) (hx:items[i]?=none)
  (hE:∀h' e,Heap.ExtBut it s.heap h'→(∃o,h'.get? e=some o∧o.cls=.type "StopIteration")→E (.ref e) {s with heap:=h'}) :
  wpAny (model prog w) A (Builtin.SmallTypes.nextOf (.ref it)) Q E s:=by
 obtain⟨o,ho,hc,hd⟩:=id hit;obtain⟨ol,hol,_,nl,hdl⟩:=hl;unfold Builtin.SmallTypes.nextOf;refine wpAny_bind (wpAny_callSpecial?_slot (name:=Str.ofString "__next__") hit.typeIs F.slot_tuple_iterator_next
  (wpAny_call_entry F.slot_tuple_iterator_next hit.typeIs F.entry_tuple_iterator_next ?_ (F.args_tuple_iterator_next_1 _)))
 show wpAny _ _ (field (.ref it) 0>>=_) _ _ s;refine wpAny_bind (wpAny_field ho hd (x:=.ref l) rfl ?_);show wpAny _ _ (if(Value.ref l==Value.none)=true then _ else _) _ _ s;rw[if_neg (show ¬((Value.ref l==Value.none)=true) from Bool.false_ne_true)];show wpAny _ _ (field (.ref it) 1>>=_) _ _ s;refine wpAny_bind (wpAny_field ho hd (x:=.int i 0) rfl ?_);show wpAny _ _ (seqItems? (.ref l)>>=_) _ _ s;refine wpAny_bind (wpAny_seqItems hol hdl ?_);simp only[Int.toNat_natCast,hx];refine wpAny_bind (wpAny_rule (wpAny_bind (wpAny_setField ho hd (by simp) ?_)));show wpAny _ _ (newExc (.type "StopIteration") []>>=_) _ _ _;refine wpAny_bind ?_;simp only[newExc,newTuple];refine wpAny_bind (wpAny_newObj_type ?_ (by size_fits));refine wpAny_bind (m:=firstArgMember _ _) (wpAny_of_eq (a:=Value.none) (by first|rfl|(simp only[firstArgMember];rfl)) ?_);refine wpAny_newObj_type ?_ (by size_fits);simp only[raiseNew];refine wpAny_bind (wpAny_handled ?_)
 first|rw[show A.in1.handled=none from hh]|rw[hh]
 refine wpAny_bind (wpAny_pure (wpAny_throw ?_));exact hE _ _ (((Heap.SameBut.update ..).extBut.push _).push _) ⟨_,Heap.get?_push_size _ rfl,rfl⟩
end
theorem Draws.tuple{prog:Program}{w:World}{A:Around}(hh:A.handled=none)(it l:Addr)(hne:l≠it)(items:Array Value):
  Draws prog w A it [it,l] items.size (fun i v=>items[i]?=some v) (fun i h=>h.IsTupleIter it l i∧h.IsTuple l items) where
 live:=fun _ _ st=>let⟨o,ho,_⟩:=st.1;⟨o,ho⟩
 frame:=fun _ _ _ st hk=>⟨st.1.at fun o e=>hk it (by simp) o e,let⟨o,ho,r⟩:=st.2;⟨o,hk l (by simp) o ho,r⟩⟩
 item:=fun i s Q E hi st hQ=>by
  refine a36 st.1 st.2 (x:=items[i]) (by simp[hi]) fun h' hit' hs'=>?_;exact hQ _ h' s.toks (by simp[hi]) ⟨hit',st.2.extBut hs'.extBut hne⟩ hs'
 done:=fun s Q E st hE=>a37 hh st.1 st.2 (by simp) hE
open AutoSeq1 (wpAny_loadPart') in
theorem a39(l:Addr)(items:Array Value)(n:Nat)(dct:Option Addr)(sl:Array (Option Value)):
  Meets (Builtin.«enumerate.__new__» ⟨[.type "enumerate",.ref l],[]⟩) (fun _ R s=>s.heap.get? l=some {cls:=.type "tuple",dict:=dct,data:=.seq items n,slots:=sl} ∧
   R (.ok (.ret (.ref (s.heap.push {cls:=.type "tuple_iterator",data:=.fields #[.ref l,.int 0 0]}).objs.size)))
    {s with heap:=(s.heap.push {cls:=.type "tuple_iterator",data:=.fields #[.ref l,.int 0 0]}).push {cls:=.type "enumerate",data:=.fields #[.none,.bool false,.ref s.heap.objs.size,rawInt 0,.none,.none]}}):=
 .of_wp fun prog w A R s h=>by
  obtain⟨hp,g,d,tk,os⟩:=s;obtain⟨hl,h⟩:=h;have hsub:=sub_enumerate;have hL:Heap.IsTuple (Shared.heap ⟨hp,g,d,tk,os⟩) l items:=⟨_,hl,rfl,n,rfl⟩
  wp_walk using wpAny_loadPart' hl
  refine wpAny_stack_any fun st=>wpAny_pure ?_
  split
  ·rename_i c _ _ _ _ _;cases(c==Value.type "enumerate")
   ·wp_walk using wpAny_loadPart' hl,wpAny_pyIter_tuple hL
    exact⟨_,rfl,h⟩
   ·wp_walk using wpAny_loadPart' hl,wpAny_pyIter_tuple hL
    exact⟨_,rfl,h⟩
  ·wp_walk using wpAny_loadPart' hl,wpAny_pyIter_tuple hL
   exact⟨_,rfl,h⟩
end PySem
namespace PySem
section
variable {prog:Program} {w:World} {A:Around} {E:Value→Shared→Prop} {s:Shared}
theorem a38{l:Addr}{items:Array Value}{Q:Value→Shared→Prop}(hL:s.heap.IsTuple l items)
  (h:∀h',IsEnum h' (s.heap.objs.size+1) s.heap.objs.size 0 .none→h'.IsTupleIter s.heap.objs.size l 0→h'.objs.size=s.heap.objs.size+2 →
   (∀b o,s.heap.get? b=some o→h'.get? b=some o)→Q (.ref (s.heap.objs.size+1)) {s with heap:=h'}) :
  wpAny (model prog w) A (call (.type "enumerate") [.ref l]) Q E s:=by
 obtain⟨⟨c,dct,dt,sl⟩,hl,hc,n,hd⟩:=hL;replace hc:c=.type "tuple":=hc;replace hd:dt=.seq items n:=hd;subst hc hd;refine callType_new F.called_enumerate (by decide) (F.typeCall_enumerate_1 _) (F.newCall_enumerate_1 _) (fun obj=>F.args_object_init_2 obj _) F.entry_enumerate_new
  (a39 l items n dct sl) ⟨hl,?_⟩
 have hz:(s.heap.push {cls:=.type "tuple_iterator",data:=.fields #[.ref l,.int 0 0]}).objs.size=s.heap.objs.size+1:=Heap.size_push ..;show _∧_;rw[hz];have he:IsEnum ((s.heap.push {cls:=.type "tuple_iterator",data:=.fields #[.ref l,.int 0 0]}).push
   {cls:=.type "enumerate",data:=.fields #[.none,.bool false,.ref s.heap.objs.size,rawInt 0,.none,.none]}) (s.heap.objs.size+1) s.heap.objs.size 0 .none:=by
  have:=Heap.get?_push_size (s.heap.push {cls:=.type "tuple_iterator",data:=.fields #[.ref l,.int 0 0]})
   (o:={cls:=.type "enumerate",data:=.fields #[.none,.bool false,.ref s.heap.objs.size,rawInt 0,.none,.none]}) rfl
  rw[hz]at this;exact this
 refine⟨⟨_,he,rfl⟩,h _ he ⟨_,Heap.get?_push_of_some _ (Heap.get?_push_size _ rfl),rfl,rfl⟩ (by rw[Heap.size_push,hz]) fun b o x=>Heap.get?_push_of_some _ (Heap.get?_push_of_some _ x)⟩
end
end PySem
namespace L2
open PySem PySem.Spec PyProof.Rows
section
variable {X:Cx} {pins:List (Addr×Obj)} {σ:St} {H:Hp} {s:Shared} {h':Heap}
theorem Inv.turnedNew{t':Nat}{ch:List Addr}{o:HO}(I:Inv X pins σ H s)(hch:∀b∈ch,u1 X pins H b)(k:∀b u,b∉ch→s.heap.get? b=some u→h'.get? b=some u)(ex:∀b∈ch,∃u,h'.get? b=some u)
  (new:j9 X.prog X.w (upd H s.heap.objs.size o) h' s.heap.objs.size o):Inv X pins σ (upd H s.heap.objs.size o) {s with heap:=h',toks:=t'}:=by
 have hT:H s.heap.objs.size=none:=I.hok.fresh (Nat.le_refl _);have neT:∀b u,s.heap.get? b=some u→b≠s.heap.objs.size:=fun b u e=>Nat.ne_of_lt (Heap.lt_size e);have nch:∀b u,H b=some u→b∉ch:=fun b u e z=>by rw[(hch b z).1]at e;cases e
 refine I.step (g':=s.gens) (d':=s.drawn) (ch:=ch) (fun b hb=>?_) (fun b u _ _ hc e _=>k b u hc e) (fun b u _ _ hc e _=>⟨u.slots,k b u hc e⟩) (fun b u _ e n=>by rw[e8 (neT b u e)];exact n)
  (fun b u hc e=>⟨u,k b u hc e⟩) (fun b xs e=>by rw[e8 (p0 e hT)];exact e) (fun b u v e=>by rw[e8 (p0 e hT)];exact e) (fun b ps e=>⟨#[],by rw[e8 (p0 e hT),e];simp⟩) (fun m hm=>?_) (fun b u e=>?_) I.bare
 ·obtain⟨h0,h1,h2,h3,h4,h5⟩:=hch b hb;exact⟨h3,h1,h4,h5⟩
 ·obtain⟨ob,es,ep,ho,r⟩:=hm;exact⟨ob,es,ep,k _ ob (fun z=>(hch _ z).2.1 rfl) ho,r⟩
 ·by_cases hb:b=s.heap.objs.size
  ·subst hb;rw[o4]at e;cases e;exact new
  ·rw[e8 hb]at e;refine(I.hok b u e).stay (fun c v hc q=>k c v ?_ q) (fun c q=>by rw[e8 (p0 q hT)];exact q) fun c xs q=>by rw[e8 (p0 q hT)];exact q
   rcases hc with z|z
   ·rw[z];exact nch b u e
   ·exact nch c _ z
theorem Inv.turnedAll{t':Nat}{ch:List Addr}(I:Inv X pins σ H s)(hch:∀b∈ch,u1 X pins H b)(k:∀b u,b∉ch→s.heap.get? b=some u→h'.get? b=some u):Inv X pins σ H {s with heap:=h',toks:=t'}:=by
 have nch:∀b u,H b=some u→b∉ch:=fun b u e z=>by rw[(hch b z).1]at e;cases e
 refine I.step (g':=s.gens) (d':=s.drawn) (ch:=ch) (fun b hb=>?_) (fun b u _ _ hc e _=>k b u hc e) (fun b u _ _ hc e _=>⟨u.slots,k b u hc e⟩) (fun b u _ e n=>n)
  (fun b u hc e=>⟨u,k b u hc e⟩) (fun b xs e=>e) (fun b u v e=>e) (fun b ps e=>⟨#[],by rw[e];simp⟩) (fun m hm=>?_) (fun b u e=>?_) I.bare
 ·obtain⟨h0,h1,h2,h3,h4,h5⟩:=hch b hb;exact⟨h3,h1,h4,h5⟩
 ·obtain⟨ob,es,ep,ho,r⟩:=hm;exact⟨ob,es,ep,k _ ob (fun z=>(hch _ z).2.1 rfl) ho,r⟩
 ·refine(I.hok b u e).stay (fun c v hc q=>k c v ?_ q) (fun c q=>q) fun c xs q=>q
  rcases hc with z|z
  ·rw[z];exact nch b u e
  ·exact nch c _ z
end
noncomputable def Ite(K:W.Frag)(sq:Hp→List V→Prop):It:=
 ⟨fun i H=>∃xs x,sq H xs∧xs[i]?=some x,fun i H x H'=>∃t v,H t=none∧x=.ref t∧H'=upd H t (.tup [.int i,v])∧∀xs,sq H xs→xs[i]?=some v,fun i H=>∃xs,sq H xs∧xs.length=i⟩
theorem as0{P:Program}{w:World}{K:W.Frag}{elts:List Expr}{k0:Nat}{tp:Pos}{sq:Hp→List V→Prop}{e it:Addr}{pit:Nat→Heap→Prop}{bad:Addr→Prop}
  (hei:e≠it) (iobj:∀i h,pit i h→∃o,h.get? it=some o∧∀v,o.data≠.cell v) (ikeep:∀i h h',pit i h→(∀o,h.get? it=some o→h'.get? it=some o)→pit i h')
  (dr:∀(X:Cx),X.prog=P→X.w=w→X.K=K→X.calm=true→∀(i:Nat)(pins:List (Addr×Obj))(s:Shared)(σ:St)(H:Hp)(xs:List V),Inv X pins σ H s→u1 X pins H e→u1 X pins H it→pit i s.heap→(∃old,IsEnum s.heap e it i old)→sq H xs →
   ∃(its:List Value)(fp:List Addr)(Pv:Nat→Value→Prop)(St:Nat→Heap→Prop),d4 xs its∧xs.length≤sizeLine∧Draws P w X.A.in1 it fp its.length Pv St∧e∉fp∧St i s.heap∧(∀j v,Pv j v→its[j]?=some v)∧∀j h,St j h→pit j h)
  (inj:∀(X:Cx)(pins:List (Addr×Obj))(s:Shared)(σ:St)(H:Hp)(xs ys:List V),X.K=K→Inv X pins σ H s→sq H xs→sq H ys→xs=ys) :
  Turn P w K (.Tuple elts k0 tp) (Ite K sq) [e,it] e (fun i h=>(∃old,IsEnum h e it i old)∧pit i h) where
 mem:=by simp
 obj:=fun i h st b hb=>by
  rcases List.mem_cons.mp hb with z|z
  ·subst z;obtain⟨⟨old,he⟩,_⟩:=st;exact⟨_,he,fun v z=>by cases z⟩
  ·have z':b=it:=by simpa using z
   subst z';exact iobj i h st.2
 keep:=fun i h h' st kk=>by
  obtain⟨⟨old,he⟩,hp⟩:=st;exact⟨⟨old,kk e (by simp) _ he⟩,ikeep i h h' hp fun o q=>kk it (by simp) o q⟩
 item:=by
  intro X hP hw hK hc i pins s σ H E I hf st hg;obtain⟨xs,x,hq,hx⟩:=hg;obtain⟨its,fp,Pv,St,rv,hz,D,hef,hst,hPv,hSt⟩:=dr X hP hw hK hc i pins s σ H xs I (hf e (by simp)) (hf it (by simp)) st.2 st.1 hq;obtain⟨⟨old,he⟩,hp⟩:=st;have hi:i<its.length:=by
   rw[←rv.length];exact(List.getElem?_eq_some_iff.mp hx).1
  refine wpAny_pyNext_enum_itemD D he hst hi hei hef fun y h1 tk hPy ho hst' hT hsz hk=>?_;obtain⟨u,hu,ru⟩:=rv.get hx;have ey:y=u:=by
   have q:=hPv i y hPy;rw[hu]at q;exact(Option.some.inj q).symm
  subst ey;refine⟨_,rfl,?_⟩;have hT':H s.heap.objs.size=none:=I.hok.fresh (Nat.le_refl _);have elt:e<s.heap.objs.size:=Heap.lt_size he;refine wpAny_letOwnedTupleGo_enum ho fun h2 he2 hs2=>?_;have q2:Heap.SameBut e h1 h2:=hs2;have kk:∀b u,b∉[e,it]→s.heap.get? b=some u→h2.get? b=some u:=fun b u hb q=>by
   have h1':b≠e:=fun z=>hb (by simp[z]);have h2':b≠it:=fun z=>hb (by simp[z]);exact(q2.2 b h1').trans (hk b u h1' h2' q)
  have hT2:h2.get? s.heap.objs.size=some {cls:=.type "tuple",data:=.seq #[.int i tk,y]}:=(q2.2 _ (Nat.ne_of_gt elt)).trans hT;have pit2:pit (i+1) h2:=ikeep _ _ _ (hSt _ _ hst') fun o q=>(q2.2 it (Ne.symm hei)).trans q;have I1:Inv X pins σ (upd H s.heap.objs.size (.tup [.int i,x])) {s with heap:=h2,toks:=tk+1}:=by
   refine I.turnedNew (ch:=[e,it]) hf kk (fun b hb=>?_) ?_
   ·rcases List.mem_cons.mp hb with z|z
    ·exact⟨_,by rw[z];exact he2⟩
    ·have z':b=it:=by simpa using z
     subst z';obtain⟨o,q,_⟩:=iobj _ _ pit2;exact⟨o,q⟩
   ·exact⟨by show 2≤sizeLine;decide,[.int i tk,y],.cons ⟨_,rfl⟩ (.cons ru .nil),⟨_,hT2,rfl,rfl,_,rfl⟩⟩
  refine⟨.ref s.heap.objs.size,_,I1,rfl,⟨s.heap.objs.size,x,hT',rfl,rfl,fun ys hy=>by rw[inj X pins s σ H ys xs hK I hy hq];exact hx⟩,⟨⟨_,by have:=he2;simpa using this⟩,pit2⟩,fun b hb=>?_⟩;have nb:b≠s.heap.objs.size:=by
   rcases List.mem_cons.mp hb with z|z
   ·rw[z];exact Nat.ne_of_lt elt
   ·have z':b=it:=by simpa using z
    subst z';obtain⟨o,q,_⟩:=iobj _ _ hp;exact Nat.ne_of_lt (Heap.lt_size q)
  rw[e8 nb];exact(hf b hb).1
 done:=by
  intro X hP hw hK hc i pins s σ H E I hf st hg;obtain⟨xs,hq,hx⟩:=hg;obtain⟨its,fp,Pv,St,rv,hz,D,hef,hst,hPv,hSt⟩:=dr X hP hw hK hc i pins s σ H xs I (hf e (by simp)) (hf it (by simp)) st.2 st.1 hq;obtain⟨⟨old,he⟩,hp⟩:=st;have hi:i=its.length:=by rw[←rv.length];exact hx.symm
  rw[hi]at hst;refine wpAny_pyNext_enum_endD D he hst fun h1 eb=>⟨rfl,?_⟩;exact I.turnedAll (t':=s.toks) (ch:=[e,it]) hf fun b u hb q=>eb b u (fun z=>hb (by simp[z])) q
 self:=fun A i s Q E st h=>by
  obtain⟨⟨old,he⟩,_⟩:=st;exact wpAny_pyIter_enum he h
theorem V6{h:Heap}{a b:Addr}{o u:Obj}(ha:h.get? a=some o)(hb:h.get? b=some u)(d:o.cls≠u.cls):a≠b:=fun z=>by
 subst z;rw[ha]at hb;cases hb;exact d rfl
section
variable {X:Cx}
theorem a51:bootBuiltins "enumerate"=some (.type "enumerate"):=by decide+kernel
theorem a57:bootBuiltins "reversed"=some (.type "reversed"):=by decide+kernel
theorem bh1{elts:List Expr}{k0:Nat}{tp:Pos}{pins:List (Addr×Obj)}{σ:St}{H1:Hp}{s1:Shared}{R:It→Hp→Prop}{l:Addr}{xs:List V}{E:Value→Shared→Prop}(I1:Inv X pins σ H1 s1)(hq:SqL X.K H1 l xs)(q:R (Ite X.K fun H xs=>SqL X.K H l xs) H1):
  wpAny (model X.prog X.w) X.A (call (.type "enumerate") [.ref l]) (fun v s=>wpAny (model X.prog X.w) X.A (pyIter v) (PIE X pins σ (.Tuple elts k0 tp) R) E s) E s1:=by
 obtain⟨its,rv,pl,hz⟩:=I1.list hq;refine call_enumerate_list pl.isList fun h' he hit hsz kk=>wpAny_pyIter_enum he ?_;have I2:Inv X pins σ H1 {s1 with heap:=h'}:=I1.kept (t':=s1.toks) kk;have hlt:∀b∈[s1.heap.objs.size+1,s1.heap.objs.size],s1.heap.objs.size≤b:=fun b hb=>by
  rcases List.mem_cons.mp hb with z|z
  ·rw[z];exact Nat.le_succ _
  ·have z':b=s1.heap.objs.size:=by simpa using z
   rw[z'];exact Nat.le_refl _
 refine⟨s1.heap.objs.size+1,[s1.heap.objs.size+1,s1.heap.objs.size],_,_,H1,rfl,I2,as0 (sq:=fun H xs=>SqL X.K H l xs) (pit:=fun i h=>h.IsListIter s1.heap.objs.size l i) (bad:=fun _=>True) (Nat.succ_ne_self _) ?_ ?_ ?_ ?_,⟨⟨_,by simpa using he⟩,hit⟩,fun b hb=>I1.fpOk (hlt b hb) (I1.hok.fresh (hlt b hb)),q⟩
 ·rintro i h ⟨o,ho,hc,hd⟩;exact⟨o,ho,fun v z=>by rw[hd]at z;cases z⟩
 ·exact fun i h h' st kk=>st.at kk
 ·intro Y hP hw hK hc i pins s σ H xs I f1 f2 hit he hq;rw[←hK]at hq;obtain⟨its,rv,pl,hz⟩:=I.list hq;obtain⟨old,he⟩:=he;obtain⟨oi,hoi,hci,hdi⟩:=id hit;obtain⟨ol,nl,hol,hcl,hddl,hdl⟩:=id pl;have n1:l≠s1.heap.objs.size:=V6 hol hoi (by rw[hcl,hci];decide);have n2:s1.heap.objs.size+1≠l:=V6 he hol (by rw[hcl];show Value.type "enumerate"≠_;decide);refine⟨its,[s1.heap.objs.size,l],(fun i v=>its.toArray[i]?=some v),(fun i h=>h.IsListIter s1.heap.objs.size l i∧h.IsList l its.toArray),rv,hz,?_,?_,⟨hit,pl.isList⟩,fun j v z=>by simpa using z,fun j h z=>z.1⟩
  ·have D:=Draws.list (prog:=X.prog) (w:=X.w) (A:=Y.A.in1) (by exact I.ok.hd hc) s1.heap.objs.size l n1 its.toArray;simpa using D
  ·intro z
   rcases List.mem_cons.mp z with z|z
   ·exact Nat.succ_ne_self _ z
   ·exact n2 (by simpa using z)
 ·intro Y pins s σ H xs ys hK I h1 h2;rw[←hK]at h1 h2;exact I.list_inj h1 h2
theorem bi1{elts:List Expr}{k0:Nat}{tp:Pos}{pins:List (Addr×Obj)}{σ:St}{H1:Hp}{s1:Shared}{R:It→Hp→Prop}{l:Addr}{xs:List V}{E:Value→Shared→Prop}(I1:Inv X pins σ H1 s1)(hq:SqT X.K H1 l xs)(q:R (Ite X.K fun H xs=>SqT X.K H l xs) H1):
  wpAny (model X.prog X.w) X.A (call (.type "enumerate") [.ref l]) (fun v s=>wpAny (model X.prog X.w) X.A (pyIter v) (PIE X pins σ (.Tuple elts k0 tp) R) E s) E s1:=by
 obtain⟨its,rv,pl,hz⟩:=I1.tuple hq;refine a38 (show s1.heap.IsTuple l its.toArray from pl) fun h' he hit hsz kk=>wpAny_pyIter_enum he ?_;have I2:Inv X pins σ H1 {s1 with heap:=h'}:=I1.kept (t':=s1.toks) kk;have hlt:∀b∈[s1.heap.objs.size+1,s1.heap.objs.size],s1.heap.objs.size≤b:=fun b hb=>by
  rcases List.mem_cons.mp hb with z|z
  ·rw[z];exact Nat.le_succ _
  ·have z':b=s1.heap.objs.size:=by simpa using z
   rw[z'];exact Nat.le_refl _
 refine⟨s1.heap.objs.size+1,[s1.heap.objs.size+1,s1.heap.objs.size],_,_,H1,rfl,I2,as0 (sq:=fun H xs=>SqT X.K H l xs) (pit:=fun i h=>h.IsTupleIter s1.heap.objs.size l i) (bad:=fun _=>True) (Nat.succ_ne_self _) ?_ ?_ ?_ ?_,⟨⟨_,by simpa using he⟩,hit⟩,fun b hb=>I1.fpOk (hlt b hb) (I1.hok.fresh (hlt b hb)),q⟩
 ·rintro i h ⟨o,ho,hc,hd⟩;exact⟨o,ho,fun v z=>by rw[hd]at z;cases z⟩
 ·exact fun i h h' st kk=>st.at kk
 ·intro Y hP hw hK hc i pins s σ H xs I f1 f2 hit he hq;rw[←hK]at hq;obtain⟨its,rv,pl,hz⟩:=I.tuple hq;obtain⟨old,he⟩:=he;obtain⟨oi,hoi,hci,hdi⟩:=id hit;obtain⟨ol,hol,hcl,nl,hdl⟩:=id pl;have n1:l≠s1.heap.objs.size:=V6 hol hoi (by rw[hcl,hci];decide);have n2:s1.heap.objs.size+1≠l:=V6 he hol (by rw[hcl];show Value.type "enumerate"≠_;decide);refine⟨its,[s1.heap.objs.size,l],(fun i v=>its.toArray[i]?=some v),(fun i h=>h.IsTupleIter s1.heap.objs.size l i∧h.IsTuple l its.toArray),rv,hz,?_,?_,⟨hit,pl⟩,fun j v z=>by simpa using z,fun j h z=>z.1⟩
  ·have D:=Draws.tuple (prog:=X.prog) (w:=X.w) (A:=Y.A.in1) (by exact I.ok.hd hc) s1.heap.objs.size l n1 its.toArray;simpa using D
  ·intro z
   rcases List.mem_cons.mp z with z|z
   ·exact Nat.succ_ne_self _ z
   ·exact n2 (by simpa using z)
 ·intro Y pins s σ H xs ys hK I h1 h2;rw[←hK]at h1 h2;exact I.tuple_inj h1 h2
noncomputable def Itv(K:W.Frag)(a:Addr)(n:Nat):It:=
 ⟨fun i H=>(∃xs,SqL K H a xs∧xs.length=n)∧i<n,fun i H x H'=>H'=H∧∀xs,SqL K H a xs→xs[n-1-i]?=some x,fun i H=>(∃xs,SqL K H a xs∧xs.length=n)∧i=n⟩
theorem be4{P:Program}{w:World}{K:W.Frag}{tg:Expr}(a it:Addr)(n:Nat):Turn P w K tg (Itv K a n) [it] it (fun i h=>h.IsRevIter it a ((n:Int)-1-(i:Int))) where
 mem:=by simp
 obj:=fun i h st b hb=>by
  have e:b=it:=by simpa using hb
  subst e;obtain⟨o,e,c,d⟩:=st;exact⟨o,e,fun v z=>by rw[d]at z;cases z⟩
 keep:=fun i h h' st k=>st.at fun o e=>k it (by simp) o e
 item:=by
  intro X hP hw hK hc i pins s σ H E I hf st hg;subst hP hw hK;obtain⟨⟨xs,hq,hn⟩,hi⟩:=hg;subst hn;obtain⟨its,rv,p,hz⟩:=I.list hq;obtain⟨x,hx⟩:∃x,xs[xs.length-1-i]?=some x:=⟨_,List.getElem?_eq_getElem (by omega)⟩;obtain⟨u,hu,ru⟩:=rv.get hx;obtain⟨f0,f1,f2,f3,f4,f5⟩:=hf it (by simp);have e:(xs.length:Int)-1-(i:Int)=((xs.length-1-i:Nat):Int):=by omega
  rw[e]at st;refine wpAny_pyNext_rev_item st p.isList (x:=u) (by simpa using hu) fun h' st' sb=>?_;have I1:Inv X pins σ H {s with heap:=h'}:=I.turned (t':=s.toks) (fun b o hb e=>(sb.2 b hb).trans e) f0 f1 f3 f4 f5;obtain⟨o,e',c,d⟩:=id st';have e2:((xs.length-1-i:Nat):Int)-1=(xs.length:Int)-1-((i+1:Nat):Int):=by omega
  rw[e2]at st';exact⟨u,rfl,ad7 (s:={s with heap:=h'}) e' c d (by decide) ⟨x,H,I1,ru,⟨rfl,fun ys hy=>by rw[I.list_inj hy hq];exact hx⟩,st',fun b hb=>(hf b hb).1⟩⟩
 done:=by
  intro X hP hw hK hc i pins s σ H E I hf st hg;subst hP hw hK;obtain⟨_,hi⟩:=hg;obtain⟨f0,f1,f2,f3,f4,f5⟩:=hf it (by simp);have e:(n:Int)-1-(i:Int)=-1:=by omega
  rw[e]at st;exact wpAny_pyNext_rev_end (I.ok.hd hc) st fun h' eb=>⟨rfl,I.turned (t':=s.toks) (fun b o hb e=>eb b o hb e) f0 f1 f3 f4 f5⟩
 self:=fun _ _ _ _ _ st h=>wpAny_pyIter_revIter st h
noncomputable def b36(K:W.Frag)(ta:TA):TI:=fun σ H R=>ta σ H fun vs H1=>∃a xs,vs=[.ref a]∧SqL K H1 a xs∧R (Itv K a xs.length) H1
theorem bl1{tg a:Expr}{ta:TA}{p pos:Pos}(hg:Gl X "reversed")(hm:X.mg "reversed"=none)(ha:PA X [a] ta)(hs:starEach [a] X.env=[(false,eval a X.env)]:=by rfl):
  PI X tg (.Call (.Name "reversed" p) [a] [] pos) (b36 X.K ta):=by
 intro pins s σ H R I h;refine Call_ (F2 I hg hm a57 (PyProof.Rows.callWith_type1 (thn (ha pos pins s σ H _ I h) fun us s1⟨vs,H1,I1,r1,q1⟩=>?_) hs rfl));obtain⟨l,xs,e,hq,q⟩:=q1;subst e;obtain⟨u,rfl,ru⟩:=r1.one;cases ru;obtain⟨its,rv,pl,hz⟩:=I1.list hq;refine call_reversed_list pl.isList ?_;have hit:(s1.heap.push (revObj l ((its.toArray.size:Int)-1))).IsRevIter s1.heap.objs.size l ((xs.length:Int)-1-((0:Nat):Int)):=by
  refine⟨_,Heap.get?_push_size _ rfl,rfl,?_⟩;have e:((its.toArray.size:Nat):Int)-1=(xs.length:Int)-1-((0:Nat):Int):=by rw[List.size_toArray,←rv.length];omega
  rw[e];rfl
 refine wpAny_pyIter_revIter (s:={s1 with heap:=s1.heap.push (revObj l ((its.toArray.size:Int)-1))}) hit ?_;refine⟨s1.heap.objs.size,[s1.heap.objs.size],_,_,H1,rfl,I1.kept (t':=s1.toks) fun b o e=>Heap.get?_push_of_some _ e,be4 l _ xs.length,hit,fun b hb=>?_,q⟩;have e:b=s1.heap.objs.size:=by simpa using hb
 subst e;exact I1.fpOk (Nat.le_refl _) (I1.hok.fresh (Nat.le_refl _))
theorem ba3(hc:X.calm=true):v1 X (.builtin "sum") (fun xs H Q=>∃(p:Addr)(ns:List Int),xs=[.ref p]∧SqL X.K H p (ns.map V.int)∧Q (.int ns.sum) H):=by
 intro pins s σ H xs us Q I r h;obtain⟨p,ns,rfl,hq,q⟩:=h;obtain⟨u,rfl,ru⟩:=r.one;cases ru;obtain⟨its,rv,pl,hz⟩:=I.list hq;have hi:IntsAre its ns:=a94 rv;have hn:=hi.numsOf;obtain⟨zs,ez⟩:=hi.allInts.items;have pl':=pl.isList;rw[ez]at pl';refine PySem.sum_intListG (I.ok.hd hc) pl' fun h' tk t' hk=>?_;have e2:ns=zs.toList.map (·.1):=by
  rw[←hn,←show its.toArray.toList=its from rfl,ez,nums_intItems]
 rw[preSum_eq,List.take_of_length_le (by simp)];exact⟨.int ns.sum,H,I.kept hk,⟨t',by rw[e2]⟩,q⟩
noncomputable def am3(i j:Int):Prop:=0<j∧j.natAbs.log2<9000
theorem bg0:OpR X (binaryOp .FloorDiv) (rI am3 fun i j=>.int (i / j)):=opI fun i j _ _ _ _ _ hc q=>by
 have h1:(0:Int)<j:=hc.1;exact floordiv_int (by omega) (by rw[Int.fdiv_eq_ediv_of_nonneg i (by omega)];exact q) (.inl (PyProof.noPylong_of_log2 hc.2))
noncomputable def b38(K:W.Frag):R2:=fun x y H Q=>∃a b xs ys,x=.ref a∧y=.ref b∧SqT K H a xs∧SqT K H b ys∧xs.length+ys.length≤sizeLine ∧
 (xs=[]→Q (.ref b) H)∧(xs≠[]→ys=[]→Q (.ref a) H)∧(xs≠[]→ys≠[]→∀p,H p=none→Q (.ref p) (upd H p (.tup (xs++ys))))
theorem bo4:OpR X (binaryOp .Add) (b38 X.K):=by
 intro pins s σ H x y v u Q I rx ry h;obtain⟨a,b,xs,ys,rfl,rfl,ha,hb,hz,q0,q1,q2⟩:=h
 by_cases hx:xs=[]
 ·subst hx;cases rx;cases ry;obtain⟨its,r1,p1,_⟩:=I.tuple ha;obtain⟨its2,r2,p2,_⟩:=I.tuple hb;cases r1;obtain⟨⟨cls,dd,data,sl⟩,ho,hc,n,hd⟩:=id p1;obtain⟨⟨cls2,dd2,data2,sl2⟩,ho2,hc2,n2,hd2⟩:=id p2;simp only at hc hd hc2 hd2;subst hc hd hc2 hd2;exact concat_meets ⟨_,ho,rfl⟩ ⟨_,ho2,rfl⟩ noFill_tuple_add seq_tuple_add PySem.F.slot_tuple_add PySem.F.entry_tuple_add (PySem.F.args_tuple_add_2 _ _)
   (tuple_addW0 a b #[] its2.toArray n n2 dd dd2 sl sl2 (by simp)) ⟨ho,ho2,⟨.ref b,H,I,rfl,q0 rfl⟩⟩
 ·exact bk6 pins s σ H _ _ v u Q I rx ry ⟨a,b,xs,ys,rfl,rfl,ha,hb,hx,hz,q1 hx,q2 hx⟩
end
end L2
namespace Ek
open PySem PySem.Spec PyProof.Rows L2
inductive Tg where
 |n (i:Nat)|tup (is:List Nat)
mutual
inductive E where
 |non|bl (b:Bool)|int (i:Int)|str (x:Str)
 |v (i:Nat)
 |tup (es:Es)|lst (es:Es)
 |bin (o:Operator) (a b:E)
 |neg (a:E)
 |cmp (o:CmpOp) (a b:E)
 |isN (a:E)|notN (a:E)
 |and (a b:E)|or (a b:E)|not (a:E)
 |ite (c a b:E)
 |ix (a b:E)
 |sl (a lo hi:E)
 |dsel (ks:List Str) (vs:Es) (k:E)
 |gsel (g:Str) (k:E)|gget (g:Str) (k d:E)
 |len (a:E)|abs (a:E)|toInt (a:E)|sum (a:E)|list (a:E)|tuple (a:E)
 |max (a b:E)
 |call (f:Str) (es:Es)|callv (i:Nat) (es:Es)
 |app (a b:E)|ext (a b:E)|popAt (a b:E)|pop (a:E)|index (a b:E)
 |lrev (a:E)
 |gc (g:Str)
 |any (a:E)
 |comp (Nc:List Str) (fr:List Nat) (k:Nat) (t:Tg) (it:It) (c:E) (e:E)
inductive Es where
 |nil|cons (e:E) (r:Es)
inductive It where
 |seq (e:E)|rng (a:E)|rng2 (a b:E)|enum (e:E)|rev (e:E)
end
mutual
inductive S where
 |set (i:Nat) (e:E)
 |put (o i v:E)
 |iput (o i v:E)
 |pre (i:Nat)
 |ex (e:E)
 |iff (c:E) (a b:Ss)
 |ret (e:E)|retN
 |for (t:Tg) (it:It) (b:Ss)
 |while (c:E) (b:Ss)
 |pass|dead
 |dfn (i np:Nat) (N:List Str) (cp:List Nat) (b:Ss)
inductive Ss where
 |nil|cons (s:S) (r:Ss)
end
noncomputable def Es.len:Es→Nat
 |.nil=>0
 |.cons _ r=>r.len+1
inductive D where
 |non|bl (b:Bool)|int (i:Int)|str (x:Str)|tup (ds:List D)|ref (a:Addr)|fn (f:Str)|clo (np:Nat) (N:List Str) (b:Ss) (cs:List D)
inductive Ob where
 |lst (ds:List D)|fro (ds:List D)|dct (kvs:List (Key×D))|dtt (kvs:List (PyData×D))|ins (c:Str) (fs:List (Str×D))
noncomputable abbrev Sto:=Addr→Option Ob
noncomputable abbrev d8:=List (Option D)
noncomputable abbrev DK:=D→Sto→Prop
noncomputable abbrev DT:=d8→Sto→DK→Prop
noncomputable abbrev DB:=d8→Sto→(Bool→Sto→Prop)→Prop
noncomputable abbrev DA:=d8→Sto→(List D→Sto→Prop)→Prop
noncomputable def d3(st:Sto)(a:Addr)(o:Ob):Sto:=fun b=>if b=a then some o else st b
theorem g8{st:Sto}{a:Addr}{o:Ob}:d3 st a o a=some o:=by unfold d3;rw[if_pos rfl]
theorem y3{st:Sto}{a b:Addr}{o:Ob}(h:b≠a):d3 st a o b=st b:=by unfold d3;rw[if_neg h]
noncomputable def rdS(st:Sto)(a:Addr)(ds:List D):Prop:=st a=some (.lst ds)∨st a=some (.fro ds)
noncomputable def Sub(st st':Sto):Prop:=∀a o,st a=some o→st' a=some o
theorem Sub.refl(st:Sto):Sub st st:=fun _ _ h=>h
mutual
noncomputable def D.py:D→PyData
 |.non=>.none|.bl b=>.bool b|.int i=>.int i|.str x=>.str x|.tup ds=>.tuple (D.pys ds)|.ref _=>.none|.fn _=>.none|.clo _ _ _ _=>.none
noncomputable def D.pys:List D→List PyData
 |[]=>[]
 |d::r=>d.py::D.pys r
end
mutual
noncomputable def D.pure:D→Bool
 |.tup ds=>D.pures ds
 |.ref _=>false
 |.fn _=>false
 |.clo _ _ _ _=>false
 |.str x=>PyData.canLay0 (.str x)
 |_=>true
noncomputable def D.pures:List D→Bool
 |[]=>true
 |d::r=>d.pure&&D.pures r
end
noncomputable def deq(d e:D):Bool:=PyData.eqv d.py e.py
noncomputable def i7(d:D):Nat:=d.py.depth
noncomputable abbrev Spec:=List D→Sto→DK→Prop
structure Sg where
 F:Str→Bool
 Phi:Str→Spec
 G:Str→List (Str×D)
 C:Str→List Str
 Mk:Str→Spec
 MF:Str→Bool
 PhiC:Nat→List Str→Ss→List D→Spec
 Kc:Str→Option Int
def u7(c m:Str):Str:=⟨c.cps++#[46]++m.cps⟩
noncomputable def G2(Z:Sg)(ta:Sto→(List D→Sto→Prop)→Prop)(st:Sto)(Q:DK):D→Prop
 |.fn f=>Z.F f=true∧ta st fun ds st1=>Z.Phi f ds st1 Q
 |.clo np N b cs=>ta st fun ds st1=>Z.PhiC np N b cs ds st1 Q
 |_=>False
noncomputable def A9(env:d8):List Nat→Option (List D)
 |[]=>some []
 |i::is=>match env[i]?,A9 env is with
  |some (some d),some ds=>some (d::ds)
  |_,_=>none
noncomputable def D9(i j:Int):Prop:=am4 i j∨(i.natAbs<2^20000∧j.natAbs<2^20000)
noncomputable def u2(kvs:List (Key×D))(k:Key):Option D:=(kvs.find? fun kv=>decide (kv.1=k)).map (·.2)
noncomputable def u0:Operator→D→D→Sto→DK→Prop
 |.Add,.int i,.int j,st,Q=>Q (.int (i+j)) st
 |.Add,.tup xs,.tup ys,st,Q=>xs.length+ys.length≤sizeLine∧Q (.tup (xs++ys)) st
 |.Add,.ref a,.ref b,st,Q=>∃xs ys,st a=some (.lst xs)∧st b=some (.lst ys)∧xs.length+ys.length≤sizeLine∧∀p,st p=none→Q (.ref p) (d3 st p (.lst (xs++ys)))
 |.Sub,.int i,.int j,st,Q=>Q (.int (i-j)) st
 |.Mult,.int i,.int j,st,Q=>D9 i j∧Q (.int (i*j)) st
 |.Mod,.int i,.int j,st,Q=>0<j∧Q (.int (i % j)) st
 |.FloorDiv,.int i,.int j,st,Q=>am3 i j∧Q (.int (i / j)) st
 |.Pow,.int i,.int j,st,Q=>am7 i j∧Q (.int (i^j.toNat)) st
 |_,_,_,_,_=>False
noncomputable def o9:CmpOp→D→D→Sto→DK→Prop
 |.Eq,x,y,st,Q=>x.pure=true∧y.pure=true∧Nat.min (i7 x) (i7 y)≤150∧Q (.bl (deq x y)) st
 |.NotEq,x,y,st,Q=>x.pure=true∧y.pure=true∧Nat.min (i7 x) (i7 y)≤150∧Q (.bl (!deq x y)) st
 |.Lt,.int i,.int j,st,Q=>Q (.bl (decide (i<j))) st
 |.LtE,.int i,.int j,st,Q=>Q (.bl (decide (i≤j))) st
 |.Gt,.int i,.int j,st,Q=>Q (.bl (decide (j<i))) st
 |.GtE,.int i,.int j,st,Q=>Q (.bl (decide (j≤i))) st
 |.In,x,.tup ys,st,Q=>x.pure=true∧D.pures ys=true∧i7 x≤150∧Q (.bl (ys.any fun y=>deq y x)) st
 |.NotIn,x,.tup ys,st,Q=>x.pure=true∧D.pures ys=true∧i7 x≤150∧Q (.bl (!ys.any fun y=>deq y x)) st
 |.In,.str w,.ref a,st,Q=>∃kvs,st a=some (.dct kvs)∧Q (.bl (u2 kvs (.inr w)).isSome) st
 |.NotIn,.str w,.ref a,st,Q=>∃kvs,st a=some (.dct kvs)∧Q (.bl (!(u2 kvs (.inr w)).isSome)) st
 |.In,.int i,.ref a,st,Q=>∃kvs,st a=some (.dct kvs)∧Q (.bl (u2 kvs (.inl i)).isSome) st
 |.NotIn,.int i,.ref a,st,Q=>∃kvs,st a=some (.dct kvs)∧Q (.bl (!(u2 kvs (.inl i)).isSome)) st
 |_,_,_,_,_=>False
noncomputable def ixR:D→D→Sto→DK→Prop
 |.tup ds,.int i,st,Q=>∃d,atI ds i=some d∧Q d st
 |.ref a,.int i,st,Q=>(∃ds d,rdS st a ds∧atI ds i=some d∧Q d st)∨∃kvs d,st a=some (.dct kvs)∧u2 kvs (.inl i)=some d∧Q d st
 |.ref a,.str w,st,Q=>∃kvs d,st a=some (.dct kvs)∧u2 kvs (.inr w)=some d∧Q d st
 |.str w,.int i,st,Q=>∃c,w.length≤sizeLine∧atI w.cps.toList i=some c∧Q (.str ⟨#[c]⟩) st
 |_,_,_,_=>False
noncomputable def v4(xs:List D)(lo hi:Option Int):List D:=(xs.drop (HT.sIx xs.length 0 lo)).take (HT.sIx xs.length xs.length hi-HT.sIx xs.length 0 lo)
noncomputable def slR:D→Option Int→Option Int→Sto→DK→Prop
 |.tup ds,lo,hi,st,Q=>¬(HT.sIx ds.length 0 lo=0∧HT.sIx ds.length ds.length hi=ds.length)∧Q (.tup (v4 ds lo hi)) st
 |.ref a,lo,hi,st,Q=>∃ds,rdS st a ds∧∀p,st p=none→Q (.ref p) (d3 st p (.lst (v4 ds lo hi)))
 |_,_,_,_,_=>False
noncomputable def j3:List (Str×D)→Str→Option D
 |[],_=>none
 |(k,d)::r,x=>if k=x then some d else j3 r x
noncomputable def E3:D→Sto→DK→Prop
 |.tup ds,st,Q=>Q (.int ds.length) st
 |.ref a,st,Q=>∃ds,rdS st a ds∧Q (.int ds.length) st
 |_,_,_=>False
noncomputable def L5:D→Sto→DK→Prop
 |.bl b,st,Q=>Q (.int (if b then 1 else 0)) st
 |.int i,st,Q=>Q (.int i) st
 |_,_,_=>False
noncomputable def ad9:D→Sto→DK→Prop
 |.tup ds,st,Q=>∀p,st p=none→Q (.ref p) (d3 st p (.lst ds))
 |.ref a,st,Q=>∃ds,rdS st a ds∧∀p,st p=none→Q (.ref p) (d3 st p (.lst ds))
 |_,_,_=>False
noncomputable def F4:D→Sto→DK→Prop
 |.tup ds,st,Q=>Q (.tup ds) st
 |.ref a,st,Q=>∃ds,rdS st a ds∧Q (.tup ds) st
 |_,_,_=>False
noncomputable def af5:D→Sto→DK→Prop
 |.ref a,st,Q=>∃ns:List Int,rdS st a (ns.map D.int)∧Q (.int ns.sum) st
 |_,_,_=>False
noncomputable def am9:D→Sto→DK→Prop
 |.ref a,st,Q=>∃bs:List Bool,rdS st a (bs.map D.bl)∧Q (.bl (bs.any id)) st
 |_,_,_=>False
noncomputable def aw3:D→Sto→DK→Prop
 |.ref a,st,Q=>∃ds,rdS st a ds∧Q (.bl true) st
 |_,_,_=>False
noncomputable def ak4:D→D→Sto→DK→Prop
 |.ref a,.int i,st,Q=>(-(2^62)≤i∧i<2^62)∧∃ds k d,st a=some (.lst ds)∧ixN ds.length i=some k∧ds[k]?=some d∧Q d (d3 st a (.lst (ds.eraseIdx k)))
 |_,_,_,_=>False
noncomputable def N2:D→Sto→DK→Prop
 |.ref a,st,Q=>∃ds d,st a=some (.lst (ds++[d]))∧Q d (d3 st a (.lst ds))
 |_,_,_=>False
noncomputable def N5:D→Sto→DK→Prop
 |.ref a,st,Q=>∃ds,st a=some (.lst ds)∧Q .non (d3 st a (.lst ds.reverse))
 |_,_,_=>False
noncomputable def b60:D→Option Int→Option Int→Sto→DK→Prop
 |.tup ds,lo,hi,st,Q=>Q (.tup (v4 ds lo hi)) st
 |_,_,_,_,_=>False
noncomputable def am1:D→D→D→Sto→(Sto→Prop)→Prop
 |.ref a,.int i,d,st,K=>∃kvs,st a=some (.dct kvs)∧u2 kvs (.inl i)=none∧kvs.length<sizeLine∧K (d3 st a (.dct (kvs++[(.inl i,d)])))
 |_,_,_,_,_=>False
noncomputable def N1:D→D→Sto→DK→Prop
 |.ref a,d,st,Q=>∃ds,st a=some (.lst ds)∧ds.length<sizeLine∧Q .non (d3 st a (.lst (ds++[d])))
 |_,_,_,_=>False
noncomputable def G7:D→D→Sto→DK→Prop
 |.ref a,.ref b,st,Q=>∃ds es,st a=some (.lst ds)∧st b=some (.lst es)∧ds.length+es.length≤sizeLine∧Q .non (d3 st a (.lst (ds++es)))
 |.ref a,.tup es,st,Q=>∃ds,st a=some (.lst ds)∧ds.length+es.length≤sizeLine∧Q .non (d3 st a (.lst (ds++es)))
 |_,_,_,_=>False
noncomputable def D7:D→D→Sto→DK→Prop
 |.ref a,x,st,Q=>∃ds,rdS st a ds∧x.pure=true∧D.pures ds=true∧i7 x≤150∧∃(j:Nat)(d:D),ds[j]?=some d∧deq d x=true∧(∀(i:Nat)e,i<j→ds[i]?=some e→deq e x=false)∧Q (.int (j:Int)) st
 |.tup ds,x,st,Q=>x.pure=true∧D.pures ds=true∧i7 x≤150∧∃(j:Nat)(d:D),ds[j]?=some d∧deq d x=true∧(∀(i:Nat)e,i<j→ds[i]?=some e→deq e x=false)∧Q (.int (j:Int)) st
 |_,_,_,_=>False
noncomputable def u8:D→Sto→Prop
 |.ref a,st=>∃ds,rdS st a ds
 |_,_=>False
noncomputable def N6:D→Sto→Prop
 |.tup _,_=>True
 |.ref a,st=>∃ds,rdS st a ds
 |_,_=>False
noncomputable def D5:d8→List Nat→List D→d8
 |env,i::is,d::ds=>D5 (env.set i (some d)) is ds
 |env,_,_=>env
noncomputable def A5:Tg→D→d8→(d8→Prop)→Prop
 |.n i,d,env,k=>k (env.set i (some d))
 |.tup is,d,env,k=>∃ds,d=.tup ds∧ds.length=is.length∧k (D5 env is ds)
noncomputable def m8(lo:Int)(n:Nat):List D:=(List.range n).map fun i=>.int (lo+(i:Nat))
noncomputable def j2:Nat→List D→List D
 |_,[]=>[]
 |i,d::ds=>.tup [.int i,d]::j2 (i+1) ds
noncomputable def r8(chk:Sto→Prop)(t:Tg)(tc:DB)(te:DT)(Q:List D→Sto→Prop):List D→List D→d8→Sto→Prop
 |[],acc,_,st=>chk st∧Q acc st
 |d::ds,acc,env,st=>chk st∧A5 t d env fun env'=>tc env' st fun b st1=>
   if b=true then te env' st1 fun v st2=>r8 chk t tc te Q ds (acc++[v]) env' st2
   else r8 chk t tc te Q ds acc env' st1
noncomputable def D4(fr:List Nat)(k:Nat)(env:d8):d8:=(fr.map fun j=>(env[j]?).join)++List.replicate k none
noncomputable def E.isNon:E→Bool
 |.non=>true
 |_=>false
noncomputable abbrev ItK:=List D→(Sto→Prop)→Sto→Prop
mutual
noncomputable def wpE(Z:Sg):E→DT
 |.non=>fun _ st Q=>Q .non st
 |.bl b=>fun _ st Q=>Q (.bl b) st
 |.int i=>fun _ st Q=>Q (.int i) st
 |.str x=>fun _ st Q=>Q (.str x) st
 |.v i=>fun env st Q=>∃d,env[i]?=some (some d)∧Q d st
 |.tup es=>fun env st Q=>r9 Z es env st fun ds st1=>Q (.tup ds) st1
 |.lst es=>fun env st Q=>r9 Z es env st fun ds st1=>∀p,st1 p=none→Q (.ref p) (d3 st1 p (.lst ds))
 |.bin o a b=>fun env st Q=>wpE Z a env st fun x st1=>wpE Z b env st1 fun y st2=>u0 o x y st2 Q
 |.neg a=>fun env st Q=>wpE Z a env st fun x st1=>∃i,x=.int i∧Q (.int (-i)) st1
 |.cmp o a b=>fun env st Q=>wpE Z a env st fun x st1=>wpE Z b env st1 fun y st2=>o9 o x y st2 Q
 |.isN a=>fun env st Q=>wpE Z a env st fun x st1=>(x=.non∧Q (.bl true) st1)∨(x≠.non∧Q (.bl false) st1)
 |.notN a=>fun env st Q=>wpE Z a env st fun x st1=>(x=.non∧Q (.bl false) st1)∨(x≠.non∧Q (.bl true) st1)
 |.and a b=>fun env st Q=>wpE Z a env st fun x st1=>∃c,x=.bl c∧(if c=true then wpE Z b env st1 Q else Q (.bl false) st1)
 |.or a b=>fun env st Q=>wpE Z a env st fun x st1=>∃c,x=.bl c∧(if c=true then Q (.bl true) st1 else wpE Z b env st1 Q)
 |.not a=>fun env st Q=>wpE Z a env st fun x st1=>∃c,x=.bl c∧Q (.bl (!c)) st1
 |.ite c a b=>fun env st Q=>wpE Z c env st fun x st1=>∃k,x=.bl k∧(if k=true then wpE Z a env st1 Q else wpE Z b env st1 Q)
 |.ix a b=>fun env st Q=>wpE Z a env st fun x st1=>wpE Z b env st1 fun y st2=>ixR x y st2 Q
 |.sl a lo hi=>fun env st Q=>wpE Z a env st fun x st1=>
   (if lo.isNon=true then fun k=>k none st1 else fun(k:Option Int→Sto→Prop)=>wpE Z lo env st1 fun d st'=>∃i,d=.int i∧k (some i) st') fun l st2=>
   (if hi.isNon=true then fun k=>k none st2 else fun(k:Option Int→Sto→Prop)=>wpE Z hi env st2 fun d st'=>∃i,d=.int i∧k (some i) st') fun h st3=>slR x l h st3 Q
 |.dsel ks vs k=>fun env st Q=>r9 Z vs env st fun ds st1=>wpE Z k env st1 fun x st2=>∃w d,x=.str w∧j3 (ks.zip ds) w=some d∧Q d st2
 |.gget g k d=>fun env st Q=>Z.G g≠[]∧wpE Z k env st fun x st1=>wpE Z d env st1 fun y st2=>∃w,x=.str w∧Q ((j3 (Z.G g) w).getD y) st2
 |.gsel g k=>fun env st Q=>Z.G g≠[]∧wpE Z k env st fun x st1=>∃w d,x=.str w∧j3 (Z.G g) w=some d∧Q d st1
 |.len a=>fun env st Q=>wpE Z a env st fun x st1=>E3 x st1 Q
 |.abs a=>fun env st Q=>wpE Z a env st fun x st1=>∃i,x=.int i∧Q (.int (if i<0 then -i else i)) st1
 |.toInt a=>fun env st Q=>wpE Z a env st fun x st1=>L5 x st1 Q
 |.sum a=>fun env st Q=>wpE Z a env st fun x st1=>af5 x st1 Q
 |.list a=>fun env st Q=>wpE Z a env st fun x st1=>ad9 x st1 Q
 |.tuple a=>fun env st Q=>wpE Z a env st fun x st1=>F4 x st1 Q
 |.max a b=>fun env st Q=>wpE Z a env st fun x st1=>wpE Z b env st1 fun y st2=>∃i j,x=.int i∧y=.int j∧Q (.int (if j>i then j else i)) st2
 |.call f es=>fun env st Q=>Z.F f=true∧r9 Z es env st fun ds st1=>Z.Phi f ds st1 Q
 |.callv i es=>fun env st Q=>∃x,env[i]?=some (some x)∧G2 Z (r9 Z es env) st Q x
 |.gc g=>fun _ st Q=>∃i,Z.Kc g=some i∧Q (.int i) st
 |.app a b=>fun env st Q=>wpE Z a env st fun x st1=>u8 x st1∧wpE Z b env st1 fun y st2=>N1 x y st2 Q
 |.ext a b=>fun env st Q=>wpE Z a env st fun x st1=>u8 x st1∧wpE Z b env st1 fun y st2=>G7 x y st2 Q
 |.popAt a b=>fun env st Q=>wpE Z a env st fun x st1=>u8 x st1∧wpE Z b env st1 fun y st2=>ak4 x y st2 Q
 |.pop a=>fun env st Q=>wpE Z a env st fun x st1=>N2 x st1 Q
 |.any a=>fun env st Q=>wpE Z a env st fun x st1=>am9 x st1 Q
 |.lrev a=>fun env st Q=>wpE Z a env st fun x st1=>N5 x st1 Q
 |.index a b=>fun env st Q=>wpE Z a env st fun x st1=>N6 x st1∧wpE Z b env st1 fun y st2=>D7 x y st2 Q
 |.comp _ fr k t it c e=>fun env st Q=>y9 Z it env st fun items chk st1=>items.length≤1000000 ∧
   r8 chk t (if c.isNon=true then fun _ st Q=>Q true st else fun env st Q=>wpE Z c env st fun d st'=>∃b,d=.bl b∧Q b st') (fun env st Q=>wpE Z e env st Q) (fun acc st'=>∀p,st' p=none→Q (.ref p) (d3 st' p (.lst acc))) items [] (D4 fr k env) st1
noncomputable def r9(Z:Sg):Es→DA
 |.nil=>fun _ st Q=>Q [] st
 |.cons e r=>fun env st Q=>wpE Z e env st fun d st1=>r9 Z r env st1 fun ds st2=>Q (d::ds) st2
noncomputable def y9(Z:Sg):It→d8→Sto→ItK→Prop
 |.seq e=>fun env st k=>wpE Z e env st fun d st1=>(∃ds,d=.tup ds∧k ds (fun _=>True) st1)∨(∃a ds,d=.ref a∧rdS st1 a ds∧k ds (fun st'=>rdS st' a ds) st1)
 |.rng a=>fun env st k=>wpE Z a env st fun d st1=>∃j:Int,d=.int j∧(-(2^62)≤j∧j<2^62)∧k (m8 0 j.toNat) (fun _=>True) st1
 |.rng2 a b=>fun env st k=>wpE Z a env st fun d st1=>wpE Z b env st1 fun e st2=>∃i j:Int,d=.int i∧e=.int j∧(-(2^62)≤i∧i<2^62∧-(2^62)≤j∧j<2^62)∧k (m8 i (j-i).toNat) (fun _=>True) st2
 |.enum e=>fun env st k=>wpE Z e env st fun d st1=>(∃ds,d=.tup ds∧k (j2 0 ds) (fun _=>True) st1)∨(∃a ds,d=.ref a∧rdS st1 a ds∧k (j2 0 ds) (fun st'=>rdS st' a ds) st1)
 |.rev e=>fun env st k=>wpE Z e env st fun d st1=>∃a ds,d=.ref a∧rdS st1 a ds∧k ds.reverse (fun st'=>rdS st' a ds) st1
end
noncomputable def wpT(Z:Sg)(e:E):DB:=fun env st Q=>wpE Z e env st fun d st'=>∃b,d=.bl b∧Q b st'
structure DEnds where
 nx:d8→Sto→Prop
 rt:DK
 bk:d8→Sto→Prop:=fun _ _=>False
 ct:d8→Sto→Prop:=fun _ _=>False
noncomputable abbrev DS:=DEnds→d8→Sto→Prop
noncomputable def n0(chk:Sto→Prop)(t:Tg)(tb:DS)(F:DEnds):List D→d8→Sto→Prop
 |[],env,st=>chk st∧F.nx env st
 |d::ds,env,st=>chk st∧A5 t d env fun env'=>tb {F with nx:=n0 chk t tb F ds,ct:=n0 chk t tb F ds,bk:=F.nx} env' st
noncomputable def w6(tc:DB)(tb:DS)(F:DEnds):Nat→d8→Sto→Prop
 |0,_,_=>False
 |n+1,env,st=>tc env st fun b st1=>if b=true then tb {F with nx:=w6 tc tb F n,ct:=w6 tc tb F n,bk:=F.nx} env st1 else F.nx env st1
mutual
noncomputable def wpS(Z:Sg):S→DS
 |.set i e=>fun F env st=>wpE Z e env st fun d st1=>F.nx (env.set i (some d)) st1
 |.pre i=>fun F env st=>∀p,st p=none→F.nx (env.set i (some (.ref p))) (d3 st p (.dct []))
 |.iput o i v=>fun F env st=>wpE Z v env st fun d st1=>wpE Z o env st1 fun x st2=>wpE Z i env st2 fun y st3=>am1 x y d st3 fun st4=>F.nx env st4
 |.put o i v=>fun F env st=>wpE Z v env st fun d st1=>wpE Z o env st1 fun x st2=>wpE Z i env st2 fun y st3=>
   ∃a j k ds,x=.ref a∧y=.int j∧st3 a=some (.lst ds)∧ixN ds.length j=some k∧F.nx env (d3 st3 a (.lst (ds.set k d)))
 |.ex e=>fun F env st=>wpE Z e env st fun _ st1=>F.nx env st1
 |.iff c a b=>fun F env st=>wpT Z c env st fun k st1=>if k=true then e9 Z a F env st1 else e9 Z b F env st1
 |.ret e=>fun F env st=>wpE Z e env st F.rt
 |.retN=>fun F _ st=>F.rt .non st
 |.for t it b=>fun F env st=>y9 Z it env st fun items chk st1=>n0 chk t (e9 Z b) F items env st1
 |.while c b=>fun F env st=>∃n,w6 (wpT Z c) (e9 Z b) F n env st
 |.dead=>fun _ _ _=>False
 |.pass=>fun F env st=>F.nx env st
 |.dfn i np N cp b=>fun F env st=>∃cs,A9 env cp=some cs∧F.nx (env.set i (some (.clo np N b cs))) st
noncomputable def e9(Z:Sg):Ss→DS
 |.nil=>fun F env st=>F.nx env st
 |.cons s r=>fun F env st=>wpS Z s {F with nx:=e9 Z r F} env st
end
structure Def where
 np:Nat
 N:List Str
 body:Ss
noncomputable abbrev g9:=Str→Option Def
noncomputable def Y5(f:Def)(ds:List D):d8:=ds.map some++List.replicate (f.N.length-ds.length) none
structure Gs where
 tab:Str→List (Str×D)
 cls:Str→List Str
 cst:Str→Option Int
noncomputable def a29(P:g9)(G:Gs)(lo lo2:Str→Spec)(po:Bool)(lc:Nat→List Str→Ss→List D→Spec)(f:Str):Spec:=fun ds st Q=>∃fd,P f=some fd∧ds.length=fd.np∧e9 ⟨fun f=>(P f).isSome,lo,G.tab,G.cls,lo2,fun f=>po&&(P f).isSome,lc,G.cst⟩ fd.body
   {nx:=fun _ st'=>∃s2,Sub s2 st'∧Q .non s2,rt:=fun d st'=>∃s2,Sub s2 st'∧Q d s2} (Y5 fd ds) st
noncomputable def B8(N:List Str)(ds cs:List D):d8:=(ds++cs).map some++List.replicate (N.length-(ds++cs).length) none
noncomputable def a35(P:g9)(G:Gs)(lo lo2:Str→Spec)(po:Bool)(lc:Nat→List Str→Ss→List D→Spec)(np:Nat)(N:List Str)(b:Ss)(cs:List D):Spec:=fun ds st Q=>ds.length=np∧e9 ⟨fun f=>(P f).isSome,lo,G.tab,G.cls,lo2,fun f=>po&&(P f).isSome,lc,G.cst⟩ b
   {nx:=fun _ st'=>∃s2,Sub s2 st'∧Q .non s2,rt:=fun d st'=>∃s2,Sub s2 st'∧Q d s2} (B8 N ds cs) st
noncomputable def p7(P:g9)(G:Gs):Nat→(Str→Spec)×(Str→Spec)×Bool×(Nat→List Str→Ss→List D→Spec)
 |0=>(fun _ _ _ _=>False,fun _ _ _ _=>False,false,fun _ _ _ _ _ _ _=>False)
 |n+1=>(a29 P G (p7 P G n).1 (p7 P G n).2.1 (p7 P G n).2.2.1 (p7 P G n).2.2.2,(p7 P G n).1,true,a35 P G (p7 P G n).1 (p7 P G n).2.1 (p7 P G n).2.2.1 (p7 P G n).2.2.2)
noncomputable def sem(P:g9)(G:Gs)(n:Nat):Str→Spec:=(p7 P G n).1
noncomputable def B1(P:g9)(G:Gs)(n:Nat):Nat→List Str→Ss→List D→Spec:=(p7 P G n).2.2.2
theorem bf6{P:g9}{G:Gs}{n:Nat}:sem P G (n+1)=a29 P G (sem P G n) (p7 P G n).2.1 (p7 P G n).2.2.1 (B1 P G n):=rfl
theorem bb0{P:g9}{G:Gs}{n:Nat}:B1 P G (n+1)=a35 P G (sem P G n) (p7 P G n).2.1 (p7 P G n).2.2.1 (B1 P G n):=rfl
end Ek
namespace Ek
open PySem PySem.Spec PyProof.Rows L2
class Tbs where
 ps:List Addr
 mt:Ss→Scope→List Str→FuncBody→Prop
 kt:Bool
structure FnScC(N P:List Str)(sc:Scope):Prop where
 kind:sc.kind=.function
 co:sc.isCoroutine=false
 gen:sc.isGenerator=false
 nd:N.Nodup
 pre:N.take P.length=P
 par:∀x∈P,sc.names.lookup x=some .local
 nocell:∀y∈sc.names,y.2≠.cell
 fre:∀y∈sc.names,y.2=.free→sc.names.lookup y.1=some .free
noncomputable def C5(H:Hp)(cv:Value):Prop:=∃c o u vs q t,cv=.ref c∧H c=some (.frz o u)∧(∀vs,u≠.lst vs)∧o.data=.fields vs∧vs[1]?=some (.str q t)
variable [Tbs]
structure CloF(fd:FuncData)(np:Nat)(N ps:List Str)(b:Ss):Prop where
 sc:FnScC N ps fd.scope
 np:ps.length=np
 mt:Tbs.mt b fd.scope N fd.body
 bind:∀us:List Value,us.length=ps.length→bindArgs fd ⟨us,[]⟩=pure (ps.zip us)
 gl:fd.globals=mainGlobals
 bl:fd.builtins=builtinsNs
 has:∀x,(x,NameKind.free)∈fd.scope.names→∃c,fd.closure.lookup x=some c
 fre:∀x c,fd.closure.lookup x=some c→(x,NameKind.free)∈fd.scope.names
 inj:∀x y c,fd.closure.lookup x=some c→fd.closure.lookup y=some c→x=y
structure CloR(H:Hp)(f:Addr)(fd:FuncData)(np:Nat)(N:List Str)(us:List V):Prop where
 ex:∃o u,H f=some (.frz o u)∧(∀vs,u≠.lst vs)∧o.data=.func fd
 cd:C5 H fd.code
 cl:∀x c,fd.closure.lookup x=some c→∃o' u' w,H c=some (.frz o' u')∧(∀vs,u'≠.lst vs)∧o'.data=.cell (some w)
 at':∀(i:Nat)v,us[i]?=some v→∃x c o' u' w,N[np+i]?=some x∧fd.closure.lookup x=some c∧H c=some (.frz o' u')∧(∀vs,u'≠.lst vs)∧o'.data=.cell (some w)∧d7 v w
noncomputable def N0(H:Hp)(f:Addr)(np:Nat)(N:List Str)(b:Ss)(us:List V):Prop:=∃fd ps,CloF fd np N ps b∧CloR H f fd np N us
noncomputable def SqX(K:W.Frag)(H:Hp)(a:Addr)(xs:List V):Prop:=H a=some (.tup xs)∨(Tbs.kt=true∧SqT K H a xs)
theorem SqX.sqt{K:W.Frag}{H:Hp}{a:Addr}{xs:List V}(h:SqX K H a xs):SqT K H a xs:=h.elim (fun h=>.inl (.inl h)) fun h=>h.2
theorem SqX.of{K:W.Frag}{H:Hp}{a:Addr}{xs:List V}(h:H a=some (.tup xs)):SqX K H a xs:=.inl h
inductive IsD(K:W.Frag)(H:Hp):D→V→Prop where
 |non:IsD K H .non .non
 |bl (b:Bool):IsD K H (.bl b) (.bl b)
 |int (i:Int):IsD K H (.int i) (.int i)
 |str (x:Str):IsD K H (.str x) (.str x)
 |ref (a:Addr):IsD K H (.ref a) (.ref a)
 |fn {f:Str} {a:Addr}:W.nsIn K mainGlobals f=some (some (.ref a))→IsD K H (.fn f) (.ref a)
 |clo {f:Addr} {np:Nat} {N:List Str} {b:Ss} {ds:List D} {us:List V}:N0 H f np N b us→ds.length=us.length→(∀(i:Nat)d v,ds[i]?=some d→us[i]?=some v→IsD K H d v)→IsD K H (.clo np N b ds) (.ref f)
 |tup {a:Addr} {ds:List D} {vs:List V}:SqX K H a vs→ds.length=vs.length→(∀(i:Nat)d v,ds[i]?=some d→vs[i]?=some v→IsD K H d v)→IsD K H (.tup ds) (.ref a)
structure IsDs(K:W.Frag)(H:Hp)(ds:List D)(vs:List V):Prop where
 len:ds.length=vs.length
 at':∀(i:Nat)d v,ds[i]?=some d→vs[i]?=some v→IsD K H d v
section
variable {K:W.Frag} {H H' H2:Hp} {d:D} {v:V} {ds es:List D} {vs ws:List V}
theorem IsD.mk(h:SqX K H a vs)(r:IsDs K H ds vs):IsD K H (.tup ds) (.ref a):=.tup h r.len r.at'
theorem IsD.tup_invX{v:V}(h:IsD K H (.tup ds) v):∃a vs,v=.ref a∧SqX K H a vs∧IsDs K H ds vs:=by
 cases h with
 |tup a b c=>exact⟨_,_,rfl,a,⟨b,c⟩⟩
theorem IsD.tup_inv{v:V}(h:IsD K H (.tup ds) v):∃a vs,v=.ref a∧SqT K H a vs∧IsDs K H ds vs:=let⟨a,vs,e,q,r⟩:=h.tup_invX;⟨a,vs,e,q.sqt,r⟩
theorem IsDs.nil:IsDs K H [] []:=⟨rfl,fun i d v h=>by simp at h⟩
theorem IsDs.cons(h:IsD K H d v)(r:IsDs K H ds vs):IsDs K H (d::ds) (v::vs):=⟨by simp[r.len],fun i e w h1 h2=>by
 cases i with
 |zero=>simp at h1 h2;subst h1 h2;exact h
 |succ i=>exact r.at' i e w (by simpa using h1) (by simpa using h2)⟩
theorem IsDs.get(r:IsDs K H ds vs){i:Nat}{d:D}(h:ds[i]?=some d):∃v,vs[i]?=some v∧IsD K H d v:=by
 have hi:i<ds.length:=(List.getElem?_eq_some_iff.mp h).1;rw[r.len]at hi;exact⟨vs[i],List.getElem?_eq_getElem hi,r.at' i d _ h (List.getElem?_eq_getElem hi)⟩
theorem IsDs.get'(r:IsDs K H ds vs){i:Nat}{v:V}(h:vs[i]?=some v):∃d,ds[i]?=some d∧IsD K H d v:=by
 have hi:i<vs.length:=(List.getElem?_eq_some_iff.mp h).1;rw[←r.len]at hi;exact⟨ds[i],List.getElem?_eq_getElem hi,r.at' i _ v (List.getElem?_eq_getElem hi) h⟩
theorem IsDs.inv_cons{d:D}{ds:List D}{vs:List V}(r:IsDs K H (d::ds) vs):∃v ws,vs=v::ws∧IsD K H d v∧IsDs K H ds ws:=by
 cases vs with
 |nil=>have:=r.len;simp at this
 |cons v ws=>exact⟨v,ws,rfl,r.at' 0 d v rfl rfl,⟨by have:=r.len;simpa using this,fun i e w h1 h2=>r.at' (i+1) e w (by simpa using h1) (by simpa using h2)⟩⟩
theorem IsDs.inv_nil{vs:List V}(r:IsDs K H [] vs):vs=[]:=by
 cases vs with
 |nil=>rfl
 |cons v ws=>have:=r.len;simp at this
theorem IsDs.append(r:IsDs K H ds vs)(q:IsDs K H es ws):IsDs K H (ds++es) (vs++ws):=⟨by simp[r.len,q.len],fun i d v h1 h2=>by
 by_cases hi:i<ds.length
 ·rw[List.getElem?_append_left hi]at h1;rw[List.getElem?_append_left (by rw[←r.len];exact hi)]at h2;exact r.at' i d v h1 h2
 ·rw[List.getElem?_append_right (by omega)]at h1;rw[List.getElem?_append_right (by rw[←r.len];omega),←r.len]at h2;exact q.at' _ d v h1 h2⟩
theorem IsDs.drop(r:IsDs K H ds vs)(n:Nat):IsDs K H (ds.drop n) (vs.drop n):=⟨by simp[r.len],fun i d v h1 h2=>by
 rw[List.getElem?_drop]at h1 h2;exact r.at' _ d v h1 h2⟩
theorem IsDs.take(r:IsDs K H ds vs)(n:Nat):IsDs K H (ds.take n) (vs.take n):=⟨by simp[r.len],fun i d v h1 h2=>by
 rw[List.getElem?_take]at h1 h2
 split at h1
 ·rename_i hi;rw[if_pos hi]at h2;exact r.at' _ d v h1 h2
 ·cases h1⟩
theorem IsDs.set(r:IsDs K H ds vs)(h:IsD K H d v)(n:Nat):IsDs K H (ds.set n d) (vs.set n v):=⟨by simp[r.len],fun i e w h1 h2=>by
 rw[List.getElem?_set]at h1 h2
 by_cases hi:n=i
 ·rw[if_pos hi]at h1 h2
  split at h1
  ·rename_i hl;rw[←r.len,if_pos hl]at h2;cases h1;cases h2;exact h
  ·cases h1
 ·rw[if_neg hi]at h1 h2;exact r.at' i e w h1 h2⟩
theorem IsDs.erase:∀{ds:List D}{vs:List V}(r:IsDs K H ds vs)(n:Nat),IsDs K H (ds.eraseIdx n) (vs.eraseIdx n)
 |[],vs,r,n=>by rw[r.inv_nil];simpa using IsDs.nil
 |d::ds,vs,r,n=>by
  obtain⟨v,ws,rfl,h1,h2⟩:=r.inv_cons;cases n with
  |zero=>simpa using h2
  |succ n=>simpa using IsDs.cons h1 (IsDs.erase h2 n)
theorem IsDs.rev:∀{ds:List D}{vs:List V}(r:IsDs K H ds vs),IsDs K H ds.reverse vs.reverse
 |[],vs,r=>by rw[r.inv_nil];exact IsDs.nil
 |d::ds,vs,r=>by
  obtain⟨v,ws,rfl,h1,h2⟩:=r.inv_cons;rw[List.reverse_cons,List.reverse_cons];exact(IsDs.rev h2).append (IsDs.cons h1 IsDs.nil)
theorem IsDs.ints:∀{ns:List Int}{vs:List V},IsDs K H (ns.map D.int) vs→vs=ns.map V.int
 |[],vs,r=>by rw[List.map_nil]at r;exact r.inv_nil
 |n::ns,vs,r=>by
  rw[List.map_cons]at r;obtain⟨v,ws,rfl,h1,h2⟩:=r.inv_cons;cases h1;rw[IsDs.ints h2];rfl
noncomputable def TK(K:W.Frag)(H H':Hp):Prop:=((∀a xs,SqT K H a xs→SqT K H' a xs)∧∀a xs,H a=some (.tup xs)→H' a=some (.tup xs))∧∀a o u,H a=some (.frz o u)→(∀vs,u≠.lst vs)→H' a=some (.frz o u)
theorem SqX.keep{a:Addr}{xs:List V}(h:SqX K H a xs)(k:TK K H H'):SqX K H' a xs:=h.elim (fun h=>.inl (k.1.2 _ _ h)) fun h=>.inr ⟨h.1,k.1.1 _ _ h.2⟩
theorem TK.refl:TK K H H:=⟨⟨fun _ _ h=>h,fun _ _ h=>h⟩,fun _ _ _ h _=>h⟩
theorem TK.trans(a:TK K H H')(b:TK K H' H2):TK K H H2:=⟨⟨fun c xs h=>b.1.1 c xs (a.1.1 c xs h),fun c xs h=>b.1.2 c xs (a.1.2 c xs h)⟩,fun c o u h n=>b.2 c o u (a.2 c o u h n) n⟩
theorem TK.upd'{p:Addr}{o:HO}(h:∀xs,H p≠some (.tup xs))(h2:∀o u,H p≠some (.frz o u)):TK K H (upd H p o):=⟨⟨fun a xs q=>by
 rcases q with(q|⟨o',q⟩)|q
 ·exact .inl (.inl (by have ne:a≠p:=(fun z=>h xs (by rw[←z];exact q));rw[e8 ne];exact q))
 ·exact .inl (.inr ⟨o',by have ne:a≠p:=(fun z=>h2 _ _ (by rw[←z];exact q));rw[e8 ne];exact q⟩)
 ·exact .inr q,fun a xs q=>by have ne:a≠p:=(fun z=>h xs (by rw[←z];exact q));rw[e8 ne];exact q⟩,fun a o' u q n=>by have ne:a≠p:=(fun z=>h2 _ _ (by rw[←z];exact q));rw[e8 ne];exact q⟩
theorem TK.new{p:Addr}{o:HO}(h:H p=none):TK K H (upd H p o):=TK.upd' (by rw[h];exact fun _=>nofun) (by rw[h];exact fun _ _=>nofun)
theorem TK.putD{p:Addr}{o:HO}{xs:List (Key×V)}(h:H p=some (.dK xs)):TK K H (upd H p o):=TK.upd' (by rw[h];exact fun _ z=>by cases z) (by rw[h];exact fun _ _ z=>by cases z)
theorem TK.put{p:Addr}{o:HO}{xs:List V}(h:H p=some (.lst xs)):TK K H (upd H p o):=TK.upd' (by rw[h];exact fun _ z=>by cases z) (by rw[h];exact fun _ _ z=>by cases z)
theorem C5.mono{cv:Value}(h:C5 H cv)(k:TK K H H'):C5 H' cv:=let⟨c,o,u,vs,q,t,e1,e2,e3,e4⟩:=h;⟨c,o,u,vs,q,t,e1,k.2 _ _ _ e2 e3,e3,e4⟩
theorem CloR.mono{f:Addr}{fd:FuncData}{np:Nat}{N:List Str}{us:List V}(h:CloR H f fd np N us)(k:TK K H H'):CloR H' f fd np N us:=by
 obtain⟨⟨o,u,e1,e2,e3⟩,e5,e6,e7⟩:=h;refine⟨⟨o,u,k.2 _ _ _ e1 e2,e2,e3⟩,e5.mono k,fun x c hx=>?_,fun i v hv=>?_⟩
 ·obtain⟨o',u',w,a,b,c⟩:=e6 x c hx;exact⟨o',u',w,k.2 _ _ _ a b,b,c⟩
 ·obtain⟨x,c,o',u',w,a1,a2,a3,a4,a5⟩:=e7 i v hv;exact⟨x,c,o',u',w,a1,a2,k.2 _ _ _ a3 a4,a4,a5⟩
theorem N0.mono{f:Addr}{np:Nat}{N:List Str}{b:Ss}{us:List V}(h:N0 H f np N b us)(k:TK K H H'):N0 H' f np N b us:=let⟨fd,ps,a,b⟩:=h;⟨fd,ps,a,b.mono k⟩
theorem IsD.mono(h:IsD K H d v)(k:TK K H H'):IsD K H' d v:=by
 induction h with
 |non=>exact .non
 |bl b=>exact .bl b
 |int i=>exact .int i
 |str x=>exact .str x
 |ref a=>exact .ref a
 |fn h=>exact .fn h
 |clo a b _ ih=>exact .clo (a.mono k) b ih
 |tup a b _ ih=>exact .tup (a.keep k) b ih
theorem IsDs.mono(h:IsDs K H ds vs)(k:TK K H H'):IsDs K H' ds vs:=⟨h.len,fun i d v a b=>(h.at' i d v a b).mono k⟩
structure RelE(K:W.Frag)(H:Hp)(env:d8)(σ:L2.St):Prop where
 len:env.length=σ.length
 at':∀(i:Nat)d,env[i]?=some (some d)→∃v,σ[i]?=some (some v)∧IsD K H d v
variable {env:d8} {σ:L2.St} {st st':Sto}
theorem RelE.mono(r:RelE K H env σ)(k:TK K H H'):RelE K H' env σ:=⟨r.len,fun i d h=>let⟨v,a,b⟩:=r.at' i d h;⟨v,a,b.mono k⟩⟩
theorem RelE.set(r:RelE K H env σ)(h:IsD K H d v)(i:Nat):RelE K H (env.set i (some d)) (σ.set i (some v)):=⟨by simp[r.len],fun j e q=>by
 rw[List.getElem?_set]at q ⊢
 by_cases hi:i=j
 ·rw[if_pos hi]at q ⊢
  split at q
  ·rename_i hl;rw[←r.len,if_pos hl];cases q;exact⟨v,rfl,h⟩
  ·cases q
 ·rw[if_neg hi]at q ⊢;exact r.at' j e q⟩
structure IsKs(K:W.Frag)(H:Hp)(kvs:List (Key×D))(vs:List (Key×V)):Prop where
 ks:kvs.map (·.1)=vs.map (·.1)
 ds:IsDs K H (kvs.map (·.2)) (vs.map (·.2))
theorem IsKs.mono{kvs:List (Key×D)}{vs:List (Key×V)}(h:IsKs K H kvs vs)(k:TK K H H'):IsKs K H' kvs vs:=⟨h.ks,h.ds.mono k⟩
theorem IsKs.inv_cons{e:Key×D}{kvs:List (Key×D)}{vs:List (Key×V)}(h:IsKs K H (e::kvs) vs):∃v ws,vs=(e.1,v)::ws∧IsD K H e.2 v∧IsKs K H kvs ws:=by
 cases vs with
 |nil=>have:=h.ks;simp at this
 |cons f ws=>
  obtain⟨k,v⟩:=f;have e1:=h.ks;simp only[List.map_cons,List.cons.injEq]at e1;have e2:=h.ds;simp only[List.map_cons]at e2;obtain⟨v',ws',e3,i1,i2⟩:=e2.inv_cons;simp only[List.cons.injEq]at e3;obtain⟨rfl,rfl⟩:=e3;exact⟨v,ws,by rw[e1.1],i1,⟨e1.2,i2⟩⟩
theorem IsKs.look:∀{kvs:List (Key×D)}{vs:List (Key×V)}(h:IsKs K H kvs vs)(k:Key),(u2 kvs k=none∧j7 vs k=none)∨∃d v,u2 kvs k=some d∧j7 vs k=some v∧IsD K H d v
 |[],vs,h,k=>by
  have:vs=[]:=by have:=h.ks;simpa using this.symm
  subst this;exact .inl ⟨rfl,rfl⟩
 |e::kvs,vs,h,k=>by
  obtain⟨v,ws,rfl,i1,i2⟩:=h.inv_cons;unfold u2 j7;rw[List.find?_cons,List.find?_cons]
  by_cases hk:e.1=k
  ·simp only[hk,decide_true];exact .inr ⟨e.2,v,rfl,rfl,i1⟩
  ·simp only[hk,decide_false];exact IsKs.look i2 k
structure IsPs(K:W.Frag)(H:Hp)(kvs:List (PyData×D))(vs:List (PyData×V)):Prop where
 ks:kvs.map (·.1)=vs.map (·.1)
 ds:IsDs K H (kvs.map (·.2)) (vs.map (·.2))
theorem IsPs.mono{kvs:List (PyData×D)}{vs:List (PyData×V)}(h:IsPs K H kvs vs)(k:TK K H H'):IsPs K H' kvs vs:=⟨h.ks,h.ds.mono k⟩
structure IsFs(K:W.Frag)(H:Hp)(fs:List (Str×D))(vs:List (Str×V)):Prop where
 ks:fs.map (·.1)=vs.map (·.1)
 ds:IsDs K H (fs.map (·.2)) (vs.map (·.2))
theorem IsFs.mono{fs:List (Str×D)}{vs:List (Str×V)}(h:IsFs K H fs vs)(k:TK K H H'):IsFs K H' fs vs:=⟨h.ks,h.ds.mono k⟩
noncomputable def ObR(K:W.Frag)(H:Hp)(a:Addr):Ob→Prop
 |.lst ds=>∃vs,H a=some (.lst vs)∧IsDs K H ds vs
 |.fro ds=>∃vs,Rd H a (.lst vs)∧IsDs K H ds vs
 |.dct kvs=>∃vs,H a=some (.dK vs)∧IsKs K H kvs vs
 |.dtt kvs=>∃vs,H a=some (.dT vs)∧IsPs K H kvs vs∧Tbs.kt=false
 |.ins c fs=>∃C dx vs,H a=some (.ins C dx vs)∧W.nsIn K mainGlobals c=some (some (.ref C))∧IsFs K H fs vs
structure TabOk(H:Hp)(ps:Array Value):Prop where
 tr:TriplesOk ps.toList
 co:∀pos cv,codeAmong pos ps.toList=some cv→C5 H cv
noncomputable def U9(H:Hp):Prop:=∀P∈Tbs.ps,∃ps,H P=some (.tbl ps)∧TabOk H ps
theorem U9.stay(h:U9 H)(k:TK K H H')(t:∀a ps,H a=some (.tbl ps)→H' a=some (.tbl ps)):U9 H':=fun P hP=>by
 obtain⟨ps,e,o⟩:=h P hP;exact⟨ps,t P ps e,o.tr,fun pos cv hc=>(o.co pos cv hc).mono k⟩
structure RelS(K:W.Frag)(st:Sto)(H:Hp):Prop where
 ob:∀a o,st a=some o→ObR K H a o
 tb:U9 H
theorem RelS.free(r:RelS K st H){p:Addr}(h:H p=none):st p=none:=by
 cases q:st p with
 |none=>rfl
 |some o=>
  have z:=r.ob p o q;cases o with
  |lst ds=>obtain⟨vs,a,_⟩:=z;rw[h]at a;cases a
  |fro ds=>
   obtain⟨vs,a|⟨o',a⟩,_⟩:=z
   ·rw[h]at a;cases a
   ·rw[h]at a;cases a
  |dct kvs=>obtain⟨vs,a,_⟩:=z;rw[h]at a;cases a
  |dtt kvs=>obtain⟨vs,a,_⟩:=z;rw[h]at a;cases a
  |ins c fs=>obtain⟨C,dx,vs,a,_⟩:=z;rw[h]at a;cases a
theorem RelS.sub(r:RelS K st' H)(s:Sub st st'):RelS K st H:=⟨fun a o h=>r.ob a o (s a o h),r.tb⟩
theorem RelS.stay(r:RelS K st H)(k:TK K H H')(ho:∀a o,st a=some o→H' a=H a)(t:∀a ps,H a=some (.tbl ps)→H' a=some (.tbl ps)):RelS K st H':=⟨fun a o h=>by
 have z:=r.ob a o h;have e:=ho a o h;cases o with
 |lst ds=>obtain⟨vs,q,w⟩:=z;exact⟨vs,by rw[e];exact q,w.mono k⟩
 |fro ds=>
  obtain⟨vs,q|⟨o',q⟩,w⟩:=z
  ·exact⟨vs,.inl (by rw[e];exact q),w.mono k⟩
  ·exact⟨vs,.inr ⟨o',by rw[e];exact q⟩,w.mono k⟩
 |dct kvs=>obtain⟨vs,q,w⟩:=z;exact⟨vs,by rw[e];exact q,w.mono k⟩
 |dtt kvs=>obtain⟨vs,q,w,t⟩:=z;exact⟨vs,by rw[e];exact q,w.mono k,t⟩
 |ins c fs=>obtain⟨C,dx,vs,q,n,w⟩:=z;exact⟨C,dx,vs,by rw[e];exact q,n,w.mono k⟩,r.tb.stay k t⟩
theorem S8{p:Addr}{o:HO}(h:∀ps,H p≠some (.tbl ps)):∀a ps,H a=some (.tbl ps)→(upd H p o) a=some (.tbl ps):=fun a ps e=>by
 have ne:a≠p:=fun z=>h ps (by rw[←z];exact e);rw[e8 ne];exact e
theorem bh3{p:Addr}{o:HO}(h:H p=none):∀a ps,H a=some (.tbl ps)→(upd H p o) a=some (.tbl ps):=S8 (by rw[h];exact fun _=>nofun)
theorem RelS.new(r:RelS K st H){p:Addr}{o:HO}(h:H p=none):RelS K st (upd H p o):=r.stay (TK.new h) (fun a u e=>e8 fun z=>by
 rw[z,r.free h]at e;cases e) (bh3 h)
theorem RelS.putAny(r:RelS K st H){p:Addr}{ob:Ob}{o':HO}(tk:TK K H (upd H p o'))(w:ObR K (upd H p o') p ob)(t:∀ps,H p≠some (.tbl ps)):RelS K (d3 st p ob) (upd H p o'):=by
 have r':RelS K (fun b=>if b=p then none else st b) H:=⟨fun b u q=>by
  split at q
  ·cases q
  ·exact r.ob b u q,r.tb⟩
 have r2:=r'.stay tk (fun b u q=>e8 fun z=>by
  have q':(if b=p then none else st b)=some u:=q;rw[if_pos z]at q';cases q') (S8 t)
 refine⟨fun a o e=>?_,r2.tb⟩
 by_cases ha:a=p
 ·subst ha;rw[g8]at e;cases e;exact w
 ·rw[y3 ha]at e;exact r2.ob a o (by show(if a=p then none else st a)=some o;rw[if_neg ha];exact e)
theorem RelS.putNew(r:RelS K st H){p:Addr}(h:H p=none)(w:IsDs K H ds vs):RelS K (d3 st p (.lst ds)) (upd H p (.lst vs)):=
 r.putAny (TK.new h) ⟨vs,o4,w.mono (TK.new h)⟩ (by rw[h];exact fun _=>nofun)
theorem RelS.putNewD(r:RelS K st H){p:Addr}{kvs:List (Key×D)}{ks:List (Key×V)}(h:H p=none)(w:IsKs K H kvs ks):RelS K (d3 st p (.dct kvs)) (upd H p (.dK ks)):=
 r.putAny (TK.new h) ⟨ks,o4,w.mono (TK.new h)⟩ (by rw[h];exact fun _=>nofun)
theorem RelS.putOld(r:RelS K st H){p:Addr}{xs:List V}(h:H p=some (.lst xs))(w:IsDs K H ds vs):RelS K (d3 st p (.lst ds)) (upd H p (.lst vs)):=
 r.putAny (TK.put h) ⟨vs,o4,w.mono (TK.put h)⟩ (by rw[h];exact fun _ z=>by cases z)
theorem RelS.lst(r:RelS K st H){a:Addr}{ds:List D}(h:st a=some (.lst ds)):∃vs,H a=some (.lst vs)∧IsDs K H ds vs:=r.ob a _ h
theorem RelS.dct(r:RelS K st H){a:Addr}{kvs:List (Key×D)}(h:st a=some (.dct kvs)):∃vs,H a=some (.dK vs)∧IsKs K H kvs vs:=r.ob a _ h
theorem RelS.rd(r:RelS K st H){a:Addr}{ds:List D}(h:rdS st a ds):∃vs,SqL K H a vs∧IsDs K H ds vs:=by
 rcases h with h|h
 ·obtain⟨vs,a,b⟩:=r.ob a _ h;exact⟨vs,.inl (.inl a),b⟩
 ·obtain⟨vs,a,b⟩:=r.ob a _ h;exact⟨vs,.inl a,b⟩
end
noncomputable def TbE(o o':HO):Prop:=o'=o∨∃p p',o=.tbl p∧o'=.tbl p'
theorem TbE.trans{a b c:HO}(x:TbE a b)(y:TbE b c):TbE a c:=by
 rcases x with rfl|⟨p,p',rfl,rfl⟩
 ·exact y
 ·rcases y with rfl|⟨q,q',_,rfl⟩
  ·exact .inr ⟨p,p',rfl,rfl⟩
  ·exact .inr ⟨p,q',rfl,rfl⟩
noncomputable def Ev(st:Sto)(H:Hp)(st':Sto)(H':Hp):Prop:=∀a o,H a=some o→st a=none→(∃o',H' a=some o'∧TbE o o')∧st' a=none
section
variable {K:W.Frag} {st st1 st2:Sto} {H H1 H2:Hp}
theorem Ev.get(e:Ev st H st1 H1){a:Addr}{o:HO}(h:H a=some o)(k:st a=none)(n:∀p,o≠.tbl p):H1 a=some o∧st1 a=none:=by
 obtain⟨⟨o',h',t⟩,k'⟩:=e a o h k
 rcases t with rfl|⟨p,_,rfl,_⟩
 ·exact⟨h',k'⟩
 ·exact absurd rfl (n p)
theorem Ev.refl:Ev st H st H:=fun _ o h k=>⟨⟨o,h,.inl rfl⟩,k⟩
theorem Ev.trans(a:Ev st H st1 H1)(b:Ev st1 H1 st2 H2):Ev st H st2 H2:=fun c o h k=>by
 obtain⟨⟨o',h',t⟩,y⟩:=a c o h k;obtain⟨⟨o2,h2,t2⟩,z⟩:=b c o' h' y;exact⟨⟨o2,h2,t.trans t2⟩,z⟩
theorem RelS.no(r:RelS K st H){a:Addr}{o:HO}(h:H a=some o)(n1:∀vs,o≠.lst vs)(n2:∀u vs,o≠.frz u (.lst vs))(n3:∀vs,o≠.dK vs)(n4:∀C dx vs,o≠.ins C dx vs)(n5:∀vs,o≠.dT vs):st a=none:=by
 cases z:st a with
 |none=>rfl
 |some ob=>
  have w:=r.ob a ob z;cases ob with
  |lst ds=>obtain⟨vs,w1,_⟩:=w;rw[h]at w1;cases w1;exact absurd rfl (n1 vs)
  |fro ds=>
   obtain⟨vs,w1|⟨u,w1⟩,_⟩:=w
   ·rw[h]at w1;cases w1;exact absurd rfl (n1 vs)
   ·rw[h]at w1;cases w1;exact absurd rfl (n2 u vs)
  |dct kvs=>obtain⟨vs,w1,_⟩:=w;rw[h]at w1;cases w1;exact absurd rfl (n3 vs)
  |dtt kvs=>obtain⟨vs,w1,_⟩:=w;rw[h]at w1;cases w1;exact absurd rfl (n5 vs)
  |ins c fs=>obtain⟨C,dx,vs,w1,_⟩:=w;rw[h]at w1;cases w1;exact absurd rfl (n4 C dx vs)
theorem Ev.tk(e:Ev st H st1 H1)(r:RelS K st H):TK K H H1:=⟨⟨fun a xs q=>by
 rcases q with(q|⟨o',q⟩)|q
 ·exact .inl (.inl (e.get q (r.no q (fun _ z=>by cases z) (fun _ _ z=>by cases z) (fun _ z=>by cases z) (fun _ _ _ z=>by cases z) (fun _ z=>by cases z)) (fun _ z=>by cases z)).1)
 ·exact .inl (.inr ⟨o',(e.get q (r.no q (fun _ z=>by cases z) (fun _ _ z=>by cases z) (fun _ z=>by cases z) (fun _ _ _ z=>by cases z) (fun _ z=>by cases z)) (fun _ z=>by cases z)).1⟩)
 ·exact .inr q,fun a xs q=>(e.get q (r.no q (fun _ z=>by cases z) (fun _ _ z=>by cases z) (fun _ z=>by cases z) (fun _ _ _ z=>by cases z) (fun _ z=>by cases z)) (fun _ z=>by cases z)).1⟩,fun a o u q n=>(e.get q (r.no q (fun _ z=>by cases z) (fun _ vs z=>by cases z;exact n vs rfl) (fun _ z=>by cases z) (fun _ _ _ z=>by cases z) (fun _ z=>by cases z)) (fun _ z=>by cases z)).1⟩
theorem Ev.new{p:Addr}{o:HO}(h:H p=none):Ev st H st (upd H p o):=fun a u e k=>⟨⟨u,by rw[e8 (p0 e h)];exact e,.inl rfl⟩,k⟩
theorem Ev.newS{p:Addr}{o:HO}{ob:Ob}(h:H p=none):Ev st H (d3 st p ob) (upd H p o):=fun a u e k=>⟨⟨u,by rw[e8 (p0 e h)];exact e,.inl rfl⟩,by rw[y3 (p0 e h)];exact k⟩
theorem Ev.put{p:Addr}{o:HO}{ob ob':Ob}(h:st p=some ob'):Ev st H (d3 st p ob) (upd H p o):=fun a u e k=>by
 have ne:a≠p:=fun z=>by rw[z,h]at k;cases k
 exact⟨⟨u,by rw[e8 ne];exact e,.inl rfl⟩,by rw[y3 ne];exact k⟩
theorem Ev.drop(s:Sub st2 st1)(e:Ev st H st1 H1):Ev st H st2 H1:=fun a o h k=>by
 obtain⟨x,y⟩:=e a o h k;refine⟨x,?_⟩;cases z:st2 a with
 |none=>rfl
 |some u=>rw[s a u z]at y;cases y
end
noncomputable def o7(K:W.Frag)(st:Sto)(H:Hp)(Qd:DK)(Q:VK):Prop:=∀v d H' st',Ev st H st' H'→IsD K H' d v→RelS K st' H'→Qd d st'→Q v H'
noncomputable def up(K:W.Frag)(t:DT):TE:=fun σ H Q=>∃env st Qd,RelE K H env σ∧RelS K st H∧t env st Qd∧o7 K st H Qd Q
noncomputable def upB(K:W.Frag)(t:DB):TT:=fun σ H Q=>∃env st Qd,RelE K H env σ∧RelS K st H∧t env st Qd∧∀b H' st',Ev st H st' H'→RelS K st' H'→Qd b st'→Q b H'
noncomputable def upA(K:W.Frag)(n:Nat)(t:DA):TA:=fun σ H Q=>∃env st Qd,RelE K H env σ∧RelS K st H∧t env st Qd∧∀vs ds H' st',Ev st H st' H'→IsDs K H' ds vs→ds.length=n→RelS K st' H'→Qd ds st'→Q vs H'
theorem _root_.L2.PE.imp{X:Cx}{x:Expr}{t t':TE}(h:PE X x t)(i:∀σ H Q,t' σ H Q→t σ H Q):PE X x t':=fun pins s σ H Q I q=>h pins s σ H Q I (i σ H Q q)
theorem _root_.L2.PT.imp{X:Cx}{x:Expr}{t t':TT}(h:PT X x t)(i:∀σ H Q,t' σ H Q→t σ H Q):PT X x t':=fun pins s σ H Q I q=>h pins s σ H Q I (i σ H Q q)
theorem _root_.L2.PW.imp{X:Cx}{x:Expr}{t t':TT}(h:PW X x t)(i:∀σ H Q,t' σ H Q→t σ H Q):PW X x t':=fun w pins s σ H Q I q=>h w pins s σ H Q I (i σ H Q q)
theorem _root_.L2.PA.imp{X:Cx}{x:List Expr}{t t':TA}(h:PA X x t)(i:∀σ H Q,t' σ H Q→t σ H Q):PA X x t':=fun pos pins s σ H Q I q=>h pos pins s σ H Q I (i σ H Q q)
theorem _root_.L2.PSs.imp{X:Cx}{x:List Stmt}{t t':TS}(h:PSs X x t)(i:∀D σ H,t' D σ H→t D σ H):PSs X x t':=fun pins s σ H D I q=>h pins s σ H D I (i D σ H q)
theorem _root_.L2.PS.imp{X:Cx}{x:Stmt}{t t':TS}(h:PS X x t)(i:∀D σ H,t' D σ H→t D σ H):PS X x t':=fun pins s σ H D I q=>h pins s σ H D I (i D σ H q)
theorem o7.after{K:W.Frag}{st st1:Sto}{H H1:Hp}{Qd:DK}{Q:VK}(p:o7 K st H Qd Q)(e:Ev st H st1 H1):o7 K st1 H1 Qd Q:=fun v d H2 st2 e2 is rs q=>p v d H2 st2 (e.trans e2) is rs q
theorem o7.here{K:W.Frag}{H:Hp}{Qd:DK}{Q:VK}{v:V}{d:D}{st:Sto}(p:o7 K st H Qd Q)(i:IsD K H d v)(r:RelS K st H)(q:Qd d st):Q v H:=p v d H st Ev.refl i r q
theorem o7.newL{K:W.Frag}{H:Hp}{Qd:DK}{Q:VK}{ds:List D}{vs:List V}{st:Sto}(p:o7 K st H Qd Q)(r:RelS K st H)(w:IsDs K H ds vs)(q:∀p,st p=none→Qd (.ref p) (d3 st p (.lst ds))):∀l,H l=none→Q (.ref l) (upd H l (.lst vs)):=fun l hl=>
 p _ (.ref l) _ (d3 st l (.lst ds)) (Ev.newS hl) (.ref l) (r.putNew hl w) (q l (r.free hl))
theorem o7.newT{K:W.Frag}{H:Hp}{Qd:DK}{Q:VK}{ds:List D}{vs:List V}{st:Sto}(p:o7 K st H Qd Q)(r:RelS K st H)(w:IsDs K H ds vs)(q:Qd (.tup ds) st):∀l,H l=none→Q (.ref l) (upd H l (.tup vs)):=fun l hl=>
 p _ (.tup ds) _ st (Ev.new hl) (IsD.mk (SqX.of o4) (w.mono (TK.new hl))) (r.new hl) q
theorem up1{K:W.Frag}{t:DT}{f:D→Sto→DK→Prop}{σ:L2.St}{H:Hp}{Q:VK}{R:V→Hp→Prop}(h:up K (fun env st Q=>t env st fun d st1=>f d st1 Q) σ H Q)
  (k:∀v d H' st' Qd,IsD K H' d v→RelS K st' H'→f d st' Qd→o7 K st' H' Qd Q→R v H'):up K t σ H R:=by
 obtain⟨env,st,Qd,hE,hS,ht,hq⟩:=h;exact⟨env,st,_,hE,hS,ht,fun v d H' st' ev is rs q=>k v d H' st' Qd is rs q (hq.after ev)⟩
theorem up2{K:W.Frag}{t u:DT}{f:D→D→Sto→DK→Prop}{σ:L2.St}{H:Hp}{Q:VK}{R:V→V→Hp→Prop}(h:up K (fun env st Q=>t env st fun d st1=>u env st1 fun e st2=>f d e st2 Q) σ H Q)
  (k:∀v w d e H' st' Qd,IsD K H' d v→IsD K H' e w→RelS K st' H'→f d e st' Qd→o7 K st' H' Qd Q→R v w H'):up K t σ H fun v H1=>up K u σ H1 fun w H2=>R v w H2:=by
 obtain⟨env,st,Qd,hE,hS,ht,hq⟩:=h;exact⟨env,st,_,hE,hS,ht,fun v d H' st' ev is rs q=>⟨env,st',_,hE.mono (ev.tk hS),rs,q,fun w e H2 st2 ev2 is2 rs2 q2=>
  k v w d e H2 st2 Qd (is.mono (ev2.tk rs)) is2 rs2 q2 ((hq.after ev).after ev2)⟩⟩
theorem ao0{K:W.Frag}{n:Nat}{t:DA}{f:List D→Sto→DK→Prop}{σ:L2.St}{H:Hp}{Q:VK}{R:List V→Hp→Prop}(h:up K (fun env st Q=>t env st fun ds st1=>f ds st1 Q) σ H Q)
  (k:∀vs ds H' st' Qd,IsDs K H' ds vs→ds.length=n→RelS K st' H'→f ds st' Qd→o7 K st' H' Qd Q→R vs H'):upA K n t σ H R:=by
 obtain⟨env,st,Qd,hE,hS,ht,hq⟩:=h;exact⟨env,st,_,hE,hS,ht,fun vs ds H' st' ev is hl rs q=>k vs ds H' st' Qd is hl rs q (hq.after ev)⟩
theorem b09{X:Cx}{x:Expr}{t:DT}(h:PE X x (up X.K t))(he:∀whole,isTrue x X.env whole=(do let v ←whole;standAt x.pos;holding [v] (truthy v))):
  PT X x (upB X.K fun env st Q=>t env st fun d st'=>∃b,d=.bl b∧Q b st'):=PT.imp (bw9 h he) fun σ H Q q=>by
 obtain⟨env,st,Qd,hE,hS,ht,hq⟩:=q;refine⟨env,st,_,hE,hS,ht,fun v d H' st' ev is rs q=>?_⟩;obtain⟨b,rfl,q⟩:=q;cases is;exact⟨b,rfl,hq b H' st' ev rs q⟩
end Ek
namespace Ek
open PySem PySem.Spec PyProof.Rows L2
variable [Tbs]
mutual
theorem w8:∀d:D,d.pure=true→d.py.canLay0=true
 |.non,_=>rfl
 |.bl _,_=>rfl
 |.int _,_=>rfl
 |.str _,h=>h
 |.tup ds,h=>by show PyData.canLayAll0 (D.pys ds)=true;exact T7 ds h
 |.ref _,h=>nomatch h
 |.fn _,h=>nomatch h
 |.clo _ _ _ _,h=>nomatch h
theorem T7:∀ds:List D,D.pures ds=true→PyData.canLayAll0 (D.pys ds)=true
 |[],_=>rfl
 |d::r,h=>by
  have h':d.pure=true∧D.pures r=true:=by simpa[D.pures]using h
  show(d.py.canLay0&&PyData.canLayAll0 (D.pys r))=true;rw[w8 d h'.1,T7 r h'.2];rfl
end
theorem ah9:∀{ds:List D},D.pures ds=true→∀d∈ds,d.pure=true
 |[],_,d,h=>by cases h
 |e::r,h,d,hd=>by
  have h':e.pure=true∧D.pures r=true:=by simpa[D.pures]using h
  rcases List.mem_cons.mp hd with z|z
  ·rw[z];exact h'.1
  ·exact ah9 h'.2 d z
section
variable {X:Cx} {pins:List (Addr×Obj)} {σ:L2.St} {H:Hp} {s:Shared}
theorem u9(I:L2.Inv X pins σ H s){d:D}{v:V}(h:IsD X.K H d v):∀{u:Value},d.pure=true→d7 v u→∃as,Reads s.heap u d.py as:=by
 induction h with
 |non=>intro u _ r;cases r;exact⟨_,.none⟩
 |bl b=>intro u _ r;cases r;exact⟨_,.bool b⟩
 |int i=>intro u _ r;obtain⟨t,rfl⟩:=r;exact⟨_,.int i t⟩
 |str x=>intro u _ r;obtain⟨t,rfl⟩:=r;exact⟨_,.str x t⟩
 |ref a=>intro u h;cases h
 |fn _=>intro u h;cases h
 |clo _ _ _ _=>intro u h;cases h
 |@tup a ds vs hq hl hat ih=>
  intro u hp r;cases r;obtain⟨its,rv,⟨o,ho,hc,n,hd⟩,hz⟩:=I.tuple hq.sqt;have all:∀(ds':List D)(vs':List V)(us':List Value),(∀(i:Nat)d v,ds'[i]?=some d→vs'[i]?=some v→∀{u:Value},d.pure=true→d7 v u→∃as,Reads s.heap u d.py as)→ds'.length=vs'.length→D.pures ds'=true→d4 vs' us'→∃as,ReadsAll s.heap us' (D.pys ds') as:=by
   intro ds'
   induction ds' with
   |nil=>intro vs' us' _ hl' _ q;cases vs' with
    |nil=>cases q;exact⟨[],.nil⟩
    |cons a b=>simp at hl'
   |cons e es ihe=>
    intro vs' us' hat' hl' hp' q;cases vs' with
    |nil=>simp at hl'
    |cons w ws=>
     have hp2:e.pure=true∧D.pures es=true:=by simpa[D.pures]using hp'
     cases q with
     |cons q1 q2=>
      obtain⟨as,ra⟩:=hat' 0 e w rfl rfl hp2.1 q1;obtain⟨bs,rb⟩:=ihe ws _ (fun i d v a b=>hat' (i+1) d v (by simpa using a) (by simpa using b)) (by simpa using hl') hp2.2 q2;exact⟨as++bs,.cons ra rb⟩
  obtain⟨as,ra⟩:=all ds vs its ih hl hp rv;exact⟨as,.tuple ho hc hd (by simpa using ra)⟩
theorem aw1{A:Around}{a b:Nat}(hu:A.units+200<cLine)(h:Nat.min a b≤150):A.units+min a b<cLine:=by
 have:min a b≤150:=h;omega
theorem bu9(hu:X.A.units+200<cLine):OpR X (compareOp .Eq) (fun x y H Q=>∃d e,IsD X.K H d x∧IsD X.K H e y∧d.pure=true∧e.pure=true∧Nat.min (i7 d) (i7 e)≤150∧Q (.bl (deq d e)) H):=by
 intro pins s σ H x y v u Q I rx ry h;obtain⟨d,e,h1,h2,p1,p2,hd,q⟩:=h;obtain⟨as,ra⟩:=u9 I h1 p1 rx;obtain⟨bs,rb⟩:=u9 I h2 p2 ry;exact SeqAt.rcAt_reads ra rb (w8 d p1) (w8 e p2) (aw1 hu hd) X.prog X.w _ _ ⟨.bl (deq d e),H,I,rfl,q⟩
theorem br9(hu:X.A.units+200<cLine):OpR X (compareOp .NotEq) (fun x y H Q=>∃d e,IsD X.K H d x∧IsD X.K H e y∧d.pure=true∧e.pure=true∧Nat.min (i7 d) (i7 e)≤150∧Q (.bl (!deq d e)) H):=by
 intro pins s σ H x y v u Q I rx ry h;obtain⟨d,e,h1,h2,p1,p2,hd,q⟩:=h;obtain⟨as,ra⟩:=u9 I h1 p1 rx;obtain⟨bs,rb⟩:=u9 I h2 p2 ry;exact SeqAt.rcNeAt_reads ra rb (w8 d p1) (w8 e p2) (aw1 hu hd) X.prog X.w _ _ ⟨.bl (!deq d e),H,I,rfl,q⟩
theorem aj7:∀(ds:List D)(x:D),((D.pys ds).any fun y=>PyData.eqv y x.py)=ds.any fun y=>deq y x
 |[],_=>rfl
 |d::r,x=>by
  show(PyData.eqv d.py x.py||(D.pys r).any _)=(deq d x||r.any _);rw[aj7 r x];rfl
theorem Q9{A:Around}{a b:Nat}(hu:A.units+200<cLine)(h:b≤150):A.units+1+min a b<cLine:=by
 have:min a b≤b:=Nat.min_le_right _ _;omega
theorem bu0(hu:X.A.units+200<cLine):OpR X (compareOp .In) (fun x y H Q=>∃d es,IsD X.K H d x∧IsD X.K H (.tup es) y∧d.pure=true∧D.pures es=true∧i7 d≤150∧Q (.bl (es.any fun e=>deq e d)) H):=by
 intro pins s σ H x y v u Q I rx ry h;obtain⟨d,es,h1,h2,p1,p2,hd,q⟩:=h;obtain⟨as,ra⟩:=u9 I h1 p1 rx;obtain⟨bs,rb⟩:=u9 I h2 p2 ry;have rb':Reads s.heap u (.tuple (D.pys es)) bs:=rb;exact SeqAt.in_tuple_reads rb' ra (T7 es p2) (w8 d p1) (Q9 hu hd) (by rw[aj7];exact⟨.bl _,H,I,rfl,q⟩)
theorem bk2(hu:X.A.units+200<cLine):OpR X (compareOp .NotIn) (fun x y H Q=>∃d es,IsD X.K H d x∧IsD X.K H (.tup es) y∧d.pure=true∧D.pures es=true∧i7 d≤150∧Q (.bl (!es.any fun e=>deq e d)) H):=by
 intro pins s σ H x y v u Q I rx ry h;obtain⟨d,es,h1,h2,p1,p2,hd,q⟩:=h;obtain⟨as,ra⟩:=u9 I h1 p1 rx;obtain⟨bs,rb⟩:=u9 I h2 p2 ry;have rb':Reads s.heap u (.tuple (D.pys es)) bs:=rb;exact SeqAt.notIn_tuple_reads rb' ra (T7 es p2) (w8 d p1) (Q9 hu hd) (by rw[aj7];exact⟨.bl _,H,I,rfl,q⟩)
end
end Ek
namespace Ek
open PySem PySem.Spec PyProof.Rows L2
variable [Tbs]
section
variable {X:Cx} {a b c:Expr} {ta tb tc:DT} {pos:Pos}
theorem ae5{x:Expr}{d:D}{v:V}(h:PE X x (tC v))(i:∀H,IsD X.K H d v):PE X x (up X.K fun _ st Q=>Q d st):=PE.imp h fun σ H Q q=>by
 obtain⟨env,st,Qd,hE,hS,ht,hq⟩:=q;exact hq.here (i H) hS ht
theorem bs6{i:Nat}{x:Str}(hN:X.N[i]?=some x)(hv:Vis X.env.scope x)(hd:(x==("__debug__":Str))=false)(hcd:(x==("__classdict__":Str))=false):PE X (.Name x pos) (up X.K fun env st Q=>∃d,env[i]?=some (some d)∧Q d st):=
 PE.imp (ak8 hN hv hd hcd) fun σ H Q q=>by
  obtain⟨env,st,Qd,hE,hS,⟨d,h1,ht⟩,hq⟩:=q;obtain⟨v,h2,is⟩:=hE.at' i d h1;exact⟨v,h2,hq.here is hS ht⟩
theorem j8{x:Expr}{xs:List Expr}{env:Env}(h:∀e p,x≠.Starred e p):starEach (x::xs) env=(false,eval x env)::starEach xs env:=by
 cases x<;>first|rfl|exact absurd rfl (h _ _)
theorem ay3:PA X [] (upA X.K 0 fun _ st Q=>Q [] st):=PA.imp bx3 fun σ H Q q=>by
 obtain⟨env,st,Qd,hE,hS,ht,hq⟩:=q;exact hq [] [] H st Ev.refl .nil rfl hS ht
theorem K0{es:List Expr}{n:Nat}{t:DA}(ha:PE X a (up X.K ta))(hr:PA X es (upA X.K n t))(h:∀e p,a≠.Starred e p):PA X (a::es) (upA X.K (n+1) fun env st Q=>ta env st fun d st1=>t env st1 fun ds st2=>Q (d::ds) st2):=
 PA.imp (bn4 ha hr (j8 h)) fun σ H Q q=>by
  obtain⟨env,st,Qd,hE,hS,ht,hq⟩:=q;exact⟨env,st,_,hE,hS,ht,fun v d H1 st1 ev is rs q1=>⟨env,st1,_,hE.mono (ev.tk hS),rs,q1,fun vs ds H2 st2 ev2 is2 hl rs2 q2=>
   hq (v::vs) (d::ds) H2 st2 (ev.trans ev2) (.cons (is.mono (ev2.tk rs)) is2) (by simp[hl]) rs2 q2⟩⟩
theorem br5{es:List Expr}{n k:Nat}{t:DA}(h:PA X es (upA X.K n t))(hn:n≤1000):PE X (.Tuple es k pos) (up X.K fun env st Q=>t env st fun ds st1=>Q (.tup ds) st1):=
 PE.imp (bs2 h) fun σ H Q q=>ao0 (f:=fun ds st1 Q=>Q (.tup ds) st1) q fun vs ds H' st' Qd is hl rs ht hq=>⟨by rw[←is.len,hl];exact Nat.le_of_lt (ar1 hn),hq.newT rs is ht⟩
theorem br0{es:List Expr}{n:Nat}{t:DA}(h:PA X es (upA X.K n t))(hn:n≤1000):PE X (.List es pos) (up X.K fun env st Q=>t env st fun ds st1=>∀p,st1 p=none→Q (.ref p) (d3 st1 p (.lst ds))):=
 PE.imp (bw2 h) fun σ H Q q=>ao0 (f:=fun ds st1 Q=>∀p,st1 p=none→Q (.ref p) (d3 st1 p (.lst ds))) q fun vs ds H' st' Qd is hl rs ht hq=>⟨by rw[←is.len,hl];exact Nat.le_of_lt (ar1 hn),hq.newL rs is ht⟩
theorem IsD.int_inv{K:W.Frag}{H:Hp}{i:Int}{v:V}(h:IsD K H (.int i) v):v=.int i:=by cases h;rfl
theorem IsD.str_inv{K:W.Frag}{H:Hp}{i:Str}{v:V}(h:IsD K H (.str i) v):v=.str i:=by cases h;rfl
theorem IsD.bl_inv{K:W.Frag}{H:Hp}{i:Bool}{v:V}(h:IsD K H (.bl i) v):v=.bl i:=by cases h;rfl
theorem IsD.ref_inv{K:W.Frag}{H:Hp}{i:Addr}{v:V}(h:IsD K H (.ref i) v):v=.ref i:=by cases h;rfl
theorem bl9{n k:Nat}(h:n<2^k)(h0:n≠0):n.log2<k:=(Nat.log2_lt h0).mpr h
theorem av1{i:Int}(h:i.natAbs<2^20000):Builtin.Int.intBits i≤20000:=by
 unfold Builtin.Int.intBits
 by_cases h0:i=0
 ·subst h0;exact Nat.zero_le _
 ·rw[if_neg (by simpa using h0)];exact bl9 h (by omega)
theorem D9.ok{i j:Int}(h:D9 i j):IntMulOk i j:=by
 rcases h with h|⟨h1,h2⟩
 ·exact h.ok
 ·have b1:=av1 h1;have b2:=av1 h2;unfold IntMulOk;have:Builtin.Int.intTooBig ((Builtin.Int.intBits i:Int)+(Builtin.Int.intBits j:Int))=false:=by
   unfold Builtin.Int.intTooBig;refine decide_eq_false ?_;have:(40000:Int)≤(bitsLine:Nat):=by decide
   omega
  first
   |(rw[this];simp)
   |(intro z;simp only[Bool.and_eq_true]at z;have z3:=z.2;first|(rw[this]at z3;cases z3)|(simp[this]at z3))
theorem bl2:OpR X (binaryOp .Mult) (rI D9 fun i j=>.int (i*j)):=opI fun _ _ _ _ _ _ _ hc q=>mul_int q hc.ok
theorem bq1{o:Operator}(ha:PE X a (up X.K ta))(hb:PE X b (up X.K tb)):PE X (.BinOp a o b pos) (up X.K fun env st Q=>ta env st fun x st1=>tb env st1 fun y st2=>u0 o x y st2 Q):=by
 have bad:∀{P:Prop},False→P:=fun h=>h.elim;cases o with
 |Add=>
  refine PE.imp (D8 (bw7.or (bo4.or bw0)) ha hb) fun σ H Q q=>up2 (f:=u0 .Add) q fun v w d e H' st' Qd i1 i2 rs ht hq=>?_;cases d<;>cases e<;>first|exact False.elim ht|skip
  ·exact .inl ⟨_,_,i1.int_inv,i2.int_inv,hq.here (.int _) rs ht⟩
  ·rename_i xs ys;obtain⟨p,vs,e1,q1,r1⟩:=i1.tup_invX;obtain⟨q',ws,e2,q2,r2⟩:=i2.tup_invX;refine .inr (.inl ⟨p,q',vs,ws,e1,e2,q1.sqt,q2.sqt,by rw[←r1.len,←r2.len];exact ht.1,fun z=>?_,fun z1 z2=>?_,fun _ _=>hq.newT rs (r1.append r2) ht.2⟩)
   ·have:xs=[]:=by rw[z]at r1;have:=r1.len;exact List.eq_nil_of_length_eq_zero (by simpa using this)
    subst this;exact hq.here (IsD.mk q2 r2) rs ht.2
   ·have:ys=[]:=by rw[z2]at r2;have:=r2.len;exact List.eq_nil_of_length_eq_zero (by simpa using this)
    subst this;have h2:=ht.2;rw[List.append_nil]at h2;exact hq.here (IsD.mk q1 r1) rs h2
  ·obtain⟨xs,ys,s1,s2,hz,h2⟩:=ht;obtain⟨vs,e1,r1⟩:=rs.lst s1;obtain⟨ws,e2,r2⟩:=rs.lst s2;exact .inr (.inr ⟨_,_,vs,ws,i1.ref_inv,i2.ref_inv,e1,e2,by rw[←r1.len,←r2.len];exact hz,hq.newL rs (r1.append r2) h2⟩)
 |Sub=>
  refine PE.imp (D8 bs1 ha hb) fun σ H Q q=>up2 (f:=u0 .Sub) q fun v w d e H' st' Qd i1 i2 rs ht hq=>?_;cases d<;>cases e<;>first|exact False.elim ht|skip
  exact⟨_,_,i1.int_inv,i2.int_inv,hq.here (.int _) rs ht⟩
 |Mult=>
  refine PE.imp (D8 bl2 ha hb) fun σ H Q q=>up2 (f:=u0 .Mult) q fun v w d e H' st' Qd i1 i2 rs ht hq=>?_;cases d<;>cases e<;>first|exact False.elim ht|skip
  exact⟨_,_,i1.int_inv,i2.int_inv,ht.1,hq.here (.int _) rs ht.2⟩
 |Mod=>
  refine PE.imp (D8 by6 ha hb) fun σ H Q q=>up2 (f:=u0 .Mod) q fun v w d e H' st' Qd i1 i2 rs ht hq=>?_;cases d<;>cases e<;>first|exact False.elim ht|skip
  exact⟨_,_,i1.int_inv,i2.int_inv,ht.1,hq.here (.int _) rs ht.2⟩
 |FloorDiv=>
  refine PE.imp (D8 bg0 ha hb) fun σ H Q q=>up2 (f:=u0 .FloorDiv) q fun v w d e H' st' Qd i1 i2 rs ht hq=>?_;cases d<;>cases e<;>first|exact False.elim ht|skip
  exact⟨_,_,i1.int_inv,i2.int_inv,ht.1,hq.here (.int _) rs ht.2⟩
 |Pow=>
  refine PE.imp (D8 bv9 ha hb) fun σ H Q q=>up2 (f:=u0 .Pow) q fun v w d e H' st' Qd i1 i2 rs ht hq=>?_;cases d<;>cases e<;>first|exact False.elim ht|skip
  exact⟨_,_,i1.int_inv,i2.int_inv,ht.1,hq.here (.int _) rs ht.2⟩
 |_=>
  refine PE.imp (D8 (op:=_) (r:=fun _ _ _ _=>False) (fun _ _ _ _ _ _ _ _ _ _ _ _ h=>h.elim) ha hb) fun σ H Q q=>up2 (f:=fun _ _ _ _=>False) (by
   obtain⟨env,st,Qd,hE,hS,ht,hq⟩:=q;exact⟨env,st,Qd,hE,hS,ht,hq⟩) fun v w d e H' st' Qd i1 i2 rs ht hq=>ht
theorem bx5(ha:PE X a (up X.K ta)):PE X (.UnaryOp .USub a pos) (up X.K fun env st Q=>ta env st fun x st1=>∃i,x=.int i∧Q (.int (-i)) st1):=
 PE.imp (b35 bx2 ha) fun σ H Q q=>up1 (f:=fun x st1 Q=>∃i,x=.int i∧Q (.int (-i)) st1) q fun v d H' st' Qd is rs ht hq=>by
  obtain⟨i,rfl,ht⟩:=ht;exact⟨i,is.int_inv,hq.here (.int _) rs ht⟩
noncomputable def ag7(X:Cx):CmpOp→R2
 |.Eq=>fun x y H Q=>∃d e,IsD X.K H d x∧IsD X.K H e y∧d.pure=true∧e.pure=true∧Nat.min (i7 d) (i7 e)≤150∧Q (.bl (deq d e)) H
 |.NotEq=>fun x y H Q=>∃d e,IsD X.K H d x∧IsD X.K H e y∧d.pure=true∧e.pure=true∧Nat.min (i7 d) (i7 e)≤150∧Q (.bl (!deq d e)) H
 |.Lt=>rI0 fun i j=>.bl (decide (i<j))
 |.LtE=>rI0 fun i j=>.bl (decide (i≤j))
 |.Gt=>rI0 fun i j=>.bl (decide (j<i))
 |.GtE=>rI0 fun i j=>.bl (decide (j≤i))
 |.In=>fun x y H Q=>(∃d es,IsD X.K H d x∧IsD X.K H (.tup es) y∧d.pure=true∧D.pures es=true∧i7 d≤150∧Q (.bl (es.any fun e=>deq e d)) H)∨∃a k kvs,x=kV k∧y=.ref a∧H a=some (.dK kvs)∧Q (.bl (j7 kvs k).isSome) H
 |.NotIn=>fun x y H Q=>(∃d es,IsD X.K H d x∧IsD X.K H (.tup es) y∧d.pure=true∧D.pures es=true∧i7 d≤150∧Q (.bl (!es.any fun e=>deq e d)) H)∨∃a k kvs,x=kV k∧y=.ref a∧H a=some (.dK kvs)∧Q (.bl (!(j7 kvs k).isSome)) H
 |_=>fun _ _ _ _=>False
theorem aw4(hu:X.A.units+200<cLine):∀o:CmpOp,OpR X (compareOp o) (ag7 X o)
 |.Eq=>bu9 hu
 |.NotEq=>br9 hu
 |.Lt=>bz4
 |.LtE=>b46
 |.Gt=>b17
 |.GtE=>b22
 |.In=>fun pins s σ H x y v u Q I rx ry h=>by
  rcases h with h|⟨a,k,kvs,rfl,rfl,e,q⟩
  ·exact bu0 hu pins s σ H x y v u Q I rx ry h
  ·cases ry;exact b76 (by omega) I (v3.k e) rx fun s' I'=>⟨.bl _,H,I',rfl,q⟩
 |.NotIn=>fun pins s σ H x y v u Q I rx ry h=>by
  rcases h with h|⟨a,k,kvs,rfl,rfl,e,q⟩
  ·exact bk2 hu pins s σ H x y v u Q I rx ry h
  ·cases ry;exact bl3 (by omega) I (v3.k e) rx fun s' I'=>⟨.bl _,H,I',rfl,q⟩
 |.Is=>fun _ _ _ _ _ _ _ _ _ _ _ _ h=>h.elim
 |.IsNot=>fun _ _ _ _ _ _ _ _ _ _ _ _ h=>h.elim
theorem ax9{o:CmpOp}{v w:V}{d e:D}{H':Hp}{st':Sto}{Qd:DK}{Q:VK}(i1:IsD X.K H' d v)(i2:IsD X.K H' e w)(rs:RelS X.K st' H')(ht:o9 o d e st' Qd)(hq:o7 X.K st' H' Qd Q):ag7 X o v w H' Q:=by
 cases o with
 |Eq=>exact⟨d,e,i1,i2,ht.1,ht.2.1,ht.2.2.1,hq.here (.bl _) rs ht.2.2.2⟩
 |NotEq=>exact⟨d,e,i1,i2,ht.1,ht.2.1,ht.2.2.1,hq.here (.bl _) rs ht.2.2.2⟩
 |Lt=>cases d<;>cases e<;>first|exact False.elim ht|exact⟨_,_,i1.int_inv,i2.int_inv,hq.here (.bl _) rs ht⟩
 |LtE=>cases d<;>cases e<;>first|exact False.elim ht|exact⟨_,_,i1.int_inv,i2.int_inv,hq.here (.bl _) rs ht⟩
 |Gt=>cases d<;>cases e<;>first|exact False.elim ht|exact⟨_,_,i1.int_inv,i2.int_inv,hq.here (.bl _) rs ht⟩
 |GtE=>cases d<;>cases e<;>first|exact False.elim ht|exact⟨_,_,i1.int_inv,i2.int_inv,hq.here (.bl _) rs ht⟩
 |In=>
  have hd:∀(k:Key)(a:Addr)(kvs:List (Key×D)),v=kV k→w=.ref a→st' a=some (.dct kvs)→Qd (.bl (u2 kvs k).isSome) st'→ag7 X .In v w H' Q:=fun k a kvs e1 e2 e3 ht=>by
   obtain⟨vs,h1,h2⟩:=rs.dct e3;refine .inr ⟨a,k,vs,e1,e2,h1,?_⟩
   rcases h2.look k with⟨l1,l2⟩|⟨d,v,l1,l2,_⟩<;>(rw[l1]at ht;rw[l2];exact hq.here (.bl _) rs ht)
  cases e with
  |tup es=>exact .inl ⟨d,es,i1,i2,ht.1,ht.2.1,ht.2.2.1,hq.here (.bl _) rs ht.2.2.2⟩
  |ref a=>
   cases d<;>first|exact False.elim ht|skip
   ·obtain⟨kvs,e,ht⟩:=ht;exact hd (.inl _) a kvs i1.int_inv i2.ref_inv e ht
   ·obtain⟨kvs,e,ht⟩:=ht;exact hd (.inr _) a kvs i1.str_inv i2.ref_inv e ht
  |_=>exact False.elim (by cases d<;>exact ht)
 |NotIn=>
  have hd:∀(k:Key)(a:Addr)(kvs:List (Key×D)),v=kV k→w=.ref a→st' a=some (.dct kvs)→Qd (.bl (!(u2 kvs k).isSome)) st'→ag7 X .NotIn v w H' Q:=fun k a kvs e1 e2 e3 ht=>by
   obtain⟨vs,h1,h2⟩:=rs.dct e3;refine .inr ⟨a,k,vs,e1,e2,h1,?_⟩
   rcases h2.look k with⟨l1,l2⟩|⟨d,v,l1,l2,_⟩<;>(rw[l1]at ht;rw[l2];exact hq.here (.bl _) rs ht)
  cases e with
  |tup es=>exact .inl ⟨d,es,i1,i2,ht.1,ht.2.1,ht.2.2.1,hq.here (.bl _) rs ht.2.2.2⟩
  |ref a=>
   cases d<;>first|exact False.elim ht|skip
   ·obtain⟨kvs,e,ht⟩:=ht;exact hd (.inl _) a kvs i1.int_inv i2.ref_inv e ht
   ·obtain⟨kvs,e,ht⟩:=ht;exact hd (.inr _) a kvs i1.str_inv i2.ref_inv e ht
  |_=>exact False.elim (by cases d<;>exact ht)
 |Is=>exact False.elim ht
 |IsNot=>exact False.elim ht
theorem au6(o:CmpOp)(b:Expr)(h:∀es k p,b≠.Set es k p):behindInMarks o b=false:=by
 cases b<;>first|rfl|exact absurd rfl (h _ _ _)
theorem bw8{o:CmpOp}(hu:X.A.units+200<cLine)(ha:PE X a (up X.K ta))(hb:PE X b (up X.K tb))(hm:∀es k p,b≠.Set es k p):PE X (.Compare a [o] [b] pos) (up X.K fun env st Q=>ta env st fun x st1=>tb env st1 fun y st2=>o9 o x y st2 Q):=
 PE.imp (bo3 (aw4 hu o) ha hb (au6 o b hm)) fun σ H Q q=>up2 (f:=o9 o) q fun v w d e H' st' Qd i1 i2 rs ht hq=>ax9 i1 i2 rs ht hq
theorem bv6{o:CmpOp}(hu:X.A.units+200<cLine)(ha:PE X a (up X.K ta))(hb:PE X b (up X.K tb))(hm:∀es k p,b≠.Set es k p):
  PT X (.Compare a [o] [b] pos) (upB X.K fun env st Q=>ta env st fun x st1=>tb env st1 fun y st2=>o9 o x y st2 fun d st'=>∃k,d=.bl k∧Q k st'):=
 PT.imp (bk0 (aw4 hu o) ha hb (au6 o b hm)) fun σ H Q q=>by
  obtain⟨env,st,Qd,hE,hS,ht,hq⟩:=q;refine up2 (f:=o9 o) (Q:=fun x H'=>∃k,x=.bl k∧Q k H') ⟨env,st,_,hE,hS,ht,fun v d H' st' ev is rs q1=>?_⟩ fun v w d e H' st' Qd i1 i2 rs ht hq=>ax9 i1 i2 rs ht hq;obtain⟨k,rfl,q1⟩:=q1;exact⟨k,is.bl_inv,hq k H' st' ev rs q1⟩
theorem bv0{j pos'}(ha:PE X a (up X.K ta)):PE X (.Compare a [.Is] [.Constant .none j pos'] pos) (up X.K fun env st Q=>ta env st fun x st1=>(x=.non∧Q (.bl true) st1)∨(x≠.non∧Q (.bl false) st1)):=
 PE.imp (ax5 (az9 ha) rfl) fun σ H Q q=>up1 (f:=fun x st1 Q=>(x=.non∧Q (.bl true) st1)∨(x≠.non∧Q (.bl false) st1)) q fun v d H' st' Qd is rs ht hq=>by
  rcases ht with⟨rfl,ht⟩|⟨hn,ht⟩
  ·cases is;exact hq.here (.bl _) rs (by simpa using ht)
  ·have e:decide (v=V.non)=false:=decide_eq_false fun z=>hn (by subst z;cases is;rfl);rw[e];exact hq.here (.bl _) rs ht
theorem bn6{j pos'}(ha:PE X a (up X.K ta)):PE X (.Compare a [.IsNot] [.Constant .none j pos'] pos) (up X.K fun env st Q=>ta env st fun x st1=>(x=.non∧Q (.bl false) st1)∨(x≠.non∧Q (.bl true) st1)):=
 PE.imp (ax5 (av6 ha) rfl) fun σ H Q q=>up1 (f:=fun x st1 Q=>(x=.non∧Q (.bl false) st1)∨(x≠.non∧Q (.bl true) st1)) q fun v d H' st' Qd is rs ht hq=>by
  rcases ht with⟨rfl,ht⟩|⟨hn,ht⟩
  ·cases is;exact hq.here (.bl _) rs (by simpa using ht)
  ·have e:decide (v=V.non)=false:=decide_eq_false fun z=>hn (by subst z;cases is;rfl);rw[e];exact hq.here (.bl _) rs ht
theorem a08{x:Expr}{t:TE}{f:DT}(h:PT X x (tB t))(i:∀σ H Q,up X.K f σ H Q→t σ H Q):PT X x (upB X.K fun env st Q=>f env st fun d st'=>∃b,d=.bl b∧Q b st'):=PT.imp h fun σ H Q q=>by
 obtain⟨env,st,Qd,hE,hS,ht,hq⟩:=q;refine i σ H _ ⟨env,st,_,hE,hS,ht,fun v d H' st' ev is rs q=>?_⟩;obtain⟨b,rfl,q⟩:=q;cases is;exact⟨b,rfl,hq b H' st' ev rs q⟩
theorem bx0{j pos'}(ha:PE X a (up X.K ta)):PT X (.Compare a [.Is] [.Constant .none j pos'] pos) (upB X.K fun env st Q=>ta env st fun x st1=>(x=.non∧∃b,D.bl true=.bl b∧Q b st1)∨(x≠.non∧∃b,D.bl false=.bl b∧Q b st1)):=
 a08 (f:=fun env st Q=>ta env st fun x st1=>(x=.non∧Q (.bl true) st1)∨(x≠.non∧Q (.bl false) st1)) (az5 (az9 ha) rfl) fun σ H Q q=>up1 (f:=fun x st1 Q=>(x=.non∧Q (.bl true) st1)∨(x≠.non∧Q (.bl false) st1)) q fun v d H' st' Qd is rs ht hq=>by
  rcases ht with⟨rfl,ht⟩|⟨hn,ht⟩
  ·cases is;exact hq.here (.bl _) rs (by simpa using ht)
  ·have e:decide (v=V.non)=false:=decide_eq_false fun z=>hn (by subst z;cases is;rfl);rw[e];exact hq.here (.bl _) rs ht
theorem bn5{j pos'}(ha:PE X a (up X.K ta)):PT X (.Compare a [.IsNot] [.Constant .none j pos'] pos) (upB X.K fun env st Q=>ta env st fun x st1=>(x=.non∧∃b,D.bl false=.bl b∧Q b st1)∨(x≠.non∧∃b,D.bl true=.bl b∧Q b st1)):=
 a08 (f:=fun env st Q=>ta env st fun x st1=>(x=.non∧Q (.bl false) st1)∨(x≠.non∧Q (.bl true) st1)) (az5 (av6 ha) rfl) fun σ H Q q=>up1 (f:=fun x st1 Q=>(x=.non∧Q (.bl false) st1)∨(x≠.non∧Q (.bl true) st1)) q fun v d H' st' Qd is rs ht hq=>by
  rcases ht with⟨rfl,ht⟩|⟨hn,ht⟩
  ·cases is;exact hq.here (.bl _) rs (by simpa using ht)
  ·have e:decide (v=V.non)=false:=decide_eq_false fun z=>hn (by subst z;cases is;rfl);rw[e];exact hq.here (.bl _) rs ht
noncomputable abbrev tst(t:DT):DB:=fun env st Q=>t env st fun d st'=>∃b,d=.bl b∧Q b st'
variable {d9:List Expr}
theorem ax6(ha:PE X a (up X.K ta))(hb:PE X (.BoolOp .And (b::d9) pos) (up X.K tb)):PE X (.BoolOp .And (a::b::d9) pos) (up X.K fun env st Q=>ta env st fun x st1=>∃c,x=.bl c∧(if c=true then tb env st1 Q else Q (.bl false) st1)):=
 PE.imp (bt6 ha hb) fun σ H Q q=>by
  obtain⟨env,st,Qd,hE,hS,ht,hq⟩:=q;refine⟨env,st,_,hE,hS,ht,fun v d H1 st1 ev is rs q1=>?_⟩;obtain⟨k,rfl,q1⟩:=q1;refine⟨k,is.bl_inv,?_⟩;cases k with
  |true=>exact⟨env,st1,Qd,hE.mono (ev.tk hS),rs,q1,hq.after ev⟩
  |false=>exact(hq.after ev).here (.bl _) rs q1
theorem a04(ha:PE X a (up X.K ta))(hb:PE X (.BoolOp .Or (b::d9) pos) (up X.K tb)):PE X (.BoolOp .Or (a::b::d9) pos) (up X.K fun env st Q=>ta env st fun x st1=>∃c,x=.bl c∧(if c=true then Q (.bl true) st1 else tb env st1 Q)):=
 PE.imp (b40 ha hb) fun σ H Q q=>by
  obtain⟨env,st,Qd,hE,hS,ht,hq⟩:=q;refine⟨env,st,_,hE,hS,ht,fun v d H1 st1 ev is rs q1=>?_⟩;obtain⟨k,rfl,q1⟩:=q1;refine⟨k,is.bl_inv,?_⟩;cases k with
  |false=>exact⟨env,st1,Qd,hE.mono (ev.tk hS),rs,q1,hq.after ev⟩
  |true=>exact(hq.after ev).here (.bl _) rs q1
theorem br6(ha:PE X a (up X.K ta)):PE X (.UnaryOp .Not a pos) (up X.K fun env st Q=>ta env st fun x st1=>∃c,x=.bl c∧Q (.bl (!c)) st1):=
 PE.imp (by8 ha) fun σ H Q q=>up1 (f:=fun x st1 Q=>∃c,x=.bl c∧Q (.bl (!c)) st1) q fun v d H' st' Qd is rs ht hq=>by
  obtain⟨c,rfl,ht⟩:=ht;exact⟨c,is.bl_inv,hq.here (.bl _) rs ht⟩
theorem az7(ha:PT X a (upB X.K (tst ta)))(hb:PW X (.BoolOp .And (b::d9) pos) (upB X.K (tst tb))):PW X (.BoolOp .And (a::b::d9) pos) (upB X.K (tst fun env st Q=>ta env st fun x st1=>∃c,x=.bl c∧(if c=true then tb env st1 Q else Q (.bl false) st1))):=
 PW.imp (bq6 ha hb) fun σ H Q q=>by
  obtain⟨env,st,Qd,hE,hS,ht,hq⟩:=q;refine⟨env,st,fun c st1=>if c=true then tb env st1 (fun d st'=>∃b,d=.bl b∧Qd b st')else ∃b,D.bl false=.bl b∧Qd b st1,hE,hS,ht,fun k H1 st1 ev rs q1=>?_⟩;cases k with
  |true=>
   rw[if_pos rfl]at q1 ⊢;exact⟨env,st1,Qd,hE.mono (ev.tk hS),rs,q1,fun c H2 st2 ev2 rs2 q2=>hq c H2 st2 (ev.trans ev2) rs2 q2⟩
  |false=>
   rw[if_neg Bool.false_ne_true]at q1 ⊢;obtain⟨b,e,q1⟩:=q1;cases e;exact hq false H1 st1 ev rs q1
theorem a01(ha:PT X a (upB X.K (tst ta)))(hb:PW X (.BoolOp .Or (b::d9) pos) (upB X.K (tst tb))):PW X (.BoolOp .Or (a::b::d9) pos) (upB X.K (tst fun env st Q=>ta env st fun x st1=>∃c,x=.bl c∧(if c=true then Q (.bl true) st1 else tb env st1 Q))):=
 PW.imp (bz5 ha hb) fun σ H Q q=>by
  obtain⟨env,st,Qd,hE,hS,ht,hq⟩:=q;refine⟨env,st,fun c st1=>if c=true then ∃b,D.bl true=.bl b∧Qd b st1 else tb env st1 (fun d st'=>∃b,d=.bl b∧Qd b st'),hE,hS,ht,fun k H1 st1 ev rs q1=>?_⟩;cases k with
  |false=>
   rw[if_neg Bool.false_ne_true]at q1 ⊢;exact⟨env,st1,Qd,hE.mono (ev.tk hS),rs,q1,fun c H2 st2 ev2 rs2 q2=>hq c H2 st2 (ev.trans ev2) rs2 q2⟩
  |true=>
   rw[if_pos rfl]at q1 ⊢;obtain⟨b,e,q1⟩:=q1;cases e;exact hq true H1 st1 ev rs q1
theorem bq3(ha:PT X a (upB X.K (tst ta))):PT X (.UnaryOp .Not a pos) (upB X.K (tst fun env st Q=>ta env st fun x st1=>∃c,x=.bl c∧Q (.bl (!c)) st1)):=
 PT.imp (bw3 ha) fun σ H Q q=>by
  obtain⟨env,st,Qd,hE,hS,ht,hq⟩:=q;refine⟨env,st,fun c st1=>∃b,D.bl (!c)=.bl b∧Qd b st1,hE,hS,ht,fun k H1 st1 ev rs q1=>?_⟩;obtain⟨b,e,q1⟩:=q1;cases e;exact hq _ H1 st1 ev rs q1
theorem br3{t1:DT}(hc:PT X c (upB X.K (tst t1)))(ha:PE X a (up X.K ta))(hb:PE X b (up X.K tb)):PE X (.IfExp c a b pos) (up X.K fun env st Q=>t1 env st fun x st1=>∃k,x=.bl k∧(if k=true then ta env st1 Q else tb env st1 Q)):=
 PE.imp (bi2 hc ha hb) fun σ H Q q=>by
  obtain⟨env,st,Qd,hE,hS,ht,hq⟩:=q;refine⟨env,st,fun k st1=>if k=true then ta env st1 Qd else tb env st1 Qd,hE,hS,ht,fun k H1 st1 ev rs q1=>?_⟩;cases k with
  |true=>exact⟨env,st1,Qd,hE.mono (ev.tk hS),rs,q1,hq.after ev⟩
  |false=>exact⟨env,st1,Qd,hE.mono (ev.tk hS),rs,q1,hq.after ev⟩
end
end Ek
namespace Ek
open PySem PySem.Spec PyProof.Rows L2
variable [Tbs]
section
variable {X:Cx} {a b c:Expr} {ta tb tc:DT} {pos p:Pos}
theorem ay7{K:W.Frag}{H:Hp}{ds:List D}{vs:List V}{i:Int}{d:D}(r:IsDs K H ds vs)(h:atI ds i=some d):∃v,atI vs i=some v∧IsD K H d v:=by
 unfold atI at h ⊢;rw[←r.len];cases e:ixN ds.length i with
 |none=>rw[e]at h;cases h
 |some j=>
  rw[e]at h;exact r.get h
theorem ah5(h:∀l u s p,b≠.Slice l u s p):ax4 b:=fun o i=>by
 cases b<;>first|rfl|exact absurd rfl (h _ _ _ _)
noncomputable def b73:R2:=fun x y H Q=>∃p k kvs v,x=.ref p∧y=kV k∧H p=some (.dK kvs)∧j7 kvs k=some v∧Q v H
theorem bu2(hu:X.A.units+200<cLine):IxR X b73:=by
 intro value slice pins s σ H x y v u Q I rx ry h hs;obtain⟨p,k,kvs,z,rfl,rfl,hH,hv,q⟩:=h;cases rx;have g:v3 H p (kV k) (some z):=by rw[←hv];exact v3.k hH
 have hT:=ao8 I g;unfold subscriptTail;refine wpAny_bind ?_;rw[getitemInPython_of_ne hT.not_modules];refine wpAny_bind (wpAny_specialOf hT PySem.F.slot_dict_getitem.lookup ?_);have fin:wpAny (model X.prog X.w) X.A (subscripted slice false (.ref p) u) (fun r s₃=>wpAny (model X.prog X.w) X.A (letTemporaryGo value (.ref p) r>>=fun _=>pure r) (EP X pins σ Q) X.xe s₃) X.xe s:=by
  rw[hs];refine wpAny_operating (aq5 (by omega) I g ry fun w' s3 I3 rw'=>wpAny_bind (wpAny_letTemporaryGo (wpAny_pure ⟨z,H,I3,rw',q⟩)))
 first
  |exact wpAny_pure (wpAny_bind fin)
  |exact wpAny_bind (wpAny_pure (wpAny_bind fin))
  |exact wpAny_bind fin
theorem b28(hu:X.A.units+200<cLine)(ha:PE X a (up X.K ta))(hb:PE X b (up X.K tb))(hs:∀l u s p,b≠.Slice l u s p):PE X (.Subscript a b pos) (up X.K fun env st Q=>ta env st fun x st1=>tb env st1 fun y st2=>ixR x y st2 Q):=
 PE.imp (bz2 (bp6.or (bw4.or ((bu2 hu).or bs7))) ha hb (ah5 hs)) fun σ H Q q=>up2 (f:=ixR) q fun v w d e H' st' Qd i1 i2 rs ht hq=>by
  cases d<;>cases e<;>first|exact False.elim ht|skip
  ·obtain⟨c,hl,e1,ht⟩:=ht;exact .inr (.inr (.inr ⟨_,_,c,i1.str_inv,i2.int_inv,hl,e1,hq.here (.str _) rs ht⟩))
  ·obtain⟨d,e1,ht⟩:=ht;obtain⟨p,vs,rfl,hq',r⟩:=i1.tup_inv;obtain⟨v',e2,is⟩:=ay7 r e1;exact .inr (.inl ⟨p,vs,_,v',rfl,i2.int_inv,hq',e2,hq.here is rs ht⟩)
  ·rcases ht with⟨ds,d,hr,e1,ht⟩|⟨kvs,d,hr,e1,ht⟩
   ·obtain⟨vs,hq',r⟩:=rs.rd hr;obtain⟨v',e2,is⟩:=ay7 r e1;exact .inl ⟨_,vs,_,v',i1.ref_inv,i2.int_inv,hq',e2,hq.here is rs ht⟩
   ·obtain⟨vs,hH,r⟩:=rs.dct hr
    rcases r.look (.inl _)with⟨l1,l2⟩|⟨d',v',l1,l2,is⟩
    ·rw[l1]at e1;cases e1
    ·rw[l1]at e1;cases e1;exact .inr (.inr (.inl ⟨_,.inl _,vs,v',i1.ref_inv,i2.int_inv,hH,l2,hq.here is rs ht⟩))
  ·obtain⟨kvs,d,hr,e1,ht⟩:=ht;obtain⟨vs,hH,r⟩:=rs.dct hr
   rcases r.look (.inr _)with⟨l1,l2⟩|⟨d',v',l1,l2,is⟩
   ·rw[l1]at e1;cases e1
   ·rw[l1]at e1;cases e1;exact .inr (.inr (.inl ⟨_,.inr _,vs,v',i1.ref_inv,i2.str_inv,hH,l2,hq.here is rs ht⟩))
noncomputable abbrev DO:=d8→Sto→(Option Int→Sto→Prop)→Prop
noncomputable def upO(K:W.Frag)(t:DO):TO:=fun σ H Q=>∃env st Qd,RelE K H env σ∧RelS K st H∧t env st Qd∧∀o H' st',Ev st H st' H'→RelS K st' H'→Qd o st'→Q o H'
theorem _root_.L2.PO.imp{X:Cx}{x:Option Expr}{t t':TO}(h:PO X x t)(i:∀σ H Q,t' σ H Q→t σ H Q):PO X x t':=fun pins s σ H Q I q=>h pins s σ H Q I (i σ H Q q)
theorem aw6:PO X none (upO X.K fun _ st k=>k none st):=PO.imp bj6 fun σ H Q q=>by
 obtain⟨env,st,Qd,hE,hS,ht,hq⟩:=q;exact hq none H st Ev.refl hS ht
theorem ax0(ha:PE X a (up X.K ta)):PO X (some a) (upO X.K fun env st k=>ta env st fun d st'=>∃i,d=.int i∧k (some i) st'):=PO.imp (bn1 ha) fun σ H Q q=>by
 obtain⟨env,st,Qd,hE,hS,ht,hq⟩:=q;refine⟨env,st,_,hE,hS,ht,fun v d H' st' ev is rs q1=>?_⟩;obtain⟨i,rfl,q1⟩:=q1;exact⟨i,is.int_inv,hq _ H' st' ev rs q1⟩
theorem az2{K:W.Frag}{H:Hp}{ds:List D}{vs:List V}(r:IsDs K H ds vs)(lo hi:Option Int):IsDs K H (v4 ds lo hi) (C9 vs lo hi):=by
 unfold v4 C9;rw[r.len];exact(r.drop _).take _
theorem b20{lo hi:Option Expr}{tl th:DO}{p2:Pos}(ha:PE X a (up X.K ta))(hl:PO X lo (upO X.K tl))(hh:PO X hi (upO X.K th)):
  PE X (.Subscript a (.Slice lo hi none p2) pos) (up X.K fun env st Q=>ta env st fun x st1=>tl env st1 fun l st2=>th env st2 fun h st3=>slR x l h st3 Q):=
 PE.imp (bf4 (bt4.or bl5) ha hl hh) fun σ H Q q=>by
  obtain⟨env,st,Qd,hE,hS,ht,hq⟩:=q;refine⟨env,st,_,hE,hS,ht,fun v d H1 st1 ev1 is1 rs1 q1=>⟨env,st1,_,hE.mono (ev1.tk hS),rs1,q1,fun l H2 st2 ev2 rs2 q2=>⟨env,st2,_,(hE.mono (ev1.tk hS)).mono (ev2.tk rs1),rs2,q2,fun h H3 st3 ev3 rs3 q3=>?_⟩⟩⟩;have is3:=(is1.mono (ev2.tk rs1)).mono (ev3.tk rs2);have hq3:=((hq.after ev1).after ev2).after ev3;cases d<;>first|exact False.elim q3|skip
  ·obtain⟨p,vs,rfl,hs,r⟩:=is3.tup_inv;exact .inl ⟨p,vs,rfl,hs,by rw[←r.len];exact q3.1,hq3.newT rs3 (az2 r l h) q3.2⟩
  ·obtain⟨ds,hr,q3⟩:=q3;obtain⟨vs,hs,r⟩:=rs3.rd hr;exact .inr ⟨_,vs,is3.ref_inv,hs,hq3.newL rs3 (az2 r l h) q3⟩
theorem B7(ha:PE X a (up X.K ta))(h:∀e p,a≠.Starred e p):PA X [a] (upA X.K 1 fun env st Q=>ta env st fun d st1=>Q [d] st1):=K0 ha ay3 h
theorem aa7{id:String}{f:Str}{r:List V→Hp→VK→Prop}{g:D→Sto→DK→Prop}(hc:v1 X (.builtin id) r)(hg:Gl X f)(hm:X.mg f=none)(hv:bootBuiltins f=some (.builtin id))(ha:PE X a (up X.K ta))(hs:∀e p,a≠.Starred e p)
  (imp:∀v d H' st' Qd Q,IsD X.K H' d v→RelS X.K st' H'→g d st' Qd→o7 X.K st' H' Qd Q→r [v] H' Q) (hn:f≠"__name__") (hdb:(f==("__debug__":Str))=false) :
  PE X (.Call (.Name f p) [a] [] pos) (up X.K fun env st Q=>ta env st fun x st1=>g x st1 Q):=
 PE.imp (at1 hc hg hm hv (B7 ha hs) hn hdb (j8 hs) rfl) fun σ H Q q=>by
  obtain⟨env,st,Qd,hE,hS,ht,hq⟩:=q;refine⟨env,st,(fun ds st1=>match ds with|[d]=>g d st1 Qd|_=>False),hE,hS,ht,fun vs ds H' st' ev is hl rs q1=>?_⟩
  match ds,hl with
  |[d],_=>
   obtain⟨v,ws,rfl,i1,i2⟩:=is.inv_cons;rw[i2.inv_nil];exact imp v d H' st' Qd Q i1 rs q1 (hq.after ev)
theorem al2{T:String}{f:Str}{r:List V→Hp→VK→Prop}{g:D→Sto→DK→Prop}(hc:v1 X (.type T) r)(hg:Gl X f)(hm:X.mg f=none)(hv:bootBuiltins f=some (.type T))(ha:PE X a (up X.K ta))(hs:∀e p,a≠.Starred e p)
  (imp:∀v d H' st' Qd Q,IsD X.K H' d v→RelS X.K st' H'→g d st' Qd→o7 X.K st' H' Qd Q→r [v] H' Q) (hn:f≠"__name__") (hdb:(f==("__debug__":Str))=false) :
  PE X (.Call (.Name f p) [a] [] pos) (up X.K fun env st Q=>ta env st fun x st1=>g x st1 Q):=
 PE.imp (ba5 hc hg hm hv (B7 ha hs) hn hdb (j8 hs) rfl) fun σ H Q q=>by
  obtain⟨env,st,Qd,hE,hS,ht,hq⟩:=q;refine⟨env,st,(fun ds st1=>match ds with|[d]=>g d st1 Qd|_=>False),hE,hS,ht,fun vs ds H' st' ev is hl rs q1=>?_⟩
  match ds,hl with
  |[d],_=>
   obtain⟨v,ws,rfl,i1,i2⟩:=is.inv_cons;rw[i2.inv_nil];exact imp v d H' st' Qd Q i1 rs q1 (hq.after ev)
theorem bf1:bootBuiltins "abs"=some (.builtin "abs"):=by decide+kernel
theorem bh4:bootBuiltins "max"=some (.builtin "max"):=by decide+kernel
theorem bh5:bootBuiltins "sum"=some (.builtin "sum"):=by decide+kernel
theorem be8:bootBuiltins "int"=some (.type "int"):=by decide+kernel
theorem a98:bootBuiltins "list"=some (.type "list"):=by decide+kernel
theorem a77:bootBuiltins "tuple"=some (.type "tuple"):=by decide+kernel
theorem bx8(hg:Gl X "len")(hm:X.mg "len"=none)(ha:PE X a (up X.K ta))(hs:∀e p,a≠.Starred e p):PE X (.Call (.Name "len" p) [a] [] pos) (up X.K fun env st Q=>ta env st fun x st1=>E3 x st1 Q):=
 aa7 a66 hg hm PySem.boot_len ha hs (fun v d H' st' Qd Q is rs ht hq=>by
  cases d<;>first|exact False.elim ht|skip
  ·obtain⟨p,vs,rfl,hs,r⟩:=is.tup_inv;exact⟨p,vs,rfl,.inr hs,by rw[←r.len];exact hq.here (.int _) rs ht⟩
  ·obtain⟨ds,hr,ht⟩:=ht;obtain⟨vs,hs,r⟩:=rs.rd hr;exact⟨_,vs,by rw[is.ref_inv],.inl hs,by rw[←r.len];exact hq.here (.int _) rs ht⟩) (by decide) (by decide)
theorem bx7(hg:Gl X "abs")(hm:X.mg "abs"=none)(ha:PE X a (up X.K ta))(hs:∀e p,a≠.Starred e p):PE X (.Call (.Name "abs" p) [a] [] pos) (up X.K fun env st Q=>ta env st fun x st1=>∃i,x=.int i∧Q (.int (if i<0 then -i else i)) st1):=
 aa7 (g:=fun x st1 Q=>∃i,x=.int i∧Q (.int (if i<0 then -i else i)) st1) be5 hg hm bf1 ha hs (fun v d H' st' Qd Q is rs ht hq=>by
  obtain⟨i,rfl,ht⟩:=ht;exact⟨i,by rw[is.int_inv],hq.here (.int _) rs ht⟩) (by decide) (by decide)
theorem bg5(hg:Gl X "int")(hm:X.mg "int"=none)(ha:PE X a (up X.K ta))(hs:∀e p,a≠.Starred e p):PE X (.Call (.Name "int" p) [a] [] pos) (up X.K fun env st Q=>ta env st fun x st1=>L5 x st1 Q):=
 al2 bc8 hg hm be8 ha hs (fun v d H' st' Qd Q is rs ht hq=>by
  cases d<;>first|exact False.elim ht|skip
  ·exact .inr ⟨_,by rw[is.bl_inv],hq.here (.int _) rs ht⟩
  ·exact .inl ⟨_,by rw[is.int_inv],hq.here (.int _) rs ht⟩) (by decide) (by decide)
theorem br7(hc:X.calm=true)(hg:Gl X "sum")(hm:X.mg "sum"=none)(ha:PE X a (up X.K ta))(hs:∀e p,a≠.Starred e p):PE X (.Call (.Name "sum" p) [a] [] pos) (up X.K fun env st Q=>ta env st fun x st1=>af5 x st1 Q):=
 aa7 (ba3 hc) hg hm bh5 ha hs (fun v d H' st' Qd Q is rs ht hq=>by
  cases d<;>first|exact False.elim ht|skip
  obtain⟨ns,hr,ht⟩:=ht;obtain⟨vs,hs,r⟩:=rs.rd hr;exact⟨_,ns,by rw[is.ref_inv],by rw[←r.ints];exact hs,hq.here (.int _) rs ht⟩) (by decide) (by decide)
theorem bm2(hg:Gl X "list")(hm:X.mg "list"=none)(ha:PE X a (up X.K ta))(hs:∀e p,a≠.Starred e p):PE X (.Call (.Name "list" p) [a] [] pos) (up X.K fun env st Q=>ta env st fun x st1=>ad9 x st1 Q):=
 al2 a74 hg hm a98 ha hs (fun v d H' st' Qd Q is rs ht hq=>by
  cases d<;>first|exact False.elim ht|skip
  ·obtain⟨p,vs,rfl,hs,r⟩:=is.tup_inv;exact⟨p,vs,rfl,.inr hs,hq.newL rs r ht⟩
  ·obtain⟨ds,hr,ht⟩:=ht;obtain⟨vs,hs,r⟩:=rs.rd hr;exact⟨_,vs,by rw[is.ref_inv],.inl hs,hq.newL rs r ht⟩) (by decide) (by decide)
theorem bh9(hg:Gl X "tuple")(hm:X.mg "tuple"=none)(ha:PE X a (up X.K ta))(hs:∀e p,a≠.Starred e p):PE X (.Call (.Name "tuple" p) [a] [] pos) (up X.K fun env st Q=>ta env st fun x st1=>F4 x st1 Q):=
 al2 a58 hg hm a77 ha hs (fun v d H' st' Qd Q is rs ht hq=>by
  cases d<;>first|exact False.elim ht|skip
  ·obtain⟨p,vs,rfl,hs,r⟩:=is.tup_inv;exact⟨p,vs,rfl,.inr ⟨hs,hq.here is rs ht⟩⟩
  ·obtain⟨ds,hr,ht⟩:=ht;obtain⟨vs,hs,r⟩:=rs.rd hr;exact⟨_,vs,by rw[is.ref_inv],.inl ⟨hs,hq.newT rs r ht⟩⟩) (by decide) (by decide)
theorem az4(ha:PE X a (up X.K ta))(hb:PE X b (up X.K tb))(h:∀e p,a≠.Starred e p)(h':∀e p,b≠.Starred e p):PA X [a,b] (upA X.K 2 fun env st Q=>ta env st fun d st1=>tb env st1 fun e st2=>Q [d,e] st2):=K0 ha (B7 hb h') h
theorem bq8(hc:X.calm=true)(hg:Gl X "max")(hm:X.mg "max"=none)(ha:PE X a (up X.K ta))(hb:PE X b (up X.K tb))(hs:∀e p,a≠.Starred e p)(hs':∀e p,b≠.Starred e p):
  PE X (.Call (.Name "max" p) [a,b] [] pos) (up X.K fun env st Q=>ta env st fun x st1=>tb env st1 fun y st2=>∃i j,x=.int i∧y=.int j∧Q (.int (if j>i then j else i)) st2):=
 PE.imp (at1 (bb4 hc) hg hm bh4 (az4 ha hb hs hs') (by decide) (by decide) (j8 hs) (by rw[j8 hs'];rfl)) fun σ H Q q=>by
  obtain⟨env,st,Qd,hE,hS,ht,hq⟩:=q;refine⟨env,st,(fun ds st1=>match ds with|[x,y]=>∃i j,x=.int i∧y=.int j∧Qd (.int (if j>i then j else i)) st1|_=>False),hE,hS,ht,fun vs ds H' st' ev is hl rs q1=>?_⟩
  match ds,hl with
  |[d,e],_=>
   obtain⟨v,ws,rfl,i1,i2⟩:=is.inv_cons;obtain⟨w,ws',rfl,i3,i4⟩:=i2.inv_cons;rw[i4.inv_nil];obtain⟨i,j,rfl,rfl,q1⟩:=q1;exact⟨i,j,by rw[i1.int_inv,i3.int_inv],(hq.after ev).here (.int _) rs q1⟩
noncomputable def D0(K:W.Frag)(sp:Spec):Sp:=fun vs H Q _=>∃ds st Qd,IsDs K H ds vs∧RelS K st H∧sp ds st Qd∧o7 K st H Qd Q
theorem bl8{f:Str}{k:Nat}{fa:Addr}{fd:FuncData}{ps:List Str}{sp:Spec}{es:List Expr}{n:Nat}{t:DA}(F:FnOk X.prog X.w X.K X.mg X.base CX0 k fa fd ps (D0 X.K sp))(hr:Room k X.A)(hg:Gl X f)(hm:X.mg f=some (.ref fa))(hk:W.keepIn X.K (.ref fa)=true)
  (hb:y6 X.K fd ps []) (ha:PA X (a::es) (upA X.K n t)) (hdb:(f==("__debug__":Str))=false) (hs:∀e p,a≠.Starred e p) (hpl:(backTo pos (starEach es X.env)).any (·.1)=false) :
  PE X (.Call (.Name f p) (a::es) [] pos) (up X.K fun env st Q=>t env st fun ds st1=>sp ds st1 Q):=
 PE.imp (bn9 F hr hg hm hk hb .nil al6 ha hdb (j8 hs) hpl) fun σ H Q q=>ao0 (f:=sp) q fun vs ds H' st' Qd is hl rs ht hq=>⟨ds,st',Qd,by rw[List.append_nil];exact is,rs,ht,hq⟩
noncomputable def M0(K:W.Frag)(f:Addr)(fd:FuncData)(np:Nat)(N:List Str)(cs:List D)(sp:Spec):Sp:=fun vs H Q _=>∃us ds st Qd,CloR H f fd np N us∧IsDs K H cs us∧IsDs K H ds vs∧RelS K st H∧sp ds st Qd∧o7 K st H Qd Q
theorem CloR.fnAt{f:Addr}{fd:FuncData}{np:Nat}{N:List Str}{us:List V}(h:CloR H f fd np N us)(I:Inv X pins σ H s):W.FnAt f s.heap:=by
 obtain⟨o,u,e1,_,e3⟩:=h.ex;obtain⟨h1,_⟩:=I.hok f _ e1;obtain⟨oc,od,da,sl⟩:=o;have e3':da=.func fd:=e3;subst e3';exact⟨oc,od,fd,sl,h1⟩
theorem bg6{i:Nat}{x:Str}{es:List Expr}{n:Nat}{t:DA}{Z:Sg}(hN:X.N[i]?=some x)(hv:Vis X.env.scope x)(hd:(x==("__debug__":Str))=false)(hcd:(x==("__classdict__":Str))=false)
  (hF:∀f fa,Z.F f=true→W.nsIn X.K mainGlobals f=some (some (.ref fa))→∃k fd ps,FnOk X.prog X.w X.K X.mg X.base CX0 k fa fd ps (D0 X.K (Z.Phi f))∧Room k X.A∧W.keepIn X.K (.ref fa)=true∧y6 X.K fd ps [])
  (hC:∀np N b cs fa fd ps,CloF fd np N ps b→∃k,FnOk X.prog X.w X.K X.mg X.base CX0 k fa fd ps (M0 X.K fa fd np N cs (Z.PhiC np N b cs))∧Room k X.A)
  (ha:PA X (a::es) (upA X.K n t)) (hs:∀e p,a≠.Starred e p) (hpl:(backTo pos (starEach es X.env)).any (·.1)=false) :
  PE X (.Call (.Name x p) (a::es) [] pos) (up X.K fun env st Q=>∃x,env[i]?=some (some x)∧G2 Z (t env) st Q x):=by
 intro pins s σ H Q I q;obtain⟨env,st,Qd,hE,hS,⟨d,he,hc⟩,hq⟩:=q;obtain⟨v,hv1,isv⟩:=hE.at' i _ he;cases d with
 |fn f=>
  obtain⟨hf,ht⟩:Z.F f=true∧t env st fun ds st1=>Z.Phi f ds st1 Qd:=hc;obtain⟨fa,rfl,hns⟩:∃fa,v=.ref fa∧W.nsIn X.K mainGlobals f=some (some (.ref fa)):=by cases isv with|fn h=>exact⟨_,rfl,h⟩
  obtain⟨k,fd,ps,Fo,hr,hk,hb⟩:=hF f fa hf hns;refine wpAny_Call_Name_kw (thn (ak8 hN hv hd hcd pins s σ H (fun v H1=>v=.ref fa∧H1=H) I ⟨_,hv1,rfl,rfl⟩) fun u s1⟨v,H1,I1,r1,e1,e2⟩=>?_);subst e1 e2;cases r1;refine W.callWith_K (h₀:=X.base) I1.ok.mod.kin hk (thn (ha pos pins s1 σ H1 (fun vs H2=>∃ds st1,Ev st H1 st1 H2∧IsDs X.K H2 ds vs∧RelS X.K st1 H2∧Z.Phi f ds st1 Qd) I1 ⟨env,st,_,hE,hS,ht,fun vs ds H' st' ev is hl rs q=>⟨ds,st',ev,is,rs,q⟩⟩) fun us s2⟨vs,H2,I2,r,ds,st1,ev,is,rs,q⟩=>⟨I2.kIn,?_⟩) (j8 hs) hpl;exact ak3 Fo hr hb .nil al6 I2 r ⟨ds,st1,Qd,by rw[List.append_nil];exact is,rs,q,hq.after ev⟩
 |clo np N b cs=>
  have ht:t env st fun ds st1=>Z.PhiC np N b cs ds st1 Qd:=hc;obtain⟨fa,us0,rfl,ca,ics⟩:∃fa us,v=.ref fa∧N0 H fa np N b us∧IsDs X.K H cs us:=by cases isv with|clo h1 h2 h3=>exact⟨_,_,rfl,h1,h2,h3⟩
  obtain⟨fd,ps,cf,cr⟩:=ca;obtain⟨k,Fo,hr⟩:=hC np N b cs fa fd ps cf;refine wpAny_Call_Name_kw (thn (ak8 hN hv hd hcd pins s σ H (fun v H1=>v=.ref fa∧H1=H) I ⟨_,hv1,rfl,rfl⟩) fun u s1⟨v,H1,I1,r1,e1,e2⟩=>?_);subst e1 e2;cases r1;refine W.callWith_F (cr.fnAt I1) (thn (ha pos pins s1 σ H1 (fun vs H2=>∃ds st1,Ev st H1 st1 H2∧IsDs X.K H2 ds vs∧RelS X.K st1 H2∧Z.PhiC np N b cs ds st1 Qd) I1 ⟨env,st,_,hE,hS,ht,fun vs ds H' st' ev is hl rs q=>⟨ds,st',ev,is,rs,q⟩⟩) fun us s2⟨vs,H2,I2,r,ds,st1,ev,is,rs,q⟩=>⟨(cr.mono (K:=X.K) (ev.tk hS)).fnAt I2,?_⟩) (j8 hs) hpl;exact ak3 Fo hr (.all cf.bind) .nil al6 I2 r ⟨us0,ds,st1,Qd,cr.mono (K:=X.K) (ev.tk hS),ics.mono (ev.tk hS),by rw[List.append_nil];exact is,rs,q,hq.after ev⟩
 |_=>exact(hc:False).elim
theorem A0{o:Expr}{nm:Str}{env:Env}{w:Sem Value}(h:∀i p p',o≠.Call (.Name i p) [] [] p'):attributeBase o nm env w=w:=by
 unfold attributeBase
 split
 ·exact absurd rfl (h _ _ _)
 ·rfl
theorem tyL{K:W.Frag}{H:Hp}{st:Sto}{d:D}{v:V}(is:IsD K H d v)(rs:RelS K st H)(h:u8 d st):tyV K "list" v H:=by
 cases d<;>first|exact False.elim h|skip
 obtain⟨ds,hr⟩:=h;obtain⟨vs,hs,_⟩:=rs.rd hr;rw[is.ref_inv];exact .inl ⟨rfl,vs,hs⟩
theorem al0{nm:Str}{id:String}{r:V→List V→Hp→VK→Prop}{g:D→D→Sto→DK→Prop}{apos:Pos}(slot:Slot "list" nm id)(hty:typeOf (.builtin id)=pure (.type "method_descriptor"))(hm:MtR X id r)
  (ha:PE X a (up X.K ta)) (hb:PE X b (up X.K tb)) (hbase:∀i p p',a≠.Call (.Name i p) [] [] p') (hs:∀e p,b≠.Starred e p) (hline:(apos.endLine==pos.line)=true)
  (imp:∀v w d e H' st' Qd Q,IsD X.K H' d v→IsD X.K H' e w→RelS X.K st' H'→g d e st' Qd→o7 X.K st' H' Qd Q→r v [w] H' Q) :
  PE X (.Call (.Attribute a nm apos) [b] [] pos) (up X.K fun env st Q=>ta env st fun x st1=>u8 x st1∧tb env st1 fun y st2=>g x y st2 Q):=
 PE.imp (b49 PySem.F.plainAttrs_list slot hty hm ha (B7 hb hs) (A0 hbase) (by rw[j8 hs];rfl) hline (j8 hs) rfl) fun σ H Q q=>by
  obtain⟨env,st,Qd,hE,hS,ht,hq⟩:=q;refine⟨env,st,_,hE,hS,ht,fun v d H1 st1 ev is rs q1=>⟨tyL is rs q1.1,?_⟩⟩;refine⟨env,st1,(fun ds st2=>match ds with|[e]=>g d e st2 Qd|_=>False),hE.mono (ev.tk hS),rs,q1.2,fun vs ds H' st' ev2 is2 hl rs2 q2=>?_⟩
  match ds,hl with
  |[e],_=>
   obtain⟨w,ws,rfl,i1,i2⟩:=is2.inv_cons;rw[i2.inv_nil];exact imp v w d e H' st' Qd Q (is.mono (ev2.tk rs)) i1 rs2 q2 ((hq.after ev).after ev2)
theorem bt1{apos:Pos}(ha:PE X a (up X.K ta))(hb:PE X b (up X.K tb))(hbase:∀i p p',a≠.Call (.Name i p) [] [] p')(hs:∀e p,b≠.Starred e p)(hline:(apos.endLine==pos.line)=true):
  PE X (.Call (.Attribute a "append" apos) [b] [] pos) (up X.K fun env st Q=>ta env st fun x st1=>u8 x st1∧tb env st1 fun y st2=>N1 x y st2 Q):=
 al0 PySem.F.slot_list_append PySem.F.type_list_append as1 ha hb hbase hs hline fun v w d e H' st' Qd Q i1 i2 rs ht hq=>by
  cases d<;>first|exact False.elim ht|skip
  obtain⟨ds,hr,hz,ht⟩:=ht;obtain⟨vs,hH,r⟩:=rs.lst hr;rw[i1.ref_inv];exact⟨_,vs,w,rfl,rfl,hH,by rw[←r.len];exact hz,hq _ _ _ _ (Ev.put hr) .non (rs.putOld hH (r.append (.cons i2 .nil))) ht⟩
theorem a99(l:Addr)(items:Array Value)(n:Nat)(b:Addr)(items2:Array Value)(n2:Nat)(sl:Array (Option Value))(hs0:¬(!items.isEmpty&&Builtin.List.listTooLong (items.size+items2.size))=true)(hs1:items.size≤sizeLine)(hs2:items.size+items2.size≤sizeLine+1):
  Meets (Builtin.«list.extend» ⟨[.ref l,.ref b],[]⟩) (fun _ R s=>s.heap.get? l=some {cls:=.type "list",dict:=none,data:=.seq items n,slots:=#[]}∧s.heap.get? b=some {cls:=.type "tuple",dict:=none,data:=.seq items2 n2,slots:=sl}∧R (.ok (.ret Value.none)) {s with heap:=s.heap.update l (Obj.mapSeq fun x=>x++items2),toks:=s.toks}):=
 .of_wp fun prog w A R s h=>by
  obtain⟨hp,g,d,tk,os⟩:=s;obtain⟨hl,hb,h⟩:=h;have f1:=AutoSeq1.idx_int;have f2:=AutoSeq1.sub_tuple_tuple;have f3:=AutoSeq1.sub_list_list;have f4:=AutoSeq1.sub_tuple_list;have f5:=AutoSeq1.sub_list_tuple;have hz':(items++items2).size≤sizeLine+1:=by rw[Array.size_append];exact hs2
  wp_walk using(wpAny_updateSeq hl rfl (hz:=hs1) (_hz':=hz')),AutoSeq1.wpAny_loadPart' hl,AutoSeq1.wpAny_loadPart' hb;exact⟨_,rfl,h⟩
noncomputable def au9(K:W.Frag):V→List V→Hp→VK→Prop:=fun x vs H Q=>∃l b xs zs,x=.ref l∧vs=[.ref b]∧H l=some (.lst xs)∧SqT K H b zs∧xs.length+zs.length≤sizeLine∧Q .non (upd H l (.lst (xs++zs)))
theorem ba1:MtM X "list.extend" (au9 X.K):=by
 intro pins s σ H x vs v us Q I rx rv h;obtain⟨l,b,xs,zs,rfl,rfl,hH,hB,hz,q⟩:=h;cases rx;obtain⟨u,rfl,ru⟩:=rv.one;cases ru;obtain⟨z,its,n,r,hl,e⟩:=I.lstM hH;obtain⟨its2,r2,⟨o,e2,ec,ed,n2,es⟩,z2⟩:=I.tupleD hB;obtain⟨cls,dd,data,sl⟩:=o;simp only at ec ed es;subst ec ed es;have hl2:=r2.length;have hsz:its.toArray.size+its2.toArray.size≤sizeLine:=by rw[List.size_toArray,List.size_toArray];omega
 have hlong:¬(!its.toArray.isEmpty&&Builtin.List.listTooLong (its.toArray.size+its2.toArray.size))=true:=by
  rw[at7 hsz,Bool.and_false];exact Bool.false_ne_true
 refine call_meets F.slot_list_extend ⟨_,e,rfl⟩ F.entry_list_extend (F.args_list_extend_2 _ _)
  (a99 l its.toArray n b its2.toArray n2 sl hlong (by rw[List.size_toArray];omega) (by omega)) ⟨e,e2,?_⟩
 refine⟨.non,_,I.lset (its':=its++its2) hH e (by simp) (r.append r2) ?_,rfl,q⟩;rw[List.length_append];omega
theorem bj4:MtM X "list.extend" (fun x vs H Q=>av2 x vs H Q∨au9 X.K x vs H Q):=fun pins s σ H x vs v us Q I rx rv h=>h.elim (ba4 pins s σ H x vs v us Q I rx rv) (ba1 pins s σ H x vs v us Q I rx rv)
theorem bq2{apos:Pos}(ha:PE X a (up X.K ta))(hb:PE X b (up X.K tb))(hbase:∀i p p',a≠.Call (.Name i p) [] [] p')(hs:∀e p,b≠.Starred e p)(hline:(apos.endLine==pos.line)=true):
  PE X (.Call (.Attribute a "extend" apos) [b] [] pos) (up X.K fun env st Q=>ta env st fun x st1=>u8 x st1∧tb env st1 fun y st2=>G7 x y st2 Q):=
 al0 PySem.F.slot_list_extend PySem.F.type_list_extend bj4 ha hb hbase hs hline fun v w d e H' st' Qd Q i1 i2 rs ht hq=>by
  cases d<;>cases e<;>first|exact False.elim ht|skip
  ·obtain⟨ds,hr,hz,ht⟩:=ht;obtain⟨vs,hH,r⟩:=rs.lst hr;obtain⟨b,ws,rfl,hq2,r2⟩:=i2.tup_inv;rw[i1.ref_inv];exact .inr ⟨_,_,vs,ws,rfl,rfl,hH,hq2,by rw[←r.len,←r2.len];exact hz,hq _ _ _ _ (Ev.put hr) .non (rs.putOld hH (r.append r2)) ht⟩
  ·obtain⟨ds,es,hr,hr2,hz,ht⟩:=ht;obtain⟨vs,hH,r⟩:=rs.lst hr;obtain⟨ws,hH2,r2⟩:=rs.lst hr2;rw[i1.ref_inv,i2.ref_inv];exact .inl ⟨_,_,vs,ws,rfl,rfl,hH,hH2,by rw[←r.len,←r2.len];exact hz,hq _ _ _ _ (Ev.put hr) .non (rs.putOld hH (r.append r2)) ht⟩
theorem bg3{apos:Pos}(ha:PE X a (up X.K ta))(hb:PE X b (up X.K tb))(hbase:∀i p p',a≠.Call (.Name i p) [] [] p')(hs:∀e p,b≠.Starred e p)(hline:(apos.endLine==pos.line)=true):
  PE X (.Call (.Attribute a "pop" apos) [b] [] pos) (up X.K fun env st Q=>ta env st fun x st1=>u8 x st1∧tb env st1 fun y st2=>ak4 x y st2 Q):=
 al0 PySem.F.slot_list_pop PySem.F.type_list_pop be0 ha hb hbase hs hline fun v w d e H' st' Qd Q i1 i2 rs ht hq=>by
  cases d<;>cases e<;>first|exact False.elim ht|skip
  rename_i i;obtain⟨⟨b1,b2⟩,ds,k,d,hr,hk,hd,ht⟩:=ht;obtain⟨vs,hH,r⟩:=rs.lst hr;obtain⟨v',hv',is'⟩:=r.get hd;rw[i1.ref_inv,i2.int_inv];obtain⟨q1,q2,q3,q4⟩:=aj4 hk;exact⟨_,vs,_,k,v',rfl,rfl,hH,by omega,by omega,by rw[←r.len];exact q1,hv',hq _ _ _ _ (Ev.put hr) (is'.mono (TK.put hH)) (rs.putOld hH (r.erase k)) ht⟩
theorem bs5{apos:Pos}(ha:PE X a (up X.K ta))(hbase:∀i p p',a≠.Call (.Name i p) [] [] p')(hline:(apos.endLine==pos.line)=true):
  PE X (.Call (.Attribute a "pop" apos) [] [] pos) (up X.K fun env st Q=>ta env st fun x st1=>N2 x st1 Q):=
 PE.imp (az1 PySem.F.plainAttrs_list PySem.F.slot_list_pop PySem.F.type_list_pop bw5 ha (A0 hbase) hline) fun σ H Q q=>up1 (f:=N2) q fun v d H' st' Qd is rs ht hq=>by
  cases d<;>first|exact False.elim ht|skip
  obtain⟨ds,d,hr,ht⟩:=ht;obtain⟨vs,hH,r⟩:=rs.lst hr;have hl:=r.len;rw[List.length_append,List.length_singleton]at hl;obtain⟨v',hv',is'⟩:=r.get (i:=ds.length) (d:=d) (by simp);rw[is.ref_inv];refine⟨.inl ⟨rfl,vs,.inl (.inl hH)⟩,_,vs,v',rfl,rfl,hH,by rw[←hl,Nat.add_sub_cancel];exact hv',hq _ _ _ (d3 st' _ (.lst ds)) (Ev.put hr) (is'.mono (TK.put hH)) (rs.putOld hH ?_) ht⟩;have e:vs.dropLast=vs.take ds.length:=by rw[List.dropLast_eq_take,←hl,Nat.add_sub_cancel]
  rw[e];have q:=r.take ds.length
  rwa [List.take_left']at q
  rfl
end
end Ek
namespace Ek
open PySem PySem.Spec PyProof.Rows L2
variable [Tbs]
theorem as6{prog:Program}{w:World}{A:Around}{E:Value→Shared→Prop}{s:Shared}{items:Array Value}{x:Value}{e:Nat→Bool}{j:Nat}(hj:j<items.size)(he:∀i(h:i<items.size),SeqAt.EqAt A s items[i] x (e i))
  (hit:e j=true) (hno:∀i,i<j→e i=false):∀k i,i+k=items.size→i≤j →
   wpAny (model prog w) A (forIn (List.range' i k) ((none:Option PySem.Fin),()) fun(i:Nat)__s=>
      match items[i]? with
      |some y=>do
       let __do_lift ←eqBool y x
       if __do_lift=true then do
         let __do_lift ←retInt (i:Int)
         pure (ForInStep.done (some __do_lift,()))
        else pure (ForInStep.yield (none,()))
      |x=>pure (ForInStep.yield (none,())))
    (fun r s'=>r.1=some (PySem.Fin.done (.ret (.int j s.toks)))∧s'={s with toks:=s.toks+1}) E s
 |0,i,h1,h2=>by omega
 |k+1,i,h1,h2=>by
  have hi:i<items.size:=by omega
  rw[List.range'_succ,List.forIn_cons];have e1:items[i]?=some items[i]:=by simp[hi]
  rw[e1];dsimp only;refine wpAny_bind (wpAny_bind (he i hi prog w _ _ ?_))
  by_cases hij:i=j
  ·subst hij;rw[hit,if_pos rfl];refine wpAny_bind ?_;show wpAny _ _ (mkInt (i:Int)>>=_) _ _ _;refine wpAny_bind (wpAny_mkInt ?_);exact wpAny_pure (wpAny_pure (wpAny_pure ⟨rfl,rfl⟩))
  ·rw[hno i (by omega),if_neg Bool.false_ne_true];exact wpAny_pure (as6 hj he hit hno k (i+1) (by omega) (by omega))
theorem a80{prog:Program}{w:World}{A:Around}{E:Value→Shared→Prop}{s:Shared}{a:Addr}{items:Array Value}{x:Value}{e:Nat→Bool}{j:Nat}{Q:Value→Shared→Prop}(ht:s.heap.IsTuple a items)(hj:j<items.size)(he:∀i(h:i<items.size),SeqAt.EqAt A.in1 s items[i] x (e i))
  (hit:e j=true) (hno:∀i,i<j→e i=false) (hQ:Q (.int j s.toks) {s with toks:=s.toks+1}) :
  wpAny (model prog w) A (call (.builtin "tuple.index") [.ref a,x]) Q E s:=by
 obtain⟨o,ho,hc,n,hd⟩:=id ht;refine wpAny_call_entry F.slot_tuple_index ht.typeIs F.entry_tuple_index ?_ (F.args_tuple_index_2 _ _);unfold Builtin.«tuple.index»;refine wpAny_bind (wpAny_of_eq (a:=(Value.ref a,[x])) rfl ?_);dsimp only;refine wpAny_bind ?_;unfold Builtin.Tuple.tupleItemsOf;refine wpAny_bind (wpAny_seqItems ho hd (wpAny_pure ?_));refine wpAny_bind (wpAny_pure (wpAny_bind (wpAny_pure (wpAny_bind ?_))));rw[Std.Legacy.Range.forIn_eq_forIn_range'];have hs:(Std.Legacy.Range.size [0:min items.size items.size])=items.size:=by simp[Std.Legacy.Range.size]
 rw[hs];refine wpAny_mono (as6 hj he hit hno items.size 0 (by omega) (Nat.zero_le _)) (fun r s' h=>?_) fun _ _ h=>h;obtain⟨h1,rfl⟩:=h;rw[h1];exact wpAny_pure ⟨_,rfl,hQ⟩
theorem a97{prog:Program}{w:World}{A:Around}{E:Value→Shared→Prop}{s:Shared}{a:Addr}{items:Array Value}{x:Value}{e:Value→Bool}{j:Nat}{Q:Value→Shared→Prop}(ht:s.heap.IsList a items)(hj:j<items.size)(hz:items.size≤sizeLine)(he:∀y,y∈items→SeqAt.EqAt A.in1 s y x (e y))
  (hit:e items[j]=true) (hno:∀m(hm:m<items.size),m<j→e items[m]=false) (hQ:Q (.int j s.toks) {s with toks:=s.toks+1}) :
  wpAny (model prog w) A (call (.builtin "list.index") [.ref a,x]) Q E s:=by
 obtain⟨⟨cls,dd,data,sl⟩,ho,hc,n,hd⟩:=id ht;simp only at hc hd;subst hc hd;have hb:sizeLine=16777216:=rfl;exact call_meets PySem.F.slot_list_index ⟨_,ho,rfl⟩ PySem.F.entry_list_index (PySem.F.args_list_index_2 _ _) (SeqAt.list_indexAt a items n dd sl x e j hj (by omega) hit hno) ⟨ho,he,hQ⟩
section
variable {X:Cx} {a b c:Expr} {ta tb tc:DT} {pos p:Pos}
theorem b82{pins:List (Addr×Obj)}{σ:L2.St}{H:Hp}{s:Shared}{v:V}{u:Value}{d:D}(I:L2.Inv X pins σ H s)(is:IsD X.K H d v)(ru:d7 v u)(h:∃ds,d=.tup ds):s.TypeIs u "tuple"∧∀a,u=.ref a→∃ob,s.heap.get? a=some ob∧ob.dict=none:=by
 obtain⟨ds,rfl⟩:=h;obtain⟨q,vs,rfl,hq,r⟩:=is.tup_inv;cases ru;obtain⟨its,rv,⟨o,ho,hc,hdn,n,hd⟩,hz⟩:=I.tupleD hq;exact⟨⟨o,ho,hc⟩,fun a e=>by cases e;exact⟨o,ho,hdn⟩⟩
open Classical in
noncomputable def ao2(h:Heap)(x:PyData)(u:Value):Bool:=decide (∃dt as,Reads h u dt as∧PyData.eqv dt x=true)
open Classical in
theorem aj3{h:Heap}{x dt:PyData}{u:Value}{as:List Addr}(r:Reads h u dt as)(hc:dt.canLay0=true):ao2 h x u=PyData.eqv dt x:=by
 unfold ao2;cases hb:PyData.eqv dt x with
 |true=>exact decide_eq_true ⟨dt,as,r,hb⟩
 |false=>
  refine decide_eq_false fun⟨d',as',r',hb'⟩=>?_;rw[←SeqAt.Reads.unique dt d' u as as' hc r r',hb]at hb';cases hb'
theorem bd8{apos:Pos}(hu:X.A.units+200<cLine)(ha:PE X a (up X.K ta))(hb:PE X b (up X.K tb))(hbase:∀i p p',a≠.Call (.Name i p) [] [] p')(hs:∀e p,b≠.Starred e p)(hline:(apos.endLine==pos.line)=true):
  PE X (.Call (.Attribute a "index" apos) [b] [] pos) (up X.K fun env st Q=>ta env st fun x st1=>N6 x st1∧tb env st1 fun y st2=>D7 x y st2 Q):=by
 intro pins s σ H Q I q;obtain⟨env,st,Qd,hE,hS,ht,hq⟩:=q;refine wpAny_Call_method_late (A0 hbase) (by rw[j8 hs];rfl) hline rfl (thn (ha pins s σ H (fun v H1=>∃d st1,Ev st H st1 H1∧IsD X.K H1 d v∧RelS X.K st1 H1∧N6 d st1∧tb env st1 fun y st2=>D7 d y st2 Qd) I ⟨env,st,_,hE,hS,ht,fun v d H1 st1 ev is rs q1=>⟨d,st1,ev,is,rs,q1⟩⟩) fun u s1⟨v,H1,I1,r1,d,st1,ev,is,rs,q1,q2⟩=>?_);have hA0:=B7 hb hs pos pins s1 σ H1 (fun vs H2=>∃w e st2,vs=[w]∧Ev st1 H1 st2 H2∧IsD X.K H2 e w∧RelS X.K st2 H2∧D7 d e st2 Qd) I1 ⟨env,st1,(fun ds st2=>match ds with|[e]=>D7 d e st2 Qd|_=>False),hE.mono (ev.tk hS),rs,q2,fun vs ds H2 st2 ev2 is2 hl rs2 q3=>by
  match ds,hl with
  |[e],_=>
   obtain⟨w,ws,rfl,i1,i2⟩:=is2.inv_cons;rw[i2.inv_nil];exact⟨w,e,st2,rfl,ev2,i1,rs2,q3⟩⟩
 rw[j8 hs]at hA0;cases d with
 |tup ds=>
  obtain⟨h1,h2⟩:=b82 I1 is r1 ⟨_,rfl⟩;refine⟨"tuple","tuple.index",PySem.F.plainAttrs_tuple,PySem.F.slot_tuple_index,PySem.F.type_tuple_index,h1,h2,?_⟩;rw[j8 hs];refine Calls.callWith_builtin (by rfl) (Calls.evalArgs_plain ?_);refine thn hA0 fun us s2⟨vs,H2,I2,r2,w,e,st2,ev',ev2,is2,rs2,q3⟩=>?_;subst ev';obtain⟨uw,rfl,rw'⟩:=r2.one;obtain⟨p1,p2,hd,j,dj,hjd,hit,hno,hQ⟩:=q3;have is':=is.mono (ev2.tk rs);obtain⟨q,vs,rfl,hsq,r⟩:=is'.tup_inv;cases r1;obtain⟨its,rv,pl,hz⟩:=I2.tuple hsq;have hlen:its.length=ds.length:=by rw[←rv.length,←r.len]
  have hj:j<ds.length:=(List.getElem?_eq_some_iff.mp hjd).1;obtain⟨as,ra⟩:=u9 I2 is2 p1 rw';refine a80 (items:=its.toArray) (j:=j) (e:=fun i=>match ds[i]? with|some d=>deq d e|none=>false) (show s2.heap.IsTuple q its.toArray from pl) (by simpa[hlen]using hj) (fun i hi=>?_) (by rw[hjd];exact hit) (fun i hi=>?_) ?_
  ·have hi':i<ds.length:=by simpa[hlen]using hi
   have e1:ds[i]?=some ds[i]:=List.getElem?_eq_getElem hi';rw[e1];obtain⟨v,hv,isv⟩:=r.get e1;obtain⟨u,hu',ruv⟩:=rv.get hv;have pp:=ah9 p2 ds[i] (List.getElem_mem hi');obtain⟨bs,rb⟩:=u9 I2 isv pp ruv;have e2:its.toArray[i]=u:=by
    have:its[i]?=some its[i]:=List.getElem?_eq_getElem (by omega);rw[this]at hu';simpa using Option.some.inj hu'
   rw[e2];exact SeqAt.eqAt_reads _ _ X.A.in1 s2 u uw bs as rb ra (w8 _ pp) (w8 _ p1) (Q9 hu hd)
  ·have hi':i<ds.length:=by omega
   have e1:ds[i]?=some ds[i]:=List.getElem?_eq_getElem hi';rw[e1];exact hno i _ hi e1
  ·exact⟨.int j,H2,I2.tok _,⟨_,rfl⟩,((hq.after ev).after ev2).here (.int _) rs2 hQ⟩
 |ref a0=>
  obtain⟨ds0,hr0⟩:=q1;have ev1:=is.ref_inv;subst ev1;cases r1;obtain⟨vs0,hq0,_⟩:=rs.rd hr0;obtain⟨its0,_,pl0,_⟩:=I1.list hq0;refine⟨"list","list.index",PySem.F.plainAttrs_list,PySem.F.slot_list_index,PySem.F.type_list_index,pl0.isList.typeIs,fun a e=>?_,?_⟩
  ·cases e;obtain⟨o,n,g1,g2,g3,g4⟩:=pl0;exact⟨o,g1,g3⟩
  rw[j8 hs];refine Calls.callWith_builtin (by rfl) (Calls.evalArgs_plain ?_);refine thn hA0 fun us s2⟨vs,H2,I2,r2,w,e,st2,ev',ev2,is2,rs2,q3⟩=>?_;subst ev';obtain⟨uw,rfl,rw'⟩:=r2.one;obtain⟨ds,hr,p1,p2,hd,j,dj,hjd,hit,hno,hQ⟩:=q3;obtain⟨vs,hsq,r⟩:=rs2.rd hr;obtain⟨its,rv,pl,hz⟩:=I2.list hsq;have hlen:its.length=ds.length:=by rw[←rv.length,←r.len]
  have hj:j<ds.length:=(List.getElem?_eq_some_iff.mp hjd).1;obtain⟨as,ra⟩:=u9 I2 is2 p1 rw';have at':∀(i:Nat)(hi:i<ds.length),∃bs,Reads s2.heap (its[i]'(by omega)) (ds[i]).py bs∧(ds[i]).py.canLay0=true:=fun i hi=>by
   have e1:ds[i]?=some ds[i]:=List.getElem?_eq_getElem hi;obtain⟨v,hv,isv⟩:=r.get e1;obtain⟨u,hu',ruv⟩:=rv.get hv;have pp:=ah9 p2 ds[i] (List.getElem_mem hi);obtain⟨bs,rb⟩:=u9 I2 isv pp ruv;have e2:its[i]'(by omega)=u:=by
    have:its[i]?=some (its[i]'(by omega)):=List.getElem?_eq_getElem (by omega);rw[this]at hu';exact Option.some.inj hu'
   rw[e2];exact⟨bs,rb,w8 _ pp⟩
  refine a97 (items:=its.toArray) (j:=j) (e:=ao2 s2.heap e.py) pl.isList (by simpa[hlen]using hj) (by rw[List.size_toArray,←rv.length];exact hz) (fun y hy=>?_) ?_ (fun m hm hlt=>?_) ?_
  ·obtain⟨i,hi,rfl⟩:=List.mem_iff_getElem.mp (show y∈its by simpa using hy);obtain⟨bs,rb,cb⟩:=at' i (by omega);rw[aj3 rb cb];exact SeqAt.eqAt_reads _ _ X.A.in1 s2 _ uw bs as rb ra cb (w8 _ p1) (Q9 hu hd)
  ·obtain⟨bs,rb,cb⟩:=at' j hj;have e1:its.toArray[j]'(by simpa[hlen]using hj)=its[j]'(by omega):=by simp
   rw[e1,aj3 rb cb];have e2:dj=ds[j]:=by rw[List.getElem?_eq_getElem hj]at hjd;exact(Option.some.inj hjd).symm
   rw[e2]at hit;exact hit
  ·have hm':m<ds.length:=by omega
   obtain⟨bs,rb,cb⟩:=at' m hm';have e1:its.toArray[m]'hm=its[m]'(by omega):=by simp
   rw[e1,aj3 rb cb];exact hno m ds[m] hlt (List.getElem?_eq_getElem hm')
  ·exact⟨.int j,H2,I2.tok _,⟨_,rfl⟩,((hq.after ev).after ev2).here (.int _) rs2 hQ⟩
 |_=>exact q1.elim
end
end Ek
namespace Ek
open PySem PySem.Spec PyProof.Rows L2
variable [Tbs]
section
variable {X:Cx} {a b c:Expr} {ta tb tc:DT} {pos p:Pos}
noncomputable def DPs(X:Cx)(pos:Pos)(keys:List (Option Expr))(values:List Expr)(ks:List Str)(t:DA):Prop:=
 ∃trs,PPs X pos keys values trs∧∀(σ:L2.St)(H:Hp)(Q:List (V×V)→Hp→Prop),(∃env st Qd,RelE X.K H env σ∧RelS X.K st H∧t env st Qd ∧
  ∀vs ds H' st',Ev st H st' H'→IsDs X.K H' ds vs→ds.length=ks.length→RelS X.K st' H'→Qd ds st'→Q ((ks.zip vs).map fun kv=>(V.str kv.1,kv.2)) H')→L3 trs σ H Q
theorem bw6:DPs X pos [] [] [] (fun _ st Q=>Q [] st):=⟨[],bl7,fun σ H Q⟨env,st,Qd,hE,hS,ht,hq⟩=>hq [] [] H st Ev.refl .nil rfl hS ht⟩
theorem bm8{k:Str}{j:Nat}{kp:Pos}{ks:List Str}{keys:List (Option Expr)}{values:List Expr}{t:DA}(ha:PE X a (up X.K ta))(hr:DPs X pos keys values ks t):
  DPs X pos (some (.Constant (.str k) j kp)::keys) (a::values) (k::ks) (fun env st Q=>ta env st fun d st1=>t env st1 fun ds st2=>Q (d::ds) st2):=by
 obtain⟨trs,h1,h2⟩:=hr;refine⟨_,be3 ax8 ha h1,fun σ H Q⟨env,st,Qd,hE,hS,ht,hq⟩=>?_⟩;show up X.K ta σ H fun y H2=>L3 trs σ H2 fun ps H3=>Q ((V.str k,y)::ps) H3;exact⟨env,st,_,hE,hS,ht,fun v d H1 st1 ev is rs q1=>h2 σ H1 _ ⟨env,st1,_,hE.mono (ev.tk hS),rs,q1,fun vs ds H2 st2 ev2 is2 hl rs2 q2=>
  hq (v::vs) (d::ds) H2 st2 (ev.trans ev2) (.cons (is.mono (ev2.tk rs)) is2) (by simp[hl]) rs2 q2⟩⟩
theorem aq7:∀(more kvs:List (Key×V)),(∀k∈more.map (·.1),j7 kvs k=none)→(more.map (·.1)).Nodup→A3 kvs more=kvs++more
 |[],kvs,_,_=>by simp[A3]
 |(k,v)::r,kvs,h,nd=>by
  have nd':=List.nodup_cons.mp (show(k::r.map (·.1)).Nodup from nd);show A3 (t0 kvs k v) r=_;rw[at9 v (h k (by simp)),aq7 r _ (fun k' hk'=>?_) nd'.2,List.append_assoc]
  ·rfl
  ·have hne:k'≠k:=fun z=>nd'.1 (by rw[←z];exact hk');have h1:=h k' (by simp only[List.map_cons,List.mem_cons];exact .inr hk');unfold j7 at h1 ⊢;rw[Option.map_eq_none_iff]at h1 ⊢;rw[List.find?_append,h1];simp[Ne.symm hne]
theorem aq8:∀(ks:List Str)(ds:List D)(vs:List V)(w:Str)(d:D){K:W.Frag}{H:Hp},IsDs K H ds vs→j3 (ks.zip ds) w=some d→∃v,j7 ((ks.zip vs).map fun kv=>((Sum.inr kv.1:Key),kv.2)) (Sum.inr w)=some v∧IsD K H d v
 |[],ds,vs,w,d,K,H,r,h=>by simp[j3]at h
 |k::ks,[],vs,w,d,K,H,r,h=>by simp[j3]at h
 |k::ks,e::ds,vs,w,d,K,H,r,h=>by
  obtain⟨v,ws,rfl,h1,h2⟩:=r.inv_cons;simp only[List.zip_cons_cons,j3]at h
  by_cases hk:k=w
  ·rw[if_pos hk]at h;cases h;refine⟨v,?_,h1⟩;unfold j7;simp[hk]
  ·rw[if_neg hk]at h;obtain⟨v',h3,h4⟩:=aq8 ks ds ws w d h2 h;refine⟨v',?_,h4⟩;unfold j7 at h3 ⊢;simp only[List.zip_cons_cons,List.map_cons,List.find?_cons];have:decide ((Sum.inr k:Key)=Sum.inr w)=false:=decide_eq_false fun z=>hk (Sum.inr.inj z);rw[this];exact h3
theorem bn3{ks:List Str}{keys:List (Option Expr)}{values:List Expr}{t:DA}{dp:Pos}(hu:X.A.units+200<cLine)(hd:DPs X dp keys values ks t)(hall:keys.all (·.isSome)=true)(hl:keys.length=values.length)(h0:keys≠[])(hkl:keys.length=ks.length)(h15:keys.length≤15)(nd:ks.Nodup)
  (hb:PE X b (up X.K tb)) (hs:∀l u s p,b≠.Slice l u s p) :
  PE X (.Subscript (.Dict keys values dp) b pos) (up X.K fun env st Q=>t env st fun ds st1=>tb env st1 fun x st2=>∃w d,x=.str w∧j3 (ks.zip ds) w=some d∧Q d st2):=by
 obtain⟨trs,h1,h2⟩:=hd;refine PE.imp (bp8 (by omega) (bm1 h1 hall hl h0 h15) hb (ah5 hs)) fun σ H Q q=>?_;obtain⟨env,st,Qd,hE,hS,ht,hq⟩:=q;intro p hp;have sp:st p=none:=hS.free hp;refine h2 σ _ _ ⟨env,st,_,hE.mono (TK.new hp),hS.new hp,ht,fun vs ds H2 st2 ev2 is2 hl2 rs2 q2=>?_⟩;obtain⟨e2,sp2⟩:=ev2.get o4 sp (fun _=>nofun);refine⟨e2,(ks.zip vs).map fun kv=>((Sum.inr kv.1:Key),kv.2),by rw[List.map_map];rfl,?_,?_⟩
 ·rw[List.length_map,List.length_zip,←is2.len,hl2];omega
 have hm:A3 [] ((ks.zip vs).map fun kv=>((Sum.inr kv.1:Key),kv.2))=(ks.zip vs).map fun kv=>((Sum.inr kv.1:Key),kv.2):=by
  rw[aq7 _ [] (fun _ _=>rfl)]
  ·rfl
  ·rw[List.map_map];have:((fun x:Key×V=>x.1)∘fun kv:Str×V=>((Sum.inr kv.1:Key),kv.2))=(fun x:Str=>(Sum.inr x:Key))∘(fun kv:Str×V=>kv.1):=rfl;rw[this,←List.map_map];have e:(ks.zip vs).map (fun kv:Str×V=>kv.1)=ks:=by
    have:=List.map_fst_zip (l₁:=ks) (l₂:=vs) (by rw[←is2.len,hl2];exact Nat.le_refl _);exact this
   rw[e];exact List.Pairwise.map _ (fun a b hab z=>hab (Sum.inr.inj z)) nd
 rw[hm];have tk3:TK X.K H2 (upd H2 p (.dK ((ks.zip vs).map fun kv=>((Sum.inr kv.1:Key),kv.2)))):=TK.putD e2;have rs3:RelS X.K st2 (upd H2 p (.dK ((ks.zip vs).map fun kv=>((Sum.inr kv.1:Key),kv.2)))):=rs2.stay tk3 (fun c u z=>e8 fun w=>by rw[w,sp2]at z;cases z) (S8 (by rw[e2];exact fun _ z=>by cases z));refine⟨env,st2,_,((hE.mono (TK.new hp)).mono (ev2.tk (hS.new hp))).mono tk3,rs3,q2,fun y x H4 st4 ev4 is4 rs4 q4=>?_⟩;obtain⟨w,d,rfl,lk,q4⟩:=q4;obtain⟨e4,sp4⟩:=ev4.get o4 sp2 (fun _=>nofun);have is2':=(is2.mono tk3).mono (ev4.tk rs3);obtain⟨v,hv,isv⟩:=aq8 ks ds vs w d is2' lk;refine⟨p,v,rfl,?_,hq v d H4 st4 (fun c o hc hs=>?_) isv rs4 q4⟩
 ·rw[is4.str_inv,←hv];exact v3.k (k:=Sum.inr w) e4
 ·have ne:c≠p:=p0 hc hp;obtain⟨⟨o1,x1,t1⟩,y1⟩:=ev2 c o (by rw[e8 ne];exact hc) hs;obtain⟨⟨o2,x2,t2⟩,y2⟩:=ev4 c o1 (by rw[e8 ne];exact x1) y1;exact⟨⟨o2,x2,t1.trans t2⟩,y2⟩
noncomputable abbrev z4(h:Heap)(a:Addr)(T:List (Str×Value)):Prop:=KTD.TabOf (fun(d v:Value)=>v=d) h a T
theorem z4.typeIs{s:Shared}{a:Addr}{T:List (Str×Value)}(t:z4 s.heap a T):s.TypeIs (.ref a) "dict":=let⟨_,o,_,_,ho,hc,_⟩:=t;⟨o,ho,hc.1⟩
theorem z4.get{prog:Program}{w:World}{A:Around}{E:Value→Shared→Prop}{s:Shared}{a:Addr}{T:List (Str×Value)}{k:Str}{tk:Tok}{Q:Option Value→Shared→Prop}(t:z4 s.heap a T)
  (h:Q (KTD.datumAt k T) {s with toks:=s.toks+1}):wpAny (model prog w) A (dictGet a (.str k tk)) Q E s:=by
 obtain⟨_,o,⟨l⟩,ep,ho,hc,hd,hr⟩:=t;unfold dictGet
 try with_reducible refine wpAny_holding ?_
 refine wpAny_bind (wpAny_pyHash_str (wpAny_bind (KTD.kt_dictFind_strs (s:={s with toks:=s.toks+1}) ho hd (by simpa using hr.exact) ?_)));have e:KTD.datumAt k T=(l.find? fun e=>e.key.isStr k).map (·.val):=by
  cases hat:KTD.datumAt k T with
  |some d=>obtain⟨v,hv,rfl⟩:=hr.find_some hat;exact hv.symm
  |none=>exact(hr.find_none hat).symm
 have hf:findBy (fun k v=>v.isStr k) (⟨l⟩:Array DictEntry) k=KTD.datumAt k T:=by rw[e];simp[findBy]
 rw[←hf,findBy_of_findIdx?]at h;cases hi:(⟨l⟩:Array DictEntry).findIdx? fun e=>e.key.isStr k with
 |none=>rw[hi]at h;exact wpAny_pure h
 |some i=>rw[hi]at h;exact wpAny_bind (wpAny_dictEntries (s:={s with toks:=s.toks+1}) ho hd (wpAny_pure h))
theorem a82{prog:Program}{w:World}{A:Around}{E:Value→Shared→Prop}{s:Shared}{a:Addr}{T:List (Str×Value)}{k:Str}{tk:Tok}{u:Value}{Q:Value→Shared→Prop}(H:z4 s.heap a T)(hk:KTD.datumAt k T=some u)
  (h:Q u {s with toks:=s.toks+1}):wpAny (model prog w) A (getItem (.ref a) (.str k tk)) Q E s:=by
 unfold getItem
 try with_reducible refine wpAny_holding ?_
 refine wpAny_bind (wpAny_sequenceKey H.typeIs (by decide) ?_);refine wpAny_bind (wpAny_callSpecial?_slot (name:=Str.ofString "__getitem__") H.typeIs slot_dict_getitem
  (wpAny_call_entry slot_dict_getitem H.typeIs entry_dict_getitem ?_ (args_dict_getitem _ _)))
 show wpAny _ _ (dictGet a (.str k tk)>>=_) _ _ s;refine wpAny_bind (H.get ?_);rw[hk];exact wpAny_pure ⟨u,rfl,wpAny_pure h⟩
theorem z4.dget{prog:Program}{w:World}{A:Around}{E:Value→Shared→Prop}{s:Shared}{a:Addr}{T:List (Str×Value)}{k:Str}{tk:Tok}{r:Value}{Q:Value→Shared→Prop}(t:z4 s.heap a T)
  (h:Q ((KTD.datumAt k T).getD r) {s with toks:=s.toks+1}):wpAny (model prog w) A (call (.builtin "dict.get") [.ref a,.str k tk,r]) Q E s:=by
 refine wpAny_call_entry PySem.F.slot_dict_get t.typeIs PySem.F.entry_dict_get ?_ (PySem.F.args_dict_get_3 _ _ _);show wpAny _ _ (dictGet a (.str k tk)>>=_) _ _ s;refine wpAny_bind (t.get ?_);cases hf:KTD.datumAt k T with
 |some v=>rw[hf]at h;exact wpAny_pure ⟨v,rfl,h⟩
 |none=>
  rw[hf]at h;show wpAny _ _ (Builtin.Dict.missed a (.str k tk)>>=_) _ _ _;exact wpAny_bind (wpAny_missed_other t.1 (wpAny_pure ⟨r,rfl,h⟩))
structure GTab(P:Program)(w:World)(K:W.Frag)(mg:Str→Option Value)(g:Str)(kvs:List (Str×D)):Prop where
 ex:∃(a:Addr)(T:List (Str×Value)),mg g=some (.ref a)∧(∀h:Heap,K.In h→z4 h a T)∧(∀x d,j3 kvs x=some d→∃u v,KTD.datumAt x T=some u∧d7 v u∧∀H,IsD K H d v)∧∀x,j3 kvs x=none→KTD.datumAt x T=none
theorem bk1{g:Str}{kvs:List (Str×D)}(T:kvs≠[]→GTab X.prog X.w X.K X.mg g kvs)(hg:Gl X g)(hb:PE X b (up X.K tb))(hs:∀l u s p,b≠.Slice l u s p)(hdb:(g==("__debug__":Str))=false):
  PE X (.Subscript (.Name g p) b pos) (up X.K fun env st Q=>kvs≠[]∧tb env st fun x st1=>∃w d,x=.str w∧j3 kvs w=some d∧Q d st1):=by
 intro pins s σ H Q I q;obtain⟨env,st,Qd,hE,hS,⟨hne,ht⟩,hq⟩:=q;obtain⟨t,vs,hm,hT,hl,_⟩:=(T hne).ex;have q:up X.K (fun env st Q=>tb env st fun x st1=>∃w d,x=.str w∧j3 kvs w=some d∧Q d st1) σ H Q:=⟨env,st,Qd,hE,hS,ht,hq⟩;refine aw7 PySem.F.slot_dict_getitem.lookup (ah5 hs) (U6 I hg hm ?_ hdb);refine thn (hb pins s σ H (fun v H1=>∃(w:Str)(d:D),v=.str w∧j3 kvs w=some d∧∀v',IsD X.K H1 d v'→Q v' H1) I (up1 (f:=fun x st1 Q=>∃w d,x=.str w∧j3 kvs w=some d∧Q d st1) q fun v d H' st' Qd is rs ht hq=>?_)) fun iv s2⟨y,H2,I2,ry,w,d,ey,lk,q2⟩=>?_
 ·obtain⟨w,d,rfl,lk,ht⟩:=ht;exact⟨w,d,is.str_inv,lk,fun v' is'=>hq.here is' rs ht⟩
 ·subst ey;obtain⟨tt,rfl⟩:=ry;obtain⟨u,v',h1,rv,is'⟩:=hl w d lk;have hh:z4 s2.heap t vs:=hT s2.heap I2.kIn;exact⟨hh.typeIs,a82 hh h1 ⟨v',H2,I2.tok _,rv,q2 v' (is' H2)⟩⟩
theorem bp9{g:Str}{kvs:List (Str×D)}{apos:Pos}(T:kvs≠[]→GTab X.prog X.w X.K X.mg g kvs)(hg:Gl X g)(hb:PE X b (up X.K tb))(hc:PE X c (up X.K tc))(hs:∀e p,b≠.Starred e p)(hs2:∀e p,c≠.Starred e p)(hline:(apos.endLine==pos.line)=true)(hdb:(g==("__debug__":Str))=false):
  PE X (.Call (.Attribute (.Name g p) "get" apos) [b,c] [] pos) (up X.K fun env st Q=>kvs≠[]∧tb env st fun x st1=>tc env st1 fun y st2=>∃w,x=.str w∧Q ((j3 kvs w).getD y) st2):=by
 intro pins s σ H Q I q;obtain⟨env,st,Qd,hE,hS,⟨hne,ht⟩,hq⟩:=q;obtain⟨t,vs,hm,hT,hl,hno⟩:=(T hne).ex;have et:backTo pos (starEach [b,c] X.env)=[(false,eval b X.env),(false,eval c X.env)]:=by rw[j8 hs,j8 hs2];rfl
 refine wpAny_Call_method (A0 (fun _ _ _=>nofun)) (by rw[et];rfl) hline PySem.F.plainAttrs_dict PySem.F.slot_dict_get PySem.F.type_dict_get (U6 I hg hm ?_ hdb);have hh:z4 s.heap t vs:=hT s.heap I.kIn;refine⟨hh.typeIs,fun b e=>?_,?_⟩
 ·injection e with e
  subst e;obtain⟨_,o,_,_,ho,hc,_⟩:=hh;exact⟨o,ho,hc.2.1⟩
 ·rw[et];refine Calls.callWith_builtin rfl (Calls.evalArgs_plain (Calls.spliced_cons (thn (hb pins s σ H (fun v H1=>∃d st1,Ev st H st1 H1∧IsD X.K H1 d v∧RelS X.K st1 H1∧tc env st1 fun y st2=>∃w,d=.str w∧Qd ((j3 kvs w).getD y) st2) I ⟨env,st,_,hE,hS,ht,fun v d H' st' ev is rs q=>⟨d,st',ev,is,rs,q⟩⟩) fun iv s2⟨y,H2,I2,ry,d,st1,ev1,is1,rs1,q1⟩=>
   Calls.spliced_cons (thn (hc pins s2 σ H2 (fun v H3=>∃e st2,Ev st1 H2 st2 H3∧IsD X.K H3 e v∧RelS X.K st2 H3∧∃w,d=.str w∧Qd ((j3 kvs w).getD e) st2) I2 ⟨env,st1,_,hE.mono (ev1.tk hS),rs1,q1,fun v d H' st' ev is rs q=>⟨d,st',ev,is,rs,q⟩⟩) fun fv s3⟨z,H3,I3,rz,e,st2,ev2,is2,rs2,w,ew,q2⟩=>Calls.spliced_nil ?_))))
  subst ew;rw[is1.str_inv]at ry;obtain⟨tt,rfl⟩:=ry;refine(hT s3.heap I3.kIn).dget ?_;cases lk:j3 kvs w with
  |some dv=>
   obtain⟨u,v',h1,rv,is'⟩:=hl w dv lk;rw[lk]at q2;rw[h1];exact⟨v',H3,I3.tok _,rv,(hq.after (ev1.trans ev2)).here (is' H3) rs2 q2⟩
  |none=>
   rw[lk]at q2;rw[hno w lk];exact⟨z,H3,I3.tok _,rz,(hq.after (ev1.trans ev2)).here is2 rs2 q2⟩
noncomputable def A2:List D→List Value→Bool
 |[],[]=>true
 |.int i::ds,.int j _::us=>(i==j)&&A2 ds us
 |_,_=>false
noncomputable def L8(K:W.Frag):D→Value→Bool
 |.int j,.int i _=>i==j
 |.str y,.str x _=>x==y
 |.fn f,.ref a=>W.nsIn K mainGlobals f==some (some (.ref a))
 |.tup ds,.ref a=>Tbs.kt&&match K.lookup a with
  |some o=>(match o.data with|.seq its _=>(o.cls==.type "tuple")&&o.dict.isNone&&decide (its.size≤1000)&&A2 ds its.toList|_=>false)
  |none=>false
 |_,_=>false
theorem A2.is:∀{ds:List D}{us:List Value},A2 ds us=true→∃ns:List Int,ds=ns.map D.int∧d4 (ns.map V.int) us
 |[],[],_=>⟨[],rfl,.nil⟩
 |[],_::_,h=>by simp[A2]at h
 |d::ds,[],h=>by simp[A2]at h
 |d::ds,u::us,h=>by
  cases d<;>cases u<;>simp only[A2,Bool.and_eq_true,beq_iff_eq,Bool.false_eq_true]at h;rename_i i j t;obtain⟨rfl,h⟩:=h;obtain⟨ns,rfl,r⟩:=A2.is h;exact⟨i::ns,rfl,.cons ⟨_,rfl⟩ r⟩
theorem as5{K:W.Frag}{H:Hp}:∀ns:List Int,IsDs K H (ns.map D.int) (ns.map V.int)
 |[]=>.nil
 |n::r=>.cons (.int n) (as5 r)
theorem L8.is{K:W.Frag}{d:D}{u:Value}(h:L8 K d u=true):∃v,d7 v u∧∀H,IsD K H d v:=by
 cases d<;>cases u<;>simp only[L8,beq_iff_eq,Bool.false_eq_true]at h
 ·subst h;exact⟨.int _,⟨_,rfl⟩,fun H=>.int _⟩
 ·subst h;exact⟨.str _,⟨_,rfl⟩,fun H=>.str _⟩
 ·rename_i ds a;rw[Bool.and_eq_true]at h;obtain⟨hkt,h⟩:=h;cases hk:K.lookup a with
  |none=>rw[hk]at h;cases h
  |some o=>
   rw[hk]at h;simp only at h
   split at h
   ·rename_i its n hd;simp only[Bool.and_eq_true,beq_iff_eq,decide_eq_true_eq]at h;obtain⟨⟨⟨h1,h2⟩,h3⟩,h4⟩:=h;obtain⟨ns,rfl,r⟩:=A2.is h4;exact⟨.ref a,rfl,fun H=>IsD.mk (.inr ⟨hkt,.inr ⟨o,its,n,hk,h1,by simpa using h2,hd,Nat.le_trans h3 (by decide),r⟩⟩) (as5 ns)⟩
   ·cases h
 ·rename_i f a;exact⟨.ref a,rfl,fun H=>.fn h⟩
noncomputable def al1(K:W.Frag)(e:DictEntry)(p:Str×D):Bool:=(match e.key with|.str x _=>x==p.1|_=>false)&&L8 K p.2 e.val
noncomputable def F3(K:W.Frag):List DictEntry→List (Str×D)→Bool
 |[],[]=>true
 |e::es,p::ps=>al1 K e p&&F3 K es ps
 |_,_=>false
noncomputable def aa5(K:W.Frag)(a:Addr)(kvs:List (Str×D)):Bool:=match K.lookup a with
 |some ⟨c,dd,.dict es _,sl⟩=>(c==.type "dict")&&dd.isNone&&sl.isEmpty&&F3 K es.toList kvs&&!(a==sysModules)
 |_=>false
noncomputable def F8:List DictEntry→List (Str×D)→List (Str×Value)
 |e::es,(x,_)::r=>(x,e.val)::F8 es r
 |_,_=>[]
theorem aw2{K:W.Frag}:∀(es:List DictEntry)(kvs:List (Str×D)),F3 K es kvs=true→KTD.Rows (fun(d v:Value)=>v=d) es (F8 es kvs)
 |[],[],_=>.nil
 |[],_::_,h'=>by cases h'
 |_::_,[],h'=>by cases h'
 |e::es,(x,d)::ps,h'=>by
  simp only[F3,al1,Bool.and_eq_true]at h';obtain⟨⟨h1,_⟩,h2⟩:=h'
  split at h1
  ·rename_i y t ek;have:y=x:=by simpa using h1
   subst this;exact .cons ek rfl (aw2 es ps h2)
  ·cases h1
theorem ai9{K:W.Frag}:∀(kvs:List (Str×D))(es:List DictEntry),F3 K es kvs=true→∀x,(∀d,j3 kvs x=some d→∃u v,KTD.datumAt x (F8 es kvs)=some u∧d7 v u∧∀H,IsD K H d v)∧(j3 kvs x=none→KTD.datumAt x (F8 es kvs)=none)
 |[],[],_,x=>⟨fun d h=>(nomatch h),fun _=>rfl⟩
 |[],_::_,h',x=>by cases h'
 |(y,e)::r,[],h',x=>by cases h'
 |(y,e)::r,en::es,h',x=>by
  simp only[F3,al1,Bool.and_eq_true]at h';obtain⟨⟨_,h1⟩,h2⟩:=h';have ih:=ai9 r es h2 x;simp only[j3,F8,KTD.datumAt]
  by_cases hy:y=x
  ·rw[if_pos hy,if_pos (by simp[hy])];obtain⟨v,rv,is⟩:=L8.is h1;exact⟨fun d h=>by cases h;exact⟨_,v,rfl,rv,is⟩,fun h=>by cases h⟩
  ·rw[if_neg hy,if_neg (by simp[Ne.symm hy])];exact ih
theorem aw9{P:Program}{w:World}{K:W.Frag}{mg:Str→Option Value}{h:Heap}{g:Str}{kvs:List (Str×D)}{a:Addr}(Xk:K.In h)(G:h.Ns mainGlobals mg)(a1:W.nsIn K mainGlobals g=some (some (.ref a)))(t1:aa5 K a kvs=true):GTab P w K mg g kvs:=by
 unfold aa5 at t1
 split at t1
 ·rename_i c dd es ep sl hk;simp only[Bool.and_eq_true,beq_iff_eq,Bool.not_eq_true']at t1;obtain⟨⟨⟨⟨e1,e2⟩,e3⟩,e4⟩,e5⟩:=t1;refine⟨a,F8 es.toList kvs,W.mg_of Xk G a1,fun h' hK'=>⟨e5,_,es,ep,hK' a _ hk,⟨e1,by simpa using e2,by simpa using e3⟩,rfl,aw2 _ _ e4⟩,fun x d lk=>(ai9 kvs _ e4 x).1 d lk,fun x=>(ai9 kvs _ e4 x).2⟩
 ·cases t1
end
end Ek
namespace Ek
open PySem PySem.Spec PyProof.Rows L2
variable [Tbs]
section
variable {X:Cx} {a b c:Expr} {ta tb tc:DT} {pos p:Pos}
structure ItOk(K:W.Frag)(H1:Hp)(J:L2.It)(items:List D)(chk:Sto→Prop):Prop where
 go:∀(i:Nat)st H,TK K H1 H→RelS K st H→chk st→i<items.length→J.go i H
 yld:∀(i:Nat)st H x H',TK K H1 H→RelS K st H→chk st→i<items.length→J.yld i H x H'→∃d,items[i]?=some d∧IsD K H' d x∧Ev st H st H'∧RelS K st H'
 stop:∀st H,TK K H1 H→RelS K st H→chk st→J.stop items.length H
noncomputable def upI(K:W.Frag)(t:d8→Sto→ItK→Prop):TI:=fun σ H R=>∃env st k,RelE K H env σ∧RelS K st H∧t env st k∧∀items chk st' H' J,Ev st H st' H'→RelS K st' H'→ItOk K H' J items chk→k items chk st'→R J H'
theorem _root_.L2.PI.imp{X:Cx}{tg x:Expr}{t t':TI}(h:PI X tg x t)(i:∀σ H Q,t' σ H Q→t σ H Q):PI X tg x t':=fun pins s σ H Q I q=>h pins s σ H Q I (i σ H Q q)
variable {K:W.Frag}
theorem bx1{q:Addr}{ds:List D}{vs:List V}{H1:Hp}(hq:SqT K H1 q vs)(r:IsDs K H1 ds vs):ItOk K H1 (Itt K q) ds (fun _=>True) where
 go:=fun i st H tk rs _ hi=>by
  obtain⟨v,hv,_⟩:=r.get (List.getElem?_eq_getElem hi);exact⟨vs,v,tk.1.1 _ _ hq,hv⟩
 yld:=fun i st H x H' tk rs _ hi y=>by
  obtain⟨rfl,y⟩:=y;obtain⟨d,hd,is⟩:=r.get' (y vs (tk.1.1 _ _ hq));exact⟨d,hd,is.mono tk,Ev.refl,rs⟩
 stop:=fun st H tk rs _=>⟨vs,tk.1.1 _ _ hq,by rw[r.len];exact Nat.le_refl _⟩
theorem bq4{q:Addr}{ds:List D}{H1:Hp}:ItOk K H1 (Itl K q) ds (fun st=>rdS st q ds) where
 go:=fun i st H tk rs hc hi=>by
  obtain⟨vs,hs,r⟩:=rs.rd hc;obtain⟨v,hv,_⟩:=r.get (List.getElem?_eq_getElem hi);exact⟨vs,v,hs,hv⟩
 yld:=fun i st H x H' tk rs hc hi y=>by
  obtain⟨rfl,y⟩:=y;obtain⟨vs,hs,r⟩:=rs.rd hc;obtain⟨d,hd,is⟩:=r.get' (y vs hs);exact⟨d,hd,is,Ev.refl,rs⟩
 stop:=fun st H tk rs hc=>by
  obtain⟨vs,hs,r⟩:=rs.rd hc;exact⟨vs,hs,by rw[r.len];exact Nat.le_refl _⟩
theorem az6{lo:Int}{n:Nat}{H1:Hp}:ItOk K H1 (Itr lo n) (m8 lo n) (fun _=>True) where
 go:=fun i st H tk rs _ hi=>by show i<n;simpa[m8]using hi
 yld:=fun i st H x H' tk rs _ hi y=>by
  obtain⟨rfl,rfl⟩:=y;have hi':i<n:=by simpa[m8]using hi
  exact⟨.int (lo+i),by simp[m8,hi'],.int _,Ev.refl,rs⟩
 stop:=fun st H tk rs _=>by show n≤(m8 lo n).length;simp[m8]
theorem ah8:∀(ds:List D)(k:Nat),(j2 k ds).length=ds.length
 |[],_=>rfl
 |d::ds,k=>by simp[j2,ah8 ds (k+1)]
theorem ar8:∀(ds:List D)(k i:Nat)(d:D),ds[i]?=some d→(j2 k ds)[i]?=some (.tup [.int ((k+i:Nat):Int),d])
 |[],k,i,d,h=>by simp at h
 |e::ds,k,0,d,h=>by simp at h;subst h;rfl
 |e::ds,k,i+1,d,h=>by
  have:=ar8 ds (k+1) i d (by simpa using h);have e:k+(i+1)=k+1+i:=by omega
  rw[e];simpa[j2]using this
theorem av5{sq:Hp→List V→Prop}{ds:List D}{H1:Hp}{chk:Sto→Prop}(h:∀st H,TK K H1 H→RelS K st H→chk st→∃vs,sq H vs∧IsDs K H ds vs):ItOk K H1 (Ite K sq) (j2 0 ds) chk where
 go:=fun i st H tk rs hc hi=>by
  obtain⟨vs,hs,r⟩:=h st H tk rs hc;rw[ah8]at hi;obtain⟨v,hv,_⟩:=r.get (List.getElem?_eq_getElem hi);exact⟨vs,v,hs,hv⟩
 yld:=fun i st H x H' tk rs hc hi y=>by
  obtain⟨t,v,ht,rfl,rfl,y⟩:=y;obtain⟨vs,hs,r⟩:=h st H tk rs hc;obtain⟨d,hd,is⟩:=r.get' (y vs hs);refine⟨_,ar8 ds 0 i d hd,IsD.mk (SqX.of o4) (.cons ?_ (.cons (is.mono (TK.new ht)) .nil)),Ev.new ht,rs.new ht⟩;have e:((0+i:Nat):Int)=(i:Int):=by simp
  rw[e];exact .int _
 stop:=fun st H tk rs hc=>by
  obtain⟨vs,hs,r⟩:=h st H tk rs hc;exact⟨vs,hs,by rw[ah8,r.len]⟩
theorem by0{q:Addr}{ds:List D}{H1:Hp}:ItOk K H1 (Itv K q ds.length) ds.reverse (fun st=>rdS st q ds) where
 go:=fun i st H tk rs hc hi=>by
  obtain⟨vs,hs,r⟩:=rs.rd hc;exact⟨⟨vs,hs,r.len.symm⟩,by simpa using hi⟩
 yld:=fun i st H x H' tk rs hc hi y=>by
  obtain⟨rfl,y⟩:=y;obtain⟨vs,hs,r⟩:=rs.rd hc;have hi':i<ds.length:=by simpa using hi
  obtain⟨d,hd,is⟩:=r.get' (y vs hs);exact⟨d,by rw[List.getElem?_reverse hi'];exact hd,is,Ev.refl,rs⟩
 stop:=fun st H tk rs hc=>by
  obtain⟨vs,hs,r⟩:=rs.rd hc;exact⟨⟨vs,hs,r.len.symm⟩,by simp⟩
variable {tg:Expr}
theorem bq7(ha:PE X a (up X.K ta)):PI X tg a (upI X.K fun env st k=>ta env st fun d st1=>(∃ds,d=.tup ds∧k ds (fun _=>True) st1)∨(∃a ds,d=.ref a∧rdS st1 a ds∧k ds (fun st'=>rdS st' a ds) st1)):=by
 intro pins s σ H R I q;obtain⟨env,st,kk,hE,hS,ht,hq⟩:=q;refine thn (ha pins s σ H (fun v H1=>∃d st1,Ev st H st1 H1∧IsD X.K H1 d v∧RelS X.K st1 H1∧((∃ds,d=.tup ds∧kk ds (fun _=>True) st1)∨(∃a ds,d=.ref a∧rdS st1 a ds∧kk ds (fun st'=>rdS st' a ds) st1))) I ⟨env,st,_,hE,hS,ht,fun v d H1 st1 ev is rs q1=>⟨d,st1,ev,is,rs,q1⟩⟩) fun u s1⟨v,H1,I1,r1,d,st1,ev,is,rs,q1⟩=>?_
 rcases q1 with⟨ds,rfl,q1⟩|⟨q,ds,rfl,hr,q1⟩
 ·obtain⟨q,vs,rfl,hsq,r⟩:=is.tup_inv;cases r1;obtain⟨its,rv,pl,hz⟩:=I1.tuple hsq;refine wpAny_pyIter_tuple (show s1.heap.IsTuple q its.toArray from pl) ?_;refine⟨s1.heap.objs.size,[s1.heap.objs.size],_,_,H1,rfl,I1.kept (t':=s1.toks) fun b o e=>Heap.get?_push_of_some _ e,a88 q _,⟨_,Heap.get?_push_size _ rfl,rfl,rfl⟩,fun b hb=>?_,hq ds _ st1 H1 _ ev rs (bx1 hsq r) q1⟩;have e:b=s1.heap.objs.size:=by simpa using hb
  subst e;exact I1.fpOk (Nat.le_refl _) (I1.hok.fresh (Nat.le_refl _))
 ·rw[is.ref_inv]at r1;cases r1;obtain⟨vs,hsq,r⟩:=rs.rd hr;obtain⟨its,rv,pl,hz⟩:=I1.list hsq;refine wpAny_pyIter_list pl.isList ?_;refine⟨s1.heap.objs.size,[s1.heap.objs.size],_,_,H1,rfl,I1.kept (t':=s1.toks) fun b o e=>Heap.get?_push_of_some _ e,bd0 q _,⟨_,Heap.get?_push_size _ rfl,rfl,rfl⟩,fun b hb=>?_,hq ds _ st1 H1 _ ev rs bq4 q1⟩;have e:b=s1.heap.objs.size:=by simpa using hb
  subst e;exact I1.fpOk (Nat.le_refl _) (I1.hok.fresh (Nat.le_refl _))
theorem bq5(hg:Gl X "range")(hm:X.mg "range"=none)(ha:PE X a (up X.K ta))(hs:∀e p,a≠.Starred e p):PI X tg (.Call (.Name "range" p) [a] [] pos) (upI X.K fun env st k=>ta env st fun d st1=>∃j:Int,d=.int j∧(-(2^62)≤j∧j<2^62)∧k (m8 0 j.toNat) (fun _=>True) st1):=
 PI.imp (ba9 hg hm (B7 ha hs) (by rw[j8 hs];rfl)) fun σ H R q=>by
  obtain⟨env,st,kk,hE,hS,ht,hq⟩:=q;refine⟨env,st,(fun ds st1=>match ds with|[d]=>∃j:Int,d=.int j∧(-(2^62)≤j∧j<2^62)∧kk (m8 0 j.toNat) (fun _=>True) st1|_=>False),hE,hS,ht,fun vs ds H' st' ev is hl rs q1=>?_⟩
  match ds,hl with
  |[d],_=>
   obtain⟨v,ws,rfl,i1,i2⟩:=is.inv_cons;rw[i2.inv_nil];obtain⟨j,rfl,hj,q1⟩:=q1;exact⟨j,by rw[i1.int_inv],hj.1,hj.2,hq _ _ st' H' _ ev rs az6 q1⟩
theorem bo9(hg:Gl X "range")(hm:X.mg "range"=none)(ha:PE X a (up X.K ta))(hb:PE X b (up X.K tb))(hs:∀e p,a≠.Starred e p)(hs':∀e p,b≠.Starred e p):PI X tg (.Call (.Name "range" p) [a,b] [] pos) (upI X.K fun env st k=>ta env st fun d st1=>tb env st1 fun e st2=>∃i j:Int,d=.int i∧e=.int j∧(-(2^62)≤i∧i<2^62∧-(2^62)≤j∧j<2^62)∧k (m8 i (j-i).toNat) (fun _=>True) st2):=
 PI.imp (bc0 hg hm (az4 ha hb hs hs') (by rw[j8 hs,j8 hs'];rfl) (by rw[j8 hs'];rfl)) fun σ H R q=>by
  obtain⟨env,st,kk,hE,hS,ht,hq⟩:=q;refine⟨env,st,(fun ds st1=>match ds with|[d,e]=>∃i j:Int,d=.int i∧e=.int j∧(-(2^62)≤i∧i<2^62∧-(2^62)≤j∧j<2^62)∧kk (m8 i (j-i).toNat) (fun _=>True) st1|_=>False),hE,hS,ht,fun vs ds H' st' ev is hl rs q1=>?_⟩
  match ds,hl with
  |[d,e],_=>
   obtain⟨v,ws,rfl,i1,i2⟩:=is.inv_cons;obtain⟨w,ws',rfl,i3,i4⟩:=i2.inv_cons;rw[i4.inv_nil];obtain⟨i,j,rfl,rfl,hj,q1⟩:=q1;exact⟨i,j,by rw[i1.int_inv,i3.int_inv],hj,hq _ _ st' H' _ ev rs az6 q1⟩
theorem bn8{elts:List Expr}{k0:Nat}{tp:Pos}(hg:Gl X "enumerate")(hm:X.mg "enumerate"=none)(ha:PE X a (up X.K ta))(hs:∀e p,a≠.Starred e p):PI X (.Tuple elts k0 tp) (.Call (.Name "enumerate" p) [a] [] pos)
  (upI X.K fun env st k=>ta env st fun d st1=>(∃ds,d=.tup ds∧k (j2 0 ds) (fun _=>True) st1)∨(∃a ds,d=.ref a∧rdS st1 a ds∧k (j2 0 ds) (fun st'=>rdS st' a ds) st1)):=by
 have hst:starEach [a] X.env=[(false,eval a X.env)]:=by rw[j8 hs];rfl
 intro pins s σ H R I q;obtain⟨env,st,kk,hE,hS,ht,hq⟩:=q;have hA:=B7 ha hs;refine Call_ (F2 I hg hm L2.a51 (PyProof.Rows.callWith_type1 (thn (hA pos pins s σ H (fun vs H1=>∃v d st1,vs=[v]∧Ev st H st1 H1∧IsD X.K H1 d v∧RelS X.K st1 H1∧((∃ds,d=.tup ds∧kk (j2 0 ds) (fun _=>True) st1)∨(∃a ds,d=.ref a∧rdS st1 a ds∧kk (j2 0 ds) (fun st'=>rdS st' a ds) st1))) I
  ⟨env,st,(fun ds st1=>match ds with|[d]=>(∃ds,d=.tup ds∧kk (j2 0 ds) (fun _=>True) st1)∨(∃a ds,d=.ref a∧rdS st1 a ds∧kk (j2 0 ds) (fun st'=>rdS st' a ds) st1)|_=>False),hE,hS,ht,fun vs ds H' st' ev is hl rs q1=>by
   match ds,hl with
   |[d],_=>
    obtain⟨v,ws,rfl,i1,i2⟩:=is.inv_cons;rw[i2.inv_nil];exact⟨v,d,st',rfl,ev,i1,rs,q1⟩⟩) fun us s1⟨vs,H1,I1,r1,v,d,st1,e1,ev,is,rs,q1⟩=>?_) hst rfl))
 subst e1;obtain⟨u,rfl,ru⟩:=r1.one
 rcases q1 with⟨ds,rfl,q1⟩|⟨q,ds,rfl,hr,q1⟩
 ·obtain⟨l,vs,rfl,hsq,r⟩:=is.tup_inv;cases ru;exact bi1 I1 hsq (hq _ _ st1 H1 _ ev rs (av5 fun st H tk rs _=>⟨vs,tk.1.1 _ _ hsq,r.mono tk⟩) q1)
 ·rw[is.ref_inv]at ru;cases ru;obtain⟨vs,hsq,r⟩:=rs.rd hr;exact bh1 I1 hsq (hq _ _ st1 H1 _ ev rs (av5 fun st H tk rs hc=>rs.rd hc) q1)
theorem bv2(hg:Gl X "reversed")(hm:X.mg "reversed"=none)(ha:PE X a (up X.K ta))(hs:∀e p,a≠.Starred e p):PI X tg (.Call (.Name "reversed" p) [a] [] pos) (upI X.K fun env st k=>ta env st fun d st1=>∃a ds,d=.ref a∧rdS st1 a ds∧k ds.reverse (fun st'=>rdS st' a ds) st1):=
 PI.imp (bl1 hg hm (B7 ha hs) (by rw[j8 hs];rfl)) fun σ H R q=>by
  obtain⟨env,st,kk,hE,hS,ht,hq⟩:=q;refine⟨env,st,(fun ds st1=>match ds with|[d]=>∃a ds,d=.ref a∧rdS st1 a ds∧kk ds.reverse (fun st'=>rdS st' a ds) st1|_=>False),hE,hS,ht,fun vs ds H' st' ev is hl rs q1=>?_⟩
  match ds,hl with
  |[d],_=>
   obtain⟨v,ws,rfl,i1,i2⟩:=is.inv_cons;rw[i2.inv_nil];obtain⟨q,ds,rfl,hr,q1⟩:=q1;obtain⟨vs,hsq,r⟩:=rs.rd hr;exact⟨q,vs,by rw[i1.ref_inv],hsq,by rw[←r.len];exact hq _ _ st' H' _ ev rs by0 q1⟩
end
end Ek
namespace PySem
end PySem
namespace PySem
end PySem
namespace L2
open PySem PySem.Spec PyProof.Rows
end L2
namespace L2
open PySem PySem.Spec PyProof.Rows
section
variable {X:Cx}
noncomputable def b83:V→List V→Hp→VK→Prop:=fun x vs H Q=>∃l xs,x=.ref l∧vs=[]∧H l=some (.lst xs)∧Q .non (upd H l (.lst xs.reverse))
theorem bv5:MtM X "list.reverse" b83:=by
 intro pins s σ H x vs v us Q I rx rv h;obtain⟨l,xs,rfl,rfl,hH,q⟩:=h;cases rx;have hus:=rv.zero;subst hus;obtain⟨z,its,n,r,hl,e⟩:=I.lstM hH;refine call_meets F.slot_list_reverse ⟨_,e,rfl⟩ F.entry_list_reverse (F.args_list_reverse_1 _) (AutoSeq1.list_reverse_list_0 l its.toArray n (by rw[List.size_toArray];omega)) ⟨e,?_⟩;refine⟨.non,_,I.lset (its':=its.reverse) hH e ?_ r.reverse ?_,rfl,q⟩
 ·simp
 ·rw[List.length_reverse];omega
end
end L2
namespace Ek
open PySem PySem.Spec PyProof.Rows L2
variable [Tbs]
section
variable {X:Cx} {a:Expr} {ta:DT} {pos:Pos}
theorem bp0{apos:Pos}(ha:PE X a (up X.K ta))(hbase:∀i p p',a≠.Call (.Name i p) [] [] p')(hline:(apos.endLine==pos.line)=true):
  PE X (.Call (.Attribute a "reverse" apos) [] [] pos) (up X.K fun env st Q=>ta env st fun x st1=>N5 x st1 Q):=
 PE.imp (az1 PySem.F.plainAttrs_list PySem.F.slot_list_reverse PySem.F.type_list_reverse bv5 ha (A0 hbase) hline) fun σ H Q q=>up1 (f:=N5) q fun v d H' st' Qd is rs ht hq=>by
  cases d<;>first|exact False.elim ht|skip
  obtain⟨ds,hr,ht⟩:=ht;obtain⟨vs,hH,r⟩:=rs.lst hr;rw[is.ref_inv];exact⟨.inl ⟨rfl,vs,.inl (.inl hH)⟩,_,vs,rfl,rfl,hH,hq _ _ _ (d3 st' _ (.lst ds.reverse)) (Ev.put hr) .non (rs.putOld hH r.rev) ht⟩
end
end Ek
namespace PySem
open PyProof.Rows
namespace F
end F
end PySem
namespace PySem
open PyProof.Rows
end PySem
namespace PySem
open PyProof.Rows
end PySem
namespace PySem
open PyProof.Rows
end PySem
namespace PySem
open PyProof.Rows
end PySem
namespace L2
open PySem PySem.Spec PyProof.Rows
end L2
namespace Ek
open PySem PySem.Spec PyProof.Rows L2
variable [Tbs]
end Ek
namespace Ek
open PySem PySem.Spec PyProof.Rows L2
variable [Tbs]
end Ek
namespace PySem
end PySem
namespace Ek
open PySem PySem.Spec PyProof.Rows L2
variable [Tbs]
end Ek
namespace Ek
open PySem PySem.Spec PyProof.Rows L2
variable [Tbs]
section
variable {X:Cx} {a b c:Expr} {ta tb tc:DT} {pos p:Pos} {K:W.Frag}
noncomputable def upG(K:W.Frag)(t:Tg):TG:=fun v σ H Q=>∃d env k,IsD K H d v∧RelE K H env σ∧A5 t d env k∧∀env' σ',RelE K H env' σ'→k env'→Q σ' H
theorem _root_.L2.PG.imp{X:Cx}{x:Expr}{t t':TG}(h:PG X x t)(i:∀v σ H Q,t' v σ H Q→t v σ H Q):PG X x t':=fun pins s σ H v u Q I r q=>h pins s σ H v u Q I r (i v σ H Q q)
theorem bl4{i:Nat}{x:Str}(hN:X.N.Nodup)(hi:X.N[i]?=some x)(hx:Loc X.env.scope x)(hf:X.fn x=true∨X.env.scope.names.lookup x=some .local):PG X (.Name x pos) (upG X.K (.n i)):=
 PG.imp (aw0 hN hi hx hf) fun v σ H Q q=>by
  obtain⟨d,env,k,is,hE,ht,hq⟩:=q;exact hq _ _ (hE.set is i) ht
noncomputable def ae3:List Nat→TGs
 |[]=>a28
 |i::is=>a27 (al9 i) (ae3 is)
theorem az3{K:W.Frag}{H:Hp}{Q:L2.St→Hp→Prop}{k:d8→Prop}:∀(is:List Nat)(ds:List D)(vs:List V)(env:d8)(σ:L2.St),ds.length=is.length→IsDs K H ds vs→RelE K H env σ→k (D5 env is ds)→(∀env' σ',RelE K H env' σ'→k env'→Q σ' H)→ae3 is vs σ H Q
 |[],[],vs,env,σ,_,r,hE,ht,hq=>⟨r.inv_nil,hq _ _ hE ht⟩
 |i::is,d::ds,vs,env,σ,hl,r,hE,ht,hq=>by
  obtain⟨v,ws,rfl,h1,h2⟩:=r.inv_cons;exact⟨v,ws,rfl,az3 is ds ws _ _ (by simpa using hl) h2 (hE.set h1 i) ht hq⟩
 |[],d::ds,vs,env,σ,hl,_,_,_,_=>by simp at hl
 |i::is,[],vs,env,σ,hl,_,_,_,_=>by simp at hl
theorem by5{es:List Expr}{k0:Nat}{is:List Nat}(hc:X.calm=true)(h:PGs X es (ae3 is))(hn:(assignEach es X.env).length=is.length)(hst:(assignEach es X.env).findIdx? (·.1)=none):PG X (.Tuple es k0 pos) (upG X.K (.tup is)):=
 PG.imp (bt2 hc h hn hst) fun v σ H Q q=>by
  obtain⟨d,env,k,i1,hE,⟨ds,rfl,hl,ht⟩,hq⟩:=q;obtain⟨q,vs,rfl,hsq,r⟩:=i1.tup_inv;exact⟨q,vs,rfl,hsq,by rw[←r.len];exact hl,az3 is ds vs env σ hl r hE ht hq⟩
structure EndsR(K:W.Frag)(st:Sto)(H:Hp)(Fd:DEnds)(F:Ends):Prop where
 nx:∀env σ H' st',Ev st H st' H'→RelE K H' env σ→RelS K st' H'→Fd.nx env st'→F.nx σ H'
 bk:∀env σ H' st',Ev st H st' H'→RelE K H' env σ→RelS K st' H'→Fd.bk env st'→F.bk σ H'
 ct:∀env σ H' st',Ev st H st' H'→RelE K H' env σ→RelS K st' H'→Fd.ct env st'→F.ct σ H'
 rt:o7 K st H Fd.rt F.rt
theorem EndsR.after{st st1:Sto}{H H1:Hp}{Fd:DEnds}{F:Ends}(e:EndsR K st H Fd F)(ev:Ev st H st1 H1):EndsR K st1 H1 Fd F:=
 ⟨fun env σ H' st' ev'=>e.nx env σ H' st' (ev.trans ev'),fun env σ H' st' ev'=>e.bk env σ H' st' (ev.trans ev'),fun env σ H' st' ev'=>e.ct env σ H' st' (ev.trans ev'),e.rt.after ev⟩
noncomputable def upS(K:W.Frag)(t:DS):TS:=fun F σ H=>∃env st Fd,RelE K H env σ∧RelS K st H∧t Fd env st∧EndsR K st H Fd F
variable {t u:DS} {s1:Stmt} {d9:List Stmt}
theorem bv3:PSs X [] (upS X.K fun F env st=>F.nx env st):=PSs.imp bo8 fun F σ H⟨env,st,Fd,hE,hS,ht,hq⟩=>hq.nx env σ H st Ev.refl hE hS ht
theorem bp7(h1:PS X s1 (upS X.K t))(h2:PSs X d9 (upS X.K u)):PSs X (s1::d9) (upS X.K fun F env st=>t {F with nx:=u F} env st):=
 PSs.imp (bi5 h1 h2) fun F σ H⟨env,st,Fd,hE,hS,ht,hq⟩=>⟨env,st,{Fd with nx:=u Fd},hE,hS,ht,fun env' σ' H' st' ev hE' hS' q=>⟨env',st',Fd,hE',hS',q,hq.after ev⟩,hq.bk,hq.ct,hq.rt⟩
theorem ak6{i:Nat}{x:Str}{pos':Pos}(hN:X.N.Nodup)(hi:X.N[i]?=some x)(hx:Loc X.env.scope x)(ha:PE X a (up X.K ta))(hs:swapsWith a (some (.Name x pos')) pos.line X.env=pure false)(hf:X.fn x=true∨X.env.scope.names.lookup x=some .local):
  PS X (.Assign [.Name x pos'] a pos) (upS X.K fun F env st=>ta env st fun d st1=>F.nx (env.set i (some d)) st1):=
 PS.imp (bt0 hN hi hx ha hs hf) fun F σ H⟨env,st,Fd,hE,hS,ht,hq⟩=>⟨env,st,_,hE,hS,ht,fun v d H' st' ev is rs q=>hq.nx _ _ H' st' ev ((hE.mono (ev.tk hS)).set is i) rs q⟩
theorem br2{o i v:Expr}{to ti tv:DT}{pos':Pos}(hv:PE X v (up X.K tv))(ho:PE X o (up X.K to))(hi:PE X i (up X.K ti))
  (hsub:∀w,assign (.Subscript o i pos') X.env w=(do
   let ov ←holding [w] (eval o X.env)
   let iv ←holding [w,ov] (eval i X.env)
   standAt pos'
   holding [w,ov,iv] (setItem ov iv w)
   release [w,ov,iv] [])) (hs:swapsWithSole [.Subscript o i pos'] v pos.line X.env=pure false) (hw:swappedStores [.Subscript o i pos'] v X.env=pure none) :
  PS X (.Assign [.Subscript o i pos'] v pos) (upS X.K fun F env st=>tv env st fun d st1=>to env st1 fun x st2=>ti env st2 fun y st3=>∃a j k ds,x=.ref a∧y=.int j∧st3 a=some (.lst ds)∧ixN ds.length j=some k∧F.nx env (d3 st3 a (.lst (ds.set k d)))):=
 PS.imp (bt5 hv (bt3 ho hi be6 hsub) hs hw rfl) fun F σ H⟨env,st,Fd,hE,hS,ht,hq⟩=>⟨env,st,_,hE,hS,ht,fun w d H1 st1 ev1 is1 rs1 q1=>
  ⟨env,st1,_,hE.mono (ev1.tk hS),rs1,q1,fun ov x H2 st2 ev2 is2 rs2 q2=>⟨env,st2,_,(hE.mono (ev1.tk hS)).mono (ev2.tk rs1),rs2,q2,fun iv y H3 st3 ev3 is3 rs3 q3=>by
   obtain⟨q,j,k,ds,rfl,rfl,hr,hk,q3⟩:=q3;obtain⟨vs,hH,r⟩:=rs3.lst hr;have is1':=(is1.mono (ev2.tk rs1)).mono (ev3.tk rs2);refine⟨q,vs,j,k,(is2.mono (ev3.tk rs2)).ref_inv,is3.int_inv,hH,by rw[←r.len];exact hk,?_⟩;exact hq.nx env σ _ _ (((ev1.trans ev2).trans ev3).trans (Ev.put hr)) ((((hE.mono (ev1.tk hS)).mono (ev2.tk rs1)).mono (ev3.tk rs2)).mono (TK.put hH)) (rs3.putOld hH (r.set is1' k)) q3⟩⟩⟩
theorem b37(ha:PE X a (up X.K ta))(hs:swapsWith a none pos.line X.env=pure false):PS X (.Expr a pos) (upS X.K fun F env st=>ta env st fun _ st1=>F.nx env st1):=
 PS.imp (bo1 ha hs) fun F σ H⟨env,st,Fd,hE,hS,ht,hq⟩=>⟨env,st,_,hE,hS,ht,fun v d H' st' ev is rs q=>hq.nx _ _ H' st' ev (hE.mono (ev.tk hS)) rs q⟩
theorem bw1(ha:PE X a (up X.K ta)):PS X (.Return (some a) pos) (upS X.K fun F env st=>ta env st F.rt):=
 PS.imp (br4 ha) fun F σ H⟨env,st,Fd,hE,hS,ht,hq⟩=>⟨env,st,_,hE,hS,ht,hq.rt⟩
theorem bi8:PS X (.Return none pos) (upS X.K fun F _ st=>F.rt .non st):=PS.imp bn2 fun F σ H⟨env,st,Fd,hE,hS,ht,hq⟩=>hq.rt.here .non hS ht
theorem bl0:PS X (.Pass pos) (upS X.K fun F env st=>F.nx env st):=PS.imp bm4 fun F σ H⟨env,st,Fd,hE,hS,ht,hq⟩=>hq.nx env σ H st Ev.refl hE hS ht
theorem bz3{tc:DB}{x y:List Stmt}(hc:PT X c (upB X.K tc))(h1:PSs X x (upS X.K t))(h2:PSs X y (upS X.K u)):PS X (.If c x y pos) (upS X.K fun F env st=>tc env st fun k st1=>if k=true then t F env st1 else u F env st1):=
 PS.imp (b25 hc h1 h2) fun F σ H⟨env,st,Fd,hE,hS,ht,hq⟩=>⟨env,st,_,hE,hS,ht,fun k H' st' ev rs q=>by
  cases k with
  |true=>exact⟨env,st',Fd,hE.mono (ev.tk hS),rs,q,hq.after ev⟩
  |false=>exact⟨env,st',Fd,hE.mono (ev.tk hS),rs,q,hq.after ev⟩⟩
theorem bi0{tc:DB}{x:List Stmt}(hp:PassesOwn (model X.prog X.w) X.A X.env X.xe)(hc:PT X c (upB X.K tc))(h1:PSs X x (upS X.K t)):PS X (.While c x [] pos) (upS X.K fun F env st=>∃n,w6 tc t F n env st):=
 PS.imp (bh7 hp hc h1) fun F σ H⟨env,st,Fd,hE,hS,⟨n,ht⟩,hq⟩=>by
  refine⟨fun m σ' H'=>∃env' st',RelE X.K H' env' σ'∧RelS X.K st' H'∧Ev st H st' H'∧w6 tc t Fd m env' st',⟨n,env,st,hE,hS,Ev.refl,ht⟩,?_⟩;rintro m σ1 H1 ⟨env1,st1,hE1,hS1,ev1,w1⟩;cases m with
  |zero=>exact w1.elim
  |succ m=>
   refine⟨env1,st1,_,hE1,hS1,w1,fun k H2 st2 ev2 rs2 q2=>?_⟩;cases k with
   |false=>
    simp only[Bool.false_eq_true,if_false]at q2 ⊢;exact hq.nx env1 σ1 H2 st2 (ev1.trans ev2) (hE1.mono (ev2.tk hS1)) rs2 q2
   |true=>
    simp only[if_true]at q2 ⊢;refine⟨fun σ' H'=>∃env' st',RelE X.K H' env' σ'∧RelS X.K st' H'∧Ev st H st' H'∧w6 tc t Fd m env' st',fun σ' H' h=>⟨m,Nat.lt_succ_self _,h⟩,?_⟩;have hq2:=hq.after (ev1.trans ev2);have ev12:=ev1.trans ev2;exact⟨env1,st2,_,hE1.mono (ev2.tk hS1),rs2,q2,fun env' σ' H' st' ev hE' hS' q=>⟨env',st',hE',hS',ev12.trans ev,q⟩,hq2.nx,fun env' σ' H' st' ev hE' hS' q=>⟨env',st',hE',hS',ev12.trans ev,q⟩,hq2.rt⟩
theorem bu5{tg iter:Expr}{x:List Stmt}{ti:d8→Sto→ItK→Prop}{g:Tg}(hp:PassesOwn (model X.prog X.w) X.A X.env X.xe)(hc:X.calm=true)(hi:PI X tg iter (upI X.K ti))(hg:PG X tg (upG X.K g))(h1:PSs X x (upS X.K t))(hs:∀v,foldedSetIterable iter X.env v=pure v):
  PS X (.For tg iter x [] pos) (upS X.K fun F env st=>ti env st fun items chk st1=>n0 chk g t F items env st1):=
 PS.imp (bs4 hp hc hi hg h1 hs) fun F σ H⟨env,st,Fd,hE,hS,ht,hq⟩=>by
  refine⟨env,st,_,hE,hS,ht,fun items chk st1 H1 J ev1 rs1 ok q1=>?_⟩;refine⟨fun i m σ' H'=>m=items.length-i∧i≤items.length∧∃env' st',RelE X.K H' env' σ'∧RelS X.K st' H'∧Ev st H st' H'∧TK X.K H1 H'∧n0 chk g t Fd (items.drop i) env' st',⟨items.length,by simp,Nat.zero_le _,env,st1,hE.mono (ev1.tk hS),rs1,ev1,TK.refl,q1⟩,?_⟩;rintro i m σ2 H2 ⟨rfl,hi,env2,st2,hE2,hS2,ev2,tk2,w2⟩
  by_cases hlt:i<items.length
  ·right
   rw[List.drop_eq_getElem_cons hlt]at w2;obtain⟨hchk,w2⟩:=w2;refine⟨ok.go i st2 H2 tk2 hS2 hchk hlt,fun σ' H'=>i+1≤items.length∧∃env' st',RelE X.K H' env' σ'∧RelS X.K st' H'∧Ev st H st' H'∧TK X.K H1 H'∧n0 chk g t Fd (items.drop (i+1)) env' st',fun σ' H' h=>⟨items.length-(i+1),by omega,rfl,h⟩,fun v H3 y=>?_⟩;obtain⟨d,hd,is3,ev3,rs3⟩:=ok.yld i st2 H2 v H3 tk2 hS2 hchk hlt y;have ed:d=items[i]:=by rw[List.getElem?_eq_getElem hlt]at hd;exact(Option.some.inj hd).symm
   subst ed;refine⟨_,env2,_,is3,hE2.mono (ev3.tk hS2),w2,fun env4 σ4 hE4 q4=>?_⟩;have ev23:=ev2.trans ev3;have hq4:=hq.after ev23;have tk3:TK X.K H1 H3:=tk2.trans (ev3.tk hS2);exact⟨env4,st2,_,hE4,rs3,q4,fun env' σ' H' st' ev hE' hS' q=>⟨hlt,env',st',hE',hS',ev23.trans ev,tk3.trans (ev.tk rs3),q⟩,hq4.nx,fun env' σ' H' st' ev hE' hS' q=>⟨hlt,env',st',hE',hS',ev23.trans ev,tk3.trans (ev.tk rs3),q⟩,hq4.rt⟩
  ·left
   have e:i=items.length:=by omega
   subst e;rw[List.drop_length]at w2;exact⟨ok.stop st2 H2 tk2 hS2 w2.1,hq.nx env2 σ2 H2 st2 ev2 hE2 hS2 w2.2⟩
theorem bg7{H:Hp}{env:d8}{σ:L2.St}{fr:List Nat}{k:Nat}(r:RelE K H env σ):RelE K H (D4 fr k env) (y4 fr k σ):=by
 refine⟨by simp[D4,y4],fun i d h=>?_⟩;unfold D4 at h;unfold y4
 by_cases hi:i<fr.length
 ·rw[List.getElem?_append_left (by simpa using hi),List.getElem?_map]at h ⊢;rw[List.getElem?_eq_getElem hi]at h ⊢;simp only[Option.map_some,Option.some.injEq]at h ⊢;cases q:env[fr[i]]? with
  |none=>rw[q]at h;cases h
  |some o=>
   rw[q]at h;have h':o=some d:=h;subst h';obtain⟨v,hv,is⟩:=r.at' _ d q;exact⟨v,by rw[hv];rfl,is⟩
 ·rw[List.getElem?_append_right (by simpa using hi),List.getElem?_replicate]at h
  split at h<;>cases h
theorem ar6{ti:d8→Sto→ItK→Prop}{g:Tg}{tc:DB}{fr:List Nat}{k:Nat}{σ:L2.St}{H:Hp}{Q:VK}
  (h:up K (fun env st Q=>ti env st fun items chk st1=>items.length≤1000000∧r8 chk g tc ta (fun acc st'=>∀p,st' p=none→Q (.ref p) (d3 st' p (.lst acc))) items [] (D4 fr k env) st1) σ H Q) :
  ak2 fr k (upI K ti) (upG K g) (upB K tc) (up K ta) Q σ H:=by
 obtain⟨env,st,Qd,hE,hS,ht,hq⟩:=h;refine⟨env,st,_,hE,hS,ht,fun items chk st1 H1 J ev1 rs1 ok q1 p hp=>?_⟩;obtain⟨hlen,q1⟩:=q1;have hEc:RelE K H1 env σ:=hE.mono (ev1.tk hS);refine⟨fun i m σ' H'=>m=items.length-i∧i≤items.length∧∃env' st' acc ys,RelE K H' env' σ'∧RelS K st' H'∧st' p=none∧H' p=some (.lst ys)∧IsDs K H' acc ys∧acc.length≤i∧TK K H1 H'∧(∀a o,H a=some o→st a=none→a≠p∧(∃o',H' a=some o'∧TbE o o')∧st' a=none) ∧
  r8 chk g tc ta (fun acc st'=>∀p,st' p=none→Qd (.ref p) (d3 st' p (.lst acc))) (items.drop i) acc env' st',⟨items.length,by simp,Nat.zero_le _,D4 fr k env,st1,[],[],(bg7 hEc).mono (TK.new hp),rs1.new hp,rs1.free hp,o4,.nil,Nat.zero_le _,TK.new hp,fun a o h1 h2=>?_,q1⟩,?_⟩
 ·obtain⟨⟨o',x,t⟩,y⟩:=ev1 a o h1 h2;have ne:a≠p:=p0 x hp;exact⟨ne,⟨o',by rw[e8 ne];exact x,t⟩,y⟩
 rintro i m σ2 H2 ⟨rfl,hi,env2,st2,acc,ys,hE2,hS2,sp2,hp2,ra,hal,tk2,old,w2⟩
 by_cases hlt:i<items.length
 ·right
  rw[List.drop_eq_getElem_cons hlt]at w2;obtain⟨hchk,w2⟩:=w2;refine⟨ok.go i st2 H2 tk2 hS2 hchk hlt,fun σ' H'=>i+1≤items.length∧∃env' st' acc ys,RelE K H' env' σ'∧RelS K st' H'∧st' p=none∧H' p=some (.lst ys)∧IsDs K H' acc ys∧acc.length≤i+1∧TK K H1 H'∧(∀a o,H a=some o→st a=none→a≠p∧(∃o',H' a=some o'∧TbE o o')∧st' a=none) ∧
   r8 chk g tc ta (fun acc st'=>∀p,st' p=none→Qd (.ref p) (d3 st' p (.lst acc))) (items.drop (i+1)) acc env' st',fun σ' H' h=>⟨items.length-(i+1),by omega,rfl,h⟩,fun v H3 y=>?_⟩
  obtain⟨d,hd,is3,ev3,rs3⟩:=ok.yld i st2 H2 v H3 tk2 hS2 hchk hlt y;have ed:d=items[i]:=by rw[List.getElem?_eq_getElem hlt]at hd;exact(Option.some.inj hd).symm
  subst ed;refine⟨_,env2,_,is3,hE2.mono (ev3.tk hS2),w2,fun env4 σ4 hE4 q4=>?_⟩;have old3:∀{H':Hp}{st':Sto},Ev st2 H2 st' H'→∀a o,H a=some o→st a=none→a≠p∧(∃o',H' a=some o'∧TbE o o')∧st' a=none:=fun ev a o h1 h2=>by
   obtain⟨x,⟨o1,y,t1⟩,z⟩:=old a o h1 h2;obtain⟨⟨o2,y',t2⟩,z'⟩:=ev a o1 y z;exact⟨x,⟨o2,y',t1.trans t2⟩,z'⟩
  refine⟨env4,st2,_,hE4,rs3,q4,fun bb H5 st5 ev5 rs5 q5=>?_⟩;have ev25:Ev st2 H2 st5 H5:=ev3.trans ev5;have tk25:TK K H2 H5:=ev25.tk hS2;obtain⟨hp5,sp5⟩:=ev25.get hp2 sp2 (fun _=>nofun);cases bb with
  |false=>
   simp only[Bool.false_eq_true,if_false]at q5 ⊢;exact⟨hlt,env4,st5,acc,ys,hE4.mono (ev5.tk rs3),rs5,sp5,hp5,ra.mono tk25,by omega,tk2.trans tk25,old3 ev25,q5⟩
  |true=>
   simp only[if_true]at q5 ⊢;refine⟨env4,st5,_,hE4.mono (ev5.tk rs3),rs5,q5,fun w e H6 st6 ev6 is6 rs6 q6=>?_⟩;have ev26:Ev st2 H2 st6 H6:=ev25.trans ev6;have tk26:TK K H2 H6:=ev26.tk hS2;obtain⟨hp6,sp6⟩:=ev26.get hp2 sp2 (fun _=>nofun);have ra6:=ra.mono tk26;have hsz:ys.length<sizeLine:=by
    rw[←ra6.len];have:(1000001:Nat)≤sizeLine:=by decide
    omega
   refine⟨ys,hp6,hsz,hlt,env4,st6,acc++[e],ys++[w],(hE4.mono ((ev5.trans ev6).tk rs3)).mono (TK.put hp6),rs6.stay (TK.put hp6) (fun a o h1=>e8 fun z=>by rw[z,sp6]at h1;cases h1) (S8 (by rw[hp6];exact fun _ z=>by cases z)),sp6,o4,(ra6.append (.cons is6 .nil)).mono (TK.put hp6),by simp;omega,(tk2.trans tk26).trans (TK.put hp6),fun a o h1 h2=>?_,q6⟩;obtain⟨x,⟨o',y,t⟩,z⟩:=old3 ev26 a o h1 h2;exact⟨x,⟨o',by rw[e8 x];exact y,t⟩,z⟩
 ·left
  have e:i=items.length:=by omega
  subst e;rw[List.drop_length]at w2;refine⟨ok.stop st2 H2 tk2 hS2 w2.1,hq _ (.ref p) H2 (d3 st2 p (.lst acc)) (fun a o h1 h2=>?_) (.ref p) ⟨fun a o h1=>?_,hS2.tb⟩ (w2.2 p sp2)⟩
  ·obtain⟨x,y,z⟩:=old a o h1 h2;exact⟨y,by rw[y3 x];exact z⟩
  ·by_cases ha:a=p
   ·subst ha;rw[g8]at h1;cases h1;exact⟨ys,hp2,ra⟩
   ·rw[y3 ha]at h1;exact hS2.ob a o h1
end
end Ek
namespace HT
open PySem PySem.Spec PyProof.Rows
end HT
namespace L2
open PySem PySem.Spec PyProof.Rows
end L2
namespace Ek
open PySem PySem.Spec PyProof.Rows L2
variable [Tbs]
end Ek
namespace Ek
open PySem PySem.Spec PyProof.Rows L2
variable [Tbs]
theorem au5:∀{bs:List Bool}{its:List Value},d4 (bs.map V.bl) its→∀(i:Nat)v,its[i]?=some v→∃b,bs[i]?=some b∧v=.bool b
 |[],its,r,i,v,h=>by cases r;simp at h
 |b::bs,its,r,i,v,h=>by
  cases r with
  |cons r1 r2=>
   cases i with
   |zero=>simp at h;subst h;exact⟨b,rfl,r1⟩
   |succ i=>exact au5 r2 i v (by simpa using h)
section
variable {X:Cx} {a o i v:Expr} {ta to ti tv:DT} {p pos pos':Pos}
theorem bb6(hc:X.calm=true):v1 X (.builtin "any") (fun xs H Q=>∃(p:Addr)(bs:List Bool),xs=[.ref p]∧SqL X.K H p (bs.map V.bl)∧Q (.bl (bs.any id)) H):=by
 intro pins s σ H xs us Q I r h;obtain⟨p,bs,rfl,hq,q⟩:=h;obtain⟨u,rfl,ru⟩:=r.one;cases ru;obtain⟨its,rv,pl,hz⟩:=I.list hq;have hl:=pl.isList;have hsz:its.length=bs.length:=by rw[←rv.length,List.length_map]
 have hp:p<s.heap.objs.size:=by obtain⟨_,e,_⟩:=hl;exact Heap.lt_size e
 refine call_any_walk (wpAny_pyIter_list hl ⟨s.heap.objs.size,[s.heap.objs.size,p],[s.heap.objs.size],its.toArray.size,_,_,fun i=>(bs[i]?).getD false,rfl,Walks.list (A:=X.A.in1) (I.ok.hd hc) _ p (Nat.ne_of_lt hp) its.toArray,⟨⟨_,Heap.get?_push_size _ rfl,rfl,rfl⟩,hl.push _⟩,?_,?_⟩)
 ·intro i v s' Q' E' hP hQ;obtain⟨b,e,rfl⟩:=au5 rv i v (by simpa using hP);have hQ:Q' ((bs[i]?).getD false) s':=hQ;rw[e]at hQ;exact wpAny_truthy_bool hQ
 ·intro h' tk hk;rw[List.size_toArray,hsz,LSm.range_any bs];exact⟨.bl (bs.any id),H,I.kept (LSm.kept_iter hk),rfl,q⟩
theorem bg2:bootBuiltins "any"=some (.builtin "any"):=by decide+kernel
theorem IsDs.bools{K:W.Frag}{H:Hp}:∀{bs:List Bool}{vs:List V},IsDs K H (bs.map D.bl) vs→vs=bs.map V.bl
 |[],vs,r=>r.inv_nil
 |b::bs,vs,r=>by
  obtain⟨v,ws,rfl,i1,i2⟩:=IsDs.inv_cons (by simpa using r);rw[i1.bl_inv,IsDs.bools i2];rfl
theorem br8(hc:X.calm=true)(hg:Gl X "any")(hm:X.mg "any"=none)(ha:PE X a (up X.K ta))(hs:∀e p,a≠.Starred e p):PE X (.Call (.Name "any" p) [a] [] pos) (up X.K fun env st Q=>ta env st fun x st1=>am9 x st1 Q):=
 aa7 (bb6 hc) hg hm bg2 ha hs (fun v d H' st' Qd Q is rs ht hq=>by
  cases d<;>first|exact False.elim ht|skip
  obtain⟨bs,hr,ht⟩:=ht;obtain⟨vs,hs,r⟩:=rs.rd hr;exact⟨_,bs,by rw[is.ref_inv],by rw[←r.bools];exact hs,hq.here (.bl _) rs ht⟩) (by decide) (by decide)
theorem bv7:PE X (.Dict [] [] pos) (up X.K fun env st Q=>∀p,st p=none→Q (.ref p) (d3 st p (.dct []))):=
 PE.imp bi6 fun σ H Q q=>by
  obtain⟨env,st,Qd,hE,hS,ht,hq⟩:=q;exact fun p hp=>hq _ (.ref p) _ (d3 st p (.dct [])) (Ev.newS hp) (.ref p) (hS.putNewD hp ⟨rfl,.nil⟩) (ht p (hS.free hp))
theorem IsKs.snoc{K:W.Frag}{H:Hp}{kvs:List (Key×D)}{vs:List (Key×V)}{d:D}{v:V}(h:IsKs K H kvs vs)(i:IsD K H d v)(k:Key):IsKs K H (kvs++[(k,d)]) (vs++[(k,v)]):=
 ⟨by simp[h.ks],by simpa using h.ds.append (.cons i .nil)⟩
theorem TK.putKd{K:W.Frag}{H:Hp}{p:Addr}{u:HO}{xs:List (Key×V)}(h:H p=some (.dK xs)):TK K H (upd H p u):=TK.upd' (by rw[h];exact fun _ z=>by cases z) (by rw[h];exact fun _ _ z=>by cases z)
theorem bo5(hu:X.A.units+200<cLine)(hv:PE X v (up X.K tv))(ho:PE X o (up X.K to))(hi:PE X i (up X.K ti))(hs:swapsWith v (some (.Subscript o i pos')) pos.line X.env=pure false):
  PS X (.Assign [.Subscript o i pos'] v pos) (upS X.K fun F env st=>tv env st fun d st1=>to env st1 fun x st2=>ti env st2 fun y st3=>am1 x y d st3 fun st4=>F.nx env st4):=
 PS.imp (bp5 (by omega) ho hi hv hs) fun F σ H⟨env,st,Fd,hE,hS,ht,hq⟩=>⟨env,st,_,hE,hS,ht,fun w d H1 st1 ev1 is1 rs1 q1=>
  ⟨env,st1,_,hE.mono (ev1.tk hS),rs1,q1,fun ov x H2 st2 ev2 is2 rs2 q2=>⟨env,st2,_,(hE.mono (ev1.tk hS)).mono (ev2.tk rs1),rs2,q2,fun iv y H3 st3 ev3 is3 rs3 q3=>by
   cases x<;>cases y<;>first|exact q3.elim|skip
   rename_i p j;obtain⟨kvs,hp,hk,hl,q3⟩:=q3;obtain⟨vs,hH,r⟩:=rs3.dct hp;have hvn:j7 vs (.inl j)=none:=by
    rcases r.look (.inl j)with⟨_,l2⟩|⟨_,_,l1,_⟩
    ·exact l2
    ·rw[hk]at l1;cases l1
   have is1':=(is1.mono (ev2.tk rs1)).mono (ev3.tk rs2);have hlen:kvs.length=vs.length:=by simpa using congrArg List.length r.ks
   have g:G6 H3 p iv w (upd H3 p (.dK (vs++[(.inl j,w)]))):=by
    rw[is3.int_inv,←at9 w hvn];exact G6.k (k:=.inl j) hH (by rw[←hlen];exact hl)
   refine⟨_,_,(is2.mono (ev3.tk rs2)).ref_inv,g,?_⟩;exact hq.nx env σ _ _ (((ev1.trans ev2).trans ev3).trans (Ev.put hp)) ((((hE.mono (ev1.tk hS)).mono (ev2.tk rs1)).mono (ev3.tk rs2)).mono (TK.putKd hH)) (rs3.putAny (ob:=.dct (kvs++[(.inl j,d)])) (TK.putKd hH) ⟨_,o4,(r.snoc is1' _).mono (TK.putKd hH)⟩ (by rw[hH];exact fun _ z=>by cases z)) q3⟩⟩⟩
end
end Ek
namespace Ek
open PySem PySem.Spec PyProof.Rows L2
variable [Tbs]
noncomputable abbrev Fz:HO:=.ext fun _=>True
theorem al4:∀vs,Fz≠.lst vs:=fun _=>nofun
theorem ac8{P:Program}{w:World}{H:Hp}{h:Heap}{a:Addr}{o:Obj}(e:h.get? a=some o):j9 P w H h a (.frz o Fz):=⟨e,trivial,⟨o,e⟩,fun _ _ _ _=>trivial⟩
section
variable {X:Cx} {pins:List (Addr×Obj)} {σ:L2.St} {H H':Hp} {s:Shared}
theorem a87{x:Str}{c:Addr}{o:Obj}{v:Option Value}(I:L2.Inv X pins σ H s)(hl:X.env.cells.lookup x=some c)(hfn:X.fn x=false)(hab:X.s₀.heap.objs.size≤c)(hn:H c=none)(ho:s.heap.get? c=some o)(hd:o.data=.cell v):
  L2.Inv X pins σ (upd H c (.frz o Fz)) s:=by
 have nn:∀{b:Addr}{u:HO},H b=some u→b≠c:=fun e=>p0 e hn;refine⟨I.ok,I.os,I.bare,⟨I.base.keep,I.base.slot,fun b ob e n hx=>?_,I.base.there,fun b xs e=>?_,fun b ob u e=>?_,fun b ps e=>?_⟩,I.loc,I.cell,?_,fun x' c' e=>?_,fun p hp=>?_,fun b u e=>?_,I.len⟩
 ·rw[e8 (Nat.ne_of_lt (Nat.lt_of_lt_of_le (Heap.lt_size e) hab))];exact I.base.free b ob e n hx
 ·have:=I.base.tups b xs e;rw[e8 (nn this)];exact this
 ·have:=I.base.frzs b ob u e;rw[e8 (nn this)];exact this
 ·obtain⟨m,q⟩:=I.base.tbls b ps e;exact⟨m,by rw[e8 (nn q)];exact q⟩
 ·rw[e8 (Ne.symm (I.cne x c hl))];exact I.free
 ·by_cases hc:c'=c
  ·subst hc;have:=I.ok.inj x' x c' e hl;subst this;exact .inr ⟨hfn,o,Fz,o4⟩
  ·rw[e8 hc];exact I.freeC x' c' e
 ·obtain⟨e,n,ne,nf,d⟩:=I.pin p hp;refine⟨e,?_,ne,nf,d⟩;rw[e8 fun z=>?_]
  ·exact n
  ·rw[z,ho]at e;exact d v (by rw[←Option.some.inj e];exact hd)
 ·by_cases hb:b=c
  ·subst hb;rw[o4]at e;cases e;exact ac8 ho
  ·rw[e8 hb]at e;exact(I.hok b u e).stay (fun _ _ _ q=>q) (fun a r=>by rw[e8 (nn r)];exact r) fun a xs r=>by rw[e8 (nn r)];exact r
theorem ax1{K:W.Frag}(e:v6 H H'):TK K H H':=⟨⟨fun a xs q=>by
 rcases q with(q|⟨o',q⟩)|q
 ·exact .inl (.inl (e _ _ q))
 ·exact .inl (.inr ⟨o',e _ _ q⟩)
 ·exact .inr q,fun a xs q=>e _ _ q⟩,fun a o u q _=>e _ _ q⟩
theorem at2{K:W.Frag}{a:Addr}{o:Ob}(z:ObR K H a o):∃u,H a=some u∧∀ps,u≠.tbl ps:=by
 cases o with
 |lst ds=>obtain⟨vs,w1,_⟩:=z;exact⟨_,w1,fun _=>nofun⟩
 |fro ds=>
  obtain⟨vs,w1|⟨u,w1⟩,_⟩:=z
  ·exact⟨_,w1,fun _=>nofun⟩
  ·exact⟨_,w1,fun _=>nofun⟩
 |dct kvs=>obtain⟨vs,w1,_⟩:=z;exact⟨_,w1,fun _=>nofun⟩
 |dtt kvs=>obtain⟨vs,w1,_⟩:=z;exact⟨_,w1,fun _=>nofun⟩
 |ins c fs=>obtain⟨C,dx,vs,w1,_⟩:=z;exact⟨_,w1,fun _=>nofun⟩
theorem be9{K:W.Frag}{st:Sto}(r:RelS K st H)(e:v6 H H'):RelS K st H':=r.stay (ax1 e) (fun a o h=>by
 obtain⟨u,hu,_⟩:=at2 (r.ob a o h);rw[hu,e _ _ hu]) fun a ps h=>e _ _ h
theorem bm0{st:Sto}(e:v6 H H'):Ev st H st H':=fun a o h k=>⟨⟨o,e _ _ h,.inl rfl⟩,k⟩
theorem ap7(I:L2.Inv X pins σ H s):∀(xs:List Str),(∀x∈xs,X.fn x=false∧X.ow x=true∧∃c,X.env.cells.lookup x=some c) →
  ∃H',L2.Inv X pins σ H' s∧v6 H H'∧∀x∈xs,∃c o u,X.env.cells.lookup x=some c∧H' c=some (.frz o u)∧(∀vs,u≠.lst vs)∧s.heap.get? c=some o
 |[],_=>⟨H,I,v6.refl H,fun x h=>absurd h List.not_mem_nil⟩
 |x::xs,h=>by
  obtain⟨H1,I1,e1,f1⟩:=ap7 I xs fun y hy=>h y (List.mem_cons_of_mem _ hy);obtain⟨hfn,how,c,hc⟩:=h x List.mem_cons_self;obtain⟨v,o,ho,hd⟩:=I1.cell x c hc
  rcases I1.freeC x c hc with hn|⟨_,o',u,hz⟩
  ·have I2:=a87 I1 hc hfn (I1.ok.cab x c (.inr how) hc) hn ho hd;have e2:v6 H1 (upd H1 c (.frz o Fz)):=fun b u q=>by rw[e8 (p0 q hn)];exact q
   refine⟨_,I2,e1.trans e2,fun y hy=>?_⟩
   rcases List.mem_cons.mp hy with rfl|hy
   ·exact⟨c,o,Fz,hc,o4,al4,ho⟩
   ·obtain⟨c',o',u',a1,a2,a3,a4⟩:=f1 y hy;exact⟨c',o',u',a1,e2 _ _ a2,a3,a4⟩
  ·refine⟨H1,I1,e1,fun y hy=>?_⟩
   rcases List.mem_cons.mp hy with rfl|hy
   ·obtain⟨z1,z2⟩:=I1.hok c _ hz;refine⟨c,o',u,hc,hz,fun vs w=>?_,z1⟩;subst w;obtain⟨_,its,n,_,z3⟩:=z2;rw[ho]at z3;cases z3;cases hd
   ·exact f1 y hy
end
theorem ap0{l:List Value}(h:TriplesOk l):l=[]∨∃i s j t v r,l=.int i s::.int j t::v::r∧TriplesOk r:=by
 unfold TriplesOk at h
 split at h
 ·exact .inl rfl
 ·exact .inr ⟨_,_,_,_,_,_,rfl,h⟩
 ·exact h.elim
theorem ao7{a b:Int}{s t:Tok}{c:Value}:∀(n:Nat)(l:List Value),l.length≤n→TriplesOk l→TriplesOk (l++[.int a s,.int b t,c])
 |0,l,hn,_=>by
  have:l=[]:=List.eq_nil_of_length_eq_zero (by omega);subst this;exact trivial
 |n+1,l,hn,h=>by
  rcases ap0 h with rfl|⟨i,s',j,t',v,r,rfl,hr⟩
  ·exact trivial
  ·simp only[List.length_cons]at hn;exact(ao7 n r (by omega) hr:TriplesOk (r++_))
theorem ap6{pos:Pos}{cv:Value}{a b:Int}{s t:Tok}{c:Value}:∀(n:Nat)(l:List Value),l.length≤n→TriplesOk l→codeAmong pos (l++[.int a s,.int b t,c])=some cv→codeAmong pos l=some cv∨cv=c
 |n,l,hn,h,q=>by
  rcases ap0 h with rfl|⟨i,s',j,t',v,r,rfl,hr⟩
  ·have h':(if a==pos.line&&b==pos.col then some c else none)=some cv:=q
   split at h'
   ·exact .inr (Option.some.inj h').symm
   ·cases h'
  ·cases n with
   |zero=>simp at hn
   |succ n=>
    simp only[List.length_cons]at hn;have q':(if i==pos.line&&j==pos.col then some v else codeAmong pos (r++[.int a s,.int b t,c]))=some cv:=q;show(if i==pos.line&&j==pos.col then some v else codeAmong pos r)=some cv∨cv=c
    split at q'
    ·rename_i hc;rw[if_pos hc];exact .inl q'
    ·rename_i hc;rw[if_neg hc];exact ap6 n r (by omega) hr q'
end Ek
namespace Ek
open PySem PySem.Spec PyProof.Rows L2
variable [Tbs]
noncomputable def u6(name qual:Str)(params:Arguments)(fb:FuncBody)(scope:Scope)(cl:List (Str×Addr))(doc pm cv ct:Value):FuncData:=
 {name,qualname:=qual,params,body:=fb,scope,globals:=mainGlobals,closure:=cl,defaults:=.none,kwdefaults:=.none,doc:=doc,pyModule:=pm,annotations:=none,code:=cv,closureTuple:=ct,builtins:=builtinsNs}
noncomputable def C0(fd:FuncData):Obj:={cls:=.type "function",data:=.func fd}
noncomputable def G3(mg:Str→Option Value)(h:Heap):Prop:=∃bm ob,mg "__builtins__"=some (.ref bm)∧bm≠builtinsNs∧h.get? bm=some ob∧ob.cls=.type "module"∧ob.dict=some builtinsNs∧ob.data=.plain
structure LamOk(X:Cx):Prop where
 tab:∃c P,X.env.code=.ref c∧W.CodeHd X.base c P∧P∈Tbs.ps
 bm:G3 X.mg X.base
section
variable {X:Cx} {pins:List (Addr×Obj)} {σ:L2.St} {H:Hp} {s:Shared} {st:Sto}
structure Made(X:Cx)(pins:List (Addr×Obj))(σ:L2.St)(H:Hp)(st:Sto)(f:Addr)(fd:FuncData)(H':Hp)(s':Shared):Prop where
 inv:L2.Inv X pins σ H' s'
 tk:TK X.K H H'
 ev:Ev st H st H'
 rs:RelS X.K st H'
 fn:H' f=some (.frz (C0 fd) Fz)
 cd:C5 H' fd.code
theorem at5{fd:FuncData}{h':Heap}{tk:Nat}(I:L2.Inv X pins σ H s)(rs:RelS X.K st H)(hk:∀b o,s.heap.get? b=some o→h'.get? b=some o)(hsz:s.heap.objs.size≤h'.objs.size)(cd:C5 H fd.code):
  Made X pins σ H st h'.objs.size fd (upd H h'.objs.size (.frz (C0 fd) Fz)) {s with heap:=h'.push (C0 fd),toks:=tk}:=by
 have hn:H h'.objs.size=none:=I.hok.fresh hsz;exact⟨I.laid (fun b o e=>Heap.get?_push_of_some _ (hk b o e)) hsz (ac8 (Heap.get?_push_size _ rfl)),TK.new hn,Ev.new hn,rs.new hn,o4,cd.mono (K:=X.K) (TK.new hn)⟩
theorem as7{P c':Addr}{ps:Array Value}{fd:FuncData}{h':Heap}{tk:Nat}{i j:Int}{t1 t2:Tok}{q:Str}(I:L2.Inv X pins σ H s)(rs:RelS X.K st H)(hP:H P=some (.tbl ps))(hT:TabOk H ps)
  (hx:Heap.ExtBut P s.heap h') (hc:s.heap.objs.size≤c') (hlt:c'<h'.objs.size) (hr:h'.CodeRec (.ref c') q) (ht:h'.get? P=some (W.tabObj (ps++#[.int i t1,.int j t2,.ref c']))) (hcd:fd.code=.ref c') :
  ∃H',Made X pins σ H st h'.objs.size fd H' {s with heap:=h'.push (C0 fd),toks:=tk}:=by
 obtain⟨c2,oc,vs,t,e2,hoc,hd,hv⟩:=hr;cases e2;have hPs:s.heap.get? P=some (W.tabObj ps):=I.hok P _ hP;have hsz:s.heap.objs.size≤h'.objs.size:=Nat.le_of_lt (Nat.lt_of_le_of_lt hc hlt);have n1:H c'=none:=I.hok.fresh hc;have n2:H h'.objs.size=none:=I.hok.fresh hsz;have cf:c'≠h'.objs.size:=Nat.ne_of_lt hlt;have cP:P≠c':=fun z=>by rw[z,n1]at hP;cases hP
 have fP:P≠h'.objs.size:=fun z=>by rw[z,n2]at hP;cases hP
 let H':Hp:=upd (upd (upd H c' (.frz oc Fz)) h'.objs.size (.frz (C0 fd) Fz)) P (.tbl (ps++#[.int i t1,.int j t2,.ref c']))
 have gP:H' P=some (.tbl (ps++#[.int i t1,.int j t2,.ref c'])):=o4;have gf:H' h'.objs.size=some (.frz (C0 fd) Fz):=by show upd _ _ _ _=_;rw[e8 (Ne.symm fP)];exact o4
 have gc:H' c'=some (.frz oc Fz):=by show upd _ _ _ _=_;rw[e8 (Ne.symm cP),e8 cf];exact o4
 have ge:∀b,b≠P→b≠h'.objs.size→b≠c'→H' b=H b:=fun b b1 b2 b3=>by show upd _ _ _ _=_;rw[e8 b1,e8 b2,e8 b3]
 have go:∀b u,H b=some u→b≠P→H' b=some u:=fun b u e b1=>by rw[ge b b1 (p0 e n2) (p0 e n1)];exact e
 have nt:∀b u,H b=some u→(∀ps,u≠.tbl ps)→b≠P:=fun b u e n z=>by rw[z,hP]at e;cases e;exact n _ rfl
 have hk:∀b o,b≠P→s.heap.get? b=some o→(h'.push (C0 fd)).get? b=some o:=fun b o n e=>Heap.get?_push_of_some _ (hx b o n e);have TKH:TK X.K H H':=⟨⟨fun a xs z=>by
  rcases z with(z|⟨o',z⟩)|z
  ·exact .inl (.inl (go _ _ z (nt _ _ z fun _=>nofun)))
  ·exact .inl (.inr ⟨o',go _ _ z (nt _ _ z fun _=>nofun)⟩)
  ·exact .inr z,fun a xs z=>go _ _ z (nt _ _ z fun _=>nofun)⟩,fun a o u z _=>go _ _ z (nt _ _ z fun _=>nofun)⟩
 have CF:C5 H' (.ref c'):=⟨c',oc,Fz,vs,q,t,rfl,gc,al4,hd,hv⟩;refine⟨H',I.un (h':=h'.push (C0 fd)) ⟨fun b o e n _ _=>?_,fun b o e n _ _=>?_,fun b o e n _=>?_,fun b o e _=>?_,fun b xs e=>?_,fun b o u e=>?_,fun b qs e=>?_⟩ (fun b u e=>?_),TKH,fun a o e k=>?_,⟨fun a o e=>?_,fun P0 hP0=>?_⟩,gf,by rw[hcd];exact CF⟩
 ·exact hk b o (fun z=>by rw[z,hP]at n;cases n) e
 ·exact⟨o.slots,hk b o (fun z=>by rw[z,hP]at n;cases n) e⟩
 ·have lb:=Heap.lt_size e;rw[ge b (fun z=>by rw[z,hP]at n;cases n) (Nat.ne_of_lt (Nat.lt_of_lt_of_le lb hsz)) (Nat.ne_of_lt (Nat.lt_of_lt_of_le lb hc))];exact n
 ·by_cases hb:b=P
  ·subst hb;exact⟨_,Heap.get?_push_of_some _ ht⟩
  ·exact⟨o,hk b o hb e⟩
 ·exact go _ _ e (nt _ _ e fun _=>nofun)
 ·exact go _ _ e (nt _ _ e fun _=>nofun)
 ·by_cases hb:b=P
  ·subst hb;rw[hP]at e;cases e;exact⟨_,gP⟩
  ·exact⟨#[],by rw[go _ _ e hb];simp⟩
 ·by_cases b1:b=P
  ·subst b1;rw[gP]at e;cases e;exact Heap.get?_push_of_some _ ht
  by_cases b2:b=h'.objs.size
  ·subst b2;rw[gf]at e;cases e;exact ac8 (Heap.get?_push_size _ rfl)
  by_cases b3:b=c'
  ·subst b3;rw[gc]at e;cases e;exact ac8 (Heap.get?_push_of_some _ hoc)
  rw[ge b b1 b2 b3]at e;refine(I.hok b u e).stay (fun c v hc' z=>hk c v ?_ z) (fun a z=>go _ _ z (nt _ _ z fun _=>nofun)) fun a xs z=>go _ _ z (nt _ _ z fun _=>nofun)
  rcases hc' with rfl|hc'
  ·exact b1
  ·exact nt _ _ hc' fun _=>nofun
 ·by_cases ha:a=P
  ·subst ha;rw[hP]at e;cases e;exact⟨⟨_,gP,.inr ⟨_,_,rfl,rfl⟩⟩,k⟩
  ·exact⟨⟨o,go _ _ e ha,.inl rfl⟩,k⟩
 ·have z:=rs.ob a o e;obtain⟨u,hu,hn⟩:=at2 z;have ea:H' a=H a:=by rw[hu];exact go _ _ hu (nt _ _ hu hn)
  cases o with
  |lst ds=>obtain⟨vs,q,w⟩:=z;exact⟨vs,by rw[ea];exact q,w.mono TKH⟩
  |fro ds=>
   obtain⟨vs,q|⟨o',q⟩,w⟩:=z
   ·exact⟨vs,.inl (by rw[ea];exact q),w.mono TKH⟩
   ·exact⟨vs,.inr ⟨o',by rw[ea];exact q⟩,w.mono TKH⟩
  |dct kvs=>obtain⟨vs,q,w⟩:=z;exact⟨vs,by rw[ea];exact q,w.mono TKH⟩
  |dtt kvs=>obtain⟨vs,q,w,t⟩:=z;exact⟨vs,by rw[ea];exact q,w.mono TKH,t⟩
  |ins c fs=>obtain⟨C,dx,vs,q,n,w⟩:=z;exact⟨C,dx,vs,by rw[ea];exact q,n,w.mono TKH⟩
 ·by_cases hb:P0=P
  ·subst hb;refine⟨_,gP,?_,fun pos cv hcv=>?_⟩
   ·rw[Array.toList_append];exact ao7 _ _ (Nat.le_refl _) hT.tr
   ·rw[Array.toList_append]at hcv
    rcases ap6 _ _ (Nat.le_refl _) hT.tr hcv with z|z
    ·exact(hT.co pos cv z).mono TKH
    ·rw[z];exact CF
  ·obtain⟨qs,e,o⟩:=rs.tb P0 hP0;exact⟨qs,go _ _ e hb,o.tr,fun pos cv hcv=>(o.co pos cv hcv).mono TKH⟩
theorem bj5{name qual:Str}{params:Arguments}{fb:FuncBody}{scope:Scope}{pos:Pos}{line:Nat}{cl:List (Str×Addr)}{Q:Value→Shared→Prop}(I:L2.Inv X pins σ H s)(rs:RelS X.K st H)(L:LamOk X)(hcl:closureFor scope X.env=pure cl)
  (h:∀f doc pm cv ct H' s',Made X pins σ H st f (u6 name qual params fb scope cl doc pm cv ct) H' s'→Q (.ref f) s') :
  wpAny (model X.prog X.w) X.A (makeFunction name qual params fb scope X.env [] [] [] pos line) Q X.xe s:=by
 obtain⟨c,P,hcode,C,hPs⟩:=L.tab;obtain⟨ps,hP,hT⟩:=rs.tb P hPs;have hPh:s.heap.get? P=some (W.tabObj ps):=I.hok P _ hP;have hg:s.heap.Ns mainGlobals X.mg:=I.mod.glob.keeps I.bk;have hgP:mainGlobals≠P:=fun z=>by
  obtain⟨o,es,ep,e,hd,_⟩:=hg;rw[z,hPh]at e;cases e;cases hd
 have hB:s.heap.BuiltinsAt X.mg P:=by
  obtain⟨bm,ob,b1,b2,b3,b4,b5,b6⟩:=L.bm;have b3':=I.bk _ _ b3;refine⟨bm,ob,b1,b2,fun z=>?_,fun z=>?_,b3',b4,b5,b6⟩
  ·obtain⟨o,es,ep,e,hd,_⟩:=hg;rw[←z,b3']at e;cases e;rw[b6]at hd;cases hd
  ·rw[z,hPh]at b3';cases b3';cases b4
 have C':=C.keeps I.bk;cases hh:codeAmong pos ps.toList with
 |none=>
  cases fb with
  |stmts body=>
   refine W.makeFunction_K (mg:=X.mg) hcl I.ok.glob hg hcode C' hPh hT.tr hh hgP hB fun c' ct doc h' tk hx hc hlt hr ht=>?_;obtain⟨H',M⟩:=as7 (fd:=u6 name qual params (.stmts body) scope cl doc ((X.mg "__name__").getD .none) (.ref c') ct) (tk:=tk) I rs hP hT hx hc hlt hr ht rfl;exact h _ _ _ _ _ _ _ M
  |expr body=>
   refine W.kla_makeFunction (mg:=X.mg) hcl I.ok.glob hg hcode C' hPh hT.tr hh hgP hB fun c' ct h' tk hx hc hlt hr ht=>?_;obtain⟨H',M⟩:=as7 (fd:=u6 name qual params (.expr body) scope cl .none ((X.mg "__name__").getD .none) (.ref c') ct) (tk:=tk) I rs hP hT hx hc hlt hr ht rfl;exact h _ _ _ _ _ _ _ M
 |some cv=>
  have cd:=hT.co pos cv hh;cases fb with
  |stmts body=>
   refine W.makeFunction_hit (mg:=X.mg) hcl I.ok.glob hg hcode C' hPh hT.tr hh hB fun ct doc h' tk hk hsz=>?_;exact h _ doc ((X.mg "__name__").getD .none) cv ct _ _ (at5 (fd:=u6 name qual params (.stmts body) scope cl doc ((X.mg "__name__").getD .none) cv ct) (tk:=tk) I rs hk hsz cd)
  |expr body=>
   refine W.kla_makeFunctionHit (mg:=X.mg) hcl I.ok.glob hg hcode C' hPh hT.tr hh hB fun ct h' tk hk hsz=>?_;exact h _ .none ((X.mg "__name__").getD .none) cv ct _ _ (at5 (fd:=u6 name qual params (.expr body) scope cl .none ((X.mg "__name__").getD .none) cv ct) (tk:=tk) I rs hk hsz cd)
end
end Ek
namespace Ek
open PySem PySem.Spec PyProof.Rows L2
variable [Tbs]
theorem at3{K:W.Frag}{H:Hp}{env:d8}{σ:L2.St}(hE:RelE K H env σ):∀{cp:List Nat}{cs:List D},A9 env cp=some cs →
  ∃us:List V,IsDs K H cs us∧us.length=cp.length∧∀(i:Nat)v,us[i]?=some v→∃j,cp[i]?=some j∧σ[j]?=some (some v)
 |[],cs,h=>by
  cases h;exact⟨[],.nil,rfl,fun i v z=>by simp at z⟩
 |j::cp,cs,h=>by
  unfold A9 at h
  split at h
  ·rename_i d ds h1 h2;cases h;obtain⟨us,r,l,a⟩:=at3 hE h2;obtain⟨v,hv,is⟩:=hE.at' j d h1;refine⟨v::us,.cons is r,by simp[l],fun i w z=>?_⟩;cases i with
   |zero=>simp at z;subst z;exact⟨j,rfl,hv⟩
   |succ i=>exact a i w (by simpa using z)
  ·cases h
structure NestOk(X:Cx)(params:Arguments)(fb:FuncBody)(scope:Scope)(np:Nat)(N ps:List Str)(cp:List Nat)(b:Ss):Prop where
 sc:FnScC N ps scope
 lp:ps.length=np
 mt:Tbs.mt b scope N fb
 bind:∀(name qual:Str)(cl:List (Str×Addr))(doc pm cv ct:Value)(us:List Value),us.length=ps.length→bindArgs (u6 name qual params fb scope cl doc pm cv ct) ⟨us,[]⟩=pure (ps.zip us)
 cap:∀(i j:Nat),cp[i]?=some j→∃x,X.N[j]?=some x∧N[np+i]?=some x∧(x,NameKind.free)∈scope.names
 fre:∀x,(x,NameKind.free)∈scope.names→(∃i:Nat,∃j:Nat,cp[i]?=some j∧X.N[j]?=some x)∧X.env.scope.names.lookup x=some .cell∧X.fn x=false∧X.ow x=true
section
variable {X:Cx} {pins:List (Addr×Obj)} {σ:L2.St} {H:Hp} {s:Shared} {st:Sto}
theorem bo2{name qual:Str}{params:Arguments}{fb:FuncBody}{scope:Scope}{pos:Pos}{line:Nat}{np:Nat}{N ps:List Str}{cp:List Nat}{b:Ss}{env:d8}{cs:List D}{Q:Value→Shared→Prop}
  (I:L2.Inv X pins σ H s) (rs:RelS X.K st H) (hE:RelE X.K H env σ) (L:LamOk X) (S:NestOk X params fb scope np N ps cp b) (hc:A9 env cp=some cs)
  (h:∀f H' s',L2.Inv X pins σ H' s'→TK X.K H H'→Ev st H st H'→RelS X.K st H'→IsD X.K H' (.clo np N b cs) (.ref f)→Q (.ref f) s') :
  wpAny (model X.prog X.w) X.A (makeFunction name qual params fb scope X.env [] [] [] pos line) Q X.xe s:=by
 obtain⟨us,ius,lus,aus⟩:=at3 hE hc
 let fs:List Str:=(scope.names.filter fun y=>y.2==.free).map (·.1)
 have mfs:∀x,x∈fs↔(x,NameKind.free)∈scope.names:=fun x=>by
  simp only[fs,List.mem_map,List.mem_filter,beq_iff_eq];constructor
  ·rintro⟨⟨y,k⟩,⟨h1,h2⟩,rfl⟩;simp only at h2;subst h2;exact h1
  ·intro h1;exact⟨(x,.free),⟨h1,rfl⟩,rfl⟩
 have hcel:∀x,(x,NameKind.free)∈scope.names→∃c,X.env.cells.lookup x=some c:=fun x hx=>I.ok.has x (.inl (S.fre x hx).2.1);obtain⟨H1,I1,e1,f1⟩:=ap7 I fs fun x hx=>⟨(S.fre x ((mfs x).mp hx)).2.2.1,(S.fre x ((mfs x).mp hx)).2.2.2,hcel x ((mfs x).mp hx)⟩;have hcl:closureFor scope X.env=pure (m9 X.env.cells scope.names []):=ah6 fun y hy hk=>by
  obtain⟨y,k⟩:=y;simp only at hk;subst hk;obtain⟨c,hc⟩:=hcel y hy;simp only[hc,Option.isSome_some]
 refine bj5 I1 (be9 rs e1) L hcl fun f doc pm cv ct H2 s2 M=>?_;have tk:TK X.K H H2:=(ax1 e1).trans M.tk;have val:∀(j:Nat)x v,X.N[j]?=some x→σ[j]?=some (some v)→(x,NameKind.free)∈scope.names→∃c o u w,(m9 X.env.cells scope.names []).lookup x=some c∧H2 c=some (.frz o u)∧(∀vs,u≠.lst vs)∧o.data=.cell (some w)∧d7 v w:=fun j x v hN hs hx=>by
  obtain⟨m,hn,hl⟩:=I1.loc;obtain⟨w,r,l⟩:=hl j x v hN hs (.inr (.inl (S.fre x hx).2.1));obtain⟨c,o,u,a1,a2,a3,a4⟩:=f1 x ((mfs x).mpr hx)
  rcases l with⟨k1,_⟩|⟨_,c2,l1,o2,l2,l3⟩
  ·have k1':X.env.scope.names.lookup x=some .local:=k1;rw[(S.fre x hx).2.1]at k1';cases k1'
  ·rw[a1]at l1;cases l1;rw[a4]at l2;cases l2;exact⟨c,o,u,w,P8 a1 hx,M.tk.2 _ _ _ a2 a3,a3,l3,r⟩
 have un:∀x c,(m9 X.env.cells scope.names []).lookup x=some c→X.env.cells.lookup x=some c∧(x,NameKind.free)∈scope.names:=fun x c hx=>B2 hx;refine h f H2 s2 M.inv tk ((bm0 e1).trans M.ev) M.rs (.clo (us:=us) ⟨u6 name qual params fb scope (m9 X.env.cells scope.names []) doc pm cv ct,ps,⟨S.sc,S.lp,S.mt,S.bind name qual _ doc pm cv ct,rfl,rfl,fun x hx=>?_,fun x c hx=>(un x c hx).2,fun x y c hx hy=>I.ok.inj x y c (un x c hx).1 (un y c hy).1⟩,⟨⟨_,_,M.fn,al4,rfl⟩,M.cd,fun x c hx=>?_,fun i v hv=>?_⟩⟩ (by rw[ius.len]) (ius.mono tk).at')
 ·obtain⟨c,hc⟩:=hcel x hx;exact⟨c,P8 hc hx⟩
 ·obtain⟨⟨i,j,hi,hj⟩,_⟩:=S.fre x (un x c hx).2;have hil:i<us.length:=by rw[lus];exact(List.getElem?_eq_some_iff.mp hi).1
  obtain⟨j',hj',hs'⟩:=aus i _ (List.getElem?_eq_getElem hil);rw[hi]at hj';cases hj';obtain⟨c',o,u,w,b1,b2,b3,b4,b5⟩:=val j x _ hj hs' (un x c hx).2;have hx':(m9 X.env.cells scope.names []).lookup x=some c:=hx;rw[b1]at hx';cases hx';exact⟨o,u,w,b2,b3,b4⟩
 ·obtain⟨j,hj,hs⟩:=aus i v hv;obtain⟨x,n1,n2,n3⟩:=S.cap i j hj;obtain⟨c,o,u,w,b1,b2,b3,b4,b5⟩:=val j x v n1 hs n3;exact⟨x,c,o,u,w,n2,b1,b2,b3,b4,b5⟩
theorem bu6{name:Str}{params:Arguments}{body:List Stmt}{scope:Scope}{pos:Pos}{i np:Nat}{N ps:List Str}{cp:List Nat}{b:Ss}(hN:X.N.Nodup)(hi:X.N[i]?=some name)(hx:Loc X.env.scope name)(hf:X.fn name=true∨X.env.scope.names.lookup name=some .local)
  (h1:params.defaults=[]) (h2:params.kw_defaults=[]) (h3:∀env,annTrees params none env=[]) (L:LamOk X) (S:NestOk X params (.stmts body) scope np N ps cp b) :
  PS X (.FunctionDef name params body [] none [] scope none name pos) (upS X.K fun F env st=>∃cs,A9 env cp=some cs∧F.nx (env.set i (some (.clo np N b cs))) st):=by
 intro pins s σ H F I q;obtain⟨env,st,Fd,hE,hS,⟨cs,hc,ht⟩,hq⟩:=q;refine W.nestDef_K h1 h2 (h3 _) (bo2 I hS hE L S hc fun f H' s' I' tk ev rs is=>?_);refine Q2 I' hN hi hx (v:=.ref f) rfl (fun s2 I2=>?_) hf;exact⟨_,H',I2,hq.nx _ _ H' st ev ((hE.mono tk).set is i) rs ht⟩
end
end Ek
namespace Ek
open PySem PySem.Spec PyProof.Rows L2
variable [Tbs]
noncomputable def bf5(fb:FuncBody)(env:Env):Code:=match fb with
 |.stmts b=>.func b env
 |.expr e=>.expr e env
theorem be2{prog:Program}{w:World}{A:Around}{R:Result→Shared→Prop}{s:Shared}{a c:Addr}{args:Args}{o oc:Obj}{fd:FuncData}{vs:Array Value}{q:Str}{t:Tok}(hroom:A.depth<recursionLimit)(ho:s.heap.get? a=some o)(hd':o.data=.func fd)
  (hco:fd.scope.isCoroutine=false) (hgen:fd.scope.isGenerator=false) (hc:fd.code=.ref c) (hoc:s.heap.get? c=some oc) (hdc:oc.data=.fields vs) (hq:vs[1]?=some (.str q t))
  (h:wpAny (model prog w) A.in1 (bindArgs fd args) (fun binds s₁=>
   wpAny (model prog w) A.in1 (newFunctionEnv fd.scope fd.globals fd.closure binds (q++".<locals>.") (some a) fd.code none fd.builtins)
    (fun env s₂=>s₂.heap.NoLimit∧codeAny (model prog w) A (bf5 fd.body env) R s₂) (fun e s'=>R (.error e) s') s₁) (fun e s'=>R (.error e) s') s) :
  codeAny (model prog w) A (.call (.ref a) args) R s:=by
 refine codeAny_of_tree ?_;show wpAny _ A.in1 (callAny (.ref a) args) _ _ s;simp only[callAny];refine wpAny_bind (wpAny_load ho ?_);simp only[hd',callFunction,hco,hgen,hc];rw[hc]at h;refine wpAny_bind (m:=field (.ref c) 1) (wpAny_field hoc hdc hq (wpAny_bind (wpAny_pure ?_)));refine wpAny_bind (wpAny_mono h (fun binds s₁ h₁=>wpAny_bind (wpAny_mono h₁ (fun env s₂ h₂=>wpAny_bind (wpAny_enterFrame h₂.1 hroom
  ?_)) fun _ _ h'=>h')) fun _ _ h'=>h')
 have h3:=h₂.2;cases hb:fd.body with
 |stmts b=>rw[hb]at h3;exact wpAny_pure (And.intro rfl h3)
 |expr e=>rw[hb]at h3;exact wpAny_pure (And.intro rfl h3)
theorem aq0{x:Str}{u:Value}:∀{ps:List Str}{us:List Value}{i:Nat},ps.Nodup→ps[i]?=some x→us[i]?=some u→(ps.zip us).reverse.lookup x=some u
 |[],_,_,_,h,_=>by simp at h
 |_::_,[],_,_,_,h=>by simp at h
 |p::ps,w::us,i,nd,h1,h2=>by
  rw[List.zip_cons_cons,List.reverse_cons,List.lookup_append];cases i with
  |zero=>
   simp at h1 h2;subst h1 h2;have:(ps.zip us).reverse.lookup p=none:=by
    rw[List.lookup_eq_none_iff];intro y hy;have:=(List.of_mem_zip (List.mem_reverse.mp hy)).1;have ne:p≠y.1:=fun z=>(List.nodup_cons.mp nd).1 (z▸this);simpa using ne
   rw[this];simp[List.lookup]
  |succ i=>
   rw[aq0 (i:=i) (List.nodup_cons.mp nd).2 (by simpa using h1) (by simpa using h2)];rfl
noncomputable def cxC(P:Program)(w:World)(K:W.Frag)(mg:Str→Option Value)(base:Heap)(N:List Str)(scope:Scope)(cl:List (Str×Addr))(q:Str)(f:Addr)(cd:Value)(A:Around)(outer:List Env)(s:Shared)(H:Hp):Cx where
 prog:=P
 w:=w
 K:=K
 mg:=mg
 base:=base
 A:=A.deeper (newEnv scope s.heap.objs.size mainGlobals cl (q++".<locals>.") (some f) cd none builtinsNs)
 N:=N
 s₀:=s
 H₀:=H
 env:=newEnv scope s.heap.objs.size mainGlobals cl (q++".<locals>.") (some f) cd none builtinsNs
 outer:=outer
 stack:=newEnv scope s.heap.objs.size mainGlobals cl (q++".<locals>.") (some f) cd none builtinsNs::outer
 ex:=[]
 calm:=true
 fn:=fun y=>!(scope.names.any fun z=>z.1==y&&z.2==.free)
 pn:=[]
 xe:=fun _ _=>False
theorem ba2{P:Program}{w:World}{K:W.Frag}{mg:Str→Option Value}{base:Heap}{N ps:List Str}{np:Nat}{b:Ss}{q:Str}{f:Addr}{fd:FuncData}{A:Around}{outer:List Env}{s:Shared}{h1:Heap}{tk:Nat}{H:Hp}{us:List Value}{vs us0:List V}
  (cf:CloF fd np N ps b) (cr:CloR H f fd np N us0) (hd:A.handled=none) (e0:Env0 P w K mg base A outer s H) (hl:vs.length=ps.length) (r:d4 vs us)
  (hns:h1.Ns s.heap.objs.size (fun x=>(ps.zip us).reverse.lookup x)) (hk:∀b o,s.heap.get? b=some o→h1.get? b=some o) :
  Inv (cxC P w K mg base N fd.scope fd.closure q f fd.code A outer s H) [] (p9 N (vs++us0)) H {s with heap:=h1,toks:=tk}:=by
 have S:=cf.sc;have noA:∀b:Addr,b∉(cxC P w K mg base N fd.scope fd.closure q f fd.code A outer s H).ex:=fun b z=>absurd (show b∈([]:List Addr) from z) (by simp);have hpl:ps.length≤N.length:=by have:=congrArg List.length S.pre;rw[List.length_take]at this;omega
 have hful:(vs++us0).length≤N.length:=by
  rw[List.length_append,hl];cases hu:us0.length with
  |zero=>omega
  |succ m=>
   have hm:m<us0.length:=by omega
   obtain⟨x,_,_,_,_,n1,_⟩:=cr.at' m _ (List.getElem?_eq_getElem hm);have:=(List.getElem?_eq_some_iff.mp n1).1;have:=cf.np;omega
 have fnF:∀x c,fd.closure.lookup x=some c→(!(fd.scope.names.any fun z=>z.1==x&&z.2==.free))=false:=fun x c h=>by
  have hm:=cf.fre x c h;have:(fd.scope.names.any fun z=>z.1==x&&z.2==.free)=true:=List.any_eq_true.mpr ⟨(x,.free),hm,by simp⟩;rw[this];rfl
 have celH:∀{c:Addr}{o:Obj}{u:HO},H c=some (.frz o u)→h1.get? c=some o:=fun{c o u}e=>by
  obtain⟨z,_⟩:=e0.hok c _ e;exact hk _ _ z
 refine⟨⟨e0.mod,S.kind,rfl,rfl,Nat.le_refl _,fun y z c h1 h2=>cf.inj y z c h1 h2,fun y hy=>?_,fun y c h hc=>?_,fun _=>hd,Around.frames_deeper e0.frames,.inr ⟨rfl,rfl⟩,fun b z=>absurd z (noA b),e0.bs,e0.bsz,fun b _ _=>noA b,fun b z=>absurd z (noA b),e0.funs,e0.frf⟩,
  rfl,e0.bare,Un.kept hk,⟨_,hns,fun i y v h1 h2 h3=>?_⟩,fun y c h=>?_,e0.hok.fresh (Nat.le_refl _),fun y c h=>?_,fun p hp=>absurd (show p ∈ ([]:List (Addr × Obj)) from hp) (by simp),e0.hok.kept hk,?_⟩
 ·have hy:fd.scope.names.lookup y=some .cell∨fd.scope.names.lookup y=some .free:=hy
  rcases hy with hy|hy
  ·exact absurd rfl (S.nocell _ (PySem.mem_of_lookup hy))
  ·exact cf.has y (PySem.mem_of_lookup hy)
 ·have hc':fd.closure.lookup y=some c:=hc
  rcases h with h|h
  ·have h':(!(fd.scope.names.any fun z=>z.1==y&&z.2==.free))=true:=h;rw[fnF y c hc']at h';cases h'
  ·cases h
 ·have hi:i<(vs++us0).length:=by
   unfold L2.p9 at h2
   by_cases hi:i<(vs++us0).length
   ·exact hi
   ·rw[List.getElem?_append_right (by simpa using hi)]at h2;rw[List.getElem?_replicate]at h2
    split at h2<;>cases h2
  have ha:(vs++us0)[i]?=some v:=by
   unfold L2.p9 at h2;rw[List.getElem?_append_left (by simpa using hi),List.getElem?_map]at h2;cases e:(vs++us0)[i]? with
   |none=>rw[e]at h2;cases h2
   |some a=>rw[e]at h2;cases h2;rfl
  have h1':N[i]?=some y:=h1
  by_cases hv:i<vs.length
  ·rw[List.getElem?_append_left hv]at ha;obtain⟨u,hu,rv⟩:=r.get ha;have hp:ps[i]?=some y:=by
    rw[←S.pre,List.getElem?_take_of_lt (by omega)];exact h1'
   have ndP:ps.Nodup:=by rw[←S.pre];exact S.nd.sublist (List.take_sublist _ _)
   exact⟨u,rv,.inl ⟨S.par y (List.mem_of_getElem? hp),aq0 ndP hp hu⟩⟩
  ·rw[List.getElem?_append_right (by omega)]at ha;obtain⟨x,c,o',u',ww,n1,n2,n3,n4,n5,n6⟩:=cr.at' _ v ha;have e:np+(i-vs.length)=i:=by have:=cf.np;omega
   rw[e,h1']at n1;cases n1;exact⟨ww,n6,.inr ⟨.inr (S.fre _ (cf.fre y c n2) rfl),c,n2,o',celH n3,n5⟩⟩
 ·obtain⟨o',u',ww,n3,n4,n5⟩:=cr.cl y c h;exact⟨some ww,o',celH n3,n5⟩
 ·obtain⟨o',u',ww,n3,n4,n5⟩:=cr.cl y c h;exact .inr ⟨fnF y c h,o',u',n3⟩
 ·unfold L2.p9;show _=N.length;rw[List.length_append,List.length_map,List.length_replicate];omega
noncomputable def by9(X:Cx)(fb:FuncBody)(Z:Sg)(b:Ss):Prop:=match fb with
 |.stmts l=>PSs X l (upS X.K (e9 Z b))
 |.expr x=>∃e,b=.cons (.ret e) .nil∧PE X x (up X.K (wpE Z e))
theorem ap2{K:W.Frag}{H:Hp}{N:List Str}{ds:List D}{vs:List V}(r:IsDs K H ds vs):RelE K H (ds.map some++List.replicate (N.length-ds.length) none) (L2.p9 N vs):=by
 refine⟨by simp[L2.p9,r.len],fun i x h=>?_⟩;unfold L2.p9
 by_cases hi:i<ds.length
 ·rw[List.getElem?_append_left (by simpa using hi),List.getElem?_map,List.getElem?_eq_getElem hi]at h;simp only[Option.map_some,Option.some.injEq]at h;obtain⟨v,hv,is⟩:=r.get (List.getElem?_eq_getElem hi);refine⟨v,?_,by rw[←h];exact is⟩;rw[List.getElem?_append_left (by rw[List.length_map,←r.len];exact hi),List.getElem?_map,hv];rfl
 ·rw[List.getElem?_append_right (by simpa using hi),List.getElem?_replicate]at h
  split at h<;>cases h
theorem a93{K:W.Frag}{H:Hp}{N:List Str}{ds cs:List D}{vs us:List V}(r:IsDs K H ds vs)(r2:IsDs K H cs us):RelE K H (B8 N ds cs) (L2.p9 N (vs++us)):=ap2 (r.append r2)
theorem bv4{P:Program}{w:World}{K:W.Frag}{mg:Str→Option Value}{base:Heap}{n np:Nat}{fa:Addr}{fd:FuncData}{N ps:List Str}{b:Ss}{cs:List D}{Z:Sg}(cf:CloF fd np N ps b)
  (hbody:∀(q:Str)(A:Around)(outer:List Env)(s:Shared)(H:Hp),Room n (cxC P w K mg base N fd.scope fd.closure q fa fd.code A outer s H).A→by9 (cxC P w K mg base N fd.scope fd.closure q fa fd.code A outer s H) fd.body Z b) :
  FnOk P w K mg base CX0 (n+1) fa fd ps (M0 K fa fd np N cs fun ds st Q=>ds.length=np∧e9 Z b {nx:=fun _ st'=>∃s2,Sub s2 st'∧Q .non s2,rt:=fun d st'=>∃s2,Sub s2 st'∧Q d s2} (B8 N ds cs) st):=by
 refine⟨fun vs H Q E hsp=>?_,fun A outer s H args us vs Q E hr e0 hb r hsp=>?_⟩
 ·obtain⟨us0,ds,st,Qd,cr,ics,is,rs,hs,hq⟩:=hsp;rw[←is.len,hs.1,cf.np]
 ·obtain⟨us0,ds,st,Qd,cr,ics,is,rs,⟨hlen,hs⟩,hq⟩:=hsp;have S:=cf.sc;have hl:vs.length=ps.length:=by rw[←is.len,hlen,cf.np]
  have lim:s.heap.NoLimit:=e0.mod.nolimit.keeps fun b o e=>(e0.bs b o e).1;obtain⟨o,u,f1,f2,f3⟩:=cr.ex;obtain⟨c,oc,uc,vc,q,t,c1,c2,c3,c4,c5⟩:=cr.cd;obtain⟨ho,_⟩:=e0.hok fa _ f1;obtain⟨hoc,_⟩:=e0.hok c _ c2;have hloc:∀y∈ps.zip us,fd.scope.names.lookup y.1=some .local:=fun⟨x,v⟩hy=>S.par x (List.of_mem_zip hy).1;refine be2 hr.depth ho f3 S.co S.gen c1 hoc c4 c5 (hb _ _ _ _ ?_);rw[cf.gl,cf.bl];refine wpAny_newFunctionEnv S.nocell hloc (fun h1 hns hsb=>?_) S.kind;have hk:∀b o,s.heap.get? b=some o→h1.get? b=some o:=fun b o e=>hsb.extBut b o (Nat.ne_of_lt (Heap.lt_size e)) (Heap.get?_push_of_some _ e);refine⟨lim.keeps hk,?_⟩;have I:=ba2 (q:=q) (tk:=s.toks+(ps.zip us).length) cf cr hr.hd e0 hl r hns hk;have hB:=hbody q A outer s H (hr.deeper _);have hE:RelE K H (B8 N ds cs) (p9 N (vs++us0)):=a93 is ics;have fin:∀{σ':L2.St}{H':Hp}{v:V}{u:Value}{s':Shared},Inv (cxC P w K mg base N fd.scope fd.closure q fa fd.code A outer s H) [] σ' H' s'→d7 v u→Q v H'→CE outer P w H s Q u s':=
   fun{σ' H' v u s'}J rv q=>⟨v,H',J.os,J.bare,J.base,J.hok,rv,q⟩
  have rt:∀v d H' st',Ev st H st' H'→IsD K H' d v→RelS K st' H'→(∃s2,Sub s2 st'∧Qd d s2)→Q v H':=fun v d H' st' ev is' rs'⟨s2,sub,q⟩=>hq v d H' s2 (ev.drop sub) is' (rs'.sub sub) q;cases hfb:fd.body with
  |stmts l=>
   rw[hfb]at hB;refine codeAny_func (wpAny_mono (hB [] _ _ H {nx:=fun _ H'=>Q .non H',rt:=Q} I ⟨B8 N ds cs,st,_,hE,rs,hs,fun env σ H' st' ev hE hS q=>rt _ .non H' st' ev .non hS q,fun env σ H' st' ev hE hS q=>q.elim,fun env σ H' st' ev hE hS q=>q.elim,fun v e H' st' ev is' rs' q=>rt v e H' st' ev is' rs' q⟩) (fun fl s' hs=>?_) fun e s' z=>z.elim);cases fl with
   |ret u=>
    obtain⟨v,σ',H',J,rv,q⟩:=hs;exact fin J rv q
   |next=>
    obtain⟨σ',H',J,q⟩:=hs;exact fin (v:=V.non) (u:=Value.none) J rfl q
   |brk=>
    obtain⟨_,_,_,q⟩:=hs;exact False.elim q
   |cont=>
    obtain⟨_,_,_,q⟩:=hs;exact False.elim q
  |expr x=>
   rw[hfb]at hB;obtain⟨e,rfl,hB⟩:=hB;refine W.kla_codeExpr (wpAny_mono (hB [] _ _ H Q I ⟨B8 N ds cs,st,_,hE,rs,(show wpE Z e (B8 N ds cs) st _ from hs),fun v d H' st' ev is' rs' q=>rt v d H' st' ev is' rs' q⟩) (fun u s' hs=>?_) fun e s' z=>z.elim);obtain⟨v,H',J,rv,q⟩:=hs;exact fin J rv q
end Ek
namespace Ek
open PySem PySem.Spec PyProof.Rows L2
variable [Tbs]
noncomputable def P7:List Str:=["len","abs","int","sum","list","tuple","isinstance","max","range","enumerate","reversed","str","bool","min","sorted","zip","any"]
noncomputable def isM(f:Str):Bool:=f.cps.contains 46
structure FOk(X:Cx)(f:Str)(sp:Spec):Prop where
 ex:∃k a fd ps,FnOk X.prog X.w X.K X.mg X.base CX0 k a fd ps (D0 X.K sp)∧Room k X.A∧X.mg f=some (.ref a)∧W.keepIn X.K (.ref a)=true∧y6 X.K fd ps []∧W.nsIn X.K mainGlobals f=some (some (.ref a))
noncomputable def t3:Str:=⟨#[33]⟩
noncomputable def p8(x:Str):Str:=⟨#[33]++x.cps⟩
noncomputable def ai2:Arguments→Option (List Str)
 |⟨[],[⟨a,none,_⟩],none,[],[],none,[]⟩=>some [a]
 |⟨[],[⟨a,none,_⟩,⟨b,none,_⟩],none,[],[],none,[]⟩=>if b==a then none else some [a,b]
 |_=>none
noncomputable def al3(sc:Scope)(N:List Str)(scope:Scope)(Nl ps:List Str)(np:Nat)(cp:List Nat):Bool:=
 (ps.length==np)&&(scope.kind==.function)&&!scope.isCoroutine&&!scope.isGenerator&&decide Nl.Nodup&&(Nl.take ps.length==ps)&&ps.all (fun x=>scope.names.lookup x==some .local)&&scope.names.all (fun y=>!(y.2==.cell))&&
 scope.names.all (fun y=>!(y.2==.free)||(scope.names.lookup y.1==some .free&&sc.names.lookup y.1==some .cell&&N.contains (p8 y.1)&&(List.range cp.length).any fun i=>match cp[i]? with|some j=>N[j]?==some y.1|none=>false))&&
 (List.range cp.length).all (fun i=>match cp[i]? with|some j=>(match N[j]? with|some x=>(Nl[np+i]?==some x)&&scope.names.any (fun z=>z.1==x&&z.2==.free)|none=>false)|none=>false)
noncomputable def glb(sc:Scope)(f:Str):Bool:=sc.names.lookup f==some .globalImplicit
noncomputable def ag1(sc:Scope)(x:Str):Bool:=match sc.names.lookup x with
 |some .local=>true|some .cell=>true|some .free=>true|_=>false
noncomputable def A8(sc:Scope)(x:Str):Bool:=match sc.names.lookup x with
 |some .local=>true|some .cell=>true|_=>false
noncomputable def lcl(sc:Scope)(x:Str):Bool:=sc.names.lookup x==some .local
noncomputable def okN(x:Str):Bool:=!(x==("__debug__":Str))&&!(x==("__classdict__":Str))
noncomputable def ay4:Expr→Bool
 |.Starred ..=>false|.Slice ..=>false|.Set ..=>false|_=>true
noncomputable def E1:Expr→Bool
 |.Call (.Name _ _) [] [] _=>false|_=>true
noncomputable def v5:Expr→Bool
 |.IfExp ..=>false|_=>true
noncomputable def F9:Expr→Bool
 |.ListComp ..=>false|.SetComp ..=>false|.DictComp ..=>false|_=>true
noncomputable def ao1(scope sc:Scope):Scope:=
 {scope with names:=scope.names.map fun(n,k)=>if(k==.free&&sc.kind==.function&&sc.names.lookup n==some .cell)then(n,.cell)else(n,k)}
noncomputable def L0(sc scope:Scope)(N Nc:List Str)(fr:List Nat)(k:Nat):Bool:=
 (scope.kind==.function)&&scope.names.all (fun y=>!(y.2==.cell))&&scope.names.all (fun y=>!(y.2==.local)||scope.names.lookup y.1==some .local)&&
 scope.names.all (fun y=>!(y.2==.free)||sc.names.lookup y.1==some .cell||sc.names.lookup y.1==some .free)&&scope.names.all (fun y=>!(y.2==.free)||!(scope.names.any fun z=>z.1==y.1&&z.2==.local))&&
 decide Nc.Nodup&&!(Nc.contains t3)&&(Nc.length==fr.length+k)&&((List.range fr.length).all fun i=>match Nc[i]?,fr[i]? with
  |some x,some j=>(N[j]?==some x)&&scope.names.any (fun z=>z.1==x&&z.2==.free)|_,_=>false)
noncomputable def mTg(ow:Bool)(t:Tg)(sc:Scope)(N:List Str)(x:Expr):Bool:=match t with
 |.n i=>(match x with
  |.Name y _=>(N[i]?==some y)&&A8 sc y&&((ow&&!(N.contains (p8 y)))||lcl sc y)
  |_=>false)
 |.tup is=>(match x with
  |.Tuple es _ _=>(is.length==es.length)&&((is.zip es).all fun p=>match p.2 with
   |.Name y _=>(N[p.1]?==some y)&&A8 sc y&&((ow&&!(N.contains (p8 y)))||lcl sc y)|_=>false)
  |_=>false)
noncomputable def mKs:List Str→List (Option Expr)→Bool
 |[],[]=>true
 |k::ks,some (.Constant (.str c) _ _)::r=>(k==c)&&mKs ks r
 |_,_=>false
mutual
noncomputable def mE:E→Scope→List Str→Expr→Bool
 |.non,_,_,x=>match x with|.Constant .none _ _=>true|_=>false
 |.bl b,_,_,x=>match x with|.Constant (.bool c) _ _=>b==c|_=>false
 |.int i,_,_,x=>match x with|.Constant (.int c) _ _=>i==c|_=>false
 |.str y,_,_,x=>match x with|.Constant (.str c) _ _=>y==c|_=>false
 |.v i,sc,N,x=>match x with|.Name y _=>(N[i]?==some y)&&ag1 sc y&&okN y|_=>false
 |.tup es,sc,N,x=>match x with|.Tuple xs _ _=>mEs es sc N xs&&decide (es.len≤1000)|_=>false
 |.lst es,sc,N,x=>match x with|.List xs _=>mEs es sc N xs&&decide (es.len≤1000)|_=>false
 |.bin o a b,sc,N,x=>match x with|.BinOp p q r _=>(o==q)&&mE a sc N p&&mE b sc N r|_=>false
 |.neg a,sc,N,x=>match x with|.UnaryOp .USub p _=>mE a sc N p|_=>false
 |.cmp o a b,sc,N,x=>match x with|.Compare p [q] [r] _=>(o==q)&&mE a sc N p&&mE b sc N r|_=>false
 |.isN a,sc,N,x=>match x with|.Compare p [.Is] [.Constant .none _ _] _=>mE a sc N p|_=>false
 |.notN a,sc,N,x=>match x with|.Compare p [.IsNot] [.Constant .none _ _] _=>mE a sc N p|_=>false
 |.and a b,sc,N,x=>match x with
  |.BoolOp .And [p,q] _=>mE a sc N p&&mE b sc N q&&v5 p&&v5 q
  |.BoolOp .And (p::q::r::d9) ps=>mE a sc N p&&mE b sc N (.BoolOp .And (q::r::d9) ps)&&v5 p
  |_=>false
 |.or a b,sc,N,x=>match x with
  |.BoolOp .Or [p,q] _=>mE a sc N p&&mE b sc N q&&v5 p&&v5 q
  |.BoolOp .Or (p::q::r::d9) ps=>mE a sc N p&&mE b sc N (.BoolOp .Or (q::r::d9) ps)&&v5 p
  |_=>false
 |.not a,sc,N,x=>match x with|.UnaryOp .Not p _=>mE a sc N p&&v5 p|_=>false
 |.ite c a b,sc,N,x=>match x with|.IfExp p q r _=>mE c sc N p&&mE a sc N q&&mE b sc N r&&v5 p|_=>false
 |.ix a b,sc,N,x=>match x with|.Subscript p q _=>mE a sc N p&&mE b sc N q|_=>false
 |.sl a lo hi,sc,N,x=>match x with
  |.Subscript p (.Slice l h none _) _=>mE a sc N p&&(match l with|none=>lo.isNon|some l=>!lo.isNon&&mE lo sc N l)&&(match h with|none=>hi.isNon|some h=>!hi.isNon&&mE hi sc N h)
  |_=>false
 |.dsel ks vs k,sc,N,x=>match x with
  |.Subscript (.Dict keys xs _) q _=>mKs ks keys&&mEs vs sc N xs&&mE k sc N q&&(ks.length==vs.len)&&decide ks.Nodup&&decide (ks.length≤15)&&!ks.isEmpty
  |_=>false
 |.gget g k d,sc,N,x=>match x with|.Call (.Attribute (.Name y _) m ap) [p,q] [] cp=>(m==("get":Str))&&(g==y)&&(ap.endLine==cp.line)&&glb sc g&&okN g&&mE k sc N p&&mE d sc N q|_=>false
 |.gsel g k,sc,N,x=>match x with|.Subscript (.Name y _) q _=>(g==y)&&glb sc g&&okN g&&mE k sc N q|_=>false
 |.len a,sc,N,x=>match x with|.Call (.Name f _) [p] [] _=>(f==("len":Str))&&glb sc "len"&&mE a sc N p|_=>false
 |.abs a,sc,N,x=>match x with|.Call (.Name f _) [p] [] _=>(f==("abs":Str))&&glb sc "abs"&&mE a sc N p|_=>false
 |.toInt a,sc,N,x=>match x with|.Call (.Name f _) [p] [] _=>(f==("int":Str))&&glb sc "int"&&mE a sc N p|_=>false
 |.sum a,sc,N,x=>match x with|.Call (.Name f _) [p] [] _=>(f==("sum":Str))&&glb sc "sum"&&mE a sc N p|_=>false
 |.list a,sc,N,x=>match x with|.Call (.Name f _) [p] [] _=>(f==("list":Str))&&glb sc "list"&&mE a sc N p|_=>false
 |.tuple a,sc,N,x=>match x with|.Call (.Name f _) [p] [] _=>(f==("tuple":Str))&&glb sc "tuple"&&mE a sc N p|_=>false
 |.max a b,sc,N,x=>match x with|.Call (.Name f _) [p,q] [] _=>(f==("max":Str))&&glb sc "max"&&mE a sc N p&&mE b sc N q|_=>false
 |.call f es,sc,N,x=>match x with|.Call (.Name g _) (y::ys) [] _=>(f==g)&&glb sc f&&okN f&&mEs es sc N (y::ys)&&!isM f|_=>false
 |.callv i es,sc,N,x=>match x with|.Call (.Name y _) (z::zs) [] _=>(N[i]?==some y)&&ag1 sc y&&okN y&&mEs es sc N (z::zs)|_=>false
 |.app a b,sc,N,x=>match x with|.Call (.Attribute o m ap) [p] [] cp=>(m==("append":Str))&&(ap.endLine==cp.line)&&E1 o&&mE a sc N o&&mE b sc N p|_=>false
 |.ext a b,sc,N,x=>match x with|.Call (.Attribute o m ap) [p] [] cp=>(m==("extend":Str))&&(ap.endLine==cp.line)&&E1 o&&mE a sc N o&&mE b sc N p|_=>false
 |.popAt a b,sc,N,x=>match x with|.Call (.Attribute o m ap) [p] [] cp=>(m==("pop":Str))&&(ap.endLine==cp.line)&&E1 o&&mE a sc N o&&mE b sc N p|_=>false
 |.pop a,sc,N,x=>match x with|.Call (.Attribute o m ap) [] [] cp=>(m==("pop":Str))&&(ap.endLine==cp.line)&&E1 o&&mE a sc N o|_=>false
 |.any a,sc,N,x=>match x with|.Call (.Name f _) [p] [] _=>(f==("any":Str))&&glb sc "any"&&mE a sc N p|_=>false
 |.lrev a,sc,N,x=>match x with|.Call (.Attribute o m ap) [] [] cp=>(m==("reverse":Str))&&(ap.endLine==cp.line)&&E1 o&&mE a sc N o|_=>false
 |.gc g,sc,_,x=>match x with|.Name y _=>(g==y)&&glb sc g&&okN g|_=>false
 |.index a b,sc,N,x=>match x with|.Call (.Attribute o m ap) [p] [] cp=>(m==("index":Str))&&(ap.endLine==cp.line)&&E1 o&&mE a sc N o&&mE b sc N p|_=>false
 |.comp Nc fr k t it c e,sc,N,x=>match x with
  |.ListComp el [⟨tg,itx,ifs,0⟩] scope _=>L0 sc scope N Nc fr k&&mIt it sc N tg itx&&mTg false t (ao1 scope sc) Nc tg&&mE e (ao1 scope sc) Nc el&&
    (match ifs with|[]=>c.isNon|[cx]=>!c.isNon&&v5 cx&&mE c (ao1 scope sc) Nc cx|_=>false)
  |_=>false
noncomputable def mEs:Es→Scope→List Str→List Expr→Bool
 |.nil,_,_,xs=>xs.isEmpty
 |.cons e r,sc,N,xs=>match xs with|x::xs=>mE e sc N x&&mEs r sc N xs|[]=>false
noncomputable def mIt:It→Scope→List Str→Expr→Expr→Bool
 |.seq e,sc,N,_,x=>mE e sc N x
 |.rng a,sc,N,_,x=>match x with|.Call (.Name f _) [p] [] _=>(f==("range":Str))&&glb sc "range"&&mE a sc N p|_=>false
 |.rng2 a b,sc,N,_,x=>match x with|.Call (.Name f _) [p,q] [] _=>(f==("range":Str))&&glb sc "range"&&mE a sc N p&&mE b sc N q|_=>false
 |.enum e,sc,N,tg,x=>(match tg with|.Tuple ..=>true|_=>false)&&(match x with|.Call (.Name f _) [p] [] _=>(f==("enumerate":Str))&&glb sc "enumerate"&&mE e sc N p|_=>false)
 |.rev e,sc,N,_,x=>match x with|.Call (.Name f _) [p] [] _=>(f==("reversed":Str))&&glb sc "reversed"&&mE e sc N p|_=>false
end
structure XOk(Z:Sg)(X:Cx):Prop where
 calm:X.calm=true
 xe:X.xe=fun _ _=>False
 units:X.A.units+200<cLine
 nd:X.N.Nodup
 blt:∀b∈P7,X.mg b=none
 fns:∀f,isM f=false→Z.F f=true→FOk X f (Z.Phi f)
 nom:∀f fa,Z.F f=true→W.nsIn X.K mainGlobals f=some (some (.ref fa))→isM f=false
 cls:∀f c Ca,W.nsIn X.K mainGlobals c=some (some (.ref Ca))→f∈Z.C c→Cls X.K Ca∧az8 X.K Ca f
 mth:∀m c Ca,W.nsIn X.K mainGlobals c=some (some (.ref Ca))→Z.F (u7 c m)=true→∃k f fd ps,Cls X.K Ca∧Meth X.K Ca m f∧FnOk X.prog X.w X.K X.mg X.base CX0 k f fd ps (D0 X.K (Z.Phi (u7 c m)))∧Room k X.A∧y6 X.K fd ps []
 mks:∀c,Z.MF (u7 c "__init__")=true→∃Ca k f fd ps,W.nsIn X.K mainGlobals c=some (some (.ref Ca))∧Mk X.K Ca f∧FnOk X.prog X.w X.K X.mg X.base CX0 k f fd ps (D0 X.K (Z.Mk (u7 c "__init__")))∧Room (k+1) X.A∧X.mg c=some (.ref Ca)∧y6 X.K fd ps []
 tabs:∀g,Z.G g≠[]→GTab X.prog X.w X.K X.mg g (Z.G g)
 cst:∀g i,Z.Kc g=some i→∃t,X.mg g=some (.int i t)
 kt:Tbs.kt=(Z.C "!kt").isEmpty
 lam:X.N.contains t3=true→LamOk X∧∀x,X.N.contains (p8 x)=true→X.fn x=false∧X.ow x=true
 mtE:∀(e:E)(sc:Scope)(N:List Str)(x:Expr),mE e sc N x=true→N.contains t3=false→Tbs.mt (.cons (.ret e) .nil) sc N (.expr x)
 clo:∀np N b cs fa fd ps,CloF fd np N ps b→∃k,FnOk X.prog X.w X.K X.mg X.base CX0 k fa fd ps (M0 X.K fa fd np N cs (Z.PhiC np N b cs))∧Room k X.A
end Ek
namespace Ek
open PySem PySem.Spec PyProof.Rows L2
variable [Tbs]
structure Snd(Z:Sg)(X:Cx)(e:E)(x:Expr):Prop where
 v:PE X x (up X.K (wpE Z e))
 t:v5 x=true→PT X x (upB X.K (wpT Z e))
 w:∀op vs p,x=.BoolOp op vs p→PW X x (upB X.K (wpT Z e))
 st:∀y p,x≠.Starred y p
 sl:∀l u s p,x≠.Slice l u s p
 se:∀l k p,x≠.Set l k p
theorem am6{x:Expr}(h:ay4 x=true):(∀y p,x≠.Starred y p)∧(∀l u s p,x≠.Slice l u s p)∧(∀l k p,x≠.Set l k p):=
 ⟨fun _ _ z=>(by rw[z]at h;cases h),fun _ _ _ _ z=>(by rw[z]at h;cases h),fun _ _ _ z=>(by rw[z]at h;cases h)⟩
theorem Snd.plain{Z:Sg}{X:Cx}{e:E}{x:Expr}(he:PE X x (up X.K (wpE Z e)))(hi:∀whole,isTrue x X.env whole=(do let v ←whole;standAt x.pos;holding [v] (truthy v)))(hu:ay4 x=true)(hb:∀op vs p,x≠.BoolOp op vs p):Snd Z X e x:=
 ⟨he,fun _=>b09 he hi,fun op vs p z=>absurd z (hb op vs p),(am6 hu).1,(am6 hu).2.1,(am6 hu).2.2⟩
theorem t7{X:Cx}{f:Str}(h:glb X.env.scope f=true):Gl X f:=by
 have:X.env.scope.names.lookup f=some .globalImplicit:=by simpa[glb]using h
 exact this
theorem ay0{sc:Scope}{f:Str}(h:ag1 sc f=true):Vis sc f:=by
 unfold ag1 at h
 split at h
 ·exact .inl (by assumption)
 ·exact .inr (.inl (by assumption))
 ·exact .inr (.inr (by assumption))
 ·cases h
theorem w4{sc:Scope}{f:Str}(h:A8 sc f=true):Loc sc f:=by
 unfold A8 at h
 split at h
 ·exact .inl (by assumption)
 ·exact .inr (by assumption)
 ·cases h
theorem B6{x:Str}(h:okN x=true):(x==("__debug__":Str))=false∧(x==("__classdict__":Str))=false:=by
 simpa[okN]using h
theorem G1{o:Expr}(h:E1 o=true):∀i p p',o≠.Call (.Name i p) [] [] p':=fun _ _ _ z=>by rw[z]at h;cases h
theorem XOk.blt'{Z:Sg}{X:Cx}(h:XOk Z X)(b:Str)(hb:P7.contains b=true:=by decide):X.mg b=none:=h.blt b (by simpa using hb)
theorem XOk.pass{Z:Sg}{X:Cx}(h:XOk Z X):PassesOwn (model X.prog X.w) X.A X.env X.xe:=by rw[h.xe];exact PassesOwn.never
theorem al5{X:Cx}{ow:Bool}{t:Tg}{x:Expr}(hc:X.calm=true)(hN:X.N.Nodup)(how:ow=true→∀y,Loc X.env.scope y→X.N.contains (p8 y)=false→X.fn y=true∨X.env.scope.names.lookup y=some .local)(h:mTg ow t X.env.scope X.N x=true):PG X x (upG X.K t):=by
 have one:∀(i:Nat)(y:Str)(p:Pos),((X.N[i]?==some y)&&A8 X.env.scope y&&((ow&&!(X.N.contains (p8 y)))||lcl X.env.scope y))=true→X.N[i]?=some y∧Loc X.env.scope y∧(X.fn y=true∨X.env.scope.names.lookup y=some .local):=fun i y p h=>by
  simp only[Bool.and_eq_true,beq_iff_eq,Bool.or_eq_true,Bool.not_eq_true']at h;refine⟨h.1.1,w4 h.1.2,?_⟩
  rcases h.2 with z|z
  ·exact how z.1 y (w4 h.1.2) z.2
  ·exact .inr (by simpa[lcl]using z)
 cases t with
 |n i=>
  unfold mTg at h;simp only at h
  split at h
  ·obtain⟨a,b,c⟩:=one _ _ ⟨0,0,0,0⟩ h;exact bl4 hN a b c
  ·cases h
 |tup is=>
  unfold mTg at h;simp only at h
  split at h
  ·rename_i es k p;simp only[Bool.and_eq_true,beq_iff_eq]at h;obtain⟨hl,ha⟩:=h;have all:∀(is:List Nat)(es:List Expr),is.length=es.length→((is.zip es).all fun p=>match p.2 with
     |.Name y _=>(X.N[p.1]?==some y)&&A8 X.env.scope y&&((ow&&!(X.N.contains (p8 y)))||lcl X.env.scope y)|_=>false)=true→PGs X es (ae3 is)∧(assignEach es X.env).length=is.length∧(assignEach es X.env).findIdx? (·.1)=none:=by
    intro is
    induction is with
    |nil=>
     intro es hl _;cases es with
     |nil=>exact⟨bn0,rfl,rfl⟩
     |cons a b=>simp at hl
    |cons i is ih=>
     intro es hl h;cases es with
     |nil=>simp at hl
     |cons e es=>
      simp only[List.zip_cons_cons,List.all_cons,Bool.and_eq_true]at h;obtain⟨h1,h2⟩:=h;obtain⟨g1,g2,g3⟩:=ih es (by simpa using hl) h2;cases e<;>first|cases h1|skip
      rename_i y py;obtain⟨a,b,c⟩:=one i y py h1;refine⟨bh6 (aw0 hN a b c) g1 rfl,?_,?_⟩
      ·show(assignEach es X.env).length+1=_;rw[g2];rfl
      ·show List.findIdx? _ ((false,assign (.Name y py) X.env)::assignEach es X.env)=none;rw[List.findIdx?_cons];simp only[Bool.false_eq_true,if_false];rw[g3];rfl
   obtain⟨g1,g2,g3⟩:=all is es hl ha;exact by5 hc g1 g2 g3
  ·cases h
theorem as4{X:Cx}{scope:Scope}{Nc:List Str}{fr:List Nat}{k:Nat}(h:L0 X.env.scope scope X.N Nc fr k=true):CompScope X scope Nc fr k:=by
 unfold L0 at h;simp only[Bool.and_eq_true,beq_iff_eq,decide_eq_true_eq,List.all_eq_true]at h;obtain⟨⟨⟨⟨⟨⟨⟨⟨h1,h2⟩,h3⟩,h4⟩,h5⟩,h6⟩,_⟩,h7⟩,h8⟩:=h;refine⟨h1,fun y hy=>?_,fun y hy hl=>?_,fun y hy hf=>?_,fun y hy hf hm=>?_,h6,h7,fun i x hx hi=>?_⟩
 ·simpa using h2 y hy
 ·have:=h3 y hy;rw[hl]at this;simpa using this
 ·have:=h4 y hy;rw[hf]at this;simpa using this
 ·have:=h5 y hy;rw[hf]at this;have:(scope.names.any fun z=>z.1==y.1&&z.2==.local)=false:=by simpa using this
  rw[List.any_eq_false]at this;exact absurd (by simp) (this _ hm)
 ·have:=h8 i (by simpa using hi);rw[hx]at this;cases q:fr[i]? with
  |none=>rw[q]at this;cases this
  |some j=>
   rw[q]at this;simp only[Bool.and_eq_true,beq_iff_eq,List.any_eq_true]at this;obtain⟨a,⟨n,kd⟩,hm,e1,e2⟩:=this;simp only at e1 e2;subst e1 e2;exact⟨j,rfl,a,hm⟩
theorem P6{X:Cx}{scope:Scope}{Nc:List Str}{fr:List Nat}{k:Nat}(h:L0 X.env.scope scope X.N Nc fr k=true):Nc.contains t3=false:=by
 unfold L0 at h;simp only[Bool.and_eq_true,Bool.not_eq_true']at h;exact h.1.1.2
theorem XOk.comp{Z:Sg}{X:Cx}{scope:Scope}{Nc:List Str}{fr:List Nat}{k:Nat}(h:XOk Z X)(nl:Nc.contains t3=false)(S:CompScope X scope Nc fr k)(C:Addr)(fp:List Addr)(pins:List (Addr×Obj))(s:Shared)(H:Hp):XOk Z (X.comp scope Nc C fp pins s H) where
 calm:=h.calm
 xe:=rfl
 units:=h.units
 nd:=S.nd
 blt:=h.blt
 fns:=fun f hm hf=>let⟨k,a,fd,ps,x⟩:=(h.fns f hm hf).ex;⟨k,a,fd,ps,x⟩
 nom:=fun f fa a b=>h.nom f fa a b
 cls:=fun f c Ca a b=>h.cls f c Ca a b
 mth:=fun m c Ca a b=>h.mth m c Ca a b
 mks:=fun c a=>h.mks c a
 tabs:=fun g hg=>⟨(h.tabs g hg).ex⟩
 lam:=fun z=>by
  have z':Nc.contains t3=true:=z;rw[nl]at z';cases z'
 cst:=h.cst
 kt:=h.kt
 mtE:=h.mtE
 clo:=fun np N b cs fa fd ps cf=>h.clo np N b cs fa fd ps cf
theorem b07(name qual:Str)(a:Str)(pos:Pos)(fb:FuncBody)(scope:Scope)(cl:List (Str×Addr))(doc pm cv ct:Value)(u:Value):bindArgs (u6 name qual ⟨[],[⟨a,none,pos⟩],none,[],[],none,[]⟩ fb scope cl doc pm cv ct) ⟨[u],[]⟩=pure [(a,u)]:=by
 have e:seqItems? Value.none=pure none:=rfl;simp[bindArgs,u6,e,List.lookup]
theorem b44(name qual:Str)(a b:Str)(hab:(b==a)=false)(pos pos2:Pos)(fb:FuncBody)(scope:Scope)(cl:List (Str×Addr))(doc pm cv ct:Value)(u v:Value):bindArgs (u6 name qual ⟨[],[⟨a,none,pos⟩,⟨b,none,pos2⟩],none,[],[],none,[]⟩ fb scope cl doc pm cv ct) ⟨[u,v],[]⟩=pure [(a,u),(b,v)]:=by
 have e:seqItems? Value.none=pure none:=rfl;simp[bindArgs,u6,e,List.lookup,hab]
theorem a92{p:Arguments}{ps:List Str}(h:ai2 p=some ps):p.defaults=[]∧p.kw_defaults=[]∧(∀env,defaultsOf p env=([],[]))∧(∀env,annTrees p none env=[]) ∧
  ∀(name qual:Str)(fb:FuncBody)(scope:Scope)(cl:List (Str×Addr))(doc pm cv ct:Value)(us:List Value),us.length=ps.length→bindArgs (u6 name qual p fb scope cl doc pm cv ct) ⟨us,[]⟩=pure (ps.zip us):=by
 unfold ai2 at h
 split at h
 ·cases h;exact⟨rfl,rfl,fun _=>rfl,fun _=>rfl,fun _ _ _ _ _ _ _ _ _ us hl=>match us,hl with|[_],_=>b07 ..⟩
 ·split at h
  ·cases h
  ·rename_i hab;cases h;exact⟨rfl,rfl,fun _=>rfl,fun _=>rfl,fun _ _ _ _ _ _ _ _ _ us hl=>match us,hl with|[_,_],_=>b44 _ _ _ _ (by simpa using hab) ..⟩
 ·cases h
theorem bm9{X:Cx}{params:Arguments}{fb:FuncBody}{scope:Scope}{np:Nat}{Nl ps:List Str}{cp:List Nat}{b:Ss}(h:al3 X.env.scope X.N scope Nl ps np cp=true)(hc:∀x,X.N.contains (p8 x)=true→X.fn x=false∧X.ow x=true)(mt:Tbs.mt b scope Nl fb)
  (bind:∀(name qual:Str)(cl:List (Str×Addr))(doc pm cv ct:Value)(us:List Value),us.length=ps.length→bindArgs (u6 name qual params fb scope cl doc pm cv ct) ⟨us,[]⟩=pure (ps.zip us)):NestOk X params fb scope np Nl ps cp b:=by
 unfold al3 at h;simp only[Bool.and_eq_true,beq_iff_eq,Bool.not_eq_true',decide_eq_true_eq,List.all_eq_true]at h;obtain⟨⟨⟨⟨⟨⟨⟨⟨⟨h1,h2⟩,h3⟩,h4⟩,h5⟩,h6⟩,h7⟩,h8⟩,h9⟩,h10⟩:=h;have key:∀x,(x,NameKind.free)∈scope.names→scope.names.lookup x=some .free∧X.env.scope.names.lookup x=some .cell∧X.N.contains (p8 x)=true∧∃i:Nat,∃j:Nat,cp[i]?=some j∧X.N[j]?=some x:=fun x hx=>by
  have:=h9 _ hx;simp only[beq_self_eq_true,Bool.not_true,Bool.false_or,Bool.and_eq_true,beq_iff_eq,List.any_eq_true]at this;obtain⟨⟨⟨a,b⟩,c⟩,i,_,d⟩:=this;refine⟨a,b,c,i,?_⟩
  split at d
  ·rename_i j hj;exact⟨j,hj,by simpa using d⟩
  ·cases d
 refine⟨⟨h2,h3,h4,h5,h6,h7,fun y hy=>by simpa using h8 y hy,fun y hy hk=>?_⟩,h1,mt,bind,fun i j hj=>?_,fun x hx=>?_⟩
 ·obtain⟨y,k⟩:=y;simp only at hk;subst hk;exact(key y hy).1
 ·have hi:=(List.getElem?_eq_some_iff.mp hj).1;have:=h10 i (by simpa using hi);rw[hj]at this;simp only at this
  split at this
  ·rename_i x hx;simp only[Bool.and_eq_true,beq_iff_eq,List.any_eq_true]at this;obtain⟨a,⟨y,k⟩,hm,e1,e2⟩:=this;simp only at e1 e2;subst e1 e2;exact⟨_,hx,a,hm⟩
  ·cases this
 ·obtain⟨a,b,c,i,j,d1,d2⟩:=key x hx;exact⟨⟨i,j,d1,d2⟩,b,hc x c⟩
end Ek
namespace Ek
open PySem PySem.Spec PyProof.Rows L2
variable [Tbs]
structure SndA(Z:Sg)(X:Cx)(es:Es)(xs:List Expr):Prop where
 a:PA X xs (upA X.K es.len (r9 Z es))
 pl:∀pos:Pos,(backTo pos (starEach xs X.env)).any (·.1)=false
theorem ax7{X:Cx}{o:BoolOp}{q:Expr}{pos:Pos}{t:DT}(h:PT X q (upB X.K (tst t))):PW X (.BoolOp o [q] pos) (upB X.K (tst t)):=by
 cases o with
 |And=>exact bp1 h
 |Or=>exact bs9 h
theorem bf8:∀(e:E)(sc:Scope)(N:List Str)(l:List Expr)(k:Nat)(p:Pos),mE e sc N (.Set l k p)=false:=by
 intro e sc N l k p;cases e<;>rfl
theorem am2{env:Env}{it:It}{sc:Scope}{N:List Str}{tg x:Expr}(h:mIt it sc N tg x=true):∀v,foldedSetIterable x env v=pure v:=by
 have hx:∀l k p,x≠.Set l k p:=fun l k p z=>by
  subst z;cases it with
  |seq e=>unfold mIt at h;rw[bf8]at h;cases h
  |rng a=>cases h
  |rng2 a b=>cases h
  |enum e=>unfold mIt at h;simp at h
  |rev e=>cases h
 intro v;cases x<;>first|rfl|exact absurd rfl (hx _ _ _)
mutual
theorem d6(Z:Sg):∀(e:E)(X:Cx)(x:Expr),XOk Z X→mE e X.env.scope X.N x=true→Snd Z X e x
 |.non,X,x,hX,h=>by
  conv at h=>lhs;whnf
  split at h
  ·exact Snd.plain (by exact ae5 bz0 fun _=>.non) (fun _=>rfl) rfl (by intros;exact nofun)
  ·cases h
 |.bl b,X,x,hX,h=>by
  conv at h=>lhs;whnf
  split at h
  ·have e:=beq_iff_eq.mp h;subst e;exact Snd.plain (by exact ae5 b39 fun _=>.bl _) (fun _=>rfl) rfl (by intros;exact nofun)
  ·cases h
 |.int i,X,x,hX,h=>by
  conv at h=>lhs;whnf
  split at h
  ·have e:=beq_iff_eq.mp h;subst e;exact Snd.plain (by exact ae5 bv1 fun _=>.int _) (fun _=>rfl) rfl (by intros;exact nofun)
  ·cases h
 |.str y,X,x,hX,h=>by
  conv at h=>lhs;whnf
  split at h
  ·have e:=beq_iff_eq.mp h;subst e;exact Snd.plain (by exact ae5 ax8 fun _=>.str _) (fun _=>rfl) rfl (by intros;exact nofun)
  ·cases h
 |.v i,X,x,hX,h=>by
  conv at h=>lhs;whnf
  split at h
  ·simp only[Bool.and_eq_true,beq_iff_eq]at h;exact Snd.plain (by exact bs6 h.1.1 (ay0 h.1.2) (B6 h.2).1 (B6 h.2).2) (fun _=>rfl) rfl (by intros;exact nofun)
  ·cases h
 |.tup es,X,x,hX,h=>by
  conv at h=>lhs;whnf
  split at h
  ·simp only[Bool.and_eq_true,decide_eq_true_eq]at h;exact Snd.plain (by exact br5 (M4 Z es X _ hX h.1).a h.2) (fun _=>rfl) rfl (by intros;exact nofun)
  ·cases h
 |.lst es,X,x,hX,h=>by
  conv at h=>lhs;whnf
  split at h
  ·simp only[Bool.and_eq_true,decide_eq_true_eq]at h;exact Snd.plain (by exact br0 (M4 Z es X _ hX h.1).a h.2) (fun _=>rfl) rfl (by intros;exact nofun)
  ·cases h
 |.bin o a b,X,x,hX,h=>by
  conv at h=>lhs;whnf
  split at h
  ·simp only[Bool.and_eq_true,beq_iff_eq]at h;obtain⟨⟨e,h1⟩,h2⟩:=h;subst e;exact Snd.plain (by exact bq1 (d6 Z a X _ hX h1).v (d6 Z b X _ hX h2).v) (fun _=>rfl) rfl (by intros;exact nofun)
  ·cases h
 |.neg a,X,x,hX,h=>by
  conv at h=>lhs;whnf
  split at h
  ·exact Snd.plain (by exact bx5 (d6 Z a X _ hX h).v) (fun _=>rfl) rfl (by intros;exact nofun)
  ·cases h
 |.cmp o a b,X,x,hX,h=>by
  conv at h=>lhs;whnf
  split at h
  ·simp only[Bool.and_eq_true,beq_iff_eq]at h;obtain⟨⟨e,h1⟩,h2⟩:=h;subst e;have ia:=d6 Z a X _ hX h1;have ib:=d6 Z b X _ hX h2;refine⟨by exact bw8 hX.units ia.v ib.v ib.se,fun _=>?_,(fun _ _ _ z=>nomatch z),nofun,nofun,nofun⟩;unfold wpT;exact bv6 hX.units ia.v ib.v ib.se
  ·cases h
 |.isN a,X,x,hX,h=>by
  conv at h=>lhs;whnf
  split at h
  ·have ia:=d6 Z a X _ hX h;refine⟨by exact bv0 ia.v,fun _=>?_,(fun _ _ _ z=>nomatch z),nofun,nofun,nofun⟩;unfold wpT;exact bx0 ia.v
  ·cases h
 |.notN a,X,x,hX,h=>by
  conv at h=>lhs;whnf
  split at h
  ·have ia:=d6 Z a X _ hX h;refine⟨by exact bn6 ia.v,fun _=>?_,(fun _ _ _ z=>nomatch z),nofun,nofun,nofun⟩;unfold wpT;exact bn5 ia.v
  ·cases h
 |.and a b,X,x,hX,h=>by
  conv at h=>lhs;whnf
  split at h
  ·rename_i p q ps;simp only[Bool.and_eq_true]at h;obtain⟨⟨⟨h1,h2⟩,h3⟩,h4⟩:=h;have ia:=d6 Z a X _ hX h1;have ib:=d6 Z b X _ hX h2;have w:PW X (.BoolOp .And [p,q] ps) (upB X.K (wpT Z (.and a b))):=by unfold wpT;exact az7 (ia.t h3) (ax7 (ib.t h4))
   exact⟨by exact ax6 ia.v (ay6 ib.v),fun _=>w.pt,fun _ _ _ _=>w,nofun,nofun,nofun⟩
  ·rename_i p q r d9 ps;simp only[Bool.and_eq_true]at h;obtain⟨⟨h1,h2⟩,h3⟩:=h;have ia:=d6 Z a X _ hX h1;have ib:=d6 Z b X _ hX h2;have w:PW X (.BoolOp .And (p::q::r::d9) ps) (upB X.K (wpT Z (.and a b))):=by unfold wpT;exact az7 (ia.t h3) (ib.w _ _ _ rfl)
   exact⟨by exact ax6 ia.v ib.v,fun _=>w.pt,fun _ _ _ _=>w,nofun,nofun,nofun⟩
  ·cases h
 |.or a b,X,x,hX,h=>by
  conv at h=>lhs;whnf
  split at h
  ·rename_i p q ps;simp only[Bool.and_eq_true]at h;obtain⟨⟨⟨h1,h2⟩,h3⟩,h4⟩:=h;have ia:=d6 Z a X _ hX h1;have ib:=d6 Z b X _ hX h2;have w:PW X (.BoolOp .Or [p,q] ps) (upB X.K (wpT Z (.or a b))):=by unfold wpT;exact a01 (ia.t h3) (ax7 (ib.t h4))
   exact⟨by exact a04 ia.v (ay6 ib.v),fun _=>w.pt,fun _ _ _ _=>w,nofun,nofun,nofun⟩
  ·rename_i p q r d9 ps;simp only[Bool.and_eq_true]at h;obtain⟨⟨h1,h2⟩,h3⟩:=h;have ia:=d6 Z a X _ hX h1;have ib:=d6 Z b X _ hX h2;have w:PW X (.BoolOp .Or (p::q::r::d9) ps) (upB X.K (wpT Z (.or a b))):=by unfold wpT;exact a01 (ia.t h3) (ib.w _ _ _ rfl)
   exact⟨by exact a04 ia.v ib.v,fun _=>w.pt,fun _ _ _ _=>w,nofun,nofun,nofun⟩
  ·cases h
 |.not a,X,x,hX,h=>by
  conv at h=>lhs;whnf
  split at h
  ·simp only[Bool.and_eq_true]at h;have ia:=d6 Z a X _ hX h.1;refine⟨by exact br6 ia.v,fun _=>?_,(fun _ _ _ z=>nomatch z),nofun,nofun,nofun⟩;unfold wpT;exact bq3 (ia.t h.2)
  ·cases h
 |.ite c a b,X,x,hX,h=>by
  conv at h=>lhs;whnf
  split at h
  ·simp only[Bool.and_eq_true]at h;obtain⟨⟨⟨h1,h2⟩,h3⟩,h4⟩:=h;exact⟨by exact br3 ((d6 Z c X _ hX h1).t h4) (d6 Z a X _ hX h2).v (d6 Z b X _ hX h3).v,(fun z=>nomatch z),(fun _ _ _ z=>nomatch z),nofun,nofun,nofun⟩
  ·cases h
 |.ix a b,X,x,hX,h=>by
  conv at h=>lhs;whnf
  split at h
  ·simp only[Bool.and_eq_true]at h;have ib:=d6 Z b X _ hX h.2;exact Snd.plain (by exact b28 hX.units (d6 Z a X _ hX h.1).v ib.v ib.sl) (fun _=>rfl) rfl (by intros;exact nofun)
  ·cases h
 |.sl a lo hi,X,x,hX,h=>by
  conv at h=>lhs;whnf
  split at h
  ·rename_i p l hh p1 p2;simp only[Bool.and_eq_true]at h;obtain⟨⟨h1,h2⟩,h3⟩:=h;have ia:=d6 Z a X _ hX h1;have hl:PO X l (upO X.K fun env st k=>(if lo.isNon=true then fun k=>k none st else fun(k:Option Int→Sto→Prop)=>wpE Z lo env st fun d st'=>∃i,d=.int i∧k (some i) st') k):=by
    cases l with
    |none=>simp only at h2;rw[h2];simp only[if_true];exact aw6
    |some l=>
     simp only[Bool.and_eq_true,Bool.not_eq_true']at h2;rw[h2.1];simp only[Bool.false_eq_true,if_false];exact ax0 (d6 Z lo X _ hX h2.2).v
   have hh:PO X hh (upO X.K fun env st k=>(if hi.isNon=true then fun k=>k none st else fun(k:Option Int→Sto→Prop)=>wpE Z hi env st fun d st'=>∃i,d=.int i∧k (some i) st') k):=by
    cases hh with
    |none=>simp only at h3;rw[h3];simp only[if_true];exact aw6
    |some l=>
     simp only[Bool.and_eq_true,Bool.not_eq_true']at h3;rw[h3.1];simp only[Bool.false_eq_true,if_false];exact ax0 (d6 Z hi X _ hX h3.2).v
   exact Snd.plain (by exact b20 ia.v hl hh) (fun _=>rfl) rfl (by intros;exact nofun)
  ·cases h
 |.dsel ks vs k,X,x,hX,h=>by
  conv at h=>lhs;whnf
  split at h
  ·rename_i keys xs dp q pos;simp only[Bool.and_eq_true,beq_iff_eq,decide_eq_true_eq,Bool.not_eq_true']at h;obtain⟨⟨⟨⟨⟨⟨h1,h2⟩,h3⟩,h4⟩,h5⟩,h6⟩,h7⟩:=h;have ik:=d6 Z k X _ hX h3;obtain⟨d,e1,e2,e3⟩:=a09 Z vs X ks _ _ dp hX h1 h2 h4;have hne:∀{l:List (Option Expr)},l.length=ks.length→l≠[]:=fun e3 z=>by
    rw[z]at e3;simp only[List.length_nil]at e3;have:ks=[]:=List.eq_nil_of_length_eq_zero e3.symm;rw[this]at h7;cases h7
   exact Snd.plain (by exact bn3 hX.units d e1 e2 (hne e3) e3 (by omega) h5 ik.v ik.sl) (fun _=>rfl) rfl (by intros;exact nofun)
  ·cases h
 |.gget g k d,X,x,hX,h=>by
  conv at h=>lhs;whnf
  split at h
  ·simp only[Bool.and_eq_true,beq_iff_eq]at h;obtain⟨⟨⟨⟨⟨⟨e0,e⟩,hl⟩,h1⟩,h2⟩,h3⟩,h4⟩:=h;subst e0 e;have ik:=d6 Z k X _ hX h3;have id:=d6 Z d X _ hX h4;exact Snd.plain (by exact bp9 (hX.tabs g) (t7 h1) ik.v id.v ik.st id.st (by simpa using hl) (B6 h2).1) (fun _=>rfl) rfl (by intros;exact nofun)
  ·cases h
 |.gsel g k,X,x,hX,h=>by
  conv at h=>lhs;whnf
  split at h
  ·simp only[Bool.and_eq_true,beq_iff_eq]at h;obtain⟨⟨⟨e,h1⟩,h2⟩,h3⟩:=h;subst e;have ik:=d6 Z k X _ hX h3;exact Snd.plain (by exact bk1 (hX.tabs g) (t7 h1) ik.v ik.sl (B6 h2).1) (fun _=>rfl) rfl (by intros;exact nofun)
  ·cases h
 |.len a,X,x,hX,h=>by
  conv at h=>lhs;whnf
  split at h
  ·simp only[Bool.and_eq_true,beq_iff_eq]at h;obtain⟨⟨e,h1⟩,h2⟩:=h;subst e;have ia:=d6 Z a X _ hX h2;exact Snd.plain (by exact bx8 (t7 h1) (hX.blt' _) ia.v ia.st) (fun _=>rfl) rfl (by intros;exact nofun)
  ·cases h
 |.abs a,X,x,hX,h=>by
  conv at h=>lhs;whnf
  split at h
  ·simp only[Bool.and_eq_true,beq_iff_eq]at h;obtain⟨⟨e,h1⟩,h2⟩:=h;subst e;have ia:=d6 Z a X _ hX h2;exact Snd.plain (by exact bx7 (t7 h1) (hX.blt' _) ia.v ia.st) (fun _=>rfl) rfl (by intros;exact nofun)
  ·cases h
 |.toInt a,X,x,hX,h=>by
  conv at h=>lhs;whnf
  split at h
  ·simp only[Bool.and_eq_true,beq_iff_eq]at h;obtain⟨⟨e,h1⟩,h2⟩:=h;subst e;have ia:=d6 Z a X _ hX h2;exact Snd.plain (by exact bg5 (t7 h1) (hX.blt' _) ia.v ia.st) (fun _=>rfl) rfl (by intros;exact nofun)
  ·cases h
 |.sum a,X,x,hX,h=>by
  conv at h=>lhs;whnf
  split at h
  ·simp only[Bool.and_eq_true,beq_iff_eq]at h;obtain⟨⟨e,h1⟩,h2⟩:=h;subst e;have ia:=d6 Z a X _ hX h2;exact Snd.plain (by exact br7 hX.calm (t7 h1) (hX.blt' _) ia.v ia.st) (fun _=>rfl) rfl (by intros;exact nofun)
  ·cases h
 |.list a,X,x,hX,h=>by
  conv at h=>lhs;whnf
  split at h
  ·simp only[Bool.and_eq_true,beq_iff_eq]at h;obtain⟨⟨e,h1⟩,h2⟩:=h;subst e;have ia:=d6 Z a X _ hX h2;exact Snd.plain (by exact bm2 (t7 h1) (hX.blt' _) ia.v ia.st) (fun _=>rfl) rfl (by intros;exact nofun)
  ·cases h
 |.tuple a,X,x,hX,h=>by
  conv at h=>lhs;whnf
  split at h
  ·simp only[Bool.and_eq_true,beq_iff_eq]at h;obtain⟨⟨e,h1⟩,h2⟩:=h;subst e;have ia:=d6 Z a X _ hX h2;exact Snd.plain (by exact bh9 (t7 h1) (hX.blt' _) ia.v ia.st) (fun _=>rfl) rfl (by intros;exact nofun)
  ·cases h
 |.max a b,X,x,hX,h=>by
  conv at h=>lhs;whnf
  split at h
  ·simp only[Bool.and_eq_true,beq_iff_eq]at h;obtain⟨⟨⟨e,h1⟩,h2⟩,h3⟩:=h;subst e;have ia:=d6 Z a X _ hX h2;have ib:=d6 Z b X _ hX h3;exact Snd.plain (by exact bq8 hX.calm (t7 h1) (hX.blt' _) ia.v ib.v ia.st ib.st) (fun _=>rfl) rfl (by intros;exact nofun)
  ·cases h
 |.call f es,X,x,hX,h=>by
  conv at h=>lhs;whnf
  split at h
  ·rename_i g p y ys pos;simp only[Bool.and_eq_true,beq_iff_eq]at h;obtain⟨⟨⟨⟨e,h1⟩,h2⟩,h3⟩,hnm⟩:=h;have hnm:isM f=false:=by simpa using hnm
   subst e;cases es with
   |nil=>simp[mEs]at h3
   |cons e0 er=>
    have h3':=h3;unfold mEs at h3';simp only[Bool.and_eq_true]at h3';have i0:=d6 Z e0 X _ hX h3'.1;have ir:=M4 Z er X _ hX h3'.2;have ia:PA X (y::ys) (upA X.K (Es.cons e0 er).len (r9 Z (.cons e0 er))):=by exact K0 i0.v ir.a i0.st
    refine Snd.plain ?_ (fun _=>rfl) rfl (by intros;exact nofun)
    by_cases hF:Z.F f=true
    ·obtain⟨k,a,fd,ps,F,hr,hm,hk,hb,_⟩:=(hX.fns f hnm hF).ex;exact PE.imp (bl8 F hr (t7 h1) hm hk hb ia (B6 h2).1 i0.st (ir.pl _)) fun σ H Q⟨env,st,Qd,hE,hS,ht,hq⟩=>⟨env,st,Qd,hE,hS,ht.2,hq⟩
    ·intro pins s σ H Q I q;obtain⟨env,st,Qd,hE,hS,ht,hq⟩:=q;exact absurd ht.1 hF
  ·cases h
 |.gc g,X,x,hX,h=>by
  conv at h=>lhs;whnf
  split at h
  ·simp only[Bool.and_eq_true,beq_iff_eq]at h;obtain⟨⟨e,h1⟩,h2⟩:=h;subst e;refine Snd.plain ?_ (fun _=>rfl) rfl (by intros;exact nofun);cases hk:Z.Kc g with
   |none=>
    intro pins s σ H Q I q;obtain⟨env,st,Qd,hE,hS,⟨i,hi,_⟩,hq⟩:=q;rw[hk]at hi;cases hi
   |some i=>
    obtain⟨t,hm⟩:=hX.cst g i hk;exact PE.imp (bj8 (v:=.int i) (t7 h1) hm ⟨t,rfl⟩ (B6 h2).1) fun σ H Q q=>by
     obtain⟨env,st,Qd,hE,hS,⟨i',hi,ht⟩,hq⟩:=q;rw[hk]at hi;cases hi;exact hq.here (.int _) hS ht
  ·cases h
 |.callv i es,X,x,hX,h=>by
  conv at h=>lhs;whnf
  split at h
  ·rename_i y p z zs pos;simp only[Bool.and_eq_true,beq_iff_eq]at h;obtain⟨⟨⟨h0,h1⟩,h2⟩,h3⟩:=h;cases es with
   |nil=>simp[mEs]at h3
   |cons e0 er=>
    have h3':=h3;unfold mEs at h3';simp only[Bool.and_eq_true]at h3';have i0:=d6 Z e0 X _ hX h3'.1;have ir:=M4 Z er X _ hX h3'.2;have ia:PA X (z::zs) (upA X.K (Es.cons e0 er).len (r9 Z (.cons e0 er))):=by exact K0 i0.v ir.a i0.st
    refine Snd.plain ?_ (fun _=>rfl) rfl (by intros;exact nofun);refine bg6 (Z:=Z) h0 (ay0 h1) (B6 h2).1 (B6 h2).2 (fun f fa hF hns=>?_) hX.clo ia i0.st (ir.pl _);obtain⟨k,a,fd,ps,F,hr,hm,hk,hb,hn⟩:=(hX.fns f (hX.nom f fa hF hns) hF).ex;rw[hn]at hns;cases hns;exact⟨k,fd,ps,F,hr,hk,hb⟩
  ·cases h
 |.app a b,X,x,hX,h=>by
  conv at h=>lhs;whnf
  split at h
  ·simp only[Bool.and_eq_true,beq_iff_eq]at h;obtain⟨⟨⟨⟨e,h1⟩,h2⟩,h3⟩,h4⟩:=h;subst e;have ib:=d6 Z b X _ hX h4;exact Snd.plain (by exact bt1 (d6 Z a X _ hX h3).v ib.v (G1 h2) ib.st (by simpa using h1)) (fun _=>rfl) rfl (by intros;exact nofun)
  ·cases h
 |.ext a b,X,x,hX,h=>by
  conv at h=>lhs;whnf
  split at h
  ·simp only[Bool.and_eq_true,beq_iff_eq]at h;obtain⟨⟨⟨⟨e,h1⟩,h2⟩,h3⟩,h4⟩:=h;subst e;have ib:=d6 Z b X _ hX h4;exact Snd.plain (by exact bq2 (d6 Z a X _ hX h3).v ib.v (G1 h2) ib.st (by simpa using h1)) (fun _=>rfl) rfl (by intros;exact nofun)
  ·cases h
 |.popAt a b,X,x,hX,h=>by
  conv at h=>lhs;whnf
  split at h
  ·simp only[Bool.and_eq_true,beq_iff_eq]at h;obtain⟨⟨⟨⟨e,h1⟩,h2⟩,h3⟩,h4⟩:=h;subst e;have ib:=d6 Z b X _ hX h4;exact Snd.plain (by exact bg3 (d6 Z a X _ hX h3).v ib.v (G1 h2) ib.st (by simpa using h1)) (fun _=>rfl) rfl (by intros;exact nofun)
  ·cases h
 |.pop a,X,x,hX,h=>by
  conv at h=>lhs;whnf
  split at h
  ·simp only[Bool.and_eq_true,beq_iff_eq]at h;obtain⟨⟨⟨e,h1⟩,h2⟩,h3⟩:=h;subst e;exact Snd.plain (by exact bs5 (d6 Z a X _ hX h3).v (G1 h2) (by simpa using h1)) (fun _=>rfl) rfl (by intros;exact nofun)
  ·cases h
 |.any a,X,x,hX,h=>by
  conv at h=>lhs;whnf
  split at h
  ·simp only[Bool.and_eq_true,beq_iff_eq]at h;obtain⟨⟨e,h1⟩,h2⟩:=h;subst e;have ia:=d6 Z a X _ hX h2;exact Snd.plain (by exact br8 hX.calm (t7 h1) (hX.blt' _) ia.v ia.st) (fun _=>rfl) rfl (by intros;exact nofun)
  ·cases h
 |.lrev a,X,x,hX,h=>by
  conv at h=>lhs;whnf
  split at h
  ·simp only[Bool.and_eq_true,beq_iff_eq]at h;obtain⟨⟨⟨e,h1⟩,h2⟩,h3⟩:=h;subst e;exact Snd.plain (by exact bp0 (d6 Z a X _ hX h3).v (G1 h2) (by simpa using h1)) (fun _=>rfl) rfl (by intros;exact nofun)
  ·cases h
 |.index a b,X,x,hX,h=>by
  conv at h=>lhs;whnf
  split at h
  ·simp only[Bool.and_eq_true,beq_iff_eq]at h;obtain⟨⟨⟨⟨e,h1⟩,h2⟩,h3⟩,h4⟩:=h;subst e;have ib:=d6 Z b X _ hX h4;exact Snd.plain (by exact bd8 hX.units (d6 Z a X _ hX h3).v ib.v (G1 h2) ib.st (by simpa using h1)) (fun _=>rfl) rfl (by intros;exact nofun)
  ·cases h
 |.comp Nc fr k t it c e,X,x,hX,h=>by
  conv at h=>lhs;whnf
  split at h
  ·rename_i el tg itx ifs scope pos;simp only[Bool.and_eq_true]at h;obtain⟨⟨⟨⟨h1,h2⟩,h3⟩,h4⟩,h5⟩:=h;have Sc:=as4 h1;have hi:=am0 Z it X tg itx hX h2;have hg:∀C fp pins s H,PG (X.comp scope Nc C fp pins s H) tg (upG X.K t):=fun C fp pins s H=>al5 (X:=X.comp scope Nc C fp pins s H) (ow:=false) hX.calm Sc.nd (fun z=>nomatch z) h3;have he:∀C fp pins s H,PE (X.comp scope Nc C fp pins s H) el (up X.K (wpE Z e)):=fun C fp pins s H=>(d6 Z e (X.comp scope Nc C fp pins s H) el (hX.comp (P6 h1) Sc C fp pins s H) h4).v;have ht:∀C fp pins s H,PCs (X.comp scope Nc C fp pins s H) ifs (upB X.K (if c.isNon=true then fun _ st Q=>Q true st else fun env st Q=>wpE Z c env st fun d st'=>∃b,d=.bl b∧Q b st')):=fun C fp pins s H=>by
    cases ifs with
    |nil=>
     simp only at h5;rw[h5];simp only[if_true];intro pins' s' σ' H' Q' I' q;obtain⟨env,st,Qd,hE,hS,ht,hq⟩:=q;exact av4 pins' s' σ' H' Q' I' (hq true H' st Ev.refl hS ht)
    |cons cx d9=>
     cases d9 with
     |cons _ _=>cases h5
     |nil=>
      simp only[Bool.and_eq_true,Bool.not_eq_true']at h5;rw[h5.1.1];simp only[Bool.false_eq_true,if_false];exact av8 ((d6 Z c (X.comp scope Nc C fp pins s H) cx (hX.comp (P6 h1) Sc C fp pins s H) h5.2).t h5.1.2)
   refine Snd.plain ?_ (fun _=>rfl) rfl (by intros;exact nofun);exact PE.imp (bi9 hX.calm Sc hi hg ht he (am2 h2)) fun σ H Q q=>ar6 q
  ·cases h
theorem M4(Z:Sg):∀(es:Es)(X:Cx)(xs:List Expr),XOk Z X→mEs es X.env.scope X.N xs=true→SndA Z X es xs
 |.nil,X,xs,hX,h=>by
  have e:xs=[]:=by cases xs with|nil=>rfl|cons=>cases h
  subst e;exact⟨by exact ay3,fun _=>rfl⟩
 |.cons e r,X,xs,hX,h=>by
  conv at h=>lhs;whnf
  split at h
  ·simp only[Bool.and_eq_true]at h;have i0:=d6 Z e X _ hX h.1;have ir:=M4 Z r X _ hX h.2;refine⟨by exact K0 i0.v ir.a i0.st,fun pos=>?_⟩;rw[j8 i0.st];show(false||(backTo pos (starEach _ X.env)).any (·.1))=false;rw[ir.pl pos];rfl
  ·cases h
theorem a09(Z:Sg):∀(vs:Es)(X:Cx)(ks:List Str)(keys:List (Option Expr))(xs:List Expr)(dp:Pos),XOk Z X→mKs ks keys=true→mEs vs X.env.scope X.N xs=true→ks.length=vs.len →
  DPs X dp keys xs ks (r9 Z vs)∧keys.all (·.isSome)=true∧keys.length=xs.length∧keys.length=ks.length
 |.nil,X,ks,keys,xs,dp,hX,h1,h2,h3=>by
  unfold mEs at h2;have e:xs=[]:=by simpa using h2
  subst e;have e2:ks=[]:=List.eq_nil_of_length_eq_zero h3;subst e2;cases keys with
  |nil=>exact⟨by exact bw6,rfl,rfl,rfl⟩
  |cons _ _=>cases h1
 |.cons e r,X,ks,keys,xs,dp,hX,h1,h2,h3=>by
  unfold mEs at h2
  split at h2
  ·simp only[Bool.and_eq_true]at h2;cases ks with
   |nil=>simp[Es.len]at h3
   |cons k ks=>
    cases keys with
    |nil=>cases h1
    |cons kx keys=>
     cases kx with
     |none=>cases h1
     |some kx=>
      cases kx<;>first|cases h1|skip
      rename_i c _ _;cases c<;>first|cases h1|skip
      simp only[mKs,Bool.and_eq_true,beq_iff_eq]at h1;obtain⟨e1,h1⟩:=h1;subst e1;obtain⟨d,a1,a2,a3⟩:=a09 Z r X ks keys _ dp hX h1 h2.2 (by simpa[Es.len]using h3);exact⟨by exact bm8 (d6 Z e X _ hX h2.1).v d,by simpa using a1,by simp[a2],by simp[a3]⟩
  ·cases h2
theorem am0(Z:Sg):∀(it:It)(X:Cx)(tg x:Expr),XOk Z X→mIt it X.env.scope X.N tg x=true→PI X tg x (upI X.K (y9 Z it))
 |.seq e,X,tg,x,hX,h=>by
  conv at h=>lhs;whnf
  exact bq7 (d6 Z e X x hX h).v
 |.rng a,X,tg,x,hX,h=>by
  conv at h=>lhs;whnf
  split at h
  ·simp only[Bool.and_eq_true,beq_iff_eq]at h;obtain⟨⟨e,h1⟩,h2⟩:=h;subst e;have ia:=d6 Z a X _ hX h2;exact bq5 (t7 h1) (hX.blt' _) ia.v ia.st
  ·cases h
 |.rng2 a b,X,tg,x,hX,h=>by
  conv at h=>lhs;whnf
  split at h
  ·simp only[Bool.and_eq_true,beq_iff_eq]at h;obtain⟨⟨⟨e,h1⟩,h2⟩,h3⟩:=h;subst e;have ia:=d6 Z a X _ hX h2;have ib:=d6 Z b X _ hX h3;exact bo9 (t7 h1) (hX.blt' _) ia.v ib.v ia.st ib.st
  ·cases h
 |.enum e,X,tg,x,hX,h=>by
  change(_&&_)=true at h;simp only[Bool.and_eq_true]at h;obtain⟨h0,h⟩:=h
  split at h
  ·simp only[Bool.and_eq_true,beq_iff_eq]at h;obtain⟨⟨e',h1⟩,h2⟩:=h;subst e';have ia:=d6 Z e X _ hX h2;cases tg<;>first|cases h0|skip
   exact bn8 (t7 h1) (hX.blt' _) ia.v ia.st
  ·cases h
 |.rev e,X,tg,x,hX,h=>by
  conv at h=>lhs;whnf
  split at h
  ·simp only[Bool.and_eq_true,beq_iff_eq]at h;obtain⟨⟨e',h1⟩,h2⟩:=h;subst e';have ia:=d6 Z e X _ hX h2;exact bv2 (t7 h1) (hX.blt' _) ia.v ia.st
  ·cases h
end
end Ek
namespace Ek
open PySem PySem.Spec PyProof.Rows L2
variable [Tbs]
mutual
noncomputable def mS:S→Scope→List Str→Stmt→Bool
 |.set i e,sc,N,s=>match s with|.Assign [.Name y _] x _=>(N[i]?==some y)&&A8 sc y&&mE e sc N x&&!(N.contains (p8 y))|_=>false
 |.pre _,_,_,_=>false
 |.iput o i v,sc,N,s=>match s with|.Assign [.Subscript p q _] x _=>mE o sc N p&&mE i sc N q&&mE v sc N x&&F9 x|_=>false
 |.put o i v,sc,N,s=>match s with|.Assign [.Subscript p q _] x _=>mE o sc N p&&mE i sc N q&&mE v sc N x&&F9 x|_=>false
 |.ex e,sc,N,s=>match s with|.Expr x _=>mE e sc N x&&F9 x|_=>false
 |.iff c a b,sc,N,s=>match s with|.If x p q _=>mE c sc N x&&v5 x&&mSs a sc N p&&mSs b sc N q|_=>false
 |.ret e,sc,N,s=>match s with|.Return (some x) _=>mE e sc N x|_=>false
 |.retN,_,_,s=>match s with|.Return none _=>true|_=>false
 |.for t it b,sc,N,s=>match s with|.For tg x p [] _=>mTg true t sc N tg&&mIt it sc N tg x&&mSs b sc N p|_=>false
 |.while c b,sc,N,s=>match s with|.While x p [] _=>mE c sc N x&&v5 x&&mSs b sc N p|_=>false
 |.dead,_,_,_=>true
 |.dfn i np Nl cp b,sc,N,s=>match s with
  |.FunctionDef name args body [] none [] scope none bind _=>(match ai2 args with|some ps=>(name==bind)&&(N[i]?==some name)&&A8 sc name&&!(N.contains (p8 name))&&N.contains t3&&al3 sc N scope Nl ps np cp&&!(Nl.contains t3)&&mSs b scope Nl body|none=>false)
  |_=>false
 |.pass,_,_,s=>match s with|.Pass _=>true|_=>false
noncomputable def mSs:Ss→Scope→List Str→List Stmt→Bool
 |.nil,_,_,l=>l.isEmpty
 |.cons s r,sc,N,l=>match l with|x::xs=>mS s sc N x&&mSs r sc N xs|[]=>false
end
noncomputable def mFB(b:Ss)(sc:Scope)(N:List Str)(fb:FuncBody):Prop:=N.contains t3=false∧match fb with
 |.stmts l=>mSs b sc N l=true
 |.expr x=>∃e,b=.cons (.ret e) .nil∧mE e sc N x=true
noncomputable abbrev HF(X:Cx):Prop:=∀y,Loc X.env.scope y→X.N.contains (p8 y)=false→X.fn y=true∨X.env.scope.names.lookup y=some .local
theorem b23{e:E}{sc:Scope}{N:List Str}{el:Expr}{gs:List Comprehension}{scope:Scope}{p:Pos}:mE e sc N (.SetComp el gs scope p)=false:=by cases e<;>rfl
theorem b02{e:E}{sc:Scope}{N:List Str}{a b:Expr}{gs:List Comprehension}{scope:Scope}{p:Pos}:mE e sc N (.DictComp a b gs scope p)=false:=by cases e<;>rfl
theorem b06{e:E}{sc:Scope}{N:List Str}{el:Expr}{gs:List Comprehension}{scope:Scope}{p:Pos}(h:mE e sc N (.ListComp el gs scope p)=true):∃Nc fr k t it c e',e=.comp Nc fr k t it c e':=by
 cases e<;>first|exact⟨_,_,_,_,_,_,_,rfl⟩|exact absurd h Bool.false_ne_true
theorem P9{x:Expr}{t:Option Expr}{n:Nat}{env:Env}(h:F9 x=true):swapsWith x t n env=pure false:=by
 cases x<;>first|rfl|cases h
theorem bk9{x t:Expr}{n:Nat}{env:Env}(h:F9 x=true):swapsWithSole [t] x n env=pure false:=by
 rw[swapsWithSole];exact P9 h
theorem a86{el:Expr}{gs:List Comprehension}{scope:Scope}{p py:Pos}{y:Str}{n:Nat}{env:Env}:∃b,swapsWith (.ListComp el gs scope p) (some (.Name y py)) n env=pure b:=⟨_,rfl⟩
mutual
theorem b69(Z:Sg)(hm:∀(b:Ss)(sc:Scope)(N:List Str)(l:List Stmt),mSs b sc N l=true→N.contains t3=false→Tbs.mt b sc N (.stmts l)):∀(s:S)(X:Cx)(x:Stmt),XOk Z X→HF X→mS s X.env.scope X.N x=true→PS X x (upS X.K (wpS Z s))
 |.set i e,X,x,hX,hf,h=>by
  unfold mS at h
  split at h
  ·rename_i y py v pos;simp only[Bool.and_eq_true,beq_iff_eq,Bool.not_eq_true']at h;obtain⟨⟨⟨h1,h2⟩,h3⟩,h9⟩:=h;have ie:=d6 Z e X v hX h3
   by_cases hc:F9 v=true
   ·exact ak6 hX.nd h1 (w4 h2) ie.v (P9 hc) (hf y (w4 h2) h9)
   ·cases v with
    |ListComp el gs scope p=>
     obtain⟨b,hb⟩:=a86 (el:=el) (gs:=gs) (scope:=scope) (p:=p) (py:=py) (y:=y) (n:=pos.line) (env:=X.env);cases b with
     |false=>exact ak6 hX.nd h1 (w4 h2) ie.v hb (hf y (w4 h2) h9)
     |true=>
      obtain⟨Nc,fr,k,t,it,c,e,rfl⟩:=b06 h3
      conv at h3=>lhs;whnf
      split at h3
      ·rename_i heq;cases heq;rename_i tg itx ifs;have h4:=h3;simp only[Bool.and_eq_true]at h4;obtain⟨⟨⟨⟨g1,g2⟩,g3⟩,g4⟩,g5⟩:=h4;have Sc:=as4 g1;have hi:=am0 Z it X tg itx hX g2;have hg:∀C fp pins s H,PG (X.comp scope Nc C fp pins s H) tg (upG X.K t):=fun C fp pins s H=>al5 (X:=X.comp scope Nc C fp pins s H) (ow:=false) hX.calm Sc.nd (fun z=>nomatch z) g3;have he:∀C fp pins s H,PE (X.comp scope Nc C fp pins s H) el (up X.K (wpE Z e)):=fun C fp pins s H=>(d6 Z e (X.comp scope Nc C fp pins s H) el (hX.comp (P6 g1) Sc C fp pins s H) g4).v;have ht:∀C fp pins s H,PCs (X.comp scope Nc C fp pins s H) ifs (upB X.K (if c.isNon=true then fun _ st Q=>Q true st else fun env st Q=>wpE Z c env st fun d st'=>∃b,d=.bl b∧Q b st')):=fun C fp pins s H=>by
        cases ifs with
        |nil=>
         simp only at g5;rw[g5];simp only[if_true];intro pins' s' σ' H' Q' I' q;obtain⟨env,st,Qd,hE,hS,ht,hq⟩:=q;exact av4 pins' s' σ' H' Q' I' (hq true H' st Ev.refl hS ht)
        |cons cx d9=>
         cases d9 with
         |cons _ _=>cases g5
         |nil=>
          simp only[Bool.and_eq_true,Bool.not_eq_true']at g5;rw[g5.1.1];simp only[Bool.false_eq_true,if_false];exact av8 ((d6 Z c (X.comp scope Nc C fp pins s H) cx (hX.comp (P6 g1) Sc C fp pins s H) g5.2).t g5.1.2)
       refine PS.imp (ba0 hX.calm hX.nd h1 (w4 h2) (hf y (w4 h2) h9) Sc hi hg ht he hb (am2 g2)) fun F σ H q=>?_;obtain⟨env,st,Fd,hE,hS,ht',hq⟩:=q;exact ar6 ⟨env,st,(fun d st'=>Fd.nx (env.set i (some d)) st'),hE,hS,ht',fun v d H' st' ev is rs q=>hq.nx _ _ H' st' ev ((hE.mono (ev.tk hS)).set is i) rs q⟩
      ·cases h3
    |SetComp el gs scope p=>rw[b23]at h3;cases h3
    |DictComp a b gs scope p=>rw[b02]at h3;cases h3
    |_=>exact absurd rfl hc
  ·cases h
 |.pre i,X,x,hX,hf,h=>by cases h
 |.iput o i v,X,x,hX,hf,h=>by
  unfold mS at h
  split at h
  ·rename_i p q ps y pos;simp only[Bool.and_eq_true]at h;obtain⟨⟨⟨h1,h2⟩,h3⟩,h4⟩:=h;exact bo5 hX.units (d6 Z v X y hX h3).v (d6 Z o X p hX h1).v (d6 Z i X q hX h2).v (P9 h4)
  ·cases h
 |.put o i v,X,x,hX,hf,h=>by
  unfold mS at h
  split at h
  ·rename_i p q ps y pos;simp only[Bool.and_eq_true]at h;obtain⟨⟨⟨h1,h2⟩,h3⟩,h4⟩:=h;have iq:=d6 Z i X q hX h2;refine br2 (d6 Z v X y hX h3).v (d6 Z o X p hX h1).v iq.v (fun w=>?_) (bk9 h4) ?_
   ·cases q<;>first|rfl|exact absurd rfl (iq.sl _ _ _ _)
   ·rfl
  ·cases h
 |.ex e,X,x,hX,hf,h=>by
  unfold mS at h
  split at h
  ·simp only[Bool.and_eq_true]at h;exact b37 (d6 Z e X _ hX h.1).v (P9 h.2)
  ·cases h
 |.iff c a b,X,x,hX,hf,h=>by
  unfold mS at h
  split at h
  ·simp only[Bool.and_eq_true]at h;obtain⟨⟨⟨h1,h2⟩,h3⟩,h4⟩:=h;exact bz3 ((d6 Z c X _ hX h1).t h2) (C4 Z hm a X _ hX hf h3) (C4 Z hm b X _ hX hf h4)
  ·cases h
 |.ret e,X,x,hX,hf,h=>by
  unfold mS at h
  split at h
  ·exact bw1 (d6 Z e X _ hX h).v
  ·cases h
 |.retN,X,x,hX,hf,h=>by
  unfold mS at h
  split at h
  ·exact bi8
  ·cases h
 |.for t it b,X,x,hX,hf,h=>by
  unfold mS at h
  split at h
  ·simp only[Bool.and_eq_true]at h;obtain⟨⟨h1,h2⟩,h3⟩:=h;exact bu5 hX.pass hX.calm (am0 Z it X _ _ hX h2) (al5 hX.calm hX.nd (fun _=>hf) h1) (C4 Z hm b X _ hX hf h3) (am2 h2)
  ·cases h
 |.while c b,X,x,hX,hf,h=>by
  unfold mS at h
  split at h
  ·simp only[Bool.and_eq_true]at h;obtain⟨⟨h1,h2⟩,h3⟩:=h;exact bi0 hX.pass ((d6 Z c X _ hX h1).t h2) (C4 Z hm b X _ hX hf h3)
  ·cases h
 |.dfn i np Nl cp b,X,x,hX,hf,h=>by
  unfold mS at h
  split at h
  ·split at h
   ·rename_i name args body scope bind pos _ ps hp;simp only[Bool.and_eq_true,beq_iff_eq,Bool.not_eq_true']at h;obtain⟨⟨⟨⟨⟨⟨⟨h0,h1⟩,h2⟩,h3⟩,h4⟩,h5⟩,h6⟩,h7⟩:=h;subst h0;obtain⟨L,hc⟩:=hX.lam h4;obtain⟨a1,a2,a3,a4,a5⟩:=a92 hp;exact bu6 hX.nd h1 (w4 h2) (hf _ (w4 h2) h3) a1 a2 a4 L (bm9 h5 hc (hm b scope Nl body h7 h6) (fun name qual cl doc pm cv ct us hl=>a5 name qual _ scope cl doc pm cv ct us hl))
   ·cases h
  ·cases h
 |.dead,X,x,hX,hf,h=>by
  intro pins s σ H F I q;obtain⟨env,st,Fd,hE,hS,ht,hq⟩:=q;exact ht.elim
 |.pass,X,x,hX,hf,h=>by
  unfold mS at h
  split at h
  ·exact bl0
  ·cases h
theorem C4(Z:Sg)(hm:∀(b:Ss)(sc:Scope)(N:List Str)(l:List Stmt),mSs b sc N l=true→N.contains t3=false→Tbs.mt b sc N (.stmts l)):∀(l:Ss)(X:Cx)(xs:List Stmt),XOk Z X→HF X→mSs l X.env.scope X.N xs=true→PSs X xs (upS X.K (e9 Z l))
 |.nil,X,xs,hX,hf,h=>by
  unfold mSs at h;have e:xs=[]:=by simpa using h
  subst e;exact bv3
 |.cons s r,X,xs,hX,hf,h=>by
  unfold mSs at h
  split at h
  ·simp only[Bool.and_eq_true]at h;rw[e9];exact bp7 (b69 Z hm s X _ hX hf h.1) (C4 Z hm r X _ hX hf h.2)
  ·cases h
end
end Ek
namespace Ek
open PySem PySem.Spec PyProof.Rows L2
variable [Tbs]
noncomputable def mP(i:Nat)(sc:Scope)(N:List Str):Stmt→Bool
 |.Assign [.Name y _] (.Dict [] [] _) _=>(N[i]?==some y)&&A8 sc y
 |_=>false
noncomputable def mB:Ss→Scope→List Str→List Stmt→Bool
 |.cons (.pre i) r,sc,N,s::l=>mP i sc N s&&mB r sc N l
 |b,sc,N,l=>mSs b sc N l
structure Stat(st:Stmt)(d:Def)(ps:List Str)(x f:Str):Prop where
 sc:FnScope d.N ps (g6 st)
 np:ps.length=d.np
 body:mB d.body (g6 st) d.N (i6 st)=true
 bind:∀(kV doc pm:Value)(an:Option Addr)(cdv ct:Value)(us:List Value),us.length=ps.length→bindArgs (W.fnOf x f (i8 st) (i6 st) (g6 st) .none kV doc pm an cdv ct) ⟨us,[]⟩=pure (ps.zip us)
structure DefAt(K:W.Frag)(f:Str)(d:Def)(a:Addr)(fd:FuncData)(ps:List Str):Prop where
 ex:∃(st:Stmt)(x:Str),Fun K x f st a fd∧Stat st d ps x f
 lam:d.N.contains t3=true→∃c P,fd.code=.ref c∧W.codeHdIn K c P=true∧P∈Tbs.ps
structure DefOk(K:W.Frag)(mg:Str→Option Value)(f:Str)(d:Def):Prop where
 ex:∃(a:Addr)(fd:FuncData)(ps:List Str),DefAt K f d a fd ps∧mg f=some (.ref a)∧W.nsIn K mainGlobals f=some (some (.ref a))
structure MthOk(K:W.Frag)(mg:Str→Option Value)(c m:Str)(d:Def):Prop where
 ex:∃(Ca a:Addr)(fd:FuncData)(ps:List Str),DefAt K (u7 c m) d a fd ps∧W.nsIn K mainGlobals c=some (some (.ref Ca))∧mg c=some (.ref Ca)∧Cls K Ca∧Meth K Ca m a∧(m="__init__"→Mk K Ca a)
 nom:W.nsIn K mainGlobals (u7 c m)=some none
theorem B9:∀{a b a' b':List Nat},(46:Nat)∉a'→(46:Nat)∉b'→a++46::b=a'++46::b'→a=a'∧b=b'
 |[],b,[],b',_,_,h=>⟨rfl,by simpa using h⟩
 |[],b,x::a',b',h1,_,h=>by
  simp only[List.nil_append,List.cons_append,List.cons.injEq]at h;exact absurd (h.1▸List.mem_cons_self) h1
 |x::a,b,[],b',_,h2,h=>by
  simp only[List.nil_append,List.cons_append,List.cons.injEq]at h;exact absurd (h.2▸List.mem_append_right _ List.mem_cons_self) h2
 |x::a,b,y::a',b',h1,h2,h=>by
  simp only[List.cons_append,List.cons.injEq]at h;obtain⟨e,f⟩:=B9 (fun z=>h1 (List.mem_cons_of_mem _ z)) h2 h.2;exact⟨by rw[h.1,e],f⟩
theorem j4{K:W.Frag}{mg:Str→Option Value}{h:Heap}{f:Str}{d:Def}{st:Stmt}{ps:List Str}{fa:Addr}{od an:Option Addr}{sl:Array (Option Value)}{oc kV dc pm cd ct:Value}(X:K.In h)(G:h.Ns mainGlobals mg)(S:Stat st d ps f f)
  (a1:W.nsIn K mainGlobals f=some (some (.ref fa))) (l1:K.lookup fa=some ⟨oc,od,.func (W.fnOf f f (i8 st) (i6 st) (g6 st) .none kV dc pm an cd ct),sl⟩) (c1:W.codeIn K cd f=true) (k1:W.keepIn K (.ref fa)=true)
  (m1:d.N.contains t3=true→∃c P,cd=.ref c∧W.codeHdIn K c P=true∧P∈Tbs.ps:=by exact fun h=>absurd h (by decide+kernel)):DefOk K mg f d:=
 ⟨fa,_,ps,⟨⟨st,f,bv8 l1 c1 k1,S⟩,m1⟩,W.mg_of X G a1,a1⟩
theorem Fun.bind0{K:W.Frag}{x f:Str}{st:Stmt}{a:Addr}{fd:FuncData}{d:Def}{ps:List Str}(F:Fun K x f st a fd)(S:Stat st d ps x f):∀us:List Value,us.length=ps.length→bindArgs fd ⟨us,[]⟩=pure (ps.zip us):=by
 obtain⟨oc,od,kV,doc,pm,an,cdv,ct,osl,rfl,lk,hcd⟩:=F.ex;exact S.bind kV doc pm an cdv ct
theorem DefAt.binds{K:W.Frag}{f:Str}{d:Def}{a:Addr}{fd:FuncData}{ps:List Str}(D:DefAt K f d a fd ps):y6 K fd ps []:=by
 obtain⟨st,x,F,S⟩:=D.ex;exact .all (Fun.bind0 F S)
theorem DefAt.kp{K:W.Frag}{f:Str}{d:Def}{a:Addr}{fd:FuncData}{ps:List Str}(D:DefAt K f d a fd ps):W.keepIn K (.ref a)=true:=by
 obtain⟨st,x,F,S⟩:=D.ex;exact F.kp
structure AllOk(Pr:Program)(w:World)(K:W.Frag)(mg:Str→Option Value)(P:g9)(G:Gs):Prop where
 fns:∀f d,P f=some d→isM f=false→DefOk K mg f d
 mts:∀f d,P f=some d→isM f=true→∃c m,f=u7 c m∧isM c=false∧isM m=false∧MthOk K mg c m d
 cls:∀f c Ca,W.nsIn K mainGlobals c=some (some (.ref Ca))→f∈G.cls c→Cls K Ca∧az8 K Ca f
 blt:∀b∈P7,mg b=none
 tabs:∀g,G.tab g≠[]→GTab Pr w K mg g (G.tab g)
 cst:∀g i,G.cst g=some i→∃t,mg g=some (.int i t)
 kt:Tbs.kt=(G.cls "!kt").isEmpty
theorem bh2{c m:Str}:isM (u7 c m)=true:=by
 unfold isM u7;simp
theorem bg9{c m c' m':Str}(h1:isM c'=false)(h2:isM m'=false)(h:u7 c m=u7 c' m'):c=c'∧m=m':=by
 unfold isM at h1 h2;unfold u7 at h;have h':=congrArg (fun s:Str=>s.cps.toList) h;simp only[Array.toList_append,List.append_assoc,List.singleton_append]at h';have e:=B9 (by simpa using h1) (by simpa using h2) h';exact⟨by cases c;cases c';simpa using e.1,by cases m;cases m';simpa using e.2⟩
theorem AllOk.mth{Pr:Program}{w:World}{K:W.Frag}{mg:Str→Option Value}{P:g9}{G:Gs}(h:AllOk Pr w K mg P G){c m:Str}{d:Def}(e:P (u7 c m)=some d):MthOk K mg c m d:=by
 obtain⟨c',m',e',h1,h2,M⟩:=h.mts _ d e bh2;obtain⟨rfl,rfl⟩:=bg9 h1 h2 e';exact M
theorem bc5{K:W.Frag}{H:Hp}{d:Def}{ds:List D}{vs:List V}(r:IsDs K H ds vs):RelE K H (Y5 d ds) (L2.p9 d.N vs):=ap2 r
theorem au2{X:Cx}{pins:List (Addr×Obj)}{σ:L2.St}{H:Hp}{s:Shared}(I:L2.Inv X pins σ H s)(hfn:∀x,X.fn x=true)(g k:Str→Bool)(e:Value→Shared→Prop):L2.Inv {X with fn:=g,ow:=k,xe:=e} pins σ H s:=
 ⟨⟨I.ok.mod,I.ok.kind,I.ok.glob,I.ok.blt,I.ok.above,I.ok.inj,I.ok.has,fun x c _ h=>I.ok.cab x c (.inl (hfn x)) h,I.ok.hd,I.ok.frames,I.ok.stk,I.ok.exf,I.ok.bs,I.ok.bsz,I.ok.noex,I.ok.exfs,I.ok.funs,I.ok.frf⟩,I.os,I.bare,I.base,I.loc,I.cell,I.free,
  fun x c h=>.inl ((I.freeC x c h).resolve_right fun z=>by rw[hfn x]at z;exact absurd z.1 (by decide)),I.pin,I.hok,I.len⟩
noncomputable def Cxa(X:Cx):Cx:={X with fn:=fun _=>true}
theorem K8{X:Cx}{pins:List (Addr×Obj)}{σ:L2.St}{H:Hp}{s:Shared}(I:L2.Inv (Cxa X) pins σ H s):L2.Inv X pins σ H s:=au2 I (fun _=>rfl) X.fn X.ow X.xe
noncomputable def E2(X:Cx)(l:List Stmt)(t:TS):Prop:=∀(pins:List (Addr×Obj))(s:Shared)(σ:L2.St)(H:Hp)(D:Ends),Inv (Cxa X) pins σ H s→t D σ H→wpAny (model X.prog X.w) X.A (execs l X.env) (SP X pins D) X.xe s
theorem E2.cons{X:Cx}{x:Stmt}{d9:List Stmt}{t u:DS}(h1:PS (Cxa X) x (upS X.K t))(h2:E2 X d9 (upS X.K u)):E2 X (x::d9) (upS X.K fun F env st=>t {F with nx:=u F} env st):=by
 intro pins s σ H D I h;obtain⟨env,st,Fd,hE,hS,ht,hq⟩:=h;refine wpAny_execs_cons (thn (h1 pins s σ H {D with nx:=fun σ' H'=>∃env' st',RelE X.K H' env' σ'∧RelS X.K st' H'∧u Fd env' st'∧EndsR X.K st' H' Fd D} I ⟨env,st,_,hE,hS,ht,⟨fun env' σ' H' st' ev hE' hS' q=>⟨env',st',hE',hS',q,hq.after ev⟩,hq.bk,hq.ct,hq.rt⟩⟩) fun f s1 q=>?_);cases f with
 |next=>
  obtain⟨σ',H',I',env',st',e1,e2,e3,e4⟩:=q;exact h2 pins s1 σ' H' D I' ⟨env',st',Fd,e1,e2,e3,e4⟩
 |ret v=>obtain⟨v',σ',H',I',q⟩:=q;exact⟨v',σ',H',K8 I',q⟩
 |brk=>obtain⟨σ',H',I',q⟩:=q;exact⟨σ',H',K8 I',q⟩
 |cont=>obtain⟨σ',H',I',q⟩:=q;exact⟨σ',H',K8 I',q⟩
theorem a33(Z:Sg)(hm:∀(b:Ss)(sc:Scope)(N:List Str)(l:List Stmt),mSs b sc N l=true→N.contains t3=false→Tbs.mt b sc N (.stmts l)){X:Cx}(hX:XOk Z X)(hF:HF X):∀(l:Ss)(xs:List Stmt),mB l X.env.scope X.N xs=true→E2 X xs (upS X.K (e9 Z l))
 |.nil,xs,h=>fun pins s σ H D I q=>C4 Z hm .nil X xs hX hF h pins s σ H D (K8 I) q
 |.cons x r,xs,h=>by
  have old:mSs (.cons x r) X.env.scope X.N xs=true→E2 X xs (upS X.K (e9 Z (.cons x r))):=fun h pins s σ H D I q=>C4 Z hm (.cons x r) X xs hX hF h pins s σ H D (K8 I) q;cases x with
  |pre i=>
   cases xs with
   |nil=>exact old h
   |cons s l=>
    have h':(mP i X.env.scope X.N s&&mB r X.env.scope X.N l)=true:=h;simp only[Bool.and_eq_true]at h';obtain⟨h1,h2⟩:=h';unfold mP at h1
    split at h1
    ·simp only[Bool.and_eq_true,beq_iff_eq]at h1;exact E2.cons (t:=fun F env st=>∀p,st p=none→F.nx (env.set i (some (.ref p))) (d3 st p (.dct []))) (PS.imp (ak6 (X:=Cxa X) hX.nd h1.1 (w4 h1.2) bv7 rfl (.inl rfl)) fun F σ H q=>q) (a33 Z hm hX hF r l h2)
    ·cases h1
  |_=>exact old h
noncomputable def cxF(P:Program)(w:World)(K:W.Frag)(mg:Str→Option Value)(base:Heap)(N:List Str)(qual:Str)(scope:Scope)(f:Addr)(cd:Value)(A:Around)(outer:List Env)(s:Shared)(H:Hp):Cx:=
 {ag4 CX0 P w K mg base N qual scope f cd A outer s H E0 with fn:=fun y=>!(N.contains (p8 y)),ow:=fun _=>true,xe:=fun _ _=>False}
theorem bz1{P:Program}{w:World}{K:W.Frag}{mg:Str→Option Value}{base:Heap}{k:Nat}{f:Addr}{x qual:Str}{st:Stmt}{fd:FuncData}{N ps:List Str}{sp:Sp}(F:Fun K x qual st f fd)(S:FnScope N ps (g6 st))
  (len:∀vs H Q E,sp vs H Q E→vs.length=ps.length)
  (hbody:∀(A:Around)(outer:List Env)(s:Shared)(H:Hp)(vs:List V)(Q:VK)(E:XK),Room k (A.deeper (envOfC qual (g6 st) s.heap.objs.size f fd.code))→sp vs H Q E →
   ∃t,E2 (cxF P w K mg base N qual (g6 st) f fd.code A outer s H) (i6 st) t∧t {nx:=fun _ H'=>Q .non H',rt:=Q} (L2.p9 N vs) H) :
  FnOk P w K mg base CX0 (k+1) f fd ps sp:=by
 obtain⟨oc,od,kV,doc,pm,an,cdv,ct,osl,rfl,lk,hcd⟩:=F.ex;refine⟨len,fun A outer s H args us vs Q E hr e0 hb r hsp=>?_⟩;have hl:=len _ _ _ _ hsp;have KX:K.In s.heap:=e0.mod.kin.keeps fun b o e=>(e0.bs b o e).1;have lim:s.heap.NoLimit:=e0.mod.nolimit.keeps fun b o e=>(e0.bs b o e).1;have hkind:∀y∈ps.zip us,(g6 st).names.lookup y.1=some .local∨((g6 st).names.lookup y.1=some .cell∧((cellsFrom (s.heap.objs.size+1) (g6 st).names []).lookup y.1).isSome=true):=fun⟨n,v⟩hy=>by
  rcases S.par n (List.of_mem_zip hy).1 with q|q
  ·exact .inl q
  ·exact .inr ⟨q,W.cellsFrom_some _ _ _ (.inl q)⟩
 refine codeAny_call_function hr.depth (KX _ _ lk) rfl S.co S.gen rfl (W.codeRec_of KX hcd) (hb _ _ _ _ ?_);refine wpAny_newFunctionEnv_cells S.kind hkind fun env he s1 x=>?_;subst he;refine⟨lim.keeps x.toInCall.keep,codeAny_func ?_⟩;obtain⟨t,ht,hq⟩:=hbody A outer s H vs Q E (hr.deeper _) hsp;have I0:Inv (ag4 CX0 P w K mg base N qual (g6 st) f cdv A outer s H E0) [] (L2.p9 N vs) H s1:=bb2 S hr.hd e0 hl r x;have I:Inv (Cxa (cxF P w K mg base N qual (g6 st) f cdv A outer s H)) [] (L2.p9 N vs) H s1:=au2 I0 (fun _=>rfl) _ _ _;refine wpAny_mono (ht [] s1 (L2.p9 N vs) H _ I hq) (fun fl s' hs=>?_) fun e s' hs=>False.elim hs;have fin:∀{σ':L2.St}{H':Hp}{v:V}{u:Value},Inv (cxF P w K mg base N qual (g6 st) f cdv A outer s H) [] σ' H' s'→d7 v u→Q v H'→CE outer P w H s Q u s':=
  fun{σ' H' v u}J rv q=>⟨v,H',J.os,J.bare,J.base,J.hok,rv,q⟩
 cases fl with
 |ret u=>
  obtain⟨v,σ',H',J,rv,q⟩:=hs;exact fin J rv q
 |next=>
  obtain⟨σ',H',J,q⟩:=hs;exact fin (v:=V.non) (u:=Value.none) J rfl q
 |brk=>
  obtain⟨_,_,_,q⟩:=hs;exact False.elim q
 |cont=>
  obtain⟨_,_,_,q⟩:=hs;exact False.elim q
section
variable {Pr:Program} {w:World} {K:W.Frag} {mg:Str→Option Value} {base:Heap} {P:g9} {G:Gs}
structure LvOk(Pr:Program)(w:World)(K:W.Frag)(mg:Str→Option Value)(base:Heap)(P:g9)(G:Gs)(n:Nat):Prop where
 fn:∀m,m≤n→∀(f:Str)(d:Def),P f=some d→∀(a:Addr)(fd:FuncData)(ps:List Str),DefAt K f d a fd ps→FnOk Pr w K mg base CX0 m a fd ps (D0 K (sem P G m f))
 clo:∀np N b cs fa fd ps,CloF fd np N ps b→FnOk Pr w K mg base CX0 n fa fd ps (M0 K fa fd np N cs (B1 P G n np N b cs))
noncomputable abbrev Zl(P:g9)(G:Gs)(n:Nat):Sg:=⟨fun f=>(P f).isSome,sem P G n,G.tab,G.cls,(p7 P G n).2.1,fun f=>(p7 P G n).2.2.1&&(P f).isSome,B1 P G n,G.cst⟩
theorem ay5{X:Cx}{n:Nat}(hA:AllOk Pr w K mg P G)(L:LvOk Pr w K mg base P G n)(e1:X.prog=Pr)(e2:X.w=w)(e3:X.K=K)(e4:X.mg=mg)(e5:X.base=base)(hr:Room n X.A)(calm:X.calm=true)(xe:X.xe=fun _ _=>False)(nd:X.N.Nodup)
  (lam:X.N.contains t3=true→LamOk X∧∀x,X.N.contains (p8 x)=true→X.fn x=false∧X.ow x=true)
  (mt:∀b sc N fb,mFB b sc N fb→Tbs.mt b sc N fb):XOk (Zl P G n) X where
 calm:=calm
 xe:=xe
 units:=by have:=hr.un;omega
 nd:=nd
 blt:=by rw[e4];exact hA.blt
 fns:=fun g hi hg=>by
  obtain⟨dg,hdg⟩:=Option.isSome_iff_exists.mp hg;obtain⟨ag,fdg,pg,Dg,mgg,nsg⟩:=(hA.fns g dg hdg hi).ex;refine⟨n,ag,fdg,pg,?_,hr,by rw[e4];exact mgg,by rw[e3];exact Dg.kp,by rw[e3];exact Dg.binds,by rw[e3];exact nsg⟩;rw[e1,e2,e3,e4,e5];exact L.fn n (Nat.le_refl _) g dg hdg ag fdg pg Dg
 nom:=fun g ga hg hn=>by
  obtain⟨dg,hdg⟩:=Option.isSome_iff_exists.mp hg;cases e:isM g with
  |false=>rfl
  |true=>
   obtain⟨c,m,rfl,_,_,M⟩:=hA.mts g dg hdg e;rw[e3,M.nom]at hn;cases hn
 cls:=by rw[e3];exact hA.cls
 mth:=fun m c Ca hc hg=>by
  obtain⟨dg,hdg⟩:=Option.isSome_iff_exists.mp hg;obtain⟨Ca',ag,fdg,pg,Dg,nsc,mgc,C1,M1,I1⟩:=(hA.mth hdg).ex;rw[e3,nsc]at hc;cases hc;refine⟨n,ag,fdg,pg,by rw[e3];exact C1,by rw[e3];exact M1,?_,hr,by rw[e3];exact Dg.binds⟩;rw[e1,e2,e3,e4,e5];exact L.fn n (Nat.le_refl _) _ dg hdg ag fdg pg Dg
 mks:=fun c hg=>by
  simp only[Bool.and_eq_true]at hg;obtain⟨dg,hdg⟩:=Option.isSome_iff_exists.mp hg.2;obtain⟨Ca',ag,fdg,pg,Dg,nsc,mgc,C1,M1,I1⟩:=(hA.mth hdg).ex;cases n with
  |zero=>exact absurd hg.1 Bool.false_ne_true
  |succ m=>
   refine⟨Ca',m,ag,fdg,pg,by rw[e3];exact nsc,by rw[e3];exact I1 rfl,?_,hr,by rw[e4];exact mgc,by rw[e3];exact Dg.binds⟩;rw[e1,e2,e3,e4,e5];exact L.fn m (Nat.le_succ _) _ dg hdg ag fdg pg Dg
 tabs:=by rw[e1,e2,e3,e4];exact hA.tabs
 cst:=by rw[e4];exact hA.cst
 kt:=hA.kt
 lam:=lam
 mtE:=fun e sc N x h1 h2=>mt _ _ _ _ ⟨h2,e,rfl,h1⟩
 clo:=fun np N b cs fa fd ps cf=>⟨n,by rw[e1,e2,e3,e4,e5];exact L.clo np N b cs fa fd ps cf,hr⟩
theorem bk5:LvOk Pr w K mg base P G 0:=by
 refine⟨fun m hm f d hf a fd ps D=>?_,fun np N b cs fa fd ps cf=>?_⟩
 ·obtain rfl:m=0:=by omega
  have no:∀vs H Q E,¬D0 K (sem P G 0 f) vs H Q E:=fun vs H Q E h=>by
   obtain⟨ds,s0,Qd,_,_,h,_⟩:=h;exact h
  exact⟨fun vs H Q E h=>absurd h (no vs H Q E),fun A outer s H args us vs Q E _ _ _ _ h=>absurd h (no vs H Q E)⟩
 ·have no:∀vs H Q E,¬M0 K fa fd np N cs (B1 P G 0 np N b cs) vs H Q E:=fun vs H Q E h=>by
   obtain⟨us0,ds,st,Qd,_,_,_,_,h,_⟩:=h;exact h
  exact⟨fun vs H Q E h=>absurd h (no vs H Q E),fun A outer s H args us vs Q E _ _ _ _ h=>absurd h (no vs H Q E)⟩
theorem bm3{n:Nat}(hA:AllOk Pr w K mg P G)(hb0:G3 mg base)(hK0:K.In base)(mt:∀b sc N fb,mFB b sc N fb↔Tbs.mt b sc N fb)(L:LvOk Pr w K mg base P G n):LvOk Pr w K mg base P G (n+1):=by
 have hmS:∀(b:Ss)(sc:Scope)(N:List Str)(l:List Stmt),mSs b sc N l=true→N.contains t3=false→Tbs.mt b sc N (.stmts l):=fun b sc N l h1 h2=>(mt _ _ _ _).mp ⟨h2,h1⟩;refine⟨fun m hm f d hf a fd ps D=>?_,fun np N b cs fa fd ps cf=>?_⟩
 ·by_cases hmn:m≤n
  ·exact L.fn m hmn f d hf a fd ps D
  obtain rfl:m=n+1:=by omega
  obtain⟨st,x,F,S⟩:=D.ex;refine bz1 F S.sc (fun vs H Q E h=>?_) (fun A outer s H vs Q E hr h=>?_)
  ·obtain⟨ds,s0,Qd,is,_,hs,_⟩:=h;obtain⟨d',hd',hl,_⟩:=hs;rw[hf]at hd';cases hd';rw[←is.len,hl,S.np]
  ·obtain⟨ds,s0,Qd,is,rs,hs,hq⟩:=h;obtain⟨d',hd',hl,hb⟩:=hs;rw[hf]at hd';cases hd';have hX:XOk (Zl P G n) (cxF Pr w K mg base d.N f (g6 st) a fd.code A outer s H):=ay5 hA L rfl rfl rfl rfl rfl hr rfl rfl S.sc.nd (fun hl=>by
    obtain⟨c,P',e1,e2,e3⟩:=D.lam hl;refine⟨⟨⟨c,P',e1,W.codeHd_of_K hK0 e2,e3⟩,hb0⟩,fun x hx=>⟨?_,rfl⟩⟩;show(!(d.N.contains (p8 x)))=false;have hx':d.N.contains (p8 x)=true:=hx;rw[hx'];rfl) fun b sc N fb=>(mt b sc N fb).mp
   have hF:HF (cxF Pr w K mg base d.N f (g6 st) a fd.code A outer s H):=fun y _ hy=>.inl (by
    show(!(d.N.contains (p8 y)))=true;have hy':d.N.contains (p8 y)=false:=hy;rw[hy'];rfl)
   refine⟨_,a33 _ hmS hX hF d.body _ S.body,Y5 d ds,s0,_,bc5 is,rs,hb,fun env σ H' st' ev hE hS q=>?_,fun env σ H' st' ev hE hS q=>q.elim,fun env σ H' st' ev hE hS q=>q.elim,fun v e H' st' ev is' rs' q=>?_⟩
   ·obtain⟨s2,sub,q⟩:=q;exact hq _ .non H' s2 (ev.drop sub) .non (hS.sub sub) q
   ·obtain⟨s2,sub,q⟩:=q;exact hq v e H' s2 (ev.drop sub) is' (rs'.sub sub) q
 ·refine bv4 (Z:=Zl P G n) cf fun q A outer s H hr=>?_;obtain⟨hnl,hfb⟩:=(mt _ _ _ _).mpr cf.mt;have hX:XOk (Zl P G n) (cxC Pr w K mg base N fd.scope fd.closure q fa fd.code A outer s H):=ay5 hA L rfl rfl rfl rfl rfl hr rfl rfl cf.sc.nd (fun hl=>by
   have hl':N.contains t3=true:=hl;rw[hnl]at hl';cases hl') fun b sc N fb=>(mt b sc N fb).mp
  have hF:HF (cxC Pr w K mg base N fd.scope fd.closure q fa fd.code A outer s H):=fun y hy _=>by
   have hy':fd.scope.names.lookup y=some .local∨fd.scope.names.lookup y=some .cell:=hy
   rcases hy' with z|z
   ·exact .inr z
   ·exact absurd rfl (cf.sc.nocell _ (PySem.mem_of_lookup z))
  cases hb:fd.body with
  |stmts l=>rw[hb]at hfb;exact C4 _ hmS b _ l hX hF hfb
  |expr x=>
   rw[hb]at hfb;obtain⟨e,rfl,he⟩:=hfb;exact⟨e,rfl,(d6 _ e _ x hX he).v⟩
theorem ay2(hA:AllOk Pr w K mg P G)(hb0:G3 mg base)(hK0:K.In base)(mt:∀b sc N fb,mFB b sc N fb↔Tbs.mt b sc N fb):∀n,LvOk Pr w K mg base P G n
 |0=>bk5
 |n+1=>bm3 hA hb0 hK0 mt (ay2 hA hb0 hK0 mt n)
end
noncomputable def st0(a:Addr)(ns:List Int):Sto:=fun b=>if b=a then some (.fro (ns.map D.int))else none
theorem ar5{K:W.Frag}{H:Hp}:∀ns:List Int,IsDs K H (ns.map D.int) (ns.map V.int)
 |[]=>.nil
 |n::r=>.cons (.int n) (ar5 r)
noncomputable def E7(K:W.Frag):Bool:=K.all fun p=>!(p.2.cls==.type "list")
theorem aq3{K:W.Frag}{a:Addr}{o:Obj}(h:E7 K=true)(e:K.lookup a=some o):o.cls≠.type "list":=by
 unfold E7 at h;rw[List.all_eq_true]at h;have hm:(a,o)∈K:=by
  induction K with
  |nil=>cases e
  |cons p r ih=>
   obtain⟨b,x⟩:=p;rw[List.lookup_cons]at e;cases q:a==b with
   |true=>rw[q]at e;cases e;rw[beq_iff_eq.mp q];exact List.mem_cons_self
   |false=>rw[q]at e;exact List.mem_cons_of_mem _ (ih (fun p hp=>h p (List.mem_cons_of_mem _ hp)) e)
 have:=h _ hm;simpa using this
end Ek
namespace Ek
open PySem PySem.Spec PyProof.Rows L2
theorem bd6{P:Program}{w:World}{K:W.Frag}{mg mb:Str→Option Value}{k:Nat}{fa a:Addr}{fd:FuncData}{x:Str}{sp:Sp}{s₁:Shared}{vs:List Value}{ns:List Int}{ts:List Addr}
  (KX:K.In s₁.heap) (hns:s₁.heap.Ns mainGlobals mg) (hb:s₁.heap.Ns builtinsNs mb) (hbb:∀x:Str,x≠"__name__"→mb x=bootBuiltins x) (hlim:s₁.heap.NoLimit) (hbm:G3 mg s₁.heap) (hg:s₁.gens=#[])
  (ha:s₁.heap.get? a=some {cls:=.type "list",data:=.seq vs.toArray}) (hi:IntsAre vs ns) (hl:ns.length≤sizeLine) (hr:Room k callerA)
  (hT:∀P∈ts,s₁.heap.get? P=some (W.tabObj #[])∧isCodeTable s₁.heap P) (hKt:∀P∈ts,K.lookup P=none) (hKa:K.lookup a=none)
  (F:∀base:Heap,K.In base→base.Ns mainGlobals mg→G3 mg base→FnOk P w K mg base CX0 k fa fd [x] sp) (hbind:∀(s:Shared)(u:Value),BindsTo s fd ⟨[u],[]⟩ [(x,u)])
  (hsp:∀H:Hp,(∀P∈ts,H P=some (.tbl #[]))→SqL K H a (ns.map V.int)→sp [.ref a] H (fun v _=>v=.bl true) fun _ _ _=>False) :
  codeAny (model P w) callerA (.call (.ref fa) ⟨[.ref a],[]⟩) (fun r s'=>r=.ok (.ret (.bool true))∧OldK s₁.heap s'.heap∧s'.os=s₁.os∧AllBare s'.gens) s₁:=by
 have rv:=ar3 hi;have naT:a∉ts:=fun z=>by
  have:=(hT a z).1;rw[ha]at this;cases this
 let H:Hp:=fun b=>if b=a then some (.frz {cls:=.type "list",data:=.seq vs.toArray} (.lst (ns.map V.int)))else if b∈ts then some (.tbl #[])else none
 have Ha:H a=some (.frz {cls:=.type "list",data:=.seq vs.toArray} (.lst (ns.map V.int))):=if_pos rfl;have Ht:∀P∈ts,H P=some (.tbl #[]):=fun P hP=>by
  have ne:P≠a:=fun z=>naT (z▸hP);show(if P=a then _ else if P∈ts then _ else _)=_;rw[if_neg ne,if_pos hP]
 have Hc:∀b u,H b=some u→b=a∨b∈ts:=fun b u e=>by
  by_cases h1:b=a
  ·exact .inl h1
  ·by_cases h2:b∈ts
   ·exact .inr h2
   ·have e':(if b=a then some (HO.frz {cls:=.type "list",data:=.seq vs.toArray} (.lst (ns.map V.int)))else if b∈ts then some (.tbl #[])else none)=some u:=e;rw[if_neg h1,if_neg h2]at e';cases e'
 have hok:HOk P w H s₁.heap:=fun b u e=>by
  rcases Hc b u e with rfl|hb
  ·rw[Ha]at e;cases e;exact⟨ha,by rw[List.length_map];exact hl,vs,_,rv,ha⟩
  ·rw[Ht b hb]at e;cases e;exact(hT b hb).1
 have A0:∀{b:Addr}{o:Obj},s₁.heap.get? b=some o→H b=none→(z0 s₁.heap H).get? b=some o:=fun e n=>bg8 e n;have U3:∀b o,s₁.heap.get? b=some o→(∀xs n,o.data≠.seq xs n)→(∀xs,o.data≠.fields xs)→H b=none:=fun b o e n1 n2=>by
  cases q:H b with
  |none=>rfl
  |some u=>
   rcases Hc b u q with rfl|hb
   ·rw[ha]at e;cases e;exact absurd rfl (n1 _ _)
   ·rw[(hT b hb).1]at e;cases e;exact absurd rfl (n2 _)
 have nsK:∀{b:Addr}{m:Str→Option Value},s₁.heap.Ns b m→(z0 s₁.heap H).Ns b m:=fun{b m}⟨o,es,ep,e,d,r⟩=>⟨o,es,ep,A0 e (U3 b o e (by rw[d];exact fun _ _=>nofun) (by rw[d];exact fun _=>nofun)),d,r⟩;have hKb:K.In (z0 s₁.heap H):=fun b o e=>A0 (KX b o e) (by
  cases q:H b with
  |none=>rfl
  |some u=>
   rcases Hc b u q with rfl|hb
   ·rw[hKa]at e;cases e
   ·rw[hKt b hb]at e;cases e)
 have hBb:G3 mg (z0 s₁.heap H):=by
  obtain⟨bm,ob,b1,b2,b3,b4,b5,b6⟩:=hbm;exact⟨bm,ob,b1,b2,A0 b3 (U3 bm ob b3 (by rw[b6];exact fun _ _=>nofun) (by rw[b6];exact fun _=>nofun)),b4,b5,b6⟩
 have hM:Mod K mg (z0 s₁.heap H):=⟨hKb,nsK hns,⟨mb,nsK hb,hbb⟩,let⟨mc,h1,h2⟩:=hlim;⟨mc,nsK h1,h2⟩⟩;have e0:Env0 P w K mg (z0 s₁.heap H) callerA [] s₁ H:=⟨rfl,hM,fun b o e=>bj7 e,Nat.le_of_eq (bb3 _ _),trivial,fun b hb=>absurd (show b∈([]:List Addr) from hb) (by simp),hok,.of_eq hg⟩;refine codeAny_mono ((F _ hKb (nsK hns) hBb).run callerA [] s₁ H ⟨[.ref a],[]⟩ [.ref a] [.ref a] _ _ hr e0 (hbind s₁ (.ref a)) (.cons rfl .nil) (hsp H Ht (.inl (.inr ⟨_,Ha⟩)))) fun r s' h=>?_;cases r with
 |error e=>exact False.elim h
 |ok fl=>
  cases fl with
  |next=>exact False.elim h
  |brk=>exact False.elim h
  |cont=>exact False.elim h
  |ret u=>
   obtain⟨v,H',os,bare,un,hok',r',q⟩:=h;have q':v=.bl true:=q;subst q';obtain rfl:u=Value.bool true:=r';refine⟨rfl,⟨fun b o e=>?_,fun b o e=>un.there b o e (by simp)⟩,os,bare⟩;cases q:H b with
   |none=>exact .inl (un.keep b o e q (by intro z;exact absurd (show b∈([]:List Addr) from z) (by simp)) (by simp))
   |some u=>
    rcases Hc b u q with rfl|hb
    ·rw[Ha]at q;cases q;have z2:=un.frzs b _ _ Ha;obtain⟨e2,_⟩:=hok' b _ z2;rw[ha]at e;cases e;exact .inl e2
    ·obtain⟨t1,t2⟩:=hT b hb;rw[t1]at e;cases e;obtain⟨more,z⟩:=un.tbls b _ (Ht b hb);have e2:=hok' b _ z;exact .inr (.inl ⟨t2,rfl,#[],more,rfl,e2⟩)
theorem a73 [Tbs]{K:W.Frag}{h:Heap}{a:Addr}{o:Obj}(X:K.In h)(hn:E7 K=true)(e:h.get? a=some o)(hc:o.cls=.type "list"):K.lookup a=none:=by
 cases q:K.lookup a with
 |none=>rfl
 |some o'=>
  have:=X a o' q;rw[e]at this;cases this;exact absurd hc (aq3 hn q)
theorem bo6{l:W.OpenLaw}{q:Program}{loose:List Str}{XP:(Str→Option Value)→Heap→Prop}{YP:World→Heap→Prop}{d:DefRec}{K:Params→W.Frag}{P:g9}{G:Gs}{n:Nat}{x:Str}{dl:Def}{ts:List Addr}
  (hn:l.most=some 63) (hdf:d.params.defaults=[]) (hdn:d.name="law") (hr:Room n callerA) (hY:∀(w:World)(h:Heap),YP w h→(K w.params).In h∧∀P∈ts,h.get? P=some (W.tabObj #[])) (hl:P "law"=some dl)
  (hst:∀st y ps,Stat st dl ps y "law"→ps=[x])
  (F:∀(w:World)(mg:Str→Option Value)(h:Heap),(K w.params).In h→h.Ns mainGlobals mg→(letI:Tbs:=⟨ts,mFB,(G.cls "!kt").isEmpty⟩;AllOk l.prog w (K w.params) mg P G)∧E7 (K w.params)=true∧W.noTabs (K w.params)=true∧∀P∈ts,∃c,W.codeHdIn (K w.params) c P=true)
  (core:∀(a:Addr)(ns:List Int),ns.length≤63→sem P G n "law" [.ref a] (st0 a ns) fun d _=>d=.bl true) :
  W.WalkO q loose XP YP l.row.toRowW d [] (fun f vs=>PySem.call f vs):=by
 letI:Tbs:=⟨ts,mFB,(G.cls "!kt").isEmpty⟩
 refine Att.attach_call hn hdf fun w s₀ s₁ mg mb fa o pm cd doc a vs ns GG Y ho hd hcd hmg hobj hints hlen hg=>?_;obtain⟨KX,hTs⟩:=hY w _ Y;obtain⟨hA,hNL,hNT,hC⟩:=F w mg _ KX GG.T.g;obtain⟨ad,fd,ps,Df,mf,_⟩:=(hA.fns "law" dl hl (by decide+kernel)).ex;obtain⟨st,y,Ff,Sf⟩:=Df.ex;have e:=hst st y ps Sf;subst e;rw[hdn]at hmg;have ea:fa=ad:=by rw[hmg]at mf;cases mf;rfl
 subst ea;have hKa:(K w.params).lookup a=none:=a73 KX hNL hobj rfl;refine bd6 (ts:=ts) (sp:=D0 (K w.params) (sem P G n "law")) KX GG.T.g GG.T.b GG.T.builtins GG.T.nolimit GG.T.bmain hg hobj hints (Nat.le_trans hlen (by decide)) hr (fun P hP=>⟨hTs P hP,?_⟩) (fun P hP=>?_) hKa (fun base hb hbg hbm=>(ay2 hA hbm hb (fun _ _ _ _=>Iff.rfl) n).fn n (Nat.le_refl _) "law" dl hl fa fd [x] Df) (fun s u=>.of_eq (Fun.bind0 Ff Sf [u] rfl)) (fun H hH hS=>?_)
 ·obtain⟨c,hc⟩:=hC P hP;exact((W.codeHd_of_K KX hc).tab (hTs P hP)).isCodeTable
 ·cases qq:(K w.params).lookup P with
  |none=>rfl
  |some o'=>
   have z:=KX P o' qq;rw[hTs P hP]at z;cases z;unfold W.noTabs at hNT;rw[List.all_eq_true]at hNT;exact absurd (hNT _ (W.mem_of_lookupK qq)) Bool.false_ne_true
 ·refine⟨[.ref a],st0 a ns,_,.cons (.ref a) .nil,⟨fun b o e=>?_,fun P hP=>⟨#[],hH P hP,trivial,fun pos cv z=>by cases z⟩⟩,core a ns hlen,fun v d' H' st' ev is rs q=>?_⟩
  ·unfold st0 at e
   split at e
   ·rename_i hb;cases e;subst hb
    rcases hS with hS|⟨ob,its,m,hk,hc,_⟩
    ·exact⟨_,hS,ar5 ns⟩
    ·exact absurd hc (aq3 hNL hk)
   ·cases e
  ·have q':d'=.bl true:=q;subst q';cases is;rfl
noncomputable def bk8(P:Addr)(o:Obj):Bool:=match o with
 |⟨.type "code",_,.fields vs,_⟩=>(match(vs[11]?:Option Value)with|some (.ref P')=>P'==P|_=>false)
 |_=>false
noncomputable def ao4(K:W.Frag)(ts:List Addr):Bool:=ts.all fun P=>match K.find? fun p=>bk8 P p.2 with
 |some p=>W.codeHdIn K p.1 P
 |none=>false
theorem bp4{K:W.Frag}{ts:List Addr}(h:ao4 K ts=true):∀P∈ts,∃c,W.codeHdIn K c P=true:=fun P hP=>by
 unfold ao4 at h;rw[List.all_eq_true]at h;have:=h P hP
 split at this
 ·exact⟨_,this⟩
 ·cases this
noncomputable def M7(K:W.Frag)(cd:Value):Option (Addr×Addr):=match cd with
 |.ref c=>(match K.lookup c with
  |some ⟨_,_,.fields vs,_⟩=>(match(vs[11]?:Option Value)with|some (.ref P)=>some (c,P)|_=>none)
  |_=>none)
 |_=>none
theorem ak5{K:W.Frag}{cd:Value}{c P:Addr}{ts:List Addr}(h:M7 K cd=some (c,P))(h2:W.codeHdIn K c P=true)(h3:ts.contains P=true):∃c P,cd=.ref c∧W.codeHdIn K c P=true∧P∈ts:=by
 unfold M7 at h
 split at h
 ·split at h
  ·split at h
   ·cases h;exact⟨_,_,rfl,h2,by simpa using h3⟩
   ·cases h
  ·cases h
 ·cases h
end Ek
namespace Ek
open PySem L2
theorem ah0(s:String):Str.ofString s=⟨(s.toList.map Char.toNat).toArray⟩:=by
 unfold Str.ofString;rw[cpsOfBytes_string]
theorem a84:∀(x y:Char),x.toNat=y.toNat→x=y:=fun x y h=>Char.ext (UInt32.toNat_inj.mp h)
theorem aq2:∀(a b:List Char),a.map Char.toNat=b.map Char.toNat→a=b
 |[],[],_=>rfl
 |[],_::_,h=>by simp at h
 |_::_,[],h=>by simp at h
 |x::a,y::b,h=>by
  simp only[List.map_cons,List.cons.injEq]at h;rw[a84 x y h.1,aq2 a b h.2]
theorem o0{a b:String}:(Str.ofString a=Str.ofString b)=(a=b):=by
 refine propext ⟨fun h=>?_,fun h=>by rw[h]⟩;rw[ah0,ah0]at h;simp only[Str.mk.injEq]at h;have h':a.toList.map Char.toNat=b.toList.map Char.toNat:=by simpa using h
 exact String.toList_inj.mp (aq2 _ _ h')
theorem v7(s:String):(D.str (Str.ofString s)).pure=true:=by
 show PyData.strOk (Str.ofString s)=true;unfold PyData.strOk;rw[ah0];simp only[List.all_toArray,List.all_map,List.all_eq_true];intro c _;have h:=c.valid;simp only[UInt32.isValidChar,Nat.isValidChar]at h;simp only[Function.comp_apply,decide_eq_true_eq];show c.val.toNat<1114112;omega
end Ek
namespace Ek
open PySem L2
noncomputable def Kp(L:List Addr)(st st':Sto):Prop:=∀b o,b∉L→st b=some o→st' b=some o
theorem Kp.refl{L:List Addr}{st:Sto}:Kp L st st:=fun _ _ _ h=>h
theorem Kp.trans{L:List Addr}{a b c:Sto}(x:Kp L a b)(y:Kp L b c):Kp L a c:=fun d o n h=>y d o n (x d o n h)
theorem Kp.more{L M:List Addr}{a b:Sto}(x:Kp L a b)(s:∀d∈L,d∈M):Kp M a b:=fun d o n h=>x d o (fun z=>n (s d z)) h
theorem Kp.new{L:List Addr}{st st':Sto}{p:Addr}{o:Ob}(x:Kp L st st')(h:st' p=none):Kp L st (d3 st' p o):=fun d u n e=>by
 have e':=x d u n e;rw[y3 (fun z=>by rw[z,h]at e';cases e')];exact e'
theorem Kp.put{L:List Addr}{st st':Sto}{p:Addr}{o:Ob}(x:Kp L st st')(h:p∈L):Kp L st (d3 st' p o):=fun d u n e=>by
 rw[y3 (fun z=>n (by rw[z];exact h))];exact x d u n e
theorem Kp.at'{L:List Addr}{st st':Sto}{b:Addr}{o:Ob}(x:Kp L st st')(h:st b=some o)(n:b∉L):st' b=some o:=x b o n h
theorem j5{st:Sto}{a p:Addr}{o u:Ob}(h:st a=some o)(hp:st p=none):d3 st p u a=some o:=by
 rw[y3 (fun z=>by rw[z,hp]at h;cases h)];exact h
theorem t9{st:Sto}{a p:Addr}{o:Ob}(h:st a=some o)(hp:st p=none):a≠p:=fun z=>by rw[z,hp]at h;cases h
theorem i9{st:Sto}{a p:Addr}{o u:Ob}(h:st a=some o)(n:a≠p):d3 st p u a=some o:=by
 rw[y3 n];exact h
noncomputable def n8(st:Sto)(a:Addr):Prop:=∃l:List Int,st a=some (.lst (l.map .int))
theorem n8.keep{L:List Addr}{st st':Sto}{b:Addr}(h:n8 st b)(x:Kp L st st')(n:b∉L):n8 st' b:=let⟨l,e⟩:=h;⟨l,x.at' e n⟩
theorem n8.new{st:Sto}{b p:Addr}{u:Ob}(h:n8 st b)(hp:st p=none):n8 (d3 st p u) b:=let⟨l,e⟩:=h;⟨l,j5 e hp⟩
theorem n8.ne{st:Sto}{b p:Addr}(h:n8 st b)(hp:st p=none):b≠p:=let⟨l,e⟩:=h;t9 e hp
noncomputable def g7(Q:DK):DEnds:={nx:=fun _ st'=>∃s2,Sub s2 st'∧Q .non s2,rt:=fun d st'=>∃s2,Sub s2 st'∧Q d s2}
theorem d5{Q:DK}{d:D}{st:Sto}(h:Q d st):(g7 Q).rt d st:=⟨st,Sub.refl st,h⟩
noncomputable abbrev Zg(P:g9)(G:Gs)(n:Nat):Sg:=⟨fun f=>(P f).isSome,sem P G n,G.tab,G.cls,(p7 P G n).2.1,fun f=>(p7 P G n).2.2.1&&(P f).isSome,B1 P G n,G.cst⟩
theorem i5{P:g9}{G:Gs}{n:Nat}{f:Str}{fd:Def}{ds:List D}{st:Sto}{Q:DK}(hP:P f=some fd)(hl:ds.length=fd.np)(env:d8)(he:Y5 fd ds=env)
  (h:e9 (Zg P G n) fd.body (g7 Q) env st):sem P G (n+1) f ds st Q:=by
 rw[bf6];exact⟨fd,hP,hl,by rw[he];exact h⟩
theorem T5{P:g9}{G:Gs}{n np:Nat}{N:List Str}{b:Ss}{cs ds:List D}{st:Sto}{Q:DK}(hl:ds.length=np)(env:d8)(he:B8 N ds cs=env)
  (h:e9 (Zg P G n) b (g7 Q) env st):B1 P G (n+1) np N b cs ds st Q:=by
 rw[bb0];exact⟨hl,by rw[he];exact h⟩
section
variable {Z:Sg} {F:DEnds} {env:d8} {st:Sto} {Q:DK}
theorem Y3{s:S}{r:Ss}:e9 Z (.cons s r) F env st=wpS Z s ⟨e9 Z r F,F.rt,F.bk,F.ct⟩ env st:=rfl
theorem Z9:e9 Z .nil F env st=F.nx env st:=rfl
theorem aa2{i:Nat}{e:E}:wpS Z (.set i e) F env st=wpE Z e env st fun d st1=>F.nx (env.set i (some d)) st1:=rfl
theorem aa6{i:Nat}:wpS Z (.pre i) F env st=∀p,st p=none→F.nx (env.set i (some (.ref p))) (d3 st p (.dct [])):=rfl
theorem U8{o i v:E}:wpS Z (.iput o i v) F env st=wpE Z v env st fun d st1=>wpE Z o env st1 fun x st2=>wpE Z i env st2 fun y st3=>am1 x y d st3 fun st4=>F.nx env st4:=rfl
theorem ac2{o i v:E}:wpS Z (.put o i v) F env st=wpE Z v env st fun d st1=>wpE Z o env st1 fun x st2=>wpE Z i env st2 fun y st3=>∃a j k ds,x=.ref a∧y=.int j∧st3 a=some (.lst ds)∧ixN ds.length j=some k∧F.nx env (d3 st3 a (.lst (ds.set k d))):=rfl
theorem ag3{e:E}:wpS Z (.ex e) F env st=wpE Z e env st fun _ st1=>F.nx env st1:=rfl
theorem Y7{c:E}{a b:Ss}:wpS Z (.iff c a b) F env st=wpE Z c env st fun d st1=>∃k,d=.bl k∧if k=true then e9 Z a F env st1 else e9 Z b F env st1:=rfl
theorem Z5{e:E}:wpS Z (.ret e) F env st=wpE Z e env st F.rt:=rfl
theorem W8:wpS Z .retN F env st=F.rt .non st:=rfl
theorem ac4{t:Tg}{it:It}{b:Ss}:wpS Z (.for t it b) F env st=y9 Z it env st fun items chk st1=>n0 chk t (e9 Z b) F items env st1:=rfl
theorem W3:wpS Z .pass F env st=F.nx env st:=rfl
theorem aa1:wpE Z .non env st Q=Q .non st:=rfl
theorem af3{b:Bool}:wpE Z (.bl b) env st Q=Q (.bl b) st:=rfl
theorem M3{i:Int}:wpE Z (.int i) env st Q=Q (.int i) st:=rfl
theorem ad3{x:Str}:wpE Z (.str x) env st Q=Q (.str x) st:=rfl
theorem e_v{i:Nat}:wpE Z (.v i) env st Q=∃d,env[i]?=some (some d)∧Q d st:=rfl
theorem ab4{es:Es}:wpE Z (.tup es) env st Q=r9 Z es env st fun ds st1=>Q (.tup ds) st1:=rfl
theorem ac1{es:Es}:wpE Z (.lst es) env st Q=r9 Z es env st fun ds st1=>∀p,st1 p=none→Q (.ref p) (d3 st1 p (.lst ds)):=rfl
theorem ac7{o:Operator}{a b:E}:wpE Z (.bin o a b) env st Q=wpE Z a env st fun x st1=>wpE Z b env st1 fun y st2=>u0 o x y st2 Q:=rfl
theorem Z6{a:E}:wpE Z (.neg a) env st Q=wpE Z a env st fun x st1=>∃i,x=.int i∧Q (.int (-i)) st1:=rfl
theorem Z3{o:CmpOp}{a b:E}:wpE Z (.cmp o a b) env st Q=wpE Z a env st fun x st1=>wpE Z b env st1 fun y st2=>o9 o x y st2 Q:=rfl
theorem ad8{a:E}:wpE Z (.isN a) env st Q=wpE Z a env st fun x st1=>(x=.non∧Q (.bl true) st1)∨(x≠.non∧Q (.bl false) st1):=rfl
theorem X1{a:E}:wpE Z (.notN a) env st Q=wpE Z a env st fun x st1=>(x=.non∧Q (.bl false) st1)∨(x≠.non∧Q (.bl true) st1):=rfl
theorem ac6{a b:E}:wpE Z (.and a b) env st Q=wpE Z a env st fun x st1=>∃c,x=.bl c∧(if c=true then wpE Z b env st1 Q else Q (.bl false) st1):=rfl
theorem ae7{a b:E}:wpE Z (.or a b) env st Q=wpE Z a env st fun x st1=>∃c,x=.bl c∧(if c=true then Q (.bl true) st1 else wpE Z b env st1 Q):=rfl
theorem ab6{a:E}:wpE Z (.not a) env st Q=wpE Z a env st fun x st1=>∃c,x=.bl c∧Q (.bl (!c)) st1:=rfl
theorem ae0{c a b:E}:wpE Z (.ite c a b) env st Q=wpE Z c env st fun x st1=>∃k,x=.bl k∧(if k=true then wpE Z a env st1 Q else wpE Z b env st1 Q):=rfl
theorem ae8{a b:E}:wpE Z (.ix a b) env st Q=wpE Z a env st fun x st1=>wpE Z b env st1 fun y st2=>ixR x y st2 Q:=rfl
noncomputable def bnd(Z:Sg)(e:E)(env:d8)(st:Sto):(Option Int→Sto→Prop)→Prop:=if e.isNon=true then fun k=>k none st else fun k=>wpE Z e env st fun d st'=>∃i,d=.int i∧k (some i) st'
theorem U5{k:Option Int→Sto→Prop}:bnd Z .non env st k=k none st:=rfl
theorem B4{e:E}{k:Option Int→Sto→Prop}(h:e.isNon=false):bnd Z e env st k=wpE Z e env st fun d st'=>∃i,d=.int i∧k (some i) st':=by
 unfold bnd;rw[h];rfl
theorem R9{i:Int}{k:Option Int→Sto→Prop}:bnd Z (.int i) env st k=k (some i) st:=by
 rw[B4 rfl,M3];exact propext ⟨fun⟨_,h,q⟩=>by cases h;exact q,fun q=>⟨_,rfl,q⟩⟩
theorem af0{a lo hi:E}:wpE Z (.sl a lo hi) env st Q=wpE Z a env st fun x st1=>bnd Z lo env st1 fun l st2=>bnd Z hi env st2 fun h st3=>slR x l h st3 Q:=rfl
theorem U7{ks:List Str}{vs:Es}{k:E}:wpE Z (.dsel ks vs k) env st Q=r9 Z vs env st fun ds st1=>wpE Z k env st1 fun x st2=>∃w d,x=.str w∧j3 (ks.zip ds) w=some d∧Q d st2:=rfl
theorem W9{g:Str}{k:E}:wpE Z (.gsel g k) env st Q=(Z.G g≠[]∧wpE Z k env st fun x st1=>∃w d,x=.str w∧j3 (Z.G g) w=some d∧Q d st1):=rfl
theorem Y9{a:E}:wpE Z (.len a) env st Q=wpE Z a env st fun x st1=>E3 x st1 Q:=rfl
theorem aa9{a:E}:wpE Z (.abs a) env st Q=wpE Z a env st fun x st1=>∃i,x=.int i∧Q (.int (if i<0 then -i else i)) st1:=rfl
theorem S9{a:E}:wpE Z (.toInt a) env st Q=wpE Z a env st fun x st1=>L5 x st1 Q:=rfl
theorem ab1{a:E}:wpE Z (.sum a) env st Q=wpE Z a env st fun x st1=>af5 x st1 Q:=rfl
theorem W7{a:E}:wpE Z (.list a) env st Q=wpE Z a env st fun x st1=>ad9 x st1 Q:=rfl
theorem T1{a:E}:wpE Z (.tuple a) env st Q=wpE Z a env st fun x st1=>F4 x st1 Q:=rfl
theorem ab0{a b:E}:wpE Z (.max a b) env st Q=wpE Z a env st fun x st1=>wpE Z b env st1 fun y st2=>∃i j,x=.int i∧y=.int j∧Q (.int (if j>i then j else i)) st2:=rfl
theorem X3{f:Str}{es:Es}:wpE Z (.call f es) env st Q=(Z.F f=true∧r9 Z es env st fun ds st1=>Z.Phi f ds st1 Q):=rfl
theorem W5{g:Str}{k d:E}:wpE Z (.gget g k d) env st Q=(Z.G g≠[]∧wpE Z k env st fun x st1=>wpE Z d env st1 fun y st2=>∃w,x=.str w∧Q ((j3 (Z.G g) w).getD y) st2):=rfl
theorem W0:wpS Z .dead F env st=False:=rfl
theorem T6{i:Nat}{es:Es}:wpE Z (.callv i es) env st Q=∃x,env[i]?=some (some x)∧G2 Z (r9 Z es env) st Q x:=rfl
theorem ac3{ta:Sto→(List D→Sto→Prop)→Prop}{f:Str}:G2 Z ta st Q (.fn f)=(Z.F f=true∧ta st fun ds st1=>Z.Phi f ds st1 Q):=rfl
theorem V2{ta:Sto→(List D→Sto→Prop)→Prop}{np:Nat}{N:List Str}{b:Ss}{cs:List D}:G2 Z ta st Q (.clo np N b cs)=ta st fun ds st1=>Z.PhiC np N b cs ds st1 Q:=rfl
noncomputable def G9(env:d8):List Nat→(List D→Prop)→Prop
 |[],k=>k []
 |i::is,k=>∃d,env[i]?=some (some d)∧G9 env is fun ds=>k (d::ds)
theorem Q1{k:List D→Prop}:G9 env [] k=k []:=rfl
theorem J4{i:Nat}{is:List Nat}{k:List D→Prop}:G9 env (i::is) k=∃d,env[i]?=some (some d)∧G9 env is fun ds=>k (d::ds):=rfl
theorem ak9:∀{cp:List Nat}{k:List D→Prop},(∃cs,A9 env cp=some cs∧k cs)=G9 env cp k
 |[],k=>propext ⟨fun⟨_,h,q⟩=>by cases h;exact q,fun q=>⟨_,rfl,q⟩⟩
 |i::is,k=>by
  rw[J4];refine propext ⟨fun⟨cs,h,q⟩=>?_,fun⟨d,hd,q⟩=>?_⟩
  ·unfold A9 at h
   split at h
   ·rename_i d ds h1 h2;cases h;exact⟨d,h1,(ak9 (k:=fun ds=>k (d::ds)))▸⟨ds,h2,q⟩⟩
   ·cases h
  ·rw[←ak9]at q;obtain⟨ds,h2,q⟩:=q;exact⟨d::ds,by unfold A9;rw[hd,h2],q⟩
theorem ae2{i np:Nat}{N:List Str}{cp:List Nat}{b:Ss}:wpS Z (.dfn i np N cp b) F env st=G9 env cp fun cs=>F.nx (env.set i (some (.clo np N b cs))) st:=ak9
theorem ag8{g:Str}:wpE Z (.gc g) env st Q=∃i,Z.Kc g=some i∧Q (.int i) st:=rfl
theorem ad1{a b:E}:wpE Z (.app a b) env st Q=wpE Z a env st fun x st1=>u8 x st1∧wpE Z b env st1 fun y st2=>N1 x y st2 Q:=rfl
theorem ab2{a b:E}:wpE Z (.ext a b) env st Q=wpE Z a env st fun x st1=>u8 x st1∧wpE Z b env st1 fun y st2=>G7 x y st2 Q:=rfl
theorem S1{a b:E}:wpE Z (.popAt a b) env st Q=wpE Z a env st fun x st1=>u8 x st1∧wpE Z b env st1 fun y st2=>ak4 x y st2 Q:=rfl
theorem Z7{a:E}:wpE Z (.pop a) env st Q=wpE Z a env st fun x st1=>N2 x st1 Q:=rfl
theorem Y6{a:E}:wpE Z (.any a) env st Q=wpE Z a env st fun x st1=>am9 x st1 Q:=rfl
theorem X7{a:E}:wpE Z (.lrev a) env st Q=wpE Z a env st fun x st1=>N5 x st1 Q:=rfl
theorem U4{a b:E}:wpE Z (.index a b) env st Q=wpE Z a env st fun x st1=>N6 x st1∧wpE Z b env st1 fun y st2=>D7 x y st2 Q:=rfl
theorem X0{Q:List D→Sto→Prop}:r9 Z .nil env st Q=Q [] st:=rfl
theorem T2{e:E}{r:Es}{Q:List D→Sto→Prop}:r9 Z (.cons e r) env st Q=wpE Z e env st fun d st1=>r9 Z r env st1 fun ds st2=>Q (d::ds) st2:=rfl
noncomputable def B0(Z:Sg)(c:E):DB:=if c.isNon=true then fun _ st Q=>Q true st else fun env st Q=>wpE Z c env st fun d st'=>∃b,d=.bl b∧Q b st'
theorem V5{Nc:List Str}{fr:List Nat}{k:Nat}{t:Tg}{it:It}{c e:E}:wpE Z (.comp Nc fr k t it c e) env st Q=y9 Z it env st fun items chk st1=>items.length≤1000000∧r8 chk t (B0 Z c) (fun env st Q=>wpE Z e env st Q) (fun acc st'=>∀p,st' p=none→Q (.ref p) (d3 st' p (.lst acc))) items [] (D4 fr k env) st1:=rfl
variable {k:ItK}
theorem ad2{e:E}:y9 Z (.seq e) env st k=wpE Z e env st fun d st1=>(∃ds,d=.tup ds∧k ds (fun _=>True) st1)∨(∃a ds,d=.ref a∧rdS st1 a ds∧k ds (fun st'=>rdS st' a ds) st1):=rfl
theorem aa3{a:E}:y9 Z (.rng a) env st k=wpE Z a env st fun d st1=>∃j:Int,d=.int j∧(-(2^62)≤j∧j<2^62)∧k (m8 0 j.toNat) (fun _=>True) st1:=rfl
theorem V9{a b:E}:y9 Z (.rng2 a b) env st k=wpE Z a env st fun d st1=>wpE Z b env st1 fun e st2=>∃i j:Int,d=.int i∧e=.int j∧(-(2^62)≤i∧i<2^62∧-(2^62)≤j∧j<2^62)∧k (m8 i (j-i).toNat) (fun _=>True) st2:=rfl
theorem X6{e:E}:y9 Z (.enum e) env st k=wpE Z e env st fun d st1=>(∃ds,d=.tup ds∧k (j2 0 ds) (fun _=>True) st1)∨(∃a ds,d=.ref a∧rdS st1 a ds∧k (j2 0 ds) (fun st'=>rdS st' a ds) st1):=rfl
theorem ab5{e:E}:y9 Z (.rev e) env st k=wpE Z e env st fun d st1=>∃a ds,d=.ref a∧rdS st1 a ds∧k ds.reverse (fun st'=>rdS st' a ds) st1:=rfl
end
end Ek
namespace Ek
open PySem L2
section
variable {st:Sto} {Q:DK} {i j:Int} {a p:Addr} {ds es xs ys:List D} {x y d:D}
theorem af7{a:D}{r:d8}{Q:D→Prop}:(∃d,(some a::r)[0]?=some (some d)∧Q d)=Q a:=propext ⟨fun⟨_,h,q⟩=>by cases h;exact q,fun q=>⟨a,rfl,q⟩⟩
theorem ag2{a:Option D}{r:d8}{i:Nat}{Q:D→Prop}:(∃d,(a::r)[i+1]?=some (some d)∧Q d)=∃d,r[i]?=some (some d)∧Q d:=by simp only[List.getElem?_cons_succ]
theorem af9{a:D}{Q:D→Prop}:(∃d,some (some a)=some (some d)∧Q d)=Q a:=propext ⟨fun⟨_,h,q⟩=>by cases h;exact q,fun q=>⟨a,rfl,q⟩⟩
theorem aa4{i:Int}{Q:Int→Prop}:(∃d,D.int i=.int d∧Q d)=Q i:=propext ⟨fun⟨_,h,q⟩=>by cases h;exact q,fun q=>⟨i,rfl,q⟩⟩
theorem ag5{i:Bool}{Q:Bool→Prop}:(∃d,D.bl i=.bl d∧Q d)=Q i:=propext ⟨fun⟨_,h,q⟩=>by cases h;exact q,fun q=>⟨i,rfl,q⟩⟩
theorem ad6{Q:List D→Prop}:(∃d,D.tup ds=.tup d∧Q d)=Q ds:=propext ⟨fun⟨_,h,q⟩=>by cases h;exact q,fun q=>⟨_,rfl,q⟩⟩
theorem X2{α:Type}{a:α}{Q:α→Prop}:(∃d,some a=some d∧Q d)=Q a:=propext ⟨fun⟨_,h,q⟩=>by cases h;exact q,fun q=>⟨a,rfl,q⟩⟩
theorem aa8{i:Str}{l:List (Str×D)}{Q:D→Prop}:(∃w d,D.str i=.str w∧j3 l w=some d∧Q d)=(∃d,j3 l i=some d∧Q d):=propext ⟨fun⟨_,d,h,e,q⟩=>by cases h;exact⟨d,e,q⟩,fun⟨d,e,q⟩=>⟨_,d,rfl,e,q⟩⟩
theorem W2{i j:Int}{Q:Int→Int→Prop}:(∃a b,D.int i=.int a∧D.int j=.int b∧Q a b)=Q i j:=propext ⟨fun⟨_,_,h,h',q⟩=>by cases h;cases h';exact q,fun q=>⟨_,_,rfl,rfl,q⟩⟩
theorem X5:u0 .Add (.int i) (.int j) st Q=Q (.int (i+j)) st:=rfl
theorem Y1:u0 .Add (.tup xs) (.tup ys) st Q=(xs.length+ys.length≤sizeLine∧Q (.tup (xs++ys)) st):=rfl
theorem Y0:u0 .Sub (.int i) (.int j) st Q=Q (.int (i-j)) st:=rfl
theorem X4:u0 .Mult (.int i) (.int j) st Q=(D9 i j∧Q (.int (i*j)) st):=rfl
theorem L1:u0 .Mod (.int i) (.int j) st Q=(0<j∧Q (.int (i % j)) st):=rfl
theorem V0:u0 .FloorDiv (.int i) (.int j) st Q=(am3 i j∧Q (.int (i / j)) st):=rfl
theorem V3:u0 .Pow (.int i) (.int j) st Q=(am7 i j∧Q (.int (i^j.toNat)) st):=rfl
theorem T9:deq (.int i) (.int j)=decide (i=j):=by
 unfold deq D.py PyData.eqv;exact Bool.eq_iff_iff.mpr (by simp)
theorem o5{x y:Str}:deq (.str x) (.str y)=decide (x=y):=by
 unfold deq D.py PyData.eqv;exact Bool.eq_iff_iff.mpr (by simp)
noncomputable def o8:List D→List D→Bool
 |[],[]=>true
 |x::xs,y::ys=>deq x y&&o8 xs ys
 |_,_=>false
theorem aw8:∀xs ys:List D,PyData.eqvAll (D.pys xs) (D.pys ys)=o8 xs ys
 |[],[]=>rfl
 |[],_::_=>rfl
 |_::_,[]=>rfl
 |x::xs,y::ys=>by show(PyData.eqv x.py y.py&&PyData.eqvAll (D.pys xs) (D.pys ys))=_;rw[aw8 xs ys];rfl
theorem t5:deq (.tup xs) (.tup ys)=o8 xs ys:=by
 show PyData.eqv (.tuple (D.pys xs)) (.tuple (D.pys ys))=_;rw[PyData.eqv,aw8]
theorem F1:i7 (.int i)=0:=rfl
theorem m7{x:Str}:i7 (.str x)=0:=rfl
theorem aa0:o9 .Eq (.int i) (.int j) st Q=Q (.bl (decide (i=j))) st:=by
 show(_∧_∧_∧_)=_;rw[T9];exact propext ⟨fun h=>h.2.2.2,fun h=>⟨rfl,rfl,by rw[F1,F1];exact Nat.zero_le _,h⟩⟩
theorem ac0:o9 .NotEq (.int i) (.int j) st Q=Q (.bl (!decide (i=j))) st:=by
 show(_∧_∧_∧_)=_;rw[T9];exact propext ⟨fun h=>h.2.2.2,fun h=>⟨rfl,rfl,by rw[F1,F1];exact Nat.zero_le _,h⟩⟩
theorem Z4{x y:String}:o9 .Eq (.str (Str.ofString x)) (.str (Str.ofString y)) st Q=Q (.bl (decide (x=y))) st:=by
 show(_∧_∧_∧_)=_;simp only[o5,o0];exact propext ⟨fun h=>h.2.2.2,fun h=>⟨v7 _,v7 _,by rw[m7,m7];exact Nat.zero_le _,h⟩⟩
theorem ad0{x y:String}:o9 .NotEq (.str (Str.ofString x)) (.str (Str.ofString y)) st Q=Q (.bl (!decide (x=y))) st:=by
 show(_∧_∧_∧_)=_;simp only[o5,o0];exact propext ⟨fun h=>h.2.2.2,fun h=>⟨v7 _,v7 _,by rw[m7,m7];exact Nat.zero_le _,h⟩⟩
theorem al7:o9 .Eq x y st Q=(x.pure=true∧y.pure=true∧Nat.min (i7 x) (i7 y)≤150∧Q (.bl (deq x y)) st):=by cases x<;>cases y<;>rfl
theorem ab8:o9 .NotEq x y st Q=(x.pure=true∧y.pure=true∧Nat.min (i7 x) (i7 y)≤150∧Q (.bl (!deq x y)) st):=by cases x<;>cases y<;>rfl
theorem ac5:o9 .Lt (.int i) (.int j) st Q=Q (.bl (decide (i<j))) st:=rfl
theorem Z0:o9 .LtE (.int i) (.int j) st Q=Q (.bl (decide (i≤j))) st:=rfl
theorem Z1:o9 .Gt (.int i) (.int j) st Q=Q (.bl (decide (j<i))) st:=rfl
theorem ab7:o9 .GtE (.int i) (.int j) st Q=Q (.bl (decide (j≤i))) st:=rfl
theorem N4:o9 .In x (.tup ys) st Q=(x.pure=true∧D.pures ys=true∧i7 x≤150∧Q (.bl (ys.any fun y=>deq y x)) st):=rfl
theorem ae1:o9 .NotIn x (.tup ys) st Q=(x.pure=true∧D.pures ys=true∧i7 x≤150∧Q (.bl (!ys.any fun y=>deq y x)) st):=rfl
theorem af2:ixR (.tup ds) (.int i) st Q=∃d,atI ds i=some d∧Q d st:=rfl
theorem b85:ixR (.ref a) (.int i) st Q=((∃ds d,rdS st a ds∧atI ds i=some d∧Q d st)∨∃kvs d,st a=some (.dct kvs)∧u2 kvs (.inl i)=some d∧Q d st):=rfl
theorem bu1{kvs:List (Key×D)}(h:rdS st a ds)(h':st a=some (.dct kvs)):False:=by rcases h with h|h<;>rw[h]at h'<;>cases h'
theorem W6(h:rdS st a xs)(h':rdS st a ys):xs=ys:=by
 rcases h with h|h<;>rcases h' with h'|h'<;>rw[h]at h'<;>cases h'<;>rfl
theorem M8(h:rdS st a ds):ixR (.ref a) (.int i) st Q=∃d,atI ds i=some d∧Q d st:=by
 rw[b85];exact propext ⟨fun z=>z.elim (fun⟨es,d,r,q⟩=>by rw[W6 h r];exact⟨d,q⟩) (fun⟨_,_,e,_⟩=>(bu1 h e).elim),fun⟨d,q⟩=>.inl ⟨ds,d,h,q⟩⟩
theorem C6:rdS (d3 st p (.lst ds)) p ds:=.inl g8
theorem ac9:ixR (.ref p) (.int i) (d3 st p (.lst ds)) Q=∃d,atI ds i=some d∧Q d (d3 st p (.lst ds)):=M8 C6
theorem af1{α:Type}{xs:List α}:atI xs 0=xs[0]?:=by
 unfold atI ixN;simp only[Int.le_refl,if_true];split
 ·rfl
 ·rename_i h;rw[List.getElem?_eq_none (by omega)];rfl
theorem X9{α:Type}{xs:List α}{k:Nat}:atI xs (k:Int)=xs[k]?:=by
 unfold atI ixN;rw[if_pos (by omega)];split
 ·rw[Int.toNat_natCast];rfl
 ·rename_i h;rw[List.getElem?_eq_none (by omega)];rfl
theorem af8{α:Type}{xs:List α}:atI xs 1=xs[1]?:=X9 (k:=1)
theorem ag0{α:Type}{xs:List α}:atI xs 2=xs[2]?:=X9 (k:=2)
theorem af4{α:Type}{xs:List α}:atI xs 3=xs[3]?:=X9 (k:=3)
theorem ad4{lo hi:Option Int}:b60 (.tup ds) lo hi st Q=Q (.tup (v4 ds lo hi)) st:=rfl
theorem ae4{lo hi:Option Int}:slR (.tup ds) lo hi st Q=(¬(HT.sIx ds.length 0 lo=0∧HT.sIx ds.length ds.length hi=ds.length)∧Q (.tup (v4 ds lo hi)) st):=rfl
theorem ao3{lo hi:Option Int}(h:rdS st a ds):slR (.ref a) lo hi st Q=∀p,st p=none→Q (.ref p) (d3 st p (.lst (v4 ds lo hi))):=by
 show(∃ds,rdS st a ds∧_)=_;exact propext ⟨fun⟨es,r,q⟩=>by rw[W6 h r];exact q,fun q=>⟨ds,h,q⟩⟩
theorem Y8:E3 (.tup ds) st Q=Q (.int ds.length) st:=rfl
theorem A6(h:rdS st a ds):E3 (.ref a) st Q=Q (.int ds.length) st:=by
 show(∃ds,rdS st a ds∧_)=_;exact propext ⟨fun⟨es,r,q⟩=>by rw[W6 h r];exact q,fun q=>⟨ds,h,q⟩⟩
theorem V4:E3 (.ref p) (d3 st p (.lst ds)) Q=Q (.int ds.length) (d3 st p (.lst ds)):=A6 C6
theorem Z2{b:Bool}:L5 (.bl b) st Q=Q (.int (if b then 1 else 0)) st:=rfl
theorem ad5:L5 (.int i) st Q=Q (.int i) st:=rfl
theorem Y2:ad9 (.tup ds) st Q=∀p,st p=none→Q (.ref p) (d3 st p (.lst ds)):=rfl
theorem S5:F4 (.tup ds) st Q=Q (.tup ds) st:=rfl
theorem aw5(h:rdS st a ds):F4 (.ref a) st Q=Q (.tup ds) st:=by
 show(∃ds,rdS st a ds∧_)=_;exact propext ⟨fun⟨es,r,q⟩=>by rw[W6 h r];exact q,fun q=>⟨ds,h,q⟩⟩
theorem Q0:F4 (.ref p) (d3 st p (.lst ds)) Q=Q (.tup ds) (d3 st p (.lst ds)):=aw5 C6
theorem b42(h:rdS st a ds):aw3 (.ref a) st Q=Q (.bl true) st:=by
 show(∃ds,rdS st a ds∧_)=_;exact propext ⟨fun⟨es,r,q⟩=>q,fun q=>⟨ds,h,q⟩⟩
theorem Y4:aw3 (.ref p) (d3 st p (.lst ds)) Q=Q (.bl true) (d3 st p (.lst ds)):=b42 C6
theorem b45{ns:List Int}(h:rdS st a (ns.map D.int))(q:Q (.int ns.sum) st):af5 (.ref a) st Q:=⟨ns,h,q⟩
theorem A4(h:rdS st a ds):u8 (.ref a) st=True:=propext ⟨fun _=>trivial,fun _=>⟨ds,h⟩⟩
theorem U2:u8 (.ref p) (d3 st p (.lst ds))=True:=A4 C6
theorem V7:N6 (.tup ds) st=True:=rfl
theorem L9(h:st a=some (.lst ds)):N1 (.ref a) d st Q=(ds.length<sizeLine∧Q .non (d3 st a (.lst (ds++[d])))):=by
 show(∃ds,st a=some (.lst ds)∧_)=_;exact propext ⟨fun⟨es,r,q⟩=>by rw[h]at r;cases r;exact q,fun q=>⟨ds,h,q⟩⟩
theorem a06{b:Addr}(h:st a=some (.lst ds))(h':st b=some (.lst es)):G7 (.ref a) (.ref b) st Q=(ds.length+es.length≤sizeLine∧Q .non (d3 st a (.lst (ds++es)))):=by
 show(∃ds es,st a=some (.lst ds)∧st b=some (.lst es)∧_)=_;exact propext ⟨fun⟨_,_,r,r',q⟩=>by rw[h]at r;rw[h']at r';cases r;cases r';exact q,fun q=>⟨ds,es,h,h',q⟩⟩
theorem bj1{chk:Sto→Prop}{t:Tg}{tb:DS}{F:DEnds}{env:d8}:n0 chk t tb F [] env st=(chk st∧F.nx env st):=by rw[n0]
theorem bd9{chk:Sto→Prop}{t:Tg}{tb:DS}{F:DEnds}{env:d8}:n0 chk t tb F (d::ds) env st=(chk st∧A5 t d env fun env'=>tb {F with nx:=n0 chk t tb F ds,ct:=n0 chk t tb F ds,bk:=F.nx} env' st):=by rw[n0]
theorem L7{k:Nat}{env:d8}{K:d8→Prop}:A5 (.n k) d env K=K (env.set k (some d)):=rfl
theorem W4{is:List Nat}{env:d8}{K:d8→Prop}:A5 (.tup is) (.tup ds) env K=(ds.length=is.length∧K (D5 env is ds)):=by
 show(∃es,D.tup ds=.tup es∧_)=_;exact propext ⟨fun⟨es,r,q⟩=>by cases r;exact q,fun q=>⟨ds,rfl,q⟩⟩
theorem P2{env:d8}{k:Nat}{is:List Nat}:D5 env (k::is) (d::ds)=D5 (env.set k (some d)) is ds:=rfl
theorem P3{env:d8}:D5 env [] []=env:=rfl
theorem as9{chk:Sto→Prop}{t:Tg}{tc:DB}{te:DT}{R:List D→Sto→Prop}{acc:List D}{env:d8}:r8 chk t tc te R [] acc env st=(chk st∧R acc st):=by rw[r8]
theorem ar2{chk:Sto→Prop}{t:Tg}{tc:DB}{te:DT}{R:List D→Sto→Prop}{acc:List D}{env:d8}:r8 chk t tc te R (d::ds) acc env st=(chk st∧A5 t d env fun env'=>tc env' st fun b st1=>if b=true then te env' st1 fun v st2=>r8 chk t tc te R ds (acc++[v]) env' st2 else r8 chk t tc te R ds acc env' st1):=by rw[r8]
theorem Z8{k:ItK}:((∃es,D.tup ds=.tup es∧k es (fun _=>True) st)∨(∃a es,D.tup ds=.ref a∧rdS st a es∧k es (fun st'=>rdS st' a es) st))=k ds (fun _=>True) st:=
 propext ⟨(fun h=>by
  rcases h with⟨es,r,q⟩|⟨a,es,r,_⟩
  ·cases r;exact q
  ·cases r),fun q=>.inl ⟨ds,rfl,q⟩⟩
theorem V8{k:ItK}:((∃es,D.tup ds=.tup es∧k (j2 0 es) (fun _=>True) st)∨(∃a es,D.tup ds=.ref a∧rdS st a es∧k (j2 0 es) (fun st'=>rdS st' a es) st))=k (j2 0 ds) (fun _=>True) st:=
 propext ⟨(fun h=>by
  rcases h with⟨es,r,q⟩|⟨a,es,r,_⟩
  ·cases r;exact q
  ·cases r),fun q=>.inl ⟨ds,rfl,q⟩⟩
end
end Ek
namespace Ek
open PySem L2
theorem B5{chk:Sto→Prop}{t:Tg}{tb:DS}{F:DEnds}(I:List D→d8→Sto→Prop)(h0:∀env st,I [] env st→chk st∧F.nx env st)
  (h1:∀d ds env st,(∀env st,I ds env st→n0 chk t tb F ds env st)→I (d::ds) env st→chk st∧A5 t d env fun env'=>tb {F with nx:=n0 chk t tb F ds,ct:=n0 chk t tb F ds,bk:=F.nx} env' st):∀ds env st,I ds env st→n0 chk t tb F ds env st
 |[],env,st,h=>by rw[bj1];exact h0 env st h
 |d::ds,env,st,h=>by rw[bd9];exact h1 d ds env st (B5 I h0 h1 ds) h
theorem J6{chk:Sto→Prop}{t:Tg}{tc:DB}{te:DT}{R:List D→Sto→Prop}(I:List D→List D→d8→Sto→Prop)(h0:∀acc env st,I [] acc env st→chk st∧R acc st)
  (h1:∀d ds acc env st,(∀acc env st,I ds acc env st→r8 chk t tc te R ds acc env st)→I (d::ds) acc env st→chk st∧A5 t d env fun env'=>tc env' st fun b st1=>if b=true then te env' st1 fun v st2=>r8 chk t tc te R ds (acc++[v]) env' st2 else r8 chk t tc te R ds acc env' st1):∀ds acc env st,I ds acc env st→r8 chk t tc te R ds acc env st
 |[],acc,env,st,h=>by rw[as9];exact h0 acc env st h
 |d::ds,acc,env,st,h=>by rw[ar2];exact h1 d ds acc env st (J6 I h0 h1 ds) h
theorem T4{Z:Sg}{env:d8}{st:Sto}{K:Bool→Sto→Prop}:B0 Z .non env st K=K true st:=rfl
theorem J7{Z:Sg}{c:E}{env:d8}{st:Sto}{K:Bool→Sto→Prop}(h:c.isNon=false):B0 Z c env st K=wpE Z c env st fun d st'=>∃b,d=.bl b∧K b st':=by unfold B0;rw[h];rfl
theorem V1{i j:Int}(h:-(2^64)<j∧j<2^64):D9 i j:=.inl (.inr h)
theorem F5{i j:Int}(h:-(2^64)<i∧i<2^64):D9 i j:=.inl (.inl h)
theorem F0{n:Nat}(h:n≤16000000):n≤sizeLine:=Nat.le_trans h (by decide)
theorem G5{n:Nat}(h:n<16000000):n<sizeLine:=Nat.lt_of_lt_of_le h (by decide)
end Ek
namespace Ek
noncomputable def Ss.drop:Nat→Ss→Ss
 |0,s=>s
 |_+1,.nil=>.nil
 |k+1,.cons _ r=>Ss.drop k r
end Ek
namespace Ek
theorem ag9{ds:List D}{R:PySem.Addr→List D→Prop}:(∃a es,D.tup ds=.ref a∧R a es)=False:=propext ⟨fun⟨_,_,h,_⟩=>(by cases h),False.elim⟩
theorem ag6{a:PySem.Addr}{R:List D→Prop}:(∃es,D.ref a=.tup es∧R es)=False:=propext ⟨fun⟨_,h,_⟩=>(by cases h),False.elim⟩
theorem af6{a:PySem.Addr}{R:PySem.Addr→List D→Prop}:(∃b es,D.ref a=.ref b∧R b es)=∃es,R a es:=propext ⟨fun⟨_,es,h,q⟩=>by cases h;exact⟨es,q⟩,fun⟨es,q⟩=>⟨a,es,rfl,q⟩⟩
end Ek
namespace Ek
open PySem L2
section
variable {Z:Sg} {env:d8} {st:Sto} {k:Option Int→Sto→Prop} {K:Bool→Sto→Prop} {a b:E}
theorem T8{o:Operator}:bnd Z (.bin o a b) env st k=wpE Z (.bin o a b) env st fun d st'=>∃i,d=.int i∧k (some i) st':=B4 rfl
theorem ab3{j:Nat}:bnd Z (.v j) env st k=wpE Z (.v j) env st fun d st'=>∃i,d=.int i∧k (some i) st':=B4 rfl
theorem Q8{g:Str}:bnd Z (.gsel g a) env st k=wpE Z (.gsel g a) env st fun d st'=>∃i,d=.int i∧k (some i) st':=B4 rfl
theorem S6:bnd Z (.len a) env st k=wpE Z (.len a) env st fun d st'=>∃i,d=.int i∧k (some i) st':=B4 rfl
theorem R0:bnd Z (.neg a) env st k=wpE Z (.neg a) env st fun d st'=>∃i,d=.int i∧k (some i) st':=B4 rfl
theorem X8:bnd Z (.ix a b) env st k=wpE Z (.ix a b) env st fun d st'=>∃i,d=.int i∧k (some i) st':=B4 rfl
theorem Q6{f:Str}{es:Es}:bnd Z (.call f es) env st k=wpE Z (.call f es) env st fun d st'=>∃i,d=.int i∧k (some i) st':=B4 rfl
theorem T3{o:CmpOp}:B0 Z (.cmp o a b) env st K=wpE Z (.cmp o a b) env st fun d st'=>∃b,d=.bl b∧K b st':=J7 rfl
theorem U0:B0 Z (.and a b) env st K=wpE Z (.and a b) env st fun d st'=>∃b,d=.bl b∧K b st':=J7 rfl
theorem W1:B0 Z (.or a b) env st K=wpE Z (.or a b) env st fun d st'=>∃b,d=.bl b∧K b st':=J7 rfl
theorem R8:B0 Z (.not a) env st K=wpE Z (.not a) env st fun d st'=>∃b,d=.bl b∧K b st':=J7 rfl
theorem Q4{f:Str}{es:Es}:B0 Z (.call f es) env st K=wpE Z (.call f es) env st fun d st'=>∃b,d=.bl b∧K b st':=J7 rfl
end
end Ek
namespace Ek
open PySem L2
end Ek
namespace Ek
open PySem L2
theorem bz6{st:Sto}{a:Addr}{ds es:List D}{Q:DK}(h:st a=some (.lst ds)):G7 (.ref a) (.tup es) st Q=(ds.length+es.length≤sizeLine∧Q .non (d3 st a (.lst (ds++es)))):=by
 show(∃ds,st a=some (.lst ds)∧_)=_;exact propext ⟨fun⟨_,r,q⟩=>by rw[h]at r;cases r;exact q,fun q=>⟨ds,h,q⟩⟩
theorem U1{Z:Sg}{F:DEnds}{env:d8}{st:Sto}{c:E}{b:Ss}:wpS Z (.while c b) F env st=∃n,w6 (wpT Z c) (e9 Z b) F n env st:=rfl
theorem bj0{Z:Sg}{e:E}{env:d8}{st:Sto}{K:Bool→Sto→Prop}:wpT Z e env st K=wpE Z e env st fun d st'=>∃b,d=.bl b∧K b st':=rfl
theorem ba6{tc:DB}{tb:DS}{F:DEnds}(I:Nat→d8→Sto→Prop)(step:∀m env st(W:d8→Sto→Prop),I m env st→(∀m' env' st',m'<m→I m' env' st'→W env' st')→tc env st fun b st1=>if b=true then tb {F with nx:=W,ct:=W,bk:=F.nx} env st1 else F.nx env st1):∀m env st,I m env st→∃n,w6 tc tb F n env st:=by
 have main:∀k m env st,m≤k→I m env st→w6 tc tb F (k+1) env st:=by
  intro k
  induction k with
  |zero=>
   intro m env st hm hI;rw[w6];exact step m env st _ hI fun m' env' st' hlt _=>by omega
  |succ k ih=>
   intro m env st hm hI;rw[w6];exact step m env st _ hI fun m' env' st' hlt hI'=>ih m' env' st' (by omega) hI'
 exact fun m env st hI=>⟨m+1,main m m env st (Nat.le_refl _) hI⟩
theorem a05{st:Sto}{a:Addr}{ds:List D}{d:D}{Q:DK}(h:st a=some (.lst (ds++[d]))):N2 (.ref a) st Q=Q d (d3 st a (.lst ds)):=by
 show(∃ds d,st a=some (.lst (ds++[d]))∧_)=_;refine propext ⟨fun⟨es,e,r,q⟩=>?_,fun q=>⟨ds,d,h,q⟩⟩;rw[h]at r;simp only[Option.some.injEq,Ob.lst.injEq]at r;obtain⟨r1,r2⟩:=List.append_inj' r rfl;cases r2;rw[r1];exact q
theorem b50{st:Sto}{a:Addr}{ds:List D}{Q:DK}(h:st a=some (.lst ds)):N5 (.ref a) st Q=Q .non (d3 st a (.lst ds.reverse)):=by
 show(∃ds,st a=some (.lst ds)∧_)=_;exact propext ⟨fun⟨_,r,q⟩=>by rw[h]at r;cases r;exact q,fun q=>⟨ds,h,q⟩⟩
theorem ae9{f:Str}{Q:Str→Prop}:(∃g,some (some (D.fn f))=some (some (.fn g))∧Q g)=Q f:=propext ⟨fun⟨_,h,q⟩=>by cases h;exact q,fun q=>⟨f,rfl,q⟩⟩
end Ek
namespace Ek
open PySem L2
inductive Kd where
 |non|one|eith (a b:Kd)|both (a b:Kd)|way (a b:Kd)
 deriving DecidableEq
noncomputable def Kd.d:Kd→D
 |.non=>.tup [.str "none"]
 |.one=>.tup [.str "one"]
 |.eith a b=>.tup [.str "either",a.d,b.d]
 |.both a b=>.tup [.str "both",a.d,b.d]
 |.way a b=>.tup [.str "way",a.d,b.d]
noncomputable def Kd.cnt:Kd→Nat
 |.non=>0|.one=>1
 |.eith a b=>a.cnt+b.cnt
 |.both a b=>a.cnt*b.cnt
 |.way a b=>b.cnt^a.cnt
noncomputable def Kd.nest:Kd→Nat
 |.non=>0|.one=>0
 |.eith a b=>1+max a.nest b.nest
 |.both a b=>1+max a.nest b.nest
 |.way a b=>1+max a.nest b.nest
noncomputable def Kd.bd(m:Nat):Kd→Prop
 |.non=>True|.one=>1≤m
 |.eith a b=>a.bd m∧b.bd m∧a.cnt+b.cnt≤m
 |.both a b=>a.bd m∧b.bd m∧a.cnt*b.cnt≤m
 |.way a b=>a.bd m∧b.bd m∧b.cnt^a.cnt≤m
theorem Kd.bd_le{m:Nat}:∀{k:Kd},k.bd m→k.cnt≤m
 |.non,_=>Nat.zero_le _
 |.one,h=>h
 |.eith _ _,h=>h.2.2
 |.both _ _,h=>h.2.2
 |.way _ _,h=>h.2.2
theorem Kd.bd_mono{m m':Nat}(hm:m≤m'):∀{k:Kd},k.bd m→k.bd m'
 |.non,_=>trivial
 |.one,h=>Nat.le_trans h hm
 |.eith _ _,h=>⟨bd_mono hm h.1,bd_mono hm h.2.1,Nat.le_trans h.2.2 hm⟩
 |.both _ _,h=>⟨bd_mono hm h.1,bd_mono hm h.2.1,Nat.le_trans h.2.2 hm⟩
 |.way _ _,h=>⟨bd_mono hm h.1,bd_mono hm h.2.1,Nat.le_trans h.2.2 hm⟩
theorem M5{m:Nat}{k:Kd}(h:k.bd m):∀a b,k=.eith a b∨k=.both a b∨k=.way a b→a.bd m∧b.bd m:=fun a b e=>by
 rcases e with e|e|e<;>(subst e;exact⟨h.1,h.2.1⟩)
noncomputable def Kd.good:Kd→Prop
 |.non=>False|.one=>True
 |.eith a b=>(a.good∧b.good)∨(a=.non∧b.good)∨(a.good∧b=.non)
 |.both a b=>a.good∧b.good
 |.way a b=>(a.good∨a=.non)∧b.good∧a.cnt≤6
theorem Kd.good_pos:∀{k:Kd},k.good→0<k.cnt
 |.one,_=>Nat.one_pos
 |.eith a b,h=>by
  show 0<a.cnt+b.cnt
  rcases h with h|h|h
  ·have:=good_pos h.1;omega
  ·have:=good_pos h.2;omega
  ·have:=good_pos h.1;omega
 |.both a b,h=>Nat.mul_pos (good_pos h.1) (good_pos h.2)
 |.way a b,h=>Nat.pow_pos (good_pos h.2.1)
theorem A1:∀a b:Kd,deq a.d b.d=decide (a=b):=by
 intro a
 induction a with
 |non=>intro b;cases b<;>simp[Kd.d,t5,o8,o5,o0]
 |one=>intro b;cases b<;>simp[Kd.d,t5,o8,o5,o0]
 |eith a c iha ihc=>intro b;cases b<;>simp[Kd.d,t5,o8,o5,o0,iha,ihc]
 |both a c iha ihc=>intro b;cases b<;>simp[Kd.d,t5,o8,o5,o0,iha,ihc]
 |way a c iha ihc=>intro b;cases b<;>simp[Kd.d,t5,o8,o5,o0,iha,ihc]
theorem z6{d:D}{r:List D}:D.pures (d::r)=(d.pure&&D.pures r):=rfl
theorem D3:D.pures []=true:=rfl
theorem E6{r:List D}:(D.tup r).pure=D.pures r:=rfl
theorem bd7{i:Int}:(D.int i).pure=true:=rfl
theorem u4:∀k:Kd,k.d.pure=true
 |.non=>by simp only[Kd.d,E6,z6,D3,v7,Bool.and_self]
 |.one=>by simp only[Kd.d,E6,z6,D3,v7,Bool.and_self]
 |.eith a b=>by simp only[Kd.d,E6,z6,D3,v7,u4 a,u4 b,Bool.and_self]
 |.both a b=>by simp only[Kd.d,E6,z6,D3,v7,u4 a,u4 b,Bool.and_self]
 |.way a b=>by simp only[Kd.d,E6,z6,D3,v7,u4 a,u4 b,Bool.and_self]
theorem ai0:∀l:List Kd,D.pures (l.map Kd.d)=true
 |[]=>rfl
 |k::r=>by rw[List.map_cons,z6,u4,ai0 r];rfl
noncomputable def o6:List D→Nat
 |[]=>0
 |d::r=>max (i7 d) (o6 r)
theorem at6:∀l:List D,PyData.depthAll (D.pys l)=o6 l
 |[]=>rfl
 |d::r=>by show max (PyData.depth d.py) (PyData.depthAll (D.pys r))=_;rw[at6 r];rfl
theorem t6{l:List D}:i7 (.tup l)=o6 l+1:=by
 show PyData.depth (.tuple (D.pys l))=_;rw[PyData.depth,at6]
theorem t8:∀k:Kd,i7 k.d=k.nest+1
 |.non=>by simp only[Kd.d,t6,o6,m7,Kd.nest];rfl
 |.one=>by simp only[Kd.d,t6,o6,m7,Kd.nest];rfl
 |.eith a b=>by simp only[Kd.d,t6,o6,m7,Kd.nest,t8 a,t8 b,Nat.max_zero];omega
 |.both a b=>by simp only[Kd.d,t6,o6,m7,Kd.nest,t8 a,t8 b,Nat.max_zero];omega
 |.way a b=>by simp only[Kd.d,t6,o6,m7,Kd.nest,t8 a,t8 b,Nat.max_zero];omega
inductive Pg where
 |name (n:Nat)|star|pair (t u:Pg)|first (t:Pg)|second (t:Pg)|left (b:Kd) (t:Pg)|right (a:Kd) (t:Pg)
 |case (t u v:Pg)|way (a:Kd) (t:Pg)|give (t u:Pg)|lets (t u:Pg)|never (k:Kd) (t:Pg)
 deriving DecidableEq
noncomputable def Pg.d:Pg→D
 |.name n=>.tup [.str "name",.int n]
 |.star=>.tup [.str "star"]
 |.pair t u=>.tup [.str "pair",t.d,u.d]
 |.first t=>.tup [.str "first",t.d]
 |.second t=>.tup [.str "second",t.d]
 |.left b t=>.tup [.str "left",b.d,t.d]
 |.right a t=>.tup [.str "right",a.d,t.d]
 |.case t u v=>.tup [.str "case",t.d,u.d,v.d]
 |.way a t=>.tup [.str "way",a.d,t.d]
 |.give t u=>.tup [.str "give",t.d,u.d]
 |.lets t u=>.tup [.str "let",t.d,u.d]
 |.never k t=>.tup [.str "never",k.d,t.d]
noncomputable def Pg.kind(Γ:List Kd):Pg→Option Kd
 |.name n=>Γ[n]?
 |.star=>some .one
 |.pair t u=>match t.kind Γ,u.kind Γ with
  |some a,some b=>some (.both a b)
  |_,_=>none
 |.first t=>match t.kind Γ with
  |some (.both a _)=>some a
  |_=>none
 |.second t=>match t.kind Γ with
  |some (.both _ b)=>some b
  |_=>none
 |.left b t=>match t.kind Γ with
  |some a=>some (.eith a b)
  |_=>none
 |.right a t=>match t.kind Γ with
  |some b=>some (.eith a b)
  |_=>none
 |.case t u v=>match t.kind Γ with
  |some (.eith a b)=>match u.kind (a::Γ),v.kind (b::Γ)with
   |some k,some l=>if k=l then some k else none
   |_,_=>none
  |_=>none
 |.way a t=>match t.kind (a::Γ)with
  |some b=>some (.way a b)
  |_=>none
 |.give t u=>match t.kind Γ,u.kind Γ with
  |some (.way a b),some c=>if a=c then some b else none
  |_,_=>none
 |.lets t u=>match t.kind Γ with
  |some a=>u.kind (a::Γ)
  |_=>none
 |.never k t=>match t.kind Γ with
  |some .non=>some k
  |_=>none
noncomputable def Pg.kids:Pg→List Pg
 |.name _=>[]|.star=>[]
 |.pair t u=>[t,u]|.first t=>[t]|.second t=>[t]|.left _ t=>[t]|.right _ t=>[t]
 |.case t u v=>[t,u,v]|.way _ t=>[t]|.give t u=>[t,u]|.lets t u=>[t,u]|.never _ t=>[t]
noncomputable def Pg.hgt:Pg→Nat
 |.name _=>1|.star=>1
 |.pair t u=>1+max t.hgt u.hgt|.first t=>1+t.hgt|.second t=>1+t.hgt|.left _ t=>1+t.hgt|.right _ t=>1+t.hgt
 |.case t u v=>1+max t.hgt (max u.hgt v.hgt)|.way _ t=>1+t.hgt|.give t u=>1+max t.hgt u.hgt|.lets t u=>1+max t.hgt u.hgt|.never _ t=>1+t.hgt
noncomputable def Pg.parts:Pg→Nat
 |.name _=>1|.star=>1
 |.pair t u=>1+t.parts+u.parts|.first t=>1+t.parts|.second t=>1+t.parts|.left _ t=>1+t.parts|.right _ t=>1+t.parts
 |.case t u v=>1+t.parts+u.parts+v.parts|.way _ t=>1+t.parts|.give t u=>1+t.parts+u.parts|.lets t u=>1+t.parts+u.parts|.never _ t=>1+t.parts
noncomputable def Pg.kn(m:Nat):Pg→Prop
 |.name _=>True|.star=>True
 |.pair t u=>t.kn m∧u.kn m|.first t=>t.kn m|.second t=>t.kn m|.left b t=>b.nest≤m∧t.kn m|.right a t=>a.nest≤m∧t.kn m
 |.case t u v=>t.kn m∧u.kn m∧v.kn m|.way a t=>a.nest≤m∧t.kn m|.give t u=>t.kn m∧u.kn m|.lets t u=>t.kn m∧u.kn m|.never k t=>k.nest≤m∧t.kn m
theorem ay9:∀a b:Pg,deq a.d b.d=decide (a=b):=by
 intro a
 induction a with
 |name n=>intro b;cases b<;>simp[Pg.d,t5,o8,o5,T9,o0]<;>omega
 |star=>intro b;cases b<;>simp[Pg.d,t5,o8,o5,o0]
 |pair t u iht ihu=>intro b;cases b<;>simp[Pg.d,t5,o8,o5,o0,iht,ihu]
 |give t u iht ihu=>intro b;cases b<;>simp[Pg.d,t5,o8,o5,o0,iht,ihu]
 |lets t u iht ihu=>intro b;cases b<;>simp[Pg.d,t5,o8,o5,o0,iht,ihu]
 |first t iht=>intro b;cases b<;>simp[Pg.d,t5,o8,o5,o0,iht]
 |second t iht=>intro b;cases b<;>simp[Pg.d,t5,o8,o5,o0,iht]
 |left k t iht=>intro b;cases b<;>simp[Pg.d,t5,o8,o5,o0,iht,A1]
 |right k t iht=>intro b;cases b<;>simp[Pg.d,t5,o8,o5,o0,iht,A1]
 |way k t iht=>intro b;cases b<;>simp[Pg.d,t5,o8,o5,o0,iht,A1]
 |never k t iht=>intro b;cases b<;>simp[Pg.d,t5,o8,o5,o0,iht,A1]
 |case t u v iht ihu ihv=>intro b;cases b<;>simp[Pg.d,t5,o8,o5,o0,iht,ihu,ihv]
theorem y0(p:Pg):p.d.pure=true:=by
 induction p<;>simp only[Pg.d,E6,z6,D3,v7,bd7,u4,Bool.and_self, *]
theorem b26{m:Nat}(p:Pg)(h:p.kn m):i7 p.d≤p.hgt+m+1:=by
 have mx:∀a b c:Nat,a≤c→b≤c→max a b≤c:=fun a b c h h'=>Nat.max_le.mpr ⟨h,h'⟩;have l1:∀a b:Nat,a≤max a b:=fun a b=>Nat.le_max_left a b;have l2:∀a b:Nat,b≤max a b:=fun a b=>Nat.le_max_right a b
 induction p with
 |name n=>simp only[Pg.d,t6,o6,m7,F1,Pg.hgt];simp
 |star=>simp only[Pg.d,t6,o6,m7,Pg.hgt];simp
 |pair t u iht ihu=>simp only[Pg.d,t6,o6,m7,Pg.hgt];have:=iht h.1;have:=ihu h.2;have:=l1 t.hgt u.hgt;have:=l2 t.hgt u.hgt;apply Nat.succ_le_succ;refine mx _ _ _ (by omega) (mx _ _ _ (by omega) (mx _ _ _ (by omega) (by omega)))
 |give t u iht ihu=>simp only[Pg.d,t6,o6,m7,Pg.hgt];have:=iht h.1;have:=ihu h.2;have:=l1 t.hgt u.hgt;have:=l2 t.hgt u.hgt;apply Nat.succ_le_succ;refine mx _ _ _ (by omega) (mx _ _ _ (by omega) (mx _ _ _ (by omega) (by omega)))
 |lets t u iht ihu=>simp only[Pg.d,t6,o6,m7,Pg.hgt];have:=iht h.1;have:=ihu h.2;have:=l1 t.hgt u.hgt;have:=l2 t.hgt u.hgt;apply Nat.succ_le_succ;refine mx _ _ _ (by omega) (mx _ _ _ (by omega) (mx _ _ _ (by omega) (by omega)))
 |first t iht=>simp only[Pg.d,t6,o6,m7,Pg.hgt];have:=iht h;apply Nat.succ_le_succ;refine mx _ _ _ (by omega) (mx _ _ _ (by omega) (by omega))
 |second t iht=>simp only[Pg.d,t6,o6,m7,Pg.hgt];have:=iht h;apply Nat.succ_le_succ;refine mx _ _ _ (by omega) (mx _ _ _ (by omega) (by omega))
 |left k t iht=>simp only[Pg.d,t6,o6,m7,t8,Pg.hgt];have:=iht h.2;have:=h.1;apply Nat.succ_le_succ;refine mx _ _ _ (by omega) (mx _ _ _ (by omega) (mx _ _ _ (by omega) (by omega)))
 |right k t iht=>simp only[Pg.d,t6,o6,m7,t8,Pg.hgt];have:=iht h.2;have:=h.1;apply Nat.succ_le_succ;refine mx _ _ _ (by omega) (mx _ _ _ (by omega) (mx _ _ _ (by omega) (by omega)))
 |way k t iht=>simp only[Pg.d,t6,o6,m7,t8,Pg.hgt];have:=iht h.2;have:=h.1;apply Nat.succ_le_succ;refine mx _ _ _ (by omega) (mx _ _ _ (by omega) (mx _ _ _ (by omega) (by omega)))
 |never k t iht=>simp only[Pg.d,t6,o6,m7,t8,Pg.hgt];have:=iht h.2;have:=h.1;apply Nat.succ_le_succ;refine mx _ _ _ (by omega) (mx _ _ _ (by omega) (mx _ _ _ (by omega) (by omega)))
 |case t u v iht ihu ihv=>
  simp only[Pg.d,t6,o6,m7,Pg.hgt];have:=iht h.1;have:=ihu h.2.1;have:=ihv h.2.2;have:=l1 t.hgt (max u.hgt v.hgt);have:=l2 t.hgt (max u.hgt v.hgt);have:=l1 u.hgt v.hgt;have:=l2 u.hgt v.hgt;apply Nat.succ_le_succ;refine mx _ _ _ (by omega) (mx _ _ _ (by omega) (mx _ _ _ (by omega) (mx _ _ _ (by omega) (by omega))))
end Ek
namespace Ek
open PySem
noncomputable def O9:Def:=⟨2,["_law_cell","_law_k","_law_number"],
 (.cons (.set 2 (.bin .Mod (.bin .Add (.bin .Add (.bin .Mult (.bin .Mod (.v 0) (.int 2147483629)) (.int 48271)) (.bin .Mult (.int 7919) (.v 1))) (.int 13)) (.int 2147483629)))
 (.cons (.set 2 (.bin .Mod (.bin .Add (.bin .Mult (.v 2) (.bin .Add (.bin .FloorDiv (.v 2) (.int 5)) (.v 1))) (.bin .Mult (.int 16807) (.v 1))) (.int 2147483587)))
 (.cons (.ret (.bin .Mod (.bin .Add (.bin .Mult (.v 2) (.int 69621)) (.bin .FloorDiv (.v 2) (.int 127))) (.int 2147483647)))
 .nil)))⟩
noncomputable def v9:Def:=⟨1,["_law_script","_law_deck_here","_law_k","_law_cell","_law_number","_law_turn"],
 (.cons (.set 1 (.lst .nil))
 (.cons (.for (.tup [2,3]) (.enum (.sl (.v 0) .non (.int 63)))
   (.cons (.set 4 (.bin .Mod (.abs (.v 3)) (.bin .Pow (.int 2147483647) (.int 60))))
  (.cons (.iff (.cmp .Lt (.v 4) (.bin .Pow (.int 10) (.int 18)))
    (.cons (.ex (.ext (.v 1) (.comp ["_law_number","_law_k","_law_j"] [4,2] 1 (.n 2) (.rng (.int 7)) .non (.call "_law_mixed" (.cons (.v 0) (.cons (.bin .Add (.bin .Mult (.int 7) (.v 1)) (.v 2)) .nil))))))
   (.cons (.set 4 (.int 0))
   .nil))
    .nil)
  (.cons (.for (.n 5) (.rng (.int 60))
    (.cons (.iff (.cmp .Gt (.v 4) (.int 0))
     (.cons (.ex (.app (.v 1) (.bin .Mod (.v 4) (.int 2147483647))))
    (.cons (.set 4 (.bin .FloorDiv (.v 4) (.int 2147483647)))
    .nil))
     .nil)
   .nil))
  .nil))))
 (.cons (.for (.n 2) (.rng2 (.len (.v 1)) (.int 150))
   (.cons (.ex (.app (.v 1) (.call "_law_mixed" (.cons (.sum (.sl (.v 0) .non (.int 63))) (.cons (.v 2) .nil)))))
  .nil))
 (.cons (.ret (.sl (.v 1) .non (.int 900)))
 .nil))))⟩
noncomputable def P4:Def:=⟨2,["_law_deck_here","_law_many"],
 (.cons (.iff (.cmp .Eq (.len (.v 0)) (.int 0))
   (.cons (.ret (.int 0))
  .nil)
   .nil)
 (.cons (.ret (.bin .Mod (.popAt (.v 0) (.int 0)) (.v 1)))
 .nil))⟩
noncomputable def O7:Def:=⟨2,["_law_number","_law_times","_law_found","_law_turn"],
 (.cons (.set 2 (.int 1))
 (.cons (.for (.n 3) (.rng (.v 1))
   (.cons (.set 2 (.bin .Mult (.v 2) (.v 0)))
  .nil))
 (.cons (.ret (.v 2))
 .nil)))⟩
noncomputable def J0:Def:=⟨1,["_law_kind_here","_law_one","_law_other"],
 (.cons (.iff (.cmp .Eq (.len (.v 0)) (.int 1))
   (.cons (.ret (.toInt (.cmp .Eq (.ix (.v 0) (.int 0)) (.str "one"))))
  .nil)
   .nil)
 (.cons (.set 1 (.call "_law_count" (.cons (.ix (.v 0) (.int 1)) .nil)))
 (.cons (.set 2 (.call "_law_count" (.cons (.ix (.v 0) (.int 2)) .nil)))
 (.cons (.ret (.dsel ["either","both","way"] (.cons (.bin .Add (.v 1) (.v 2)) (.cons (.bin .Mult (.v 1) (.v 2)) (.cons (.call "_law_power" (.cons (.v 2) (.cons (.v 1) .nil))) .nil))) (.ix (.v 0) (.int 0))))
 .nil))))⟩
noncomputable def x0:Def:=⟨3,["_law_deck_here","_law_deep","_law_most","_law_way","_law_word","_law_one","_law_other"],
 (.cons (.set 3 (.call "_law_next" (.cons (.v 0) (.cons (.ix (.lst (.cons (.int 1) (.cons (.int 6) .nil))) (.toInt (.cmp .Gt (.v 1) (.int 0)))) .nil))))
 (.cons (.iff (.or (.cmp .Eq (.v 3) (.int 0)) (.cmp .Eq (.v 3) (.int 5)))
   (.cons (.ret (.ix (.lst (.cons (.tup (.cons (.str "one") .nil)) (.cons (.tup (.cons (.str "either") (.cons (.tup (.cons (.str "one") .nil)) (.cons (.tup (.cons (.str "one") .nil)) .nil)))) .nil))) (.toInt (.and (.cmp .Eq (.v 3) (.int 5)) (.cmp .Gt (.v 2) (.int 1))))))
  .nil)
   .nil)
 (.cons (.set 4 (.ix (.lst (.cons (.str "either") (.cons (.str "both") (.cons (.str "way") (.cons (.str "either") .nil))))) (.bin .Sub (.v 3) (.int 1))))
 (.cons (.set 5 (.call "_law_kind" (.cons (.v 0) (.cons (.bin .Sub (.v 1) (.int 1)) (.cons (.v 2) .nil)))))
 (.cons (.set 6 (.call "_law_kind" (.cons (.v 0) (.cons (.bin .Sub (.v 1) (.int 1)) (.cons (.v 2) .nil)))))
 (.cons (.iff (.and (.cmp .NotEq (.v 4) (.str "both")) (.cmp .Eq (.call "_law_next" (.cons (.v 0) (.cons (.int 6) .nil))) (.int 1)))
   (.cons (.set 5 (.tup (.cons (.str "none") .nil)))
  .nil)
   (.cons (.iff (.and (.cmp .Eq (.v 4) (.str "either")) (.cmp .Eq (.call "_law_next" (.cons (.v 0) (.cons (.int 6) .nil))) (.int 1)))
    (.cons (.set 6 (.tup (.cons (.str "none") .nil)))
   .nil)
    .nil)
  .nil))
 (.cons (.iff (.and (.cmp .Eq (.v 4) (.str "way")) (.cmp .Gt (.call "_law_count" (.cons (.v 5) .nil)) (.int 6)))
   (.cons (.set 5 (.tup (.cons (.str "one") .nil)))
  .nil)
   .nil)
 (.cons (.iff (.cmp .Gt (.call "_law_count" (.cons (.tup (.cons (.v 4) (.cons (.v 5) (.cons (.v 6) .nil)))) .nil)) (.v 2))
   (.cons (.ret (.tup (.cons (.str "one") .nil)))
  .nil)
   .nil)
 (.cons (.ret (.tup (.cons (.v 4) (.cons (.v 5) (.cons (.v 6) .nil)))))
 .nil)))))))))⟩
noncomputable def D1:Def:=⟨2,["_law_kind_here","_law_names_here","_law_word","_law_body"],
 (.cons (.set 2 (.ix (.v 0) (.int 0)))
 (.cons (.iff (.cmp .Eq (.v 2) (.str "none"))
   (.cons (.ret (.tup (.cons (.str "name") (.cons (.index (.v 1) (.v 0)) .nil))))
  .nil)
   .nil)
 (.cons (.iff (.cmp .Eq (.v 2) (.str "one"))
   (.cons (.ret (.tup (.cons (.str "star") .nil)))
  .nil)
   .nil)
 (.cons (.iff (.cmp .Eq (.v 2) (.str "both"))
   (.cons (.ret (.tup (.cons (.str "pair") (.cons (.call "_law_least" (.cons (.ix (.v 0) (.int 1)) (.cons (.v 1) .nil))) (.cons (.call "_law_least" (.cons (.ix (.v 0) (.int 2)) (.cons (.v 1) .nil))) .nil)))))
  .nil)
   .nil)
 (.cons (.iff (.cmp .Eq (.v 2) (.str "way"))
   (.cons (.set 3 (.bin .Add (.tup (.cons (.ix (.v 0) (.int 1)) .nil)) (.v 1)))
  (.cons (.ret (.tup (.cons (.str "way") (.cons (.ix (.v 0) (.int 1)) (.cons (.call "_law_least" (.cons (.ix (.v 0) (.int 2)) (.cons (.v 3) .nil))) .nil)))))
  .nil))
   .nil)
 (.cons (.iff (.cmp .Gt (.call "_law_count" (.cons (.ix (.v 0) (.int 1)) .nil)) (.int 0))
   (.cons (.ret (.tup (.cons (.str "left") (.cons (.ix (.v 0) (.int 2)) (.cons (.call "_law_least" (.cons (.ix (.v 0) (.int 1)) (.cons (.v 1) .nil))) .nil)))))
  .nil)
   .nil)
 (.cons (.ret (.tup (.cons (.str "right") (.cons (.ix (.v 0) (.int 1)) (.cons (.call "_law_least" (.cons (.ix (.v 0) (.int 2)) (.cons (.v 1) .nil))) .nil)))))
 .nil)))))))⟩
noncomputable def z7:Def:=⟨5,["_law_deck_here","_law_kind_here","_law_names_here","_law_room","_law_deep","_law_word","_law_one","_law_side","_law_body"],
 (.cons (.set 5 (.ix (.v 1) (.int 0)))
 (.cons (.iff (.or (.cmp .Eq (.v 5) (.str "none")) (.cmp .Eq (.v 5) (.str "one")))
   (.cons (.ret (.call "_law_least" (.cons (.v 1) (.cons (.v 2) .nil))))
  .nil)
   .nil)
 (.cons (.iff (.cmp .Eq (.v 5) (.str "both"))
   (.cons (.set 6 (.call "_law_grown" (.cons (.v 0) (.cons (.ix (.v 1) (.int 1)) (.cons (.v 2) (.cons (.v 3) (.cons (.bin .Sub (.v 4) (.int 1)) .nil)))))))
  (.cons (.ret (.tup (.cons (.str "pair") (.cons (.v 6) (.cons (.call "_law_grown" (.cons (.v 0) (.cons (.ix (.v 1) (.int 2)) (.cons (.v 2) (.cons (.v 3) (.cons (.bin .Sub (.v 4) (.int 1)) .nil)))))) .nil)))))
  .nil))
   .nil)
 (.cons (.iff (.cmp .Eq (.v 5) (.str "way"))
   (.cons (.ret (.tup (.cons (.str "way") (.cons (.ix (.v 1) (.int 1)) (.cons (.call "_law_grown" (.cons (.v 0) (.cons (.ix (.v 1) (.int 2)) (.cons (.bin .Add (.tup (.cons (.ix (.v 1) (.int 1)) .nil)) (.v 2)) (.cons (.v 3) (.cons (.bin .Sub (.v 4) (.int 1)) .nil)))))) .nil)))))
  .nil)
   .nil)
 (.cons (.set 7 (.call "_law_next" (.cons (.v 0) (.cons (.int 2) .nil))))
 (.cons (.iff (.cmp .Eq (.call "_law_count" (.cons (.ix (.v 1) (.bin .Add (.int 1) (.v 7))) .nil)) (.int 0))
   (.cons (.set 7 (.bin .Sub (.int 1) (.v 7)))
  .nil)
   .nil)
 (.cons (.set 8 (.call "_law_grown" (.cons (.v 0) (.cons (.ix (.v 1) (.bin .Add (.int 1) (.v 7))) (.cons (.v 2) (.cons (.v 3) (.cons (.bin .Sub (.v 4) (.int 1)) .nil)))))))
 (.cons (.ret (.tup (.cons (.ix (.lst (.cons (.str "left") (.cons (.str "right") .nil))) (.v 7)) (.cons (.ix (.v 1) (.bin .Sub (.int 2) (.v 7))) (.cons (.v 8) .nil)))))
 .nil))))))))⟩
noncomputable def J3:Def:=⟨1,["_law_kind_here"],
 (.cons (.iff (.cmp .Eq (.len (.v 0)) (.int 1))
   (.cons (.ret (.int 0))
  .nil)
   .nil)
 (.cons (.ret (.bin .Add (.int 1) (.max (.call "_law_nest" (.cons (.ix (.v 0) (.int 1)) .nil)) (.call "_law_nest" (.cons (.ix (.v 0) (.int 2)) .nil)))))
 .nil))⟩
noncomputable def B3:Def:=⟨5,["_law_deck_here","_law_kind_here","_law_names_here","_law_room","_law_deep","_law_other","_law_way","_law_known","_law_more","_law_one"],
 (.cons (.set 5 (.call "_law_kind" (.cons (.v 0) (.cons (.int 1) (.cons (.int 4) .nil)))))
 (.cons (.iff (.or (.cmp .Gt (.call "_law_count" (.cons (.tup (.cons (.str "both") (.cons (.v 1) (.cons (.v 5) .nil)))) .nil)) (.int 100)) (.cmp .Gt (.call "_law_count" (.cons (.tup (.cons (.str "way") (.cons (.v 5) (.cons (.v 1) .nil)))) .nil)) (.int 100)))
   (.cons (.set 5 (.tup (.cons (.str "one") .nil)))
  .nil)
   .nil)
 (.cons (.set 6 (.call "_law_next" (.cons (.v 0) (.cons (.int 6) .nil))))
 (.cons (.iff (.cmp .Eq (.v 6) (.int 0))
   (.cons (.ret (.tup (.cons (.str "first") (.cons (.call "_law_grown" (.cons (.v 0) (.cons (.tup (.cons (.str "both") (.cons (.v 1) (.cons (.v 5) .nil)))) (.cons (.v 2) (.cons (.v 3) (.cons (.bin .Sub (.v 4) (.int 1)) .nil)))))) .nil))))
  .nil)
   .nil)
 (.cons (.iff (.cmp .Eq (.v 6) (.int 1))
   (.cons (.ret (.tup (.cons (.str "second") (.cons (.call "_law_grown" (.cons (.v 0) (.cons (.tup (.cons (.str "both") (.cons (.v 5) (.cons (.v 1) .nil)))) (.cons (.v 2) (.cons (.v 3) (.cons (.bin .Sub (.v 4) (.int 1)) .nil)))))) .nil))))
  .nil)
   .nil)
 (.cons (.iff (.cmp .Eq (.v 6) (.int 2))
   (.cons (.set 7 (.call "_law_grown" (.cons (.v 0) (.cons (.tup (.cons (.str "way") (.cons (.v 5) (.cons (.v 1) .nil)))) (.cons (.v 2) (.cons (.v 3) (.cons (.bin .Sub (.v 4) (.int 1)) .nil)))))))
  (.cons (.ret (.tup (.cons (.str "give") (.cons (.v 7) (.cons (.call "_law_grown" (.cons (.v 0) (.cons (.v 5) (.cons (.v 2) (.cons (.v 3) (.cons (.bin .Sub (.v 4) (.int 1)) .nil)))))) .nil)))))
  .nil))
   .nil)
 (.cons (.iff (.cmp .Eq (.v 6) (.int 3))
   (.cons (.set 7 (.call "_law_grown" (.cons (.v 0) (.cons (.v 5) (.cons (.v 2) (.cons (.v 3) (.cons (.bin .Sub (.v 4) (.int 1)) .nil)))))))
  (.cons (.ret (.tup (.cons (.str "let") (.cons (.v 7) (.cons (.call "_law_grown" (.cons (.v 0) (.cons (.v 1) (.cons (.bin .Add (.tup (.cons (.v 5) .nil)) (.v 2)) (.cons (.v 3) (.cons (.bin .Sub (.v 4) (.int 1)) .nil)))))) .nil)))))
  .nil))
   .nil)
 (.cons (.iff (.and (.cmp .Eq (.v 6) (.int 4)) (.cmp .In (.tup (.cons (.str "none") .nil)) (.v 2)))
   (.cons (.ret (.tup (.cons (.str "never") (.cons (.v 1) (.cons (.tup (.cons (.str "name") (.cons (.index (.v 2) (.tup (.cons (.str "none") .nil))) .nil))) .nil)))))
  .nil)
   .nil)
 (.cons (.set 8 (.call "_law_kind" (.cons (.v 0) (.cons (.int 1) (.cons (.int 4) .nil)))))
 (.cons (.set 7 (.call "_law_grown" (.cons (.v 0) (.cons (.tup (.cons (.str "either") (.cons (.v 5) (.cons (.v 8) .nil)))) (.cons (.v 2) (.cons (.v 3) (.cons (.bin .Sub (.v 4) (.int 1)) .nil)))))))
 (.cons (.set 9 (.call "_law_grown" (.cons (.v 0) (.cons (.v 1) (.cons (.bin .Add (.tup (.cons (.v 5) .nil)) (.v 2)) (.cons (.v 3) (.cons (.bin .Sub (.v 4) (.int 1)) .nil)))))))
 (.cons (.ret (.tup (.cons (.str "case") (.cons (.v 7) (.cons (.v 9) (.cons (.call "_law_grown" (.cons (.v 0) (.cons (.v 1) (.cons (.bin .Add (.tup (.cons (.v 8) .nil)) (.v 2)) (.cons (.v 3) (.cons (.bin .Sub (.v 4) (.int 1)) .nil)))))) .nil))))))
 .nil))))))))))))⟩
noncomputable def D2:Def:=⟨5,["_law_deck_here","_law_kind_here","_law_names_here","_law_room","_law_deep","_law_some","_law_way"],
 (.cons (.put (.v 3) (.int 0) (.bin .Sub (.ix (.v 3) (.int 0)) (.int 1)))
 (.cons (.set 5 (.comp ["_law_kind_here","_law_k","_law_name"] [1] 2 (.tup [1,2]) (.enum (.v 2)) (.cmp .Eq (.v 2) (.v 0)) (.v 1)))
 (.cons (.set 6 (.call "_law_next" (.cons (.v 0) (.cons (.int 8) .nil))))
 (.cons (.iff (.and (.cmp .Gt (.len (.v 5)) (.int 0)) (.cmp .Lt (.v 6) (.int 3)))
   (.cons (.ret (.tup (.cons (.str "name") (.cons (.ix (.v 5) (.call "_law_next" (.cons (.v 0) (.cons (.len (.v 5)) .nil)))) .nil))))
  .nil)
   .nil)
 (.cons (.iff (.or (.cmp .LtE (.ix (.v 3) (.int 0)) (.int 0)) (.or (.cmp .LtE (.v 4) (.int 0)) (.cmp .Eq (.v 1) (.tup (.cons (.str "none") .nil)))))
   (.cons (.ret (.call "_law_least" (.cons (.v 1) (.cons (.v 2) .nil))))
  .nil)
   .nil)
 (.cons (.iff (.or (.cmp .Lt (.v 6) (.int 6)) (.cmp .Gt (.call "_law_nest" (.cons (.v 1) .nil)) (.int 4)))
   (.cons (.ret (.call "_law_made" (.cons (.v 0) (.cons (.v 1) (.cons (.v 2) (.cons (.v 3) (.cons (.v 4) .nil)))))))
  .nil)
   .nil)
 (.cons (.ret (.call "_law_asked" (.cons (.v 0) (.cons (.v 1) (.cons (.v 2) (.cons (.v 3) (.cons (.v 4) .nil)))))))
 .nil)))))))⟩
noncomputable def O6:Def:=⟨1,["_law_program_here","_law_word"],
 (.cons (.set 1 (.ix (.v 0) (.int 0)))
 (.cons (.iff (.cmp .Eq (.v 1) (.str "name"))
   (.cons (.ret (.tup .nil))
  .nil)
   .nil)
 (.cons (.ret (.sl (.v 0) (.bin .Add (.int 1) (.toInt (.cmp .In (.v 1) (.tup (.cons (.str "left") (.cons (.str "right") (.cons (.str "way") (.cons (.str "never") .nil)))))))) .non))
 .nil)))⟩
noncomputable def O8:Def:=⟨1,["_law_program_here"],
 (.cons (.ret (.bin .Add (.int 1) (.sum (.comp ["_law_piece"] [] 1 (.n 0) (.seq (.call "_law_inner" (.cons (.v 0) .nil))) .non (.call "_law_parts" (.cons (.v 0) .nil))))))
 .nil)⟩
noncomputable def O3:Def:=⟨4,["_law_deck_here","_law_kind_here","_law_names_here","_law_many","_law_found"],
 (.cons (.set 4 (.call "_law_grown" (.cons (.v 0) (.cons (.v 1) (.cons (.v 2) (.cons (.lst (.cons (.v 3) .nil)) (.cons (.int 8) .nil)))))))
 (.cons (.iff (.cmp .Gt (.call "_law_parts" (.cons (.v 4) .nil)) (.int 60))
   (.cons (.ret (.call "_law_least" (.cons (.v 1) (.cons (.v 2) .nil))))
  .nil)
   .nil)
 (.cons (.ret (.v 4))
 .nil)))⟩
noncomputable def v8:Def:=⟨3,["_law_deck_here","_law_most","_law_lines","_law_names_here","_law_many","_law_k","_law_kind_here"],
 (.cons (.set 3 (.tup .nil))
 (.cons (.set 4 (.int 1))
 (.cons (.for (.n 5) (.rng (.call "_law_next" (.cons (.v 0) (.cons (.bin .Add (.v 1) (.int 1)) .nil))))
   (.cons (.set 6 (.call "_law_kind" (.cons (.v 0) (.cons (.int 2) (.cons (.int 16) .nil)))))
  (.cons (.iff (.cmp .Eq (.call "_law_next" (.cons (.v 0) (.cons (.int 12) .nil))) (.int 1))
    (.cons (.set 6 (.tup (.cons (.str "none") .nil)))
   .nil)
    .nil)
  (.cons (.iff (.cmp .LtE (.bin .Mult (.v 4) (.max (.int 1) (.call "_law_count" (.cons (.v 6) .nil)))) (.v 2))
    (.cons (.set 4 (.bin .Mult (.v 4) (.max (.int 1) (.call "_law_count" (.cons (.v 6) .nil)))))
   (.cons (.set 3 (.bin .Add (.v 3) (.tup (.cons (.v 6) .nil))))
   .nil))
    .nil)
  .nil))))
 (.cons (.ret (.v 3))
 .nil))))⟩
end Ek
namespace Ek
open PySem L2
set_option hygiene false
local macro_rules | `(tactic| walk_at "ek")=>`(tactic| try simp only [aa2,ac2,U8,aa6,ag3,Y7,Z5,W8,ac4,U1,W3,Z9,aa1,af3,M3,ad3,e_v,ab4,ac1,ac7,Z6,Z3,ad8,X1,ac6,ae7,ab6,ae0,ae8,af0,ad4,U5,R9,T8,ab3,Q8,S6,R0,X8,Q6,T4,T3,U0,W1,R8,Q4,U7,W9,Y9,aa9,S9,ab1,W7,T1,ab0,X3,T6,ac3,V2,ae2,Q1,J4,ag8,W5,W0,ad1,ab2,S1,Z7,Y6,X7,U4,V5,X0,T2,ad2,aa3,V9,X6,ab5,af7,ag2,af9,ae9,aa4,ag5,ad6,X2,aa8,W2,ag9,ag6,af6,or_false,false_or,X5,Y1,Y0,X4,L1,V0,V3,aa0,ac0,Z4,ad0,ac5,Z0,Z1,ab7,N4,ae1,af2,ac9,af1,af8,ag0,af4,ae4,Y8,V4,Z2,ad5,Y2,S5,Q0,Y4,U2,V7,L7,W4,P2,P3,Z8,V8,List.set_cons_zero,List.set_cons_succ,List.getElem?_cons_zero,List.getElem?_cons_succ,decide_eq_true_eq,Bool.not_eq_true',decide_eq_false_iff_not,if_true,if_false,true_and,and_true,Bool.false_eq_true,Bool.true_eq_false,List.length_cons,List.length_nil,String.reduceEq,decide_true,decide_false,Bool.not_true,Bool.not_false])
set_option hygiene true
set_option hygiene false
local macro_rules | `(tactic| walk_at "es")=>`(tactic| ((try dsimp only);rw [Y3];walk_at "ek"))
set_option hygiene true
structure PB0(P:g9):Prop where
 mixed:P "_law_mixed"=some O9
 deck:P "_law_deck"=some v9
 next:P "_law_next"=some P4
 power:P "_law_power"=some O7
 count:P "_law_count"=some J0
 kind:P "_law_kind"=some x0
structure PB(P:g9):Prop extends PB0 P where
 least:P "_law_least"=some D1
 made:P "_law_made"=some z7
 nest:P "_law_nest"=some J3
 asked:P "_law_asked"=some B3
 grown:P "_law_grown"=some D2
 inner:P "_law_inner"=some O6
 parts:P "_law_parts"=some O8
 program:P "_law_program"=some O3
 names:P "_law_names"=some v8
section
variable {P:g9} {G:Gs} (B:PB0 P) {n:Nat} {st:Sto} {Q:DK}
include B
theorem au3(c k:Int)(q:∀i,Q (.int i) st):sem P G (n+1) "_law_mixed" [.int c,.int k] st Q:=by
 refine i5 B.mixed rfl [some (.int c),some (.int k),none] rfl ?_;unfold O9;dsimp only;walk_at "es";refine⟨by decide,V1 ⟨by decide,by decide⟩,F5 ⟨by decide,by decide⟩,by decide,?_⟩;walk_at "es";have e0:∀z:Int,0≤z % 2147483629∧z % 2147483629<2147483629:=fun z=>⟨Int.emod_nonneg _ (by decide),Int.emod_lt_of_pos _ (by decide)⟩;refine⟨⟨by decide,by decide⟩,F5 (by have:=e0 (c % 2147483629*48271+7919*k+13);omega),F5 ⟨by decide,by decide⟩,by decide,?_⟩;walk_at "es";refine⟨V1 ⟨by decide,by decide⟩,⟨by decide,by decide⟩,by decide,d5 (q _)⟩
theorem t4{a:Addr}{m:Int}(hm:0<m)(h:n8 st a)(q:∀r st',0≤r→r<m→n8 st' a→Kp [a] st st'→Q (.int r) st'):sem P G (n+1) "_law_next" [.ref a,.int m] st Q:=by
 obtain⟨l,h⟩:=h;refine i5 B.next rfl [some (.ref a),some (.int m)] rfl ?_;unfold P4;dsimp only;walk_at "es";rw[A6 (.inl h)];walk_at "ek";cases l with
 |nil=>
  rw[if_pos (by simp)];walk_at "es";exact d5 (q 0 st (Int.le_refl _) hm ⟨[],h⟩ Kp.refl)
 |cons x l=>
  rw[if_neg (by simp only[List.map_cons,List.length_cons];omega)];walk_at "es";rw[A4 (.inl h)];refine⟨trivial,⟨by decide,by decide⟩,_,0,.int x,h,by simp[ixN],rfl,?_⟩;simp only[L1];refine⟨hm,d5 (q _ _ (Int.emod_nonneg _ (by omega)) (Int.emod_lt_of_pos _ hm) ⟨l,?_⟩ (Kp.refl.put (by simp)))⟩;rw[g8];rfl
theorem bh8{b:Int}{t:Nat}(hb:0≤b∧b<2^64)(ht:t<2^62)(q:Q (.int (b^t)) st):sem P G (n+1) "_law_power" [.int b,.int t] st Q:=by
 refine i5 B.power rfl [some (.int b),some (.int t),none,none] rfl ?_;unfold O7;dsimp only;walk_at "es";walk_at "es";refine⟨by omega,?_⟩;refine B5 (fun l env st'=>st'=st∧∃(f:Int)(x:Option D),env=[some (.int b),some (.int t),some (.int f),x]∧f*b^l.length=b^t) ?_ ?_ _ _ _ ⟨rfl,1,none,rfl,by simp[m8]⟩
 ·rintro env st' ⟨rfl,f,x,rfl,e⟩;refine⟨trivial,?_⟩;walk_at "es";have:f=b^t:=by rw[←e];simp
  rw[this];exact d5 q
 ·rintro d ds env st' ih ⟨rfl,f,x,rfl,e⟩;refine⟨trivial,?_⟩;walk_at "ek";walk_at "es";refine⟨V1 ⟨by omega,by omega⟩,ih _ _ ⟨rfl,_,_,rfl,?_⟩⟩;rw[←e,List.length_cons,Int.pow_succ,Int.mul_assoc,Int.mul_comm b]
theorem z8:∀(k:Kd){m n:Nat}{Q:DK},k.nest+2≤n→(∀a b,k=.eith a b∨k=.both a b∨k=.way a b→a.bd m∧b.bd m)→m<2^62→Q (.int k.cnt) st→sem P G n "_law_count" [k.d] st Q:=by
 have leaf:∀(w:String)(n:Nat)(Q:DK),Q (.int (if w="one" then 1 else 0)) st→sem P G (n+1) "_law_count" [.tup [.str w]] st Q:=fun w n Q q=>by
  refine i5 B.count rfl [some (.tup [.str w]),none,none] rfl ?_;unfold J0;dsimp only;walk_at "es";rw[if_pos (by decide)];walk_at "es";exact d5 q
 have node:∀(w:String)(a b:Kd)(n m:Nat)(Q:DK)(v:Nat),(∀Q:DK,Q (.int a.cnt) st→sem P G n "_law_count" [a.d] st Q)→(∀Q:DK,Q (.int b.cnt) st→sem P G n "_law_count" [b.d] st Q)→a.bd m→b.bd m→m<2^62→0<n →
   (j3 [("either",.int (a.cnt+b.cnt)),("both",.int (a.cnt*b.cnt)),("way",.int ((b.cnt:Int)^a.cnt))] w=some (.int v))→Q (.int v) st→sem P G (n+1) "_law_count" [.tup [.str w,a.d,b.d]] st Q:=fun w a b n m Q v ha hb ba bb hm hn hl q=>by
  obtain⟨n,rfl⟩:∃k,n=k+1:=⟨n-1,by omega⟩;have la:=Kd.bd_le ba;have lb:=Kd.bd_le bb;refine i5 B.count rfl [some (.tup [.str w,a.d,b.d]),none,none] rfl ?_;unfold J0;dsimp only;walk_at "es";rw[if_neg (by decide)];walk_at "es";refine⟨by rw[B.count];rfl,ha _ ?_⟩;walk_at "es";refine⟨by rw[B.count];rfl,hb _ ?_⟩;walk_at "es";refine⟨V1 ⟨by omega,by omega⟩,by rw[B.power];rfl,bh8 B ⟨by omega,by omega⟩ (by omega) ?_⟩;walk_at "ek";exact⟨_,hl,d5 q⟩
 intro k
 induction k with
 |non=>intro m n Q hn _ _ q;obtain⟨n,rfl⟩:∃k,n=k+1:=⟨n-1,by omega⟩;exact leaf "none" n Q q
 |one=>intro m n Q hn _ _ q;obtain⟨n,rfl⟩:∃k,n=k+1:=⟨n-1,by omega⟩;exact leaf "one" n Q q
 |eith a b iha ihb=>
  intro m n Q hn hs hm q;obtain⟨n,rfl⟩:∃k,n=k+1:=⟨n-1,by omega⟩;have⟨ba,bb⟩:=hs a b (.inl rfl);simp only[Kd.nest]at hn;exact node "either" a b n m Q _ (fun Q q=>iha (by omega) (fun c d e=>by rcases e with e|e|e<;>(subst e;exact⟨ba.1,ba.2.1⟩)) hm q) (fun Q q=>ihb (by omega) (fun c d e=>by rcases e with e|e|e<;>(subst e;exact⟨bb.1,bb.2.1⟩)) hm q) ba bb hm (by omega) rfl q
 |both a b iha ihb=>
  intro m n Q hn hs hm q;obtain⟨n,rfl⟩:∃k,n=k+1:=⟨n-1,by omega⟩;have⟨ba,bb⟩:=hs a b (.inr (.inl rfl));simp only[Kd.nest]at hn;exact node "both" a b n m Q _ (fun Q q=>iha (by omega) (fun c d e=>by rcases e with e|e|e<;>(subst e;exact⟨ba.1,ba.2.1⟩)) hm q) (fun Q q=>ihb (by omega) (fun c d e=>by rcases e with e|e|e<;>(subst e;exact⟨bb.1,bb.2.1⟩)) hm q) ba bb hm (by omega) rfl q
 |way a b iha ihb=>
  intro m n Q hn hs hm q;obtain⟨n,rfl⟩:∃k,n=k+1:=⟨n-1,by omega⟩;have⟨ba,bb⟩:=hs a b (.inr (.inr rfl));simp only[Kd.nest]at hn;exact node "way" a b n m Q _ (fun Q q=>iha (by omega) (fun c d e=>by rcases e with e|e|e<;>(subst e;exact⟨ba.1,ba.2.1⟩)) hm q) (fun Q q=>ihb (by omega) (fun c d e=>by rcases e with e|e|e<;>(subst e;exact⟨bb.1,bb.2.1⟩)) hm q) ba bb hm (by omega) rfl q
end
section
variable {P:g9} {G:Gs} (B:PB P) {n:Nat} {st:Sto} {Q:DK}
include B
theorem bj3:∀(k:Kd){n:Nat}{Q:DK},k.nest+1≤n→Q (.int k.nest) st→sem P G n "_law_nest" [k.d] st Q:=by
 have leaf:∀(w:String)(n:Nat)(Q:DK),Q (.int 0) st→sem P G (n+1) "_law_nest" [.tup [.str w]] st Q:=fun w n Q q=>by
  refine i5 B.nest rfl [some (.tup [.str w])] rfl ?_;unfold J3;dsimp only;walk_at "es";rw[if_pos (by decide)];walk_at "es";exact d5 q
 have node:∀(w:String)(a b:Kd)(n:Nat)(Q:DK),(∀Q:DK,Q (.int a.nest) st→sem P G n "_law_nest" [a.d] st Q)→(∀Q:DK,Q (.int b.nest) st→sem P G n "_law_nest" [b.d] st Q) →
   Q (.int (1+max a.nest b.nest:Nat)) st→sem P G (n+1) "_law_nest" [.tup [.str w,a.d,b.d]] st Q:=fun w a b n Q ha hb q=>by
  refine i5 B.nest rfl [some (.tup [.str w,a.d,b.d])] rfl ?_;unfold J3;dsimp only;walk_at "es";rw[if_neg (by decide)];walk_at "es";refine⟨by rw[B.nest];rfl,ha _ ⟨by rw[B.nest];rfl,hb _ ?_⟩⟩;walk_at "ek";refine d5 ?_;have e:(1+if(b.nest:Int)>a.nest then(b.nest:Int)else a.nest)=((1+max a.nest b.nest:Nat):Int):=by split<;>omega
  rw[e];exact q
 intro k
 induction k with
 |non=>intro n Q hn q;obtain⟨n,rfl⟩:∃k,n=k+1:=⟨n-1,by omega⟩;exact leaf "none" n Q q
 |one=>intro n Q hn q;obtain⟨n,rfl⟩:∃k,n=k+1:=⟨n-1,by omega⟩;exact leaf "one" n Q q
 |eith a b iha ihb|both a b iha ihb|way a b iha ihb=>
  intro n Q hn q;obtain⟨n,rfl⟩:∃k,n=k+1:=⟨n-1,by omega⟩;simp only[Kd.nest]at hn;exact node _ a b n Q (fun Q q=>iha (by omega) q) (fun Q q=>ihb (by omega) q) q
end
section
variable {P:g9} {G:Gs} (B:PB0 P) {n:Nat} {st:Sto} {Q:DK}
include B
theorem E9{a:Addr}{most:Nat}(h1:1≤most)(h2:most≤100):∀(deep:Nat){n:Nat}{st:Sto}{Q:DK},deep+4≤n→n8 st a→(∀(k:Kd)st',k.good→k.bd most→k.nest≤deep→n8 st' a→Kp [a] st st'→Q k.d st')→sem P G n "_law_kind" [.ref a,.int deep,.int most] st Q:=by
 intro deep
 induction deep with
 |zero=>
  intro n st Q hn I q;obtain⟨n,rfl⟩:∃k,n=k+2:=⟨n-2,by omega⟩;refine i5 B.kind rfl [some (.ref a),some (.int (0:Nat)),some (.int most),none,none,none,none] rfl ?_;unfold x0;dsimp only;walk_at "es";refine⟨by rw[B.next];rfl,fun p hp=>⟨.int 1,rfl,t4 B (by decide) (I.new hp) fun r st1 r0 r1 I1 K1=>?_⟩⟩;have e:r=0:=by omega
  subst e;walk_at "es";walk_at "es";intro p1 hp1;walk_at "ek";exact d5 (q .one _ trivial h1 (Nat.zero_le _) (I1.new hp1) (((Kp.refl.new hp).trans K1).new hp1))
 |succ deep ih=>
  intro n st Q hn I q;obtain⟨n,rfl⟩:∃k,n=k+2:=⟨n-2,by omega⟩;refine i5 B.kind rfl [some (.ref a),some (.int (deep+1:Nat)),some (.int most),none,none,none,none] rfl ?_;unfold x0;dsimp only;walk_at "es";have hd:(0:Int)<((deep+1:Nat):Int):=by omega
  simp only[hd,if_true];refine⟨by rw[B.next];rfl,fun p hp=>⟨.int 6,rfl,t4 B (by decide) (I.new hp) fun r st1 r0 r1 I1 K1=>?_⟩⟩;have K1:=(Kp.refl.new hp).trans K1;clear hp;walk_at "es"
  by_cases e0:r=0
  ·subst e0;simp only[if_true];walk_at "es";intro p1 hp1;walk_at "ek";exact d5 (q .one _ trivial h1 (Nat.zero_le _) (I1.new hp1) (K1.new hp1))
  simp only[e0,if_false]
  by_cases e5:r=5
  ·subst e5;simp only[if_true];walk_at "es";intro p1 hp1
   by_cases hm:(1:Int)<most
   ·walk_at "ek";simp only[hm,if_true];walk_at "ek";exact d5 (q (.eith .one .one) _ (.inl ⟨trivial,trivial⟩) ⟨h1,h1,by show 1+1≤most;omega⟩ (by show 1+max 0 0≤_;omega) (I1.new hp1) (K1.new hp1))
   ·walk_at "ek";simp only[hm,if_false];walk_at "ek";exact d5 (q .one _ trivial h1 (Nat.zero_le _) (I1.new hp1) (K1.new hp1))
  simp only[e5,if_false];walk_at "ek";walk_at "es";intro p1 hp1;have I2:=I1.new (u:=.lst [.str "either",.str "both",.str "way",.str "either"]) hp1;have K2:=K1.new (o:=.lst [.str "either",.str "both",.str "way",.str "either"]) hp1;revert I2 K2;generalize d3 st1 p1 (.lst [.str "either",.str "both",.str "way",.str "either"])=st2;intro I2 K2;obtain⟨w,hw,hws⟩:∃w:String,atI [D.str "either",.str "both",.str "way",.str "either"] (r-1)=some (.str w)∧(w="either"∨w="both"∨w="way"):=by
   obtain rfl|rfl|rfl|rfl:r=1∨r=2∨r=3∨r=4:=by omega
   ·exact⟨"either",rfl,by simp⟩
   ·exact⟨"both",rfl,by simp⟩
   ·exact⟨"way",rfl,by simp⟩
   ·exact⟨"either",rfl,by simp⟩
  rw[hw];walk_at "ek";walk_at "es";have ed:((deep+1:Nat):Int)-1=(deep:Nat):=by omega
  rw[ed];refine⟨by rw[B.kind];rfl,ih (by omega) I2 fun ka st3 ga ba na I3 K3=>?_⟩;have K3:=K2.trans K3;walk_at "es";rw[ed];refine⟨by rw[B.kind];rfl,ih (by omega) I3 fun kb st4 gb bb nb I4 K4=>?_⟩;have K4:=K3.trans K4;walk_at "es";have fin:∀(w:String)(ka kb k:Kd)(st5:Sto)(x:Option D),k.d=.tup [.str w,ka.d,kb.d]→(w≠"way"→k.good)→(w="way"→k=.way ka kb∧(ka.good∨ka=.non)∧kb.good)→(∀c d,k=.eith c d∨k=.both c d∨k=.way c d→c=ka∧d=kb)→k≠.non→k≠.one→ka.bd most→kb.bd most→ka.nest≤deep→kb.nest≤deep→n8 st5 a→Kp [a] st st5 →
    e9 (Zg P G (n+1)) (x0.body.drop 6) (g7 Q) [some (.ref a),some (.int (deep+1:Nat)),some (.int most),some (.int r),some (.str w),some ka.d,some kb.d] st5:=by
   intro w ka kb k st5 x hk hg hw hc hn0 hn1 ba bb na nb I5 K5;have nk:∀k:Kd,(∀c d,k=.eith c d∨k=.both c d∨k=.way c d→c.nest≤deep∧d.nest≤deep)→k.nest≤deep+1:=fun k h=>by
    cases k with
    |non=>exact Nat.zero_le _
    |one=>exact Nat.zero_le _
    |eith c d=>have:=h c d (.inl rfl);simp only[Kd.nest];omega
    |both c d=>have:=h c d (.inr (.inl rfl));simp only[Kd.nest];omega
    |way c d=>have:=h c d (.inr (.inr rfl));simp only[Kd.nest];omega
   have last:∀(ka kb k:Kd),k.d=.tup [.str w,ka.d,kb.d]→k.good→(∀c d,k=.eith c d∨k=.both c d∨k=.way c d→c=ka∧d=kb)→k≠.non→k≠.one→ka.bd most→kb.bd most→ka.nest≤deep→kb.nest≤deep →
     e9 (Zg P G (n+1)) (x0.body.drop 7) (g7 Q) [some (.ref a),some (.int (deep+1:Nat)),some (.int most),some (.int r),some (.str w),some ka.d,some kb.d] st5:=by
    intro ka kb k hk hg hc hn0 hn1 ba bb na nb;have nk':=nk k fun c d e=>by obtain⟨e1,e2⟩:=hc c d e;subst e1 e2;exact⟨na,nb⟩
    simp only[x0,Ss.drop];walk_at "es";rw[←hk];refine⟨by rw[B.count];rfl,z8 B k (m:=most) (by omega) (fun c d e=>by obtain⟨e1,e2⟩:=hc c d e;subst e1 e2;exact⟨ba,bb⟩) (by omega) ?_⟩;walk_at "ek"
    by_cases hgt:(most:Int)<k.cnt
    ·simp only[hgt,if_true];walk_at "es";exact d5 (q .one _ trivial h1 (Nat.zero_le _) I5 K5)
    ·simp only[hgt,if_false];walk_at "es";rw[←hk];refine d5 (q k _ hg ?_ nk' I5 K5);cases k with
     |non=>exact absurd rfl hn0
     |one=>exact absurd rfl hn1
     |eith c d=>obtain⟨e1,e2⟩:=hc c d (.inl rfl);subst e1 e2;exact⟨ba,bb,by have:=hgt;simp only[Kd.cnt]at this;omega⟩
     |both c d=>obtain⟨e1,e2⟩:=hc c d (.inr (.inl rfl));subst e1 e2;exact⟨ba,bb,by have:=hgt;simp only[Kd.cnt]at this;omega⟩
     |way c d=>obtain⟨e1,e2⟩:=hc c d (.inr (.inr rfl));subst e1 e2;exact⟨ba,bb,by have:=hgt;simp only[Kd.cnt]at this;omega⟩
   by_cases ew:w="way"
   ·obtain⟨rfl,gka,gkb⟩:=hw ew;subst ew;simp only[x0,Ss.drop];walk_at "es";refine⟨by rw[B.count];rfl,z8 B ka (m:=most) (by omega) (fun c d e=>by rcases e with e|e|e<;>(subst e;exact⟨ba.1,ba.2.1⟩)) (by omega) ?_⟩;walk_at "ek"
    by_cases h6:(6:Int)<ka.cnt
    ·simp only[h6,if_true];walk_at "es";exact last .one kb (.way .one kb) rfl ⟨.inl trivial,gkb,by decide⟩ (fun c d e=>by rcases e with e|e|e<;>cases e;exact⟨rfl,rfl⟩) (by simp) (by simp) h1 bb (Nat.zero_le _) nb
    ·simp only[h6,if_false];exact last ka kb (.way ka kb) rfl ⟨gka,gkb,by omega⟩ hc hn0 hn1 ba bb na nb
   ·simp only[x0,Ss.drop];walk_at "es";simp only[ew,if_false];exact last ka kb k hk (hg ew) hc hn0 hn1 ba bb na nb
  rcases hws with rfl|rfl|rfl
  ·walk_at "ek";refine⟨by rw[B.next];rfl,t4 B (by decide) I4 fun r5 st5 _ _ I5 K5=>?_⟩;have K5:=K4.trans K5;walk_at "ek"
   by_cases h1:r5=1
   ·simp only[h1,if_true];walk_at "es";exact fin "either" .non kb (.eith .non kb) st5 none rfl (fun _=>.inr (.inl ⟨rfl,gb⟩)) (fun h=>absurd h (by decide)) (fun c d e=>by rcases e with e|e|e<;>cases e;exact⟨rfl,rfl⟩) (by simp) (by simp) trivial bb (Nat.zero_le _) nb I5 K5
   ·simp only[h1,if_false];walk_at "es";refine⟨by rw[B.next];rfl,t4 B (by decide) I5 fun r6 st6 _ _ I6 K6=>?_⟩;have K6:=K5.trans K6;walk_at "ek"
    by_cases h1:r6=1
    ·simp only[h1,if_true];walk_at "es";exact fin "either" ka .non (.eith ka .non) st6 none rfl (fun _=>.inr (.inr ⟨ga,rfl⟩)) (fun h=>absurd h (by decide)) (fun c d e=>by rcases e with e|e|e<;>cases e;exact⟨rfl,rfl⟩) (by simp) (by simp) ba trivial na (Nat.zero_le _) I6 K6
    ·simp only[h1,if_false];walk_at "ek";exact fin "either" ka kb (.eith ka kb) st6 none rfl (fun _=>.inl ⟨ga,gb⟩) (fun h=>absurd h (by decide)) (fun c d e=>by rcases e with e|e|e<;>cases e;exact⟨rfl,rfl⟩) (by simp) (by simp) ba bb na nb I6 K6
  ·walk_at "ek";walk_at "es";exact fin "both" ka kb (.both ka kb) st4 none rfl (fun _=>⟨ga,gb⟩) (fun h=>absurd h (by decide)) (fun c d e=>by rcases e with e|e|e<;>cases e;exact⟨rfl,rfl⟩) (by simp) (by simp) ba bb na nb I4 K4
  ·walk_at "ek";refine⟨by rw[B.next];rfl,t4 B (by decide) I4 fun r5 st5 _ _ I5 K5=>?_⟩;have K5:=K4.trans K5;walk_at "ek"
   by_cases h1:r5=1
   ·simp only[h1,if_true];walk_at "es";exact fin "way" .non kb (.way .non kb) st5 none rfl (fun h=>absurd rfl h) (fun _=>⟨rfl,.inr rfl,gb⟩) (fun c d e=>by rcases e with e|e|e<;>cases e;exact⟨rfl,rfl⟩) (by simp) (by simp) trivial bb (Nat.zero_le _) nb I5 K5
   ·simp only[h1,if_false];walk_at "es";exact fin "way" ka kb (.way ka kb) st5 none rfl (fun h=>absurd rfl h) (fun _=>⟨rfl,.inl ga,gb⟩) (fun c d e=>by rcases e with e|e|e<;>cases e;exact⟨rfl,rfl⟩) (by simp) (by simp) ba bb na nb I5 K5
end
noncomputable def Rm(r:Int)(st:Sto)(a:Addr):Prop:=st a=some (.lst [.int r])
theorem Rm.keep{r:Int}{L:List Addr}{st st':Sto}{b:Addr}(h:Rm r st b)(x:Kp L st st')(n:b∉L):Rm r st' b:=x.at' h n
theorem Rm.new{r:Int}{st:Sto}{b p:Addr}{u:Ob}(h:Rm r st b)(hp:st p=none):Rm r (d3 st p u) b:=j5 h hp
noncomputable def Pg.oc:Nat→Pg→Nat
 |i,.name n=>if n=i then 1 else 0
 |_,.star=>0
 |i,.pair t u=>t.oc i+u.oc i
 |i,.first t=>t.oc i
 |i,.second t=>t.oc i
 |i,.left _ t=>t.oc i
 |i,.right _ t=>t.oc i
 |i,.case t u v=>t.oc i+u.oc (i+1)+v.oc (i+1)
 |i,.way _ t=>t.oc (i+1)
 |i,.give t u=>t.oc i+u.oc i
 |i,.lets t u=>t.oc i+u.oc (i+1)
 |i,.never _ t=>t.oc i
noncomputable def Cn(e:Int)(deep:Nat)(Γ:List Kd)(p:Pg)(r r':Int):Prop:=
 ((1≤r→-(2*(deep:Int))≤r')∧(e=0→r≤0→r'=r-1)∧r'≤r-1+e)∧∀(i:Nat)(a:Kd),Γ[i]?=some a→a≠.non→3*(p.oc i:Int)≤2*(r-r'+e)+1∧(3*(p.oc i:Int)=2*(r-r'+e)+1→(p.parts:Int)=r-r'+e)
section
variable {d:Nat} {Γ:List Kd} {b:Kd} {p t u v:Pg} {r r1 r2 r3:Int}
theorem Cn.leaf(h:∀i,p.oc i=0):Cn 1 d Γ p r r:=⟨⟨fun _=>by omega,fun z=>by omega,by omega⟩,fun i a _ _=>by rw[h i];omega⟩
theorem Cn.k1(c1:Cn 0 d Γ t r r1)(ho:∀i,p.oc i=t.oc i):Cn 1 (d+1) Γ p r r1:=
 ⟨⟨fun z=>by have:=c1.1.1 z;omega,fun z=>by omega,by have:=c1.1.2.2;omega⟩,fun i a h1 h2=>by have:=c1.2 i a h1 h2;rw[ho i];omega⟩
theorem Cn.k1b(c1:Cn 0 d (b::Γ) t r r1)(ho:∀i,p.oc i=t.oc (i+1)):Cn 1 (d+1) Γ p r r1:=
 ⟨⟨fun z=>by have:=c1.1.1 z;omega,fun z=>by omega,by have:=c1.1.2.2;omega⟩,fun i a h1 h2=>by have:=c1.2 (i+1) a (by simpa using h1) h2;rw[ho i];omega⟩
theorem Cn.k2(c1:Cn 0 d Γ t r r1)(c2:Cn 0 d Γ u r1 r2)(ho:∀i,p.oc i=t.oc i+u.oc i):Cn 1 (d+1) Γ p r r2:=
 ⟨⟨fun z=>by have:=c1.1.1 z;have:=c2.1.1;have:=c2.1.2.1 rfl;omega,fun z=>by omega,by have:=c1.1.2.2;have:=c2.1.2.2;omega⟩,fun i a h1 h2=>by have:=c1.2 i a h1 h2;have:=c2.2 i a h1 h2;rw[ho i];omega⟩
theorem Cn.k2b(c1:Cn 0 d Γ t r r1)(c2:Cn 0 d (b::Γ) u r1 r2)(ho:∀i,p.oc i=t.oc i+u.oc (i+1)):Cn 1 (d+1) Γ p r r2:=
 ⟨⟨fun z=>by have:=c1.1.1 z;have:=c2.1.1;have:=c2.1.2.1 rfl;omega,fun z=>by omega,by have:=c1.1.2.2;have:=c2.1.2.2;omega⟩,fun i a h1 h2=>by have:=c1.2 i a h1 h2;have:=c2.2 (i+1) a (by simpa using h1) h2;rw[ho i];omega⟩
theorem Cn.k3{b':Kd}(c1:Cn 0 d Γ t r r1)(c2:Cn 0 d (b::Γ) u r1 r2)(c3:Cn 0 d (b'::Γ) v r2 r3):Cn 1 (d+1) Γ (.case t u v) r r3:=
 ⟨⟨fun z=>by have:=c1.1.1 z;have:=c2.1.1;have:=c2.1.2.1 rfl;have:=c3.1.1;have:=c3.1.2.1 rfl;omega,fun z=>by omega,by have:=c1.1.2.2;have:=c2.1.2.2;have:=c3.1.2.2;omega⟩,fun i a h1 h2=>by have:=c1.2 i a h1 h2;have:=c2.2 (i+1) a (by simpa using h1) h2;have:=c3.2 (i+1) a (by simpa using h1) h2;simp only[Pg.oc,Pg.parts];omega⟩
end
theorem E8{k:Kd}{Γ:List Kd}:[k.d]++Γ.map Kd.d=(k::Γ).map Kd.d:=rfl
theorem G0{a b:Nat}(h:a+b≤1000):a+b≤sizeLine:=F0 (by omega)
theorem Kp.w2{a:Addr}(b:Addr){st st':Sto}(h:Kp [a] st st'):Kp [a,b] st st':=h.more (by simp)
section
variable {P:g9} {G:Gs} (B:PB P) {n:Nat} {st:Sto} {Q:DK}
include B
theorem ai5:∀(k:Kd){Γ:List Kd}{n:Nat}{Q:DK},k.good→k.bd 100→k.nest≤6→k.nest+4≤n→Γ.length+k.nest≤999→(∀p:Pg,p.kind Γ=some k→p.hgt≤k.nest+1→p.parts+1≤2^(k.nest+1)→p.kn 6→(∀i,p.oc i=0)→Q p.d st)→sem P G n "_law_least" [k.d,.tup (Γ.map Kd.d)] st Q:=by
 intro k
 induction k with
 |non=>intro Γ n Q g;exact g.elim
 |one=>
  intro Γ n Q g bd n6 hn hΓ q;obtain⟨n,rfl⟩:∃k,n=k+1:=⟨n-1,by omega⟩;refine i5 B.least rfl [some Kd.one.d,some (.tup (Γ.map Kd.d)),none,none] rfl ?_;unfold D1;simp only[Kd.d];walk_at "es";walk_at "es";walk_at "es";walk_at "es";exact d5 (q .star rfl (by decide) (by decide) trivial fun _=>rfl)
 |both a b iha ihb=>
  intro Γ n Q g bd n6 hn hΓ q;obtain⟨n,rfl⟩:∃k,n=k+1:=⟨n-1,by omega⟩;simp only[Kd.nest]at hn hΓ n6;refine i5 B.least rfl [some (Kd.both a b).d,some (.tup (Γ.map Kd.d)),none,none] rfl ?_;unfold D1;simp only[Kd.d];walk_at "es";walk_at "es";walk_at "es";walk_at "es";walk_at "es";refine⟨by rw[B.least];rfl,iha g.1 bd.1 (by omega) (by omega) (by omega) fun p k1 h1 p1 m1 o1=>⟨by rw[B.least];rfl,ihb g.2 bd.2.1 (by omega) (by omega) (by omega) fun r k2 h2 p2 m2 o2=>?_⟩⟩;have e1:2^(a.nest+1)≤2^(max a.nest b.nest+1):=Nat.pow_le_pow_right (by decide) (by omega);have e2:2^(b.nest+1)≤2^(max a.nest b.nest+1):=Nat.pow_le_pow_right (by decide) (by omega);have e3:2^(1+max a.nest b.nest+1)=2*2^(max a.nest b.nest+1):=by rw[show 1+max a.nest b.nest+1=(max a.nest b.nest+1)+1 by omega,Nat.pow_succ,Nat.mul_comm]
  exact d5 (q (.pair p r) (by simp only[Pg.kind,k1,k2]) (by simp only[Pg.hgt,Kd.nest];omega) (by simp only[Pg.parts,Kd.nest];omega) ⟨m1,m2⟩ fun i=>by simp only[Pg.oc,o1,o2])
 |way a b iha ihb=>
  intro Γ n Q g bd n6 hn hΓ q;obtain⟨n,rfl⟩:∃k,n=k+1:=⟨n-1,by omega⟩;simp only[Kd.nest]at hn hΓ n6;refine i5 B.least rfl [some (Kd.way a b).d,some (.tup (Γ.map Kd.d)),none,none] rfl ?_;unfold D1;simp only[Kd.d];walk_at "es";walk_at "es";walk_at "es";walk_at "es";walk_at "es";walk_at "es";refine⟨G0 (by simp only[List.length_map];omega),?_⟩;rw[E8];walk_at "es";refine⟨by rw[B.least];rfl,ihb g.2.1 bd.2.1 (by omega) (by omega) (by simp only[List.length_cons];omega) fun r k2 h2 p2 m2 o2=>?_⟩;have e2:2^(b.nest+1)≤2^(max a.nest b.nest+1):=Nat.pow_le_pow_right (by decide) (by omega);have e3:2^(1+max a.nest b.nest+1)=2*2^(max a.nest b.nest+1):=by rw[show 1+max a.nest b.nest+1=(max a.nest b.nest+1)+1 by omega,Nat.pow_succ,Nat.mul_comm]
  have e4:0<2^(max a.nest b.nest+1):=Nat.pow_pos (by decide);exact d5 (q (.way a r) (by simp only[Pg.kind,k2]) (by simp only[Pg.hgt,Kd.nest];omega) (by simp only[Pg.parts,Kd.nest];omega) ⟨by omega,m2⟩ fun i=>by simp only[Pg.oc,o2])
 |eith a b iha ihb=>
  intro Γ n Q g bd n6 hn hΓ q;obtain⟨n,rfl⟩:∃k,n=k+1:=⟨n-1,by omega⟩;simp only[Kd.nest]at hn hΓ n6;refine i5 B.least rfl [some (Kd.eith a b).d,some (.tup (Γ.map Kd.d)),none,none] rfl ?_;unfold D1;simp only[Kd.d];walk_at "es";walk_at "es";walk_at "es";walk_at "es";walk_at "es";walk_at "es";have e1:2^(a.nest+1)≤2^(max a.nest b.nest+1):=Nat.pow_le_pow_right (by decide) (by omega);have e2:2^(b.nest+1)≤2^(max a.nest b.nest+1):=Nat.pow_le_pow_right (by decide) (by omega);have e3:2^(1+max a.nest b.nest+1)=2*2^(max a.nest b.nest+1):=by rw[show 1+max a.nest b.nest+1=(max a.nest b.nest+1)+1 by omega,Nat.pow_succ,Nat.mul_comm]
  have e4:0<2^(max a.nest b.nest+1):=Nat.pow_pos (by decide);refine⟨by rw[B.count];rfl,z8 B.toPB0 a (m:=100) (by omega) (M5 bd.1) (by decide) ?_⟩;walk_at "ek"
  by_cases ha:(0:Int)<a.cnt
  ·simp only[ha,if_true];have ga:a.good:=by
    rcases g with g|g|g
    ·exact g.1
    ·rw[g.1]at ha;simp[Kd.cnt]at ha
    ·exact g.1
   walk_at "es";refine⟨by rw[B.least];rfl,iha ga bd.1 (by omega) (by omega) (by omega) fun p k1 h1 p1 m1 o1=>?_⟩;exact d5 (q (.left b p) (by simp only[Pg.kind,k1]) (by simp only[Pg.hgt,Kd.nest];omega) (by simp only[Pg.parts,Kd.nest];omega) ⟨by omega,m1⟩ fun i=>by simp only[Pg.oc,o1])
  ·simp only[ha,if_false];have gb:b.good:=by
    rcases g with g|g|g
    ·exact g.2
    ·exact g.2
    ·exact absurd (Kd.good_pos g.1) (by omega)
   walk_at "es";refine⟨by rw[B.least];rfl,ihb gb bd.2.1 (by omega) (by omega) (by omega) fun p k1 h1 p1 m1 o1=>?_⟩;exact d5 (q (.right a p) (by simp only[Pg.kind,k1]) (by simp only[Pg.hgt,Kd.nest];omega) (by simp only[Pg.parts,Kd.nest];omega) ⟨by omega,m1⟩ fun i=>by simp only[Pg.oc,o1])
noncomputable def GSp(e:Int)(P:g9)(G:Gs)(f:Str)(n dp deep:Nat):Prop:=∀{da ra:Addr}{k:Kd}{Γ:List Kd}{st:Sto}{Q:DK}{r:Int},da≠ra→n8 st da→Rm r st ra→k.good→k.bd 100→k.nest≤dp→Γ.length+deep≤900 →
 (∀(p:Pg)st' r',p.kind Γ=some k→p.hgt≤deep+7→p.kn 6→Cn e deep Γ p r r'→n8 st' da→Rm r' st' ra→Kp [da,ra] st st'→Q p.d st')→sem P G n f [.ref da,k.d,.tup (Γ.map Kd.d),.ref ra,.int deep] st Q
theorem bk7{n deep:Nat}(hn:12≤n)(ih:GSp 0 P G "_law_grown" n 5 deep):GSp 1 P G "_law_made" (n+1) 5 (deep+1):=by
 intro da ra k Γ st Q r0 hne I R g bd n5 hΓ q;have ed:((deep+1:Nat):Int)-1=(deep:Nat):=by omega
 obtain⟨n,rfl⟩:∃m,n=m+1:=⟨n-1,by omega⟩;cases k with
 |non=>exact g.elim
 |one=>
  refine i5 B.made rfl [some (.ref da),some Kd.one.d,some (.tup (Γ.map Kd.d)),some (.ref ra),some (.int (deep+1:Nat)),none,none,none,none] rfl ?_;unfold z7;simp only[Kd.d];walk_at "es";walk_at "es";walk_at "es";exact⟨by rw[B.least];rfl,ai5 B .one g bd (by decide) (by simp only[Kd.nest];omega) (by simp only[Kd.nest];omega) fun p k1 h1 _ m1 o1=>d5 (q p _ _ k1 (by simp only[Kd.nest]at h1;omega) m1 (Cn.leaf o1) I R Kp.refl)⟩
 |both a b=>
  simp only[Kd.nest]at n5;refine i5 B.made rfl [some (.ref da),some (Kd.both a b).d,some (.tup (Γ.map Kd.d)),some (.ref ra),some (.int (deep+1:Nat)),none,none,none,none] rfl ?_;unfold z7;simp only[Kd.d];walk_at "es";walk_at "es";walk_at "es";walk_at "es";rw[ed];refine⟨by rw[B.grown];rfl,ih hne I R g.1 bd.1 (by omega) (by omega) fun p st1 r1 k1 h1 m1 c1 I1 R1 K1=>?_⟩;walk_at "es";rw[ed];refine⟨by rw[B.grown];rfl,ih hne I1 R1 g.2 bd.2.1 (by omega) (by omega) fun p2 st2 r2 k2 h2 m2 c2 I2 R2 K2=>?_⟩;exact d5 (q (.pair p p2) _ _ (by simp only[Pg.kind,k1,k2]) (by simp only[Pg.hgt];omega) ⟨m1,m2⟩ (c1.k2 c2 fun _=>rfl) I2 R2 (K1.trans K2))
 |way a b=>
  simp only[Kd.nest]at n5;refine i5 B.made rfl [some (.ref da),some (Kd.way a b).d,some (.tup (Γ.map Kd.d)),some (.ref ra),some (.int (deep+1:Nat)),none,none,none,none] rfl ?_;unfold z7;simp only[Kd.d];walk_at "es";walk_at "es";walk_at "es";walk_at "es";walk_at "es";rw[E8,ed];refine⟨by rw[B.grown];rfl,G0 (by simp only[List.length_map];omega),ih hne I R g.2.1 bd.2.1 (by omega) (by simp only[List.length_cons];omega) fun p st1 r1 k1 h1 m1 c1 I1 R1 K1=>?_⟩;exact d5 (q (.way a p) _ _ (by simp only[Pg.kind,k1]) (by simp only[Pg.hgt];omega) ⟨by omega,m1⟩ (c1.k1b fun _=>rfl) I1 R1 K1)
 |eith a b=>
  simp only[Kd.nest]at n5;refine i5 B.made rfl [some (.ref da),some (Kd.eith a b).d,some (.tup (Γ.map Kd.d)),some (.ref ra),some (.int (deep+1:Nat)),none,none,none,none] rfl ?_;unfold z7;simp only[Kd.d];walk_at "es";walk_at "es";walk_at "es";walk_at "es";walk_at "es";refine⟨by rw[B.next];rfl,t4 B.toPB0 (by decide) I fun r st1 r0 r1 I1 K1=>?_⟩;have R1:=R.keep K1 (by simp;exact fun z=>hne z.symm);have K1:=K1.w2 ra;have fin:∀(s:Int),(s=0∧a.good)∨(s=1∧b.good)→e9 (Zg P G (n+1)) (z7.body.drop 6) (g7 Q) [some (.ref da),some (Kd.eith a b).d,some (.tup (Γ.map Kd.d)),some (.ref ra),some (.int (deep+1:Nat)),some (.str "either"),none,some (.int s),none] st1:=by
   intro s hs;simp only[z7,Ss.drop,Kd.d]
   rcases hs with⟨rfl,ga⟩|⟨rfl,gb⟩
   ·walk_at "es";rw[ed];refine⟨by rw[B.grown];rfl,a.d,rfl,ih hne I1 R1 ga bd.1 (by omega) (by omega) fun p st2 r2 k2 h2 m2 c2 I2 R2 K2=>?_⟩;walk_at "es";intro x hx;walk_at "ek";exact⟨b.d,rfl,d5 (q (.left b p) _ _ (by simp only[Pg.kind,k2]) (by simp only[Pg.hgt];omega) ⟨by omega,m2⟩ (c2.k1 fun _=>rfl) (I2.new hx) (R2.new hx) ((K1.trans K2).new hx))⟩
   ·walk_at "es";rw[ed];refine⟨by rw[B.grown];rfl,b.d,rfl,ih hne I1 R1 gb bd.2.1 (by omega) (by omega) fun p st2 r2 k2 h2 m2 c2 I2 R2 K2=>?_⟩;walk_at "es";intro x hx;walk_at "ek";exact⟨a.d,rfl,d5 (q (.right a p) _ _ (by simp only[Pg.kind,k2]) (by simp only[Pg.hgt];omega) ⟨by omega,m2⟩ (c2.k1 fun _=>rfl) (I2.new hx) (R2.new hx) ((K1.trans K2).new hx))⟩
  have go:∀c:Kd,c.good∨c=.non→(c.cnt:Int)≠0→c.good:=fun c h hz=>h.elim id fun e=>by subst e;simp[Kd.cnt]at hz
  have ga:a.good∨a=.non:=by rcases g with g|g|g<;>simp[g]
  have gb:b.good∨b=.non:=by rcases g with g|g|g<;>simp[g]
  walk_at "es";obtain rfl|rfl:r=0∨r=1:=by omega
  ·refine⟨by rw[B.count];rfl,a.d,rfl,z8 B.toPB0 a (m:=100) (by omega) (M5 bd.1) (by decide) ?_⟩;walk_at "ek"
   by_cases hz:(a.cnt:Int)=0
   ·simp only[hz,if_true];walk_at "es";exact fin 1 (.inr ⟨rfl,g.elim (fun g=>g.2) fun g=>g.elim (fun g=>g.2) fun g=>absurd (Kd.good_pos g.1) (by omega)⟩)
   ·simp only[hz,if_false];exact fin 0 (.inl ⟨rfl,go a ga hz⟩)
  ·refine⟨by rw[B.count];rfl,b.d,rfl,z8 B.toPB0 b (m:=100) (by omega) (M5 bd.2.1) (by decide) ?_⟩;walk_at "ek"
   by_cases hz:(b.cnt:Int)=0
   ·simp only[hz,if_true];walk_at "es";exact fin 0 (.inl ⟨rfl,g.elim (fun g=>g.1) fun g=>g.elim (fun g=>absurd (Kd.good_pos g.2) (by omega)) fun g=>g.1⟩)
   ·simp only[hz,if_false];exact fin 1 (.inr ⟨rfl,go b gb hz⟩)
omit B in
theorem bs0{Γ:List Kd}{k:Kd}(h:k∈Γ):∃j:Nat,Γ[j]?=some k∧∀(i:Nat)c,i<j→Γ[i]?=some c→c≠k:=by
 induction Γ with
 |nil=>cases h
 |cons c Γ ih=>
  by_cases e:c=k
  ·exact⟨0,by rw[e];rfl,fun i c hi=>by omega⟩
  ·obtain⟨j,hj,hb⟩:=ih (by rcases List.mem_cons.mp h with z|z;exact absurd z.symm e;exact z);refine⟨j+1,hj,fun i d hi hd=>?_⟩;cases i with
   |zero=>cases hd;exact e
   |succ i=>exact hb i d (by omega) hd
omit B in
theorem b21{Γ:List Kd}{k:Kd}{st:Sto}{Q:DK}(h:k∈Γ)(hn:k.nest≤100)(q:∀j:Nat,Γ[j]?=some k→Q (.int j) st):D7 (.tup (Γ.map Kd.d)) k.d st Q:=by
 obtain⟨j,hj,hb⟩:=bs0 h;refine⟨u4 k,ai0 Γ,by rw[t8];omega,j,k.d,by rw[List.getElem?_map,hj];rfl,by rw[A1];simp,fun i e hi he=>?_,q j hj⟩;rw[List.getElem?_map]at he;cases hc:Γ[i]? with
 |none=>rw[hc]at he;cases he
 |some c=>rw[hc]at he;cases he;rw[A1];simp[hb i c hi hc]
omit B in
theorem by3{Γ:List Kd}{k:Kd}:((Γ.map Kd.d).any fun y=>deq y k.d)=decide (k∈Γ):=by
 induction Γ with
 |nil=>rfl
 |cons c Γ ih=>rw[List.map_cons,List.any_cons,ih,A1];simp only[List.mem_cons,Bool.decide_or];congr 1;exact decide_eq_decide.mpr ⟨Eq.symm,Eq.symm⟩
omit B in
theorem bg4{d:Nat}{Γ:List Kd}{k:Kd}{j:Nat}{r:Int}(h:Γ[j]?=some .non):Cn 1 d Γ (.never k (.name j)) r r:=
 ⟨⟨fun _=>by omega,fun z=>by omega,by omega⟩,fun i a h1 h2=>by
  have:j≠i:=fun z=>by subst z;rw[h]at h1;cases h1;exact h2 rfl
  simp only[Pg.oc,this,if_false];omega⟩
theorem bh0{n deep:Nat}(hn:12≤n)(ih:GSp 0 P G "_law_grown" n 5 deep):GSp 1 P G "_law_asked" (n+1) 4 (deep+1):=by
 intro da ra k Γ st Q r0 hne I R g bd n5 hΓ q;have ed:((deep+1:Nat):Int)-1=(deep:Nat):=by omega
 obtain⟨n,rfl⟩:∃m,n=m+1:=⟨n-1,by omega⟩;have hra:ra∉[da]:=by simp;exact fun z=>hne z.symm
 refine i5 B.asked rfl [some (.ref da),some k.d,some (.tup (Γ.map Kd.d)),some (.ref ra),some (.int (deep+1:Nat)),none,none,none,none,none] rfl ?_;unfold B3;walk_at "es";refine⟨by rw[B.kind];rfl,E9 B.toPB0 (most:=4) (by decide) (by decide) 1 (by omega) I fun ko st1 go bo no I1 K1=>?_⟩;have R1:=R.keep K1 hra;have K1:=K1.w2 ra;have fin:∀ko:Kd,ko.good→ko.bd 4→ko.nest≤1→(Kd.both k ko).bd 100→(Kd.both ko k).bd 100→(Kd.way ko k).bd 100→e9 (Zg P G (n+1)) (B3.body.drop 2) (g7 Q) [some (.ref da),some k.d,some (.tup (Γ.map Kd.d)),some (.ref ra),some (.int (deep+1:Nat)),some ko.d,none,none,none,none] st1:=by
  intro ko go bo no b1 b2 b3;simp only[B3,Ss.drop];walk_at "es";refine⟨by rw[B.next];rfl,t4 B.toPB0 (by decide) I1 fun r st2 r0 r1 I2 K2=>?_⟩;have R2:=R1.keep K2 hra;have K2:=K1.trans (K2.w2 ra);have bo':=Kd.bd_mono (show 4≤100 by decide) bo;walk_at "es"
  by_cases h0:r=0
  ·simp only[h0,if_true];walk_at "es";rw[ed];refine⟨by rw[B.grown];rfl,ih (k:=.both k ko) hne I2 R2 ⟨g,go⟩ b1 (by simp only[Kd.nest];omega) (by omega) fun p st3 r3 k3 h3 m3 c3 I3 R3 K3=>?_⟩;exact d5 (q (.first p) _ _ (by simp only[Pg.kind,k3]) (by simp only[Pg.hgt];omega) m3 (c3.k1 fun _=>rfl) I3 R3 (K2.trans K3))
  simp only[h0,if_false];walk_at "es"
  by_cases h1:r=1
  ·simp only[h1,if_true];walk_at "es";rw[ed];refine⟨by rw[B.grown];rfl,ih (k:=.both ko k) hne I2 R2 ⟨go,g⟩ b2 (by simp only[Kd.nest];omega) (by omega) fun p st3 r3 k3 h3 m3 c3 I3 R3 K3=>?_⟩;exact d5 (q (.second p) _ _ (by simp only[Pg.kind,k3]) (by simp only[Pg.hgt];omega) m3 (c3.k1 fun _=>rfl) I3 R3 (K2.trans K3))
  simp only[h1,if_false];walk_at "es"
  by_cases h2:r=2
  ·simp only[h2,if_true];walk_at "es";rw[ed];refine⟨by rw[B.grown];rfl,ih (k:=.way ko k) hne I2 R2 ⟨.inl go,g,Nat.le_trans (Kd.bd_le bo) (by decide)⟩ b3 (by simp only[Kd.nest];omega) (by omega) fun p st3 r3 k3 h3 m3 c3 I3 R3 K3=>?_⟩;walk_at "es";rw[ed];refine⟨by rw[B.grown];rfl,ih (k:=ko) hne I3 R3 go bo' (by omega) (by omega) fun p4 st4 r4 k4 h4 m4 c4 I4 R4 K4=>?_⟩;exact d5 (q (.give p p4) _ _ (by simp only[Pg.kind,k3,k4,if_true]) (by simp only[Pg.hgt];omega) ⟨m3,m4⟩ (c3.k2 c4 fun _=>rfl) I4 R4 ((K2.trans K3).trans K4))
  simp only[h2,if_false];walk_at "es"
  by_cases h3:r=3
  ·simp only[h3,if_true];walk_at "es";rw[ed];refine⟨by rw[B.grown];rfl,ih (k:=ko) hne I2 R2 go bo' (by omega) (by omega) fun p st3 r3 k3 h3 m3 c3 I3 R3 K3=>?_⟩;walk_at "es";rw[ed,E8];refine⟨by rw[B.grown];rfl,G0 (by simp only[List.length_map];omega),ih (k:=k) hne I3 R3 g bd (by omega) (by simp only[List.length_cons];omega) fun p4 st4 r4 k4 h4 m4 c4 I4 R4 K4=>?_⟩;exact d5 (q (.lets p p4) _ _ (by simp only[Pg.kind,k3,k4]) (by simp only[Pg.hgt];omega) ⟨m3,m4⟩ (c3.k2b c4 fun _=>rfl) I4 R4 ((K2.trans K3).trans K4))
  simp only[h3,if_false];have fin2:e9 (Zg P G (n+1)) (B3.body.drop 8) (g7 Q) [some (.ref da),some k.d,some (.tup (Γ.map Kd.d)),some (.ref ra),some (.int (deep+1:Nat)),some ko.d,some (.int r),none,none,none] st2:=by
   simp only[B3,Ss.drop];walk_at "es";refine⟨by rw[B.kind];rfl,E9 B.toPB0 (most:=4) (by decide) (by decide) 1 (by omega) I2 fun km st3 gm bm nm I3 K3=>?_⟩;have R3:=R2.keep K3 hra;have K3:=K2.trans (K3.w2 ra);have bm':=Kd.bd_mono (show 4≤100 by decide) bm;have lo:=Kd.bd_le bo;have lm:=Kd.bd_le bm;walk_at "es";rw[ed];refine⟨by rw[B.grown];rfl,ih (k:=.eith ko km) hne I3 R3 (.inl ⟨go,gm⟩) ⟨bo',bm',by omega⟩ (by simp only[Kd.nest];omega) (by omega) fun p4 st4 r4 k4 h4 m4 c4 I4 R4 K4=>?_⟩;walk_at "es";rw[ed,E8];refine⟨by rw[B.grown];rfl,G0 (by simp only[List.length_map];omega),ih (k:=k) hne I4 R4 g bd (by omega) (by simp only[List.length_cons];omega) fun p5 st5 r5 k5 h5 m5 c5 I5 R5 K5=>?_⟩;walk_at "es";rw[ed,E8];refine⟨by rw[B.grown];rfl,G0 (by simp only[List.length_map];omega),ih (k:=k) hne I5 R5 g bd (by omega) (by simp only[List.length_cons];omega) fun p6 st6 r6 k6 h6 m6 c6 I6 R6 K6=>?_⟩;exact d5 (q (.case p4 p5 p6) _ _ (by simp only[Pg.kind,k4,k5,k6,if_true]) (by simp only[Pg.hgt];omega) ⟨m4,m5,m6⟩ (c4.k3 c5 c6) I6 R6 (((K3.trans K4).trans K5).trans K6))
  have hnone:(D.tup [.str "none"])=Kd.non.d:=rfl;walk_at "es"
  by_cases h4:r=4
  ·simp only[h4,if_true];rw[hnone,by3];refine⟨u4 _,ai0 _,by rw[t8];decide,?_⟩;walk_at "ek"
   by_cases hm:Kd.non∈Γ
   ·simp only[hm,if_true];walk_at "es";rw[hnone];refine b21 hm (by decide) fun j hj=>?_;exact d5 (q (.never k (.name j)) _ _ (by simp only[Pg.kind,hj]) (by simp only[Pg.hgt];omega) ⟨by omega,trivial⟩ (bg4 hj) I2 R2 K2)
   ·simp only[hm,if_false];subst h4;exact fin2
  ·simp only[h4,if_false];exact fin2
 have lk:=Kd.bd_le bd;have bo':=Kd.bd_mono (show 4≤100 by decide) bo;have one:∀k:Kd,k.bd 100→(Kd.both k .one).bd 100∧(Kd.both .one k).bd 100∧(Kd.way .one k).bd 100:=fun k h=>by
  have:=Kd.bd_le h;have o:Kd.one.bd 100:=(show 1≤100 by decide);exact⟨⟨h,o,by simpa[Kd.cnt]using this⟩,⟨o,h,by simpa[Kd.cnt]using this⟩,⟨o,h,by simpa[Kd.cnt]using this⟩⟩
 have⟨o1,o2,o3⟩:=one k bd;walk_at "es";refine⟨by rw[B.count];rfl,z8 B.toPB0 (.both k ko) (m:=100) (by simp only[Kd.nest];omega) (fun c d e=>by rcases e with e|e|e<;>cases e;exact⟨bd,bo'⟩) (by decide) ?_⟩;walk_at "ek"
 by_cases hb:(100:Int)<(Kd.both k ko).cnt
 ·simp only[hb,if_true];walk_at "es";exact fin .one trivial (show 1≤4 by decide) (by decide) o1 o2 o3
 ·simp only[hb,if_false];refine⟨by rw[B.count];rfl,z8 B.toPB0 (.way ko k) (m:=100) (by simp only[Kd.nest];omega) (fun c d e=>by rcases e with e|e|e<;>cases e;exact⟨bo',bd⟩) (by decide) ?_⟩;walk_at "ek"
  by_cases hw:(100:Int)<(Kd.way ko k).cnt
  ·simp only[hw,if_true];walk_at "es";exact fin .one trivial (show 1≤4 by decide) (by decide) o1 o2 o3
  ·simp only[hw,if_false];simp only[Kd.cnt]at hb hw;exact fin ko go bo no ⟨bd,bo',by omega⟩ ⟨bo',bd,by rw[Nat.mul_comm];omega⟩ ⟨bo',bd,by omega⟩
end
end Ek
namespace Ek
open PySem L2
noncomputable def Pg.withKids:Pg→List Pg→Pg
 |.pair a b,l=>match l with|[t,u]=>.pair t u|_=>.pair a b
 |.first a,l=>match l with|[t]=>.first t|_=>.first a
 |.second a,l=>match l with|[t]=>.second t|_=>.second a
 |.left b a,l=>match l with|[t]=>.left b t|_=>.left b a
 |.right b a,l=>match l with|[t]=>.right b t|_=>.right b a
 |.case a b c,l=>match l with|[t,u,v]=>.case t u v|_=>.case a b c
 |.way b a,l=>match l with|[t]=>.way b t|_=>.way b a
 |.give a b,l=>match l with|[t,u]=>.give t u|_=>.give a b
 |.lets a b,l=>match l with|[t,u]=>.lets t u|_=>.lets a b
 |.never b a,l=>match l with|[t]=>.never b t|_=>.never b a
 |.name n,_=>.name n
 |.star,_=>.star
theorem Pg.with_cases{motive:Pg→List Pg→Prop}(h0:∀n,motive (.name n) [])(h1:motive .star [])(h2:∀a b t u,motive (.pair a b) [t,u])(h3:∀a t,motive (.first a) [t])(h4:∀a t,motive (.second a) [t])
  (h5:∀k a t,motive (.left k a) [t]) (h6:∀k a t,motive (.right k a) [t]) (h7:∀a b c t u v,motive (.case a b c) [t,u,v]) (h8:∀k a t,motive (.way k a) [t]) (h9:∀a b t u,motive (.give a b) [t,u]) (h10:∀a b t u,motive (.lets a b) [t,u]) (h11:∀k a t,motive (.never k a) [t]) :
  ∀(p:Pg)(l:List Pg),l.length=p.kids.length→motive p l:=by
 intro p l h;cases p<;>simp only[Pg.kids,List.length_cons,List.length_nil]at h
 case name=>have:l=[]:=List.length_eq_zero_iff.mp h;subst this;exact h0 _
 case star=>have:l=[]:=List.length_eq_zero_iff.mp h;subst this;exact h1
 case pair=>
  obtain⟨a,b,rfl⟩:∃a b,l=[a,b]:=by match l,h with|[a,b],_=>exact⟨a,b,rfl⟩
  exact h2 _ _ _ _
 case give=>
  obtain⟨a,b,rfl⟩:∃a b,l=[a,b]:=by match l,h with|[a,b],_=>exact⟨a,b,rfl⟩
  exact h9 _ _ _ _
 case lets=>
  obtain⟨a,b,rfl⟩:∃a b,l=[a,b]:=by match l,h with|[a,b],_=>exact⟨a,b,rfl⟩
  exact h10 _ _ _ _
 case case=>
  obtain⟨a,b,c,rfl⟩:∃a b c,l=[a,b,c]:=by match l,h with|[a,b,c],_=>exact⟨a,b,c,rfl⟩
  exact h7 _ _ _ _ _ _
 case first=>
  obtain⟨a,rfl⟩:∃a,l=[a]:=by match l,h with|[a],_=>exact⟨a,rfl⟩
  exact h3 _ _
 case second=>
  obtain⟨a,rfl⟩:∃a,l=[a]:=by match l,h with|[a],_=>exact⟨a,rfl⟩
  exact h4 _ _
 case left=>
  obtain⟨a,rfl⟩:∃a,l=[a]:=by match l,h with|[a],_=>exact⟨a,rfl⟩
  exact h5 _ _ _
 case right=>
  obtain⟨a,rfl⟩:∃a,l=[a]:=by match l,h with|[a],_=>exact⟨a,rfl⟩
  exact h6 _ _ _
 case way=>
  obtain⟨a,rfl⟩:∃a,l=[a]:=by match l,h with|[a],_=>exact⟨a,rfl⟩
  exact h8 _ _ _
 case never=>
  obtain⟨a,rfl⟩:∃a,l=[a]:=by match l,h with|[a],_=>exact⟨a,rfl⟩
  exact h11 _ _ _
noncomputable def b41:List (Str×D):=[("name",.int 2),("star",.int 1),("pair",.int 1),("first",.int 1),("second",.int 1),("left",.int 2),("right",.int 2),("case",.int 1),("way",.int 2),("give",.int 1),("let",.int 1),("never",.int 2)]
theorem bo7{ds:List D}{lo hi:Option Int}:(v4 ds lo hi).length≤ds.length:=by
 unfold v4;rw[List.length_take,List.length_drop];omega
noncomputable def b31:List (Str×D):=[("case",.tup [.int 1,.int 2]),("way",.tup [.int 0]),("let",.tup [.int 1])]
end Ek
namespace Ek
open PySem L2
noncomputable def Pg.mp(f:Nat→Nat→Option Pg):Nat→Pg→Pg
 |u,.name n=>(f n u).getD (.name n)
 |_,.star=>.star
 |u,.pair t v=>.pair (t.mp f u) (v.mp f u)
 |u,.first t=>.first (t.mp f u)
 |u,.second t=>.second (t.mp f u)
 |u,.left b t=>.left b (t.mp f u)
 |u,.right b t=>.right b (t.mp f u)
 |u,.case t v w=>.case (t.mp f u) (v.mp f (u+1)) (w.mp f (u+1))
 |u,.way b t=>.way b (t.mp f (u+1))
 |u,.give t v=>.give (t.mp f u) (v.mp f u)
 |u,.lets t v=>.lets (t.mp f u) (v.mp f (u+1))
 |u,.never b t=>.never b (t.mp f u)
noncomputable def Pg.chd(f:Nat→Nat→Option Pg):Nat→Pg→Bool
 |u,.name n=>(f n u).isSome
 |_,.star=>false
 |u,.pair t v=>t.chd f u||v.chd f u
 |u,.first t=>t.chd f u
 |u,.second t=>t.chd f u
 |u,.left _ t=>t.chd f u
 |u,.right _ t=>t.chd f u
 |u,.case t v w=>t.chd f u||(v.chd f (u+1)||w.chd f (u+1))
 |u,.way _ t=>t.chd f (u+1)
 |u,.give t v=>t.chd f u||v.chd f u
 |u,.lets t v=>t.chd f u||v.chd f (u+1)
 |u,.never _ t=>t.chd f u
theorem Pg.mp_same{f:Nat→Nat→Option Pg}(p:Pg):∀{u:Nat},p.chd f u=false→p.mp f u=p:=by
 induction p with
 |name n=>intro u h;simp only[Pg.chd]at h;simp only[Pg.mp];cases e:f n u with|none=>rfl|some r=>rw[e]at h;cases h
 |star=>intro u _;rfl
 |pair t v iht ihv=>intro u h;simp only[Pg.chd,Bool.or_eq_false_iff]at h;simp only[Pg.mp,iht h.1,ihv h.2]
 |give t v iht ihv=>intro u h;simp only[Pg.chd,Bool.or_eq_false_iff]at h;simp only[Pg.mp,iht h.1,ihv h.2]
 |lets t v iht ihv=>intro u h;simp only[Pg.chd,Bool.or_eq_false_iff]at h;simp only[Pg.mp,iht h.1,ihv h.2]
 |case t v w iht ihv ihw=>intro u h;simp only[Pg.chd,Bool.or_eq_false_iff]at h;simp only[Pg.mp,iht h.1,ihv h.2.1,ihw h.2.2]
 |first t iht=>intro u h;simp only[Pg.mp,iht h]
 |second t iht=>intro u h;simp only[Pg.mp,iht h]
 |left b t iht=>intro u h;simp only[Pg.mp,iht h]
 |right b t iht=>intro u h;simp only[Pg.mp,iht h]
 |way b t iht=>intro u h;simp only[Pg.mp,iht h]
 |never b t iht=>intro u h;simp only[Pg.mp,iht h]
noncomputable def Pg.more:Pg→Nat→Nat
 |.case _ _ _,i=>if i=1∨i=2 then 1 else 0
 |.way _ _,i=>if i=0 then 1 else 0
 |.lets _ _,i=>if i=1 then 1 else 0
 |_,_=>0
noncomputable def Pg.kidsU(u:Nat)(p:Pg):List (Pg×Nat):=p.kids.mapIdx fun i c=>(c,u+p.more i)
theorem Pg.mp_kids{f:Nat→Nat→Option Pg}{p:Pg}{u:Nat}(h:p.kids≠[]):p.mp f u=p.withKids ((p.kidsU u).map fun c=>c.1.mp f c.2):=by
 cases p<;>first|rfl|exact absurd rfl h
theorem Pg.chd_kids{f:Nat→Nat→Option Pg}{p:Pg}{u:Nat}(h:p.kids≠[]):p.chd f u=((p.kidsU u).map fun c=>c.1.chd f c.2).any id:=by
 cases p<;>first|exact absurd rfl h|(simp[Pg.chd,Pg.kidsU,Pg.kids,Pg.more,List.mapIdx,List.mapIdx.go])
theorem Pg.parts_U(p:Pg)(u:Nat):p.parts=1+((p.kidsU u).map fun c=>c.1.parts).sum:=by
 cases p<;>simp[Pg.parts,Pg.kidsU,Pg.kids,Pg.more,List.mapIdx,List.mapIdx.go]<;>omega
theorem Pg.hgt_U(p:Pg)(u:Nat):∀c∈p.kidsU u,c.2+c.1.hgt≤u+p.hgt:=by
 cases p<;>simp[Pg.hgt,Pg.kidsU,Pg.kids,Pg.more,List.mapIdx,List.mapIdx.go]<;>omega
theorem Pg.mp_hgt{f:Nat→Nat→Option Pg}{m:Nat}(hf:∀n u r,f n u=some r→r.hgt≤m)(hm:1≤m)(p:Pg):∀{u:Nat},(p.mp f u).hgt+1≤p.hgt+m:=by
 induction p with
 |name n=>intro u;simp only[Pg.mp,Pg.hgt];cases e:f n u with|none=>simp only[Option.getD,Pg.hgt];omega|some r=>have:=hf n u r e;simp only[Option.getD];omega
 |star=>intro u;simp only[Pg.mp,Pg.hgt];omega
 |pair t v iht ihv=>intro u;have:=@iht u;have:=@ihv u;simp only[Pg.mp,Pg.hgt];omega
 |give t v iht ihv=>intro u;have:=@iht u;have:=@ihv u;simp only[Pg.mp,Pg.hgt];omega
 |lets t v iht ihv=>intro u;have:=@iht u;have:=@ihv (u+1);simp only[Pg.mp,Pg.hgt];omega
 |case t v w iht ihv ihw=>intro u;have:=@iht u;have:=@ihv (u+1);have:=@ihw (u+1);simp only[Pg.mp,Pg.hgt];omega
 |first t iht=>intro u;have:=@iht u;simp only[Pg.mp,Pg.hgt];omega
 |second t iht=>intro u;have:=@iht u;simp only[Pg.mp,Pg.hgt];omega
 |left b t iht=>intro u;have:=@iht u;simp only[Pg.mp,Pg.hgt];omega
 |right b t iht=>intro u;have:=@iht u;simp only[Pg.mp,Pg.hgt];omega
 |way b t iht=>intro u;have:=@iht (u+1);simp only[Pg.mp,Pg.hgt];omega
 |never b t iht=>intro u;have:=@iht u;simp only[Pg.mp,Pg.hgt];omega
theorem Pg.mp_kn{f:Nat→Nat→Option Pg}{m:Nat}(hf:∀n u r,f n u=some r→r.kn m)(p:Pg):∀{u:Nat},p.kn m→(p.mp f u).kn m:=by
 induction p with
 |name n=>intro u _;simp only[Pg.mp];cases e:f n u with|none=>trivial|some r=>exact hf n u r e
 |star=>intro u h;exact h
 |pair t v iht ihv=>exact fun h=>⟨iht h.1,ihv h.2⟩
 |give t v iht ihv=>exact fun h=>⟨iht h.1,ihv h.2⟩
 |lets t v iht ihv=>exact fun h=>⟨iht h.1,ihv h.2⟩
 |case t v w iht ihv ihw=>exact fun h=>⟨iht h.1,ihv h.2.1,ihw h.2.2⟩
 |first t iht=>exact fun h=>iht h
 |second t iht=>exact fun h=>iht h
 |left b t iht=>exact fun h=>⟨h.1,iht h.2⟩
 |right b t iht=>exact fun h=>⟨h.1,iht h.2⟩
 |way b t iht=>exact fun h=>⟨h.1,iht h.2⟩
 |never b t iht=>exact fun h=>⟨h.1,iht h.2⟩
noncomputable def lfF(m l n u:Nat):Option Pg:=if u+l≤n then some (.name (n+m))else none
noncomputable def Pg.lf(m l:Nat)(p:Pg):Pg:=p.mp (lfF m l) 0
noncomputable def sbF(o:Pg)(n u:Nat):Option Pg:=if n<u then none else if n=u then some (o.lf u 0)else some (.name (n-1))
noncomputable def Pg.sb(p o:Pg):Pg:=p.mp (sbF o) 0
theorem D6{m l:Nat}{p:Pg}:(p.lf m l).hgt≤p.hgt:=by
 have:=Pg.mp_hgt (f:=lfF m l) (m:=1) (fun n u r h=>by unfold lfF at h;split at h<;>cases h;exact Nat.le_refl _) (Nat.le_refl _) p (u:=0);unfold Pg.lf;omega
theorem ab9{m l k:Nat}{p:Pg}(h:p.kn k):(p.lf m l).kn k:=Pg.mp_kn (fun n u r h=>by unfold lfF at h;split at h<;>cases h;trivial) p h
theorem by2{o p:Pg}:(p.sb o).hgt≤p.hgt+o.hgt:=by
 have h1:∀q:Pg,1≤q.hgt:=fun q=>by cases q<;>simp only[Pg.hgt]<;>omega
 have:=Pg.mp_hgt (f:=sbF o) (m:=o.hgt) (fun n u r h=>by
  unfold sbF at h
  split at h
  ·cases h
  ·split at h<;>cases h
   ·exact D6
   ·exact h1 o) (h1 o) p (u:=0)
 unfold Pg.sb;omega
theorem b01{k:Nat}{o p:Pg}(ho:o.kn k)(h:p.kn k):(p.sb o).kn k:=Pg.mp_kn (fun n u r h=>by
 unfold sbF at h
 split at h
 ·cases h
 ·split at h<;>cases h
  ·exact ab9 ho
  ·trivial) p h
theorem E5{m l:Nat}(p:Pg):∀{u:Nat},(p.mp (lfF m l) u).parts=p.parts:=by
 induction p with
 |name n=>intro u;simp only[Pg.mp,lfF];split<;>rfl
 |star=>intro u;rfl
 |pair t v iht ihv=>intro u;simp only[Pg.mp,Pg.parts,@iht u,@ihv u]
 |give t v iht ihv=>intro u;simp only[Pg.mp,Pg.parts,@iht u,@ihv u]
 |lets t v iht ihv=>intro u;simp only[Pg.mp,Pg.parts,@iht u,@ihv (u+1)]
 |case t v w iht ihv ihw=>intro u;simp only[Pg.mp,Pg.parts,@iht u,@ihv (u+1),@ihw (u+1)]
 |first t iht=>intro u;simp only[Pg.mp,Pg.parts,@iht u]
 |second t iht=>intro u;simp only[Pg.mp,Pg.parts,@iht u]
 |left b t iht=>intro u;simp only[Pg.mp,Pg.parts,@iht u]
 |right b t iht=>intro u;simp only[Pg.mp,Pg.parts,@iht u]
 |way b t iht=>intro u;simp only[Pg.mp,Pg.parts,@iht (u+1)]
 |never b t iht=>intro u;simp only[Pg.mp,Pg.parts,@iht u]
theorem bf7{o:Pg}(p:Pg):∀{u:Nat},(p.mp (sbF o) u).parts+p.oc u=p.parts+p.oc u*o.parts:=by
 induction p with
 |name n=>
  intro u;simp only[Pg.mp,sbF,Pg.oc]
  by_cases h1:n<u
  ·rw[if_pos h1,if_neg (by omega)];simp[Pg.parts]
  ·rw[if_neg h1]
   by_cases h2:n=u
   ·rw[if_pos h2,if_pos h2];show(o.mp (lfF u 0) 0).parts+1=1+1*o.parts;rw[E5];omega
   ·rw[if_neg h2,if_neg h2];simp[Pg.parts]
 |star=>intro u;simp[Pg.mp,Pg.parts,Pg.oc]
 |pair t v iht ihv=>intro u;have:=@iht u;have:=@ihv u;simp only[Pg.mp,Pg.parts,Pg.oc,Nat.add_mul];omega
 |give t v iht ihv=>intro u;have:=@iht u;have:=@ihv u;simp only[Pg.mp,Pg.parts,Pg.oc,Nat.add_mul];omega
 |lets t v iht ihv=>intro u;have:=@iht u;have:=@ihv (u+1);simp only[Pg.mp,Pg.parts,Pg.oc,Nat.add_mul];omega
 |case t v w iht ihv ihw=>intro u;have:=@iht u;have:=@ihv (u+1);have:=@ihw (u+1);simp only[Pg.mp,Pg.parts,Pg.oc,Nat.add_mul];omega
 |first t iht=>intro u;have:=@iht u;simp only[Pg.mp,Pg.parts,Pg.oc];omega
 |second t iht=>intro u;have:=@iht u;simp only[Pg.mp,Pg.parts,Pg.oc];omega
 |left b t iht=>intro u;have:=@iht u;simp only[Pg.mp,Pg.parts,Pg.oc];omega
 |right b t iht=>intro u;have:=@iht u;simp only[Pg.mp,Pg.parts,Pg.oc];omega
 |way b t iht=>intro u;have:=@iht (u+1);simp only[Pg.mp,Pg.parts,Pg.oc];omega
 |never b t iht=>intro u;have:=@iht u;simp only[Pg.mp,Pg.parts,Pg.oc];omega
theorem C3{f g h:Nat→Nat→Option Pg}{a b c:Nat→Nat}(ha:∀u,a (u+1)=a u+1)(hb:∀u,b (u+1)=b u+1)(hc:∀u,c (u+1)=c u+1)
  (H:∀n u,((Pg.name n).mp f (a u)).mp g (b u)=(Pg.name n).mp h (c u)) (p:Pg):∀u,(p.mp f (a u)).mp g (b u)=p.mp h (c u):=by
 induction p with
 |name n=>exact H n
 |star=>intro u;rfl
 |pair t v iht ihv=>intro u;simp only[Pg.mp,iht u,ihv u]
 |give t v iht ihv=>intro u;simp only[Pg.mp,iht u,ihv u]
 |lets t v iht ihv=>intro u;simp only[Pg.mp,iht u];rw[←ha,←hb,←hc,ihv]
 |case t v w iht ihv ihw=>intro u;simp only[Pg.mp,iht u];rw[←ha,←hb,←hc,ihv,ihw]
 |first t iht=>intro u;simp only[Pg.mp,iht u]
 |second t iht=>intro u;simp only[Pg.mp,iht u]
 |left b t iht=>intro u;simp only[Pg.mp,iht u]
 |right b t iht=>intro u;simp only[Pg.mp,iht u]
 |way b t iht=>intro u;simp only[Pg.mp];rw[←ha,←hb,←hc,iht]
 |never b t iht=>intro u;simp only[Pg.mp,iht u]
theorem al8(p:Pg)(u:Nat):p.mp (fun _ _=>none) u=p:=Pg.mp_same p (by
 induction p generalizing u with
 |name n=>rfl
 |star=>rfl
 |_=>simp only[Pg.chd, *,Bool.or_self])
theorem x9{m l n u:Nat}:(Pg.name n).mp (lfF m l) u=.name (if u+l≤n then n+m else n):=by
 simp only[Pg.mp,lfF];split<;>rfl
theorem b48(p:Pg)(m k l:Nat):(p.lf m l).lf k l=p.lf (m+k) l:=
 C3 (a:=id) (b:=id) (c:=id) (fun _=>rfl) (fun _=>rfl) (fun _=>rfl) (fun n u=>by
  simp only[id,x9]
  by_cases h:u+l≤n
  ·rw[if_pos h,if_pos h,if_pos (by omega)];congr 1;omega
  ·rw[if_neg h,if_neg h,if_neg h]) p 0
theorem bx9(p o:Pg):(p.lf 1 0).sb o=p:=by
 have:=C3 (f:=lfF 1 0) (g:=sbF o) (h:=fun _ _=>none) (a:=id) (b:=id) (c:=id) (fun _=>rfl) (fun _=>rfl) (fun _=>rfl) (fun n u=>by
  simp only[id,x9]
  by_cases h:u+0≤n
  ·rw[if_pos h];simp only[Pg.mp,sbF];rw[if_neg (by omega),if_neg (by omega)];rfl
  ·rw[if_neg h];simp only[Pg.mp,sbF];rw[if_pos (by omega)]) p 0
 exact this.trans (al8 p 0)
theorem bs3(p:Pg):(p.lf 1 1).sb (.name 0)=p:=by
 have:=C3 (f:=lfF 1 1) (g:=sbF (.name 0)) (h:=fun _ _=>none) (a:=id) (b:=id) (c:=id) (fun _=>rfl) (fun _=>rfl) (fun _=>rfl) (fun n u=>by
  simp only[id,x9]
  by_cases h:u+1≤n
  ·rw[if_pos h];simp only[Pg.mp,sbF];rw[if_neg (by omega),if_neg (by omega)];rfl
  ·rw[if_neg h];simp only[Pg.mp,sbF]
   by_cases h2:n<u
   ·rw[if_pos h2]
   ·rw[if_neg h2,if_pos (by omega)];show(Pg.name 0).mp (lfF u 0) 0=_;rw[x9,if_pos (by omega)];show Pg.name (0+u)=.name n
    congr 1;omega) p 0
 exact this.trans (al8 p 0)
theorem bj9(o:Pg)(m l u:Nat)(c:Nat):(o.mp (lfF u 0) c).mp (lfF m l) (c+u)=(o.mp (lfF m l) c).mp (lfF u 0) c:=by
 have e:=C3 (f:=lfF u 0) (g:=lfF m l) (h:=fun n c=>some (.name (if c+l≤n then n+u+m else if c≤n then n+u else n))) (a:=id) (b:=fun c=>c+u) (c:=id) (fun _=>rfl) (fun c=>by omega) (fun _=>rfl) (fun n c=>by
  simp only[id,x9];simp only[Pg.mp,Option.getD]
  congr 1
  repeat' split
  all_goals omega) o c
 have e2:=C3 (f:=lfF m l) (g:=lfF u 0) (h:=fun n c=>some (.name (if c+l≤n then n+u+m else if c≤n then n+u else n))) (a:=id) (b:=id) (c:=id) (fun _=>rfl) (fun _=>rfl) (fun _=>rfl) (fun n c=>by
  simp only[id,x9];simp only[Pg.mp,Option.getD]
  congr 1
  repeat' split
  all_goals omega) o c
 exact e.trans e2.symm
theorem b24(p o:Pg)(m l:Nat):(p.sb o).lf m l=(p.lf m (l+1)).sb (o.lf m l):=by
 have e:=C3 (f:=sbF o) (g:=lfF m l) (h:=fun n u=>some (((Pg.name n).mp (lfF m (l+1)) u).mp (sbF (o.lf m l)) u)) (a:=id) (b:=id) (c:=id) (fun _=>rfl) (fun _=>rfl) (fun _=>rfl) (fun n u=>by
  simp only[id,x9];show((sbF o n u).getD (.name n)).mp (lfF m l) u=((sbF (o.lf m l) _ u).getD _);unfold sbF
  by_cases h:n<u
  ·rw[if_pos h,if_neg (show ¬u+(l+1)≤n by omega),if_pos h];show(Pg.name n).mp (lfF m l) u=_;rw[x9,if_neg (by omega)];rfl
  ·rw[if_neg h]
   by_cases h2:n=u
   ·subst h2;rw[if_pos rfl,if_neg (show ¬n+(l+1)≤n by omega),if_neg h,if_pos rfl];have:=bj9 o m l n 0;rw[Nat.zero_add]at this;exact this
   ·rw[if_neg h2];show(Pg.name (n-1)).mp (lfF m l) u=_;rw[x9]
    by_cases h3:u+(l+1)≤n
    ·rw[if_pos h3,if_neg (show ¬n+m<u by omega),if_neg (show ¬n+m=u by omega),if_pos (show u+l≤n-1 by omega)];show Pg.name (n-1+m)=.name (n+m-1)
     congr 1;omega
    ·rw [if_neg h3,if_neg h,if_neg h2,if_neg (show ¬ u + l≤n - 1 by omega)];rfl) p 0
 have e2:=C3 (f:=lfF m (l+1)) (g:=sbF (o.lf m l)) (h:=fun n u=>some (((Pg.name n).mp (lfF m (l+1)) u).mp (sbF (o.lf m l)) u)) (a:=id) (b:=id) (c:=id) (fun _=>rfl) (fun _=>rfl) (fun _=>rfl) (fun n u=>rfl) p 0;exact e.trans e2.symm
theorem bm7{m:Nat}(p:Pg):∀{Γ Δ:List Kd}{k:Kd},p.kind (Δ++Γ)=some k→p.chd (lfF m Γ.length) Δ.length=false:=by
 induction p with
 |name n=>
  intro Γ Δ k h;simp only[Pg.kind]at h;have:=(List.getElem?_eq_some_iff.mp h).1;rw[List.length_append]at this;simp only[Pg.chd,lfF];rw[if_neg (by omega)];rfl
 |star=>intro Γ Δ k _;rfl
 |pair t v iht ihv=>
  intro Γ Δ k h;simp only[Pg.kind]at h
  split at h
  ·rename_i a b h1 h2;simp only[Pg.chd,iht h1,ihv h2,Bool.or_self]
  ·cases h
 |give t v iht ihv=>
  intro Γ Δ k h;simp only[Pg.kind]at h
  split at h
  ·rename_i a b c h1 h2;simp only[Pg.chd,iht h1,ihv h2,Bool.or_self]
  ·cases h
 |lets t v iht ihv=>
  intro Γ Δ k h;simp only[Pg.kind]at h
  split at h
  ·rename_i a h1;have:=ihv (Δ:=a::Δ) h;simp only[List.length_cons]at this;simp only[Pg.chd,iht h1,this,Bool.or_self]
  ·cases h
 |case t v w iht ihv ihw=>
  intro Γ Δ k h;simp only[Pg.kind]at h
  split at h
  ·rename_i a b h1
   split at h
   ·rename_i c d h2 h3;have e1:=ihv (Δ:=a::Δ) h2;have e2:=ihw (Δ:=b::Δ) h3;simp only[List.length_cons]at e1 e2;simp only[Pg.chd,iht h1,e1,e2,Bool.or_self]
   ·cases h
  ·cases h
 |first t iht=>
  intro Γ Δ k h;simp only[Pg.kind]at h
  split at h
  ·rename_i a b h1;exact iht h1
  ·cases h
 |second t iht=>
  intro Γ Δ k h;simp only[Pg.kind]at h
  split at h
  ·rename_i a b h1;exact iht h1
  ·cases h
 |left b t iht=>
  intro Γ Δ k h;simp only[Pg.kind]at h
  split at h
  ·rename_i a h1;exact iht h1
  ·cases h
 |right b t iht=>
  intro Γ Δ k h;simp only[Pg.kind]at h
  split at h
  ·rename_i a h1;exact iht h1
  ·cases h
 |way b t iht=>
  intro Γ Δ k h;simp only[Pg.kind]at h
  split at h
  ·rename_i a h1;have:=iht (Δ:=b::Δ) h1;simp only[List.length_cons]at this;exact this
  ·cases h
 |never b t iht=>
  intro Γ Δ k h;simp only[Pg.kind]at h
  split at h
  ·rename_i h1;exact iht h1
  ·cases h
theorem br1{m:Nat}{p:Pg}{Γ:List Kd}{k:Kd}(h:p.kind Γ=some k):p.lf m Γ.length=p:=Pg.mp_same p (bm7 p (Δ:=[]) h)
end Ek
namespace Ek
open PySem L2
set_option hygiene false
local macro_rules | `(tactic| walk_at "ek")=>`(tactic| try simp only [aa2,ac2,U8,aa6,ag3,Y7,Z5,W8,ac4,U1,W3,Z9,aa1,af3,M3,ad3,e_v,ab4,ac1,ac7,Z6,Z3,ad8,X1,ac6,ae7,ab6,ae0,ae8,af0,ad4,U5,R9,T8,ab3,Q8,S6,R0,X8,Q6,T4,T3,U0,W1,R8,Q4,U7,W9,Y9,aa9,S9,ab1,W7,T1,ab0,X3,T6,ac3,V2,ae2,Q1,J4,ag8,W5,W0,ad1,ab2,S1,Z7,Y6,X7,U4,V5,X0,T2,ad2,aa3,V9,X6,ab5,af7,ag2,af9,ae9,aa4,ag5,ad6,X2,aa8,W2,ag9,ag6,af6,or_false,false_or,X5,Y1,Y0,X4,L1,V0,V3,aa0,ac0,Z4,ad0,ac5,Z0,Z1,ab7,N4,ae1,af2,ac9,af1,af8,ag0,af4,ae4,Y8,V4,Z2,ad5,Y2,S5,Q0,Y4,U2,V7,L7,W4,P2,P3,Z8,V8,List.set_cons_zero,List.set_cons_succ,List.getElem?_cons_zero,List.getElem?_cons_succ,decide_eq_true_eq,Bool.not_eq_true',decide_eq_false_iff_not,if_true,if_false,true_and,and_true,Bool.false_eq_true,Bool.true_eq_false,List.length_cons,List.length_nil,String.reduceEq,decide_true,decide_false,Bool.not_true,Bool.not_false])
set_option hygiene true
set_option hygiene false
local macro_rules | `(tactic| walk_at "es")=>`(tactic| ((try dsimp only);rw [Y3];walk_at "ek"))
set_option hygiene true
theorem ah1:∀(ds:List D)(i:Nat),(j2 i ds).length=ds.length
 |[],_=>rfl
 |_::ds,i=>by show(j2 (i+1) ds).length+1=ds.length+1;rw[ah1 ds]
theorem bi4{d:Nat}{Γ:List Kd}{p:Pg}{r:Int}(h:∀i,p.oc i=0):Cn 0 d Γ p r (r-1):=⟨⟨fun _=>by omega,fun _ _=>rfl,by omega⟩,fun i a _ _=>by rw[h i];omega⟩
theorem bl6{d:Nat}{Γ:List Kd}{j:Nat}{r:Int}:Cn 0 d Γ (.name j) r (r-1):=⟨⟨fun _=>by omega,fun _ _=>rfl,by omega⟩,fun i a _ _=>by simp only[Pg.oc,Pg.parts];split<;>omega⟩
theorem aj2{d:Nat}{Γ:List Kd}{p:Pg}{r r':Int}(h:¬r-1≤0)(c:Cn 1 d Γ p (r-1) r'):Cn 0 d Γ p r r':=
 ⟨⟨fun _=>c.1.1 (by omega),fun _ z=>by omega,by have:=c.1.2.2;omega⟩,fun i a h1 h2=>by have:=c.2 i a h1 h2;omega⟩
section
variable {P:g9} {G:Gs} (B:PB P) {n:Nat} {st:Sto} {Q:DK}
include B
theorem ar9(deep:Nat){n:Nat}(hn:14≤n+2)(hm:0<deep→GSp 1 P G "_law_made" (n+1) 5 deep)(ha:0<deep→GSp 1 P G "_law_asked" (n+1) 4 deep):GSp 0 P G "_law_grown" (n+2) 5 deep:=by
 intro da ra k Γ st Q r hne I R g bd n5 hΓ q;have hra:ra∉[da]:=by simp;exact fun z=>hne z.symm
 refine i5 B.grown rfl [some (.ref da),some k.d,some (.tup (Γ.map Kd.d)),some (.ref ra),some (.int deep),none,none] rfl ?_;unfold D2;walk_at "es";rw[M8 (.inl R)];walk_at "ek";refine⟨ra,0,0,_,rfl,rfl,R,rfl,?_⟩;have I1:n8 (d3 st ra (.lst [.int (r-1)])) da:=let⟨l,h⟩:=I;⟨l,i9 h hne⟩;have R1:(d3 st ra (.lst [.int (r-1)])) ra=some (.lst [.int (r-1)]):=g8;have K1:Kp [da,ra] st (d3 st ra (.lst [.int (r-1)])):=Kp.refl.put (by simp);show e9 _ _ _ _ (d3 st ra (.lst [.int (r-1)]));revert I1 R1 K1;generalize d3 st ra (.lst [.int (r-1)])=st1;intro I1 R1 K1;walk_at "es";refine⟨by rw[ah1,List.length_map];omega,?_⟩;refine J6 (fun l acc env' st'=>st'=st1∧∃(pre suf:List Kd)(x y:Option D)(acc':List Nat),Γ=pre++suf∧l=j2 pre.length (suf.map Kd.d)∧env'=[some k.d,x,y]∧acc=acc'.map (fun i:Nat=>D.int (i:Int))∧acc'.length≤pre.length∧∀i∈acc',Γ[i]?=some k) ?_ ?_ _ _ _ _ ⟨rfl,[],Γ,none,none,[],rfl,rfl,rfl,rfl,Nat.le_refl _,by simp⟩
 ·rintro acc env' st' ⟨rfl,pre,suf,x,y,acc',eΓ,el,rfl,rfl,al,hacc⟩;refine⟨trivial,fun sp hsp=>?_⟩;have I2:=I1.new (u:=.lst (acc'.map (fun i:Nat=>D.int (i:Int)))) hsp;have R2:=j5 (u:=.lst (acc'.map (fun i:Nat=>D.int (i:Int)))) R1 hsp;have K2:=K1.new (o:=.lst (acc'.map (fun i:Nat=>D.int (i:Int)))) hsp;have S2:d3 st' sp (.lst (acc'.map (fun i:Nat=>D.int (i:Int)))) sp=some (.lst (acc'.map (fun i:Nat=>D.int (i:Int)))):=g8;have nds:sp∉[da]:=by simp;exact fun z=>I1.ne hsp z.symm
  revert I2 R2 K2 S2;generalize d3 st' sp (.lst (acc'.map (fun i:Nat=>D.int (i:Int))))=st2;intro I2 R2 K2 S2;walk_at "es";refine⟨by rw[B.next];rfl,t4 B.toPB0 (by decide) I2 fun w st3 w0 w1 I3 K3=>?_⟩;have R3:=K3.at' R2 hra;have S3:=K3.at' S2 nds;have K3:=K2.trans (K3.w2 ra);have fin:e9 (Zg P G (n+1)) (D2.body.drop 4) (g7 Q) [some (.ref da),some k.d,some (.tup (Γ.map Kd.d)),some (.ref ra),some (.int deep),some (.ref sp),some (.int w)] st3:=by
   simp only[D2,Ss.drop];have lst:e9 (Zg P G (n+1)) (.cons (.ret (.call "_law_least" (.cons (.v 1) (.cons (.v 2) .nil)))) .nil) ⟨e9 (Zg P G (n+1)) (D2.body.drop 5) (g7 Q),(g7 Q).rt,(g7 Q).bk,(g7 Q).ct⟩ [some (.ref da),some k.d,some (.tup (Γ.map Kd.d)),some (.ref ra),some (.int deep),some (.ref sp),some (.int w)] st3:=by
    walk_at "es";exact⟨by rw[B.least];rfl,ai5 B k g bd (by omega) (by omega) (by omega) fun p k1 h1 _ m1 o1=>d5 (q p _ (r-1) k1 (by omega) m1 (bi4 o1) I3 R3 K3)⟩
   have hnone:(D.tup [.str "none"])=Kd.non.d:=rfl;have kn:k≠.non:=fun z=>by subst z;exact g
   walk_at "es";rw[M8 (.inl R3)];walk_at "ek"
   by_cases h1:r-1≤0
   ·simp only[h1,if_true];exact lst
   simp only[h1,if_false]
   by_cases h2:(deep:Int)≤0
   ·simp only[h2,if_true];exact lst
   simp only[h2,if_false];rw[hnone,al7,A1];refine⟨u4 _,u4 _,by rw[t8,t8];exact Nat.le_trans (Nat.min_le_left _ _) (by omega),?_⟩;walk_at "ek";simp only[kn,if_false];walk_at "es"
   by_cases h6:w<6
   ·simp only[h6,if_true];walk_at "es";exact⟨by rw[B.made];rfl,hm (by omega) hne I3 R3 g bd n5 hΓ fun p st4 r4 k4 h4 m4 c4 I4 R4 K4=>d5 (q p _ r4 k4 h4 m4 (aj2 (by omega) c4) I4 R4 (K3.trans K4))⟩
   simp only[h6,if_false];refine⟨by rw[B.nest];rfl,bj3 B k (by omega) ?_⟩;walk_at "ek"
   by_cases h5:(4:Int)<k.nest
   ·simp only[h5,if_true];walk_at "es";exact⟨by rw[B.made];rfl,hm (by omega) hne I3 R3 g bd n5 hΓ fun p st4 r4 k4 h4 m4 c4 I4 R4 K4=>d5 (q p _ r4 k4 h4 m4 (aj2 (by omega) c4) I4 R4 (K3.trans K4))⟩
   simp only[h5,if_false];walk_at "es";exact⟨by rw[B.asked];rfl,ha (by omega) hne I3 R3 g bd (by omega) hΓ fun p st4 r4 k4 h4 m4 c4 I4 R4 K4=>d5 (q p _ r4 k4 h4 m4 (aj2 (by omega) c4) I4 R4 (K3.trans K4))⟩
  walk_at "es";rw[A6 (.inl S3)];walk_at "ek"
  by_cases hl:(0:Int)<((acc'.map (fun i:Nat=>D.int (i:Int))).length:Nat)
  ·simp only[hl,if_true]
   by_cases h3:w<3
   ·simp only[h3,if_true];walk_at "es";rw[A6 (.inl S3)];refine⟨by rw[B.next];rfl,t4 B.toPB0 hl I3 fun j st4 j0 j1 I4 K4=>?_⟩;have S4:=K4.at' S3 nds;have R4:=K4.at' R3 hra;have K4:=K3.trans (K4.w2 ra);rw[M8 (.inl S4)];obtain⟨j,rfl⟩:=Int.eq_ofNat_of_zero_le j0;rw[List.length_map]at j1;have hj:j<acc'.length:=by omega
    refine⟨.int (acc'[j]:Int),?_,d5 (q (.name acc'[j]) _ (r-1) (hacc _ (List.getElem_mem hj)) (by simp only[Pg.hgt];omega) trivial bl6 I4 R4 K4)⟩;show atI _ ((j:Nat):Int)=_;rw[X9,List.getElem?_map,List.getElem?_eq_getElem hj];rfl
   ·simp only[h3,if_false];exact fin
  ·simp only[hl,if_false];exact fin
 ·rintro d ds acc env' st' ih ⟨rfl,pre,suf,x,y,acc',eΓ,el,rfl,rfl,al,hacc⟩;refine⟨trivial,?_⟩;cases suf with
  |nil=>simp[j2]at el
  |cons c suf=>
   simp only[List.map_cons,j2,List.cons.injEq]at el;obtain⟨rfl,rfl⟩:=el;have hc:Γ[pre.length]?=some c:=by rw[eΓ];simp
   walk_at "ek";rw[al7,A1];refine⟨u4 _,u4 _,by rw[t8,t8];exact Nat.le_trans (Nat.min_le_right _ _) (by omega),?_⟩;walk_at "ek"
   by_cases e:c=k
   ·simp only[e,if_true];refine ih _ _ _ ⟨rfl,pre++[c],suf,_,_,acc'++[pre.length],by rw[eΓ];simp,by simp,rfl,by simp,by simp;omega,fun i hi=>?_⟩
    rcases List.mem_append.mp hi with hi|hi
    ·exact hacc i hi
    ·simp only[List.mem_singleton]at hi;subst hi;rw[hc,e]
   ·simp only[e,if_false];exact ih _ _ _ ⟨rfl,pre++[c],suf,_,_,acc',by rw[eΓ];simp,by simp,rfl,rfl,by simp;omega,hacc⟩
theorem ai3:∀(deep:Nat){n:Nat},2*deep+14≤n→GSp 0 P G "_law_grown" n 5 deep
 |0,n,hn=>by
  obtain⟨n,rfl⟩:∃m,n=m+2:=⟨n-2,by omega⟩;exact ar9 B 0 (by omega) (fun h=>absurd h (by decide)) (fun h=>absurd h (by decide))
 |deep+1,n,hn=>by
  obtain⟨n,rfl⟩:∃m,n=m+2:=⟨n-2,by omega⟩;exact ar9 B (deep+1) (by omega) (fun _=>bk7 B (by omega) (ai3 deep (by omega))) (fun _=>bh0 B (by omega) (ai3 deep (by omega)))
end
theorem Kp.fresh{a p:Addr}{st st':Sto}{o:Ob}(h:Kp [a,p] (d3 st p o) st')(hp:st p=none):Kp [a] st st':=fun b u n e=>by
 have nb:b≠p:=t9 e hp;exact h b u (by simp at n ⊢;exact⟨n,nb⟩) (by rw[y3 nb];exact e)
theorem Pg.parts_kids(p:Pg):p.parts=1+(p.kids.map Pg.parts).sum:=by
 cases p<;>simp only[Pg.parts,Pg.kids,List.map_cons,List.map_nil,List.sum_cons,List.sum_nil]<;>omega
theorem Pg.hgt_kids(p:Pg):∀c∈p.kids,c.hgt<p.hgt:=by
 cases p<;>simp only[Pg.hgt,Pg.kids,List.mem_cons,List.not_mem_nil,or_false,false_imp_iff,implies_true,forall_eq_or_imp,forall_eq]<;>omega
section
variable {P:g9} {G:Gs} (B:PB P) {n:Nat} {st:Sto} {Q:DK}
include B
theorem bb7(p:Pg)(q:Q (.tup (p.kids.map Pg.d)) st):sem P G (n+1) "_law_inner" [p.d] st Q:=by
 refine i5 B.inner rfl [some p.d,none] rfl ?_;unfold O6;cases p<;>simp only[Pg.d]
 case name=>
  walk_at "es";walk_at "es";walk_at "es";exact d5 q
 all_goals
  walk_at "es";walk_at "es";walk_at "es";simp only[z6,D3,v7,Bool.and_self,true_and,List.any_cons,List.any_nil,o5,o0,String.reduceEq,decide_true,decide_false,Bool.or_true,Bool.or_false,Bool.true_or,Bool.false_or,m7,if_true,Bool.false_eq_true,if_false];exact⟨by decide,by decide,d5 q⟩
theorem bf0:∀(h:Nat)(p:Pg){n:Nat}{st:Sto}{Q:DK},p.hgt≤h→h+2≤n→(∀st',Kp [] st st'→Q (.int p.parts) st')→sem P G n "_law_parts" [p.d] st Q:=by
 intro h
 induction h with
 |zero=>intro p n st Q hp;cases p<;>simp only[Pg.hgt]at hp<;>omega
 |succ h ih=>
  intro p n st Q hp hn q;obtain⟨n,rfl⟩:∃m,n=m+2:=⟨n-2,by omega⟩;refine i5 B.parts rfl [some p.d] rfl ?_;unfold O8;walk_at "es";refine⟨by rw[B.inner];rfl,bb7 B p ?_⟩;walk_at "ek";refine⟨by rw[List.length_map];cases p<;>simp only[Pg.kids,List.length_cons,List.length_nil]<;>decide,?_⟩;refine J6 (fun l acc env' st'=>Kp [] st st'∧∃(pre suf:List Pg)(x:Option D),p.kids=pre++suf∧l=suf.map Pg.d∧env'=[x]∧acc=(pre.map fun c=>D.int (c.parts:Nat))) ?_ ?_ _ _ _ _ ⟨Kp.refl,[],p.kids,none,rfl,rfl,rfl,rfl⟩
  ·rintro acc env' st' ⟨K,pre,suf,x,ek,el,rfl,rfl⟩;refine⟨trivial,fun a ha=>?_⟩;have es:suf=[]:=by simpa using el.symm
   subst es;have e:(pre.map fun c:Pg=>D.int (c.parts:Nat))=(pre.map fun c:Pg=>((c.parts:Nat):Int)).map D.int:=by rw[List.map_map];rfl
   refine⟨_,.inl (by rw[←e];exact g8),?_⟩;walk_at "ek";have e2:(1:Int)+(pre.map fun c:Pg=>((c.parts:Nat):Int)).sum=(p.parts:Nat):=by
    rw[Pg.parts_kids p,ek,List.append_nil];generalize pre=l
    induction l with
    |nil=>rfl
    |cons c l ih=>simp only[List.map_cons,List.sum_cons]at ih ⊢;omega
   rw[e2];exact d5 (q _ (K.new ha))
  ·rintro d ds acc env' st' ihc ⟨K,pre,suf,x,ek,el,rfl,rfl⟩;refine⟨trivial,?_⟩;cases suf with
   |nil=>simp at el
   |cons c suf=>
    simp only[List.map_cons,List.cons.injEq]at el;obtain⟨rfl,rfl⟩:=el;walk_at "ek";have hc:=Pg.hgt_kids p c (by rw[ek];simp);refine⟨by rw[B.parts];rfl,ih c (by omega) (by omega) fun st2 K2=>ihc _ _ _ ⟨K.trans K2,pre++[c],suf,_,by rw[ek];simp,rfl,rfl,by simp⟩⟩
theorem ah2{da:Addr}{k:Kd}{Γ:List Kd}{many:Int}(hm:many≤33)(hn:40≤n)(I:n8 st da)(g:k.good)(bd:k.bd 100)(n5:k.nest≤5)(hΓ:Γ.length≤800)(q:∀(p:Pg)st',p.kind Γ=some k→p.hgt≤15→p.parts≤64→p.kn 6→(k.nest≤4→p.parts≤60∧∀i a,Γ[i]?=some a→a≠.non→p.parts+59*p.oc i≤2000)→n8 st' da→Kp [da] st st'→Q p.d st'):sem P G n "_law_program" [.ref da,k.d,.tup (Γ.map Kd.d),.int many] st Q:=by
 obtain⟨n,rfl⟩:∃m,n=m+1:=⟨n-1,by omega⟩;refine i5 B.program rfl [some (.ref da),some k.d,some (.tup (Γ.map Kd.d)),some (.int many),none] rfl ?_;unfold O3;walk_at "es";refine⟨by rw[B.grown];rfl,fun ra hra=>?_⟩;refine ai3 B 8 (by omega) (I.ne hra) (I.new hra) g8 g bd n5 (by omega) fun p st1 r1 k1 h1 m1 c1 I1 R1 K1=>?_;have K1:=K1.fresh hra;walk_at "es";refine⟨by rw[B.parts];rfl,bf0 B 15 p (by omega) (by omega) fun st2 K2=>?_⟩;have I2:=I1.keep K2 (by simp);have K2:=K1.trans (K2.more (by simp));walk_at "ek"
 by_cases hp:(60:Int)<(p.parts:Nat)
 ·simp only[hp,if_true];walk_at "es";refine⟨by rw[B.least];rfl,ai5 B k g bd (by omega) (by omega) (by omega) fun p3 k3 h3 p3' m3 o3=>d5 (q p3 _ k3 (by omega) ?_ m3 (fun hk=>?_) I2 K2)⟩
  ·have:2^(k.nest+1)≤2^6:=Nat.pow_le_pow_right (by decide) (by omega);omega
  ·have:2^(k.nest+1)≤2^5:=Nat.pow_le_pow_right (by decide) (by omega);exact⟨by omega,fun i a _ _=>by rw[o3 i];omega⟩
 ·simp only[hp,if_false];walk_at "es";exact d5 (q p _ k1 h1 (by omega) m1 (fun _=>⟨by omega,fun i a h1 h2=>by
   have:=c1.2 i a h1 h2;have:=c1.1.1;have:=c1.1.2.1 rfl;have:=c1.1.2.2;omega⟩) I2 K2)
omit B in
noncomputable def v2:List Kd→Nat
 |[]=>1
 |k::r=>max 1 k.cnt*v2 r
omit B in
theorem ar4:∀(l:List Kd)(k:Kd),v2 (l++[k])=v2 l*max 1 k.cnt
 |[],k=>by simp[v2]
 |c::l,k=>by simp only[List.cons_append,v2,ar4 l k,Nat.mul_assoc]
theorem be1{da:Addr}{most lines:Nat}(hn:20≤n)(hm:most≤100)(hl:1≤lines)(hl2:lines≤1000)(I:n8 st da)(q:∀(Γ:List Kd)st',Γ.length≤most→(∀k∈Γ,(k.good∨k=.non)∧k.bd 16∧k.nest≤2)→v2 Γ≤lines→n8 st' da→Kp [da] st st'→Q (.tup (Γ.map Kd.d)) st'):sem P G n "_law_names" [.ref da,.int most,.int lines] st Q:=by
 obtain⟨n,rfl⟩:∃m,n=m+2:=⟨n-2,by omega⟩;refine i5 B.names rfl [some (.ref da),some (.int most),some (.int lines),none,none,none,none] rfl ?_;unfold v8;walk_at "es";walk_at "es";walk_at "es";refine⟨by rw[B.next];rfl,t4 B.toPB0 (by omega) I fun r st1 r0 r1 I1 K1=>⟨r,rfl,by omega,?_⟩⟩;refine B5 (fun l env st'=>n8 st' da∧Kp [da] st st'∧∃(Γ:List Kd)(x y:Option D),env=[some (.ref da),some (.int most),some (.int lines),some (.tup (Γ.map Kd.d)),some (.int (v2 Γ:Nat)),x,y]∧Γ.length+l.length≤most∧(∀k∈Γ,(k.good∨k=.non)∧k.bd 16∧k.nest≤2)∧v2 Γ≤lines) ?_ ?_ _ _ _ ⟨I1,K1,[],none,none,rfl,by simp[m8];omega,by simp,hl⟩
 ·rintro env st' ⟨I2,K2,Γ,x,y,rfl,h1,h2,h3⟩;refine⟨trivial,?_⟩;walk_at "es";exact d5 (q Γ _ (by simpa using h1) h2 h3 I2 K2)
 ·rintro d ds env st' ih ⟨I2,K2,Γ,x,y,rfl,h1,h2,h3⟩;refine⟨trivial,?_⟩;walk_at "ek";walk_at "es";refine⟨by rw[B.kind];rfl,E9 B.toPB0 (most:=16) (by decide) (by decide) 2 (by omega) I2 fun k st3 g3 b3 n3 I3 K3=>?_⟩;have K3:=K2.trans K3;walk_at "es";refine⟨by rw[B.next];rfl,t4 B.toPB0 (by decide) I3 fun r4 st4 _ _ I4 K4=>?_⟩;have K4:=K3.trans K4;have fin:∀k:Kd,(k.good∨k=.non)→k.bd 16→k.nest≤2→e9 (Zg P G (n+1)) (match v8.body.drop 2 with|.cons (.for _ _ b) _=>b.drop 2|_=>.nil) ⟨n0 (fun _=>True) (.n 5) (e9 (Zg P G (n+1)) (match v8.body.drop 2 with|.cons (.for _ _ b) _=>b|_=>.nil)) ⟨e9 (Zg P G (n+1)) (v8.body.drop 3) (g7 Q),(g7 Q).rt,(g7 Q).bk,(g7 Q).ct⟩ ds,(g7 Q).rt,e9 (Zg P G (n+1)) (v8.body.drop 3) (g7 Q),n0 (fun _=>True) (.n 5) (e9 (Zg P G (n+1)) (match v8.body.drop 2 with|.cons (.for _ _ b) _=>b|_=>.nil)) ⟨e9 (Zg P G (n+1)) (v8.body.drop 3) (g7 Q),(g7 Q).rt,(g7 Q).bk,(g7 Q).ct⟩ ds⟩ [some (.ref da),some (.int most),some (.int lines),some (.tup (Γ.map Kd.d)),some (.int (v2 Γ:Nat)),some d,some k.d] st4:=by
   intro k hk bk nk;have lk:=Kd.bd_le bk;simp only[v8,Ss.drop];walk_at "es";have ex:(if(k.cnt:Int)>1 then(k.cnt:Int)else 1)=((max 1 k.cnt:Nat):Int):=by split<;>omega
   have em:((v2 Γ:Nat):Int)*((max 1 k.cnt:Nat):Int)=((v2 (Γ++[k]):Nat):Int):=by rw[ar4];exact(Int.natCast_mul _ _).symm
   refine⟨by rw[B.count];rfl,z8 B.toPB0 k (m:=16) (by omega) (M5 bk) (by decide) ?_⟩;walk_at "ek";rw[ex,em];refine⟨F5 ⟨by omega,by omega⟩,?_⟩
   by_cases hle:((v2 (Γ++[k]):Nat):Int)≤(lines:Nat)
   ·simp only[hle,if_true];walk_at "es";refine⟨by rw[B.count];rfl,z8 B.toPB0 k (m:=16) (by omega) (M5 bk) (by decide) ?_⟩;walk_at "ek";rw[ex,em];refine⟨F5 ⟨by omega,by omega⟩,?_⟩;simp only[List.length_cons]at h1;walk_at "es";refine⟨F0 (by simp only[List.length_map];omega),ih _ _ ⟨I4,K4,Γ++[k],_,_,by rw[List.map_append];rfl,by simp;omega,fun c hc=>?_,by omega⟩⟩
    rcases List.mem_append.mp hc with hc|hc
    ·exact h2 c hc
    ·simp only[List.mem_singleton]at hc;subst hc;exact⟨hk,bk,nk⟩
   ·simp only[hle,if_false];simp only[List.length_cons]at h1;exact ih _ _ ⟨I4,K4,Γ,_,_,rfl,by omega,h2,h3⟩
  walk_at "ek"
  by_cases e1:r4=1
  ·simp only[e1,if_true];walk_at "es";exact fin .non (.inr rfl) trivial (Nat.zero_le _)
  ·simp only[e1,if_false];exact fin k (.inl g3) b3 n3
end
theorem ai8{ns:List Int}{lo hi:Option Int}:∃ms:List Int,v4 (ns.map D.int) lo hi=ms.map D.int∧ms.length≤ns.length:=by
 refine⟨(ns.drop (HT.sIx (ns.map D.int).length 0 lo)).take (HT.sIx (ns.map D.int).length (ns.map D.int).length hi-HT.sIx (ns.map D.int).length 0 lo),by unfold v4;rw[List.map_take,List.map_drop],?_⟩;rw[List.length_take,List.length_drop];omega
theorem ao5{lo:Int}{n:Nat}:(m8 lo n).length=n:=by simp[m8]
theorem bs8{b:Int}{k:Nat}(h:0<b):0<b^k:=by
 induction k with
 |zero=>rw[Int.pow_zero];decide
 |succ k ih=>rw[Int.pow_succ];exact Int.mul_pos ih h
theorem bb9(ms:List Int)(i:Nat):j2 i (ms.map D.int)=(ms.zipIdx i).map fun p=>D.tup [.int (p.2:Nat),.int p.1]:=by
 induction ms generalizing i with
 |nil=>rfl
 |cons m ms ih=>simp only[List.map_cons,j2,ih,List.zipIdx_cons]
section
variable {P:g9} {G:Gs} (B:PB0 P) {n:Nat} {st:Sto} {Q:DK}
include B
theorem bk4{a:Addr}{ns:List Int}(hn:2≤n)(hl:ns.length≤63)(h:rdS st a (ns.map D.int))(q:∀p st',n8 st' p→Kp [] st st'→Q (.ref p) st'):sem P G n "_law_deck" [.ref a] st Q:=by
 obtain⟨n,rfl⟩:∃m,n=m+2:=⟨n-2,by omega⟩;refine i5 B.deck rfl [some (.ref a),none,none,none,none,none] rfl ?_;unfold v9;walk_at "es";intro p hp;have hpa:a≠p:=h.elim (fun h=>t9 h hp) (fun h=>t9 h hp);walk_at "es";have h1:rdS (d3 st p (.lst [])) a (ns.map D.int):=h.elim (fun h=>.inl (j5 h hp)) (fun h=>.inr (j5 h hp));rw[ao3 h1];obtain⟨ms,em,hms⟩:=ai8 (ns:=ns) (lo:=none) (hi:=some 63);rw[em];intro s hs;have hsp:p≠s:=t9 g8 hs;have hsa:s≠a:=fun z=>by subst z;exact h1.elim (fun h=>absurd rfl (t9 h hs)) (fun h=>absurd rfl (t9 h hs))
 walk_at "ek";refine⟨_,C6,?_⟩;rw[bb9];refine B5 (fun l env st'=>∃(js:List (Int×Nat))(dk:List Int)(x2 x3 x4 x5:Option D),l=js.map (fun p=>D.tup [.int (p.2:Nat),.int p.1])∧env=[some (.ref a),some (.ref p),x2,x3,x4,x5]∧st' p=some (.lst (dk.map D.int))∧dk.length+67*js.length≤67*63∧rdS st' s (ms.map D.int)∧rdS st' a (ns.map D.int)∧Kp [] st st') ?_ ?_ _ _ _ ?_
 ·rintro env st' ⟨js,dk,x2,x3,x4,x5,el,rfl,hd,hb,hrs,hra,K⟩;refine⟨hrs,?_⟩;walk_at "es";rw[A6 (.inl hd)];walk_at "ek";simp only[List.length_map];refine⟨by omega,?_⟩;refine B5 (fun l env st'=>∃(dk:List Int)(x2 x3 x4 x5:Option D),(∀d∈l,∃i:Int,d=.int i)∧env=[some (.ref a),some (.ref p),x2,x3,x4,x5]∧st' p=some (.lst (dk.map D.int))∧dk.length+l.length≤10000∧rdS st' a (ns.map D.int)∧Kp [] st st') ?_ ?_ _ _ _ ⟨dk,_,_,_,_,fun d hd=>by simp only[m8,List.mem_map]at hd;obtain⟨i,_,rfl⟩:=hd;exact⟨_,rfl⟩,rfl,hd,by rw[ao5];omega,hra,K⟩
  ·rintro env st' ⟨dk,x2,x3,x4,x5,el,rfl,hd,hb,hra,K⟩;refine⟨trivial,?_⟩;walk_at "es";rw[ao3 (.inl hd)];intro r hr;obtain⟨ks,ek,_⟩:=ai8 (ns:=dk) (lo:=none) (hi:=some 900);rw[ek];exact d5 (q r _ ⟨ks,g8⟩ (K.new hr))
  ·rintro d ds env st' ih ⟨dk,x2,x3,x4,x5,el,rfl,hd,hb,hra,K⟩;obtain⟨i,rfl⟩:=el d (by simp);simp only[List.length_cons]at hb;refine⟨trivial,?_⟩;walk_at "ek";walk_at "es";rw[A4 (.inl hd),ao3 hra];obtain⟨ks,ek,_⟩:=ai8 (ns:=ns) (lo:=none) (hi:=some 63);rw[ek];refine⟨trivial,by rw[B.mixed];rfl,fun r hr=>b45 C6 ?_⟩;walk_at "ek";refine au3 B _ _ fun m=>?_;rw[L9 (j5 hd hr)];refine⟨G5 (by simp only[List.length_map];omega),?_⟩;have hpr:p≠r:=t9 hd hr;refine ih _ _ ⟨dk++[m],_,_,_,_,fun d hd=>el d (by simp[hd]),rfl,by rw[g8,List.map_append];rfl,by simp only[List.length_append,List.length_cons,List.length_nil];omega,?_,?_⟩
   ·exact hra.elim (fun h=>.inl (i9 (j5 h hr) hpa)) (fun h=>.inr (i9 (j5 h hr) hpa))
   ·intro b o nb e;exact i9 (j5 (K b o nb e) hr) (t9 e hp)
 ·rintro d ds env st' ih ⟨js,dk,x2,x3,x4,x5,el,rfl,hd,hb,hrs,hra,K⟩;refine⟨hrs,?_⟩;cases js with
  |nil=>simp at el
  |cons j js=>
   simp only[List.map_cons,List.cons.injEq]at el;obtain⟨rfl,rfl⟩:=el;simp only[List.length_cons]at hb;obtain⟨c,k⟩:=j;walk_at "ek";walk_at "es";refine⟨⟨by decide,by decide,by decide⟩,bs8 (by decide),?_⟩;have inn:∀(dk:List Int)(num:Int)(st':Sto),st' p=some (.lst (dk.map D.int))→dk.length+60+67*js.length≤67*63→rdS st' s (ms.map D.int)→rdS st' a (ns.map D.int)→Kp [] st st' →
     e9 (Zg P G (n+1)) (match v9.body.drop 1 with|.cons (.for _ _ b) _=>b.drop 2|_=>.nil) ⟨n0 (fun st'=>rdS st' s (ms.map D.int)) (.tup [2,3]) (e9 (Zg P G (n+1)) (match v9.body.drop 1 with|.cons (.for _ _ b) _=>b|_=>.nil)) ⟨e9 (Zg P G (n+1)) (v9.body.drop 2) (g7 Q),(g7 Q).rt,(g7 Q).bk,(g7 Q).ct⟩ (js.map (fun p=>D.tup [.int (p.2:Nat),.int p.1])),(g7 Q).rt,e9 (Zg P G (n+1)) (v9.body.drop 2) (g7 Q),n0 (fun st'=>rdS st' s (ms.map D.int)) (.tup [2,3]) (e9 (Zg P G (n+1)) (match v9.body.drop 1 with|.cons (.for _ _ b) _=>b|_=>.nil)) ⟨e9 (Zg P G (n+1)) (v9.body.drop 2) (g7 Q),(g7 Q).rt,(g7 Q).bk,(g7 Q).ct⟩ (js.map (fun p=>D.tup [.int (p.2:Nat),.int p.1]))⟩ [some (.ref a),some (.ref p),some (.int (k:Nat)),some (.int c),some (.int num),x5] st':=by
    intro dk num st' hd hb hrs hra K;simp only[v9,Ss.drop];walk_at "es";refine⟨by decide,?_⟩;refine B5 (fun l env st'=>∃(dk:List Int)(num:Int)(x5:Option D),env=[some (.ref a),some (.ref p),some (.int (k:Nat)),some (.int c),some (.int num),x5]∧st' p=some (.lst (dk.map D.int))∧dk.length+l.length+67*js.length≤67*63∧rdS st' s (ms.map D.int)∧rdS st' a (ns.map D.int)∧Kp [] st st') ?_ ?_ _ _ _ ⟨dk,num,_,rfl,hd,by rw[ao5];exact hb,hrs,hra,K⟩
    ·rintro env st' ⟨dk,num,x5,rfl,hd,hb,hrs,hra,K⟩;refine⟨trivial,?_⟩;walk_at "ek";exact ih _ _ ⟨js,dk,_,_,_,_,rfl,rfl,hd,by simpa using hb,hrs,hra,K⟩
    ·rintro d ds env st' ih2 ⟨dk,num,x5,rfl,hd,hb,hrs,hra,K⟩;refine⟨trivial,?_⟩;simp only[List.length_cons]at hb;walk_at "ek";walk_at "es"
     by_cases h0:0<num
     ·simp only[h0,if_true];walk_at "es";rw[A4 (.inl hd)];refine⟨trivial,by decide,?_⟩;rw[L9 hd];refine⟨G5 (by simp only[List.length_map];omega),?_⟩;walk_at "es";refine⟨⟨by decide,by decide⟩,ih2 _ _ ⟨dk++[num % 2147483647],_,_,rfl,by rw[g8,List.map_append];rfl,by simp only[List.length_append,List.length_cons,List.length_nil];omega,?_,?_,?_⟩⟩
      ·exact hrs.elim (fun h=>.inl (i9 h hsp.symm)) (fun h=>.inr (i9 h hsp.symm))
      ·exact hra.elim (fun h=>.inl (i9 h hpa)) (fun h=>.inr (i9 h hpa))
      ·intro b o nb e;exact i9 (K b o nb e) (t9 e hp)
     ·simp only[h0,if_false];walk_at "ek";exact ih2 _ _ ⟨dk,_,_,rfl,hd,by omega,hrs,hra,K⟩
   walk_at "es";refine⟨⟨by decide,by decide,by decide⟩,?_⟩;generalize(if c<0 then -c else c) % (2147483647:Int)^Int.toNat 60=num
   by_cases h18:num<10^Int.toNat 18
   ·simp only[h18,if_true];walk_at "es";rw[A4 (.inl hd)];refine⟨trivial,by decide,by decide,?_⟩;refine J6 (fun l acc env' st''=>st''=st'∧∃(ac:List Int)(x:Option D),(∀d∈l,∃i:Int,d=.int i)∧env'=[some (.int num),some (.int (k:Nat)),x]∧acc=ac.map D.int∧ac.length+l.length=7) ?_ ?_ _ _ _ _ ⟨rfl,[],none,fun d hd=>by simp only[m8,List.mem_map]at hd;obtain⟨i,_,rfl⟩:=hd;exact⟨_,rfl⟩,rfl,rfl,by decide⟩
    ·rintro acc env' st'' ⟨rfl,ac,x,_,rfl,rfl,hac⟩;refine⟨trivial,fun r hr=>?_⟩;simp only[List.length_nil]at hac;rw[a06 (j5 hd hr) g8];refine⟨F0 (by simp only[List.length_map];omega),?_⟩;walk_at "es";have hpr:p≠r:=t9 hd hr;refine inn (dk++ac) 0 _ (by rw[g8,List.map_append]) (by simp only[List.length_append];omega) ?_ ?_ ?_
     ·exact hrs.elim (fun h=>.inl (i9 (j5 h hr) hsp.symm)) (fun h=>.inr (i9 (j5 h hr) hsp.symm))
     ·exact hra.elim (fun h=>.inl (i9 (j5 h hr) hpa)) (fun h=>.inr (i9 (j5 h hr) hpa))
     ·intro b o nb e;exact i9 (j5 (K b o nb e) hr) (t9 e hp)
    ·rintro d ds acc env' st'' ihc ⟨rfl,ac,x,hi,rfl,rfl,hac⟩;obtain⟨i,rfl⟩:=hi d (by simp);refine⟨trivial,?_⟩;walk_at "ek";refine⟨by rw[B.mixed];rfl,F5 ⟨by decide,by decide⟩,au3 B _ _ fun m=>ihc _ _ _ ⟨rfl,ac++[m],_,fun d hd=>hi d (by simp[hd]),rfl,by rw[List.map_append];rfl,by simp only[List.length_append,List.length_cons,List.length_nil]at hac ⊢;omega⟩⟩
   ·simp only[h18,if_false];exact inn dk num st' hd (by omega) hrs hra K
 ·refine⟨ms.zipIdx 0,[],none,none,none,none,rfl,rfl,j5 g8 hs,by simp only[List.length_zipIdx,List.length_nil];omega,C6,?_,(Kp.refl.new hp).new hs⟩;exact h1.elim (fun h=>.inl (j5 h hs)) (fun h=>.inr (j5 h hs))
end
end Ek
namespace Ek
open PySem
noncomputable def O1:Def:=⟨3,["whole","parts_of","made","order","done","here","many"],
 (.cons (.set 3 (.call "order_of_few" (.cons (.v 0) (.cons (.v 1) .nil))))
 (.cons (.iff (.isN (.v 3))
   (.cons .dead
  .nil)
   .nil)
 (.cons (.set 4 (.lst .nil))
 (.cons (.for (.tup [5,6]) (.rev (.v 3))
   (.cons (.ex (.app (.v 4) (.callv 2 (.cons (.v 5) (.cons (.ite (.cmp .Gt (.v 6) (.int 0)) (.call "taken" (.cons (.v 4) (.cons (.v 6) .nil))) (.lst .nil)) .nil)))))
  .nil))
 (.cons (.ret (.ix (.v 4) (.int 0)))
 .nil)))))⟩
noncomputable def O2:Def:=⟨2,["whole","parts_of","order","ahead","here","parts"],
 (.cons (.set 2 (.lst .nil))
 (.cons (.set 3 (.lst (.cons (.v 0) .nil)))
 (.cons (.while (.cmp .Gt (.len (.v 3)) (.int 0))
   (.cons (.set 4 (.pop (.v 3)))
  (.cons (.set 5 (.callv 1 (.cons (.v 4) .nil)))
  (.cons (.ex (.app (.v 2) (.tup (.cons (.v 4) (.cons (.len (.v 5)) .nil)))))
  (.cons (.ex (.ext (.v 3) (.v 5)))
  (.cons (.iff (.cmp .Gt (.len (.v 2)) (.gc "FEW"))
    (.cons (.ret .non)
   .nil)
    .nil)
  .nil))))))
 (.cons (.ret (.v 2))
 .nil))))⟩
noncomputable def R7:Def:=⟨2,["done","many","parts","number"],
 (.cons (.set 2 (.lst .nil))
 (.cons (.for (.n 3) (.rng (.v 1))
   (.cons (.ex (.app (.v 2) (.pop (.v 0))))
  .nil))
 (.cons (.ex (.lrev (.v 2)))
 (.cons (.ret (.v 2))
 .nil))))⟩
end Ek
namespace Ek
open PySem L2
set_option hygiene false
local macro_rules | `(tactic| walk_at "ek")=>`(tactic| try simp only [aa2,ac2,U8,aa6,ag3,Y7,Z5,W8,ac4,U1,W3,Z9,aa1,af3,M3,ad3,e_v,ab4,ac1,ac7,Z6,Z3,ad8,X1,ac6,ae7,ab6,ae0,ae8,af0,ad4,U5,R9,T8,ab3,Q8,S6,R0,X8,Q6,T4,T3,U0,W1,R8,Q4,U7,W9,Y9,aa9,S9,ab1,W7,T1,ab0,X3,T6,ac3,V2,ae2,Q1,J4,ag8,W5,W0,ad1,ab2,S1,Z7,Y6,X7,U4,V5,X0,T2,ad2,aa3,V9,X6,ab5,af7,ag2,af9,ae9,aa4,ag5,ad6,X2,aa8,W2,ag9,ag6,af6,or_false,false_or,X5,Y1,Y0,X4,L1,V0,V3,aa0,ac0,Z4,ad0,ac5,Z0,Z1,ab7,N4,ae1,af2,ac9,af1,af8,ag0,af4,ae4,Y8,V4,Z2,ad5,Y2,S5,Q0,Y4,U2,V7,L7,W4,P2,P3,Z8,V8,List.set_cons_zero,List.set_cons_succ,List.getElem?_cons_zero,List.getElem?_cons_succ,decide_eq_true_eq,Bool.not_eq_true',decide_eq_false_iff_not,if_true,if_false,true_and,and_true,Bool.false_eq_true,Bool.true_eq_false,List.length_cons,List.length_nil,String.reduceEq,decide_true,decide_false,Bool.not_true,Bool.not_false])
set_option hygiene true
set_option hygiene false
local macro_rules | `(tactic| walk_at "es")=>`(tactic| ((try dsimp only);rw [Y3];walk_at "ek"))
set_option hygiene true
theorem ap9{α:Type}(l:List α):l=[]∨∃l' c,l=l'++[c]:=by
 rcases List.eq_nil_or_concat l with h|⟨l',c,h⟩
 ·exact .inl h
 ·exact .inr ⟨l',c,by rw[h,List.concat_eq_append]⟩
noncomputable def G4(P:g9)(G:Gs)(n:Nat):D→Spec
 |.fn f=>sem P G n f
 |.clo np N b cs=>B1 P G n np N b cs
 |_=>fun _ _ _=>False
noncomputable def Cok(P:g9):D→Prop
 |.fn f=>(P f).isSome=true
 |.clo _ _ _ _=>True
 |_=>False
theorem Q3{P:g9}{G:Gs}{n:Nat}{ta:Sto→(List D→Sto→Prop)→Prop}{st:Sto}{Q:DK}{x:D}(h:Cok P x)(q:ta st fun ds st1=>G4 P G n x ds st1 Q):G2 (Zg P G n) ta st Q x:=by
 cases x<;>first|exact h.elim|exact⟨h,q⟩|exact q
section
variable {T:Type} (subs:T→List T)
inductive Ord:List T→List T→Prop where
 |nil:Ord [] []
 |cons {S l:List T} {c:T}:Ord (S++subs c) l→Ord (S++[c]) (c::l)
inductive Rn:List T→List T→T→Prop where
 |done (t:T):Rn [] [t] t
 |step {h r:T} {l S:List T}:Rn l (S++[h]) r→Rn (h::l) (S++subs h) r
theorem bu4{S l:List T}(h:Ord subs S l):∀{l' S0:List T}{r:T},Rn subs l' (S0++S) r→Rn subs (l.reverse++l') S0 r:=by
 induction h with
 |nil=>intro l' S0 r q;simpa using q
 |@cons S l c _ ih=>
  intro l' S0 r q;rw[List.reverse_cons,List.append_assoc];refine ih ?_;rw[←List.append_assoc];refine .step ?_;rw[List.append_assoc];exact q
end
theorem U3{st st':Sto}{p:Addr}(K:Kp [] st st')(h:st' p=none):st p=none:=by
 cases z:st p with
 |none=>rfl
 |some u=>rw[K.at' z (by simp)]at h;cases h
theorem J8{W:Type}{J:W→Sto→Prop}{L:List Addr}{st st':Sto}{p:Addr}{s:W}(K:Kp L st st')(hL:∀a∈L,∃o,st a=some o)(h:st' p=none)(Js:J s st')(hJL:∀{s st},J s st→∀a∈L,∃o,st a=some o):st p=none:=by
 cases z:st p with
 |none=>rfl
 |some u=>
  by_cases hp:p∈L
  ·obtain⟨o,e⟩:=hJL Js p hp;rw[h]at e;cases e
  ·rw[K.at' z hp]at h;cases h
noncomputable def a00(st st':Sto)(d:D)(xs:List D):Prop:=d=.tup xs∨∃a,d=.ref a∧st a=none∧st' a=some (.lst xs)
theorem ax2{T:Type}(f:T→Nat):∀{l:List T}{c:T},c∈l→f c≤(l.map f).sum
 |a::l,c,h=>by
  rw[List.map_cons,List.sum_cons]
  rcases List.mem_cons.mp h with rfl|h
  ·omega
  ·have:=ax2 f h;omega
theorem ax3{T:Type}{size:T→Nat}{subs:T→List T}(hsz:∀t,size t=1+((subs t).map size).sum):∀l:List T,l.length≤(l.map size).sum
 |[]=>by simp
 |a::l=>by have:=hsz a;have:=ax3 hsz l;simp only[List.map_cons,List.sum_cons,List.length_cons];omega
structure PM(P:g9)(G:Gs):Prop where
 mop:P "made_of_parts"=some O1
 few:P "order_of_few"=some O2
 taken:P "taken"=some R7
 cst:G.cst "FEW"=some 2000
section
variable {P:g9} {G:Gs} (T0:PM P G) {n:Nat} {st:Sto} {Q:DK} {T:Type} {enc:T→D} {subs:T→List T} {size:T→Nat} {Good:T→Prop}
include T0
theorem by4{W:Type}{J:W→Sto→Prop}{le:W→W→Prop}{L:List Addr}(lr:∀s,le s s)(lt:∀{s t u},le s t→le t u→le s u)(hJ:∀{s st st' dn},J s st→dn∉L→Kp [dn] st st'→J s st'){s0:W}{μ:W→Nat}{B:Nat}(j0:J s0 st)(hJL:∀{s st},J s st→∀a∈L,∃o,st a=some o)(hsz:∀t,size t=1+((subs t).map size).sum)(hg:∀t,Good t→∀c∈subs t,Good c){F:D}(hF:Cok P F)(t:T)(hs:size t≤2000)(hB:μ s0+1≤B)(hgt:Good t)
  (hp:∀c st' Q s,Good c→μ s+1≤B→J s st'→Kp L st st'→(∀d s' st2,a00 st' st2 d ((subs c).map enc)→le s s'→μ s'≤μ s→J s' st2→Kp L st' st2→Q d st2)→G4 P G n F [enc c] st' Q)
  (q:∀a st' l s,st a=none→Ord subs [t] l→(∀c∈l,Good c)→st' a=some (.lst (l.map fun c=>.tup [enc c,.int (subs c).length]))→le s0 s→μ s≤μ s0→J s st'→Kp L st st'→l.length≤size t→Q (.ref a) st'):sem P G (n+1) "order_of_few" [enc t,F] st Q:=by
 have inL:∀{p:Addr},st p=none→p∉L:=fun{p}hp z=>by
  obtain⟨o,e⟩:=hJL j0 p z;rw[hp]at e;cases e
 refine i5 T0.few rfl [some (enc t),some F,none,none,none,none] rfl ?_;unfold O2;walk_at "es";intro o ho;walk_at "es";intro h hh;have hoh:o≠h:=t9 g8 hh;have hsh:st h=none:=by
  cases z:st h with
  |none=>rfl
  |some u=>rw[j5 z ho]at hh;cases hh
 have hoL:=inL ho;have hhL:=inL hsh;walk_at "es";refine ba6 (fun m env st'=>∃(sw:W)(dn S:List T)(x y:Option D),env=[some (enc t),some F,some (.ref o),some (.ref h),x,y]∧st' o=some (.lst (dn.map fun c=>.tup [enc c,.int (subs c).length]))∧st' h=some (.lst (S.map enc))∧(∀l,Ord subs S l→Ord subs [t] (dn++l))∧(∀c∈dn,Good c)∧(∀c∈S,Good c)∧(S.map size).sum=m∧dn.length+m=size t∧le s0 sw∧μ sw≤μ s0∧J sw st'∧Kp L st st') ?_ _ _ _ ⟨s0,[],[t],none,none,rfl,j5 g8 hh,g8,fun l z=>z,by simp,by simpa using hgt,rfl,by simp,lr s0,Nat.le_refl _,hJ (hJ j0 hoL (Kp.refl.new ho)) hhL (Kp.refl.new hh),(Kp.refl.new ho).new hh⟩;rintro m env st' _ ⟨sw,dn,S,x,y,rfl,h1,h2,h3,gd,gS,h4,h5,hle,hμ,Js,K⟩ ih;rw[bj0];walk_at "ek";rw[A6 (.inl h2)];walk_at "ek"
 rcases ap9 S with rfl|⟨S,c,rfl⟩
 ·rw[if_neg (by simp)];walk_at "es";refine d5 (q o st' dn sw ho ?_ gd h1 hle hμ Js K (by omega));have:=h3 [] .nil;simpa using this
 ·rw[if_pos (by simp only[List.map_append,List.map_cons,List.map_nil,List.length_append,List.length_map,List.length_cons,List.length_nil];omega)];rw[List.map_append,List.map_cons,List.map_nil]at h2;simp only[List.map_append,List.map_cons,List.map_nil,List.sum_append,List.sum_cons,List.sum_nil]at h4;have sc:=hsz c;have gc:Good c:=gS c (by simp);have hlen:∀l:List T,l.length≤(l.map size).sum:=fun l=>by
   induction l with
   |nil=>simp
   |cons a l ih=>have:=hsz a;simp only[List.map_cons,List.sum_cons,List.length_cons];omega
  have hl3:=hlen S;have hl4:=hlen (subs c);walk_at "es";rw[a05 h2];have h1':d3 st' h (.lst (S.map enc)) o=some (.lst (dn.map fun c=>.tup [enc c,.int (subs c).length])):=i9 h1 hoh;walk_at "es";refine Q3 hF ?_;walk_at "ek";have K1:Kp L st (d3 st' h (.lst (S.map enc))):=fun b u nb e=>i9 (K b u nb e) (fun z=>by rw[z,hsh]at e;cases e);have J1:J sw (d3 st' h (.lst (S.map enc))):=hJ Js hhL (Kp.refl.put (by simp));refine hp c _ _ sw gc (by omega) J1 K1 fun d sw2 st2 hd hle2 hμ2 Js2 K2=>?_;have o2:=K2.at' h1' hoL;have s2:=K2.at' (g8 (st:=st') (a:=h) (o:=.lst (S.map enc))) hhL;walk_at "es";rw[A4 (.inl o2)];have hlenR:∀{R:DK},R (.int (subs c).length) st2→E3 d st2 R:=fun{R}z=>by
   rcases hd with rfl|⟨a,rfl,_,ha⟩
   ·show R _ st2;simpa using z
   ·rw[A6 (.inl ha)];simpa using z
  refine⟨trivial,hlenR ?_⟩;rw[L9 o2];refine⟨G5 (by simp only[List.length_map];omega),?_⟩;walk_at "es";have s3:d3 st2 o (.lst ((dn.map fun c=>D.tup [enc c,.int (subs c).length])++[.tup [enc c,.int (subs c).length]])) h=some (.lst (S.map enc)):=i9 s2 hoh.symm;rw[A4 (.inl s3)];have hext:∀{R:DK},R .non (d3 (d3 st2 o (.lst ((dn.map fun c=>D.tup [enc c,.int (subs c).length])++[.tup [enc c,.int (subs c).length]]))) h (.lst (S.map enc++(subs c).map enc)))→G7 (.ref h) d (d3 st2 o (.lst ((dn.map fun c=>D.tup [enc c,.int (subs c).length])++[.tup [enc c,.int (subs c).length]]))) R:=fun{R}z=>by
   rcases hd with rfl|⟨a,rfl,han,ha⟩
   ·rw[bz6 s3];exact⟨F0 (by simp only[List.length_map];omega),z⟩
   ·have nao:a≠o:=fun z=>by rw[z,h1']at han;cases han
    rw[a06 s3 (i9 ha nao)];exact⟨F0 (by simp only[List.length_map];omega),z⟩
  refine⟨trivial,hext ?_⟩;walk_at "es";rw[A6 (.inl (i9 g8 hoh))];walk_at "ek";refine⟨2000,T0.cst,?_⟩;walk_at "ek";rw[if_neg (by simp only[List.length_append,List.length_map,List.length_cons,List.length_nil];omega)];walk_at "ek";refine ih ((S++subs c).map size).sum _ _ (by simp only[List.map_append,List.sum_append];omega) ⟨sw2,dn++[c],S++subs c,_,_,rfl,?_,?_,?_,?_,?_,rfl,?_,lt hle hle2,by omega,hJ (hJ Js2 hoL (Kp.refl.put (by simp))) hhL (Kp.refl.put (by simp)),?_⟩
  ·rw[List.map_append];exact i9 g8 hoh
  ·rw[List.map_append];exact g8
  ·intro l hl;have:=h3 (c::l) (.cons hl);simpa using this
  ·intro z hz
   rcases List.mem_append.mp hz with hz|hz
   ·exact gd z hz
   ·simp at hz;rw[hz];exact gc
  ·intro z hz
   rcases List.mem_append.mp hz with hz|hz
   ·exact gS z (by simp[hz])
   ·exact hg c gc z hz
  ·simp only[List.length_append,List.length_cons,List.length_nil,List.map_append,List.sum_append];omega
  ·intro b u nb e;have eh:b≠h:=fun z=>by rw[z,hsh]at e;cases e
   have eo:b≠o:=fun z=>by rw[z,ho]at e;cases e
   exact i9 (i9 (K2.at' (K1 b u nb e) nb) eo) eh
theorem bf9{dn:Addr}{ds xs:List D}{m:Nat}(hm:xs.length=m)(hd:st dn=some (.lst (ds++xs)))(hb:xs.length≤2000)
  (q:∀a st',st a=none→a≠dn→st' a=some (.lst xs)→st' dn=some (.lst ds)→Kp [dn] st st'→Q (.ref a) st'):sem P G (n+1) "taken" [.ref dn,.int m] st Q:=by
 subst hm;refine i5 T0.taken rfl [some (.ref dn),some (.int xs.length),none,none] rfl ?_;unfold R7;walk_at "es";intro o ho;have hod:dn≠o:=t9 hd ho;walk_at "es";refine⟨⟨by omega,by omega⟩,?_⟩;refine B5 (fun l env st'=>∃(pre suf:List D)(x:Option D),xs=pre++suf∧l.length=pre.length∧(∀d∈l,∃i,d=.int i)∧env=[some (.ref dn),some (.int xs.length),some (.ref o),x]∧st' dn=some (.lst (ds++pre))∧st' o=some (.lst suf.reverse)∧Kp [dn] st st') ?_ ?_ _ _ _ ⟨xs,[],none,by simp,by simp[m8],fun d hd=>by simp[m8]at hd;obtain⟨i,_,rfl⟩:=hd;exact⟨_,rfl⟩,rfl,by rw[j5 hd ho],g8,Kp.refl.new ho⟩
 ·rintro env st' ⟨pre,suf,x,e,hl,_,rfl,h1,h2,K⟩;have:pre=[]:=by simpa using hl.symm
  subst this;simp only[List.nil_append]at e;subst e;refine⟨trivial,?_⟩;walk_at "es";rw[b50 h2];walk_at "es";refine d5 (q o _ ho (fun z=>hod z.symm) ?_ (i9 (by simpa using h1) hod) fun b u nb e=>i9 (K b u nb e) (fun z=>by rw[z,ho]at e;cases e));rw[g8,List.reverse_reverse]
 ·rintro d0 dl env st' ih ⟨pre,suf,x,e,hl,hi,rfl,h1,h2,K⟩;obtain⟨i,rfl⟩:=hi d0 (by simp)
  rcases ap9 pre with rfl|⟨pre,c,rfl⟩
  ·simp at hl
  refine⟨trivial,?_⟩;walk_at "ek";walk_at "es";rw[A4 (.inl h2),a05 (by rw[h1,List.append_assoc]:st' dn=some (.lst ((ds++pre)++[c])))];have h2':d3 st' dn (.lst (ds++pre)) o=some (.lst suf.reverse):=i9 h2 hod.symm;rw[L9 h2'];have hle:suf.length≤xs.length:=by rw[e];simp;omega
  refine⟨trivial,G5 (by rw[List.length_reverse];omega),?_⟩;walk_at "ek";refine ih _ _ ⟨pre,c::suf,_,by rw[e];simp,by simp at hl ⊢;omega,fun d hd=>hi d (by simp[hd]),rfl,i9 g8 hod,by rw[g8,List.reverse_cons],fun b u nb e=>i9 (i9 (K b u nb e) (fun z=>nb (by simp[z]))) (fun z=>by rw[z,ho]at e;cases e)⟩
theorem bk3{W:Type}{J:W→Sto→Prop}{le:W→W→Prop}{L:List Addr}(lr:∀s,le s s)(lt:∀{s t u},le s t→le t u→le s u)(hJ:∀{s st st' dn},J s st→dn∉L→Kp [dn] st st'→J s st')(hsz:∀t,size t=1+((subs t).map size).sum)(hg:∀t,Good t→∀c∈subs t,Good c){F M:D}(hF:Cok P F)(hM:Cok P M)(t:T)(hs:size t≤2000)(hgt:Good t){V:Addr→W→T→D→Sto→Prop}(hV:∀{dn s s' k d st st'},V dn s k d st→le s s'→Kp (dn::L) st st'→V dn s' k d st')
  {s0:W} {μ:W→Nat} {B:Nat} (hB:μ s0+size t≤B) (j0:J s0 st) (hJL:∀{s st},J s st→∀a∈L,∃o,st a=some o)
  (hp:∀c st' Q s,Good c→μ s+1≤B→J s st'→Kp L st st'→(∀d s' st2,a00 st' st2 d ((subs c).map enc)→le s s'→μ s'≤μ s→J s' st2→Kp L st' st2→Q d st2)→G4 P G n F [enc c] st' Q)
  (hm:∀c dn la st' Q ds s,Good c→μ s+1≤B→J s st'→Kp L st st'→st dn=none→la∉L→la≠dn→st la=none→st' la=some (.lst ds)→ds.length=(subs c).length→(∀(i:Nat)c' d,(subs c)[i]?=some c'→ds[i]?=some d→V dn s c' d st')→(∃xs,st' dn=some (.lst xs))→(∀d s' st2,V dn s' c d st2→le s s'→μ s'≤μ s+1→J s' st2→Kp L st' st2→Q d st2)→G4 P G (n+1) M [enc c,.ref la] st' Q)
  (q:∀dn d s' st',st dn=none→V dn s' t d st'→le s0 s'→μ s'≤B→J s' st'→Kp L st st'→Q d st'):sem P G (n+2) "made_of_parts" [enc t,F,M] st Q:=by
 have hL:=hJL j0;refine i5 T0.mop rfl [some (enc t),some F,some M,none,none,none,none] rfl ?_;unfold O1;walk_at "es";refine⟨by rw[T0.few];rfl,by4 T0 (Good:=fun c=>Good c∧size c≤2000) (J:=J) (s0:=s0) lr lt hJ (μ:=μ) (B:=B) j0 hJL hsz (fun c gc c' hc'=>⟨hg c gc.1 c' hc',Nat.le_trans (ax2 size hc') (by have:=hsz c;have:=gc.2;omega)⟩) hF t hs (by have:=hsz t;omega) ⟨hgt,hs⟩ (fun c st' Q s gc=>hp c st' Q s gc.1) fun oa st1 l s1 hoa0 hord gl hoa hle1 hμ1 Js1 K1 hl=>?_⟩;walk_at "es";refine .inr ⟨nofun,?_⟩;walk_at "ek";walk_at "es";intro dn hdn;have hod:oa≠dn:=t9 hoa hdn;have hdn0:st dn=none:=J8 K1 hL hdn Js1 hJL;have hdL:dn∉L:=fun z=>by obtain⟨o,e⟩:=hL dn z;rw[hdn0]at e;cases e
 have hoL:oa∉L:=fun z=>by obtain⟨o,e⟩:=hL oa z;rw[hoa0]at e;cases e
 walk_at "es";refine⟨_,.inl (j5 hoa hdn),?_⟩;rw[←List.map_reverse];have K1':Kp L st (d3 st1 dn (.lst [])):=K1.new hdn;have J1:J s1 (d3 st1 dn (.lst [])):=hJ Js1 hdL (Kp.refl.new hdn);have kdn:∀(u:Ob)(st2:Sto),Kp L st st2→Kp L st (d3 st2 dn u):=fun u st2 K b o nb e=>i9 (K b o nb e) (fun z=>by rw[z,hdn0]at e;cases e);refine B5 (fun ll env st'=>∃(s:W)(d9 S:List T)(ds:List D)(x5 x6:Option D),ll=d9.map (fun c=>D.tup [enc c,.int (subs c).length])∧(∀c∈d9,Good c∧size c≤2000)∧Rn subs d9 S t∧env=[some (enc t),some F,some M,some (.ref oa),some (.ref dn),x5,x6]∧st' dn=some (.lst ds)∧ds.length=S.length∧S.length+d9.length≤100000∧(∀(i:Nat)c d,S[i]?=some c→ds[i]?=some d→V dn s c d st')∧st' oa=some (.lst (l.map fun c=>.tup [enc c,.int (subs c).length]))∧J s st'∧le s0 s∧μ s+d9.length≤B∧Kp L st st') ?_ ?_ _ _ _ ⟨s1,l.reverse,[],[],none,none,rfl,fun c hc=>gl c (by simpa using hc),by simpa using bu4 subs hord (.done t) (S0:=[]) ,rfl,g8,rfl,by simp;omega,by simp,j5 hoa hdn,J1,hle1,by rw[List.length_reverse];omega,K1'⟩
 ·rintro env st' ⟨s,d9,S,ds,x5,x6,el,_,hr,rfl,hd,hl',_,hv,hoa',Js,hle,hμ,K⟩;have es:d9=[]:=by simpa using el.symm
  subst es;refine⟨.inl hoa',?_⟩;cases hr;obtain⟨d,rfl⟩:∃d,ds=[d]:=by match ds,hl' with|[d],_=>exact⟨d,rfl⟩
  walk_at "es";rw[M8 (.inl hd)];exact⟨d,rfl,d5 (q dn d s st' hdn0 (hv 0 t d rfl rfl) hle (by omega) Js K)⟩
 ·rintro d0 dl env st' ih ⟨s,d9,S,ds,x5,x6,el,hin,hr,rfl,hd,hl',hb,hv,hoa',Js,hle,hμ,K⟩;refine⟨.inl hoa',?_⟩;cases d9 with
  |nil=>simp at el
  |cons h d9=>
   simp only[List.map_cons,List.cons.injEq]at el;obtain⟨rfl,rfl⟩:=el;simp only[List.length_cons]at hb hμ;have gh:Good h:=(hin h (by simp)).1;cases hr with
   |@step _ _ _ S hr=>
   simp only[List.length_append]at hl' hb;obtain⟨ds,xs,rfl,hlS,hlx⟩:∃ds' xs,ds=ds'++xs∧ds'.length=S.length∧xs.length=(subs h).length:=⟨ds.take S.length,ds.drop S.length,(List.take_append_drop _ _).symm,by rw[List.length_take];omega,by rw[List.length_drop];omega⟩;have hss:(subs h).length≤2000:=by
    have h1:=(hin h (by simp)).2;have h2:=hsz h;have h3:=ax3 hsz (subs h);omega
   have vx:∀(i:Nat)c' d,(subs h)[i]?=some c'→xs[i]?=some d→V dn s c' d st':=fun i c' d e1 e2=>hv (S.length+i) c' d (by rw[List.getElem?_append_right (by omega)];rw[show S.length+i-S.length=i by omega];exact e1) (by rw[List.getElem?_append_right (by omega),hlS];rw[show S.length+i-S.length=i by omega];exact e2);have vS:∀(i:Nat)c' d,S[i]?=some c'→ds[i]?=some d→V dn s c' d st':=fun i c' d e1 e2=>hv i c' d (by rw[List.getElem?_append_left (List.getElem?_eq_some_iff.mp e1).1];exact e1) (by rw[List.getElem?_append_left (List.getElem?_eq_some_iff.mp e2).1];exact e2);have main:∀la st2,la∉L→la≠dn→st la=none→st2 la=some (.lst xs)→st2 dn=some (.lst ds)→Kp [dn] st' st2→G4 P G (n+1) M [enc h,.ref la] st2 fun d st3=>N1 (.ref dn) d st3 fun _ st4=>n0 (fun st'=>rdS st' oa (l.map fun c=>.tup [enc c,.int (subs c).length])) (.tup [5,6]) (e9 (Zg P G (n+1)) (.cons (.ex (.app (.v 4) (.callv 2 (.cons (.v 5) (.cons (.ite (.cmp .Gt (.v 6) (.int 0)) (.call "taken" (.cons (.v 4) (.cons (.v 6) .nil))) (.lst .nil)) .nil))))) .nil)) ⟨e9 (Zg P G (n+1)) (.cons (.ret (.ix (.v 4) (.int 0))) .nil) (g7 Q),(g7 Q).rt,(g7 Q).bk,(g7 Q).ct⟩ (d9.map fun c=>D.tup [enc c,.int (subs c).length]) [some (enc t),some F,some M,some (.ref oa),some (.ref dn),some (enc h),some (.int (subs h).length)] st4:=fun la st2 hla hne hl0 hl2 hd2 K2=>by
    have KK:Kp L st st2:=fun b u nb e=>K2.at' (K b u nb e) (by simp;exact fun z=>by rw[z,hdn0]at e;cases e);refine hm h dn la st2 _ xs s gh (by omega) (hJ Js hdL K2) KK hdn0 hla hne hl0 hl2 hlx (fun i c' d e1 e2=>hV (vx i c' d e1 e2) (lr s) (K2.more (by simp))) ⟨_,hd2⟩ fun d s' st3 vd hle' hμ' Js' K3=>?_;have hd3:=K3.at' hd2 hdL;rw[L9 hd3];refine⟨G5 (by omega),?_⟩;refine ih _ _ ⟨s',d9,S++[h],ds++[d],_,_,rfl,fun c hc=>hin c (by simp[hc]),hr,rfl,g8,by simp[hlS],by simp;omega,fun i c' d' e1 e2=>?_,i9 (K3.at' (K2.at' hoa' (by simpa using hod)) hoL) hod,hJ Js' hdL (Kp.refl.put (by simp)),lt hle hle',by omega,kdn _ _ (KK.trans K3)⟩
    by_cases hi:i<S.length
    ·rw[List.getElem?_append_left hi]at e1;rw[List.getElem?_append_left (by omega)]at e2;exact hV (hV (hV (vS i c' d' e1 e2) (lr s) (K2.more (by simp))) hle' (K3.more (by intro x hx;simp[hx]))) (lr s') (Kp.refl.put (by simp))
    ·rw[List.getElem?_append_right (by omega)]at e1;rw[List.getElem?_append_right (by omega)]at e2;have hi0:i-S.length=0:=by
      have:=(List.getElem?_eq_some_iff.mp e1).1;simp at this;omega
     rw[hi0]at e1;rw[show i-ds.length=0 by omega]at e2;cases e1;cases e2;exact hV vd (lr s') (Kp.refl.put (by simp))
   have inL:∀{p:Addr},st' p=none→p∉L:=fun{p}hp z=>by
    obtain⟨o,e⟩:=hJL Js p z;rw[hp]at e;cases e
   walk_at "ek";walk_at "es";rw[A4 (.inl hd)];refine⟨trivial,Q3 hM ?_⟩;walk_at "ek"
   by_cases h0:(subs h).length=0
   ·rw[if_neg (by omega)];intro la hla;have exs:xs=[]:=List.eq_nil_of_length_eq_zero (by omega);subst exs;exact main la _ (inL hla) (t9 hd hla).symm (J8 K hL hla Js hJL) g8 (j5 (by simpa using hd) hla) (Kp.refl.new hla)
   ·rw[if_pos (by omega)];refine⟨by rw[T0.taken];rfl,?_⟩;exact bf9 T0 hlx hd (by omega) fun la st2 hla hne hl2 hd2 K2=>main la st2 (inL hla) hne (J8 K hL hla Js hJL) hl2 hd2 K2
end
end Ek
namespace Ek
open PySem
noncomputable def P1:Def:=⟨1,["program"],
 (.cons (.ret (.list (.sl (.v 0) (.gsel "INNER_FROM" (.ix (.v 0) (.int 0))) .non)))
 .nil)⟩
noncomputable def E4:Def:=⟨2,["program","parts"],
 (.cons (.ret (.bin .Add (.sl (.v 0) .non (.gsel "INNER_FROM" (.ix (.v 0) (.int 0)))) (.tuple (.v 1))))
 .nil)⟩
noncomputable def N8:Def:=⟨2,["program","number"],
 (.cons (.ret (.ite (.cmp .In (.v 1) (.gget "UNDER_ONE_MORE" (.ix (.v 0) (.int 0)) (.tup .nil))) (.int 1) (.int 0)))
 .nil)⟩
noncomputable def O5:Def:=⟨3,["program","many","least","changed","!least","!many","!"],
 (.cons (.iff (.cmp .Eq (.v 1) (.int 0))
   (.cons (.ret (.v 0))
  .nil)
   .nil)
 (.cons (.dfn 3 2 ["part","under","least","many"] [2,1]
   (.cons (.iff (.and (.cmp .Eq (.ix (.v 0) (.int 0)) (.str "name")) (.and (.cmp .GtE (.ix (.v 0) (.int 1)) (.v 1)) (.cmp .GtE (.bin .Sub (.ix (.v 0) (.int 1)) (.v 1)) (.v 2))))
    (.cons (.ret (.tup (.cons (.str "name") (.cons (.bin .Add (.ix (.v 0) (.int 1)) (.v 3)) .nil))))
   .nil)
    .nil)
  (.cons (.ret .non)
  .nil)))
 (.cons (.ret (.call "with_parts" (.cons (.v 0) (.cons (.v 3) .nil))))
 .nil)))⟩
noncomputable def O4:Def:=⟨2,["program","other","copies","changed","!copies","!other","!"],
 (.cons (.pre 2)
 (.cons (.dfn 3 2 ["part","under","copies","other"] [2,1]
   (.cons (.iff (.or (.cmp .NotEq (.ix (.v 0) (.int 0)) (.str "name")) (.cmp .Lt (.ix (.v 0) (.int 1)) (.v 1)))
    (.cons (.ret .non)
   .nil)
    .nil)
  (.cons (.iff (.cmp .Eq (.ix (.v 0) (.int 1)) (.v 1))
    (.cons (.ret (.call "copy_under" (.cons (.v 2) (.cons (.v 3) (.cons (.v 1) .nil)))))
   .nil)
    .nil)
  (.cons (.ret (.tup (.cons (.str "name") (.cons (.bin .Sub (.ix (.v 0) (.int 1)) (.int 1)) .nil))))
  .nil))))
 (.cons (.ret (.call "with_parts" (.cons (.v 0) (.cons (.v 3) .nil))))
 .nil)))⟩
noncomputable def N9:Def:=⟨3,["copies","program","under"],
 (.cons (.iff (.cmp .NotIn (.v 2) (.v 0))
   (.cons (.iput (.v 0) (.v 2) (.call "lifted" (.cons (.v 1) (.cons (.v 2) (.cons (.int 0) .nil)))))
  .nil)
   .nil)
 (.cons (.ret (.ix (.v 0) (.v 2)))
 .nil))⟩
noncomputable def O0:Def:=⟨2,["program","changed","parts_of","made","!changed","!"],
 (.cons (.dfn 2 1 ["here","changed"] [1]
   (.cons (.ret (.ite (.notN (.callv 1 (.cons (.ix (.v 0) (.int 0)) (.cons (.ix (.v 0) (.int 1)) .nil)))) (.lst .nil) (.call "inner_under" (.cons (.v 0) .nil))))
  .nil))
 (.cons (.dfn 3 2 ["here","parts","changed","other"] [1]
   (.cons (.set 3 (.ite (.cmp .Eq (.len (.v 1)) (.int 0)) (.callv 2 (.cons (.ix (.v 0) (.int 0)) (.cons (.ix (.v 0) (.int 1)) .nil))) .non))
  (.cons (.iff (.any (.comp ["part"] [] 1 (.n 0) (.seq (.v 1)) .non (.ix (.v 0) (.int 1))))
    (.cons (.set 3 (.call "with_inner" (.cons (.ix (.v 0) (.int 0)) (.cons (.comp ["part"] [] 1 (.n 0) (.seq (.v 1)) .non (.ix (.v 0) (.int 0))) .nil))))
   .nil)
    .nil)
  (.cons (.ret (.ite (.isN (.v 3)) (.tup (.cons (.ix (.v 0) (.int 0)) (.cons (.bl false) .nil))) (.tup (.cons (.v 3) (.cons (.bl true) .nil)))))
  .nil))))
 (.cons (.ret (.ix (.call "made_of_parts" (.cons (.tup (.cons (.v 0) (.cons (.int 0) .nil))) (.cons (.v 2) (.cons (.v 3) .nil)))) (.int 0)))
 .nil)))⟩
noncomputable def N7:Def:=⟨1,["here","part"],
 (.cons (.set 1 (.ix (.v 0) (.int 0)))
 (.cons (.ret (.comp ["here","part","number","one"] [0,1] 2 (.tup [2,3]) (.enum (.call "inner" (.cons (.v 1) .nil))) .non (.tup (.cons (.v 3) (.cons (.bin .Add (.ix (.v 0) (.int 1)) (.call "names_more" (.cons (.v 1) (.cons (.v 2) .nil)))) .nil)))))
 .nil))⟩
noncomputable def J5:Def:=⟨1,["_law_script","_law_deck_here","_law_names_here","_law_program_here","_law_ahead","_law_other","_law_holder","_law_many","_law_more","_law_least_here","_law_there"],
 (.cons (.set 1 (.call "_law_deck" (.cons (.v 0) .nil)))
 (.cons (.set 2 (.call "_law_names" (.cons (.v 1) (.cons (.int 3) (.cons (.int 64) .nil)))))
 (.cons (.set 3 (.call "_law_program" (.cons (.v 1) (.cons (.call "_law_kind" (.cons (.v 1) (.cons (.int 3) (.cons (.int 16) .nil)))) (.cons (.v 2) (.cons (.bin .Add (.int 4) (.call "_law_next" (.cons (.v 1) (.cons (.int 30) .nil)))) .nil))))))
 (.cons (.set 4 (.call "_law_kind" (.cons (.v 1) (.cons (.int 2) (.cons (.int 9) .nil)))))
 (.cons (.set 5 (.call "_law_program" (.cons (.v 1) (.cons (.v 4) (.cons (.v 2) (.cons (.bin .Add (.int 2) (.call "_law_next" (.cons (.v 1) (.cons (.int 12) .nil)))) .nil))))))
 (.cons (.set 6 (.call "_law_program" (.cons (.v 1) (.cons (.call "_law_kind" (.cons (.v 1) (.cons (.int 3) (.cons (.int 16) .nil)))) (.cons (.bin .Add (.tup (.cons (.v 4) .nil)) (.v 2)) (.cons (.bin .Add (.int 4) (.call "_law_next" (.cons (.v 1) (.cons (.int 30) .nil)))) .nil))))))
 (.cons (.set 7 (.bin .Add (.int 1) (.call "_law_next" (.cons (.v 1) (.cons (.int 5) .nil)))))
 (.cons (.set 8 (.bin .Add (.int 1) (.call "_law_next" (.cons (.v 1) (.cons (.int 5) .nil)))))
 (.cons (.set 9 (.call "_law_next" (.cons (.v 1) (.cons (.bin .Add (.len (.v 2)) (.int 1)) .nil))))
 (.cons (.iff (.or (.cmp .NotEq (.call "put_in" (.cons (.call "lifted" (.cons (.v 3) (.cons (.int 1) (.cons (.int 0) .nil)))) (.cons (.v 5) .nil))) (.v 3)) (.cmp .NotEq (.call "put_in" (.cons (.call "lifted" (.cons (.v 6) (.cons (.int 1) (.cons (.int 1) .nil)))) (.cons (.tup (.cons (.str "name") (.cons (.int 0) .nil))) .nil))) (.v 6)))
   (.cons (.ret (.bl false))
  .nil)
   .nil)
 (.cons (.set 10 (.call "put_in" (.cons (.call "lifted" (.cons (.v 6) (.cons (.v 7) (.cons (.bin .Add (.v 9) (.int 1)) .nil)))) (.cons (.call "lifted" (.cons (.v 5) (.cons (.v 7) (.cons (.v 9) .nil)))) .nil))))
 (.cons (.iff (.cmp .NotEq (.call "lifted" (.cons (.call "put_in" (.cons (.v 6) (.cons (.v 5) .nil))) (.cons (.v 7) (.cons (.v 9) .nil)))) (.v 10))
   (.cons (.ret (.bl false))
  .nil)
   .nil)
 (.cons (.iff (.cmp .NotEq (.call "lifted" (.cons (.call "lifted" (.cons (.v 3) (.cons (.v 7) (.cons (.v 9) .nil)))) (.cons (.v 8) (.cons (.v 9) .nil)))) (.call "lifted" (.cons (.v 3) (.cons (.bin .Add (.v 7) (.v 8)) (.cons (.v 9) .nil)))))
   (.cons (.ret (.bl false))
  .nil)
   .nil)
 (.cons (.ret (.cmp .Eq (.call "lifted" (.cons (.v 3) (.cons (.v 7) (.cons (.len (.v 2)) .nil)))) (.v 3)))
 .nil))))))))))))))⟩
noncomputable def K7:List (Str×Def):=[(("made_of_parts":Str),O1),(("order_of_few":Str),O2),(("taken":Str),R7),(("inner":Str),P1),(("with_inner":Str),E4),(("names_more":Str),N8),(("lifted":Str),O5),(("put_in":Str),O4),(("copy_under":Str),N9),(("with_parts":Str),O0),(("inner_under":Str),N7),(("_law_mixed":Str),O9),(("_law_deck":Str),v9),(("_law_next":Str),P4),(("_law_power":Str),O7),(("_law_count":Str),J0),(("_law_kind":Str),x0),(("_law_least":Str),D1),(("_law_made":Str),z7),(("_law_nest":Str),J3),(("_law_asked":Str),B3),(("_law_grown":Str),D2),(("_law_inner":Str),O6),(("_law_parts":Str),O8),(("_law_program":Str),O3),(("_law_names":Str),v8),(("law":Str),J5)]
noncomputable def K9:g9:=fun f=>K7.lookup f
noncomputable def u5:Gs:=⟨fun g=>if g="INNER_FROM" then [("name",.int 2),("star",.int 1),("pair",.int 1),("first",.int 1),("second",.int 1),("left",.int 2),("right",.int 2),("case",.int 1),("way",.int 2),("give",.int 1),("let",.int 1),("never",.int 2)]else if g="UNDER_ONE_MORE" then [("case",.tup [.int 1,.int 2]),("way",.tup [.int 0]),("let",.tup [.int 1])]else [],fun c=>[],fun g=>if g="FEW" then some 2000 else none⟩
end Ek
namespace Ek
open PySem L2
set_option hygiene false
local macro_rules | `(tactic| walk_at "ek")=>`(tactic| try simp only [aa2,ac2,U8,aa6,ag3,Y7,Z5,W8,ac4,U1,W3,Z9,aa1,af3,M3,ad3,e_v,ab4,ac1,ac7,Z6,Z3,ad8,X1,ac6,ae7,ab6,ae0,ae8,af0,ad4,U5,R9,T8,ab3,Q8,S6,R0,X8,Q6,T4,T3,U0,W1,R8,Q4,U7,W9,Y9,aa9,S9,ab1,W7,T1,ab0,X3,T6,ac3,V2,ae2,Q1,J4,ag8,W5,W0,ad1,ab2,S1,Z7,Y6,X7,U4,V5,X0,T2,ad2,aa3,V9,X6,ab5,af7,ag2,af9,ae9,aa4,ag5,ad6,X2,aa8,W2,ag9,ag6,af6,or_false,false_or,X5,Y1,Y0,X4,L1,V0,V3,aa0,ac0,Z4,ad0,ac5,Z0,Z1,ab7,N4,ae1,af2,ac9,af1,af8,ag0,af4,ae4,Y8,V4,Z2,ad5,Y2,S5,Q0,Y4,U2,V7,L7,W4,P2,P3,Z8,V8,List.set_cons_zero,List.set_cons_succ,List.getElem?_cons_zero,List.getElem?_cons_succ,decide_eq_true_eq,Bool.not_eq_true',decide_eq_false_iff_not,if_true,if_false,true_and,and_true,Bool.false_eq_true,Bool.true_eq_false,List.length_cons,List.length_nil,String.reduceEq,decide_true,decide_false,Bool.not_true,Bool.not_false])
set_option hygiene true
set_option hygiene false
local macro_rules | `(tactic| walk_at "es")=>`(tactic| ((try dsimp only);rw [Y3];walk_at "ek"))
set_option hygiene true
structure PNm(P:g9)(G:Gs):Prop extends PM P G where
 inner:P "inner"=some P1
 winner:P "with_inner"=some E4
 more:P "names_more"=some N8
 lift:P "lifted"=some O5
 put:P "put_in"=some O4
 copy:P "copy_under"=some N9
 wparts:P "with_parts"=some O0
 under:P "inner_under"=some N7
 tab:G.tab "INNER_FROM"=b41
 tab2:G.tab "UNDER_ONE_MORE"=b31
noncomputable def u3(c:Pg×Nat):D:=.tup [c.1.d,.int c.2]
noncomputable def C8(f:Nat→Nat→Option Pg):Pg→Nat→D
 |.name n,u=>match f n u with
  |some r=>r.d
  |none=>.non
 |_,_=>.non
theorem by1{p:Pg}:p.d≠.non:=by cases p<;>exact nofun
theorem bf2{f:Nat→Nat→Option Pg}{p:Pg}{u:Nat}(h:C8 f p u≠.non):p.kids=[]:=by
 cases p<;>first|rfl|exact absurd rfl h
theorem bi7{f:Nat→Nat→Option Pg}{p:Pg}{u:Nat}(h:p.kids=[]):(C8 f p u=.non∧p.mp f u=p∧p.chd f u=false)∨(C8 f p u=(p.mp f u).d∧p.chd f u=true):=by
 cases p<;>first|(cases h;done)|skip
 case name n=>
  simp only[C8,Pg.mp,Pg.chd];cases f n u with
  |none=>exact .inl ⟨rfl,rfl,rfl⟩
  |some r=>exact .inr ⟨rfl,rfl⟩
 case star=>exact .inl ⟨rfl,rfl,rfl⟩
section
variable {P:g9} {G:Gs} (J:PNm P G) {n:Nat} {st:Sto} {Q:DK}
include J
theorem bb5(p:Pg)(q:∀a,st a=none→Q (.ref a) (d3 st a (.lst (p.kids.map Pg.d)))):sem P G (n+1) "inner" [p.d] st Q:=by
 refine i5 J.inner rfl [some p.d] rfl ?_;unfold P1;cases p<;>simp only[Pg.d]
 all_goals
  walk_at "es";refine⟨by show G.tab "INNER_FROM"≠[];rw[J.tab];exact fun z=>(by cases z),?_⟩;simp only[J.tab];refine⟨_,rfl,_,rfl,by decide,fun a ha=>d5 (q a ha)⟩
theorem bg1{p:Pg}{l:List Pg}{a:Addr}(h:rdS st a (l.map Pg.d))(hl:l.length=p.kids.length)(h0:p.kids≠[])(q:Q (p.withKids l).d st):sem P G (n+1) "with_inner" [p.d,.ref a] st Q:=by
 refine i5 J.winner rfl [some p.d,some (.ref a)] rfl ?_;unfold E4;revert h0 h q;refine Pg.with_cases (motive:=fun p l=>rdS st a (l.map Pg.d)→p.kids≠[]→Q (p.withKids l).d st→e9 (Zg P G n) E4.body (g7 Q) [some p.d,some (.ref a)] st) ?_ ?_ ?_ ?_ ?_ ?_ ?_ ?_ ?_ ?_ ?_ ?_ p l hl
 ·intro k h h0 q;exact absurd rfl h0
 ·intro h h0 q;exact absurd rfl h0
 all_goals
  intros
  rename_i h h0 q;simp only[Pg.d,E4];walk_at "es";refine⟨by show G.tab "INNER_FROM"≠[];rw[J.tab];exact fun z=>(by cases z),?_⟩;simp only[J.tab];refine⟨_,rfl,_,rfl,by decide,?_⟩;rw[aw5 h];walk_at "ek";exact⟨F0 (Nat.le_trans (Nat.add_le_add_right bo7 _) (by simp only[List.length_cons,List.length_nil,List.length_map];decide)),d5 q⟩
omit J in
theorem S7{i:Int}{js:List Int}{st:Sto}{Q:DK}(q:Q (.bl (decide (i∈js))) st):o9 .In (.int i) (.tup (js.map D.int)) st Q:=by
 have hp:∀l:List Int,D.pures (l.map D.int)=true:=fun l=>by
  induction l with
  |nil=>rfl
  |cons a l ih=>rw[List.map_cons,z6,ih];rfl
 have ha:∀l:List Int,((l.map D.int).any fun y=>deq y (.int i))=decide (i∈l):=fun l=>by
  induction l with
  |nil=>rfl
  |cons a l ih=>
   rw[List.map_cons,List.any_cons,ih,T9];simp only[List.mem_cons,Bool.decide_or]
   congr 1;exact decide_eq_decide.mpr ⟨Eq.symm,Eq.symm⟩
 rw[N4,ha];exact⟨rfl,hp js,by rw[F1];decide,q⟩
theorem bn7(p:Pg)(i:Nat)(q:Q (.int (p.more i:Nat)) st):sem P G (n+1) "names_more" [p.d,.int i] st Q:=by
 refine i5 J.more rfl [some p.d,some (.int i)] rfl ?_;unfold N8;cases p<;>simp only[Pg.d]
 all_goals
  walk_at "es";refine⟨by show G.tab "UNDER_ONE_MORE"≠[];rw[J.tab2];exact fun z=>(by cases z),?_⟩;simp only[J.tab2];refine⟨_,rfl,?_⟩
 case case=>
  refine S7 (js:=[1,2]) ?_;walk_at "ek"
  by_cases h:i=1∨i=2
  ·rw[if_pos (by simp;omega)];simp only[Pg.more,if_pos h]at q;exact d5 q
  ·rw[if_neg (by simp;omega)];simp only[Pg.more,if_neg h]at q;exact d5 q
 case way=>
  refine S7 (js:=[0]) ?_;walk_at "ek"
  by_cases h:i=0
  ·rw[if_pos (by simp;omega)];simp only[Pg.more,if_pos h]at q;exact d5 q
  ·rw[if_neg (by simp;omega)];simp only[Pg.more,if_neg h]at q;exact d5 q
 case lets=>
  refine S7 (js:=[1]) ?_;walk_at "ek"
  by_cases h:i=1
  ·rw[if_pos (by simp;omega)];simp only[Pg.more,if_pos h]at q;exact d5 q
  ·rw[if_neg (by simp;omega)];simp only[Pg.more,if_neg h]at q;exact d5 q
 all_goals
  refine S7 (js:=[]) ?_;walk_at "ek";rw[if_neg (by simp)];exact d5 q
theorem be7(p:Pg)(u:Nat)(hn:2≤n)(q:∀a st',st a=none→st' a=some (.lst ((p.kidsU u).map u3))→Kp [] st st'→Q (.ref a) st'):sem P G n "inner_under" [u3 (p,u)] st Q:=by
 obtain⟨n,rfl⟩:∃m,n=m+2:=⟨n-2,by omega⟩;refine i5 J.under rfl [some (u3 (p,u)),none] rfl ?_;unfold N7 u3;walk_at "es";walk_at "es";refine⟨by rw[J.inner];rfl,bb5 J p fun a ha=>?_⟩;walk_at "ek";refine⟨_,.inl g8,by rw[ah1,List.length_map];cases p<;>simp only[Pg.kids,List.length_cons,List.length_nil]<;>decide,?_⟩;refine J6 (fun l acc env' st'=>st'=d3 st a (.lst (p.kids.map Pg.d))∧∃(pre suf:List Pg)(x y:Option D),p.kids=pre++suf∧l=j2 pre.length (suf.map Pg.d)∧env'=[some (.tup [p.d,.int u]),some p.d,x,y]∧acc=(pre.mapIdx fun i c=>u3 (c,u+p.more i))) ?_ ?_ _ _ _ _ ⟨rfl,[],p.kids,none,none,rfl,rfl,rfl,rfl⟩
 ·rintro acc env' st' ⟨rfl,pre,suf,x,y,ek,el,rfl,rfl⟩;refine⟨.inl g8,fun b hb=>d5 (q b _ ?_ ?_ ((Kp.refl.new ha).new hb))⟩
  ·exact U3 (Kp.refl.new ha) hb
  ·cases suf with
   |cons c suf=>simp[j2]at el
   |nil=>
    rw[List.append_nil]at ek;rw[g8,←ek];unfold Pg.kidsU;exact congrArg (fun l=>some (Ob.lst l)) (List.ext_getElem? fun i=>by simp only[List.getElem?_map,List.getElem?_mapIdx,Option.map_map];rfl)
 ·rintro d ds acc env' st' ih ⟨rfl,pre,suf,x,y,ek,el,rfl,rfl⟩;refine⟨.inl g8,?_⟩;cases suf with
  |nil=>simp[j2]at el
  |cons c suf=>
   simp only[List.map_cons,j2,List.cons.injEq]at el;obtain⟨rfl,rfl⟩:=el;walk_at "ek";refine⟨by rw[J.more];rfl,bn7 J p pre.length ?_⟩;walk_at "ek";refine ih _ _ _ ⟨rfl,pre++[c],suf,_,_,by rw[ek];simp,by simp,rfl,?_⟩;rw[List.mapIdx_append];simp[u3]
end
theorem ai4{chk:Sto→Prop}{i:Nat}{tc:DB}{te:DT}{R:List D→Sto→Prop}{st:Sto}{f:D→D}(Ok:d8→Prop){M:List D}(hset:∀env d,Ok env→Ok (env.set i (some d)))(htc:∀env K,K true st→tc env st K)(hte:∀env d K,d∈M→Ok env→K (f d) st→te (env.set i (some d)) st K)(hc:chk st):
  ∀(ds acc:List D)(env:d8),(∀d∈ds,d∈M)→Ok env→R (acc++ds.map f) st→r8 chk (.n i) tc te R ds acc env st
 |[],acc,env,_,hE,hR=>by rw[as9];exact⟨hc,by simpa using hR⟩
 |d::ds,acc,env,hM,hE,hR=>by
  rw[ar2,L7];refine⟨hc,htc _ _ ?_⟩;rw[if_pos rfl];exact hte env d _ (hM d (by simp)) hE (ai4 Ok hset htc hte hc ds (acc++[f d]) _ (fun x hx=>hM x (by simp[hx])) (hset env d hE) (by simpa using hR))
theorem bx6{T:Type}{ds:List D}{l:List T}{g:T→D}(hl:ds.length=l.length)(hv:∀(i:Nat)c d,l[i]?=some c→ds[i]?=some d→d=g c):ds=l.map g:=by
 refine List.ext_getElem? fun i=>?_;rw[List.getElem?_map]
 by_cases h:i<l.length
 ·rw[List.getElem?_eq_getElem h,List.getElem?_eq_getElem (show i<ds.length by omega)];exact congrArg some (hv i _ _ (List.getElem?_eq_getElem h) (List.getElem?_eq_getElem (by omega)))
 ·rw[List.getElem?_eq_none (by omega),List.getElem?_eq_none (by omega)];rfl
section
variable {P:g9} {G:Gs} (J:PNm P G) {n:Nat} {st:Sto} {Q:DK}
include J
theorem ar7{C:D}{f:Nat→Nat→Option Pg}{L:List Addr}{Jv:Sto→Prop}(hC:Cok P C)(hJ:∀{st st':Sto}{K:List Addr},Jv st→(∀a∈L,a∉K)→Kp K st st'→Jv st')(hJL:∀{st},Jv st→∀a∈L,∃o,st a=some o){p:Pg}(hp:p.parts≤2000){m:Nat}(hm:p.hgt≤m)(hn:6≤n)(j0:Jv st)
  (hc:∀(k:Nat)(c:Pg)(u:Nat)st' Q,n≤k+4→u+c.hgt≤m→Jv st'→Kp L st st'→(∀st2,Jv st2→Kp L st' st2→Q (C8 f c u) st2)→G4 P G k C [c.d,.int u] st' Q)
  (q:∀st',Jv st'→Kp L st st'→Q (p.mp f 0).d st'):sem P G n "with_parts" [p.d,C] st Q:=by
 obtain⟨n,rfl⟩:∃m,n=m+4:=⟨n-4,by omega⟩;have jn:∀{st:Sto}{a:Addr}{o:Ob},Jv st→st a=none→Jv (d3 st a o):=fun h ha=>hJ (K:=[]) h (by simp) (Kp.refl.new ha);refine i5 J.wparts rfl [some p.d,some C,none,none,none,none] rfl ?_;unfold O0;walk_at "es";walk_at "es";walk_at "es";refine⟨by rw[J.mop];rfl,?_⟩;refine bk3 J.toPM (n:=n+1) (T:=Pg×Nat) (enc:=u3) (subs:=fun c=>c.1.kidsU c.2) (size:=fun c=>c.1.parts) (Good:=fun c=>c.2+c.1.hgt≤m) (W:=Unit) (J:=fun _=>Jv) (le:=fun _ _=>True) (L:=L) (fun _=>trivial) (fun _ _=>trivial) (fun{_ _ _ dn}h hd K=>hJ h (fun a ha z=>by simp at z;subst z;exact hd ha) K) (fun c=>Pg.parts_U c.1 c.2) (fun c gc c' hc'=>Nat.le_trans (Pg.hgt_U c.1 c.2 c' hc') gc) (show Cok P (.clo _ _ _ _) from trivial) (show Cok P (.clo _ _ _ _) from trivial) (p,0) hp (by show 0+p.hgt≤m;omega) (V:=fun _ _ c d _=>d=.tup [(c.1.mp f c.2).d,.bl (c.1.chd f c.2)]) (fun v _ _=>v) (s0:=()) (μ:=fun _=>0) (B:=2000) (by show 0+p.parts≤2000;omega) j0 hJL ?_ ?_ ?_
 ·rintro⟨c,u⟩ st' Q _ gc _ Js K k;refine T5 rfl [some (u3 (c,u)),some C] rfl ?_;walk_at "es";refine Q3 hC ?_;unfold u3;walk_at "ek";refine hc n c u st' _ (by omega) gc Js K fun st2 J2 K2=>?_
  by_cases hz:C8 f c u=.non
  ·refine .inl ⟨hz,?_⟩;walk_at "ek";refine⟨by rw[J.under];rfl,be7 J c u (by omega) fun a st3 ha h3 K3=>d5 (k _ () _ (.inr ⟨a,rfl,?_,h3⟩) trivial (Nat.le_refl _) (hJ (K:=[]) J2 (by simp) K3) (K2.trans (K3.more (by simp))))⟩;exact J8 (J:=fun(_:Unit)=>Jv) (s:=()) K2 (hJL Js) ha J2 hJL
  ·refine .inr ⟨hz,?_⟩;walk_at "ek";intro a ha;have hk:c.kidsU u=[]:=by unfold Pg.kidsU;rw[bf2 hz];rfl
   refine d5 (k _ () _ (.inr ⟨a,rfl,J8 (J:=fun(_:Unit)=>Jv) (s:=()) K2 (hJL Js) ha J2 hJL,?_⟩) trivial (Nat.le_refl _) (jn J2 ha) (K2.new ha));rw[g8,hk];rfl
 ·rintro⟨c,u⟩ dn la st' Q ds _ gc _ Js K hdn hlaL hne hl0 hla hlen hv hx k;have eds:ds=(c.kidsU u).map fun c=>D.tup [(c.1.mp f c.2).d,.bl (c.1.chd f c.2)]:=bx6 hlen hv;refine T5 rfl [some (u3 (c,u)),some (.ref la),some C,none] rfl ?_;have fin:∀(x:D)(st2:Sto),(x=.non∧c.mp f u=c∧c.chd f u=false∨x=(c.mp f u).d∧c.chd f u=true)→Jv st2→Kp L st' st2→e9 (Zg P G (n+1)) (.cons (.ret (.ite (.isN (.v 3)) (.tup (.cons (.ix (.v 0) (.int 0)) (.cons (.bl false) .nil))) (.tup (.cons (.v 3) (.cons (.bl true) .nil))))) .nil) (g7 Q) [some (u3 (c,u)),some (.ref la),some C,some x] st2:=by
   intro x st2 hx2 J2 K2;unfold u3;walk_at "es"
   rcases hx2 with⟨rfl,e1,e2⟩|⟨rfl,e2⟩
   ·refine .inl ⟨rfl,?_⟩;walk_at "ek";exact d5 (k _ () _ (by simp only[e1,e2]) trivial (Nat.zero_le _) J2 K2)
   ·refine .inr ⟨by1,?_⟩;walk_at "ek";exact d5 (k _ () _ (by simp only[e2]) trivial (Nat.zero_le _) J2 K2)
  have tst:∀(x:D)(st2:Sto),Jv st2→Kp L st' st2→(c.kids=[]→(x=.non∧c.mp f u=c∧c.chd f u=false∨x=(c.mp f u).d∧c.chd f u=true))→(c.kids≠[]→x=.non)→e9 (Zg P G (n+1)) (.cons (.iff (.any (.comp ["part"] [] 1 (.n 0) (.seq (.v 1)) .non (.ix (.v 0) (.int 1))))
    (.cons (.set 3 (.call "with_inner" (.cons (.ix (.v 0) (.int 0)) (.cons (.comp ["part"] [] 1 (.n 0) (.seq (.v 1)) .non (.ix (.v 0) (.int 0))) .nil))))
   .nil)
    .nil)
  (.cons (.ret (.ite (.isN (.v 3)) (.tup (.cons (.ix (.v 0) (.int 0)) (.cons (.bl false) .nil))) (.tup (.cons (.v 3) (.cons (.bl true) .nil)))))
  .nil)) (g7 Q) [some (u3 (c,u)),some (.ref la),some C,some x] st2:=by
   intro x st2 J2 K2 hx0 hx1;have hla2:st2 la=some (.lst ds):=K2.at' hla hlaL;have hds:ds.length≤3:=by
    rw[hlen];show(c.kidsU u).length≤3;unfold Pg.kidsU;rw[List.length_mapIdx];cases c<;>simp only[Pg.kids,List.length_cons,List.length_nil]<;>omega
   walk_at "es";refine⟨_,.inl hla2,by omega,?_⟩
   let sn:D→D:=fun d=>match d with|.tup [_,b]=>b|_=>.non
   let fs:D→D:=fun d=>match d with|.tup [a,_]=>a|_=>.non
   have e1:ds.map sn=((c.kidsU u).map fun c=>c.1.chd f c.2).map D.bl:=by rw[eds,List.map_map,List.map_map];rfl
   have e2:ds.map fs=((c.kidsU u).map fun c=>c.1.mp f c.2).map Pg.d:=by rw[eds,List.map_map,List.map_map];rfl
   have two:∀d∈ds,∃a b,d=.tup [a,b]:=fun d hd=>by
    rw[eds]at hd;obtain⟨c',_,rfl⟩:=List.mem_map.mp hd;exact⟨_,_,rfl⟩
   refine ai4 (f:=sn) (fun env=>env.length=1) (fun env d h=>by simpa using h) (fun env K hK=>hK) (fun env d K hd hE hK=>?_) (.inl hla2) ds [] [none] (fun _ h=>h) rfl ?_
   ·obtain⟨a,b,rfl⟩:=two d hd
    match env,hE with
    |[y],_=>
     walk_at "ek";exact hK
   intro fa hfa;rw[List.nil_append,e1];refine⟨_,.inl g8,?_⟩;walk_at "ek"
   by_cases h0:c.kids=[]
   ·have hk:c.kidsU u=[]:=by unfold Pg.kidsU;rw[h0];rfl
    rw[hk,if_neg (by simp)];walk_at "ek";exact fin x _ (hx0 h0) (jn J2 hfa) (K2.new hfa)
   ·have hxn:=hx1 h0;subst hxn
    by_cases hany:((c.kidsU u).map fun c=>c.1.chd f c.2).any id=true
    ·rw[if_pos hany];walk_at "es";refine⟨by rw[J.winner];rfl,?_⟩;unfold u3;walk_at "ek";have hla3:=j5 (u:=.lst (((c.kidsU u).map fun c=>c.1.chd f c.2).map D.bl)) hla2 hfa;refine⟨_,.inl hla3,by omega,?_⟩;refine ai4 (f:=fs) (fun env=>env.length=1) (fun env d h=>by simpa using h) (fun env K hK=>hK) (fun env d K hd hE hK=>?_) (.inl hla3) ds [] [none] (fun _ h=>h) rfl ?_
     ·obtain⟨a,b,rfl⟩:=two d hd
      match env,hE with
      |[y],_=>
       walk_at "ek";exact hK
     intro ga hga;rw[List.nil_append,e2];refine bg1 J (p:=c) (l:=(c.kidsU u).map fun c=>c.1.mp f c.2) (.inl g8) (by unfold Pg.kidsU;rw[List.length_map,List.length_mapIdx]) h0 ?_;rw[←Pg.mp_kids h0];walk_at "ek";exact fin _ _ (.inr ⟨rfl,(Pg.chd_kids h0).trans hany⟩) (jn (jn J2 hfa) hga) ((K2.new hfa).new hga)
    ·rw[if_neg hany];walk_at "ek";have hc0:c.chd f u=false:=by rw[Pg.chd_kids h0];simpa using hany
     exact fin .non _ (.inl ⟨rfl,Pg.mp_same c hc0,hc0⟩) (jn J2 hfa) (K2.new hfa)
  walk_at "es";rw[A6 (.inl hla)];walk_at "ek";have hkl:ds.length=c.kids.length:=by rw[hlen];show(c.kidsU u).length=_;unfold Pg.kidsU;rw[List.length_mapIdx]
  by_cases h0:c.kids=[]
  ·rw[if_pos (by rw[hkl,h0];rfl)];refine Q3 hC ?_;unfold u3;walk_at "ek";refine hc (n+1) c u st' _ (by omega) gc Js K fun st2 J2 K2=>?_;exact tst _ st2 J2 K2 (fun _=>(bi7 h0).elim (fun⟨a,b,d⟩=>.inl ⟨a,b,d⟩) .inr) (fun h=>absurd h0 h)
  ·rw[if_neg (by rw[hkl];have:=List.length_pos_iff.mpr h0;omega)];exact tst .non st' Js Kp.refl (fun h=>absurd h h0) fun _=>rfl
 ·intro dn d _ st' _ v _ _ Js K;subst v;walk_at "ek";exact d5 (q st' Js K)
end
theorem bo0(p:Pg)(l:Nat):p.lf 0 l=p:=by
 have:=C3 (f:=fun _ _=>none) (g:=lfF 0 l) (h:=fun _ _=>none) (a:=id) (b:=id) (c:=id) (fun _=>rfl) (fun _=>rfl) (fun _=>rfl) (fun n u=>by
  show(Pg.name n).mp (lfF 0 l) u=.name n;rw[x9];congr 1;split<;>omega) p 0
 rw[al8]at this;exact this
section
variable {P:g9} {G:Gs} (J:PNm P G) {n:Nat} {st:Sto} {Q:DK}
include J
theorem x8{p:Pg}{m l:Nat}(hp:p.parts≤2000)(hn:7≤n)(q:∀st',Kp [] st st'→Q (p.lf m l).d st'):sem P G n "lifted" [p.d,.int m,.int l] st Q:=by
 obtain⟨n,rfl⟩:∃k,n=k+1:=⟨n-1,by omega⟩;refine i5 J.lift rfl [some p.d,some (.int m),some (.int l),none,none,none,none] rfl ?_;unfold O5;walk_at "es"
 by_cases h0:(m:Int)=0
 ·simp only[h0,if_true];walk_at "es";obtain rfl:m=0:=by omega
  have:=q st Kp.refl;rw[bo0]at this;exact d5 this
 simp only[h0,if_false];walk_at "es";walk_at "es";refine⟨by rw[J.wparts];rfl,ar7 J (f:=lfF m l) (L:=[]) (Jv:=fun _=>True) (show Cok P (.clo _ _ _ _) from trivial) (fun _ _ _=>trivial) (fun _=>by simp) hp (Nat.le_refl _) (by omega) trivial ?_ fun st' _ K=>d5 (q st' K)⟩;intro k c u st' Q hk hu _ K kk;obtain⟨k,rfl⟩:∃j,k=j+1:=⟨k-1,by omega⟩;refine T5 rfl [some c.d,some (.int u),some (.int l),some (.int m)] rfl ?_;replace kk:=kk st' trivial Kp.refl;cases c<;>simp only[Pg.d]
 case name x=>
  walk_at "es";simp only[C8,lfF]at kk
  by_cases h1:(u:Int)≤(x:Int)
  ·simp only[h1,if_true]
   by_cases h2:(l:Int)≤(x:Int)-(u:Int)
   ·simp only[h2,if_true];walk_at "es";rw[if_pos (by omega)]at kk;exact d5 kk
   ·simp only[h2,if_false];walk_at "es";rw[if_neg (by omega)]at kk;exact d5 kk
  ·simp only[h1,if_false];walk_at "es";rw[if_neg (by omega)]at kk;exact d5 kk
 all_goals
  walk_at "es";walk_at "es";exact d5 kk
noncomputable def G8(o:Pg)(us:List Nat):List (Key×D):=us.map fun(u:Nat)=>(.inl (u:Int),(o.lf u 0).d)
noncomputable def Cps(o:Pg)(m:Nat)(a:Addr)(st:Sto):Prop:=∃us:List Nat,us.Nodup∧(∀u∈us,u≤m)∧st a=some (.dct (G8 o us))
omit J in
theorem Q5{o:Pg}(u:Nat):∀(us:List Nat),u2 (G8 o us) (.inl (u:Int))=if u∈us then some (o.lf u 0).d else none
 |[]=>rfl
 |v::us=>by
  have ih:=Q5 (o:=o) u us;unfold u2 G8 at ih ⊢;rw[List.map_cons,List.find?_cons]
  by_cases h:v=u
  ·subst h;simp
  ·have e:decide ((Sum.inl (v:Int):Key)=.inl (u:Int))=false:=by simp;omega
   simp only[e];rw[ih]
   by_cases h2:u∈us
   ·rw[if_pos h2,if_pos (by simp[h2])]
   ·rw[if_neg h2,if_neg (by simp[h2];omega)]
omit J in
theorem as3:∀(m:Nat){us:List Nat},us.Nodup→(∀u∈us,u<m)→us.length≤m
 |0,us,_,h=>by
  cases us with
  |nil=>exact Nat.le_refl _
  |cons a us=>exact absurd (h a (by simp)) (by omega)
 |m+1,us,hn,h=>by
  have h1:=as3 m (hn.erase m) (fun u hu=>by
   obtain⟨a,b⟩:=hn.mem_erase_iff.mp hu;have:=h u b;omega)
  have h2:=List.length_erase (a:=m) (l:=us)
  split at h2<;>omega
theorem bm5{o:Pg}{m u:Nat}{a:Addr}(ho:o.parts≤2000)(hn:8≤n)(hu:u≤m)(hm:m≤1000)(C:Cps o m a st)(q:∀st',Cps o m a st'→Kp [a] st st'→Q (o.lf u 0).d st'):sem P G n "copy_under" [.ref a,o.d,.int u] st Q:=by
 obtain⟨n,rfl⟩:∃k,n=k+1:=⟨n-1,by omega⟩;refine i5 J.copy rfl [some (.ref a),some o.d,some (.int u)] rfl ?_;unfold N9;have rd:∀(us:List Nat)(st2:Sto),u∈us→us.Nodup→(∀u∈us,u≤m)→st2 a=some (.dct (G8 o us))→Kp [a] st st2→e9 (Zg P G n) (.cons (.ret (.ix (.v 0) (.v 2))) .nil) (g7 Q) [some (.ref a),some o.d,some (.int u)] st2:=by
  intro us st2 hu2 h1 h2 h3 K2;walk_at "es";refine .inr ⟨_,(o.lf u 0).d,h3,?_,d5 (q st2 ⟨us,h1,h2,h3⟩ K2)⟩;rw[Q5,if_pos hu2]
 obtain⟨us,h1,h2,h3⟩:=C;walk_at "es";refine⟨_,h3,?_⟩;rw[Q5];walk_at "ek"
 by_cases hu2:u∈us
 ·rw[if_pos hu2];simp only[Option.isSome,Bool.not_true,Bool.false_eq_true,if_false];exact rd us st hu2 h1 h2 h3 Kp.refl
 ·rw[if_neg hu2];simp only[Option.isSome,Bool.not_false,if_true];walk_at "es";refine⟨by rw[J.lift];rfl,?_⟩;refine x8 J (l:=0) ho (by omega) fun st2 K2=>?_;have h4:=K2.at' h3 (by simp);refine⟨_,h4,by rw[Q5,if_neg hu2],G5 (by unfold G8;rw[List.length_map];have:=as3 (m+1) h1 (fun u hu=>by have:=h2 u hu;omega);omega),?_⟩;refine rd (us++[u]) _ (by simp) ?_ ?_ ?_ ((K2.more (by simp)).put (by simp))
  ·rw[List.nodup_append];exact⟨h1,by simp,by simp;exact fun x hx z=>hu2 (z▸hx)⟩
  ·intro x hx
   rcases List.mem_append.mp hx with hx|hx
   ·exact h2 x hx
   ·simp at hx;omega
  ·rw[g8];unfold G8;rw[List.map_append];rfl
theorem Q7{p o:Pg}(hp:p.parts≤2000)(ho:o.parts≤2000)(hh:p.hgt≤1000)(hn:14≤n)(q:∀st',Kp [] st st'→Q (p.sb o).d st'):sem P G n "put_in" [p.d,o.d] st Q:=by
 obtain⟨n,rfl⟩:∃k,n=k+1:=⟨n-1,by omega⟩;refine i5 J.put rfl [some p.d,some o.d,none,none,none,none,none] rfl ?_;unfold O4;walk_at "es";intro cp hcp;walk_at "es";walk_at "es";refine⟨by rw[J.wparts];rfl,ar7 J (f:=sbF o) (L:=[cp]) (Jv:=Cps o 1000 cp) (show Cok P (.clo _ _ _ _) from trivial) ?_ ?_ hp hh (by omega) ⟨[],List.nodup_nil,by simp,g8⟩ ?_ fun st' _ K=>d5 (q st' ?_)⟩
 ·rintro st st' K ⟨us,h1,h2,h3⟩ hK K1;exact⟨us,h1,h2,K1.at' h3 (hK cp (by simp))⟩
 ·rintro st ⟨us,h1,h2,h3⟩ a ha;simp at ha;subst ha;exact⟨_,h3⟩
 ·intro k c u st' Q hk hu C K kk;obtain⟨k,rfl⟩:∃j,k=j+1:=⟨k-1,by omega⟩;have h1:∀q:Pg,1≤q.hgt:=fun q=>by cases q<;>simp only[Pg.hgt]<;>omega
  have:=h1 c;refine T5 rfl [some c.d,some (.int u),some (.ref cp),some o.d] rfl ?_;have k0:=kk st' C Kp.refl;cases c<;>simp only[Pg.d]
  case name x=>
   simp only[C8,sbF]at kk k0;walk_at "es"
   by_cases h1:(x:Int)<(u:Int)
   ·simp only[h1,if_true];walk_at "es";rw[if_pos (by omega)]at k0;exact d5 k0
   ·simp only[h1,if_false];walk_at "es"
    by_cases h2:(x:Int)=(u:Int)
    ·simp only[h2,if_true];walk_at "es";rw[if_neg (by omega),if_pos (by omega)]at kk;exact⟨by rw[J.copy];rfl,bm5 J ho (by omega) (by omega) (Nat.le_refl _) C fun st2 C2 K2=>d5 (kk st2 C2 K2)⟩
    ·simp only[h2,if_false];walk_at "es";rw[if_neg (by omega),if_neg (by omega)]at k0;have e:(x:Int)-1=((x-1:Nat):Int):=by omega
     rw[e];exact d5 k0
  all_goals
   walk_at "es";walk_at "es";exact d5 k0
 ·intro b u nb e;refine K b u (by simp;exact fun z=>by rw[z,hcp]at e;cases e) ?_;exact j5 e hcp
end
theorem J9{a b c:Nat}(h:b≤c):Nat.min a b≤c:=Nat.le_trans (Nat.min_le_right _ _) h
theorem N3{p:Pg}(h:p.hgt≤100)(k:p.kn 6):i7 p.d≤150:=Nat.le_trans (b26 p k) (by omega)
section
variable {P:g9} {G:Gs} (B:PB P) (J:PNm P G) {n:Nat} {st:Sto}
include B J
theorem bu8(hlaw:P "law"=some J5){a:Addr}{ns:List Int}(hn:45≤n)(hl:ns.length≤63)(h:rdS st a (ns.map D.int)):sem P G n "law" [.ref a] st fun d _=>d=.bl true:=by
 obtain⟨n,rfl⟩:∃m,n=m+2:=⟨n-2,by omega⟩;refine i5 hlaw rfl [some (.ref a),none,none,none,none,none,none,none,none,none,none] rfl ?_;unfold J5;walk_at "es";refine⟨by rw[B.deck];rfl,bk4 B.toPB0 (by omega) hl h fun da st1 I1 _=>?_⟩;walk_at "es";refine⟨by rw[B.names];rfl,be1 B (most:=3) (lines:=64) (by omega) (by decide) (by decide) (by decide) I1 fun Γ st2 hΓ hk hr I2 _=>?_⟩;walk_at "es";refine⟨by rw[B.program];rfl,by rw[B.kind];rfl,E9 B.toPB0 (most:=16) (by decide) (by decide) 3 (by omega) I2 fun k3 st3 g3 b3 n3 I3 _=>?_⟩;walk_at "ek";refine⟨by rw[B.next];rfl,t4 B.toPB0 (m:=30) (by decide) I3 fun r4 st4 r40 r41 I4 _=>?_⟩;walk_at "ek";refine ah2 B (by omega) (by omega) I4 g3 (Kd.bd_mono (by decide) b3) (by omega) (by omega) fun p st5 kp hp pp mp cp I5 _=>?_;obtain⟨pp,_⟩:=cp (by omega);walk_at "es";refine⟨by rw[B.kind];rfl,E9 B.toPB0 (most:=9) (by decide) (by decide) 2 (by omega) I5 fun ka st6 ga ba na I6 _=>?_⟩;walk_at "es";refine⟨by rw[B.program];rfl,by rw[B.next];rfl,t4 B.toPB0 (m:=12) (by decide) I6 fun r7 st7 r70 r71 I7 _=>?_⟩;walk_at "ek";refine ah2 B (by omega) (by omega) I7 ga (Kd.bd_mono (by decide) ba) (by omega) (by omega) fun o st8 ko ho po mo co I8 _=>?_;obtain⟨po,_⟩:=co (by omega);walk_at "es";refine⟨by rw[B.program];rfl,by rw[B.kind];rfl,E9 B.toPB0 (most:=16) (by decide) (by decide) 3 (by omega) I8 fun kh st9 gh bh nh I9 _=>?_⟩;walk_at "ek";rw[E8];refine⟨G0 (by simp only[List.length_map];omega),by rw[B.next];rfl,t4 B.toPB0 (m:=30) (by decide) I9 fun r10 st10 r100 r101 I10 _=>?_⟩;walk_at "ek";refine ah2 B (Γ:=ka::Γ) (by omega) (by omega) I10 gh (Kd.bd_mono (by decide) bh) (by omega) (by simp only[List.length_cons];omega) fun w st11 kw hw pw mw cw I11 _=>?_;obtain⟨pw,cw⟩:=cw (by omega);have cw:=cw 0 ka rfl (fun z=>by subst z;exact ga);walk_at "es";refine⟨by rw[B.next];rfl,t4 B.toPB0 (m:=5) (by decide) I11 fun r12 st12 r120 r121 I12 _=>?_⟩;walk_at "ek";walk_at "es";refine⟨by rw[B.next];rfl,t4 B.toPB0 (m:=5) (by decide) I12 fun r13 st13 r130 r131 I13 _=>?_⟩;walk_at "ek";walk_at "es";refine⟨by rw[B.next];rfl,t4 B.toPB0 (m:=(Γ.map Kd.d).length+1) (by omega) I13 fun l st14 l0 l1 I14 _=>?_⟩;obtain⟨m,em⟩:∃m:Nat,1+r12=(m:Int):=⟨(1+r12).toNat,by omega⟩;obtain⟨k,ek⟩:∃k:Nat,1+r13=(k:Int):=⟨(1+r13).toNat,by omega⟩;obtain⟨l,rfl⟩:∃j:Nat,l=(j:Int):=⟨l.toNat,by omega⟩;rw[em,ek];have nn:∀p o:Pg,p=o→(!deq p.d o.d)=false:=fun p o e=>by rw[ay9];simp[e]
 walk_at "es";refine⟨by rw[J.put];rfl,by rw[J.lift];rfl,x8 J (p:=p) (m:=1) (l:=0) (by omega) (by omega) fun st15 _=>?_⟩;walk_at "ek";refine Q7 J (by unfold Pg.lf;rw[E5];omega) (by omega) (Nat.le_trans D6 (by omega)) (by omega) fun st16 _=>?_;rw[bx9,ab8,nn p p rfl];refine⟨y0 _,y0 _,J9 (N3 (by omega) mp),?_⟩;walk_at "ek";refine⟨by rw[J.put];rfl,by rw[J.lift];rfl,x8 J (p:=w) (m:=1) (l:=1) (by omega) (by omega) fun st17 _=>?_⟩;walk_at "ek";refine Q7 J (o:=.name 0) (by unfold Pg.lf;rw[E5];omega) (by decide) (Nat.le_trans D6 (by omega)) (by omega) fun st18 _=>?_;rw[bs3,ab8,nn w w rfl];refine⟨y0 _,y0 _,J9 (N3 (by omega) mw),?_⟩;walk_at "ek";walk_at "es";refine⟨by rw[J.put];rfl,by rw[J.lift];rfl,?_⟩;rw[show(l:Int)+1=((l+1:Nat):Int) by omega];refine x8 J (p:=w) (m:=m) (l:=l+1) (by omega) (by omega) fun st19 _=>?_;walk_at "ek";refine⟨by rw[J.lift];rfl,x8 J (p:=o) (m:=m) (l:=l) (by omega) (by omega) fun st20 _=>?_⟩;walk_at "ek";refine Q7 J (by unfold Pg.lf;rw[E5];omega) (by unfold Pg.lf;rw[E5];omega) (Nat.le_trans D6 (by omega)) (by omega) fun st21 _=>?_;walk_at "es";refine⟨by rw[J.lift];rfl,by rw[J.put];rfl,Q7 J (p:=w) (o:=o) (by omega) (by omega) (by omega) (by omega) fun st22 _=>?_⟩;walk_at "ek";have hsz:(w.sb o).parts≤2000:=by
  have:=bf7 (o:=o) w (u:=0);unfold Pg.sb;have h2:w.oc 0*o.parts≤w.oc 0*60:=Nat.mul_le_mul_left _ (by omega);omega
 refine x8 J (p:=w.sb o) (m:=m) (l:=l) hsz (by omega) fun st23 _=>?_;rw[b24,ab8,nn _ _ rfl];refine⟨y0 _,y0 _,J9 (N3 (Nat.le_trans by2 (Nat.le_trans (Nat.add_le_add D6 D6) (by omega))) (b01 (ab9 mo) (ab9 mw))),?_⟩;walk_at "ek";walk_at "es";refine⟨by rw[J.lift];rfl,by rw[J.lift];rfl,x8 J (p:=p) (m:=m) (l:=l) (by omega) (by omega) fun st24 _=>?_⟩;walk_at "ek";refine x8 J (p:=p.lf m l) (m:=k) (l:=l) (by unfold Pg.lf;rw[E5];omega) (by omega) fun st25 _=>?_;walk_at "ek";refine⟨by rw[J.lift];rfl,?_⟩;rw[show(m:Int)+(k:Int)=((m+k:Nat):Int) by omega];refine x8 J (p:=p) (m:=m+k) (l:=l) (by omega) (by omega) fun st26 _=>?_;rw[b48,ab8,nn _ _ rfl];refine⟨y0 _,y0 _,J9 (N3 (Nat.le_trans D6 (by omega)) (ab9 mp)),?_⟩;walk_at "ek";walk_at "es";refine⟨by rw[J.lift];rfl,?_⟩;rw[List.length_map];refine x8 J (p:=p) (m:=m) (l:=Γ.length) (by omega) (by omega) fun st27 _=>?_;rw[br1 kp,al7,ay9];refine⟨y0 _,y0 _,J9 (N3 (by omega) mp),d5 ?_⟩;simp
end
end Ek
namespace Ek
open PySem L2
theorem b72:PB K9:=⟨⟨rfl,rfl,rfl,rfl,rfl,rfl⟩,rfl,rfl,rfl,rfl,rfl,rfl,rfl,rfl,rfl⟩
theorem b77:PNm K9 u5:=⟨⟨rfl,rfl,rfl,rfl⟩,rfl,rfl,rfl,rfl,rfl,rfl,rfl,rfl,rfl,rfl⟩
theorem bc3(a:Addr)(ns:List Int)(h:ns.length≤63):sem K9 u5 50 "law" [.ref a] (st0 a ns) fun d _=>d=.bl true:=
 bu8 b72 b77 rfl (by decide) h (.inr (by unfold st0;rw[if_pos rfl]))
end Ek
namespace Ek
open PySem L2
noncomputable def top(i:Nat):Stmt:=PySem.Challenge.pw_evenkinds_k25_whole_put_in_and_lifted.main.body.getD i (.Pass ⟨0,0,0,0⟩)
noncomputable def mth(i k:Nat):Stmt:=match top i with|.ClassDef _ _ _ b _ _ _ _ _ _ _=>b.getD k (.Pass ⟨0,0,0,0⟩)|_=>.Pass ⟨0,0,0,0⟩
theorem bd1{fd:FuncData}{ps:List Str}(h:∀a0,bindArgs fd ⟨[a0],[]⟩=pure (ps.zip [a0]))(us:List Value)(hl:us.length=1):bindArgs fd ⟨us,[]⟩=pure (ps.zip us):=match us,hl with|[a0],_=>h a0
theorem bd2{fd:FuncData}{ps:List Str}(h:∀a0 a1,bindArgs fd ⟨[a0,a1],[]⟩=pure (ps.zip [a0,a1]))(us:List Value)(hl:us.length=2):bindArgs fd ⟨us,[]⟩=pure (ps.zip us):=match us,hl with|[a0,a1],_=>h a0 a1
theorem bd3{fd:FuncData}{ps:List Str}(h:∀a0 a1 a2,bindArgs fd ⟨[a0,a1,a2],[]⟩=pure (ps.zip [a0,a1,a2]))(us:List Value)(hl:us.length=3):bindArgs fd ⟨us,[]⟩=pure (ps.zip us):=match us,hl with|[a0,a1,a2],_=>h a0 a1 a2
theorem bd4{fd:FuncData}{ps:List Str}(h:∀a0 a1 a2 a3,bindArgs fd ⟨[a0,a1,a2,a3],[]⟩=pure (ps.zip [a0,a1,a2,a3]))(us:List Value)(hl:us.length=4):bindArgs fd ⟨us,[]⟩=pure (ps.zip us):=match us,hl with|[a0,a1,a2,a3],_=>h a0 a1 a2 a3
theorem bd5{fd:FuncData}{ps:List Str}(h:∀a0 a1 a2 a3 a4,bindArgs fd ⟨[a0,a1,a2,a3,a4],[]⟩=pure (ps.zip [a0,a1,a2,a3,a4]))(us:List Value)(hl:us.length=5):bindArgs fd ⟨us,[]⟩=pure (ps.zip us):=match us,hl with|[a0,a1,a2,a3,a4],_=>h a0 a1 a2 a3 a4
theorem a45:Stat (top 3) O1 ["whole","parts_of","made"] "made_of_parts" "made_of_parts":=⟨⟨rfl,rfl,rfl,by decide+kernel,rfl,by decide+kernel,by decide+kernel⟩,rfl,by decide+kernel,fun _ _ _ _ _ _=>bd3 fun _ _ _=>rfl⟩
theorem a47:Stat (top 4) O2 ["whole","parts_of"] "order_of_few" "order_of_few":=⟨⟨rfl,rfl,rfl,by decide+kernel,rfl,by decide+kernel,by decide+kernel⟩,rfl,by decide+kernel,fun _ _ _ _ _ _=>bd2 fun _ _=>rfl⟩
theorem bb1:Stat (top 6) R7 ["done","many"] "taken" "taken":=⟨⟨rfl,rfl,rfl,by decide+kernel,rfl,by decide+kernel,by decide+kernel⟩,rfl,by decide+kernel,fun _ _ _ _ _ _=>bd2 fun _ _=>rfl⟩
theorem a62:Stat (top 14) P1 ["program"] "inner" "inner":=⟨⟨rfl,rfl,rfl,by decide+kernel,rfl,by decide+kernel,by decide+kernel⟩,rfl,by decide+kernel,fun _ _ _ _ _ _=>bd1 fun _=>rfl⟩
theorem a42:Stat (top 15) E4 ["program","parts"] "with_inner" "with_inner":=⟨⟨rfl,rfl,rfl,by decide+kernel,rfl,by decide+kernel,by decide+kernel⟩,rfl,by decide+kernel,fun _ _ _ _ _ _=>bd2 fun _ _=>rfl⟩
theorem a41:Stat (top 16) N8 ["program","number"] "names_more" "names_more":=⟨⟨rfl,rfl,rfl,by decide+kernel,rfl,by decide+kernel,by decide+kernel⟩,rfl,by decide+kernel,fun _ _ _ _ _ _=>bd2 fun _ _=>rfl⟩
theorem a50:Stat (top 18) O5 ["program","many","least"] "lifted" "lifted":=⟨⟨rfl,rfl,rfl,by decide+kernel,rfl,by decide+kernel,by decide+kernel⟩,rfl,by decide+kernel,fun _ _ _ _ _ _=>bd3 fun _ _ _=>rfl⟩
theorem a52:Stat (top 19) O4 ["program","other"] "put_in" "put_in":=⟨⟨rfl,rfl,rfl,by decide+kernel,rfl,by decide+kernel,by decide+kernel⟩,rfl,by decide+kernel,fun _ _ _ _ _ _=>bd2 fun _ _=>rfl⟩
theorem a43:Stat (top 20) N9 ["copies","program","under"] "copy_under" "copy_under":=⟨⟨rfl,rfl,rfl,by decide+kernel,rfl,by decide+kernel,by decide+kernel⟩,rfl,by decide+kernel,fun _ _ _ _ _ _=>bd3 fun _ _ _=>rfl⟩
theorem a44:Stat (top 21) O0 ["program","changed"] "with_parts" "with_parts":=⟨⟨rfl,rfl,rfl,by decide+kernel,rfl,by decide+kernel,by decide+kernel⟩,rfl,by decide+kernel,fun _ _ _ _ _ _=>bd2 fun _ _=>rfl⟩
theorem a40:Stat (top 22) N7 ["here"] "inner_under" "inner_under":=⟨⟨rfl,rfl,rfl,by decide+kernel,rfl,by decide+kernel,by decide+kernel⟩,rfl,by decide+kernel,fun _ _ _ _ _ _=>bd1 fun _=>rfl⟩
theorem a53:Stat (top 24) O9 ["_law_cell","_law_k"] "_law_mixed" "_law_mixed":=⟨⟨rfl,rfl,rfl,by decide+kernel,rfl,by decide+kernel,by decide+kernel⟩,rfl,by decide+kernel,fun _ _ _ _ _ _=>bd2 fun _ _=>rfl⟩
theorem a67:Stat (top 25) v9 ["_law_script"] "_law_deck" "_law_deck":=⟨⟨rfl,rfl,rfl,by decide+kernel,rfl,by decide+kernel,by decide+kernel⟩,rfl,by decide+kernel,fun _ _ _ _ _ _=>bd1 fun _=>rfl⟩
theorem a70:Stat (top 26) P4 ["_law_deck_here","_law_many"] "_law_next" "_law_next":=⟨⟨rfl,rfl,rfl,by decide+kernel,rfl,by decide+kernel,by decide+kernel⟩,rfl,by decide+kernel,fun _ _ _ _ _ _=>bd2 fun _ _=>rfl⟩
theorem a56:Stat (top 27) O7 ["_law_number","_law_times"] "_law_power" "_law_power":=⟨⟨rfl,rfl,rfl,by decide+kernel,rfl,by decide+kernel,by decide+kernel⟩,rfl,by decide+kernel,fun _ _ _ _ _ _=>bd2 fun _ _=>rfl⟩
theorem a59:Stat (top 28) J0 ["_law_kind_here"] "_law_count" "_law_count":=⟨⟨rfl,rfl,rfl,by decide+kernel,rfl,by decide+kernel,by decide+kernel⟩,rfl,by decide+kernel,fun _ _ _ _ _ _=>bd1 fun _=>rfl⟩
theorem a68:Stat (top 29) x0 ["_law_deck_here","_law_deep","_law_most"] "_law_kind" "_law_kind":=⟨⟨rfl,rfl,rfl,by decide+kernel,rfl,by decide+kernel,by decide+kernel⟩,rfl,by decide+kernel,fun _ _ _ _ _ _=>bd3 fun _ _ _=>rfl⟩
theorem a61:Stat (top 30) D1 ["_law_kind_here","_law_names_here"] "_law_least" "_law_least":=⟨⟨rfl,rfl,rfl,by decide+kernel,rfl,by decide+kernel,by decide+kernel⟩,rfl,by decide+kernel,fun _ _ _ _ _ _=>bd2 fun _ _=>rfl⟩
theorem a71:Stat (top 31) z7 ["_law_deck_here","_law_kind_here","_law_names_here","_law_room","_law_deep"] "_law_made" "_law_made":=⟨⟨rfl,rfl,rfl,by decide+kernel,rfl,by decide+kernel,by decide+kernel⟩,rfl,by decide+kernel,fun _ _ _ _ _ _=>bd5 fun _ _ _ _ _=>rfl⟩
theorem a69:Stat (top 32) J3 ["_law_kind_here"] "_law_nest" "_law_nest":=⟨⟨rfl,rfl,rfl,by decide+kernel,rfl,by decide+kernel,by decide+kernel⟩,rfl,by decide+kernel,fun _ _ _ _ _ _=>bd1 fun _=>rfl⟩
theorem a65:Stat (top 33) B3 ["_law_deck_here","_law_kind_here","_law_names_here","_law_room","_law_deep"] "_law_asked" "_law_asked":=⟨⟨rfl,rfl,rfl,by decide+kernel,rfl,by decide+kernel,by decide+kernel⟩,rfl,by decide+kernel,fun _ _ _ _ _ _=>bd5 fun _ _ _ _ _=>rfl⟩
theorem a64:Stat (top 34) D2 ["_law_deck_here","_law_kind_here","_law_names_here","_law_room","_law_deep"] "_law_grown" "_law_grown":=⟨⟨rfl,rfl,rfl,by decide+kernel,rfl,by decide+kernel,by decide+kernel⟩,rfl,by decide+kernel,fun _ _ _ _ _ _=>bd5 fun _ _ _ _ _=>rfl⟩
theorem a54:Stat (top 35) O6 ["_law_program_here"] "_law_inner" "_law_inner":=⟨⟨rfl,rfl,rfl,by decide+kernel,rfl,by decide+kernel,by decide+kernel⟩,rfl,by decide+kernel,fun _ _ _ _ _ _=>bd1 fun _=>rfl⟩
theorem a63:Stat (top 36) O8 ["_law_program_here"] "_law_parts" "_law_parts":=⟨⟨rfl,rfl,rfl,by decide+kernel,rfl,by decide+kernel,by decide+kernel⟩,rfl,by decide+kernel,fun _ _ _ _ _ _=>bd1 fun _=>rfl⟩
theorem a49:Stat (top 37) O3 ["_law_deck_here","_law_kind_here","_law_names_here","_law_many"] "_law_program" "_law_program":=⟨⟨rfl,rfl,rfl,by decide+kernel,rfl,by decide+kernel,by decide+kernel⟩,rfl,by decide+kernel,fun _ _ _ _ _ _=>bd4 fun _ _ _ _=>rfl⟩
theorem a55:Stat (top 38) v8 ["_law_deck_here","_law_most","_law_lines"] "_law_names" "_law_names":=⟨⟨rfl,rfl,rfl,by decide+kernel,rfl,by decide+kernel,by decide+kernel⟩,rfl,by decide+kernel,fun _ _ _ _ _ _=>bd3 fun _ _ _=>rfl⟩
theorem a78:Stat (top 39) J5 ["_law_script"] "law" "law":=⟨⟨rfl,rfl,rfl,by decide+kernel,rfl,by decide+kernel,by decide+kernel⟩,rfl,by decide+kernel,fun _ _ _ _ _ _=>bd1 fun _=>rfl⟩
theorem bx4{pr:Program}{w:World}{K:W.Frag}{h:Heap}{mg:Str→Option Value}{ts:List Addr}(X:K.In h)(G:h.Ns mainGlobals mg)
  {f0:Addr} {od0 an0:Option Addr} {sl0:Array (Option Value)} {oc0 kV0 dc0 pm0 cd0 ct0:Value} {f1:Addr} {od1 an1:Option Addr} {sl1:Array (Option Value)} {oc1 kV1 dc1 pm1 cd1 ct1:Value} {f2:Addr} {od2 an2:Option Addr} {sl2:Array (Option Value)} {oc2 kV2 dc2 pm2 cd2 ct2:Value} {f3:Addr} {od3 an3:Option Addr} {sl3:Array (Option Value)} {oc3 kV3 dc3 pm3 cd3 ct3:Value} {f4:Addr} {od4 an4:Option Addr} {sl4:Array (Option Value)} {oc4 kV4 dc4 pm4 cd4 ct4:Value} {f5:Addr} {od5 an5:Option Addr} {sl5:Array (Option Value)} {oc5 kV5 dc5 pm5 cd5 ct5:Value} {f6:Addr} {od6 an6:Option Addr} {sl6:Array (Option Value)} {oc6 kV6 dc6 pm6 cd6 ct6:Value} {f7:Addr} {od7 an7:Option Addr} {sl7:Array (Option Value)} {oc7 kV7 dc7 pm7 cd7 ct7:Value} {f8:Addr} {od8 an8:Option Addr} {sl8:Array (Option Value)} {oc8 kV8 dc8 pm8 cd8 ct8:Value} {f9:Addr} {od9 an9:Option Addr} {sl9:Array (Option Value)} {oc9 kV9 dc9 pm9 cd9 ct9:Value} {f10:Addr} {od10 an10:Option Addr} {sl10:Array (Option Value)} {oc10 kV10 dc10 pm10 cd10 ct10:Value} {f11:Addr} {od11 an11:Option Addr} {sl11:Array (Option Value)} {oc11 kV11 dc11 pm11 cd11 ct11:Value} {f12:Addr} {od12 an12:Option Addr} {sl12:Array (Option Value)} {oc12 kV12 dc12 pm12 cd12 ct12:Value} {f13:Addr} {od13 an13:Option Addr} {sl13:Array (Option Value)} {oc13 kV13 dc13 pm13 cd13 ct13:Value} {f14:Addr} {od14 an14:Option Addr} {sl14:Array (Option Value)} {oc14 kV14 dc14 pm14 cd14 ct14:Value} {f15:Addr} {od15 an15:Option Addr} {sl15:Array (Option Value)} {oc15 kV15 dc15 pm15 cd15 ct15:Value} {f16:Addr} {od16 an16:Option Addr} {sl16:Array (Option Value)} {oc16 kV16 dc16 pm16 cd16 ct16:Value} {f17:Addr} {od17 an17:Option Addr} {sl17:Array (Option Value)} {oc17 kV17 dc17 pm17 cd17 ct17:Value} {f18:Addr} {od18 an18:Option Addr} {sl18:Array (Option Value)} {oc18 kV18 dc18 pm18 cd18 ct18:Value} {f19:Addr} {od19 an19:Option Addr} {sl19:Array (Option Value)} {oc19 kV19 dc19 pm19 cd19 ct19:Value} {f20:Addr} {od20 an20:Option Addr} {sl20:Array (Option Value)} {oc20 kV20 dc20 pm20 cd20 ct20:Value} {f21:Addr} {od21 an21:Option Addr} {sl21:Array (Option Value)} {oc21 kV21 dc21 pm21 cd21 ct21:Value} {f22:Addr} {od22 an22:Option Addr} {sl22:Array (Option Value)} {oc22 kV22 dc22 pm22 cd22 ct22:Value} {f23:Addr} {od23 an23:Option Addr} {sl23:Array (Option Value)} {oc23 kV23 dc23 pm23 cd23 ct23:Value} {f24:Addr} {od24 an24:Option Addr} {sl24:Array (Option Value)} {oc24 kV24 dc24 pm24 cd24 ct24:Value} {f25:Addr} {od25 an25:Option Addr} {sl25:Array (Option Value)} {oc25 kV25 dc25 pm25 cd25 ct25:Value} {f26:Addr} {od26 an26:Option Addr} {sl26:Array (Option Value)} {oc26 kV26 dc26 pm26 cd26 ct26:Value} {g0:Addr} {g1:Addr} {kt0:Tok} {hc6 hp6:Addr} {hc7 hp7:Addr} {hc9 hp9:Addr}
  (a0:W.nsIn K mainGlobals "made_of_parts"=some (some (.ref f0))) (l0:K.lookup f0=some ⟨oc0,od0,.func (W.fnOf "made_of_parts" "made_of_parts" (i8 (top 3)) (i6 (top 3)) (g6 (top 3)) .none kV0 dc0 pm0 an0 cd0 ct0),sl0⟩) (c0:W.codeIn K cd0 "made_of_parts"=true) (k0:W.keepIn K (.ref f0)=true)
  (a1:W.nsIn K mainGlobals "order_of_few"=some (some (.ref f1))) (l1:K.lookup f1=some ⟨oc1,od1,.func (W.fnOf "order_of_few" "order_of_few" (i8 (top 4)) (i6 (top 4)) (g6 (top 4)) .none kV1 dc1 pm1 an1 cd1 ct1),sl1⟩) (c1:W.codeIn K cd1 "order_of_few"=true) (k1:W.keepIn K (.ref f1)=true)
  (a2:W.nsIn K mainGlobals "taken"=some (some (.ref f2))) (l2:K.lookup f2=some ⟨oc2,od2,.func (W.fnOf "taken" "taken" (i8 (top 6)) (i6 (top 6)) (g6 (top 6)) .none kV2 dc2 pm2 an2 cd2 ct2),sl2⟩) (c2:W.codeIn K cd2 "taken"=true) (k2:W.keepIn K (.ref f2)=true)
  (a3:W.nsIn K mainGlobals "inner"=some (some (.ref f3))) (l3:K.lookup f3=some ⟨oc3,od3,.func (W.fnOf "inner" "inner" (i8 (top 14)) (i6 (top 14)) (g6 (top 14)) .none kV3 dc3 pm3 an3 cd3 ct3),sl3⟩) (c3:W.codeIn K cd3 "inner"=true) (k3:W.keepIn K (.ref f3)=true)
  (a4:W.nsIn K mainGlobals "with_inner"=some (some (.ref f4))) (l4:K.lookup f4=some ⟨oc4,od4,.func (W.fnOf "with_inner" "with_inner" (i8 (top 15)) (i6 (top 15)) (g6 (top 15)) .none kV4 dc4 pm4 an4 cd4 ct4),sl4⟩) (c4:W.codeIn K cd4 "with_inner"=true) (k4:W.keepIn K (.ref f4)=true)
  (a5:W.nsIn K mainGlobals "names_more"=some (some (.ref f5))) (l5:K.lookup f5=some ⟨oc5,od5,.func (W.fnOf "names_more" "names_more" (i8 (top 16)) (i6 (top 16)) (g6 (top 16)) .none kV5 dc5 pm5 an5 cd5 ct5),sl5⟩) (c5:W.codeIn K cd5 "names_more"=true) (k5:W.keepIn K (.ref f5)=true)
  (a6:W.nsIn K mainGlobals "lifted"=some (some (.ref f6))) (l6:K.lookup f6=some ⟨oc6,od6,.func (W.fnOf "lifted" "lifted" (i8 (top 18)) (i6 (top 18)) (g6 (top 18)) .none kV6 dc6 pm6 an6 cd6 ct6),sl6⟩) (c6:W.codeIn K cd6 "lifted"=true) (k6:W.keepIn K (.ref f6)=true)
  (a7:W.nsIn K mainGlobals "put_in"=some (some (.ref f7))) (l7:K.lookup f7=some ⟨oc7,od7,.func (W.fnOf "put_in" "put_in" (i8 (top 19)) (i6 (top 19)) (g6 (top 19)) .none kV7 dc7 pm7 an7 cd7 ct7),sl7⟩) (c7:W.codeIn K cd7 "put_in"=true) (k7:W.keepIn K (.ref f7)=true)
  (a8:W.nsIn K mainGlobals "copy_under"=some (some (.ref f8))) (l8:K.lookup f8=some ⟨oc8,od8,.func (W.fnOf "copy_under" "copy_under" (i8 (top 20)) (i6 (top 20)) (g6 (top 20)) .none kV8 dc8 pm8 an8 cd8 ct8),sl8⟩) (c8:W.codeIn K cd8 "copy_under"=true) (k8:W.keepIn K (.ref f8)=true)
  (a9:W.nsIn K mainGlobals "with_parts"=some (some (.ref f9))) (l9:K.lookup f9=some ⟨oc9,od9,.func (W.fnOf "with_parts" "with_parts" (i8 (top 21)) (i6 (top 21)) (g6 (top 21)) .none kV9 dc9 pm9 an9 cd9 ct9),sl9⟩) (c9:W.codeIn K cd9 "with_parts"=true) (k9:W.keepIn K (.ref f9)=true)
  (a10:W.nsIn K mainGlobals "inner_under"=some (some (.ref f10))) (l10:K.lookup f10=some ⟨oc10,od10,.func (W.fnOf "inner_under" "inner_under" (i8 (top 22)) (i6 (top 22)) (g6 (top 22)) .none kV10 dc10 pm10 an10 cd10 ct10),sl10⟩) (c10:W.codeIn K cd10 "inner_under"=true) (k10:W.keepIn K (.ref f10)=true)
  (a11:W.nsIn K mainGlobals "_law_mixed"=some (some (.ref f11))) (l11:K.lookup f11=some ⟨oc11,od11,.func (W.fnOf "_law_mixed" "_law_mixed" (i8 (top 24)) (i6 (top 24)) (g6 (top 24)) .none kV11 dc11 pm11 an11 cd11 ct11),sl11⟩) (c11:W.codeIn K cd11 "_law_mixed"=true) (k11:W.keepIn K (.ref f11)=true)
  (a12:W.nsIn K mainGlobals "_law_deck"=some (some (.ref f12))) (l12:K.lookup f12=some ⟨oc12,od12,.func (W.fnOf "_law_deck" "_law_deck" (i8 (top 25)) (i6 (top 25)) (g6 (top 25)) .none kV12 dc12 pm12 an12 cd12 ct12),sl12⟩) (c12:W.codeIn K cd12 "_law_deck"=true) (k12:W.keepIn K (.ref f12)=true)
  (a13:W.nsIn K mainGlobals "_law_next"=some (some (.ref f13))) (l13:K.lookup f13=some ⟨oc13,od13,.func (W.fnOf "_law_next" "_law_next" (i8 (top 26)) (i6 (top 26)) (g6 (top 26)) .none kV13 dc13 pm13 an13 cd13 ct13),sl13⟩) (c13:W.codeIn K cd13 "_law_next"=true) (k13:W.keepIn K (.ref f13)=true)
  (a14:W.nsIn K mainGlobals "_law_power"=some (some (.ref f14))) (l14:K.lookup f14=some ⟨oc14,od14,.func (W.fnOf "_law_power" "_law_power" (i8 (top 27)) (i6 (top 27)) (g6 (top 27)) .none kV14 dc14 pm14 an14 cd14 ct14),sl14⟩) (c14:W.codeIn K cd14 "_law_power"=true) (k14:W.keepIn K (.ref f14)=true)
  (a15:W.nsIn K mainGlobals "_law_count"=some (some (.ref f15))) (l15:K.lookup f15=some ⟨oc15,od15,.func (W.fnOf "_law_count" "_law_count" (i8 (top 28)) (i6 (top 28)) (g6 (top 28)) .none kV15 dc15 pm15 an15 cd15 ct15),sl15⟩) (c15:W.codeIn K cd15 "_law_count"=true) (k15:W.keepIn K (.ref f15)=true)
  (a16:W.nsIn K mainGlobals "_law_kind"=some (some (.ref f16))) (l16:K.lookup f16=some ⟨oc16,od16,.func (W.fnOf "_law_kind" "_law_kind" (i8 (top 29)) (i6 (top 29)) (g6 (top 29)) .none kV16 dc16 pm16 an16 cd16 ct16),sl16⟩) (c16:W.codeIn K cd16 "_law_kind"=true) (k16:W.keepIn K (.ref f16)=true)
  (a17:W.nsIn K mainGlobals "_law_least"=some (some (.ref f17))) (l17:K.lookup f17=some ⟨oc17,od17,.func (W.fnOf "_law_least" "_law_least" (i8 (top 30)) (i6 (top 30)) (g6 (top 30)) .none kV17 dc17 pm17 an17 cd17 ct17),sl17⟩) (c17:W.codeIn K cd17 "_law_least"=true) (k17:W.keepIn K (.ref f17)=true)
  (a18:W.nsIn K mainGlobals "_law_made"=some (some (.ref f18))) (l18:K.lookup f18=some ⟨oc18,od18,.func (W.fnOf "_law_made" "_law_made" (i8 (top 31)) (i6 (top 31)) (g6 (top 31)) .none kV18 dc18 pm18 an18 cd18 ct18),sl18⟩) (c18:W.codeIn K cd18 "_law_made"=true) (k18:W.keepIn K (.ref f18)=true)
  (a19:W.nsIn K mainGlobals "_law_nest"=some (some (.ref f19))) (l19:K.lookup f19=some ⟨oc19,od19,.func (W.fnOf "_law_nest" "_law_nest" (i8 (top 32)) (i6 (top 32)) (g6 (top 32)) .none kV19 dc19 pm19 an19 cd19 ct19),sl19⟩) (c19:W.codeIn K cd19 "_law_nest"=true) (k19:W.keepIn K (.ref f19)=true)
  (a20:W.nsIn K mainGlobals "_law_asked"=some (some (.ref f20))) (l20:K.lookup f20=some ⟨oc20,od20,.func (W.fnOf "_law_asked" "_law_asked" (i8 (top 33)) (i6 (top 33)) (g6 (top 33)) .none kV20 dc20 pm20 an20 cd20 ct20),sl20⟩) (c20:W.codeIn K cd20 "_law_asked"=true) (k20:W.keepIn K (.ref f20)=true)
  (a21:W.nsIn K mainGlobals "_law_grown"=some (some (.ref f21))) (l21:K.lookup f21=some ⟨oc21,od21,.func (W.fnOf "_law_grown" "_law_grown" (i8 (top 34)) (i6 (top 34)) (g6 (top 34)) .none kV21 dc21 pm21 an21 cd21 ct21),sl21⟩) (c21:W.codeIn K cd21 "_law_grown"=true) (k21:W.keepIn K (.ref f21)=true)
  (a22:W.nsIn K mainGlobals "_law_inner"=some (some (.ref f22))) (l22:K.lookup f22=some ⟨oc22,od22,.func (W.fnOf "_law_inner" "_law_inner" (i8 (top 35)) (i6 (top 35)) (g6 (top 35)) .none kV22 dc22 pm22 an22 cd22 ct22),sl22⟩) (c22:W.codeIn K cd22 "_law_inner"=true) (k22:W.keepIn K (.ref f22)=true)
  (a23:W.nsIn K mainGlobals "_law_parts"=some (some (.ref f23))) (l23:K.lookup f23=some ⟨oc23,od23,.func (W.fnOf "_law_parts" "_law_parts" (i8 (top 36)) (i6 (top 36)) (g6 (top 36)) .none kV23 dc23 pm23 an23 cd23 ct23),sl23⟩) (c23:W.codeIn K cd23 "_law_parts"=true) (k23:W.keepIn K (.ref f23)=true)
  (a24:W.nsIn K mainGlobals "_law_program"=some (some (.ref f24))) (l24:K.lookup f24=some ⟨oc24,od24,.func (W.fnOf "_law_program" "_law_program" (i8 (top 37)) (i6 (top 37)) (g6 (top 37)) .none kV24 dc24 pm24 an24 cd24 ct24),sl24⟩) (c24:W.codeIn K cd24 "_law_program"=true) (k24:W.keepIn K (.ref f24)=true)
  (a25:W.nsIn K mainGlobals "_law_names"=some (some (.ref f25))) (l25:K.lookup f25=some ⟨oc25,od25,.func (W.fnOf "_law_names" "_law_names" (i8 (top 38)) (i6 (top 38)) (g6 (top 38)) .none kV25 dc25 pm25 an25 cd25 ct25),sl25⟩) (c25:W.codeIn K cd25 "_law_names"=true) (k25:W.keepIn K (.ref f25)=true)
  (a26:W.nsIn K mainGlobals "law"=some (some (.ref f26))) (l26:K.lookup f26=some ⟨oc26,od26,.func (W.fnOf "law" "law" (i8 (top 39)) (i6 (top 39)) (g6 (top 39)) .none kV26 dc26 pm26 an26 cd26 ct26),sl26⟩) (c26:W.codeIn K cd26 "law"=true) (k26:W.keepIn K (.ref f26)=true)
  (b0:W.nsIn K mainGlobals "len"=some none) (b1:W.nsIn K mainGlobals "abs"=some none) (b2:W.nsIn K mainGlobals "int"=some none) (b3:W.nsIn K mainGlobals "sum"=some none) (b4:W.nsIn K mainGlobals "list"=some none) (b5:W.nsIn K mainGlobals "tuple"=some none) (b6:W.nsIn K mainGlobals "isinstance"=some none) (b7:W.nsIn K mainGlobals "max"=some none) (b8:W.nsIn K mainGlobals "range"=some none) (b9:W.nsIn K mainGlobals "enumerate"=some none) (b10:W.nsIn K mainGlobals "reversed"=some none) (b11:W.nsIn K mainGlobals "str"=some none) (b12:W.nsIn K mainGlobals "bool"=some none) (b13:W.nsIn K mainGlobals "min"=some none) (b14:W.nsIn K mainGlobals "sorted"=some none) (b15:W.nsIn K mainGlobals "zip"=some none) (b16:W.nsIn K mainGlobals "any"=some none)
  (ga0:W.nsIn K mainGlobals "INNER_FROM"=some (some (.ref g0))) (gt0:(letI:Tbs:=⟨ts,mFB,(u5.cls "!kt").isEmpty⟩;aa5 K g0 (u5.tab "INNER_FROM"))=true)
  (ga1:W.nsIn K mainGlobals "UNDER_ONE_MORE"=some (some (.ref g1))) (gt1:(letI:Tbs:=⟨ts,mFB,(u5.cls "!kt").isEmpty⟩;aa5 K g1 (u5.tab "UNDER_ONE_MORE"))=true)
  (kc0:W.nsIn K mainGlobals "FEW"=some (some (.int 2000 kt0)))
  (ht6:M7 K cd6=some (hc6,hp6)) (hd6:W.codeHdIn K hc6 hp6=true) (hm6:ts.contains hp6=true)
  (ht7:M7 K cd7=some (hc7,hp7)) (hd7:W.codeHdIn K hc7 hp7=true) (hm7:ts.contains hp7=true)
  (ht9:M7 K cd9=some (hc9,hp9)) (hd9:W.codeHdIn K hc9 hp9=true) (hm9:ts.contains hp9=true) (nl:E7 K=true) (nt:W.noTabs K=true) (tso:ao4 K ts=true) :
  (letI:Tbs:=⟨ts,mFB,(u5.cls "!kt").isEmpty⟩;AllOk pr w K mg K9 u5)∧E7 K=true∧W.noTabs K=true∧∀P∈ts,∃c,W.codeHdIn K c P=true:=by
 letI:Tbs:=⟨ts,mFB,(u5.cls "!kt").isEmpty⟩
 refine⟨⟨fun f d hf hi=>?_,fun f d hf hi=>?_,fun f c Ca hn hf=>?_,fun b hb=>?_,fun g hg=>?_,fun g i hg=>?_,rfl⟩,nl,nt,bp4 tso⟩
 ·
  have hm:(f,d)∈K7:=PySem.mem_of_lookup hf;simp only[K7,List.mem_cons,List.not_mem_nil,or_false,Prod.mk.injEq]at hm
  rcases hm with⟨rfl,rfl⟩|⟨rfl,rfl⟩|⟨rfl,rfl⟩|⟨rfl,rfl⟩|⟨rfl,rfl⟩|⟨rfl,rfl⟩|⟨rfl,rfl⟩|⟨rfl,rfl⟩|⟨rfl,rfl⟩|⟨rfl,rfl⟩|⟨rfl,rfl⟩|⟨rfl,rfl⟩|⟨rfl,rfl⟩|⟨rfl,rfl⟩|⟨rfl,rfl⟩|⟨rfl,rfl⟩|⟨rfl,rfl⟩|⟨rfl,rfl⟩|⟨rfl,rfl⟩|⟨rfl,rfl⟩|⟨rfl,rfl⟩|⟨rfl,rfl⟩|⟨rfl,rfl⟩|⟨rfl,rfl⟩|⟨rfl,rfl⟩|⟨rfl,rfl⟩|⟨rfl,rfl⟩
  ·exact j4 X G a45 a0 l0 c0 k0
  ·exact j4 X G a47 a1 l1 c1 k1
  ·exact j4 X G bb1 a2 l2 c2 k2
  ·exact j4 X G a62 a3 l3 c3 k3
  ·exact j4 X G a42 a4 l4 c4 k4
  ·exact j4 X G a41 a5 l5 c5 k5
  ·exact j4 X G a50 a6 l6 c6 k6 (fun _=>ak5 ht6 hd6 hm6)
  ·exact j4 X G a52 a7 l7 c7 k7 (fun _=>ak5 ht7 hd7 hm7)
  ·exact j4 X G a43 a8 l8 c8 k8
  ·exact j4 X G a44 a9 l9 c9 k9 (fun _=>ak5 ht9 hd9 hm9)
  ·exact j4 X G a40 a10 l10 c10 k10
  ·exact j4 X G a53 a11 l11 c11 k11
  ·exact j4 X G a67 a12 l12 c12 k12
  ·exact j4 X G a70 a13 l13 c13 k13
  ·exact j4 X G a56 a14 l14 c14 k14
  ·exact j4 X G a59 a15 l15 c15 k15
  ·exact j4 X G a68 a16 l16 c16 k16
  ·exact j4 X G a61 a17 l17 c17 k17
  ·exact j4 X G a71 a18 l18 c18 k18
  ·exact j4 X G a69 a19 l19 c19 k19
  ·exact j4 X G a65 a20 l20 c20 k20
  ·exact j4 X G a64 a21 l21 c21 k21
  ·exact j4 X G a54 a22 l22 c22 k22
  ·exact j4 X G a63 a23 l23 c23 k23
  ·exact j4 X G a49 a24 l24 c24 k24
  ·exact j4 X G a55 a25 l25 c25 k25
  ·exact j4 X G a78 a26 l26 c26 k26
 ·
  have hm:(f,d)∈K7:=PySem.mem_of_lookup hf;simp only[K7,List.mem_cons,List.not_mem_nil,or_false,Prod.mk.injEq]at hm
  rcases hm with⟨rfl,rfl⟩|⟨rfl,rfl⟩|⟨rfl,rfl⟩|⟨rfl,rfl⟩|⟨rfl,rfl⟩|⟨rfl,rfl⟩|⟨rfl,rfl⟩|⟨rfl,rfl⟩|⟨rfl,rfl⟩|⟨rfl,rfl⟩|⟨rfl,rfl⟩|⟨rfl,rfl⟩|⟨rfl,rfl⟩|⟨rfl,rfl⟩|⟨rfl,rfl⟩|⟨rfl,rfl⟩|⟨rfl,rfl⟩|⟨rfl,rfl⟩|⟨rfl,rfl⟩|⟨rfl,rfl⟩|⟨rfl,rfl⟩|⟨rfl,rfl⟩|⟨rfl,rfl⟩|⟨rfl,rfl⟩|⟨rfl,rfl⟩|⟨rfl,rfl⟩|⟨rfl,rfl⟩
  ·exact absurd hi (by decide+kernel)
  ·exact absurd hi (by decide+kernel)
  ·exact absurd hi (by decide+kernel)
  ·exact absurd hi (by decide+kernel)
  ·exact absurd hi (by decide+kernel)
  ·exact absurd hi (by decide+kernel)
  ·exact absurd hi (by decide+kernel)
  ·exact absurd hi (by decide+kernel)
  ·exact absurd hi (by decide+kernel)
  ·exact absurd hi (by decide+kernel)
  ·exact absurd hi (by decide+kernel)
  ·exact absurd hi (by decide+kernel)
  ·exact absurd hi (by decide+kernel)
  ·exact absurd hi (by decide+kernel)
  ·exact absurd hi (by decide+kernel)
  ·exact absurd hi (by decide+kernel)
  ·exact absurd hi (by decide+kernel)
  ·exact absurd hi (by decide+kernel)
  ·exact absurd hi (by decide+kernel)
  ·exact absurd hi (by decide+kernel)
  ·exact absurd hi (by decide+kernel)
  ·exact absurd hi (by decide+kernel)
  ·exact absurd hi (by decide+kernel)
  ·exact absurd hi (by decide+kernel)
  ·exact absurd hi (by decide+kernel)
  ·exact absurd hi (by decide+kernel)
  ·exact absurd hi (by decide+kernel)
 ·
  unfold u5 at hf;simp only at hf;exact absurd hf List.not_mem_nil
 ·simp only[P7,List.mem_cons,List.not_mem_nil,or_false]at hb
  rcases hb with rfl|rfl|rfl|rfl|rfl|rfl|rfl|rfl|rfl|rfl|rfl|rfl|rfl|rfl|rfl|rfl|rfl
  ·exact W.mg_none_of X G b0
  ·exact W.mg_none_of X G b1
  ·exact W.mg_none_of X G b2
  ·exact W.mg_none_of X G b3
  ·exact W.mg_none_of X G b4
  ·exact W.mg_none_of X G b5
  ·exact W.mg_none_of X G b6
  ·exact W.mg_none_of X G b7
  ·exact W.mg_none_of X G b8
  ·exact W.mg_none_of X G b9
  ·exact W.mg_none_of X G b10
  ·exact W.mg_none_of X G b11
  ·exact W.mg_none_of X G b12
  ·exact W.mg_none_of X G b13
  ·exact W.mg_none_of X G b14
  ·exact W.mg_none_of X G b15
  ·exact W.mg_none_of X G b16
 ·unfold u5 at hg ⊢;simp only at hg ⊢
  by_cases hg0:g="INNER_FROM"
  ·subst hg0;exact aw9 X G ga0 gt0
  rw[if_neg hg0]at hg
  by_cases hg1:g="UNDER_ONE_MORE"
  ·subst hg1;exact aw9 X G ga1 gt1
  rw[if_neg hg1]at hg;exact absurd rfl hg
 ·unfold u5 at hg;simp only at hg
  by_cases hg0:g="FEW"
  ·subst hg0;rw[if_pos rfl]at hg;cases hg;exact⟨_,W.mg_of X G kc0⟩
  rw[if_neg hg0]at hg;cases hg
end Ek
theorem PySem.W.Fast.tw5105683238796171645:True:=trivial
theorem PySem.W.Fast.tw600417860763006056:True:=trivial
theorem PySem.W.Fast.tw10356920961640739544:True:=trivial
theorem PySem.W.Fast.tw16688479988458011201:True:=trivial
theorem PySem.W.Fast.tw334210001166565593:True:=trivial
theorem PySem.W.Fast.tw15151264574696905946:True:=trivial
theorem PySem.W.Fast.tw11627954170524066550:True:=trivial
theorem PySem.W.Fast.tw6045800064769138632:True:=trivial
theorem PySem.W.Fast.tw7029470911254578591:True:=trivial
theorem PySem.W.Fast.tw1559881676361879685:True:=trivial
theorem PySem.W.Fast.tw16002707743601426236:True:=trivial
theorem PySem.W.Fast.tw1141688319824788762:True:=trivial
theorem PySem.W.Fast.tw13844231120720908904:True:=trivial
theorem PySem.W.Fast.tw2985525795058513827:True:=trivial
theorem PySem.W.Fast.tw4762945882392290745:True:=trivial
theorem PySem.W.Fast.tw11762942783397874081:True:=trivial
theorem PySem.W.Fast.tw8486800007199075171:True:=trivial
theorem PySem.W.Fast.tw8852286144166272177:True:=trivial
theorem PySem.W.Fast.tw6040588641932948975:True:=trivial
theorem PySem.W.Fast.tw1284614702583123595:True:=trivial
theorem PySem.W.Fast.tw8058425133343871228:True:=trivial
theorem PySem.W.Fast.tw16385370617371969126:True:=trivial
theorem PySem.W.Fast.tw1084881891701927321:True:=trivial
theorem PySem.W.Fast.tw2855515805291742449:True:=trivial
theorem PySem.W.Fast.tw2890562142072286679:True:=trivial
theorem PySem.W.Fast.tw14139694855354856551:True:=trivial
theorem PySem.W.Fast.tw16723949923576994545:True:=trivial
theorem PySem.W.Fast.tw3859598223610929548:True:=trivial
theorem PySem.W.Fast.tw15967176525918568258:True:=trivial
theorem PySem.W.Fast.tw2627386242099012891:True:=trivial
theorem PySem.W.Fast.tw14260292468532254035:True:=trivial
theorem PySem.W.Fast.tw11256352135756100155:True:=trivial
theorem PySem.W.Fast.tw10464208453327887122:True:=trivial
theorem PySem.W.Fast.tw12508329900403568890:True:=trivial
theorem PySem.W.Fast.tw15866170325658362215:True:=trivial
theorem PySem.W.Fast.tw14443995391360436205:True:=trivial
theorem PySem.W.Fast.tw17281334480480741422:True:=trivial
theorem PySem.W.Fast.tw15024211284588042704:True:=trivial
theorem PySem.W.Fast.tw12217196456570561747:True:=trivial
theorem PySem.W.Fast.tw6606898708932653719:True:=trivial
theorem PySem.W.Fast.tw9479539397626689605:True:=trivial
theorem PySem.W.Fast.tw13598976515500866862:True:=trivial
theorem PySem.W.Fast.tw802344784245408917:True:=trivial
theorem PySem.W.Fast.tw13614505530144872192:True:=trivial
theorem PySem.W.Fast.tw17162444606877166123:True:=trivial
theorem PySem.W.Fast.tw1309773284574885110:True:=trivial
theorem PySem.W.Fast.tw3208728447020084575:True:=trivial
theorem PySem.W.Fast.tw12816505245494213964:True:=trivial
theorem PySem.W.Fast.tw4810199018210040698:True:=trivial
theorem PySem.W.Fast.tw17726231642151232126:True:=trivial
theorem PySem.W.Fast.tw11914747594286577061:True:=trivial
theorem PySem.W.Fast.tw11664911231606936925:True:=trivial
theorem PySem.W.Fast.tw17727380874649728161:True:=trivial
theorem PySem.W.Fast.tw3639110942275165773:True:=trivial
theorem PySem.W.Fast.tw2175349193906278018:True:=trivial
theorem PySem.W.Fast.tw17297026683161648429:True:=trivial
theorem PySem.W.Fast.tw2214021463692339821:True:=trivial
theorem PySem.W.Fast.tw17786164872791540463:True:=trivial
theorem PySem.W.Fast.tw2030949453869220900:True:=trivial
theorem PySem.W.Fast.tw10494082231293877584:True:=trivial
theorem PySem.W.Fast.tw2194552348036845334:True:=trivial
theorem PySem.W.Fast.tw10162282367284180360:True:=trivial
theorem PySem.W.Fast.tw14453168877562729933:True:=trivial
theorem PySem.W.Fast.tw10864595878354450060:True:=trivial
theorem PySem.W.Fast.tw18307187634892777200:True:=trivial
theorem PySem.W.Fast.tw4660469213380799713:True:=trivial
theorem PySem.W.Fast.tw17640224222142425252:True:=trivial
theorem PySem.W.Fast.tw762294842067008124:True:=trivial
theorem PySem.W.Fast.tw15580803772982774063:True:=trivial
theorem PySem.W.Fast.tw13609347307767921608:True:=trivial
theorem PySem.W.Fast.tw16546421320556492791:True:=trivial
theorem PySem.W.Fast.tw9370639749674846406:True:=trivial
theorem PySem.W.Fast.tw8246008270471929113:True:=trivial
theorem PySem.W.Fast.tw8183395085606134219:True:=trivial
theorem PySem.W.Fast.tw9545407962129440194:True:=trivial
theorem PySem.W.Fast.tw2037180965119779592:True:=trivial
theorem PySem.W.Fast.tw15921935739943312373:True:=trivial
theorem PySem.W.Fast.tw17464305142871693847:True:=trivial
theorem PySem.W.Fast.tw5263583908539870252:True:=trivial
theorem PySem.W.Fast.tw4593480668686325632:True:=trivial
theorem PySem.W.Fast.tw6016611841982008938:True:=trivial
theorem PySem.W.Fast.tw9239803066921335783:True:=trivial
theorem PySem.W.Fast.tw5678326651976394439:True:=trivial
theorem PySem.W.Fast.tw5060215159665849275:True:=trivial
theorem PySem.W.Fast.tw13312100803662337752:True:=trivial
theorem PySem.W.Fast.tw9230791340232957980:True:=trivial
theorem PySem.W.Fast.tw16556798680429096424:True:=trivial
theorem PySem.W.Fast.tw15462332719430857589:True:=trivial
theorem PySem.W.Fast.tw13061223122007251750:True:=trivial
theorem PySem.W.Fast.tw118084610653413289:True:=trivial
theorem PySem.W.Fast.tw6158855578587330897:True:=trivial
theorem PySem.W.Fast.tw10065765204255730458:True:=trivial
theorem PySem.W.Fast.tw5423873399176295899:True:=trivial
theorem PySem.W.Fast.tw17582892812579076770:True:=trivial
theorem PySem.W.Fast.tw12871982158075979592:True:=trivial
theorem PySem.W.Fast.tw16551513492803298409:True:=trivial
theorem PySem.W.Fast.tw11338790035561281340:True:=trivial
theorem PySem.W.Fast.tw14718595334518948501:True:=trivial
theorem PySem.W.Fast.tw5237093175531581116:True:=trivial
theorem PySem.W.Fast.tw8508922457378308170:True:=trivial
open PySem PySem.W PyProof.Rows
set_option maxRecDepth 100000 in
set_option maxHeartbeats 0 in
theorem PySem.Challenge.cw_evenkinds_k25_whole_put_in_and_lifted_holds : PySem.Challenge.rw_evenkinds_k25_whole_put_in_and_lifted.Holds := by
 w_on;o_law;k_head;(case hw=>w_witness2)
 k_fill
 refine Ek.bo6 (l:=PySem.Challenge.rw_evenkinds_k25_whole_put_in_and_lifted) (P:=Ek.K9) (G:=Ek.u5) (n:=50) (x:="_law_script") (dl:=Ek.J5) rfl rfl rfl ⟨rfl,by decide,by decide⟩ (fun w h Y=>⟨W.km_in_of Y,W.km_tabs_of Y⟩) rfl ?hst ?F Ek.bc3
 case hst=>
  intro st y ps S;have e:=S.sc.pre;have e2:=S.np;rw[e2]at e;exact e.symm
 case F=>
  intro w mg h KX G
  refine' Ek.bx4 KX G ?a0 ?l0 ?c0 ?k0 ?a1 ?l1 ?c1 ?k1 ?a2 ?l2 ?c2 ?k2 ?a3 ?l3 ?c3 ?k3 ?a4 ?l4 ?c4 ?k4 ?a5 ?l5 ?c5 ?k5 ?a6 ?l6 ?c6 ?k6 ?a7 ?l7 ?c7 ?k7 ?a8 ?l8 ?c8 ?k8 ?a9 ?l9 ?c9 ?k9 ?a10 ?l10 ?c10 ?k10 ?a11 ?l11 ?c11 ?k11 ?a12 ?l12 ?c12 ?k12 ?a13 ?l13 ?c13 ?k13 ?a14 ?l14 ?c14 ?k14 ?a15 ?l15 ?c15 ?k15 ?a16 ?l16 ?c16 ?k16 ?a17 ?l17 ?c17 ?k17 ?a18 ?l18 ?c18 ?k18 ?a19 ?l19 ?c19 ?k19 ?a20 ?l20 ?c20 ?k20 ?a21 ?l21 ?c21 ?k21 ?a22 ?l22 ?c22 ?k22 ?a23 ?l23 ?c23 ?k23 ?a24 ?l24 ?c24 ?k24 ?a25 ?l25 ?c25 ?k25 ?a26 ?l26 ?c26 ?k26 ?b0 ?b1 ?b2 ?b3 ?b4 ?b5 ?b6 ?b7 ?b8 ?b9 ?b10 ?b11 ?b12 ?b13 ?b14 ?b15 ?b16 ?ga0 ?gt0 ?ga1 ?gt1 ?kc0 ?ht6 ?hd6 ?hm6 ?ht7 ?hd7 ?hm7 ?ht9 ?hd9 ?hm9     ?nl ?nt ?tso
  (case a0=>k_is);(case l0=>k_is);(case c0=>k_is);(case k0=>k_is)
  (case a1=>k_is);(case l1=>k_is);(case c1=>k_is);(case k1=>k_is)
  (case a2=>k_is);(case l2=>k_is);(case c2=>k_is);(case k2=>k_is)
  (case a3=>k_is);(case l3=>k_is);(case c3=>k_is);(case k3=>k_is)
  (case a4=>k_is);(case l4=>k_is);(case c4=>k_is);(case k4=>k_is)
  (case a5=>k_is);(case l5=>k_is);(case c5=>k_is);(case k5=>k_is)
  (case a6=>k_is);(case l6=>k_is);(case c6=>k_is);(case k6=>k_is)
  (case a7=>k_is);(case l7=>k_is);(case c7=>k_is);(case k7=>k_is)
  (case a8=>k_is);(case l8=>k_is);(case c8=>k_is);(case k8=>k_is)
  (case a9=>k_is);(case l9=>k_is);(case c9=>k_is);(case k9=>k_is)
  (case a10=>k_is);(case l10=>k_is);(case c10=>k_is);(case k10=>k_is)
  (case a11=>k_is);(case l11=>k_is);(case c11=>k_is);(case k11=>k_is)
  (case a12=>k_is);(case l12=>k_is);(case c12=>k_is);(case k12=>k_is)
  (case a13=>k_is);(case l13=>k_is);(case c13=>k_is);(case k13=>k_is)
  (case a14=>k_is);(case l14=>k_is);(case c14=>k_is);(case k14=>k_is)
  (case a15=>k_is);(case l15=>k_is);(case c15=>k_is);(case k15=>k_is)
  (case a16=>k_is);(case l16=>k_is);(case c16=>k_is);(case k16=>k_is)
  (case a17=>k_is);(case l17=>k_is);(case c17=>k_is);(case k17=>k_is)
  (case a18=>k_is);(case l18=>k_is);(case c18=>k_is);(case k18=>k_is)
  (case a19=>k_is);(case l19=>k_is);(case c19=>k_is);(case k19=>k_is)
  (case a20=>k_is);(case l20=>k_is);(case c20=>k_is);(case k20=>k_is)
  (case a21=>k_is);(case l21=>k_is);(case c21=>k_is);(case k21=>k_is)
  (case a22=>k_is);(case l22=>k_is);(case c22=>k_is);(case k22=>k_is)
  (case a23=>k_is);(case l23=>k_is);(case c23=>k_is);(case k23=>k_is)
  (case a24=>k_is);(case l24=>k_is);(case c24=>k_is);(case k24=>k_is)
  (case a25=>k_is);(case l25=>k_is);(case c25=>k_is);(case k25=>k_is)
  (case a26=>k_is);(case l26=>k_is);(case c26=>k_is);(case k26=>k_is)
  (case b0=>k_is)
  (case b1=>k_is)
  (case b2=>k_is)
  (case b3=>k_is)
  (case b4=>k_is)
  (case b5=>k_is)
  (case b6=>k_is)
  (case b7=>k_is)
  (case b8=>k_is)
  (case b9=>k_is)
  (case b10=>k_is)
  (case b11=>k_is)
  (case b12=>k_is)
  (case b13=>k_is)
  (case b14=>k_is)
  (case b15=>k_is)
  (case b16=>k_is)
  (case ga0=>k_is);(case gt0=>rfl)
  (case ga1=>k_is);(case gt1=>rfl)
  (case kc0=>k_is)
  (case ht6=>rfl);(case hd6=>kernel_rfl);(case hm6=>decide)
  (case ht7=>rfl);(case hd7=>kernel_rfl);(case hm7=>decide)
  (case ht9=>rfl);(case hd9=>kernel_rfl);(case hm9=>decide)
  (case nl=>rfl);(case nt=>rfl);(case tso=>rfl)
#print axioms PySem.Challenge.cw_evenkinds_k25_whole_put_in_and_lifted_holds
