import PyProof.Rows.All
import PyProof.TupleKey
import PyProof.P3Eq
import PyProof.DictKinds
import Wide.All
import OpenK.AllK
import Wide.FinOn
import Lean
import PyProof.EqAt
import PyProof.EqKinds
import PyProof.TupleCall
import PyProof.StrBlockL
import PyProof.ListMulRoad
import PyProof.FactsAll.tuple
import PyProof.ZipIter
import PyProof.ListNew
import KE.KRevIter
import KE.KIntText
import PyProof.StrLawsIn
import KE.LcSums
import PyProof.EnumStmt
import PyProof.AttrMissHeap
import KE.KDictOf
import PySem.Challenge.RW_evenkinds_k95_texts_both_ways
set_option Elab.async false
set_option maxHeartbeats 4000000
set_option compiler.extract_closed false
set_option genSizeOf false
set_option bootstrap.genMatcherCode false
set_option linter.all false
local macro_rules|`(command|abbrev $i:declId $s:optDeclSig $v:declVal)=>Lean.MonadRef.withRef .missing `(command|noncomputable def $i:declId $s:optDeclSig $v:declVal)
local macro_rules|`(command|def $i:declId $b* :$t $v:declVal)=>Lean.MonadRef.withRef .missing `(command|noncomputable def $i:declId $b* :$t $v:declVal)
local macro_rules|`(⋯)=>`(by lia)
local macro_rules|`(∅)=>`(by decide)
local macro_rules|`(∎)=>`(by simp)
open List (mem_cons length_cons append_assoc length_nil getElem?_eq_getElem)
open Nat (not_lt mul_comm log2_lt)
open Bool (false_eq_true not_eq_true')
open PySem.Heap (size_push)
open Option renaming some->AA,none->AE,isSome_iff_exists->BM,casesOn->DQ,map_some->FM,isSome_map->Gr,getD_none->HC
open Decidable renaming decide->AB
open Bool renaming true->AC,false->AG,false_ne_true->AL,and_self->Aa,false_eq_true->Ae,and_eq_true->Aq,or_false->BF,false_or->BG,not_eq_true'->EK,eq_iff_iff->FX,not_true->GC,and_false->IH,decide_or->IL
open PySem.Str renaming ofString->AD,join->Gy,length->Ji
open PySem renaming Value->AF,wpAny_bind->AH,Shared->AK,Addr->AM,wpAny_pure->AN,Expr->AQ,mainGlobals->AS,wpAny->AU,Program->Ag,starEach->Ai,PyData->Am,bootBuiltins->Aw,Heap->Az,World->BA,Scope->BN,Around->BO,Stmt->BQ,wpAny_mono->BX,compareOp->Bb,wpAny_truthy_bool->Bf,wpAny_newObj_type->Bg,assignEach->Bn,FuncData->Bo,wpAny_Call_Name_kw->Bp,backTo->Bt,wpAny_specialOf->Bu,behindInMarks->Bw,attributeBase->Bx,cLine->CI,wpAny_call_entry->CJ,wpAny_passesOwn->CQ,binaryOp->CS,wpAny_holding->CV,wpAny_seqItems->Cd,sysModules->Ce,builtinsNs->Cq,call_meets->Cs,swapsWith->Cu,wpAny_field->Cv,wpAny_callSpecial?_slot->Cw,foldedSetIterable->DD,DictEntry->DL,codeAny->DN,sliceBounds->DV,keywordEach->DW,CmpOp->Dc,wpAny_pyIter_tuple->Dn,eqIsQuiet_byValue->Du,getItem->Dv,wpAny_pyHash_str->EE,Operator->EF,letOwnedTupleGo->EO,wpAny_loadPart'->EQ,sizeLine_eq->Eh,NameKind->Ei,backToKw->Em,wpAny_pyIter_revIter->En,methodCallForm->Eo,Keyword->Eu,swapsWithSole->FJ,typeIs_str->FR,slot_dict_contains->FS,codeAny_mono->Fe,valueAt->Fh,wpAny_pyIter_enum->Fj,wpAny_pyHash_int->Fv,PassesOwn->Fw,noFill_tuple_add->Fy,IsPart->Fz,wpAny_execs_nil->GI,wpAny_updateSeq->GJ,standAt->GL,callerA->GQ,Builtin->GR,isTrue->GX,Result->Ga,recursionLimit->Gb,bindArgs->Gc,typeLookup->Gd,wpAny_standAt->Go,seq_tuple_add->Gq,wpAny_comprehension_free->Gu,Comprehension->Gw,bindL->HA,bindC->HB,concat_meets->HL,wpAny_typeOf->HM,seqIndex_neg->HN,wpAny_Call_method_late->HQ,revObj->HV,wpAny_isTrue_Compare1->Hb,getitemInPython_of_ne->He,wpAny_pyNext_rev_item->Hf,builtinLookup_eq_fast->Hg,seqIndex_of->Hm,atKey->Hq,wpAny_letTemporaryGo->Hr,wpAny_newFunctionEnv->Hv,wpAny_pyNext_rev_end->Hw,FuncBody->Hx,wpAny_rule->IP,wpAny_Name->IQ,pyNext->IS,pyIter->IT,rawInt->IU,typeIs_int->IY,call_reversed_list->Ia,JoinOk->Ib,wpAny_assign_Name->Ii,wpAny_sequenceKey->Ik,slot_list_getitem->Im,wpAny_Call_method->Ip,dictGet->Iv,slot_dict_getitem->Iw,beq_builtin_none->Iz,wpAny_forIn_list->JA,wpAny_isInstance->JB,wpAny_execs_cons->JC,getMethod->JF,cellsFrom->JI,seqIndex?->JM,wpAny_operating->JU,typeLookup_type->JW,codeAny_builtin->JX,wpAny_Compare1->Jf,IntMulOk->Jg,letTemporaryGo->Jk,cellOf->Jm,compEnvC->Jn,newFunctionEnv->Jo,wpAny_setField->Jp,firstArgMember->Jq,Meets->Jr,IsEnum->Js,BoolOp->Ju
open List renaming length_cons->AI,length_append->AJ,length_nil->AO,mem_cons->AT,map_cons->AY,getElem?_eq_getElem->AZ,size_toArray->Ab,not_mem_nil->Ac,replicate->Ad,length_map->Aj,getElem?_eq_some_iff->Ao,length->Ap,mem_append->Ax,length_drop->BC,mem_append_right->BD,getElem?_append_left->BH,map_append->BI,mem_cons_of_mem->BJ,append_nil->BP,getElem?_append_right->BU,append_assoc->Ba,eq_nil_of_length_eq_zero->Bc,map_nil->Be,cons_append->Bm,nodup_cons->Bq,any_cons->Br,sum_cons->Bs,mem_cons_self->Bv,drop_drop->CK,getElem?_map->CM,reverse_cons->CO,mem_of_mem_drop->CT,replicate_succ->Cf,take_succ_cons->Cg,flatten_cons->Ci,lookup->Ck,getElem?_replicate->Cr,find?_cons->Ct,range->DC,length_singleton->DM,casesOn->DP,any_nil->DR,drop_eq_getElem_cons->De,nil_append->Do,map_map->Dw,all_eq_true->Dx,sum_nil->Dy,length_replicate->EB,take_zero->EH,mem_of_mem_take->EI,length_reverse->ER,foldl->EW,mem_singleton->Ef,filterMap_cons->Eg,length_take->El,any_eq_false->Et,eraseIdxIfInBounds_toArray->FA,zip_cons_cons->FN,of_mem_zip->FQ,drop_left'->FT,getElem?_take_of_lt->GE,lookup_cons->GF,getElem?_set_self->GK,take_of_length_le->GS,drop_eq_nil_of_le->GU,singleton_append->Ge,getElem?_eq_none->Gf,mem_append_left->Gg,getElem?_set_ne->Gh,mem_of_getElem?->Gk,map_eq_nil_iff->Gx,mem_filterMap->Gz,getElem?_drop->HD,take_sublist->HK,mem_map->HS,getElem?_set->HW,drop_length->Hi,any_eq_true->Hj,mem_filter->Hl,foldl_cons->Hn,forIn_cons->Hu,getElem_mem->IA,length_zip->IB,sum_append->IC,take_left'->Ie,drop_zero->JP
open PySem.W renaming Frag->AR,nsIn->Ay,findIn->BS,keepIn->CA,kitOne->CB,kia_one->CC,emptyDict->CY,codeHdIn->DI,instObj->Db,codeIn->EU,mg_of->EX,plainGet->Ez,callWith_K->FP,fnOf->Fm,hasDictIn->Fp,specialIn->Fq,plainGet_of->GZ,makesIn->Gi,takesIn->Gj,kitx_tuple->Gp,methodObj->HG,lookIn->HH,plainOver->HJ,noTabs->HY,mroIn->IG,takerIn->IV,cellsFrom_some->IW,methodCall_KW->Iu,isFn->JE,callWith_K0->JS,codeHd_of_K->Jb
open PySem.Heap renaming get?_push_of_some->AV,get?_push_size->Au,lt_size->Av,SameBut->CG,get?_update_other->Cp,size_push->Dh,get?_update_self->EG
open Nat renaming pow_le_pow_right->AW,le_refl->Af,lt_of_lt_of_le->Ah,le_trans->Al,zero_le->Ar,le_of_ble_eq_true->BR,ne_of_lt->BZ,succ_pos->Bj,succ_le_succ->Bl,lt_irrefl->CU,le_max_right->Cj,min_le_right->DF,le_max_left->DX,min->Di,add_sub_cancel_left->Dt,lt_succ_self->EJ,lt_succ_of_lt->FB,succ_ne_self->Fk,mul_comm->Fl,pow_add->Fn,add_assoc->Fu,le_succ->GN,le_of_lt->GW,ne_of_gt->GY,toDigits_ne_nil->HE,add_sub_cancel->HX,le_of_not_lt->Hs,min_le_left->IE,pow_pos->Ix,digitChar->Iy,le_of_eq->JG,add_comm->JN,toDigits->JR,one_pos->Jd,succ_mul->Jj,max_zero->Jv,pow_succ->Jy
open False renaming elim->AX
open PySem.PyData renaming eqv->Ak,depthAll->CF,eqvAll->Cc,canLayAll0->Co,canLay0->EA,depth->EV,strOk->Ed
open PySem.Value renaming ref->An,none->Bd,type->CP,int->Dl,str->Dm,bool->Fa,float->GV,builtin->ID,isStrOf->IF,isInt->Ig,bytes->Ih
open List.cons renaming injEq->As,inj->FU
open Option.some renaming inj->At,injEq->Bi
open PyProof.Rows renaming callWith_type1->BB,slot_tuple_getitem->Ch,subscriptTail->FL,AllBare->Fb,IntsAre->Fg,envOfC->Fx,subscriptTail_builtinR->HP,Subscript_->IX,Call_->Ij,callWith_builtin1->JT,IsTup->Je,slicePart_none->Jh
open String renaming reduceEq->BE
open Ne renaming symm->BK
open PySem.NameKind renaming free->BL
open PySem.Builtin.Tuple renaming tupleHashOf->BV,tupleExact->CN,tupleItemsOf->Cz,tupleTooMany->ET
open Sum renaming inr->BW,inl->Ey
open ForInStep renaming yield->BY
open PyProof.Rows.KTD renaming datumAt->Bh
open PySem.Builtin.List renaming listTooLong->Bk,listExtendWith->Bz,listSameRef->Ew,listItems->FO,listLengthHint->JY,listUpdate->JZ
open PySem.Builtin.SmallTypes renaming nextOf->By
open PySem.Calls renaming callWith_builtin->CD,evalArgs_plain->DH,spliced_cons->DU,spliced_nil->Ej,Name_function_global->Fc
open True renaming intro->CH
open PySem.Builtin.Slice renaming slicePlaces->CL,sliceAdjust->DG,sliceApplied->ES,slicePartIndex->JK,sliceFields->JL
open PySem.F renaming slot_tuple_iterator_next->CZ,plain_extend_loop->DZ,slot_tuple_hash->Dp,slot_tuple_mul->Dz,args_tuple_iterator_next_1->GA,entry_tuple_iterator_next->GH,args_list_extend_2->HR,entry_list_extend->Hd,entry_extend_loop->Hh,slot_list_extend->Ho,args_tuple_mul_2->Hy,slot_tuple_rmul->II,entry_tuple_mul->IK,entry_list_pop->IZ,slot_list_pop->Io,slot_int_rmul->Ir
open PySem.Obj renaming mapSeq->Cm,data_mapFields->HU
open PySem.Builtin.Int renaming intBits->Cy,intTooBig->FV
open ToString renaming toString->DE
open Array renaming length_toList->DJ,getElem?_toList->GP,forIn_toList->Gn,toList->IR
open PySem.Txt renaming slice->DY,join->Ic
open Char renaming toNat->Da
open PySem.CmpOp renaming NotIn->Dd
open PySem.Expr.Attribute renaming elim->Dj
open PySem.Expr.Subscript renaming elim->Dk
open PySem.Expr.ListComp renaming elim->Dq
open PySem.Expr.Constant renaming elim->Dr
open PySem.Stmt.Continue renaming elim->Ds
open PySem.Expr.UnaryOp renaming elim->EC
open PySem.Expr.Compare renaming elim->ED
open PySem.Expr.BoolOp renaming elim->EL
open PySem.Stmt.Assign renaming elim->EM
open PySem.Stmt.Return renaming elim->EN
open PySem.Expr.BinOp renaming elim->EY
open PySem.Expr.IfExp renaming elim->EZ
open PySem.Expr.Tuple renaming elim->Ea
open PySem.Expr.Slice renaming elim->Eb
open PySem.Stmt.While renaming elim->Ec
open PySem.Builtin.Str renaming strSliceIndices->Ee,occurrences->FK,glued->Jw,tooLong->Jx
open Std.Legacy.Range renaming size->Ep,forIn_eq_forIn_range'->IM
open Sum.inr renaming inj->Er
open PySem.SeqAt renaming eqAt_reads->Ex,EqAt->Gv
open Int renaming toNat_natCast->FC,emod_lt_of_pos->HZ,natCast_mul->IJ,emod_nonneg->IN,ediv_one->JJ,pow_succ->JQ,le_refl->Jc
open PySem.Expr.Dict renaming elim->FD
open PySem.Expr.Call renaming elim->FE
open PySem.Expr.Name renaming elim->FF
open PySem.Expr.List renaming elim->FG
open PySem.Stmt.Expr renaming elim->FH
open PySem.Stmt.Pass renaming elim->FI
open PySem.AutoSeq1 renaming wpAny_loadPart'->FY
open PySem.Stmt.For renaming elim->FZ
open PySem.Heap.SameBut renaming update->Fi
open List.Pairwise renaming map->Fs,nil->JO
open Nat.succ renaming inj->Ft
open PySem.Stmt.If renaming elim->GB
open PySem.Around renaming under->GD,frames_deeper->GO,under_plainId->GT
open PySem.Code renaming isFrame->GM,frames->JH
open PySem.StrLaws renaming found_one->Gm
open PySem.Operator renaming Add->Hk
open Eq renaming symm->Hz
open PySem.Heap.IsSliceOf renaming new->Il
open PySem.W.WShape renaming has->Iq
open PySem.Builtin.Range renaming rangeSize->JD
open PySem.W.WData renaming int->JV
open PySem.Builtin.Dict renaming pendingKey?->Ja
open PySem.Heap.DictOf renaming new->Jl
open PySem.SeqAt.Reads renaming unique->Jt
namespace PySem
noncomputable instance decPyData:DecidableEq Am:=λa b=>Classical.propDecidable (a=b)
namespace NK
mutual
noncomputable def lit:Am->Bool
 |.int _=>AC
 |.str x=>EA (.str x)
 |.tuple ds=>lits ds
 |_=>AG
noncomputable def lits:List Am->Bool
 |[]=>AC
 |d::r=>lit d&&lits r
end
mutual
theorem ac3:∀d:Am,lit d=AC->d.canLay0=AC
 |.int _,_=>rfl
 |.str _,h=>h
 |.tuple ds,h=>by rw[EA];exact am4 ds h
 |.none,h=>nomatch h
 |.bool _,h=>nomatch h
 |.list _,h=>nomatch h
 |.dict _,h=>nomatch h
theorem am4:∀ds:List Am,lits ds=AC->Co ds=AC
 |[],_=>rfl
 |d::r,h=>by
  have h':lit d=AC/\lits r=AC:=by simpa[lits]using h
  show(d.canLay0&&Co r)=AC;rw[ac3 d h'.1,am4 r h'.2];rfl
end
mutual
theorem ad1:∀x y:Am,lit x=AC->lit y=AC->(Ak x y=AC↔x=y)
 |.int i,.int j,_,_=>by rw[Ak];simp
 |.int i,.str y,_,_=>by simp[Ak]
 |.int i,.tuple ys,_,_=>by simp[Ak]
 |.str x,.int j,_,_=>by simp[Ak]
 |.str x,.str y,_,_=>by rw[Ak];simp
 |.str x,.tuple ys,_,_=>by simp[Ak]
 |.tuple xs,.int j,_,_=>by simp[Ak]
 |.tuple xs,.str y,_,_=>by simp[Ak]
 |.tuple xs,.tuple ys,hx,hy=>by rw[Ak,am9 xs ys hx hy];simp
 |.none,_,h,_=>nomatch h
 |.bool _,_,h,_=>nomatch h
 |.list _,_,h,_=>nomatch h
 |.dict _,_,h,_=>nomatch h
 |_,.none,_,h=>nomatch h
 |_,.bool _,_,h=>nomatch h
 |_,.list _,_,h=>nomatch h
 |_,.dict _,_,h=>nomatch h
theorem am9:∀xs ys:List Am,lits xs=AC->lits ys=AC->(Cc xs ys=AC↔xs=ys)
 |[],[],_,_=>by simp[Cc]
 |[],y::ys,_,_=>by simp[Cc]
 |x::xs,[],_,_=>by simp[Cc]
 |x::xs,y::ys,hx,hy=>by
  have hx':lit x=AC/\lits xs=AC:=by simpa[lits]using hx
  have hy':lit y=AC/\lits ys=AC:=by simpa[lits]using hy
  rw[Cc,Aq,ad1 x y hx'.1 hy'.1,am9 xs ys hx'.2 hy'.2];simp
end
theorem ab7:∀{ds:List Am},lits ds=AC->∀d∈ds,lit d=AC
 |[],_,d,h=>by cases h
 |e::r,hl,d,h=>by
  have h':lit e=AC/\lits r=AC:=by simpa[lits]using hl
  rcases AT.mp h with rfl|h
  ·exact h'.1
  ·exact ab7 h'.2 d h
theorem aa4:∀{ds:List Am}{d:Am},d∈ds->d.depth<=CF ds
 |e::r,d,h=>by
  show d.depth<=max e.depth (CF r)
  rcases AT.mp h with rfl|h
  ·lia
  ·have:=aa4 h;lia
def depth_tup{ds:List Am}:(PyData.tuple ds).depth=CF ds+1:=by rw[EV]
mutual
theorem a06{h:Az}:∀(x y:Am){v:AF}{as bs:List AM},lit x=AC->lit y=AC->Reads h v x as->Reads h v y bs->x=y
 |.int i,y,v,as,bs,_,hy,rx,ry=>by
  cases rx;cases ry;rfl
 |.str x,y,v,as,bs,_,hy,rx,ry=>by
  cases rx;cases ry;rfl
 |.tuple xs,y,v,as,bs,hx,hy,rx,ry=>by
  cases rx with
  |tuple e1 e2 e3 e4=>
   cases ry with
   |tuple f1 f2 f3 f4=>
    rw[e1]at f1;cases f1;rw[e3]at f3;cases f3;rw[as6 xs _ hx hy e4 f4]
   |list=>cases hy
   |dict=>cases hy
 |.none,_,_,_,_,h,_,_,_=>nomatch h
 |.bool _,_,_,_,_,h,_,_,_=>nomatch h
 |.list _,_,_,_,_,h,_,_,_=>nomatch h
 |.dict _,_,_,_,_,h,_,_,_=>nomatch h
theorem as6{h:Az}:∀(xs ys:List Am){vs:List AF}{as bs:List AM},lits xs=AC->lits ys=AC->ReadsAll h vs xs as->ReadsAll h vs ys bs->xs=ys
 |[],ys,vs,as,bs,_,_,rx,ry=>by cases rx;cases ry;rfl
 |x::xs,ys,vs,as,bs,hx,hy,rx,ry=>by
  cases rx with
  |cons r1 r2=>cases ry with
   |@cons _ _ y ys _ _ q1 q2=>
    have hx':lit x=AC/\lits xs=AC:=by simpa[lits]using hx
    have hy':lit y=AC/\lits ys=AC:=by simpa[lits]using hy
    rw[a06 x y hx'.1 hy'.1 r1 q1,as6 xs ys hx'.2 hy'.2 r2 q2]
end
mutual
theorem ar2{h h':Az}{d:AM}{o:Obj}{es:Array DL}{ep:Nat}(ho:h.get? d=AA o)(hd:o.data=.dict es ep)(hs:CG d h h'):∀(x:Am){v:AF}{as:List AM},lit x=AC->Reads h v x as->∃bs,Reads h' v x bs
 |.int i,v,as,_,r=>by cases r;exact⟨_,.int _ _⟩
 |.str x,v,as,_,r=>by cases r;exact⟨_,.str _ _⟩
 |.tuple xs,v,as,hx,r=>by
  cases r with
  |@tuple a o' _ _ _ _ e1 e2 e3 e4=>
   have hne:a≠d:=by
    rintro rfl;rw[e1]at ho;cases ho;rw[hd]at e3;exact nomatch e3
   obtain⟨bs,r'⟩:=an2 ho hd hs xs hx e4;exact⟨_,.tuple ((hs.2 a hne).trans e1) e2 e3 r'⟩
 |.none,_,_,h,_=>nomatch h
 |.bool _,_,_,h,_=>nomatch h
 |.list _,_,_,h,_=>nomatch h
 |.dict _,_,_,h,_=>nomatch h
theorem an2{h h':Az}{d:AM}{o:Obj}{es:Array DL}{ep:Nat}(ho:h.get? d=AA o)(hd:o.data=.dict es ep)(hs:CG d h h'):∀(xs:List Am){vs:List AF}{as:List AM},lits xs=AC->ReadsAll h vs xs as->∃bs,ReadsAll h' vs xs bs
 |[],vs,as,_,r=>by cases r;exact⟨_,.nil⟩
 |x::xs,vs,as,hx,r=>by
  cases r with
  |cons r1 r2=>
   have hx':lit x=AC/\lits xs=AC:=by simpa[lits]using hx
   obtain⟨b1,q1⟩:=ar2 ho hd hs x hx'.1 r1;obtain⟨b2,q2⟩:=an2 ho hd hs xs hx'.2 r2;exact⟨_,.cons q1 q2⟩
end
mutual
noncomputable def hK(w:BA):Am->Int
 |.int i=>hashInt i
 |.str x=>hashStr w x
 |.tuple ds=>reduceHash (BV (hKs w ds))
 |_=>0
noncomputable def hKs(w:BA):List Am->List Int
 |[]=>[]
 |d::r=>hK w d::hKs w r
end
mutual
noncomputable def dw:Am->Nat
 |.tuple ds=>dws ds+1
 |_=>1
noncomputable def dws:List Am->Nat
 |[]=>0
 |d::r=>dw d+dws r
end
theorem ac4(w:BA):∀(a b:List Am),hKs w (a++b)=hKs w a++hKs w b
 |[],b=>rfl
 |x::a,b=>by rw[Bm,hKs,ac4 w a b];rfl
theorem ac2:∀(a b:List Am),dws (a++b)=dws a+dws b
 |[],b=>by simp[dws]
 |x::a,b=>by rw[Bm,dws,ac2 a b,dws,Fu]
variable {prog:Ag} {w:BA}
def b38:∀(n:Nat)(d:Am),d.depth<=n->lit d=AC->∀{A:BO}{E:AF->AK->Prop}{s:AK}{v:AF}{as:List AM}{Q:Int->AK->Prop},A.units+n<CI->Reads s.heap v d as->Q (hK w d) {s with toks:=s.toks+dw d}->AU (model prog w) A (pyHash v) Q E s:=by
 intro n
 induction n with
 |zero=>
  intro d hd hl A E s v as Q hu r h;cases r with
  |int i t=>exact Fv (by simpa[hK,dw]using h)
  |str x t=>exact EE (by simpa[hK,dw]using h)
  |tuple=>rw[depth_tup]at hd;lia
  |none=>cases hl
  |bool=>cases hl
  |list=>cases hl
  |dict=>cases hl
 |succ n ih=>
  intro d hd hl A E s v as Q hu r h;cases r with
  |int i t=>exact Fv (by simpa[hK,dw]using h)
  |str x t=>exact EE (by simpa[hK,dw]using h)
  |none=>cases hl
  |bool=>cases hl
  |list=>cases hl
  |dict=>cases hl
  |@tuple a o items m xs as ho hc hda hi=>
   rw[depth_tup]at hd;have hl':lits xs=AC:=hl;have hT:s.TypeIs (.ref a) "tuple":=⟨o,ho,hc⟩;unfold pyHash
   first|unfold pyHashByItsType|skip
   first|refine AH (wpAny_cRoomFor_or (.inr ⋯) ?_)|skip
   refine AH (Bu hT Dp.lookup ?_);show AU _ _ (if(AA (ID "tuple.__hash__")==AA Bd)=AC then _ else _) Q E s;rw[if_neg (by rw[Iz];exact AL)];refine AH (Bu hT Dp.lookup ?_);show AU _ _ (callSpecialIfBoundUnlessNone? (.ref a) "__hash__" _>>=_) Q E s;refine AH (wpAny_callSpecialIfBoundUnlessNone?_slot hT Dp (CJ Dp hT F.entry_tuple_hash ?_ (F.args_tuple_hash_1 _)));show AU _ _ (Cz (.ref a)>>=_) _ _ s;refine AH (wpAny_tupleItemsOf ho hda ?_);refine AH ?_;rw[<-Gn];refine JA _
    (λc8(b:Array Int)s'=>∃done left bs,xs=done++left/\ReadsAll s.heap c8 left bs/\b.toList=hKs w done/\s'={s with toks:=s.toks+dws done})
    _ ?_ ?_ _ _ ⟨[],xs,_,rfl,hi,rfl,rfl⟩
   ·rintro x c8 b s' ⟨done,left,bs,rfl,hl2,hb,rfl⟩;cases hl2 with
    |@cons _ _ k ks' _ _ h1 hl3=>
     have hk:k∈done++k::ks':=by simp
     refine AH (ih k (by have:=aa4 hk;lia) (ab7 hl' k hk) ?_ h1 ?_)
     ·show A.units+1+n<CI;lia
     first
      |exact AN ⟨done++[k],ks',_,∎,hl3,by rw[ac4];simp[hb,hKs],by simp[ac2,dws,Fu]⟩
      |exact AH (AN (AN ⟨done++[k],ks',_,∎,hl3,by rw[ac4];simp[hb,hKs],by simp[ac2,dws,Fu]⟩))
   ·rintro b s' ⟨done,left,bs,rfl,hl2,hb,rfl⟩;cases hl2;rw[BP]at h;simp only[hK,dw]at h;show AU _ _ (retInt (BV b.toList)) _ _ _;rw[hb];refine wpAny_ret_mkInt ?_;show AU _ _ (if(AB (-(2:Int)^63<=BV (hKs w done))&&AB (BV (hKs w done)<2^63))=AC then _ else _) Q E _;unfold reduceHash at h
    by_cases hr:(AB (-(2:Int)^63<=BV (hKs w done))&&AB (BV (hKs w done)<2^63))=AC
    ·rw[if_pos hr];rw[if_pos hr]at h;exact AN (by simpa[Fu]using h)
    ·rw[if_neg hr];rw[if_neg hr]at h;exact AH (IP (AN (by simpa[Fu]using h)))
def bs6:∀(n:Nat)(d:Am),d.depth<=n->lit d=AC->∀{A:BO}{E:AF->AK->Prop}{s:AK}{v:AF}{as:List AM}{Q:Bool->AK->Prop},Reads s.heap v d as->Q AC s->AU (model prog w) A (eqIsQuiet n v) Q E s:=by
 intro n
 induction n with
 |zero=>
  intro d hd hl A E s v as Q r h;cases r with
  |int i t=>rw[Du _ rfl];exact AN h
  |str x t=>rw[Du _ rfl];exact AN h
  |tuple=>rw[depth_tup]at hd;lia
  |none=>cases hl
  |bool=>cases hl
  |list=>cases hl
  |dict=>cases hl
 |succ n ih=>
  intro d hd hl A E s v as Q r h;cases r with
  |int i t=>rw[Du _ rfl];exact AN h
  |str x t=>rw[Du _ rfl];exact AN h
  |none=>cases hl
  |bool=>cases hl
  |list=>cases hl
  |dict=>cases hl
  |@tuple a o items m xs as ho hc hda hi=>
   rw[depth_tup]at hd;have hl':lits xs=AC:=hl;have hT:s.TypeIs (.ref a) "tuple":=⟨o,ho,hc⟩;unfold eqIsQuiet;refine AH (Bu hT F.slot_tuple_eq.lookup ?_);show AU _ _ (isInstance (.ref a) (.type "tuple")>>=_) _ _ s;refine AH (JB hT isSubtype_tuple_tuple ?_);simp only[GC,Ae,if_false];refine AH (Cd ho hda ?_);refine AH ?_;show AU _ _ (forIn items _ _) _ _ s;rw[<-Gn];refine JA _ (λc8 r s'=>r.1=AE/\s'=s/\∃left bs,(∀k∈left,lit k=AC/\k.depth<=n)/\ReadsAll s.heap c8 left bs) _ ?_ ?_ _ _ ⟨rfl,rfl,xs,_,λk hk=>⟨ab7 hl' k hk,by have:=aa4 hk;lia⟩,hi⟩
   ·rintro v c8 r s' ⟨hr,rfl,left,bs,hall,hl2⟩;cases hl2 with
    |@cons _ _ k ks' _ _ h1 hl3=>
     obtain⟨k1,k2⟩:=hall k ∎;refine AH (ih k k2 k1 h1 ?_);simp only[GC,Ae,if_false];exact AN ⟨rfl,rfl,ks',_,λu hu'=>hall u (by simp[hu']),hl3⟩
   ·rintro⟨r1,r2⟩ s' ⟨hr,rfl,_⟩;simp only at hr;subst hr;exact AN h
abbrev isK(h:Az)(k:Am)(a:AM):Prop:=lit k=AC/\k.depth<=7/\∃as,Reads h (.ref a) k as
abbrev dataKind(prog:Ag)(w:BA):HeapKind prog w Am where
 is:=isK
 hash:=hK w
 draws:=dw
 room:=λA=>A.units+8<CI
 inj:=λ⟨l1,_,_,r1⟩⟨l2,_,_,r2⟩=>a06 _ _ l1 l2 r1 r2
 keeps:=λ⟨l1,d1,_,r1⟩ho hd hs=>⟨l1,d1,ar2 ho hd hs _ l1 r1⟩
 pyHash:=λhu⟨l1,d1,_,r1⟩h=>b38 7 _ d1 l1 ⋯ r1 h
 eqBool:=λ{A E s x y a b Q}hu⟨l1,d1,_,r1⟩⟨l2,d2,_,r2⟩h=>by
  have e:Ak x y=AB (x=y):=by
   by_cases z:x=y
   ·rw[decide_eq_true z];exact(ad1 x y l1 l2).mpr z
   ·rw[decide_eq_false z];cases q:Ak x y with
    |false=>rfl
    |true=>exact absurd ((ad1 x y l1 l2).mp q) z
  have:=Ex x y A s _ _ _ _ r1 r2 (ac3 x l1) (ac3 y l2) (by have:min x.depth y.depth<=x.depth:=IE _ _;lia);rw[e]at this;exact this prog w E Q h
 quiet:=λ⟨l1,d1,_,r1⟩h=>bs6 8 _ ⋯ l1 r1 h
def dataKind_room_in1{prog:Ag}{w:BA}{A:BO}(h:A.units+20<CI):(dataKind prog w).room A.in1:=by
 show A.units+1+8<CI;lia
end NK
end PySem
set_option maxRecDepth 100000
namespace L2
open PySem PySem.Spec PyProof.Rows
@[reducible]noncomputable def Key:=Sum Int Str
abbrev L0:Key->AF->Bool
 |.inl k,v=>Ig k v
 |.inr x,v=>IF x v
abbrev cm3(w:BA):Key->Int
 |.inl k=>hashInt k
 |.inr x=>hashStr w x
def z8:∀{k:Key}{v:AF},L0 k v=AC->(∃i t,k=Ey i/\v=Dl i t)\/(∃x t,k=BW x/\v=Dm x t)
 |.inl i,v,h=>by
  obtain⟨t,e⟩:=Value.isInt_shape (k:=i) (v:=v) h;exact .inl ⟨i,t,rfl,e⟩
 |.inr x,v,h=>by
  obtain⟨t,e⟩:=Value.isStrOf_shape (x:=x) (v:=v) h;exact .inr ⟨x,t,rfl,e⟩
def bo5(i:Int)(t:Tok):L0 (.inl i) (.int i t)=AC:=by simp[L0,Ig]
def bo4(x:Str)(t:Tok):L0 (.inr x) (.str x t)=AC:=by simp[L0,IF]
def ce8(a b:Int):AB ((Ey a:Key)=Ey b)=(a==b):=by
 by_cases e:a=b
 ·subst e;simp
 ·have h:¬(Ey a:Key)=Ey b:=λq=>e (Sum.inl.inj q);rw[decide_eq_false h];exact(beq_eq_false_iff_ne.mpr e).symm
def b59(a b:Str):AB ((BW a:Key)=BW b)=AB (a=b):=by
 by_cases e:a=b
 ·subst e;simp
 ·have h:¬(BW a:Key)=BW b:=λq=>e (Er q);rw[decide_eq_false h,decide_eq_false e]
def cc9(a:Int)(b:Str):AB ((Ey a:Key)=BW b)=AG:=decide_eq_false (λq=>nomatch q)
def ca3(a:Str)(b:Int):AB ((BW a:Key)=Ey b)=AG:=decide_eq_false (λq=>nomatch q)
abbrev y3(prog:Ag)(w:BA):PySem.KeyKind prog w Key where
 is:=L0
 hash:=cm3 w
 inj:=λv a b ha hb=>by
  rcases z8 ha with⟨i,t,rfl,rfl⟩|⟨x,t,rfl,rfl⟩
  ·rcases z8 hb with⟨j,u,rfl,e⟩|⟨y,u,rfl,e⟩
   ·injection e with e1 _;rw[e1]
   ·exact nomatch e
  ·rcases z8 hb with⟨j,u,rfl,e⟩|⟨y,u,rfl,e⟩
   ·exact nomatch e
   ·injection e with e1 _;rw[e1]
 byValue:=λk v h=>by
  rcases z8 h with⟨i,t,rfl,rfl⟩|⟨x,t,rfl,rfl⟩<;>rfl
 pyHash:=λhv h=>by
  rcases z8 hv with⟨i,t,rfl,rfl⟩|⟨x,t,rfl,rfl⟩
  ·exact Fv h
  ·exact EE h
 eqBool:=λhu hv h=>by
  rcases z8 hu with⟨i,t,rfl,rfl⟩|⟨x,t,rfl,rfl⟩
  ·rcases z8 hv with⟨j,u,rfl,rfl⟩|⟨y,u,rfl,rfl⟩
   ·rw[ce8]at h;exact wpAny_eqBool_int h
   ·rw[cc9]at h;exact SeqAt.EqAt.int_str i t y u _ _ _ _ h
  ·rcases z8 hv with⟨j,u,rfl,rfl⟩|⟨y,u,rfl,rfl⟩
   ·rw[ca3]at h;exact SeqAt.EqAt.str_int x t j u _ _ _ _ h
   ·rw[b59]at h;exact wpAny_eqBool_str h
 «strs»:=λk x t v h=>by
  rcases z8 h with⟨i,u,rfl,e⟩|⟨y,u,rfl,e⟩
  ·exact nomatch e
  ·injection e with e1 _
   subst e1;cases v<;>rfl
def bl1(prog:Ag)(w:BA)(i:Int)(t:Tok):(y3 prog w).is (.inl i) (.int i t)=AC:=bo5 i t
def bk7(prog:Ag)(w:BA)(x:Str)(t:Tok):(y3 prog w).is (.inr x) (.str x t)=AC:=bo4 x t
variable{a b:AM}{P:Ag}{w:BA}{h':Az}
inductive V where
 |non|bl (b:Bool)|int (i:Int)|str (x:Str)|byt (b:Array UInt8)|flt (b:UInt64)|ref (a:AM)|ty (n:String)
 deriving DecidableEq
abbrev c9:V->AF->Prop
 |.non,u=>u=Bd
 |.bl b,u=>u=Fa b
 |.int i,u=>∃t,u=Dl i t
 |.str x,u=>∃t,u=Dm x t
 |.byt b,u=>∃t,u=Ih b t
 |.flt b,u=>∃t,u=GV b t
 |.ref a,u=>u=An a
 |.ty n,u=>u=CP n
@[reducible]noncomputable def c7:List V->List AF->Prop:=Paired c9
theorem c7.length{xs:List V}{us:List AF}(r:c7 xs us):xs.length=us.length:=Paired.length r
theorem c7.get:∀{xs:List V}{us:List AF}{i:Nat}{x:V},c7 xs us->xs[i]?=AA x->∃u,us[i]?=AA u/\c9 x u
 |_,_,_,_,.nil,e=>by simp at e
 |_,_,0,_,.cons r _,e=>by simp at e;subst e;exact⟨_,rfl,r⟩
 |_,_,i+1,x,.cons _ t,e=>by
  obtain⟨u,h1,h2⟩:=c7.get (i:=i) (x:=x) t (by simpa using e);exact⟨u,by simpa using h1,h2⟩
theorem c7.set{x:V}{u:AF}(r:c9 x u):∀{xs:List V}{us:List AF}(i:Nat),c7 xs us->c7 (xs.set i x) (us.set i u)
 |_,_,_,.nil=>.nil
 |_,_,0,.cons _ t=>.cons r t
 |_,_,i+1,.cons q t=>.cons q (c7.set r i t)
theorem c7.append:∀{xs ys:List V}{us ws:List AF},c7 xs us->c7 ys ws->c7 (xs++ys) (us++ws)
 |_,_,_,_,.nil,s=>s
 |_,_,_,_,.cons r t,s=>.cons r (c7.append t s)
theorem c7.take:∀{xs:List V}{us:List AF}(n:Nat),c7 xs us->c7 (xs.take n) (us.take n)
 |_,_,0,_=>.nil
 |_,_,_+1,.nil=>.nil
 |_,_,n+1,.cons r t=>.cons r (c7.take n t)
theorem c7.drop:∀{xs:List V}{us:List AF}(n:Nat),c7 xs us->c7 (xs.drop n) (us.drop n)
 |_,_,0,r=>r
 |_,_,_+1,.nil=>.nil
 |_,_,n+1,.cons _ t=>c7.drop n t
abbrev o8:Option V->Option AF->Prop
 |some v,AA u=>c9 v u
 |none,AE=>True
 |_,_=>False
abbrev KV{κ:Type}:List (κ×V)->List (κ×AF)->Prop:=Paired λ(p:κ×V)(q:κ×AF)=>p.1=q.1/\c9 p.2 q.2
abbrev kV:Key->V
 |.inl i=>.int i
 |.inr x=>.str x
inductive HO where
 |lst (xs:List V)
 |tup (xs:List V)
 |dK (kvs:List (Key×V))|dT (kvs:List (Am×V))
 |set (S:Int->Bool) (n:Nat)
 |ins (C dx:AM) (fs:List (Str×V))
 |own (x:AM)
 |xd (fs:List (Str×V))
 |met (f x:AM)
 |rng (lo hi:Int)
 |frz (o:Obj) (u:HO)
 |tbl (ps:Array AF)
 |ext (φ:Az->Prop)
variable{o:HO}
@[reducible]noncomputable def Hp:=AM->Option HO
variable{H:Hp}
abbrev upd(H:Hp)(a:AM)(o:HO):Hp:=λb=>if b=a then AA o else H b
def o9:upd H a o a=AA o:=by unfold upd;rw[if_pos rfl]
def e9(h:b≠a):upd H a o b=H b:=by unfold upd;rw[if_neg h]
def o5(h:H a=AA o)(h':H b=AE):a≠b:=by
 intro e;subst e;rw[h]at h';cases h'
mutual
noncomputable def HRd(H:Hp):Am->V->Prop
 |.int i,v=>v=.int i
 |.str x,v=>v=.str x
 |.tuple ds,v=>∃a vs,v=.ref a/\H a=AA (.tup vs)/\D0 H ds vs
 |_,_=>False
noncomputable def D0(H:Hp):List Am->List V->Prop
 |[],vs=>vs=[]
 |d::ds,vs=>∃v r,vs=v::r/\HRd H d v/\D0 H ds r
end
mutual
theorem HRd.keeps{H H':Hp}(ht:∀b ys,H b=AA (.tup ys)->H' b=AA (.tup ys)):∀(d:Am){v:V},HRd H d v->HRd H' d v
 |.int i,v,h=>h
 |.str x,v,h=>h
 |.tuple ds,v,h=>let⟨a,vs,e,h1,h2⟩:=h;⟨a,vs,e,ht a vs h1,D0.keeps ht ds h2⟩
 |.none,_,h=>h.elim
 |.bool _,_,h=>h.elim
 |.list _,_,h=>h.elim
 |.dict _,_,h=>h.elim
theorem D0.keeps{H H':Hp}(ht:∀b ys,H b=AA (.tup ys)->H' b=AA (.tup ys)):∀(ds:List Am){vs:List V},D0 H ds vs->D0 H' ds vs
 |[],vs,h=>h
 |d::ds,vs,h=>let⟨v,r,e,h1,h2⟩:=h;⟨v,r,e,HRd.keeps ht d h1,D0.keeps ht ds h2⟩
end
abbrev G5(H:Hp)(d:Am)(b:AM):Prop:=NK.lit d=AC/\d.depth<=7/\HRd H d (.ref b)
theorem G5.keeps{H':Hp}{d:Am}(h:G5 H d b)(ht:∀b ys,H b=AA (.tup ys)->H' b=AA (.tup ys)):G5 H' d b:=⟨h.1,h.2.1,HRd.keeps ht d h.2.2⟩
abbrev v0(h:Az)(a:AM)(items:Array AF):Prop:=∃o,h.get? a=AA o/\o.cls=.type "tuple"/\o.dict=AE/\∃n,o.data=.seq items n
def v0.tup{h:Az}{items:Array AF}(x:v0 h a items):Je h a items:=let⟨o,e,c,_,d⟩:=x;⟨o,e,c,d⟩
def v0.lt{h:Az}{items:Array AF}(x:v0 h a items):a<h.objs.size:=let⟨_,e,_⟩:=x;Av e
def v0.new(h:Az)(items:Array AF):v0 (h.push {cls:=.type "tuple",data:=.seq items}) h.objs.size items:=⟨_,Au _ rfl,rfl,rfl,_,rfl⟩
section
variable (P:Ag) (w:BA)
abbrev j2(H:Hp)(h:Az)(a:AM):HO->Prop
 |.lst xs=>xs.length<=sizeLine/\∃(its:List AF)(n:Nat),c7 xs its/\h.get? a=AA {cls:=.type "list",data:=.seq its.toArray n}
 |.tup xs=>xs.length<=sizeLine/\∃its:List AF,c7 xs its/\v0 h a its.toArray
 |.dK kvs=>kvs.length<=sizeLine/\(a==Ce)=AG/\∃vs,KV kvs vs/\h.DictOf (y3 P w) a vs
 |.dT kvs=>kvs.length<=sizeLine/\(a==Ce)=AG/\∃xs:List (Am×AM×AF),
   Paired (λ(p:Am×V)(q:Am×AM×AF)=>p.1=q.1/\G5 H p.1 q.2.1/\c9 p.2 q.2.2) kvs xs /\
   ∃o es ep,h.get? a=AA o/\o.ExactDict/\o.data=.dict es ep/\es.toList=xs.map (entryOfKey (NK.dataKind P w))/\(xs.map (·.1)).Nodup
 |.set S n=>h.SetOf (intKind P w) a S n
 |.ins C dx fs=>H dx=AA (.own a)/\fs.length<=1000/\dx≠a/\h.get? a=AA (Db C dx) /\
   ∃mA,h.Ns1 dx mA/\(∀f,o8 (fs.lookup f) (mA f))/\PySem.Within mA (fs.map (·.1))
 |.own _=>∃o,h.get? a=AA o
 |.xd fs=>∃mA,h.Ns1 a mA/\∀f,o8 (fs.lookup f) (mA f)
 |.rng lo hi=>∃t u v,h.get? a=AA {cls:=.type "range",data:=.fields #[.int lo t,.int hi u,.int 1 v]}
 |.frz o u=>h.get? a=AA o/\j2 H h a u
 |.tbl ps=>h.get? a=AA {cls:=.none,data:=.fields ps}
 |.met f x=>h.get? a=AA (HG (.ref f) (.ref x))
 |.ext φ=>φ h/\(∃o,h.get? a=AA o)/\∀h1 h2:Az,φ h1->(∀o,h1.get? a=AA o->h2.get? a=AA o)->φ h2
abbrev HOk(H:Hp)(h:Az):Prop:=∀a o,H a=AA o->j2 P w H h a o
end
section
variable {H':Hp} {h:Az} 
theorem j2.lt(x:j2 P w H h a o):a<h.objs.size:=by
 cases o with
 |lst xs=>obtain⟨_,_,_,_,e⟩:=x;exact Av e
 |tup xs=>obtain⟨_,_,_,p⟩:=x;exact p.lt
 |dK kvs=>obtain⟨_,_,_,_,o,_,_,e,_⟩:=x;exact Av e
 |dT kvs=>obtain⟨_,_,_,_,o,_,_,e,_⟩:=x;exact Av e
 |set S n=>obtain⟨o,_,_,_,e,_⟩:=x;exact Av e
 |ins C dx fs=>obtain⟨_,_,_,e,_⟩:=x;exact Av e
 |own y=>obtain⟨_,e⟩:=x;exact Av e
 |xd fs=>obtain⟨_,⟨_,_,_,e,_⟩,_⟩:=x;exact Av e
 |rng lo hi=>obtain⟨_,_,_,e⟩:=x;exact Av e
 |frz ob u=>obtain⟨e,_⟩:=x;exact Av e
 |tbl ps=>exact Av (show h.get? a=AA _ from x)
 |met f y=>exact Av (show h.get? a=AA _ from x)
 |ext φ=>obtain⟨_,⟨_,e⟩,_⟩:=x;exact Av e
theorem Paired.mapP{α β:Type}{F G:α->β->Prop}:∀{l₁:List α}{l₂:List β},Paired F l₁ l₂->(∀a b,F a b->G a b)->Paired G l₁ l₂
 |_,_,.nil,_=>.nil
 |_,_,.cons r t,f=>.cons (f _ _ r) (Paired.mapP t f)
def j2.stay(x:j2 P w H h a o)(k:∀b u,(b=a\/H b=AA (.own a))->h.get? b=AA u->h'.get? b=AA u)
  (ho:∀b,H b=AA (.own a)->H' b=AA (.own a)) (ht:∀b xs,H b=AA (.tup xs)->H' b=AA (.tup xs)):j2 P w H' h' a o:=by
 induction o with
 |lst xs=>obtain⟨z,its,n,r,e⟩:=x;exact⟨z,its,n,r,k _ _ (.inl rfl) e⟩
 |tup xs=>obtain⟨z,its,r,ob,e,c⟩:=x;exact⟨z,its,r,ob,k _ _ (.inl rfl) e,c⟩
 |dK kvs=>obtain⟨z,y,vs,r,ob,es,ep,e,c⟩:=x;exact⟨z,y,vs,r,ob,es,ep,k _ _ (.inl rfl) e,c⟩
 |dT kvs=>
  obtain⟨z,y,xs,r,ob,es,ep,e,c⟩:=x;exact⟨z,y,xs,Paired.mapP r λp q z=>⟨z.1,z.2.1.keeps ht,z.2.2⟩,ob,es,ep,k _ _ (.inl rfl) e,c⟩
 |set S n=>obtain⟨ob,es,ep,t,e,c⟩:=x;exact⟨ob,es,ep,t,k _ _ (.inl rfl) e,c⟩
 |ins C dx fs=>
  obtain⟨d,z,ne,e,mA,⟨od,es,ep,e2,c⟩,r⟩:=x;exact⟨ho _ d,z,ne,k _ _ (.inl rfl) e,mA,⟨od,es,ep,k _ _ (.inr d) e2,c⟩,r⟩
 |own y=>obtain⟨ob,e⟩:=x;exact⟨ob,k _ _ (.inl rfl) e⟩
 |xd fs=>obtain⟨mA,⟨od,es,ep,e,c⟩,r⟩:=x;exact⟨mA,⟨od,es,ep,k _ _ (.inl rfl) e,c⟩,r⟩
 |rng lo hi=>obtain⟨t,u,v,e⟩:=x;exact⟨t,u,v,k _ _ (.inl rfl) e⟩
 |frz ob u ih=>obtain⟨e,q⟩:=x;exact⟨k _ _ (.inl rfl) e,ih q⟩
 |tbl ps=>
  have e:h.get? a=AA {cls:=.none,data:=.fields ps}:=x;show h'.get? a=AA {cls:=.none,data:=.fields ps};exact k a _ (.inl rfl) e
 |met f y=>
  have e:h.get? a=AA (HG (.ref f) (.ref y)):=x;show h'.get? a=AA (HG (.ref f) (.ref y));exact k a _ (.inl rfl) e
 |ext φ=>obtain⟨p,⟨o,e⟩,st⟩:=x;exact⟨st _ _ p λo q=>k _ _ (.inl rfl) q,⟨o,k _ _ (.inl rfl) e⟩,st⟩
theorem HOk.lt(x:HOk P w H h)(e:H a=AA o):a<h.objs.size:=(x a o e).lt
def HOk.fresh(x:HOk P w H h)(e:h.objs.size<=a):H a=AE:=by
 cases q:H a with
 |none=>rfl
 |some u=>exact absurd (Ah (x.lt q) e) (CU _)
def HOk.kept(x:HOk P w H h)(k:∀b u,h.get? b=AA u->h'.get? b=AA u):HOk P w H h':=λa o e=>
 (x a o e).stay (λb u _ q=>k b u q) (λ_ q=>q) λ_ _ q=>q
def HOk.laid(x:HOk P w H h)(k:∀b u,h.get? b=AA u->h'.get? b=AA u)(hp:h.objs.size<=a)(new:j2 P w (upd H a o) h' a o):HOk P w (upd H a o) h':=λb u e=>by
 have hn:=x.fresh hp
 by_cases hb:b=a
 ·subst hb;rw[o9]at e;cases e;exact new
 ·rw[e9 hb]at e;exact(x b u e).stay (λc v _ q=>k c v q) (λc q=>by rw[e9 (o5 q hn)];exact q) λc xs q=>by rw[e9 (o5 q hn)];exact q
end
abbrev Rd(H:Hp)(a:AM)(u:HO):Prop:=H a=AA u\/∃o,H a=AA (.frz o u)
def Rd.ok{h:Az}{u:HO}(r:Rd H a u)(x:HOk P w H h):j2 P w H h a u:=by
 rcases r with r|⟨o,r⟩
 ·exact x a u r
 ·obtain⟨_,q⟩:=x a _ r;exact q
abbrev Mut:Option HO->Prop
 |some (.lst _)=>True
 |some (.dK _)=>True
 |some (.dT _)=>True
 |some (.set _ _)=>True
 |some (.ins _ _ _)=>True
 |some (.ext _)=>True
 |_=>False
section
variable {h:Az} {x e:AM} {o':HO}
def HOk.write(ok:HOk P w H h)(mu:Mut (H x))(he:e=x\/H e=AA (.own x))(k:∀b u,b≠e->h.get? b=AA u->h'.get? b=AA u)(heo:∃u,h'.get? e=AA u)
  (new:j2 P w (upd H x o') h' x o'):HOk P w (upd H x o') h':=λb u q=>by
 have nown:∀c y,H c=AA (.own y)->c≠x:=λc y r z=>by subst z;rw[r]at mu;exact mu
 have ntup:∀c xs,H c=AA (.tup xs)->c≠x:=λc xs r z=>by subst z;rw[r]at mu;exact mu
 by_cases hb:b=x
 ·subst hb;rw[o9]at q;cases q;exact new
 ·rw[e9 hb]at q
  by_cases hbe:b=e
  ·have q':H b=AA (.own x):=by
    rcases he with z|z
    ·exact absurd (hbe.trans z) hb
    ·rw[hbe];exact z
   rw[q]at q';cases q';obtain⟨v,hv⟩:=heo;exact⟨v,by rw[hbe];exact hv⟩
  ·refine(ok b u q).stay (λc v hc r=>k c v ?_ r) (λc r=>by rw[e9 (nown c b r)];exact r) λc xs r=>by rw[e9 (ntup c xs r)];exact r
   rcases hc with rfl|hc
   ·exact hbe
   ·rintro rfl
    rcases he with z|z
    ·exact nown c b hc z
    ·rw[hc]at z;cases z;exact hb rfl
end
structure Un(fs ex:List AM)(H H':Hp)(h h':Az):Prop where
 keep:∀b o,h.get? b=AA o->H b=AE->b∉fs->b∉ex->h'.get? b=AA o
 slot:∀b o,h.get? b=AA o->H b=AE->b∈fs->b∉ex->∃sl,h'.get? b=AA {o with slots:=sl}
 free:∀b o,h.get? b=AA o->H b=AE->b∉ex->H' b=AE
 there:∀b o,h.get? b=AA o->b∉ex->∃o',h'.get? b=AA o'
 tups:∀b xs,H b=AA (.tup xs)->H' b=AA (.tup xs)
 frzs:∀b o u,H b=AA (.frz o u)->H' b=AA (.frz o u)
 tbls:∀b ps,H b=AA (.tbl ps)->∃more,H' b=AA (.tbl (ps++more))
section
variable {fs fs' ex ex':List AM} {H1 H2:Hp} {h h1 h2:Az} {x e:AM} 
def Un.any(u:Un fs ex H H1 h h1){ob:Obj}(q:h.get? b=AA ob)(n:H b=AE)(hx:b∉ex):∃sl,h1.get? b=AA {ob with slots:=sl}:=by
 by_cases hb:b∈fs
 ·exact u.slot b ob q n hb hx
 ·exact⟨ob.slots,u.keep b ob q n hb hx⟩
def Un.kept(k:∀b u,h.get? b=AA u->h'.get? b=AA u):Un fs ex H H h h':=
 ⟨λb ob q _ _ _=>k b ob q,λb ob q _ _ _=>⟨ob.slots,k b ob q⟩,λ_ _ _ n _=>n,λb ob q _=>⟨ob,k b ob q⟩,λ_ _ q=>q,λ_ _ _ q=>q,λ_ ps q=>⟨#[],by rw[q];simp⟩⟩
def Un.refl:Un fs ex H H h h:=Un.kept λ_ _ q=>q
def Un.laid(k:∀b u,h.get? b=AA u->h'.get? b=AA u)(hp:h.objs.size<=a)(hn:H a=AE):Un fs ex H (upd H a o) h h' where
 keep:=λb u q _ _ _=>k b u q
 slot:=λb u q _ _ _=>⟨u.slots,k b u q⟩
 free:=λb u q n _=>by rw[e9 (BZ (Ah (Av q) hp))];exact n
 there:=λb u q _=>⟨u,k b u q⟩
 tups:=λb xs q=>by rw[e9 (o5 q hn)];exact q
 frzs:=λb u xs q=>by rw[e9 (o5 q hn)];exact q
 tbls:=λb ps q=>⟨#[],by rw[e9 (o5 q hn),q];simp⟩
def Un.write(mu:Mut (H x))(he:e=x\/H e=AA (.own x))(k:∀b u,b≠e->h.get? b=AA u->h'.get? b=AA u)(heo:∃u,h'.get? e=AA u):Un fs ex H (upd H x o) h h':=by
 have hx:∀b,H b=AE->b≠x:=λb n z=>by subst z;rw[n]at mu;exact mu
 have hb:∀b,H b=AE->b≠e:=λb n z=>by
  subst z
  rcases he with r|r
  ·exact hx b n r
  ·rw[n]at r;cases r
 have hm:∀b u,H b=AA u->¬Mut (AA u)->b≠x:=λb u q nm z=>by subst z;rw[q]at mu;exact nm mu
 refine⟨λb u q n _ _=>k b u (hb b n) q,λb u q n _ _=>⟨u.slots,k b u (hb b n) q⟩,λb u q n _=>by rw[e9 (hx b n)];exact n,λb u q _=>?_,
  λb xs q=>by rw[e9 (hm b _ q λz=>z)];exact q,λb u xs q=>by rw[e9 (hm b _ q λz=>z)];exact q,λb ps q=>⟨#[],by rw[e9 (hm b _ q λz=>z),q];simp⟩⟩
 by_cases hbe:b=e
 ·subst hbe;exact heo
 ·exact⟨u,k b u hbe q⟩
end
abbrev trk(h:Az)(H:Hp):List AM:=(DC h.objs.size).filter λa=>(H a).isSome
abbrev z7(h:Az)(H:Hp):Az:=W.hideAll h (trk h H)
def bq1(h:Az)(H:Hp):(z7 h H).objs.size=h.objs.size:=W.hideAll_size _ _
def bv6{h:Az}{o:Obj}(e:h.get? b=AA o)(n:H b=AE):(z7 h H).get? b=AA o:=
 W.hideAll_get _ e λhm=>by
  have q:(H b).isSome=AC:=(Hl.mp hm).2;rw[n]at q;simp at q
def b17{h:Az}{o:Obj}(e:(z7 h H).get? b=AA o):h.get? b=AA o/\H b=AE:=by
 have e':h.get? b=AA o:=W.of_hideAll (trk h H) e;refine⟨e',?_⟩;cases q:H b with
 |none=>rfl
 |some x=>
  have hm:b∈trk h H:=Hl.mpr ⟨List.mem_range.mpr (Av e'),by simp[q]⟩;have z:(z7 h H).get? b=AE:=W.hideAll_none (trk h H) hm;rw[z]at e;cases e
abbrev b36(g h:Az)(L:AM):List (AM×Obj):=(DC h.objs.size).filterMap λa=>if a=L\/(g.get? a).isSome=AC then AE else(h.get? a).map λo=>(a,o)
abbrev c8(g h:Az)(L d:AM):List (AM×Obj):=(b36 g h L).filter λp=>AB (p.1≠d)
end L2
namespace L2
open PySem PySem.Spec PyProof.Rows
variable{x:Str}{i:Nat}
structure Mod(K:AR)(mg:Str->Option AF)(base:Az):Prop where
 kin:K.In base
 glob:base.Ns AS mg
 blt:∃mb,base.Ns Cq mb/\∀x:Str,x≠"__name__"->mb x=Aw x
 nolimit:base.NoLimit
structure Cx where
 prog:Ag
 w:BA
 K:AR
 mg:Str->Option AF
 base:Az
 A:BO
 N:List Str
 s₀:AK
 H₀:Hp
 env:Env
 outer:List Env
 stack:List Env
 ex:List AM
 fn:Str->Bool
 calm:Bool
 pn:List (AM×Obj)
 xe:AF->AK->Prop
 ow:Str->Bool:=λ_=>AG
abbrev frs(l:List Env):List AM:=l.filterMap (·.frame)
@[reducible]noncomputable def Cx.fs(X:Cx):List AM:=frs X.outer
abbrev Vis(sc:BN)(x:Str):Prop:=sc.names.lookup x=AA .local\/sc.names.lookup x=AA .cell\/sc.names.lookup x=AA .free
abbrev Loc(sc:BN)(x:Str):Prop:=sc.names.lookup x=AA .local\/sc.names.lookup x=AA .cell
abbrev co2(env:Env)(h:Az)(m:Str->Option AF)(x:Str)(u:AF):Prop:=
 (env.kindOf x=AA .local/\m x=AA u)\/((env.kindOf x=AA .cell\/env.kindOf x=AA .free)/\∃c,env.cells.lookup x=AA c/\h.IsCell c (AA u))
structure Cx.Ok(X:Cx):Prop where
 mod:Mod X.K X.mg X.base
 kind:X.env.scope.kind=.function
 glob:X.env.globals=AS
 blt:X.env.builtins=Cq
 above:X.s₀.heap.objs.size<=X.env.locals
 inj:∀x y c,X.env.cells.lookup x=AA c->X.env.cells.lookup y=AA c->x=y
 has:∀x,(X.env.kindOf x=AA .cell\/X.env.kindOf x=AA .free)->∃c,X.env.cells.lookup x=AA c
 cab:∀x c,X.fn x=AC\/X.ow x=AC->X.env.cells.lookup x=AA c->X.s₀.heap.objs.size<=c
 hd:X.calm=AC->X.A.handled=AE
 frames:X.A.frames=AA X.stack
 stk:X.stack=X.outer\/(X.stack=X.env::X.outer/\X.env.frame=AA X.env.locals)
 exf:∀b∈X.ex,b≠X.env.locals/\∀x c,X.env.cells.lookup x=AA c->c≠b
 bs:∀b o,X.base.get? b=AA o->X.s₀.heap.get? b=AA o/\X.H₀ b=AE
 bsz:X.base.objs.size<=X.s₀.heap.objs.size
 noex:∀b o,X.base.get? b=AA o->b∉X.ex
 exfs:∀b∈X.ex,b∉X.fs
 funs:X.s₀.heap.FunFrames X.base X.outer
 frf:∀b∈X.fs,X.H₀ b=AE
structure Inv(X:Cx)(pins:List (AM×Obj))(σ:List (Option V))(H:Hp)(s:AK):Prop where
 ok:X.Ok
 os:s.os=X.s₀.os
 bare:Fb s.gens
 base:Un X.fs X.ex X.H₀ H X.s₀.heap s.heap
 loc:∃m,s.heap.Ns X.env.locals m/\∀(i:Nat)(x:Str)(v:V),X.N[i]?=AA x->σ[i]?=AA (AA v)->Vis X.env.scope x->∃u,c9 v u/\co2 X.env s.heap m x u
 cell:∀x c,X.env.cells.lookup x=AA c->∃v,s.heap.IsCell c v
 free:H X.env.locals=AE
 freeC:∀x c,X.env.cells.lookup x=AA c->H c=AE\/(X.fn x=AG/\∃o u,H c=AA (.frz o u))
 pin:∀p∈X.pn++pins,s.heap.get? p.1=AA p.2/\H p.1=AE/\p.1≠X.env.locals/\p.1∉X.fs/\∀v,p.2.data≠.cell v
 hok:HOk X.prog X.w H s.heap
 len:σ.length=X.N.length
section
variable {X:Cx} {pins:List (AM×Obj)} {σ:List (Option V)} {H H':Hp} {s:AK} {h':Az}
def Cx.Ok.nofr(ok:X.Ok){b:AM}{o:Obj}(e:X.base.get? b=AA o):b∉X.fs:=λhb=>by
 have:=(ok.funs.mem hb).1;rw[e]at this;cases this
theorem Inv.bs(I:Inv X pins σ H s):∀b o,X.base.get? b=AA o->s.heap.get? b=AA o/\H b=AE:=λb o e=>
 ⟨I.base.keep b o (I.ok.bs b o e).1 (I.ok.bs b o e).2 (I.ok.nofr e) (I.ok.noex b o e),I.base.free b o (I.ok.bs b o e).1 (I.ok.bs b o e).2 (I.ok.noex b o e)⟩
def Inv.bk(I:Inv X pins σ H s):∀b o,X.base.get? b=AA o->s.heap.get? b=AA o:=λb o e=>(I.bs b o e).1
theorem Inv.mod(I:Inv X pins σ H s):Mod X.K X.mg X.base:=I.ok.mod
def Inv.kIn(I:Inv X pins σ H s):X.K.In s.heap:=I.ok.mod.kin.keeps I.bk
theorem Inv.lt(I:Inv X pins σ H s):X.env.locals<s.heap.objs.size:=let⟨_,hn,_⟩:=I.loc;hn.lt
def Inv.sz(I:Inv X pins σ H s):X.s₀.heap.objs.size<=s.heap.objs.size:=Al I.ok.above (GW I.lt)
def Inv.nofs(I:Inv X pins σ H s){a:AM}(h:s.heap.objs.size<=a):a∉X.fs:=λhb=>by
 obtain⟨_,o,ho,_⟩:=I.ok.funs.mem hb;exact absurd (Ah (Av ho) (Al I.sz h)) (CU _)
def Inv.cne(I:Inv X pins σ H s):∀x c,X.env.cells.lookup x=AA c->c≠X.env.locals:=λx c e z=>by
 obtain⟨v,o,ho,hd⟩:=I.cell x c e;obtain⟨m,⟨o',es,ep,ho',hd',_⟩,_⟩:=I.loc;rw[z,ho']at ho;cases ho;rw[hd']at hd;cases hd
theorem Inv.funs(I:Inv X pins σ H s):s.heap.FunFrames X.base X.outer:=by
 have all:∀(l:List Env),(∀b∈frs l,b∈X.fs)->X.s₀.heap.FunFrames X.base l->s.heap.FunFrames X.base l:=by
  intro l
  induction l with
  |nil=>intro _ _;trivial
  |cons env r ih=>
   intro hs hl;obtain⟨hk,⟨L,o,hf,hn,ho,hd⟩,hr⟩:=hl;have hL:L∈X.fs:=hs L (by unfold frs;rw[Eg,hf];exact Bv);obtain⟨sl,e⟩:=I.base.slot L o ho (I.ok.frf L hL) hL λz=>I.ok.exfs L z hL;exact⟨hk,⟨L,_,hf,hn,e,hd⟩,ih (λb hb=>hs b (by unfold frs;rw[Eg,hf];exact BJ _ hb)) hr⟩
 exact all X.outer (λ_ hb=>hb) I.ok.funs
theorem Inv.stack(I:Inv X pins σ H s):s.heap.FunFrames X.base X.stack:=by
 rcases I.ok.stk with e|⟨e,hf⟩
 ·rw[e];exact I.funs
 ·rw[e];obtain⟨m,hn,_⟩:=I.loc;refine .cons (by rw[I.ok.kind];decide) hf hn ?_ I.funs;exact Heap.get?_none_of_le (Al I.ok.bsz I.ok.above)
def Inv.stkSub(I:Inv X pins σ H s):∀b∈frs X.stack,b∈X.env.locals::X.fs:=λb hb=>by
 rcases I.ok.stk with e|⟨e,hf⟩
 ·rw[e]at hb;exact BJ _ hb
 ·rw[e]at hb;unfold frs at hb;rw[Eg,hf]at hb;exact hb
def Inv.stkFree(I:Inv X pins σ H s):∀b∈frs X.stack,H b=AE:=λb hb=>by
 rcases AT.mp (I.stkSub b hb)with e|hb
 ·rw[e];exact I.free
 ·obtain⟨_,o,ho,_⟩:=I.ok.funs.mem hb;exact I.base.free b o ho (I.ok.frf b hb) λz=>I.ok.exfs b z hb
def Inv.step{g':Array GenState}{t':Nat}{d':Drawn}{ch:List AM}(I:Inv X pins σ H s)
  (hch:∀b∈ch,(b∈X.ex\/X.s₀.heap.objs.size<=b)/\b≠X.env.locals/\(∀x c,X.env.cells.lookup x=AA c->c≠b)/\∀p∈X.pn++pins,p.1≠b)
  (keep:∀b o,b≠X.env.locals->b∉X.fs->b∉ch->s.heap.get? b=AA o->H b=AE->h'.get? b=AA o)
  (slot:∀b o,b≠X.env.locals->b∈X.fs->b∉ch->s.heap.get? b=AA o->H b=AE->∃sl,h'.get? b=AA {o with slots:=sl}) (free:∀b o,b∉ch->s.heap.get? b=AA o->H b=AE->H' b=AE)
  (there:∀b o,b∉ch->s.heap.get? b=AA o->∃o',h'.get? b=AA o')
  (tups:∀b xs,H b=AA (.tup xs)->H' b=AA (.tup xs)) (frzs:∀b o u,H b=AA (.frz o u)->H' b=AA (.frz o u)) (tbls:∀b ps,H b=AA (.tbl ps)->∃more,H' b=AA (.tbl (ps++more)))
  (ns:∀m,s.heap.Ns X.env.locals m->h'.Ns X.env.locals m) (hok:HOk X.prog X.w H' h') (hg:Fb g') :
  Inv X pins σ H' {s with heap:=h',gens:=g',drawn:=d',toks:=t'}:=by
 have neL:∀b o,X.s₀.heap.get? b=AA o->b≠X.env.locals:=λb o e=>BZ (Ah (Av e) I.ok.above);have neC:∀b o,X.s₀.heap.get? b=AA o->b∉X.ex->b∉ch:=λb o e hx hb=>by
  rcases(hch b hb).1 with z|z
  ·exact hx z
  ·exact absurd (Ah (Av e) z) (CU _)
 have cellK:∀x c,X.env.cells.lookup x=AA c->∀v,s.heap.IsCell c v->h'.IsCell c v:=λx c e v⟨o,ho,hd⟩=>by
  have nch:c∉ch:=λz=>(hch c z).2.2.1 x c e rfl
  rcases I.freeC x c e with hfr|⟨_,oz,uz,hz⟩
  ·by_cases hc:c∈X.fs
   ·obtain⟨sl,q⟩:=slot c o (I.cne x c e) hc nch ho hfr;exact⟨_,q,hd⟩
   ·exact⟨o,keep c o (I.cne x c e) hc nch ho hfr,hd⟩
  ·obtain⟨h1,_⟩:=I.hok c _ hz;obtain⟨h2,_⟩:=hok c _ (frzs c oz uz hz);rw[h1]at ho;cases ho;exact⟨_,h2,hd⟩
 refine⟨I.ok,I.os,hg,⟨λb o e n hb hx=>?_,λb o e n hb hx=>?_,λb o e n hx=>?_,λb o e hx=>?_,λb xs e=>tups b xs (I.base.tups b xs e),λb o xs e=>frzs b o xs (I.base.frzs b o xs e),λb ps e=>?_⟩,?_,λx c e=>?_,?_,λx c e=>?_,λp hp=>?_,hok,I.len⟩
 ·exact keep b o (neL b o e) hb (neC b o e hx) (I.base.keep b o e n hb hx) (I.base.free b o e n hx)
 ·obtain⟨sl,e1⟩:=I.base.slot b o e n hb hx;obtain⟨sl',e2⟩:=slot b _ (neL b o e) hb (neC b o e hx) e1 (I.base.free b o e n hx);exact⟨sl',e2⟩
 ·obtain⟨o',e1⟩:=I.base.there b o e hx;exact free b o' (neC b o e hx) e1 (I.base.free b o e n hx)
 ·obtain⟨o',e1⟩:=I.base.there b o e hx;exact there b o' (neC b o e hx) e1
 ·obtain⟨m1,e1⟩:=I.base.tbls b ps e;obtain⟨m2,e2⟩:=tbls b _ e1;exact⟨m1++m2,by rw[e2,Array.append_assoc]⟩
 ·obtain⟨m,hn,hl⟩:=I.loc;refine⟨m,ns m hn,λi x v e1 e2 e3=>?_⟩;obtain⟨u,r,l⟩:=hl i x v e1 e2 e3;refine⟨u,r,?_⟩
  rcases l with l|⟨k,c,e,z⟩
  ·exact .inl l
  ·exact .inr ⟨k,c,e,cellK x c e _ z⟩
 ·obtain⟨v,z⟩:=I.cell x c e;exact⟨v,cellK x c e v z⟩
 ·obtain⟨m,⟨o,_,_,ho,_⟩,_⟩:=I.loc;exact free _ o (λz=>(hch _ z).2.1 rfl) ho I.free
 ·obtain⟨v,o,ho,hd⟩:=I.cell x c e
  rcases I.freeC x c e with hfr|⟨hfn,oz,uz,hz⟩
  ·exact .inl (free c o (λz=>(hch c z).2.2.1 x c e rfl) ho hfr)
  ·exact .inr ⟨hfn,oz,uz,frzs c oz uz hz⟩
 ·obtain⟨e,n,ne,nf,d⟩:=I.pin p hp;have nch:p.1∉ch:=λz=>(hch p.1 z).2.2.2 p hp rfl;exact⟨keep p.1 p.2 ne nf nch e n,free p.1 p.2 nch e n,ne,nf,d⟩
def Inv.un{t':Nat}(I:Inv X pins σ H s)(u:Un X.fs [] H H' s.heap h')(hok:HOk X.prog X.w H' h'):Inv X pins σ H' {s with heap:=h',toks:=t'}:=by
 obtain⟨m,⟨o,es,ep,ho,r⟩,_⟩:=id I.loc;obtain⟨sl,hL⟩:=u.any ho I.free ∎;exact I.step (g':=s.gens) (d':=s.drawn) (ch:=[]) (λ_ z=>nomatch z) (λb o _ hb _ e n=>u.keep b o e n hb ∎) (λb o _ hb _ e n=>u.slot b o e n hb ∎) (λb o _ e n=>u.free b o e n ∎) (λb o _ e=>u.there b o e ∎) u.tups u.frzs u.tbls (λm' hm=>by
  obtain⟨o',es',ep',ho',r'⟩:=hm;rw[ho]at ho';cases ho';exact⟨_,es',ep',hL,r'⟩) hok I.bare
def Inv.call{g':Array GenState}{t':Nat}{d':Drawn}{ch:List AM}(I:Inv X pins σ H s)(u:Un (frs X.stack) ch H H' s.heap h')(hok:HOk X.prog X.w H' h')(hg:Fb g')
  (hch:∀b∈ch,(b∈X.ex\/X.s₀.heap.objs.size<=b)/\b≠X.env.locals/\(∀x c,X.env.cells.lookup x=AA c->c≠b)/\∀p∈X.pn++pins,p.1≠b) :
  Inv X pins σ H' {s with heap:=h',gens:=g',drawn:=d',toks:=t'}:=by
 obtain⟨m,⟨o,es,ep,ho,r⟩,_⟩:=id I.loc;obtain⟨sl,hL⟩:=u.any ho I.free λz=>(hch _ z).2.1 rfl;exact I.step (ch:=ch) hch (λb o hL hb hc e n=>u.keep b o e n (λz=>(AT.mp (I.stkSub b z)).elim hL hb) hc) (λb o _ _ hc e n=>u.any e n hc) (λb o hc e n=>u.free b o e n hc) (λb o hc e=>u.there b o e hc) u.tups u.frzs u.tbls (λm' hm=>by
  obtain⟨o',es',ep',ho',r'⟩:=hm;rw[ho]at ho';cases ho';exact⟨_,es',ep',hL,r'⟩) hok hg
def Inv.turned{t':Nat}{it:AM}(I:Inv X pins σ H s)(k:∀b o,b≠it->s.heap.get? b=AA o->h'.get? b=AA o)(hn:H it=AE)(hL:it≠X.env.locals)
  (h1:it∈X.ex\/X.s₀.heap.objs.size<=it) (h2:∀x c,X.env.cells.lookup x=AA c->c≠it) (h3:∀p∈X.pn++pins,p.1≠it):Inv X pins σ H {s with heap:=h',toks:=t'}:=by
 have nit:∀b u,H b=AA u->b≠it:=λb u e z=>by rw[z,hn]at e;cases e
 refine I.step (g':=s.gens) (d':=s.drawn) (ch:=[it]) (λb hb=>?_) (λb o _ _ hc e _=>k b o (λz=>hc (by simp[z])) e) (λb o _ _ hc e _=>⟨o.slots,k b o (λz=>hc (by simp[z])) e⟩) (λ_ _ _ _ n=>n)
  (λb o hc e=>⟨o,k b o (λz=>hc (by simp[z])) e⟩) (λ_ _ e=>e) (λ_ _ _ e=>e) (λb ps e=>⟨#[],by rw[e];simp⟩) (λm hm=>?_) (λb u e=>?_) I.bare
 ·have e:b=it:=by simpa using hb
  subst e;exact⟨h1,hL,h2,h3⟩
 ·obtain⟨o,es,ep,ho,r⟩:=hm;exact⟨o,es,ep,k _ o (BK hL) ho,r⟩
 ·refine(I.hok b u e).stay (λc v hc q=>k c v ?_ q) (λ_ q=>q) λ_ _ q=>q
  rcases hc with z|z
  ·rw[z];exact nit b u e
  ·exact nit c _ z
def Inv.tok(I:Inv X pins σ H s)(t:Nat):Inv X pins σ H {s with toks:=t}:=I.un (h':=s.heap) (t':=t) Un.refl I.hok
theorem Inv.kept{t':Nat}(I:Inv X pins σ H s)(k:∀b u,s.heap.get? b=AA u->h'.get? b=AA u):Inv X pins σ H {s with heap:=h',toks:=t'}:=I.un (Un.kept k) (I.hok.kept k)
theorem Inv.laid{a:AM}{o:HO}{t':Nat}(I:Inv X pins σ H s)(k:∀b u,s.heap.get? b=AA u->h'.get? b=AA u)(hp:s.heap.objs.size<=a)(new:j2 X.prog X.w (upd H a o) h' a o):
  Inv X pins σ (upd H a o) {s with heap:=h',toks:=t'}:=I.un (Un.laid k hp (I.hok.fresh hp)) (I.hok.laid k hp new)
theorem Inv.write{x e:AM}{o:HO}{t':Nat}(I:Inv X pins σ H s)(mu:Mut (H x))(he:e=x\/H e=AA (.own x))(k:∀b u,b≠e->s.heap.get? b=AA u->h'.get? b=AA u)(heo:∃u,h'.get? e=AA u)
  (new:j2 X.prog X.w (upd H x o) h' x o):Inv X pins σ (upd H x o) {s with heap:=h',toks:=t'}:=I.un (Un.write mu he k heo) (I.hok.write mu he k heo new)
def Inv.pins_of{pins':List (AM×Obj)}(I:Inv X pins σ H s)(h:∀p∈pins',s.heap.get? p.1=AA p.2/\H p.1=AE/\p.1≠X.env.locals/\p.1∉X.fs/\∀v,p.2.data≠.cell v):Inv X pins' σ H s:=
 ⟨I.ok,I.os,I.bare,I.base,I.loc,I.cell,I.free,I.freeC,λp hp=>(Ax.mp hp).elim (λz=>I.pin p (Gg _ z)) (h p),I.hok,I.len⟩
def ao5{N:List Str}(hN:N.Nodup){j:Nat}(a:N[i]?=AA x)(b:N[j]?=AA x):i=j:=by
 obtain⟨h1,e1⟩:=Ao.mp a;obtain⟨h2,e2⟩:=Ao.mp b;exact(List.getElem_inj hN).mp (e1.trans e2.symm)
def bq2{M:Model}{A:BO}{E:AF->AK->Prop}{v:V}{u:AF}{Q:Unit->AK->Prop}(I:Inv X pins σ H s)(hN:X.N.Nodup)(hi:X.N[i]?=AA x)(hx:Loc X.env.scope x)(r:c9 v u)
  (h:∀s',Inv X pins (σ.set i (AA v)) H s'->(∃a,CG a s.heap s'.heap/\(a=X.env.locals\/X.env.cells.lookup x=AA a))->Q () s') (hf:X.fn x=AC\/X.env.scope.names.lookup x=AA .local:=by first|exact .inl rfl|exact .inr rfl|assumption):AU M A (storeName X.env x u) Q E s:=by
 obtain⟨m,hn,hl⟩:=id I.loc;have hcls:(X.env.scope.kind==.class||(X.env.scope.kind==.module&&X.env.locals != X.env.globals))=AG:=by rw[I.ok.kind];rfl
 have hiσ:i<σ.length:=by rw[I.len];exact(Ao.mp hi).1
 have cne:=I.cne;have tracked:∀{a:AM}{h':Az},(∃o,s.heap.get? a=AA o/\H a=AE)->CG a s.heap h'->HOk X.prog X.w H h':=λ{a h'}ha hs b ob e=>by
  obtain⟨_,_,hfree⟩:=ha;refine(I.hok b ob e).stay (λc w' hc q=>(hs.2 c ?_).trans q) (λ_ q=>q) λ_ _ q=>q;rintro rfl
  rcases hc with rfl|hc
  ·rw[hfree]at e;cases e
  ·rw[hfree]at hc;cases hc
 rcases hx with hk|hk
 ·refine wpAny_storeName_local hk hn (λh' hn' hs=>?_) hcls;obtain⟨oL,_,_,hoL,_⟩:=id hn;refine h _ ⟨I.ok,I.os,I.bare,⟨λb o e n hb hx=>?_,λb o e n hb hx=>?_,I.base.free,λb o e hx=>?_,I.base.tups,I.base.frzs,I.base.tbls⟩,⟨_,hn',λj y v' e1 e2 e3=>?_⟩,λy c e=>?_,I.free,I.freeC,λp hp=>?_,tracked ⟨oL,hoL,I.free⟩ hs,by simpa using I.len⟩ ⟨_,hs,.inl rfl⟩
  ·exact(hs.2 b (BZ (Ah (Av e) I.ok.above))).trans (I.base.keep b o e n hb hx)
  ·obtain⟨sl,e1⟩:=I.base.slot b o e n hb hx;exact⟨sl,(hs.2 b (BZ (Ah (Av e) I.ok.above))).trans e1⟩
  ·obtain⟨o',e1⟩:=I.base.there b o e hx;exact⟨o',(hs.2 b (BZ (Ah (Av e) I.ok.above))).trans e1⟩
  ·by_cases hj:j=i
   ·subst hj;rw[hi]at e1;cases e1;rw[GK hiσ]at e2;cases e2;exact⟨u,r,.inl ⟨hk,∎⟩⟩
   ·rw[Gh (BK hj)]at e2;obtain⟨u',r',q⟩:=hl j y v' e1 e2 e3;refine⟨u',r',?_⟩
    rcases q with⟨k,e⟩|⟨k,c,e,z⟩
    ·refine .inl ⟨k,?_⟩;have:y≠x:=λe=>hj (ao5 hN e1 (e▸hi));simp[this,e]
    ·exact .inr ⟨k,c,e,z.sameBut hs (cne y c e)⟩
  ·obtain⟨w',z⟩:=I.cell y c e;exact⟨w',z.sameBut hs (cne y c e)⟩
  ·obtain⟨e,n,ne,nf,d⟩:=I.pin p hp;exact⟨(hs.2 p.1 ne).trans e,n,ne,nf,d⟩
 ·have hfn:X.fn x=AC:=by
   rcases hf with z|z
   ·exact z
   ·rw[z]at hk;cases hk
  obtain⟨c,hc⟩:=I.ok.has x (.inl hk);obtain⟨w',z⟩:=I.cell x c hc;have hfree:H c=AE:=(I.freeC x c hc).resolve_right λz=>by rw[hfn]at z;exact absurd z.1 ∅
  refine wpAny_storeName_cell I.ok.kind hk hc z (λh' hc' hs=>?_);obtain⟨oc,hoc,hocd⟩:=id z;refine h {s with heap:=h'} ⟨I.ok,I.os,I.bare,⟨λb o e n hb hx=>?_,λb o e n hb hx=>?_,I.base.free,λb o e hx=>?_,I.base.tups,I.base.frzs,I.base.tbls⟩,⟨m,hn.sameBut hs (BK (cne x c hc)),λj y v' e1 e2 e3=>?_⟩,λy c' e=>?_,I.free,I.freeC,λp hp=>?_,tracked ⟨oc,hoc,hfree⟩ hs,by simpa using I.len⟩ ⟨c,hs,.inr hc⟩
  ·exact(hs.2 b (BZ (Ah (Av e) (I.ok.cab x c (.inl hfn) hc)))).trans (I.base.keep b o e n hb hx)
  ·obtain⟨sl,e1⟩:=I.base.slot b o e n hb hx;exact⟨sl,(hs.2 b (BZ (Ah (Av e) (I.ok.cab x c (.inl hfn) hc)))).trans e1⟩
  ·obtain⟨o',e1⟩:=I.base.there b o e hx;exact⟨o',(hs.2 b (BZ (Ah (Av e) (I.ok.cab x c (.inl hfn) hc)))).trans e1⟩
  ·by_cases hj:j=i
   ·subst hj;rw[hi]at e1;cases e1;rw[GK hiσ]at e2;cases e2;exact⟨u,r,.inr ⟨.inl hk,c,hc,hc'⟩⟩
   ·rw[Gh (BK hj)]at e2;obtain⟨u',r',q⟩:=hl j y v' e1 e2 e3;refine⟨u',r',?_⟩
    rcases q with q|⟨k,c',e,z'⟩
    ·exact .inl q
    ·refine .inr ⟨k,c',e,z'.sameBut hs ?_⟩;rintro rfl;exact hj (ao5 hN e1 (I.ok.inj _ _ _ e hc▸hi))
  ·by_cases hcc:c'=c
   ·subst hcc;exact⟨_,hc'⟩
   ·obtain⟨w2,z2⟩:=I.cell y c' e;exact⟨w2,z2.sameBut hs hcc⟩
  ·obtain⟨e,n,ne,nf,d⟩:=I.pin p hp;refine⟨(hs.2 p.1 ?_).trans e,n,ne,nf,d⟩;intro q;rw[q,hoc]at e;have q':oc=p.2:=At e;exact d w' (by rw[<-q'];exact hocd)
def ab3{M:Model}{A:BO}{E:AF->AK->Prop}{v:V}{u:AF}{Q:Unit->AK->Prop}(I:Inv X pins σ H s)(hN:X.N.Nodup)(hi:X.N[i]?=AA x)(hx:Loc X.env.scope x)(r:c9 v u)
  (h:∀s',Inv X pins (σ.set i (AA v)) H s'->Q () s') (hf:X.fn x=AC\/X.env.scope.names.lookup x=AA .local:=by first|exact .inl rfl|exact .inr rfl|assumption):AU M A (storeName X.env x u) Q E s:=
 bq2 I hN hi hx r (λs' I' _=>h s' I') hf
end
@[reducible]noncomputable def XK:=AF->Option AM->Hp->Prop
@[reducible]noncomputable def St:=List (Option V)
@[reducible]noncomputable def VK:=V->Hp->Prop
@[reducible]noncomputable def TE:=St->Hp->VK->Prop
@[reducible]noncomputable def TT:=St->Hp->(Bool->Hp->Prop)->Prop
@[reducible]noncomputable def TA:=St->Hp->(List V->Hp->Prop)->Prop
structure Ends where
 nx:St->Hp->Prop
 rt:VK
 bk:St->Hp->Prop:=λ_ _=>False
 ct:St->Hp->Prop:=λ_ _=>False
@[reducible]noncomputable def TS:=Ends->St->Hp->Prop
abbrev EP(X:Cx)(pins:List (AM×Obj))(σ:St)(Q:VK)(u:AF)(s':AK):Prop:=∃v H',Inv X pins σ H' s'/\c9 v u/\Q v H'
abbrev TP(X:Cx)(pins:List (AM×Obj))(σ:St)(Q:Bool->Hp->Prop)(b:Bool)(s':AK):Prop:=∃H',Inv X pins σ H' s'/\Q b H'
abbrev AP(X:Cx)(pins:List (AM×Obj))(σ:St)(Q:List V->Hp->Prop)(us:List AF)(s':AK):Prop:=∃vs H',Inv X pins σ H' s'/\c7 vs us/\Q vs H'
abbrev SP(X:Cx)(pins:List (AM×Obj))(D:Ends)(f:Flow)(s':AK):Prop:=
 match f with
 |.next=>∃σ' H',Inv X pins σ' H' s'/\D.nx σ' H'
 |.brk=>∃σ' H',Inv X pins σ' H' s'/\D.bk σ' H'
 |.cont=>∃σ' H',Inv X pins σ' H' s'/\D.ct σ' H'
 |.ret u=>∃v σ' H',Inv X pins σ' H' s'/\c9 v u/\D.rt v H'
abbrev PE(X:Cx)(e:AQ)(t:TE):Prop:=
 ∀(pins:List (AM×Obj))(s:AK)(σ:St)(H:Hp)(Q:VK),Inv X pins σ H s->t σ H Q->AU (model X.prog X.w) X.A (eval e X.env) (EP X pins σ Q) X.xe s
abbrev PT(X:Cx)(e:AQ)(t:TT):Prop:=
 ∀(pins:List (AM×Obj))(s:AK)(σ:St)(H:Hp)(Q:Bool->Hp->Prop),Inv X pins σ H s->t σ H Q->AU (model X.prog X.w) X.A (GX e X.env (eval e X.env)) (TP X pins σ Q) X.xe s
abbrev PW(X:Cx)(e:AQ)(t:TT):Prop:=
 ∀(whole:Sem AF)(pins:List (AM×Obj))(s:AK)(σ:St)(H:Hp)(Q:Bool->Hp->Prop),Inv X pins σ H s->t σ H Q->AU (model X.prog X.w) X.A (GX e X.env whole) (TP X pins σ Q) X.xe s
def PW.pt{X:Cx}{e:AQ}{t:TT}(h:PW X e t):PT X e t:=h _
abbrev PA(X:Cx)(es:List AQ)(t:TA):Prop:=
 ∀(pos:Pos)(pins:List (AM×Obj))(s:AK)(σ:St)(H:Hp)(Q:List V->Hp->Prop),Inv X pins σ H s->t σ H Q->AU (model X.prog X.w) X.A (spliced (Bt pos (Ai es X.env))) (AP X pins σ Q) X.xe s
abbrev PS(X:Cx)(st:BQ)(t:TS):Prop:=
 ∀(pins:List (AM×Obj))(s:AK)(σ:St)(H:Hp)(D:Ends),Inv X pins σ H s->t D σ H->AU (model X.prog X.w) X.A (exec st X.env) (SP X pins D) X.xe s
abbrev PSs(X:Cx)(st:List BQ)(t:TS):Prop:=
 ∀(pins:List (AM×Obj))(s:AK)(σ:St)(H:Hp)(D:Ends),Inv X pins σ H s->t D σ H->AU (model X.prog X.w) X.A (execs st X.env) (SP X pins D) X.xe s
def thn{α:Type}{t:Sem α}{Q Q':α->AK->Prop}{M:Model}{A:BO}{E:AF->AK->Prop}{s:AK}(h:AU M A t Q E s)(hQ:∀a s,Q a s->Q' a s):AU M A t Q' E s:=BX h hQ λ_ _ x=>x
end L2
namespace L2
open PySem PySem.Spec PyProof.Rows
variable{pins:List (AM×Obj)}{σ:St}{H:Hp}{x:Str}{pos:Pos}{u:AF}{op:Dc}
section
variable {X:Cx}
def bin{a b:AQ}{ta tb:TE}(ha:PE X a ta)(hb:PE X b tb){s:AK}{R:V->V->Hp->Prop}(I:Inv X pins σ H s)(h:ta σ H λx H1=>tb σ H1 λy H2=>R x y H2)
  {α:Type} {Q:α->AK->Prop} {f:AF->AF->Sem α}
  (hf:∀v u s2 x y H2,Inv X pins σ H2 s2->c9 x v->c9 y u->R x y H2->AU (model X.prog X.w) X.A (f v u) Q X.xe s2) :
  AU (model X.prog X.w) X.A (eval a X.env) (λv s₁=>AU (model X.prog X.w) X.A (eval b X.env) (λu s₂=>AU (model X.prog X.w) X.A (f v u) Q X.xe s₂) X.xe s₁) X.xe s:=by
 refine thn (ha pins s σ H _ I h) λv s1 z0=>?_;obtain⟨x,H1,I1,r1,q1⟩:=z0;refine thn (hb pins s1 σ H1 _ I1 q1) λu s2 z1=>?_;obtain⟨y,H2,I2,r2,q2⟩:=z1;exact hf v u s2 x y H2 I2 r1 r2 q2
abbrev cl7(i:Nat):TE:=λσ H Q=>∃v,σ[i]?=AA (AA v)/\Q v H
abbrev tC(v:V):TE:=λ_ H Q=>Q v H
def ad4{i:Nat}(hN:X.N[i]?=AA x)(hv:Vis X.env.scope x)(hd:(x==("__debug__":Str))=AG:=by decide)(hcd:(x==("__classdict__":Str))=AG:=by decide):PE X (.Name x pos) (cl7 i):=by
 intro pins s σ H Q I h;obtain⟨v,e,h⟩:=h;obtain⟨m,hn,hl⟩:=I.loc;obtain⟨u,r,l⟩:=hl i x v hN e hv;have fin:EP X pins σ Q u s:=⟨v,H,I,r,h⟩
 rcases l with⟨hk,hm⟩|⟨hk,c,hc,hcell⟩
 ·exact IQ (wpAny_loadName_local I.ok.kind hk hn hm fin) hd
 ·rcases hk with hk|hk
  ·exact IQ (wpAny_loadName_cell I.ok.kind hk hc hcell fin) hd
  ·exact IQ (wpAny_loadName_free I.ok.kind hk hc hcell fin hcd) hd
def cc8{i j pos}:PE X (.Constant (.int i) j pos) (tC (.int i)):=λ_ _ _ H _ I h=>wpAny_Constant_int ⟨.int i,H,I.tok _,⟨_,rfl⟩,h⟩
def ch8{b j pos}:PE X (.Constant (.bool b) j pos) (tC (.bl b)):=λ_ _ _ H _ I h=>Constant_bool ⟨.bl b,H,I,rfl,h⟩
def b54{j pos}:PE X (.Constant .none j pos) (tC .non):=λ_ _ _ H _ I h=>Constant_none ⟨.non,H,I,rfl,h⟩
def av1{x j pos}:PE X (.Constant (.str x) j pos) (tC (.str x)):=λ_ _ _ H _ I h=>Calls.Constant_str ⟨.str x,H,I.tok _,⟨_,rfl⟩,h⟩
abbrev Gl(X:Cx)(x:Str):Prop:=X.env.kindOf x=AA .globalImplicit
def J0{E:AF->AK->Prop}{s:AK}{pos:Pos}{Q:AF->AK->Prop}(I:Inv X pins σ H s)(hg:Gl X x)(hm:X.mg x=AA u)(h:Q u s)
  (hd:(x==("__debug__":Str))=AG:=by decide):AU (model X.prog X.w) X.A (eval (.Name x pos) X.env) Q E s:=
 Fc I.ok.kind hg (Calls.loadGlobal_global (by rw[I.ok.glob];exact I.mod.glob.keeps I.bk) hm h) hd
def A5{E:AF->AK->Prop}{s:AK}{pos:Pos}{Q:AF->AK->Prop}(I:Inv X pins σ H s)(hg:Gl X x)(hm:X.mg x=AE)(hv:Aw x=AA u)(h:Q u s)
  (hn:x≠"__name__":=by decide) (hd:(x==("__debug__":Str))=AG:=by decide):AU (model X.prog X.w) X.A (eval (.Name x pos) X.env) Q E s:=by
 obtain⟨mb,h1,h2⟩:=I.mod.blt;exact Fc I.ok.kind hg (Calls.loadGlobal_builtin (by rw[I.ok.glob];exact I.mod.glob.keeps I.bk) hm (by rw[I.ok.blt];exact h1.keeps I.bk) ((h2 x hn).trans hv) h) hd
def ac7{v:V}(hg:Gl X x)(hm:X.mg x=AA u)(r:c9 v u)(hd:(x==("__debug__":Str))=AG:=by decide):PE X (.Name x pos) (tC v):=
 λ_ _ _ H _ I h=>J0 I hg hm ⟨v,H,I,r,h⟩ hd
def b13{v:V}(hg:Gl X x)(hm:X.mg x=AE)(hv:Aw x=AA u)(r:c9 v u)(hn:x≠"__name__":=by decide)(hd:(x==("__debug__":Str))=AG:=by decide):PE X (.Name x pos) (tC v):=
 λ_ _ _ H _ I h=>A5 I hg hm hv ⟨v,H,I,r,h⟩ hn hd
variable {a b:AQ} {ta tb:TE} 
abbrev PC(X:Cx)(op:Dc)(a b:AQ)(t:TE):Prop:=
 ∀(pins:List (AM×Obj))(s:AK)(σ:St)(H:Hp)(Q:VK),Inv X pins σ H s->t σ H Q ->
  AU (model X.prog X.w) X.A (eval a X.env) (λv s₁=>AU (model X.prog X.w) X.A (eval b X.env) (λu s₂=>AU (model X.prog X.w) X.A (Bb op v u) (EP X pins σ Q) X.xe s₂) X.xe s₁) X.xe s
def ao6(b:AQ)(h:op≠.In)(h2:op≠.NotIn):Bw op b=AG:=by
 have e1:(op==CmpOp.In)=AG:=by cases op<;>first|rfl|exact absurd rfl h
 have e2:(op==Dd)=AG:=by cases op<;>first|rfl|exact absurd rfl h2
 cases b<;>simp[Bw,e1,e2]
abbrev ck5(ta:TE):TE:=λσ H Q=>ta σ H λx H1=>Q (.bl (AB (x=.non))) H1
def c9.none_iff{x:V}{v:AF}(r:c9 x v):(v==Bd)=AB (x=.non):=by
 cases x with
 |non=>cases r;rfl
 |bl _=>cases r;rfl
 |int _=>obtain⟨t,rfl⟩:=r;rfl
 |str _=>obtain⟨t,rfl⟩:=r;rfl
 |byt _=>obtain⟨t,rfl⟩:=r;rfl
 |flt _=>obtain⟨t,rfl⟩:=r;rfl
 |ref _=>cases r;rfl
 |ty _=>cases r;rfl
def a39{j pos'}(ha:PE X a ta):PC X .Is a (.Constant .none j pos') (ck5 ta):=by
 intro pins s σ H Q I h;refine thn (ha pins s σ H _ I h) λv s1 z2=>?_;obtain⟨x,H1,I1,r1,q1⟩:=z2;exact Constant_none (is_none_gen ⟨.bl _,H1,I1,by rw[r1.none_iff];rfl,q1⟩)
abbrev tB(t:TE):TT:=λσ H Q=>t σ H λx H1=>∃c,x=.bl c/\Q c H1
def ax6{t:TE}(h:PC X op a b t)(h1:Bw op b=AG:=by first|exact ao6 _ ∅ ∅|rfl):PE X (.Compare a [op] [b] pos) t:=λpins s σ H Q I hw=>Jf (h pins s σ H Q I hw) h1
def ay2{t:TE}(h:PC X op a b t)(h1:Bw op b=AG:=by first|exact ao6 _ ∅ ∅|rfl):PT X (.Compare a [op] [b] pos) (tB t):=by
 intro pins s σ H Q I hw;refine Hb (thn (h pins s σ H _ I hw) λv s1 h1=>thn h1 λu s2 h2=>thn h2 λc s3 z3=>?_) h1;obtain⟨x,H1,I1,r1,q1⟩:=z3;obtain⟨d,rfl,q⟩:=q1;cases r1;exact Bf ⟨H1,I1,q⟩
def cd9{e:AQ}{t:TE}(h:PE X e t)(he:∀whole,GX e X.env whole=(do let v <-whole;GL e.pos;holding [v] (truthy v)):=by intro _;rfl):PT X e (tB t):=by
 intro pins s σ H Q I hw;refine isTrue_plain (thn (h pins s σ H _ I hw) λv s1 z4=>?_) (he _);obtain⟨x,H1,I1,r1,q1⟩:=z4;obtain⟨d,rfl,q⟩:=q1;cases r1;exact Bf ⟨H1,I1,q⟩
variable {tA tB':TT} {c8:List AQ}
abbrev cm1(t u:TT):TT:=λσ H Q=>t σ H λc H1=>if c=AC then u σ H1 Q else Q AG H1
abbrev tOr(t u:TT):TT:=λσ H Q=>t σ H λc H1=>if c=AC then Q AC H1 else u σ H1 Q
abbrev cn2(t:TT):TT:=λσ H Q=>t σ H λc H1=>Q (!c) H1
def b06(ha:PT X a tA):PW X (.BoolOp .And [a] pos) tA:=by
 intro wh pins s σ H Q I h;refine isTrue_and (thn (ha pins s σ H Q I h) λc s1 e=>?_);cases c with
 |true=>exact isTrue_and_nil e
 |false=>exact e
def b63(ha:PT X a tA):PW X (.BoolOp .Or [a] pos) tA:=by
 intro wh pins s σ H Q I h;refine isTrue_or (thn (ha pins s σ H Q I h) λc s1 e=>?_);cases c with
 |false=>exact isTrue_or_nil e
 |true=>exact e
def b94(ha:PT X a tA)(hb:PW X (.BoolOp .And (b::c8) pos) tB'):PW X (.BoolOp .And (a::b::c8) pos) (cm1 tA tB'):=by
 intro wh pins s σ H Q I h;refine isTrue_and (thn (ha pins s σ H _ I h) λc s1⟨H1,I1,q1⟩=>?_);cases c with
 |true=>exact hb wh pins s1 σ H1 Q I1 q1
 |false=>exact⟨H1,I1,q1⟩
def cf5(ha:PT X a tA)(hb:PW X (.BoolOp .Or (b::c8) pos) tB'):PW X (.BoolOp .Or (a::b::c8) pos) (tOr tA tB'):=by
 intro wh pins s σ H Q I h;refine isTrue_or (thn (ha pins s σ H _ I h) λc s1⟨H1,I1,q1⟩=>?_);cases c with
 |true=>exact⟨H1,I1,q1⟩
 |false=>exact hb wh pins s1 σ H1 Q I1 q1
def b60(ha:PT X a tA):PT X (.UnaryOp .Not a pos) (cn2 tA):=by
 intro pins s σ H Q I h;exact isTrue_not (ha pins s σ H (λc H1=>Q (!c) H1) I h)
abbrev cg7(ta tb:TE):TE:=λσ H Q=>ta σ H λx H1=>∃c,x=.bl c/\if c=AC then tb σ H1 Q else Q (.bl AG) H1
abbrev cl6(ta tb:TE):TE:=λσ H Q=>ta σ H λx H1=>∃c,x=.bl c/\if c=AC then Q (.bl AC) H1 else tb σ H1 Q
abbrev ch9(ta:TE):TE:=λσ H Q=>ta σ H λx H1=>∃c,x=.bl c/\Q (.bl (!c)) H1
def aw8{op}{t:TE}(h:PE X a t):PE X (.BoolOp op [a] pos) t:=λpins s σ H Q I hw=>BoolOp_one (h pins s σ H Q I hw)
def b78(ha:PE X a ta)(hb:PE X (.BoolOp .And (b::c8) pos) tb):PE X (.BoolOp .And (a::b::c8) pos) (cg7 ta tb):=by
 intro pins s σ H Q I h;refine BoolOp_and (thn (ha pins s σ H _ I h) λv s1 z5=>?_);obtain⟨x,H1,I1,r1,q1⟩:=z5;obtain⟨c,rfl,q1⟩:=q1;cases r1;refine Bf ?_;cases c with
 |true=>exact hb pins s1 σ H1 Q I1 q1
 |false=>exact⟨.bl AG,H1,I1,rfl,q1⟩
def cg1(ha:PE X a ta)(hb:PE X (.BoolOp .Or (b::c8) pos) tb):PE X (.BoolOp .Or (a::b::c8) pos) (cl6 ta tb):=by
 intro pins s σ H Q I h;refine BoolOp_or (thn (ha pins s σ H _ I h) λv s1 z6=>?_);obtain⟨x,H1,I1,r1,q1⟩:=z6;obtain⟨c,rfl,q1⟩:=q1;cases r1;refine Bf ?_;cases c with
 |false=>exact hb pins s1 σ H1 Q I1 q1
 |true=>exact⟨.bl AC,H1,I1,rfl,q1⟩
def cd4(ha:PE X a ta):PE X (.UnaryOp .Not a pos) (ch9 ta):=by
 intro pins s σ H Q I h;refine UnaryOp_ (thn (ha pins s σ H _ I h) λv s1 z7=>?_);obtain⟨x,H1,I1,r1,q1⟩:=z7;obtain⟨c,rfl,q1⟩:=q1;cases r1;exact not_of (Bf ⟨.bl (!c),H1,I1,rfl,q1⟩)
abbrev tIf(t:TT)(ta tb:TE):TE:=λσ H Q=>t σ H λc H1=>if c=AC then ta σ H1 Q else tb σ H1 Q
def bu8{c:AQ}(hc:PT X c tA)(ha:PE X a ta)(hb:PE X b tb):PE X (.IfExp c a b pos) (tIf tA ta tb):=by
 intro pins s σ H Q I h;refine wpAny_IfExp (thn (hc pins s σ H _ I h) λd s1⟨H1,I1,q1⟩=>?_);cases d with
 |true=>exact ha pins s1 σ H1 Q I1 q1
 |false=>exact hb pins s1 σ H1 Q I1 q1
end
end L2
namespace L2
open PySem PySem.Spec PyProof.Rows
variable{u:AF}{X:Cx}{pins:List (AM×Obj)}{σ:St}{H:Hp}{te:TE}{pos:Pos}{tg:AQ}{P:Ag}
abbrev SqL(K:AR)(H:Hp)(a:AM)(xs:List V):Prop:=
 Rd H a (.lst xs)\/
  ∃(o:Obj)(its:Array AF)(n:Nat),K.lookup a=AA o/\o.cls=.type "list"/\o.dict=AE/\o.data=.seq its n/\its.size<=sizeLine/\c7 xs its.toList
abbrev SqT(K:AR)(H:Hp)(a:AM)(xs:List V):Prop:=
 Rd H a (.tup xs)\/
  ∃(o:Obj)(its:Array AF)(n:Nat),K.lookup a=AA o/\o.cls=.type "tuple"/\o.dict=AE/\o.data=.seq its n/\its.size<=sizeLine/\c7 xs its.toList
abbrev co1:AF->Option V
 |.none=>AA .non
 |.bool b=>AA (.bl b)
 |.int i _=>AA (.int i)
 |.str x _=>AA (.str x)
 |.bytes b _=>AA (.byt b)
 |.float b _=>AA (.flt b)
 |.ref a=>AA (.ref a)
 |.type n=>AA (.ty n)
 |_=>AE
def c9.abs{x:V}(r:c9 x u):co1 u=AA x:=by
 cases x with
 |non=>cases r;rfl
 |bl _=>cases r;rfl
 |int _=>obtain⟨t,rfl⟩:=r;rfl
 |str _=>obtain⟨t,rfl⟩:=r;rfl
 |byt _=>obtain⟨t,rfl⟩:=r;rfl
 |flt _=>obtain⟨t,rfl⟩:=r;rfl
 |ref _=>cases r;rfl
 |ty _=>cases r;rfl
theorem c9.inj{x y:V}(r:c9 x u)(q:c9 y u):x=y:=At (r.abs.symm.trans q.abs)
theorem c7.inj:∀{xs ys:List V}{us:List AF},c7 xs us->c7 ys us->xs=ys
 |_,_,_,.nil,.nil=>rfl
 |_,_,_,.cons r t,.cons r' t'=>by rw[r.inj r',c7.inj t t']
section
variable {s:AK} {a:AM} {xs ys:List V}
def Inv.list(I:Inv X pins σ H s)(h:SqL X.K H a xs):∃its:List AF,c7 xs its/\PlainL s.heap a its.toArray/\xs.length<=sizeLine:=by
 rcases h with h|⟨o,its,n,hk,hc,hd,hs,hz,r⟩
 ·obtain⟨z,its,n,r,e⟩:=h.ok I.hok;exact⟨its,r,⟨_,n,e,rfl,rfl,rfl⟩,z⟩
 ·refine⟨its.toList,r,⟨o,n,I.kIn a o hk,hc,hd,by simpa using hs⟩,?_⟩;have e:=r.length;simp only[DJ]at e;lia
def Inv.tupleD(I:Inv X pins σ H s)(h:SqT X.K H a xs):∃its:List AF,c7 xs its/\v0 s.heap a its.toArray/\xs.length<=sizeLine:=by
 rcases h with h|⟨o,its,n,hk,hc,hdn,hs,hz,r⟩
 ·obtain⟨z,its,r,p⟩:=h.ok I.hok;exact⟨its,r,p,z⟩
 ·refine⟨its.toList,r,⟨o,I.kIn a o hk,hc,hdn,n,by simpa using hs⟩,?_⟩;have e:=r.length;simp only[DJ]at e;lia
def Inv.tuple(I:Inv X pins σ H s)(h:SqT X.K H a xs):∃its:List AF,c7 xs its/\Je s.heap a its.toArray/\xs.length<=sizeLine:=by
 obtain⟨its,r,p,z⟩:=I.tupleD h;exact⟨its,r,p.tup,z⟩
def Inv.list_inj(I:Inv X pins σ H s)(h:SqL X.K H a xs)(h':SqL X.K H a ys):xs=ys:=by
 obtain⟨its,r,⟨o,n,e,_,_,d⟩,_⟩:=I.list h;obtain⟨its',r',⟨o',n',e',_,_,d'⟩,_⟩:=I.list h';rw[e]at e';cases e';rw[d]at d';injection d' with d1 _
 have:its=its':=by simpa using congrArg IR d1
 subst this;exact r.inj r'
def Inv.tuple_inj(I:Inv X pins σ H s)(h:SqT X.K H a xs)(h':SqT X.K H a ys):xs=ys:=by
 obtain⟨its,r,⟨o,e,_,n,d⟩,_⟩:=I.tuple h;obtain⟨its',r',⟨o',e',_,n',d'⟩,_⟩:=I.tuple h';rw[e]at e';cases e';rw[d]at d';injection d' with d1 _
 have:its=its':=by simpa using congrArg IR d1
 subst this;exact r.inj r'
end
section
variable {st:BQ} {c8:List BQ} {t u:TS} {e:AQ} 
abbrev a81:TS:=λD σ H=>D.nx σ H
abbrev cl2(t u:TS):TS:=λD σ H=>t {D with nx:=u D} σ H
def bx3:PSs X [] a81:=λ_ _ σ H _ I h=>GI ⟨σ,H,I,h⟩
def bs2(h1:PS X st t)(h2:PSs X c8 u):PSs X (st::c8) (cl2 t u):=by
 intro pins s σ H D I h;refine JC (thn (h1 pins s σ H {D with nx:=u D} I h) λf s1 q=>?_);cases f with
 |next=>
  obtain⟨σ',H',I',q⟩:=q;exact h2 pins s1 σ' H' D I' q
 |ret v=>exact q
 |brk=>exact q
 |cont=>exact q
abbrev ch3:TS:=λD σ H=>D.ct σ H
def bz2:PS X (.Pass pos) a81:=λ_ _ σ H _ I h=>wpAny_Pass ⟨σ,H,I,h⟩
def bk9:PS X (.Continue pos) ch3:=λ_ _ σ H _ I h=>wpAny_Continue ⟨σ,H,I,h⟩
def Inv.quiet{s:AK}(I:Inv X pins σ H s):interactive X.env=AG:=by simp[interactive,I.ok.kind]
abbrev ci5(te:TE):TS:=λD σ H=>te σ H λ_ H1=>D.nx σ H1
def b29(he:PE X e te)(hs:Cu e AE pos.line X.env=pure AG:=by rfl):PS X (.Expr e pos) (ci5 te):=by
 intro pins s σ H D I h;exact wpAny_Expr_any (thn (he pins s σ H _ I h) λv s1⟨x,H1,I1,r1,q1⟩=>⟨σ,H1,I1,q1⟩) I.quiet hs
abbrev cj8(te:TE):TS:=λD σ H=>te σ H D.rt
def b98(he:PE X e te):PS X (.Return (AA e) pos) (cj8 te):=by
 intro pins s σ H D I h;exact wpAny_Return_some (thn (he pins s σ H _ I h) λv s1⟨x,H1,I1,r1,q1⟩=>⟨x,σ,H1,I1,r1,q1⟩)
abbrev cg8:TS:=λD _ H=>D.rt .non H
def bz4:PS X (.Return AE pos) cg8:=λ_ _ σ H _ I h=>wpAny_Return_none ⟨.non,σ,H,I,rfl,h⟩
abbrev cn9(c:TT)(t u:TS):TS:=λD σ H=>c σ H λb H1=>if b=AC then t D σ H1 else u D σ H1
def cf4{c:AQ}{a b:List BQ}{tc:TT}(hc:PT X c tc)(ha:PSs X a t)(hb:PSs X b u):PS X (.If c a b pos) (cn9 tc t u):=by
 intro pins s σ H D I h;refine wpAny_If (thn (hc pins s σ H _ I h) λd s1⟨H1,I1,q1⟩=>?_);cases d with
 |true=>exact ha pins s1 σ H1 D I1 q1
 |false=>exact hb pins s1 σ H1 D I1 q1
end
@[reducible]noncomputable def TG:=V->St->Hp->(St->Hp->Prop)->Prop
@[reducible]noncomputable def TGs:=List V->St->Hp->(St->Hp->Prop)->Prop
abbrev PG(X:Cx)(target:AQ)(t:TG):Prop:=
 ∀(pins:List (AM×Obj))(s:AK)(σ:St)(H:Hp)(v:V)(u:AF)(Q:St->Hp->Prop),Inv X pins σ H s->c9 v u->t v σ H Q ->
  AU (model X.prog X.w) X.A (assign target X.env u) (λ_ s'=>∃σ' H',Inv X pins σ' H' s'/\Q σ' H') X.xe s
abbrev PGs(X:Cx)(ts:List AQ)(t:TGs):Prop:=
 ∀(pins:List (AM×Obj))(s:AK)(σ:St)(H:Hp)(vs:List V)(us:List AF)(Q:St->Hp->Prop),Inv X pins σ H s->c7 vs us->t vs σ H Q ->
  AU (model X.prog X.w) X.A (assignInOrder ((Bn ts X.env).map (·.2)) us) (λ_ s'=>∃σ' H',Inv X pins σ' H' s'/\Q σ' H') X.xe s
@[reducible]noncomputable def ag3:=V->V->V->Hp->(Hp->Prop)->Prop
abbrev bh4(X:Cx)(t:ag3):Prop:=
 ∀(pins:List (AM×Obj))(s:AK)(σ:St)(H:Hp)(o i v:V)(ov iv u:AF)(Q:Hp->Prop),Inv X pins σ H s->c9 o ov->c9 i iv->c9 v u->t o i v H Q ->
  AU (model X.prog X.w) X.A (setItem ov iv u) (λ_ s'=>∃H',Inv X pins σ H' s'/\Q H') X.xe s
section
abbrev ae7(i:Nat):TG:=λv σ H Q=>Q (σ.set i (AA v)) H
def ar5{i:Nat}{x:Str}(hN:X.N.Nodup)(hi:X.N[i]?=AA x)(hx:Loc X.env.scope x)(hf:X.fn x=AC\/X.env.scope.names.lookup x=AA .local:=by first|exact .inl rfl|exact .inr rfl|assumption):PG X (.Name x pos) (ae7 i):=by
 intro pins s σ H v u Q I r h;exact Ii (ab3 I hN hi hx r (λs' I'=>⟨_,H,I',h⟩) hf)
abbrev be8:TGs:=λvs σ H Q=>vs=[]/\Q σ H
abbrev ba1(t:TG)(u:TGs):TGs:=λvs σ H Q=>∃v r,vs=v::r/\t v σ H λσ' H'=>u r σ' H' Q
def b37:PGs X [] be8:=by
 intro pins s σ H vs us Q I r h;obtain⟨e,h⟩:=h;subst e;cases r;exact assignInOrder_nil ⟨σ,H,I,h⟩
def bv0{e:AQ}{es:List AQ}{t:TG}{u:TGs}(h1:PG X e t)(h2:PGs X es u)
  (hs:(Bn (e::es) X.env).map (·.2)=assign e X.env::(Bn es X.env).map (·.2):=by rfl):PGs X (e::es) (ba1 t u):=by
 intro pins s σ H vs us Q I r h;obtain⟨v,vr,e1,h⟩:=h;subst e1;cases r with
 |cons r rr=>
  rw[hs];refine assignInOrder_cons (thn (h1 pins s σ H _ _ _ I r h) λ_ s1 z8=>?_);obtain⟨σ1,H1,I1,q1⟩:=z8;exact h2 pins s1 σ1 H1 _ _ Q I1 rr q1
abbrev co5(K:AR)(n:Nat)(t:TGs):TG:=λv σ H Q=>∃a xs,v=.ref a/\SqT K H a xs/\xs.length=n/\t xs σ H Q
def cb1{es:List AQ}{k:Nat}{t:TGs}{n:Nat}(hc:X.calm=AC)(h:PGs X es t)
  (hn:(Bn es X.env).length=n:=by rfl) (hst:(Bn es X.env).findIdx? (·.1)=AE:=by rfl):PG X (.Tuple es k pos) (co5 X.K n t):=by
 intro pins s σ H v u Q I r hw;obtain⟨a,xs,e1,hq,hl,hw⟩:=hw;subst e1;cases r;obtain⟨its,rv,ht,hz⟩:=I.tuple hq;refine assign_Tuple_tuple (I.ok.hd hc) ht (by simp[hn,<-hl,rv.length]) hst λh' hx=>?_;have I1:Inv X pins σ H {s with heap:=h'}:=I.kept (t':=s.toks) λb o e=>hx b o (BZ (Av e)) e;exact h pins _ σ H xs _ Q I1 (by simpa using rv) hw
abbrev cm5(to ti:TE)(t:ag3):TG:=λv σ H Q=>to σ H λo H1=>ti σ H1 λi H2=>t o i v H2 λH3=>Q σ H3
def cb8{o i:AQ}{to ti:TE}{t:ag3}(ho:PE X o to)(hi:PE X i ti)(hs:bh4 X t)
  (ha:∀v,assign (.Subscript o i pos) X.env v=(do
   let ov <-holding [v] (eval o X.env)
   let iv <-holding [v,ov] (eval i X.env)
   GL pos
   holding [v,ov,iv] (setItem ov iv v)
   release [v,ov,iv] []):=by intro _;rfl):PG X (.Subscript o i pos) (cm5 to ti t):=by
 intro pins s σ H v u Q I r h;rw[ha];refine AH (CV (thn (ho pins s σ H _ I h) λov s1 z9=>?_));obtain⟨x,H1,I1,r1,q1⟩:=z9;refine AH (CV (thn (hi pins s1 σ H1 _ I1 q1) λiv s2 z10=>?_));obtain⟨y,H2,I2,r2,q2⟩:=z10;refine AH (Go (AH (CV (thn (hs pins s2 σ H2 x y v ov iv u _ I2 r1 r2 r q2) λ_ s3⟨H3,I3,q3⟩=>?_))));exact wpAny_release ⟨σ,H3,I3,q3⟩
abbrev bd3(te:TE)(g:TG):TS:=λD σ H=>te σ H λx H1=>g x σ H1 D.nx
def b71{e:AQ}{g:TG}(he:PE X e te)(hg:PG X tg g)(hs:FJ [tg] e pos.line X.env=pure AG:=by rfl)(hw:swappedStores [tg] e X.env=pure AE:=by rfl)
  (h1:(Bn [tg] X.env).map (·.2)=[assign tg X.env]:=by rfl):PS X (.Assign [tg] e pos) (bd3 te g):=by
 intro pins s σ H D I h;refine wpAny_Assign_stores (thn (he pins s σ H _ I h) λv s1 z11=>?_) hs hw;obtain⟨x,H1,I1,r1,q1⟩:=z11;rw[h1];exact thn (hg pins s1 σ H1 x v _ I1 r1 q1) λ_ s2 q=>q
def b90{i:Nat}{x:Str}{e:AQ}{pos':Pos}(hN:X.N.Nodup)(hi:X.N[i]?=AA x)(hx:Loc X.env.scope x)(he:PE X e te)(hs:Cu e (AA (.Name x pos')) pos.line X.env=pure AG:=by rfl)(hf:X.fn x=AC\/X.env.scope.names.lookup x=AA .local:=by first|exact .inl rfl|exact .inr rfl|assumption):
  PS X (.Assign [.Name x pos'] e pos) (bd3 te (ae7 i)):=by
 intro pins s σ H D I h;refine wpAny_Assign_Name (thn (he pins s σ H _ I h) λv s1 z12=>?_) hs;obtain⟨y,H1,I1,r1,q1⟩:=z12;exact ab3 I1 hN hi hx r1 (λs2 I2=>⟨_,H1,I2,q1⟩) hf
end
section
abbrev cb5(c:TT)(tb:TS):TS:=λD σ H=>∃W:Nat->St->Hp->Prop,(∃m,W m σ H)/\∀m σ H,W m σ H ->
 c σ H λb H1=>if b=AC then ∃N:St->Hp->Prop,(∀σ' H',N σ' H'->∃m',m'<m/\W m' σ' H')/\tb {D with nx:=N,ct:=N,bk:=D.nx} σ H1 else D.nx σ H1
def br2{c:AQ}{body:List BQ}{tc:TT}{tb:TS}(hp:Fw (model X.prog X.w) X.A X.env X.xe)(hc:PT X c tc)(hb:PSs X body tb):PS X (.While c body [] pos) (cb5 tc tb):=by
 intro pins s σ H D I h;obtain⟨W,⟨m0,w0⟩,turn⟩:=h;refine wpAny_While (codeAny_whileLoop (λn s'=>∃σ' H',Inv X pins σ' H' s'/\W n σ' H') ?_ m0 ⟨σ,H,I,w0⟩);rintro n s1 ⟨σ1,H1,I1,w1⟩;refine CQ hp (thn (hc pins s1 σ1 H1 _ I1 (turn n σ1 H1 w1)) λb s2⟨H2,I2,q2⟩=>?_);cases b with
 |true=>
  obtain⟨N,hN,q2⟩:=q2;rw[if_pos rfl];refine CQ hp (thn (hb pins s2 σ1 H2 _ I2 q2) λf s3 q3=>?_);cases f with
  |next=>
   obtain⟨σ3,H3,I3,n3⟩:=q3;obtain⟨m',hm,w3⟩:=hN σ3 H3 n3;exact⟨m',hm,σ3,H3,I3,w3⟩
  |cont=>
   obtain⟨σ3,H3,I3,n3⟩:=q3;obtain⟨m',hm,w3⟩:=hN σ3 H3 n3;exact⟨m',hm,σ3,H3,I3,w3⟩
  |brk=>exact q3
  |ret v=>exact q3
 |false=>
  rw[if_neg AL];exact GI ⟨σ1,H2,I2,q2⟩
end
structure It where
 go:Nat->Hp->Prop
 yld:Nat->Hp->V->Hp->Prop
 stop:Nat->Hp->Prop
abbrev t5(X:Cx)(pins:List (AM×Obj))(H:Hp)(b:AM):Prop:=
 H b=AE/\b≠X.env.locals/\b∉X.fs/\(b∈X.ex\/X.s₀.heap.objs.size<=b)/\(∀x c,X.env.cells.lookup x=AA c->c≠b)/\∀p∈X.pn++pins,p.1≠b
def Inv.fpOk{H':Hp}{s:AK}{b:AM}(I:Inv X pins σ H s)(hb:s.heap.objs.size<=b)(hn:H' b=AE):t5 X pins H' b:=by
 refine⟨hn,GY (Ah I.lt hb),I.nofs hb,.inr (Al I.sz hb),λx c e z=>?_,λp hp z=>?_⟩
 ·obtain⟨v,q⟩:=I.cell x c e;exact absurd (Ah q.lt (by rw[z];exact hb)) (CU _)
 ·exact absurd (Ah (Av (I.pin p hp).1) (by rw[z];exact hb)) (CU _)
structure Turn(P:Ag)(w:BA)(K:AR)(tg:AQ)(J:It)(fp:List AM)(it:AM)(tn:Nat->Az->Prop):Prop where
 mem:it∈fp
 obj:∀i h,tn i h->∀b∈fp,∃o,h.get? b=AA o/\∀v,o.data≠.cell v
 keep:∀i h h',tn i h->(∀b∈fp,∀o,h.get? b=AA o->h'.get? b=AA o)->tn i h'
 item:∀(X:Cx),X.prog=P->X.w=w->X.K=K->X.calm=AC->∀(i:Nat)(pins:List (AM×Obj))(s:AK)(σ:St)(H:Hp)(E:AF->AK->Prop),Inv X pins σ H s->(∀b∈fp,t5 X pins H b)->tn i s.heap->J.go i H ->
  AU (model P w) X.A (IS (.ref it)) (λr s1=>∃u,r=AA u /\
   AU (model P w) X.A (EO tg (.ref it) u) (λ_ s2=>∃x H',Inv X pins σ H' s2/\c9 x u/\J.yld i H x H'/\tn (i+1) s2.heap/\∀b∈fp,H' b=AE) E s1) E s
 done:∀(X:Cx),X.prog=P->X.w=w->X.K=K->X.calm=AC->∀(i:Nat)(pins:List (AM×Obj))(s:AK)(σ:St)(H:Hp)(E:AF->AK->Prop),Inv X pins σ H s->(∀b∈fp,t5 X pins H b)->tn i s.heap->J.stop i H ->
  AU (model P w) X.A (IS (.ref it)) (λr s1=>r=AE/\Inv X pins σ H s1) E s
 self:∀(A:BO)(i:Nat)(s:AK)(Q:AF->AK->Prop)(E:AF->AK->Prop),tn i s.heap->Q (.ref it) s->AU (model P w) A (IT (.ref it)) Q E s
@[reducible]noncomputable def TI:=St->Hp->(It->Hp->Prop)->Prop
abbrev PIE(X:Cx)(pins:List (AM×Obj))(σ:St)(tg:AQ)(R:It->Hp->Prop)(itv:AF)(s2:AK):Prop:=
 ∃(it:AM)(fp:List AM)(tn:Nat->Az->Prop)(J:It)(H':Hp),itv=.ref it/\Inv X pins σ H' s2/\Turn X.prog X.w X.K tg J fp it tn/\tn 0 s2.heap/\(∀b∈fp,t5 X pins H' b)/\R J H'
abbrev PI(X:Cx)(tg iter:AQ)(wi:TI):Prop:=
 ∀(pins:List (AM×Obj))(s:AK)(σ:St)(H:Hp)(R:It->Hp->Prop),Inv X pins σ H s->wi σ H R ->
  AU (model X.prog X.w) X.A (eval iter X.env) (λv s1=>AU (model X.prog X.w) X.A (IT v) (PIE X pins σ tg R) X.xe s1) X.xe s
def V1{M:Model}{A:BO}{E:AF->AK->Prop}{s:AK}{it:AM}{o:Obj}{n:String}{vs:Array AF}{Q:Unit->AK->Prop}(ho:s.heap.get? it=AA o)(hc:o.cls=.type n)(hd:o.data=.fields vs)
  (hn:["enumerate","zip","dict_itemiterator","dict_reverseitemiterator","odict_iterator","itertools.zip_longest","itertools.pairwise"].contains n=AG) (hQ:Q () s):AU M A (EO tg (.ref it) u) Q E s:=by
 unfold EO;cases tg<;>first
  |exact AN hQ
  | (cases u <;> first
    |exact AN hQ
    | (refine AH (wpAny_load ho ?_)
       rw[hc,hd];show AU M A (if(["enumerate","zip","dict_itemiterator","dict_reverseitemiterator","odict_iterator","itertools.zip_longest","itertools.pairwise"].contains n&&vs[0]?==AA (IU _))=AC then _ else _) Q E s;rw[if_neg (by intro h;rw[hn,Bool.false_and]at h;cases h)];exact AN hQ))
abbrev Itl(K:AR)(a:AM):It:=
 ⟨λi H=>∃xs x,SqL K H a xs/\xs[i]?=AA x,λi H x H'=>H'=H/\∀xs,SqL K H a xs->xs[i]?=AA x,λi H=>∃xs,SqL K H a xs/\xs.length<=i⟩
abbrev Itt(K:AR)(a:AM):It:=
 ⟨λi H=>∃xs x,SqT K H a xs/\xs[i]?=AA x,λi H x H'=>H'=H/\∀xs,SqT K H a xs->xs[i]?=AA x,λi H=>∃xs,SqT K H a xs/\xs.length<=i⟩
abbrev Itr(lo:Int)(n:Nat):It:=⟨λi _=>i<n,λi H x H'=>H'=H/\x=.int (lo+i),λi _=>n<=i⟩
def bq0{w:BA}{K:AR}(a it:AM):Turn P w K tg (Itl K a) [it] it (λi h=>h.IsListIter it a i) where
 mem:=by simp
 obj:=λi h st b hb=>by
  have e:b=it:=by simpa using hb
  subst e;obtain⟨o,e,c,d⟩:=st;exact⟨o,e,λv z=>by rw[d]at z;cases z⟩
 keep:=λi h h' st k=>st.at λo e=>k it ∎ o e
 item:=by
  intro X hP hw hK hc i pins s σ H E I hf st hg;subst hP hw hK;obtain⟨xs,x,hq,hx⟩:=hg;obtain⟨its,rv,p,hz⟩:=I.list hq;obtain⟨u,hu,ru⟩:=rv.get hx;obtain⟨f0,f1,f2,f3,f4,f5⟩:=hf it ∎;refine wpAny_pyNext_list_item st p.isList (x:=u) (by simpa using hu) λh' st' sb=>?_;have I1:Inv X pins σ H {s with heap:=h'}:=I.turned (t':=s.toks) (λb o hb e=>(sb.2 b hb).trans e) f0 f1 f3 f4 f5;obtain⟨o,e,c,d⟩:=id st';exact⟨u,rfl,V1 (s:={s with heap:=h'}) e c d ∅ ⟨x,H,I1,ru,⟨rfl,λys hy=>by rw[I.list_inj hy hq];exact hx⟩,st',λb hb=>(hf b hb).1⟩⟩
 done:=by
  intro X hP hw hK hc i pins s σ H E I hf st hg;subst hP hw hK;obtain⟨xs,hq,hx⟩:=hg;obtain⟨its,rv,p,hz⟩:=I.list hq;obtain⟨f0,f1,f2,f3,f4,f5⟩:=hf it ∎;have hl:=rv.length;exact wpAny_pyNext_list_end (I.ok.hd hc) st p.isList (by simp;lia) λh' eb=>⟨rfl,I.turned (t':=s.toks) (λb o hb e=>eb b o hb e) f0 f1 f3 f4 f5⟩
 self:=λ_ _ _ _ _ st h=>wpAny_pyIter_listiter st h
def bm1{w:BA}{K:AR}(a it:AM):Turn P w K tg (Itt K a) [it] it (λi h=>h.IsTupleIter it a i) where
 mem:=by simp
 obj:=λi h st b hb=>by
  have e:b=it:=by simpa using hb
  subst e;obtain⟨o,e,c,d⟩:=st;exact⟨o,e,λv z=>by rw[d]at z;cases z⟩
 keep:=λi h h' st k=>st.at λo e=>k it ∎ o e
 item:=by
  intro X hP hw hK hc i pins s σ H E I hf st hg;subst hP hw hK;obtain⟨xs,x,hq,hx⟩:=hg;obtain⟨its,rv,p,hz⟩:=I.tuple hq;obtain⟨u,hu,ru⟩:=rv.get hx;obtain⟨f0,f1,f2,f3,f4,f5⟩:=hf it ∎;refine wpAny_pyNext_tuple_item st (show s.heap.IsTuple a its.toArray from p) (x:=u) (by simpa using hu) λh' st' sb=>?_;have I1:Inv X pins σ H {s with heap:=h'}:=I.turned (t':=s.toks) (λb o hb e=>(sb.2 b hb).trans e) f0 f1 f3 f4 f5;obtain⟨o,e,c,d⟩:=id st';exact⟨u,rfl,V1 (s:={s with heap:=h'}) e c d ∅ ⟨x,H,I1,ru,⟨rfl,λys hy=>by rw[I.tuple_inj hy hq];exact hx⟩,st',λb hb=>(hf b hb).1⟩⟩
 done:=by
  intro X hP hw hK hc i pins s σ H E I hf st hg;subst hP hw hK;obtain⟨xs,hq,hx⟩:=hg;obtain⟨its,rv,p,hz⟩:=I.tuple hq;obtain⟨f0,f1,f2,f3,f4,f5⟩:=hf it ∎;have hl:=rv.length;exact wpAny_pyNext_tuple_end (I.ok.hd hc) st (show s.heap.IsTuple a its.toArray from p) (by simp;lia) λh' eb=>⟨rfl,I.turned (t':=s.toks) (λb o hb e=>eb b o hb e) f0 f1 f3 f4 f5⟩
 self:=λ_ _ _ _ _ st h=>wpAny_pyIter_tupleiter st h
def bm4{w:BA}{K:AR}(it:AM)(lo:Int)(n:Nat):Turn P w K tg (Itr lo n) [it] it (λi h=>IsRangeIter h it (lo+(i:Nat)*1) ((n:Int)-(i:Nat)) 1) where
 mem:=by simp
 obj:=λi h st b hb=>by
  have e:b=it:=by simpa using hb
  subst e;exact⟨_,st,λv z=>by
   have z':Data.fields _=Data.cell v:=z;cases z'⟩
 keep:=λi h h' st k=>k it ∎ _ st
 item:=by
  intro X hP hw hK hc i pins s σ H E I hf st hg;subst hP hw hK;obtain⟨f0,f1,f2,f3,f4,f5⟩:=hf it ∎;have W:=Walks.range (prog:=X.prog) (w:=X.w) (I.ok.hd hc) it lo 1 n;refine W.item i s _ _ hg st λv h' tk hv st' kk=>?_;obtain⟨t,rfl⟩:=hv;have I1:Inv X pins σ H {s with heap:=h',toks:=tk}:=I.turned (λb o hb e=>kk b o (by simpa using hb) e) f0 f1 f3 f4 f5;refine⟨_,rfl,V1 (s:={s with heap:=h',toks:=tk}) (n:="range_iterator") st' rfl rfl ∅ ⟨.int (lo+i),H,I1,⟨t,?_⟩,⟨rfl,rfl⟩,st',λb hb=>(hf b hb).1⟩⟩;rw[Int.mul_one]
 done:=by
  intro X hP hw hK hc i pins s σ H E I hf st hg;subst hP hw hK;obtain⟨f0,f1,f2,f3,f4,f5⟩:=hf it ∎;exact wpAny_pyNext_range_end (I.ok.hd hc) st (by have:n<=i:=hg;lia) λh' eb=>⟨rfl,I.turned (t':=s.toks) (λb o hb e=>eb b o hb e) f0 f1 f3 f4 f5⟩
 self:=λ_ _ _ _ _ st h=>wpAny_pyIter_rangeiter st h
end L2
namespace L2
open PySem PySem.Spec PyProof.Rows
variable{pins:List (AM×Obj)}{σ:St}{H:Hp}
section
variable {X:Cx} {tg:AQ}
def ap1{s:AK}{R:It->Hp->Prop}{E:AF->AK->Prop}{lo hi:Int}{t u v:Tok}{tk:Nat}(I:Inv X pins σ H s)(h1:-(2^62)<=lo)(h2:lo<2^62)(h3:-(2^62)<=hi)(h4:hi<2^62)
  (q:R (Itr lo (hi-lo).toNat) H):AU (model X.prog X.w) X.A (IT (.ref s.heap.objs.size)) (PIE X pins σ tg R) E {s with heap:=s.heap.push {cls:=.type "range",data:=.fields #[.int lo t,.int hi u,.int 1 v]},toks:=tk}:=by
 refine wpAny_pyIter_range (IsRange.new ..) (small_one h1 h2 h3 h4) ?_;have I1:Inv X pins σ H {s with heap:=s.heap.push {cls:=.type "range",data:=.fields #[.int lo t,.int hi u,.int 1 v]},toks:=tk}:=I.kept λb o e=>AV _ e;refine⟨(s.heap.push {cls:=.type "range",data:=.fields #[.int lo t,.int hi u,.int 1 v]}).objs.size,[(s.heap.push {cls:=.type "range",data:=.fields #[.int lo t,.int hi u,.int 1 v]}).objs.size],_,_,H,rfl,
  I1.kept (t':=tk) λb o e=>AV _ e,bm4 _ lo (hi-lo).toNat,?_,λb hb=>?_,q⟩
 ·have e1:lo+((0:Nat):Int)*1=lo:=by simp
  have e2:(((hi-lo).toNat:Nat):Int)-((0:Nat):Int)=JD lo hi 1:=by rw[rangeSize_one];split<;>lia
  show IsRangeIter _ _ (lo+((0:Nat):Int)*1) ((((hi-lo).toNat:Nat):Int)-((0:Nat):Int)) 1;rw[e1,e2];exact Au _ rfl
 ·have e:b=(s.heap.push {cls:=.type "range",data:=.fields #[.int lo t,.int hi u,.int 1 v]}).objs.size:=by simpa using hb
  subst e;exact I1.fpOk (Af _) (I1.hok.fresh (Af _))
abbrev ci6(ta:TA):TI:=λσ H R=>ta σ H λvs H1=>∃j:Int,vs=[.int j]/\-(2^62)<=j/\j<2^62/\R (Itr 0 j.toNat) H1
abbrev cg9(ta:TA):TI:=λσ H R=>ta σ H λvs H1=>∃i j:Int,vs=[.int i,.int j]/\(-(2^62)<=i/\i<2^62/\-(2^62)<=j/\j<2^62)/\R (Itr i (j-i).toNat) H1
def bp9{a:AQ}{ta:TA}{p pos:Pos}(hg:Gl X "range")(hm:X.mg "range"=AE)(ha:PA X [a] ta)(hs:Ai [a] X.env=[(AG,eval a X.env)]:=by rfl):PI X tg (.Call (.Name "range" p) [a] [] pos) (ci6 ta):=by
 intro pins s σ H R I h;refine Ij (A5 I hg hm boot_range (BB (thn (ha pos pins s σ H _ I h) λus s1 z13=>?_) hs rfl));obtain⟨vs,H1,I1,r1,q1⟩:=z13;obtain⟨j,e,q1,q2,q⟩:=q1;subst e;cases r1 with
 |cons r rr=>
  cases rr;obtain⟨t,rfl⟩:=r;exact call_range_1 (ap1 I1 ⋯ ⋯ q1 q2 (by simpa using q))
def bn5{a b:AQ}{ta:TA}{p pos:Pos}(hg:Gl X "range")(hm:X.mg "range"=AE)(ha:PA X [a,b] ta)(hs:Ai [a,b] X.env=[(AG,eval a X.env),(AG,eval b X.env)]:=by rfl)(hs2:Ai [b] X.env=[(AG,eval b X.env)]:=by rfl):
  PI X tg (.Call (.Name "range" p) [a,b] [] pos) (cg9 ta):=by
 intro pins s σ H R I h;refine Ij (A5 I hg hm boot_range (BB (thn (ha pos pins s σ H _ I h) λus s1 z14=>?_) (by rw[hs,hs2]) (by rw[hs2];rfl)));obtain⟨vs,H1,I1,r1,q1⟩:=z14;obtain⟨i,j,e,⟨q1,q2,q3,q4⟩,q⟩:=q1;subst e;cases r1 with
 |cons r rr=>
  cases rr with
  |cons r' rr=>
   cases rr;obtain⟨t,rfl⟩:=r;obtain⟨t',rfl⟩:=r';exact call_range_2 (ap1 I1 q1 q2 q3 q4 q)
abbrev cm2(wi:TI)(g:TG)(tb:TS):TS:=λD σ H=>wi σ H λJ H1=>∃W:Nat->Nat->St->Hp->Prop,(∃m,W 0 m σ H1)/\∀i m σ H,W i m σ H ->
 (J.stop i H/\D.nx σ H)\/(J.go i H/\∃N:St->Hp->Prop,(∀σ' H',N σ' H'->∃m',m'<m/\W (i+1) m' σ' H')/\∀x H',J.yld i H x H'->g x σ H' λσ2 H2=>tb {D with nx:=N,ct:=N,bk:=D.nx} σ2 H2)
abbrev O2(fp:List AM)(h:Az):List (AM×Obj):=fp.filterMap λb=>(h.get? b).map λo=>(b,o)
def R7{fp:List AM}{h:Az}{b:AM}{o:Obj}(hb:b∈fp)(e:h.get? b=AA o):(b,o)∈O2 fp h:=Gz.mpr ⟨b,hb,by rw[e];rfl⟩
def bp1{fp:List AM}{h:Az}{p:AM×Obj}(hp:p∈O2 fp h):p.1∈fp/\h.get? p.1=AA p.2:=by
 obtain⟨b,hb,e⟩:=Gz.mp hp;cases q:h.get? b with
 |none=>rw[q]at e;cases e
 |some o=>
  rw[q]at e;have e':(b,o)=p:=At e;subst e';exact⟨hb,q⟩
def Inv.pinned{s:AK}{fp:List AM}(I:Inv X pins σ H s)(hf:∀b∈fp,t5 X pins H b)(ho:∀b∈fp,∃o,s.heap.get? b=AA o/\∀v,o.data≠.cell v):Inv X (pins++O2 fp s.heap) σ H s:=
 I.pins_of λp hp=>(Ax.mp hp).elim (λz=>I.pin p (BD _ z)) λz=>by
  obtain⟨hb,e⟩:=bp1 z;obtain⟨f0,f1,f2,_⟩:=hf p.1 hb;obtain⟨o,e',d⟩:=ho p.1 hb;rw[e]at e';cases e';exact⟨e,f0,f1,f2,d⟩
def Inv.unpinned{pl:List (AM×Obj)}{s:AK}(I:Inv X (pins++pl) σ H s):Inv X pins σ H s:=I.pins_of λp hp=>I.pin p (BD _ (Gg _ hp))
def ce5{iter:AQ}{body:List BQ}{wi:TI}{g:TG}{tb:TS}{pos:Pos}(hp:Fw (model X.prog X.w) X.A X.env X.xe)(hc:X.calm=AC)(hi:PI X tg iter wi)(hg:PG X tg g)(hb:PSs X body tb)
  (hs:∀x,DD iter X.env x=pure x:=by intro _;rfl):PS X (.For tg iter body [] pos) (cm2 wi g tb):=by
 intro pins s σ H D I h;refine wpAny_For (thn (hi pins s σ H _ I h) λv s1 h1=>thn h1 λitv s2 h2=>?_) hs;obtain⟨it,fp,tn,J,H2,e,I2,T,st2,f2,W,⟨m0,w0⟩,turn⟩:=h2;subst e;have stat:∀{H':Hp},(∀b∈fp,H' b=AE)->∀b∈fp,t5 X pins H' b:=λhn b hb=>⟨hn b hb,(f2 b hb).2⟩;refine codeAny_forLoop_any (λn s'=>∃i σ' H',Inv X pins σ' H' s'/\tn i s'.heap/\(∀b∈fp,H' b=AE)/\W i n σ' H') ?_ m0 ⟨0,σ,H2,I2,st2,λb hb=>(f2 b hb).1,w0⟩;rintro n s3 ⟨i,σ3,H3,I3,st3,fr3,w3⟩
 rcases turn i n σ3 H3 w3 with⟨stop,qn⟩|⟨go,N,hN,step⟩
 ·refine CQ hp (thn (T.done X rfl rfl rfl hc i pins s3 σ3 H3 X.xe I3 (stat fr3) st3 stop) λr s4⟨hr,I4⟩=>?_);subst hr;exact GI ⟨σ3,H3,I4,qn⟩
 ·refine CQ hp (thn (T.item X rfl rfl rfl hc i pins s3 σ3 H3 X.xe I3 (stat fr3) st3 go) λr s4⟨u,hr,h4⟩=>?_);subst hr;refine CQ hp (thn h4 λ_ s5 z15=>?_);obtain⟨x,H5,I5,r5,y5,st5,fr5⟩:=z15;have I5':=I5.pinned (stat fr5) (T.obj _ _ st5);refine CQ hp (thn (hg _ s5 σ3 H5 x u _ I5' r5 (step x H5 y5)) λ_ s6 z16=>?_);obtain⟨σ6,H6,I6,q6⟩:=z16;refine CQ hp (thn (hb _ s6 σ6 H6 _ I6 q6) λf s7 q7=>?_);have again:∀{σ7:St}{H7:Hp},Inv X (pins++O2 fp s5.heap) σ7 H7 s7->N σ7 H7->∃m,m<n/\∃i σ' H',Inv X pins σ' H' s7/\tn i s7.heap/\(∀b∈fp,H' b=AE)/\W i m σ' H':=λ{σ7 H7}I7 n7=>by
   obtain⟨m',hm,w7⟩:=hN σ7 H7 n7;refine⟨m',hm,i+1,σ7,H7,I7.unpinned,T.keep _ _ _ st5 λb hb o e=>(I7.pin (b,o) (BD _ (BD _ (R7 hb e)))).1,λb hb=>?_,w7⟩;obtain⟨o,e,d⟩:=T.obj _ _ st5 b hb;exact(I7.pin (b,o) (BD _ (BD _ (R7 hb e)))).2.1
  cases f with
  |next=>obtain⟨σ7,H7,I7,n7⟩:=q7;exact again I7 n7
  |cont=>obtain⟨σ7,H7,I7,n7⟩:=q7;exact again I7 n7
  |brk=>obtain⟨σ7,H7,I7,q7⟩:=q7;exact⟨σ7,H7,I7.unpinned,q7⟩
  |ret v=>obtain⟨x7,σ7,H7,I7,r7,q7⟩:=q7;exact⟨x7,σ7,H7,I7.unpinned,r7,q7⟩
end
end L2
namespace L2
open PySem PySem.Spec PyProof.Rows
variable{op:Dc}
@[reducible]noncomputable def R2:=V->V->Hp->VK->Prop
variable{r:R2}
abbrev OpR(X:Cx)(f:AF->AF->Sem AF)(r:R2):Prop:=
 ∀(pins:List (AM×Obj))(s:AK)(σ:St)(H:Hp)(x y:V)(v u:AF)(Q:VK),Inv X pins σ H s->c9 x v->c9 y u->r x y H Q ->
  AU (model X.prog X.w) X.A (f v u) (EP X pins σ Q) X.xe s
abbrev UnR(X:Cx)(f:AF->Sem AF)(r:V->Hp->VK->Prop):Prop:=
 ∀(pins:List (AM×Obj))(s:AK)(σ:St)(H:Hp)(x:V)(v:AF)(Q:VK),Inv X pins σ H s->c9 x v->r x H Q ->
  AU (model X.prog X.w) X.A (f v) (EP X pins σ Q) X.xe s
abbrev u1(X:Cx)(f:AF)(r:List V->Hp->VK->Prop):Prop:=
 ∀(pins:List (AM×Obj))(s:AK)(σ:St)(H:Hp)(xs:List V)(us:List AF)(Q:VK),Inv X pins σ H s->c7 xs us->r xs H Q ->
  AU (model X.prog X.w) X.A (call f us) (EP X pins σ Q) X.xe s
abbrev tOp(r:R2)(ta tb:TE):TE:=λσ H Q=>ta σ H λx H1=>tb σ H1 λy H2=>r x y H2 Q
abbrev tUn(r:V->Hp->VK->Prop)(ta:TE):TE:=λσ H Q=>ta σ H λx H1=>r x H1 Q
abbrev rI(C:Int->Int->Prop)(g:Int->Int->V):R2:=λx y H Q=>∃i j,x=.int i/\y=.int j/\C i j/\Q (g i j) H
abbrev rI0(g:Int->Int->V):R2:=λx y H Q=>∃i j,x=.int i/\y=.int j/\Q (g i j) H
abbrev rU(g:Int->V):V->Hp->VK->Prop:=λx H Q=>∃i,x=.int i/\Q (g i) H
section
variable {X:Cx} {a b c:AQ} {ta tb tc:TE} {pos:Pos}
def af5(ha:PE X a ta)(hb:PE X b tb){pins:List (AM×Obj)}{s:AK}{σ:St}{H:Hp}{R:V->V->Hp->Prop}(I:Inv X pins σ H s)
  (h:ta σ H λx H1=>tb σ H1 λy H2=>R x y H2) {Q:AF->AK->Prop} {f:AF->AF->Sem AF}
  (hf:∀v u s2 x y H2,Inv X pins σ H2 s2->c9 x v->c9 y u->R x y H2->AU (model X.prog X.w) X.A (f v u) Q X.xe s2) :
  AU (model X.prog X.w) X.A (eval a X.env) (λv s₁=>AU (model X.prog X.w) X.A (eval b X.env) (λu s₂=>AU (model X.prog X.w) X.A (f v u) Q X.xe s₂) X.xe s₁) X.xe s:=by
 refine thn (ha pins s σ H _ I h) λv s1 z17=>?_;obtain⟨x,H1,I1,r1,q1⟩:=z17;refine thn (hb pins s1 σ H1 _ I1 q1) λu s2 z18=>?_;obtain⟨y,H2,I2,r2,q2⟩:=z18;exact hf v u s2 x y H2 I2 r1 r2 q2
def C7{op:EF}(ho:OpR X (CS op) r)(ha:PE X a ta)(hb:PE X b tb):PE X (.BinOp a op b pos) (tOp r ta tb):=by
 intro pins s σ H Q I h;exact wpAny_BinOp (af5 ha hb I h λv u s2 x y H2 I2 rx ry q=>ho pins s2 σ H2 x y v u Q I2 rx ry q)
def ch1{op:UnaryOp}{r:V->Hp->VK->Prop}(ho:UnR X (unaryOp op) r)(ha:PE X a ta):PE X (.UnaryOp op a pos) (tUn r ta):=by
 intro pins s σ H Q I h;exact UnaryOp_ (thn (ha pins s σ H _ I h) λv s1⟨x,H1,I1,r1,q1⟩=>ho pins s1 σ H1 x v Q I1 r1 q1)
def opI{f:AF->AF->Sem AF}{C:Int->Int->Prop}{g:Int->Int->Int}
  (rule:∀(i j:Int)(t u:Tok)(s:AK)(Q:AF->AK->Prop)(E:AF->AK->Prop),C i j->Q (.int (g i j) s.toks) {s with toks:=s.toks+1}->AU (model X.prog X.w) X.A (f (.int i t) (.int j u)) Q E s) :
  OpR X f (rI C λi j=>.int (g i j)):=by
 intro pins s σ H x y v u Q I rx ry h;obtain⟨i,j,rfl,rfl,hc,q⟩:=h;obtain⟨t,rfl⟩:=rx;obtain⟨t',rfl⟩:=ry;exact rule i j t t' s _ _ hc ⟨.int (g i j),H,I.tok _,⟨_,rfl⟩,q⟩
def bf3{f:AF->AF->Sem AF}{g:Int->Int->Int}
  (rule:∀(i j:Int)(t u:Tok)(s:AK)(Q:AF->AK->Prop)(E:AF->AK->Prop),Q (.int (g i j) s.toks) {s with toks:=s.toks+1}->AU (model X.prog X.w) X.A (f (.int i t) (.int j u)) Q E s) :
  OpR X f (rI0 λi j=>.int (g i j)):=by
 intro pins s σ H x y v u Q I rx ry h;obtain⟨i,j,rfl,rfl,q⟩:=h;obtain⟨t,rfl⟩:=rx;obtain⟨t',rfl⟩:=ry;exact rule i j t t' s _ _ ⟨.int (g i j),H,I.tok _,⟨_,rfl⟩,q⟩
def V5{f:AF->AF->Sem AF}{g:Int->Int->Bool}
  (rule:∀(i j:Int)(t u:Tok)(s:AK)(Q:AF->AK->Prop)(E:AF->AK->Prop),Q (.bool (g i j)) s->AU (model X.prog X.w) X.A (f (.int i t) (.int j u)) Q E s) :
  OpR X f (rI0 λi j=>.bl (g i j)):=by
 intro pins s σ H x y v u Q I rx ry h;obtain⟨i,j,rfl,rfl,q⟩:=h;obtain⟨t,rfl⟩:=rx;obtain⟨t',rfl⟩:=ry;exact rule i j t t' s _ _ ⟨.bl (g i j),H,I,rfl,q⟩
abbrev af4(i j:Int):Prop:=0<=j/\j<=1000000/\i.natAbs<2^64
abbrev ag1(i j:Int):Prop:=(-(2^64)<i/\i<2^64)\/(-(2^64)<j/\j<2^64)
def ag1.ok{i j:Int}(h:ag1 i j):Jg i j:=by
 rcases h with⟨h1,h2⟩|⟨h1,h2⟩
 ·exact .of_left (intBits_le_64 h1 h2)
 ·exact .of_right (intBits_le_64 h1 h2)
def ce0:OpR X (CS .Add) (rI0 λi j=>.int (i+j)):=bf3 λ_ _ _ _ _ _ _ q=>add_int q
def b68:OpR X (CS .Sub) (rI0 λi j=>.int (i-j)):=bf3 λ_ _ _ _ _ _ _ q=>sub_int q
def b70:OpR X (CS .Mod) (rI (λ_ j=>0<j) λi j=>.int (i % j)):=opI λi j _ _ _ _ _ hc q=>by
 have h1:(0:Int)<j:=hc;exact mod_int' ⋯ (by rw[Int.fmod_eq_emod_of_nonneg i ⋯];exact q)
def cb9:OpR X (CS .Pow) (rI af4 λi j=>.int (i^j.toNat)):=opI λ_ _ _ _ _ _ _ hc q=>pow_int_small hc.1 hc.2.1 hc.2.2 q
def unI{f:AF->Sem AF}{g:Int->Int}
  (rule:∀(i:Int)(t:Tok)(s:AK)(Q:AF->AK->Prop)(E:AF->AK->Prop),Q (.int (g i) s.toks) {s with toks:=s.toks+1}->AU (model X.prog X.w) X.A (f (.int i t)) Q E s) :
  UnR X f (rU λi=>.int (g i)):=by
 intro pins s σ H x v Q I rx h;obtain⟨i,rfl,q⟩:=h;obtain⟨t,rfl⟩:=rx;exact rule i t s _ _ ⟨.int (g i),H,I.tok _,⟨_,rfl⟩,q⟩
def b77:UnR X (unaryOp .USub) (rU λi=>.int (-i)):=unI λ_ _ _ _ _ q=>neg_int q
end
section
variable {X:Cx} {a b c:AQ} {ta tb tc:TE} {pos:Pos}
def av2{pins:List (AM×Obj)}{σ:St}{H:Hp}{s:AK}{Q:VK}{k k':Bool}(I:Inv X pins σ H s)(q:Q (.bl k) H)(e:k=k'):EP X pins σ Q (.bool k') s:=by
 subst e;exact⟨.bl k,H,I,rfl,q⟩
def ch5:OpR X (Bb .Lt) (rI0 λi j=>.bl (AB (i<j))):=V5 λ_ _ _ _ _ _ _ q=>lt_int q
def cj0:OpR X (Bb .LtE) (rI0 λi j=>.bl (AB (i<=j))):=V5 λ_ _ _ _ _ _ _ q=>le_int q
def cg5:OpR X (Bb .Gt) (rI0 λi j=>.bl (AB (j<i))):=V5 λ_ _ _ _ _ _ _ q=>gt_int q
def cj6:OpR X (Bb .GtE) (rI0 λi j=>.bl (AB (j<=i))):=V5 λ_ _ _ _ _ _ _ q=>ge_int q
def bq5:OpR X (Bb .In) (λx y H Q=>∃i j,x=.str i/\y=.str j/\Q (.bl (!(FK j i 0 j.length 1).isEmpty)) H):=by
 intro pins s σ H x y v u Q I rx ry h;obtain⟨i,j,rfl,rfl,q⟩:=h;obtain⟨t,rfl⟩:=rx;obtain⟨t',rfl⟩:=ry;exact in_str (av2 I q rfl)
def bj4:OpR X (Bb .NotIn) (λx y H Q=>∃i j,x=.str i/\y=.str j/\Q (.bl (!(!(FK j i 0 j.length 1).isEmpty))) H):=by
 intro pins s σ H x y v u Q I rx ry h;obtain⟨i,j,rfl,rfl,q⟩:=h;obtain⟨t,rfl⟩:=rx;obtain⟨t',rfl⟩:=ry;exact notIn_str (av2 I q rfl)
def OpR.or{f:AF->AF->Sem AF}{r':R2}(h:OpR X f r)(h':OpR X f r'):OpR X f (λx y H Q=>r x y H Q\/r' x y H Q):=by
 intro pins s σ H x y v u Q I rx ry q
 rcases q with q|q
 ·exact h pins s σ H x y v u Q I rx ry q
 ·exact h' pins s σ H x y v u Q I rx ry q
def co8(b:AQ)(h:op≠.In:=by decide)(h2:op≠.NotIn:=by decide):Bw op b=AG:=by
 have e1:(op==CmpOp.In)=AG:=by cases op<;>first|rfl|exact absurd rfl h
 have e2:(op==Dd)=AG:=by cases op<;>first|rfl|exact absurd rfl h2
 cases b<;>simp[Bw,e1,e2]
def ar9(ho:OpR X (Bb op) r)(ha:PE X a ta)(hb:PE X b tb)(hm:Bw op b=AG):PE X (.Compare a [op] [b] pos) (tOp r ta tb):=by
 intro pins s σ H Q I h;exact Jf (af5 ha hb I h λv u s2 x y H2 I2 rx ry q=>ho pins s2 σ H2 x y v u Q I2 rx ry q) hm
abbrev cg0(t:TE):TT:=λσ H Q=>t σ H λx H'=>∃k,x=.bl k/\Q k H'
def aq1(ho:OpR X (Bb op) r)(ha:PE X a ta)(hb:PE X b tb)(hm:Bw op b=AG):PT X (.Compare a [op] [b] pos) (cg0 (tOp r ta tb)):=by
 intro pins s σ H Q I h;refine Hb (thn (ha pins s σ H _ I h) λv s1⟨x,H1,I1,r1,q1⟩=>thn (hb pins s1 σ H1 _ I1 q1) λu s2⟨y,H2,I2,r2,q2⟩=>
  thn (ho pins s2 σ H2 x y v u _ I2 r1 r2 q2) λc s3⟨z,H3,I3,r3,k,e,q3⟩=>?_) hm
 subst e;cases r3;exact Bf ⟨H3,I3,q3⟩
def K8:(sizeLine:Nat)<2^63:=by rw[Eh];decide
def bn3:OpR X (CS .Add) (λx y H Q=>∃i j,x=.str i/\y=.str j/\i.length+j.length<=sizeLine/\Q (.str (i++j)) H):=by
 intro pins s σ H x y v u Q I rx ry h;obtain⟨i,j,rfl,rfl,hz,q⟩:=h;obtain⟨t,rfl⟩:=rx;obtain⟨t',rfl⟩:=ry;exact add_str (λt' tk=>⟨.str (i++j),H,I.tok _,⟨_,rfl⟩,q⟩) hz
def A7{x:V}{us:List AF}(r:c7 [x] us):∃u,us=[u]/\c9 x u:=by
 cases r with
 |cons r1 r2=>cases r2;exact⟨_,rfl,r1⟩
def cg4{x y:V}{us:List AF}(r:c7 [x,y] us):∃u w',us=[u,w']/\c9 x u/\c9 y w':=by
 cases r with
 |cons r1 r2=>
  cases r2 with
  |cons r3 r4=>cases r4;exact⟨_,_,rfl,r1,r3⟩
def bs5:u1 X (.builtin "abs") (λxs H Q=>∃i,xs=[.int i]/\Q (.int (if i<0 then -i else i)) H):=by
 intro pins s σ H xs us Q I r h;obtain⟨i,rfl,q⟩:=h;obtain⟨u,rfl,t,rfl⟩:=A7 r;exact call_abs_int λu tk=>⟨.int (if i<0 then -i else i),H,I.tok _,⟨_,rfl⟩,q⟩
def bo7(hc:X.calm=AC):u1 X (.builtin "max") (λxs H Q=>∃i j,xs=[.int i,.int j]/\Q (.int (if j>i then j else i)) H):=by
 intro pins s σ H xs us Q I r h;obtain⟨i,j,rfl,q⟩:=h;obtain⟨u,w',rfl,⟨t,rfl⟩,⟨t',rfl⟩⟩:=cg4 r;refine max_two_ints (I.ok.hd hc) λh' tk k=>⟨_,H,I.kept k,?_,q⟩
 by_cases hj:j>i
 ·rw[if_pos hj,if_pos hj];exact⟨_,rfl⟩
 ·rw[if_neg hj,if_neg hj];exact⟨_,rfl⟩
def bq4:u1 X (.type "int") (λxs H Q=>(∃i,xs=[.int i]/\Q (.int i) H)\/∃k,xs=[.bl k]/\Q (.int (if k then 1 else 0)) H):=by
 intro pins s σ H xs us Q I r h
 rcases h with⟨i,rfl,q⟩|⟨k,rfl,q⟩
 ·obtain⟨u,rfl,t,rfl⟩:=A7 r;exact call_int_int ⟨.int i,H,I,⟨_,rfl⟩,q⟩
 ·obtain⟨u,rfl,r1⟩:=A7 r;cases r1;exact call_int_bool ⟨.int (if k then 1 else 0),H,I.tok _,⟨_,rfl⟩,q⟩
def bj2:u1 X (.type "str") (λxs H Q=>∃i,xs=[.int i]/\i.natAbs.log2<1920/\Q (.str (DE i)) H):=by
 intro pins s σ H xs us Q I r h;obtain⟨i,rfl,hz,q⟩:=h;obtain⟨u,rfl,t,rfl⟩:=A7 r;exact PySem.P.str_of_int hz ⟨.str _,H,I.tok _,⟨_,rfl⟩,q⟩
end
end L2
namespace L2
open PySem PySem.Spec PyProof.Rows
variable{dx C:AM}{mA:Str->Option AF}{w:BA}{A:BO}{f:Str}{Q:AF->AK->Prop}{u:AF}{H:Hp}{X:Cx}
structure ObjM(h:Az)(x dx C:AM)(mA:Str->Option AF):Prop where
 obj:h.get? x=AA (Db C dx)
 ns:h.Ns1 dx mA
 ne:dx≠x
def bn8{h:Az}(n:h.Ns1 dx mA):∃od,h.get? dx=AA od/\∀name,HH name od=AA (mA name):=by
 obtain⟨o,es,ep,ho,hd,hk,_,hm⟩:=n;refine⟨o,ho,λname=>?_⟩;have e:=hm name;unfold nsFind findBy at e;rw[<-Array.find?_toList]at e;unfold HH;rw[hd];dsimp only
 split
 ·rename_i y q;rw[q]at e;exact congrArg AA e
 ·rename_i q;rw[q]at e;have a:es.toList.any (·.refKey)=AG:=by
   rw[Et];intro y hy;obtain⟨z,t,hkey⟩:=hk y (Array.mem_toList_iff.mp hy);simp[DictEntry.refKey,hkey]
  have a':¬es.toList.any (·.refKey)=AC:=by rw[a];exact AL
  rw[if_neg a'];exact congrArg AA e
def ObjM.look{h:Az}{x:AM}(I:ObjM h x dx C mA):∃od,W.InstAt h x (Db C dx) C (AA od)/\∀name,HH name od=AA (mA name):=
 let⟨od,ho,hl⟩:=bn8 I.ns
 ⟨od,⟨I.obj,rfl,rfl,ho⟩,hl⟩
section
variable {prog:Ag} {E:AF->AK->Prop} {s:AK} {K:AR} {x f:AM} {name:Str} {v:AF}
def b23{expr:Bool}(X:K.In s.heap)(I:ObjM s.heap x dx C mA)(hg:Ez K C name=AC)(hh:Fp K C=AC)
  (ha:BS K (.ref C) name=AA AE) (hv:mA name=AA v) (hv':W.handedIn v=AC) (h:Q v {s with toks:=s.toks+1}) :
  AU (model prog w) A (getAttr (.ref x) name expr) Q E s:=by
 obtain⟨od,J,hl⟩:=I.look;exact W.get_value X J (GZ hg).1 (W.findObj_own hh ha rfl (by rw[hl,hv])) hv' h
def br4{pl:Sem Bool}{Q:AF×List AF->AK->Prop}(X:K.In s.heap)(I:ObjM s.heap x dx C mA)(hg:Ez K C name=AC)
  (hf:BS K (.ref C) name=AA (AA (.ref f))) (ht:JE K (.ref f)=AC) (hv:mA name=AE) (h:Q (.ref f,[.ref x]) s) :
  AU (model prog w) A (JF (.ref x) name pl) Q E s:=by
 obtain⟨od,J,hl⟩:=I.look;exact W.method_fn X J (GZ hg).1 (GZ hg).2 hf (beq_iff_eq.mp ht) (by show(HH name od).map (·.isSome)=AA AG;rw[hl,hv];rfl) h
def b09{ns:List Str}{Q:Unit->AK->Prop}(X:K.In s.heap)(I:ObjM s.heap x dx C mA)
  (hs:BS K (.ref C) "__setattr__"=AA (AA (.builtin "object.__setattr__"))) (hp:HJ K C=AC) (ht:IV K C name=AA AE) (hh:Fp K C=AC)
  (hw:PySem.Within mA ns) (hsz:ns.length<=sizeLine)
  (h:∀h',ObjM h' x dx C (λy=>if y=name then AA v else mA y)->CG dx s.heap h'->Q () {s with heap:=h',toks:=s.toks+2}) :
  AU (model prog w) A (setAttr (.ref x) name v) Q E s:=by
 obtain⟨od,J,hl⟩:=I.look;refine W.set_plain X J hs (W.osa_open (s:={s with toks:=s.toks+1}) (r:=AE) X J hp ht λb=>?_);obtain⟨cd,hc,hd'⟩:=W.any_some hh;have hx:s.heap.get? x=AA ⟨.ref C,AA dx,.plain,#[]⟩:=I.obj;refine AH (AN (AH (AH (wpAny_loadPart hx (AH (W.Looks.here (s:={s with toks:=s.toks+1}) (W.looks_clsIn X hc) ?_))))));rw[hd'];refine AN (a:=AA dx) (AH (AN (AH ?_)));refine wpAny_nsSet1 (s:={s with toks:=s.toks+1}) I.ns λh' hn2 hs2=>?_;obtain⟨oD,esD,epD,hoD,hdD,hcD⟩:=hn2.count (PySem.Within.cons name v hw);refine AH (wpAny_lookBehind hoD (by rw[hdD];exact pastItsLine_dict (Al hcD (by rw[AI];lia))) ?_);exact AN (h _ ⟨(hs2.2 _ (BK I.ne)).trans I.obj,hn2,I.ne⟩ hs2)
def bw5{R:Ga->AK->Prop}{vs:List AF}{kw:List (Str×AF)}(X:K.In s.heap)(hm:Gi K C=AC)
  (hi:BS K (.ref C) "__init__"=AA (AA (.ref f))) (hf:W.typeIn K (.ref f)=AA (.type "function"))
  (h:DN (model prog w) (A.under (.builtin "type.__call__" ⟨.ref C::vs,kw⟩)) (.call (.ref f) ⟨.ref (s.heap.objs.size+1)::vs,kw⟩) (W.InitBack (s.heap.objs.size+1) R)
   {s with heap:=(s.heap.push CY).push (Db C s.heap.objs.size)}) :
  DN (model prog w) A (.call (.ref C) ⟨vs,kw⟩) R s:=by
 obtain⟨hh,g,d,t,os⟩:=s;exact W.make_core (W.makes_of X hm) (W.looks_findIn X hi) (λself=>W.bind_fn X self hf) (.inl rfl) h
end
abbrev o0(f:Str)(v:V):List (Str×V)->List (Str×V)
 |[]=>[(f,v)]
 |(g,x)::r=>if g=f then(g,v)::r else(g,x)::o0 f v r
theorem ai1(f g:Str)(v:V):∀fs:List (Str×V),(o0 f v fs).lookup g=if g=f then AA v else fs.lookup g
 |[]=>by
  show Ck g [(f,v)]=_
  by_cases h:g=f
  ·have hb:(g==f)=AC:=beq_iff_eq.mpr h;simp only[Ck,hb,if_pos h]
  ·have hb:(g==f)=AG:=beq_eq_false_iff_ne.mpr h;simp only[Ck,hb,if_neg h]
 |(k,x)::r=>by
  have ih:=ai1 f g v r;rw[show o0 f v ((k,x)::r)=(if k=f then(k,v)::r else(k,x)::o0 f v r) from rfl]
  by_cases hk:k=f
  ·rw[if_pos hk]
   by_cases h:g=k
   ·have hb:(g==k)=AC:=beq_iff_eq.mpr h;simp only[Ck,hb,if_pos (h.trans hk)]
   ·have hb:(g==k)=AG:=beq_eq_false_iff_ne.mpr h;simp only[Ck,hb,if_neg (λe:g=f=>h (e.trans hk.symm))]
  ·rw[if_neg hk]
   by_cases h:g=k
   ·have hb:(g==k)=AC:=beq_iff_eq.mpr h;simp only[Ck,hb,if_neg (λe:g=f=>hk (h.symm.trans e))]
   ·have hb:(g==k)=AG:=beq_eq_false_iff_ne.mpr h;simp only[Ck,hb];exact ih
theorem aa7(f:Str)(v:V):∀fs:List (Str×V),f∈(o0 f v fs).map (·.1)/\∀g,g∈fs.map (·.1)->g∈(o0 f v fs).map (·.1)
 |[]=>⟨by simp[o0],λg h=>by simp at h⟩
 |(k,x)::r=>by
  obtain⟨i1,i2⟩:=aa7 f v r;rw[show o0 f v ((k,x)::r)=(if k=f then(k,v)::r else(k,x)::o0 f v r) from rfl]
  by_cases hk:k=f
  ·rw[if_pos hk];subst hk;exact⟨∎,λg h=>by simpa using h⟩
  ·rw[if_neg hk];refine⟨?_,λg h=>?_⟩
   ·rw[AY];exact BJ _ i1
   ·rw[AY]at h ⊢
    rcases AT.mp h with e|e
    ·exact mem_cons.mpr (.inl e)
    ·exact BJ _ (i2 g e)
theorem ah7(f:Str)(v:V):∀fs:List (Str×V),(o0 f v fs).length<=fs.length+1
 |[]=>by simp[o0]
 |(k,x)::r=>by
  have ih:=ah7 f v r;rw[show o0 f v ((k,x)::r)=(if k=f then(k,v)::r else(k,x)::o0 f v r) from rfl]
  by_cases hk:k=f
  ·rw[if_pos hk,AI,AI];lia
  ·rw[if_neg hk,AI,AI];lia
def o8.some_of{v:V}{o:Option AF}(r:o8 (AA v) o):∃u,o=AA u/\c9 v u:=by
 cases o with
 |none=>exact(show False from r).elim
 |some u=>exact⟨u,rfl,r⟩
def o8.none_of{o:Option AF}(r:o8 AE o):o=AE:=by
 cases o with
 |none=>rfl
 |some u=>exact(show False from r).elim
def bo9{v:V}(r:c9 v u):W.handedIn u=AC:=by
 cases v with
 |non=>cases(show u=Bd from r);rfl
 |bl b=>cases(show u=Fa b from r);rfl
 |int i=>obtain⟨t,e⟩:=(show ∃t,u=Dl i t from r);cases e;rfl
 |str x=>obtain⟨t,e⟩:=(show ∃t,u=Dm x t from r);cases e;rfl
 |byt b=>obtain⟨t,e⟩:=(show ∃t,u=Ih b t from r);cases e;rfl
 |flt b=>obtain⟨t,e⟩:=(show ∃t,u=GV b t from r);cases e;rfl
 |ref a=>cases(show u=An a from r);rfl
 |ty n=>cases(show u=CP n from r);rfl
section
variable {P:Ag} {H':Hp} {h h':Az} {a:AM} {fs fs':List (Str×V)}
def S9(hok:HOk P w H h)(e:H a=AA (.ins C dx fs)):∃mA,ObjM h a dx C mA/\(∀f,o8 (fs.lookup f) (mA f))/\PySem.Within mA (fs.map (·.1))/\fs.length<=1000/\H dx=AA (.own a):=by
 obtain⟨d,z,ne,ob,mA,n,r,q⟩:=(show j2 P w H h a (.ins C dx fs) from hok a _ e);exact⟨mA,⟨ob,n,ne⟩,r,q,z,d⟩
end
structure Cls(K:AR)(C:AM):Prop where
 pg:Ez K C Str.empty=AC
 hd:Fp K C=AC
 po:HJ K C=AC
 sa:BS K (.ref C) "__setattr__"=AA (AA (.builtin "object.__setattr__"))
def Cls.get{K:AR}(c:Cls K C)(f:Str):Ez K C f=AC:=c.pg
abbrev y8(K:AR)(C:AM)(f:Str):Prop:=BS K (.ref C) f=AA AE
def y8.taker{K:AR}(n:y8 K C f):IV K C f=AA AE:=by
 unfold IV;rw[show BS K (.ref C) f=AA AE from n];rfl
structure Meth(K:AR)(C:AM)(m:Str)(f:AM):Prop where
 at_:BS K (.ref C) m=AA (AA (.ref f))
 fn:JE K (.ref f)=AC
 kp:CA K (.ref f)=AC
section
variable {pins:List (AM×Obj)} {σ:St} {s:AK} {a:AM} {fs:List (Str×V)} {v:V} {E:AF->AK->Prop}
def bl3{b:Bool}(I:Inv X pins σ H s)(e:H a=AA (.ins C dx fs))(c:Cls X.K C)(n:y8 X.K C f)(l:fs.lookup f=AA v)
  (h:∀u s',Inv X pins σ H s'->c9 v u->Q u s'):AU (model X.prog X.w) A (getAttr (.ref a) f b) Q E s:=by
 obtain⟨mA,O,r,_,_,_⟩:=S9 I.hok e;obtain⟨u,hu,ru⟩:=o8.some_of (v:=v) (o:=mA f) (by rw[<-l];exact r f);exact b23 I.kIn O (c.get f) c.hd n hu (bo9 ru) (h u _ (I.tok _) ru)
def ai9{m:Str}{g:AM}{pl:Sem Bool}{Q:AF×List AF->AK->Prop}(I:Inv X pins σ H s)(e:H a=AA (.ins C dx fs))(c:Cls X.K C)(k:Meth X.K C m g)(l:fs.lookup m=AE)
  (h:Q (.ref g,[.ref a]) s):AU (model X.prog X.w) A (JF (.ref a) m pl) Q E s:=by
 obtain⟨mA,O,r,_,_,_⟩:=S9 I.hok e;have hn:mA m=AE:=o8.none_of (by rw[<-l];exact r m);exact br4 I.kIn O (c.get m) k.at_ k.fn hn h
def bn0{y:V}{Q:Unit->AK->Prop}(I:Inv X pins σ H s)(e:H a=AA (.ins C dx fs))(c:Cls X.K C)(n:y8 X.K C f)(hl:fs.length<1000)(ry:c9 y u)
  (h:∀s',Inv X pins σ (upd H a (.ins C dx (o0 f y fs))) s'->Q () s'):AU (model X.prog X.w) A (setAttr (.ref a) f u) Q E s:=by
 obtain⟨mA,O,r,wi,_,ho⟩:=S9 I.hok e;have hz:(fs.map (·.1)).length<=sizeLine:=by rw[Aj,Eh];lia
 refine b09 I.kIn O c.sa c.po n.taker c.hd wi hz λh' O' sb=>h _ ?_;have hd:∃o,h'.get? dx=AA o:=let⟨o,_,_,e',_⟩:=O'.ns;⟨o,e'⟩;refine I.write (x:=a) (e:=dx) (by rw[e];exact CH) (.inr ho) (λb q hb z=>(sb.2 b hb).trans z) hd ?_;refine⟨by rw[e9 O.ne];exact ho,?_,O.ne,O'.obj,_,O'.ns,λg=>?_,λg hg=>?_⟩
 ·have:=ah7 f y fs;lia
 ·show o8 ((o0 f y fs).lookup g) (if g=f then AA u else mA g);rw[ai1]
  by_cases q:g=f
  ·rw[if_pos q,if_pos q];exact ry
  ·rw[if_neg q,if_neg q];exact r g
 ·by_cases q:g=f
  ·rw[q];exact(aa7 f y fs).1
  ·refine(aa7 f y fs).2 g (wi g λz=>hg ?_);show(if g=f then AA u else mA g)=AE;rw[if_neg q];exact z
def Inv.made(I:Inv X pins σ H s):Inv X pins σ (upd (upd H s.heap.objs.size (.own (s.heap.objs.size+1))) (s.heap.objs.size+1) (.ins C s.heap.objs.size []))
  {s with heap:=(s.heap.push CY).push (Db C s.heap.objs.size)}:=by
 have e1:(s.heap.push CY).get? s.heap.objs.size=AA CY:=Au s.heap rfl;have e2:((s.heap.push CY).push (Db C s.heap.objs.size)).get? (s.heap.objs.size+1)=AA (Db C s.heap.objs.size):=by
  have:=Au (s.heap.push CY) (o:=Db C s.heap.objs.size) rfl
  rwa [Dh]at this
 have e3:(s.heap.push CY).Ns s.heap.objs.size (λ_=>AE):=⟨CY,#[],_,e1,rfl,(λe he=>absurd he ∎),λ_=>rfl⟩;have I1:=I.laid (a:=s.heap.objs.size) (o:=.own (s.heap.objs.size+1)) (h':=s.heap.push CY) (t':=s.toks) (λb u q=>AV _ q) (Af _) ⟨_,e1⟩;refine I1.laid (a:=s.heap.objs.size+1) (o:=.ins C s.heap.objs.size []) (t':=s.toks) (λb u q=>AV _ q) (JG (Dh _ _)) ?_;have ne:s.heap.objs.size≠s.heap.objs.size+1:=BZ (EJ _);refine⟨by rw[e9 ne,o9],Ar _,ne,e2,λ_=>AE,(Heap.Ns1.of_empty e3).at λo q=>AV _ q,λ_=>CH,λy hy=>absurd rfl hy⟩
def bx2{prog:Ag}{env:Env}{e:AQ}{pos:Pos}{s:AK}(hb:Bx e f env (eval e env)=eval e env)
  (h:AU (model prog w) A (eval e env) (λo s₁=>AU (model prog w) A (getAttr o f AC) Q E s₁) E s):AU (model prog w) A (eval (.Attribute e f pos) env) Q E s:=
 Attribute_any_ h (by rw[arm_eval_Attribute,hb])
end
abbrev cl0(K:AR)(ta:TE)(f:Str):TE:=λσ H Q=>ta σ H λx H1=>∃a C dx fs v,x=.ref a/\H1 a=AA (.ins C dx fs)/\Cls K C/\y8 K C f/\fs.lookup f=AA v/\Q v H1
abbrev co7(K:AR)(ta tv:TE)(f:Str):TS:=λD σ H=>tv σ H λy H1=>ta σ H1 λx H2=>∃a C dx fs,x=.ref a/\H2 a=AA (.ins C dx fs)/\Cls K C/\y8 K C f/\fs.length<1000 /\
 D.nx σ (upd H2 a (.ins C dx (o0 f y fs)))
section
variable {o e value:AQ} {pos pos' tpos:Pos} {ta tv:TE}
def ce1(he:PE X e ta)(hb:Bx e f X.env (eval e X.env)=eval e X.env):PE X (.Attribute e f pos) (cl0 X.K ta f):=by
 intro pins s σ H Q I h;refine bx2 hb (thn (he pins s σ H _ I h) λu s1 z19=>?_);obtain⟨x,H1,I1,rx,a,C,dx,fs,v,ex,ea,c,n,l,q⟩:=z19;subst ex;obtain rfl:u=An a:=rx;exact bl3 I1 ea c n l λu' s2 I2 ru=>⟨v,H1,I2,ru,q⟩
def cd6(ha:PE X o ta)(hv:PE X value tv)(hs:Cu value (AA (.Attribute o f pos')) pos.line X.env=pure AG):PS X (.Assign [.Attribute o f pos'] value pos) (co7 X.K ta tv f):=by
 intro pins s σ H D I h;refine plainObj_wpAny_Assign_Attribute (thn (hv pins s σ H _ I h) λu s1⟨y,H1,I1,ry,q⟩=>thn (ha pins s1 σ H1 _ I1 q) λov s2 z20=>?_) hs;obtain⟨x,H2,I2,rx,a,C,dx,fs,ex,ea,c,n,l,q2⟩:=z20;subst ex;obtain rfl:ov=An a:=rx;exact bn0 I2 ea c n l ry λs3 I3=>⟨σ,_,I3,q2⟩
end
section
variable {pins:List (AM×Obj)} {σ:St} {s:AK} {E:AF->AK->Prop} {c:AF} {b:Bool}
inductive TyOf(K:AR)(H:Hp):V->AF->Prop where
 |non:TyOf K H .non (.type "NoneType")
 |bl (x:Bool):TyOf K H (.bl x) (.type "bool")
 |int (i:Int):TyOf K H (.int i) (.type "int")
 |str (x:Str):TyOf K H (.str x) (.type "str")
 |flt (x:UInt64):TyOf K H (.flt x) (.type "float")
 |lst {a:AM} {xs:List V} (e:H a=AA (.lst xs)):TyOf K H (.ref a) (.type "list")
 |frz {a:AM} {o:Obj} {xs:List V} (e:H a=AA (.frz o (.lst xs))):TyOf K H (.ref a) (.type "list")
 |tup {a:AM} {xs:List V} (e:H a=AA (.tup xs)):TyOf K H (.ref a) (.type "tuple")
 |dK {a:AM} {kvs:List (Key×V)} (e:H a=AA (.dK kvs)):TyOf K H (.ref a) (.type "dict")
 |dT {a:AM} {kvs:List (Am×V)} (e:H a=AA (.dT kvs)):TyOf K H (.ref a) (.type "dict")
 |ins {a C dx:AM} {fs:List (Str×V)} (e:H a=AA (.ins C dx fs)) (cl:Cls K C) (ha:BS K (.ref C) "__class__"=AA (AA (.builtin "object.__class__")))
   (hn:Fq K (.builtin "object.__class__") "__get__"=AA (AA (.builtin "getset_descriptor.__get__"))) (htk:Gj K (.builtin "object.__class__")=AA AC)
   (hm:IG K C (.type "object")=AA AC):TyOf K H (.ref a) (.ref C)
def al4{x:V}{t:AF}(I:Inv X pins σ H s)(rx:c9 x u)(ty:TyOf X.K H x t)(e:CB X.K t c=AA b)(h:∀tk,Q (.bool b) {s with toks:=tk}):
  AU (model X.prog X.w) A (call (.builtin "isinstance") [u,c]) Q E s:=by
 cases ty with
 |non=>cases(show u=Bd from rx);exact CC W.kitx_none I.kIn CH e (λz=>nomatch z) h
 |bl y=>cases(show u=Fa y from rx);exact CC W.kitx_bool I.kIn CH e (λz=>nomatch z) h
 |int i=>obtain⟨t,q⟩:=(show ∃t,u=Dl i t from rx);cases q;exact CC W.kitx_int I.kIn CH e (λz=>nomatch z) h
 |str y=>obtain⟨t,q⟩:=(show ∃t,u=Dm y t from rx);cases q;exact CC W.kitx_str I.kIn CH e (λz=>nomatch z) h
 |flt y=>obtain⟨t,q⟩:=(show ∃t,u=GV y t from rx);cases q;exact CC W.kitx_float I.kIn CH e (λz=>nomatch z) h
 |@lst a xs ea=>
  cases(show u=An a from rx);obtain⟨_,_,n,_,h1⟩:=(show j2 X.prog X.w H s.heap a (.lst xs) from I.hok a _ ea);exact CC W.kitx_list I.kIn ⟨_,h1,rfl⟩ e (λz=>nomatch z) h
 |@frz a ob xs ea=>
  cases(show u=An a from rx);obtain⟨_,_,_,n,_,h1⟩:=(show j2 X.prog X.w H s.heap a (.frz ob (.lst xs)) from I.hok a _ ea);exact CC W.kitx_list I.kIn ⟨_,h1,rfl⟩ e (λz=>nomatch z) h
 |@tup a xs ea=>
  cases(show u=An a from rx);obtain⟨_,_,_,p⟩:=(show j2 X.prog X.w H s.heap a (.tup xs) from I.hok a _ ea);obtain⟨o,h1,h2,_⟩:=p;exact CC Gp I.kIn ⟨o,h1,h2⟩ e (λz=>nomatch z) h
 |@dK a kvs ea=>
  cases(show u=An a from rx);obtain⟨_,_,vs,_,p⟩:=(show j2 X.prog X.w H s.heap a (.dK kvs) from I.hok a _ ea);obtain⟨o,es,ep,h1,h2,_⟩:=p;exact CC W.kitx_dict I.kIn ⟨o,h1,h2.1⟩ e (λz=>nomatch z) h
 |@dT a kvs ea=>
  cases(show u=An a from rx);obtain⟨_,_,xs,_,o,es,ep,h1,h2,_⟩:=(show j2 X.prog X.w H s.heap a (.dT kvs) from I.hok a _ ea);exact CC W.kitx_dict I.kIn ⟨o,h1,h2.1⟩ e (λz=>nomatch z) h
 |@ins a C dx fs ea cl ha hn htk hm=>
  cases(show u=An a from rx);obtain⟨mA,O,_⟩:=S9 I.hok ea;obtain⟨od,J,_⟩:=O.look;exact CC (W.kitx_own (cl.get _) cl.hd ha hn htk hm) I.kIn J e (λz=>nomatch z) h
end
end L2
namespace L2
open PySem PySem.Spec PyProof.Rows
variable{A:BO}{C:AM}{us:List AF}{X:Cx}{H:Hp}{pins:List (AM×Obj)}{σ:St}{Q:VK}{ps:List Str}{x:Str}{kindOf:Str->Option Ei}
structure Room(k:Nat)(A:BO):Prop where
 hd:A.handled=AE
 dp:A.depth+3*k+5<Gb
 un:A.units+16*k+200<CI
theorem Room.deeper{k:Nat}(r:Room (k+1) A)(env:Env):Room k (A.deeper env):=
 ⟨r.hd,by have:=r.dp;show A.depth+1+3*k+5<_;lia,by have:=r.un;show A.units+3+16*k+200<_;lia⟩
def bm8{kw:List (Str×AF)}:(A.under (.builtin "type.__call__" ⟨.ref C::us,kw⟩)).depth=A.depth+1:=by
 first|rfl|simp[GD,Code.weight,Code.isCreation,Code.isGuard,Code.isCaller,JH,GM,guardIds]
def bn4{kw:List (Str×AF)}:(A.under (.builtin "type.__call__" ⟨.ref C::us,kw⟩)).units=A.units+1:=by
 first|rfl|simp[GD,Code.cUnits,JH,GM]
def Room.make{k:Nat}(r:Room (k+1) A)(C:AM)(us:List AF)(kw:List (Str×AF)):Room k (A.under (.builtin "type.__call__" ⟨.ref C::us,kw⟩)):=
 ⟨r.hd,by have:=r.dp;rw[bm8];lia,by have:=r.un;rw[bn4];lia⟩
theorem Room.depth{k:Nat}(r:Room k A):A.depth<Gb:=by have:=r.dp;lia
abbrev V2:TA:=λ_ H Q=>Q [] H
abbrev P6(ta:TE)(tr:TA):TA:=λσ H Q=>ta σ H λx H1=>tr σ H1 λxs H2=>Q (x::xs) H2
section
variable {e:AQ} {es:List AQ} {te:TE} {t:TA} {pos:Pos}
def ad7:PA X [] V2:=λ_ _ _ _ H Q I h=>Ej ⟨[],H,I,.nil,h⟩
def N8(ha:PE X e te)(hr:PA X es t)(hs:Ai (e::es) X.env=(AG,eval e X.env)::Ai es X.env:=by rfl):PA X (e::es) (P6 te t):=by
 intro pos pins s σ H Q I h;rw[hs];show AU _ _ (spliced ((AG,eval e X.env)::Bt pos (Ai es X.env))) _ _ s;refine DU (thn (ha pins s σ H _ I h) λu s1 z21=>?_);obtain⟨x,H1,I1,r1,q1⟩:=z21;exact thn (hr pos pins s1 σ H1 _ I1 q1) λus s2⟨xs,H2,I2,r2,q2⟩=>⟨x::xs,H2,I2,.cons r1 r2,q2⟩
abbrev ck1(t:TA):TE:=λσ H Q=>t σ H λxs H1=>xs.length<=sizeLine/\∀p,H1 p=AE->Q (.ref p) (upd H1 p (.tup xs))
abbrev cn0(t:TA):TE:=λσ H Q=>t σ H λxs H1=>xs.length<=sizeLine/\∀p,H1 p=AE->Q (.ref p) (upd H1 p (.lst xs))
def b87{x1}(h:PA X es t):PE X (.Tuple es x1 pos) (ck1 t):=by
 intro pins s σ H Q I hq;refine wpAny_Tuple_spliced (thn (h pos pins s σ H _ I hq) λus s1⟨xs,H1,I1,r,z,q⟩=>⟨by rw[<-r.length];exact z,?_⟩);have hf:H1 s1.heap.objs.size=AE:=I1.hok.fresh (Af _);refine⟨.ref s1.heap.objs.size,upd H1 s1.heap.objs.size (.tup xs),I1.laid (t':=s1.toks) (λb u e=>AV _ e) (Af _) ?_,rfl,q _ hf⟩;exact⟨z,us,r,v0.new _ _⟩
def b62(h:PA X es t):PE X (.List es pos) (cn0 t):=by
 intro pins s σ H Q I hq;refine wpAny_List_spliced (thn (h pos pins s σ H _ I hq) λus s1⟨xs,H1,I1,r,z,q⟩=>⟨by rw[<-r.length];exact z,?_⟩);have hf:H1 s1.heap.objs.size=AE:=I1.hok.fresh (Af _);refine⟨.ref s1.heap.objs.size,upd H1 s1.heap.objs.size (.lst xs),I1.laid (t':=s1.toks) (λb u e=>AV _ e) (Af _) ?_,rfl,q _ hf⟩;exact⟨z,us,0,r,Au _ rfl⟩
end
@[reducible]noncomputable def Sp:=List V->Hp->VK->XK->Prop
@[reducible]noncomputable def CXT:=List Env->Hp->AK->XK->AF->AK->Prop
structure Env0(P:Ag)(w:BA)(K:AR)(mg:Str->Option AF)(base:Az)(A:BO)(outer:List Env)(s:AK)(H:Hp):Prop where
 frames:A.frames=AA outer
 mod:Mod K mg base
 bs:∀b o,base.get? b=AA o->s.heap.get? b=AA o/\H b=AE
 bsz:base.objs.size<=s.heap.objs.size
 funs:s.heap.FunFrames base outer
 frf:∀b∈frs outer,H b=AE
 hok:HOk P w H s.heap
 bare:Fb s.gens
abbrev CE(outer:List Env)(P:Ag)(w:BA)(H:Hp)(s:AK)(Q:VK)(u:AF)(s':AK):Prop:=
 ∃v H',s'.os=s.os/\Fb s'.gens/\Un (frs outer) [] H H' s.heap s'.heap/\HOk P w H' s'.heap/\c9 v u/\Q v H'
abbrev CR(CX:CXT)(outer:List Env)(P:Ag)(w:BA)(H:Hp)(s:AK)(Q:VK)(E:XK)(r:Ga)(s':AK):Prop:=
 match r with
 |.ok (.ret u)=>CE outer P w H s Q u s'
 |.ok _=>False
 |.error e=>CX outer H s E e s'
structure FnOk(P:Ag)(w:BA)(K:AR)(mg:Str->Option AF)(base:Az)(CX:CXT)(k:Nat)(f:AM)(fd:Bo)(ps:List Str)(sp:Sp):Prop where
 len:∀vs H Q E,sp vs H Q E->vs.length=ps.length
 run:∀(A:BO)(outer:List Env)(s:AK)(H:Hp)(args:Args)(us:List AF)(vs:List V)(Q:VK)(E:XK),Room k A->Env0 P w K mg base A outer s H->BindsTo s fd args (ps.zip us)->c7 vs us->sp vs H Q E ->
  DN (model P w) A (.call (.ref f) args) (CR CX outer P w H s Q E) s
def Env0.make{P:Ag}{w:BA}{K:AR}{mg:Str->Option AF}{base:Az}{outer:List Env}{s:AK}(e:Env0 P w K mg base A outer s H)(C:AM)(us:List AF)(kw:List (Str×AF)):
  Env0 P w K mg base (A.under (.builtin "type.__call__" ⟨.ref C::us,kw⟩)) outer s H:=⟨by first|exact e.frames|(simpa[GD,Code.envs,GM,pushEnvs]using e.frames),e.mod,e.bs,e.bsz,e.funs,e.frf,e.hok,e.bare⟩
section
variable {s s':AK}
def Inv.env0(I:Inv X pins σ H s):Env0 X.prog X.w X.K X.mg X.base X.A X.stack s H:=
 ⟨I.ok.frames,I.ok.mod,I.bs,Al I.ok.bsz I.sz,I.stack,I.stkFree,I.hok,I.bare⟩
def Inv.after{u:AF}(I:Inv X pins σ H s)(h:CE X.stack X.prog X.w H s Q u s'):EP X pins σ Q u s':=by
 obtain⟨v,H',os,bare,un,hok,r,q⟩:=h;obtain⟨hh,g,d,t,os'⟩:=s';obtain rfl:os'=s.os:=os;exact⟨v,H',I.call (h':=hh) (g':=g) (d':=d) (t':=t) (ch:=[]) un hok bare (λb z=>absurd z ∎),r,q⟩
end
abbrev ch6(sp:Sp)(dvs:List V)(E:XK)(t:TA):TE:=λσ H Q=>t σ H λvs H1=>sp (vs++dvs) H1 Q E
abbrev a93(C:AM)(sp:Sp)(dvs:List V)(E:XK)(t:TA):TE:=λσ H Q=>t σ H λvs H1=>∀x dx,H1 x=AE->H1 dx=AE->dx≠x ->
 sp (.ref x::(vs++dvs)) (upd (upd H1 dx (.own x)) x (.ins C dx [])) (λv H2=>v=.non/\Q (.ref x) H2) E
abbrev m8(K:AR)(fd:Bo)(ps:List Str)(ds:List AF):Prop:=
 ∀(s:AK)(us:List AF),K.In s.heap->(us++ds).length=ps.length->BindsTo s fd ⟨us,[]⟩ (ps.zip (us++ds))
def m8.all{K:AR}{fd:Bo}(h:∀us:List AF,us.length=ps.length->Gc fd ⟨us,[]⟩=pure (ps.zip us)):m8 K fd ps []:=λs us _ hl=>by
 rw[BP]at hl ⊢;exact .of_eq (h us hl)
abbrev J6(CX:CXT)(X:Cx)(E:XK):Prop:=∀(pins:List (AM×Obj))(σ:St)(H:Hp)(s:AK)(e:AF)(s':AK),Inv X pins σ H s->CX X.stack H s E e s'->X.xe e s'
section
variable {CX:CXT} {k:Nat} {f:AM} {fd:Bo} {sp:Sp} {dvs:List V} {ds:List AF} {E:XK} {m:Str} {p pos apos:Pos} {e o:AQ} {es:List AQ} {ta:TE} {t:TA}
def N9{s:AK}{vs:List V}(F:FnOk X.prog X.w X.K X.mg X.base CX k f fd ps sp)(hr:Room k X.A)(hb:m8 X.K fd ps ds)(hd:c7 dvs ds)(hx:J6 CX X E)
  (I:Inv X pins σ H s) (r:c7 vs us) (h:sp (vs++dvs) H Q E):AU (model X.prog X.w) X.A (call (.ref f) us) (EP X pins σ Q) X.xe s:=by
 have r2:c7 (vs++dvs) (us++ds):=r.append hd;have hl:(us++ds).length=ps.length:=by rw[<-r2.length];exact F.len _ _ _ _ h
 refine wpAny_call (Fe (F.run X.A X.stack s H ⟨us,[]⟩ (us++ds) (vs++dvs) Q E hr I.env0 (hb s us I.kIn hl) r2 h) λr s' hq=>?_);cases r with
 |error e=>exact hx pins σ H s e s' I hq
 |ok fl=>
  cases fl with
  |ret u=>exact I.after hq
  |next=>exact AX hq
  |brk=>exact AX hq
  |cont=>exact AX hq
def by5(F:FnOk X.prog X.w X.K X.mg X.base CX k f fd ps sp)(hr:Room k X.A)(hg:Gl X x)(hm:X.mg x=AA (.ref f))(hk:CA X.K (.ref f)=AC)(hb:m8 X.K fd ps ds)(hd:c7 dvs ds)(hx:J6 CX X E)
  (ha:PA X (e::es) t) (hdb:(x==("__debug__":Str))=AG:=by decide) (he:Ai (e::es) X.env=(AG,eval e X.env)::Ai es X.env:=by rfl) (hpl:(Bt pos (Ai es X.env)).any (·.1)=AG:=by rfl) :
  PE X (.Call (.Name x p) (e::es) [] pos) (ch6 sp dvs E t):=by
 intro pins s σ H Q I h;refine Bp (J0 I hg hm ?_ hdb);refine FP (h₀:=X.base) I.ok.mod.kin hk (thn (ha pos pins s σ H _ I h) λus s1⟨vs,H1,I1,r,q⟩=>⟨I1.kIn,?_⟩) he hpl;exact N9 F hr hb hd hx I1 r q
structure Mk(K:AR)(C f:AM):Prop where
 makes:Gi K C=AC
 init:BS K (.ref C) "__init__"=AA (AA (.ref f))
 fn:JE K (.ref f)=AC
 kp:CA K (.ref C)=AC
def ao9{s:AK}{vs:List V}(M:Mk X.K C f)(F:FnOk X.prog X.w X.K X.mg X.base CX k f fd ps sp)(hr:Room (k+1) X.A)(hb:m8 X.K fd ps ds)(hd:c7 dvs ds)
  (hx:J6 CX X E) (I:Inv X pins σ H s) (r:c7 vs us)
  (h:∀x dx,H x=AE->H dx=AE->dx≠x->sp (.ref x::(vs++dvs)) (upd (upd H dx (.own x)) x (.ins C dx [])) (λv H2=>v=.non/\Q (.ref x) H2) E) :
  AU (model X.prog X.w) X.A (call (.ref C) us) (EP X pins σ Q) X.xe s:=by
 have hq:=h (s.heap.objs.size+1) s.heap.objs.size (I.hok.fresh (GN _)) (I.hok.fresh (Af _)) (BZ (EJ _));have I2:=Inv.made (C:=C) I;have r2:c7 (V.ref (s.heap.objs.size+1)::(vs++dvs)) (An (s.heap.objs.size+1)::(us++ds)):=.cons rfl (r.append hd);have hl:(An (s.heap.objs.size+1)::us++ds).length=ps.length:=by
  have e:=r2.length;rw[F.len _ _ _ _ hq]at e;exact e.symm
 refine wpAny_call (bw5 (f:=f) I.kIn M.makes M.init (beq_iff_eq.mp M.fn) (Fe (F.run _ X.stack _ _ ⟨An (s.heap.objs.size+1)::us,[]⟩ (An (s.heap.objs.size+1)::(us++ds)) _ _ E (hr.make C us [])
  (I2.env0.make C us []) (hb _ (An (s.heap.objs.size+1)::us) I2.kIn hl) r2 hq) λr s' hq'=>?_))
 cases r with
 |error e=>exact hx pins σ _ _ e s' I2 hq'
 |ok fl=>
  cases fl with
  |ret u=>
   obtain⟨v,H',I3,rv,ev,q3⟩:=I2.after hq';subst ev;exact⟨rv,⟨V.ref (s.heap.objs.size+1),H',I3,rfl,q3⟩⟩
  |next=>exact AX hq'
  |brk=>exact AX hq'
  |cont=>exact AX hq'
def b30(M:Mk X.K C f)(F:FnOk X.prog X.w X.K X.mg X.base CX k f fd ps sp)(hr:Room (k+1) X.A)(hg:Gl X x)(hm:X.mg x=AA (.ref C))(hb:m8 X.K fd ps ds)(hd:c7 dvs ds)(hx:J6 CX X E)
  (ha:PA X (e::es) t) (hdb:(x==("__debug__":Str))=AG:=by decide) (he:Ai (e::es) X.env=(AG,eval e X.env)::Ai es X.env:=by rfl) (hpl:(Bt pos (Ai es X.env)).any (·.1)=AG:=by rfl) :
  PE X (.Call (.Name x p) (e::es) [] pos) (a93 C sp dvs E t):=by
 intro pins s σ H Q I h;refine Bp (J0 I hg hm ?_ hdb);refine FP (h₀:=X.base) I.ok.mod.kin M.kp (thn (ha pos pins s σ H _ I h) λus s1⟨vs,H1,I1,r,q⟩=>⟨I1.kIn,?_⟩) he hpl;exact ao9 M F hr hb hd hx I1 r q
def bv4(M:Mk X.K C f)(F:FnOk X.prog X.w X.K X.mg X.base CX k f fd ps sp)(hr:Room (k+1) X.A)(hg:Gl X x)(hm:X.mg x=AA (.ref C))(hb:m8 X.K fd ps ds)(hd:c7 dvs ds)(hx:J6 CX X E)
  (hdb:(x==("__debug__":Str))=AG:=by decide):PE X (.Call (.Name x p) [] [] pos) (a93 C sp dvs E V2):=by
 intro pins s σ H Q I h;refine Bp (J0 I hg hm ?_ hdb);exact JS I.kIn M.kp (ao9 (us:=[]) M F hr hb hd hx I .nil h)
end
structure FnScope(N P:List Str)(sc:BN):Prop where
 kind:sc.kind=.function
 co:sc.isCoroutine=AG
 gen:sc.isGenerator=AG
 nd:N.Nodup
 pre:N.take P.length=P
 par:∀x∈P,sc.names.lookup x=AA .local\/sc.names.lookup x=AA .cell
 nofree:∀y∈sc.names,y.2≠.free
theorem ak2:∀{binds:List (Str×AF)}{m:Str->Option AF},(∀v,(x,v)∉binds)->HA kindOf binds m x=m x
 |[],_,_=>rfl
 |(n,v)::r,m,h=>by
  unfold HA;rw[ak2 λw hw=>h w (BJ _ hw)]
  split
  ·have:x≠n:=by rintro rfl;exact h v Bv
   simp[this]
  ·rfl
theorem ak3:∀{binds:List (Str×AF)}{m:Str->Option AF},(∀v,(x,v)∉binds)->HB kindOf binds m x=m x
 |[],_,_=>rfl
 |(n,v)::r,m,h=>by
  unfold HB;rw[ak3 λw hw=>h w (BJ _ hw)]
  split
  ·rfl
  ·have:x≠n:=by rintro rfl;exact h v Bv
   simp[this]
theorem ak7{v:AF}:∀{P:List Str}{vs:List AF}{i:Nat}{m:Str->Option AF},P.Nodup->P[i]?=AA x->vs[i]?=AA v->kindOf x=AA .local ->
  HA kindOf (P.zip vs) m x=AA v
 |[],_,_,_,_,h,_,_=>by simp at h
 |_::_,[],_,_,_,_,h,_=>by simp at h
 |p::P,w::vs,0,m,nd,h1,h2,hk=>by
  simp at h1 h2;subst h1;subst h2;show HA kindOf ((p,w)::P.zip vs) m p=_;unfold HA;rw[ak2 λv hv=>(Bq.mp nd).1 (FQ hv).1,if_pos hk];simp
 |p::P,w::vs,i+1,m,nd,h1,h2,hk=>by
  show HA kindOf ((p,w)::P.zip vs) m x=_;unfold HA;exact ak7 (i:=i) (Bq.mp nd).2 (by simpa using h1) (by simpa using h2) hk
theorem al2{v:AF}:∀{P:List Str}{vs:List AF}{i:Nat}{m:Str->Option AF},P.Nodup->P[i]?=AA x->vs[i]?=AA v->kindOf x≠AA .local ->
  HB kindOf (P.zip vs) m x=AA v
 |[],_,_,_,_,h,_,_=>by simp at h
 |_::_,[],_,_,_,_,h,_=>by simp at h
 |p::P,w::vs,0,m,nd,h1,h2,hk=>by
  simp at h1 h2;subst h1;subst h2;show HB kindOf ((p,w)::P.zip vs) m p=_;unfold HB;rw[ak3 λv hv=>(Bq.mp nd).1 (FQ hv).1,if_neg hk];simp
 |p::P,w::vs,i+1,m,nd,h1,h2,hk=>by
  show HB kindOf ((p,w)::P.zip vs) m x=_;unfold HB;exact al2 (i:=i) (Bq.mp nd).2 (by simpa using h1) (by simpa using h2) hk
abbrev o7(N:List Str)(vs:List V):St:=vs.map AA++Ad (N.length-vs.length) AE
abbrev W3(CX:CXT)(P:Ag)(w:BA)(K:AR)(mg:Str->Option AF)(base:Az)(N:List Str)(qual:Str)(scope:BN)(f:AM)(cd:AF)(A:BO)(outer:List Env)(s:AK)(H:Hp)(E:XK):Cx where
 prog:=P
 w:=w
 K:=K
 mg:=mg
 base:=base
 A:=A.deeper (Fx qual scope s.heap.objs.size f cd)
 N:=N
 s₀:=s
 H₀:=H
 env:=Fx qual scope s.heap.objs.size f cd
 outer:=outer
 stack:=Fx qual scope s.heap.objs.size f cd::outer
 ex:=[]
 calm:=AC
 fn:=λ_=>AC
 pn:=[]
 xe:=λe s'=>AU (model P w) (A.deeper (Fx qual scope s.heap.objs.size f cd)) (leaving (Fx qual scope s.heap.objs.size f cd) e) (λ_ s''=>CX outer H s E e s'') (λe' s''=>CX outer H s E e' s'') s'
def am8{sc:BN}{n:Nat}(h:sc.names.lookup x=AA .cell):∃c,(JI n sc.names []).lookup x=AA c:=by
 have q:=IW sc.names n [] (.inl h);exact BM.mp q
def bn9{CX:CXT}{P:Ag}{w:BA}{K:AR}{mg:Str->Option AF}{base:Az}{N:List Str}{qual:Str}{scope:BN}{f:AM}{cd:AF}{outer:List Env}{s s1:AK}{E:XK}{vs:List V}
  (S:FnScope N ps scope) (hd:A.handled=AE) (e0:Env0 P w K mg base A outer s H) (hl:vs.length=ps.length) (r:c7 vs us)
  (x:InCallC s s.heap.objs.size (HA (Fx qual scope s.heap.objs.size f cd).kindOf (ps.zip us) λ_=>AE) (JI (s.heap.objs.size+1) scope.names []) (HB (Fx qual scope s.heap.objs.size f cd).kindOf (ps.zip us) λ_=>AE) s1) :
  Inv (W3 CX P w K mg base N qual scope f cd A outer s H E) [] (o7 N vs) H s1:=by
 have hpl:ps.length<=N.length:=by have:=congrArg Ap S.pre;rw[El]at this;lia
 obtain ⟨h1,tk,rfl,hk⟩:=x.done;have noA:∀ b:AM,b ∉ (W3 CX P w K mg base N qual scope f cd A outer s H E).ex:=λb z=>absurd (show b ∈ ([]:List AM) from z) ∎;refine ⟨⟨e0.mod,S.kind,rfl,rfl,Af _,λy z c h1 h2=>?_,λy hy=>?_,λy c _ h=>?_,λ_=>hd,GO e0.frames,.inr ⟨rfl,rfl⟩,λb z=>absurd z (noA b),e0.bs,e0.bsz,λb _ _=>noA b,λb z=>absurd z (noA b),e0.funs,e0.frf⟩,
  rfl,e0.bare,Un.kept hk,⟨_,x.toInCall.ns,λi y v h1 h2 h3=>?_⟩,λy c h=>⟨_,x.cell y c h⟩,e0.hok.fresh (Af _),λy c h=>?_,λp hp=>absurd (show p ∈ ([]:List (AM × Obj)) from hp) ∎,e0.hok.kept hk,?_⟩
 ·exact name_of_addr x.apart (PySem.mem_of_lookup h1) (PySem.mem_of_lookup h2)
 ·have hy:scope.names.lookup y=AA .cell\/scope.names.lookup y=AA .free:=hy
  rcases hy with hy|hy
  ·exact am8 hy
  ·exact absurd rfl (S.nofree _ (PySem.mem_of_lookup hy))
 ·exact GW (x.above y c (PySem.mem_of_lookup h))
 ·have hi:i<vs.length:=by
   unfold o7 at h2
   by_cases hi:i<vs.length
   ·exact hi
   ·rw[BU (by simpa using hi)]at h2;rw[Cr]at h2
    split at h2<;>cases h2
  have ha:vs[i]?=AA v:=by
   unfold o7 at h2;rw[BH (by simpa using hi),CM]at h2;cases e:vs[i]? with
   |none=>rw[e]at h2;cases h2
   |some a=>rw[e]at h2;cases h2;rfl
  obtain⟨u,hu,rv⟩:=r.get ha;have hp:ps[i]?=AA y:=by
   rw[<-S.pre,GE ⋯];exact h1
  have ndP:ps.Nodup:=by rw[<-S.pre];exact S.nd.sublist (HK _ _)
  refine⟨u,rv,?_⟩
  rcases S.par y (Gk hp)with k|k
  ·exact .inl ⟨k,ak7 ndP hp hu k⟩
  ·obtain⟨c,e⟩:=am8 (n:=s.heap.objs.size+1) k;refine .inr ⟨.inl k,c,e,?_⟩;have q:=x.cell y c e;rw[al2 ndP hp hu (by show scope.names.lookup y≠_;rw[k];decide)]at q;exact q
 ·exact .inl (e0.hok.fresh (GW (x.above y c (PySem.mem_of_lookup h))))
 ·unfold o7;show _=N.length;rw[AJ,Aj,EB];lia
end L2
namespace L2
open PySem PySem.Spec PyProof.Rows
section
variable {X:Cx} {x:Str} {p pos:Pos} {e:AQ} {es:List AQ} {t:TA} {id T:String} {r:List V->Hp->VK->Prop}
abbrev tCB(r:List V->Hp->VK->Prop)(t:TA):TE:=λσ H Q=>t σ H λvs H1=>r vs H1 Q
def S1(hc:u1 X (.builtin id) r)(hg:Gl X x)(hm:X.mg x=AE)(hv:Aw x=AA (.builtin id))(ha:PA X (e::es) t)(hn:x≠"__name__":=by decide)(hdb:(x==("__debug__":Str))=AG:=by decide)
  (he:Ai (e::es) X.env=(AG,eval e X.env)::Ai es X.env:=by rfl) (hpl:(Bt pos (Ai es X.env)).any (·.1)=AG:=by rfl):PE X (.Call (.Name x p) (e::es) [] pos) (tCB r t):=by
 intro pins s σ H Q I h;refine Bp (A5 I hg hm hv ?_ hn hdb);exact JT (thn (ha pos pins s σ H _ I h) λus s1⟨vs,H1,I1,r1,q1⟩=>hc pins s1 σ H1 vs us Q I1 r1 q1) he hpl
def bo1(hc:u1 X (.type T) r)(hg:Gl X x)(hm:X.mg x=AE)(hv:Aw x=AA (.type T))(ha:PA X (e::es) t)(hn:x≠"__name__":=by decide)(hdb:(x==("__debug__":Str))=AG:=by decide)
  (he:Ai (e::es) X.env=(AG,eval e X.env)::Ai es X.env:=by rfl) (hpl:(Bt pos (Ai es X.env)).any (·.1)=AG:=by rfl):PE X (.Call (.Name x p) (e::es) [] pos) (tCB r t):=by
 intro pins s σ H Q I h;refine Bp (A5 I hg hm hv ?_ hn hdb);exact BB (thn (ha pos pins s σ H _ I h) λus s1⟨vs,H1,I1,r1,q1⟩=>hc pins s1 σ H1 vs us Q I1 r1 q1) he hpl
end
end L2
namespace HT
open PySem PyProof.Rows
section
open PySem.SeqAt
open PySem.AutoSeq1 (wpAny_loadPart')
open PySem.MeetsSeq PySem.MeetsSeq2 PySem.MeetsSeq3
end
section
variable {prog:Ag} {w:BA} {A:BO} {E:AF->AK->Prop} {s:AK}
def cat_tup{t b:AM}{vs ws:List AF}{Q:AF->AK->Prop}(ht:Je s.heap t vs.toArray)(hb:Je s.heap b ws.toArray)(hv:vs≠[])
  (h1:ws=[]->Q (.ref t) s) (h2:ws≠[]->Q (.ref s.heap.objs.size) {s with heap:=s.heap.push {cls:=.type "tuple",data:=.seq (vs++ws).toArray}})
  (hsz:vs.length+ws.length<=sizeLine):AU (model prog w) A (CS .Add (.ref t) (.ref b)) Q E s:=by
 obtain⟨⟨cls,dd,data,sl⟩,ho,hc,n,hd⟩:=id ht;obtain⟨⟨cls2,dd2,data2,sl2⟩,ho2,hc2,n2,hd2⟩:=id hb;simp only at hc hd hc2 hd2;subst hc hd hc2 hd2;have e:vs.toArray++ws.toArray=(vs++ws).toArray:=by simp
 by_cases hw:ws=[]
 ·exact HL ⟨_,ho,rfl⟩ ⟨_,ho2,rfl⟩ Fy Gq PySem.F.slot_tuple_add PySem.F.entry_tuple_add (PySem.F.args_tuple_add_2 _ _)
   (tuple_addW1 t b vs.toArray ws.toArray n n2 dd dd2 sl sl2 (by simpa using hv) (by simp[hw])) ⟨ho,ho2,h1 hw⟩
 ·refine HL ⟨_,ho,rfl⟩ ⟨_,ho2,rfl⟩ Fy Gq PySem.F.slot_tuple_add PySem.F.entry_tuple_add (PySem.F.args_tuple_add_2 _ _)
   (tuple_addW2 t b vs.toArray ws.toArray n n2 dd dd2 sl sl2 (by simpa using hv) (by simpa using hw) (by rw[Ab,Ab];exact hsz)) ⟨ho,ho2,?_⟩
  rw[e];exact h2 hw
abbrev sIx(n d:Nat):Option Int->Nat
 |none=>d
 |some v=>if v<0 then(v+(n:Int)).toNat else min v.toNat n
def b75(n d:Nat)(hd:d<=n)(o:Option Int):sIx n d o<=n:=by
 cases o with
 |none=>exact hd
 |some v=>
  show(if v<0 then(v+(n:Int)).toNat else min v.toNat n)<=n
  by_cases hv:v<0
  ·rw[if_pos hv];lia
  ·rw[if_neg hv];exact DF _ _
def ar1(v:Int)(n d:Nat):(if v<0 then max (v+(n:Int)) 0 else min v (n:Int))=((sIx n d (AA v):Nat):Int):=by
 show(if v<0 then max (v+(n:Int)) 0 else min v (n:Int))=(((if v<0 then(v+(n:Int)).toNat else min v.toNat n):Nat):Int)
 by_cases hv:v<0
 ·simp only[if_pos hv];lia
 ·simp only[if_neg hv];lia
def bn1(lo hi:Option Int)(n:Nat):DG lo hi 1 (n:Int)=(((sIx n 0 lo:Nat):Int),((sIx n n hi:Nat):Int)):=by
 have h1:¬((1:Int)<0):=by lia
 unfold DG;simp only[h1,if_false];refine Prod.ext ?_ ?_
 ·cases lo with
  |none=>rfl
  |some v=>exact ar1 v n 0
 ·cases hi with
  |none=>rfl
  |some v=>exact ar1 v n n
def bl4(i j:Nat):CL (i:Int) (j:Int) 1=j-i:=by
 unfold CL;have h1:(1:Int)>0:=by lia
 simp only[h1,if_true,JJ]
 split<;>lia
def ai3{v:AF}{o:Option Int}{Q:Option Int->AK->Prop}(p:Fz v o)(h:Q o s):AU (model prog w) A (JK v) Q E s:=by
 cases p with
 |none=>exact Jh h
 |int i t=>exact slicePart_int h
def bi4{sl:AM}{vl vu:AF}{lo hi:Option Int}{n:Nat}{Q:Int×Int×Nat->AK->Prop}(hs:s.heap.IsSliceOf sl vl vu .none)(pl:Fz vl lo)(pu:Fz vu hi)
  (h:Q (((sIx n 0 lo:Nat):Int),1,sIx n n hi-sIx n 0 lo) s):AU (model prog w) A (ES (.ref sl) (pure (n:Int))) Q E s:=by
 obtain⟨os,hos,hcs,hds⟩:=id hs;unfold ES JL;refine AH (AH (Cv hos hds (x:=vl) rfl (AH (Cv hos hds (x:=vu) rfl (AH (Cv hos hds (x:=.none) rfl (AN ?_)))))));refine AH (Jh ?_);show AU _ _ (if((1:Int)==0)=AC then _ else _) _ _ s;rw[if_neg ∅];refine AH (ai3 pl (AH (ai3 pu (AH (AN ?_)))));show AU _ _ (match DG lo hi 1 (n:Int)with|(lo,hi)=>pure (lo,(1:Int),CL lo hi 1)) _ _ s;rw[bn1 lo hi n];show AU _ _ (pure (((sIx n 0 lo:Nat):Int),(1:Int),CL ((sIx n 0 lo:Nat):Int) ((sIx n n hi:Nat):Int) 1)) _ _ s;rw[bl4];exact AN h
def bt9(xs:Array AF)(i k:Nat):((DC k).filterMap λ(m:Nat)=>xs[((i:Int)+(m:Int)*1).toNat]?).toArray=((xs.toList.drop i).take k).toArray:=by
 have e:(λ(m:Nat)=>xs[((i:Int)+(m:Int)*1).toNat]?)=λm=>xs[i+m]?:=by
  funext m
  have:((i:Int)+(m:Int)*1).toNat=i+m:=by lia
  rw[this]
 rw[e];have:=pick_run xs i k;rw[List.filterMap_map]at this;have e2:((λx=>xs[x]?)∘λx=>i+x)=λm=>xs[i+m]?:=rfl;rw[e2]at this;rw[this]
def getItem_tuple_cut{t sl:AM}{items:Array AF}{vl vu:AF}{lo hi:Option Int}{Q:AF->AK->Prop}(ht:Je s.heap t items)(hs:s.heap.IsSliceOf sl vl vu .none)(pl:Fz vl lo)(pu:Fz vu hi)
  (hw:¬(sIx items.size 0 lo=0/\sIx items.size items.size hi=items.size))
  (h:Q (.ref s.heap.objs.size) {s with heap:=s.heap.push {cls:=.type "tuple",data:=.seq ((items.toList.drop (sIx items.size 0 lo)).take (sIx items.size items.size hi-sIx items.size 0 lo)).toArray}})
  (hsz:items.size<=sizeLine):AU (model prog w) A (Dv (.ref t) (.ref sl)) Q E s:=by
 have htake:sizeOk (.seq ((items.toList.drop (sIx items.size 0 lo)).take (sIx items.size items.size hi-sIx items.size 0 lo)).toArray):=by
  show((items.toList.drop (sIx items.size 0 lo)).take (sIx items.size items.size hi-sIx items.size 0 lo)).toArray.size<=sizeLine;rw[Ab,El,BC,DJ];lia
 have hj:sIx items.size items.size hi<=items.size:=b75 _ _ (Af _) hi;obtain⟨os,hos,hcs,hds⟩:=id hs;have hTs:s.TypeIs (.ref sl) "slice":=⟨os,hos,hcs⟩;unfold Dv
 try with_reducible refine CV ?_
 first|refine AH (AN ?_)|skip
 refine AH (Ik ht.typeIs ∅ ?_);refine AH (Cw (name:=AD "__getitem__") ht.typeIs Ch
  (CJ Ch ht.typeIs entry_tuple_getitem ?_ (args_tuple_getitem _ _)))
 show AU _ _ (Cz (.ref t)>>=_) _ _ s;refine AH (tupleItemsOf_ ht ?_);refine AH (HM hTs ?_);rw[if_pos ∅];refine AH (bi4 hs pl pu ?_);have hno:¬((((sIx items.size 0 lo:Nat):Int)==0&&(1:Int)==1&&(sIx items.size items.size hi-sIx items.size 0 lo)==items.size)=AC):=by
  intro q;rw[Aq,Aq]at q;have q1:((sIx items.size 0 lo:Nat):Int)=0:=eq_of_beq q.1.1;have q2:sIx items.size items.size hi-sIx items.size 0 lo=items.size:=eq_of_beq q.2;exact hw ⟨⋯,⋯⟩
 show AU _ _ (if(((sIx items.size 0 lo:Nat):Int)==0&&(1:Int)==1&&(sIx items.size items.size hi-sIx items.size 0 lo)==items.size)=AC then _ else _) _ _ s;rw[if_neg hno,bt9]
 first
  |exact AH (m:=CN _) (Bg (AN ⟨_,rfl,AN h⟩) htake)
  |exact AH (m:=CN _) (Bg (AH (AN (AN ⟨_,rfl,AN h⟩))) htake)
  |exact AH (AH (m:=CN _) (Bg (AN (AN ⟨_,rfl,AN h⟩)) htake))
  |exact AH (AH (m:=CN _) (Bg (AN ⟨_,rfl,AN h⟩) htake))
end
end HT
namespace L2
open PySem PySem.Spec PyProof.Rows
@[reducible]noncomputable def TO:=St->Hp->(Option Int->Hp->Prop)->Prop
abbrev PO(X:Cx)(e:Option AQ)(t:TO):Prop:=
 ∀(pins:List (AM×Obj))(s:AK)(σ:St)(H:Hp)(Q:Option Int->Hp->Prop),Inv X pins σ H s->t σ H Q ->
  AU (model X.prog X.w) X.A (evalPart e X.env) (λu s'=>∃o H',Inv X pins σ H' s'/\Fz u o/\Q o H') X.xe s
abbrev b00:TO:=λ_ H Q=>Q AE H
abbrev ci1(t:TE):TO:=λσ H Q=>t σ H λx H1=>∃i,x=.int i/\Q (AA i) H1
def bm5{ns:List Int}:∀{us:List AF},c7 (ns.map V.int) us->Fg us ns:=by
 induction ns with
 |nil=>intro us r;rw[Be]at r;cases r;exact .nil
 |cons n ns ih=>
  intro us r;rw[AY]at r;cases r with
  |cons r1 r2=>
   obtain⟨t,e⟩:=r1;subst e;exact .cons n t (ih r2)
section
variable {X:Cx} {e:AQ} {te:TE} {lo hi:Option AQ} {tl th:TO} {pos p2:Pos}
def bz1:PO X AE b00:=by
 intro pins s σ H Q I h;rw[evalPart_none];exact AN ⟨AE,H,I,.none,h⟩
def by1(h:PE X e te):PO X (AA e) (ci1 te):=by
 intro pins s σ H Q I hw;rw[evalPart_some];refine thn (h pins s σ H _ I hw) λu s1 z22=>?_;obtain⟨x,H1,I1,r1,q1⟩:=z22;obtain⟨i,rfl,q⟩:=q1;obtain⟨t,rfl⟩:=r1;exact⟨AA i,H1,I1,.int i t,q⟩
abbrev SlR(X:Cx)(r:V->Option Int->Option Int->Hp->VK->Prop):Prop:=
 ∀(pins:List (AM×Obj))(s:AK)(σ:St)(H:Hp)(x:V)(v vl vu:AF)(lo hi:Option Int)(sl:AM)(Q:VK),Inv X pins σ H s->c9 x v->s.heap.IsSliceOf sl vl vu .none->Fz vl lo->Fz vu hi->r x lo hi H Q ->
  ∃T id,Gd (.type T) "__getitem__"=pure (AA (.builtin id))/\s.TypeIs v T/\AU (model X.prog X.w) X.A (Dv v (.ref sl)) (EP X pins σ Q) X.xe s
def SlR.or{r r':V->Option Int->Option Int->Hp->VK->Prop}(h:SlR X r)(h':SlR X r'):SlR X (λx lo hi H Q=>r x lo hi H Q\/r' x lo hi H Q):=by
 intro pins s σ H x v vl vu lo hi sl Q I rx hs pl pu q
 rcases q with q|q
 ·exact h pins s σ H x v vl vu lo hi sl Q I rx hs pl pu q
 ·exact h' pins s σ H x v vl vu lo hi sl Q I rx hs pl pu q
abbrev tSl(r:V->Option Int->Option Int->Hp->VK->Prop)(te:TE)(tl th:TO):TE:=λσ H Q=>te σ H λx H1=>tl σ H1 λl H2=>th σ H2 λu H3=>r x l u H3 Q
def an6{r:V->Option Int->Option Int->Hp->VK->Prop}(hr:SlR X r)(he:PE X e te)(hl:PO X lo tl)(hu:PO X hi th):PE X (.Subscript e (.Slice lo hi AE p2) pos) (tSl r te tl th):=by
 intro pins s σ H Q I h;refine IX (thn (he pins s σ H _ I h) λv s1 z23=>?_);obtain⟨x,H1,I1,r1,q1⟩:=z23;refine wpAny_Slice (thn (hl pins s1 σ H1 _ I1 q1) λvl s2⟨l,H2,I2,pl,q2⟩=>thn (hu pins s2 σ H2 _ I2 q2) λvu s3 z24=>?_);obtain⟨u,H3,I3,pu,q3⟩:=z24;rw[evalPart_none];refine AN ?_;have I4:Inv X pins σ H3 {s3 with heap:=s3.heap.push {cls:=.type "slice",data:=.fields #[vl,vu,.none]}}:=I3.kept (t':=s3.toks) λb ob q=>AV _ q;obtain⟨T,id,hT,ht,hg⟩:=hr pins {s3 with heap:=s3.heap.push {cls:=.type "slice",data:=.fields #[vl,vu,.none]}} σ H3 x v vl vu l u s3.heap.objs.size Q I4 r1 (Il ..) pl pu q3;show AU (model X.prog X.w) X.A (FL e (.Slice lo hi AE p2) v (.ref s3.heap.objs.size)) (EP X pins σ Q) X.xe {s3 with heap:=s3.heap.push {cls:=.type "slice",data:=.fields #[vl,vu,.none]}};exact tail_any (ops:=[.ref s3.heap.objs.size,v]) ht hT hg (by with_unfolding_all rfl)
abbrev D3(xs:List V)(lo hi:Option Int):List V:=(xs.drop (HT.sIx xs.length 0 lo)).take (HT.sIx xs.length xs.length hi-HT.sIx xs.length 0 lo)
def ah6(xs:List V)(lo hi:Option Int):(D3 xs lo hi).length<=xs.length:=by
 unfold D3;rw[El,BC];lia
abbrev co0(K:AR):V->Option Int->Option Int->Hp->VK->Prop:=λx lo hi H Q=>∃a xs,x=.ref a/\SqT K H a xs /\
 ¬(HT.sIx xs.length 0 lo=0/\HT.sIx xs.length xs.length hi=xs.length)/\∀p,H p=AE->Q (.ref p) (upd H p (.tup (D3 xs lo hi)))
def b72:SlR X (co0 X.K):=by
 intro pins s σ H x v vl vu lo hi sl Q I rx hs pl pu h;obtain⟨a,xs,rfl,hx,hw,q⟩:=h;cases rx;obtain⟨its,r,ht,hz⟩:=I.tuple hx;have hlen:its.toArray.size=xs.length:=by rw[Ab];exact r.length.symm
 refine⟨"tuple",_,Ch.lookup,ht.typeIs,?_⟩;refine HT.getItem_tuple_cut ht hs pl pu (by rw[hlen];exact hw) ?_ (by rw[hlen];exact hz);rw[hlen];refine⟨.ref s.heap.objs.size,_,I.laid (t':=s.toks) (o:=.tup (D3 xs lo hi)) (λb ob q=>AV _ q) (Af _) ?_,rfl,q _ (I.hok.fresh (Af _))⟩;exact⟨Al (ah6 xs lo hi) hz,_,(r.drop (HT.sIx xs.length 0 lo)).take (HT.sIx xs.length xs.length hi-HT.sIx xs.length 0 lo),v0.new _ _⟩
abbrev ci0(K:AR):R2:=λx y H Q=>∃a b xs ys,x=.ref a/\y=.ref b/\SqT K H a xs/\SqT K H b ys/\xs≠[]/\xs.length+ys.length<=sizeLine /\
 (ys=[]->Q (.ref a) H)/\(ys≠[]->∀p,H p=AE->Q (.ref p) (upd H p (.tup (xs++ys))))
def c7.nil_iff{xs:List V}{us:List AF}(r:c7 xs us):us=[]↔xs=[]:=by
 cases r with
 |nil=>simp
 |cons _ _=>simp
def bx0:OpR X (CS .Add) (ci0 X.K):=by
 intro pins s σ H x y v u Q I rx ry h;obtain⟨a,b,xs,ys,rfl,rfl,ha,hb,hx,hz,q1,q2⟩:=h;cases rx;cases ry;obtain⟨its,r1,p1,_⟩:=I.tuple ha;obtain⟨its2,r2,p2,_⟩:=I.tuple hb;refine HT.cat_tup p1 p2 (λz=>hx (r1.nil_iff.mp z)) (λz=>⟨.ref a,H,I,rfl,q1 (r2.nil_iff.mp z)⟩) (λz=>?_) (by rw[<-r1.length,<-r2.length];exact hz);refine⟨.ref s.heap.objs.size,_,I.laid (t':=s.toks) (o:=.tup (xs++ys)) (λb ob q=>AV _ q) (Af _) ?_,rfl,q2 (λw=>z (r2.nil_iff.mpr w)) _ (I.hok.fresh (Af _))⟩;exact⟨by rw[AJ];exact hz,_,r1.append r2,v0.new _ _⟩
end
variable{pins:List (AM×Obj)}{σ:St}{H:Hp}
abbrev ixN(n:Nat)(i:Int):Option Nat:=if 0<=i then(if i<n then AA i.toNat else AE)else if -(n:Int)<=i then AA (i+n).toNat else AE
abbrev atI{α:Type}(xs:List α)(i:Int):Option α:=(ixN xs.length i).bind λj=>xs[j]?
def ad0{n:Nat}{i:Int}{j:Nat}(h:ixN n i=AA j):JM i n=AA j/\j<n/\-(n:Int)<=i/\i<n:=by
 unfold ixN at h
 by_cases h0:0<=i
 ·rw[if_pos h0]at h
  by_cases h1:i<n
  ·rw[if_pos h1]at h;have e:i.toNat=j:=At h;exact⟨by rw[Hm h0 h1,e],⋯,⋯,h1⟩
  ·rw[if_neg h1]at h;cases h
 ·rw[if_neg h0]at h
  by_cases h1:-(n:Int)<=i
  ·rw[if_pos h1]at h;have e:(i+n).toNat=j:=At h;exact⟨by rw[HN ⋯ h1,e],⋯,h1,⋯⟩
  ·rw[if_neg h1]at h;cases h
def ac8{α:Type}{xs:List α}{i:Int}{v:α}(h:atI xs i=AA v):∃j,JM i xs.length=AA j/\xs[j]?=AA v/\j<xs.length/\-(xs.length:Int)<=i/\i<xs.length:=by
 unfold atI at h;cases e:ixN xs.length i with
 |none=>rw[e]at h;cases h
 |some j=>
  rw[e]at h;obtain⟨h1,h2,h3,h4⟩:=ad0 e;exact⟨j,h1,h,h2,h3,h4⟩
abbrev ap9(b:AQ):Prop:=∀o i,subscripted b AG o i=operate [o,i] (Dv o i)
abbrev IxR(X:Cx)(r:R2):Prop:=
 ∀(value slice:AQ)(pins:List (AM×Obj))(s:AK)(σ:St)(H:Hp)(x y:V)(v u:AF)(Q:VK),Inv X pins σ H s->c9 x v->c9 y u->r x y H Q ->
  subscripted slice AG v u=operate [v,u] (Dv v u)->AU (model X.prog X.w) X.A (FL value slice v u) (EP X pins σ Q) X.xe s
abbrev MtR(X:Cx)(id:String)(r:V->List V->Hp->VK->Prop):Prop:=
 ∀(pins:List (AM×Obj))(s:AK)(σ:St)(H:Hp)(x:V)(xs:List V)(v:AF)(us:List AF)(Q:VK),Inv X pins σ H s->c9 x v->c7 xs us->r x xs H Q ->
  AU (model X.prog X.w) X.A (call (.builtin id) (v::us)) (EP X pins σ Q) X.xe s
section
variable {X:Cx} {a b:AQ} {ta tb:TE} {pos:Pos}
def IxR.or{r r':R2}(h:IxR X r)(h':IxR X r'):IxR X (λx y H Q=>r x y H Q\/r' x y H Q):=by
 intro value slice pins s σ H x y v u Q I rx ry q hs
 rcases q with q|q
 ·exact h value slice pins s σ H x y v u Q I rx ry q hs
 ·exact h' value slice pins s σ H x y v u Q I rx ry q hs
def cf7{r:R2}(hr:IxR X r)(ha:PE X a ta)(hb:PE X b tb)(hs:ap9 b):PE X (.Subscript a b pos) (tOp r ta tb):=by
 intro pins s σ H Q I h;exact IX (af5 ha hb I h λv u s2 x y H2 I2 rx ry q=>hr a b pins s2 σ H2 x y v u Q I2 rx ry q (hs _ _))
abbrev ck4(K:AR):R2:=λx y H Q=>∃p xs i v,x=.ref p/\y=.int i/\SqL K H p xs/\atI xs i=AA v/\Q v H
abbrev ck3(K:AR):R2:=λx y H Q=>∃p xs i v,x=.ref p/\y=.int i/\SqT K H p xs/\atI xs i=AA v/\Q v H
abbrev co3:R2:=λx y H Q=>∃z i c,x=.str z/\y=.int i/\z.length<=sizeLine/\atI z.cps.toList i=AA c/\Q (.str ⟨#[c]⟩) H
def by9:IxR X (ck4 X.K):=by
 intro value slice pins s σ H x y v u Q I rx ry h hs;obtain⟨p,xs,i,z,rfl,rfl,hq,he,q⟩:=h;cases rx;obtain⟨t,rfl⟩:=ry;obtain⟨its,r,pl,hz⟩:=I.list hq;obtain⟨j,h1,h2,h3,h4,h5⟩:=ac8 he;obtain⟨w,ew,rw'⟩:=r.get h2;have hl:=r.length;have hn:=K8;have fin:EP X pins σ Q w s:=⟨z,H,I,rw',q⟩
 by_cases h0:0<=i
 ·have hj:i.toNat=j:=by
   rw[Hm h0 h5]at h1;exact At h1
  exact item_listR pl.isList h0 ⋯ (by rw[hj];simpa using ew) fin hs
 ·have hj:(i+(its.toArray.size:Int)).toNat=j:=by
   rw[HN ⋯ h4]at h1;rw[Ab,<-hl];exact At h1
  exact HP (x:=w) pl.isList.typeIs Im.lookup
   (wpAny_getItem_list_neg (Q:=λr s'=>r=w/\EP X pins σ Q r s') pl.isList ⋯ (by rw[Ab]<;>lia) ⋯ (by rw[hj];simpa using ew) ⟨rfl,fin⟩) hs
def b79:IxR X (ck3 X.K):=by
 intro value slice pins s σ H x y v u Q I rx ry h hs;obtain⟨p,xs,i,z,rfl,rfl,hq,he,q⟩:=h;cases rx;obtain⟨t,rfl⟩:=ry;obtain⟨its,r,pl,hz⟩:=I.tuple hq;obtain⟨j,h1,h2,h3,h4,h5⟩:=ac8 he;obtain⟨w,ew,rw'⟩:=r.get h2;have hl:=r.length;have hn:=K8;have fin:EP X pins σ Q w s:=⟨z,H,I,rw',q⟩;exact HP (x:=w) pl.typeIs slot_tuple_getitem.lookup
  (getItem_tuple (j:=j) (Q:=λr s'=>r=w/\EP X pins σ Q r s') pl ⋯ ⋯ (by rw[Ab,<-hl];exact h1) (by simpa using ew) ⟨rfl,fin⟩) hs
def cc5:IxR X co3:=by
 intro value slice pins s σ H x y v u Q I rx ry h hs;obtain⟨z,i,c,rfl,rfl,hz,he,q⟩:=h;obtain⟨t,rfl⟩:=rx;obtain⟨t',rfl⟩:=ry;obtain⟨j,h1,h2,h3,h4,h5⟩:=ac8 he;have hl:z.cps.toList.length=z.length:=by simp[Ji]
 rw[hl]at h1 h4 h5;have hn:=K8;exact tail_any (FR s z t) slot_str_getitem.lookup (getItem_str (c:=c) (by
  have e1:AB (i < -(2^63:Int))=AG:=decide_eq_false ⋯;have e2:AB (i>=2^63)=AG:=decide_eq_false ⋯;rw[e1,e2,BF]) (by rw[h1];simpa using h2) ⟨.str ⟨#[c]⟩,H,I.tok _,⟨_,rfl⟩,q⟩) hs
def bm6(its:List AF)(n j:Nat)(u:AF):Cm (·.setIfInBounds j u) {cls:=.type "list",data:=.seq its.toArray n}={cls:=.type "list",data:=.seq (its.set j u).toArray n}:=by
 simp[Cm]
theorem Inv.lst{s:AK}{p:AM}{xs:List V}(I:Inv X pins σ H s)(h:H p=AA (.lst xs)):
  ∃(its:List AF)(n:Nat),c7 xs its/\s.heap.get? p=AA {cls:=.type "list",data:=.seq its.toArray n}/\xs.length<=sizeLine:=by
 obtain⟨z,its,n,r,e⟩:=I.hok p _ h;exact⟨its,n,r,e,z⟩
def Inv.lstUpd{s:AK}{p:AM}{xs ys:List V}{its its':List AF}{n n':Nat}{f:Obj->Obj}(I:Inv X pins σ H s)(h:H p=AA (.lst xs))
  (ho:s.heap.get? p=AA {cls:=.type "list",data:=.seq its.toArray n}) (hf:f {cls:=.type "list",data:=.seq its.toArray n}={cls:=.type "list",data:=.seq its'.toArray n'}) (r:c7 ys its') (hz:ys.length<=sizeLine) (t:Nat) :
  Inv X pins σ (upd H p (.lst ys)) {s with heap:=s.heap.update p f,toks:=t}:=by
 have e:(s.heap.update p f).get? p=AA {cls:=.type "list",data:=.seq its'.toArray n'}:=by
  rw[EG f ho (by rw[hf]<;>rfl),hf]
 refine I.write (x:=p) (e:=p) (by rw[h];trivial) (.inl rfl) (λb u hb q=>(Cp _ _ (BK hb)).trans q) ⟨_,e⟩ ?_;exact⟨hz,its',n',r,e⟩
abbrev ci9:V->V->V->Hp->(Hp->Prop)->Prop:=λo i v H Q=>∃p xs k j,o=.ref p/\i=.int k/\H p=AA (.lst xs)/\ixN xs.length k=AA j/\Q (upd H p (.lst (xs.set j v)))
def bv2:bh4 X ci9:=by
 intro pins s σ H o i v ov iv u Q I ro ri rv h;obtain⟨p,xs,k,j,rfl,rfl,hp,hj,q⟩:=h;cases ro;obtain⟨t,rfl⟩:=ri;obtain⟨its,n,r,ho,hz⟩:=I.lst hp;obtain⟨h1,h2,h3,h4⟩:=ad0 hj;have hl:=r.length;have hn:=K8;have I':Inv X pins σ (upd H p (.lst (xs.set j v))) {s with heap:=s.heap.update p (Cm (·.setIfInBounds j u))}:=
  I.lstUpd hp ho (bm6 its n j u) (r.set rv j) (by rw[List.length_set];exact hz) s.toks
 by_cases h0:0<=k
 ·have hk:k.toNat=j:=by
   rw[Hm h0 h4]at h1;exact At h1
  exact W.ki_setAt ho h0 ⋯ (by rw[Ab,<-hl];exact h4) (by rw[hk];exact⟨_,I',q⟩)
 ·have hk:(k+(its.toArray.size:Int)).toNat=j:=by
   rw[HN ⋯ h3]at h1;rw[Ab,<-hl];exact At h1
  exact W.ki_setBack ho ⋯ (by rw[Ab,<-hl];exact h3) ⋯ (by rw[hk];exact⟨_,I',q⟩)
def bj0(lo hi:Option Int)(n:Nat):(DV lo hi AE n).1=((HT.sIx n 0 lo:Nat):Int)/\(DV lo hi AE n).2.1=((HT.sIx n n hi:Nat):Int)/\(DV lo hi AE n).2.2=1:=by
 refine⟨?_,?_,rfl⟩
 ·cases lo with
  |none=>simp[DV,HT.sIx]
  |some i=>
   simp only[DV,HT.sIx,HC,show(1:Int)>0 by decide,if_true]
   by_cases h:i<0
   ·simp only[h,if_true]<;>lia
   ·simp only[h,if_false]<;>lia
 ·cases hi with
  |none=>simp[DV,HT.sIx]
  |some i=>
   simp only[DV,HT.sIx,HC,show(1:Int)>0 by decide,if_true]
   by_cases h:i<0
   ·simp only[h,if_true]<;>lia
   ·simp only[h,if_false]<;>lia
def bi8(its:List AF)(lo hi:Option Int):slicePick its.toArray lo hi AE=((its.drop (HT.sIx its.length 0 lo)).take (HT.sIx its.length its.length hi-HT.sIx its.length 0 lo)).toArray:=by
 obtain⟨h1,h2,h3⟩:=bj0 lo hi its.toArray.size;unfold slicePick;rw[h1,h2,h3];simp only[sliceRange_one,pick_run,Ab]<;>rfl
abbrev cl9(K:AR):V->Option Int->Option Int->Hp->VK->Prop:=λx lo hi H Q=>∃a xs,x=.ref a/\SqL K H a xs/\∀p,H p=AE->Q (.ref p) (upd H p (.lst (D3 xs lo hi)))
def b44:SlR X (cl9 X.K):=by
 intro pins s σ H x v vl vu lo hi sl Q I rx hs pl pu h;obtain⟨a,xs,rfl,hx,q⟩:=h;cases rx;obtain⟨its,r,ht,hz⟩:=I.list hx;have hlen:=r.length;refine⟨"list",_,Im.lookup,ht.isList.typeIs,?_⟩;refine wpAny_getItem_list_slice ht.isList hs pl pu .none ∎ ?_ (by rw[Ab]<;>lia);rw[bi8,<-hlen];refine⟨.ref s.heap.objs.size,_,I.laid (t':=s.toks) (o:=.lst (D3 xs lo hi)) (λb ob q=>AV _ q) (Af _) ?_,rfl,q _ (I.hok.fresh (Af _))⟩;exact⟨Al (ah6 xs lo hi) hz,_,0,(r.drop (HT.sIx xs.length 0 lo)).take (HT.sIx xs.length xs.length hi-HT.sIx xs.length 0 lo),Au _ rfl⟩
def bj9:u1 X (.builtin "len") (λxs H Q=>∃p ys,xs=[.ref p]/\(SqL X.K H p ys\/SqT X.K H p ys)/\Q (.int ys.length) H):=by
 intro pins s σ H xs us Q I r h;obtain⟨p,ys,rfl,hq,q⟩:=h;obtain⟨u,rfl,rx⟩:=A7 r;cases rx;have hn:=K8
 rcases hq with hq|hq
 ·obtain⟨its,r',pl,hz⟩:=I.list hq;have hlen:=r'.length;exact Calls.call_len_list pl.isList (by simp only[Ab]<;>lia) ⟨.int ys.length,H,I.tok _,⟨s.toks+1,by rw[Ab,hlen]⟩,q⟩
 ·obtain⟨its,r',pl,hz⟩:=I.tuple hq;have hlen:=r'.length;exact len_tuple pl (by simp only[Ab]<;>lia) ⟨.int ys.length,H,I.tok _,⟨s.toks+1,by rw[Ab,hlen]⟩,q⟩
def bk0:u1 X (.builtin "len") (λxs H Q=>∃z,xs=[.str z]/\z.length<=sizeLine/\Q (.int z.length) H):=by
 intro pins s σ H xs us Q I r h;obtain⟨z,rfl,hz,q⟩:=h;obtain⟨u,rfl,t,rfl⟩:=A7 r;have hn:=K8;exact len_str ⋯ ⟨.int z.length,H,I.tok _,⟨_,rfl⟩,q⟩
def bj8:u1 X (.type "list") (λxs H Q=>∃p ys,xs=[.ref p]/\(SqL X.K H p ys\/SqT X.K H p ys)/\∀l,H l=AE->Q (.ref l) (upd H l (.lst ys))):=by
 intro pins s σ H xs us Q I r h;obtain⟨p,ys,rfl,hq,q⟩:=h;obtain⟨u,rfl,rx⟩:=A7 r;cases rx;have fin:∀(its:List AF),c7 ys its->ys.length<=sizeLine->∀(h':Az)(c':Nat),(∀b o',s.heap.get? b=AA o'->h'.get? b=AA o') ->
   h'.get? s.heap.objs.size=AA {cls:=.type "list",dict:=AE,data:=.seq its.toArray c',slots:=#[]}->EP X pins σ Q (.ref s.heap.objs.size) {s with heap:=h'}:=λits r' hz h' c' kp e=>
  ⟨.ref s.heap.objs.size,_,I.laid (t':=s.toks) kp (Af _) (show j2 X.prog X.w _ h' _ (.lst ys) from⟨hz,its,c',r',e⟩),rfl,q _ (I.hok.fresh (Af _))⟩
 rcases hq with hq|hq
 ·obtain⟨its,r',pl,hz⟩:=I.list hq;have hlen:=r'.length;obtain⟨o,ho,hc,n,hd⟩:=pl.isList;exact call_list_seq p (.inl rfl) ho hc hd (λh' c' kp e=>fin its r' hz h' c' kp e) (by simp only[Ab]<;>lia)
 ·obtain⟨its,r',pl,hz⟩:=I.tuple hq;have hlen:=r'.length;obtain⟨o,ho,hc,n,hd⟩:=pl;exact call_list_seq p (.inr rfl) ho hc hd (λh' c' kp e=>fin its r' hz h' c' kp e) (by simp only[Ab]<;>lia)
def bi9:u1 X (.type "tuple") (λxs H Q=>∃p ys,xs=[.ref p]/\((SqL X.K H p ys/\∀l,H l=AE->Q (.ref l) (upd H l (.tup ys)))\/(SqT X.K H p ys/\Q (.ref p) H))):=by
 intro pins s σ H xs us Q I r h;obtain⟨p,ys,rfl,h⟩:=h;obtain⟨u,rfl,rx⟩:=A7 r;cases rx
 rcases h with⟨hq,q⟩|⟨hq,q⟩
 ·obtain⟨its,r',pl,hz⟩:=I.list hq;have hlen:=r'.length;refine call_tuple_list pl.isList (λh' kp=>?_) (by simp only[Ab]<;>lia);have I1:Inv X pins σ H {s with heap:=h'}:=I.kept (t':=s.toks) kp;have I2:Inv X pins σ (upd H h'.objs.size (.tup ys)) {s with heap:=h'.push {cls:=.type "tuple",data:=.seq its.toArray}}:=
   I1.laid (t':=s.toks) (λb o e=>AV _ e) (Af _) (show j2 X.prog X.w _ _ _ (.tup ys) from⟨hz,its,r',v0.new _ _⟩)
  exact⟨.ref h'.objs.size,_,I2,rfl,q _ (I1.hok.fresh (Af _))⟩
 ·obtain⟨its,r',pl,hz⟩:=I.tuple hq;exact call_tuple_same pl ⟨.ref p,H,I,rfl,q⟩
abbrev tyV(K:AR)(T:String)(x:V)(H:Hp):Prop:=match x with
 |.str _=>T="str"
 |.int _=>T="int"
 |.ref p=>(T="list"/\∃xs,SqL K H p xs)\/(T="tuple"/\∃o,K.lookup p=AA o/\o.cls=.type "tuple"/\o.dict=AE)\/
   (T="dict"/\((∃kvs,H p=AA (.dK kvs))\/∃kvs,H p=AA (.dT kvs)))\/(T="set"/\∃S n,H p=AA (.set S n))
 |_=>False
def av3{s:AK}{T:String}{x:V}{v:AF}(I:Inv X pins σ H s)(r:c9 x v)(ty:tyV X.K T x H):
  s.TypeIs v T/\∀a,v=.ref a->∃ob,s.heap.get? a=AA ob/\ob.dict=AE:=by
 cases x with
 |str z=>
  obtain⟨t,rfl⟩:=r;cases(show T="str" from ty);exact⟨FR s z t,λ_ e=>nomatch e⟩
 |int i=>
  obtain⟨t,rfl⟩:=r;cases(show T="int" from ty);exact⟨IY s i t,λ_ e=>nomatch e⟩
 |ref p=>
  cases r
  rcases ty with⟨rfl,xs,hq⟩|⟨rfl,o,hk,hc,hd⟩|⟨rfl,hk⟩|⟨rfl,S,n,hk⟩
  ·obtain⟨its,_,pl,_⟩:=I.list hq;refine⟨pl.isList.typeIs,λa e=>?_⟩;cases e;obtain⟨o,n,e,c,hd,_⟩:=pl;exact⟨o,e,hd⟩
  ·refine⟨⟨o,I.kIn p o hk,hc⟩,λa e=>?_⟩;cases e;exact⟨o,I.kIn _ o hk,hd⟩
  ·have z:∃o,s.heap.get? p=AA o/\o.ExactDict:=by
    rcases hk with⟨kvs,hk⟩|⟨kvs,hk⟩
    ·obtain⟨_,_,_,_,o,_,_,e,ex,_⟩:=I.hok p _ hk;exact⟨o,e,ex⟩
    ·obtain⟨_,_,_,_,o,_,_,e,ex,_⟩:=I.hok p _ hk;exact⟨o,e,ex⟩
   obtain⟨o,e,ex⟩:=z;refine⟨⟨o,e,ex.1⟩,λa e2=>?_⟩;cases e2;exact⟨o,e,ex.2.1⟩
  ·obtain⟨o,_,_,_,e,ex,_⟩:=I.hok p _ hk;refine⟨⟨o,e,ex.1⟩,λa e2=>?_⟩;cases e2;exact⟨o,e,ex.2.1⟩
 |_=>exact AX ty
abbrev co4(K:AR)(T:String)(r:V->List V->Hp->VK->Prop)(to:TE):TE:=λσ H Q=>to σ H λx H1=>tyV K T x H1/\r x [] H1 Q
abbrev tBM(K:AR)(T:String)(r:V->List V->Hp->VK->Prop)(to:TE)(t:TA):TE:=λσ H Q=>to σ H λx H1=>tyV K T x H1/\t σ H1 λxs H2=>r x xs H2 Q
variable {o e:AQ} {es:List AQ} {to:TE} {t:TA} {name:Str} {apos cpos:Pos} {T id:String} {r:V->List V->Hp->VK->Prop}
def b86(pa:PlainAttrs T)(slot:Slot T name id)(hty:typeOf (.builtin id)=pure (.type "method_descriptor"))(hm:MtR X id r)(ho:PE X o to)
  (hbase:Bx o name X.env (eval o X.env)=eval o X.env:=by rfl) (hline:(apos.endLine==cpos.line)=AC:=by rfl):PE X (.Call (.Attribute o name apos) [] [] cpos) (co4 X.K T r to):=by
 intro pins s σ H Q I h;refine wpAny_Call_method0_late hbase hline (thn (ho pins s σ H _ I h) λv s1 z25=>?_);obtain⟨x,H1,I1,r1,ty,q1⟩:=z25;obtain⟨h1,h2⟩:=av3 I1 r1 ty;exact⟨T,id,pa,slot,hty,h1,h2,CD rfl (PySem.evalArgs_none (hm pins s1 σ H1 x [] v [] Q I1 r1 .nil q1))⟩
def cj4(pa:PlainAttrs T)(slot:Slot T name id)(hty:typeOf (.builtin id)=pure (.type "method_descriptor"))(hm:MtR X id r)(ho:PE X o to)(ha:PA X (e::es) t)
  (hbase:Bx o name X.env (eval o X.env)=eval o X.env:=by rfl)
  (hfew:((Bt cpos (Ai (e::es) X.env)).all (λx=>!x.1)&&(Em cpos (DW [] X.env)).all (λx=>x.1.isSome)
   &&AB ((e::es).length+([]:List Eu).length+(if([]:List Eu).isEmpty then 0 else 1)<30))=AC:=by rfl)
  (hline:(apos.endLine==cpos.line)=AC:=by rfl) (hs:Ai (e::es) X.env=(AG,eval e X.env)::Ai es X.env:=by rfl) (hplain:(Bt cpos (Ai es X.env)).any (·.1)=AG:=by rfl) :
  PE X (.Call (.Attribute o name apos) (e::es) [] cpos) (tBM X.K T r to t):=by
 intro pins s σ H Q I h;refine HQ hbase hfew hline rfl (thn (ho pins s σ H _ I h) λv s1 z26=>?_);obtain⟨x,H1,I1,r1,ty,q1⟩:=z26;obtain⟨h1,h2⟩:=av3 I1 r1 ty;refine⟨T,id,pa,slot,hty,h1,h2,?_⟩;have hA:=ha cpos pins s1 σ H1 _ I1 q1;rw[hs]at hA ⊢;refine CD (by show(AG||(Bt cpos (Ai es X.env)).any (·.1))=AG;rw[hplain]<;>rfl) (DH ?_);exact thn hA λus s2⟨vs,H2,I2,r2,q2⟩=>hm pins s2 σ H2 x vs v us Q I2 r1 r2 q2
end
end L2
namespace L2
open PySem PySem.Spec PyProof.Rows
variable{us:List AF}{xs:List V}
abbrev MtM(X:Cx)(id:String)(r:V->List V->Hp->VK->Prop):Prop:=
 ∀(pins:List (AM×Obj))(s:AK)(σ:St)(H:Hp)(x:V)(xs:List V)(v:AF)(us:List AF)(Q:VK),Inv X pins σ H s->c9 x v->c7 xs us->r x xs H Q ->
  AU (model X.prog X.w) X.A (call (.builtin id) (v::us)) (EP X pins σ Q) X.xe s
def c7.one:∀{x:V}{us:List AF},c7 [x] us->∃u,us=[u]/\c9 x u
 |_,_,.cons r .nil=>⟨_,rfl,r⟩
def c7.two{x y:V}(h:c7 [x,y] us):∃u v,us=[u,v]/\c9 x u/\c9 y v:=by
 cases h with|cons r t=>cases t with|cons q t=>cases t;exact⟨_,_,rfl,r,q⟩
def c7.zero:∀{us:List AF},c7 [] us->us=[]
 |_,.nil=>rfl
theorem c7.dropLast(h:c7 xs us):c7 xs.dropLast us.dropLast:=by
 induction h with
 |nil=>exact .nil
 |cons r t ih=>
  cases t with
  |nil=>exact .nil
  |cons q t'=>exact .cons r ih
theorem c7.eraseIdx:∀{xs:List V}{us:List AF}(i:Nat),c7 xs us->c7 (xs.eraseIdx i) (us.eraseIdx i)
 |_,_,_,.nil=>.nil
 |_,_,0,.cons _ t=>t
 |_,_,i+1,.cons r t=>.cons r (c7.eraseIdx i t)
theorem c7.reverse(h:c7 xs us):c7 xs.reverse us.reverse:=by
 induction h with
 |nil=>exact .nil
 |cons r t ih=>rw[CO,CO];exact c7.append ih (.cons r .nil)
theorem c7.rep(h:c7 xs us):∀k:Nat,c7 (Ad k xs).flatten (Ad k us).flatten
 |0=>.nil
 |k+1=>by
  rw[Cf,Cf,Ci,Ci];exact c7.append h (c7.rep h k)
def bm3{α:Type}(l:List α):l.eraseIdx (l.length-1)=l.dropLast:=by
 induction l with
 |nil=>rfl
 |cons a r ih=>
  cases r with
  |nil=>rfl
  |cons b r=>
   have e:(a::b::r).length-1=((b::r).length-1)+1:=by
    have h1:(a::b::r).length=r.length+2:=rfl;have h2:(b::r).length=r.length+1:=rfl;lia
   rw[e,List.eraseIdx_cons_succ,ih]
   all_goals rfl
theorem ak5{α:Type}:∀(l:List α)(i:Nat),(l.eraseIdx i).length<=l.length
 |[],_=>Af _
 |_::_,0=>GN _
 |_::r,i+1=>Bl (ak5 r i)
theorem aa5(its:List AF):∀(k:Nat)(acc:List AF),
  EW (λx1 x2=>x1++x2) acc.toArray (Ad k its.toArray)=(acc++(Ad k its).flatten).toArray
 |0,acc=>by simp
 |k+1,acc=>by
  have e:acc.toArray++its.toArray=(acc++its).toArray:=by simp
  have e2:(acc++its)++(Ad k its).flatten=acc++(Ad (k+1) its).flatten:=by
   rw[Cf,Ci,Ba]
  rw[<-e2,<-aa5 its k (acc++its),<-e,Cf,Hn]
section
variable {X:Cx} {pins:List (AM×Obj)} {σ:St} {H:Hp} {s:AK} {l b:AM} {ys zs:List V}
def Inv.lset{its its':List AF}{n:Nat}{f:Array AF->Array AF}{t':Nat}(I:Inv X pins σ H s)(hH:H l=AA (.lst xs))
  (e:s.heap.get? l=AA {cls:=.type "list",data:=.seq its.toArray n}) (hf:f its.toArray=its'.toArray) (hv:c7 ys its') (hz:ys.length<=sizeLine) :
  Inv X pins σ (upd H l (.lst ys)) {s with heap:=s.heap.update l (Cm f),toks:=t'}:=by
 have q:=PySem.IsL.update e f;rw[hf]at q;refine I.write (x:=l) (e:=l) (by rw[hH];exact trivial) (.inl rfl) (λb' u hb hu=>(Cp s.heap (Cm f) (BK hb)).trans hu) ⟨_,q⟩ ?_;exact⟨hz,its',_,hv,q⟩
def Inv.lnew{its:List AF}{t':Nat}(I:Inv X pins σ H s)(hv:c7 ys its)(hz:ys.length<=sizeLine):
  Inv X pins σ (upd H s.heap.objs.size (.lst ys)) {s with heap:=s.heap.push {cls:=.type "list",data:=.seq its.toArray},toks:=t'}:=
 I.laid (λ_ _ q=>AV _ q) (Af _) ⟨hz,its,0,hv,Au _ rfl⟩
theorem Inv.fresh(I:Inv X pins σ H s):H s.heap.objs.size=AE:=I.hok.fresh (Af _)
def Inv.lstM(I:Inv X pins σ H s)(hH:H l=AA (.lst xs)):xs.length<=sizeLine/\∃(its:List AF)(n:Nat),c7 xs its/\xs.length=its.length/\s.heap.get? l=AA {cls:=.type "list",data:=.seq its.toArray n}:=by
 obtain⟨z,its,n,r,e⟩:=I.hok l _ hH;exact⟨z,its,n,r,r.length,e⟩
def am7{n:Nat}(h:n<=sizeLine):Bk n=AG:=by
 unfold Bk;exact decide_eq_false ⋯
end
section
variable {X:Cx}
abbrev b35:V->List V->Hp->VK->Prop:=λx vs H Q=>∃l xs y,x=.ref l/\vs=[y]/\H l=AA (.lst xs)/\xs.length<sizeLine/\Q .non (upd H l (.lst (xs++[y])))
def aj8:MtM X "list.append" b35:=by
 intro pins s σ H x vs v us Q I rx rv h;obtain⟨l,xs,y,rfl,rfl,hH,hz,q⟩:=h;cases rx;obtain⟨u,rfl,ru⟩:=rv.one;obtain⟨z,its,n,r,hl,e⟩:=I.lstM hH;refine Cs F.slot_list_append ⟨_,e,rfl⟩ F.entry_list_append (F.args_list_append_2 _ _) (PySem.list_append l its.toArray n u (by rw[Ab];lia)) ⟨e,?_⟩;refine⟨.non,_,I.lset (its':=its++[u]) hH e ∎ (r.append (.cons ru .nil)) ?_,rfl,q⟩;rw[AJ,DM];lia
abbrev at9:V->List V->Hp->VK->Prop:=λx vs H Q=>∃l b xs zs,x=.ref l/\vs=[.ref b]/\H l=AA (.lst xs)/\H b=AA (.lst zs)/\xs.length+zs.length<=sizeLine/\Q .non (upd H l (.lst (xs++zs)))
def bp4:MtM X "list.extend" at9:=by
 intro pins s σ H x vs v us Q I rx rv h;obtain⟨l,b,xs,zs,rfl,rfl,hH,hB,hz,q⟩:=h;cases rx;obtain⟨u,rfl,ru⟩:=rv.one;cases ru;obtain⟨z,its,n,r,hl,e⟩:=I.lstM hH;obtain⟨z2,its2,n2,r2,hl2,e2⟩:=I.lstM hB;have hsz:its.toArray.size+its2.toArray.size<=sizeLine:=by rw[Ab,Ab];lia
 have hlong:¬(!its.toArray.isEmpty&&Bk (its.toArray.size+its2.toArray.size))=AC:=by
  rw[am7 hsz,IH];exact AL
 refine Cs Ho ⟨_,e,rfl⟩ Hd (HR _ _)
  (AutoSeq1.list_extend_list_list_0 l its.toArray n b its2.toArray n2 hlong (by rw[Ab];lia) ⋯) ⟨e,e2,?_⟩
 refine⟨.non,_,I.lset (its':=its++its2) hH e ∎ (r.append r2) ?_,rfl,q⟩;rw[AJ];lia
abbrev cn5:V->List V->Hp->VK->Prop:=λx vs H Q=>∃l xs y,x=.ref l/\vs=[]/\H l=AA (.lst xs)/\xs[xs.length-1]?=AA y/\Q y (upd H l (.lst xs.dropLast))
def cb3:MtM X "list.pop" cn5:=by
 intro pins s σ H x vs v us Q I rx rv h;obtain⟨l,xs,y,rfl,rfl,hH,hy,q⟩:=h;cases rx;have hus:=rv.zero;subst hus;obtain⟨z,its,n,r,hl,e⟩:=I.lstM hH;obtain⟨u,hu,ru⟩:=r.get hy;have hy':its.toArray[its.toArray.size-1]?=AA u:=by
  show its.toArray[its.length-1]?=AA u;rw[<-GP,<-hl];exact hu
 refine Cs Io ⟨_,e,rfl⟩ IZ (F.args_list_pop_1 _) (MeetsSeq.list_pop_last l its.toArray n u hy' (by rw[Ab];lia)) ⟨e,?_⟩;refine⟨y,_,I.lset (its':=its.dropLast) hH e ?_ r.dropLast ?_,ru,q⟩
 ·show its.toArray.eraseIdxIfInBounds (its.toArray.size-1)=its.dropLast.toArray;rw[Ab,FA,bm3]
 ·rw[List.length_dropLast];lia
abbrev b89:V->List V->Hp->VK->Prop:=λx vs H Q=>∃l xs i k y,x=.ref l/\vs=[.int i]/\H l=AA (.lst xs)/\-(2^63)<=i/\i<2^63/\JM i xs.length=AA k/\xs[k]?=AA y/\Q y (upd H l (.lst (xs.eraseIdx k)))
def br8:MtM X "list.pop" b89:=by
 intro pins s σ H x vs v us Q I rx rv h;obtain⟨l,xs,i,k,y,rfl,rfl,hH,h1,h2,hk,hy,q⟩:=h;cases rx;obtain⟨u,rfl,ru⟩:=rv.one;obtain⟨t,rfl⟩:=ru;obtain⟨z,its,n,r,hl,e⟩:=I.lstM hH;obtain⟨w,hw,rw'⟩:=r.get hy;refine Cs Io ⟨_,e,rfl⟩ IZ (F.args_list_pop_2 _ _)
  (MeetsSeq.list_pop_at l its.toArray n i t k w (fitsIndex_both h1 h2) (by rw[Ab,<-hl];exact hk) (by rw[<-GP];exact hw) (by rw[Ab];lia)) ⟨e,?_⟩
 refine⟨y,_,I.lset (its':=its.eraseIdx k) hH e ?_ (r.eraseIdx k) ?_,rw',q⟩
 ·show its.toArray.eraseIdxIfInBounds k=(its.eraseIdx k).toArray;rw[FA]
 ·have:=ak5 xs k;lia
abbrev ck8:R2:=λx y H Q=>∃l b xs zs,x=.ref l/\y=.ref b/\H l=AA (.lst xs)/\H b=AA (.lst zs)/\xs.length+zs.length<=sizeLine/\∀p,H p=AE->Q (.ref p) (upd H p (.lst (xs++zs)))
def ce6:OpR X (CS .Add) ck8:=by
 intro pins s σ H x y v u Q I rx ry h;obtain⟨l,b,xs,zs,rfl,rfl,hH,hB,hz,q⟩:=h;cases rx;cases ry;obtain⟨z,its,n,r,hl,e⟩:=I.lstM hH;obtain⟨z2,its2,n2,r2,hl2,e2⟩:=I.lstM hB;refine PySem.P.add_list e e2 ?_ (by rw[Ab,Ab];lia);have ea:its.toArray++its2.toArray=(its++its2).toArray:=by simp
 rw[ea];exact⟨.ref _,_,I.lnew (t':=s.toks) (r.append r2) (by rw[AJ];lia),rfl,q _ I.fresh⟩
def at5{α:Type}(xs:List α)(k:Nat):(Ad k xs).flatten.length=k*xs.length:=by
 induction k with
 |zero=>simp
 |succ k ih=>rw[Cf,Ci,AJ,ih,Jj,JN]
end
end L2
namespace L2
open PySem PySem.Spec PyProof.Rows
variable{o:Option V}{u:AF}{y:V}{P:Ag}{w:BA}{H:Hp}{a:AM}{X:Cx}{pins:List (AM×Obj)}{σ:St}{A:BO}{Q:AF->AK->Prop}{pos:Pos}
section
variable {κ:Type} [DecidableEq κ]
abbrev j9(kvs:List (κ×V))(k:κ):Option V:=(kvs.find? λkv=>AB (kv.1=k)).map (·.2)
abbrev w4(kvs:List (κ×V))(k:κ)(v:V):List (κ×V):=
 if(kvs.any λkv=>AB (kv.1=k))=AC then kvs.map (λkv=>if kv.1=k then(kv.1,v)else kv)else kvs++[(k,v)]
def ab5{p:κ×V}{r:List (κ×V)}{k:κ}(e:p.1=k):j9 (p::r) k=AA p.2:=by simp[j9,Ct,e]
def ab6{p:κ×V}{r:List (κ×V)}{k:κ}(e:¬p.1=k):j9 (p::r) k=j9 r k:=by simp[j9,Ct,e]
theorem ao7(k:κ):∀kvs:List (κ×V),(kvs.any λkv=>AB (kv.1=k))=(j9 kvs k).isSome
 |[]=>rfl
 |p::r=>by
  rw[Br]
  by_cases e:p.1=k
  ·simp only[ab5 e,decide_eq_true e,Bool.true_or,Option.isSome_some]
  ·rw[ab6 e,decide_eq_false e,BG];exact ao7 k r
def bk6(kvs:List (κ×V))(k:κ)(v:V):(w4 kvs k v).length<=kvs.length+1:=by
 unfold w4
 split
 ·rw[Aj];lia
 ·rw[AJ,AI,AO];lia
def br7{kvs:List (κ×V)}{k:κ}(v:V)(h:j9 kvs k=AE):w4 kvs k v=kvs++[(k,v)]:=by
 unfold w4;rw[ao7,h];exact if_neg ∅
def o8.isSome_eq{u:Option AF}(r:o8 o u):o.isSome=u.isSome:=by
 cases o with
 |none=>cases u with
  |none=>rfl
  |some _=>exact(show False from r).elim
 |some _=>cases u with
  |none=>exact(show False from r).elim
  |some _=>rfl
theorem o8.getD{u:Option AF}{d:V}{d':AF}(r:o8 o u)(rd:c9 d d'):c9 (o.getD d) (u.getD d'):=by
 cases o with
 |none=>cases u with
  |none=>exact rd
  |some _=>exact(show False from r).elim
 |some _=>cases u with
  |none=>exact(show False from r).elim
  |some _=>exact r
def KV.val{kvs:List (κ×V)}{vs:List (κ×AF)}(r:KV kvs vs)(k:κ):o8 (j9 kvs k) (Fh vs k):=by
 unfold KV at r
 induction r with
 |nil=>exact CH
 |@cons p q ps qs h t ih=>
  obtain⟨h1,h2⟩:=h
  by_cases e:p.1=k
  ·have e':q.1=k:=h1.symm.trans e;have b:Fh (q::qs) k=AA q.2:=by simp[Fh,Ct,e']
   rw[ab5 e,b];exact h2
  ·have e':¬q.1=k:=λz=>e (h1.trans z);have b:Fh (q::qs) k=Fh qs k:=by simp[Fh,Ct,e']
   rw[ab6 e,b];exact ih
theorem KV.any{kvs:List (κ×V)}{vs:List (κ×AF)}(r:KV kvs vs)(k:κ):(kvs.any λkv=>AB (kv.1=k))=vs.any λkv=>AB (kv.1=k):=by
 unfold KV at r
 induction r with
 |nil=>rfl
 |cons h t ih=>rw[Br,Br,ih,h.1]
def KV.repl{kvs:List (κ×V)}{vs:List (κ×AF)}(r:KV kvs vs)(k:κ)(ry:c9 y u):
  KV (kvs.map λkv=>if kv.1=k then(kv.1,y)else kv) (vs.map λkv=>if kv.1=k then(kv.1,u)else kv):=by
 unfold KV at r ⊢
 induction r with
 |nil=>exact .nil
 |@cons p q ps qs h t ih=>
  rw[AY,AY];refine .cons ?_ ih;obtain⟨h1,h2⟩:=h
  by_cases e:p.1=k
  ·rw[if_pos e,if_pos (h1.symm.trans e)];exact⟨h1,ry⟩
  ·rw[if_neg e,if_neg (λz=>e (h1.trans z))];exact⟨h1,h2⟩
def KV.put{kvs:List (κ×V)}{vs:List (κ×AF)}(r:KV kvs vs)(k:κ)(ry:c9 y u):KV (w4 kvs k y) (stored vs k u):=by
 unfold w4 stored;rw[r.any k]
 by_cases e:(vs.any λkv=>AB (kv.1=k))=AC
 ·rw[if_pos e,if_pos e];exact r.repl k ry
 ·rw[if_neg e,if_neg e];exact Paired.snoc r ⟨rfl,ry⟩
end
def O9{k:Key}(r:c9 (kV k) u):(y3 P w).is k u=AC:=by
 cases k with
 |inl i=>obtain⟨t,e⟩:=(show ∃t,u=Dl i t from r);subst e;exact bl1 P w i t
 |inr x=>obtain⟨t,e⟩:=(show ∃t,u=Dm x t from r);subst e;exact bk7 P w x t
@[reducible]noncomputable def KT(H:Hp):List (Am×V)->List (Am×AM×AF)->Prop:=Paired λp q=>p.1=q.1/\G5 H p.1 q.2.1/\c9 p.2 q.2.2
def KT.val{kvs:List (Am×V)}{xs:List (Am×AM×AF)}(r:KT H kvs xs)(k:Am):o8 (j9 kvs k) ((Hq xs k).map (·.2)):=by
 induction r with
 |nil=>exact CH
 |@cons p q ps qs h t ih=>
  obtain⟨h1,_,h2⟩:=h
  by_cases e:p.1=k
  ·have e':q.1=k:=h1.symm.trans e;have b:Hq (q::qs) k=AA q.2:=by simp[Hq,Ct,e']
   rw[ab5 e,b];exact h2
  ·have e':¬q.1=k:=λz=>e (h1.trans z);have b:Hq (q::qs) k=Hq qs k:=by simp[Hq,Ct,e']
   rw[ab6 e,b];exact ih
section
variable {h:Az} 
def l8{u:HO}(ok:HOk P w H h)(e:Rd H a u):j2 P w H h a u:=e.ok ok
def F7{kvs:List (Key×V)}(ok:HOk P w H h)(e:Rd H a (.dK kvs)):kvs.length<=sizeLine/\(a==Ce)=AG/\∃vs,KV kvs vs/\h.DictOf (y3 P w) a vs:=
 show j2 P w H h a (.dK kvs) from l8 ok e
def cg2{kvs:List (Key×V)}(ok:HOk P w H h)(e:H a=AA (.dK kvs)):kvs.length<=sizeLine/\(a==Ce)=AG/\∃vs,KV kvs vs/\h.DictOf (y3 P w) a vs:=F7 ok (.inl e)
def bo8(ok:HOk P w H h):∀(n:Nat)(d:Am),d.depth<=n->∀{v:V}{u:AF},HRd H d v->c9 v u->∃as,Reads h u d as:=by
 have all:∀n,(∀d:Am,d.depth<=n->∀{v:V}{u:AF},HRd H d v->c9 v u->∃as,Reads h u d as)->∀(ds:List Am),CF ds<=n->∀{vs:List V}{us:List AF},D0 H ds vs->c7 vs us->∃as,ReadsAll h us ds as:=λn ih ds=>by
  induction ds with
  |nil=>
   intro _ vs us q r;obtain rfl:vs=[]:=q;cases r;exact⟨_,.nil⟩
  |cons d ds ihd=>
   intro hd vs us q r;obtain⟨v,vr,rfl,q1,q2⟩:=q;have hd':max d.depth (CF ds)<=n:=hd;cases r with
   |cons r1 r2=>
    obtain⟨a1,x1⟩:=ih d ⋯ q1 r1;obtain⟨a2,x2⟩:=ihd ⋯ q2 r2;exact⟨_,.cons x1 x2⟩
 intro n
 induction n with
 |zero=>
  intro d hd v u q r;cases d with
  |int i=>obtain rfl:v=.int i:=q;obtain⟨t,rfl⟩:=(show ∃t,u=Dl i t from r);exact⟨_,.int _ _⟩
  |str x=>obtain rfl:v=.str x:=q;obtain⟨t,rfl⟩:=(show ∃t,u=Dm x t from r);exact⟨_,.str _ _⟩
  |tuple ds=>rw[NK.depth_tup]at hd;lia
  |none=>exact q.elim
  |bool _=>exact q.elim
  |list _=>exact q.elim
  |dict _=>exact q.elim
 |succ n ih=>
  intro d hd v u q r;cases d with
  |int i=>obtain rfl:v=.int i:=q;obtain⟨t,rfl⟩:=(show ∃t,u=Dl i t from r);exact⟨_,.int _ _⟩
  |str x=>obtain rfl:v=.str x:=q;obtain⟨t,rfl⟩:=(show ∃t,u=Dm x t from r);exact⟨_,.str _ _⟩
  |none=>exact q.elim
  |bool _=>exact q.elim
  |list _=>exact q.elim
  |dict _=>exact q.elim
  |tuple ds=>
   rw[NK.depth_tup]at hd;obtain⟨b,vs,rfl,q1,q2⟩:=q;cases(show u=An b from r);obtain⟨_,its,rv,o,h1,h2,_,m,h3⟩:=(show j2 P w H h b (.tup vs) from ok b _ q1);obtain⟨as,x⟩:=all n ih ds ⋯ q2 rv;exact⟨_,.tuple h1 h2 h3 (by simpa using x)⟩
def B8{k:Am}(ok:HOk P w H h)(e:G5 H k a):(NK.dataKind P w).is h k a:=⟨e.1,e.2.1,bo8 ok 7 k e.2.1 e.2.2 rfl⟩
def L6{kvs:List (Am×V)}(ok:HOk P w H h)(e:Rd H a (.dT kvs)):kvs.length<=sizeLine/\(a==Ce)=AG /\
  ∃xs,KT H kvs xs/\h.DictOfH (NK.dataKind P w) a xs:=by
 obtain⟨z,y,xs,r,o,es,ep,h1,h2,h3,h4,h5⟩:=(show j2 P w H h a (.dT kvs) from l8 ok e);refine⟨z,y,xs,r,o,es,ep,h1,h2,h3,h4,λx hx=>?_,h5⟩;have all:∀{l:List (Am×V)}{m:List (Am×AM×AF)},KT H l m->∀x∈m,(NK.dataKind P w).is h x.1 x.2.1:=by
  intro l m q
  induction q with
  |nil=>intro x hx;exact nomatch hx
  |@cons p q ps qs hq t ih=>
   intro x hx
   rcases AT.mp hx with e|hx
   ·subst e;exact B8 ok (by rw[<-hq.1];exact hq.2.1)
   ·exact ih x hx
 exact all r x hx
end
abbrev t9(H:Hp)(a:AM)(y:V)(r:Option V):Prop:=
 (∃kvs k,Rd H a (.dK kvs)/\y=kV k/\r=j9 kvs k)\/∃kvs k b,Rd H a (.dT kvs)/\y=.ref b/\G5 H k b/\r=j9 kvs k
theorem t9.k{kvs:List (Key×V)}{k:Key}(e:H a=AA (.dK kvs)):t9 H a (kV k) (j9 kvs k):=.inl ⟨kvs,k,.inl e,rfl,rfl⟩
section
variable {s:AK} {v:V} {r:AF} {E:AF->AK->Prop}
def Inv.big(I:Inv X pins σ H s):Ce<s.heap.objs.size:=by
 have h:AS<s.heap.objs.size:=(I.mod.glob.keeps I.bk).lt;exact Nat.lt_trans ∅ h
def ak6(hu:A.units+20<CI)(I:Inv X pins σ H s)(g:t9 H a y (AA v))(ry:c9 y u)(h:∀w' s',Inv X pins σ H s'->c9 v w'->Q w' s'):
  AU (model X.prog X.w) A (Dv (.ref a) u) Q E s:=by
 rcases g with⟨kvs,k,e,ey,l⟩|⟨kvs,k,b,e,ey,eb,l⟩
 ·subst ey;obtain⟨z,hd,vs,rel,dd⟩:=F7 I.hok e;obtain⟨w',hw,rw'⟩:=o8.some_of (v:=v) (o:=Fh vs k) (by rw[l];exact rel.val k);exact wpAny_getItem_of (O9 ry) dd.mapOf hw (h w' _ (I.tok _) rw')
 ·subst ey;cases(show u=An b from ry);obtain⟨z,hd,xs,rel,dd⟩:=L6 I.hok e;obtain⟨w',hw,rw'⟩:=o8.some_of (v:=v) (o:=(Hq xs k).map (·.2)) (by rw[l];exact rel.val k);obtain⟨p,hp,hp2⟩:=Option.map_eq_some_iff.mp hw;refine wpAny_getItem_heap (NK.dataKind_room_in1 hu) (B8 I.hok eb) dd hp ?_;rw[hp2];exact h w' _ (I.tok _) rw'
def cn3(hu:A.units+20<CI)(I:Inv X pins σ H s)(g:t9 H a y o)(ry:c9 y u)(h:∀s',Inv X pins σ H s'->Q (.bool o.isSome) s'):
  AU (model X.prog X.w) A (Bb .In u (.ref a)) Q E s:=by
 rcases g with⟨kvs,k,e,ey,l⟩|⟨kvs,k,b,e,ey,eb,l⟩
 ·subst ey;obtain⟨z,hd,vs,rel,dd⟩:=F7 I.hok e;refine wpAny_in_of (O9 ry) hd dd.mapOf ?_;rw[<-(rel.val k).isSome_eq,<-l];exact h _ (I.tok _)
 ·subst ey;cases(show u=An b from ry);obtain⟨z,hd,xs,rel,dd⟩:=L6 I.hok e;refine wpAny_in_heap (NK.dataKind_room_in1 hu) (B8 I.hok eb) hd dd ?_;have q:=(rel.val k).isSome_eq;rw[Gr]at q;rw[<-q,<-l];exact h _ (I.tok _)
def b07(hu:A.units+20<CI)(I:Inv X pins σ H s)(g:t9 H a y o)(ry:c9 y u)(h:∀s',Inv X pins σ H s'->Q (.bool (!o.isSome)) s'):
  AU (model X.prog X.w) A (Bb .NotIn u (.ref a)) Q E s:=by
 rcases g with⟨kvs,k,e,ey,l⟩|⟨kvs,k,b,e,ey,eb,l⟩
 ·subst ey;obtain⟨z,hd,vs,rel,dd⟩:=F7 I.hok e;refine wpAny_notIn_of (O9 ry) hd dd.mapOf ?_;rw[<-(rel.val k).isSome_eq,<-l];exact h _ (I.tok _)
 ·subst ey;cases(show u=An b from ry);obtain⟨z,hd,xs,rel,dd⟩:=L6 I.hok e;refine wpAny_notIn_heap (NK.dataKind_room_in1 hu) (B8 I.hok eb) hd dd ?_;have q:=(rel.val k).isSome_eq;rw[Gr]at q;rw[<-q,<-l];exact h _ (I.tok _)
def bz5{h':Az}{t':Nat}{ob:HO}(I:Inv X pins σ H s)(mu:Mut (H a))(hs:CG a s.heap h')(he:∃q,h'.get? a=AA q)(new:j2 X.prog X.w (upd H a ob) h' a ob):
  Inv X pins σ (upd H a ob) {s with heap:=h',toks:=t'}:=
 I.write (x:=a) (e:=a) mu (.inl rfl) (λb q hb z=>(hs.2 b hb).trans z) he new
def cb4{H':Hp}{h':Az}{kvs:List (Key×V)}{vs:List (Key×AF)}(z:kvs.length<=sizeLine)(hd:(a==Ce)=AG)(rel:KV kvs vs)(dd:h'.DictOf (y3 P w) a vs):
  j2 P w H' h' a (.dK kvs):=⟨z,hd,vs,rel,dd⟩
end
abbrev be4(i:AQ):Prop:=∀ov iv,subscripted i AG ov iv=operate [ov,iv] (Dv ov iv)
def as9{prog:Ag}{E:AF->AK->Prop}{s:AK}{env:Env}{value slice:AQ}{T id:String}
  (hl:Gd (.type T) "__getitem__"=pure (AA (.builtin id))) (hs:be4 slice)
  (h:AU (model prog w) A (eval value env) (λo s₁=>AU (model prog w) A (eval slice env) (λi s₂=>s₂.TypeIs o T/\AU (model prog w) A (Dv o i) Q E s₂) E s₁) E s) :
  AU (model prog w) A (eval (.Subscript value slice pos) env) Q E s:=by
 refine IX (BX h (λo s₁ h₁=>BX h₁ (λi s₂ h₂=>?_) λ_ _ x=>x) λ_ _ x=>x);obtain⟨hT,h₂⟩:=h₂;unfold FL;refine AH ?_;rw[He hT.not_modules];refine AH (Bu hT hl ?_);have fin:AU (model prog w) A (subscripted slice AG o i) (λr s₃=>AU (model prog w) A (Jk value o r>>=λ_=>pure r) Q E s₃) E s₂:=by
  rw[hs o i];exact JU (BX h₂ (λr s₃ h₃=>AH (Hr (AN h₃))) λ_ _ x=>x)
 first
  |exact AN (AH fin)
  |exact AH (AN (AH fin))
  |exact AH fin
def ai0{s:AK}(I:Inv X pins σ H s)(g:t9 H a y o):s.TypeIs (.ref a) "dict":=by
 rcases g with⟨kvs,k,e,_,_⟩|⟨kvs,k,b,e,_,_,_⟩
 ·obtain⟨_,_,vs,_,dd⟩:=F7 I.hok e;exact dd.typeIs
 ·obtain⟨_,_,xs,_,dd⟩:=L6 I.hok e;exact dd.typeIs
abbrev cf2(td ty:TE):TE:=λσ H Q=>td σ H λx H1=>ty σ H1 λy H2=>∃a v,x=.ref a/\t9 H2 a y (AA v)/\Q v H2
section
variable {o i e value:AQ} {pos' tpos:Pos} {td ty tv:TE}
def by6(hu:X.A.units+20<CI)(ho:PE X o td)(hi:PE X i ty)(hs:be4 i):PE X (.Subscript o i pos) (cf2 td ty):=by
 intro pins s σ H Q I h;refine as9 PySem.F.slot_dict_getitem.lookup hs (thn (ho pins s σ H _ I h) λu s1⟨x,H1,I1,rx,q1⟩=>thn (hi pins s1 σ H1 _ I1 q1) λiv s2 z27=>?_);obtain⟨y,H2,I2,ry,a,v,ex,g,q2⟩:=z27;subst ex;obtain rfl:u=An a:=rx;exact⟨ai0 I2 g,ak6 hu I2 g ry λw' s3 I3 rw'=>⟨v,H2,I3,rw',q2⟩⟩
end
def an4(h:Az)(hb:Ce<h.objs.size):j2 P w H (h.push {cls:=.type "dict",data:=.dict #[]}) h.objs.size (.dK []):=
 ⟨Ar _,beq_eq_false_iff_ne.mpr (BK (BZ hb)),[],.nil,Jl h⟩
abbrev cc0:TE:=λ_ H Q=>∀p,H p=AE->Q (.ref p) (upd H p (.dK []))
section
def bs7:PE X (.Dict [] [] pos) cc0:=λpins s σ H Q I h=>
 wpAny_Dict_empty ⟨.ref s.heap.objs.size,_,I.laid (a:=s.heap.objs.size) (o:=.dK []) (t':=s.toks) (λ_ _ q=>AV _ q) (Af _) (an4 s.heap I.big),rfl,h _ (I.hok.fresh (Af _))⟩
end
abbrev O3:List (TE×TE)->St->Hp->(List (V×V)->Hp->Prop)->Prop
 |[],_,H,Q=>Q [] H
 |(tk,tv)::r,σ,H,Q=>tk σ H λx H1=>tv σ H1 λy H2=>O3 r σ H2 λps H3=>Q ((x,y)::ps) H3
@[reducible]noncomputable def VV:List (V×V)->List (AF×AF)->Prop:=Paired λp q=>c9 p.1 q.1/\c9 p.2 q.2
abbrev PPs(X:Cx)(pos:Pos)(keys:List (Option AQ))(values:List AQ)(trs:List (TE×TE)):Prop:=
 ∀(pins:List (AM×Obj))(s:AK)(σ:St)(H:Hp)(Q:List (V×V)->Hp->Prop),Inv X pins σ H s->O3 trs σ H Q ->
  AU (model X.prog X.w) X.A (evalPairs (pairTrees keys values X.env pos)) (λvs s'=>∃ps H',Inv X pins σ H' s'/\VV ps vs/\Q ps H') X.xe s
def by3:PPs X pos [] [] []:=λpins s σ H Q I h=>pairTrees_nil_walk ⟨[],H,I,.nil,h⟩
def bv3{k v:AQ}{ks:List (Option AQ)}{vs:List AQ}{tk tv:TE}{trs:List (TE×TE)}(hk:PE X k tk)(hv:PE X v tv)(hr:PPs X pos ks vs trs):
  PPs X pos (AA k::ks) (v::vs) ((tk,tv)::trs):=λpins s σ H Q I h=>
 pairTrees_cons_walk (thn (hk pins s σ H _ I h) λu s1⟨x,H1,I1,rx,q1⟩=>thn (hv pins s1 σ H1 _ I1 q1) λw2 s2⟨y,H2,I2,ry,q2⟩=>
  thn (hr pins s2 σ H2 _ I2 q2) λws s3⟨ps,H3,I3,rel,q3⟩=>⟨(x,y)::ps,H3,I3,.cons ⟨rx,ry⟩ rel,q3⟩)
abbrev y9(kvs more:List (Key×V)):List (Key×V):=more.foldl (λacc kv=>w4 acc kv.1 kv.2) kvs
def KV.merge:∀{more:List (Key×V)}{rs:List (Key×AF)}{kvs:List (Key×V)}{vs:List (Key×AF)},KV more rs->KV kvs vs->KV (y9 kvs more) (merged vs rs):=by
 intro more rs kvs vs r;unfold KV at r
 induction r generalizing kvs vs with
 |nil=>intro q;exact q
 |@cons p q ps qs h t ih=>
  intro r0;have e:KV (w4 kvs p.1 p.2) (stored vs q.1 q.2):=by
   have:=r0.put p.1 h.2;rw[<-h.1];exact this
  exact ih e
theorem ah4:∀(more kvs:List (Key×V)),(y9 kvs more).length<=kvs.length+more.length
 |[],kvs=>by show kvs.length<=kvs.length+0;lia
 |p::r,kvs=>by
  have h1:=ah4 r (w4 kvs p.1 p.2);have h2:=bk6 kvs p.1 p.2;show(y9 (w4 kvs p.1 p.2) r).length<=_;rw[AI];lia
theorem ai8{P:Ag}{w:BA}:∀{kvs:List (Key×V)}{ws:List (AF×AF)},VV (kvs.map λkv=>(kV kv.1,kv.2)) ws->∃rs,Carries (y3 P w) ws rs/\KV kvs rs
 |[],_,r=>by rw[Be]at r;cases r;exact⟨[],CH,.nil⟩
 |p::kvs,_,r=>by
  rw[AY]at r;cases r with
  |@cons a b as bs h t=>
   obtain⟨rs,c,q⟩:=ai8 (P:=P) (w:=w) t;obtain⟨b1,b2⟩:=b;exact⟨(p.1,b2)::rs,⟨O9 h.1,rfl,c⟩,.cons ⟨rfl,h.2⟩ q⟩
abbrev ci4(trs:List (TE×TE)):TE:=λσ H Q=>∀p,H p=AE->O3 trs σ (upd H p (.dK [])) λps H2=>H2 p=AA (.dK [])/\∃kvs:List (Key×V),ps=kvs.map (λkv=>(kV kv.1,kv.2))/\kvs.length<=15/\Q (.ref p) (upd H2 p (.dK (y9 [] kvs)))
def au3{keys:List (Option AQ)}{values:List AQ}{trs:List (TE×TE)}(h:PPs X pos keys values trs)(hall:keys.all (·.isSome)=AC)(hl:keys.length=values.length)(h0:keys≠[])
  (h15:keys.length<=15):PE X (.Dict keys values pos) (ci4 trs):=by
 intro pins s σ H Q I q;have hn:=I.hok.fresh (Af s.heap.objs.size);have I1:=I.laid (a:=s.heap.objs.size) (o:=.dK []) (h':=s.heap.push {cls:=.type "dict",data:=.dict #[]}) (t':=s.toks) (λ_ _ q=>AV _ q) (Af _) (an4 s.heap I.big);refine wpAny_Dict_walk (knd:=y3 X.prog X.w) hall hl h0 h15 (thn (h pins _ σ _ _ I1 (q _ hn)) λws s2 z28=>?_);obtain⟨ps,H2,I2,rel,e,kvs,ep,lk,q2⟩:=z28;subst ep;obtain⟨rs,c,rk⟩:=ai8 (P:=X.prog) (w:=X.w) rel;obtain⟨z,hd,vs0,r0,dd⟩:=cg2 I2.hok e;cases r0;refine⟨rs,c,dd,λh' dd' hs=>⟨.ref s.heap.objs.size,_,?_,rfl,q2⟩⟩;have hz:(y9 [] kvs).length<=sizeLine:=by
  have h1:=ah4 kvs [];rw[AO]at h1;rw[Eh];lia
 have he:∃q,h'.get? s.heap.objs.size=AA q:=let⟨q,_,_,hq,_⟩:=dd';⟨q,hq⟩;exact bz5 I2 (by rw[e];exact CH) hs he (cb4 hz hd (rk.merge .nil) dd')
structure M1(X:Cx)(o:AQ)(m:Str)(apos:Pos)(e:AQ)(cpos:Pos):Prop where
 base:Bx o m X.env (eval o X.env)=eval o X.env
 few:((Bt cpos (Ai [e] X.env)).all (λx=>!x.1)&&(Em cpos (DW [] X.env)).all (λx=>x.1.isSome)
  &&AB (([e]:List AQ).length+([]:List Eu).length+(if([]:List Eu).isEmpty then 0 else 1)<30))=AC
 line:(apos.endLine==cpos.line)=AC
 trees:Bt cpos (Ai [e] X.env)=[(AG,eval e X.env)]
structure M2(X:Cx)(o:AQ)(m:Str)(apos:Pos)(e f:AQ)(cpos:Pos):Prop where
 base:Bx o m X.env (eval o X.env)=eval o X.env
 few:((Bt cpos (Ai [e,f] X.env)).all (λx=>!x.1)&&(Em cpos (DW [] X.env)).all (λx=>x.1.isSome)
  &&AB (([e,f]:List AQ).length+([]:List Eu).length+(if([]:List Eu).isEmpty then 0 else 1)<30))=AC
 line:(apos.endLine==cpos.line)=AC
 trees:Bt cpos (Ai [e,f] X.env)=[(AG,eval e X.env),(AG,eval f X.env)]
abbrev IsD(H:Hp)(a:AM):Prop:=(∃kvs,Rd H a (.dK kvs))\/∃kvs,Rd H a (.dT kvs)
def b80{s:AK}(I:Inv X pins σ H s)(d:IsD H a):
  s.TypeIs (.ref a) "dict"/\(∀b,An a=.ref b->∃ob,s.heap.get? b=AA ob/\ob.dict=AE)/\(a==Ce)=AG:=by
 rcases d with⟨kvs,e⟩|⟨kvs,e⟩
 ·obtain⟨_,hd,vs,_,dd⟩:=F7 I.hok e;refine⟨dd.typeIs,λb q=>?_,hd⟩;cases q;obtain⟨ob,_,_,h1,h2,_⟩:=dd;exact⟨ob,h1,h2.2.1⟩
 ·obtain⟨_,hd,xs,_,dd⟩:=L6 I.hok e;refine⟨dd.typeIs,λb q=>?_,hd⟩;cases q;obtain⟨ob,_,_,h1,h2,_⟩:=dd;exact⟨ob,h1,h2.2.1⟩
section
variable {s:AK} {d:V} {r:AF} {E:AF->AK->Prop}
def b69(hu:A.units+20<CI)(I:Inv X pins σ H s)(g:t9 H a y o)(ry:c9 y u)(rd:c9 d r)(h:∀w' s',Inv X pins σ H s'->c9 (o.getD d) w'->Q w' s'):
  AU (model X.prog X.w) A (call (.builtin "dict.get") [.ref a,u,r]) Q E s:=by
 rcases g with⟨kvs,k,e,ey,l⟩|⟨kvs,k,b,e,ey,eb,l⟩
 ·subst ey;obtain⟨z,hd,vs,rel,dd⟩:=F7 I.hok e;refine call_meetsIn PySem.F.slot_dict_get dd.typeIs PySem.F.entry_dict_get (PySem.F.args_dict_get_3 _ _ _) (meets_dict_get_default (y3 X.prog X.w) a (O9 ry) hd r) ⟨_,dd.mapOf,h _ _ (I.tok _) ?_⟩;rw[l];exact(rel.val k).getD rd
 ·subst ey;cases(show u=An b from ry);obtain⟨z,hd,xs,rel,dd⟩:=L6 I.hok e;refine call_meetsIn PySem.F.slot_dict_get dd.typeIs PySem.F.entry_dict_get (PySem.F.args_dict_get_3 _ _ _) (meetsH_dict_get_default (NK.dataKind X.prog X.w) a b hd r) ⟨NK.dataKind_room_in1 hu,k,xs,B8 I.hok eb,dd,h _ _ (I.tok _) ?_⟩;rw[l];exact(rel.val k).getD rd
end
abbrev cd0(td ty tx:TE):TE:=λσ H Q=>td σ H λx H1=>∃a,x=.ref a/\IsD H1 a/\ty σ H1 λy H2=>tx σ H2 λz H3=>∃o,t9 H3 a y o/\Q (o.getD z) H3
section
variable {o e f:AQ} {apos cpos:Pos} {td ty tx:TE}
def bu7(hu:X.A.units+20<CI)(ho:PE X o td)(he:PE X e ty)(hf:PE X f tx)(m:M2 X o "get" apos e f cpos):PE X (.Call (.Attribute o "get" apos) [e,f] [] cpos) (cd0 td ty tx):=by
 intro pins s σ H Q I h;refine Ip m.base m.few m.line PySem.F.plainAttrs_dict PySem.F.slot_dict_get PySem.F.type_dict_get (thn (ho pins s σ H _ I h) λu s1 z29=>?_);obtain⟨x,H1,I1,rx,a,ex,d,q1⟩:=z29;subst ex;obtain rfl:u=An a:=rx;obtain⟨t1,t2,_⟩:=b80 I1 d;refine⟨t1,t2,?_⟩;rw[m.trees];refine CD rfl (DH (DU (thn (he pins s1 σ H1 _ I1 q1) λiv s2⟨y,H2,I2,ry,q2⟩=>
  DU (thn (hf pins s2 σ H2 _ I2 q2) λfv s3⟨z,H3,I3,rz,ov,g,q3⟩=>Ej ?_))))
 exact b69 hu I3 g ry rz λw' s4 I4 rw'=>⟨_,H3,I4,rw',q3⟩
end
end L2
namespace Att
open PySem PySem.W PySem.Calls PyProof.Rows
def bi5{P:Params}{h:Az}:∀(ns:List Int)(vs:List AF),WellAll P h vs (ns.map JV)->Fg vs ns:=by
 intro ns
 induction ns with
 |nil=>
  intro vs w;rw[Be]at w;cases w;exact .nil
 |cons n ns ih=>
  intro vs w;rw[AY]at w;cases w with
  |cons a b=>
   cases a;exact .cons _ _ (ih _ b)
def bp2{l:OpenLaw}{n:Nat}(hn:l.most=AA n){P:Params}{h:Az}{args:List WData}{vals:List AF}
  (hpre:l.row.toRowW.claim.pre args=AC) (hwl:WellAll P h vals args) :
  ∃a vs ns,vals=[An a]/\args=[WData.list (ns.map JV)]/\h.get? a=AA {cls:=.type "list",data:=.seq vs.toArray}/\Fg vs ns/\ns.length<=n:=by
 have hsh:WShape.hasAll [] args [.list .int]=AC:=(pre_splitW hpre).1;have hc:l.pre.holds [] {args:=args}=AC:=(pre_splitW hpre).2;obtain⟨d,r,rfl,h1,h2⟩:=hasAllW_cons hsh;obtain rfl:=hasAllW_nil h2;obtain⟨xs,rfl,h3⟩:=hasW_list h1;obtain⟨ns,rfl⟩:=items_int h3;have hlen:ns.length<=n:=by
  unfold OpenLaw.pre at hc;have h4:(WTm.not (.lt (.lit (.int (n:Int))) (.len (.arg 0)))).holds [] {args:=[.list (ns.map .int)]}=AC:=by
   have h4:=(holds_andW hc).1;rw[hn]at h4;exact h4
  have h5:=condW_of h4 (w_not (w_lt w_lit (w_len_list (w_arg rfl))));rw[Aj]at h5;refine Hs λq=>?_;have q':(n:Int)<((ns.length:Nat):Int):=by lia
  first
   |(rw[decide_eq_true q']at h5;exact absurd h5 ∅)
   |(simp at h5;lia)
 cases hwl with
 |cons w1 w2=>
  cases w2;cases w1 with
  |list ho hall=>exact⟨_,_,ns,rfl,rfl,ho,bi5 ns _ hall,hlen⟩
def bo3(l:OpenLaw)(args:List WData):l.row.toRowW.claim.post args (.bool AC) args=AC:=
 postW_of (r:=l.row.toRowW) (X:=(AC==AC))
  (show Iq [] (.bool AC) .bool=AC by first|rfl|decide|simp[Iq,WShape.arms,WShape.armsAll])
  (show(WTm.eq .res (.lit (.bool AC))).value [] {args:=args,res:=AA (.bool AC),after:=args}=AA (.bool (AC==AC)) from w_eq_bool (w_res rfl) w_lit) rfl
def attach_call{l:OpenLaw}{n:Nat}{q:Ag}{loose:List Str}{XP:(Str->Option AF)->Az->Prop}{YP:BA->Az->Prop}{d:DefRec}
  (hn:l.most=AA n) (hdf:d.params.defaults=[])
  (call:∀(w:BA)(s₀ s₁:AK)(mg mb:Str->Option AF)(fa:AM)(o:Obj)(pm cd doc:AF)(a:AM)(vs:List AF)(ns:List Int),
   Ground q loose [] XP w s₀ mg mb s₁.heap->YP w s₁.heap ->
   s₁.heap.get? fa=AA o->o.data=.func (docDef d.name d.params d.body d.scope pm cd doc)->s₁.heap.CodeRec cd d.name->mg d.name=AA (.ref fa) ->
   s₁.heap.get? a=AA {cls:=.type "list",data:=.seq vs.toArray}->Fg vs ns->ns.length<=n->s₁.gens=#[] ->
   DN (model l.prog w) GQ (.call (.ref fa) ⟨[.ref a],[]⟩) (λr s'=>r=.ok (.ret (.bool AC))/\OldK s₁.heap s'.heap/\s'.os=s₁.os/\Fb s'.gens) s₁) :
  WalkO q loose XP YP l.row.toRowW d [] (λf vs=>PySem.call f vs):=by
 intro w s₀ s₁ mg mb G Y fa o pm cd doc dV kV ho hd hcd hD hmg hg args vals as hpre hlay hrd hwl hlo;obtain rfl:dV=.none:=Dflts.none hD hdf;obtain rfl:kV=.none:=Dflts.noKw hD;obtain⟨a,vs,ns,rfl,rfl,hobj,hints,hlen⟩:=bp2 hn hpre hwl;refine enter_call (Fe (call w s₀ s₁ mg mb fa o pm cd doc a vs ns G Y ho (fd_plain hd) hcd hmg hobj hints hlen hg) λr s' hq=>?_);obtain⟨rfl,h2,h3,h4⟩:=hq;exact⟨.inl ⟨.bool AC,.bool AC,[],rfl,λ_=>rfl,.bool AC,bo3 l _,λ_=>⟨JO,λ_ hm=>(nomatch hm)⟩⟩,h2,h3,h4⟩
section
variable {prog:Ag} {w:BA} {A:BO} {E:AF->AK->Prop} {s:AK} {K:Frag}
abbrev co9(h:Az)(L d:AM):List (AM×Obj):=(DC h.objs.size).filterMap λa=>if a=L\/a=d then AE else(h.get? a).map λo=>(a,o)
end
end Att
namespace L2
open PySem PySem.Spec PyProof.Rows
theorem ak1:∀{vs:List AF}{ns:List Int},Fg vs ns->c7 (ns.map V.int) vs
 |_,_,.nil=>.nil
 |_,_,.cons n t h=>.cons ⟨t,rfl⟩ (ak1 h)
abbrev B6(s:BQ):Arguments:=match s with
 |.FunctionDef _ a _ _ _ _ _ _ _ _=>a
 |_=>{posonlyargs:=[],args:=[],vararg:=AE,kwonlyargs:=[],kw_defaults:=[],kwarg:=AE,defaults:=[]}
abbrev x9(s:BQ):List BQ:=match s with
 |.FunctionDef _ _ b _ _ _ _ _ _ _=>b
 |_=>[]
abbrev l7(s:BQ):BN:=match s with
 |.FunctionDef _ _ _ _ _ _ sc _ _ _=>sc
 |_=>{kind:=.function,names:=[],isGenerator:=AG,isCoroutine:=AG}
@[reducible]noncomputable def CX0:CXT:=λ_ _ _ _ _ _=>False
@[reducible]noncomputable def E0:XK:=λ_ _ _=>False
def F8{X:Cx}:J6 CX0 X E0:=λ_ _ _ _ _ _ _ h=>h.elim
def ak4{n:Nat}(h:n<=1000):n<sizeLine:=Nat.lt_of_le_of_lt h ∅
variable{scope:BN}{env:Env}{cells:List (Str×AM)}{x:Str}{X:Cx}{Nc:List Str}{fr:List Nat}{C:AM}{pins:List (AM×Obj)}{σ:St}{H:Hp}
def bj3{prog:Ag}{w:BA}{A:BO}{R:Ga->AK->Prop}{s:AK}{elt target iter:AQ}{ifs:List AQ}{pos:Pos}{it acc:AF}(I:Nat->AK->Prop)
  (turn:∀n s,I n s->AU (model prog w) A (IS it) (λr s₁=>match r with
   |none=>R (.ok .next) s₁
   |some v=>AU (model prog w) A (EO target it v) (λ_ s₁'=>AU (model prog w) A (assign target env v) (λ_ s₂=>
     AU (model prog w) A (forIn ifs AC λc r=>if r=AC then do let ok <-GX c env (eval c env);pure (BY ok)else pure (BY r)) (λok s₃=>
      if ok=AC then AU (model prog w) A (eval elt env) (λx s₄=>
       AU (model prog w) A (call (.builtin "list.append") [acc,x]) (λ_ s₅=>∃m,m<n/\I m s₅) (λ_ _=>False) s₄) (λ_ _=>False) s₃
      else ∃m,m<n/\I m s₃) (λ_ _=>False) s₂) (λ_ _=>False) s₁') (λ_ _=>False) s₁) (λ_ _=>False) s)
  (n:Nat) (h:I n s) :
  DN (model prog w) A (.compLoop (.ListComp elt [⟨target,iter,ifs,0⟩] scope pos) 0 it acc env) R s:=by
 refine codeAny_loop rfl I (λn s hI=>?_) n h;show AU _ A ((compTurn (.ListComp elt [⟨target,iter,ifs,0⟩] scope pos) 0 it acc env).onRaise (λx=>do noteFrame x env;theTreesLotGoes x)) _ _ s;refine wpAny_noted ?_;rw[compTurn_list];refine AH (Go (AH (BX (turn n s hI) (λr s₁ h₁=>?_) λ_ _ h'=>h'.elim)));cases r with
 |none=>exact AN h₁
 |some v=>
  refine AH (BX h₁ (λ_ s₁' h₁'=>?_) λ_ _ h'=>h'.elim);refine AH (BX h₁' (λ_ s₂ h₂=>AH (BX h₂ (λok s₃ h₃=>?_) λ_ _ h'=>h'.elim)) λ_ _ h'=>h'.elim);cases ok with
  |false=>exact AN ⟨rfl,h₃⟩
  |true=>
   exact AH (AH (BX h₃ (λx s₄ h₄=>AH (BX h₄ (λ_ s₅ h₅=>AN (AN ⟨rfl,h₅⟩)) λ_ _ h'=>h'.elim)) λ_ _ h'=>h'.elim))
abbrev r9(cells:List (Str×AM)):List (Str×Ei)->List (Str×AM)->List (Str×AM)
 |[],acc=>acc
 |(n,k)::r,acc=>r9 cells r (if k==.free then(match cells.lookup n with|some a=>(n,a)::acc|none=>acc)else acc)
theorem Z8:∀(names:List (Str×Ei))(acc:List (Str×AM)),(∀x∈names,x.2=.free->(env.cells.lookup x.1).isSome=AC) ->
  (forIn names acc λx r=>match x with
   |(name,kind)=>if(kind==BL)=AC then do let a <-Jm env name;pure (BY ((name,a)::r))else pure (BY r):Sem (List (Str×AM)))=pure (r9 env.cells names acc)
 |[],acc,_=>rfl
 |(n,k)::r,acc,h=>by
  have hr:∀x∈r,x.2=.free->(env.cells.lookup x.1).isSome=AC:=λx hx=>h x (BJ _ hx);rw[Hu];cases hk:(k==BL)with
  |false=>
   simp only[hk,Ae,if_false,pure_bind];rw[Z8 r acc hr];simp only[r9,hk,Ae,if_false]
  |true=>
   have hf:k=.free:=by simpa using hk
   obtain⟨a,ha⟩:=BM.mp (h (n,k) Bv hf);have hc:Jm env n=pure a:=by unfold Jm;rw[ha]
   simp only[hk,if_true,hc,pure_bind];rw[Z8 r _ hr];simp only[r9,hk,if_true,ha]
def aj6{env:Env}(h:∀x∈scope.names,x.2=.free->(env.cells.lookup x.1).isSome=AC):closureFor scope env=pure (r9 env.cells scope.names []):=by
 unfold closureFor;have e:=Z8 (env:=env) scope.names [] h;show((forIn scope.names ([]:List (Str×AM)) (λx r=>match x with
   |(name,kind)=>if(kind==BL)=AC then do let a <-Jm env name;pure (BY ((name,a)::r))else pure (BY r)):Sem (List (Str×AM)))>>=λcs=>pure cs)=_
 rw[e];rfl
theorem ao4:∀{names:List (Str×Ei)}{acc:List (Str×AM)}{x:Str}{c:AM},(x,c)∈r9 cells names acc->(x,c)∈acc\/(cells.lookup x=AA c/\(x,BL)∈names)
 |[],acc,x,c,h=>.inl h
 |(n,k)::r,acc,x,c,h=>by
  unfold r9 at h
  rcases ao4 h with h1|⟨h1,h2⟩
  ·cases hk:(k==BL)with
   |false=>simp only[hk,Ae,if_false]at h1;exact .inl h1
   |true=>
    have hf:k=.free:=by simpa using hk
    subst hf;simp only[hk,if_true]at h1;cases hc:cells.lookup n with
    |none=>rw[hc]at h1;exact .inl h1
    |some a=>
     rw[hc]at h1
     rcases AT.mp h1 with e|e
     ·cases e;exact .inr ⟨hc,Bv⟩
     ·exact .inl e
  ·exact .inr ⟨h1,BJ _ h2⟩
theorem am2:∀{names:List (Str×Ei)}{acc:List (Str×AM)}{x:Str}{c:AM},cells.lookup x=AA c->((x,BL)∈names\/(x,c)∈acc)->(x,c)∈r9 cells names acc
 |[],acc,x,c,_,h=>by
  rcases h with h|h
  ·cases h
  ·exact h
 |(n,k)::r,acc,x,c,hc,h=>by
  unfold r9;refine am2 hc ?_
  rcases h with h|h
  ·rcases AT.mp h with e|e
   ·cases e;refine .inr ?_;rw[if_pos ∅,hc];exact Bv
   ·exact .inl e
  ·refine .inr ?_
   split
   ·split
    ·exact BJ _ h
    ·exact h
   ·exact h
def Z6{α:Type}{l:List (Str×α)}{a:α}(h:l.lookup x=AA a):(x,a)∈l:=PySem.mem_of_lookup h
theorem ai4{α:Type}:∀{l:List (Str×α)}{x:Str}{a:α},(x,a)∈l->∃b,l.lookup x=AA b
 |[],_,_,h=>by cases h
 |(y,b)::r,x,a,h=>by
  rw[GF];cases e:x==y with
  |true=>exact⟨b,rfl⟩
  |false=>
   rcases AT.mp h with z|z
   ·cases z;simp at e
   ·exact ai4 z
def E1{names:List (Str×Ei)}{c:AM}(h:(r9 cells names []).lookup x=AA c):cells.lookup x=AA c/\(x,BL)∈names:=by
 rcases ao4 (Z6 h)with z|z
 ·cases z
 ·exact z
def ap2{names:List (Str×Ei)}{c:AM}(h:cells.lookup x=AA c)(hm:(x,BL)∈names):(r9 cells names []).lookup x=AA c:=by
 obtain⟨b,hb⟩:=ai4 (am2 (acc:=[]) h (.inl hm));have:=(E1 hb).1;rw[h]at this;cases this;exact hb
structure CompScope(X:Cx)(scope:BN)(Nc:List Str)(fr:List Nat)(k:Nat):Prop where
 kind:scope.kind=.function
 nocell:∀y∈scope.names,y.2≠.cell
 names:∀y∈scope.names,y.2=.local->scope.names.lookup y.1=AA .local
 frees:∀y∈scope.names,y.2=.free->X.env.scope.names.lookup y.1=AA .cell\/X.env.scope.names.lookup y.1=AA .free
 uniq:∀y∈scope.names,y.2=.free->(y.1,NameKind.local)∉scope.names
 nd:Nc.Nodup
 len:Nc.length=fr.length+k
 fre:∀i x,Nc[i]?=AA x->i<fr.length->∃j,fr[i]?=AA j/\X.N[j]?=AA x/\(x,BL)∈scope.names
abbrev z4(fr:List Nat)(k:Nat)(σ:St):St:=(fr.map λj=>(σ[j]?).join)++Ad k AE
def bj6(h:((relabel scope env).names.lookup x=AA .cell\/(relabel scope env).names.lookup x=AA .free))(hc:∀y∈scope.names,y.2≠.cell):(x,BL)∈scope.names:=by
 have go:∀k,(relabel scope env).names.lookup x=AA k->(k=.cell\/k=.free)->(x,BL)∈scope.names:=by
  intro k hk hkk;have hm:=Z6 hk;unfold relabel at hm;obtain⟨⟨n,k'⟩,h1,h2⟩:=HS.mp hm;dsimp only at h2
  split at h2
  ·rename_i hcond;cases h2;have:k'=.free:=by
    simp only[Aq,beq_iff_eq]at hcond;exact hcond.1.1
   rw[<-this];exact h1
  ·cases h2
   rcases hkk with z|z
   ·exact absurd z (hc _ h1)
   ·rw[<-z];exact h1
 rcases h with h|h
 ·exact go _ h (.inl rfl)
 ·exact go _ h (.inr rfl)
def bk8:∀{k},(relabel scope env).names.lookup x=AA k->∃k',(x,k')∈scope.names/\(k=k'\/(k'=.free/\k=.cell)):=by
 intro k hk;have hm:=Z6 hk;unfold relabel at hm;obtain⟨⟨n,k'⟩,h1,h2⟩:=HS.mp hm;dsimp only at h2
 split at h2
 ·rename_i hcond;cases h2;refine⟨_,h1,.inr ⟨?_,rfl⟩⟩;simp only[Aq,beq_iff_eq]at hcond;exact hcond.1.1
 ·cases h2;exact⟨_,h1,.inl rfl⟩
abbrev Cx.comp(X:Cx)(scope:BN)(Nc:List Str)(C:AM)(fp:List AM)(pins:List (AM×Obj))(s:AK)(H:Hp):Cx:=
 {X with N:=Nc,s₀:=s,H₀:=H,env:=Jn scope (r9 X.env.cells scope.names []) C X.env,outer:=X.stack,stack:=X.stack,ex:=fp,fn:=λ_=>AG,pn:=X.pn++pins,xe:=λ_ _=>False,ow:=λ_=>AG}
def Cx.comp_ok{k:Nat}{fp:List AM}{s:AK}(S:CompScope X scope Nc fr k)(I:Inv X pins σ H s)
  (hC:s.heap.objs.size<=C) (hf:∀b∈fp,t5 X pins H b) (hlt:∀b∈fp,b<s.heap.objs.size):(X.comp scope Nc C fp pins s H).Ok where
 mod:=I.ok.mod
 kind:=S.kind
 glob:=I.ok.glob
 blt:=I.ok.blt
 above:=hC
 inj:=λx y c h1 h2=>I.ok.inj x y c (E1 h1).1 (E1 h2).1
 has:=λx h=>by
  have hm:=bj6 h S.nocell;have hx:=S.frees _ hm rfl;obtain⟨c,hc⟩:=I.ok.has x hx;exact⟨c,ap2 hc hm⟩
 cab:=λx c h _=>h.elim (λz=>nomatch z) λz=>nomatch z
 hd:=I.ok.hd
 frames:=I.ok.frames
 stk:=.inl rfl
 exf:=λb hb=>⟨λz=>by have h1:=hlt b hb;have h2:b=C:=z;rw[h2]at h1;exact absurd h1 (not_lt.mpr hC),λx c h=>(hf b hb).2.2.2.2.1 x c (E1 h).1⟩
 bs:=I.bs
 bsz:=Al I.ok.bsz I.sz
 noex:=λb o e hb=>by
  obtain⟨h0,h1,h2,h3,h4,h5⟩:=hf b hb
  rcases h3 with z|z
  ·exact I.ok.noex b o e z
  ·have:=(I.ok.bs b o e).1;exact absurd (Ah (Av this) z) (CU _)
 exfs:=λb hb z=>by
  obtain⟨h0,h1,h2,_⟩:=hf b hb
  rcases AT.mp (I.stkSub b z)with e|e
  ·exact h1 e
  ·exact h2 e
 funs:=I.stack
 frf:=I.stkFree
def bm9{k:Nat}{fp:List AM}{s:AK}{h1:Az}{tk:Nat}(S:CompScope X scope Nc fr k)(I:Inv X pins σ H s)
  (hC:s.heap.objs.size<=C) (hf:∀b∈fp,t5 X pins H b) (hlt:∀b∈fp,b<s.heap.objs.size) (hk:∀b o,s.heap.get? b=AA o->h1.get? b=AA o) (hn:h1.Ns C (λ_=>AE)) :
  Inv (X.comp scope Nc C fp pins s H) [] (z4 fr k σ) H {s with heap:=h1,toks:=tk}:=by
 have hfC:H C=AE:=I.hok.fresh hC;refine⟨Cx.comp_ok S I hC hf hlt,rfl,I.bare,Un.kept hk,⟨_,hn,λi x v e1 e2 e3=>?_⟩,λx c e=>?_,hfC,λx c e=>(I.freeC x c (E1 e).1).imp id λz=>⟨rfl,z.2⟩,λp hp=>?_,I.hok.kept hk,?_⟩
 ·have hi:i<fr.length:=by
   unfold z4 at e2
   by_cases hi:i<fr.length
   ·exact hi
   ·rw[BU (by simpa using hi),Cr]at e2
    split at e2<;>cases e2
  obtain⟨j,hj,hN,hm⟩:=S.fre i x e1 hi;have e2':σ[j]?=AA (AA v):=by
   unfold z4 at e2;rw[BH (by simpa using hi),CM,hj]at e2;simp only[FM,Bi]at e2;cases q:σ[j]? with
   |none=>rw[q]at e2;cases e2
   |some o=>rw[q]at e2;exact congrArg AA e2
  obtain⟨m,hns,hl⟩:=I.loc;have hvis:Vis X.env.scope x:=by
   rcases S.frees _ hm rfl with z|z
   ·exact .inr (.inl z)
   ·exact .inr (.inr z)
  obtain⟨u,r,l⟩:=hl j x v hN e2' hvis;refine⟨u,r,?_⟩
  rcases l with⟨l1,_⟩|⟨l1,c,lc,lz⟩
  ·exfalso;have l1':X.env.scope.names.lookup x=AA .local:=l1
   rcases S.frees _ hm rfl with z|z
   ·rw[l1']at z;cases z
   ·rw[l1']at z;cases z
  ·refine .inr ⟨?_,c,ap2 lc hm,?_⟩
   ·have e3':Vis (relabel scope X.env) x:=e3
    rcases e3' with z|z|z
    ·exfalso;obtain⟨k',h1,h2⟩:=bk8 z
     rcases h2 with h2|h2
     ·subst h2;exact S.uniq _ hm rfl h1
     ·cases h2.2
    ·exact .inl z
    ·exact .inr z
   ·obtain⟨o,ho,hd⟩:=lz;exact⟨o,hk _ _ ho,hd⟩
 ·obtain⟨v,o,ho,hd⟩:=I.cell x c (E1 e).1;exact⟨v,o,hk _ _ ho,hd⟩
 ·have hp':p∈X.pn++pins:=by
   have:p∈(X.pn++pins)++[]:=hp;simpa using this
  obtain⟨q1,q2,q3,q4,q5⟩:=I.pin p hp';refine⟨hk _ _ q1,q2,λz=>?_,λz=>?_,q5⟩
  ·have h2:p.1=C:=z;have h3:=Av q1;rw[h2]at h3;exact absurd h3 (not_lt.mpr hC)
  ·rcases AT.mp (I.stkSub p.1 z)with e|e
   ·exact q3 e
   ·exact q4 e
 ·unfold z4;rw[AJ,Aj,EB];exact S.len.symm
def bo2{fp:List AM}{pl:List (AM×Obj)}{σc:St}{H':Hp}{s s':AK}(I:Inv X pins σ H s)(hf:∀b∈fp,t5 X pins H b)
  (I':Inv (X.comp scope Nc C fp pins s H) pl σc H' s'):Inv X pins σ H' s':=by
 obtain⟨hh,g,d,t,os'⟩:=s';obtain rfl:os'=s.os:=I'.os;exact I.call (h':=hh) (g':=g) (d':=d) (t':=t) (ch:=fp) I'.base I'.hok I'.bare λb hb=>by
  obtain⟨h0,h1,h2,h3,h4,h5⟩:=hf b hb;exact⟨h3,h1,h4,h5⟩
def aj0{σ0:St}{H0:Hp}{s s0:AK}{h':Az}(I0:Inv X pins σ0 H0 s0)(hC:s0.heap.objs.size<=C)(I:Inv X pins σ H s)(hn:H C=AE)
  (sb:CG C s.heap h'):Inv X pins σ H {s with heap:=h'}:=by
 refine I.turned (t':=s.toks) (it:=C) (λb o hb e=>(sb.2 b hb).trans e) hn ?_ (.inr (Al I0.sz hC)) ?_ ?_
 ·exact λz=>absurd (Ah I0.lt hC) (by rw[z];exact CU _)
 ·intro x c e z;obtain⟨v,q⟩:=I0.cell x c e;exact absurd (Ah q.lt hC) (by rw[z];exact CU _)
 ·intro p hp z;exact absurd (Ah (Av (I0.pin p hp).1) hC) (by rw[z];exact CU _)
abbrev ad9(fr:List Nat)(k:Nat)(wi:TI)(g:TG)(tc:TT)(te:TE)(fin:V->Hp->Prop):St->Hp->Prop:=λσ H=>
 wi σ H λJ H1=>∀p,H1 p=AE->∃W:Nat->Nat->St->Hp->Prop,(∃m,W 0 m (z4 fr k σ) (upd H1 p (.lst [])))/\∀i m σc H2,W i m σc H2 ->
  (J.stop i H2/\fin (.ref p) H2)\/(J.go i H2/\∃N:St->Hp->Prop,(∀σ' H',N σ' H'->∃m',m'<m/\W (i+1) m' σ' H') /\
   ∀x H3,J.yld i H2 x H3->g x σc H3 λσ4 H4=>tc σ4 H4 λb H5=>if b=AC then te σ4 H5 λv H6=>∃ys,H6 p=AA (.lst ys)/\ys.length<sizeLine/\N σ4 (upd H6 p (.lst (ys++[v])))else N σ4 H5)
abbrev PCs(X:Cx)(ifs:List AQ)(t:TT):Prop:=
 ∀(pins:List (AM×Obj))(s:AK)(σ:St)(H:Hp)(Q:Bool->Hp->Prop),Inv X pins σ H s->t σ H Q ->
  AU (model X.prog X.w) X.A (forIn ifs AC λc r=>if r=AC then do let ok <-GX c X.env (eval c X.env);pure (BY ok)else pure (BY r)) (TP X pins σ Q) X.xe s
abbrev cj7:TT:=λ_ H Q=>Q AC H
def b22:PCs X [] cj7:=λ_ _ _ H _ I h=>wpAny_tests_nil ⟨H,I,h⟩
def b46{c:AQ}{t:TT}(hc:PT X c t):PCs X [c] t:=λpins s σ H Q I h=>wpAny_tests_one (hc pins s σ H Q I h)
section
variable {k:Nat} {tg iter elt:AQ} {ifs:List AQ} {wi:TI} {g:TG} {tc:TT} {te:TE} {pos:Pos}
def ai7(hc:X.calm=AC)(S:CompScope X scope Nc fr k)(hg:∀C fp pins s H,PG (X.comp scope Nc C fp pins s H) tg g)(ht:∀C fp pins s H,PCs (X.comp scope Nc C fp pins s H) ifs tc)(he:∀C fp pins s H,PE (X.comp scope Nc C fp pins s H) elt te)
  {pins:List (AM×Obj)} {σ:St} {s2:AK} {H2:Hp} {it:AM} {fp:List AM} {tn:Nat->Az->Prop} {J:It} {fin:V->Hp->Prop} {RR:AF->AM->Ga->AK->Prop} {E:AF->AK->Prop}
  (I2:Inv X pins σ H2 s2) (T:Turn X.prog X.w X.K tg J fp it tn) (st2:tn 0 s2.heap) (f2:∀b∈fp,t5 X pins H2 b)
  (h:∀p,H2 p=AE->∃W:Nat->Nat->St->Hp->Prop,(∃m,W 0 m (z4 fr k σ) (upd H2 p (.lst [])))/\∀i m σc H2,W i m σc H2 ->
   (J.stop i H2/\fin (.ref p) H2)\/(J.go i H2/\∃N:St->Hp->Prop,(∀σ' H',N σ' H'->∃m',m'<m/\W (i+1) m' σ' H') /\
    ∀x H3,J.yld i H2 x H3->g x σc H3 λσ4 H4=>tc σ4 H4 λb H5=>if b=AC then te σ4 H5 λv H6=>∃ys,H6 p=AA (.lst ys)/\ys.length<sizeLine/\N σ4 (upd H6 p (.lst (ys++[v])))else N σ4 H5))
  (hRR:∀(D C:AM)(H':Hp)(s':AK)(s3:AK)(H3:Hp)(m':Str->Option AF),Inv X pins σ H3 s3->s3.heap.objs.size<=C->Inv X pins σ H' s'->H' C=AE->s'.heap.Ns C m'->fin (.ref D) H'->RR (.ref D) C (.ok .next) s') :
  AU (model X.prog X.w) X.A (newList []) (λacc s₃=>AU (model X.prog X.w) X.A (Jo scope X.env.globals (r9 X.env.cells scope.names []) [] X.env.qual AE .none (AA X.env)) (λcenv s₄=>
   DN (model X.prog X.w) X.A (.compStart (.ListComp elt [⟨tg,iter,ifs,0⟩] scope pos) 0 (.ref it) acc {cenv with scope:=relabel scope X.env}) (RR acc cenv.locals) s₄) E s₃) E s2:=by
 have hp:=I2.hok.fresh (Af s2.heap.objs.size);obtain⟨W,⟨m0,w0⟩,turn⟩:=h s2.heap.objs.size hp;refine Bg (Hv S.nocell (by intro y hy;simp at hy) (λh₁ hns₁ hsb₁=>?_) S.kind);dsimp only at hns₁ hsb₁ ⊢;have I3:Inv X pins σ (upd H2 s2.heap.objs.size (.lst [])) {s2 with heap:=s2.heap.push {cls:=.type "list",dict:=AE,data:=.seq ([]:List AF).toArray}}:=
  I2.laid (t':=s2.toks) (λb u e=>AV _ e) (Af _) ⟨Ar _,[],0,.nil,Au _ rfl⟩
 have hlt2:∀b∈fp,b<s2.heap.objs.size:=λb hb=>by
  obtain⟨o,e,_⟩:=T.obj _ _ st2 b hb;exact Av e
 have f3:∀b∈fp,t5 X pins (upd H2 s2.heap.objs.size (.lst [])) b:=λb hb=>by
  obtain⟨q0,q⟩:=f2 b hb;exact⟨by rw[e9 (BZ (hlt2 b hb))];exact q0,q⟩
 generalize hH3:(s2.heap.push {cls:=.type "list",dict:=AE,data:=.seq ([]:List AF).toArray}:Az)=g3 at I3 hns₁ hsb₁ ⊢;have hsz:g3.objs.size=s2.heap.objs.size+1:=by rw[<-hH3,Dh]
 have hlt3:∀b∈fp,b<g3.objs.size:=λb hb=>by rw[hsz];exact FB (hlt2 b hb)
 have k3:∀b o,g3.get? b=AA o->h₁.get? b=AA o:=λb o e=>hsb₁.extBut b o (BZ (Av e)) (AV _ e);have st3:tn 0 g3:=T.keep _ _ _ st2 λb _ o e=>by rw[<-hH3];exact AV _ e
 have st4:tn 0 h₁:=T.keep _ _ _ st3 λb _ o e=>k3 b o e;have I4:Inv (X.comp scope Nc g3.objs.size fp pins {s2 with heap:=g3} (upd H2 s2.heap.objs.size (.lst []))) [] (z4 fr k σ) (upd H2 s2.heap.objs.size (.lst [])) {s2 with heap:=h₁,toks:=s2.toks+([]:List (Str×AF)).length}:=
  bm9 (s:={s2 with heap:=g3}) S I3 (Af _) f3 hlt3 k3 hns₁
 generalize hXc:X.comp scope Nc g3.objs.size fp pins {s2 with heap:=g3} (upd H2 s2.heap.objs.size (.lst []))=Xc at I4;have eA:Xc.A=X.A:=by rw[<-hXc];rfl
 have eP:Xc.prog=X.prog:=by rw[<-hXc];rfl
 have ew:Xc.w=X.w:=by rw[<-hXc];rfl
 have eK:Xc.K=X.K:=by rw[<-hXc];rfl
 have ec:Xc.calm=AC:=by rw[<-hXc];exact hc
 have ee:Xc.env=Jn scope (r9 X.env.cells scope.names []) g3.objs.size X.env:=by rw[<-hXc];rfl
 have ex:Xc.xe=λ_ _=>False:=by rw[<-hXc];rfl
 have T':Turn Xc.prog Xc.w Xc.K tg J fp it tn:=by rw[eP,ew,eK];exact T
 have stat:∀{H':Hp},(∀b∈fp,H' b=AE)->∀b∈fp,t5 Xc [] H' b:=λhn b hb=>by
  obtain⟨q0,q1,q2,q3,q4,q5⟩:=f3 b hb;subst hXc;refine⟨hn b hb,BZ (hlt3 b hb),λz=>?_,.inl hb,λx c e=>q4 x c (E1 e).1,λp hp=>q5 p ?_⟩
  ·rcases AT.mp (I3.stkSub b z)with e|e
   ·exact q1 e
   ·exact q2 e
  ·have:p∈(X.pn++pins)++[]:=hp;simpa using this
 have loop:∀s₃:AK,s₃={s2 with heap:=h₁,toks:=s2.toks+([]:List (Str×AF)).length} ->
   DN (model X.prog X.w) X.A (.compLoop (.ListComp elt [⟨tg,iter,ifs,0⟩] scope pos) 0 (.ref it) (.ref s2.heap.objs.size) (Jn scope (r9 X.env.cells scope.names []) g3.objs.size X.env)) (RR (.ref s2.heap.objs.size) g3.objs.size) s₃:=by
  rintro s₃ rfl;rw[<-ee,<-eA,<-eP,<-ew];refine bj3 (λn s'=>∃i σ' H',Inv Xc [] σ' H' s'/\tn i s'.heap/\(∀b∈fp,H' b=AE)/\W i n σ' H') ?_ m0 ⟨0,_,_,I4,st4,λb hb=>(f3 b hb).1,w0⟩;rintro n s5 ⟨i,σ5,H5,I5,st5,fr5,w5⟩
  rcases turn i n σ5 H5 w5 with⟨stop,qn⟩|⟨go,N,hN,step⟩
  ·refine thn (T'.done Xc rfl rfl rfl ec i [] s5 σ5 H5 _ I5 (stat fr5) st5 stop) λr s6⟨hr,I6⟩=>?_;subst hr;subst hXc;obtain⟨m',hm,_⟩:=id I6.loc;exact hRR _ _ H5 s6 _ _ m' I3 (Af _) (bo2 I3 f3 I6) I6.free hm qn
  ·refine thn (T'.item Xc rfl rfl rfl ec i [] s5 σ5 H5 _ I5 (stat fr5) st5 go) λr s6⟨u,hr,h6⟩=>?_;subst hr;refine thn h6 λ_ s7 z30=>?_;obtain⟨x,H7,I7,r7,y7,st7,fr7⟩:=z30;have I7':=I7.pinned (stat fr7) (T.obj _ _ st7);have hgX:PG Xc tg g:=by rw[<-hXc];exact hg _ _ _ _ _
   have htX:PCs Xc ifs tc:=by rw[<-hXc];exact ht _ _ _ _ _
   have heX:PE Xc elt te:=by rw[<-hXc];exact he _ _ _ _ _
   have again:∀{s9:AK}{σ9:St}{H9:Hp},Inv Xc ([]++O2 fp s7.heap) σ9 H9 s9->N σ9 H9->∃m,m<n/\∃i σ' H',Inv Xc [] σ' H' s9/\tn i s9.heap/\(∀b∈fp,H' b=AE)/\W i m σ' H':=λ{s9 σ9 H9}I9 n9=>by
    obtain⟨m',hm,w9⟩:=hN σ9 H9 n9;refine⟨m',hm,i+1,σ9,H9,I9.unpinned,T.keep _ _ _ st7 λb hb o e=>(I9.pin (b,o) (BD _ (BD _ (R7 hb e)))).1,λb hb=>?_,w9⟩;obtain⟨o,e,d⟩:=T.obj _ _ st7 b hb;exact(I9.pin (b,o) (BD _ (BD _ (R7 hb e)))).2.1
   have hgw:=hgX _ s7 σ5 H7 x u _ I7' r7 (step x H7 y7);rw[ex]at hgw;refine thn hgw λ_ s8 z31=>?_;obtain⟨σ8,H8,I8,q8⟩:=z31;have htw:=htX _ s8 σ8 H8 _ I8 q8;rw[ex]at htw;refine thn htw λok s9⟨H9,I9,q9⟩=>?_;cases ok with
   |false=>
    rw[if_neg AL]at q9 ⊢;exact again I9 q9
   |true=>
    rw[if_pos rfl]at q9 ⊢;have hew:=heX _ s9 σ8 H9 _ I9 q9;rw[ex]at hew;refine thn hew λxv s10 z32=>?_;obtain⟨v,H10,I10,r10,ys,hys,hlen,n10⟩:=z32;have hap:=aj8 (X:=Xc) _ s10 σ8 H10 (.ref s2.heap.objs.size) [v] (.ref s2.heap.objs.size) [xv] (λ_ H11=>N σ8 H11) I10 rfl (.cons r10 .nil) ⟨_,ys,v,rfl,rfl,hys,hlen,n10⟩;rw[ex]at hap;exact thn hap λ_ s11⟨_,H11,I11,_,n11⟩=>again I11 n11
 exact codeAny_compStart_list (loop _ rfl) (T.self _ 0 _ _ _ st4 (loop _ rfl))
def aj1{s:AK}(S:CompScope X scope Nc fr k)(I:Inv X pins σ H s):∀x∈scope.names,x.2=.free->(X.env.cells.lookup x.1).isSome=AC:=λx hx hf=>by
 obtain⟨c,e⟩:=I.ok.has x.1 (S.frees x hx hf);rw[e];rfl
def b21(hc:X.calm=AC)(S:CompScope X scope Nc fr k)(hi:PI X tg iter wi)(hg:∀C fp pins s H,PG (X.comp scope Nc C fp pins s H) tg g)(ht:∀C fp pins s H,PCs (X.comp scope Nc C fp pins s H) ifs tc)(he:∀C fp pins s H,PE (X.comp scope Nc C fp pins s H) elt te)
  (hs:∀x,DD iter X.env x=pure x:=by intro _;rfl):PE X (.ListComp elt [⟨tg,iter,ifs,0⟩] scope pos) (λσ H Q=>ad9 fr k wi g tc te Q σ H):=by
 intro pins s σ H Q I h;rw[eval_ListComp];refine Gu (use:=AE) (cl:=r9 X.env.cells scope.names []) rfl hs (aj6 (aj1 S I)) S.kind S.names ?_;refine thn (hi pins s σ H _ I h) λxv s1 h1=>thn h1 λitv s2 h2=>?_;obtain⟨it,fp,tn,J,H2,e,I2,T,st2,f2,h⟩:=h2;subst e;refine ai7 (RR:=λacc C=>compPost (model X.prog X.w) X.A X.xe AE (EP X pins σ Q) acc C) hc S hg ht he I2 T st2 f2 h ?_;intro D C H' s' s3 H3 m' I3 hC I' hn hns q;exact⟨m',hns,λh' sb=>⟨.ref D,H',aj0 I3 hC I' hn sb,rfl,q⟩⟩
def bm0{i:Nat}{y:Str}{py spos:Pos}(hc:X.calm=AC)(hN:X.N.Nodup)(hiy:X.N[i]?=AA y)(hy:Loc X.env.scope y)(hfy:X.fn y=AC\/X.env.scope.names.lookup y=AA .local)
  (S:CompScope X scope Nc fr k) (hi:PI X tg iter wi) (hg:∀C fp pins s H,PG (X.comp scope Nc C fp pins s H) tg g) (ht:∀C fp pins s H,PCs (X.comp scope Nc C fp pins s H) ifs tc) (he:∀C fp pins s H,PE (X.comp scope Nc C fp pins s H) elt te)
  (hsw:Cu (.ListComp elt [⟨tg,iter,ifs,0⟩] scope pos) (AA (.Name y py)) spos.line X.env=pure AC)
  (hs:∀x,DD iter X.env x=pure x:=by intro _;rfl):PS X (.Assign [.Name y py] (.ListComp elt [⟨tg,iter,ifs,0⟩] scope pos) spos) (λD σ H=>ad9 fr k wi g tc te (λv H'=>D.nx (σ.set i (AA v)) H') σ H):=by
 intro pins s σ H D I h;rw[exec_Assign_Name_used _ _ _ _ hsw];refine AH (Go (AH ?_));show AU _ X.A (do let _ <-comprehension (.ListComp elt [⟨tg,iter,ifs,0⟩] scope pos) scope X.env _ (newList []) AG (eval iter X.env) (AA (assign (.Name y py) X.env))) _ _ s;refine AH (BX (Gu (use:=AA (assign (.Name y py) X.env)) (cl:=r9 X.env.cells scope.names []) (Q:=λ_ s'=>SP X pins D .next s') rfl hs (aj6 (aj1 S I)) S.kind S.names ?_) (λ_ s' hq=>AN (AN hq)) λ_ _ e=>e);refine thn (hi pins s σ H _ I h) λxv s1 h1=>thn h1 λitv s2 h2=>?_;obtain⟨it,fp,tn,J,H2,e,I2,T,st2,f2,h⟩:=h2;subst e;refine ai7 (RR:=λacc C=>compPost (model X.prog X.w) X.A X.xe (AA (assign (.Name y py) X.env)) (λ_ s'=>SP X pins D .next s') acc C) (fin:=λv H'=>D.nx (σ.set i (AA v)) H') hc S hg ht he I2 T st2 f2 h ?_;intro D' C H' s' s3 H3 m' I3 hC I' hn hns q;show AU _ X.A (assign (.Name y py) X.env (.ref D')) _ _ s';obtain⟨oC,es,ep,hoC,hdC,hrest⟩:=id hns;have neL:C≠X.env.locals:=λz=>absurd (Ah I3.lt hC) (by rw[z];exact CU _);have nfs:C∉X.fs:=I3.nofs hC;have I'':Inv X (pins++[(C,oC)]) σ H' s':=I'.pins_of λp hp=>by
  rcases Ax.mp hp with z|z
  ·exact I'.pin p (BD _ z)
  ·have e:p=(C,oC):=by simpa using z
   subst e;exact⟨hoC,hn,neL,nfs,λv z=>by rw[hdC]at z;cases z⟩
 refine Ii (ab3 I'' hN hiy hy (v:=.ref D') rfl (λs'' J''=>?_) hfy);obtain⟨p1,p2,_⟩:=J''.pin (C,oC) ∎;refine⟨m',⟨oC,es,ep,p1,hdC,hrest⟩,λh' sb=>⟨_,H',aj0 I3 hC J''.unpinned p2 sb,q⟩⟩
end
end L2
namespace PySem
section
variable {prog:Ag} {w:BA} {A:BO} {E:AF->AK->Prop} {s:AK}
def bh9{it l:AM}{i:Nat}{items}{x:AF}{Q:AF->AK->Prop}(hit:s.heap.IsTupleIter it l i)
  (hl:s.heap.IsTuple l items) (hx:items[i]?=AA x)
  (hQ:∀h',h'.IsTupleIter it l (i+1)->CG it s.heap h'->Q x {s with heap:=h'}) :
  AU (model prog w) A (By (.ref it)) Q E s:=by
 obtain⟨o,ho,hc,hd⟩:=id hit;obtain⟨ol,hol,_,nl,hdl⟩:=hl;unfold By;refine AH (Cw (name:=AD "__next__") hit.typeIs CZ
  (CJ CZ hit.typeIs GH ?_ (GA _)))
 show AU _ _ (field (.ref it) 0 >>= _) _ _ s;refine AH (Cv ho hd (x:=.ref l) rfl ?_);show AU _ _ (if (An l == Bd)=AC then _ else _) _ _ s;rw [if_neg (show ¬ ((An l == Bd)=AC) from AL)];show AU _ _ (field (.ref it) 1 >>= _) _ _ s;refine AH (Cv ho hd (x:=.int i 0) rfl ?_);show AU _ _ (seqItems? (.ref l) >>= _) _ _ s;refine AH (Cd hol hdl ?_);simp only [FC,hx];refine AH (Jp ho hd ∎ (AN ⟨x,rfl,AN (hQ _ ?_ (Fi ..))⟩));exact ⟨_,EG _ ho (Obj.isFreed_of_fields (HU hd _)),(Obj.cls_mapFields ..).trans hc,by
  rw[HU hd];simp[IU]⟩
def bi0{it l:AM}{i:Nat}{items}{Q:AF->AK->Prop}(hh:A.handled=AE)
  (hit:s.heap.IsTupleIter it l i) (hl:s.heap.IsTuple l items) (hx:items[i]?=AE)
  (hE:∀h' e,Heap.ExtBut it s.heap h'->(∃o,h'.get? e=AA o/\o.cls=.type "StopIteration")->E (.ref e) {s with heap:=h'}) :
  AU (model prog w) A (By (.ref it)) Q E s:=by
 obtain⟨o,ho,hc,hd⟩:=id hit;obtain⟨ol,hol,_,nl,hdl⟩:=hl;unfold By;refine AH (Cw (name:=AD "__next__") hit.typeIs CZ
  (CJ CZ hit.typeIs GH ?_ (GA _)))
 show AU _ _ (field (.ref it) 0>>=_) _ _ s;refine AH (Cv ho hd (x:=.ref l) rfl ?_);show AU _ _ (if(An l==Bd)=AC then _ else _) _ _ s;rw[if_neg (show ¬((An l==Bd)=AC) from AL)];show AU _ _ (field (.ref it) 1>>=_) _ _ s;refine AH (Cv ho hd (x:=.int i 0) rfl ?_);show AU _ _ (seqItems? (.ref l)>>=_) _ _ s;refine AH (Cd hol hdl ?_);simp only[FC,hx];refine AH (IP (AH (Jp ho hd ∎ ?_)));show AU _ _ (newExc (.type "StopIteration") []>>=_) _ _ _;refine AH ?_;simp only[newExc,newTuple];refine AH (Bg ?_ (by size_fits));refine AH (m:=Jq _ _) (wpAny_of_eq (a:=Bd) (by first|rfl|(simp only[Jq];rfl)) ?_);refine Bg ?_ (by size_fits);simp only[raiseNew];refine AH (wpAny_handled ?_)
 first|rw[show A.in1.handled=AE from hh]|rw[hh]
 refine AH (AN (wpAny_throw ?_));exact hE _ _ (((Fi ..).extBut.push _).push _) ⟨_,Au _ rfl,rfl⟩
end
def Draws.tuple{prog:Ag}{w:BA}{A:BO}(hh:A.handled=AE)(it l:AM)(hne:l≠it)(items:Array AF):
  Draws prog w A it [it,l] items.size (λi v=>items[i]?=AA v) (λi h=>h.IsTupleIter it l i/\h.IsTuple l items) where
 live:=λ_ _ st=>let⟨o,ho,_⟩:=st.1;⟨o,ho⟩
 frame:=λ_ _ _ st hk=>⟨st.1.at λo e=>hk it ∎ o e,let⟨o,ho,r⟩:=st.2;⟨o,hk l ∎ o ho,r⟩⟩
 item:=λi s Q E hi st hQ=>by
  refine bh9 st.1 st.2 (x:=items[i]) (by simp[hi]) λh' hit' hs'=>?_;exact hQ _ h' s.toks (by simp[hi]) ⟨hit',st.2.extBut hs'.extBut hne⟩ hs'
 done:=λs Q E st hE=>bi0 hh st.1 st.2 ∎ hE
open AutoSeq1 (wpAny_loadPart') in
def bi1(l:AM)(items:Array AF)(n:Nat)(dct:Option AM)(sl:Array (Option AF)):
  Jr (GR.«enumerate.__new__» ⟨[.type "enumerate",.ref l],[]⟩) (λ_ R s=>s.heap.get? l=AA {cls:=.type "tuple",dict:=dct,data:=.seq items n,slots:=sl} /\
   R (.ok (.ret (.ref (s.heap.push {cls:=.type "tuple_iterator",data:=.fields #[.ref l,.int 0 0]}).objs.size)))
    {s with heap:=(s.heap.push {cls:=.type "tuple_iterator",data:=.fields #[.ref l,.int 0 0]}).push {cls:=.type "enumerate",data:=.fields #[.none,.bool AG,.ref s.heap.objs.size,IU 0,.none,.none]}}):=
 .of_wp λprog w A R s h=>by
  obtain⟨hp,g,d,tk,os⟩:=s;obtain⟨hl,h⟩:=h;have hsub:=sub_enumerate;have hL:Heap.IsTuple (Shared.heap ⟨hp,g,d,tk,os⟩) l items:=⟨_,hl,rfl,n,rfl⟩
  wp_walk using EQ hl
  refine wpAny_stack_any λst=>AN ?_
  split
  ·rename_i c _ _ _ _ _;cases(c==CP "enumerate")
   ·wp_walk using EQ hl,Dn hL
    exact⟨_,rfl,h⟩
   ·wp_walk using EQ hl,Dn hL
    exact⟨_,rfl,h⟩
  ·wp_walk using EQ hl,Dn hL
   exact⟨_,rfl,h⟩
section
variable {prog:Ag} {w:BA} {A:BO} {E:AF->AK->Prop} {s:AK}
def bi2{l:AM}{items:Array AF}{Q:AF->AK->Prop}(hL:s.heap.IsTuple l items)
  (h:∀h',Js h' (s.heap.objs.size+1) s.heap.objs.size 0 .none->h'.IsTupleIter s.heap.objs.size l 0->h'.objs.size=s.heap.objs.size+2 ->
   (∀b o,s.heap.get? b=AA o->h'.get? b=AA o)->Q (.ref (s.heap.objs.size+1)) {s with heap:=h'}) :
  AU (model prog w) A (call (.type "enumerate") [.ref l]) Q E s:=by
 obtain⟨⟨c,dct,dt,sl⟩,hl,hc,n,hd⟩:=hL;replace hc:c=.type "tuple":=hc;replace hd:dt=.seq items n:=hd;subst hc hd;refine callType_new F.called_enumerate ∅ (F.typeCall_enumerate_1 _) (F.newCall_enumerate_1 _) (λobj=>F.args_object_init_2 obj _) F.entry_enumerate_new
  (bi1 l items n dct sl) ⟨hl,?_⟩
 have hz:(s.heap.push {cls:=.type "tuple_iterator",data:=.fields #[.ref l,.int 0 0]}).objs.size=s.heap.objs.size+1:=Dh ..;show _/\_;rw[hz];have he:Js ((s.heap.push {cls:=.type "tuple_iterator",data:=.fields #[.ref l,.int 0 0]}).push
   {cls:=.type "enumerate",data:=.fields #[.none,.bool AG,.ref s.heap.objs.size,IU 0,.none,.none]}) (s.heap.objs.size+1) s.heap.objs.size 0 .none:=by
  have:=Au (s.heap.push {cls:=.type "tuple_iterator",data:=.fields #[.ref l,.int 0 0]})
   (o:={cls:=.type "enumerate",data:=.fields #[.none,.bool AG,.ref s.heap.objs.size,IU 0,.none,.none]}) rfl
  rw[hz]at this;exact this
 refine⟨⟨_,he,rfl⟩,h _ he ⟨_,AV _ (Au _ rfl),rfl,rfl⟩ (by rw[Dh,hz]) λb o x=>AV _ (AV _ x)⟩
end
end PySem
namespace L2
open PySem PySem.Spec PyProof.Rows
variable{pins:List (AM×Obj)}{σ:St}{elts:List AQ}{k0:Nat}{tp:Pos}
section
variable {X:Cx} {H:Hp} {s:AK} {h':Az}
def Inv.turnedNew{t':Nat}{ch:List AM}{o:HO}(I:Inv X pins σ H s)(hch:∀b∈ch,t5 X pins H b)(k:∀b u,b∉ch->s.heap.get? b=AA u->h'.get? b=AA u)(ex:∀b∈ch,∃u,h'.get? b=AA u)
  (new:j2 X.prog X.w (upd H s.heap.objs.size o) h' s.heap.objs.size o):Inv X pins σ (upd H s.heap.objs.size o) {s with heap:=h',toks:=t'}:=by
 have hT:H s.heap.objs.size=AE:=I.hok.fresh (Af _);have neT:∀b u,s.heap.get? b=AA u->b≠s.heap.objs.size:=λb u e=>BZ (Av e);have nch:∀b u,H b=AA u->b∉ch:=λb u e z=>by rw[(hch b z).1]at e;cases e
 refine I.step (g':=s.gens) (d':=s.drawn) (ch:=ch) (λb hb=>?_) (λb u _ _ hc e _=>k b u hc e) (λb u _ _ hc e _=>⟨u.slots,k b u hc e⟩) (λb u _ e n=>by rw[e9 (neT b u e)];exact n)
  (λb u hc e=>⟨u,k b u hc e⟩) (λb xs e=>by rw[e9 (o5 e hT)];exact e) (λb u v e=>by rw[e9 (o5 e hT)];exact e) (λb ps e=>⟨#[],by rw[e9 (o5 e hT),e];simp⟩) (λm hm=>?_) (λb u e=>?_) I.bare
 ·obtain⟨h0,h1,h2,h3,h4,h5⟩:=hch b hb;exact⟨h3,h1,h4,h5⟩
 ·obtain⟨ob,es,ep,ho,r⟩:=hm;exact⟨ob,es,ep,k _ ob (λz=>(hch _ z).2.1 rfl) ho,r⟩
 ·by_cases hb:b=s.heap.objs.size
  ·subst hb;rw[o9]at e;cases e;exact new
  ·rw[e9 hb]at e;refine(I.hok b u e).stay (λc v hc q=>k c v ?_ q) (λc q=>by rw[e9 (o5 q hT)];exact q) λc xs q=>by rw[e9 (o5 q hT)];exact q
   rcases hc with z|z
   ·rw[z];exact nch b u e
   ·exact nch c _ z
def Inv.turnedAll{t':Nat}{ch:List AM}(I:Inv X pins σ H s)(hch:∀b∈ch,t5 X pins H b)(k:∀b u,b∉ch->s.heap.get? b=AA u->h'.get? b=AA u):Inv X pins σ H {s with heap:=h',toks:=t'}:=by
 have nch:∀b u,H b=AA u->b∉ch:=λb u e z=>by rw[(hch b z).1]at e;cases e
 refine I.step (g':=s.gens) (d':=s.drawn) (ch:=ch) (λb hb=>?_) (λb u _ _ hc e _=>k b u hc e) (λb u _ _ hc e _=>⟨u.slots,k b u hc e⟩) (λb u _ e n=>n)
  (λb u hc e=>⟨u,k b u hc e⟩) (λb xs e=>e) (λb u v e=>e) (λb ps e=>⟨#[],by rw[e];simp⟩) (λm hm=>?_) (λb u e=>?_) I.bare
 ·obtain⟨h0,h1,h2,h3,h4,h5⟩:=hch b hb;exact⟨h3,h1,h4,h5⟩
 ·obtain⟨ob,es,ep,ho,r⟩:=hm;exact⟨ob,es,ep,k _ ob (λz=>(hch _ z).2.1 rfl) ho,r⟩
 ·refine(I.hok b u e).stay (λc v hc q=>k c v ?_ q) (λc q=>q) λc xs q=>q
  rcases hc with z|z
  ·rw[z];exact nch b u e
  ·exact nch c _ z
end
abbrev Ite(K:AR)(sq:Hp->List V->Prop):It:=
 ⟨λi H=>∃xs x,sq H xs/\xs[i]?=AA x,λi H x H'=>∃t v,H t=AE/\x=.ref t/\H'=upd H t (.tup [.int i,v])/\∀xs,sq H xs->xs[i]?=AA v,λi H=>∃xs,sq H xs/\xs.length=i⟩
def ak0{P:Ag}{w:BA}{K:AR}{sq:Hp->List V->Prop}{e it:AM}{pit:Nat->Az->Prop}{bad:AM->Prop}
  (hei:e≠it) (iobj:∀i h,pit i h->∃o,h.get? it=AA o/\∀v,o.data≠.cell v) (ikeep:∀i h h',pit i h->(∀o,h.get? it=AA o->h'.get? it=AA o)->pit i h')
  (dr:∀(X:Cx),X.prog=P->X.w=w->X.K=K->X.calm=AC->∀(i:Nat)(pins:List (AM×Obj))(s:AK)(σ:St)(H:Hp)(xs:List V),Inv X pins σ H s->t5 X pins H e->t5 X pins H it->pit i s.heap->(∃old,Js s.heap e it i old)->sq H xs ->
   ∃(its:List AF)(fp:List AM)(Pv:Nat->AF->Prop)(St:Nat->Az->Prop),c7 xs its/\xs.length<=sizeLine/\Draws P w X.A.in1 it fp its.length Pv St/\e∉fp/\St i s.heap/\(∀j v,Pv j v->its[j]?=AA v)/\∀j h,St j h->pit j h)
  (inj:∀(X:Cx)(pins:List (AM×Obj))(s:AK)(σ:St)(H:Hp)(xs ys:List V),X.K=K->Inv X pins σ H s->sq H xs->sq H ys->xs=ys) :
  Turn P w K (.Tuple elts k0 tp) (Ite K sq) [e,it] e (λi h=>(∃old,Js h e it i old)/\pit i h) where
 mem:=by simp
 obj:=λi h st b hb=>by
  rcases AT.mp hb with z|z
  ·subst z;obtain⟨⟨old,he⟩,_⟩:=st;exact⟨_,he,λv z=>by cases z⟩
  ·have z':b=it:=by simpa using z
   subst z';exact iobj i h st.2
 keep:=λi h h' st kk=>by
  obtain⟨⟨old,he⟩,hp⟩:=st;exact⟨⟨old,kk e ∎ _ he⟩,ikeep i h h' hp λo q=>kk it ∎ o q⟩
 item:=by
  intro X hP hw hK hc i pins s σ H E I hf st hg;obtain⟨xs,x,hq,hx⟩:=hg;obtain⟨its,fp,Pv,St,rv,hz,D,hef,hst,hPv,hSt⟩:=dr X hP hw hK hc i pins s σ H xs I (hf e ∎) (hf it ∎) st.2 st.1 hq;obtain⟨⟨old,he⟩,hp⟩:=st;have hi:i<its.length:=by
   rw[<-rv.length];exact(Ao.mp hx).1
  refine wpAny_pyNext_enum_itemD D he hst hi hei hef λy h1 tk hPy ho hst' hT hsz hk=>?_;obtain⟨u,hu,ru⟩:=rv.get hx;have ey:y=u:=by
   have q:=hPv i y hPy;rw[hu]at q;exact(At q).symm
  subst ey;refine⟨_,rfl,?_⟩;have hT':H s.heap.objs.size=AE:=I.hok.fresh (Af _);have elt:e<s.heap.objs.size:=Av he;refine wpAny_letOwnedTupleGo_enum ho λh2 he2 hs2=>?_;have q2:CG e h1 h2:=hs2;have kk:∀b u,b∉[e,it]->s.heap.get? b=AA u->h2.get? b=AA u:=λb u hb q=>by
   have h1':b≠e:=λz=>hb (by simp[z]);have h2':b≠it:=λz=>hb (by simp[z]);exact(q2.2 b h1').trans (hk b u h1' h2' q)
  have hT2:h2.get? s.heap.objs.size=AA {cls:=.type "tuple",data:=.seq #[.int i tk,y]}:=(q2.2 _ (GY elt)).trans hT;have pit2:pit (i+1) h2:=ikeep _ _ _ (hSt _ _ hst') λo q=>(q2.2 it (BK hei)).trans q;have I1:Inv X pins σ (upd H s.heap.objs.size (.tup [.int i,x])) {s with heap:=h2,toks:=tk+1}:=by
   refine I.turnedNew (ch:=[e,it]) hf kk (λb hb=>?_) ?_
   ·rcases AT.mp hb with z|z
    ·exact⟨_,by rw[z];exact he2⟩
    ·have z':b=it:=by simpa using z
     subst z';obtain⟨o,q,_⟩:=iobj _ _ pit2;exact⟨o,q⟩
   ·exact⟨by show 2<=sizeLine;decide,[.int i tk,y],.cons ⟨_,rfl⟩ (.cons ru .nil),⟨_,hT2,rfl,rfl,_,rfl⟩⟩
  refine⟨.ref s.heap.objs.size,_,I1,rfl,⟨s.heap.objs.size,x,hT',rfl,rfl,λys hy=>by rw[inj X pins s σ H ys xs hK I hy hq];exact hx⟩,⟨⟨_,by have:=he2;simpa using this⟩,pit2⟩,λb hb=>?_⟩;have nb:b≠s.heap.objs.size:=by
   rcases AT.mp hb with z|z
   ·rw[z];exact BZ elt
   ·have z':b=it:=by simpa using z
    subst z';obtain⟨o,q,_⟩:=iobj _ _ hp;exact BZ (Av q)
  rw[e9 nb];exact(hf b hb).1
 done:=by
  intro X hP hw hK hc i pins s σ H E I hf st hg;obtain⟨xs,hq,hx⟩:=hg;obtain⟨its,fp,Pv,St,rv,hz,D,hef,hst,hPv,hSt⟩:=dr X hP hw hK hc i pins s σ H xs I (hf e ∎) (hf it ∎) st.2 st.1 hq;obtain⟨⟨old,he⟩,hp⟩:=st;have hi:i=its.length:=by rw[<-rv.length];exact hx.symm
  rw[hi]at hst;refine wpAny_pyNext_enum_endD D he hst λh1 eb=>⟨rfl,?_⟩;exact I.turnedAll (t':=s.toks) (ch:=[e,it]) hf λb u hb q=>eb b u (λz=>hb (by simp[z])) q
 self:=λA i s Q E st h=>by
  obtain⟨⟨old,he⟩,_⟩:=st;exact Fj he h
def U2{h:Az}{a b:AM}{o u:Obj}(ha:h.get? a=AA o)(hb:h.get? b=AA u)(d:o.cls≠u.cls):a≠b:=λz=>by
 subst z;rw[ha]at hb;cases hb;exact d rfl
section
variable {X:Cx}
def bi6:Aw "enumerate"=AA (.type "enumerate"):=by decide+kernel
def ah3:Aw "reversed"=AA (.type "reversed"):=by decide+kernel
def bw2{H1:Hp}{s1:AK}{R:It->Hp->Prop}{l:AM}{xs:List V}{E:AF->AK->Prop}(I1:Inv X pins σ H1 s1)(hq:SqL X.K H1 l xs)(q:R (Ite X.K λH xs=>SqL X.K H l xs) H1):
  AU (model X.prog X.w) X.A (call (.type "enumerate") [.ref l]) (λv s=>AU (model X.prog X.w) X.A (IT v) (PIE X pins σ (.Tuple elts k0 tp) R) E s) E s1:=by
 obtain⟨its,rv,pl,hz⟩:=I1.list hq;refine call_enumerate_list pl.isList λh' he hit hsz kk=>Fj he ?_;have I2:Inv X pins σ H1 {s1 with heap:=h'}:=I1.kept (t':=s1.toks) kk;have hlt:∀b∈[s1.heap.objs.size+1,s1.heap.objs.size],s1.heap.objs.size<=b:=λb hb=>by
  rcases AT.mp hb with z|z
  ·rw[z];exact GN _
  ·have z':b=s1.heap.objs.size:=by simpa using z
   rw[z'];exact Af _
 refine⟨s1.heap.objs.size+1,[s1.heap.objs.size+1,s1.heap.objs.size],_,_,H1,rfl,I2,ak0 (sq:=λH xs=>SqL X.K H l xs) (pit:=λi h=>h.IsListIter s1.heap.objs.size l i) (bad:=λ_=>True) (Fk _) ?_ ?_ ?_ ?_,⟨⟨_,by simpa using he⟩,hit⟩,λb hb=>I1.fpOk (hlt b hb) (I1.hok.fresh (hlt b hb)),q⟩
 ·rintro i h ⟨o,ho,hc,hd⟩;exact⟨o,ho,λv z=>by rw[hd]at z;cases z⟩
 ·exact λi h h' st kk=>st.at kk
 ·intro Y hP hw hK hc i pins s σ H xs I f1 f2 hit he hq;rw[<-hK]at hq;obtain⟨its,rv,pl,hz⟩:=I.list hq;obtain⟨old,he⟩:=he;obtain⟨oi,hoi,hci,hdi⟩:=id hit;obtain⟨ol,nl,hol,hcl,hddl,hdl⟩:=id pl;have n1:l≠s1.heap.objs.size:=U2 hol hoi (by rw[hcl,hci];decide);have n2:s1.heap.objs.size+1≠l:=U2 he hol (by rw[hcl];show CP "enumerate"≠_;decide);refine⟨its,[s1.heap.objs.size,l],(λi v=>its.toArray[i]?=AA v),(λi h=>h.IsListIter s1.heap.objs.size l i/\h.IsList l its.toArray),rv,hz,?_,?_,⟨hit,pl.isList⟩,λj v z=>by simpa using z,λj h z=>z.1⟩
  ·have D:=Draws.list (prog:=X.prog) (w:=X.w) (A:=Y.A.in1) (by exact I.ok.hd hc) s1.heap.objs.size l n1 its.toArray;simpa using D
  ·intro z
   rcases AT.mp z with z|z
   ·exact Fk _ z
   ·exact n2 (by simpa using z)
 ·intro Y pins s σ H xs ys hK I h1 h2;rw[<-hK]at h1 h2;exact I.list_inj h1 h2
def bt5{H1:Hp}{s1:AK}{R:It->Hp->Prop}{l:AM}{xs:List V}{E:AF->AK->Prop}(I1:Inv X pins σ H1 s1)(hq:SqT X.K H1 l xs)(q:R (Ite X.K λH xs=>SqT X.K H l xs) H1):
  AU (model X.prog X.w) X.A (call (.type "enumerate") [.ref l]) (λv s=>AU (model X.prog X.w) X.A (IT v) (PIE X pins σ (.Tuple elts k0 tp) R) E s) E s1:=by
 obtain⟨its,rv,pl,hz⟩:=I1.tuple hq;refine bi2 (show s1.heap.IsTuple l its.toArray from pl) λh' he hit hsz kk=>Fj he ?_;have I2:Inv X pins σ H1 {s1 with heap:=h'}:=I1.kept (t':=s1.toks) kk;have hlt:∀b∈[s1.heap.objs.size+1,s1.heap.objs.size],s1.heap.objs.size<=b:=λb hb=>by
  rcases AT.mp hb with z|z
  ·rw[z];exact GN _
  ·have z':b=s1.heap.objs.size:=by simpa using z
   rw[z'];exact Af _
 refine⟨s1.heap.objs.size+1,[s1.heap.objs.size+1,s1.heap.objs.size],_,_,H1,rfl,I2,ak0 (sq:=λH xs=>SqT X.K H l xs) (pit:=λi h=>h.IsTupleIter s1.heap.objs.size l i) (bad:=λ_=>True) (Fk _) ?_ ?_ ?_ ?_,⟨⟨_,by simpa using he⟩,hit⟩,λb hb=>I1.fpOk (hlt b hb) (I1.hok.fresh (hlt b hb)),q⟩
 ·rintro i h ⟨o,ho,hc,hd⟩;exact⟨o,ho,λv z=>by rw[hd]at z;cases z⟩
 ·exact λi h h' st kk=>st.at kk
 ·intro Y hP hw hK hc i pins s σ H xs I f1 f2 hit he hq;rw[<-hK]at hq;obtain⟨its,rv,pl,hz⟩:=I.tuple hq;obtain⟨old,he⟩:=he;obtain⟨oi,hoi,hci,hdi⟩:=id hit;obtain⟨ol,hol,hcl,nl,hdl⟩:=id pl;have n1:l≠s1.heap.objs.size:=U2 hol hoi (by rw[hcl,hci];decide);have n2:s1.heap.objs.size+1≠l:=U2 he hol (by rw[hcl];show CP "enumerate"≠_;decide);refine⟨its,[s1.heap.objs.size,l],(λi v=>its.toArray[i]?=AA v),(λi h=>h.IsTupleIter s1.heap.objs.size l i/\h.IsTuple l its.toArray),rv,hz,?_,?_,⟨hit,pl⟩,λj v z=>by simpa using z,λj h z=>z.1⟩
  ·have D:=Draws.tuple (prog:=X.prog) (w:=X.w) (A:=Y.A.in1) (by exact I.ok.hd hc) s1.heap.objs.size l n1 its.toArray;simpa using D
  ·intro z
   rcases AT.mp z with z|z
   ·exact Fk _ z
   ·exact n2 (by simpa using z)
 ·intro Y pins s σ H xs ys hK I h1 h2;rw[<-hK]at h1 h2;exact I.tuple_inj h1 h2
abbrev Itv(K:AR)(a:AM)(n:Nat):It:=
 ⟨λi H=>(∃xs,SqL K H a xs/\xs.length=n)/\i<n,λi H x H'=>H'=H/\∀xs,SqL K H a xs->xs[n-1-i]?=AA x,λi H=>(∃xs,SqL K H a xs/\xs.length=n)/\i=n⟩
def bu2{P:Ag}{w:BA}{K:AR}{tg:AQ}(a it:AM)(n:Nat):Turn P w K tg (Itv K a n) [it] it (λi h=>h.IsRevIter it a ((n:Int)-1-(i:Int))) where
 mem:=by simp
 obj:=λi h st b hb=>by
  have e:b=it:=by simpa using hb
  subst e;obtain⟨o,e,c,d⟩:=st;exact⟨o,e,λv z=>by rw[d]at z;cases z⟩
 keep:=λi h h' st k=>st.at λo e=>k it ∎ o e
 item:=by
  intro X hP hw hK hc i pins s σ H E I hf st hg;subst hP hw hK;obtain⟨⟨xs,hq,hn⟩,hi⟩:=hg;subst hn;obtain⟨its,rv,p,hz⟩:=I.list hq;obtain⟨x,hx⟩:∃x,xs[xs.length-1-i]?=AA x:=⟨_,AZ ⋯⟩;obtain⟨u,hu,ru⟩:=rv.get hx;obtain⟨f0,f1,f2,f3,f4,f5⟩:=hf it ∎;have e:(xs.length:Int)-1-(i:Int)=((xs.length-1-i:Nat):Int):=by lia
  rw[e]at st;refine Hf st p.isList (x:=u) (by simpa using hu) λh' st' sb=>?_;have I1:Inv X pins σ H {s with heap:=h'}:=I.turned (t':=s.toks) (λb o hb e=>(sb.2 b hb).trans e) f0 f1 f3 f4 f5;obtain⟨o,e',c,d⟩:=id st';have e2:((xs.length-1-i:Nat):Int)-1=(xs.length:Int)-1-((i+1:Nat):Int):=by lia
  rw[e2]at st';exact⟨u,rfl,V1 (s:={s with heap:=h'}) e' c d ∅ ⟨x,H,I1,ru,⟨rfl,λys hy=>by rw[I.list_inj hy hq];exact hx⟩,st',λb hb=>(hf b hb).1⟩⟩
 done:=by
  intro X hP hw hK hc i pins s σ H E I hf st hg;subst hP hw hK;obtain⟨_,hi⟩:=hg;obtain⟨f0,f1,f2,f3,f4,f5⟩:=hf it ∎;have e:(n:Int)-1-(i:Int)=-1:=by lia
  rw[e]at st;exact Hw (I.ok.hd hc) st λh' eb=>⟨rfl,I.turned (t':=s.toks) (λb o hb e=>eb b o hb e) f0 f1 f3 f4 f5⟩
 self:=λ_ _ _ _ _ st h=>En st h
abbrev cf9(K:AR)(ta:TA):TI:=λσ H R=>ta σ H λvs H1=>∃a xs,vs=[.ref a]/\SqL K H1 a xs/\R (Itv K a xs.length) H1
def b14{tg a:AQ}{ta:TA}{p pos:Pos}(hg:Gl X "reversed")(hm:X.mg "reversed"=AE)(ha:PA X [a] ta)(hs:Ai [a] X.env=[(AG,eval a X.env)]:=by rfl):
  PI X tg (.Call (.Name "reversed" p) [a] [] pos) (cf9 X.K ta):=by
 intro pins s σ H R I h;refine Ij (A5 I hg hm ah3 (BB (thn (ha pos pins s σ H _ I h) λus s1 z33=>?_) hs rfl));obtain⟨vs,H1,I1,r1,q1⟩:=z33;obtain⟨l,xs,e,hq,q⟩:=q1;subst e;obtain⟨u,rfl,ru⟩:=r1.one;cases ru;obtain⟨its,rv,pl,hz⟩:=I1.list hq;refine Ia pl.isList ?_;have hit:(s1.heap.push (HV l ((its.toArray.size:Int)-1))).IsRevIter s1.heap.objs.size l ((xs.length:Int)-1-((0:Nat):Int)):=by
  refine⟨_,Au _ rfl,rfl,?_⟩;have e:((its.toArray.size:Nat):Int)-1=(xs.length:Int)-1-((0:Nat):Int):=by rw[Ab,<-rv.length];lia
  rw[e];rfl
 refine En (s:={s1 with heap:=s1.heap.push (HV l ((its.toArray.size:Int)-1))}) hit ?_;refine⟨s1.heap.objs.size,[s1.heap.objs.size],_,_,H1,rfl,I1.kept (t':=s1.toks) λb o e=>AV _ e,bu2 l _ xs.length,hit,λb hb=>?_,q⟩;have e:b=s1.heap.objs.size:=by simpa using hb
 subst e;exact I1.fpOk (Af _) (I1.hok.fresh (Af _))
def bp0(hc:X.calm=AC):u1 X (.builtin "sum") (λxs H Q=>∃(p:AM)(ns:List Int),xs=[.ref p]/\SqL X.K H p (ns.map V.int)/\Q (.int ns.sum) H):=by
 intro pins s σ H xs us Q I r h;obtain⟨p,ns,rfl,hq,q⟩:=h;obtain⟨u,rfl,ru⟩:=r.one;cases ru;obtain⟨its,rv,pl,hz⟩:=I.list hq;have hi:Fg its ns:=bm5 rv;have hn:=hi.numsOf;obtain⟨zs,ez⟩:=hi.allInts.items;have pl':=pl.isList;rw[ez]at pl';refine PySem.sum_intListG (I.ok.hd hc) pl' λh' tk t' hk=>?_;have e2:ns=zs.toList.map (·.1):=by
  rw[<-hn,<-show its.toArray.toList=its from rfl,ez,nums_intItems]
 rw[preSum_eq,GS ∎];exact⟨.int ns.sum,H,I.kept hk,⟨t',by rw[e2]⟩,q⟩
abbrev ae3(i j:Int):Prop:=0<j/\j.natAbs.log2<9000
def bv9:OpR X (CS .FloorDiv) (rI ae3 λi j=>.int (i / j)):=opI λi j _ _ _ _ _ hc q=>by
 have h1:(0:Int)<j:=hc.1;exact floordiv_int ⋯ (by rw[Int.fdiv_eq_ediv_of_nonneg i ⋯];exact q) (.inl (PyProof.noPylong_of_log2 hc.2))
abbrev ci7(K:AR):R2:=λx y H Q=>∃a b xs ys,x=.ref a/\y=.ref b/\SqT K H a xs/\SqT K H b ys/\xs.length+ys.length<=sizeLine /\
 (xs=[]->Q (.ref b) H)/\(xs≠[]->ys=[]->Q (.ref a) H)/\(xs≠[]->ys≠[]->∀p,H p=AE->Q (.ref p) (upd H p (.tup (xs++ys))))
def bx6:OpR X (CS .Add) (ci7 X.K):=by
 intro pins s σ H x y v u Q I rx ry h;obtain⟨a,b,xs,ys,rfl,rfl,ha,hb,hz,q0,q1,q2⟩:=h
 by_cases hx:xs=[]
 ·subst hx;cases rx;cases ry;obtain⟨its,r1,p1,_⟩:=I.tuple ha;obtain⟨its2,r2,p2,_⟩:=I.tuple hb;cases r1;obtain⟨⟨cls,dd,data,sl⟩,ho,hc,n,hd⟩:=id p1;obtain⟨⟨cls2,dd2,data2,sl2⟩,ho2,hc2,n2,hd2⟩:=id p2;simp only at hc hd hc2 hd2;subst hc hd hc2 hd2;exact HL ⟨_,ho,rfl⟩ ⟨_,ho2,rfl⟩ Fy Gq PySem.F.slot_tuple_add PySem.F.entry_tuple_add (PySem.F.args_tuple_add_2 _ _)
   (tuple_addW0 a b #[] its2.toArray n n2 dd dd2 sl sl2 ∎) ⟨ho,ho2,⟨.ref b,H,I,rfl,q0 rfl⟩⟩
 ·exact bx0 pins s σ H _ _ v u Q I rx ry ⟨a,b,xs,ys,rfl,rfl,ha,hb,hx,hz,q1 hx,q2 hx⟩
end
end L2
namespace Ek
open PySem PySem.Spec PyProof.Rows L2
set_option genInjectivity false
inductive Tg where
 |n (i:Nat)|tup (is:List Nat)
mutual
inductive E where
 |non|bl (b:Bool)|int (i:Int)|str (x:Str)
 |v (i:Nat)
 |tup (es:Es)|lst (es:Es)
 |bin (o:EF) (a b:E)
 |neg (a:E)
 |cmp (o:Dc) (a b:E)
 |isN (a:E)
 |and (a b:E)|or (a b:E)|not (a:E)
 |ite (c a b:E)
 |ix (a b:E)
 |sl (a lo hi:E)
 |dsel (ks:List Str) (vs:Es) (k:E)
 |gsel (g:Str) (k:E)
 |len (a:E)|abs (a:E)|toInt (a:E)|sum (a:E)|list (a:E)|tuple (a:E)
 |max (a b:E)
 |call (f:Str) (es:Es)|gf (f:Str)|callv (i:Nat) (es:Es)|dict (ks:List Str) (vs:Es)|isT (t:String) (a:E)
 |fld (a:E) (f:Str)|meth (a:E) (m:Str) (es:Es)|make (c:Str) (es:Es)
 |app (a b:E)|ext (a b:E)|popAt (a b:E)|pop (a:E)|index (a b:E)
 |gc (g:Str)|lrl (a:E)
 |cat (a b:E)|ssl (a lo hi:E)|slen (a:E)|tstr (a:E)|sint (a:E)|sin (ne:Bool) (a b:E)|join (a b:E)|sgt (a k d:E)|isC (c:Str) (a:E)|gnin (a:E) (g:Str)
 |comp (Nc:List Str) (fr:List Nat) (k:Nat) (t:Tg) (it:It) (c:E) (e:E)
inductive Es where
 |nil|cons (e:E) (r:Es)
inductive It where
 |seq (e:E)|rng (a:E)|rng2 (a b:E)|enum (e:E)|rev (e:E)
end
mutual
inductive S where
 |set (i:Nat) (e:E)
 |put (o i v:E)
 |pre (i:Nat)
 |fldS (o:E) (f:Str) (v:E)
 |ex (e:E)
 |iff (c:E) (a b:Ss)
 |ret (e:E)|retN
 |for (t:Tg) (it:It) (b:Ss)
 |while (c:E) (b:Ss)
 |cont|pass|dead
inductive Ss where
 |nil|cons (s:S) (r:Ss)
end
abbrev Es.len:Es->Nat
 |.nil=>0
 |.cons _ r=>r.len+1
set_option genInjectivity true
inductive D where
 |non|bl (b:Bool)|int (i:Int)|str (x:Str)|tup (ds:List D)|ref (a:AM)|fn (f:Str)|clo (np:Nat) (N:List Str) (b:Ss) (cs:List D)|ktup (ns:List Int)
inductive Ob where
 |lst (ds:List D)|fro (ds:List D)|dct (kvs:List (Key×D))|dtt (kvs:List (Am×D))|ins (c:Str) (fs:List (Str×D))
@[reducible]noncomputable def Sto:=AM->Option Ob
@[reducible]noncomputable def d8:=List (Option D)
@[reducible]noncomputable def DK:=D->Sto->Prop
@[reducible]noncomputable def DT:=d8->Sto->DK->Prop
@[reducible]noncomputable def DB:=d8->Sto->(Bool->Sto->Prop)->Prop
@[reducible]noncomputable def DA:=d8->Sto->(List D->Sto->Prop)->Prop
abbrev b0(st:Sto)(a:AM)(o:Ob):Sto:=λb=>if b=a then AA o else st b
def b7{st:Sto}{a:AM}{o:Ob}:b0 st a o a=AA o:=by unfold b0;rw[if_pos rfl]
def g6{st:Sto}{a b:AM}{o:Ob}(h:b≠a):b0 st a o b=st b:=by unfold b0;rw[if_neg h]
abbrev rdS(st:Sto)(a:AM)(ds:List D):Prop:=st a=AA (.lst ds)\/st a=AA (.fro ds)
abbrev Sub(st st':Sto):Prop:=∀a o,st a=AA o->st' a=AA o
def Sub.refl(st:Sto):Sub st st:=λ_ _ h=>h
mutual
noncomputable def D.py:D->Am
 |.non=>.none|.bl b=>.bool b|.int i=>.int i|.str x=>.str x|.tup ds=>.tuple (D.pys ds)|.ref _=>.none|.fn _=>.none|.clo _ _ _ _=>.none|.ktup _=>.none
noncomputable def D.pys:List D->List Am
 |[]=>[]
 |d::r=>d.py::D.pys r
end
mutual
noncomputable def D.pure:D->Bool
 |.tup ds=>D.pures ds
 |.ref _=>AG
 |.fn _=>AG
 |.clo _ _ _ _=>AG
 |.ktup _=>AG
 |.str x=>EA (.str x)
 |_=>AC
noncomputable def D.pures:List D->Bool
 |[]=>AC
 |d::r=>d.pure&&D.pures r
end
abbrev deq(d e:D):Bool:=Ak d.py e.py
abbrev f8(d:D):Nat:=d.py.depth
@[reducible]noncomputable def Spec:=List D->Sto->DK->Prop
structure Sg where
 F:Str->Bool
 Phi:Str->Spec
 G:Str->List (Str×D)
 C:Str->List Str
 Mk:Str->Spec
 MF:Str->Bool
 PhiC:Nat->List Str->Ss->List D->Spec
 Kc:Str->Option D
@[inline]def d3(c m:Str):Str:=⟨c.cps++#[46]++m.cps⟩
abbrev M0(C:Str->List Str)(f:Str):Option Int:=match C ⟨#[33]++f.cps⟩with
 |[]=>AE
 |_::l=>AA (l.length:Nat)
abbrev F4(f:Str)(d:D):List (Str×D)->List (Str×D)
 |[]=>[(f,d)]
 |(g,e)::r=>if g=f then(g,d)::r else(g,e)::F4 f d r
abbrev P2(Z:Sg)(ta:Sto->(List D->Sto->Prop)->Prop)(st:Sto)(Q:DK):D->Prop
 |.fn f=>Z.F f=AC/\ta st λds st1=>Z.Phi f ds st1 Q
 |.clo np N b cs=>ta st λds st1=>Z.PhiC np N b cs ds st1 Q
 |_=>False
abbrev F0(i j:Int):Prop:=ag1 i j\/(i.natAbs<2^20000/\j.natAbs<2^20000)
abbrev u2(kvs:List (Key×D))(k:Key):Option D:=(kvs.find? λkv=>AB (kv.1=k)).map (·.2)
abbrev t4:EF->D->D->Sto->DK->Prop
 |.Add,.int i,.int j,st,Q=>Q (.int (i+j)) st
 |.Add,.tup xs,.tup ys,st,Q=>xs.length+ys.length<=sizeLine/\Q (.tup (xs++ys)) st
 |.Add,.ref a,.ref b,st,Q=>∃xs ys,st a=AA (.lst xs)/\st b=AA (.lst ys)/\xs.length+ys.length<=sizeLine/\∀p,st p=AE->Q (.ref p) (b0 st p (.lst (xs++ys)))
 |.Sub,.int i,.int j,st,Q=>Q (.int (i-j)) st
 |.Mult,.int i,.int j,st,Q=>F0 i j/\Q (.int (i*j)) st
 |.Mult,.tup xs,.int k,st,Q=>xs≠[]/\1<=k/\k<2^62/\xs.length*k.toNat<=sizeLine/\Q (.tup (Ad k.toNat xs).flatten) st
 |.Mod,.int i,.int j,st,Q=>0<j/\Q (.int (i % j)) st
 |.FloorDiv,.int i,.int j,st,Q=>ae3 i j/\Q (.int (i / j)) st
 |.Pow,.int i,.int j,st,Q=>af4 i j/\Q (.int (i^j.toNat)) st
 |_,_,_,_,_=>False
abbrev j3:Dc->D->D->Sto->DK->Prop
 |.Eq,x,y,st,Q=>x.pure=AC/\y.pure=AC/\Di (f8 x) (f8 y)<=150/\Q (.bl (deq x y)) st
 |.NotEq,x,y,st,Q=>x.pure=AC/\y.pure=AC/\Di (f8 x) (f8 y)<=150/\Q (.bl (!deq x y)) st
 |.Lt,.int i,.int j,st,Q=>Q (.bl (AB (i<j))) st
 |.LtE,.int i,.int j,st,Q=>Q (.bl (AB (i<=j))) st
 |.Gt,.int i,.int j,st,Q=>Q (.bl (AB (j<i))) st
 |.GtE,.int i,.int j,st,Q=>Q (.bl (AB (j<=i))) st
 |.In,x,.tup ys,st,Q=>x.pure=AC/\D.pures ys=AC/\f8 x<=150/\Q (.bl (ys.any λy=>deq y x)) st
 |.NotIn,x,.tup ys,st,Q=>x.pure=AC/\D.pures ys=AC/\f8 x<=150/\Q (.bl (!ys.any λy=>deq y x)) st
 |.In,.int i,.ktup ns,st,Q=>Q (.bl (AB (i∈ns))) st
 |.In,.str w,.ref a,st,Q=>∃kvs,st a=AA (.dct kvs)/\Q (.bl (u2 kvs (.inr w)).isSome) st
 |.NotIn,.str w,.ref a,st,Q=>∃kvs,st a=AA (.dct kvs)/\Q (.bl (!(u2 kvs (.inr w)).isSome)) st
 |.In,.int i,.ref a,st,Q=>∃kvs,st a=AA (.dct kvs)/\Q (.bl (u2 kvs (.inl i)).isSome) st
 |.NotIn,.int i,.ref a,st,Q=>∃kvs,st a=AA (.dct kvs)/\Q (.bl (!(u2 kvs (.inl i)).isSome)) st
 |_,_,_,_,_=>False
abbrev ixR:D->D->Sto->DK->Prop
 |.tup ds,.int i,st,Q=>∃d,atI ds i=AA d/\Q d st
 |.ref a,.int i,st,Q=>(∃ds d,rdS st a ds/\atI ds i=AA d/\Q d st)\/∃kvs d,st a=AA (.dct kvs)/\u2 kvs (.inl i)=AA d/\Q d st
 |.ref a,.str w,st,Q=>∃kvs d,st a=AA (.dct kvs)/\u2 kvs (.inr w)=AA d/\Q d st
 |.str w,.int i,st,Q=>∃c,w.length<=sizeLine/\atI w.cps.toList i=AA c/\Q (.str ⟨#[c]⟩) st
 |_,_,_,_=>False
abbrev z5(xs:List D)(lo hi:Option Int):List D:=(xs.drop (HT.sIx xs.length 0 lo)).take (HT.sIx xs.length xs.length hi-HT.sIx xs.length 0 lo)
abbrev slR:D->Option Int->Option Int->Sto->DK->Prop
 |.tup ds,lo,hi,st,Q=>¬(HT.sIx ds.length 0 lo=0/\HT.sIx ds.length ds.length hi=ds.length)/\Q (.tup (z5 ds lo hi)) st
 |.ref a,lo,hi,st,Q=>∃ds,rdS st a ds/\∀p,st p=AE->Q (.ref p) (b0 st p (.lst (z5 ds lo hi)))
 |_,_,_,_,_=>False
abbrev i7:List (Str×D)->Str->Option D
 |[],_=>AE
 |(k,d)::r,x=>if k=x then AA d else i7 r x
abbrev M7:D->Sto->DK->Prop
 |.tup ds,st,Q=>Q (.int ds.length) st
 |.ref a,st,Q=>∃ds,rdS st a ds/\Q (.int ds.length) st
 |_,_,_=>False
abbrev O0:D->Sto->DK->Prop
 |.bl b,st,Q=>Q (.int (if b then 1 else 0)) st
 |.int i,st,Q=>Q (.int i) st
 |_,_,_=>False
abbrev U9:D->Sto->DK->Prop
 |.tup ds,st,Q=>∀p,st p=AE->Q (.ref p) (b0 st p (.lst ds))
 |.ref a,st,Q=>∃ds,rdS st a ds/\∀p,st p=AE->Q (.ref p) (b0 st p (.lst ds))
 |_,_,_=>False
abbrev J3:D->Sto->DK->Prop
 |.tup ds,st,Q=>Q (.tup ds) st
 |.ref a,st,Q=>∃ds,rdS st a ds/\Q (.tup ds) st
 |_,_,_=>False
abbrev V9:D->Sto->DK->Prop
 |.ref a,st,Q=>∃ns:List Int,rdS st a (ns.map D.int)/\Q (.int ns.sum) st
 |_,_,_=>False
abbrev as3:D->Sto->DK->Prop
 |.ref a,st,Q=>∃ds,rdS st a ds/\Q (.bl AC) st
 |_,_,_=>False
abbrev ad6:D->D->Sto->DK->Prop
 |.ref a,.int i,st,Q=>(-(2^62)<=i/\i<2^62)/\∃ds k d,st a=AA (.lst ds)/\ixN ds.length i=AA k/\ds[k]?=AA d/\Q d (b0 st a (.lst (ds.eraseIdx k)))
 |_,_,_,_=>False
abbrev Q0:D->Sto->DK->Prop
 |.ref a,st,Q=>∃ds d,st a=AA (.lst (ds++[d]))/\Q d (b0 st a (.lst ds))
 |_,_,_=>False
abbrev cn6:D->Option Int->Option Int->Sto->DK->Prop
 |.tup ds,lo,hi,st,Q=>Q (.tup (z5 ds lo hi)) st
 |_,_,_,_,_=>False
abbrev ah1:D->Sto->Prop
 |.ref a,st=>∃kvs,st a=AA (.dct kvs)
 |_,_=>False
abbrev M5(ne:Bool)(x y:D)(st:Sto)(Q:DK):Prop:=∃c w,x=.str ⟨#[c]⟩/\y=.str w/\Q (.bl (ne != AB (c∈w.cps.toList))) st
abbrev U4(z:Str)(y:D)(st:Sto)(Q:DK):Prop:=∃p ts,y=.ref p/\rdS st p (ts.map D.str)/\Ib z ts=AC/\Q (.str (Ic z ts)) st
abbrev ag7:D->D->D->Sto->DK->Prop
 |.ref a,.str w,d,st,Q=>∃kvs,st a=AA (.dct kvs)/\Q ((u2 kvs (.inr w)).getD d) st
 |_,_,_,_,_=>False
abbrev ag8(c:Str):D->Sto->DK->Prop
 |.tup _,st,Q=>Q (.bl AG) st
 |.ref a,st,Q=>∃fs,st a=AA (.ins c fs)/\Q (.bl AC) st
 |_,_,_=>False
abbrev P7:D->Sto->DK->Prop
 |.ref a,st,Q=>∃ds,rdS st a ds/\ds.length<=1000000/\∀p,st p=AE->Q (.ref p) (b0 st p (.lst ds.reverse))
 |_,_,_=>False
abbrev V8:D->D->Sto->DK->Prop
 |.ref a,d,st,Q=>∃ds,st a=AA (.lst ds)/\ds.length<sizeLine/\Q .non (b0 st a (.lst (ds++[d])))
 |_,_,_,_=>False
abbrev V4:D->D->Sto->DK->Prop
 |.ref a,.ref b,st,Q=>∃ds es,st a=AA (.lst ds)/\st b=AA (.lst es)/\ds.length+es.length<=sizeLine/\Q .non (b0 st a (.lst (ds++es)))
 |.ref a,.tup es,st,Q=>∃ds,st a=AA (.lst ds)/\ds.length+es.length<=sizeLine/\Q .non (b0 st a (.lst (ds++es)))
 |_,_,_,_=>False
abbrev E7:D->D->Sto->DK->Prop
 |.ref a,x,st,Q=>∃ds,rdS st a ds/\x.pure=AC/\D.pures ds=AC/\f8 x<=150/\∃(j:Nat)(d:D),ds[j]?=AA d/\deq d x=AC/\(∀(i:Nat)e,i<j->ds[i]?=AA e->deq e x=AG)/\Q (.int (j:Int)) st
 |.tup ds,x,st,Q=>x.pure=AC/\D.pures ds=AC/\f8 x<=150/\∃(j:Nat)(d:D),ds[j]?=AA d/\deq d x=AC/\(∀(i:Nat)e,i<j->ds[i]?=AA e->deq e x=AG)/\Q (.int (j:Int)) st
 |_,_,_,_=>False
abbrev u6:D->Sto->Prop
 |.ref a,st=>∃ds,rdS st a ds
 |_,_=>False
abbrev Q3:D->Sto->Prop
 |.tup _,_=>True
 |.ref a,st=>∃ds,rdS st a ds
 |_,_=>False
abbrev tyD:D->Sto->Option String
 |.non,_=>AA "NoneType"|.bl _,_=>AA "bool"|.int _,_=>AA "int"|.str _,_=>AA "str"|.tup _,_=>AA "tuple"
 |_,_=>AE
abbrev ae6(t:String)(d:D)(st:Sto)(Q:DK):Prop:=(∃ty,tyD d st=AA ty/\Q (.bl (ty==t||(ty=="bool"&&t=="int"))) st)\/∃a ds,d=.ref a/\rdS st a ds/\Q (.bl (t=="list")) st
abbrev E9:d8->List Nat->List D->d8
 |env,i::is,d::ds=>E9 (env.set i (AA d)) is ds
 |env,_,_=>env
abbrev B0:Tg->D->d8->(d8->Prop)->Prop
 |.n i,d,env,k=>k (env.set i (AA d))
 |.tup is,d,env,k=>∃ds,d=.tup ds/\ds.length=is.length/\k (E9 env is ds)
abbrev k8(lo:Int)(n:Nat):List D:=(DC n).map λi=>.int (lo+(i:Nat))
abbrev j7:Nat->List D->List D
 |_,[]=>[]
 |i,d::ds=>.tup [.int i,d]::j7 (i+1) ds
abbrev r8(chk:Sto->Prop)(t:Tg)(tc:DB)(te:DT)(Q:List D->Sto->Prop):List D->List D->d8->Sto->Prop
 |[],acc,_,st=>chk st/\Q acc st
 |d::ds,acc,env,st=>chk st/\B0 t d env λenv'=>tc env' st λb st1=>
   if b=AC then te env' st1 λv st2=>r8 chk t tc te Q ds (acc++[v]) env' st2
   else r8 chk t tc te Q ds acc env' st1
abbrev E5(fr:List Nat)(k:Nat)(env:d8):d8:=(fr.map λj=>(env[j]?).join)++Ad k AE
abbrev E.isNon:E->Bool
 |.non=>AC
 |_=>AG
@[reducible]noncomputable def ItK:=List D->(Sto->Prop)->Sto->Prop
mutual
noncomputable def wpE(Z:Sg):E->DT
 |.non=>λ_ st Q=>Q .non st
 |.bl b=>λ_ st Q=>Q (.bl b) st
 |.int i=>λ_ st Q=>Q (.int i) st
 |.str x=>λ_ st Q=>Q (.str x) st
 |.v i=>λenv st Q=>∃d,env[i]?=AA (AA d)/\Q d st
 |.tup es=>λenv st Q=>k7 Z es env st λds st1=>Q (.tup ds) st1
 |.lst es=>λenv st Q=>k7 Z es env st λds st1=>∀p,st1 p=AE->Q (.ref p) (b0 st1 p (.lst ds))
 |.bin o a b=>λenv st Q=>wpE Z a env st λx st1=>wpE Z b env st1 λy st2=>t4 o x y st2 Q
 |.neg a=>λenv st Q=>wpE Z a env st λx st1=>∃i,x=.int i/\Q (.int (-i)) st1
 |.cmp o a b=>λenv st Q=>wpE Z a env st λx st1=>wpE Z b env st1 λy st2=>j3 o x y st2 Q
 |.isN a=>λenv st Q=>wpE Z a env st λx st1=>(x=.non/\Q (.bl AC) st1)\/(x≠.non/\Q (.bl AG) st1)
 |.and a b=>λenv st Q=>wpE Z a env st λx st1=>∃c,x=.bl c/\(if c=AC then wpE Z b env st1 Q else Q (.bl AG) st1)
 |.or a b=>λenv st Q=>wpE Z a env st λx st1=>∃c,x=.bl c/\(if c=AC then Q (.bl AC) st1 else wpE Z b env st1 Q)
 |.not a=>λenv st Q=>wpE Z a env st λx st1=>∃c,x=.bl c/\Q (.bl (!c)) st1
 |.ite c a b=>λenv st Q=>wpE Z c env st λx st1=>∃k,x=.bl k/\(if k=AC then wpE Z a env st1 Q else wpE Z b env st1 Q)
 |.ix a b=>λenv st Q=>wpE Z a env st λx st1=>wpE Z b env st1 λy st2=>ixR x y st2 Q
 |.sl a lo hi=>λenv st Q=>wpE Z a env st λx st1=>
   (if lo.isNon=AC then λk=>k AE st1 else λ(k:Option Int->Sto->Prop)=>wpE Z lo env st1 λd st'=>∃i,d=.int i/\k (AA i) st') λl st2=>
   (if hi.isNon=AC then λk=>k AE st2 else λ(k:Option Int->Sto->Prop)=>wpE Z hi env st2 λd st'=>∃i,d=.int i/\k (AA i) st') λh st3=>slR x l h st3 Q
 |.dsel ks vs k=>λenv st Q=>k7 Z vs env st λds st1=>wpE Z k env st1 λx st2=>∃w d,x=.str w/\i7 (ks.zip ds) w=AA d/\Q d st2
 |.gsel g k=>λenv st Q=>Z.G g≠[]/\wpE Z k env st λx st1=>∃w d,x=.str w/\i7 (Z.G g) w=AA d/\Q d st1
 |.len a=>λenv st Q=>wpE Z a env st λx st1=>M7 x st1 Q
 |.abs a=>λenv st Q=>wpE Z a env st λx st1=>∃i,x=.int i/\Q (.int (if i<0 then -i else i)) st1
 |.toInt a=>λenv st Q=>wpE Z a env st λx st1=>O0 x st1 Q
 |.sum a=>λenv st Q=>wpE Z a env st λx st1=>V9 x st1 Q
 |.list a=>λenv st Q=>wpE Z a env st λx st1=>U9 x st1 Q
 |.tuple a=>λenv st Q=>wpE Z a env st λx st1=>J3 x st1 Q
 |.max a b=>λenv st Q=>wpE Z a env st λx st1=>wpE Z b env st1 λy st2=>∃i j,x=.int i/\y=.int j/\Q (.int (if j>i then j else i)) st2
 |.call f es=>λenv st Q=>Z.F f=AC/\k7 Z es env st λds st1=>Z.Phi f ds st1 Q
 |.gf f=>λ_ st Q=>Z.F f=AC/\Q (.fn f) st
 |.callv i es=>λenv st Q=>∃x,env[i]?=AA (AA x)/\P2 Z (k7 Z es env) st Q x
 |.gc g=>λ_ st Q=>∃d,Z.Kc g=AA d/\Q d st
 |.dict ks vs=>λenv st Q=>k7 Z vs env st λds st1=>∀p,st1 p=AE->Q (.ref p) (b0 st1 p (.dct ((ks.zip ds).map λkv=>(.inr kv.1,kv.2))))
 |.isT t a=>λenv st Q=>wpE Z a env st λx st1=>ae6 t x st1 Q
 |.fld a f=>λenv st Q=>wpE Z a env st λx st1=>∃p c fs d,x=.ref p/\st1 p=AA (.ins c fs)/\f∈Z.C c/\fs.lookup f=AA d/\Q d st1
 |.meth a m es=>λenv st Q=>wpE Z a env st λx st1=>∃p c fs,x=.ref p/\st1 p=AA (.ins c fs)/\fs.lookup m=AE/\Z.F (d3 c m)=AC/\k7 Z es env st1 λds st2=>Z.Phi (d3 c m) (.ref p::ds) st2 Q
 |.make c es=>λenv st Q=>Z.MF (d3 c "__init__")=AC/\k7 Z es env st λds st1=>∀p,st1 p=AE->Z.Mk (d3 c "__init__") (.ref p::ds) (b0 st1 p (.ins c [])) λv st2=>v=.non/\Q (.ref p) st2
 |.app a b=>λenv st Q=>wpE Z a env st λx st1=>u6 x st1/\wpE Z b env st1 λy st2=>V8 x y st2 Q
 |.ext a b=>λenv st Q=>wpE Z a env st λx st1=>u6 x st1/\wpE Z b env st1 λy st2=>V4 x y st2 Q
 |.popAt a b=>λenv st Q=>wpE Z a env st λx st1=>u6 x st1/\wpE Z b env st1 λy st2=>ad6 x y st2 Q
 |.pop a=>λenv st Q=>wpE Z a env st λx st1=>Q0 x st1 Q
 |.lrl a=>λenv st Q=>wpE Z a env st λx st1=>P7 x st1 Q
 |.cat a b=>λenv st Q=>wpE Z a env st λx st1=>wpE Z b env st1 λy st2=>∃i j,x=.str i/\y=.str j/\i.length+j.length<=sizeLine/\Q (.str (i++j)) st2
 |.ssl a lo hi=>λenv st Q=>wpE Z a env st λx st1=>wpE Z lo env st1 λl st2=>∃i,l=.int i/\wpE Z hi env st2 λh st3=>∃j,h=.int j/\∃w,x=.str w/\w.length<=sizeLine/\Q (.str (DY w (AA i) (AA j))) st3
 |.slen a=>λenv st Q=>wpE Z a env st λx st1=>∃w,x=.str w/\w.length<=sizeLine/\Q (.int w.length) st1
 |.tstr a=>λenv st Q=>wpE Z a env st λx st1=>∃i:Int,x=.int i/\i.natAbs.log2<1920/\Q (.str (DE i)) st1
 |.sint a=>λenv st Q=>wpE Z a env st λx st1=>∃n:Int,x=.str (AD (DE n))/\0<=n/\n<10^10/\Q (.int n) st1
 |.sin ne a b=>λenv st Q=>wpE Z a env st λx st1=>wpE Z b env st1 λy st2=>M5 ne x y st2 Q
 |.join a b=>λenv st Q=>wpE Z a env st λx st1=>∃z,x=.str z/\wpE Z b env st1 λy st2=>U4 z y st2 Q
 |.sgt a k d=>λenv st Q=>wpE Z a env st λx st1=>ah1 x st1/\wpE Z k env st1 λy st2=>wpE Z d env st2 λz st3=>ag7 x y z st3 Q
 |.isC c a=>λenv st Q=>c∈Z.C "!is"/\wpE Z a env st λx st1=>ag8 c x st1 Q
 |.gnin a g=>λenv st Q=>Z.G g≠[]/\wpE Z a env st λx st1=>∃w,x=.str w/\Q (.bl (!(i7 (Z.G g) w).isSome)) st1
 |.index a b=>λenv st Q=>wpE Z a env st λx st1=>Q3 x st1/\wpE Z b env st1 λy st2=>E7 x y st2 Q
 |.comp _ fr k t it c e=>λenv st Q=>t7 Z it env st λitems chk st1=>items.length<=1000000 /\
   r8 chk t (if c.isNon=AC then λ_ st Q=>Q AC st else λenv st Q=>wpE Z c env st λd st'=>∃b,d=.bl b/\Q b st') (λenv st Q=>wpE Z e env st Q) (λacc st'=>∀p,st' p=AE->Q (.ref p) (b0 st' p (.lst acc))) items [] (E5 fr k env) st1
noncomputable def k7(Z:Sg):Es->DA
 |.nil=>λ_ st Q=>Q [] st
 |.cons e r=>λenv st Q=>wpE Z e env st λd st1=>k7 Z r env st1 λds st2=>Q (d::ds) st2
noncomputable def t7(Z:Sg):It->d8->Sto->ItK->Prop
 |.seq e=>λenv st k=>wpE Z e env st λd st1=>(∃ds,d=.tup ds/\k ds (λ_=>True) st1)\/(∃a ds,d=.ref a/\rdS st1 a ds/\k ds (λst'=>rdS st' a ds) st1)
 |.rng a=>λenv st k=>wpE Z a env st λd st1=>∃j:Int,d=.int j/\(-(2^62)<=j/\j<2^62)/\k (k8 0 j.toNat) (λ_=>True) st1
 |.rng2 a b=>λenv st k=>wpE Z a env st λd st1=>wpE Z b env st1 λe st2=>∃i j:Int,d=.int i/\e=.int j/\(-(2^62)<=i/\i<2^62/\-(2^62)<=j/\j<2^62)/\k (k8 i (j-i).toNat) (λ_=>True) st2
 |.enum e=>λenv st k=>wpE Z e env st λd st1=>(∃ds,d=.tup ds/\k (j7 0 ds) (λ_=>True) st1)\/(∃a ds,d=.ref a/\rdS st1 a ds/\k (j7 0 ds) (λst'=>rdS st' a ds) st1)
 |.rev e=>λenv st k=>wpE Z e env st λd st1=>∃a ds,d=.ref a/\rdS st1 a ds/\k ds.reverse (λst'=>rdS st' a ds) st1
end
abbrev wpT(Z:Sg)(e:E):DB:=λenv st Q=>wpE Z e env st λd st'=>∃b,d=.bl b/\Q b st'
structure DEnds where
 nx:d8->Sto->Prop
 rt:DK
 bk:d8->Sto->Prop:=λ_ _=>False
 ct:d8->Sto->Prop:=λ_ _=>False
@[reducible]noncomputable def DS:=DEnds->d8->Sto->Prop
abbrev n0(chk:Sto->Prop)(t:Tg)(tb:DS)(F:DEnds):List D->d8->Sto->Prop
 |[],env,st=>chk st/\F.nx env st
 |d::ds,env,st=>chk st/\B0 t d env λenv'=>tb {F with nx:=n0 chk t tb F ds,ct:=n0 chk t tb F ds,bk:=F.nx} env' st
abbrev v7(tc:DB)(tb:DS)(F:DEnds):Nat->d8->Sto->Prop
 |0,_,_=>False
 |n+1,env,st=>tc env st λb st1=>if b=AC then tb {F with nx:=v7 tc tb F n,ct:=v7 tc tb F n,bk:=F.nx} env st1 else F.nx env st1
mutual
noncomputable def wpS(Z:Sg):S->DS
 |.set i e=>λF env st=>wpE Z e env st λd st1=>F.nx (env.set i (AA d)) st1
 |.pre i=>λF env st=>∀p,st p=AE->F.nx (env.set i (AA (.ref p))) (b0 st p (.dct []))
 |.put o i v=>λF env st=>wpE Z v env st λd st1=>wpE Z o env st1 λx st2=>wpE Z i env st2 λy st3=>
   ∃a j k ds,x=.ref a/\y=.int j/\st3 a=AA (.lst ds)/\ixN ds.length j=AA k/\F.nx env (b0 st3 a (.lst (ds.set k d)))
 |.fldS o f v=>λF env st=>wpE Z v env st λd st1=>wpE Z o env st1 λx st2=>∃p c fs,x=.ref p/\st2 p=AA (.ins c fs)/\f∈Z.C c/\fs.length<1000/\F.nx env (b0 st2 p (.ins c (F4 f d fs)))
 |.ex e=>λF env st=>wpE Z e env st λ_ st1=>F.nx env st1
 |.iff c a b=>λF env st=>wpT Z c env st λk st1=>if k=AC then d4 Z a F env st1 else d4 Z b F env st1
 |.ret e=>λF env st=>wpE Z e env st F.rt
 |.retN=>λF _ st=>F.rt .non st
 |.for t it b=>λF env st=>t7 Z it env st λitems chk st1=>n0 chk t (d4 Z b) F items env st1
 |.while c b=>λF env st=>∃n,v7 (wpT Z c) (d4 Z b) F n env st
 |.cont=>λF env st=>F.ct env st
 |.dead=>λ_ _ _=>False
 |.pass=>λF env st=>F.nx env st
noncomputable def d4(Z:Sg):Ss->DS
 |.nil=>λF env st=>F.nx env st
 |.cons s r=>λF env st=>wpS Z s {F with nx:=d4 Z r F} env st
end
structure Def where
 np:Nat
 N:List Str
 body:Ss
@[reducible]noncomputable def d7:=Str->Option Def
abbrev T9(f:Def)(ds:List D):d8:=ds.map AA++Ad (f.N.length-ds.length) AE
structure Gs where
 tab:Str->List (Str×D)
 cls:Str->List Str
 cst:Str->Option D
abbrev bd7(P:d7)(G:Gs)(lo lo2:Str->Spec)(po:Bool)(lc:Nat->List Str->Ss->List D->Spec)(f:Str):Spec:=λds st Q=>∃fd,P f=AA fd/\ds.length=fd.np/\d4 ⟨λf=>(P f).isSome,lo,G.tab,G.cls,lo2,λf=>po&&(P f).isSome,lc,G.cst⟩ fd.body
   {nx:=λ_ st'=>∃s2,Sub s2 st'/\Q .non s2,rt:=λd st'=>∃s2,Sub s2 st'/\Q d s2} (T9 fd ds) st
abbrev E6(N:List Str)(ds cs:List D):d8:=(ds++cs).map AA++Ad (N.length-(ds++cs).length) AE
abbrev co6(P:d7)(G:Gs)(lo lo2:Str->Spec)(po:Bool)(lc:Nat->List Str->Ss->List D->Spec)(np:Nat)(N:List Str)(b:Ss)(cs:List D):Spec:=λds st Q=>ds.length=np/\d4 ⟨λf=>(P f).isSome,lo,G.tab,G.cls,lo2,λf=>po&&(P f).isSome,lc,G.cst⟩ b
   {nx:=λ_ st'=>∃s2,Sub s2 st'/\Q .non s2,rt:=λd st'=>∃s2,Sub s2 st'/\Q d s2} (E6 N ds cs) st
abbrev o4(P:d7)(G:Gs):Nat->(Str->Spec)×(Str->Spec)×Bool×(Nat->List Str->Ss->List D->Spec)
 |0=>(λ_ _ _ _=>False,λ_ _ _ _=>False,AG,λ_ _ _ _ _ _ _=>False)
 |n+1=>(bd7 P G (o4 P G n).1 (o4 P G n).2.1 (o4 P G n).2.2.1 (o4 P G n).2.2.2,(o4 P G n).1,AC,co6 P G (o4 P G n).1 (o4 P G n).2.1 (o4 P G n).2.2.1 (o4 P G n).2.2.2)
abbrev sem(P:d7)(G:Gs)(n:Nat):Str->Spec:=(o4 P G n).1
abbrev P8(P:d7)(G:Gs)(n:Nat):Nat->List Str->Ss->List D->Spec:=(o4 P G n).2.2.2
def bv8{P:d7}{G:Gs}{n:Nat}:sem P G (n+1)=bd7 P G (sem P G n) (o4 P G n).2.1 (o4 P G n).2.2.1 (P8 P G n):=rfl
class Tbs where
 ps:List AM
 mt:Ss->BN->List Str->Hx->Prop
 kt:Bool
variable{H:Hp}{a p:AM}{xs:List V}{o:HO}{σ:L2.St}{st:Sto}{kvs:List (Key×D)}{ob:Ob}{X:Cx}{x:AQ}{Qd:DK}{Q:VK}
structure FnScC(N P:List Str)(sc:BN):Prop where
 kind:sc.kind=.function
 co:sc.isCoroutine=AG
 gen:sc.isGenerator=AG
 nd:N.Nodup
 pre:N.take P.length=P
 par:∀x∈P,sc.names.lookup x=AA .local
 nocell:∀y∈sc.names,y.2≠.cell
 fre:∀y∈sc.names,y.2=.free->sc.names.lookup y.1=AA .free
abbrev P5(H:Hp)(cv:AF):Prop:=∃c o u vs q t,cv=.ref c/\H c=AA (.frz o u)/\(∀vs,u≠.lst vs)/\o.data=.fields vs/\vs[1]?=AA (.str q t)
variable [Tbs]
structure CloF(fd:Bo)(np:Nat)(N ps:List Str)(b:Ss):Prop where
 sc:FnScC N ps fd.scope
 np:ps.length=np
 mt:Tbs.mt b fd.scope N fd.body
 bind:∀us:List AF,us.length=ps.length->Gc fd ⟨us,[]⟩=pure (ps.zip us)
 gl:fd.globals=AS
 bl:fd.builtins=Cq
 has:∀x,(x,BL)∈fd.scope.names->∃c,fd.closure.lookup x=AA c
 fre:∀x c,fd.closure.lookup x=AA c->(x,BL)∈fd.scope.names
 inj:∀x y c,fd.closure.lookup x=AA c->fd.closure.lookup y=AA c->x=y
structure CloR(H:Hp)(f:AM)(fd:Bo)(np:Nat)(N:List Str)(us:List V):Prop where
 ex:∃o u,H f=AA (.frz o u)/\(∀vs,u≠.lst vs)/\o.data=.func fd
 cd:P5 H fd.code
 cl:∀x c,fd.closure.lookup x=AA c->∃o' u' w,H c=AA (.frz o' u')/\(∀vs,u'≠.lst vs)/\o'.data=.cell (AA w)
 at':∀(i:Nat)v,us[i]?=AA v->∃x c o' u' w,N[np+i]?=AA x/\fd.closure.lookup x=AA c/\H c=AA (.frz o' u')/\(∀vs,u'≠.lst vs)/\o'.data=.cell (AA w)/\c9 v w
abbrev P0(H:Hp)(f:AM)(np:Nat)(N:List Str)(b:Ss)(us:List V):Prop:=∃fd ps,CloF fd np N ps b/\CloR H f fd np N us
abbrev SqX(K:AR)(H:Hp)(a:AM)(xs:List V):Prop:=H a=AA (.tup xs)\/(Tbs.kt=AC/\SqT K H a xs)
def SqX.sqt{K:AR}(h:SqX K H a xs):SqT K H a xs:=h.elim (λh=>.inl (.inl h)) λh=>h.2
def SqX.of{K:AR}(h:H a=AA (.tup xs)):SqX K H a xs:=.inl h
inductive IsD(K:AR)(H:Hp):D->V->Prop where
 |non:IsD K H .non .non
 |bl (b:Bool):IsD K H (.bl b) (.bl b)
 |int (i:Int):IsD K H (.int i) (.int i)
 |str (x:Str):IsD K H (.str x) (.str x)
 |ref (a:AM):IsD K H (.ref a) (.ref a)
 |fn {f:Str} {a:AM}:Ay K AS f=AA (AA (.ref a))->IsD K H (.fn f) (.ref a)
 |clo {f:AM} {np:Nat} {N:List Str} {b:Ss} {ds:List D} {us:List V}:P0 H f np N b us->ds.length=us.length->(∀(i:Nat)d v,ds[i]?=AA d->us[i]?=AA v->IsD K H d v)->IsD K H (.clo np N b ds) (.ref f)
 |tup {a:AM} {ds:List D} {vs:List V}:SqX K H a vs->ds.length=vs.length->(∀(i:Nat)d v,ds[i]?=AA d->vs[i]?=AA v->IsD K H d v)->IsD K H (.tup ds) (.ref a)
 |ktup {a:AM} {ns:List Int}:SqT K (λ_=>AE) a (ns.map V.int)->IsD K H (.ktup ns) (.ref a)
structure IsDs(K:AR)(H:Hp)(ds:List D)(vs:List V):Prop where
 len:ds.length=vs.length
 at':∀(i:Nat)d v,ds[i]?=AA d->vs[i]?=AA v->IsD K H d v
section
variable {K:AR} {H' H2:Hp} {d:D} {v:V} {ds es:List D} {vs ws:List V}
def IsD.mk(h:SqX K H a vs)(r:IsDs K H ds vs):IsD K H (.tup ds) (.ref a):=.tup h r.len r.at'
def IsD.tup_invX{v:V}(h:IsD K H (.tup ds) v):∃a vs,v=.ref a/\SqX K H a vs/\IsDs K H ds vs:=by
 cases h with
 |tup a b c=>exact⟨_,_,rfl,a,⟨b,c⟩⟩
def IsD.tup_inv{v:V}(h:IsD K H (.tup ds) v):∃a vs,v=.ref a/\SqT K H a vs/\IsDs K H ds vs:=let⟨a,vs,e,q,r⟩:=h.tup_invX;⟨a,vs,e,q.sqt,r⟩
def IsDs.nil:IsDs K H [] []:=⟨rfl,λi d v h=>by simp at h⟩
def IsDs.cons(h:IsD K H d v)(r:IsDs K H ds vs):IsDs K H (d::ds) (v::vs):=⟨by simp[r.len],λi e w h1 h2=>by
 cases i with
 |zero=>simp at h1 h2;subst h1 h2;exact h
 |succ i=>exact r.at' i e w (by simpa using h1) (by simpa using h2)⟩
def IsDs.get(r:IsDs K H ds vs){i:Nat}{d:D}(h:ds[i]?=AA d):∃v,vs[i]?=AA v/\IsD K H d v:=by
 have hi:i<ds.length:=(Ao.mp h).1;rw[r.len]at hi;exact⟨vs[i],AZ hi,r.at' i d _ h (AZ hi)⟩
def IsDs.get'(r:IsDs K H ds vs){i:Nat}{v:V}(h:vs[i]?=AA v):∃d,ds[i]?=AA d/\IsD K H d v:=by
 have hi:i<vs.length:=(Ao.mp h).1;rw[<-r.len]at hi;exact⟨ds[i],AZ hi,r.at' i _ v (AZ hi) h⟩
def IsDs.inv_cons{d:D}{ds:List D}{vs:List V}(r:IsDs K H (d::ds) vs):∃v ws,vs=v::ws/\IsD K H d v/\IsDs K H ds ws:=by
 cases vs with
 |nil=>have:=r.len;simp at this
 |cons v ws=>exact⟨v,ws,rfl,r.at' 0 d v rfl rfl,⟨by have:=r.len;simpa using this,λi e w h1 h2=>r.at' (i+1) e w (by simpa using h1) (by simpa using h2)⟩⟩
def IsDs.inv_nil{vs:List V}(r:IsDs K H [] vs):vs=[]:=by
 cases vs with
 |nil=>rfl
 |cons v ws=>have:=r.len;simp at this
def IsDs.append(r:IsDs K H ds vs)(q:IsDs K H es ws):IsDs K H (ds++es) (vs++ws):=⟨by simp[r.len,q.len],λi d v h1 h2=>by
 by_cases hi:i<ds.length
 ·rw[BH hi]at h1;rw[BH (by rw[<-r.len];exact hi)]at h2;exact r.at' i d v h1 h2
 ·rw[BU ⋯]at h1;rw[BU (by rw[<-r.len];lia),<-r.len]at h2;exact q.at' _ d v h1 h2⟩
theorem IsDs.drop(r:IsDs K H ds vs)(n:Nat):IsDs K H (ds.drop n) (vs.drop n):=⟨by simp[r.len],λi d v h1 h2=>by
 rw[HD]at h1 h2;exact r.at' _ d v h1 h2⟩
theorem IsDs.take(r:IsDs K H ds vs)(n:Nat):IsDs K H (ds.take n) (vs.take n):=⟨by simp[r.len],λi d v h1 h2=>by
 rw[List.getElem?_take]at h1 h2
 split at h1
 ·rename_i hi;rw[if_pos hi]at h2;exact r.at' _ d v h1 h2
 ·cases h1⟩
theorem IsDs.set(r:IsDs K H ds vs)(h:IsD K H d v)(n:Nat):IsDs K H (ds.set n d) (vs.set n v):=⟨by simp[r.len],λi e w h1 h2=>by
 rw[HW]at h1 h2
 by_cases hi:n=i
 ·rw[if_pos hi]at h1 h2
  split at h1
  ·rename_i hl;rw[<-r.len,if_pos hl]at h2;cases h1;cases h2;exact h
  ·cases h1
 ·rw[if_neg hi]at h1 h2;exact r.at' i e w h1 h2⟩
theorem IsDs.erase:∀{ds:List D}{vs:List V}(r:IsDs K H ds vs)(n:Nat),IsDs K H (ds.eraseIdx n) (vs.eraseIdx n)
 |[],vs,r,n=>by rw[r.inv_nil];simpa using IsDs.nil
 |d::ds,vs,r,n=>by
  obtain⟨v,ws,rfl,h1,h2⟩:=r.inv_cons;cases n with
  |zero=>simpa using h2
  |succ n=>simpa using IsDs.cons h1 (IsDs.erase h2 n)
theorem IsDs.rev:∀{ds:List D}{vs:List V}(r:IsDs K H ds vs),IsDs K H ds.reverse vs.reverse
 |[],vs,r=>by rw[r.inv_nil];exact IsDs.nil
 |d::ds,vs,r=>by
  obtain⟨v,ws,rfl,h1,h2⟩:=r.inv_cons;rw[CO,CO];exact(IsDs.rev h2).append (IsDs.cons h1 IsDs.nil)
theorem IsDs.ints:∀{ns:List Int}{vs:List V},IsDs K H (ns.map D.int) vs->vs=ns.map V.int
 |[],vs,r=>by rw[Be]at r;exact r.inv_nil
 |n::ns,vs,r=>by
  rw[AY]at r;obtain⟨v,ws,rfl,h1,h2⟩:=r.inv_cons;cases h1;rw[IsDs.ints h2];rfl
abbrev TK(K:AR)(H H':Hp):Prop:=((∀a xs,SqT K H a xs->SqT K H' a xs)/\∀a xs,H a=AA (.tup xs)->H' a=AA (.tup xs))/\∀a o u,H a=AA (.frz o u)->(∀vs,u≠.lst vs)->H' a=AA (.frz o u)
def SqX.keep(h:SqX K H a xs)(k:TK K H H'):SqX K H' a xs:=h.elim (λh=>.inl (k.1.2 _ _ h)) λh=>.inr ⟨h.1,k.1.1 _ _ h.2⟩
def TK.refl:TK K H H:=⟨⟨λ_ _ h=>h,λ_ _ h=>h⟩,λ_ _ _ h _=>h⟩
def TK.trans(a:TK K H H')(b:TK K H' H2):TK K H H2:=⟨⟨λc xs h=>b.1.1 c xs (a.1.1 c xs h),λc xs h=>b.1.2 c xs (a.1.2 c xs h)⟩,λc o u h n=>b.2 c o u (a.2 c o u h n) n⟩
def TK.upd'(h:∀xs,H p≠AA (.tup xs))(h2:∀o u,H p≠AA (.frz o u)):TK K H (upd H p o):=⟨⟨λa xs q=>by
 rcases q with(q|⟨o',q⟩)|q
 ·exact .inl (.inl (by have ne:a≠p:=(λz=>h xs (by rw[<-z];exact q));rw[e9 ne];exact q))
 ·exact .inl (.inr ⟨o',by have ne:a≠p:=(λz=>h2 _ _ (by rw[<-z];exact q));rw[e9 ne];exact q⟩)
 ·exact .inr q,λa xs q=>by have ne:a≠p:=(λz=>h xs (by rw[<-z];exact q));rw[e9 ne];exact q⟩,λa o' u q n=>by have ne:a≠p:=(λz=>h2 _ _ (by rw[<-z];exact q));rw[e9 ne];exact q⟩
def TK.new(h:H p=AE):TK K H (upd H p o):=TK.upd' (by rw[h];exact λ_=>nofun) (by rw[h];exact λ_ _=>nofun)
def TK.putI{C dx:AM}{xs:List (Str×V)}(h:H p=AA (.ins C dx xs)):TK K H (upd H p o):=TK.upd' (by rw[h];exact λ_ z=>by cases z) (by rw[h];exact λ_ _ z=>by cases z)
def TK.putD{xs:List (Key×V)}(h:H p=AA (.dK xs)):TK K H (upd H p o):=TK.upd' (by rw[h];exact λ_ z=>by cases z) (by rw[h];exact λ_ _ z=>by cases z)
def TK.put(h:H p=AA (.lst xs)):TK K H (upd H p o):=TK.upd' (by rw[h];exact λ_ z=>by cases z) (by rw[h];exact λ_ _ z=>by cases z)
def P5.mono{cv:AF}(h:P5 H cv)(k:TK K H H'):P5 H' cv:=let⟨c,o,u,vs,q,t,e1,e2,e3,e4⟩:=h;⟨c,o,u,vs,q,t,e1,k.2 _ _ _ e2 e3,e3,e4⟩
theorem CloR.mono{f:AM}{fd:Bo}{np:Nat}{N:List Str}{us:List V}(h:CloR H f fd np N us)(k:TK K H H'):CloR H' f fd np N us:=by
 obtain⟨⟨o,u,e1,e2,e3⟩,e5,e6,e7⟩:=h;refine⟨⟨o,u,k.2 _ _ _ e1 e2,e2,e3⟩,e5.mono k,λx c hx=>?_,λi v hv=>?_⟩
 ·obtain⟨o',u',w,a,b,c⟩:=e6 x c hx;exact⟨o',u',w,k.2 _ _ _ a b,b,c⟩
 ·obtain⟨x,c,o',u',w,a1,a2,a3,a4,a5⟩:=e7 i v hv;exact⟨x,c,o',u',w,a1,a2,k.2 _ _ _ a3 a4,a4,a5⟩
theorem P0.mono{f:AM}{np:Nat}{N:List Str}{b:Ss}{us:List V}(h:P0 H f np N b us)(k:TK K H H'):P0 H' f np N b us:=let⟨fd,ps,a,b⟩:=h;⟨fd,ps,a,b.mono k⟩
theorem IsD.mono(h:IsD K H d v)(k:TK K H H'):IsD K H' d v:=by
 induction h with
 |non=>exact .non
 |bl b=>exact .bl b
 |int i=>exact .int i
 |str x=>exact .str x
 |ref a=>exact .ref a
 |ktup h=>exact .ktup h
 |fn h=>exact .fn h
 |clo a b _ ih=>exact .clo (a.mono k) b ih
 |tup a b _ ih=>exact .tup (a.keep k) b ih
theorem IsDs.mono(h:IsDs K H ds vs)(k:TK K H H'):IsDs K H' ds vs:=⟨h.len,λi d v a b=>(h.at' i d v a b).mono k⟩
structure RelE(K:AR)(H:Hp)(env:d8)(σ:L2.St):Prop where
 len:env.length=σ.length
 at':∀(i:Nat)d,env[i]?=AA (AA d)->∃v,σ[i]?=AA (AA v)/\IsD K H d v
variable {env:d8} {st':Sto}
theorem RelE.mono(r:RelE K H env σ)(k:TK K H H'):RelE K H' env σ:=⟨r.len,λi d h=>let⟨v,a,b⟩:=r.at' i d h;⟨v,a,b.mono k⟩⟩
theorem RelE.set(r:RelE K H env σ)(h:IsD K H d v)(i:Nat):RelE K H (env.set i (AA d)) (σ.set i (AA v)):=⟨by simp[r.len],λj e q=>by
 rw[HW]at q ⊢
 by_cases hi:i=j
 ·rw[if_pos hi]at q ⊢
  split at q
  ·rename_i hl;rw[<-r.len,if_pos hl];cases q;exact⟨v,rfl,h⟩
  ·cases q
 ·rw[if_neg hi]at q ⊢;exact r.at' j e q⟩
structure IsKs(K:AR)(H:Hp)(kvs:List (Key×D))(vs:List (Key×V)):Prop where
 ks:kvs.map (·.1)=vs.map (·.1)
 ds:IsDs K H (kvs.map (·.2)) (vs.map (·.2))
theorem IsKs.mono{vs:List (Key×V)}(h:IsKs K H kvs vs)(k:TK K H H'):IsKs K H' kvs vs:=⟨h.ks,h.ds.mono k⟩
theorem IsKs.inv_cons{e:Key×D}{vs:List (Key×V)}(h:IsKs K H (e::kvs) vs):∃v ws,vs=(e.1,v)::ws/\IsD K H e.2 v/\IsKs K H kvs ws:=by
 cases vs with
 |nil=>have:=h.ks;simp at this
 |cons f ws=>
  obtain⟨k,v⟩:=f;have e1:=h.ks;simp only[AY,As]at e1;have e2:=h.ds;simp only[AY]at e2;obtain⟨v',ws',e3,i1,i2⟩:=e2.inv_cons;simp only[As]at e3;obtain⟨rfl,rfl⟩:=e3;exact⟨v,ws,by rw[e1.1],i1,⟨e1.2,i2⟩⟩
theorem IsKs.look:∀{kvs:List (Key×D)}{vs:List (Key×V)}(h:IsKs K H kvs vs)(k:Key),(u2 kvs k=AE/\j9 vs k=AE)\/∃d v,u2 kvs k=AA d/\j9 vs k=AA v/\IsD K H d v
 |[],vs,h,k=>by
  have:vs=[]:=by have:=h.ks;simpa using this.symm
  subst this;exact .inl ⟨rfl,rfl⟩
 |e::kvs,vs,h,k=>by
  obtain⟨v,ws,rfl,i1,i2⟩:=h.inv_cons;unfold u2 j9;rw[Ct,Ct]
  by_cases hk:e.1=k
  ·simp only[hk,decide_true];exact .inr ⟨e.2,v,rfl,rfl,i1⟩
  ·simp only[hk,decide_false];exact IsKs.look i2 k
structure IsPs(K:AR)(H:Hp)(kvs:List (Am×D))(vs:List (Am×V)):Prop where
 ks:kvs.map (·.1)=vs.map (·.1)
 ds:IsDs K H (kvs.map (·.2)) (vs.map (·.2))
theorem IsPs.mono{kvs:List (Am×D)}{vs:List (Am×V)}(h:IsPs K H kvs vs)(k:TK K H H'):IsPs K H' kvs vs:=⟨h.ks,h.ds.mono k⟩
structure IsFs(K:AR)(H:Hp)(fs:List (Str×D))(vs:List (Str×V)):Prop where
 ks:fs.map (·.1)=vs.map (·.1)
 ds:IsDs K H (fs.map (·.2)) (vs.map (·.2))
theorem IsFs.nil:IsFs K H [] []:=⟨rfl,.nil⟩
theorem IsFs.mono{fs:List (Str×D)}{vs:List (Str×V)}(h:IsFs K H fs vs)(k:TK K H H'):IsFs K H' fs vs:=⟨h.ks,h.ds.mono k⟩
theorem IsFs.inv_cons{e:Str×D}{fs:List (Str×D)}{vs:List (Str×V)}(h:IsFs K H (e::fs) vs):∃v ws,vs=(e.1,v)::ws/\IsD K H e.2 v/\IsFs K H fs ws:=by
 cases vs with
 |nil=>have:=h.ks;simp at this
 |cons f ws=>
  obtain⟨k,v⟩:=f;have e1:=h.ks;simp only[AY,As]at e1;have e2:=h.ds;simp only[AY]at e2;obtain⟨v',ws',e3,i1,i2⟩:=e2.inv_cons;simp only[As]at e3;obtain⟨rfl,rfl⟩:=e3;exact⟨v,ws,by rw[e1.1],i1,⟨e1.2,i2⟩⟩
theorem IsFs.cons{k:Str}{d:D}{v:V}{fs:List (Str×D)}{vs:List (Str×V)}(h:IsD K H d v)(r:IsFs K H fs vs):IsFs K H ((k,d)::fs) ((k,v)::vs):=⟨by simp only[AY,r.ks],by simp only[AY];exact .cons h r.ds⟩
theorem IsFs.length{fs:List (Str×D)}{vs:List (Str×V)}(h:IsFs K H fs vs):fs.length=vs.length:=by simpa using h.ds.len
theorem IsFs.look:∀{fs:List (Str×D)}{vs:List (Str×V)}(h:IsFs K H fs vs)(k:Str),(fs.lookup k=AE/\vs.lookup k=AE)\/∃d v,fs.lookup k=AA d/\vs.lookup k=AA v/\IsD K H d v
 |[],vs,h,k=>by
  have:vs=[]:=by have:=h.ks;simpa using this.symm
  subst this;exact .inl ⟨rfl,rfl⟩
 |e::fs,vs,h,k=>by
  obtain⟨v,ws,rfl,i1,i2⟩:=h.inv_cons;obtain⟨g,d⟩:=e;rw[GF,GF];cases hk:k==g with
  |true=>exact .inr ⟨d,v,rfl,rfl,i1⟩
  |false=>exact IsFs.look i2 k
theorem IsFs.put:∀{fs:List (Str×D)}{vs:List (Str×V)}(h:IsFs K H fs vs){d:D}{v:V}(i:IsD K H d v)(f:Str),IsFs K H (F4 f d fs) (o0 f v vs)
 |[],vs,h,d,v,i,f=>by
  have:vs=[]:=by have:=h.ks;simpa using this.symm
  subst this;exact .cons i .nil
 |e::fs,vs,h,d,v,i,f=>by
  obtain⟨w,ws,rfl,i1,i2⟩:=h.inv_cons;obtain⟨g,x⟩:=e;unfold F4 o0
  by_cases hg:g=f
  ·rw[if_pos hg,if_pos hg];exact .cons i i2
  ·rw[if_neg hg,if_neg hg];exact .cons i1 (IsFs.put i2 i f)
abbrev ObR(K:AR)(H:Hp)(a:AM):Ob->Prop
 |.lst ds=>∃vs,H a=AA (.lst vs)/\IsDs K H ds vs
 |.fro ds=>∃vs,Rd H a (.lst vs)/\IsDs K H ds vs
 |.dct kvs=>∃vs,H a=AA (.dK vs)/\IsKs K H kvs vs
 |.dtt kvs=>∃vs,H a=AA (.dT vs)/\IsPs K H kvs vs/\Tbs.kt=AG
 |.ins c fs=>∃C dx vs,H a=AA (.ins C dx vs)/\Ay K AS c=AA (AA (.ref C))/\IsFs K H fs vs
structure TabOk(H:Hp)(ps:Array AF):Prop where
 tr:TriplesOk ps.toList
 co:∀pos cv,codeAmong pos ps.toList=AA cv->P5 H cv
abbrev T8(H:Hp):Prop:=∀P∈Tbs.ps,∃ps,H P=AA (.tbl ps)/\TabOk H ps
def T8.stay(h:T8 H)(k:TK K H H')(t:∀a ps,H a=AA (.tbl ps)->H' a=AA (.tbl ps)):T8 H':=λP hP=>by
 obtain⟨ps,e,o⟩:=h P hP;exact⟨ps,t P ps e,o.tr,λpos cv hc=>(o.co pos cv hc).mono k⟩
structure RelS(K:AR)(st:Sto)(H:Hp):Prop where
 ob:∀a o,st a=AA o->ObR K H a o
 tb:T8 H
def RelS.free(r:RelS K st H)(h:H p=AE):st p=AE:=by
 cases q:st p with
 |none=>rfl
 |some o=>
  have z:=r.ob p o q;cases o with
  |lst ds=>obtain⟨vs,a,_⟩:=z;rw[h]at a;cases a
  |fro ds=>
   obtain⟨vs,a|⟨o',a⟩,_⟩:=z
   ·rw[h]at a;cases a
   ·rw[h]at a;cases a
  |dct kvs=>obtain⟨vs,a,_⟩:=z;rw[h]at a;cases a
  |dtt kvs=>obtain⟨vs,a,_⟩:=z;rw[h]at a;cases a
  |ins c fs=>obtain⟨C,dx,vs,a,_⟩:=z;rw[h]at a;cases a
def RelS.sub(r:RelS K st' H)(s:Sub st st'):RelS K st H:=⟨λa o h=>r.ob a o (s a o h),r.tb⟩
theorem RelS.stay(r:RelS K st H)(k:TK K H H')(ho:∀a o,st a=AA o->H' a=H a)(t:∀a ps,H a=AA (.tbl ps)->H' a=AA (.tbl ps)):RelS K st H':=⟨λa o h=>by
 have z:=r.ob a o h;have e:=ho a o h;cases o with
 |lst ds=>obtain⟨vs,q,w⟩:=z;exact⟨vs,by rw[e];exact q,w.mono k⟩
 |fro ds=>
  obtain⟨vs,q|⟨o',q⟩,w⟩:=z
  ·exact⟨vs,.inl (by rw[e];exact q),w.mono k⟩
  ·exact⟨vs,.inr ⟨o',by rw[e];exact q⟩,w.mono k⟩
 |dct kvs=>obtain⟨vs,q,w⟩:=z;exact⟨vs,by rw[e];exact q,w.mono k⟩
 |dtt kvs=>obtain⟨vs,q,w,t⟩:=z;exact⟨vs,by rw[e];exact q,w.mono k,t⟩
 |ins c fs=>obtain⟨C,dx,vs,q,n,w⟩:=z;exact⟨C,dx,vs,by rw[e];exact q,n,w.mono k⟩,r.tb.stay k t⟩
def T4(h:∀ps,H p≠AA (.tbl ps)):∀a ps,H a=AA (.tbl ps)->(upd H p o) a=AA (.tbl ps):=λa ps e=>by
 have ne:a≠p:=λz=>h ps (by rw[<-z];exact e);rw[e9 ne];exact e
def bu3(h:H p=AE):∀a ps,H a=AA (.tbl ps)->(upd H p o) a=AA (.tbl ps):=T4 (by rw[h];exact λ_=>nofun)
theorem RelS.new(r:RelS K st H)(h:H p=AE):RelS K st (upd H p o):=r.stay (TK.new h) (λa u e=>e9 λz=>by
 rw[z,r.free h]at e;cases e) (bu3 h)
def RelS.putAny(r:RelS K st H){o':HO}(tk:TK K H (upd H p o'))(w:ObR K (upd H p o') p ob)(t:∀ps,H p≠AA (.tbl ps)):RelS K (b0 st p ob) (upd H p o'):=by
 have r':RelS K (λb=>if b=p then AE else st b) H:=⟨λb u q=>by
  split at q
  ·cases q
  ·exact r.ob b u q,r.tb⟩
 have r2:=r'.stay tk (λb u q=>e9 λz=>by
  have q':(if b=p then AE else st b)=AA u:=q;rw[if_pos z]at q';cases q') (T4 t)
 refine⟨λa o e=>?_,r2.tb⟩
 by_cases ha:a=p
 ·subst ha;rw[b7]at e;cases e;exact w
 ·rw[g6 ha]at e;exact r2.ob a o (by show(if a=p then AE else st a)=AA o;rw[if_neg ha];exact e)
def RelS.putNew(r:RelS K st H)(h:H p=AE)(w:IsDs K H ds vs):RelS K (b0 st p (.lst ds)) (upd H p (.lst vs)):=
 r.putAny (TK.new h) ⟨vs,o9,w.mono (TK.new h)⟩ (by rw[h];exact λ_=>nofun)
def RelS.putNewD(r:RelS K st H){ks:List (Key×V)}(h:H p=AE)(w:IsKs K H kvs ks):RelS K (b0 st p (.dct kvs)) (upd H p (.dK ks)):=
 r.putAny (TK.new h) ⟨ks,o9,w.mono (TK.new h)⟩ (by rw[h];exact λ_=>nofun)
def RelS.putOld(r:RelS K st H)(h:H p=AA (.lst xs))(w:IsDs K H ds vs):RelS K (b0 st p (.lst ds)) (upd H p (.lst vs)):=
 r.putAny (TK.put h) ⟨vs,o9,w.mono (TK.put h)⟩ (by rw[h];exact λ_ z=>by cases z)
theorem RelS.lst(r:RelS K st H){ds:List D}(h:st a=AA (.lst ds)):∃vs,H a=AA (.lst vs)/\IsDs K H ds vs:=r.ob a _ h
theorem RelS.dct(r:RelS K st H)(h:st a=AA (.dct kvs)):∃vs,H a=AA (.dK vs)/\IsKs K H kvs vs:=r.ob a _ h
theorem RelS.ins(r:RelS K st H){c:Str}{fs:List (Str×D)}(h:st a=AA (.ins c fs)):∃C dx vs,H a=AA (.ins C dx vs)/\Ay K AS c=AA (AA (.ref C))/\IsFs K H fs vs:=r.ob a _ h
def RelS.rd(r:RelS K st H){ds:List D}(h:rdS st a ds):∃vs,SqL K H a vs/\IsDs K H ds vs:=by
 rcases h with h|h
 ·obtain⟨vs,a,b⟩:=r.ob a _ h;exact⟨vs,.inl (.inl a),b⟩
 ·obtain⟨vs,a,b⟩:=r.ob a _ h;exact⟨vs,.inl a,b⟩
def RelS.rdR(r:RelS K st H){ds:List D}(h:rdS st a ds):∃vs,Rd H a (.lst vs)/\IsDs K H ds vs:=by
 rcases h with h|h
 ·obtain⟨vs,a,b⟩:=r.ob a _ h;exact⟨vs,.inl a,b⟩
 ·obtain⟨vs,a,b⟩:=r.ob a _ h;exact⟨vs,a,b⟩
end
abbrev TbE(o o':HO):Prop:=o'=o\/∃p p',o=.tbl p/\o'=.tbl p'
def TbE.trans{a b c:HO}(x:TbE a b)(y:TbE b c):TbE a c:=by
 rcases x with rfl|⟨p,p',rfl,rfl⟩
 ·exact y
 ·rcases y with rfl|⟨q,q',_,rfl⟩
  ·exact .inr ⟨p,p',rfl,rfl⟩
  ·exact .inr ⟨p,q',rfl,rfl⟩
abbrev Ev(st:Sto)(H:Hp)(st':Sto)(H':Hp):Prop:=∀a o,H a=AA o->st a=AE->(∃o',H' a=AA o'/\TbE o o')/\st' a=AE
section
variable {K:AR} {st1 st2:Sto} {H1 H2:Hp}
def Ev.get(e:Ev st H st1 H1)(h:H a=AA o)(k:st a=AE)(n:∀p,o≠.tbl p):H1 a=AA o/\st1 a=AE:=by
 obtain⟨⟨o',h',t⟩,k'⟩:=e a o h k
 rcases t with rfl|⟨p,_,rfl,_⟩
 ·exact⟨h',k'⟩
 ·exact absurd rfl (n p)
def Ev.refl:Ev st H st H:=λ_ o h k=>⟨⟨o,h,.inl rfl⟩,k⟩
theorem Ev.trans(a:Ev st H st1 H1)(b:Ev st1 H1 st2 H2):Ev st H st2 H2:=λc o h k=>by
 obtain⟨⟨o',h',t⟩,y⟩:=a c o h k;obtain⟨⟨o2,h2,t2⟩,z⟩:=b c o' h' y;exact⟨⟨o2,h2,t.trans t2⟩,z⟩
def RelS.no(r:RelS K st H)(h:H a=AA o)(n1:∀vs,o≠.lst vs)(n2:∀u vs,o≠.frz u (.lst vs))(n3:∀vs,o≠.dK vs)(n4:∀C dx vs,o≠.ins C dx vs)(n5:∀vs,o≠.dT vs):st a=AE:=by
 cases z:st a with
 |none=>rfl
 |some ob=>
  have w:=r.ob a ob z;cases ob with
  |lst ds=>obtain⟨vs,w1,_⟩:=w;rw[h]at w1;cases w1;exact absurd rfl (n1 vs)
  |fro ds=>
   obtain⟨vs,w1|⟨u,w1⟩,_⟩:=w
   ·rw[h]at w1;cases w1;exact absurd rfl (n1 vs)
   ·rw[h]at w1;cases w1;exact absurd rfl (n2 u vs)
  |dct kvs=>obtain⟨vs,w1,_⟩:=w;rw[h]at w1;cases w1;exact absurd rfl (n3 vs)
  |dtt kvs=>obtain⟨vs,w1,_⟩:=w;rw[h]at w1;cases w1;exact absurd rfl (n5 vs)
  |ins c fs=>obtain⟨C,dx,vs,w1,_⟩:=w;rw[h]at w1;cases w1;exact absurd rfl (n4 C dx vs)
def Ev.tk(e:Ev st H st1 H1)(r:RelS K st H):TK K H H1:=⟨⟨λa xs q=>by
 rcases q with(q|⟨o',q⟩)|q
 ·exact .inl (.inl (e.get q (r.no q (λ_ z=>by cases z) (λ_ _ z=>by cases z) (λ_ z=>by cases z) (λ_ _ _ z=>by cases z) (λ_ z=>by cases z)) (λ_ z=>by cases z)).1)
 ·exact .inl (.inr ⟨o',(e.get q (r.no q (λ_ z=>by cases z) (λ_ _ z=>by cases z) (λ_ z=>by cases z) (λ_ _ _ z=>by cases z) (λ_ z=>by cases z)) (λ_ z=>by cases z)).1⟩)
 ·exact .inr q,λa xs q=>(e.get q (r.no q (λ_ z=>by cases z) (λ_ _ z=>by cases z) (λ_ z=>by cases z) (λ_ _ _ z=>by cases z) (λ_ z=>by cases z)) (λ_ z=>by cases z)).1⟩,λa o u q n=>(e.get q (r.no q (λ_ z=>by cases z) (λ_ vs z=>by cases z;exact n vs rfl) (λ_ z=>by cases z) (λ_ _ _ z=>by cases z) (λ_ z=>by cases z)) (λ_ z=>by cases z)).1⟩
def Ev.new(h:H p=AE):Ev st H st (upd H p o):=λa u e k=>⟨⟨u,by rw[e9 (o5 e h)];exact e,.inl rfl⟩,k⟩
def Ev.newS(h:H p=AE):Ev st H (b0 st p ob) (upd H p o):=λa u e k=>⟨⟨u,by rw[e9 (o5 e h)];exact e,.inl rfl⟩,by rw[g6 (o5 e h)];exact k⟩
def Ev.put{ob':Ob}(h:st p=AA ob'):Ev st H (b0 st p ob) (upd H p o):=λa u e k=>by
 have ne:a≠p:=λz=>by rw[z,h]at k;cases k
 exact⟨⟨u,by rw[e9 ne];exact e,.inl rfl⟩,by rw[g6 ne];exact k⟩
def Ev.drop(s:Sub st2 st1)(e:Ev st H st1 H1):Ev st H st2 H1:=λa o h k=>by
 obtain⟨x,y⟩:=e a o h k;refine⟨x,?_⟩;cases z:st2 a with
 |none=>rfl
 |some u=>rw[s a u z]at y;cases y
end
abbrev l9(K:AR)(st:Sto)(H:Hp)(Qd:DK)(Q:VK):Prop:=∀v d H' st',Ev st H st' H'->IsD K H' d v->RelS K st' H'->Qd d st'->Q v H'
abbrev up(K:AR)(t:DT):TE:=λσ H Q=>∃env st Qd,RelE K H env σ/\RelS K st H/\t env st Qd/\l9 K st H Qd Q
abbrev upB(K:AR)(t:DB):TT:=λσ H Q=>∃env st Qd,RelE K H env σ/\RelS K st H/\t env st Qd/\∀b H' st',Ev st H st' H'->RelS K st' H'->Qd b st'->Q b H'
abbrev upA(K:AR)(n:Nat)(t:DA):TA:=λσ H Q=>∃env st Qd,RelE K H env σ/\RelS K st H/\t env st Qd/\∀vs ds H' st',Ev st H st' H'->IsDs K H' ds vs->ds.length=n->RelS K st' H'->Qd ds st'->Q vs H'
def _root_.L2.PE.imp{t t':TE}(h:PE X x t)(i:∀σ H Q,t' σ H Q->t σ H Q):PE X x t':=λpins s σ H Q I q=>h pins s σ H Q I (i σ H Q q)
def _root_.L2.PT.imp{t t':TT}(h:PT X x t)(i:∀σ H Q,t' σ H Q->t σ H Q):PT X x t':=λpins s σ H Q I q=>h pins s σ H Q I (i σ H Q q)
def _root_.L2.PW.imp{t t':TT}(h:PW X x t)(i:∀σ H Q,t' σ H Q->t σ H Q):PW X x t':=λw pins s σ H Q I q=>h w pins s σ H Q I (i σ H Q q)
def _root_.L2.PA.imp{x:List AQ}{t t':TA}(h:PA X x t)(i:∀σ H Q,t' σ H Q->t σ H Q):PA X x t':=λpos pins s σ H Q I q=>h pos pins s σ H Q I (i σ H Q q)
def _root_.L2.PSs.imp{x:List BQ}{t t':TS}(h:PSs X x t)(i:∀D σ H,t' D σ H->t D σ H):PSs X x t':=λpins s σ H D I q=>h pins s σ H D I (i D σ H q)
def _root_.L2.PS.imp{x:BQ}{t t':TS}(h:PS X x t)(i:∀D σ H,t' D σ H->t D σ H):PS X x t':=λpins s σ H D I q=>h pins s σ H D I (i D σ H q)
def l9.after{K:AR}{st1:Sto}{H1:Hp}(p:l9 K st H Qd Q)(e:Ev st H st1 H1):l9 K st1 H1 Qd Q:=λv d H2 st2 e2 is rs q=>p v d H2 st2 (e.trans e2) is rs q
def l9.here{K:AR}{v:V}{d:D}(p:l9 K st H Qd Q)(i:IsD K H d v)(r:RelS K st H)(q:Qd d st):Q v H:=p v d H st Ev.refl i r q
def l9.newL{K:AR}{ds:List D}{vs:List V}(p:l9 K st H Qd Q)(r:RelS K st H)(w:IsDs K H ds vs)(q:∀p,st p=AE->Qd (.ref p) (b0 st p (.lst ds))):∀l,H l=AE->Q (.ref l) (upd H l (.lst vs)):=λl hl=>
 p _ (.ref l) _ (b0 st l (.lst ds)) (Ev.newS hl) (.ref l) (r.putNew hl w) (q l (r.free hl))
def l9.newT{K:AR}{ds:List D}{vs:List V}(p:l9 K st H Qd Q)(r:RelS K st H)(w:IsDs K H ds vs)(q:Qd (.tup ds) st):∀l,H l=AE->Q (.ref l) (upd H l (.tup vs)):=λl hl=>
 p _ (.tup ds) _ st (Ev.new hl) (IsD.mk (SqX.of o9) (w.mono (TK.new hl))) (r.new hl) q
def up1{K:AR}{t:DT}{f:D->Sto->DK->Prop}{R:V->Hp->Prop}(h:up K (λenv st Q=>t env st λd st1=>f d st1 Q) σ H Q)
  (k:∀v d H' st' Qd,IsD K H' d v->RelS K st' H'->f d st' Qd->l9 K st' H' Qd Q->R v H'):up K t σ H R:=by
 obtain⟨env,st,Qd,hE,hS,ht,hq⟩:=h;exact⟨env,st,_,hE,hS,ht,λv d H' st' ev is rs q=>k v d H' st' Qd is rs q (hq.after ev)⟩
def up2{K:AR}{t u:DT}{f:D->D->Sto->DK->Prop}{R:V->V->Hp->Prop}(h:up K (λenv st Q=>t env st λd st1=>u env st1 λe st2=>f d e st2 Q) σ H Q)
  (k:∀v w d e H' st' Qd,IsD K H' d v->IsD K H' e w->RelS K st' H'->f d e st' Qd->l9 K st' H' Qd Q->R v w H'):up K t σ H λv H1=>up K u σ H1 λw H2=>R v w H2:=by
 obtain⟨env,st,Qd,hE,hS,ht,hq⟩:=h;exact⟨env,st,_,hE,hS,ht,λv d H' st' ev is rs q=>⟨env,st',_,hE.mono (ev.tk hS),rs,q,λw e H2 st2 ev2 is2 rs2 q2=>
  k v w d e H2 st2 Qd (is.mono (ev2.tk rs)) is2 rs2 q2 ((hq.after ev).after ev2)⟩⟩
def af8{K:AR}{n:Nat}{t:DA}{f:List D->Sto->DK->Prop}{R:List V->Hp->Prop}(h:up K (λenv st Q=>t env st λds st1=>f ds st1 Q) σ H Q)
  (k:∀vs ds H' st' Qd,IsDs K H' ds vs->ds.length=n->RelS K st' H'->f ds st' Qd->l9 K st' H' Qd Q->R vs H'):upA K n t σ H R:=by
 obtain⟨env,st,Qd,hE,hS,ht,hq⟩:=h;exact⟨env,st,_,hE,hS,ht,λvs ds H' st' ev is hl rs q=>k vs ds H' st' Qd is hl rs q (hq.after ev)⟩
def cg3{t:DT}(h:PE X x (up X.K t))(he:∀whole,GX x X.env whole=(do let v <-whole;GL x.pos;holding [v] (truthy v))):
  PT X x (upB X.K λenv st Q=>t env st λd st'=>∃b,d=.bl b/\Q b st'):=PT.imp (cd9 h he) λσ H Q q=>by
 obtain⟨env,st,Qd,hE,hS,ht,hq⟩:=q;refine⟨env,st,_,hE,hS,ht,λv d H' st' ev is rs q=>?_⟩;obtain⟨b,rfl,q⟩:=q;cases is;exact⟨b,rfl,hq b H' st' ev rs q⟩
end Ek
namespace Ek
open PySem PySem.Spec PyProof.Rows L2
variable [Tbs]
mutual
theorem v8:∀d:D,d.pure=AC->d.py.canLay0=AC
 |.non,_=>rfl
 |.bl _,_=>rfl
 |.int _,_=>rfl
 |.str _,h=>h
 |.tup ds,h=>by show Co (D.pys ds)=AC;exact T5 ds h
 |.ref _,h=>nomatch h
 |.fn _,h=>nomatch h
 |.clo _ _ _ _,h=>nomatch h
 |.ktup _,h=>nomatch h
theorem T5:∀ds:List D,D.pures ds=AC->Co (D.pys ds)=AC
 |[],_=>rfl
 |d::r,h=>by
  have h':d.pure=AC/\D.pures r=AC:=by simpa[D.pures]using h
  show(d.py.canLay0&&Co (D.pys r))=AC;rw[v8 d h'.1,T5 r h'.2];rfl
end
theorem aa2:∀{ds:List D},D.pures ds=AC->∀d∈ds,d.pure=AC
 |[],_,d,h=>by cases h
 |e::r,h,d,hd=>by
  have h':e.pure=AC/\D.pures r=AC:=by simpa[D.pures]using h
  rcases AT.mp hd with z|z
  ·rw[z];exact h'.1
  ·exact aa2 h'.2 d z
section
variable {X:Cx} {pins:List (AM×Obj)} {σ:L2.St} {H:Hp} {s:AK}
def u7(I:L2.Inv X pins σ H s){d:D}{v:V}(h:IsD X.K H d v):∀{u:AF},d.pure=AC->c9 v u->∃as,Reads s.heap u d.py as:=by
 induction h with
 |non=>intro u _ r;cases r;exact⟨_,.none⟩
 |bl b=>intro u _ r;cases r;exact⟨_,.bool b⟩
 |int i=>intro u _ r;obtain⟨t,rfl⟩:=r;exact⟨_,.int i t⟩
 |str x=>intro u _ r;obtain⟨t,rfl⟩:=r;exact⟨_,.str x t⟩
 |ref a=>intro u h;cases h
 |fn _=>intro u h;cases h
 |clo _ _ _ _=>intro u h;cases h
 |ktup _=>intro u h;cases h
 |@tup a ds vs hq hl hat ih=>
  intro u hp r;cases r;obtain⟨its,rv,⟨o,ho,hc,n,hd⟩,hz⟩:=I.tuple hq.sqt;have all:∀(ds':List D)(vs':List V)(us':List AF),(∀(i:Nat)d v,ds'[i]?=AA d->vs'[i]?=AA v->∀{u:AF},d.pure=AC->c9 v u->∃as,Reads s.heap u d.py as)->ds'.length=vs'.length->D.pures ds'=AC->c7 vs' us'->∃as,ReadsAll s.heap us' (D.pys ds') as:=by
   intro ds'
   induction ds' with
   |nil=>intro vs' us' _ hl' _ q;cases vs' with
    |nil=>cases q;exact⟨[],.nil⟩
    |cons a b=>simp at hl'
   |cons e es ihe=>
    intro vs' us' hat' hl' hp' q;cases vs' with
    |nil=>simp at hl'
    |cons w ws=>
     have hp2:e.pure=AC/\D.pures es=AC:=by simpa[D.pures]using hp'
     cases q with
     |cons q1 q2=>
      obtain⟨as,ra⟩:=hat' 0 e w rfl rfl hp2.1 q1;obtain⟨bs,rb⟩:=ihe ws _ (λi d v a b=>hat' (i+1) d v (by simpa using a) (by simpa using b)) (by simpa using hl') hp2.2 q2;exact⟨as++bs,.cons ra rb⟩
  obtain⟨as,ra⟩:=all ds vs its ih hl hp rv;exact⟨as,.tuple ho hc hd (by simpa using ra)⟩
def aq8{A:BO}{a b:Nat}(hu:A.units+200<CI)(h:Di a b<=150):A.units+min a b<CI:=by
 have:min a b<=150:=h;lia
def b57(hu:X.A.units+200<CI):OpR X (Bb .Eq) (λx y H Q=>∃d e,IsD X.K H d x/\IsD X.K H e y/\d.pure=AC/\e.pure=AC/\Di (f8 d) (f8 e)<=150/\Q (.bl (deq d e)) H):=by
 intro pins s σ H x y v u Q I rx ry h;obtain⟨d,e,h1,h2,p1,p2,hd,q⟩:=h;obtain⟨as,ra⟩:=u7 I h1 p1 rx;obtain⟨bs,rb⟩:=u7 I h2 p2 ry;exact SeqAt.rcAt_reads ra rb (v8 d p1) (v8 e p2) (aq8 hu hd) X.prog X.w _ _ ⟨.bl (deq d e),H,I,rfl,q⟩
def b66(hu:X.A.units+200<CI):OpR X (Bb .NotEq) (λx y H Q=>∃d e,IsD X.K H d x/\IsD X.K H e y/\d.pure=AC/\e.pure=AC/\Di (f8 d) (f8 e)<=150/\Q (.bl (!deq d e)) H):=by
 intro pins s σ H x y v u Q I rx ry h;obtain⟨d,e,h1,h2,p1,p2,hd,q⟩:=h;obtain⟨as,ra⟩:=u7 I h1 p1 rx;obtain⟨bs,rb⟩:=u7 I h2 p2 ry;exact SeqAt.rcNeAt_reads ra rb (v8 d p1) (v8 e p2) (aq8 hu hd) X.prog X.w _ _ ⟨.bl (!deq d e),H,I,rfl,q⟩
theorem ac6:∀(ds:List D)(x:D),((D.pys ds).any λy=>Ak y x.py)=ds.any λy=>deq y x
 |[],_=>rfl
 |d::r,x=>by
  show(Ak d.py x.py||(D.pys r).any _)=(deq d x||r.any _);rw[ac6 r x];rfl
def T2{A:BO}{a b:Nat}(hu:A.units+200<CI)(h:b<=150):A.units+1+min a b<CI:=by
 have:min a b<=b:=DF _ _;lia
def au4(hu:X.A.units+200<CI):OpR X (Bb .In) (λx y H Q=>∃d es,IsD X.K H d x/\IsD X.K H (.tup es) y/\d.pure=AC/\D.pures es=AC/\f8 d<=150/\Q (.bl (es.any λe=>deq e d)) H):=by
 intro pins s σ H x y v u Q I rx ry h;obtain⟨d,es,h1,h2,p1,p2,hd,q⟩:=h;obtain⟨as,ra⟩:=u7 I h1 p1 rx;obtain⟨bs,rb⟩:=u7 I h2 p2 ry;have rb':Reads s.heap u (.tuple (D.pys es)) bs:=rb;exact SeqAt.in_tuple_reads rb' ra (T5 es p2) (v8 d p1) (T2 hu hd) (by rw[ac6];exact⟨.bl _,H,I,rfl,q⟩)
def by0(hu:X.A.units+200<CI):OpR X (Bb .NotIn) (λx y H Q=>∃d es,IsD X.K H d x/\IsD X.K H (.tup es) y/\d.pure=AC/\D.pures es=AC/\f8 d<=150/\Q (.bl (!es.any λe=>deq e d)) H):=by
 intro pins s σ H x y v u Q I rx ry h;obtain⟨d,es,h1,h2,p1,p2,hd,q⟩:=h;obtain⟨as,ra⟩:=u7 I h1 p1 rx;obtain⟨bs,rb⟩:=u7 I h2 p2 ry;have rb':Reads s.heap u (.tuple (D.pys es)) bs:=rb;exact SeqAt.notIn_tuple_reads rb' ra (T5 es p2) (v8 d p1) (T2 hu hd) (by rw[ac6];exact⟨.bl _,H,I,rfl,q⟩)
end
end Ek
namespace PySem
def bi3:fillsNumberSlot (.type "tuple") "mul"=pure AG:=
 fillsNumberSlot_seq (id:="tuple.__mul__") (r:=AA (.builtin "tuple.__rmul__")) Dz.lookup (by decide+kernel) II.lookup (by decide+kernel)
def bj7:seqRepeat? (.type "tuple")=pure (AA (.builtin "tuple.__mul__")):=by
 unfold seqRepeat?;rw[seqSlot_of (T:="tuple") (name:="__mul__") (id:="tuple.__mul__") Dz.lookup (by decide+kernel),seqSlot_of (T:="tuple") (name:="__rmul__") (id:="tuple.__rmul__") II.lookup (by decide+kernel)];rfl
def bi7(a:Int)(t:Tok)(l:AM)(xs:Array AF)(n:Nat)(dd:Option AM)(sl:Array (Option AF)):
  Jr (GR.«int.__rmul__» ⟨[.int a t,.ref l],[]⟩) (λ_ R s=>s.heap.get? l=AA {cls:=.type "tuple",dict:=dd,data:=.seq xs n,slots:=sl}/\R (.ok (.ret Value.notImplemented)) s):=
 .of_wp λprog w A R s h=>by obtain⟨hp,g,d,tk,os⟩:=s;obtain⟨hl,h⟩:=h;wp_walk;exact⟨_,rfl,h⟩
def bp7(l:AM)(xs:Array AF)(n:Nat)(dd:Option AM)(sl:Array (Option AF))(k:Int)(u:Tok)(h0:xs.isEmpty=AG)(h1:2<=k)(h2:k<2^63)(hz:xs.size*k.toNat<=sizeLine):
  Jr (GR.«tuple.__mul__» ⟨[.ref l,.int k u],[]⟩) (λ_ R s=>s.heap.get? l=AA {cls:=.type "tuple",dict:=dd,data:=.seq xs n,slots:=sl}/\R (.ok (.ret (An s.heap.objs.size))) {s with heap:=s.heap.push {cls:=CP "tuple",data:=Data.seq (EW (λx1 x2=>x1++x2) #[] (Ad k.toNat xs))},toks:=s.toks}):=
 .of_wp λprog w A R s h=>by
  obtain⟨hp,g,d,tk,os⟩:=s;obtain⟨hl,h⟩:=h;have hT:(⟨hp,g,d,tk,os⟩:AK).TypeIs (.ref l) "tuple":=⟨_,hl,rfl⟩;have c1:(AB (k < -(2^63))||AB (k>=2^63))=AG:=by simp;lia
  have c2:(xs.isEmpty||k==1)=AG:=by rw[h0];simp;lia
  have c3:(AB (k<=0)||xs.isEmpty)=AG:=by rw[h0];simp;lia
  have e4:(xs.size:Int)*k=((xs.size*k.toNat:Nat):Int):=by rw[IJ,Int.toNat_of_nonneg ⋯]
  have c4:¬((xs.size:Int)*k>(2^63-1) / 8):=by
   rw[e4];have:(sizeLine:Nat)<=(2^63-1) / 8:=by decide
   lia
  have c5:ET ((xs.size:Int)*k)=AG:=by
   unfold ET;rw[e4];exact decide_eq_false ⋯
  show AU _ _ (asIndex (.int k u)>>=_) _ _ _;refine AH (AN ?_);dsimp only;rw[c1];simp only[Ae,if_false];refine AH (AH (Cd hl rfl (AN ?_)));rw[c2,c3];simp only[Ae,if_false];rw[if_neg c4,c5];simp only[Ae,if_false];refine AH (Bg (AN ⟨_,rfl,h⟩) ?_);have hs:(EW (λx1 x2=>x1++x2) #[] (Ad k.toNat xs)).size=k.toNat*xs.size:=by
   have:=L2.aa5 xs.toList k.toNat [];simp only[Do]at this;rw[show(Ad k.toNat xs.toList.toArray)=Ad k.toNat xs by simp]at this;rw[show((#[]:Array AF))=([]:List AF).toArray from rfl,this];simp[L2.at5]
  show(EW (λx1 x2=>x1++x2) #[] (Ad k.toNat xs)).size<=sizeLine;rw[hs,Fl];exact hz
def bl6(l:AM)(xs:Array AF)(n:Nat)(dd:Option AM)(sl:Array (Option AF))(u:Tok):
  Jr (GR.«tuple.__mul__» ⟨[.ref l,.int 1 u],[]⟩) (λ_ R s=>s.heap.get? l=AA {cls:=.type "tuple",dict:=dd,data:=.seq xs n,slots:=sl}/\R (.ok (.ret (An l))) s):=
 .of_wp λprog w A R s h=>by
  obtain⟨hp,g,d,tk,os⟩:=s;obtain⟨hl,h⟩:=h;have hT:(⟨hp,g,d,tk,os⟩:AK).TypeIs (.ref l) "tuple":=⟨_,hl,rfl⟩;show AU _ _ (asIndex (.int 1 u)>>=_) _ _ _;refine AH (AN ?_);dsimp only;rw[if_neg ∅];refine AH (AH (Cd hl rfl (AN ?_)));rw[if_pos ∎];refine AH (AH (HM hT (AN ?_)));rw[if_pos ∅];exact AH (IP (AN ⟨_,rfl,h⟩))
end PySem
namespace L2
open PySem PySem.Spec PyProof.Rows
variable {X:Cx}
abbrev cj5(K:AR):R2:=λx y H Q=>∃a k xs,x=.ref a/\y=.int k/\SqT K H a xs/\xs≠[]/\1<=k/\k<2^62/\xs.length*k.toNat<=sizeLine /\
 (k=1->Q (.ref a) H)/\(k≠1->∀p,H p=AE->Q (.ref p) (upd H p (.tup (Ad k.toNat xs).flatten)))
def b04:OpR X (CS .Mult) (cj5 X.K):=by
 intro pins s σ H x y v u Q I rx ry h;obtain⟨a,k,xs,rfl,rfl,ha,hne,h1,h2,hz,q1,q2⟩:=h;cases rx;obtain⟨t,rfl⟩:=ry;obtain⟨its,r,p1,hl⟩:=I.tuple ha;obtain⟨⟨cls,dd,data,sl⟩,ho,hc,n,hd⟩:=id p1;simp only at hc hd;subst hc hd;have hlen:=r.length;have go:∀{R:AF->AK->Prop},AU (model X.prog X.w) X.A (call (.builtin "tuple.__mul__") [.ref a,.int k t]) R X.xe s->AU (model X.prog X.w) X.A (CS .Mult (.ref a) (.int k t)) R X.xe s:=λhh=>
  wpAny_binaryOp_repeat_ref (T:="tuple") (U:="int") ∅ ⟨_,ho,rfl⟩ (λs'=>IY s' k t) bi3 F.fills_int_mul Ir bj7 F.slot_int_index.lookup
   (Cs Ir (IY s k t) F.entry_int_rmul (F.args_int_rmul_2 _ _) (bi7 k t a its.toArray n dd sl) ⟨ho,rfl,⟨_,ho,rfl⟩,hh⟩)
 by_cases hk:k=1
 ·subst hk;exact go (Cs Dz ⟨_,ho,rfl⟩ IK (Hy _ _) (bl6 a its.toArray n dd sl t) ⟨ho,⟨.ref a,H,I,rfl,q1 rfl⟩⟩)
 ·have hie:its.toArray.isEmpty=AG:=by
   cases its with
   |nil=>exact absurd (Bc hlen) hne
   |cons a b=>simp
  refine go (Cs Dz ⟨_,ho,rfl⟩ IK (Hy _ _) (bp7 a its.toArray n dd sl k t hie ⋯ ⋯ (by rw[Ab,<-hlen];exact hz)) ⟨ho,?_⟩);have hnew:EW (λx1 x2=>x1++x2) #[] (Ad k.toNat its.toArray)=(Ad k.toNat its).flatten.toArray:=by
   have:=aa5 its k.toNat [];rw[Do]at this;exact this
  rw[hnew];refine⟨.ref _,_,I.laid (t':=s.toks) (o:=.tup (Ad k.toNat xs).flatten) (λb o e=>AV _ e) (Af _) ⟨?_,_,r.rep k.toNat,⟨_,Au _ rfl,rfl,rfl,_,rfl⟩⟩,rfl,q2 hk _ I.fresh⟩;rw[at5,Fl];exact hz
end L2
namespace Ek
open PySem PySem.Spec PyProof.Rows L2
variable [Tbs]
variable{x:AQ}{i:Int}{es:List AQ}{H:Hp}{o:Dc}
section
variable {X:Cx} {a b c:AQ} {ta tb tc:DT} {pos:Pos}
def W0{d:D}{v:V}(h:PE X x (tC v))(i:∀H,IsD X.K H d v):PE X x (up X.K λ_ st Q=>Q d st):=PE.imp h λσ H Q q=>by
 obtain⟨env,st,Qd,hE,hS,ht,hq⟩:=q;exact hq.here (i H) hS ht
def ca8{i:Nat}{x:Str}(hN:X.N[i]?=AA x)(hv:Vis X.env.scope x)(hd:(x==("__debug__":Str))=AG)(hcd:(x==("__classdict__":Str))=AG):PE X (.Name x pos) (up X.K λenv st Q=>∃d,env[i]?=AA (AA d)/\Q d st):=
 PE.imp (ad4 hN hv hd hcd) λσ H Q q=>by
  obtain⟨env,st,Qd,hE,hS,⟨d,h1,ht⟩,hq⟩:=q;obtain⟨v,h2,is⟩:=hE.at' i d h1;exact⟨v,h2,hq.here is hS ht⟩
def g7{xs:List AQ}{env:Env}(h:∀e p,x≠.Starred e p):Ai (x::xs) env=(AG,eval x env)::Ai xs env:=by
 cases x<;>first|rfl|exact absurd rfl (h _ _)
def ay8:PA X [] (upA X.K 0 λ_ st Q=>Q [] st):=PA.imp ad7 λσ H Q q=>by
 obtain⟨env,st,Qd,hE,hS,ht,hq⟩:=q;exact hq [] [] H st Ev.refl .nil rfl hS ht
def N5{n:Nat}{t:DA}(ha:PE X a (up X.K ta))(hr:PA X es (upA X.K n t))(h:∀e p,a≠.Starred e p):PA X (a::es) (upA X.K (n+1) λenv st Q=>ta env st λd st1=>t env st1 λds st2=>Q (d::ds) st2):=
 PA.imp (N8 ha hr (g7 h)) λσ H Q q=>by
  obtain⟨env,st,Qd,hE,hS,ht,hq⟩:=q;exact⟨env,st,_,hE,hS,ht,λv d H1 st1 ev is rs q1=>⟨env,st1,_,hE.mono (ev.tk hS),rs,q1,λvs ds H2 st2 ev2 is2 hl rs2 q2=>
   hq (v::vs) (d::ds) H2 st2 (ev.trans ev2) (.cons (is.mono (ev2.tk rs)) is2) (by simp[hl]) rs2 q2⟩⟩
def b83{n k:Nat}{t:DA}(h:PA X es (upA X.K n t))(hn:n<=1000):PE X (.Tuple es k pos) (up X.K λenv st Q=>t env st λds st1=>Q (.tup ds) st1):=
 PE.imp (b87 h) λσ H Q q=>af8 (f:=λds st1 Q=>Q (.tup ds) st1) q λvs ds H' st' Qd is hl rs ht hq=>⟨by rw[<-is.len,hl];exact GW (ak4 hn),hq.newT rs is ht⟩
def b85{n:Nat}{t:DA}(h:PA X es (upA X.K n t))(hn:n<=1000):PE X (.List es pos) (up X.K λenv st Q=>t env st λds st1=>∀p,st1 p=AE->Q (.ref p) (b0 st1 p (.lst ds))):=
 PE.imp (b62 h) λσ H Q q=>af8 (f:=λds st1 Q=>∀p,st1 p=AE->Q (.ref p) (b0 st1 p (.lst ds))) q λvs ds H' st' Qd is hl rs ht hq=>⟨by rw[<-is.len,hl];exact GW (ak4 hn),hq.newL rs is ht⟩
def IsD.int_inv{K:AR}{v:V}(h:IsD K H (.int i) v):v=.int i:=by cases h;rfl
def IsD.str_inv{K:AR}{i:Str}{v:V}(h:IsD K H (.str i) v):v=.str i:=by cases h;rfl
def IsD.bl_inv{K:AR}{i:Bool}{v:V}(h:IsD K H (.bl i) v):v=.bl i:=by cases h;rfl
def IsD.ref_inv{K:AR}{i:AM}{v:V}(h:IsD K H (.ref i) v):v=.ref i:=by cases h;rfl
def b42{n k:Nat}(h:n<2^k)(h0:n≠0):n.log2<k:=(log2_lt h0).mpr h
def as2(h:i.natAbs<2^20000):Cy i<=20000:=by
 unfold Cy
 by_cases h0:i=0
 ·subst h0;exact Ar _
 ·rw[if_neg (by simpa using h0)];exact b42 h ⋯
theorem F0.ok{j:Int}(h:F0 i j):Jg i j:=by
 rcases h with h|⟨h1,h2⟩
 ·exact h.ok
 ·have b1:=as2 h1;have b2:=as2 h2;unfold Jg;have:FV ((Cy i:Int)+(Cy j:Int))=AG:=by
   unfold FV;refine decide_eq_false ?_;have:(40000:Int)<=(bitsLine:Nat):=by decide
   lia
  first
   |(rw[this];simp)
   |(intro z;simp only[Aq]at z;have z3:=z.2;first|(rw[this]at z3;cases z3)|(simp[this]at z3))
def bx7:OpR X (CS .Mult) (rI F0 λi j=>.int (i*j)):=opI λ_ _ _ _ _ _ _ hc q=>mul_int q hc.ok
theorem _root_.Ek.IsDs.repl{K:AR}{xs:List D}{vs:List V}(r:IsDs K H xs vs):∀n:Nat,IsDs K H (Ad n xs).flatten (Ad n vs).flatten
 |0=>.nil
 |n+1=>by
  rw[Cf,Cf,Ci,Ci];exact r.append (r.repl n)
def b51{o:EF}(ha:PE X a (up X.K ta))(hb:PE X b (up X.K tb)):PE X (.BinOp a o b pos) (up X.K λenv st Q=>ta env st λx st1=>tb env st1 λy st2=>t4 o x y st2 Q):=by
 have bad:∀{P:Prop},False->P:=λh=>h.elim;cases o with
 |Add=>
  refine PE.imp (C7 (ce0.or (bx6.or ce6)) ha hb) λσ H Q q=>up2 (f:=t4 .Add) q λv w d e H' st' Qd i1 i2 rs ht hq=>?_;cases d<;>cases e<;>first|exact AX ht|skip
  ·exact .inl ⟨_,_,i1.int_inv,i2.int_inv,hq.here (.int _) rs ht⟩
  ·rename_i xs ys;obtain⟨p,vs,e1,q1,r1⟩:=i1.tup_invX;obtain⟨q',ws,e2,q2,r2⟩:=i2.tup_invX;refine .inr (.inl ⟨p,q',vs,ws,e1,e2,q1.sqt,q2.sqt,by rw[<-r1.len,<-r2.len];exact ht.1,λz=>?_,λz1 z2=>?_,λ_ _=>hq.newT rs (r1.append r2) ht.2⟩)
   ·have:xs=[]:=by rw[z]at r1;have:=r1.len;exact Bc (by simpa using this)
    subst this;exact hq.here (IsD.mk q2 r2) rs ht.2
   ·have:ys=[]:=by rw[z2]at r2;have:=r2.len;exact Bc (by simpa using this)
    subst this;have h2:=ht.2;rw[BP]at h2;exact hq.here (IsD.mk q1 r1) rs h2
  ·obtain⟨xs,ys,s1,s2,hz,h2⟩:=ht;obtain⟨vs,e1,r1⟩:=rs.lst s1;obtain⟨ws,e2,r2⟩:=rs.lst s2;exact .inr (.inr ⟨_,_,vs,ws,i1.ref_inv,i2.ref_inv,e1,e2,by rw[<-r1.len,<-r2.len];exact hz,hq.newL rs (r1.append r2) h2⟩)
 |Sub=>
  refine PE.imp (C7 b68 ha hb) λσ H Q q=>up2 (f:=t4 .Sub) q λv w d e H' st' Qd i1 i2 rs ht hq=>?_;cases d<;>cases e<;>first|exact AX ht|skip
  exact⟨_,_,i1.int_inv,i2.int_inv,hq.here (.int _) rs ht⟩
 |Mult=>
  refine PE.imp (C7 (bx7.or b04) ha hb) λσ H Q q=>up2 (f:=t4 .Mult) q λv w d e H' st' Qd i1 i2 rs ht hq=>?_;cases d<;>cases e<;>first|exact AX ht|skip
  ·exact .inl ⟨_,_,i1.int_inv,i2.int_inv,ht.1,hq.here (.int _) rs ht.2⟩
  ·rename_i xs k;obtain⟨p,vs,e1,q1,r1⟩:=i1.tup_invX;obtain⟨h0,h1,h2,h3,ht⟩:=ht;refine .inr ⟨p,k,vs,e1,i2.int_inv,q1.sqt,λz=>h0 (by rw[z]at r1;exact Bc (by simpa using r1.len)),h1,h2,by rw[<-r1.len];exact h3,λz=>?_,λ_=>hq.newT rs (r1.repl k.toNat) ht⟩;subst z;have ht':Qd (.tup xs) st':=by simpa using ht
   exact hq.here (IsD.mk q1 r1) rs ht'
 |Mod=>
  refine PE.imp (C7 b70 ha hb) λσ H Q q=>up2 (f:=t4 .Mod) q λv w d e H' st' Qd i1 i2 rs ht hq=>?_;cases d<;>cases e<;>first|exact AX ht|skip
  exact⟨_,_,i1.int_inv,i2.int_inv,ht.1,hq.here (.int _) rs ht.2⟩
 |FloorDiv=>
  refine PE.imp (C7 bv9 ha hb) λσ H Q q=>up2 (f:=t4 .FloorDiv) q λv w d e H' st' Qd i1 i2 rs ht hq=>?_;cases d<;>cases e<;>first|exact AX ht|skip
  exact⟨_,_,i1.int_inv,i2.int_inv,ht.1,hq.here (.int _) rs ht.2⟩
 |Pow=>
  refine PE.imp (C7 cb9 ha hb) λσ H Q q=>up2 (f:=t4 .Pow) q λv w d e H' st' Qd i1 i2 rs ht hq=>?_;cases d<;>cases e<;>first|exact AX ht|skip
  exact⟨_,_,i1.int_inv,i2.int_inv,ht.1,hq.here (.int _) rs ht.2⟩
 |_=>
  refine PE.imp (C7 (op:=_) (r:=λ_ _ _ _=>False) (λ_ _ _ _ _ _ _ _ _ _ _ _ h=>h.elim) ha hb) λσ H Q q=>up2 (f:=λ_ _ _ _=>False) (by
   obtain⟨env,st,Qd,hE,hS,ht,hq⟩:=q;exact⟨env,st,Qd,hE,hS,ht,hq⟩) λv w d e H' st' Qd i1 i2 rs ht hq=>ht
def b84(ha:PE X a (up X.K ta)):PE X (.UnaryOp .USub a pos) (up X.K λenv st Q=>ta env st λx st1=>∃i,x=.int i/\Q (.int (-i)) st1):=
 PE.imp (ch1 b77 ha) λσ H Q q=>up1 (f:=λx st1 Q=>∃i,x=.int i/\Q (.int (-i)) st1) q λv d H' st' Qd is rs ht hq=>by
  obtain⟨i,rfl,ht⟩:=ht;exact⟨i,is.int_inv,hq.here (.int _) rs ht⟩
abbrev W7(X:Cx):Dc->R2
 |.Eq=>λx y H Q=>∃d e,IsD X.K H d x/\IsD X.K H e y/\d.pure=AC/\e.pure=AC/\Di (f8 d) (f8 e)<=150/\Q (.bl (deq d e)) H
 |.NotEq=>λx y H Q=>∃d e,IsD X.K H d x/\IsD X.K H e y/\d.pure=AC/\e.pure=AC/\Di (f8 d) (f8 e)<=150/\Q (.bl (!deq d e)) H
 |.Lt=>rI0 λi j=>.bl (AB (i<j))
 |.LtE=>rI0 λi j=>.bl (AB (i<=j))
 |.Gt=>rI0 λi j=>.bl (AB (j<i))
 |.GtE=>rI0 λi j=>.bl (AB (j<=i))
 |.In=>λx y H Q=>(∃d es,IsD X.K H d x/\IsD X.K H (.tup es) y/\d.pure=AC/\D.pures es=AC/\f8 d<=150/\Q (.bl (es.any λe=>deq e d)) H)\/(∃(i:Int)(ns:List Int)(a:AM),x=.int i/\y=.ref a/\SqT X.K H a (ns.map V.int)/\Q (.bl (AB (i∈ns))) H)\/∃a k kvs,x=kV k/\y=.ref a/\H a=AA (.dK kvs)/\Q (.bl (j9 kvs k).isSome) H
 |.NotIn=>λx y H Q=>(∃d es,IsD X.K H d x/\IsD X.K H (.tup es) y/\d.pure=AC/\D.pures es=AC/\f8 d<=150/\Q (.bl (!es.any λe=>deq e d)) H)\/∃a k kvs,x=kV k/\y=.ref a/\H a=AA (.dK kvs)/\Q (.bl (!(j9 kvs k).isSome)) H
 |_=>λ_ _ _ _=>False
omit [Tbs]in
theorem at4 [Tbs]{K:AR}:∀ns:List Int,IsDs K H (ns.map D.int) (ns.map V.int)
 |[]=>.nil
 |n::r=>.cons (.int n) (at4 r)
omit [Tbs]in
theorem an0:∀ns:List Int,D.pures (ns.map D.int)=AC
 |[]=>rfl
 |n::r=>by show(AC&&D.pures (r.map D.int))=AC;rw[an0 r];rfl
omit [Tbs]in
theorem aw5:∀ns:List Int,((ns.map D.int).any λe=>deq e (.int i))=AB (i∈ns)
 |[]=>rfl
 |n::r=>by
  have e:deq (.int n) (.int i)=AB (n=i):=by unfold deq D.py Ak;exact FX.mpr ∎
  rw[AY,Br,aw5 r,e];simp only[AT,IL]
  congr 1;exact decide_eq_decide.mpr ⟨Hz,Hz⟩
def at6(hu:X.A.units+200<CI):∀o:Dc,OpR X (Bb o) (W7 X o)
 |.Eq=>b57 hu
 |.NotEq=>b66 hu
 |.Lt=>ch5
 |.LtE=>cj0
 |.Gt=>cg5
 |.GtE=>cj6
 |.In=>λpins s σ H x y v u Q I rx ry h=>by
  rcases h with h|⟨i,ns,a,rfl,rfl,sq,q⟩|⟨a,k,kvs,rfl,rfl,e,q⟩
  ·exact au4 hu pins s σ H x y v u Q I rx ry h
  ·letI T:Tbs:=⟨[],λ_ _ _ _=>True,AC⟩
   exact @au4 T X hu pins s σ H _ _ v u Q I rx ry ⟨.int i,ns.map D.int,.int i,IsD.mk (.inr ⟨rfl,sq⟩) (at4 ns),rfl,an0 ns,Ar _,by rw[aw5];exact q⟩
  ·cases ry;exact cn3 ⋯ I (t9.k e) rx λs' I'=>⟨.bl _,H,I',rfl,q⟩
 |.NotIn=>λpins s σ H x y v u Q I rx ry h=>by
  rcases h with h|⟨a,k,kvs,rfl,rfl,e,q⟩
  ·exact by0 hu pins s σ H x y v u Q I rx ry h
  ·cases ry;exact b07 ⋯ I (t9.k e) rx λs' I'=>⟨.bl _,H,I',rfl,q⟩
 |.Is=>λ_ _ _ _ _ _ _ _ _ _ _ _ h=>h.elim
 |.IsNot=>λ_ _ _ _ _ _ _ _ _ _ _ _ h=>h.elim
def a42{v w:V}{d e:D}{H':Hp}{st':Sto}{Qd:DK}{Q:VK}(i1:IsD X.K H' d v)(i2:IsD X.K H' e w)(rs:RelS X.K st' H')(ht:j3 o d e st' Qd)(hq:l9 X.K st' H' Qd Q):W7 X o v w H' Q:=by
 cases o with
 |Eq=>exact⟨d,e,i1,i2,ht.1,ht.2.1,ht.2.2.1,hq.here (.bl _) rs ht.2.2.2⟩
 |NotEq=>exact⟨d,e,i1,i2,ht.1,ht.2.1,ht.2.2.1,hq.here (.bl _) rs ht.2.2.2⟩
 |Lt=>cases d<;>cases e<;>first|exact AX ht|exact⟨_,_,i1.int_inv,i2.int_inv,hq.here (.bl _) rs ht⟩
 |LtE=>cases d<;>cases e<;>first|exact AX ht|exact⟨_,_,i1.int_inv,i2.int_inv,hq.here (.bl _) rs ht⟩
 |Gt=>cases d<;>cases e<;>first|exact AX ht|exact⟨_,_,i1.int_inv,i2.int_inv,hq.here (.bl _) rs ht⟩
 |GtE=>cases d<;>cases e<;>first|exact AX ht|exact⟨_,_,i1.int_inv,i2.int_inv,hq.here (.bl _) rs ht⟩
 |In=>
  have hd:∀(k:Key)(a:AM)(kvs:List (Key×D)),v=kV k->w=.ref a->st' a=AA (.dct kvs)->Qd (.bl (u2 kvs k).isSome) st'->W7 X .In v w H' Q:=λk a kvs e1 e2 e3 ht=>by
   obtain⟨vs,h1,h2⟩:=rs.dct e3;refine .inr (.inr ⟨a,k,vs,e1,e2,h1,?_⟩)
   rcases h2.look k with⟨l1,l2⟩|⟨d,v,l1,l2,_⟩<;>(rw[l1]at ht;rw[l2];exact hq.here (.bl _) rs ht)
  cases e with
  |tup es=>exact .inl ⟨d,es,i1,i2,ht.1,ht.2.1,ht.2.2.1,hq.here (.bl _) rs ht.2.2.2⟩
  |ref a=>
   cases d<;>first|exact AX ht|skip
   ·obtain⟨kvs,e,ht⟩:=ht;exact hd (.inl _) a kvs i1.int_inv i2.ref_inv e ht
   ·obtain⟨kvs,e,ht⟩:=ht;exact hd (.inr _) a kvs i1.str_inv i2.ref_inv e ht
  |ktup ns=>
   cases d<;>first|exact AX ht|skip
   cases i2 with
   |ktup sq=>exact .inr (.inl ⟨_,ns,_,i1.int_inv,rfl,sq.elim (λz=>by rcases z with z|⟨_,z⟩<;>cases z) .inr,hq.here (.bl _) rs ht⟩)
  |_=>exact AX (by cases d<;>exact ht)
 |NotIn=>
  have hd:∀(k:Key)(a:AM)(kvs:List (Key×D)),v=kV k->w=.ref a->st' a=AA (.dct kvs)->Qd (.bl (!(u2 kvs k).isSome)) st'->W7 X .NotIn v w H' Q:=λk a kvs e1 e2 e3 ht=>by
   obtain⟨vs,h1,h2⟩:=rs.dct e3;refine .inr ⟨a,k,vs,e1,e2,h1,?_⟩
   rcases h2.look k with⟨l1,l2⟩|⟨d,v,l1,l2,_⟩<;>(rw[l1]at ht;rw[l2];exact hq.here (.bl _) rs ht)
  cases e with
  |tup es=>exact .inl ⟨d,es,i1,i2,ht.1,ht.2.1,ht.2.2.1,hq.here (.bl _) rs ht.2.2.2⟩
  |ref a=>
   cases d<;>first|exact AX ht|skip
   ·obtain⟨kvs,e,ht⟩:=ht;exact hd (.inl _) a kvs i1.int_inv i2.ref_inv e ht
   ·obtain⟨kvs,e,ht⟩:=ht;exact hd (.inr _) a kvs i1.str_inv i2.ref_inv e ht
  |_=>exact AX (by cases d<;>exact ht)
 |Is=>exact AX ht
 |IsNot=>exact AX ht
def S6(o:Dc)(b:AQ)(h:∀es k p,b≠.Set es k p):Bw o b=AG:=by
 cases b<;>first|rfl|exact absurd rfl (h _ _ _)
def cd1(hu:X.A.units+200<CI)(ha:PE X a (up X.K ta))(hb:PE X b (up X.K tb))(hm:∀es k p,b≠.Set es k p):PE X (.Compare a [o] [b] pos) (up X.K λenv st Q=>ta env st λx st1=>tb env st1 λy st2=>j3 o x y st2 Q):=
 PE.imp (ar9 (at6 hu o) ha hb (S6 o b hm)) λσ H Q q=>up2 (f:=j3 o) q λv w d e H' st' Qd i1 i2 rs ht hq=>a42 i1 i2 rs ht hq
def b58(hu:X.A.units+200<CI)(ha:PE X a (up X.K ta))(hb:PE X b (up X.K tb))(hm:∀es k p,b≠.Set es k p):
  PT X (.Compare a [o] [b] pos) (upB X.K λenv st Q=>ta env st λx st1=>tb env st1 λy st2=>j3 o x y st2 λd st'=>∃k,d=.bl k/\Q k st'):=
 PT.imp (aq1 (at6 hu o) ha hb (S6 o b hm)) λσ H Q q=>by
  obtain⟨env,st,Qd,hE,hS,ht,hq⟩:=q;refine up2 (f:=j3 o) (Q:=λx H'=>∃k,x=.bl k/\Q k H') ⟨env,st,_,hE,hS,ht,λv d H' st' ev is rs q1=>?_⟩ λv w d e H' st' Qd i1 i2 rs ht hq=>a42 i1 i2 rs ht hq;obtain⟨k,rfl,q1⟩:=q1;exact⟨k,is.bl_inv,hq k H' st' ev rs q1⟩
def ce4{j pos'}(ha:PE X a (up X.K ta)):PE X (.Compare a [.Is] [.Constant .none j pos'] pos) (up X.K λenv st Q=>ta env st λx st1=>(x=.non/\Q (.bl AC) st1)\/(x≠.non/\Q (.bl AG) st1)):=
 PE.imp (ax6 (a39 ha) rfl) λσ H Q q=>up1 (f:=λx st1 Q=>(x=.non/\Q (.bl AC) st1)\/(x≠.non/\Q (.bl AG) st1)) q λv d H' st' Qd is rs ht hq=>by
  rcases ht with⟨rfl,ht⟩|⟨hn,ht⟩
  ·cases is;exact hq.here (.bl _) rs (by simpa using ht)
  ·have e:AB (v=V.non)=AG:=decide_eq_false λz=>hn (by subst z;cases is;rfl);rw[e];exact hq.here (.bl _) rs ht
def a62{t:TE}{f:DT}(h:PT X x (tB t))(i:∀σ H Q,up X.K f σ H Q->t σ H Q):PT X x (upB X.K λenv st Q=>f env st λd st'=>∃b,d=.bl b/\Q b st'):=PT.imp h λσ H Q q=>by
 obtain⟨env,st,Qd,hE,hS,ht,hq⟩:=q;refine i σ H _ ⟨env,st,_,hE,hS,ht,λv d H' st' ev is rs q=>?_⟩;obtain⟨b,rfl,q⟩:=q;cases is;exact⟨b,rfl,hq b H' st' ev rs q⟩
def cc3{j pos'}(ha:PE X a (up X.K ta)):PT X (.Compare a [.Is] [.Constant .none j pos'] pos) (upB X.K λenv st Q=>ta env st λx st1=>(x=.non/\∃b,D.bl AC=.bl b/\Q b st1)\/(x≠.non/\∃b,D.bl AG=.bl b/\Q b st1)):=
 a62 (f:=λenv st Q=>ta env st λx st1=>(x=.non/\Q (.bl AC) st1)\/(x≠.non/\Q (.bl AG) st1)) (ay2 (a39 ha) rfl) λσ H Q q=>up1 (f:=λx st1 Q=>(x=.non/\Q (.bl AC) st1)\/(x≠.non/\Q (.bl AG) st1)) q λv d H' st' Qd is rs ht hq=>by
  rcases ht with⟨rfl,ht⟩|⟨hn,ht⟩
  ·cases is;exact hq.here (.bl _) rs (by simpa using ht)
  ·have e:AB (v=V.non)=AG:=decide_eq_false λz=>hn (by subst z;cases is;rfl);rw[e];exact hq.here (.bl _) rs ht
@[reducible]noncomputable def tst(t:DT):DB:=λenv st Q=>t env st λd st'=>∃b,d=.bl b/\Q b st'
variable {c8:List AQ}
def a03(ha:PE X a (up X.K ta))(hb:PE X (.BoolOp .And (b::c8) pos) (up X.K tb)):PE X (.BoolOp .And (a::b::c8) pos) (up X.K λenv st Q=>ta env st λx st1=>∃c,x=.bl c/\(if c=AC then tb env st1 Q else Q (.bl AG) st1)):=
 PE.imp (b78 ha hb) λσ H Q q=>by
  obtain⟨env,st,Qd,hE,hS,ht,hq⟩:=q;refine⟨env,st,_,hE,hS,ht,λv d H1 st1 ev is rs q1=>?_⟩;obtain⟨k,rfl,q1⟩:=q1;refine⟨k,is.bl_inv,?_⟩;cases k with
  |true=>exact⟨env,st1,Qd,hE.mono (ev.tk hS),rs,q1,hq.after ev⟩
  |false=>exact(hq.after ev).here (.bl _) rs q1
def ba0(ha:PE X a (up X.K ta))(hb:PE X (.BoolOp .Or (b::c8) pos) (up X.K tb)):PE X (.BoolOp .Or (a::b::c8) pos) (up X.K λenv st Q=>ta env st λx st1=>∃c,x=.bl c/\(if c=AC then Q (.bl AC) st1 else tb env st1 Q)):=
 PE.imp (cg1 ha hb) λσ H Q q=>by
  obtain⟨env,st,Qd,hE,hS,ht,hq⟩:=q;refine⟨env,st,_,hE,hS,ht,λv d H1 st1 ev is rs q1=>?_⟩;obtain⟨k,rfl,q1⟩:=q1;refine⟨k,is.bl_inv,?_⟩;cases k with
  |false=>exact⟨env,st1,Qd,hE.mono (ev.tk hS),rs,q1,hq.after ev⟩
  |true=>exact(hq.after ev).here (.bl _) rs q1
def b61(ha:PE X a (up X.K ta)):PE X (.UnaryOp .Not a pos) (up X.K λenv st Q=>ta env st λx st1=>∃c,x=.bl c/\Q (.bl (!c)) st1):=
 PE.imp (cd4 ha) λσ H Q q=>up1 (f:=λx st1 Q=>∃c,x=.bl c/\Q (.bl (!c)) st1) q λv d H' st' Qd is rs ht hq=>by
  obtain⟨c,rfl,ht⟩:=ht;exact⟨c,is.bl_inv,hq.here (.bl _) rs ht⟩
def a40(ha:PT X a (upB X.K (tst ta)))(hb:PW X (.BoolOp .And (b::c8) pos) (upB X.K (tst tb))):PW X (.BoolOp .And (a::b::c8) pos) (upB X.K (tst λenv st Q=>ta env st λx st1=>∃c,x=.bl c/\(if c=AC then tb env st1 Q else Q (.bl AG) st1))):=
 PW.imp (b94 ha hb) λσ H Q q=>by
  obtain⟨env,st,Qd,hE,hS,ht,hq⟩:=q;refine⟨env,st,λc st1=>if c=AC then tb env st1 (λd st'=>∃b,d=.bl b/\Qd b st')else ∃b,D.bl AG=.bl b/\Qd b st1,hE,hS,ht,λk H1 st1 ev rs q1=>?_⟩;cases k with
  |true=>
   rw[if_pos rfl]at q1 ⊢;exact⟨env,st1,Qd,hE.mono (ev.tk hS),rs,q1,λc H2 st2 ev2 rs2 q2=>hq c H2 st2 (ev.trans ev2) rs2 q2⟩
  |false=>
   rw[if_neg AL]at q1 ⊢;obtain⟨b,e,q1⟩:=q1;cases e;exact hq AG H1 st1 ev rs q1
def bc6(ha:PT X a (upB X.K (tst ta)))(hb:PW X (.BoolOp .Or (b::c8) pos) (upB X.K (tst tb))):PW X (.BoolOp .Or (a::b::c8) pos) (upB X.K (tst λenv st Q=>ta env st λx st1=>∃c,x=.bl c/\(if c=AC then Q (.bl AC) st1 else tb env st1 Q))):=
 PW.imp (cf5 ha hb) λσ H Q q=>by
  obtain⟨env,st,Qd,hE,hS,ht,hq⟩:=q;refine⟨env,st,λc st1=>if c=AC then ∃b,D.bl AC=.bl b/\Qd b st1 else tb env st1 (λd st'=>∃b,d=.bl b/\Qd b st'),hE,hS,ht,λk H1 st1 ev rs q1=>?_⟩;cases k with
  |false=>
   rw[if_neg AL]at q1 ⊢;exact⟨env,st1,Qd,hE.mono (ev.tk hS),rs,q1,λc H2 st2 ev2 rs2 q2=>hq c H2 st2 (ev.trans ev2) rs2 q2⟩
  |true=>
   rw[if_pos rfl]at q1 ⊢;obtain⟨b,e,q1⟩:=q1;cases e;exact hq AC H1 st1 ev rs q1
def cd8(ha:PT X a (upB X.K (tst ta))):PT X (.UnaryOp .Not a pos) (upB X.K (tst λenv st Q=>ta env st λx st1=>∃c,x=.bl c/\Q (.bl (!c)) st1)):=
 PT.imp (b60 ha) λσ H Q q=>by
  obtain⟨env,st,Qd,hE,hS,ht,hq⟩:=q;refine⟨env,st,λc st1=>∃b,D.bl (!c)=.bl b/\Qd b st1,hE,hS,ht,λk H1 st1 ev rs q1=>?_⟩;obtain⟨b,e,q1⟩:=q1;cases e;exact hq _ H1 st1 ev rs q1
def b50{t1:DT}(hc:PT X c (upB X.K (tst t1)))(ha:PE X a (up X.K ta))(hb:PE X b (up X.K tb)):PE X (.IfExp c a b pos) (up X.K λenv st Q=>t1 env st λx st1=>∃k,x=.bl k/\(if k=AC then ta env st1 Q else tb env st1 Q)):=
 PE.imp (bu8 hc ha hb) λσ H Q q=>by
  obtain⟨env,st,Qd,hE,hS,ht,hq⟩:=q;refine⟨env,st,λk st1=>if k=AC then ta env st1 Qd else tb env st1 Qd,hE,hS,ht,λk H1 st1 ev rs q1=>?_⟩;cases k with
  |true=>exact⟨env,st1,Qd,hE.mono (ev.tk hS),rs,q1,hq.after ev⟩
  |false=>exact⟨env,st1,Qd,hE.mono (ev.tk hS),rs,q1,hq.after ev⟩
end
end Ek
namespace Ek
open PySem PySem.Spec PyProof.Rows L2
variable [Tbs]
variable{H:Hp}{f:Str}{fd:Bo}{ps:List Str}{sp:Spec}{es:List AQ}{apos:Pos}{Ca:AM}
section
variable {X:Cx} {a b c:AQ} {ta tb tc:DT} {pos p:Pos}
def a46{K:AR}{ds:List D}{vs:List V}{i:Int}{d:D}(r:IsDs K H ds vs)(h:atI ds i=AA d):∃v,atI vs i=AA v/\IsD K H d v:=by
 unfold atI at h ⊢;rw[<-r.len];cases e:ixN ds.length i with
 |none=>rw[e]at h;cases h
 |some j=>
  rw[e]at h;exact r.get h
def Z7(h:∀l u s p,b≠.Slice l u s p):ap9 b:=λo i=>by
 cases b<;>first|rfl|exact absurd rfl (h _ _ _ _)
abbrev ck0:R2:=λx y H Q=>∃p k kvs v,x=.ref p/\y=kV k/\H p=AA (.dK kvs)/\j9 kvs k=AA v/\Q v H
def cb7(hu:X.A.units+200<CI):IxR X ck0:=by
 intro value slice pins s σ H x y v u Q I rx ry h hs;obtain⟨p,k,kvs,z,rfl,rfl,hH,hv,q⟩:=h;cases rx;have g:t9 H p (kV k) (AA z):=by rw[<-hv];exact t9.k hH
 have hT:=ai0 I g;unfold FL;refine AH ?_;rw[He hT.not_modules];refine AH (Bu hT PySem.F.slot_dict_getitem.lookup ?_);have fin:AU (model X.prog X.w) X.A (subscripted slice AG (.ref p) u) (λr s₃=>AU (model X.prog X.w) X.A (Jk value (.ref p) r>>=λ_=>pure r) (EP X pins σ Q) X.xe s₃) X.xe s:=by
  rw[hs];refine JU (ak6 ⋯ I g ry λw' s3 I3 rw'=>AH (Hr (AN ⟨z,H,I3,rw',q⟩)))
 first
  |exact AN (AH fin)
  |exact AH (AN (AH fin))
  |exact AH fin
def ch4(hu:X.A.units+200<CI)(ha:PE X a (up X.K ta))(hb:PE X b (up X.K tb))(hs:∀l u s p,b≠.Slice l u s p):PE X (.Subscript a b pos) (up X.K λenv st Q=>ta env st λx st1=>tb env st1 λy st2=>ixR x y st2 Q):=
 PE.imp (cf7 (by9.or (b79.or ((cb7 hu).or cc5))) ha hb (Z7 hs)) λσ H Q q=>up2 (f:=ixR) q λv w d e H' st' Qd i1 i2 rs ht hq=>by
  cases d<;>cases e<;>first|exact AX ht|skip
  ·obtain⟨c,hl,e1,ht⟩:=ht;exact .inr (.inr (.inr ⟨_,_,c,i1.str_inv,i2.int_inv,hl,e1,hq.here (.str _) rs ht⟩))
  ·obtain⟨d,e1,ht⟩:=ht;obtain⟨p,vs,rfl,hq',r⟩:=i1.tup_inv;obtain⟨v',e2,is⟩:=a46 r e1;exact .inr (.inl ⟨p,vs,_,v',rfl,i2.int_inv,hq',e2,hq.here is rs ht⟩)
  ·rcases ht with⟨ds,d,hr,e1,ht⟩|⟨kvs,d,hr,e1,ht⟩
   ·obtain⟨vs,hq',r⟩:=rs.rd hr;obtain⟨v',e2,is⟩:=a46 r e1;exact .inl ⟨_,vs,_,v',i1.ref_inv,i2.int_inv,hq',e2,hq.here is rs ht⟩
   ·obtain⟨vs,hH,r⟩:=rs.dct hr
    rcases r.look (.inl _)with⟨l1,l2⟩|⟨d',v',l1,l2,is⟩
    ·rw[l1]at e1;cases e1
    ·rw[l1]at e1;cases e1;exact .inr (.inr (.inl ⟨_,.inl _,vs,v',i1.ref_inv,i2.int_inv,hH,l2,hq.here is rs ht⟩))
  ·obtain⟨kvs,d,hr,e1,ht⟩:=ht;obtain⟨vs,hH,r⟩:=rs.dct hr
   rcases r.look (.inr _)with⟨l1,l2⟩|⟨d',v',l1,l2,is⟩
   ·rw[l1]at e1;cases e1
   ·rw[l1]at e1;cases e1;exact .inr (.inr (.inl ⟨_,.inr _,vs,v',i1.ref_inv,i2.str_inv,hH,l2,hq.here is rs ht⟩))
@[reducible]noncomputable def DO:=d8->Sto->(Option Int->Sto->Prop)->Prop
abbrev upO(K:AR)(t:DO):TO:=λσ H Q=>∃env st Qd,RelE K H env σ/\RelS K st H/\t env st Qd/\∀o H' st',Ev st H st' H'->RelS K st' H'->Qd o st'->Q o H'
def _root_.L2.PO.imp{X:Cx}{x:Option AQ}{t t':TO}(h:PO X x t)(i:∀σ H Q,t' σ H Q->t σ H Q):PO X x t':=λpins s σ H Q I q=>h pins s σ H Q I (i σ H Q q)
def b31:PO X AE (upO X.K λ_ st k=>k AE st):=PO.imp bz1 λσ H Q q=>by
 obtain⟨env,st,Qd,hE,hS,ht,hq⟩:=q;exact hq AE H st Ev.refl hS ht
def ab9(ha:PE X a (up X.K ta)):PO X (AA a) (upO X.K λenv st k=>ta env st λd st'=>∃i,d=.int i/\k (AA i) st'):=PO.imp (by1 ha) λσ H Q q=>by
 obtain⟨env,st,Qd,hE,hS,ht,hq⟩:=q;refine⟨env,st,_,hE,hS,ht,λv d H' st' ev is rs q1=>?_⟩;obtain⟨i,rfl,q1⟩:=q1;exact⟨i,is.int_inv,hq _ H' st' ev rs q1⟩
def az1{K:AR}{ds:List D}{vs:List V}(r:IsDs K H ds vs)(lo hi:Option Int):IsDs K H (z5 ds lo hi) (D3 vs lo hi):=by
 unfold z5 D3;rw[r.len];exact(r.drop _).take _
def ci2{lo hi:Option AQ}{tl th:DO}{p2:Pos}(ha:PE X a (up X.K ta))(hl:PO X lo (upO X.K tl))(hh:PO X hi (upO X.K th)):
  PE X (.Subscript a (.Slice lo hi AE p2) pos) (up X.K λenv st Q=>ta env st λx st1=>tl env st1 λl st2=>th env st2 λh st3=>slR x l h st3 Q):=
 PE.imp (an6 (b72.or b44) ha hl hh) λσ H Q q=>by
  obtain⟨env,st,Qd,hE,hS,ht,hq⟩:=q;refine⟨env,st,_,hE,hS,ht,λv d H1 st1 ev1 is1 rs1 q1=>⟨env,st1,_,hE.mono (ev1.tk hS),rs1,q1,λl H2 st2 ev2 rs2 q2=>⟨env,st2,_,(hE.mono (ev1.tk hS)).mono (ev2.tk rs1),rs2,q2,λh H3 st3 ev3 rs3 q3=>?_⟩⟩⟩;have is3:=(is1.mono (ev2.tk rs1)).mono (ev3.tk rs2);have hq3:=((hq.after ev1).after ev2).after ev3;cases d<;>first|exact AX q3|skip
  ·obtain⟨p,vs,rfl,hs,r⟩:=is3.tup_inv;exact .inl ⟨p,vs,rfl,hs,by rw[<-r.len];exact q3.1,hq3.newT rs3 (az1 r l h) q3.2⟩
  ·obtain⟨ds,hr,q3⟩:=q3;obtain⟨vs,hs,r⟩:=rs3.rd hr;exact .inr ⟨_,vs,is3.ref_inv,hs,hq3.newL rs3 (az1 r l h) q3⟩
def A3(ha:PE X a (up X.K ta))(h:∀e p,a≠.Starred e p):PA X [a] (upA X.K 1 λenv st Q=>ta env st λd st1=>Q [d] st1):=N5 ha ay8 h
def U6{id:String}{r:List V->Hp->VK->Prop}{g:D->Sto->DK->Prop}(hc:u1 X (.builtin id) r)(hg:Gl X f)(hm:X.mg f=AE)(hv:Aw f=AA (.builtin id))(ha:PE X a (up X.K ta))(hs:∀e p,a≠.Starred e p)
  (imp:∀v d H' st' Qd Q,IsD X.K H' d v->RelS X.K st' H'->g d st' Qd->l9 X.K st' H' Qd Q->r [v] H' Q) (hn:f≠"__name__") (hdb:(f==("__debug__":Str))=AG) :
  PE X (.Call (.Name f p) [a] [] pos) (up X.K λenv st Q=>ta env st λx st1=>g x st1 Q):=
 PE.imp (S1 hc hg hm hv (A3 ha hs) hn hdb (g7 hs) rfl) λσ H Q q=>by
  obtain⟨env,st,Qd,hE,hS,ht,hq⟩:=q;refine⟨env,st,(λds st1=>match ds with|[d]=>g d st1 Qd|_=>False),hE,hS,ht,λvs ds H' st' ev is hl rs q1=>?_⟩
  match ds,hl with
  |[d],_=>
   obtain⟨v,ws,rfl,i1,i2⟩:=is.inv_cons;rw[i2.inv_nil];exact imp v d H' st' Qd Q i1 rs q1 (hq.after ev)
def P3{T:String}{r:List V->Hp->VK->Prop}{g:D->Sto->DK->Prop}(hc:u1 X (.type T) r)(hg:Gl X f)(hm:X.mg f=AE)(hv:Aw f=AA (.type T))(ha:PE X a (up X.K ta))(hs:∀e p,a≠.Starred e p)
  (imp:∀v d H' st' Qd Q,IsD X.K H' d v->RelS X.K st' H'->g d st' Qd->l9 X.K st' H' Qd Q->r [v] H' Q) (hn:f≠"__name__") (hdb:(f==("__debug__":Str))=AG) :
  PE X (.Call (.Name f p) [a] [] pos) (up X.K λenv st Q=>ta env st λx st1=>g x st1 Q):=
 PE.imp (bo1 hc hg hm hv (A3 ha hs) hn hdb (g7 hs) rfl) λσ H Q q=>by
  obtain⟨env,st,Qd,hE,hS,ht,hq⟩:=q;refine⟨env,st,(λds st1=>match ds with|[d]=>g d st1 Qd|_=>False),hE,hS,ht,λvs ds H' st' ev is hl rs q1=>?_⟩
  match ds,hl with
  |[d],_=>
   obtain⟨v,ws,rfl,i1,i2⟩:=is.inv_cons;rw[i2.inv_nil];exact imp v d H' st' Qd Q i1 rs q1 (hq.after ev)
def bw6:Aw "abs"=AA (.builtin "abs"):=by decide+kernel
def bs3:Aw "max"=AA (.builtin "max"):=by decide+kernel
def bv5:Aw "sum"=AA (.builtin "sum"):=by decide+kernel
def ah8:Aw "isinstance"=AA (.builtin "isinstance"):=by decide+kernel
def am5:Aw "int"=AA (.type "int"):=by decide+kernel
def aj4:Aw "list"=AA (.type "list"):=by decide+kernel
def bl2:Aw "tuple"=AA (.type "tuple"):=by decide+kernel
def ca4(hg:Gl X "len")(hm:X.mg "len"=AE)(ha:PE X a (up X.K ta))(hs:∀e p,a≠.Starred e p):PE X (.Call (.Name "len" p) [a] [] pos) (up X.K λenv st Q=>ta env st λx st1=>M7 x st1 Q):=
 U6 bj9 hg hm PySem.boot_len ha hs (λv d H' st' Qd Q is rs ht hq=>by
  cases d<;>first|exact AX ht|skip
  ·obtain⟨p,vs,rfl,hs,r⟩:=is.tup_inv;exact⟨p,vs,rfl,.inr hs,by rw[<-r.len];exact hq.here (.int _) rs ht⟩
  ·obtain⟨ds,hr,ht⟩:=ht;obtain⟨vs,hs,r⟩:=rs.rd hr;exact⟨_,vs,by rw[is.ref_inv],.inl hs,by rw[<-r.len];exact hq.here (.int _) rs ht⟩) ∅ ∅
def ca5(hg:Gl X "abs")(hm:X.mg "abs"=AE)(ha:PE X a (up X.K ta))(hs:∀e p,a≠.Starred e p):PE X (.Call (.Name "abs" p) [a] [] pos) (up X.K λenv st Q=>ta env st λx st1=>∃i,x=.int i/\Q (.int (if i<0 then -i else i)) st1):=
 U6 (g:=λx st1 Q=>∃i,x=.int i/\Q (.int (if i<0 then -i else i)) st1) bs5 hg hm bw6 ha hs (λv d H' st' Qd Q is rs ht hq=>by
  obtain⟨i,rfl,ht⟩:=ht;exact⟨i,by rw[is.int_inv],hq.here (.int _) rs ht⟩) ∅ ∅
def bw3(hg:Gl X "int")(hm:X.mg "int"=AE)(ha:PE X a (up X.K ta))(hs:∀e p,a≠.Starred e p):PE X (.Call (.Name "int" p) [a] [] pos) (up X.K λenv st Q=>ta env st λx st1=>O0 x st1 Q):=
 P3 bq4 hg hm am5 ha hs (λv d H' st' Qd Q is rs ht hq=>by
  cases d<;>first|exact AX ht|skip
  ·exact .inr ⟨_,by rw[is.bl_inv],hq.here (.int _) rs ht⟩
  ·exact .inl ⟨_,by rw[is.int_inv],hq.here (.int _) rs ht⟩) ∅ ∅
def cd2(hc:X.calm=AC)(hg:Gl X "sum")(hm:X.mg "sum"=AE)(ha:PE X a (up X.K ta))(hs:∀e p,a≠.Starred e p):PE X (.Call (.Name "sum" p) [a] [] pos) (up X.K λenv st Q=>ta env st λx st1=>V9 x st1 Q):=
 U6 (bp0 hc) hg hm bv5 ha hs (λv d H' st' Qd Q is rs ht hq=>by
  cases d<;>first|exact AX ht|skip
  obtain⟨ns,hr,ht⟩:=ht;obtain⟨vs,hs,r⟩:=rs.rd hr;exact⟨_,ns,by rw[is.ref_inv],by rw[<-r.ints];exact hs,hq.here (.int _) rs ht⟩) ∅ ∅
def b34(hg:Gl X "list")(hm:X.mg "list"=AE)(ha:PE X a (up X.K ta))(hs:∀e p,a≠.Starred e p):PE X (.Call (.Name "list" p) [a] [] pos) (up X.K λenv st Q=>ta env st λx st1=>U9 x st1 Q):=
 P3 bj8 hg hm aj4 ha hs (λv d H' st' Qd Q is rs ht hq=>by
  cases d<;>first|exact AX ht|skip
  ·obtain⟨p,vs,rfl,hs,r⟩:=is.tup_inv;exact⟨p,vs,rfl,.inr hs,hq.newL rs r ht⟩
  ·obtain⟨ds,hr,ht⟩:=ht;obtain⟨vs,hs,r⟩:=rs.rd hr;exact⟨_,vs,by rw[is.ref_inv],.inl hs,hq.newL rs r ht⟩) ∅ ∅
def br5(hg:Gl X "tuple")(hm:X.mg "tuple"=AE)(ha:PE X a (up X.K ta))(hs:∀e p,a≠.Starred e p):PE X (.Call (.Name "tuple" p) [a] [] pos) (up X.K λenv st Q=>ta env st λx st1=>J3 x st1 Q):=
 P3 bi9 hg hm bl2 ha hs (λv d H' st' Qd Q is rs ht hq=>by
  cases d<;>first|exact AX ht|skip
  ·obtain⟨p,vs,rfl,hs,r⟩:=is.tup_inv;exact⟨p,vs,rfl,.inr ⟨hs,hq.here is rs ht⟩⟩
  ·obtain⟨ds,hr,ht⟩:=ht;obtain⟨vs,hs,r⟩:=rs.rd hr;exact⟨_,vs,by rw[is.ref_inv],.inl ⟨hs,hq.newT rs r ht⟩⟩) ∅ ∅
def ay7(ha:PE X a (up X.K ta))(hb:PE X b (up X.K tb))(h:∀e p,a≠.Starred e p)(h':∀e p,b≠.Starred e p):PA X [a,b] (upA X.K 2 λenv st Q=>ta env st λd st1=>tb env st1 λe st2=>Q [d,e] st2):=N5 ha (A3 hb h') h
def b48(hc:X.calm=AC)(hg:Gl X "max")(hm:X.mg "max"=AE)(ha:PE X a (up X.K ta))(hb:PE X b (up X.K tb))(hs:∀e p,a≠.Starred e p)(hs':∀e p,b≠.Starred e p):
  PE X (.Call (.Name "max" p) [a,b] [] pos) (up X.K λenv st Q=>ta env st λx st1=>tb env st1 λy st2=>∃i j,x=.int i/\y=.int j/\Q (.int (if j>i then j else i)) st2):=
 PE.imp (S1 (bo7 hc) hg hm bs3 (ay7 ha hb hs hs') ∅ ∅ (g7 hs) (by rw[g7 hs'];rfl)) λσ H Q q=>by
  obtain⟨env,st,Qd,hE,hS,ht,hq⟩:=q;refine⟨env,st,(λds st1=>match ds with|[x,y]=>∃i j,x=.int i/\y=.int j/\Qd (.int (if j>i then j else i)) st1|_=>False),hE,hS,ht,λvs ds H' st' ev is hl rs q1=>?_⟩
  match ds,hl with
  |[d,e],_=>
   obtain⟨v,ws,rfl,i1,i2⟩:=is.inv_cons;obtain⟨w,ws',rfl,i3,i4⟩:=i2.inv_cons;rw[i4.inv_nil];obtain⟨i,j,rfl,rfl,q1⟩:=q1;exact⟨i,j,by rw[i1.int_inv,i3.int_inv],(hq.after ev).here (.int _) rs q1⟩
abbrev B5:List String:=["tuple","int","bool","str","list"]
def av9(K:AR):∀t∈B5,∀ty∈["NoneType","bool","int","str","tuple","list"],CB K (.type ty) (.type t)=AA (ty==t||(ty=="bool"&&t=="int")):=by
 intro t ht ty hty;simp only[B5,AT,Ac,or_false]at ht hty
 rcases ht with rfl|rfl|rfl|rfl|rfl<;>rcases hty with rfl|rfl|rfl|rfl|rfl|rfl<;>first|rfl|(unfold CB;rfl)|(unfold CB;first|(rw[if_pos ∅];rfl)|(rw[if_neg ∅];decide+kernel))
def b49{p2:Pos}{t:String}(hin:t∈B5)(hg:Gl X "isinstance")(hm:X.mg "isinstance"=AE)(hg2:Gl X f)(hm2:X.mg f=AE)(hboot:Aw f=AA (.type t))(hn:f≠"__name__")(hdb:(f==("__debug__":Str))=AG)(ha:PE X a (up X.K ta))(hs:∀e p,a≠.Starred e p):
  PE X (.Call (.Name "isinstance" p) [a,.Name f p2] [] pos) (up X.K λenv st Q=>ta env st λx st1=>ae6 t x st1 Q):=by
 intro pins s σ H Q I q;obtain⟨env,st,Qd,hE,hS,ht,hq⟩:=q;have arg:PA X [a,.Name f p2] (P6 (up X.K ta) (P6 (tC (.ty t)) V2)):=N8 ha (N8 (b13 (v:=.ty t) hg2 hm2 hboot rfl hn hdb) ad7 rfl) (g7 hs);refine S1 (r:=λvs H Q=>(∃x ty b,vs=[x,.ty t]/\TyOf X.K H x ty/\CB X.K ty (.type t)=AA b/\Q (.bl b) H)\/∃q' xs b,vs=[.ref q',.ty t]/\SqT X.K H q' xs/\CB X.K (.type "tuple") (.type t)=AA b/\Q (.bl b) H) ?_ hg hm ah8 arg ∅ ∅ (g7 hs) rfl pins s σ H Q I ?_
 ·intro pins s σ H vs us Q I r h
  rcases h with⟨x,ty,b,rfl,h1,h2,q⟩|⟨q',xs,b,rfl,h1,h2,q⟩
  ·obtain⟨u,v,rfl,ru,rv⟩:=r.two;cases rv;exact al4 I ru h1 h2 λtk=>⟨.bl b,H,I.tok _,rfl,q⟩
  ·obtain⟨u,v,rfl,ru,rv⟩:=r.two;cases rv;cases ru;obtain⟨its,_,⟨o,e1,e2,_⟩,_⟩:=I.tupleD h1;exact CC Gp I.kIn ⟨o,e1,e2⟩ h2 (λz=>nomatch z) λtk=>⟨.bl b,H,I.tok _,rfl,q⟩
 ·refine⟨env,st,_,hE,hS,ht,λv d H' st' ev is rs q1=>?_⟩;have fin:∀ty:String,ty∈["NoneType","bool","int","str","tuple","list"]->TyOf X.K H' v (.type ty)->Qd (.bl (ty==t||(ty=="bool"&&t=="int"))) st'->(∃x ty b,[v,V.ty t]=[x,.ty t]/\TyOf X.K H' x ty/\CB X.K ty (.type t)=AA b/\Q (.bl b) H')\/∃q' xs b,[v,V.ty t]=[.ref q',.ty t]/\SqT X.K H' q' xs/\CB X.K (.type "tuple") (.type t)=AA b/\Q (.bl b) H':=λty hty h1 h2=>.inl ⟨v,.type ty,_,rfl,h1,av9 X.K t hin ty hty,(hq.after ev).here (.bl _) rs h2⟩
  rcases q1 with⟨ty,e,q1⟩|⟨b,ds,rfl,hr,q1⟩
  ·cases d<;>first|(simp[tyD]at e;done)|skip
   all_goals (simp only[tyD,Bi]at e;subst e)
   ·cases is;exact fin "NoneType" ∎ .non q1
   ·cases is;exact fin "bool" ∎ (.bl _) q1
   ·cases is;exact fin "int" ∎ (.int _) q1
   ·cases is;exact fin "str" ∎ (.str _) q1
   ·obtain⟨q',vs,rfl,hq',r⟩:=is.tup_inv;exact .inr ⟨q',vs,_,rfl,hq',av9 X.K t hin "tuple" ∎,(hq.after ev).here (.bl _) rs q1⟩
  ·obtain⟨vs,hs',r⟩:=rs.rdR hr;rw[is.ref_inv];have q2:Qd (.bl ("list"==t||("list"=="bool"&&t=="int"))) st':=by
    have e:("list"==t||("list"=="bool"&&t=="int"))=(t=="list"):=by simp only[B5,AT,Ac,or_false]at hin;rcases hin with rfl|rfl|rfl|rfl|rfl<;>decide
    rw[e];exact q1
   rw[is.ref_inv]at fin
   rcases hs' with h|⟨o,h⟩
   ·exact fin "list" ∎ (.lst h) q2
   ·exact fin "list" ∎ (.frz h) q2
abbrev t8(K:AR)(sp:Spec):Sp:=λvs H Q _=>∃ds st Qd,IsDs K H ds vs/\RelS K st H/\sp ds st Qd/\l9 K st H Qd Q
def by4{f:Str}{k:Nat}{fa:AM}{n:Nat}{t:DA}(F:FnOk X.prog X.w X.K X.mg X.base CX0 k fa fd ps (t8 X.K sp))(hr:Room k X.A)(hg:Gl X f)(hm:X.mg f=AA (.ref fa))(hk:CA X.K (.ref fa)=AC)
  (hb:m8 X.K fd ps []) (ha:PA X (a::es) (upA X.K n t)) (hdb:(f==("__debug__":Str))=AG) (hs:∀e p,a≠.Starred e p) (hpl:(Bt pos (Ai es X.env)).any (·.1)=AG) :
  PE X (.Call (.Name f p) (a::es) [] pos) (up X.K λenv st Q=>t env st λds st1=>sp ds st1 Q):=
 PE.imp (by5 F hr hg hm hk hb .nil F8 ha hdb (g7 hs) hpl) λσ H Q q=>af8 (f:=sp) q λvs ds H' st' Qd is hl rs ht hq=>⟨ds,st',Qd,by rw[BP];exact is,rs,ht,hq⟩
def ch0{fa:AM}(hg:Gl X f)(hm:X.mg f=AA (.ref fa))(hns:Ay X.K AS f=AA (AA (.ref fa)))(hdb:(f==("__debug__":Str))=AG):PE X (.Name f p) (up X.K λ_ st Q=>Q (.fn f) st):=
 PE.imp (ac7 (v:=.ref fa) hg hm rfl hdb) λσ H Q q=>by
  obtain⟨env,st,Qd,hE,hS,ht,hq⟩:=q;exact hq.here (.fn hns) hS ht
abbrev O7(K:AR)(f:AM)(fd:Bo)(np:Nat)(N:List Str)(cs:List D)(sp:Spec):Sp:=λvs H Q _=>∃us ds st Qd,CloR H f fd np N us/\IsDs K H cs us/\IsDs K H ds vs/\RelS K st H/\sp ds st Qd/\l9 K st H Qd Q
def CloR.fnAt{f:AM}{np:Nat}{N:List Str}{us:List V}(h:CloR H f fd np N us)(I:Inv X pins σ H s):W.FnAt f s.heap:=by
 obtain⟨o,u,e1,_,e3⟩:=h.ex;obtain⟨h1,_⟩:=I.hok f _ e1;obtain⟨oc,od,da,sl⟩:=o;have e3':da=.func fd:=e3;subst e3';exact⟨oc,od,fd,sl,h1⟩
def bt1{i:Nat}{x:Str}{n:Nat}{t:DA}{Z:Sg}(hN:X.N[i]?=AA x)(hv:Vis X.env.scope x)(hd:(x==("__debug__":Str))=AG)(hcd:(x==("__classdict__":Str))=AG)
  (hF:∀f fa,Z.F f=AC->Ay X.K AS f=AA (AA (.ref fa))->∃k fd ps,FnOk X.prog X.w X.K X.mg X.base CX0 k fa fd ps (t8 X.K (Z.Phi f))/\Room k X.A/\CA X.K (.ref fa)=AC/\m8 X.K fd ps [])
  (hC:∀np N b cs fa fd ps,CloF fd np N ps b->∃k,FnOk X.prog X.w X.K X.mg X.base CX0 k fa fd ps (O7 X.K fa fd np N cs (Z.PhiC np N b cs))/\Room k X.A)
  (ha:PA X (a::es) (upA X.K n t)) (hs:∀e p,a≠.Starred e p) (hpl:(Bt pos (Ai es X.env)).any (·.1)=AG) :
  PE X (.Call (.Name x p) (a::es) [] pos) (up X.K λenv st Q=>∃x,env[i]?=AA (AA x)/\P2 Z (t env) st Q x):=by
 intro pins s σ H Q I q;obtain⟨env,st,Qd,hE,hS,⟨d,he,hc⟩,hq⟩:=q;obtain⟨v,hv1,isv⟩:=hE.at' i _ he;cases d with
 |fn f=>
  obtain⟨hf,ht⟩:Z.F f=AC/\t env st λds st1=>Z.Phi f ds st1 Qd:=hc;obtain⟨fa,rfl,hns⟩:∃fa,v=.ref fa/\Ay X.K AS f=AA (AA (.ref fa)):=by cases isv with|fn h=>exact⟨_,rfl,h⟩
  obtain⟨k,fd,ps,Fo,hr,hk,hb⟩:=hF f fa hf hns;refine Bp (thn (ad4 hN hv hd hcd pins s σ H (λv H1=>v=.ref fa/\H1=H) I ⟨_,hv1,rfl,rfl⟩) λu s1 z34=>?_);obtain⟨v,H1,I1,r1,e1,e2⟩:=z34;subst e1 e2;cases r1;refine FP (h₀:=X.base) I1.ok.mod.kin hk (thn (ha pos pins s1 σ H1 (λvs H2=>∃ds st1,Ev st H1 st1 H2/\IsDs X.K H2 ds vs/\RelS X.K st1 H2/\Z.Phi f ds st1 Qd) I1 ⟨env,st,_,hE,hS,ht,λvs ds H' st' ev is hl rs q=>⟨ds,st',ev,is,rs,q⟩⟩) λus s2⟨vs,H2,I2,r,ds,st1,ev,is,rs,q⟩=>⟨I2.kIn,?_⟩) (g7 hs) hpl;exact N9 Fo hr hb .nil F8 I2 r ⟨ds,st1,Qd,by rw[BP];exact is,rs,q,hq.after ev⟩
 |clo np N b cs=>
  have ht:t env st λds st1=>Z.PhiC np N b cs ds st1 Qd:=hc;obtain⟨fa,us0,rfl,ca,ics⟩:∃fa us,v=.ref fa/\P0 H fa np N b us/\IsDs X.K H cs us:=by cases isv with|clo h1 h2 h3=>exact⟨_,_,rfl,h1,h2,h3⟩
  obtain⟨fd,ps,cf,cr⟩:=ca;obtain⟨k,Fo,hr⟩:=hC np N b cs fa fd ps cf;refine Bp (thn (ad4 hN hv hd hcd pins s σ H (λv H1=>v=.ref fa/\H1=H) I ⟨_,hv1,rfl,rfl⟩) λu s1 z35=>?_);obtain⟨v,H1,I1,r1,e1,e2⟩:=z35;subst e1 e2;cases r1;refine W.callWith_F (cr.fnAt I1) (thn (ha pos pins s1 σ H1 (λvs H2=>∃ds st1,Ev st H1 st1 H2/\IsDs X.K H2 ds vs/\RelS X.K st1 H2/\Z.PhiC np N b cs ds st1 Qd) I1 ⟨env,st,_,hE,hS,ht,λvs ds H' st' ev is hl rs q=>⟨ds,st',ev,is,rs,q⟩⟩) λus s2⟨vs,H2,I2,r,ds,st1,ev,is,rs,q⟩=>⟨(cr.mono (K:=X.K) (ev.tk hS)).fnAt I2,?_⟩) (g7 hs) hpl;exact N9 Fo hr (.all cf.bind) .nil F8 I2 r ⟨us0,ds,st1,Qd,cr.mono (K:=X.K) (ev.tk hS),ics.mono (ev.tk hS),by rw[BP];exact is,rs,q,hq.after ev⟩
 |_=>exact(hc:False).elim
def v5{o:AQ}{nm:Str}{env:Env}{w:Sem AF}(h:∀i p p',o≠.Call (.Name i p) [] [] p'):Bx o nm env w=w:=by
 unfold Bx
 split
 ·exact absurd rfl (h _ _ _)
 ·rfl
def b95{f:Str}{C:Str->List Str}(hC:∀c Ca,Ay X.K AS c=AA (AA (.ref Ca))->f∈C c->Cls X.K Ca/\y8 X.K Ca f)(ha:PE X a (up X.K ta))(hbase:Bx a f X.env (eval a X.env)=eval a X.env):
  PE X (.Attribute a f pos) (up X.K λenv st Q=>ta env st λx st1=>∃p c fs d,x=.ref p/\st1 p=AA (.ins c fs)/\f∈C c/\fs.lookup f=AA d/\Q d st1):=
 PE.imp (ce1 ha hbase) λσ H Q q=>up1 (f:=λx st1 Q=>∃p c fs d,x=.ref p/\st1 p=AA (.ins c fs)/\f∈C c/\fs.lookup f=AA d/\Q d st1) q λv d H' st' Qd is rs ht hq=>by
  obtain⟨p,c,fs,e,rfl,hs,hf,hl,ht⟩:=ht;obtain⟨Ca,dx,vs,hH,hn,r⟩:=rs.ins hs;obtain⟨c1,c2⟩:=hC c Ca hn hf
  rcases r.look f with⟨l1,_⟩|⟨d',v',l1,l2,is'⟩
  ·rw[l1]at hl;cases hl
  ·rw[l1]at hl;cases hl;exact⟨p,Ca,dx,vs,v',is.ref_inv,hH,c1,c2,l2,hq.here is' rs ht⟩
def as5{o:AQ}{m:Str}{pos:Pos}{args:List AQ}{env:Env}(hbo:∀i p p',o≠.Call (.Name i p) [] [] p')(hfew:Eo (args.length+0) (Bt pos (Ai args env)) (Em pos (DW [] env))=AC)(hline:(apos.endLine==pos.line)=AC):
  eval (.Call (.Attribute o m apos) args [] pos) env=(do
   let ov <-eval o env
   GL apos.atName
   let(f,first) <-holding [ov] (JF ov m (do return (<-importBound o env).getD AC))
   callWith pos f first (Bt pos (Ai args env)) (Em pos (DW [] env))):=by
 rw[arm_eval_Call,v5 hbo]
 congr 1
 funext ov
 congr 1
 funext _
 unfold methodCall;simp only[AO]at hfew ⊢;rw[hfew];unfold methodCallPos calleeOf;simp only[hline,GC,BG,if_true];rfl
def b02{m:Str}{ob:AQ}{n:Nat}{t:DA}{F:Str->Bool}{Ph:Str->Spec}
  (hM:∀c Ca,Ay X.K AS c=AA (AA (.ref Ca))->F (d3 c m)=AC->∃k f fd ps,Cls X.K Ca/\Meth X.K Ca m f/\FnOk X.prog X.w X.K X.mg X.base CX0 k f fd ps (t8 X.K (Ph (d3 c m)))/\Room k X.A/\m8 X.K fd ps [])
  (hfew:Eo ((a::es).length+0) (Bt pos (Ai (a::es) X.env)) (Em pos (DW [] X.env))=AC) (hline:(apos.endLine==pos.line)=AC) (hbo:∀i p p',ob≠.Call (.Name i p) [] [] p') (ho:PE X ob (up X.K ta)) (ha:PA X (a::es) (upA X.K n t)) (hs:∀e p,a≠.Starred e p) (hpl:(Bt pos (Ai es X.env)).any (·.1)=AG) :
  PE X (.Call (.Attribute ob m apos) (a::es) [] pos) (up X.K λenv st Q=>ta env st λx st1=>∃p c fs,x=.ref p/\st1 p=AA (.ins c fs)/\fs.lookup m=AE/\F (d3 c m)=AC/\t env st1 λds st2=>Ph (d3 c m) (.ref p::ds) st2 Q):=by
 intro pins s σ H Q I q;obtain⟨env,st,Qd,hE,hS,ht,hq⟩:=q;refine Iu (thn (ho pins s σ H (λv H1=>∃p c fs st1,v=.ref p/\Ev st H st1 H1/\RelS X.K st1 H1/\st1 p=AA (.ins c fs)/\fs.lookup m=AE/\F (d3 c m)=AC/\t env st1 λds st2=>Ph (d3 c m) (.ref p::ds) st2 Qd) I ⟨env,st,_,hE,hS,ht,λv d H1 st1 ev is rs q1=>?_⟩) λu s1 z36=>?_) (as5 hbo hfew hline)
 ·obtain⟨p,c,fs,rfl,q1⟩:=q1;exact⟨p,c,fs,st1,is.ref_inv,ev,rs,q1⟩
 obtain⟨v,H1,I1,rx,p,c,fs,st1,ev,e1,rs,h1,h2,h3,h4⟩:=z36;subst ev;cases rx;obtain⟨Ca,dx,vs,hH,hn,r⟩:=rs.ins h1;obtain⟨k,f,fd,ps,cl,me,Fo,hr,hb⟩:=hM c Ca hn h3;have hl:vs.lookup m=AE:=by
  rcases r.look m with⟨_,l2⟩|⟨d',v',l1,_,_⟩
  ·exact l2
  ·rw[h2]at l1;cases l1
 refine ai9 I1 hH cl me hl ?_;refine FP (first:=[.ref p]) (h₀:=X.base) I.ok.mod.kin me.kp (thn (ha pos pins s1 σ H1 (λvs H2=>∃ds st2,Ev st1 H1 st2 H2/\IsDs X.K H2 ds vs/\RelS X.K st2 H2/\Ph (d3 c m) (.ref p::ds) st2 Qd) I1 ⟨env,st1,_,hE.mono (e1.tk hS),rs,h4,λvs ds H' st' ev is hl rs q=>⟨ds,st',ev,is,rs,q⟩⟩) λus s2⟨vs,H2,I2,r2,ds,st2,ev2,is2,rs2,q2⟩=>⟨I2.kIn,?_⟩) (g7 hs) hpl;exact N9 (us:=.ref p::us) (vs:=.ref p::vs) Fo hr hb .nil F8 I2 (.cons rfl r2) ⟨.ref p::ds,st2,Qd,by rw[BP];exact .cons (.ref p) is2,rs2,q2,(hq.after e1).after ev2⟩
def br3{m:Str}{ob:AQ}{F:Str->Bool}{Ph:Str->Spec}
  (hM:∀c Ca,Ay X.K AS c=AA (AA (.ref Ca))->F (d3 c m)=AC->∃k f fd ps,Cls X.K Ca/\Meth X.K Ca m f/\FnOk X.prog X.w X.K X.mg X.base CX0 k f fd ps (t8 X.K (Ph (d3 c m)))/\Room k X.A/\m8 X.K fd ps [])
  (hline:(apos.endLine==pos.line)=AC) (hbo:∀i p p',ob≠.Call (.Name i p) [] [] p') (ho:PE X ob (up X.K ta)) :
  PE X (.Call (.Attribute ob m apos) [] [] pos) (up X.K λenv st Q=>ta env st λx st1=>∃p c fs,x=.ref p/\st1 p=AA (.ins c fs)/\fs.lookup m=AE/\F (d3 c m)=AC/\Ph (d3 c m) [.ref p] st1 Q):=by
 intro pins s σ H Q I q;obtain⟨env,st,Qd,hE,hS,ht,hq⟩:=q;refine Iu (thn (ho pins s σ H (λv H1=>∃p c fs st1,v=.ref p/\Ev st H st1 H1/\RelS X.K st1 H1/\st1 p=AA (.ins c fs)/\fs.lookup m=AE/\F (d3 c m)=AC/\Ph (d3 c m) [.ref p] st1 Qd) I ⟨env,st,_,hE,hS,ht,λv d H1 st1 ev is rs q1=>?_⟩) λu s1 z37=>?_) (as5 hbo rfl hline)
 ·obtain⟨p,c,fs,rfl,q1⟩:=q1;exact⟨p,c,fs,st1,is.ref_inv,ev,rs,q1⟩
 obtain⟨v,H1,I1,rx,p,c,fs,st1,ev,e1,rs,h1,h2,h3,h4⟩:=z37;subst ev;cases rx;obtain⟨Ca,dx,vs,hH,hn,r⟩:=rs.ins h1;obtain⟨k,f,fd,ps,cl,me,Fo,hr,hb⟩:=hM c Ca hn h3;have hl:vs.lookup m=AE:=by
  rcases r.look m with⟨_,l2⟩|⟨d',v',l1,_,_⟩
  ·exact l2
  ·rw[h2]at l1;cases l1
 refine ai9 I1 hH cl me hl ?_;exact JS (first:=[.ref p]) I1.kIn me.kp (N9 (us:=[.ref p]) (vs:=[.ref p]) Fo hr hb .nil F8 I1 (.cons rfl .nil) ⟨[.ref p],st1,Qd,by rw[BP];exact .cons (.ref p) .nil,rs,h4,hq.after e1⟩)
def aq6{c:Str}{H1:Hp}{st st1:Sto}{Qd:DK}{Q:VK}{ds:List D}{vs:List V}(hn:Ay X.K AS c=AA (AA (.ref Ca)))(ev:Ev st H st1 H1)(is:IsDs X.K H1 ds vs)(rs:RelS X.K st1 H1)(hq:l9 X.K st H Qd Q)
  (q:∀p,st1 p=AE->sp (.ref p::ds) (b0 st1 p (.ins c [])) λv st2=>v=.non/\Qd (.ref p) st2):∀x dx,H1 x=AE->H1 dx=AE->dx≠x->t8 X.K sp (.ref x::(vs++[])) (upd (upd H1 dx (.own x)) x (.ins Ca dx [])) (λv H2=>v=.non/\Q (.ref x) H2) E0:=by
 intro x dx hx hdx hne;have tk1:TK X.K H1 (upd H1 dx (.own x)):=TK.new hdx;have hx':upd H1 dx (.own x) x=AE:=by rw[e9 (λz=>hne z.symm)];exact hx
 have tk2:TK X.K (upd H1 dx (.own x)) (upd (upd H1 dx (.own x)) x (.ins Ca dx [])):=TK.new hx';refine⟨.ref x::ds,b0 st1 x (.ins c []),_,by rw[BP];exact .cons (.ref x) ((is.mono tk1).mono tk2),(rs.new hdx).putAny (ob:=.ins c []) tk2 ⟨Ca,dx,[],o9,hn,.nil⟩ (by rw[hx'];exact λ_=>nofun),q x (rs.free hx),λv d H2 st2 ev2 is2 rs2 q2=>?_⟩;obtain⟨rfl,q2⟩:=q2;cases is2;refine⟨rfl,hq _ (.ref x) H2 st2 (λb o hb hs=>?_) (.ref x) rs2 q2⟩;obtain⟨⟨o1,b1,t1⟩,b2⟩:=ev b o hb hs;have nx:b≠x:=o5 b1 hx;have nd:b≠dx:=o5 b1 hdx;obtain⟨⟨o2,c1,t2⟩,c2⟩:=ev2 b o1 (by rw[e9 nx,e9 nd];exact b1) (by rw[g6 nx];exact b2);exact⟨⟨o2,c1,t1.trans t2⟩,c2⟩
def b40{c:Str}{n k:Nat}{t:DA}{f:AM}(hn:Ay X.K AS c=AA (AA (.ref Ca)))(M:Mk X.K Ca f)(Fo:FnOk X.prog X.w X.K X.mg X.base CX0 k f fd ps (t8 X.K sp))(hr:Room (k+1) X.A)(hg:Gl X c)(hm:X.mg c=AA (.ref Ca))(hb:m8 X.K fd ps [])
  (ha:PA X (a::es) (upA X.K n t)) (hdb:(c==("__debug__":Str))=AG) (hs:∀e p,a≠.Starred e p) (hpl:(Bt pos (Ai es X.env)).any (·.1)=AG) :
  PE X (.Call (.Name c p) (a::es) [] pos) (up X.K λenv st Q=>t env st λds st1=>∀p,st1 p=AE->sp (.ref p::ds) (b0 st1 p (.ins c [])) λv st2=>v=.non/\Q (.ref p) st2):=
 PE.imp (b30 M Fo hr hg hm hb .nil F8 ha hdb (g7 hs) hpl) λσ H Q q=>by
  obtain⟨env,st,Qd,hE,hS,ht,hq⟩:=q;exact⟨env,st,_,hE,hS,ht,λvs ds H' st' ev is hl rs q=>aq6 hn ev is rs hq q⟩
def bs1{c:Str}{k:Nat}{f:AM}(hn:Ay X.K AS c=AA (AA (.ref Ca)))(M:Mk X.K Ca f)(Fo:FnOk X.prog X.w X.K X.mg X.base CX0 k f fd ps (t8 X.K sp))(hr:Room (k+1) X.A)(hg:Gl X c)(hm:X.mg c=AA (.ref Ca))(hb:m8 X.K fd ps [])(hdb:(c==("__debug__":Str))=AG):
  PE X (.Call (.Name c p) [] [] pos) (up X.K λenv st Q=>∀p,st p=AE->sp [.ref p] (b0 st p (.ins c [])) λv st2=>v=.non/\Q (.ref p) st2):=
 PE.imp (bv4 M Fo hr hg hm hb .nil F8 hdb) λσ H Q q=>by
  obtain⟨env,st,Qd,hE,hS,ht,hq⟩:=q;exact aq6 (ds:=[]) (vs:=[]) hn Ev.refl .nil hS hq ht
def tyL{K:AR}{st:Sto}{d:D}{v:V}(is:IsD K H d v)(rs:RelS K st H)(h:u6 d st):tyV K "list" v H:=by
 cases d<;>first|exact AX h|skip
 obtain⟨ds,hr⟩:=h;obtain⟨vs,hs,_⟩:=rs.rd hr;rw[is.ref_inv];exact .inl ⟨rfl,vs,hs⟩
def af1{nm:Str}{id:String}{r:V->List V->Hp->VK->Prop}{g:D->D->Sto->DK->Prop}(slot:Slot "list" nm id)(hty:typeOf (.builtin id)=pure (.type "method_descriptor"))(hm:MtR X id r)
  (ha:PE X a (up X.K ta)) (hb:PE X b (up X.K tb)) (hbase:∀i p p',a≠.Call (.Name i p) [] [] p') (hs:∀e p,b≠.Starred e p) (hline:(apos.endLine==pos.line)=AC)
  (imp:∀v w d e H' st' Qd Q,IsD X.K H' d v->IsD X.K H' e w->RelS X.K st' H'->g d e st' Qd->l9 X.K st' H' Qd Q->r v [w] H' Q) :
  PE X (.Call (.Attribute a nm apos) [b] [] pos) (up X.K λenv st Q=>ta env st λx st1=>u6 x st1/\tb env st1 λy st2=>g x y st2 Q):=
 PE.imp (cj4 PySem.F.plainAttrs_list slot hty hm ha (A3 hb hs) (v5 hbase) (by rw[g7 hs];rfl) hline (g7 hs) rfl) λσ H Q q=>by
  obtain⟨env,st,Qd,hE,hS,ht,hq⟩:=q;refine⟨env,st,_,hE,hS,ht,λv d H1 st1 ev is rs q1=>⟨tyL is rs q1.1,?_⟩⟩;refine⟨env,st1,(λds st2=>match ds with|[e]=>g d e st2 Qd|_=>False),hE.mono (ev.tk hS),rs,q1.2,λvs ds H' st' ev2 is2 hl rs2 q2=>?_⟩
  match ds,hl with
  |[e],_=>
   obtain⟨w,ws,rfl,i1,i2⟩:=is2.inv_cons;rw[i2.inv_nil];exact imp v w d e H' st' Qd Q (is.mono (ev2.tk rs)) i1 rs2 q2 ((hq.after ev).after ev2)
def cb2(ha:PE X a (up X.K ta))(hb:PE X b (up X.K tb))(hbase:∀i p p',a≠.Call (.Name i p) [] [] p')(hs:∀e p,b≠.Starred e p)(hline:(apos.endLine==pos.line)=AC):
  PE X (.Call (.Attribute a "append" apos) [b] [] pos) (up X.K λenv st Q=>ta env st λx st1=>u6 x st1/\tb env st1 λy st2=>V8 x y st2 Q):=
 af1 PySem.F.slot_list_append PySem.F.type_list_append aj8 ha hb hbase hs hline λv w d e H' st' Qd Q i1 i2 rs ht hq=>by
  cases d<;>first|exact AX ht|skip
  obtain⟨ds,hr,hz,ht⟩:=ht;obtain⟨vs,hH,r⟩:=rs.lst hr;rw[i1.ref_inv];exact⟨_,vs,w,rfl,rfl,hH,by rw[<-r.len];exact hz,hq _ _ _ _ (Ev.put hr) .non (rs.putOld hH (r.append (.cons i2 .nil))) ht⟩
def bl8(l:AM)(items:Array AF)(n:Nat)(b:AM)(items2:Array AF)(n2:Nat)(sl:Array (Option AF))(hs0:¬(!items.isEmpty&&Bk (items.size+items2.size))=AC)(hs1:items.size<=sizeLine)(hs2:items.size+items2.size<=sizeLine+1):
  Jr (GR.«list.extend» ⟨[.ref l,.ref b],[]⟩) (λ_ R s=>s.heap.get? l=AA {cls:=.type "list",dict:=AE,data:=.seq items n,slots:=#[]}/\s.heap.get? b=AA {cls:=.type "tuple",dict:=AE,data:=.seq items2 n2,slots:=sl}/\R (.ok (.ret Bd)) {s with heap:=s.heap.update l (Cm λx=>x++items2),toks:=s.toks}):=
 .of_wp λprog w A R s h=>by
  obtain⟨hp,g,d,tk,os⟩:=s;obtain⟨hl,hb,h⟩:=h;have f1:=AutoSeq1.idx_int;have f2:=AutoSeq1.sub_tuple_tuple;have f3:=AutoSeq1.sub_list_list;have f4:=AutoSeq1.sub_tuple_list;have f5:=AutoSeq1.sub_list_tuple;have hz':(items++items2).size<=sizeLine+1:=by rw[Array.size_append];exact hs2
  wp_walk using(GJ hl rfl (hz:=hs1) (_hz':=hz')),FY hl,FY hb;exact⟨_,rfl,h⟩
abbrev an5(K:AR):V->List V->Hp->VK->Prop:=λx vs H Q=>∃l b xs zs,x=.ref l/\vs=[.ref b]/\H l=AA (.lst xs)/\SqT K H b zs/\xs.length+zs.length<=sizeLine/\Q .non (upd H l (.lst (xs++zs)))
def bm7:MtM X "list.extend" (an5 X.K):=by
 intro pins s σ H x vs v us Q I rx rv h;obtain⟨l,b,xs,zs,rfl,rfl,hH,hB,hz,q⟩:=h;cases rx;obtain⟨u,rfl,ru⟩:=rv.one;cases ru;obtain⟨z,its,n,r,hl,e⟩:=I.lstM hH;obtain⟨its2,r2,⟨o,e2,ec,ed,n2,es⟩,z2⟩:=I.tupleD hB;obtain⟨cls,dd,data,sl⟩:=o;simp only at ec ed es;subst ec ed es;have hl2:=r2.length;have hsz:its.toArray.size+its2.toArray.size<=sizeLine:=by rw[Ab,Ab];lia
 have hlong:¬(!its.toArray.isEmpty&&Bk (its.toArray.size+its2.toArray.size))=AC:=by
  rw[am7 hsz,IH];exact AL
 refine Cs Ho ⟨_,e,rfl⟩ Hd (HR _ _)
  (bl8 l its.toArray n b its2.toArray n2 sl hlong (by rw[Ab];lia) ⋯) ⟨e,e2,?_⟩
 refine⟨.non,_,I.lset (its':=its++its2) hH e ∎ (r.append r2) ?_,rfl,q⟩;rw[AJ];lia
def b11:MtM X "list.extend" (λx vs H Q=>at9 x vs H Q\/an5 X.K x vs H Q):=λpins s σ H x vs v us Q I rx rv h=>h.elim (bp4 pins s σ H x vs v us Q I rx rv) (bm7 pins s σ H x vs v us Q I rx rv)
def cb0(ha:PE X a (up X.K ta))(hb:PE X b (up X.K tb))(hbase:∀i p p',a≠.Call (.Name i p) [] [] p')(hs:∀e p,b≠.Starred e p)(hline:(apos.endLine==pos.line)=AC):
  PE X (.Call (.Attribute a "extend" apos) [b] [] pos) (up X.K λenv st Q=>ta env st λx st1=>u6 x st1/\tb env st1 λy st2=>V4 x y st2 Q):=
 af1 PySem.F.slot_list_extend PySem.F.type_list_extend b11 ha hb hbase hs hline λv w d e H' st' Qd Q i1 i2 rs ht hq=>by
  cases d<;>cases e<;>first|exact AX ht|skip
  ·obtain⟨ds,hr,hz,ht⟩:=ht;obtain⟨vs,hH,r⟩:=rs.lst hr;obtain⟨b,ws,rfl,hq2,r2⟩:=i2.tup_inv;rw[i1.ref_inv];exact .inr ⟨_,_,vs,ws,rfl,rfl,hH,hq2,by rw[<-r.len,<-r2.len];exact hz,hq _ _ _ _ (Ev.put hr) .non (rs.putOld hH (r.append r2)) ht⟩
  ·obtain⟨ds,es,hr,hr2,hz,ht⟩:=ht;obtain⟨vs,hH,r⟩:=rs.lst hr;obtain⟨ws,hH2,r2⟩:=rs.lst hr2;rw[i1.ref_inv,i2.ref_inv];exact .inl ⟨_,_,vs,ws,rfl,rfl,hH,hH2,by rw[<-r.len,<-r2.len];exact hz,hq _ _ _ _ (Ev.put hr) .non (rs.putOld hH (r.append r2)) ht⟩
def bw4(ha:PE X a (up X.K ta))(hb:PE X b (up X.K tb))(hbase:∀i p p',a≠.Call (.Name i p) [] [] p')(hs:∀e p,b≠.Starred e p)(hline:(apos.endLine==pos.line)=AC):
  PE X (.Call (.Attribute a "pop" apos) [b] [] pos) (up X.K λenv st Q=>ta env st λx st1=>u6 x st1/\tb env st1 λy st2=>ad6 x y st2 Q):=
 af1 PySem.F.slot_list_pop PySem.F.type_list_pop br8 ha hb hbase hs hline λv w d e H' st' Qd Q i1 i2 rs ht hq=>by
  cases d<;>cases e<;>first|exact AX ht|skip
  rename_i i;obtain⟨⟨b1,b2⟩,ds,k,d,hr,hk,hd,ht⟩:=ht;obtain⟨vs,hH,r⟩:=rs.lst hr;obtain⟨v',hv',is'⟩:=r.get hd;rw[i1.ref_inv,i2.int_inv];obtain⟨q1,q2,q3,q4⟩:=ad0 hk;exact⟨_,vs,_,k,v',rfl,rfl,hH,⋯,⋯,by rw[<-r.len];exact q1,hv',hq _ _ _ _ (Ev.put hr) (is'.mono (TK.put hH)) (rs.putOld hH (r.erase k)) ht⟩
def ce2(ha:PE X a (up X.K ta))(hbase:∀i p p',a≠.Call (.Name i p) [] [] p')(hline:(apos.endLine==pos.line)=AC):
  PE X (.Call (.Attribute a "pop" apos) [] [] pos) (up X.K λenv st Q=>ta env st λx st1=>Q0 x st1 Q):=
 PE.imp (b86 PySem.F.plainAttrs_list PySem.F.slot_list_pop PySem.F.type_list_pop cb3 ha (v5 hbase) hline) λσ H Q q=>up1 (f:=Q0) q λv d H' st' Qd is rs ht hq=>by
  cases d<;>first|exact AX ht|skip
  obtain⟨ds,d,hr,ht⟩:=ht;obtain⟨vs,hH,r⟩:=rs.lst hr;have hl:=r.len;rw[AJ,DM]at hl;obtain⟨v',hv',is'⟩:=r.get (i:=ds.length) (d:=d) ∎;rw[is.ref_inv];refine⟨.inl ⟨rfl,vs,.inl (.inl hH)⟩,_,vs,v',rfl,rfl,hH,by rw[<-hl,HX];exact hv',hq _ _ _ (b0 st' _ (.lst ds)) (Ev.put hr) (is'.mono (TK.put hH)) (rs.putOld hH ?_) ht⟩;have e:vs.dropLast=vs.take ds.length:=by rw[List.dropLast_eq_take,<-hl,HX]
  rw[e];have q:=r.take ds.length
  rwa [Ie]at q
  rfl
end
end Ek
namespace Ek
open PySem PySem.Spec PyProof.Rows L2
variable [Tbs]
variable{A:BO}{items:Array AF}{x:AF}{j:Nat}
theorem am3{prog:Ag}{w:BA}{E:AF->AK->Prop}{s:AK}{e:Nat->Bool}(hj:j<items.size)(he:∀i(h:i<items.size),Gv A s items[i] x (e i))
  (hit:e j=AC) (hno:∀i,i<j->e i=AG):∀k i,i+k=items.size->i<=j ->
   AU (model prog w) A (forIn (List.range' i k) ((AE:Option PySem.Fin),()) λ(i:Nat)__s=>
      match items[i]? with
      |some y=>do
       let __do_lift <-eqBool y x
       if __do_lift=AC then do
         let __do_lift <-retInt (i:Int)
         pure (ForInStep.done (AA __do_lift,()))
        else pure (BY (AE,()))
      |x=>pure (BY (AE,())))
    (λr s'=>r.1=AA (PySem.Fin.done (.ret (.int j s.toks)))/\s'={s with toks:=s.toks+1}) E s
 |0,i,h1,h2=>by lia
 |k+1,i,h1,h2=>by
  have hi:i<items.size:=by lia
  rw[List.range'_succ,Hu];have e1:items[i]?=AA items[i]:=by simp[hi]
  rw[e1];dsimp only;refine AH (AH (he i hi prog w _ _ ?_))
  by_cases hij:i=j
  ·subst hij;rw[hit,if_pos rfl];refine AH ?_;show AU _ _ (mkInt (i:Int)>>=_) _ _ _;refine AH (wpAny_mkInt ?_);exact AN (AN (AN ⟨rfl,rfl⟩))
  ·rw[hno i ⋯,if_neg AL];exact AN (am3 hj he hit hno k (i+1) ⋯ ⋯)
def bk3{prog:Ag}{w:BA}{E:AF->AK->Prop}{s:AK}{a:AM}{e:Nat->Bool}{Q:AF->AK->Prop}(ht:s.heap.IsTuple a items)(hj:j<items.size)(he:∀i(h:i<items.size),Gv A.in1 s items[i] x (e i))
  (hit:e j=AC) (hno:∀i,i<j->e i=AG) (hQ:Q (.int j s.toks) {s with toks:=s.toks+1}) :
  AU (model prog w) A (call (.builtin "tuple.index") [.ref a,x]) Q E s:=by
 obtain⟨o,ho,hc,n,hd⟩:=id ht;refine CJ F.slot_tuple_index ht.typeIs F.entry_tuple_index ?_ (F.args_tuple_index_2 _ _);unfold GR.«tuple.index»;refine AH (wpAny_of_eq (a:=(An a,[x])) rfl ?_);dsimp only;refine AH ?_;unfold Cz;refine AH (Cd ho hd (AN ?_));refine AH (AN (AH (AN (AH ?_))));rw[IM];have hs:(Ep [0:min items.size items.size])=items.size:=by simp[Ep]
 rw[hs];refine BX (am3 hj he hit hno items.size 0 ⋯ (Ar _)) (λr s' h=>?_) λ_ _ h=>h;obtain⟨h1,rfl⟩:=h;rw[h1];exact AN ⟨_,rfl,hQ⟩
def bl7{prog:Ag}{w:BA}{E:AF->AK->Prop}{s:AK}{a:AM}{e:AF->Bool}{Q:AF->AK->Prop}(ht:s.heap.IsList a items)(hj:j<items.size)(hz:items.size<=sizeLine)(he:∀y,y∈items->Gv A.in1 s y x (e y))
  (hit:e items[j]=AC) (hno:∀m(hm:m<items.size),m<j->e items[m]=AG) (hQ:Q (.int j s.toks) {s with toks:=s.toks+1}) :
  AU (model prog w) A (call (.builtin "list.index") [.ref a,x]) Q E s:=by
 obtain⟨⟨cls,dd,data,sl⟩,ho,hc,n,hd⟩:=id ht;simp only at hc hd;subst hc hd;have hb:sizeLine=16777216:=rfl;exact Cs PySem.F.slot_list_index ⟨_,ho,rfl⟩ PySem.F.entry_list_index (PySem.F.args_list_index_2 _ _) (SeqAt.list_indexAt a items n dd sl x e j hj ⋯ hit hno) ⟨ho,he,hQ⟩
section
variable {X:Cx} {a b c:AQ} {ta tb tc:DT} {pos p:Pos}
def cl1{pins:List (AM×Obj)}{σ:L2.St}{H:Hp}{s:AK}{v:V}{u:AF}{d:D}(I:L2.Inv X pins σ H s)(is:IsD X.K H d v)(ru:c9 v u)(h:∃ds,d=.tup ds):s.TypeIs u "tuple"/\∀a,u=.ref a->∃ob,s.heap.get? a=AA ob/\ob.dict=AE:=by
 obtain⟨ds,rfl⟩:=h;obtain⟨q,vs,rfl,hq,r⟩:=is.tup_inv;cases ru;obtain⟨its,rv,⟨o,ho,hc,hdn,n,hd⟩,hz⟩:=I.tupleD hq;exact⟨⟨o,ho,hc⟩,λa e=>by cases e;exact⟨o,ho,hdn⟩⟩
open Classical in
abbrev ah0(h:Az)(x:Am)(u:AF):Bool:=AB (∃dt as,Reads h u dt as/\Ak dt x=AC)
open Classical in
def ac1{h:Az}{x dt:Am}{u:AF}{as:List AM}(r:Reads h u dt as)(hc:dt.canLay0=AC):ah0 h x u=Ak dt x:=by
 unfold ah0;cases hb:Ak dt x with
 |true=>exact decide_eq_true ⟨dt,as,r,hb⟩
 |false=>
  refine decide_eq_false λ z38=>?_;obtain⟨d',as',r',hb'⟩:=z38;rw[<-Jt dt d' u as as' hc r r',hb]at hb';cases hb'
def bv1{apos:Pos}(hu:X.A.units+200<CI)(ha:PE X a (up X.K ta))(hb:PE X b (up X.K tb))(hbase:∀i p p',a≠.Call (.Name i p) [] [] p')(hs:∀e p,b≠.Starred e p)(hline:(apos.endLine==pos.line)=AC):
  PE X (.Call (.Attribute a "index" apos) [b] [] pos) (up X.K λenv st Q=>ta env st λx st1=>Q3 x st1/\tb env st1 λy st2=>E7 x y st2 Q):=by
 intro pins s σ H Q I q;obtain⟨env,st,Qd,hE,hS,ht,hq⟩:=q;refine HQ (v5 hbase) (by rw[g7 hs];rfl) hline rfl (thn (ha pins s σ H (λv H1=>∃d st1,Ev st H st1 H1/\IsD X.K H1 d v/\RelS X.K st1 H1/\Q3 d st1/\tb env st1 λy st2=>E7 d y st2 Qd) I ⟨env,st,_,hE,hS,ht,λv d H1 st1 ev is rs q1=>⟨d,st1,ev,is,rs,q1⟩⟩) λu s1 z39=>?_);obtain⟨v,H1,I1,r1,d,st1,ev,is,rs,q1,q2⟩:=z39;have hA0:=A3 hb hs pos pins s1 σ H1 (λvs H2=>∃w e st2,vs=[w]/\Ev st1 H1 st2 H2/\IsD X.K H2 e w/\RelS X.K st2 H2/\E7 d e st2 Qd) I1 ⟨env,st1,(λds st2=>match ds with|[e]=>E7 d e st2 Qd|_=>False),hE.mono (ev.tk hS),rs,q2,λvs ds H2 st2 ev2 is2 hl rs2 q3=>by
  match ds,hl with
  |[e],_=>
   obtain⟨w,ws,rfl,i1,i2⟩:=is2.inv_cons;rw[i2.inv_nil];exact⟨w,e,st2,rfl,ev2,i1,rs2,q3⟩⟩
 rw[g7 hs]at hA0;cases d with
 |tup ds=>
  obtain⟨h1,h2⟩:=cl1 I1 is r1 ⟨_,rfl⟩;refine⟨"tuple","tuple.index",PySem.F.plainAttrs_tuple,PySem.F.slot_tuple_index,PySem.F.type_tuple_index,h1,h2,?_⟩;rw[g7 hs];refine CD (by rfl) (DH ?_);refine thn hA0 λus s2 z40=>?_;obtain⟨vs,H2,I2,r2,w,e,st2,ev',ev2,is2,rs2,q3⟩:=z40;subst ev';obtain⟨uw,rfl,rw'⟩:=r2.one;obtain⟨p1,p2,hd,j,dj,hjd,hit,hno,hQ⟩:=q3;have is':=is.mono (ev2.tk rs);obtain⟨q,vs,rfl,hsq,r⟩:=is'.tup_inv;cases r1;obtain⟨its,rv,pl,hz⟩:=I2.tuple hsq;have hlen:its.length=ds.length:=by rw[<-rv.length,<-r.len]
  have hj:j<ds.length:=(Ao.mp hjd).1;obtain⟨as,ra⟩:=u7 I2 is2 p1 rw';refine bk3 (items:=its.toArray) (j:=j) (e:=λi=>match ds[i]? with|some d=>deq d e|none=>AG) (show s2.heap.IsTuple q its.toArray from pl) (by simpa[hlen]using hj) (λi hi=>?_) (by rw[hjd];exact hit) (λi hi=>?_) ?_
  ·have hi':i<ds.length:=by simpa[hlen]using hi
   have e1:ds[i]?=AA ds[i]:=AZ hi';rw[e1];obtain⟨v,hv,isv⟩:=r.get e1;obtain⟨u,hu',ruv⟩:=rv.get hv;have pp:=aa2 p2 ds[i] (IA hi');obtain⟨bs,rb⟩:=u7 I2 isv pp ruv;have e2:its.toArray[i]=u:=by
    have:its[i]?=AA its[i]:=AZ ⋯;rw[this]at hu';simpa using At hu'
   rw[e2];exact Ex _ _ X.A.in1 s2 u uw bs as rb ra (v8 _ pp) (v8 _ p1) (T2 hu hd)
  ·have hi':i<ds.length:=by lia
   have e1:ds[i]?=AA ds[i]:=AZ hi';rw[e1];exact hno i _ hi e1
  ·exact⟨.int j,H2,I2.tok _,⟨_,rfl⟩,((hq.after ev).after ev2).here (.int _) rs2 hQ⟩
 |ref a0=>
  obtain⟨ds0,hr0⟩:=q1;have ev1:=is.ref_inv;subst ev1;cases r1;obtain⟨vs0,hq0,_⟩:=rs.rd hr0;obtain⟨its0,_,pl0,_⟩:=I1.list hq0;refine⟨"list","list.index",PySem.F.plainAttrs_list,PySem.F.slot_list_index,PySem.F.type_list_index,pl0.isList.typeIs,λa e=>?_,?_⟩
  ·cases e;obtain⟨o,n,g1,g2,g3,g4⟩:=pl0;exact⟨o,g1,g3⟩
  rw[g7 hs];refine CD (by rfl) (DH ?_);refine thn hA0 λus s2 z41=>?_;obtain⟨vs,H2,I2,r2,w,e,st2,ev',ev2,is2,rs2,q3⟩:=z41;subst ev';obtain⟨uw,rfl,rw'⟩:=r2.one;obtain⟨ds,hr,p1,p2,hd,j,dj,hjd,hit,hno,hQ⟩:=q3;obtain⟨vs,hsq,r⟩:=rs2.rd hr;obtain⟨its,rv,pl,hz⟩:=I2.list hsq;have hlen:its.length=ds.length:=by rw[<-rv.length,<-r.len]
  have hj:j<ds.length:=(Ao.mp hjd).1;obtain⟨as,ra⟩:=u7 I2 is2 p1 rw';have at':∀(i:Nat)(hi:i<ds.length),∃bs,Reads s2.heap (its[i]'⋯) (ds[i]).py bs/\(ds[i]).py.canLay0=AC:=λi hi=>by
   have e1:ds[i]?=AA ds[i]:=AZ hi;obtain⟨v,hv,isv⟩:=r.get e1;obtain⟨u,hu',ruv⟩:=rv.get hv;have pp:=aa2 p2 ds[i] (IA hi);obtain⟨bs,rb⟩:=u7 I2 isv pp ruv;have e2:its[i]'⋯=u:=by
    have:its[i]?=AA (its[i]'⋯):=AZ ⋯;rw[this]at hu';exact At hu'
   rw[e2];exact⟨bs,rb,v8 _ pp⟩
  refine bl7 (items:=its.toArray) (j:=j) (e:=ah0 s2.heap e.py) pl.isList (by simpa[hlen]using hj) (by rw[Ab,<-rv.length];exact hz) (λy hy=>?_) ?_ (λm hm hlt=>?_) ?_
  ·obtain⟨i,hi,rfl⟩:=List.mem_iff_getElem.mp (show y∈its by simpa using hy);obtain⟨bs,rb,cb⟩:=at' i ⋯;rw[ac1 rb cb];exact Ex _ _ X.A.in1 s2 _ uw bs as rb ra cb (v8 _ p1) (T2 hu hd)
  ·obtain⟨bs,rb,cb⟩:=at' j hj;have e1:its.toArray[j]'(by simpa[hlen]using hj)=its[j]'⋯:=by simp
   rw[e1,ac1 rb cb];have e2:dj=ds[j]:=by rw[AZ hj]at hjd;exact(At hjd).symm
   rw[e2]at hit;exact hit
  ·have hm':m<ds.length:=by lia
   obtain⟨bs,rb,cb⟩:=at' m hm';have e1:its.toArray[m]'hm=its[m]'⋯:=by simp
   rw[e1,ac1 rb cb];exact hno m ds[m] hlt (AZ hm')
  ·exact⟨.int j,H2,I2.tok _,⟨_,rfl⟩,((hq.after ev).after ev2).here (.int _) rs2 hQ⟩
 |_=>exact q1.elim
end
end Ek
namespace Ek
open PySem PySem.Spec PyProof.Rows L2
variable [Tbs]
variable{ks:List Str}{keys:List (Option AQ)}{values:List AQ}
section
variable {X:Cx} {a b c:AQ} {ta tb tc:DT} {pos p:Pos}
abbrev DPs(X:Cx)(pos:Pos)(keys:List (Option AQ))(values:List AQ)(ks:List Str)(t:DA):Prop:=
 ∃trs,PPs X pos keys values trs/\∀(σ:L2.St)(H:Hp)(Q:List (V×V)->Hp->Prop),(∃env st Qd,RelE X.K H env σ/\RelS X.K st H/\t env st Qd /\
  ∀vs ds H' st',Ev st H st' H'->IsDs X.K H' ds vs->ds.length=ks.length->RelS X.K st' H'->Qd ds st'->Q ((ks.zip vs).map λkv=>(V.str kv.1,kv.2)) H')->O3 trs σ H Q
def cd3:DPs X pos [] [] [] (λ_ st Q=>Q [] st):=⟨[],by3,λσ H Q⟨env,st,Qd,hE,hS,ht,hq⟩=>hq [] [] H st Ev.refl .nil rfl hS ht⟩
def b45{k:Str}{j:Nat}{kp:Pos}{t:DA}(ha:PE X a (up X.K ta))(hr:DPs X pos keys values ks t):
  DPs X pos (AA (.Constant (.str k) j kp)::keys) (a::values) (k::ks) (λenv st Q=>ta env st λd st1=>t env st1 λds st2=>Q (d::ds) st2):=by
 obtain⟨trs,h1,h2⟩:=hr;refine⟨_,bv3 av1 ha h1,λσ H Q z42=>?_⟩;obtain⟨env,st,Qd,hE,hS,ht,hq⟩:=z42;show up X.K ta σ H λy H2=>O3 trs σ H2 λps H3=>Q ((V.str k,y)::ps) H3;exact⟨env,st,_,hE,hS,ht,λv d H1 st1 ev is rs q1=>h2 σ H1 _ ⟨env,st1,_,hE.mono (ev.tk hS),rs,q1,λvs ds H2 st2 ev2 is2 hl rs2 q2=>
  hq (v::vs) (d::ds) H2 st2 (ev.trans ev2) (.cons (is.mono (ev2.tk rs)) is2) (by simp[hl]) rs2 q2⟩⟩
theorem aa8:∀(more kvs:List (Key×V)),(∀k∈more.map (·.1),j9 kvs k=AE)->(more.map (·.1)).Nodup->y9 kvs more=kvs++more
 |[],kvs,_,_=>by simp[y9]
 |(k,v)::r,kvs,h,nd=>by
  have nd':=Bq.mp (show(k::r.map (·.1)).Nodup from nd);show y9 (w4 kvs k v) r=_;rw[br7 v (h k ∎),aa8 r _ (λk' hk'=>?_) nd'.2,Ba]
  ·rfl
  ·have hne:k'≠k:=λz=>nd'.1 (by rw[<-z];exact hk');have h1:=h k' (by simp only[AY,AT];exact .inr hk');unfold j9 at h1 ⊢;rw[Option.map_eq_none_iff]at h1 ⊢;rw[List.find?_append,h1];simp[BK hne]
theorem al6:∀(ks:List Str)(ds:List D)(vs:List V)(w:Str)(d:D){K:AR}{H:Hp},IsDs K H ds vs->i7 (ks.zip ds) w=AA d->∃v,j9 ((ks.zip vs).map λkv=>((BW kv.1:Key),kv.2)) (BW w)=AA v/\IsD K H d v
 |[],ds,vs,w,d,K,H,r,h=>by simp[i7]at h
 |k::ks,[],vs,w,d,K,H,r,h=>by simp[i7]at h
 |k::ks,e::ds,vs,w,d,K,H,r,h=>by
  obtain⟨v,ws,rfl,h1,h2⟩:=r.inv_cons;simp only[FN,i7]at h
  by_cases hk:k=w
  ·rw[if_pos hk]at h;cases h;refine⟨v,?_,h1⟩;unfold j9;simp[hk]
  ·rw[if_neg hk]at h;obtain⟨v',h3,h4⟩:=al6 ks ds ws w d h2 h;refine⟨v',?_,h4⟩;unfold j9 at h3 ⊢;simp only[FN,AY,Ct];have:AB ((BW k:Key)=BW w)=AG:=decide_eq_false λz=>hk (Er z);rw[this];exact h3
def bx8{t:DA}{dp:Pos}(hu:X.A.units+200<CI)(hd:DPs X dp keys values ks t)(hall:keys.all (·.isSome)=AC)(hl:keys.length=values.length)(h0:keys≠[])(hkl:keys.length=ks.length)(h15:keys.length<=15)(nd:ks.Nodup)
  (hb:PE X b (up X.K tb)) (hs:∀l u s p,b≠.Slice l u s p) :
  PE X (.Subscript (.Dict keys values dp) b pos) (up X.K λenv st Q=>t env st λds st1=>tb env st1 λx st2=>∃w d,x=.str w/\i7 (ks.zip ds) w=AA d/\Q d st2):=by
 obtain⟨trs,h1,h2⟩:=hd;refine PE.imp (by6 ⋯ (au3 h1 hall hl h0 h15) hb (Z7 hs)) λσ H Q q=>?_;obtain⟨env,st,Qd,hE,hS,ht,hq⟩:=q;intro p hp;have sp:st p=AE:=hS.free hp;refine h2 σ _ _ ⟨env,st,_,hE.mono (TK.new hp),hS.new hp,ht,λvs ds H2 st2 ev2 is2 hl2 rs2 q2=>?_⟩;obtain⟨e2,sp2⟩:=ev2.get o9 sp (λ_=>nofun);refine⟨e2,(ks.zip vs).map λkv=>((BW kv.1:Key),kv.2),by rw[Dw];rfl,?_,?_⟩
 ·rw[Aj,IB,<-is2.len,hl2];lia
 have hm:y9 [] ((ks.zip vs).map λkv=>((BW kv.1:Key),kv.2))=(ks.zip vs).map λkv=>((BW kv.1:Key),kv.2):=by
  rw[aa8 _ [] (λ_ _=>rfl)]
  ·rfl
  ·rw[Dw];have:((λx:Key×V=>x.1)∘λkv:Str×V=>((BW kv.1:Key),kv.2))=(λx:Str=>(BW x:Key))∘(λkv:Str×V=>kv.1):=rfl;rw[this,<-Dw];have e:(ks.zip vs).map (λkv:Str×V=>kv.1)=ks:=by
    have:=List.map_fst_zip (l₁:=ks) (l₂:=vs) (by rw[<-is2.len,hl2];exact Af _);exact this
   rw[e];exact Fs _ (λa b hab z=>hab (Er z)) nd
 rw[hm];have tk3:TK X.K H2 (upd H2 p (.dK ((ks.zip vs).map λkv=>((BW kv.1:Key),kv.2)))):=TK.putD e2;have rs3:RelS X.K st2 (upd H2 p (.dK ((ks.zip vs).map λkv=>((BW kv.1:Key),kv.2)))):=rs2.stay tk3 (λc u z=>e9 λw=>by rw[w,sp2]at z;cases z) (T4 (by rw[e2];exact λ_ z=>by cases z));refine⟨env,st2,_,((hE.mono (TK.new hp)).mono (ev2.tk (hS.new hp))).mono tk3,rs3,q2,λy x H4 st4 ev4 is4 rs4 q4=>?_⟩;obtain⟨w,d,rfl,lk,q4⟩:=q4;obtain⟨e4,sp4⟩:=ev4.get o9 sp2 (λ_=>nofun);have is2':=(is2.mono tk3).mono (ev4.tk rs3);obtain⟨v,hv,isv⟩:=al6 ks ds vs w d is2' lk;refine⟨p,v,rfl,?_,hq v d H4 st4 (λc o hc hs=>?_) isv rs4 q4⟩
 ·rw[is4.str_inv,<-hv];exact t9.k (k:=BW w) e4
 ·have ne:c≠p:=o5 hc hp;obtain⟨⟨o1,x1,t1⟩,y1⟩:=ev2 c o (by rw[e9 ne];exact hc) hs;obtain⟨⟨o2,x2,t2⟩,y2⟩:=ev4 c o1 (by rw[e9 ne];exact x1) y1;exact⟨⟨o2,x2,t1.trans t2⟩,y2⟩
def O1{α:Type}(ks:List Str)(vs:List α)(h:ks.length=vs.length):((ks.zip vs).map λkv=>((BW kv.1:Key),kv.2)).map (·.1)=ks.map BW/\((ks.zip vs).map λkv=>((BW kv.1:Key),kv.2)).map (·.2)=vs:=by
 induction ks generalizing vs with
 |nil=>
  cases vs with
  |nil=>exact⟨rfl,rfl⟩
  |cons _ _=>simp at h
 |cons k ks ih=>
  cases vs with
  |nil=>simp at h
  |cons v vs=>
   obtain⟨h1,h2⟩:=ih vs (by simpa using h);simp only[FN,AY];exact⟨by rw[h1],by rw[h2]⟩
def b19{t:DA}{dp:Pos}(hd:DPs X dp keys values ks t)(hall:keys.all (·.isSome)=AC)(hl:keys.length=values.length)(h0:keys≠[])(hkl:keys.length=ks.length)(h15:keys.length<=15)(nd:ks.Nodup):
  PE X (.Dict keys values dp) (up X.K λenv st Q=>t env st λds st1=>∀p,st1 p=AE->Q (.ref p) (b0 st1 p (.dct ((ks.zip ds).map λkv=>(.inr kv.1,kv.2))))):=by
 obtain⟨trs,h1,h2⟩:=hd;refine PE.imp (au3 h1 hall hl h0 h15) λσ H Q q=>?_;obtain⟨env,st,Qd,hE,hS,ht,hq⟩:=q;intro p hp;have sp:st p=AE:=hS.free hp;refine h2 σ _ _ ⟨env,st,_,hE.mono (TK.new hp),hS.new hp,ht,λvs ds H2 st2 ev2 is2 hl2 rs2 q2=>?_⟩;obtain⟨e2,sp2⟩:=ev2.get o9 sp (λ_=>nofun);have hlv:ks.length=vs.length:=by rw[<-is2.len,hl2]
 have hld:ks.length=ds.length:=by rw[hl2]
 refine⟨e2,(ks.zip vs).map λkv=>((BW kv.1:Key),kv.2),by rw[Dw];rfl,?_,?_⟩
 ·rw[Aj,IB,<-is2.len,hl2];lia
 have hm:y9 [] ((ks.zip vs).map λkv=>((BW kv.1:Key),kv.2))=(ks.zip vs).map λkv=>((BW kv.1:Key),kv.2):=by
  rw[aa8 _ [] (λ_ _=>rfl)]
  ·rfl
  ·rw[(O1 ks vs hlv).1];exact Fs _ (λa b hab z=>hab (Er z)) nd
 rw[hm];have tk3:TK X.K H2 (upd H2 p (.dK ((ks.zip vs).map λkv=>((BW kv.1:Key),kv.2)))):=TK.putD e2;refine hq _ (.ref p) _ (b0 st2 p (.dct ((ks.zip ds).map λkv=>(.inr kv.1,kv.2)))) (λc o hc hs=>?_) (.ref p) (rs2.putAny (ob:=.dct ((ks.zip ds).map λkv=>(.inr kv.1,kv.2))) tk3 ⟨_,o9,⟨?_,?_⟩⟩ (by rw[e2];exact λ_ z=>by cases z)) (q2 p sp2)
 ·have ne:c≠p:=o5 hc hp;obtain⟨⟨o1,x1,t1⟩,y1⟩:=ev2 c o (by rw[e9 ne];exact hc) hs;exact⟨⟨o1,by rw[e9 ne];exact x1,t1⟩,by rw[g6 ne];exact y1⟩
 ·rw[(O1 ks ds hld).1,(O1 ks vs hlv).1]
 ·rw[(O1 ks ds hld).2,(O1 ks vs hlv).2];exact is2.mono tk3
@[reducible]noncomputable def TabV(h:Az)(a:AM)(T:List (Str×AF)):Prop:=KTD.TabOf (λ(d v:AF)=>v=d) h a T
def TabV.typeIs{s:AK}{a:AM}{T:List (Str×AF)}(t:TabV s.heap a T):s.TypeIs (.ref a) "dict":=let⟨_,o,_,_,ho,hc,_⟩:=t;⟨o,ho,hc.1⟩
def TabV.get{prog:Ag}{w:BA}{A:BO}{E:AF->AK->Prop}{s:AK}{a:AM}{T:List (Str×AF)}{k:Str}{tk:Tok}{Q:Option AF->AK->Prop}(t:TabV s.heap a T)
  (h:Q (Bh k T) {s with toks:=s.toks+1}):AU (model prog w) A (Iv a (.str k tk)) Q E s:=by
 obtain⟨_,o,⟨l⟩,ep,ho,hc,hd,hr⟩:=t;unfold Iv
 try with_reducible refine CV ?_
 refine AH (EE (AH (KTD.kt_dictFind_strs (s:={s with toks:=s.toks+1}) ho hd (by simpa using hr.exact) ?_)));have e:Bh k T=(l.find? λe=>e.key.isStr k).map (·.val):=by
  cases hat:Bh k T with
  |some d=>obtain⟨v,hv,rfl⟩:=hr.find_some hat;exact hv.symm
  |none=>exact(hr.find_none hat).symm
 have hf:findBy (λk v=>v.isStr k) (⟨l⟩:Array DL) k=Bh k T:=by rw[e];simp[findBy]
 rw[<-hf,findBy_of_findIdx?]at h;cases hi:(⟨l⟩:Array DL).findIdx? λe=>e.key.isStr k with
 |none=>rw[hi]at h;exact AN h
 |some i=>rw[hi]at h;exact AH (wpAny_dictEntries (s:={s with toks:=s.toks+1}) ho hd (AN h))
def bk2{prog:Ag}{w:BA}{A:BO}{E:AF->AK->Prop}{s:AK}{a:AM}{T:List (Str×AF)}{k:Str}{tk:Tok}{u:AF}{Q:AF->AK->Prop}(H:TabV s.heap a T)(hk:Bh k T=AA u)
  (h:Q u {s with toks:=s.toks+1}):AU (model prog w) A (Dv (.ref a) (.str k tk)) Q E s:=by
 unfold Dv
 try with_reducible refine CV ?_
 refine AH (Ik H.typeIs ∅ ?_);refine AH (Cw (name:=AD "__getitem__") H.typeIs Iw
  (CJ Iw H.typeIs entry_dict_getitem ?_ (args_dict_getitem _ _)))
 show AU _ _ (Iv a (.str k tk)>>=_) _ _ s;refine AH (H.get ?_);rw[hk];exact AN ⟨u,rfl,AN h⟩
structure GTab(P:Ag)(w:BA)(K:AR)(mg:Str->Option AF)(g:Str)(kvs:List (Str×D)):Prop where
 ex:∃(a:AM)(T:List (Str×AF)),mg g=AA (.ref a)/\(∀h:Az,K.In h->TabV h a T)/\(∀x d,i7 kvs x=AA d->∃u v,Bh x T=AA u/\c9 v u/\∀H,IsD K H d v)/\∀x,i7 kvs x=AE->Bh x T=AE
def b24{g:Str}{kvs:List (Str×D)}(T:kvs≠[]->GTab X.prog X.w X.K X.mg g kvs)(hg:Gl X g)(hb:PE X b (up X.K tb))(hs:∀l u s p,b≠.Slice l u s p)(hdb:(g==("__debug__":Str))=AG):
  PE X (.Subscript (.Name g p) b pos) (up X.K λenv st Q=>kvs≠[]/\tb env st λx st1=>∃w d,x=.str w/\i7 kvs w=AA d/\Q d st1):=by
 intro pins s σ H Q I q;obtain⟨env,st,Qd,hE,hS,⟨hne,ht⟩,hq⟩:=q;obtain⟨t,vs,hm,hT,hl,_⟩:=(T hne).ex;have q:up X.K (λenv st Q=>tb env st λx st1=>∃w d,x=.str w/\i7 kvs w=AA d/\Q d st1) σ H Q:=⟨env,st,Qd,hE,hS,ht,hq⟩;refine as9 PySem.F.slot_dict_getitem.lookup (Z7 hs) (J0 I hg hm ?_ hdb);refine thn (hb pins s σ H (λv H1=>∃(w:Str)(d:D),v=.str w/\i7 kvs w=AA d/\∀v',IsD X.K H1 d v'->Q v' H1) I (up1 (f:=λx st1 Q=>∃w d,x=.str w/\i7 kvs w=AA d/\Q d st1) q λv d H' st' Qd is rs ht hq=>?_)) λiv s2 z43=>?_
 ·obtain⟨w,d,rfl,lk,ht⟩:=ht;exact⟨w,d,is.str_inv,lk,λv' is'=>hq.here is' rs ht⟩
 ·obtain⟨y,H2,I2,ry,w,d,ey,lk,q2⟩:=z43;subst ey;obtain⟨tt,rfl⟩:=ry;obtain⟨u,v',h1,rv,is'⟩:=hl w d lk;have hh:TabV s2.heap t vs:=hT s2.heap I2.kIn;exact⟨hh.typeIs,bk2 hh h1 ⟨v',H2,I2.tok _,rv,q2 v' (is' H2)⟩⟩
abbrev A6:List D->List AF->Bool
 |[],[]=>AC
 |.int i::ds,.int j _::us=>(i==j)&&A6 ds us
 |_,_=>AG
abbrev v6:List D->List AF->Bool
 |[],[]=>AC
 |.int i::ds,.int j _::us=>(i==j)&&v6 ds us
 |.str i::ds,.str j _::us=>(i==j)&&v6 ds us
 |.bl i::ds,.bool j::us=>(i==j)&&v6 ds us
 |_,_=>AG
theorem v6.is:∀{ds:List D}{us:List AF},v6 ds us=AC->∃vs,c7 vs us/\∀(K:AR)(H:Hp),IsDs K H ds vs
 |[],[],_=>⟨[],.nil,λ_ _=>.nil⟩
 |[],_::_,h=>by simp[v6]at h
 |d::ds,[],h=>by simp[v6]at h
 |d::ds,u::us,h=>by
  cases d<;>cases u<;>simp only[v6,Aq,beq_iff_eq,Ae]at h
  all_goals
   obtain⟨rfl,h⟩:=h;obtain⟨vs,r,z⟩:=v6.is h
  ·exact⟨.bl _::vs,.cons rfl r,λK H=>.cons (.bl _) (z K H)⟩
  ·exact⟨.int _::vs,.cons ⟨_,rfl⟩ r,λK H=>.cons (.int _) (z K H)⟩
  ·exact⟨.str _::vs,.cons ⟨_,rfl⟩ r,λK H=>.cons (.str _) (z K H)⟩
abbrev v3(K:AR):D->AF->Bool
 |.int j,.int i _=>i==j
 |.str y,.str x _=>x==y
 |.fn f,.ref a=>Ay K AS f==AA (AA (.ref a))
 |.ktup ns,.ref a=>(match K.lookup a with
  |some o=>(match o.data with|.seq its _=>(o.cls==.type "tuple")&&o.dict.isNone&&AB (its.size<=1000)&&A6 (ns.map D.int) its.toList|_=>AG)
  |none=>AG)
 |.tup ds,.ref a=>Tbs.kt&&match K.lookup a with
  |some o=>(match o.data with|.seq its _=>(o.cls==.type "tuple")&&o.dict.isNone&&AB (its.size<=1000)&&v6 ds its.toList|_=>AG)
  |none=>AG
 |_,_=>AG
theorem A6.is:∀{ds:List D}{us:List AF},A6 ds us=AC->∃ns:List Int,ds=ns.map D.int/\c7 (ns.map V.int) us
 |[],[],_=>⟨[],rfl,.nil⟩
 |[],_::_,h=>by simp[A6]at h
 |d::ds,[],h=>by simp[A6]at h
 |d::ds,u::us,h=>by
  cases d<;>cases u<;>simp only[A6,Aq,beq_iff_eq,Ae]at h;rename_i i j t;obtain⟨rfl,h⟩:=h;obtain⟨ns,rfl,r⟩:=A6.is h;exact⟨i::ns,rfl,.cons ⟨_,rfl⟩ r⟩
theorem v3.is{K:AR}{d:D}{u:AF}(h:v3 K d u=AC):∃v,c9 v u/\∀H,IsD K H d v:=by
 cases d<;>cases u<;>simp only[v3,beq_iff_eq,Ae]at h
 ·subst h;exact⟨.int _,⟨_,rfl⟩,λH=>.int _⟩
 ·subst h;exact⟨.str _,⟨_,rfl⟩,λH=>.str _⟩
 ·rename_i ds a;rw[Aq]at h;obtain⟨hkt,h⟩:=h;cases hk:K.lookup a with
  |none=>rw[hk]at h;cases h
  |some o=>
   rw[hk]at h;simp only at h
   split at h
   ·rename_i its n hd;simp only[Aq,beq_iff_eq,decide_eq_true_eq]at h;obtain⟨⟨⟨h1,h2⟩,h3⟩,h4⟩:=h;obtain⟨vs,r,z⟩:=v6.is h4;exact⟨.ref a,rfl,λH=>IsD.mk (.inr ⟨hkt,.inr ⟨o,its,n,hk,h1,by simpa using h2,hd,Al h3 ∅,r⟩⟩) (z K H)⟩
   ·cases h
 ·rename_i f a;exact⟨.ref a,rfl,λH=>.fn h⟩
 ·rename_i ms a;cases hk:K.lookup a with
  |none=>rw[hk]at h;cases h
  |some o=>
   rw[hk]at h;simp only at h
   split at h
   ·rename_i its n hd;simp only[Aq,beq_iff_eq,decide_eq_true_eq]at h;obtain⟨⟨⟨h1,h2⟩,h3⟩,h4⟩:=h;obtain⟨ns,e,r⟩:=A6.is h4;have e:ms=ns:=(List.map_inj_right (λa b z=>by cases z;rfl)).mp e;subst e;exact⟨.ref a,rfl,λH=>.ktup (.inr ⟨o,its,n,hk,h1,by simpa using h2,hd,Al h3 ∅,r⟩)⟩
   ·cases h
abbrev ae5(K:AR)(e:DL)(p:Str×D):Bool:=(match e.key with|.str x _=>x==p.1|_=>AG)&&v3 K p.2 e.val
abbrev J4(K:AR):List DL->List (Str×D)->Bool
 |[],[]=>AC
 |e::es,p::ps=>ae5 K e p&&J4 K es ps
 |_,_=>AG
abbrev L1(K:AR)(a:AM)(kvs:List (Str×D)):Bool:=match K.lookup a with
 |some ⟨c,dd,.dict es _,sl⟩=>(c==.type "dict")&&dd.isNone&&sl.isEmpty&&J4 K es.toList kvs&&!(a==Ce)
 |_=>AG
abbrev L7:List DL->List (Str×D)->List (Str×AF)
 |e::es,(x,_)::r=>(x,e.val)::L7 es r
 |_,_=>[]
theorem ar0{K:AR}:∀(es:List DL)(kvs:List (Str×D)),J4 K es kvs=AC->KTD.Rows (λ(d v:AF)=>v=d) es (L7 es kvs)
 |[],[],_=>.nil
 |[],_::_,h'=>by cases h'
 |_::_,[],h'=>by cases h'
 |e::es,(x,d)::ps,h'=>by
  simp only[J4,ae5,Aq]at h';obtain⟨⟨h1,_⟩,h2⟩:=h'
  split at h1
  ·rename_i y t ek;have:y=x:=by simpa using h1
   subst this;exact .cons ek rfl (ar0 es ps h2)
  ·cases h1
theorem ab1{K:AR}:∀(kvs:List (Str×D))(es:List DL),J4 K es kvs=AC->∀x,(∀d,i7 kvs x=AA d->∃u v,Bh x (L7 es kvs)=AA u/\c9 v u/\∀H,IsD K H d v)/\(i7 kvs x=AE->Bh x (L7 es kvs)=AE)
 |[],[],_,x=>⟨λd h=>(nomatch h),λ_=>rfl⟩
 |[],_::_,h',x=>by cases h'
 |(y,e)::r,[],h',x=>by cases h'
 |(y,e)::r,en::es,h',x=>by
  simp only[J4,ae5,Aq]at h';obtain⟨⟨_,h1⟩,h2⟩:=h';have ih:=ab1 r es h2 x;simp only[i7,L7,Bh]
  by_cases hy:y=x
  ·rw[if_pos hy,if_pos (by simp[hy])];obtain⟨v,rv,is⟩:=v3.is h1;exact⟨λd h=>by cases h;exact⟨_,v,rfl,rv,is⟩,λh=>by cases h⟩
  ·rw[if_neg hy,if_neg (by simp[BK hy])];exact ih
def T0{P:Ag}{w:BA}{K:AR}{mg:Str->Option AF}{h:Az}{g:Str}{kvs:List (Str×D)}{a:AM}(Xk:K.In h)(G:h.Ns AS mg)(a1:Ay K AS g=AA (AA (.ref a)))(t1:L1 K a kvs=AC):GTab P w K mg g kvs:=by
 unfold L1 at t1
 split at t1
 ·rename_i c dd es ep sl hk;simp only[Aq,beq_iff_eq,EK]at t1;obtain⟨⟨⟨⟨e1,e2⟩,e3⟩,e4⟩,e5⟩:=t1;refine⟨a,L7 es.toList kvs,EX Xk G a1,λh' hK'=>⟨e5,_,es,ep,hK' a _ hk,⟨e1,by simpa using e2,by simpa using e3⟩,rfl,ar0 _ _ e4⟩,λx d lk=>(ab1 kvs _ e4 x).1 d lk,λx=>(ab1 kvs _ e4 x).2⟩
 ·cases t1
end
end Ek
namespace Ek
open PySem PySem.Spec PyProof.Rows L2
variable [Tbs]
variable{q:AM}{H1:Hp}
section
variable {X:Cx} {a b c:AQ} {ta tb tc:DT} {pos p:Pos}
structure ItOk(K:AR)(H1:Hp)(J:L2.It)(items:List D)(chk:Sto->Prop):Prop where
 go:∀(i:Nat)st H,TK K H1 H->RelS K st H->chk st->i<items.length->J.go i H
 yld:∀(i:Nat)st H x H',TK K H1 H->RelS K st H->chk st->i<items.length->J.yld i H x H'->∃d,items[i]?=AA d/\IsD K H' d x/\Ev st H st H'/\RelS K st H'
 stop:∀st H,TK K H1 H->RelS K st H->chk st->J.stop items.length H
abbrev upI(K:AR)(t:d8->Sto->ItK->Prop):TI:=λσ H R=>∃env st k,RelE K H env σ/\RelS K st H/\t env st k/\∀items chk st' H' J,Ev st H st' H'->RelS K st' H'->ItOk K H' J items chk->k items chk st'->R J H'
def _root_.L2.PI.imp{X:Cx}{tg x:AQ}{t t':TI}(h:PI X tg x t)(i:∀σ H Q,t' σ H Q->t σ H Q):PI X tg x t':=λpins s σ H Q I q=>h pins s σ H Q I (i σ H Q q)
variable {K:AR}
def cb6{ds:List D}{vs:List V}(hq:SqT K H1 q vs)(r:IsDs K H1 ds vs):ItOk K H1 (Itt K q) ds (λ_=>True) where
 go:=λi st H tk rs _ hi=>by
  obtain⟨v,hv,_⟩:=r.get (AZ hi);exact⟨vs,v,tk.1.1 _ _ hq,hv⟩
 yld:=λi st H x H' tk rs _ hi y=>by
  obtain⟨rfl,y⟩:=y;obtain⟨d,hd,is⟩:=r.get' (y vs (tk.1.1 _ _ hq));exact⟨d,hd,is.mono tk,Ev.refl,rs⟩
 stop:=λst H tk rs _=>⟨vs,tk.1.1 _ _ hq,by rw[r.len];exact Af _⟩
def ca9{ds:List D}:ItOk K H1 (Itl K q) ds (λst=>rdS st q ds) where
 go:=λi st H tk rs hc hi=>by
  obtain⟨vs,hs,r⟩:=rs.rd hc;obtain⟨v,hv,_⟩:=r.get (AZ hi);exact⟨vs,v,hs,hv⟩
 yld:=λi st H x H' tk rs hc hi y=>by
  obtain⟨rfl,y⟩:=y;obtain⟨vs,hs,r⟩:=rs.rd hc;obtain⟨d,hd,is⟩:=r.get' (y vs hs);exact⟨d,hd,is,Ev.refl,rs⟩
 stop:=λst H tk rs hc=>by
  obtain⟨vs,hs,r⟩:=rs.rd hc;exact⟨vs,hs,by rw[r.len];exact Af _⟩
def ax9{lo:Int}{n:Nat}:ItOk K H1 (Itr lo n) (k8 lo n) (λ_=>True) where
 go:=λi st H tk rs _ hi=>by show i<n;simpa[k8]using hi
 yld:=λi st H x H' tk rs _ hi y=>by
  obtain⟨rfl,rfl⟩:=y;have hi':i<n:=by simpa[k8]using hi
  exact⟨.int (lo+i),by simp[k8,hi'],.int _,Ev.refl,rs⟩
 stop:=λst H tk rs _=>by show n<=(k8 lo n).length;simp[k8]
theorem aa3:∀(ds:List D)(k:Nat),(j7 k ds).length=ds.length
 |[],_=>rfl
 |d::ds,k=>by simp[j7,aa3 ds (k+1)]
theorem al5:∀(ds:List D)(k i:Nat)(d:D),ds[i]?=AA d->(j7 k ds)[i]?=AA (.tup [.int ((k+i:Nat):Int),d])
 |[],k,i,d,h=>by simp at h
 |e::ds,k,0,d,h=>by simp at h;subst h;rfl
 |e::ds,k,i+1,d,h=>by
  have:=al5 ds (k+1) i d (by simpa using h);have e:k+(i+1)=k+1+i:=by lia
  rw[e];simpa[j7]using this
def aq2{sq:Hp->List V->Prop}{ds:List D}{chk:Sto->Prop}(h:∀st H,TK K H1 H->RelS K st H->chk st->∃vs,sq H vs/\IsDs K H ds vs):ItOk K H1 (Ite K sq) (j7 0 ds) chk where
 go:=λi st H tk rs hc hi=>by
  obtain⟨vs,hs,r⟩:=h st H tk rs hc;rw[aa3]at hi;obtain⟨v,hv,_⟩:=r.get (AZ hi);exact⟨vs,v,hs,hv⟩
 yld:=λi st H x H' tk rs hc hi y=>by
  obtain⟨t,v,ht,rfl,rfl,y⟩:=y;obtain⟨vs,hs,r⟩:=h st H tk rs hc;obtain⟨d,hd,is⟩:=r.get' (y vs hs);refine⟨_,al5 ds 0 i d hd,IsD.mk (SqX.of o9) (.cons ?_ (.cons (is.mono (TK.new ht)) .nil)),Ev.new ht,rs.new ht⟩;have e:((0+i:Nat):Int)=(i:Int):=by simp
  rw[e];exact .int _
 stop:=λst H tk rs hc=>by
  obtain⟨vs,hs,r⟩:=h st H tk rs hc;exact⟨vs,hs,by rw[aa3,r.len]⟩
def cc6{ds:List D}:ItOk K H1 (Itv K q ds.length) ds.reverse (λst=>rdS st q ds) where
 go:=λi st H tk rs hc hi=>by
  obtain⟨vs,hs,r⟩:=rs.rd hc;exact⟨⟨vs,hs,r.len.symm⟩,by simpa using hi⟩
 yld:=λi st H x H' tk rs hc hi y=>by
  obtain⟨rfl,y⟩:=y;obtain⟨vs,hs,r⟩:=rs.rd hc;have hi':i<ds.length:=by simpa using hi
  obtain⟨d,hd,is⟩:=r.get' (y vs hs);exact⟨d,by rw[List.getElem?_reverse hi'];exact hd,is,Ev.refl,rs⟩
 stop:=λst H tk rs hc=>by
  obtain⟨vs,hs,r⟩:=rs.rd hc;exact⟨⟨vs,hs,r.len.symm⟩,∎⟩
variable {tg:AQ}
def b55(ha:PE X a (up X.K ta)):PI X tg a (upI X.K λenv st k=>ta env st λd st1=>(∃ds,d=.tup ds/\k ds (λ_=>True) st1)\/(∃a ds,d=.ref a/\rdS st1 a ds/\k ds (λst'=>rdS st' a ds) st1)):=by
 intro pins s σ H R I q;obtain⟨env,st,kk,hE,hS,ht,hq⟩:=q;refine thn (ha pins s σ H (λv H1=>∃d st1,Ev st H st1 H1/\IsD X.K H1 d v/\RelS X.K st1 H1/\((∃ds,d=.tup ds/\kk ds (λ_=>True) st1)\/(∃a ds,d=.ref a/\rdS st1 a ds/\kk ds (λst'=>rdS st' a ds) st1))) I ⟨env,st,_,hE,hS,ht,λv d H1 st1 ev is rs q1=>⟨d,st1,ev,is,rs,q1⟩⟩) λu s1 z44=>?_
 obtain⟨v,H1,I1,r1,d,st1,ev,is,rs,q1⟩:=z44;rcases q1 with⟨ds,rfl,q1⟩|⟨q,ds,rfl,hr,q1⟩
 ·obtain⟨q,vs,rfl,hsq,r⟩:=is.tup_inv;cases r1;obtain⟨its,rv,pl,hz⟩:=I1.tuple hsq;refine Dn (show s1.heap.IsTuple q its.toArray from pl) ?_;refine⟨s1.heap.objs.size,[s1.heap.objs.size],_,_,H1,rfl,I1.kept (t':=s1.toks) λb o e=>AV _ e,bm1 q _,⟨_,Au _ rfl,rfl,rfl⟩,λb hb=>?_,hq ds _ st1 H1 _ ev rs (cb6 hsq r) q1⟩;have e:b=s1.heap.objs.size:=by simpa using hb
  subst e;exact I1.fpOk (Af _) (I1.hok.fresh (Af _))
 ·rw[is.ref_inv]at r1;cases r1;obtain⟨vs,hsq,r⟩:=rs.rd hr;obtain⟨its,rv,pl,hz⟩:=I1.list hsq;refine wpAny_pyIter_list pl.isList ?_;refine⟨s1.heap.objs.size,[s1.heap.objs.size],_,_,H1,rfl,I1.kept (t':=s1.toks) λb o e=>AV _ e,bq0 q _,⟨_,Au _ rfl,rfl,rfl⟩,λb hb=>?_,hq ds _ st1 H1 _ ev rs ca9 q1⟩;have e:b=s1.heap.objs.size:=by simpa using hb
  subst e;exact I1.fpOk (Af _) (I1.hok.fresh (Af _))
def b91(hg:Gl X "range")(hm:X.mg "range"=AE)(ha:PE X a (up X.K ta))(hs:∀e p,a≠.Starred e p):PI X tg (.Call (.Name "range" p) [a] [] pos) (upI X.K λenv st k=>ta env st λd st1=>∃j:Int,d=.int j/\(-(2^62)<=j/\j<2^62)/\k (k8 0 j.toNat) (λ_=>True) st1):=
 PI.imp (bp9 hg hm (A3 ha hs) (by rw[g7 hs];rfl)) λσ H R q=>by
  obtain⟨env,st,kk,hE,hS,ht,hq⟩:=q;refine⟨env,st,(λds st1=>match ds with|[d]=>∃j:Int,d=.int j/\(-(2^62)<=j/\j<2^62)/\kk (k8 0 j.toNat) (λ_=>True) st1|_=>False),hE,hS,ht,λvs ds H' st' ev is hl rs q1=>?_⟩
  match ds,hl with
  |[d],_=>
   obtain⟨v,ws,rfl,i1,i2⟩:=is.inv_cons;rw[i2.inv_nil];obtain⟨j,rfl,hj,q1⟩:=q1;exact⟨j,by rw[i1.int_inv],hj.1,hj.2,hq _ _ st' H' _ ev rs ax9 q1⟩
def b01(hg:Gl X "range")(hm:X.mg "range"=AE)(ha:PE X a (up X.K ta))(hb:PE X b (up X.K tb))(hs:∀e p,a≠.Starred e p)(hs':∀e p,b≠.Starred e p):PI X tg (.Call (.Name "range" p) [a,b] [] pos) (upI X.K λenv st k=>ta env st λd st1=>tb env st1 λe st2=>∃i j:Int,d=.int i/\e=.int j/\(-(2^62)<=i/\i<2^62/\-(2^62)<=j/\j<2^62)/\k (k8 i (j-i).toNat) (λ_=>True) st2):=
 PI.imp (bn5 hg hm (ay7 ha hb hs hs') (by rw[g7 hs,g7 hs'];rfl) (by rw[g7 hs'];rfl)) λσ H R q=>by
  obtain⟨env,st,kk,hE,hS,ht,hq⟩:=q;refine⟨env,st,(λds st1=>match ds with|[d,e]=>∃i j:Int,d=.int i/\e=.int j/\(-(2^62)<=i/\i<2^62/\-(2^62)<=j/\j<2^62)/\kk (k8 i (j-i).toNat) (λ_=>True) st1|_=>False),hE,hS,ht,λvs ds H' st' ev is hl rs q1=>?_⟩
  match ds,hl with
  |[d,e],_=>
   obtain⟨v,ws,rfl,i1,i2⟩:=is.inv_cons;obtain⟨w,ws',rfl,i3,i4⟩:=i2.inv_cons;rw[i4.inv_nil];obtain⟨i,j,rfl,rfl,hj,q1⟩:=q1;exact⟨i,j,by rw[i1.int_inv,i3.int_inv],hj,hq _ _ st' H' _ ev rs ax9 q1⟩
def b41{elts:List AQ}{k0:Nat}{tp:Pos}(hg:Gl X "enumerate")(hm:X.mg "enumerate"=AE)(ha:PE X a (up X.K ta))(hs:∀e p,a≠.Starred e p):PI X (.Tuple elts k0 tp) (.Call (.Name "enumerate" p) [a] [] pos)
  (upI X.K λenv st k=>ta env st λd st1=>(∃ds,d=.tup ds/\k (j7 0 ds) (λ_=>True) st1)\/(∃a ds,d=.ref a/\rdS st1 a ds/\k (j7 0 ds) (λst'=>rdS st' a ds) st1)):=by
 have hst:Ai [a] X.env=[(AG,eval a X.env)]:=by rw[g7 hs];rfl
 intro pins s σ H R I q;obtain⟨env,st,kk,hE,hS,ht,hq⟩:=q;have hA:=A3 ha hs;refine Ij (A5 I hg hm L2.bi6 (BB (thn (hA pos pins s σ H (λvs H1=>∃v d st1,vs=[v]/\Ev st H st1 H1/\IsD X.K H1 d v/\RelS X.K st1 H1/\((∃ds,d=.tup ds/\kk (j7 0 ds) (λ_=>True) st1)\/(∃a ds,d=.ref a/\rdS st1 a ds/\kk (j7 0 ds) (λst'=>rdS st' a ds) st1))) I
  ⟨env,st,(λds st1=>match ds with|[d]=>(∃ds,d=.tup ds/\kk (j7 0 ds) (λ_=>True) st1)\/(∃a ds,d=.ref a/\rdS st1 a ds/\kk (j7 0 ds) (λst'=>rdS st' a ds) st1)|_=>False),hE,hS,ht,λvs ds H' st' ev is hl rs q1=>by
   match ds,hl with
   |[d],_=>
    obtain⟨v,ws,rfl,i1,i2⟩:=is.inv_cons;rw[i2.inv_nil];exact⟨v,d,st',rfl,ev,i1,rs,q1⟩⟩) λus s1⟨vs,H1,I1,r1,v,d,st1,e1,ev,is,rs,q1⟩=>?_) hst rfl))
 subst e1;obtain⟨u,rfl,ru⟩:=r1.one
 rcases q1 with⟨ds,rfl,q1⟩|⟨q,ds,rfl,hr,q1⟩
 ·obtain⟨l,vs,rfl,hsq,r⟩:=is.tup_inv;cases ru;exact bt5 I1 hsq (hq _ _ st1 H1 _ ev rs (aq2 λst H tk rs _=>⟨vs,tk.1.1 _ _ hsq,r.mono tk⟩) q1)
 ·rw[is.ref_inv]at ru;cases ru;obtain⟨vs,hsq,r⟩:=rs.rd hr;exact bw2 I1 hsq (hq _ _ st1 H1 _ ev rs (aq2 λst H tk rs hc=>rs.rd hc) q1)
def b88(hg:Gl X "reversed")(hm:X.mg "reversed"=AE)(ha:PE X a (up X.K ta))(hs:∀e p,a≠.Starred e p):PI X tg (.Call (.Name "reversed" p) [a] [] pos) (upI X.K λenv st k=>ta env st λd st1=>∃a ds,d=.ref a/\rdS st1 a ds/\k ds.reverse (λst'=>rdS st' a ds) st1):=
 PI.imp (b14 hg hm (A3 ha hs) (by rw[g7 hs];rfl)) λσ H R q=>by
  obtain⟨env,st,kk,hE,hS,ht,hq⟩:=q;refine⟨env,st,(λds st1=>match ds with|[d]=>∃a ds,d=.ref a/\rdS st1 a ds/\kk ds.reverse (λst'=>rdS st' a ds) st1|_=>False),hE,hS,ht,λvs ds H' st' ev is hl rs q1=>?_⟩
  match ds,hl with
  |[d],_=>
   obtain⟨v,ws,rfl,i1,i2⟩:=is.inv_cons;rw[i2.inv_nil];obtain⟨q,ds,rfl,hr,q1⟩:=q1;obtain⟨vs,hsq,r⟩:=rs.rd hr;exact⟨q,vs,by rw[i1.ref_inv],hsq,by rw[<-r.len];exact hq _ _ st' H' _ ev rs cc6 q1⟩
end
end Ek
namespace PySem
open PyProof.Rows
namespace F
end F
end PySem
namespace L2
open PySem PySem.Spec PyProof.Rows
end L2
namespace Ek
open PySem PySem.Spec PyProof.Rows L2
variable [Tbs]
end Ek
namespace PySem
open PyProof.Rows
end PySem
namespace L2
open PySem PySem.Spec PyProof.Rows
end L2
namespace Ek
open PySem PySem.Spec PyProof.Rows L2
variable [Tbs]
end Ek
namespace PySem
end PySem
namespace L2
open PySem PySem.Spec PyProof.Rows
end L2
namespace Ek
open PySem PySem.Spec PyProof.Rows L2
variable [Tbs]
end Ek
namespace Ek
open PySem PySem.Spec PyProof.Rows L2
variable [Tbs]
end Ek
namespace PySem
variable{xs:Array AF}
def bl9:Gd (.type "list_reverseiterator") "__len__"=pure AE:=by rw[JW,Hg];kernel_rfl
def bu6:Gd (.type "list_reverseiterator") "__length_hint__"=pure (AA (.builtin "list_reverseiterator.__length_hint__")):=by rw[JW,Hg];kernel_rfl
def br9:isSubtype (.type "list_reverseiterator") (.type "list_reverseiterator")=pure AC:=by rw[isSubtype_type];kernel_rfl
def bp6:splitId "list_reverseiterator.__length_hint__"=AA ("list_reverseiterator","__length_hint__"):=by decide+kernel
section
variable {prog:Ag} {w:BA} {A:BO} {E:AF->AK->Prop} {s:AK}
def b33{z l S:AM}{res:AF}{R:Ga->AK->Prop}(hh:A.handled=AE)(zl:l≠z)(sz:S≠z)(sl:S≠l)(hz:xs.size<=1000000):
  ∀(m:Nat)(s:AK)(acc:Array AF)(c:Nat),m<=xs.size->s.heap.IsRevIter z l ((m:Int)-1)->s.heap.IsList l xs ->
  s.heap.get? S=AA {cls:=.type "list",dict:=AE,data:=.seq acc c,slots:=#[]}->acc.toList=(xs.toList.drop m).reverse ->
  (∀h' acc' c',(∀b o,b∉[S,z]->s.heap.get? b=AA o->h'.get? b=AA o)->h'.get? S=AA {cls:=.type "list",dict:=AE,data:=.seq acc' c',slots:=#[]}->acc'.toList=xs.toList.reverse->R (.ok (.ret res)) {s with heap:=h'}) ->
  DN (model prog w) A (.builtin "list.extend.loop" ⟨[.ref S,.ref z,res],[]⟩) R s:=by
 intro m
 induction m with
 |zero=>
  intro s acc c hm Z L hS ha hR;refine JX Hh ?_;rw[GT DZ _];show AU _ A.in1 (IS (.ref z)>>=_) _ _ s;refine AH (Hw hh Z λh' up=>AN (hR h' acc c (λb o hb e=>?_) (up S _ sz hS) (by rw[ha];rfl)));simp only[AT,Ac,or_false,not_or]at hb;exact up b o hb.2 e
 |succ m ih=>
  intro s acc c hm Z L hS ha hR;have e1:((m+1:Nat):Int)-1=(m:Int):=by lia
  rw[e1]at Z;have hx:xs[m]?=AA (xs[m]'⋯):=Array.getElem?_eq_getElem ⋯;refine JX Hh ?_;rw[GT DZ _];show AU _ A.in1 (IS (.ref z)>>=_) _ _ s;refine AH (Hf Z L hx λh1 Z1 up1=>?_);have hS1:h1.get? S=AA {cls:=.type "list",dict:=AE,data:=.seq acc c,slots:=#[]}:=(up1.2 S sz).trans hS;show AU _ A.in1 (updateSeq S (·.push xs[m])>>=_) _ _ _;refine AH ?_;have asz:acc.size=xs.size-(m+1):=by
   have:=congrArg Ap ha;simpa using this
  have oth:∀b o,b≠S->h1.get? b=AA o->(h1.update S (Cm (·.push xs[m]))).get? b=AA o:=λb o hb e=>(Cp _ _ (BK hb)).trans e;refine GJ hS1 rfl (AN ⟨plainId_quiet DZ _,ih {s with heap:=_} (acc.push xs[m]) _ ⋯ ?_ ?_ (EG _ hS1 rfl) ?_ λh2 acc' c' up2 hS2 ha2=>?_⟩)
   (by rw[asz,Eh];lia) (by show(acc.push _).size<=sizeLine+1;rw[Array.size_push,asz,Eh];lia)
  ·exact Z1.at λo e=>oth _ o (BK sz) e
  ·exact(L.at λo e=>(up1.2 l zl).trans e).at λo e=>oth _ o (BK sl) e
  ·rw[Array.toList_push,ha,De (i:=m) (by rw[DJ];lia),CO];simp
  ·refine hR h2 acc' c' (λb o hb e=>up2 b o hb ?_) hS2 ha2;simp only[AT,Ac,or_false,not_or]at hb;exact oth b o hb.1 ((up1.2 b hb.2).trans e)
def bp8{z l S:AM}{res:AF}{R:Ga->AK->Prop}{c0:Nat}(hh:A.handled=AE)(zl:l≠z)(sz:S≠z)(sl:S≠l)(hz:xs.size<=1000000)
  (Z:s.heap.IsRevIter z l ((xs.size:Int)-1)) (L:s.heap.IsList l xs) (hS:s.heap.get? S=AA {cls:=.type "list",data:=.seq #[] c0})
  (hR:∀h' acc' c',(∀b o,b∉[S,z]->s.heap.get? b=AA o->h'.get? b=AA o)->h'.get? S=AA {cls:=.type "list",dict:=AE,data:=.seq acc' c',slots:=#[]}->acc'.toList=xs.toList.reverse->R (.ok (.ret res)) {s with heap:=h'}) :
  AU (model prog w) A.in1 (Bz (.ref S) (.ref z) res)
   (λfin s'=>match fin with|.done f=>R (.ok f) s'|.again c'=>c'.quiet=AC/\DN (model prog w) A c' R s') (λe s'=>R (.error e) s') s:=by
 unfold Bz;refine AH (HM Z.typeIs ?_);have h1:Ew (.ref S) (.ref z)=AG:=by simp[Ew,sz]
 have h2:(CP "list_reverseiterator"==CP "list")=AG:=by decide
 have h3:(CP "list_reverseiterator"==CP "tuple")=AG:=by decide
 simp only[h1,h2,h3,BF,Ae,if_false];refine AH (En Z (AH (CV ?_)));unfold JY;refine AH (Bu Z.typeIs bl9 ?_);show AU _ A.in1 (specialOf (An z) (AD "__length_hint__")>>=_) _ _ _;refine AH (Bu Z.typeIs bu6 ?_);simp only[bp6];refine AH (JB (T:="list_reverseiterator") (b:=AC) Z.typeIs br9 ?_);rw[if_neg ∅];rw[if_pos (by decide+kernel)];rw[if_neg ∅];refine AN ?_;rw[if_neg (by decide+kernel)];exact AN ⟨plainId_quiet DZ _,b33 hh zl sz sl hz xs.size s #[] c0 (Af _) Z L hS ∎ hR⟩
def bj1{z l:AM}{Q:AF->AK->Prop}(hh:A.handled=AE)(zl:l≠z)(hzl:z<s.heap.objs.size)(hll:l<s.heap.objs.size)(hz:xs.size<=1000000)
  (Z:s.heap.IsRevIter z l ((xs.size:Int)-1)) (L:s.heap.IsList l xs)
  (hQ:∀h' acc' c',(∀b o,b≠z->s.heap.get? b=AA o->h'.get? b=AA o)->h'.get? s.heap.objs.size=AA {cls:=.type "list",dict:=AE,data:=.seq acc' c',slots:=#[]}->acc'.toList=xs.toList.reverse->Q (.ref s.heap.objs.size) {s with heap:=h'}) :
  AU (model prog w) A (call (.type "list") [.ref z]) Q E s:=by
 refine callType_codes (Q₁:=λobj u=>obj=.ref s.heap.objs.size/\u={s with heap:=s.heap.push {cls:=.type "list",data:=.seq #[]}}) F.called_list (F.typeCall_list_1 _) F.entry_list_init (code_list_new _ ⟨rfl,rfl⟩) λobj u hu=>?_;obtain⟨rfl,rfl⟩:=hu;have hS:(s.heap.push {cls:=.type "list",data:=.seq #[]}).get? s.heap.objs.size=AA {cls:=.type "list",data:=.seq #[]}:=Au _ rfl;refine⟨⟨_,hS,rfl⟩,F.args_list_init_2 _ _,?_⟩;show AU _ A.in1.in1 (do let old <-FO (.ref s.heap.objs.size);JZ (.ref s.heap.objs.size) (λ_=>#[]);letGo old.toList.reverse;Bz (.ref s.heap.objs.size) (.ref z) .none) _ _ _;refine AH ?_;unfold FO;refine AH (Cd hS rfl (AN ?_));show AU _ A.in1.in1 (updateSeq s.heap.objs.size (λ_=>#[])>>=λ_=>letGo (#[]:Array AF).toList.reverse>>=λ_=>Bz (.ref s.heap.objs.size) (.ref z) .none) _ _ _;refine AH (GJ hS rfl ?_);have k2:=EG (Cm (λ_=>(#[]:Array AF))) hS rfl;have oth:∀b o,s.heap.get? b=AA o->((s.heap.push {cls:=.type "list",data:=.seq #[]}).update s.heap.objs.size (Cm (λ_=>(#[]:Array AF)))).get? b=AA o:=λb o e=>(Cp _ _ (GY (Av e))).trans (AV _ e);refine AH (wpAny_letGo ?_);refine bp8 (A:=A.in1) hh zl (GY hzl) (GY hll) hz (Z.at λo e=>oth _ o e) (L.at λo e=>oth _ o e) k2 λh' acc' c' up hS' ha'=>?_;refine⟨rfl,hQ h' acc' c' (λb o hb e=>up b o (λv=>?_) (oth b o e)) hS' ha'⟩;simp only[AT,Ac,or_false]at v
 rcases v with v|v
 ·exact absurd (Av e) (by rw[v];exact CU _)
 ·exact hb v
end
end PySem
namespace Ek
open PySem PySem.Spec PyProof.Rows L2
variable [Tbs]
section
variable {X:Cx} {a:AQ} {ta:DT} {pos p p2 pos2:Pos}
def cc1(hc:X.calm=AC)(hg:Gl X "list")(hm:X.mg "list"=AE)(hg2:Gl X "reversed")(hm2:X.mg "reversed"=AE)(ha:PE X a (up X.K ta))(hs:∀e p,a≠.Starred e p):
  PE X (.Call (.Name "list" p) [.Call (.Name "reversed" p2) [a] [] pos2] [] pos) (up X.K λenv st Q=>ta env st λx st1=>P7 x st1 Q):=by
 have hst:Ai [a] X.env=[(AG,eval a X.env)]:=by rw[g7 hs];rfl
 intro pins s σ H Q I q;obtain⟨env,st,Qd,hE,hS,ht,hq⟩:=q;refine Ij (A5 I hg hm aj4 (BB (Q:=_) (DU ?_) rfl rfl));refine Ij (A5 I hg2 hm2 L2.ah3 (BB (thn (A3 ha hs pos2 pins s σ H (λvs H1=>∃q ds st1,vs=[.ref q]/\Ev st H st1 H1/\rdS st1 q ds/\RelS X.K st1 H1/\ds.length<=1000000/\∀p,st1 p=AE->Qd (.ref p) (b0 st1 p (.lst ds.reverse))) I
  ⟨env,st,(λds st1=>match ds with|[d]=>P7 d st1 Qd|_=>False),hE,hS,ht,λvs ds H' st' ev is hl rs q1=>?_⟩) λus s1 hh=>?_) hst rfl))
 ·match ds,hl with
  |[d],_=>
   obtain⟨v,ws,rfl,i1,i2⟩:=is.inv_cons;rw[i2.inv_nil];have q2:P7 d st' Qd:=q1;cases d<;>first|exact AX q2|skip
   obtain⟨ds,h1,h2,h3⟩:=q2;exact⟨_,ds,st',by rw[i1.ref_inv],ev,h1,rs,h2,h3⟩
 obtain⟨vs,H1,I1,r1,l,ds,st1,e1,ev,hr,rs,hle,q1⟩:=hh;subst e1;obtain⟨u,rfl,ru⟩:=r1.one;cases ru;obtain⟨vs,hsq,r⟩:=rs.rd hr;obtain⟨its,rv,pl,hz⟩:=I1.list hsq;have hlen:its.length=ds.length:=by rw[<-rv.length,r.len]
 have hL:=pl.isList;have hlt:l<s1.heap.objs.size:=let⟨_,e,_⟩:=hL;Av e;refine Ia hL ?_;refine Ej ?_;refine bj1 (s:={s1 with heap:=s1.heap.push (HV l ((its.toArray.size:Int)-1))}) (z:=s1.heap.objs.size) (I1.ok.hd hc) (BZ hlt) (by show _<(s1.heap.push _).objs.size;rw[Dh];exact EJ _) (by show _<(s1.heap.push _).objs.size;rw[Dh];exact FB hlt) (by rw[Ab,hlen];exact hle)
  ⟨_,Au _ rfl,rfl,rfl⟩ (hL.at λo e=>AV _ e) λh' acc' c' up hS' ha'=>?_
 have hsz:(s1.heap.push (HV l ((its.toArray.size:Int)-1))).objs.size=s1.heap.objs.size+1:=Dh _ _;have hn:s1.heap.objs.size<=(s1.heap.push (HV l ((its.toArray.size:Int)-1))).objs.size:=by rw[hsz];exact GN _
 have hacc:acc'=its.reverse.toArray:=by
  have:acc'.toList=its.reverse:=by simpa using ha'
  rw[<-this]
 refine⟨.ref _,_,I1.laid (t':=s1.toks) (a:=(s1.heap.push (HV l ((its.toArray.size:Int)-1))).objs.size) (o:=.lst vs.reverse) (λb u e=>up b u (BZ (Av e)) (AV _ e)) hn ⟨by rw[ER];exact hz,its.reverse,c',rv.reverse,by rw[<-hacc];exact hS'⟩,rfl,?_⟩;exact(hq.after ev).newL rs (ds:=ds.reverse) (vs:=vs.reverse) r.rev q1 _ (I1.hok.fresh hn)
end
end Ek
namespace Ek
open PySem PySem.Spec PyProof.Rows L2
variable [Tbs]
variable{x:List BQ}{H:Hp}{pos':Pos}
section
variable {X:Cx} {a b c:AQ} {ta tb tc:DT} {pos p:Pos} {K:AR}
abbrev upG(K:AR)(t:Tg):TG:=λv σ H Q=>∃d env k,IsD K H d v/\RelE K H env σ/\B0 t d env k/\∀env' σ',RelE K H env' σ'->k env'->Q σ' H
def _root_.L2.PG.imp{X:Cx}{x:AQ}{t t':TG}(h:PG X x t)(i:∀v σ H Q,t' v σ H Q->t v σ H Q):PG X x t':=λpins s σ H v u Q I r q=>h pins s σ H v u Q I r (i v σ H Q q)
def by7{i:Nat}{x:Str}(hN:X.N.Nodup)(hi:X.N[i]?=AA x)(hx:Loc X.env.scope x)(hf:X.fn x=AC\/X.env.scope.names.lookup x=AA .local):PG X (.Name x pos) (upG X.K (.n i)):=
 PG.imp (ar5 hN hi hx hf) λv σ H Q q=>by
  obtain⟨d,env,k,is,hE,ht,hq⟩:=q;exact hq _ _ (hE.set is i) ht
abbrev P9:List Nat->TGs
 |[]=>be8
 |i::is=>ba1 (ae7 i) (P9 is)
theorem a45{K:AR}{Q:L2.St->Hp->Prop}{k:d8->Prop}:∀(is:List Nat)(ds:List D)(vs:List V)(env:d8)(σ:L2.St),ds.length=is.length->IsDs K H ds vs->RelE K H env σ->k (E9 env is ds)->(∀env' σ',RelE K H env' σ'->k env'->Q σ' H)->P9 is vs σ H Q
 |[],[],vs,env,σ,_,r,hE,ht,hq=>⟨r.inv_nil,hq _ _ hE ht⟩
 |i::is,d::ds,vs,env,σ,hl,r,hE,ht,hq=>by
  obtain⟨v,ws,rfl,h1,h2⟩:=r.inv_cons;exact⟨v,ws,rfl,a45 is ds ws _ _ (by simpa using hl) h2 (hE.set h1 i) ht hq⟩
 |[],d::ds,vs,env,σ,hl,_,_,_,_=>by simp at hl
 |i::is,[],vs,env,σ,hl,_,_,_,_=>by simp at hl
def ce3{es:List AQ}{k0:Nat}{is:List Nat}(hc:X.calm=AC)(h:PGs X es (P9 is))(hn:(Bn es X.env).length=is.length)(hst:(Bn es X.env).findIdx? (·.1)=AE):PG X (.Tuple es k0 pos) (upG X.K (.tup is)):=
 PG.imp (cb1 hc h hn hst) λv σ H Q q=>by
  obtain⟨d,env,k,i1,hE,⟨ds,rfl,hl,ht⟩,hq⟩:=q;obtain⟨q,vs,rfl,hsq,r⟩:=i1.tup_inv;exact⟨q,vs,rfl,hsq,by rw[<-r.len];exact hl,a45 is ds vs env σ hl r hE ht hq⟩
structure EndsR(K:AR)(st:Sto)(H:Hp)(Fd:DEnds)(F:Ends):Prop where
 nx:∀env σ H' st',Ev st H st' H'->RelE K H' env σ->RelS K st' H'->Fd.nx env st'->F.nx σ H'
 bk:∀env σ H' st',Ev st H st' H'->RelE K H' env σ->RelS K st' H'->Fd.bk env st'->F.bk σ H'
 ct:∀env σ H' st',Ev st H st' H'->RelE K H' env σ->RelS K st' H'->Fd.ct env st'->F.ct σ H'
 rt:l9 K st H Fd.rt F.rt
theorem EndsR.after{st st1:Sto}{H1:Hp}{Fd:DEnds}{F:Ends}(e:EndsR K st H Fd F)(ev:Ev st H st1 H1):EndsR K st1 H1 Fd F:=
 ⟨λenv σ H' st' ev'=>e.nx env σ H' st' (ev.trans ev'),λenv σ H' st' ev'=>e.bk env σ H' st' (ev.trans ev'),λenv σ H' st' ev'=>e.ct env σ H' st' (ev.trans ev'),e.rt.after ev⟩
abbrev upS(K:AR)(t:DS):TS:=λF σ H=>∃env st Fd,RelE K H env σ/\RelS K st H/\t Fd env st/\EndsR K st H Fd F
variable {t u:DS} {s1:BQ} {c8:List BQ}
def b74:PSs X [] (upS X.K λF env st=>F.nx env st):=PSs.imp bx3 λF σ H⟨env,st,Fd,hE,hS,ht,hq⟩=>hq.nx env σ H st Ev.refl hE hS ht
def by8(h1:PS X s1 (upS X.K t))(h2:PSs X c8 (upS X.K u)):PSs X (s1::c8) (upS X.K λF env st=>t {F with nx:=u F} env st):=
 PSs.imp (bs2 h1 h2) λF σ H⟨env,st,Fd,hE,hS,ht,hq⟩=>⟨env,st,{Fd with nx:=u Fd},hE,hS,ht,λenv' σ' H' st' ev hE' hS' q=>⟨env',st',Fd,hE',hS',q,hq.after ev⟩,hq.bk,hq.ct,hq.rt⟩
def ad5{i:Nat}{x:Str}(hN:X.N.Nodup)(hi:X.N[i]?=AA x)(hx:Loc X.env.scope x)(ha:PE X a (up X.K ta))(hs:Cu a (AA (.Name x pos')) pos.line X.env=pure AG)(hf:X.fn x=AC\/X.env.scope.names.lookup x=AA .local):
  PS X (.Assign [.Name x pos'] a pos) (upS X.K λF env st=>ta env st λd st1=>F.nx (env.set i (AA d)) st1):=
 PS.imp (b90 hN hi hx ha hs hf) λF σ H⟨env,st,Fd,hE,hS,ht,hq⟩=>⟨env,st,_,hE,hS,ht,λv d H' st' ev is rs q=>hq.nx _ _ H' st' ev ((hE.mono (ev.tk hS)).set is i) rs q⟩
def cd5{o i v:AQ}{to ti tv:DT}(hv:PE X v (up X.K tv))(ho:PE X o (up X.K to))(hi:PE X i (up X.K ti))
  (hsub:∀w,assign (.Subscript o i pos') X.env w=(do
   let ov <-holding [w] (eval o X.env)
   let iv <-holding [w,ov] (eval i X.env)
   GL pos'
   holding [w,ov,iv] (setItem ov iv w)
   release [w,ov,iv] [])) (hs:FJ [.Subscript o i pos'] v pos.line X.env=pure AG) (hw:swappedStores [.Subscript o i pos'] v X.env=pure AE) :
  PS X (.Assign [.Subscript o i pos'] v pos) (upS X.K λF env st=>tv env st λd st1=>to env st1 λx st2=>ti env st2 λy st3=>∃a j k ds,x=.ref a/\y=.int j/\st3 a=AA (.lst ds)/\ixN ds.length j=AA k/\F.nx env (b0 st3 a (.lst (ds.set k d)))):=
 PS.imp (b71 hv (cb8 ho hi bv2 hsub) hs hw rfl) λF σ H⟨env,st,Fd,hE,hS,ht,hq⟩=>⟨env,st,_,hE,hS,ht,λw d H1 st1 ev1 is1 rs1 q1=>
  ⟨env,st1,_,hE.mono (ev1.tk hS),rs1,q1,λov x H2 st2 ev2 is2 rs2 q2=>⟨env,st2,_,(hE.mono (ev1.tk hS)).mono (ev2.tk rs1),rs2,q2,λiv y H3 st3 ev3 is3 rs3 q3=>by
   obtain⟨q,j,k,ds,rfl,rfl,hr,hk,q3⟩:=q3;obtain⟨vs,hH,r⟩:=rs3.lst hr;have is1':=(is1.mono (ev2.tk rs1)).mono (ev3.tk rs2);refine⟨q,vs,j,k,(is2.mono (ev3.tk rs2)).ref_inv,is3.int_inv,hH,by rw[<-r.len];exact hk,?_⟩;exact hq.nx env σ _ _ (((ev1.trans ev2).trans ev3).trans (Ev.put hr)) ((((hE.mono (ev1.tk hS)).mono (ev2.tk rs1)).mono (ev3.tk rs2)).mono (TK.put hH)) (rs3.putOld hH (r.set is1' k)) q3⟩⟩⟩
def b08{o v:AQ}{to tv:DT}{f:Str}{C:Str->List Str}(hC:∀c Ca,Ay X.K AS c=AA (AA (.ref Ca))->f∈C c->Cls X.K Ca/\y8 X.K Ca f)(hv:PE X v (up X.K tv))(ho:PE X o (up X.K to))(hs:Cu v (AA (.Attribute o f pos')) pos.line X.env=pure AG):
  PS X (.Assign [.Attribute o f pos'] v pos) (upS X.K λF env st=>tv env st λd st1=>to env st1 λx st2=>∃p c fs,x=.ref p/\st2 p=AA (.ins c fs)/\f∈C c/\fs.length<1000/\F.nx env (b0 st2 p (.ins c (F4 f d fs)))):=
 PS.imp (cd6 ho hv hs) λF σ H q=>by
  obtain⟨env,st,Fd,hE,hS,ht,hq⟩:=q;refine⟨env,st,_,hE,hS,ht,λw d H1 st1 ev is rs q1=>?_⟩;refine⟨env,st1,_,hE.mono (ev.tk hS),rs,q1,λy x H2 st2 ev2 is2 rs2 q2=>?_⟩;obtain⟨p,c,fs,rfl,hs2,hf,hl,hn⟩:=q2;obtain⟨Ca,dx,vs,hH,hns,r⟩:=rs2.ins hs2;obtain⟨c1,c2⟩:=hC c Ca hns hf;have is1:=is.mono (ev2.tk rs);have tk:=TK.putI (K:=X.K) (o:=.ins Ca dx (o0 f w vs)) hH;refine⟨p,Ca,dx,vs,is2.ref_inv,hH,c1,c2,by rw[<-r.length];exact hl,?_⟩;refine hq.nx env σ _ _ ((ev.trans ev2).trans (Ev.put hs2)) (((hE.mono (ev.tk hS)).mono (ev2.tk rs)).mono tk) (rs2.putAny (ob:=.ins c (F4 f d fs)) tk ⟨Ca,dx,_,o9,hns,(r.put is1 f).mono tk⟩ (by rw[hH];exact λ_ z=>by cases z)) hn
def cf1(ha:PE X a (up X.K ta))(hs:Cu a AE pos.line X.env=pure AG):PS X (.Expr a pos) (upS X.K λF env st=>ta env st λ_ st1=>F.nx env st1):=
 PS.imp (b29 ha hs) λF σ H⟨env,st,Fd,hE,hS,ht,hq⟩=>⟨env,st,_,hE,hS,ht,λv d H' st' ev is rs q=>hq.nx _ _ H' st' ev (hE.mono (ev.tk hS)) rs q⟩
def b92(ha:PE X a (up X.K ta)):PS X (.Return (AA a) pos) (upS X.K λF env st=>ta env st F.rt):=
 PS.imp (b98 ha) λF σ H⟨env,st,Fd,hE,hS,ht,hq⟩=>⟨env,st,_,hE,hS,ht,hq.rt⟩
def bx9:PS X (.Return AE pos) (upS X.K λF _ st=>F.rt .non st):=PS.imp bz4 λF σ H⟨env,st,Fd,hE,hS,ht,hq⟩=>hq.rt.here .non hS ht
def b16:PS X (.Pass pos) (upS X.K λF env st=>F.nx env st):=PS.imp bz2 λF σ H⟨env,st,Fd,hE,hS,ht,hq⟩=>hq.nx env σ H st Ev.refl hE hS ht
def b32:PS X (.Continue pos) (upS X.K λF env st=>F.ct env st):=PS.imp bk9 λF σ H⟨env,st,Fd,hE,hS,ht,hq⟩=>hq.ct env σ H st Ev.refl hE hS ht
def cj3{tc:DB}{y:List BQ}(hc:PT X c (upB X.K tc))(h1:PSs X x (upS X.K t))(h2:PSs X y (upS X.K u)):PS X (.If c x y pos) (upS X.K λF env st=>tc env st λk st1=>if k=AC then t F env st1 else u F env st1):=
 PS.imp (cf4 hc h1 h2) λF σ H⟨env,st,Fd,hE,hS,ht,hq⟩=>⟨env,st,_,hE,hS,ht,λk H' st' ev rs q=>by
  cases k with
  |true=>exact⟨env,st',Fd,hE.mono (ev.tk hS),rs,q,hq.after ev⟩
  |false=>exact⟨env,st',Fd,hE.mono (ev.tk hS),rs,q,hq.after ev⟩⟩
def bt8{tc:DB}(hp:Fw (model X.prog X.w) X.A X.env X.xe)(hc:PT X c (upB X.K tc))(h1:PSs X x (upS X.K t)):PS X (.While c x [] pos) (upS X.K λF env st=>∃n,v7 tc t F n env st):=
 PS.imp (br2 hp hc h1) λF σ H⟨env,st,Fd,hE,hS,⟨n,ht⟩,hq⟩=>by
  refine⟨λm σ' H'=>∃env' st',RelE X.K H' env' σ'/\RelS X.K st' H'/\Ev st H st' H'/\v7 tc t Fd m env' st',⟨n,env,st,hE,hS,Ev.refl,ht⟩,?_⟩;rintro m σ1 H1 ⟨env1,st1,hE1,hS1,ev1,w1⟩;cases m with
  |zero=>exact w1.elim
  |succ m=>
   refine⟨env1,st1,_,hE1,hS1,w1,λk H2 st2 ev2 rs2 q2=>?_⟩;cases k with
   |false=>
    simp only[Ae,if_false]at q2 ⊢;exact hq.nx env1 σ1 H2 st2 (ev1.trans ev2) (hE1.mono (ev2.tk hS1)) rs2 q2
   |true=>
    simp only[if_true]at q2 ⊢;refine⟨λσ' H'=>∃env' st',RelE X.K H' env' σ'/\RelS X.K st' H'/\Ev st H st' H'/\v7 tc t Fd m env' st',λσ' H' h=>⟨m,EJ _,h⟩,?_⟩;have hq2:=hq.after (ev1.trans ev2);have ev12:=ev1.trans ev2;exact⟨env1,st2,_,hE1.mono (ev2.tk hS1),rs2,q2,λenv' σ' H' st' ev hE' hS' q=>⟨env',st',hE',hS',ev12.trans ev,q⟩,hq2.nx,λenv' σ' H' st' ev hE' hS' q=>⟨env',st',hE',hS',ev12.trans ev,q⟩,hq2.rt⟩
def ca7{tg iter:AQ}{ti:d8->Sto->ItK->Prop}{g:Tg}(hp:Fw (model X.prog X.w) X.A X.env X.xe)(hc:X.calm=AC)(hi:PI X tg iter (upI X.K ti))(hg:PG X tg (upG X.K g))(h1:PSs X x (upS X.K t))(hs:∀v,DD iter X.env v=pure v):
  PS X (.For tg iter x [] pos) (upS X.K λF env st=>ti env st λitems chk st1=>n0 chk g t F items env st1):=
 PS.imp (ce5 hp hc hi hg h1 hs) λF σ H⟨env,st,Fd,hE,hS,ht,hq⟩=>by
  refine⟨env,st,_,hE,hS,ht,λitems chk st1 H1 J ev1 rs1 ok q1=>?_⟩;refine⟨λi m σ' H'=>m=items.length-i/\i<=items.length/\∃env' st',RelE X.K H' env' σ'/\RelS X.K st' H'/\Ev st H st' H'/\TK X.K H1 H'/\n0 chk g t Fd (items.drop i) env' st',⟨items.length,∎,Ar _,env,st1,hE.mono (ev1.tk hS),rs1,ev1,TK.refl,q1⟩,?_⟩;rintro i m σ2 H2 ⟨rfl,hi,env2,st2,hE2,hS2,ev2,tk2,w2⟩
  by_cases hlt:i<items.length
  ·right
   rw[De hlt]at w2;obtain⟨hchk,w2⟩:=w2;refine⟨ok.go i st2 H2 tk2 hS2 hchk hlt,λσ' H'=>i+1<=items.length/\∃env' st',RelE X.K H' env' σ'/\RelS X.K st' H'/\Ev st H st' H'/\TK X.K H1 H'/\n0 chk g t Fd (items.drop (i+1)) env' st',λσ' H' h=>⟨items.length-(i+1),⋯,rfl,h⟩,λv H3 y=>?_⟩;obtain⟨d,hd,is3,ev3,rs3⟩:=ok.yld i st2 H2 v H3 tk2 hS2 hchk hlt y;have ed:d=items[i]:=by rw[AZ hlt]at hd;exact(At hd).symm
   subst ed;refine⟨_,env2,_,is3,hE2.mono (ev3.tk hS2),w2,λenv4 σ4 hE4 q4=>?_⟩;have ev23:=ev2.trans ev3;have hq4:=hq.after ev23;have tk3:TK X.K H1 H3:=tk2.trans (ev3.tk hS2);exact⟨env4,st2,_,hE4,rs3,q4,λenv' σ' H' st' ev hE' hS' q=>⟨hlt,env',st',hE',hS',ev23.trans ev,tk3.trans (ev.tk rs3),q⟩,hq4.nx,λenv' σ' H' st' ev hE' hS' q=>⟨hlt,env',st',hE',hS',ev23.trans ev,tk3.trans (ev.tk rs3),q⟩,hq4.rt⟩
  ·left
   have e:i=items.length:=by lia
   subst e;rw[Hi]at w2;exact⟨ok.stop st2 H2 tk2 hS2 w2.1,hq.nx env2 σ2 H2 st2 ev2 hE2 hS2 w2.2⟩
def bs0{env:d8}{σ:L2.St}{fr:List Nat}{k:Nat}(r:RelE K H env σ):RelE K H (E5 fr k env) (z4 fr k σ):=by
 refine⟨by simp[E5,z4],λi d h=>?_⟩;unfold E5 at h;unfold z4
 by_cases hi:i<fr.length
 ·rw[BH (by simpa using hi),CM]at h ⊢;rw[AZ hi]at h ⊢;simp only[FM,Bi]at h ⊢;cases q:env[fr[i]]? with
  |none=>rw[q]at h;cases h
  |some o=>
   rw[q]at h;have h':o=AA d:=h;subst h';obtain⟨v,hv,is⟩:=r.at' _ d q;exact⟨v,by rw[hv];rfl,is⟩
 ·rw[BU (by simpa using hi),Cr]at h
  split at h<;>cases h
def al9{ti:d8->Sto->ItK->Prop}{g:Tg}{tc:DB}{fr:List Nat}{k:Nat}{σ:L2.St}{Q:VK}
  (h:up K (λenv st Q=>ti env st λitems chk st1=>items.length<=1000000/\r8 chk g tc ta (λacc st'=>∀p,st' p=AE->Q (.ref p) (b0 st' p (.lst acc))) items [] (E5 fr k env) st1) σ H Q) :
  ad9 fr k (upI K ti) (upG K g) (upB K tc) (up K ta) Q σ H:=by
 obtain⟨env,st,Qd,hE,hS,ht,hq⟩:=h;refine⟨env,st,_,hE,hS,ht,λitems chk st1 H1 J ev1 rs1 ok q1 p hp=>?_⟩;obtain⟨hlen,q1⟩:=q1;have hEc:RelE K H1 env σ:=hE.mono (ev1.tk hS);refine⟨λi m σ' H'=>m=items.length-i/\i<=items.length/\∃env' st' acc ys,RelE K H' env' σ'/\RelS K st' H'/\st' p=AE/\H' p=AA (.lst ys)/\IsDs K H' acc ys/\acc.length<=i/\TK K H1 H'/\(∀a o,H a=AA o->st a=AE->a≠p/\(∃o',H' a=AA o'/\TbE o o')/\st' a=AE) /\
  r8 chk g tc ta (λacc st'=>∀p,st' p=AE->Qd (.ref p) (b0 st' p (.lst acc))) (items.drop i) acc env' st',⟨items.length,∎,Ar _,E5 fr k env,st1,[],[],(bs0 hEc).mono (TK.new hp),rs1.new hp,rs1.free hp,o9,.nil,Ar _,TK.new hp,λa o h1 h2=>?_,q1⟩,?_⟩
 ·obtain⟨⟨o',x,t⟩,y⟩:=ev1 a o h1 h2;have ne:a≠p:=o5 x hp;exact⟨ne,⟨o',by rw[e9 ne];exact x,t⟩,y⟩
 rintro i m σ2 H2 ⟨rfl,hi,env2,st2,acc,ys,hE2,hS2,sp2,hp2,ra,hal,tk2,old,w2⟩
 by_cases hlt:i<items.length
 ·right
  rw[De hlt]at w2;obtain⟨hchk,w2⟩:=w2;refine⟨ok.go i st2 H2 tk2 hS2 hchk hlt,λσ' H'=>i+1<=items.length/\∃env' st' acc ys,RelE K H' env' σ'/\RelS K st' H'/\st' p=AE/\H' p=AA (.lst ys)/\IsDs K H' acc ys/\acc.length<=i+1/\TK K H1 H'/\(∀a o,H a=AA o->st a=AE->a≠p/\(∃o',H' a=AA o'/\TbE o o')/\st' a=AE) /\
   r8 chk g tc ta (λacc st'=>∀p,st' p=AE->Qd (.ref p) (b0 st' p (.lst acc))) (items.drop (i+1)) acc env' st',λσ' H' h=>⟨items.length-(i+1),⋯,rfl,h⟩,λv H3 y=>?_⟩
  obtain⟨d,hd,is3,ev3,rs3⟩:=ok.yld i st2 H2 v H3 tk2 hS2 hchk hlt y;have ed:d=items[i]:=by rw[AZ hlt]at hd;exact(At hd).symm
  subst ed;refine⟨_,env2,_,is3,hE2.mono (ev3.tk hS2),w2,λenv4 σ4 hE4 q4=>?_⟩;have old3:∀{H':Hp}{st':Sto},Ev st2 H2 st' H'->∀a o,H a=AA o->st a=AE->a≠p/\(∃o',H' a=AA o'/\TbE o o')/\st' a=AE:=λev a o h1 h2=>by
   obtain⟨x,⟨o1,y,t1⟩,z⟩:=old a o h1 h2;obtain⟨⟨o2,y',t2⟩,z'⟩:=ev a o1 y z;exact⟨x,⟨o2,y',t1.trans t2⟩,z'⟩
  refine⟨env4,st2,_,hE4,rs3,q4,λbb H5 st5 ev5 rs5 q5=>?_⟩;have ev25:Ev st2 H2 st5 H5:=ev3.trans ev5;have tk25:TK K H2 H5:=ev25.tk hS2;obtain⟨hp5,sp5⟩:=ev25.get hp2 sp2 (λ_=>nofun);cases bb with
  |false=>
   simp only[Ae,if_false]at q5 ⊢;exact⟨hlt,env4,st5,acc,ys,hE4.mono (ev5.tk rs3),rs5,sp5,hp5,ra.mono tk25,⋯,tk2.trans tk25,old3 ev25,q5⟩
  |true=>
   simp only[if_true]at q5 ⊢;refine⟨env4,st5,_,hE4.mono (ev5.tk rs3),rs5,q5,λw e H6 st6 ev6 is6 rs6 q6=>?_⟩;have ev26:Ev st2 H2 st6 H6:=ev25.trans ev6;have tk26:TK K H2 H6:=ev26.tk hS2;obtain⟨hp6,sp6⟩:=ev26.get hp2 sp2 (λ_=>nofun);have ra6:=ra.mono tk26;have hsz:ys.length<sizeLine:=by
    rw[<-ra6.len];have:(1000001:Nat)<=sizeLine:=by decide
    lia
   refine⟨ys,hp6,hsz,hlt,env4,st6,acc++[e],ys++[w],(hE4.mono ((ev5.trans ev6).tk rs3)).mono (TK.put hp6),rs6.stay (TK.put hp6) (λa o h1=>e9 λz=>by rw[z,sp6]at h1;cases h1) (T4 (by rw[hp6];exact λ_ z=>by cases z)),sp6,o9,(ra6.append (.cons is6 .nil)).mono (TK.put hp6),by simp;lia,(tk2.trans tk26).trans (TK.put hp6),λa o h1 h2=>?_,q6⟩;obtain⟨x,⟨o',y,t⟩,z⟩:=old3 ev26 a o h1 h2;exact⟨x,⟨o',by rw[e9 x];exact y,t⟩,z⟩
 ·left
  have e:i=items.length:=by lia
  subst e;rw[Hi]at w2;refine⟨ok.stop st2 H2 tk2 hS2 w2.1,hq _ (.ref p) H2 (b0 st2 p (.lst acc)) (λa o h1 h2=>?_) (.ref p) ⟨λa o h1=>?_,hS2.tb⟩ (w2.2 p sp2)⟩
  ·obtain⟨x,y,z⟩:=old a o h1 h2;exact⟨y,by rw[g6 x];exact z⟩
  ·by_cases ha:a=p
   ·subst ha;rw[b7]at h1;cases h1;exact⟨ys,hp2,ra⟩
   ·rw[g6 ha]at h1;exact hS2.ob a o h1
end
end Ek
namespace Ek
open PySem PySem.Spec PyProof.Rows L2
variable [Tbs]
end Ek
namespace HT
open PySem PySem.Spec PyProof.Rows
end HT
namespace L2
open PySem PySem.Spec PyProof.Rows
end L2
namespace Ek
open PySem PySem.Spec PyProof.Rows L2
variable [Tbs]
end Ek
namespace Ek
open PySem PySem.Spec PyProof.Rows L2
variable [Tbs]
section
variable {X:Cx} {a b c:AQ} {ta tb tc:DT} {pos apos p:Pos}
def b76(ha:PE X a (up X.K ta))(hb:PE X b (up X.K tb)):PE X (.BinOp a .Add b pos) (up X.K λenv st Q=>ta env st λx st1=>tb env st1 λy st2=>∃i j,x=.str i/\y=.str j/\i.length+j.length<=sizeLine/\Q (.str (i++j)) st2):=
 PE.imp (C7 bn3 ha hb) λσ H Q q=>up2 (f:=λx y st2 Q=>∃i j,x=.str i/\y=.str j/\i.length+j.length<=sizeLine/\Q (.str (i++j)) st2) q λv w d e H' st' Qd i1 i2 rs ht hq=>by
  obtain⟨i,j,rfl,rfl,hz,ht⟩:=ht;exact⟨i,j,i1.str_inv,i2.str_inv,hz,hq.here (.str _) rs ht⟩
def ca6:SlR X (λx lo hi H Q=>∃w i j,x=.str w/\lo=AA i/\hi=AA j/\w.length<=sizeLine/\Q (.str (DY w (AA i) (AA j))) H):=by
 intro pins s σ H x v vl vu lo hi sl Q I rx hs pl pu h;obtain⟨w,i,j,rfl,rfl,rfl,hz,q⟩:=h;obtain⟨t,rfl⟩:=rx;cases pl with
 |int _ ti=>cases pu with
  |int _ tj=>
   exact⟨"str",_,PySem.F.slot_str_getitem.lookup,FR _ _ _,wpAny_getItem_str_slice (l:=AA (i,ti)) (u:=AA (j,tj)) (st:=AE) hs rfl
    (post_val_or_str ⟨Al (Txt.slice_le w _ _) hz,λt' k=>⟨.str _,H,I.tok _,⟨_,rfl⟩,q⟩⟩)⟩
def b99{lo hi:AQ}{tl th:DT}{p2:Pos}(ha:PE X a (up X.K ta))(hl:PE X lo (up X.K tl))(hh:PE X hi (up X.K th)):
  PE X (.Subscript a (.Slice (AA lo) (AA hi) AE p2) pos) (up X.K λenv st Q=>ta env st λx st1=>tl env st1 λl st2=>∃i,l=.int i/\th env st2 λh st3=>∃j,h=.int j/\∃w,x=.str w/\w.length<=sizeLine/\Q (.str (DY w (AA i) (AA j))) st3):=
 PE.imp (an6 ca6 ha (ab9 hl) (ab9 hh)) λσ H Q q=>by
  obtain⟨env,st,Qd,hE,hS,ht,hq⟩:=q;refine⟨env,st,_,hE,hS,ht,λv d H1 st1 ev1 is1 rs1 q1=>⟨env,st1,λl st2=>∃i,l=AA i/\th env st2 λh st3=>∃j,h=.int j/\∃w,d=.str w/\w.length<=sizeLine/\Qd (.str (DY w (AA i) (AA j))) st3,hE.mono (ev1.tk hS),rs1,?_,λl H2 st2 ev2 rs2 q2=>?_⟩⟩
  ·simpa only[Bi,exists_eq_left']using q1
  ·obtain⟨i,rfl,q2⟩:=q2;refine⟨env,st2,λh st3=>∃j,h=AA j/\∃w,d=.str w/\w.length<=sizeLine/\Qd (.str (DY w (AA i) (AA j))) st3,(hE.mono (ev1.tk hS)).mono (ev2.tk rs1),rs2,?_,λh H3 st3 ev3 rs3 q3=>?_⟩
   ·simpa only[Bi,exists_eq_left']using q2
   ·obtain⟨j,rfl,w,rfl,hz,q3⟩:=q3;exact⟨w,i,j,is1.str_inv,rfl,rfl,hz,(((hq.after ev1).after ev2).after ev3).here (.str _) rs3 q3⟩
def bx1(hg:Gl X "len")(hm:X.mg "len"=AE)(ha:PE X a (up X.K ta))(hs:∀e p,a≠.Starred e p):PE X (.Call (.Name "len" p) [a] [] pos) (up X.K λenv st Q=>ta env st λx st1=>∃w,x=.str w/\w.length<=sizeLine/\Q (.int w.length) st1):=
 U6 (g:=λx st1 Q=>∃w,x=.str w/\w.length<=sizeLine/\Q (.int w.length) st1) bk0 hg hm PySem.boot_len ha hs (λv d H' st' Qd Q is rs ht hq=>by
  obtain⟨w,rfl,hz,ht⟩:=ht;exact⟨w,by rw[is.str_inv],hz,hq.here (.int _) rs ht⟩) ∅ ∅
def bw9:Aw "str"=AA (.type "str"):=by decide+kernel
def bz6(hg:Gl X "str")(hm:X.mg "str"=AE)(ha:PE X a (up X.K ta))(hs:∀e p,a≠.Starred e p):PE X (.Call (.Name "str" p) [a] [] pos) (up X.K λenv st Q=>ta env st λx st1=>∃i:Int,x=.int i/\i.natAbs.log2<1920/\Q (.str (DE i)) st1):=
 P3 (g:=λx st1 Q=>∃i:Int,x=.int i/\i.natAbs.log2<1920/\Q (.str (DE i)) st1) bj2 hg hm bw9 ha hs (λv d H' st' Qd Q is rs ht hq=>by
  obtain⟨i,rfl,hz,ht⟩:=ht;exact⟨i,by rw[is.int_inv],hz,hq.here (.str _) rs ht⟩) ∅ ∅
def bk1:u1 X (.type "int") (λxs H Q=>∃n:Int,xs=[.str (AD (DE n))]/\0<=n/\n<10^10/\Q (.int n) H):=by
 intro pins s σ H xs us Q I r h;obtain⟨n,rfl,h0,h1,q⟩:=h;obtain⟨u,rfl,t,rfl⟩:=A7 r;exact W.KIN.call_num h0 h1 ⟨.int n,H,I.tok _,⟨_,rfl⟩,q⟩
def b05(hg:Gl X "int")(hm:X.mg "int"=AE)(ha:PE X a (up X.K ta))(hs:∀e p,a≠.Starred e p):PE X (.Call (.Name "int" p) [a] [] pos) (up X.K λenv st Q=>ta env st λx st1=>∃n:Int,x=.str (AD (DE n))/\0<=n/\n<10^10/\Q (.int n) st1):=
 P3 (g:=λx st1 Q=>∃n:Int,x=.str (AD (DE n))/\0<=n/\n<10^10/\Q (.int n) st1) bk1 hg hm am5 ha hs (λv d H' st' Qd Q is rs ht hq=>by
  obtain⟨n,rfl,h0,h1,ht⟩:=ht;exact⟨n,by rw[is.str_inv],h0,h1,hq.here (.int _) rs ht⟩) ∅ ∅
def a47(ne:Bool):OpR X (Bb (if ne then Dd else .In)) (λx y H Q=>∃c w,x=.str ⟨#[c]⟩/\y=.str w/\Q (.bl (ne != AB (c∈w.cps.toList))) H):=by
 intro pins s σ H x y v u Q I rx ry h;obtain⟨c,w,rfl,rfl,q⟩:=h;cases ne with
 |false=>exact bq5 pins s σ H _ _ v u Q I rx ry ⟨_,_,rfl,rfl,by rw[Gm];simpa using q⟩
 |true=>exact bj4 pins s σ H _ _ v u Q I rx ry ⟨_,_,rfl,rfl,by rw[Gm];simpa using q⟩
def ca2{ne:Bool}{o:Dc}(e:o=if ne then Dd else .In)(ha:PE X a (up X.K ta))(hb:PE X b (up X.K tb))(hm:∀es k p,b≠.Set es k p):PE X (.Compare a [o] [b] pos) (up X.K λenv st Q=>ta env st λx st1=>tb env st1 λy st2=>M5 ne x y st2 Q):=by
 subst e;exact PE.imp (ar9 (a47 ne) ha hb (S6 _ b hm)) λσ H Q q=>up2 (f:=M5 ne) q λv w d e H' st' Qd i1 i2 rs ht hq=>by
  obtain⟨c,w,rfl,rfl,ht⟩:=ht;exact⟨c,w,i1.str_inv,i2.str_inv,hq.here (.bl _) rs ht⟩
def b52{ne:Bool}{o:Dc}(e:o=if ne then Dd else .In)(ha:PE X a (up X.K ta))(hb:PE X b (up X.K tb))(hm:∀es k p,b≠.Set es k p):
  PT X (.Compare a [o] [b] pos) (upB X.K λenv st Q=>ta env st λx st1=>tb env st1 λy st2=>M5 ne x y st2 λd st'=>∃k,d=.bl k/\Q k st'):=by
 subst e;refine PT.imp (aq1 (a47 ne) ha hb (S6 _ b hm)) λσ H Q q=>?_;obtain⟨env,st,Qd,hE,hS,ht,hq⟩:=q;refine up2 (f:=M5 ne) (Q:=λx H'=>∃k,x=.bl k/\Q k H') ⟨env,st,_,hE,hS,ht,λv d H' st' ev is rs q1=>?_⟩ λv w d e H' st' Qd i1 i2 rs ht hq=>by
  obtain⟨c,w,rfl,rfl,ht⟩:=ht;exact⟨c,w,i1.str_inv,i2.str_inv,hq.here (.bl _) rs ht⟩
 obtain⟨k,rfl,q1⟩:=q1;exact⟨k,is.bl_inv,hq k H' st' ev rs q1⟩
theorem aw9:∀{ts:List Str}{us:List AF},c7 (ts.map V.str) us->∃l:List (Str×Tok),us=strValues l/\l.map (·.1)=ts
 |[],_,.nil=>⟨[],rfl,rfl⟩
 |t::ts,_,.cons ⟨k,e⟩ r=>by
  obtain⟨l,e1,e2⟩:=aw9 r;exact⟨(t,k)::l,by rw[e,e1];rfl,by rw[AY,e2]⟩
theorem aw4{K:AR}{H:Hp}:∀{ts:List Str}{vs:List V},IsDs K H (ts.map D.str) vs->vs=ts.map V.str
 |[],vs,r=>by rw[r.inv_nil];rfl
 |t::ts,vs,r=>by
  obtain⟨v,ws,rfl,i1,i2⟩:=r.inv_cons;rw[i1.str_inv,aw4 i2];rfl
def b47(ha:PE X a (up X.K ta))(hb:PE X b (up X.K tb))(hbase:∀i p p',a≠.Call (.Name i p) [] [] p')(hs:∀e p,b≠.Starred e p)(hline:(apos.endLine==pos.line)=AC):
  PE X (.Call (.Attribute a "join" apos) [b] [] pos) (up X.K λenv st Q=>ta env st λx st1=>∃z,x=.str z/\tb env st1 λy st2=>U4 z y st2 Q):=by
 intro pins s σ H Q I q;obtain⟨env,st,Qd,hE,hS,ht,hq⟩:=q;have m:M1 X a "join" apos b pos:=⟨v5 hbase,by rw[g7 hs];rfl,hline,by rw[g7 hs];rfl⟩;refine Ip m.base m.few m.line PySem.F.plainAttrs_str PySem.F.slot_str_join PySem.F.type_str_join (thn (ha pins s σ H (λv H1=>∃z st1,v=.str z/\Ev st H st1 H1/\RelS X.K st1 H1/\tb env st1 λy st2=>U4 z y st2 Qd) I ⟨env,st,_,hE,hS,ht,λv d H' st' ev is rs q=>?_⟩) λu s1 z45=>?_)
 ·obtain⟨z,rfl,q⟩:=q;exact⟨z,st',is.str_inv,ev,rs,q⟩
 obtain⟨x,H1,I1,rx,z,st1,ex,ev1,rs1,q1⟩:=z45;subst ex;obtain⟨t,rfl⟩:=rx;refine⟨FR _ _ _,(λ_ e=>nomatch e),?_⟩;rw[m.trees];refine method1_meets PySem.F.slot_str_join PySem.F.entry_str_join (thn (hb pins s1 σ H1 (λv H2=>∃p ts st2,v=.ref p/\Ev st1 H1 st2 H2/\RelS X.K st2 H2/\rdS st2 p (ts.map D.str)/\Ib z ts=AC/\Qd (.str (Ic z ts)) st2) I1 ⟨env,st1,_,hE.mono (ev1.tk hS),rs1,q1,λv d H' st' ev is rs q=>?_⟩) λu s2 z46=>?_)
 ·obtain⟨p,ts,rfl,hr,hok,q⟩:=q;exact⟨p,ts,st',is.ref_inv,ev,rs,hr,hok,q⟩
 obtain⟨y,H2,I2,ry,p,ts,st2,ey,ev2,rs2,hr,hok,q2⟩:=z46;subst ey;cases ry;obtain⟨vs,hl,r⟩:=rs2.rd hr;obtain rfl:=aw4 r;obtain⟨its,rv,pl,hz⟩:=I2.list hl;obtain⟨l,rfl,rfl⟩:=aw9 rv;have hok':=hok;unfold Ib at hok';rw[EK]at hok';exact⟨FR _ _ _,PySem.F.args_str_join_2 _ _,_,meets_str_join_list z t p l hok',pl.isList,post_join l ⟨joinFit_length hok',λt' k=>⟨.str _,H2,I2.tok _,⟨_,rfl⟩,(hq.after (ev1.trans ev2)).here (.str _) rs2 q2⟩⟩⟩
def b53(hu:X.A.units+200<CI)(ha:PE X a (up X.K ta))(hb:PE X b (up X.K tb))(hc:PE X c (up X.K tc))(hbase:∀i p p',a≠.Call (.Name i p) [] [] p')(hs:∀e p,b≠.Starred e p)(hs2:∀e p,c≠.Starred e p)(hline:(apos.endLine==pos.line)=AC):
  PE X (.Call (.Attribute a "get" apos) [b,c] [] pos) (up X.K λenv st Q=>ta env st λx st1=>ah1 x st1/\tb env st1 λy st2=>tc env st2 λz st3=>ag7 x y z st3 Q):=
 PE.imp (bu7 ⋯ ha hb hc ⟨v5 hbase,by rw[g7 hs,g7 hs2];rfl,hline,by rw[g7 hs,g7 hs2];rfl⟩) λσ H Q q=>by
  obtain⟨env,st,Qd,hE,hS,ht,hq⟩:=q;refine⟨env,st,_,hE,hS,ht,λx d H1 st1 ev is rs q1=>?_⟩;obtain⟨hd,q1⟩:=q1;cases d<;>first|exact hd.elim|skip
  rename_i p;obtain⟨kvs,hp⟩:=hd;obtain⟨vs,hH,r⟩:=rs.dct hp;refine⟨p,is.ref_inv,.inl ⟨vs,.inl hH⟩,env,st1,_,hE.mono (ev.tk hS),rs,q1,λy e H2 st2 ev2 is2 rs2 q2=>⟨env,st2,_,(hE.mono (ev.tk hS)).mono (ev2.tk rs),rs2,q2,λz f H3 st3 ev3 is3 rs3 q3=>?_⟩⟩;cases e<;>first|exact q3.elim|skip
  rename_i w;obtain⟨kvs2,hp2,q3⟩:=q3;obtain⟨vs2,hH2,r2⟩:=rs3.dct hp2;refine⟨j9 vs2 (.inr w),by rw[is2.str_inv];exact t9.k (k:=.inr w) hH2,?_⟩
  rcases r2.look (.inr w)with⟨l1,l2⟩|⟨d,v,l1,l2,is4⟩
  ·rw[l2];rw[l1]at q3;exact hq _ _ _ st3 ((ev.trans ev2).trans ev3) is3 rs3 q3
  ·rw[l2];rw[l1]at q3;exact hq _ _ _ st3 ((ev.trans ev2).trans ev3) is4 rs3 q3
structure IscOk(K:AR)(c:Str)(Ca:AM):Prop where
 at_:Ay K AS c=AA (AA (.ref Ca))
 cl:Cls K Ca
 ha:BS K (.ref Ca) "__class__"=AA (AA (.builtin "object.__class__"))
 hn:Fq K (.builtin "object.__class__") "__get__"=AA (AA (.builtin "getset_descriptor.__get__"))
 htk:Gj K (.builtin "object.__class__")=AA AC
 hm:IG K Ca (.type "object")=AA AC
 no:CB K (.type "tuple") (.ref Ca)=AA AG
 yes:CB K (.ref Ca) (.ref Ca)=AA AC
def b81{p2:Pos}{k:Str}{Ca:AM}(K:IscOk X.K k Ca)(hg:Gl X "isinstance")(hm:X.mg "isinstance"=AE)(hg2:Gl X k)(hm2:X.mg k=AA (.ref Ca))(hdb:(k==("__debug__":Str))=AG)(ha:PE X a (up X.K ta))(hs:∀e p,a≠.Starred e p):
  PE X (.Call (.Name "isinstance" p) [a,.Name k p2] [] pos) (up X.K λenv st Q=>ta env st λx st1=>ag8 k x st1 Q):=by
 intro pins s σ H Q I q;obtain⟨env,st,Qd,hE,hS,ht,hq⟩:=q;have arg:PA X [a,.Name k p2] (P6 (up X.K ta) (P6 (tC (.ref Ca)) V2)):=N8 ha (N8 (ac7 (v:=.ref Ca) hg2 hm2 rfl hdb) ad7 rfl) (g7 hs);refine S1 (r:=λvs H Q=>(∃x ty b,vs=[x,.ref Ca]/\TyOf X.K H x ty/\CB X.K ty (.ref Ca)=AA b/\Q (.bl b) H)\/∃q' xs,vs=[.ref q',.ref Ca]/\SqT X.K H q' xs/\Q (.bl AG) H) ?_ hg hm ah8 arg ∅ ∅ (g7 hs) rfl pins s σ H Q I ?_
 ·intro pins s σ H vs us Q I r h
  rcases h with⟨x,ty,b,rfl,h1,h2,q⟩|⟨q',xs,rfl,h1,q⟩
  ·obtain⟨u,v,rfl,ru,rv⟩:=r.two;cases rv;exact al4 I ru h1 h2 λtk=>⟨.bl b,H,I.tok _,rfl,q⟩
  ·obtain⟨u,v,rfl,ru,rv⟩:=r.two;cases rv;cases ru;obtain⟨its,_,⟨o,e1,e2,_⟩,_⟩:=I.tupleD h1;exact CC Gp I.kIn ⟨o,e1,e2⟩ K.no (λz=>nomatch z) λtk=>⟨.bl AG,H,I.tok _,rfl,q⟩
 ·refine⟨env,st,_,hE,hS,ht,λv d H' st' ev is rs q1=>?_⟩;cases d<;>first|exact q1.elim|skip
  ·obtain⟨a,vs,rfl,sq,_⟩:=is.tup_inv;exact .inr ⟨a,vs,rfl,sq,(hq.after ev).here (.bl _) rs q1⟩
  ·obtain⟨fs,hs,q1⟩:=q1;obtain⟨Cb,dx,vs,hH,hn,r⟩:=rs.ins hs;cases K.at_.symm.trans hn;exact .inl ⟨v,.ref Ca,AC,rfl,by rw[is.ref_inv];exact .ins hH K.cl K.ha K.hn K.htk K.hm,K.yes,(hq.after ev).here (.bl _) rs q1⟩
def _root_.Ek.TabV.nin{prog:Ag}{w:BA}{A:BO}{E:AF->AK->Prop}{s:AK}{a:AM}{T:List (Str×AF)}{k:Str}{tk:Tok}{Q:AF->AK->Prop}(t:TabV s.heap a T)
  (h:Q (.bool (!(Bh k T).isSome)) {s with toks:=s.toks+1}):AU (model prog w) A (Bb .NotIn (.str k tk) (.ref a)) Q E s:=by
 show AU _ _ (do return .bool (!(<-contains (.ref a) (.str k tk)))) Q E s;refine AH ?_;unfold contains
 try with_reducible refine CV ?_
 refine AH (Bu t.typeIs FS.lookup ?_);show AU _ _ (if(AA (ID "dict.__contains__")==AA Bd)=AC then _ else _) _ E s;rw[if_neg (by rw[Iz];exact AL)];refine AH (wpAny_callSpecialUnlessNone?_slot (name:=AD "__contains__") t.typeIs FS
  (CJ FS t.typeIs entry_dict_contains ?_ (args_dict_contains _ _)))
 show AU _ _ (Iv a (.str k tk)>>=_) _ _ s;refine AH (t.get ?_);cases hf:Bh k T with
 |some v=>
  rw[hf]at h;show AU _ _ (ret (.bool AC)) _ _ _;exact AN ⟨_,rfl,Bf (AN h)⟩
 |none=>
  rw[hf]at h;show AU _ _ (Ja a (.str k tk)>>=_) _ _ _;exact AH (wpAny_pendingKey_other t.1 (AN ⟨_,rfl,Bf (AN h)⟩))
def bz7{g:Str}{kvs:List (Str×D)}(T:kvs≠[]->GTab X.prog X.w X.K X.mg g kvs)(hg:Gl X g)(hb:PE X b (up X.K tb))(hdb:(g==("__debug__":Str))=AG):
  PC X .NotIn b (.Name g p) (up X.K λenv st Q=>kvs≠[]/\tb env st λx st1=>∃w,x=.str w/\Q (.bl (!(i7 kvs w).isSome)) st1):=by
 intro pins s σ H Q I q;obtain⟨env,st,Qd,hE,hS,⟨hne,ht⟩,hq⟩:=q;obtain⟨t,vs,hm,hT,hl,hno⟩:=(T hne).ex;have q:up X.K (λenv st Q=>tb env st λx st1=>∃w,x=.str w/\Q (.bl (!(i7 kvs w).isSome)) st1) σ H Q:=⟨env,st,Qd,hE,hS,ht,hq⟩;refine thn (hb pins s σ H (λv H1=>∃w:Str,v=.str w/\Q (.bl (!(i7 kvs w).isSome)) H1) I (up1 (f:=λx st1 Q=>∃w,x=.str w/\Q (.bl (!(i7 kvs w).isSome)) st1) q λv d H' st' Qd is rs ht hq=>?_)) λiv s2 z47=>?_
 ·obtain⟨w,rfl,ht⟩:=ht;exact⟨w,is.str_inv,hq.here (.bl _) rs ht⟩
 ·obtain⟨y,H2,I2,ry,w,ey,q2⟩:=z47;subst ey;obtain⟨tt,rfl⟩:=ry;refine J0 I2 hg hm ?_ hdb;refine(hT _ I2.kIn).nin ?_;cases lk:i7 kvs w with
  |some dv=>
   obtain⟨u,v',h1,_,_⟩:=hl w dv lk;rw[lk]at q2;rw[h1];exact⟨.bl AG,H2,I2.tok _,rfl,q2⟩
  |none=>
   rw[lk]at q2;rw[hno w lk];exact⟨.bl AC,H2,I2.tok _,rfl,q2⟩
end
end Ek
namespace Ek
open PySem PySem.Spec PyProof.Rows L2
variable [Tbs]
section
variable {X:Cx} {a o i v:AQ} {ta to ti tv:DT} {p pos pos':Pos}
def cc7:PE X (.Dict [] [] pos) (up X.K λenv st Q=>∀p,st p=AE->Q (.ref p) (b0 st p (.dct []))):=
 PE.imp bs7 λσ H Q q=>by
  obtain⟨env,st,Qd,hE,hS,ht,hq⟩:=q;exact λp hp=>hq _ (.ref p) _ (b0 st p (.dct [])) (Ev.newS hp) (.ref p) (hS.putNewD hp ⟨rfl,.nil⟩) (ht p (hS.free hp))
end
end Ek
namespace PySem
end PySem
namespace Ek
open PySem PySem.Spec PyProof.Rows L2
variable [Tbs]
end Ek
namespace Ek
open PySem PySem.Spec PyProof.Rows L2
variable [Tbs]
end Ek
namespace Ek
open PySem PySem.Spec PyProof.Rows L2
variable [Tbs]
end Ek
namespace Ek
open PySem PySem.Spec PyProof.Rows L2
variable [Tbs]
abbrev L3(mg:Str->Option AF)(h:Az):Prop:=∃bm ob,mg "__builtins__"=AA (.ref bm)/\bm≠Cq/\h.get? bm=AA ob/\ob.cls=.type "module"/\ob.dict=AA Cq/\ob.data=.plain
structure LamOk(X:Cx):Prop where
 tab:∃c P,X.env.code=.ref c/\W.CodeHd X.base c P/\P∈Tbs.ps
 bm:L3 X.mg X.base
end Ek
namespace Ek
open PySem PySem.Spec PyProof.Rows L2
variable [Tbs]
end Ek
namespace Ek
open PySem PySem.Spec PyProof.Rows L2
variable [Tbs]
variable{w:BA}{fd:Bo}{N:List Str}{H:Hp}
abbrev br0(fb:Hx)(env:Env):Code:=match fb with
 |.stmts b=>.func b env
 |.expr e=>.expr e env
def bw8{prog:Ag}{A:BO}{R:Ga->AK->Prop}{s:AK}{a c:AM}{args:Args}{o oc:Obj}{vs:Array AF}{q:Str}{t:Tok}(hroom:A.depth<Gb)(ho:s.heap.get? a=AA o)(hd':o.data=.func fd)
  (hco:fd.scope.isCoroutine=AG) (hgen:fd.scope.isGenerator=AG) (hc:fd.code=.ref c) (hoc:s.heap.get? c=AA oc) (hdc:oc.data=.fields vs) (hq:vs[1]?=AA (.str q t))
  (h:AU (model prog w) A.in1 (Gc fd args) (λbinds s₁=>
   AU (model prog w) A.in1 (Jo fd.scope fd.globals fd.closure binds (q++".<locals>.") (AA a) fd.code AE fd.builtins)
    (λenv s₂=>s₂.heap.NoLimit/\DN (model prog w) A (br0 fd.body env) R s₂) (λe s'=>R (.error e) s') s₁) (λe s'=>R (.error e) s') s) :
  DN (model prog w) A (.call (.ref a) args) R s:=by
 refine codeAny_of_tree ?_;show AU _ A.in1 (callAny (.ref a) args) _ _ s;simp only[callAny];refine AH (wpAny_load ho ?_);simp only[hd',callFunction,hco,hgen,hc];rw[hc]at h;refine AH (m:=field (.ref c) 1) (Cv hoc hdc hq (AH (AN ?_)));refine AH (BX h (λbinds s₁ h₁=>AH (BX h₁ (λenv s₂ h₂=>AH (wpAny_enterFrame h₂.1 hroom
  ?_)) λ_ _ h'=>h')) λ_ _ h'=>h')
 have h3:=h₂.2;cases hb:fd.body with
 |stmts b=>rw[hb]at h3;exact AN (And.intro rfl h3)
 |expr e=>rw[hb]at h3;exact AN (And.intro rfl h3)
theorem aj7{x:Str}{u:AF}:∀{ps:List Str}{us:List AF}{i:Nat},ps.Nodup->ps[i]?=AA x->us[i]?=AA u->(ps.zip us).reverse.lookup x=AA u
 |[],_,_,_,h,_=>by simp at h
 |_::_,[],_,_,_,h=>by simp at h
 |p::ps,w::us,i,nd,h1,h2=>by
  rw[FN,CO,List.lookup_append];cases i with
  |zero=>
   simp at h1 h2;subst h1 h2;have:(ps.zip us).reverse.lookup p=AE:=by
    rw[List.lookup_eq_none_iff];intro y hy;have:=(FQ (List.mem_reverse.mp hy)).1;have ne:p≠y.1:=λz=>(Bq.mp nd).1 (z▸this);simpa using ne
   rw[this];simp[Ck]
  |succ i=>
   rw[aj7 (i:=i) (Bq.mp nd).2 (by simpa using h1) (by simpa using h2)];rfl
abbrev cxC(P:Ag)(w:BA)(K:AR)(mg:Str->Option AF)(base:Az)(N:List Str)(scope:BN)(cl:List (Str×AM))(q:Str)(f:AM)(cd:AF)(A:BO)(outer:List Env)(s:AK)(H:Hp):Cx where
 prog:=P
 w:=w
 K:=K
 mg:=mg
 base:=base
 A:=A.deeper (newEnv scope s.heap.objs.size AS cl (q++".<locals>.") (AA f) cd AE Cq)
 N:=N
 s₀:=s
 H₀:=H
 env:=newEnv scope s.heap.objs.size AS cl (q++".<locals>.") (AA f) cd AE Cq
 outer:=outer
 stack:=newEnv scope s.heap.objs.size AS cl (q++".<locals>.") (AA f) cd AE Cq::outer
 ex:=[]
 calm:=AC
 fn:=λy=>!(scope.names.any λz=>z.1==y&&z.2==.free)
 pn:=[]
 xe:=λ_ _=>False
def bn2{P:Ag}{K:AR}{mg:Str->Option AF}{base:Az}{ps:List Str}{np:Nat}{b:Ss}{q:Str}{f:AM}{A:BO}{outer:List Env}{s:AK}{h1:Az}{tk:Nat}{us:List AF}{vs us0:List V}
  (cf:CloF fd np N ps b) (cr:CloR H f fd np N us0) (hd:A.handled=AE) (e0:Env0 P w K mg base A outer s H) (hl:vs.length=ps.length) (r:c7 vs us)
  (hns:h1.Ns s.heap.objs.size (λx=>(ps.zip us).reverse.lookup x)) (hk:∀b o,s.heap.get? b=AA o->h1.get? b=AA o) :
  Inv (cxC P w K mg base N fd.scope fd.closure q f fd.code A outer s H) [] (o7 N (vs++us0)) H {s with heap:=h1,toks:=tk}:=by
 have S:=cf.sc;have noA:∀b:AM,b∉(cxC P w K mg base N fd.scope fd.closure q f fd.code A outer s H).ex:=λb z=>absurd (show b∈([]:List AM) from z) ∎;have hpl:ps.length<=N.length:=by have:=congrArg Ap S.pre;rw[El]at this;lia
 have hful:(vs++us0).length<=N.length:=by
  rw[AJ,hl];cases hu:us0.length with
  |zero=>lia
  |succ m=>
   have hm:m<us0.length:=by lia
   obtain⟨x,_,_,_,_,n1,_⟩:=cr.at' m _ (AZ hm);have:=(Ao.mp n1).1;have:=cf.np;lia
 have fnF:∀x c,fd.closure.lookup x=AA c->(!(fd.scope.names.any λz=>z.1==x&&z.2==.free))=AG:=λx c h=>by
  have hm:=cf.fre x c h;have:(fd.scope.names.any λz=>z.1==x&&z.2==.free)=AC:=Hj.mpr ⟨(x,.free),hm,∎⟩;rw[this];rfl
 have celH:∀{c:AM}{o:Obj}{u:HO},H c=AA (.frz o u)->h1.get? c=AA o:=λ{c o u}e=>by
  obtain⟨z,_⟩:=e0.hok c _ e;exact hk _ _ z
 refine⟨⟨e0.mod,S.kind,rfl,rfl,Af _,λy z c h1 h2=>cf.inj y z c h1 h2,λy hy=>?_,λy c h hc=>?_,λ_=>hd,GO e0.frames,.inr ⟨rfl,rfl⟩,λb z=>absurd z (noA b),e0.bs,e0.bsz,λb _ _=>noA b,λb z=>absurd z (noA b),e0.funs,e0.frf⟩,
  rfl,e0.bare,Un.kept hk,⟨_,hns,λi y v h1 h2 h3=>?_⟩,λy c h=>?_,e0.hok.fresh (Af _),λy c h=>?_,λp hp=>absurd (show p ∈ ([]:List (AM × Obj)) from hp) ∎,e0.hok.kept hk,?_⟩
 ·have hy:fd.scope.names.lookup y=AA .cell\/fd.scope.names.lookup y=AA .free:=hy
  rcases hy with hy|hy
  ·exact absurd rfl (S.nocell _ (PySem.mem_of_lookup hy))
  ·exact cf.has y (PySem.mem_of_lookup hy)
 ·have hc':fd.closure.lookup y=AA c:=hc
  rcases h with h|h
  ·have h':(!(fd.scope.names.any λz=>z.1==y&&z.2==.free))=AC:=h;rw[fnF y c hc']at h';cases h'
  ·cases h
 ·have hi:i<(vs++us0).length:=by
   unfold L2.o7 at h2
   by_cases hi:i<(vs++us0).length
   ·exact hi
   ·rw[BU (by simpa using hi)]at h2;rw[Cr]at h2
    split at h2<;>cases h2
  have ha:(vs++us0)[i]?=AA v:=by
   unfold L2.o7 at h2;rw[BH (by simpa using hi),CM]at h2;cases e:(vs++us0)[i]? with
   |none=>rw[e]at h2;cases h2
   |some a=>rw[e]at h2;cases h2;rfl
  have h1':N[i]?=AA y:=h1
  by_cases hv:i<vs.length
  ·rw[BH hv]at ha;obtain⟨u,hu,rv⟩:=r.get ha;have hp:ps[i]?=AA y:=by
    rw[<-S.pre,GE ⋯];exact h1'
   have ndP:ps.Nodup:=by rw[<-S.pre];exact S.nd.sublist (HK _ _)
   exact⟨u,rv,.inl ⟨S.par y (Gk hp),aj7 ndP hp hu⟩⟩
  ·rw[BU ⋯]at ha;obtain⟨x,c,o',u',ww,n1,n2,n3,n4,n5,n6⟩:=cr.at' _ v ha;have e:np+(i-vs.length)=i:=by have:=cf.np;lia
   rw[e,h1']at n1;cases n1;exact⟨ww,n6,.inr ⟨.inr (S.fre _ (cf.fre y c n2) rfl),c,n2,o',celH n3,n5⟩⟩
 ·obtain⟨o',u',ww,n3,n4,n5⟩:=cr.cl y c h;exact⟨AA ww,o',celH n3,n5⟩
 ·obtain⟨o',u',ww,n3,n4,n5⟩:=cr.cl y c h;exact .inr ⟨fnF y c h,o',u',n3⟩
 ·unfold L2.o7;show _=N.length;rw[AJ,Aj,EB];lia
abbrev ce7(X:Cx)(fb:Hx)(Z:Sg)(b:Ss):Prop:=match fb with
 |.stmts l=>PSs X l (upS X.K (d4 Z b))
 |.expr x=>∃e,b=.cons (.ret e) .nil/\PE X x (up X.K (wpE Z e))
def aj2{K:AR}{ds:List D}{vs:List V}(r:IsDs K H ds vs):RelE K H (ds.map AA++Ad (N.length-ds.length) AE) (L2.o7 N vs):=by
 refine⟨by simp[L2.o7,r.len],λi x h=>?_⟩;unfold L2.o7
 by_cases hi:i<ds.length
 ·rw[BH (by simpa using hi),CM,AZ hi]at h;simp only[FM,Bi]at h;obtain⟨v,hv,is⟩:=r.get (AZ hi);refine⟨v,?_,by rw[<-h];exact is⟩;rw[BH (by rw[Aj,<-r.len];exact hi),CM,hv];rfl
 ·rw[BU (by simpa using hi),Cr]at h
  split at h<;>cases h
def bm2{K:AR}{ds cs:List D}{vs us:List V}(r:IsDs K H ds vs)(r2:IsDs K H cs us):RelE K H (E6 N ds cs) (L2.o7 N (vs++us)):=aj2 (r.append r2)
def cc4{P:Ag}{K:AR}{mg:Str->Option AF}{base:Az}{n np:Nat}{fa:AM}{ps:List Str}{b:Ss}{cs:List D}{Z:Sg}(cf:CloF fd np N ps b)
  (hbody:∀(q:Str)(A:BO)(outer:List Env)(s:AK)(H:Hp),Room n (cxC P w K mg base N fd.scope fd.closure q fa fd.code A outer s H).A->ce7 (cxC P w K mg base N fd.scope fd.closure q fa fd.code A outer s H) fd.body Z b) :
  FnOk P w K mg base CX0 (n+1) fa fd ps (O7 K fa fd np N cs λds st Q=>ds.length=np/\d4 Z b {nx:=λ_ st'=>∃s2,Sub s2 st'/\Q .non s2,rt:=λd st'=>∃s2,Sub s2 st'/\Q d s2} (E6 N ds cs) st):=by
 refine⟨λvs H Q E hsp=>?_,λA outer s H args us vs Q E hr e0 hb r hsp=>?_⟩
 ·obtain⟨us0,ds,st,Qd,cr,ics,is,rs,hs,hq⟩:=hsp;rw[<-is.len,hs.1,cf.np]
 ·obtain⟨us0,ds,st,Qd,cr,ics,is,rs,⟨hlen,hs⟩,hq⟩:=hsp;have S:=cf.sc;have hl:vs.length=ps.length:=by rw[<-is.len,hlen,cf.np]
  have lim:s.heap.NoLimit:=e0.mod.nolimit.keeps λb o e=>(e0.bs b o e).1;obtain⟨o,u,f1,f2,f3⟩:=cr.ex;obtain⟨c,oc,uc,vc,q,t,c1,c2,c3,c4,c5⟩:=cr.cd;obtain⟨ho,_⟩:=e0.hok fa _ f1;obtain⟨hoc,_⟩:=e0.hok c _ c2;have hloc:∀y∈ps.zip us,fd.scope.names.lookup y.1=AA .local:=λ⟨x,v⟩hy=>S.par x (FQ hy).1;refine bw8 hr.depth ho f3 S.co S.gen c1 hoc c4 c5 (hb _ _ _ _ ?_);rw[cf.gl,cf.bl];refine Hv S.nocell hloc (λh1 hns hsb=>?_) S.kind;have hk:∀b o,s.heap.get? b=AA o->h1.get? b=AA o:=λb o e=>hsb.extBut b o (BZ (Av e)) (AV _ e);refine⟨lim.keeps hk,?_⟩;have I:=bn2 (q:=q) (tk:=s.toks+(ps.zip us).length) cf cr hr.hd e0 hl r hns hk;have hB:=hbody q A outer s H (hr.deeper _);have hE:RelE K H (E6 N ds cs) (o7 N (vs++us0)):=bm2 is ics;have fin:∀{σ':L2.St}{H':Hp}{v:V}{u:AF}{s':AK},Inv (cxC P w K mg base N fd.scope fd.closure q fa fd.code A outer s H) [] σ' H' s'->c9 v u->Q v H'->CE outer P w H s Q u s':=
   λ{σ' H' v u s'}J rv q=>⟨v,H',J.os,J.bare,J.base,J.hok,rv,q⟩
  have rt:∀v d H' st',Ev st H st' H'->IsD K H' d v->RelS K st' H'->(∃s2,Sub s2 st'/\Qd d s2)->Q v H':=λv d H' st' ev is' rs'⟨s2,sub,q⟩=>hq v d H' s2 (ev.drop sub) is' (rs'.sub sub) q;cases hfb:fd.body with
  |stmts l=>
   rw[hfb]at hB;refine codeAny_func (BX (hB [] _ _ H {nx:=λ_ H'=>Q .non H',rt:=Q} I ⟨E6 N ds cs,st,_,hE,rs,hs,λenv σ H' st' ev hE hS q=>rt _ .non H' st' ev .non hS q,λenv σ H' st' ev hE hS q=>q.elim,λenv σ H' st' ev hE hS q=>q.elim,λv e H' st' ev is' rs' q=>rt v e H' st' ev is' rs' q⟩) (λfl s' hs=>?_) λe s' z=>z.elim);cases fl with
   |ret u=>
    obtain⟨v,σ',H',J,rv,q⟩:=hs;exact fin J rv q
   |next=>
    obtain⟨σ',H',J,q⟩:=hs;exact fin (v:=V.non) (u:=Bd) J rfl q
   |brk=>
    obtain⟨_,_,_,q⟩:=hs;exact AX q
   |cont=>
    obtain⟨_,_,_,q⟩:=hs;exact AX q
  |expr x=>
   rw[hfb]at hB;obtain⟨e,rfl,hB⟩:=hB;refine W.kla_codeExpr (BX (hB [] _ _ H Q I ⟨E6 N ds cs,st,_,hE,rs,(show wpE Z e (E6 N ds cs) st _ from hs),λv d H' st' ev is' rs' q=>rt v d H' st' ev is' rs' q⟩) (λu s' hs=>?_) λe s' z=>z.elim);obtain⟨v,H',J,rv,q⟩:=hs;exact fin J rv q
end Ek
namespace Ek
open PySem PySem.Spec PyProof.Rows L2
variable [Tbs]
variable{x:AQ}{C:AQ->Prop}{g:Str}{sc:BN}
abbrev G9:List Str:=["len","abs","int","sum","list","tuple","isinstance","max","range","enumerate","reversed","str","bool","min","sorted","zip","any","dict"]
abbrev isM(f:Str):Bool:=f.cps.contains 46
structure FOk(X:Cx)(f:Str)(sp:Spec):Prop where
 ex:∃k a fd ps,FnOk X.prog X.w X.K X.mg X.base CX0 k a fd ps (t8 X.K sp)/\Room k X.A/\X.mg f=AA (.ref a)/\CA X.K (.ref a)=AC/\m8 X.K fd ps []/\Ay X.K AS f=AA (AA (.ref a))
abbrev o6:Str:=⟨#[33]⟩
abbrev u0(x:Str):Str:=⟨#[33]++x.cps⟩
abbrev glb(sc:BN)(f:Str):Bool:=sc.names.lookup f==AA .globalImplicit
abbrev W1(sc:BN)(x:Str):Bool:=match sc.names.lookup x with
 |some .local=>AC|some .cell=>AC|some .free=>AC|_=>AG
abbrev D7(sc:BN)(x:Str):Bool:=match sc.names.lookup x with
 |some .local=>AC|some .cell=>AC|_=>AG
abbrev lcl(sc:BN)(x:Str):Bool:=sc.names.lookup x==AA .local
abbrev okN(x:Str):Bool:=!(x==("__debug__":Str))&&!(x==("__classdict__":Str))
abbrev ax4(x:AQ):Bool:=!([22,26,7].contains x.ctorIdx)
abbrev u5(x:AQ):Bool:=!(x.ctorIdx==5)
abbrev L4(x:AQ):Bool:=!([8,9,10].contains x.ctorIdx)
abbrev ag5(scope sc:BN):BN:=
 {scope with names:=scope.names.map λ(n,k)=>if(k==.free&&sc.kind==.function&&sc.names.lookup n==AA .cell)then(n,.cell)else(n,k)}
abbrev O6(sc scope:BN)(N Nc:List Str)(fr:List Nat)(k:Nat):Bool:=
 (scope.kind==.function)&&scope.names.all (λy=>!(y.2==.cell))&&scope.names.all (λy=>!(y.2==.local)||scope.names.lookup y.1==AA .local)&&
 scope.names.all (λy=>!(y.2==.free)||sc.names.lookup y.1==AA .cell||sc.names.lookup y.1==AA .free)&&scope.names.all (λy=>!(y.2==.free)||!(scope.names.any λz=>z.1==y.1&&z.2==.local))&&
 decide Nc.Nodup&&!(Nc.contains o6)&&(Nc.length==fr.length+k)&&((DC fr.length).all λi=>match Nc[i]?,fr[i]? with
  |some x,AA j=>(N[j]?==AA x)&&scope.names.any (λz=>z.1==x&&z.2==.free)|_,_=>AG)
def an{a b:Bool}(h:(a&&b)=AC):a=AC/\b=AC:=Bool.and_eq_true_iff.1 h
def nt{b:Bool}(h:(!b)=AC):b=AG:=by cases b<;>first|rfl|cases h
def dE{p:Prop}[Decidable p]{f:p->Bool}{C:Prop}(h:(if h:p then f h else AG)=AC)(H:∀e,f e=AC->C):C:=by
 by_cases e:p
 ·rw[dif_pos e]at h;exact H e h
 ·rw[dif_neg e]at h;cases h
abbrev xBo(x:AQ)(k:Ju->List AQ->Pos->Bool):Bool:=if h:x.ctorIdx=0 then EL x h k else AG
def bh7{k:Ju->List AQ->Pos->Bool}(h:xBo x k=AC)(H:∀o l p,k o l p=AC->C (.BoolOp o l p)):C x:=
 dE h λe=>EL (motive_1:=λx=>∀e,EL x e k=AC->C x) x e (λo l p _ h=>H o l p h) e
abbrev xBi(x:AQ)(k:AQ->EF->AQ->Pos->Bool):Bool:=if h:x.ctorIdx=2 then EY x h k else AG
def bg3{k:AQ->EF->AQ->Pos->Bool}(h:xBi x k=AC)(H:∀a o b p,k a o b p=AC->C (.BinOp a o b p)):C x:=
 dE h λe=>EY (motive_1:=λx=>∀e,EY x e k=AC->C x) x e (λa o b p _ h=>H a o b p h) e
abbrev xU(x:AQ)(k:UnaryOp->AQ->Pos->Bool):Bool:=if h:x.ctorIdx=3 then EC x h k else AG
def xU_{k:UnaryOp->AQ->Pos->Bool}(h:xU x k=AC)(H:∀o a p,k o a p=AC->C (.UnaryOp o a p)):C x:=
 dE h λe=>EC (motive_1:=λx=>∀e,EC x e k=AC->C x) x e (λo a p _ h=>H o a p h) e
abbrev xIf(x:AQ)(k:AQ->AQ->AQ->Pos->Bool):Bool:=if h:x.ctorIdx=5 then EZ x h k else AG
def cm0{k:AQ->AQ->AQ->Pos->Bool}(h:xIf x k=AC)(H:∀a b c p,k a b c p=AC->C (.IfExp a b c p)):C x:=
 dE h λe=>EZ (motive_1:=λx=>∀e,EZ x e k=AC->C x) x e (λa b c p _ h=>H a b c p h) e
abbrev xD(x:AQ)(k:List (Option AQ)->List AQ->Pos->Bool):Bool:=if h:x.ctorIdx=6 then FD x h k else AG
def xD_{k:List (Option AQ)->List AQ->Pos->Bool}(h:xD x k=AC)(H:∀a b p,k a b p=AC->C (.Dict a b p)):C x:=
 dE h λe=>FD (motive_1:=λx=>∀e,FD x e k=AC->C x) x e (λa b p _ h=>H a b p h) e
abbrev xLC(x:AQ)(k:AQ->List Gw->BN->Pos->Bool):Bool:=if h:x.ctorIdx=8 then Dq x h k else AG
def cl4{k:AQ->List Gw->BN->Pos->Bool}(h:xLC x k=AC)(H:∀a g s p,k a g s p=AC->C (.ListComp a g s p)):C x:=
 dE h λe=>Dq (motive_1:=λx=>∀e,Dq x e k=AC->C x) x e (λa g s p _ h=>H a g s p h) e
abbrev xCm(x:AQ)(k:AQ->List Dc->List AQ->Pos->Bool):Bool:=if h:x.ctorIdx=15 then ED x h k else AG
def cm7{k:AQ->List Dc->List AQ->Pos->Bool}(h:xCm x k=AC)(H:∀a o b p,k a o b p=AC->C (.Compare a o b p)):C x:=
 dE h λe=>ED (motive_1:=λx=>∀e,ED x e k=AC->C x) x e (λa o b p _ h=>H a o b p h) e
abbrev xCa(x:AQ)(k:AQ->List AQ->List Eu->Pos->Bool):Bool:=if h:x.ctorIdx=16 then FE x h k else AG
def cj9{k:AQ->List AQ->List Eu->Pos->Bool}(h:xCa x k=AC)(H:∀f a w p,k f a w p=AC->C (.Call f a w p)):C x:=
 dE h λe=>FE (motive_1:=λx=>∀e,FE x e k=AC->C x) x e (λf a w p _ h=>H f a w p h) e
abbrev xK(x:AQ)(k:Const->Nat->Pos->Bool):Bool:=if h:x.ctorIdx=19 then Dr x h k else AG
def xK_{k:Const->Nat->Pos->Bool}(h:xK x k=AC)(H:∀c n p,k c n p=AC->C (.Constant c n p)):C x:=
 dE h λe=>Dr (motive_1:=λx=>∀e,Dr x e k=AC->C x) x e (λc n p _ h=>H c n p h) e
abbrev xA(x:AQ)(k:AQ->Str->Pos->Bool):Bool:=if h:x.ctorIdx=20 then Dj x h k else AG
def xA_{k:AQ->Str->Pos->Bool}(h:xA x k=AC)(H:∀a f p,k a f p=AC->C (.Attribute a f p)):C x:=
 dE h λe=>Dj (motive_1:=λx=>∀e,Dj x e k=AC->C x) x e (λa f p _ h=>H a f p h) e
abbrev xS(x:AQ)(k:AQ->AQ->Pos->Bool):Bool:=if h:x.ctorIdx=21 then Dk x h k else AG
def xS_{k:AQ->AQ->Pos->Bool}(h:xS x k=AC)(H:∀a b p,k a b p=AC->C (.Subscript a b p)):C x:=
 dE h λe=>Dk (motive_1:=λx=>∀e,Dk x e k=AC->C x) x e (λa b p _ h=>H a b p h) e
abbrev xN(x:AQ)(k:Str->Pos->Bool):Bool:=if h:x.ctorIdx=23 then FF x h k else AG
def xN_{k:Str->Pos->Bool}(h:xN x k=AC)(H:∀y p,k y p=AC->C (.Name y p)):C x:=
 dE h λe=>FF (motive_1:=λx=>∀e,FF x e k=AC->C x) x e (λy p _ h=>H y p h) e
abbrev xL(x:AQ)(k:List AQ->Pos->Bool):Bool:=if h:x.ctorIdx=24 then FG x h k else AG
def xL_{k:List AQ->Pos->Bool}(h:xL x k=AC)(H:∀l p,k l p=AC->C (.List l p)):C x:=
 dE h λe=>FG (motive_1:=λx=>∀e,FG x e k=AC->C x) x e (λl p _ h=>H l p h) e
abbrev xT(x:AQ)(k:List AQ->Nat->Pos->Bool):Bool:=if h:x.ctorIdx=25 then Ea x h k else AG
def xT_{k:List AQ->Nat->Pos->Bool}(h:xT x k=AC)(H:∀l n p,k l n p=AC->C (.Tuple l n p)):C x:=
 dE h λe=>Ea (motive_1:=λx=>∀e,Ea x e k=AC->C x) x e (λl n p _ h=>H l n p h) e
abbrev xSl(x:AQ)(k:Option AQ->Option AQ->Option AQ->Pos->Bool):Bool:=if h:x.ctorIdx=26 then Eb x h k else AG
def be1{k:Option AQ->Option AQ->Option AQ->Pos->Bool}(h:xSl x k=AC)(H:∀l u s p,k l u s p=AC->C (.Slice l u s p)):C x:=
 dE h λe=>Eb (motive_1:=λx=>∀e,Eb x e k=AC->C x) x e (λl u s p _ h=>H l u s p h) e
abbrev l1{α:Type}(l:List α)(k:α->Bool):Bool:=DP (motive:=λ_=>Bool) l AG λp r=>r.isEmpty&&k p
def l1_{α:Type}{l:List α}{k:α->Bool}{C:List α->Prop}(h:l1 l k=AC)(H:∀p,k p=AC->C [p]):C l:=
 match l,h with
 |[p],h=>H p h
abbrev l2{α:Type}(l:List α)(k:α->α->Bool):Bool:=DP (motive:=λ_=>Bool) l AG λp r=>l1 r (k p)
def l2_{α:Type}{l:List α}{k:α->α->Bool}{C:List α->Prop}(h:l2 l k=AC)(H:∀p q,k p q=AC->C [p,q]):C l:=
 match l,h with
 |p::r,h=>l1_ (C:=λr=>C (p::r)) h λq h=>H p q h
abbrev lb(l:List AQ)(k:AQ->AQ->Bool)(m:AQ->List AQ->Bool):Bool:=DP (motive:=λ_=>Bool) l AG λp r=>if r.length=1 then l1 r (k p)else AB (2<=r.length)&&m p r
abbrev xKc(x:AQ)(c:Const):Bool:=xK x λd _ _=>d==c
def M3{c:Const}(h:xKc x c=AC)(H:∀n p,C (.Constant c n p)):C x:=
 xK_ h λd n p e=>(beq_iff_eq.1 e)▸H n p
abbrev D4(x:AQ)(g:Str):Bool:=xN x λy _=>y==g
def F3(h:D4 x g=AC)(H:∀p,C (.Name g p)):C x:=
 xN_ h λy p e=>(beq_iff_eq.1 e)▸H p
abbrev xCl(x:AQ)(k:AQ->List AQ->Pos->Bool):Bool:=xCa x λf a w p=>w.isEmpty&&k f a p
def af7{k:AQ->List AQ->Pos->Bool}(h:xCl x k=AC)(H:∀f a p,k f a p=AC->C (.Call f a [] p)):C x:=
 cj9 h λf a w p h=>by
  cases w with
  |nil=>exact H f a p h
  |cons=>exact(AL h).elim
abbrev C3(x:AQ):Bool:=!(xCl x λf a _=>a.isEmpty&&xN f λ_ _=>AC)
abbrev xG(g:Str)(sc:BN)(x:AQ)(k:List AQ->Bool):Bool:=xCl x λf a _=>D4 f g&&(glb sc g&&k a)
def xG_{k:List AQ->Bool}{C:AQ->Prop}(h:xG g sc x k=AC)(H:∀q a p,glb sc g=AC->k a=AC->C (.Call (.Name g q) a [] p)):C x:=
 af7 h λf a p h=>F3 (C:=λf=>C (.Call f a [] p)) (an h).1 λq=>H q a p (an (an h).2).1 (an (an h).2).2
abbrev xC1(g:Str)(sc:BN)(x:AQ)(k:AQ->Bool):Bool:=xG g sc x λa=>l1 a k
def u3{k:AQ->Bool}{C:AQ->Prop}(h:xC1 g sc x k=AC)(H:∀q a p,glb sc g=AC->k a=AC->C (.Call (.Name g q) [a] [] p)):C x:=
 xG_ h λq a p h1 h=>l1_ (C:=λa=>C (.Call (.Name g q) a [] p)) h λa=>H q a p h1
abbrev xC2(g:Str)(sc:BN)(x:AQ)(k:AQ->AQ->Bool):Bool:=xG g sc x λa=>l2 a k
def W4{k:AQ->AQ->Bool}{C:AQ->Prop}(h:xC2 g sc x k=AC)(H:∀q a b p,glb sc g=AC->k a b=AC->C (.Call (.Name g q) [a,b] [] p)):C x:=
 xG_ h λq a p h1 h=>l2_ (C:=λa=>C (.Call (.Name g q) a [] p)) h λa b=>H q a b p h1
abbrev xM(m:Str)(x:AQ)(k:AQ->List AQ->Bool):Bool:=xCl x λf a cp=>xA f λo n ap=>(n==m)&&((ap.endLine==cp.line)&&k o a)
def xM_{m:Str}{k:AQ->List AQ->Bool}{C:AQ->Prop}(h:xM m x k=AC)(H:∀o ap a cp,(ap.endLine==cp.line)=AC->k o a=AC->C (.Call (.Attribute o m ap) a [] cp)):C x:=
 af7 h λf a cp h=>xA_ (C:=λf=>C (.Call f a [] cp)) h λo n ap h=>(beq_iff_eq.1 (an h).1)▸H o ap a cp (an (an h).2).1 (an (an h).2).2
abbrev xM0(m:Str)(x:AQ)(k:AQ->Bool):Bool:=xM m x λo a=>a.isEmpty&&(C3 o&&k o)
def ck7{m:Str}{k:AQ->Bool}(h:xM0 m x k=AC)(H:∀o ap cp,(ap.endLine==cp.line)=AC->C3 o=AC->k o=AC->C (.Call (.Attribute o m ap) [] [] cp)):C x:=
 xM_ h λo ap a cp e h=>by
  cases a with
  |nil=>exact H o ap cp e (an (an h).2).1 (an (an h).2).2
  |cons=>exact(AL h).elim
abbrev xM1(m:Str)(x:AQ)(k j:AQ->Bool):Bool:=xM m x λo a=>l1 a λp=>C3 o&&(k o&&j p)
def Q1{m:Str}{k j:AQ->Bool}{C:AQ->Prop}(h:xM1 m x k j=AC)(H:∀o ap p cp,(ap.endLine==cp.line)=AC->C3 o=AC->k o=AC->j p=AC->C (.Call (.Attribute o m ap) [p] [] cp)):C x:=
 xM_ h λo ap a cp e h=>l1_ (C:=λa=>C (.Call (.Attribute o m ap) a [] cp)) h λp h=>H o ap p cp e (an h).1 (an (an h).2).1 (an (an h).2).2
abbrev xCo(x:AQ)(k:Dc->AQ->AQ->Bool):Bool:=xCm x λa o b _=>l1 o λo=>l1 b λb=>k o a b
def V6{k:Dc->AQ->AQ->Bool}{C:AQ->Prop}(h:xCo x k=AC)(H:∀o a b p,k o a b=AC->C (.Compare a [o] [b] p)):C x:=
 cm7 h λa o b p h=>l1_ (C:=λo=>C (.Compare a o b p)) h λo h=>l1_ (C:=λb=>C (.Compare a [o] b p)) h λb=>H o a b p
abbrev mTg(ow:Bool)(t:Tg)(sc:BN)(N:List Str)(x:AQ):Bool:=match t with
 |.n i=>xN x λy _=>(N[i]?==AA y)&&D7 sc y&&((ow&&!(N.contains (u0 y)))||lcl sc y)
 |.tup is=>xT x λes _ _=>(is.length==es.length)&&((is.zip es).all λp=>xN p.2 λy _=>(N[p.1]?==AA y)&&D7 sc y&&((ow&&!(N.contains (u0 y)))||lcl sc y))
abbrev mKs:List Str->List (Option AQ)->Bool
 |[],l=>l.isEmpty
 |k::ks,l=>DP (motive:=λ_=>Bool) l AG λx r=>DQ (motive:=λ_=>Bool) x AG λx=>xKc x (.str k)&&mKs ks r
abbrev oE(lo:E)(m:AQ->Bool)(l:Option AQ):Bool:=DQ (motive:=λ_=>Bool) l lo.isNon λl=>!lo.isNon&&m l
abbrev cE(c:E)(m:AQ->Bool)(l:List AQ):Bool:=if l.isEmpty then c.isNon else l1 l λx=>!c.isNon&&(u5 x&&m x)
abbrev ag2(ks:List Str)(vs:Es):Bool:=(ks.length==vs.len)&&(decide ks.Nodup&&(AB (ks.length<=15)&&!ks.isEmpty))
mutual
noncomputable def mE:E->BN->List Str->AQ->Bool
 |.non,_,_,x=>xKc x .none
 |.bl b,_,_,x=>xKc x (.bool b)
 |.int i,_,_,x=>xKc x (.int i)
 |.str y,_,_,x=>xKc x (.str y)
 |.v i,sc,N,x=>xN x λy _=>(N[i]?==AA y)&&(W1 sc y&&okN y)
 |.tup es,sc,N,x=>xT x λxs _ _=>mEs es sc N xs&&AB (es.len<=1000)
 |.lst es,sc,N,x=>xL x λxs _=>mEs es sc N xs&&AB (es.len<=1000)
 |.bin o a b,sc,N,x=>xBi x λp q r _=>(q==o)&&(mE a sc N p&&mE b sc N r)
 |.neg a,sc,N,x=>xU x λo p _=>(o==.USub)&&mE a sc N p
 |.cmp o a b,sc,N,x=>xCo x λq p r=>(q==o)&&(mE a sc N p&&mE b sc N r)
 |.isN a,sc,N,x=>xCo x λq p r=>(q==.Is)&&(xKc r .none&&mE a sc N p)
 |.and a b,sc,N,x=>xBo x λo l ps=>(o==.And)&&lb l (λp q=>mE a sc N p&&mE b sc N q&&u5 p&&u5 q) (λp r=>mE a sc N p&&mE b sc N (.BoolOp .And r ps)&&u5 p)
 |.or a b,sc,N,x=>xBo x λo l ps=>(o==.Or)&&lb l (λp q=>mE a sc N p&&mE b sc N q&&u5 p&&u5 q) (λp r=>mE a sc N p&&mE b sc N (.BoolOp .Or r ps)&&u5 p)
 |.not a,sc,N,x=>xU x λo p _=>(o==.Not)&&(mE a sc N p&&u5 p)
 |.ite c a b,sc,N,x=>xIf x λp q r _=>(mE c sc N p&&u5 p)&&(mE a sc N q&&mE b sc N r)
 |.ix a b,sc,N,x=>xS x λp q _=>mE a sc N p&&mE b sc N q
 |.sl a lo hi,sc,N,x=>xS x λp s _=>mE a sc N p&&xSl s λl h st _=>st.isNone&&(oE lo (mE lo sc N) l&&oE hi (mE hi sc N) h)
 |.dsel ks vs k,sc,N,x=>xS x λd q _=>mE k sc N q&&xD d λkeys xs _=>mKs ks keys&&(mEs vs sc N xs&&ag2 ks vs)
 |.gsel g k,sc,N,x=>xS x λn q _=>D4 n g&&(glb sc g&&(okN g&&mE k sc N q))
 |.len a,sc,N,x=>xC1 "len" sc x (mE a sc N)
 |.abs a,sc,N,x=>xC1 "abs" sc x (mE a sc N)
 |.toInt a,sc,N,x=>xC1 "int" sc x (mE a sc N)
 |.sum a,sc,N,x=>xC1 "sum" sc x (mE a sc N)
 |.list a,sc,N,x=>xC1 "list" sc x (mE a sc N)
 |.tuple a,sc,N,x=>xC1 "tuple" sc x (mE a sc N)
 |.max a b,sc,N,x=>xC2 "max" sc x λp q=>mE a sc N p&&mE b sc N q
 |.call f es,sc,N,x=>xG f sc x λl=>okN f&&(!isM f&&(!l.isEmpty&&mEs es sc N l))
 |.gf f,sc,_,x=>D4 x f&&(glb sc f&&(okN f&&!isM f))
 |.callv i es,sc,N,x=>xCl x λf l _=>xN f (λy _=>(N[i]?==AA y)&&(W1 sc y&&okN y))&&(!l.isEmpty&&mEs es sc N l)
 |.dict ks vs,sc,N,x=>xD x λkeys xs _=>mKs ks keys&&(mEs vs sc N xs&&ag2 ks vs)
 |.isT t a,sc,N,x=>xC2 "isinstance" sc x λp g=>D4 g (AD t)&&(glb sc (AD t)&&(B5.contains t&&mE a sc N p))
 |.fld a f,sc,N,x=>xA x λo g _=>(g==f)&&(C3 o&&mE a sc N o)
 |.meth a m es,sc,N,x=>xM m x λo l=>(C3 o&&mE a sc N o)&&(mEs es sc N l&&AB (l.length<29))
 |.make c es,sc,N,x=>xG c sc x λl=>okN c&&mEs es sc N l
 |.app a b,sc,N,x=>xM1 "append" x (mE a sc N) (mE b sc N)
 |.ext a b,sc,N,x=>xM1 "extend" x (mE a sc N) (mE b sc N)
 |.popAt a b,sc,N,x=>xM1 "pop" x (mE a sc N) (mE b sc N)
 |.pop a,sc,N,x=>xM0 "pop" x (mE a sc N)
 |.cat a b,sc,N,x=>xBi x λp q r _=>(q==.Add)&&(mE a sc N p&&mE b sc N r)
 |.ssl a lo hi,sc,N,x=>xS x λp s _=>mE a sc N p&&xSl s λl h st _=>st.isNone&&(DQ (motive:=λ_=>Bool) l AG (mE lo sc N)&&DQ (motive:=λ_=>Bool) h AG (mE hi sc N))
 |.slen a,sc,N,x=>xC1 "len" sc x (mE a sc N)
 |.tstr a,sc,N,x=>xC1 "str" sc x (mE a sc N)
 |.sint a,sc,N,x=>xC1 "int" sc x (mE a sc N)
 |.sin ne a b,sc,N,x=>xCo x λq p r=>(q==(if ne then Dd else .In))&&(mE a sc N p&&mE b sc N r)
 |.join a b,sc,N,x=>xM1 "join" x (mE a sc N) (mE b sc N)
 |.sgt a k d,sc,N,x=>xM "get" x λo l=>C3 o&&(mE a sc N o&&l2 l λp q=>mE k sc N p&&mE d sc N q)
 |.isC c a,sc,N,x=>xC2 "isinstance" sc x λp g=>D4 g c&&(glb sc c&&(okN c&&mE a sc N p))
 |.gnin a g,sc,N,x=>xCo x λq p r=>(q==.NotIn)&&(D4 r g&&(glb sc g&&(okN g&&mE a sc N p)))
 |.lrl a,sc,N,x=>xC1 "list" sc x λp=>xC1 "reversed" sc p (mE a sc N)
 |.gc g,sc,_,x=>D4 x g&&(glb sc g&&okN g)
 |.index a b,sc,N,x=>xM1 "index" x (mE a sc N) (mE b sc N)
 |.comp Nc fr k t it c e,sc,N,x=>xLC x λel g scope _=>l1 g λg=>(g.is_async==0)&&(O6 sc scope N Nc fr k&&(mIt it sc N g.target g.iter&&(mTg AG t (ag5 scope sc) Nc g.target&&(mE e (ag5 scope sc) Nc el&&cE c (mE c (ag5 scope sc) Nc) g.ifs))))
noncomputable def mEs:Es->BN->List Str->List AQ->Bool
 |.nil,_,_,xs=>xs.isEmpty
 |.cons e r,sc,N,xs=>DP (motive:=λ_=>Bool) xs AG λx xs=>mE e sc N x&&mEs r sc N xs
noncomputable def mIt:It->BN->List Str->AQ->AQ->Bool
 |.seq e,sc,N,_,x=>mE e sc N x
 |.rng a,sc,N,_,x=>xC1 "range" sc x (mE a sc N)
 |.rng2 a b,sc,N,_,x=>xC2 "range" sc x λp q=>mE a sc N p&&mE b sc N q
 |.enum e,sc,N,tg,x=>xT tg (λ_ _ _=>AC)&&xC1 "enumerate" sc x (mE e sc N)
 |.rev e,sc,N,_,x=>xC1 "reversed" sc x (mE e sc N)
end
structure XOk(Z:Sg)(X:Cx):Prop where
 calm:X.calm=AC
 xe:X.xe=λ_ _=>False
 units:X.A.units+200<CI
 nd:X.N.Nodup
 blt:∀b∈G9,X.mg b=AE
 fns:∀f,isM f=AG->Z.F f=AC->FOk X f (Z.Phi f)
 nom:∀f fa,Z.F f=AC->Ay X.K AS f=AA (AA (.ref fa))->isM f=AG
 cls:∀f c Ca,Ay X.K AS c=AA (AA (.ref Ca))->f∈Z.C c->Cls X.K Ca/\y8 X.K Ca f
 mth:∀m c Ca,Ay X.K AS c=AA (AA (.ref Ca))->Z.F (d3 c m)=AC->∃k f fd ps,Cls X.K Ca/\Meth X.K Ca m f/\FnOk X.prog X.w X.K X.mg X.base CX0 k f fd ps (t8 X.K (Z.Phi (d3 c m)))/\Room k X.A/\m8 X.K fd ps []
 mthd:∀m c Ca i,Ay X.K AS c=AA (AA (.ref Ca))->Z.F (d3 c m)=AC->M0 Z.C (d3 c m)=AA i->∃k f fd ps tk,Cls X.K Ca/\Meth X.K Ca m f/\FnOk X.prog X.w X.K X.mg X.base CX0 k f fd ps (t8 X.K (Z.Phi (d3 c m)))/\Room k X.A/\m8 X.K fd ps [.int i tk]
 mks:∀c,Z.MF (d3 c "__init__")=AC->∃Ca k f fd ps,Ay X.K AS c=AA (AA (.ref Ca))/\Mk X.K Ca f/\FnOk X.prog X.w X.K X.mg X.base CX0 k f fd ps (t8 X.K (Z.Mk (d3 c "__init__")))/\Room (k+1) X.A/\X.mg c=AA (.ref Ca)/\m8 X.K fd ps []
 tabs:∀g,Z.G g≠[]->GTab X.prog X.w X.K X.mg g (Z.G g)
 cst:∀g d,Z.Kc g=AA d->∃u,X.mg g=AA u/\v3 X.K d u=AC
 isc:∀c∈Z.C "!is",∃Ca,X.mg c=AA (.ref Ca)/\IscOk X.K c Ca
 kt:Tbs.kt=(Z.C "!kt").isEmpty
 lam:X.N.contains o6=AC->LamOk X/\∀x,X.N.contains (u0 x)=AC->X.fn x=AG/\X.ow x=AC
 mtE:∀(e:E)(sc:BN)(N:List Str)(x:AQ),mE e sc N x=AC->N.contains o6=AG->Tbs.mt (.cons (.ret e) .nil) sc N (.expr x)
 clo:∀np N b cs fa fd ps,CloF fd np N ps b->∃k,FnOk X.prog X.w X.K X.mg X.base CX0 k fa fd ps (O7 X.K fa fd np N cs (Z.PhiC np N b cs))/\Room k X.A
end Ek
namespace Ek
open PySem PySem.Spec PyProof.Rows L2
variable [Tbs]
variable{x:AQ}{Z:Sg}{X:Cx}{f:Str}{scope:BN}{Nc:List Str}{fr:List Nat}
structure Snd(Z:Sg)(X:Cx)(e:E)(x:AQ):Prop where
 v:PE X x (up X.K (wpE Z e))
 t:u5 x=AC->PT X x (upB X.K (wpT Z e))
 w:∀op vs p,x=.BoolOp op vs p->PW X x (upB X.K (wpT Z e))
 st:∀y p,x≠.Starred y p
 sl:∀l u s p,x≠.Slice l u s p
 se:∀l k p,x≠.Set l k p
def ag9(h:ax4 x=AC):(∀y p,x≠.Starred y p)/\(∀l u s p,x≠.Slice l u s p)/\(∀l k p,x≠.Set l k p):=
 ⟨λ_ _ z=>(by rw[z]at h;cases h),λ_ _ _ _ z=>(by rw[z]at h;cases h),λ_ _ _ z=>(by rw[z]at h;cases h)⟩
def Snd.plain{e:E}(he:PE X x (up X.K (wpE Z e)))(hi:∀whole,GX x X.env whole=(do let v <-whole;GL x.pos;holding [v] (truthy v)))(hu:ax4 x=AC)(hb:∀op vs p,x≠.BoolOp op vs p):Snd Z X e x:=
 ⟨he,λ_=>cg3 he hi,λop vs p z=>absurd z (hb op vs p),(ag9 hu).1,(ag9 hu).2.1,(ag9 hu).2.2⟩
abbrev cd7(x:AQ):Bool:=[2,4,6,8,16,19,20,21,23,24,25].contains x.ctorIdx
def Snd.pl{e:E}(he:PE X x (up X.K (wpE Z e)))(h:cd7 x=AC):Snd Z X e x:=by
 cases x<;>first|exact(AL h).elim|exact Snd.plain he (λ_=>rfl) rfl (by intros;exact nofun)
def j6(h:glb X.env.scope f=AC):Gl X f:=by
 have:X.env.scope.names.lookup f=AA .globalImplicit:=by simpa[glb]using h
 exact this
def aw7{sc:BN}(h:W1 sc f=AC):Vis sc f:=by
 unfold W1 at h
 split at h
 ·exact .inl (by assumption)
 ·exact .inr (.inl (by assumption))
 ·exact .inr (.inr (by assumption))
 ·cases h
def T7{sc:BN}(h:D7 sc f=AC):Loc sc f:=by
 unfold D7 at h
 split at h
 ·exact .inl (by assumption)
 ·exact .inr (by assumption)
 ·cases h
def v1{x:Str}(h:okN x=AC):(x==("__debug__":Str))=AG/\(x==("__classdict__":Str))=AG:=by
 simpa[okN]using h
def A9{o:AQ}(h:C3 o=AC):∀i p p',o≠.Call (.Name i p) [] [] p':=λ_ _ _ z=>by rw[z]at h;cases h
def XOk.blt'(h:XOk Z X)(b:Str)(hb:G9.contains b=AC:=by decide):X.mg b=AE:=h.blt b (by simpa using hb)
def XOk.pass(h:XOk Z X):Fw (model X.prog X.w) X.A X.env X.xe:=by rw[h.xe];exact PassesOwn.never
def ae4{ow:Bool}{t:Tg}(hc:X.calm=AC)(hN:X.N.Nodup)(how:ow=AC->∀y,Loc X.env.scope y->X.N.contains (u0 y)=AG->X.fn y=AC\/X.env.scope.names.lookup y=AA .local)(h:mTg ow t X.env.scope X.N x=AC):PG X x (upG X.K t):=by
 have one:∀(i:Nat)(y:Str)(p:Pos),((X.N[i]?==AA y)&&D7 X.env.scope y&&((ow&&!(X.N.contains (u0 y)))||lcl X.env.scope y))=AC->X.N[i]?=AA y/\Loc X.env.scope y/\(X.fn y=AC\/X.env.scope.names.lookup y=AA .local):=λi y p h=>by
  simp only[Aq,beq_iff_eq,Bool.or_eq_true,EK]at h;refine⟨h.1.1,T7 h.1.2,?_⟩
  rcases h.2 with z|z
  ·exact how z.1 y (T7 h.1.2) z.2
  ·exact .inr (by simpa[lcl]using z)
 cases t with
 |n i=>
  refine xN_ (C:=λx=>PG X x (upG X.K (.n i))) h λy p h=>?_;obtain⟨a,b,c⟩:=one _ _ p h;exact by7 hN a b c
 |tup is=>
  refine xT_ (C:=λx=>PG X x (upG X.K (.tup is))) h λes k p h=>?_;obtain⟨hl,ha⟩:=an h;have all:∀(is:List Nat)(es:List AQ),is.length=es.length->((is.zip es).all λp=>xN p.2 λy _=>(X.N[p.1]?==AA y)&&D7 X.env.scope y&&((ow&&!(X.N.contains (u0 y)))||lcl X.env.scope y))=AC->PGs X es (P9 is)/\(Bn es X.env).length=is.length/\(Bn es X.env).findIdx? (·.1)=AE:=by
   intro is
   induction is with
   |nil=>
    intro es hl _;cases es with
    |nil=>exact⟨b37,rfl,rfl⟩
    |cons a b=>cases hl
   |cons i is ih=>
    intro es hl h;cases es with
    |nil=>cases hl
    |cons e es=>
     obtain⟨h1,h2⟩:=an h;obtain⟨g1,g2,g3⟩:=ih es (Ft hl) h2;refine xN_ (C:=λe=>PGs X (e::es) (P9 (i::is))/\(Bn (e::es) X.env).length=(i::is).length/\(Bn (e::es) X.env).findIdx? (·.1)=AE) h1 λy py h1=>?_;obtain⟨a,b,c⟩:=one i y py h1;refine⟨bv0 (ar5 hN a b c) g1 rfl,congrArg (·+1) g2,?_⟩;show List.findIdx? _ ((AG,assign (.Name y py) X.env)::Bn es X.env)=AE;rw[List.findIdx?_cons];simp only[Ae,if_false];rw[g3];rfl
  obtain⟨g1,g2,g3⟩:=all is es (beq_iff_eq.1 hl) ha;exact ce3 hc g1 g2 g3
def ak9{k:Nat}(h:O6 X.env.scope scope X.N Nc fr k=AC):CompScope X scope Nc fr k:=by
 unfold O6 at h;simp only[Aq,beq_iff_eq,decide_eq_true_eq,Dx]at h;obtain⟨⟨⟨⟨⟨⟨⟨⟨h1,h2⟩,h3⟩,h4⟩,h5⟩,h6⟩,_⟩,h7⟩,h8⟩:=h;refine⟨h1,λy hy=>?_,λy hy hl=>?_,λy hy hf=>?_,λy hy hf hm=>?_,h6,h7,λi x hx hi=>?_⟩
 ·simpa using h2 y hy
 ·have:=h3 y hy;rw[hl]at this;simpa using this
 ·have:=h4 y hy;rw[hf]at this;simpa using this
 ·have:=h5 y hy;rw[hf]at this;have:(scope.names.any λz=>z.1==y.1&&z.2==.local)=AG:=by simpa using this
  rw[Et]at this;exact absurd ∎ (this _ hm)
 ·have:=h8 i (by simpa using hi);rw[hx]at this;cases q:fr[i]? with
  |none=>rw[q]at this;cases this
  |some j=>
   rw[q]at this;simp only[Aq,beq_iff_eq,Hj]at this;obtain⟨a,⟨n,kd⟩,hm,e1,e2⟩:=this;simp only at e1 e2;subst e1 e2;exact⟨j,rfl,a,hm⟩
def Q9{k:Nat}(h:O6 X.env.scope scope X.N Nc fr k=AC):Nc.contains o6=AG:=by
 unfold O6 at h;simp only[Aq,EK]at h;exact h.1.1.2
theorem XOk.comp{k:Nat}(h:XOk Z X)(nl:Nc.contains o6=AG)(S:CompScope X scope Nc fr k)(C:AM)(fp:List AM)(pins:List (AM×Obj))(s:AK)(H:Hp):XOk Z (X.comp scope Nc C fp pins s H) where
 calm:=h.calm
 xe:=rfl
 units:=h.units
 nd:=S.nd
 blt:=h.blt
 fns:=λf hm hf=>let⟨k,a,fd,ps,x⟩:=(h.fns f hm hf).ex;⟨k,a,fd,ps,x⟩
 nom:=λf fa a b=>h.nom f fa a b
 cls:=λf c Ca a b=>h.cls f c Ca a b
 mth:=λm c Ca a b=>h.mth m c Ca a b
 mthd:=λm c Ca i a b d=>h.mthd m c Ca i a b d
 mks:=λc a=>h.mks c a
 tabs:=λg hg=>⟨(h.tabs g hg).ex⟩
 lam:=λz=>by
  have z':Nc.contains o6=AC:=z;rw[nl]at z';cases z'
 cst:=h.cst
 isc:=h.isc
 kt:=h.kt
 mtE:=h.mtE
 clo:=λnp N b cs fa fd ps cf=>h.clo np N b cs fa fd ps cf
end Ek
namespace Ek
open PySem PySem.Spec PyProof.Rows L2
variable [Tbs]
variable{X:Cx}{Z:Sg}
structure SndA(Z:Sg)(X:Cx)(es:Es)(xs:List AQ):Prop where
 a:PA X xs (upA X.K es.len (k7 Z es))
 pl:∀pos:Pos,(Bt pos (Ai xs X.env)).any (·.1)=AG
def az4{o:Ju}{q:AQ}{pos:Pos}{t:DT}(h:PT X q (upB X.K (tst t))):PW X (.BoolOp o [q] pos) (upB X.K (tst t)):=by
 cases o with
 |And=>exact b06 h
 |Or=>exact b63 h
def bt4:∀(e:E)(sc:BN)(N:List Str)(l:List AQ)(k:Nat)(p:Pos),mE e sc N (.Set l k p)=AG:=by
 intro e sc N l k p;cases e<;>rfl
def bz0{t:String}(h:t∈B5):Aw (AD t)=AA (.type t)/\AD t≠"__name__"/\(AD t==("__debug__":Str))=AG/\G9.contains (AD t)=AC:=by
 simp only[B5,AT,Ac,or_false]at h
 rcases h with rfl|rfl|rfl|rfl|rfl<;>exact⟨by decide+kernel,∅,∅,∅⟩
def af3{env:Env}{it:It}{sc:BN}{N:List Str}{tg x:AQ}(h:mIt it sc N tg x=AC):∀v,DD x env v=pure v:=by
 have hx:∀l k p,x≠.Set l k p:=λl k p z=>by
  subst z;cases it with
  |seq e=>exact(AL ((bt4 e sc N l k p).symm.trans h)).elim
  |enum e=>exact(AL (an h).2).elim
  |_=>exact(AL h).elim
 intro v;cases x<;>first|rfl|exact absurd rfl (hx _ _ _)
def J1{K:AR}{t t':DT}{σ:L2.St}{H:Hp}{Q:VK}(h:∀env st Q,t env st Q->t' env st Q)(q:up K t σ H Q):up K t' σ H Q:=by
 obtain⟨env,st,Qd,hE,hS,ht,hq⟩:=q;exact⟨env,st,Qd,hE,hS,h _ _ _ ht,hq⟩
def W5{x:AQ}{e:E}{P:Prop}(h:¬P)(w:∀env st Q,wpE Z e env st Q->P):PE X x (up X.K (wpE Z e)):=λ_ _ _ _ _ _ q=>by
 obtain⟨env,st,_,_,_,ht,_⟩:=q;exact absurd (w env st _ ht) h
def bf7{lo:E}{l:Option AQ}(h:oE lo (mE lo X.env.scope X.N) l=AC)(H:∀x,mE lo X.env.scope X.N x=AC->Snd Z X lo x):PO X l (upO X.K λenv st k=>(if lo.isNon=AC then λk=>k AE st else λ(k:Option Int->Sto->Prop)=>wpE Z lo env st λd st'=>∃i,d=.int i/\k (AA i) st') k):=by
 cases l with
 |none=>rw[show lo.isNon=AC from h];exact b31
 |some l=>
  obtain⟨h1,h2⟩:=an h;rw[show lo.isNon=AG from nt h1];exact ab9 (H l h2).v
def bh6{c:E}{l:List AQ}(h:cE c (mE c X.env.scope X.N) l=AC)(H:∀x,mE c X.env.scope X.N x=AC->Snd Z X c x):PCs X l (upB X.K (if c.isNon=AC then λ_ st Q=>Q AC st else λenv st Q=>wpE Z c env st λd st'=>∃b,d=.bl b/\Q b st')):=by
 cases l with
 |nil=>
  rw[show c.isNon=AC from h];exact λpins' s' σ' H' Q' I'⟨env,st,Qd,hE,hS,ht,hq⟩=>b22 pins' s' σ' H' Q' I' (hq AC H' st Ev.refl hS ht)
 |cons a l=>
  refine l1_ (C:=λl=>PCs X l _) (show l1 (a::l) (λx=>!c.isNon&&(u5 x&&mE c X.env.scope X.N x))=AC from h) λx h=>?_;obtain⟨h1,h2⟩:=an h;rw[show c.isNon=AG from nt h1];exact b46 ((H x (an h2).2).t (an h2).1)
def a84{ks:List Str}{vs:Es}(h:ag2 ks vs=AC):ks.length=vs.len/\ks.Nodup/\ks.length<=15/\∀{l:List (Option AQ)},l.length=ks.length->l≠[]:=
 ⟨beq_iff_eq.1 (an h).1,of_decide_eq_true (an (an h).2).1,of_decide_eq_true (an (an (an h).2).2).1,λe z=>by
  subst z;rw[Bc e.symm]at h;exact AL (an (an (an h).2).2).2⟩
def mcF{cp:Pos}{l:List AQ}(hp:(Bt cp (Ai l X.env)).any (·.1)=AG)(h:l.length<29):Eo (l.length+0) (Bt cp (Ai l X.env)) (Em cp (DW [] X.env))=AC:=by
 unfold Eo;rw[show(Bt cp (Ai l X.env)).all (λx=>!x.1)=AC from by
  rw[Dx];intro w hw;rw[Et]at hp;simpa using hp w hw]
 exact decide_eq_true (FB h)
def Snd.cm{e:E}{a:AQ}{o:List Dc}{b:List AQ}{p:Pos}(he:PE X (.Compare a o b p) (up X.K (wpE Z e)))(ht:PT X (.Compare a o b p) (upB X.K (wpT Z e))):Snd Z X e (.Compare a o b p):=⟨he,λ_=>ht,nofun,nofun,nofun,nofun⟩
def Snd.bo{e:E}{o:Ju}{b:List AQ}{p:Pos}(he:PE X (.BoolOp o b p) (up X.K (wpE Z e)))(hw:PW X (.BoolOp o b p) (upB X.K (wpT Z e))):Snd Z X e (.BoolOp o b p):=⟨he,λ_=>hw.pt,λ_ _ _ _=>hw,nofun,nofun,nofun⟩
def lb_{l:List AQ}{k:AQ->AQ->Bool}{m:AQ->List AQ->Bool}{C:List AQ->Prop}(h:lb l k m=AC)(H:∀p q,k p q=AC->C [p,q])(J:∀p q r s,m p (q::r::s)=AC->C (p::q::r::s)):C l:=
 match l,h with
 |[p,q],h=>H p q h
 |p::q::r::s,h=>J p q r s h
def XOk.fnx(hX:XOk Z X)(f:Str)(fa:AM)(hF:Z.F f=AC)(hns:Ay X.K AS f=AA (AA (.ref fa))):∃k fd ps,FnOk X.prog X.w X.K X.mg X.base CX0 k fa fd ps (t8 X.K (Z.Phi f))/\Room k X.A/\CA X.K (.ref fa)=AC/\m8 X.K fd ps []:=by
 obtain⟨k,a,fd,ps,F,hr,hm,hk,hb,hn⟩:=(hX.fns f (hX.nom f fa hF hns) hF).ex;rw[hn]at hns;cases hns;exact⟨k,fd,ps,F,hr,hk,hb⟩
mutual
theorem b9(Z:Sg):∀(e:E)(X:Cx)(x:AQ),XOk Z X->mE e X.env.scope X.N x=AC->Snd Z X e x
 |.non,X,x,hX,h=>M3 h λn p=>Snd.pl (by exact W0 b54 λ_=>.non) rfl
 |.bl b,X,x,hX,h=>M3 h λn p=>Snd.pl (by exact W0 ch8 λ_=>.bl _) rfl
 |.int i,X,x,hX,h=>M3 h λn p=>Snd.pl (by exact W0 cc8 λ_=>.int _) rfl
 |.str y,X,x,hX,h=>M3 h λn p=>Snd.pl (by exact W0 av1 λ_=>.str _) rfl
 |.v i,X,x,hX,h=>xN_ h λy p h=>Snd.pl (by exact ca8 (beq_iff_eq.1 (an h).1) (aw7 (an (an h).2).1) (v1 (an (an h).2).2).1 (v1 (an (an h).2).2).2) rfl
 |.tup es,X,x,hX,h=>xT_ h λl n p h=>Snd.pl (by exact b83 (B1 Z es X _ hX (an h).1).a (of_decide_eq_true (an h).2)) rfl
 |.lst es,X,x,hX,h=>xL_ h λl p h=>Snd.pl (by exact b85 (B1 Z es X _ hX (an h).1).a (of_decide_eq_true (an h).2)) rfl
 |.bin o a b,X,x,hX,h=>bg3 h λp q r ps h=>by
  cases beq_iff_eq.1 (an h).1;exact Snd.pl (by exact b51 (b9 Z a X _ hX (an (an h).2).1).v (b9 Z b X _ hX (an (an h).2).2).v) rfl
 |.neg a,X,x,hX,h=>xU_ h λo p ps h=>by
  cases beq_iff_eq.1 (an h).1;exact Snd.plain (by exact b84 (b9 Z a X _ hX (an h).2).v) (λ_=>rfl) rfl (by intros;exact nofun)
 |.cmp o a b,X,x,hX,h=>V6 h λq p r ps h=>by
  cases beq_iff_eq.1 (an h).1;have ia:=b9 Z a X _ hX (an (an h).2).1;have ib:=b9 Z b X _ hX (an (an h).2).2;exact Snd.cm (by exact cd1 hX.units ia.v ib.v ib.se) (by unfold wpT;exact b58 hX.units ia.v ib.v ib.se)
 |.isN a,X,x,hX,h=>V6 h λq p r ps h=>by
  cases beq_iff_eq.1 (an h).1;refine M3 (C:=λr=>Snd Z X (.isN a) (.Compare p [.Is] [r] ps)) (an (an h).2).1 λn pp=>?_;have ia:=b9 Z a X _ hX (an (an h).2).2;exact Snd.cm (by exact ce4 ia.v) (by unfold wpT;exact cc3 ia.v)
 |.and a b,X,x,hX,h=>bh7 h λo l ps h=>by
  cases beq_iff_eq.1 (an h).1;refine lb_ (C:=λl=>Snd Z X (.and a b) (.BoolOp .And l ps)) (an h).2 (λp q h=>?_) λp q r c8 h=>?_
  ·have ia:=b9 Z a X _ hX (an (an (an h).1).1).1;have ib:=b9 Z b X _ hX (an (an (an h).1).1).2;exact Snd.bo (by exact a03 ia.v (aw8 ib.v)) (by unfold wpT;exact a40 (ia.t (an (an h).1).2) (az4 (ib.t (an h).2)))
  ·have ia:=b9 Z a X _ hX (an (an h).1).1;have ib:=b9 Z b X _ hX (an (an h).1).2;exact Snd.bo (by exact a03 ia.v ib.v) (by unfold wpT;exact a40 (ia.t (an h).2) (ib.w _ _ _ rfl))
 |.or a b,X,x,hX,h=>bh7 h λo l ps h=>by
  cases beq_iff_eq.1 (an h).1;refine lb_ (C:=λl=>Snd Z X (.or a b) (.BoolOp .Or l ps)) (an h).2 (λp q h=>?_) λp q r c8 h=>?_
  ·have ia:=b9 Z a X _ hX (an (an (an h).1).1).1;have ib:=b9 Z b X _ hX (an (an (an h).1).1).2;exact Snd.bo (by exact ba0 ia.v (aw8 ib.v)) (by unfold wpT;exact bc6 (ia.t (an (an h).1).2) (az4 (ib.t (an h).2)))
  ·have ia:=b9 Z a X _ hX (an (an h).1).1;have ib:=b9 Z b X _ hX (an (an h).1).2;exact Snd.bo (by exact ba0 ia.v ib.v) (by unfold wpT;exact bc6 (ia.t (an h).2) (ib.w _ _ _ rfl))
 |.not a,X,x,hX,h=>xU_ h λo p ps h=>by
  cases beq_iff_eq.1 (an h).1;have ia:=b9 Z a X _ hX (an (an h).2).1;exact⟨by exact b61 ia.v,λ_=>(by unfold wpT;exact cd8 (ia.t (an (an h).2).2)),nofun,nofun,nofun,nofun⟩
 |.ite c a b,X,x,hX,h=>cm0 h λp q r ps h=>
  ⟨by exact b50 ((b9 Z c X _ hX (an (an h).1).1).t (an (an h).1).2) (b9 Z a X _ hX (an (an h).2).1).v (b9 Z b X _ hX (an (an h).2).2).v,nofun,nofun,nofun,nofun,nofun⟩
 |.ix a b,X,x,hX,h=>xS_ h λp q ps h=>
  have ib:=b9 Z b X _ hX (an h).2
  Snd.pl (by exact ch4 hX.units (b9 Z a X _ hX (an h).1).v ib.v ib.sl) rfl
 |.sl a lo hi,X,x,hX,h=>xS_ h λp s ps h=>be1 (C:=λs=>Snd Z X (.sl a lo hi) (.Subscript p s ps)) (an h).2 λl u st p2 h2=>by
  cases st with
  |some _=>exact(AL h2).elim
  |none=>exact Snd.pl (by exact ci2 (b9 Z a X _ hX (an h).1).v (bf7 (an (an h2).2).1 λx=>b9 Z lo X x hX) (bf7 (an (an h2).2).2 λx=>b9 Z hi X x hX)) rfl
 |.dsel ks vs k,X,x,hX,h=>xS_ h λd q ps h=>xD_ (C:=λd=>Snd Z X (.dsel ks vs k) (.Subscript d q ps)) (an h).2 λkeys xs dp h2=>by
  have ik:=b9 Z k X _ hX (an h).1;obtain⟨h4,h5,h6,hne⟩:=a84 (an (an h2).2).2;obtain⟨d,e1,e2,e3⟩:=ae9 Z vs X ks _ _ dp hX (an h2).1 (an (an h2).2).1 h4;exact Snd.pl (by exact bx8 hX.units d e1 e2 (hne e3) e3 ⋯ h5 ik.v ik.sl) rfl
 |.gsel g k,X,x,hX,h=>xS_ h λn q ps h=>F3 (C:=λn=>Snd Z X (.gsel g k) (.Subscript n q ps)) (an h).1 λnp=>
  have ik:=b9 Z k X _ hX (an (an (an h).2).2).2
  Snd.pl (by exact b24 (hX.tabs g) (j6 (an (an h).2).1) ik.v ik.sl (v1 (an (an (an h).2).2).1).1) rfl
 |.len a,X,x,hX,h=>u3 h λq p ps h1 h2=>
  have ia:=b9 Z a X _ hX h2
  Snd.pl (by exact ca4 (j6 h1) (hX.blt' _) ia.v ia.st) rfl
 |.abs a,X,x,hX,h=>u3 h λq p ps h1 h2=>
  have ia:=b9 Z a X _ hX h2
  Snd.pl (by exact ca5 (j6 h1) (hX.blt' _) ia.v ia.st) rfl
 |.toInt a,X,x,hX,h=>u3 h λq p ps h1 h2=>
  have ia:=b9 Z a X _ hX h2
  Snd.pl (by exact bw3 (j6 h1) (hX.blt' _) ia.v ia.st) rfl
 |.sum a,X,x,hX,h=>u3 h λq p ps h1 h2=>
  have ia:=b9 Z a X _ hX h2
  Snd.pl (by exact cd2 hX.calm (j6 h1) (hX.blt' _) ia.v ia.st) rfl
 |.list a,X,x,hX,h=>u3 h λq p ps h1 h2=>
  have ia:=b9 Z a X _ hX h2
  Snd.pl (by exact b34 (j6 h1) (hX.blt' _) ia.v ia.st) rfl
 |.tuple a,X,x,hX,h=>u3 h λq p ps h1 h2=>
  have ia:=b9 Z a X _ hX h2
  Snd.pl (by exact br5 (j6 h1) (hX.blt' _) ia.v ia.st) rfl
 |.max a b,X,x,hX,h=>W4 h λq p r ps h1 h2=>
  have ia:=b9 Z a X _ hX (an h2).1;have ib:=b9 Z b X _ hX (an h2).2
  Snd.pl (by exact b48 hX.calm (j6 h1) (hX.blt' _) ia.v ib.v ia.st ib.st) rfl
 |.call f es,X,x,hX,h=>xG_ h λq l ps h1 h=>by
  cases l with
  |nil=>exact(AL (an (an (an h).2).2).1).elim
  |cons y ys=>cases es with
   |nil=>exact(AL (an (an (an h).2).2).2).elim
   |cons e0 er=>
    have i0:=b9 Z e0 X _ hX (an (an (an (an h).2).2).2).1;have ir:=B1 Z er X _ hX (an (an (an (an h).2).2).2).2;refine Snd.pl ?_ rfl
    by_cases hF:Z.F f=AC
    ·obtain⟨k,a,fd,ps,F,hr,hm,hk,hb,_⟩:=(hX.fns f (nt (an (an h).2).1) hF).ex;exact PE.imp (by4 F hr (j6 h1) hm hk hb (N5 i0.v ir.a i0.st) (v1 (an h).1).1 i0.st (ir.pl _)) λ_ _ _=>J1 λ_ _ _ ht=>ht.2
    ·exact W5 hF λ_ _ _ ht=>ht.1
 |.gf f,X,x,hX,h=>F3 (C:=λx=>Snd Z X (.gf f) x) (an h).1 λp=>by
  refine Snd.pl ?_ rfl
  by_cases hF:Z.F f=AC
  ·obtain⟨k,a,fd,ps,F,hr,hm,hk,hb,hn⟩:=(hX.fns f (nt (an (an (an h).2).2).2) hF).ex;exact PE.imp (ch0 (j6 (an (an h).2).1) hm hn (v1 (an (an (an h).2).2).1).1) λ_ _ _=>J1 λ_ _ _ ht=>ht.2
  ·exact W5 hF λ_ _ _ ht=>ht.1
 |.gc g,X,x,hX,h=>F3 (C:=λx=>Snd Z X (.gc g) x) (an h).1 λp=>by
  refine Snd.pl ?_ rfl;cases hk:Z.Kc g with
  |none=>exact λ_ _ _ _ _ _⟨env,st,Qd,hE,hS,⟨i,hi,_⟩,hq⟩=>nomatch hk.symm.trans hi
  |some i=>
   obtain⟨t,hm,hv⟩:=hX.cst g i hk;obtain⟨v,rv,is⟩:=v3.is hv;exact PE.imp (ac7 (v:=v) (j6 (an (an h).2).1) hm rv (v1 (an (an h).2).2).1) λσ H Q q=>by
    obtain⟨env,st,Qd,hE,hS,⟨i',hi,ht⟩,hq⟩:=q;cases hk.symm.trans hi;exact hq.here (is H) hS ht
 |.callv i es,X,x,hX,h=>af7 h λf l ps h=>by
  refine xN_ (C:=λf=>Snd Z X (.callv i es) (.Call f l [] ps)) (an h).1 λy p h1=>?_;cases l with
  |nil=>exact(AL (an (an h).2).1).elim
  |cons z zs=>cases es with
   |nil=>exact(AL (an (an h).2).2).elim
   |cons e0 er=>
    have i0:=b9 Z e0 X _ hX (an (an (an h).2).2).1;have ir:=B1 Z er X _ hX (an (an (an h).2).2).2;refine Snd.pl ?_ rfl;exact bt1 (Z:=Z) (beq_iff_eq.1 (an h1).1) (aw7 (an (an h1).2).1) (v1 (an (an h1).2).2).1 (v1 (an (an h1).2).2).2 hX.fnx hX.clo (N5 i0.v ir.a i0.st) i0.st (ir.pl _)
 |.dict ks vs,X,x,hX,h=>xD_ h λkeys xs dp h2=>by
  obtain⟨h4,h5,h6,hne⟩:=a84 (an (an h2).2).2;obtain⟨d,e1,e2,e3⟩:=ae9 Z vs X ks _ _ dp hX (an h2).1 (an (an h2).2).1 h4;exact Snd.pl (by exact b19 d e1 e2 (hne e3) e3 ⋯ h5) rfl
 |.isT t a,X,x,hX,h=>W4 h λq p r ps h1 h2=>F3 (C:=λr=>Snd Z X (.isT t a) (.Call (.Name "isinstance" q) [p,r] [] ps)) (an h2).1 λnp=>by
  have hin:t∈B5:=List.contains_iff_mem.1 (an (an (an h2).2).2).1;obtain⟨b1,b2,b3,b4⟩:=bz0 hin;have ia:=b9 Z a X _ hX (an (an (an h2).2).2).2;exact Snd.pl (by exact b49 hin (j6 h1) (hX.blt' _) (j6 (an (an h2).2).1) (hX.blt' _ b4) b1 b2 b3 ia.v ia.st) rfl
 |.fld a f,X,x,hX,h=>xA_ h λo g ap h=>by
  cases beq_iff_eq.1 (an h).1;exact Snd.pl (by exact b95 (C:=Z.C) (λc Ca=>hX.cls _ c Ca) (b9 Z a X _ hX (an (an h).2).2).v (v5 (A9 (an (an h).2).1))) rfl
 |.meth a m es,X,x,hX,h=>xM_ h λo ap l cp hl h=>by
  have hbo:=A9 (an (an h).1).1;have ia:=b9 Z a X _ hX (an (an h).1).2;have iall:=B1 Z es X _ hX (an (an h).2).1;refine Snd.pl ?_ rfl;cases l with
  |nil=>
   cases es with
   |nil=>exact PE.imp (br3 (F:=Z.F) (Ph:=Z.Phi) (λc Ca=>hX.mth m c Ca) hl hbo ia.v) λ_ _ _=>J1 λ_ _ _ ht=>(by exact ht)
   |cons _ _=>exact(AL (an (an h).2).1).elim
  |cons z zs=>
   cases es with
   |nil=>exact(AL (an (an h).2).1).elim
   |cons e0 er=>
    exact b02 (F:=Z.F) (Ph:=Z.Phi) (λc Ca=>hX.mth m c Ca) (mcF (iall.pl cp) (of_decide_eq_true (an (an h).2).2)) hl hbo ia.v iall.a (b9 Z e0 X _ hX (an (an (an h).2).1).1).st ((B1 Z er X _ hX (an (an (an h).2).1).2).pl _)
 |.make c es,X,x,hX,h=>xG_ h λq l ps h1 h=>by
  have iall:=B1 Z es X _ hX (an h).2;refine Snd.pl ?_ rfl
  by_cases hF:Z.MF (d3 c "__init__")=AC
  ·obtain⟨Ca,k,f,fd,ps,hn,M,Fo,hr,hm,hb⟩:=hX.mks c hF;cases l with
   |nil=>
    cases es with
    |nil=>exact PE.imp (bs1 hn M Fo hr (j6 h1) hm hb (v1 (an h).1).1) λ_ _ _=>J1 λ_ _ _ ht=>(by exact ht.2)
    |cons _ _=>exact(AL (an h).2).elim
   |cons z zs=>
    cases es with
    |nil=>exact(AL (an h).2).elim
    |cons e0 er=>
     exact PE.imp (b40 hn M Fo hr (j6 h1) hm hb iall.a (v1 (an h).1).1 (b9 Z e0 X _ hX (an (an h).2).1).st ((B1 Z er X _ hX (an (an h).2).2).pl _)) λ_ _ _=>J1 λ_ _ _ ht=>ht.2
  ·exact W5 hF λ_ _ _ ht=>ht.1
 |.app a b,X,x,hX,h=>Q1 h λo ap p cp hl h1 h2 h3=>
  have ib:=b9 Z b X _ hX h3
  Snd.pl (by exact cb2 (b9 Z a X _ hX h2).v ib.v (A9 h1) ib.st hl) rfl
 |.ext a b,X,x,hX,h=>Q1 h λo ap p cp hl h1 h2 h3=>
  have ib:=b9 Z b X _ hX h3
  Snd.pl (by exact cb0 (b9 Z a X _ hX h2).v ib.v (A9 h1) ib.st hl) rfl
 |.popAt a b,X,x,hX,h=>Q1 h λo ap p cp hl h1 h2 h3=>
  have ib:=b9 Z b X _ hX h3
  Snd.pl (by exact bw4 (b9 Z a X _ hX h2).v ib.v (A9 h1) ib.st hl) rfl
 |.pop a,X,x,hX,h=>ck7 h λo ap cp hl h1 h2=>Snd.pl (by exact ce2 (b9 Z a X _ hX h2).v (A9 h1) hl) rfl
 |.cat a b,X,x,hX,h=>bg3 h λp q r ps h=>by
  cases beq_iff_eq.1 (an h).1;exact Snd.pl (by exact b76 (b9 Z a X _ hX (an (an h).2).1).v (b9 Z b X _ hX (an (an h).2).2).v) rfl
 |.ssl a lo hi,X,x,hX,h=>xS_ h λp s ps h=>by
  refine be1 (C:=λs=>Snd Z X (.ssl a lo hi) (.Subscript p s ps)) (an h).2 λl u st p2 h2=>?_;obtain⟨h3,h4⟩:=an h2;cases st with
  |some _=>exact(AL h3).elim
  |none=>cases l with
   |none=>exact(AL (an h4).1).elim
   |some l=>cases u with
    |none=>exact(AL (an h4).2).elim
    |some u=>exact Snd.pl (by exact b99 (b9 Z a X _ hX (an h).1).v (b9 Z lo X _ hX (an h4).1).v (b9 Z hi X _ hX (an h4).2).v) rfl
 |.slen a,X,x,hX,h=>u3 h λq p ps h1 h2=>
  have ia:=b9 Z a X _ hX h2
  Snd.pl (by exact bx1 (j6 h1) (hX.blt' _) ia.v ia.st) rfl
 |.tstr a,X,x,hX,h=>u3 h λq p ps h1 h2=>
  have ia:=b9 Z a X _ hX h2
  Snd.pl (by exact bz6 (j6 h1) (hX.blt' _) ia.v ia.st) rfl
 |.sint a,X,x,hX,h=>u3 h λq p ps h1 h2=>
  have ia:=b9 Z a X _ hX h2
  Snd.pl (by exact b05 (j6 h1) (hX.blt' _) ia.v ia.st) rfl
 |.sin ne a b,X,x,hX,h=>V6 h λq p r ps h=>by
  have e:=beq_iff_eq.1 (an h).1;have ia:=b9 Z a X _ hX (an (an h).2).1;have ib:=b9 Z b X _ hX (an (an h).2).2;exact Snd.cm (by exact ca2 e ia.v ib.v ib.se) (by unfold wpT;exact b52 e ia.v ib.v ib.se)
 |.join a b,X,x,hX,h=>Q1 h λo ap p cp hl h1 h2 h3=>
  have ib:=b9 Z b X _ hX h3
  Snd.pl (by exact b47 (b9 Z a X _ hX h2).v ib.v (A9 h1) ib.st hl) rfl
 |.sgt a k d,X,x,hX,h=>xM_ h λo ap l cp hl h=>l2_ (C:=λl=>Snd Z X (.sgt a k d) (.Call (.Attribute o "get" ap) l [] cp)) (an (an h).2).2 λp q h2=>
  have ib:=b9 Z k X _ hX (an h2).1;have ic:=b9 Z d X _ hX (an h2).2
  Snd.pl (by exact b53 hX.units (b9 Z a X _ hX (an (an h).2).1).v ib.v ic.v (A9 (an h).1) ib.st ic.st hl) rfl
 |.isC c a,X,x,hX,h=>W4 h λq p r ps h1 h2=>F3 (C:=λr=>Snd Z X (.isC c a) (.Call (.Name "isinstance" q) [p,r] [] ps)) (an h2).1 λnp=>by
  have ia:=b9 Z a X _ hX (an (an (an h2).2).2).2;refine Snd.pl ?_ rfl
  by_cases hc:c∈Z.C "!is"
  ·obtain⟨Ca,hm,K⟩:=hX.isc c hc;exact PE.imp (b81 K (j6 h1) (hX.blt' _) (j6 (an (an h2).2).1) hm (v1 (an (an (an h2).2).2).1).1 ia.v ia.st) λ_ _ _=>J1 λ_ _ _ ht=>ht.2
  ·exact W5 hc λ_ _ _ ht=>ht.1
 |.gnin a g,X,x,hX,h=>V6 h λq p r ps h=>by
  cases beq_iff_eq.1 (an h).1;refine F3 (C:=λr=>Snd Z X (.gnin a g) (.Compare p [.NotIn] [r] ps)) (an (an h).2).1 λnp=>?_;have ia:=b9 Z a X _ hX (an (an (an (an h).2).2).2).2;have pc:=bz7 (p:=np) (λhz=>hX.tabs g hz) (j6 (an (an (an h).2).2).1) ia.v (v1 (an (an (an (an h).2).2).2).1).1;exact Snd.cm (by exact ax6 pc rfl) (by unfold wpT;exact a62 (ay2 pc rfl) λ_ _ _ q=>q)
 |.lrl a,X,x,hX,h=>u3 h λq z ps h1 h=>u3 (C:=λz=>Snd Z X (.lrl a) (.Call (.Name "list" q) [z] [] ps)) h λq2 p ps2 h2 h3=>
  have ia:=b9 Z a X _ hX h3
  Snd.pl (by exact cc1 hX.calm (j6 h1) (hX.blt' _) (j6 h2) (hX.blt' _) ia.v ia.st) rfl
 |.index a b,X,x,hX,h=>Q1 h λo ap p cp hl h1 h2 h3=>
  have ib:=b9 Z b X _ hX h3
  Snd.pl (by exact bv1 hX.units (b9 Z a X _ hX h2).v ib.v (A9 h1) ib.st hl) rfl
 |.comp Nc fr k t it c e,X,x,hX,h=>cl4 h λel g scope pos h=>by
  refine l1_ (C:=λg=>Snd Z X (.comp Nc fr k t it c e) (.ListComp el g scope pos)) h λg h=>?_;obtain⟨tg,itx,ifs,n⟩:=g;obtain⟨h0,h⟩:=an h;cases(beq_iff_eq.1 h0:n=0);obtain⟨h1,h⟩:=an h;obtain⟨h2,h⟩:=an h;obtain⟨h3,h⟩:=an h;have Sc:=ak9 h1;exact Snd.pl (PE.imp (b21 hX.calm Sc (af2 Z it X tg itx hX h2)
   (λC fp pins s H=>ae4 (X:=X.comp scope Nc C fp pins s H) (ow:=AG) hX.calm Sc.nd nofun h3)
   (λC fp pins s H=>bh6 (X:=X.comp scope Nc C fp pins s H) (an h).2 λx h=>b9 Z c (X.comp scope Nc C fp pins s H) x (hX.comp (Q9 h1) Sc C fp pins s H) h)
   (λC fp pins s H=>(b9 Z e (X.comp scope Nc C fp pins s H) el (hX.comp (Q9 h1) Sc C fp pins s H) (an h).1).v) (af3 h2)) λσ H Q q=>al9 q) rfl
theorem B1(Z:Sg):∀(es:Es)(X:Cx)(xs:List AQ),XOk Z X->mEs es X.env.scope X.N xs=AC->SndA Z X es xs
 |.nil,X,xs,hX,h=>by
  cases xs with
  |nil=>exact⟨by exact ay8,λ_=>rfl⟩
  |cons=>exact(AL h).elim
 |.cons e r,X,xs,hX,h=>by
  cases xs with
  |nil=>exact(AL h).elim
  |cons x xs=>
   have i0:=b9 Z e X _ hX (an h).1;have ir:=B1 Z r X _ hX (an h).2;refine⟨by exact N5 i0.v ir.a i0.st,λpos=>?_⟩;rw[g7 i0.st];exact ir.pl pos
theorem ae9(Z:Sg):∀(vs:Es)(X:Cx)(ks:List Str)(keys:List (Option AQ))(xs:List AQ)(dp:Pos),XOk Z X->mKs ks keys=AC->mEs vs X.env.scope X.N xs=AC->ks.length=vs.len ->
  DPs X dp keys xs ks (k7 Z vs)/\keys.all (·.isSome)=AC/\keys.length=xs.length/\keys.length=ks.length
 |.nil,X,ks,keys,xs,dp,hX,h1,h2,h3=>by
  cases xs with
  |cons=>exact(AL h2).elim
  |nil=>cases ks with
   |cons=>cases h3
   |nil=>cases keys with
    |nil=>exact⟨by exact cd3,rfl,rfl,rfl⟩
    |cons=>exact(AL h1).elim
 |.cons e r,X,ks,keys,xs,dp,hX,h1,h2,h3=>by
  cases xs with
  |nil=>exact(AL h2).elim
  |cons x xs=>cases ks with
   |nil=>cases h3
   |cons k ks=>cases keys with
    |nil=>exact(AL h1).elim
    |cons kx keys=>cases kx with
     |none=>exact(AL h1).elim
     |some kx=>
      obtain⟨d,a1,a2,a3⟩:=ae9 Z r X ks keys _ dp hX (an h1).2 (an h2).2 (Ft h3);refine M3 (C:=λkx=>DPs X dp (AA kx::keys) (x::xs) (k::ks) (k7 Z (.cons e r))/\_) (an h1).1 λn p=>?_;exact⟨by exact b45 (b9 Z e X _ hX (an h2).1).v d,a1,congrArg (·+1) a2,congrArg (·+1) a3⟩
theorem af2(Z:Sg):∀(it:It)(X:Cx)(tg x:AQ),XOk Z X->mIt it X.env.scope X.N tg x=AC->PI X tg x (upI X.K (t7 Z it))
 |.seq e,X,tg,x,hX,h=>by exact b55 (b9 Z e X x hX h).v
 |.rng a,X,tg,x,hX,h=>u3 (C:=λx=>PI X tg x (upI X.K (t7 Z (.rng a)))) h λq p ps h1 h2=>
  have ia:=b9 Z a X _ hX h2
  (by exact b91 (j6 h1) (hX.blt' _) ia.v ia.st)
 |.rng2 a b,X,tg,x,hX,h=>W4 (C:=λx=>PI X tg x (upI X.K (t7 Z (.rng2 a b)))) h λq p r ps h1 h2=>
  have ia:=b9 Z a X _ hX (an h2).1;have ib:=b9 Z b X _ hX (an h2).2
  (by exact b01 (j6 h1) (hX.blt' _) ia.v ib.v ia.st ib.st)
 |.enum e,X,tg,x,hX,h=>xT_ (C:=λtg=>PI X tg x (upI X.K (t7 Z (.enum e)))) (an h).1 λl n tp _=>u3 (C:=λx=>PI X _ x (upI X.K (t7 Z (.enum e)))) (an h).2 λq p ps h1 h2=>
  have ia:=b9 Z e X _ hX h2
  (by exact b41 (j6 h1) (hX.blt' _) ia.v ia.st)
 |.rev e,X,tg,x,hX,h=>u3 (C:=λx=>PI X tg x (upI X.K (t7 Z (.rev e)))) h λq p ps h1 h2=>
  have ia:=b9 Z e X _ hX h2
  (by exact b88 (j6 h1) (hX.blt' _) ia.v ia.st)
end
end Ek
namespace Ek
open PySem PySem.Spec PyProof.Rows L2
variable [Tbs]
variable{x:BQ}{C:BQ->Prop}{sc scope:BN}{N:List Str}{el:AQ}{gs:List Gw}{p:Pos}{env:Env}
abbrev sA(x:BQ)(k:List AQ->AQ->Pos->Bool):Bool:=if h:x.ctorIdx=5 then EM x h k else AG
def sA_{k:List AQ->AQ->Pos->Bool}(h:sA x k=AC)(H:∀l x p,k l x p=AC->C (.Assign l x p)):C x:=
 dE h λe=>EM (motive_2:=λx=>∀e,EM x e k=AC->C x) x e (λl x p _ h=>H l x p h) e
abbrev sX(x:BQ)(k:AQ->Pos->Bool):Bool:=if h:x.ctorIdx=24 then FH x h k else AG
def sX_{k:AQ->Pos->Bool}(h:sX x k=AC)(H:∀x p,k x p=AC->C (.Expr x p)):C x:=
 dE h λe=>FH (motive_2:=λx=>∀e,FH x e k=AC->C x) x e (λx p _ h=>H x p h) e
abbrev sI(x:BQ)(k:AQ->List BQ->List BQ->Pos->Bool):Bool:=if h:x.ctorIdx=12 then GB x h k else AG
def sI_{k:AQ->List BQ->List BQ->Pos->Bool}(h:sI x k=AC)(H:∀x a b p,k x a b p=AC->C (.If x a b p)):C x:=
 dE h λe=>GB (motive_2:=λx=>∀e,GB x e k=AC->C x) x e (λx a b p _ h=>H x a b p h) e
abbrev sR(x:BQ)(k:Option AQ->Pos->Bool):Bool:=if h:x.ctorIdx=3 then EN x h k else AG
def sR_{k:Option AQ->Pos->Bool}(h:sR x k=AC)(H:∀x p,k x p=AC->C (.Return x p)):C x:=
 dE h λe=>EN (motive_2:=λx=>∀e,EN x e k=AC->C x) x e (λx p _ h=>H x p h) e
abbrev sF(x:BQ)(k:AQ->AQ->List BQ->List BQ->Pos->Bool):Bool:=if h:x.ctorIdx=9 then FZ x h k else AG
def sF_{k:AQ->AQ->List BQ->List BQ->Pos->Bool}(h:sF x k=AC)(H:∀g x a b p,k g x a b p=AC->C (.For g x a b p)):C x:=
 dE h λe=>FZ (motive_2:=λx=>∀e,FZ x e k=AC->C x) x e (λg x a b p _ h=>H g x a b p h) e
abbrev sW(x:BQ)(k:AQ->List BQ->List BQ->Pos->Bool):Bool:=if h:x.ctorIdx=11 then Ec x h k else AG
def sW_{k:AQ->List BQ->List BQ->Pos->Bool}(h:sW x k=AC)(H:∀x a b p,k x a b p=AC->C (.While x a b p)):C x:=
 dE h λe=>Ec (motive_2:=λx=>∀e,Ec x e k=AC->C x) x e (λx a b p _ h=>H x a b p h) e
abbrev sC(x:BQ)(k:Pos->Bool):Bool:=if h:x.ctorIdx=27 then Ds x h k else AG
def sC_{k:Pos->Bool}(h:sC x k=AC)(H:∀p,k p=AC->C (.Continue p)):C x:=
 dE h λe=>Ds (motive_2:=λx=>∀e,Ds x e k=AC->C x) x e (λp _ h=>H p h) e
abbrev sP(x:BQ)(k:Pos->Bool):Bool:=if h:x.ctorIdx=25 then FI x h k else AG
def sP_{k:Pos->Bool}(h:sP x k=AC)(H:∀p,k p=AC->C (.Pass p)):C x:=
 dE h λe=>FI (motive_2:=λx=>∀e,FI x e k=AC->C x) x e (λp _ h=>H p h) e
abbrev sA1(s:BQ)(k:AQ->AQ->Bool):Bool:=sA s λl x _=>l1 l λt=>k t x
def af6{s:BQ}{k:AQ->AQ->Bool}{C:BQ->Prop}(h:sA1 s k=AC)(H:∀t x p,k t x=AC->C (.Assign [t] x p)):C s:=
 sA_ h λl x p h=>l1_ (C:=λl=>C (.Assign l x p)) h λt h=>H t x p h
mutual
noncomputable def mS:S->BN->List Str->BQ->Bool
 |.set i e,sc,N,s=>sA1 s λt x=>mE e sc N x&&xN t λy _=>(N[i]?==AA y)&&(D7 sc y&&!(N.contains (u0 y)))
 |.pre _,_,_,_=>AG
 |.put o i v,sc,N,s=>sA1 s λt x=>(mE v sc N x&&L4 x)&&xS t λp q _=>mE o sc N p&&mE i sc N q
 |.fldS o f v,sc,N,s=>sA1 s λt x=>(mE v sc N x&&L4 x)&&xA t λp g _=>(g==f)&&mE o sc N p
 |.ex e,sc,N,s=>sX s λx _=>mE e sc N x&&L4 x
 |.iff c a b,sc,N,s=>sI s λx p q _=>(mE c sc N x&&u5 x)&&(mSs a sc N p&&mSs b sc N q)
 |.ret e,sc,N,s=>sR s λx _=>DQ (motive:=λ_=>Bool) x AG (mE e sc N)
 |.retN,_,_,s=>sR s λx _=>x.isNone
 |.for t it b,sc,N,s=>sF s λtg x p q _=>q.isEmpty&&(mTg AC t sc N tg&&(mIt it sc N tg x&&mSs b sc N p))
 |.while c b,sc,N,s=>sW s λx p q _=>q.isEmpty&&((mE c sc N x&&u5 x)&&mSs b sc N p)
 |.cont,_,_,s=>sC s λ_=>AC
 |.dead,_,_,_=>AC
 |.pass,_,_,s=>sP s λ_=>AC
noncomputable def mSs:Ss->BN->List Str->List BQ->Bool
 |.nil,_,_,l=>l.isEmpty
 |.cons s r,sc,N,l=>DP (motive:=λ_=>Bool) l AG λx xs=>mS s sc N x&&mSs r sc N xs
end
abbrev mFB(b:Ss)(sc:BN)(N:List Str)(fb:Hx):Prop:=N.contains o6=AG/\match fb with
 |.stmts l=>mSs b sc N l=AC
 |.expr x=>∃e,b=.cons (.ret e) .nil/\mE e sc N x=AC
@[reducible]noncomputable def HF(X:Cx):Prop:=∀y,Loc X.env.scope y->X.N.contains (u0 y)=AG->X.fn y=AC\/X.env.scope.names.lookup y=AA .local
def cj2{e:E}:mE e sc N (.SetComp el gs scope p)=AG:=by cases e<;>rfl
def ce9{e:E}{a b:AQ}:mE e sc N (.DictComp a b gs scope p)=AG:=by cases e<;>rfl
def cf8{e:E}(h:mE e sc N (.ListComp el gs scope p)=AC):∃Nc fr k t it c e',e=.comp Nc fr k t it c e':=by
 cases e<;>first|exact⟨_,_,_,_,_,_,_,rfl⟩|exact absurd h AL
def S0{x:AQ}{t:Option AQ}{n:Nat}(h:L4 x=AC):Cu x t n env=pure AG:=by
 cases x<;>first|rfl|cases h
def b18{x t:AQ}{n:Nat}(h:L4 x=AC):FJ [t] x n env=pure AG:=by
 rw[FJ];exact S0 h
def bl5{py:Pos}{y:Str}{n:Nat}:∃b,Cu (.ListComp el gs scope p) (AA (.Name y py)) n env=pure b:=⟨_,rfl⟩
mutual
theorem ck2(Z:Sg)(hm:∀(b:Ss)(sc:BN)(N:List Str)(l:List BQ),mSs b sc N l=AC->N.contains o6=AG->Tbs.mt b sc N (.stmts l)):∀(s:S)(X:Cx)(x:BQ),XOk Z X->HF X->mS s X.env.scope X.N x=AC->PS X x (upS X.K (wpS Z s))
 |.set i e,X,x,hX,hf,h=>af6 (C:=λx=>PS X x (upS X.K (wpS Z (.set i e)))) h λtx v pos h=>xN_ (C:=λtx=>PS X (.Assign [tx] v pos) (upS X.K (wpS Z (.set i e)))) (an h).2 λy py h2=>by
  have h3:=(an h).1;have ie:=b9 Z e X v hX h3;have h1:=beq_iff_eq.1 (an h2).1;have hl:=T7 (an (an h2).2).1;have hf:=hf y hl (nt (an (an h2).2).2)
  by_cases hc:L4 v=AC
  ·exact ad5 hX.nd h1 hl ie.v (S0 hc) hf
  ·cases v with
   |ListComp el gs scope p=>
    obtain⟨b,hb⟩:=bl5 (el:=el) (gs:=gs) (scope:=scope) (p:=p) (py:=py) (y:=y) (n:=pos.line) (env:=X.env);cases b with
    |false=>exact ad5 hX.nd h1 hl ie.v hb hf
    |true=>
     obtain⟨Nc,fr,k,t,it,c,e,rfl⟩:=cf8 h3;revert hb;refine l1_ (C:=λgs=>Cu (.ListComp el gs scope p) (AA (.Name y py)) pos.line X.env=pure AC->PS X (.Assign [.Name y py] (.ListComp el gs scope p) pos) (upS X.K (wpS Z (.set i (.comp Nc fr k t it c e))))) h3 λg h hb=>?_;obtain⟨tg,itx,ifs,n⟩:=g;obtain⟨h0,h⟩:=an h;cases(beq_iff_eq.1 h0:n=0);obtain⟨g1,h⟩:=an h;obtain⟨g2,h⟩:=an h;obtain⟨g3,h⟩:=an h;have Sc:=ak9 g1;exact PS.imp (bm0 hX.calm hX.nd h1 hl hf Sc (af2 Z it X tg itx hX g2)
      (λC fp pins s H=>ae4 (X:=X.comp scope Nc C fp pins s H) (ow:=AG) hX.calm Sc.nd nofun g3)
      (λC fp pins s H=>bh6 (X:=X.comp scope Nc C fp pins s H) (an h).2 λx h=>b9 Z c (X.comp scope Nc C fp pins s H) x (hX.comp (Q9 g1) Sc C fp pins s H) h)
      (λC fp pins s H=>(b9 Z e (X.comp scope Nc C fp pins s H) el (hX.comp (Q9 g1) Sc C fp pins s H) (an h).1).v) hb (af3 g2)) λF σ H⟨env,st,Fd,hE,hS,ht',hq⟩=>
      al9 ⟨env,st,(λd st'=>Fd.nx (env.set i (AA d)) st'),hE,hS,ht',λv d H' st' ev is rs q=>hq.nx _ _ H' st' ev ((hE.mono (ev.tk hS)).set is i) rs q⟩
   |SetComp el gs scope p=>exact(AL (cj2.symm.trans h3)).elim
   |DictComp a b gs scope p=>exact(AL (ce9.symm.trans h3)).elim
   |_=>exact absurd rfl hc
 |.pre i,X,x,hX,hf,h=>(AL h).elim
 |.put o i v,X,x,hX,hf,h=>af6 (C:=λx=>PS X x (upS X.K (wpS Z (.put o i v)))) h λtx y pos h=>xS_ (C:=λtx=>PS X (.Assign [tx] y pos) (upS X.K (wpS Z (.put o i v)))) (an h).2 λp q ps h2=>by
  have iq:=b9 Z i X q hX (an h2).2;refine cd5 (b9 Z v X y hX (an (an h).1).1).v (b9 Z o X p hX (an h2).1).v iq.v (λw=>?_) (b18 (an (an h).1).2) rfl;cases q<;>first|rfl|exact absurd rfl (iq.sl _ _ _ _)
 |.fldS o f v,X,x,hX,hf,h=>af6 (C:=λx=>PS X x (upS X.K (wpS Z (.fldS o f v)))) h λtx y pos h=>xA_ (C:=λtx=>PS X (.Assign [tx] y pos) (upS X.K (wpS Z (.fldS o f v)))) (an h).2 λp g ps h2=>by
  cases beq_iff_eq.1 (an h2).1;exact b08 (hX.cls _) (b9 Z v X y hX (an (an h).1).1).v (b9 Z o X p hX (an h2).2).v (S0 (an (an h).1).2)
 |.ex e,X,x,hX,hf,h=>sX_ (C:=λx=>PS X x (upS X.K (wpS Z (.ex e)))) h λx p h=>(by exact cf1 (b9 Z e X _ hX (an h).1).v (S0 (an h).2))
 |.iff c a b,X,x,hX,hf,h=>sI_ (C:=λx=>PS X x (upS X.K (wpS Z (.iff c a b)))) h λx p q ps h=>
  (by exact cj3 ((b9 Z c X _ hX (an (an h).1).1).t (an (an h).1).2) (C2 Z hm a X _ hX hf (an (an h).2).1) (C2 Z hm b X _ hX hf (an (an h).2).2))
 |.ret e,X,x,hX,hf,h=>sR_ (C:=λx=>PS X x (upS X.K (wpS Z (.ret e)))) h λx p h=>by
  cases x with
  |none=>exact(AL h).elim
  |some x=>exact b92 (b9 Z e X _ hX h).v
 |.retN,X,x,hX,hf,h=>sR_ (C:=λx=>PS X x (upS X.K (wpS Z .retN))) h λx p h=>by
  cases x with
  |some _=>exact(AL h).elim
  |none=>exact bx9
 |.for t it b,X,x,hX,hf,h=>sF_ (C:=λx=>PS X x (upS X.K (wpS Z (.for t it b)))) h λtg x p q ps h=>by
  cases q with
  |cons=>exact(AL h).elim
  |nil=>exact ca7 hX.pass hX.calm (af2 Z it X _ _ hX (an (an (an h).2).2).1) (ae4 hX.calm hX.nd (λ_=>hf) (an (an h).2).1) (C2 Z hm b X _ hX hf (an (an (an h).2).2).2) (af3 (an (an (an h).2).2).1)
 |.while c b,X,x,hX,hf,h=>sW_ (C:=λx=>PS X x (upS X.K (wpS Z (.while c b)))) h λx p q ps h=>by
  cases q with
  |cons=>exact(AL h).elim
  |nil=>exact bt8 hX.pass ((b9 Z c X _ hX (an (an (an h).2).1).1).t (an (an (an h).2).1).2) (C2 Z hm b X _ hX hf (an (an h).2).2)
 |.cont,X,x,hX,hf,h=>sC_ (C:=λx=>PS X x (upS X.K (wpS Z .cont))) h λ_ _=>(by exact b32)
 |.dead,X,x,hX,hf,h=>λ_ _ _ _ _ _⟨_,_,_,_,_,ht,_⟩=>ht.elim
 |.pass,X,x,hX,hf,h=>sP_ (C:=λx=>PS X x (upS X.K (wpS Z .pass))) h λ_ _=>(by exact b16)
theorem C2(Z:Sg)(hm:∀(b:Ss)(sc:BN)(N:List Str)(l:List BQ),mSs b sc N l=AC->N.contains o6=AG->Tbs.mt b sc N (.stmts l)):∀(l:Ss)(X:Cx)(xs:List BQ),XOk Z X->HF X->mSs l X.env.scope X.N xs=AC->PSs X xs (upS X.K (d4 Z l))
 |.nil,X,xs,hX,hf,h=>by
  cases xs with
  |nil=>exact b74
  |cons=>exact(AL h).elim
 |.cons s r,X,xs,hX,hf,h=>by
  cases xs with
  |nil=>exact(AL h).elim
  |cons x xs=>
   rw[d4];exact by8 (ck2 Z hm s X _ hX hf (an h).1) (C2 Z hm r X _ hX hf (an h).2)
end
end Ek
namespace Ek
open PySem PySem.Spec PyProof.Rows L2
variable [Tbs]
variable{mg:Str->Option AF}{f c:Str}{st:BQ}{ps:List Str}{a:AM}{fd:Bo}{w:BA}{H:Hp}{X:Cx}
abbrev mP(i:Nat)(sc:BN)(N:List Str):BQ->Bool
 |.Assign [.Name y _] (.Dict [] [] _) _=>(N[i]?==AA y)&&D7 sc y
 |_=>AG
abbrev mB:Ss->BN->List Str->List BQ->Bool
 |.cons (.pre i) r,sc,N,s::l=>mP i sc N s&&mB r sc N l
 |b,sc,N,l=>mSs b sc N l
structure Stat0(st:BQ)(d:Def)(ps:List Str):Prop where
 sc:FnScope d.N ps (l7 st)
 np:ps.length=d.np
 body:mB d.body (l7 st) d.N (x9 st)=AC
structure Stat(st:BQ)(d:Def)(ps:List Str)(x f:Str):Prop extends Stat0 st d ps where
 bind:∀(kV doc pm:AF)(an:Option AM)(cdv ct:AF)(us:List AF),us.length=ps.length->Gc (Fm x f (B6 st) (x9 st) (l7 st) .none kV doc pm an cdv ct) ⟨us,[]⟩=pure (ps.zip us)
structure FunD(K:AR)(x qual:Str)(st:BQ)(f:AM)(fd:Bo):Prop where
 ex:∃(oc:AF)(od:Option AM)(dV kV doc pm:AF)(an:Option AM)(cdv ct:AF)(osl:Array (Option AF)),
  fd=Fm x qual (B6 st) (x9 st) (l7 st) dV kV doc pm an cdv ct/\K.lookup f=AA ⟨oc,od,.func fd,osl⟩/\EU K cdv qual=AC
 kp:CA K (.ref f)=AC
structure DefAt(K:AR)(f:Str)(d:Def)(a:AM)(fd:Bo)(ps:List Str):Prop where
 ex:∃(st:BQ)(x:Str),FunD K x f st a fd/\Stat0 st d ps
 bd:m8 K fd ps []
 lam:d.N.contains o6=AC->∃c P,fd.code=.ref c/\DI K c P=AC/\P∈Tbs.ps
structure DefOk(K:AR)(mg:Str->Option AF)(f:Str)(d:Def):Prop where
 ex:∃(a:AM)(fd:Bo)(ps:List Str),DefAt K f d a fd ps/\mg f=AA (.ref a)/\Ay K AS f=AA (AA (.ref a))/\∀us:List AF,us.length=ps.length->Gc fd ⟨us,[]⟩=pure (ps.zip us)
structure MthOk(K:AR)(mg:Str->Option AF)(df:Option Int)(c m:Str)(d:Def):Prop where
 ex:∃(Ca a:AM)(fd:Bo)(ps:List Str),DefAt K (d3 c m) d a fd ps/\Ay K AS c=AA (AA (.ref Ca))/\mg c=AA (.ref Ca)/\Cls K Ca/\Meth K Ca m a/\(m="__init__"->Mk K Ca a)/\∀i,df=AA i->∃tk,m8 K fd ps [.int i tk]
 nom:Ay K AS (d3 c m)=AA AE
theorem B8:∀{a b a' b':List Nat},(46:Nat)∉a'->(46:Nat)∉b'->a++46::b=a'++46::b'->a=a'/\b=b'
 |[],b,[],b',_,_,h=>⟨rfl,by simpa using h⟩
 |[],b,x::a',b',h1,_,h=>by
  simp only[Do,Bm,As]at h;exact absurd (h.1▸Bv) h1
 |x::a,b,[],b',_,h2,h=>by
  simp only[Do,Bm,As]at h;exact absurd (h.2▸BD _ Bv) h2
 |x::a,b,y::a',b',h1,h2,h=>by
  simp only[Bm,As]at h;obtain⟨e,f⟩:=B8 (λz=>h1 (BJ _ z)) h2 h.2;exact⟨by rw[h.1,e],f⟩
def b96{K:AR}{h:Az}{d:Def}{fa:AM}{od an:Option AM}{sl:Array (Option AF)}{oc kV dc pm cd ct:AF}(X:K.In h)(G:h.Ns AS mg)(S:Stat st d ps f f)
  (a1:Ay K AS f=AA (AA (.ref fa))) (l1:K.lookup fa=AA ⟨oc,od,.func (Fm f f (B6 st) (x9 st) (l7 st) .none kV dc pm an cd ct),sl⟩) (c1:EU K cd f=AC) (k1:CA K (.ref fa)=AC)
  (m1:d.N.contains o6=AC->∃c P,cd=.ref c/\DI K c P=AC/\P∈Tbs.ps:=by exact λh=>absurd h (by decide+kernel)):DefOk K mg f d:=
 ⟨fa,_,ps,⟨⟨st,f,⟨⟨_,_,_,_,_,_,_,_,_,_,rfl,l1,c1⟩,k1⟩,S.toStat0⟩,.all (S.bind kV dc pm an cd ct),m1⟩,EX X G a1,a1,S.bind kV dc pm an cd ct⟩
def b93{K:AR}{h:Az}{m:Str}{d:Def}{Ca fa:AM}{od an:Option AM}{sl:Array (Option AF)}{oc kV dc pm cd ct:AF}{df:Option Int}(X:K.In h)(G:h.Ns AS mg)(S:Stat st d ps m (d3 c m))
  (a0:Ay K AS (d3 c m)=AA AE) (a1:Ay K AS c=AA (AA (.ref Ca))) (hc:Cls K Ca) (hm:Meth K Ca m fa) (hi:m="__init__"->Mk K Ca fa)
  (l1:K.lookup fa=AA ⟨oc,od,.func (Fm m (d3 c m) (B6 st) (x9 st) (l7 st) .none kV dc pm an cd ct),sl⟩) (c1:EU K cd (d3 c m)=AC)
  (m1:d.N.contains o6=AC->∃c P,cd=.ref c/\DI K c P=AC/\P∈Tbs.ps:=by exact λh=>absurd h (by decide+kernel)) (hdf:df=AE:=by decide+kernel):MthOk K mg df c m d:=
 ⟨⟨Ca,fa,_,ps,⟨⟨st,m,⟨⟨_,_,_,_,_,_,_,_,_,_,rfl,l1,c1⟩,hm.kp⟩,S.toStat0⟩,.all (S.bind kV dc pm an cd ct),m1⟩,a1,EX X G a1,hc,hm,hi,λi h=>by rw[hdf]at h;cases h⟩,a0⟩
def DefAt.binds{K:AR}{d:Def}(D:DefAt K f d a fd ps):m8 K fd ps []:=D.bd
theorem DefAt.kp{K:AR}{d:Def}(D:DefAt K f d a fd ps):CA K (.ref a)=AC:=by
 obtain⟨st,x,F,S⟩:=D.ex;exact F.kp
structure AllOk(Pr:Ag)(w:BA)(K:AR)(mg:Str->Option AF)(P:d7)(G:Gs):Prop where
 fns:∀f d,P f=AA d->isM f=AG->DefOk K mg f d
 mts:∀f d,P f=AA d->isM f=AC->∃c m,f=d3 c m/\isM c=AG/\isM m=AG/\MthOk K mg (M0 G.cls (d3 c m)) c m d
 cls:∀f c Ca,Ay K AS c=AA (AA (.ref Ca))->f∈G.cls c->Cls K Ca/\y8 K Ca f
 blt:∀b∈G9,mg b=AE
 tabs:∀g,G.tab g≠[]->GTab Pr w K mg g (G.tab g)
 cst:∀g d,G.cst g=AA d->∃u,mg g=AA u/\v3 K d u=AC
 isc:∀c∈G.cls "!is",∃Ca,mg c=AA (.ref Ca)/\IscOk K c Ca
 kt:Tbs.kt=(G.cls "!kt").isEmpty
def bw1{m:Str}:isM (d3 c m)=AC:=by
 unfold isM d3;simp
def bw0{m c' m':Str}(h1:isM c'=AG)(h2:isM m'=AG)(h:d3 c m=d3 c' m'):c=c'/\m=m':=by
 unfold isM at h1 h2;unfold d3 at h;have h':=congrArg (λs:Str=>s.cps.toList) h;simp only[Array.toList_append,Ba,Ge]at h';have e:=B8 (by simpa using h1) (by simpa using h2) h';exact⟨by cases c;cases c';simpa using e.1,by cases m;cases m';simpa using e.2⟩
def AllOk.mth{Pr:Ag}{K:AR}{P:d7}{G:Gs}(h:AllOk Pr w K mg P G){m:Str}{d:Def}(e:P (d3 c m)=AA d):MthOk K mg (M0 G.cls (d3 c m)) c m d:=by
 obtain⟨c',m',e',h1,h2,M⟩:=h.mts _ d e bw1;obtain⟨rfl,rfl⟩:=bw0 h1 h2 e';exact M
def bp3{K:AR}{d:Def}{ds:List D}{vs:List V}(r:IsDs K H ds vs):RelE K H (T9 d ds) (L2.o7 d.N vs):=aj2 r
def ap0{pins:List (AM×Obj)}{σ:L2.St}{s:AK}(I:L2.Inv X pins σ H s)(hfn:∀x,X.fn x=AC)(g k:Str->Bool)(e:AF->AK->Prop):L2.Inv {X with fn:=g,ow:=k,xe:=e} pins σ H s:=
 ⟨⟨I.ok.mod,I.ok.kind,I.ok.glob,I.ok.blt,I.ok.above,I.ok.inj,I.ok.has,λx c _ h=>I.ok.cab x c (.inl (hfn x)) h,I.ok.hd,I.ok.frames,I.ok.stk,I.ok.exf,I.ok.bs,I.ok.bsz,I.ok.noex,I.ok.exfs,I.ok.funs,I.ok.frf⟩,I.os,I.bare,I.base,I.loc,I.cell,I.free,
  λx c h=>.inl ((I.freeC x c h).resolve_right λz=>by rw[hfn x]at z;exact absurd z.1 ∅),I.pin,I.hok,I.len⟩
abbrev Cxa(X:Cx):Cx:={X with fn:=λ_=>AC}
def N6{pins:List (AM×Obj)}{σ:L2.St}{s:AK}(I:L2.Inv (Cxa X) pins σ H s):L2.Inv X pins σ H s:=ap0 I (λ_=>rfl) X.fn X.ow X.xe
abbrev G4(X:Cx)(l:List BQ)(t:TS):Prop:=∀(pins:List (AM×Obj))(s:AK)(σ:L2.St)(H:Hp)(D:Ends),Inv (Cxa X) pins σ H s->t D σ H->AU (model X.prog X.w) X.A (execs l X.env) (SP X pins D) X.xe s
def G4.cons{x:BQ}{c8:List BQ}{t u:DS}(h1:PS (Cxa X) x (upS X.K t))(h2:G4 X c8 (upS X.K u)):G4 X (x::c8) (upS X.K λF env st=>t {F with nx:=u F} env st):=by
 intro pins s σ H D I h;obtain⟨env,st,Fd,hE,hS,ht,hq⟩:=h;refine JC (thn (h1 pins s σ H {D with nx:=λσ' H'=>∃env' st',RelE X.K H' env' σ'/\RelS X.K st' H'/\u Fd env' st'/\EndsR X.K st' H' Fd D} I ⟨env,st,_,hE,hS,ht,⟨λenv' σ' H' st' ev hE' hS' q=>⟨env',st',hE',hS',q,hq.after ev⟩,hq.bk,hq.ct,hq.rt⟩⟩) λf s1 q=>?_);cases f with
 |next=>
  obtain⟨σ',H',I',env',st',e1,e2,e3,e4⟩:=q;exact h2 pins s1 σ' H' D I' ⟨env',st',Fd,e1,e2,e3,e4⟩
 |ret v=>obtain⟨v',σ',H',I',q⟩:=q;exact⟨v',σ',H',N6 I',q⟩
 |brk=>obtain⟨σ',H',I',q⟩:=q;exact⟨σ',H',N6 I',q⟩
 |cont=>obtain⟨σ',H',I',q⟩:=q;exact⟨σ',H',N6 I',q⟩
theorem bf9(Z:Sg)(hm:∀(b:Ss)(sc:BN)(N:List Str)(l:List BQ),mSs b sc N l=AC->N.contains o6=AG->Tbs.mt b sc N (.stmts l)){X:Cx}(hX:XOk Z X)(hF:HF X):∀(l:Ss)(xs:List BQ),mB l X.env.scope X.N xs=AC->G4 X xs (upS X.K (d4 Z l))
 |.nil,xs,h=>λpins s σ H D I q=>C2 Z hm .nil X xs hX hF h pins s σ H D (N6 I) q
 |.cons x r,xs,h=>by
  have old:mSs (.cons x r) X.env.scope X.N xs=AC->G4 X xs (upS X.K (d4 Z (.cons x r))):=λh pins s σ H D I q=>C2 Z hm (.cons x r) X xs hX hF h pins s σ H D (N6 I) q;cases x with
  |pre i=>
   cases xs with
   |nil=>exact old h
   |cons s l=>
    have h':(mP i X.env.scope X.N s&&mB r X.env.scope X.N l)=AC:=h;simp only[Aq]at h';obtain⟨h1,h2⟩:=h';unfold mP at h1
    split at h1
    ·simp only[Aq,beq_iff_eq]at h1;exact G4.cons (t:=λF env st=>∀p,st p=AE->F.nx (env.set i (AA (.ref p))) (b0 st p (.dct []))) (PS.imp (ad5 (X:=Cxa X) hX.nd h1.1 (T7 h1.2) cc7 rfl (.inl rfl)) λF σ H q=>q) (bf9 Z hm hX hF r l h2)
    ·cases h1
  |_=>exact old h
abbrev cxF(P:Ag)(w:BA)(K:AR)(mg:Str->Option AF)(base:Az)(N:List Str)(qual:Str)(scope:BN)(f:AM)(cd:AF)(A:BO)(outer:List Env)(s:AK)(H:Hp):Cx:=
 {W3 CX0 P w K mg base N qual scope f cd A outer s H E0 with fn:=λy=>!(N.contains (u0 y)),ow:=λ_=>AC,xe:=λ_ _=>False}
def b56{P:Ag}{K:AR}{base:Az}{k:Nat}{f:AM}{x qual:Str}{N:List Str}{sp:Sp}(F:FunD K x qual st f fd)(S:FnScope N ps (l7 st))
  (len:∀vs H Q E,sp vs H Q E->vs.length=ps.length)
  (hbody:∀(A:BO)(outer:List Env)(s:AK)(H:Hp)(vs:List V)(Q:VK)(E:XK),Room k (A.deeper (Fx qual (l7 st) s.heap.objs.size f fd.code))->sp vs H Q E ->
   ∃t,G4 (cxF P w K mg base N qual (l7 st) f fd.code A outer s H) (x9 st) t/\t {nx:=λ_ H'=>Q .non H',rt:=Q} (L2.o7 N vs) H) :
  FnOk P w K mg base CX0 (k+1) f fd ps sp:=by
 obtain⟨oc,od,dV,kV,doc,pm,an,cdv,ct,osl,rfl,lk,hcd⟩:=F.ex;refine⟨len,λA outer s H args us vs Q E hr e0 hb r hsp=>?_⟩;have hl:=len _ _ _ _ hsp;have KX:K.In s.heap:=e0.mod.kin.keeps λb o e=>(e0.bs b o e).1;have lim:s.heap.NoLimit:=e0.mod.nolimit.keeps λb o e=>(e0.bs b o e).1;have hkind:∀y∈ps.zip us,(l7 st).names.lookup y.1=AA .local\/((l7 st).names.lookup y.1=AA .cell/\((JI (s.heap.objs.size+1) (l7 st).names []).lookup y.1).isSome=AC):=λ⟨n,v⟩hy=>by
  rcases S.par n (FQ hy).1 with q|q
  ·exact .inl q
  ·exact .inr ⟨q,IW _ _ _ (.inl q)⟩
 refine codeAny_call_function hr.depth (KX _ _ lk) rfl S.co S.gen rfl (W.codeRec_of KX hcd) (hb _ _ _ _ ?_);refine wpAny_newFunctionEnv_cells S.kind hkind λenv he s1 x=>?_;subst he;refine⟨lim.keeps x.toInCall.keep,codeAny_func ?_⟩;obtain⟨t,ht,hq⟩:=hbody A outer s H vs Q E (hr.deeper _) hsp;have I0:Inv (W3 CX0 P w K mg base N qual (l7 st) f cdv A outer s H E0) [] (L2.o7 N vs) H s1:=bn9 S hr.hd e0 hl r x;have I:Inv (Cxa (cxF P w K mg base N qual (l7 st) f cdv A outer s H)) [] (L2.o7 N vs) H s1:=ap0 I0 (λ_=>rfl) _ _ _;refine BX (ht [] s1 (L2.o7 N vs) H _ I hq) (λfl s' hs=>?_) λe s' hs=>AX hs;have fin:∀{σ':L2.St}{H':Hp}{v:V}{u:AF},Inv (cxF P w K mg base N qual (l7 st) f cdv A outer s H) [] σ' H' s'->c9 v u->Q v H'->CE outer P w H s Q u s':=
  λ{σ' H' v u}J rv q=>⟨v,H',J.os,J.bare,J.base,J.hok,rv,q⟩
 cases fl with
 |ret u=>
  obtain⟨v,σ',H',J,rv,q⟩:=hs;exact fin J rv q
 |next=>
  obtain⟨σ',H',J,q⟩:=hs;exact fin (v:=V.non) (u:=Bd) J rfl q
 |brk=>
  obtain⟨_,_,_,q⟩:=hs;exact AX q
 |cont=>
  obtain⟨_,_,_,q⟩:=hs;exact AX q
section
variable {Pr:Ag} {K:AR} {base:Az} {P:d7} {G:Gs}
structure LvOk(Pr:Ag)(w:BA)(K:AR)(mg:Str->Option AF)(base:Az)(P:d7)(G:Gs)(n:Nat):Prop where
 fn:∀m,m<=n->∀(f:Str)(d:Def),P f=AA d->∀(a:AM)(fd:Bo)(ps:List Str),DefAt K f d a fd ps->FnOk Pr w K mg base CX0 m a fd ps (t8 K (sem P G m f))
 clo:∀np N b cs fa fd ps,CloF fd np N ps b->FnOk Pr w K mg base CX0 n fa fd ps (O7 K fa fd np N cs (P8 P G n np N b cs))
@[reducible]noncomputable def Zl(P:d7)(G:Gs)(n:Nat):Sg:=⟨λf=>(P f).isSome,sem P G n,G.tab,G.cls,(o4 P G n).2.1,λf=>(o4 P G n).2.2.1&&(P f).isSome,P8 P G n,G.cst⟩
def aw1{n:Nat}(hA:AllOk Pr w K mg P G)(L:LvOk Pr w K mg base P G n)(e1:X.prog=Pr)(e2:X.w=w)(e3:X.K=K)(e4:X.mg=mg)(e5:X.base=base)(hr:Room n X.A)(calm:X.calm=AC)(xe:X.xe=λ_ _=>False)(nd:X.N.Nodup)
  (lam:X.N.contains o6=AC->LamOk X/\∀x,X.N.contains (u0 x)=AC->X.fn x=AG/\X.ow x=AC)
  (mt:∀b sc N fb,mFB b sc N fb->Tbs.mt b sc N fb):XOk (Zl P G n) X where
 calm:=calm
 xe:=xe
 units:=by have:=hr.un;lia
 nd:=nd
 blt:=by rw[e4];exact hA.blt
 fns:=λg hi hg=>by
  obtain⟨dg,hdg⟩:=BM.mp hg;obtain⟨ag,fdg,pg,Dg,mgg,nsg,_⟩:=(hA.fns g dg hdg hi).ex;refine⟨n,ag,fdg,pg,?_,hr,by rw[e4];exact mgg,by rw[e3];exact Dg.kp,by rw[e3];exact Dg.binds,by rw[e3];exact nsg⟩;rw[e1,e2,e3,e4,e5];exact L.fn n (Af _) g dg hdg ag fdg pg Dg
 nom:=λg ga hg hn=>by
  obtain⟨dg,hdg⟩:=BM.mp hg;cases e:isM g with
  |false=>rfl
  |true=>
   obtain⟨c,m,rfl,_,_,M⟩:=hA.mts g dg hdg e;rw[e3,M.nom]at hn;cases hn
 cls:=by rw[e3];exact hA.cls
 mth:=λm c Ca hc hg=>by
  obtain⟨dg,hdg⟩:=BM.mp hg;obtain⟨Ca',ag,fdg,pg,Dg,nsc,mgc,C1,M1,I1,_⟩:=(hA.mth hdg).ex;rw[e3,nsc]at hc;cases hc;refine⟨n,ag,fdg,pg,by rw[e3];exact C1,by rw[e3];exact M1,?_,hr,by rw[e3];exact Dg.binds⟩;rw[e1,e2,e3,e4,e5];exact L.fn n (Af _) _ dg hdg ag fdg pg Dg
 mthd:=λm c Ca i hc hg hi=>by
  obtain⟨dg,hdg⟩:=BM.mp hg;obtain⟨Ca',ag,fdg,pg,Dg,nsc,mgc,C1,M1,I1,D1⟩:=(hA.mth hdg).ex;rw[e3,nsc]at hc;cases hc;obtain⟨tk,hb⟩:=D1 i hi;refine⟨n,ag,fdg,pg,tk,by rw[e3];exact C1,by rw[e3];exact M1,?_,hr,by rw[e3];exact hb⟩;rw[e1,e2,e3,e4,e5];exact L.fn n (Af _) _ dg hdg ag fdg pg Dg
 mks:=λc hg=>by
  simp only[Aq]at hg;obtain⟨dg,hdg⟩:=BM.mp hg.2;obtain⟨Ca',ag,fdg,pg,Dg,nsc,mgc,C1,M1,I1,_⟩:=(hA.mth hdg).ex;cases n with
  |zero=>exact absurd hg.1 AL
  |succ m=>
   refine⟨Ca',m,ag,fdg,pg,by rw[e3];exact nsc,by rw[e3];exact I1 rfl,?_,hr,by rw[e4];exact mgc,by rw[e3];exact Dg.binds⟩;rw[e1,e2,e3,e4,e5];exact L.fn m (GN _) _ dg hdg ag fdg pg Dg
 tabs:=by rw[e1,e2,e3,e4];exact hA.tabs
 cst:=by rw[e3,e4];exact hA.cst
 isc:=by rw[e3,e4];exact hA.isc
 kt:=hA.kt
 lam:=lam
 mtE:=λe sc N x h1 h2=>mt _ _ _ _ ⟨h2,e,rfl,h1⟩
 clo:=λnp N b cs fa fd ps cf=>⟨n,by rw[e1,e2,e3,e4,e5];exact L.clo np N b cs fa fd ps cf,hr⟩
def b20:LvOk Pr w K mg base P G 0:=by
 refine⟨λm hm f d hf a fd ps D=>?_,λnp N b cs fa fd ps cf=>?_⟩
 ·obtain rfl:m=0:=by lia
  have no:∀vs H Q E,¬t8 K (sem P G 0 f) vs H Q E:=λvs H Q E h=>by
   obtain⟨ds,s0,Qd,_,_,h,_⟩:=h;exact h
  exact⟨λvs H Q E h=>absurd h (no vs H Q E),λA outer s H args us vs Q E _ _ _ _ h=>absurd h (no vs H Q E)⟩
 ·have no:∀vs H Q E,¬O7 K fa fd np N cs (P8 P G 0 np N b cs) vs H Q E:=λvs H Q E h=>by
   obtain⟨us0,ds,st,Qd,_,_,_,_,h,_⟩:=h;exact h
  exact⟨λvs H Q E h=>absurd h (no vs H Q E),λA outer s H args us vs Q E _ _ _ _ h=>absurd h (no vs H Q E)⟩
def b15{n:Nat}(hA:AllOk Pr w K mg P G)(hb0:L3 mg base)(hK0:K.In base)(mt:∀b sc N fb,mFB b sc N fb↔Tbs.mt b sc N fb)(L:LvOk Pr w K mg base P G n):LvOk Pr w K mg base P G (n+1):=by
 have hmS:∀(b:Ss)(sc:BN)(N:List Str)(l:List BQ),mSs b sc N l=AC->N.contains o6=AG->Tbs.mt b sc N (.stmts l):=λb sc N l h1 h2=>(mt _ _ _ _).mp ⟨h2,h1⟩;refine⟨λm hm f d hf a fd ps D=>?_,λnp N b cs fa fd ps cf=>?_⟩
 ·by_cases hmn:m<=n
  ·exact L.fn m hmn f d hf a fd ps D
  obtain rfl:m=n+1:=by lia
  obtain⟨st,x,F,S⟩:=D.ex;refine b56 F S.sc (λvs H Q E h=>?_) (λA outer s H vs Q E hr h=>?_)
  ·obtain⟨ds,s0,Qd,is,_,hs,_⟩:=h;obtain⟨d',hd',hl,_⟩:=hs;rw[hf]at hd';cases hd';rw[<-is.len,hl,S.np]
  ·obtain⟨ds,s0,Qd,is,rs,hs,hq⟩:=h;obtain⟨d',hd',hl,hb⟩:=hs;rw[hf]at hd';cases hd';have hX:XOk (Zl P G n) (cxF Pr w K mg base d.N f (l7 st) a fd.code A outer s H):=aw1 hA L rfl rfl rfl rfl rfl hr rfl rfl S.sc.nd (λhl=>by
    obtain⟨c,P',e1,e2,e3⟩:=D.lam hl;refine⟨⟨⟨c,P',e1,Jb hK0 e2,e3⟩,hb0⟩,λx hx=>⟨?_,rfl⟩⟩;show(!(d.N.contains (u0 x)))=AG;have hx':d.N.contains (u0 x)=AC:=hx;rw[hx'];rfl) λb sc N fb=>(mt b sc N fb).mp
   have hF:HF (cxF Pr w K mg base d.N f (l7 st) a fd.code A outer s H):=λy _ hy=>.inl (by
    show(!(d.N.contains (u0 y)))=AC;have hy':d.N.contains (u0 y)=AG:=hy;rw[hy'];rfl)
   refine⟨_,bf9 _ hmS hX hF d.body _ S.body,T9 d ds,s0,_,bp3 is,rs,hb,λenv σ H' st' ev hE hS q=>?_,λenv σ H' st' ev hE hS q=>q.elim,λenv σ H' st' ev hE hS q=>q.elim,λv e H' st' ev is' rs' q=>?_⟩
   ·obtain⟨s2,sub,q⟩:=q;exact hq _ .non H' s2 (ev.drop sub) .non (hS.sub sub) q
   ·obtain⟨s2,sub,q⟩:=q;exact hq v e H' s2 (ev.drop sub) is' (rs'.sub sub) q
 ·refine cc4 (Z:=Zl P G n) cf λq A outer s H hr=>?_;obtain⟨hnl,hfb⟩:=(mt _ _ _ _).mpr cf.mt;have hX:XOk (Zl P G n) (cxC Pr w K mg base N fd.scope fd.closure q fa fd.code A outer s H):=aw1 hA L rfl rfl rfl rfl rfl hr rfl rfl cf.sc.nd (λhl=>by
   have hl':N.contains o6=AC:=hl;rw[hnl]at hl';cases hl') λb sc N fb=>(mt b sc N fb).mp
  have hF:HF (cxC Pr w K mg base N fd.scope fd.closure q fa fd.code A outer s H):=λy hy _=>by
   have hy':fd.scope.names.lookup y=AA .local\/fd.scope.names.lookup y=AA .cell:=hy
   rcases hy' with z|z
   ·exact .inr z
   ·exact absurd rfl (cf.sc.nocell _ (PySem.mem_of_lookup z))
  cases hb:fd.body with
  |stmts l=>rw[hb]at hfb;exact C2 _ hmS b _ l hX hF hfb
  |expr x=>
   rw[hb]at hfb;obtain⟨e,rfl,he⟩:=hfb;exact⟨e,rfl,(b9 _ e _ x hX he).v⟩
theorem a07(hA:AllOk Pr w K mg P G)(hb0:L3 mg base)(hK0:K.In base)(mt:∀b sc N fb,mFB b sc N fb↔Tbs.mt b sc N fb):∀n,LvOk Pr w K mg base P G n
 |0=>b20
 |n+1=>b15 hA hb0 hK0 mt (a07 hA hb0 hK0 mt n)
end
abbrev st0(a:AM)(ns:List Int):Sto:=λb=>if b=a then AA (.fro (ns.map D.int))else AE
theorem al7{K:AR}:∀ns:List Int,IsDs K H (ns.map D.int) (ns.map V.int)
 |[]=>.nil
 |n::r=>.cons (.int n) (al7 r)
abbrev J2(K:AR):Bool:=K.all λp=>!(p.2.cls==.type "list")
def aj5{K:AR}{o:Obj}(h:J2 K=AC)(e:K.lookup a=AA o):o.cls≠.type "list":=by
 unfold J2 at h;rw[Dx]at h;have hm:(a,o)∈K:=by
  induction K with
  |nil=>cases e
  |cons p r ih=>
   obtain⟨b,x⟩:=p;rw[GF]at e;cases q:a==b with
   |true=>rw[q]at e;cases e;rw[beq_iff_eq.mp q];exact Bv
   |false=>rw[q]at e;exact BJ _ (ih (λp hp=>h p (BJ _ hp)) e)
 have:=h _ hm;simpa using this
end Ek
namespace Ek
open PySem PySem.Spec PyProof.Rows L2
def bp5{P:Ag}{w:BA}{K:AR}{mg mb:Str->Option AF}{k:Nat}{fa a:AM}{fd:Bo}{x:Str}{sp:Sp}{s₁:AK}{vs:List AF}{ns:List Int}{ts:List AM}
  (KX:K.In s₁.heap) (hns:s₁.heap.Ns AS mg) (hb:s₁.heap.Ns Cq mb) (hbb:∀x:Str,x≠"__name__"->mb x=Aw x) (hlim:s₁.heap.NoLimit) (hbm:L3 mg s₁.heap) (hg:s₁.gens=#[])
  (ha:s₁.heap.get? a=AA {cls:=.type "list",data:=.seq vs.toArray}) (hi:Fg vs ns) (hl:ns.length<=sizeLine) (hr:Room k GQ)
  (hT:∀P∈ts,s₁.heap.get? P=AA (W.tabObj #[])/\isCodeTable s₁.heap P) (hKt:∀P∈ts,K.lookup P=AE) (hKa:K.lookup a=AE)
  (F:∀base:Az,K.In base->base.Ns AS mg->L3 mg base->FnOk P w K mg base CX0 k fa fd [x] sp) (hbind:∀(s:AK)(u:AF),BindsTo s fd ⟨[u],[]⟩ [(x,u)])
  (hsp:∀H:Hp,(∀P∈ts,H P=AA (.tbl #[]))->SqL K H a (ns.map V.int)->sp [.ref a] H (λv _=>v=.bl AC) λ_ _ _=>False) :
  DN (model P w) GQ (.call (.ref fa) ⟨[.ref a],[]⟩) (λr s'=>r=.ok (.ret (.bool AC))/\OldK s₁.heap s'.heap/\s'.os=s₁.os/\Fb s'.gens) s₁:=by
 have rv:=ak1 hi;have naT:a∉ts:=λz=>by
  have:=(hT a z).1;rw[ha]at this;cases this
 let H:Hp:=λb=>if b=a then AA (.frz {cls:=.type "list",data:=.seq vs.toArray} (.lst (ns.map V.int)))else if b∈ts then AA (.tbl #[])else AE
 have Ha:H a=AA (.frz {cls:=.type "list",data:=.seq vs.toArray} (.lst (ns.map V.int))):=if_pos rfl;have Ht:∀P∈ts,H P=AA (.tbl #[]):=λP hP=>by
  have ne:P≠a:=λz=>naT (z▸hP);show(if P=a then _ else if P∈ts then _ else _)=_;rw[if_neg ne,if_pos hP]
 have Hc:∀b u,H b=AA u->b=a\/b∈ts:=λb u e=>by
  by_cases h1:b=a
  ·exact .inl h1
  ·by_cases h2:b∈ts
   ·exact .inr h2
   ·have e':(if b=a then AA (HO.frz {cls:=.type "list",data:=.seq vs.toArray} (.lst (ns.map V.int)))else if b∈ts then AA (.tbl #[])else AE)=AA u:=e;rw[if_neg h1,if_neg h2]at e';cases e'
 have hok:HOk P w H s₁.heap:=λb u e=>by
  rcases Hc b u e with rfl|hb
  ·rw[Ha]at e;cases e;exact⟨ha,by rw[Aj];exact hl,vs,_,rv,ha⟩
  ·rw[Ht b hb]at e;cases e;exact(hT b hb).1
 have v5:∀{b:AM}{o:Obj},s₁.heap.get? b=AA o->H b=AE->(z7 s₁.heap H).get? b=AA o:=λe n=>bv6 e n;have none_of:∀b o,s₁.heap.get? b=AA o->(∀xs n,o.data≠.seq xs n)->(∀xs,o.data≠.fields xs)->H b=AE:=λb o e n1 n2=>by
  cases q:H b with
  |none=>rfl
  |some u=>
   rcases Hc b u q with rfl|hb
   ·rw[ha]at e;cases e;exact absurd rfl (n1 _ _)
   ·rw[(hT b hb).1]at e;cases e;exact absurd rfl (n2 _)
 have nsK:∀{b:AM}{m:Str->Option AF},s₁.heap.Ns b m->(z7 s₁.heap H).Ns b m:=λ{b m}⟨o,es,ep,e,d,r⟩=>⟨o,es,ep,v5 e (none_of b o e (by rw[d];exact λ_ _=>nofun) (by rw[d];exact λ_=>nofun)),d,r⟩;have hKb:K.In (z7 s₁.heap H):=λb o e=>v5 (KX b o e) (by
  cases q:H b with
  |none=>rfl
  |some u=>
   rcases Hc b u q with rfl|hb
   ·rw[hKa]at e;cases e
   ·rw[hKt b hb]at e;cases e)
 have hBb:L3 mg (z7 s₁.heap H):=by
  obtain⟨bm,ob,b1,b2,b3,b4,b5,b6⟩:=hbm;exact⟨bm,ob,b1,b2,v5 b3 (none_of bm ob b3 (by rw[b6];exact λ_ _=>nofun) (by rw[b6];exact λ_=>nofun)),b4,b5,b6⟩
 have hM:Mod K mg (z7 s₁.heap H):=⟨hKb,nsK hns,⟨mb,nsK hb,hbb⟩,let⟨mc,h1,h2⟩:=hlim;⟨mc,nsK h1,h2⟩⟩;have e0:Env0 P w K mg (z7 s₁.heap H) GQ [] s₁ H:=⟨rfl,hM,λb o e=>b17 e,JG (bq1 _ _),trivial,λb hb=>absurd (show b∈([]:List AM) from hb) ∎,hok,.of_eq hg⟩;refine Fe ((F _ hKb (nsK hns) hBb).run GQ [] s₁ H ⟨[.ref a],[]⟩ [.ref a] [.ref a] _ _ hr e0 (hbind s₁ (.ref a)) (.cons rfl .nil) (hsp H Ht (.inl (.inr ⟨_,Ha⟩)))) λr s' h=>?_;cases r with
 |error e=>exact AX h
 |ok fl=>
  cases fl with
  |next=>exact AX h
  |brk=>exact AX h
  |cont=>exact AX h
  |ret u=>
   obtain⟨v,H',os,bare,un,hok',r',q⟩:=h;have q':v=.bl AC:=q;subst q';obtain rfl:u=Fa AC:=r';refine⟨rfl,⟨λb o e=>?_,λb o e=>un.there b o e ∎⟩,os,bare⟩;cases q:H b with
   |none=>exact .inl (un.keep b o e q (by intro z;exact absurd (show b∈([]:List AM) from z) ∎) ∎)
   |some u=>
    rcases Hc b u q with rfl|hb
    ·rw[Ha]at q;cases q;have z2:=un.frzs b _ _ Ha;obtain⟨e2,_⟩:=hok' b _ z2;rw[ha]at e;cases e;exact .inl e2
    ·obtain⟨t1,t2⟩:=hT b hb;rw[t1]at e;cases e;obtain⟨more,z⟩:=un.tbls b _ (Ht b hb);have e2:=hok' b _ z;exact .inr (.inl ⟨t2,rfl,#[],more,rfl,e2⟩)
def bj5 [Tbs]{K:AR}{h:Az}{a:AM}{o:Obj}(X:K.In h)(hn:J2 K=AC)(e:h.get? a=AA o)(hc:o.cls=.type "list"):K.lookup a=AE:=by
 cases q:K.lookup a with
 |none=>rfl
 |some o'=>
  have:=X a o' q;rw[e]at this;cases this;exact absurd hc (aj5 hn q)
def bz8{l:W.OpenLaw}{q:Ag}{loose:List Str}{XP:(Str->Option AF)->Az->Prop}{YP:BA->Az->Prop}{d:DefRec}{K:Params->AR}{P:d7}{G:Gs}{n:Nat}{x:Str}{dl:Def}{ts:List AM}
  (hn:l.most=AA 63) (hdf:d.params.defaults=[]) (hdn:d.name="law") (hr:Room n GQ) (hY:∀(w:BA)(h:Az),YP w h->(K w.params).In h/\∀P∈ts,h.get? P=AA (W.tabObj #[])) (hl:P "law"=AA dl)
  (hst:∀st ps,Stat0 st dl ps->ps=[x])
  (F:∀(w:BA)(mg:Str->Option AF)(h:Az),(K w.params).In h->h.Ns AS mg->(letI:Tbs:=⟨ts,mFB,(G.cls "!kt").isEmpty⟩;AllOk l.prog w (K w.params) mg P G)/\J2 (K w.params)=AC/\HY (K w.params)=AC/\∀P∈ts,∃c,DI (K w.params) c P=AC)
  (core:∀(a:AM)(ns:List Int),ns.length<=63->sem P G n "law" [.ref a] (st0 a ns) λd _=>d=.bl AC) :
  W.WalkO q loose XP YP l.row.toRowW d [] (λf vs=>PySem.call f vs):=by
 letI:Tbs:=⟨ts,mFB,(G.cls "!kt").isEmpty⟩
 refine Att.attach_call hn hdf λw s₀ s₁ mg mb fa o pm cd doc a vs ns GG Y ho hd hcd hmg hobj hints hlen hg=>?_;obtain⟨KX,hTs⟩:=hY w _ Y;obtain⟨hA,hNL,hNT,hC⟩:=F w mg _ KX GG.T.g;obtain⟨ad,fd,ps,Df,mf,_,hbd⟩:=(hA.fns "law" dl hl (by decide+kernel)).ex;obtain⟨st,y,Ff,Sf⟩:=Df.ex;have e:=hst st ps Sf;subst e;rw[hdn]at hmg;have ea:fa=ad:=by rw[hmg]at mf;cases mf;rfl
 subst ea;have hKa:(K w.params).lookup a=AE:=bj5 KX hNL hobj rfl;refine bp5 (ts:=ts) (sp:=t8 (K w.params) (sem P G n "law")) KX GG.T.g GG.T.b GG.T.builtins GG.T.nolimit GG.T.bmain hg hobj hints (Al hlen ∅) hr (λP hP=>⟨hTs P hP,?_⟩) (λP hP=>?_) hKa (λbase hb hbg hbm=>(a07 hA hbm hb (λ_ _ _ _=>Iff.rfl) n).fn n (Af _) "law" dl hl fa fd [x] Df) (λs u=>.of_eq (hbd [u] rfl)) (λH hH hS=>?_)
 ·obtain⟨c,hc⟩:=hC P hP;exact((Jb KX hc).tab (hTs P hP)).isCodeTable
 ·cases qq:(K w.params).lookup P with
  |none=>rfl
  |some o'=>
   have z:=KX P o' qq;rw[hTs P hP]at z;cases z;unfold HY at hNT;rw[Dx]at hNT;exact absurd (hNT _ (W.mem_of_lookupK qq)) AL
 ·refine⟨[.ref a],st0 a ns,_,.cons (.ref a) .nil,⟨λb o e=>?_,λP hP=>⟨#[],hH P hP,trivial,λpos cv z=>by cases z⟩⟩,core a ns hlen,λv d' H' st' ev is rs q=>?_⟩
  ·unfold st0 at e
   split at e
   ·rename_i hb;cases e;subst hb
    rcases hS with hS|⟨ob,its,m,hk,hc,_⟩
    ·exact⟨_,hS,al7 ns⟩
    ·exact absurd hc (aj5 hNL hk)
   ·cases e
  ·have q':d'=.bl AC:=q;subst q';cases is;rfl
abbrev by2(P:AM)(o:Obj):Bool:=match o with
 |⟨.type "code",_,.fields vs,_⟩=>(match(vs[11]?:Option AF)with|some (.ref P')=>P'==P|_=>AG)
 |_=>AG
abbrev af9(K:AR)(ts:List AM):Bool:=ts.all λP=>match K.find? λp=>by2 P p.2 with
 |some p=>DI K p.1 P
 |none=>AG
def b43{K:AR}{ts:List AM}(h:af9 K ts=AC):∀P∈ts,∃c,DI K c P=AC:=λP hP=>by
 unfold af9 at h;rw[Dx]at h;have:=h P hP
 split at this
 ·exact⟨_,this⟩
 ·cases this
end Ek
namespace Ek
open PySem L2
def Z0(s:String):AD s=⟨(s.toList.map Da).toArray⟩:=by
 unfold AD;rw[cpsOfBytes_string]
def bk5:∀(x y:Char),x.toNat=y.toNat->x=y:=λx y h=>Char.ext (UInt32.toNat_inj.mp h)
theorem aj3:∀(a b:List Char),a.map Da=b.map Da->a=b
 |[],[],_=>rfl
 |[],_::_,h=>by simp at h
 |_::_,[],h=>by simp at h
 |x::a,y::b,h=>by
  simp only[AY,As]at h;rw[bk5 x y h.1,aj3 a b h.2]
def i6{a b:String}:(AD a=AD b)=(a=b):=by
 refine propext ⟨λh=>?_,λh=>by rw[h]⟩;rw[Z0,Z0]at h;simp only[Str.mk.injEq]at h;have h':a.toList.map Da=b.toList.map Da:=by simpa using h
 exact String.toList_inj.mp (aj3 _ _ h')
def f7(s:String):(D.str (AD s)).pure=AC:=by
 show Ed (AD s)=AC;unfold Ed;rw[Z0];simp only[List.all_toArray,List.all_map,Dx];intro c _;have h:=c.valid;simp only[UInt32.isValidChar,Nat.isValidChar]at h;simp only[Function.comp_apply,decide_eq_true_eq];show c.val.toNat<1114112;lia
variable{L:List AM}{st st':Sto}{a b c:E}{p:AM}{o u:Ob}{Q:DK}{f g:Str}{i:Nat}{es:Es}
abbrev Kp(L:List AM)(st st':Sto):Prop:=∀b o,b∉L->st b=AA o->st' b=AA o
def Kp.refl:Kp L st st:=λ_ _ _ h=>h
def Kp.trans{a b c:Sto}(x:Kp L a b)(y:Kp L b c):Kp L a c:=λd o n h=>y d o n (x d o n h)
def Kp.more{M:List AM}{a b:Sto}(x:Kp L a b)(s:∀d∈L,d∈M):Kp M a b:=λd o n h=>x d o (λz=>n (s d z)) h
def Kp.new(x:Kp L st st')(h:st' p=AE):Kp L st (b0 st' p o):=λd u n e=>by
 have e':=x d u n e;rw[g6 (λz=>by rw[z,h]at e';cases e')];exact e'
def Kp.put(x:Kp L st st')(h:p∈L):Kp L st (b0 st' p o):=λd u n e=>by
 rw[g6 (λz=>n (by rw[z];exact h))];exact x d u n e
def Kp.at'{b:AM}(x:Kp L st st')(h:st b=AA o)(n:b∉L):st' b=AA o:=x b o n h
def d9{a:AM}(h:st a=AA o)(hp:st p=AE):b0 st p u a=AA o:=by
 rw[g6 (λz=>by rw[z,hp]at h;cases h)];exact h
def m9{a:AM}(h:st a=AA o)(hp:st p=AE):a≠p:=λz=>by rw[z,hp]at h;cases h
def d6{a:AM}(h:st a=AA o)(n:a≠p):b0 st p u a=AA o:=by
 rw[g6 n];exact h
abbrev g8(st:Sto)(a:AM):Prop:=∃l:List Int,st a=AA (.lst (l.map .int))
def g8.keep{b:AM}(h:g8 st b)(x:Kp L st st')(n:b∉L):g8 st' b:=let⟨l,e⟩:=h;⟨l,x.at' e n⟩
def g8.new{b:AM}(h:g8 st b)(hp:st p=AE):g8 (b0 st p u) b:=let⟨l,e⟩:=h;⟨l,d9 e hp⟩
def g8.ne{b:AM}(h:g8 st b)(hp:st p=AE):b≠p:=let⟨l,e⟩:=h;m9 e hp
abbrev f6(Q:DK):DEnds:={nx:=λ_ st'=>∃s2,Sub s2 st'/\Q .non s2,rt:=λd st'=>∃s2,Sub s2 st'/\Q d s2}
def b8{d:D}(h:Q d st):(f6 Q).rt d st:=⟨st,Sub.refl st,h⟩
@[reducible]noncomputable def Zg(P:d7)(G:Gs)(n:Nat):Sg:=⟨λf=>(P f).isSome,sem P G n,G.tab,G.cls,(o4 P G n).2.1,λf=>(o4 P G n).2.2.1&&(P f).isSome,P8 P G n,G.cst⟩
def d5{P:d7}{G:Gs}{n:Nat}{fd:Def}{ds:List D}(hP:P f=AA fd)(hl:ds.length=fd.np)(env:d8)(he:T9 fd ds=env)
  (h:d4 (Zg P G n) fd.body (f6 Q) env st):sem P G (n+1) f ds st Q:=by
 rw[bv8];exact⟨fd,hP,hl,by rw[he];exact h⟩
section
variable {Z:Sg} {F:DEnds} {env:d8} 
def av7{s:S}{r:Ss}:d4 Z (.cons s r) F env st=wpS Z s ⟨d4 Z r F,F.rt,F.bk,F.ct⟩ env st:=rfl
def ba5:d4 Z .nil F env st=F.nx env st:=rfl
def a91{e:E}:wpS Z (.set i e) F env st=wpE Z e env st λd st1=>F.nx (env.set i (AA d)) st1:=rfl
def a76:wpS Z (.pre i) F env st=∀p,st p=AE->F.nx (env.set i (AA (.ref p))) (b0 st p (.dct [])):=rfl
def bc5{o i v:E}:wpS Z (.put o i v) F env st=wpE Z v env st λd st1=>wpE Z o env st1 λx st2=>wpE Z i env st2 λy st3=>∃a j k ds,x=.ref a/\y=.int j/\st3 a=AA (.lst ds)/\ixN ds.length j=AA k/\F.nx env (b0 st3 a (.lst (ds.set k d))):=rfl
def bf2{e:E}:wpS Z (.ex e) F env st=wpE Z e env st λ_ st1=>F.nx env st1:=rfl
def a53{a b:Ss}:wpS Z (.iff c a b) F env st=wpE Z c env st λd st1=>∃k,d=.bl k/\if k=AC then d4 Z a F env st1 else d4 Z b F env st1:=rfl
def ba8{e:E}:wpS Z (.ret e) F env st=wpE Z e env st F.rt:=rfl
def ay5:wpS Z .retN F env st=F.rt .non st:=rfl
def bc1{t:Tg}{it:It}{b:Ss}:wpS Z (.for t it b) F env st=t7 Z it env st λitems chk st1=>n0 chk t (d4 Z b) F items env st1:=rfl
def a41:wpS Z .cont F env st=F.ct env st:=rfl
def av5:wpS Z .pass F env st=F.nx env st:=rfl
def bb9:wpE Z .non env st Q=Q .non st:=rfl
def bd1{b:Bool}:wpE Z (.bl b) env st Q=Q (.bl b) st:=rfl
def ae1{i:Int}:wpE Z (.int i) env st Q=Q (.int i) st:=rfl
def a71{x:Str}:wpE Z (.str x) env st Q=Q (.str x) st:=rfl
def e_v:wpE Z (.v i) env st Q=∃d,env[i]?=AA (AA d)/\Q d st:=rfl
def bc0:wpE Z (.tup es) env st Q=k7 Z es env st λds st1=>Q (.tup ds) st1:=rfl
def a67:wpE Z (.lst es) env st Q=k7 Z es env st λds st1=>∀p,st1 p=AE->Q (.ref p) (b0 st1 p (.lst ds)):=rfl
def a92{o:EF}:wpE Z (.bin o a b) env st Q=wpE Z a env st λx st1=>wpE Z b env st1 λy st2=>t4 o x y st2 Q:=rfl
def a56:wpE Z (.neg a) env st Q=wpE Z a env st λx st1=>∃i,x=.int i/\Q (.int (-i)) st1:=rfl
def a85{o:Dc}:wpE Z (.cmp o a b) env st Q=wpE Z a env st λx st1=>wpE Z b env st1 λy st2=>j3 o x y st2 Q:=rfl
def a96:wpE Z (.isN a) env st Q=wpE Z a env st λx st1=>(x=.non/\Q (.bl AC) st1)\/(x≠.non/\Q (.bl AG) st1):=rfl
def a86:wpE Z (.and a b) env st Q=wpE Z a env st λx st1=>∃c,x=.bl c/\(if c=AC then wpE Z b env st1 Q else Q (.bl AG) st1):=rfl
def be3:wpE Z (.or a b) env st Q=wpE Z a env st λx st1=>∃c,x=.bl c/\(if c=AC then Q (.bl AC) st1 else wpE Z b env st1 Q):=rfl
def bc2:wpE Z (.not a) env st Q=wpE Z a env st λx st1=>∃c,x=.bl c/\Q (.bl (!c)) st1:=rfl
def a94:wpE Z (.ite c a b) env st Q=wpE Z c env st λx st1=>∃k,x=.bl k/\(if k=AC then wpE Z a env st1 Q else wpE Z b env st1 Q):=rfl
def bf8:wpE Z (.ix a b) env st Q=wpE Z a env st λx st1=>wpE Z b env st1 λy st2=>ixR x y st2 Q:=rfl
abbrev bnd(Z:Sg)(e:E)(env:d8)(st:Sto):(Option Int->Sto->Prop)->Prop:=if e.isNon=AC then λk=>k AE st else λk=>wpE Z e env st λd st'=>∃i,d=.int i/\k (AA i) st'
def at2{k:Option Int->Sto->Prop}:bnd Z .non env st k=k AE st:=rfl
def B4{e:E}{k:Option Int->Sto->Prop}(h:e.isNon=AG):bnd Z e env st k=wpE Z e env st λd st'=>∃i,d=.int i/\k (AA i) st':=by
 unfold bnd;rw[h];rfl
def aq0{i:Int}{k:Option Int->Sto->Prop}:bnd Z (.int i) env st k=k (AA i) st:=by
 rw[B4 rfl,ae1];exact propext ⟨λ⟨_,h,q⟩=>by cases h;exact q,λq=>⟨_,rfl,q⟩⟩
def be6{lo hi:E}:wpE Z (.sl a lo hi) env st Q=wpE Z a env st λx st1=>bnd Z lo env st1 λl st2=>bnd Z hi env st2 λh st3=>slR x l h st3 Q:=rfl
def au5{ks:List Str}{vs:Es}{k:E}:wpE Z (.dsel ks vs k) env st Q=k7 Z vs env st λds st1=>wpE Z k env st1 λx st2=>∃w d,x=.str w/\i7 (ks.zip ds) w=AA d/\Q d st2:=rfl
def av0{k:E}:wpE Z (.gsel g k) env st Q=(Z.G g≠[]/\wpE Z k env st λx st1=>∃w d,x=.str w/\i7 (Z.G g) w=AA d/\Q d st1):=rfl
def a77:wpE Z (.len a) env st Q=wpE Z a env st λx st1=>M7 x st1 Q:=rfl
def ba6:wpE Z (.abs a) env st Q=wpE Z a env st λx st1=>∃i,x=.int i/\Q (.int (if i<0 then -i else i)) st1:=rfl
def ar6:wpE Z (.toInt a) env st Q=wpE Z a env st λx st1=>O0 x st1 Q:=rfl
def a66:wpE Z (.sum a) env st Q=wpE Z a env st λx st1=>V9 x st1 Q:=rfl
def a00:wpE Z (.list a) env st Q=wpE Z a env st λx st1=>U9 x st1 Q:=rfl
def aq9:wpE Z (.tuple a) env st Q=wpE Z a env st λx st1=>J3 x st1 Q:=rfl
def a63:wpE Z (.max a b) env st Q=wpE Z a env st λx st1=>wpE Z b env st1 λy st2=>∃i j,x=.int i/\y=.int j/\Q (.int (if j>i then j else i)) st2:=rfl
def a04:wpE Z (.call f es) env st Q=(Z.F f=AC/\k7 Z es env st λds st1=>Z.Phi f ds st1 Q):=rfl
def bg6:wpE Z (.gf f) env st Q=(Z.F f=AC/\Q (.fn f) st):=rfl
def bc7:wpE Z (.fld a f) env st Q=wpE Z a env st λx st1=>∃p c fs d,x=.ref p/\st1 p=AA (.ins c fs)/\f∈Z.C c/\fs.lookup f=AA d/\Q d st1:=rfl
def ax0{m:Str}:wpE Z (.meth a m es) env st Q=wpE Z a env st λx st1=>∃p c fs,x=.ref p/\st1 p=AA (.ins c fs)/\fs.lookup m=AE/\Z.F (d3 c m)=AC/\k7 Z es env st1 λds st2=>Z.Phi (d3 c m) (.ref p::ds) st2 Q:=rfl
def ay0{c:Str}:wpE Z (.make c es) env st Q=(Z.MF (d3 c "__init__")=AC/\k7 Z es env st λds st1=>∀p,st1 p=AE->Z.Mk (d3 c "__init__") (.ref p::ds) (b0 st1 p (.ins c [])) λv st2=>v=.non/\Q (.ref p) st2):=rfl
def ay4{o v:E}:wpS Z (.fldS o f v) F env st=wpE Z v env st λd st1=>wpE Z o env st1 λx st2=>∃p c fs,x=.ref p/\st2 p=AA (.ins c fs)/\f∈Z.C c/\fs.length<1000/\F.nx env (b0 st2 p (.ins c (F4 f d fs))):=rfl
def az6:wpS Z .dead F env st=False:=rfl
def as7:wpE Z (.callv i es) env st Q=∃x,env[i]?=AA (AA x)/\P2 Z (k7 Z es env) st Q x:=rfl
def bb0{ta:Sto->(List D->Sto->Prop)->Prop}:P2 Z ta st Q (.fn f)=(Z.F f=AC/\ta st λds st1=>Z.Phi f ds st1 Q):=rfl
def au6{ta:Sto->(List D->Sto->Prop)->Prop}{np:Nat}{N:List Str}{b:Ss}{cs:List D}:P2 Z ta st Q (.clo np N b cs)=ta st λds st1=>Z.PhiC np N b cs ds st1 Q:=rfl
abbrev W6(env:d8):List Nat->(List D->Prop)->Prop
 |[],k=>k []
 |i::is,k=>∃d,env[i]?=AA (AA d)/\W6 env is λds=>k (d::ds)
def an1{k:List D->Prop}:W6 env [] k=k []:=rfl
def ak8{is:List Nat}{k:List D->Prop}:W6 env (i::is) k=∃d,env[i]?=AA (AA d)/\W6 env is λds=>k (d::ds):=rfl
def bf6:wpE Z (.gc g) env st Q=∃d,Z.Kc g=AA d/\Q d st:=rfl
def ay1{ks:List Str}{vs:Es}:wpE Z (.dict ks vs) env st Q=k7 Z vs env st λds st1=>∀p,st1 p=AE->Q (.ref p) (b0 st1 p (.dct ((ks.zip ds).map λkv=>(.inr kv.1,kv.2)))):=rfl
def bb6{t:String}:wpE Z (.isT t a) env st Q=wpE Z a env st λx st1=>ae6 t x st1 Q:=rfl
def bb1:wpE Z (.app a b) env st Q=wpE Z a env st λx st1=>u6 x st1/\wpE Z b env st1 λy st2=>V8 x y st2 Q:=rfl
def bb2:wpE Z (.ext a b) env st Q=wpE Z a env st λx st1=>u6 x st1/\wpE Z b env st1 λy st2=>V4 x y st2 Q:=rfl
def ap8:wpE Z (.popAt a b) env st Q=wpE Z a env st λx st1=>u6 x st1/\wpE Z b env st1 λy st2=>ad6 x y st2 Q:=rfl
def a73:wpE Z (.pop a) env st Q=wpE Z a env st λx st1=>Q0 x st1 Q:=rfl
def a80:wpE Z (.cat a b) env st Q=wpE Z a env st λx st1=>wpE Z b env st1 λy st2=>∃i j,x=.str i/\y=.str j/\i.length+j.length<=sizeLine/\Q (.str (i++j)) st2:=rfl
def a54{lo hi:E}:wpE Z (.ssl a lo hi) env st Q=wpE Z a env st λx st1=>wpE Z lo env st1 λl st2=>∃i,l=.int i/\wpE Z hi env st2 λh st3=>∃j,h=.int j/\∃w,x=.str w/\w.length<=sizeLine/\Q (.str (DY w (AA i) (AA j))) st3:=rfl
def a01:wpE Z (.slen a) env st Q=wpE Z a env st λx st1=>∃w,x=.str w/\w.length<=sizeLine/\Q (.int w.length) st1:=rfl
def ay3:wpE Z (.tstr a) env st Q=wpE Z a env st λx st1=>∃i:Int,x=.int i/\i.natAbs.log2<1920/\Q (.str (DE i)) st1:=rfl
def av8:wpE Z (.sint a) env st Q=wpE Z a env st λx st1=>∃n:Int,x=.str (AD (DE n))/\0<=n/\n<10^10/\Q (.int n) st1:=rfl
def a61{ne:Bool}:wpE Z (.sin ne a b) env st Q=wpE Z a env st λx st1=>wpE Z b env st1 λy st2=>M5 ne x y st2 Q:=rfl
def a43:wpE Z (.join a b) env st Q=wpE Z a env st λx st1=>∃z,x=.str z/\wpE Z b env st1 λy st2=>U4 z y st2 Q:=rfl
def a82{k d:E}:wpE Z (.sgt a k d) env st Q=wpE Z a env st λx st1=>ah1 x st1/\wpE Z k env st1 λy st2=>wpE Z d env st2 λz st3=>ag7 x y z st3 Q:=rfl
def ba2{c:Str}:wpE Z (.isC c a) env st Q=(c∈Z.C "!is"/\wpE Z a env st λx st1=>ag8 c x st1 Q):=rfl
def ax2:wpE Z (.gnin a g) env st Q=(Z.G g≠[]/\wpE Z a env st λx st1=>∃w,x=.str w/\Q (.bl (!(i7 (Z.G g) w).isSome)) st1):=rfl
def a70:wpE Z (.lrl a) env st Q=wpE Z a env st λx st1=>P7 x st1 Q:=rfl
def aq7:wpE Z (.index a b) env st Q=wpE Z a env st λx st1=>Q3 x st1/\wpE Z b env st1 λy st2=>E7 x y st2 Q:=rfl
def ax1{Q:List D->Sto->Prop}:k7 Z .nil env st Q=Q [] st:=rfl
def as8{e:E}{r:Es}{Q:List D->Sto->Prop}:k7 Z (.cons e r) env st Q=wpE Z e env st λd st1=>k7 Z r env st1 λds st2=>Q (d::ds) st2:=rfl
abbrev B2(Z:Sg)(c:E):DB:=if c.isNon=AC then λ_ st Q=>Q AC st else λenv st Q=>wpE Z c env st λd st'=>∃b,d=.bl b/\Q b st'
def az8{Nc:List Str}{fr:List Nat}{k:Nat}{t:Tg}{it:It}{e:E}:wpE Z (.comp Nc fr k t it c e) env st Q=t7 Z it env st λitems chk st1=>items.length<=1000000/\r8 chk t (B2 Z c) (λenv st Q=>wpE Z e env st Q) (λacc st'=>∀p,st' p=AE->Q (.ref p) (b0 st' p (.lst acc))) items [] (E5 fr k env) st1:=rfl
variable {k:ItK}
def a99{e:E}:t7 Z (.seq e) env st k=wpE Z e env st λd st1=>(∃ds,d=.tup ds/\k ds (λ_=>True) st1)\/(∃a ds,d=.ref a/\rdS st1 a ds/\k ds (λst'=>rdS st' a ds) st1):=rfl
def bb3:t7 Z (.rng a) env st k=wpE Z a env st λd st1=>∃j:Int,d=.int j/\(-(2^62)<=j/\j<2^62)/\k (k8 0 j.toNat) (λ_=>True) st1:=rfl
def ax3:t7 Z (.rng2 a b) env st k=wpE Z a env st λd st1=>wpE Z b env st1 λe st2=>∃i j:Int,d=.int i/\e=.int j/\(-(2^62)<=i/\i<2^62/\-(2^62)<=j/\j<2^62)/\k (k8 i (j-i).toNat) (λ_=>True) st2:=rfl
def a44{e:E}:t7 Z (.enum e) env st k=wpE Z e env st λd st1=>(∃ds,d=.tup ds/\k (j7 0 ds) (λ_=>True) st1)\/(∃a ds,d=.ref a/\rdS st1 a ds/\k (j7 0 ds) (λst'=>rdS st' a ds) st1):=rfl
def a68{e:E}:t7 Z (.rev e) env st k=wpE Z e env st λd st1=>∃a ds,d=.ref a/\rdS st1 a ds/\k ds.reverse (λst'=>rdS st' a ds) st1:=rfl
end
end Ek
namespace Ek
open PySem L2
variable{i:Int}{lo hi:Option Int}{chk:Sto->Prop}{env:d8}
section
variable {st:Sto} {Q:DK} {j:Int} {a p:AM} {ds es xs ys:List D} {x y d:D}
def bh5{a:D}{r:d8}{Q:D->Prop}:(∃d,(AA a::r)[0]?=AA (AA d)/\Q d)=Q a:=propext ⟨λ⟨_,h,q⟩=>by cases h;exact q,λq=>⟨a,rfl,q⟩⟩
def bd5{a:Option D}{r:d8}{i:Nat}{Q:D->Prop}:(∃d,(a::r)[i+1]?=AA (AA d)/\Q d)=∃d,r[i]?=AA (AA d)/\Q d:=by simp only[List.getElem?_cons_succ]
def be9{a:D}{Q:D->Prop}:(∃d,AA (AA a)=AA (AA d)/\Q d)=Q a:=propext ⟨λ⟨_,h,q⟩=>by cases h;exact q,λq=>⟨a,rfl,q⟩⟩
def a52{Q:Int->Prop}:(∃d,D.int i=.int d/\Q d)=Q i:=propext ⟨λ⟨_,h,q⟩=>by cases h;exact q,λq=>⟨i,rfl,q⟩⟩
def bg9{i:Bool}{Q:Bool->Prop}:(∃d,D.bl i=.bl d/\Q d)=Q i:=propext ⟨λ⟨_,h,q⟩=>by cases h;exact q,λq=>⟨i,rfl,q⟩⟩
def bc4{Q:List D->Prop}:(∃d,D.tup ds=.tup d/\Q d)=Q ds:=propext ⟨λ⟨_,h,q⟩=>by cases h;exact q,λq=>⟨_,rfl,q⟩⟩
def a08{α:Type}{a:α}{Q:α->Prop}:(∃d,AA a=AA d/\Q d)=Q a:=propext ⟨λ⟨_,h,q⟩=>by cases h;exact q,λq=>⟨a,rfl,q⟩⟩
def a57{i:Str}{l:List (Str×D)}{Q:D->Prop}:(∃w d,D.str i=.str w/\i7 l w=AA d/\Q d)=(∃d,i7 l i=AA d/\Q d):=propext ⟨λ⟨_,d,h,e,q⟩=>by cases h;exact⟨d,e,q⟩,λ⟨d,e,q⟩=>⟨_,d,rfl,e,q⟩⟩
def av4{j:Int}{Q:Int->Int->Prop}:(∃a b,D.int i=.int a/\D.int j=.int b/\Q a b)=Q i j:=propext ⟨λ⟨_,_,h,h',q⟩=>by cases h;cases h';exact q,λq=>⟨_,_,rfl,rfl,q⟩⟩
def a02:t4 .Add (.int i) (.int j) st Q=Q (.int (i+j)) st:=rfl
def ax5:t4 .Add (.tup xs) (.tup ys) st Q=(xs.length+ys.length<=sizeLine/\Q (.tup (xs++ys)) st):=rfl
def aw2:t4 .Sub (.int i) (.int j) st Q=Q (.int (i-j)) st:=rfl
def aw0:t4 .Mult (.int i) (.int j) st Q=(F0 i j/\Q (.int (i*j)) st):=rfl
def ad8:t4 .Mod (.int i) (.int j) st Q=(0<j/\Q (.int (i % j)) st):=rfl
def a48:t4 .FloorDiv (.int i) (.int j) st Q=(ae3 i j/\Q (.int (i / j)) st):=rfl
def ay9:t4 .Pow (.int i) (.int j) st Q=(af4 i j/\Q (.int (i^j.toNat)) st):=rfl
def S8:deq (.int i) (.int j)=AB (i=j):=by
 unfold deq D.py Ak;exact FX.mpr ∎
def g5{x y:Str}:deq (.str x) (.str y)=AB (x=y):=by
 unfold deq D.py Ak;exact FX.mpr ∎
abbrev j4:List D->List D->Bool
 |[],[]=>AC
 |x::xs,y::ys=>deq x y&&j4 xs ys
 |_,_=>AG
theorem at3:∀xs ys:List D,Cc (D.pys xs) (D.pys ys)=j4 xs ys
 |[],[]=>rfl
 |[],_::_=>rfl
 |_::_,[]=>rfl
 |x::xs,y::ys=>by show(Ak x.py y.py&&Cc (D.pys xs) (D.pys ys))=_;rw[at3 xs ys];rfl
def n8:deq (.tup xs) (.tup ys)=j4 xs ys:=by
 show Ak (.tuple (D.pys xs)) (.tuple (D.pys ys))=_;rw[Ak,at3]
def O5:f8 (.int i)=0:=rfl
def f9{x:Str}:f8 (.str x)=0:=rfl
def L8:j3 .Eq (.int i) (.int j) st Q=Q (.bl (AB (i=j))) st:=by
 show(_/\_/\_/\_)=_;rw[S8];exact propext ⟨λh=>h.2.2.2,λh=>⟨rfl,rfl,by rw[O5,O5];exact Ar _,h⟩⟩
def bb8:j3 .NotEq (.int i) (.int j) st Q=Q (.bl (!decide (i=j))) st:=by
 show(_/\_/\_/\_)=_;rw[S8];exact propext ⟨λh=>h.2.2.2,λh=>⟨rfl,rfl,by rw[O5,O5];exact Ar _,h⟩⟩
def V0{x y:String}:j3 .Eq (.str (AD x)) (.str (AD y)) st Q=Q (.bl (AB (x=y))) st:=by
 show(_/\_/\_/\_)=_;simp only[g5,i6];exact propext ⟨λh=>h.2.2.2,λh=>⟨f7 _,f7 _,by rw[f9,f9];exact Ar _,h⟩⟩
def U3{x y:String}:j3 .NotEq (.str (AD x)) (.str (AD y)) st Q=Q (.bl (!decide (x=y))) st:=by
 show(_/\_/\_/\_)=_;simp only[g5,i6];exact propext ⟨λh=>h.2.2.2,λh=>⟨f7 _,f7 _,by rw[f9,f9];exact Ar _,h⟩⟩
def F6:j3 .Eq x y st Q=(x.pure=AC/\y.pure=AC/\Di (f8 x) (f8 y)<=150/\Q (.bl (deq x y)) st):=by cases x<;>cases y<;>rfl
def a74:j3 .NotEq x y st Q=(x.pure=AC/\y.pure=AC/\Di (f8 x) (f8 y)<=150/\Q (.bl (!deq x y)) st):=by cases x<;>cases y<;>rfl
def bb7:j3 .Lt (.int i) (.int j) st Q=Q (.bl (AB (i<j))) st:=rfl
def bc8:j3 .LtE (.int i) (.int j) st Q=Q (.bl (AB (i<=j))) st:=rfl
def bc9:j3 .Gt (.int i) (.int j) st Q=Q (.bl (AB (j<i))) st:=rfl
def a72:j3 .GtE (.int i) (.int j) st Q=Q (.bl (AB (j<=i))) st:=rfl
def bg5:j3 .In x (.tup ys) st Q=(x.pure=AC/\D.pures ys=AC/\f8 x<=150/\Q (.bl (ys.any λy=>deq y x)) st):=rfl
def a97:j3 .NotIn x (.tup ys) st Q=(x.pure=AC/\D.pures ys=AC/\f8 x<=150/\Q (.bl (!ys.any λy=>deq y x)) st):=rfl
def bf4:ixR (.tup ds) (.int i) st Q=∃d,atI ds i=AA d/\Q d st:=rfl
def cm8:ixR (.ref a) (.int i) st Q=((∃ds d,rdS st a ds/\atI ds i=AA d/\Q d st)\/∃kvs d,st a=AA (.dct kvs)/\u2 kvs (.inl i)=AA d/\Q d st):=rfl
def b82{kvs:List (Key×D)}(h:rdS st a ds)(h':st a=AA (.dct kvs)):False:=by rcases h with h|h<;>rw[h]at h'<;>cases h'
def U1(h:rdS st a xs)(h':rdS st a ys):xs=ys:=by
 rcases h with h|h<;>rcases h' with h'|h'<;>rw[h]at h'<;>cases h'<;>rfl
def F2(h:rdS st a ds):ixR (.ref a) (.int i) st Q=∃d,atI ds i=AA d/\Q d st:=by
 rw[cm8];exact propext ⟨λz=>z.elim (λ⟨es,d,r,q⟩=>by rw[U1 h r];exact⟨d,q⟩) (λ⟨_,_,e,_⟩=>(b82 h e).elim),λ⟨d,q⟩=>.inl ⟨ds,d,h,q⟩⟩
def C4:rdS (b0 st p (.lst ds)) p ds:=.inl b7
def a78:ixR (.ref p) (.int i) (b0 st p (.lst ds)) Q=∃d,atI ds i=AA d/\Q d (b0 st p (.lst ds)):=F2 C4
def Q2{α:Type}{xs:List α}:atI xs 0=xs[0]?:=by
 unfold atI ixN;simp only[Jc,if_true];split
 ·rfl
 ·rename_i h;rw[Gf ⋯];rfl
def K9{α:Type}{xs:List α}{k:Nat}:atI xs (k:Int)=xs[k]?:=by
 unfold atI ixN;rw[if_pos ⋯];split
 ·rw[FC];rfl
 ·rename_i h;rw[Gf ⋯];rfl
def ag0{α:Type}{xs:List α}:atI xs 1=xs[1]?:=K9 (k:=1)
def bd9{α:Type}{xs:List α}:atI xs 2=xs[2]?:=K9 (k:=2)
def bg7{α:Type}{xs:List α}:atI xs 3=xs[3]?:=K9 (k:=3)
def bb5:cn6 (.tup ds) lo hi st Q=Q (.tup (z5 ds lo hi)) st:=rfl
def bd8:slR (.tup ds) lo hi st Q=(¬(HT.sIx ds.length 0 lo=0/\HT.sIx ds.length ds.length hi=ds.length)/\Q (.tup (z5 ds lo hi)) st):=rfl
def ag4(h:rdS st a ds):slR (.ref a) lo hi st Q=∀p,st p=AE->Q (.ref p) (b0 st p (.lst (z5 ds lo hi))):=by
 show(∃ds,rdS st a ds/\_)=_;exact propext ⟨λ⟨es,r,q⟩=>by rw[U1 h r];exact q,λq=>⟨ds,h,q⟩⟩
def a58:M7 (.tup ds) st Q=Q (.int ds.length) st:=rfl
def v2(h:rdS st a ds):M7 (.ref a) st Q=Q (.int ds.length) st:=by
 show(∃ds,rdS st a ds/\_)=_;exact propext ⟨λ⟨es,r,q⟩=>by rw[U1 h r];exact q,λq=>⟨ds,h,q⟩⟩
def a38:M7 (.ref p) (b0 st p (.lst ds)) Q=Q (.int ds.length) (b0 st p (.lst ds)):=v2 C4
def bc3{b:Bool}:O0 (.bl b) st Q=Q (.int (if b then 1 else 0)) st:=rfl
def a69:O0 (.int i) st Q=Q (.int i) st:=rfl
def az0:U9 (.tup ds) st Q=∀p,st p=AE->Q (.ref p) (b0 st p (.lst ds)):=rfl
def aq5:J3 (.tup ds) st Q=Q (.tup ds) st:=rfl
def T1(h:rdS st a ds):J3 (.ref a) st Q=Q (.tup ds) st:=by
 show(∃ds,rdS st a ds/\_)=_;exact propext ⟨λ⟨es,r,q⟩=>by rw[U1 h r];exact q,λq=>⟨ds,h,q⟩⟩
def am6:J3 (.ref p) (b0 st p (.lst ds)) Q=Q (.tup ds) (b0 st p (.lst ds)):=T1 C4
def cj1(h:rdS st a ds):as3 (.ref a) st Q=Q (.bl AC) st:=by
 show(∃ds,rdS st a ds/\_)=_;exact propext ⟨λ⟨es,r,q⟩=>q,λq=>⟨ds,h,q⟩⟩
def az2:as3 (.ref p) (b0 st p (.lst ds)) Q=Q (.bl AC) (b0 st p (.lst ds)):=cj1 C4
def ci3{ns:List Int}(h:rdS st a (ns.map D.int))(q:Q (.int ns.sum) st):V9 (.ref a) st Q:=⟨ns,h,q⟩
def v9(h:rdS st a ds):u6 (.ref a) st=True:=propext ⟨λ_=>trivial,λ_=>⟨ds,h⟩⟩
def au0:u6 (.ref p) (b0 st p (.lst ds))=True:=v9 C4
def a09:Q3 (.tup ds) st=True:=rfl
def L5(h:st a=AA (.lst ds)):V8 (.ref a) d st Q=(ds.length<sizeLine/\Q .non (b0 st a (.lst (ds++[d])))):=by
 show(∃ds,st a=AA (.lst ds)/\_)=_;exact propext ⟨λ⟨es,r,q⟩=>by rw[h]at r;cases r;exact q,λq=>⟨ds,h,q⟩⟩
def P4{b:AM}(h:st a=AA (.lst ds))(h':st b=AA (.lst es)):V4 (.ref a) (.ref b) st Q=(ds.length+es.length<=sizeLine/\Q .non (b0 st a (.lst (ds++es)))):=by
 show(∃ds es,st a=AA (.lst ds)/\st b=AA (.lst es)/\_)=_;exact propext ⟨λ⟨_,_,r,r',q⟩=>by rw[h]at r;rw[h']at r';cases r;cases r';exact q,λq=>⟨ds,es,h,h',q⟩⟩
def b39{t:Tg}{tb:DS}{F:DEnds}:n0 chk t tb F [] env st=(chk st/\F.nx env st):=by rw[n0]
def bs4{t:Tg}{tb:DS}{F:DEnds}:n0 chk t tb F (d::ds) env st=(chk st/\B0 t d env λenv'=>tb {F with nx:=n0 chk t tb F ds,ct:=n0 chk t tb F ds,bk:=F.nx} env' st):=by rw[n0]
def az7{k:Nat}{K:d8->Prop}:B0 (.n k) d env K=K (env.set k (AA d)):=rfl
def aw3{is:List Nat}{K:d8->Prop}:B0 (.tup is) (.tup ds) env K=(ds.length=is.length/\K (E9 env is ds)):=by
 show(∃es,D.tup ds=.tup es/\_)=_;exact propext ⟨λ⟨es,r,q⟩=>by cases r;exact q,λq=>⟨ds,rfl,q⟩⟩
def ah9{k:Nat}{is:List Nat}:E9 env (k::is) (d::ds)=E9 (env.set k (AA d)) is ds:=rfl
def ai2:E9 env [] []=env:=rfl
def bs8{t:Tg}{tc:DB}{te:DT}{R:List D->Sto->Prop}{acc:List D}:r8 chk t tc te R [] acc env st=(chk st/\R acc st):=by rw[r8]
def bq6{t:Tg}{tc:DB}{te:DT}{R:List D->Sto->Prop}{acc:List D}:r8 chk t tc te R (d::ds) acc env st=(chk st/\B0 t d env λenv'=>tc env' st λb st1=>if b=AC then te env' st1 λv st2=>r8 chk t tc te R ds (acc++[v]) env' st2 else r8 chk t tc te R ds acc env' st1):=by rw[r8]
def ba4{k:ItK}:((∃es,D.tup ds=.tup es/\k es (λ_=>True) st)\/(∃a es,D.tup ds=.ref a/\rdS st a es/\k es (λst'=>rdS st' a es) st))=k ds (λ_=>True) st:=
 propext ⟨(λh=>by
  rcases h with⟨es,r,q⟩|⟨a,es,r,_⟩
  ·cases r;exact q
  ·cases r),λq=>.inl ⟨ds,rfl,q⟩⟩
def a51{k:ItK}:((∃es,D.tup ds=.tup es/\k (j7 0 es) (λ_=>True) st)\/(∃a es,D.tup ds=.ref a/\rdS st a es/\k (j7 0 es) (λst'=>rdS st' a es) st))=k (j7 0 ds) (λ_=>True) st:=
 propext ⟨(λh=>by
  rcases h with⟨es,r,q⟩|⟨a,es,r,_⟩
  ·cases r;exact q
  ·cases r),λq=>.inl ⟨ds,rfl,q⟩⟩
end
end Ek
namespace Ek
open PySem L2
theorem y6{chk:Sto->Prop}{t:Tg}{tb:DS}{F:DEnds}(I:List D->d8->Sto->Prop)(h0:∀env st,I [] env st->chk st/\F.nx env st)
  (h1:∀d ds env st,(∀env st,I ds env st->n0 chk t tb F ds env st)->I (d::ds) env st->chk st/\B0 t d env λenv'=>tb {F with nx:=n0 chk t tb F ds,ct:=n0 chk t tb F ds,bk:=F.nx} env' st):∀ds env st,I ds env st->n0 chk t tb F ds env st
 |[],env,st,h=>by rw[b39];exact h0 env st h
 |d::ds,env,st,h=>by rw[bs4];exact h1 d ds env st (y6 I h0 h1 ds) h
theorem E4{chk:Sto->Prop}{t:Tg}{tc:DB}{te:DT}{R:List D->Sto->Prop}(I:List D->List D->d8->Sto->Prop)(h0:∀acc env st,I [] acc env st->chk st/\R acc st)
  (h1:∀d ds acc env st,(∀acc env st,I ds acc env st->r8 chk t tc te R ds acc env st)->I (d::ds) acc env st->chk st/\B0 t d env λenv'=>tc env' st λb st1=>if b=AC then te env' st1 λv st2=>r8 chk t tc te R ds (acc++[v]) env' st2 else r8 chk t tc te R ds acc env' st1):∀ds acc env st,I ds acc env st->r8 chk t tc te R ds acc env st
 |[],acc,env,st,h=>by rw[bs8];exact h0 acc env st h
 |d::ds,acc,env,st,h=>by rw[bq6];exact h1 d ds acc env st (E4 I h0 h1 ds) h
def ar3{Z:Sg}{env:d8}{st:Sto}{K:Bool->Sto->Prop}:B2 Z .non env st K=K AC st:=rfl
def N2{Z:Sg}{c:E}{env:d8}{st:Sto}{K:Bool->Sto->Prop}(h:c.isNon=AG):B2 Z c env st K=wpE Z c env st λd st'=>∃b,d=.bl b/\K b st':=by unfold B2;rw[h];rfl
def T6{i j:Int}(h:-(2^64)<j/\j<2^64):F0 i j:=.inl (.inr h)
def J7{i j:Int}(h:-(2^64)<i/\i<2^64):F0 i j:=.inl (.inl h)
def t3{n:Nat}(h:n<=16000000):n<=sizeLine:=Al h ∅
def M6{n:Nat}(h:n<16000000):n<sizeLine:=Ah h ∅
end Ek
namespace Ek
abbrev Ss.drop:Nat->Ss->Ss
 |0,s=>s
 |_+1,.nil=>.nil
 |k+1,.cons _ r=>Ss.drop k r
def bf1{ds:List D}{R:PySem.Addr->List D->Prop}:(∃a es,D.tup ds=.ref a/\R a es)=False:=propext ⟨λ⟨_,_,h,_⟩=>(by cases h),AX⟩
def bg0{a:PySem.Addr}{R:List D->Prop}:(∃es,D.ref a=.tup es/\R es)=False:=propext ⟨λ⟨_,h,_⟩=>(by cases h),AX⟩
def bd4{a:PySem.Addr}{R:PySem.Addr->List D->Prop}:(∃b es,D.ref a=.ref b/\R b es)=∃es,R a es:=propext ⟨λ⟨_,es,h,q⟩=>by cases h;exact⟨es,q⟩,λ⟨es,q⟩=>⟨a,es,rfl,q⟩⟩
end Ek
namespace Ek
open PySem L2
section
variable {Z:Sg} {env:d8} {st:Sto} {k:Option Int->Sto->Prop} {K:Bool->Sto->Prop} {a b:E}
def as1{o:EF}:bnd Z (.bin o a b) env st k=wpE Z (.bin o a b) env st λd st'=>∃i,d=.int i/\k (AA i) st':=B4 rfl
def a98{j:Nat}:bnd Z (.v j) env st k=wpE Z (.v j) env st λd st'=>∃i,d=.int i/\k (AA i) st':=B4 rfl
def an9{g:Str}:bnd Z (.gsel g a) env st k=wpE Z (.gsel g a) env st λd st'=>∃i,d=.int i/\k (AA i) st':=B4 rfl
def ap7:bnd Z (.len a) env st k=wpE Z (.len a) env st λd st'=>∃i,d=.int i/\k (AA i) st':=B4 rfl
def au1:bnd Z (.neg a) env st k=wpE Z (.neg a) env st λd st'=>∃i,d=.int i/\k (AA i) st':=B4 rfl
def az5:bnd Z (.ix a b) env st k=wpE Z (.ix a b) env st λd st'=>∃i,d=.int i/\k (AA i) st':=B4 rfl
def ap6{f:Str}{es:Es}:bnd Z (.call f es) env st k=wpE Z (.call f es) env st λd st'=>∃i,d=.int i/\k (AA i) st':=B4 rfl
def ar7{o:Dc}:B2 Z (.cmp o a b) env st K=wpE Z (.cmp o a b) env st λd st'=>∃b,d=.bl b/\K b st':=N2 rfl
def as0:B2 Z (.and a b) env st K=wpE Z (.and a b) env st λd st'=>∃b,d=.bl b/\K b st':=N2 rfl
def ay6:B2 Z (.or a b) env st K=wpE Z (.or a b) env st λd st'=>∃b,d=.bl b/\K b st':=N2 rfl
def aq4:B2 Z (.not a) env st K=wpE Z (.not a) env st λd st'=>∃b,d=.bl b/\K b st':=N2 rfl
def an3{f:Str}{es:Es}:B2 Z (.call f es) env st K=wpE Z (.call f es) env st λd st'=>∃b,d=.bl b/\K b st':=N2 rfl
end
def as4{Z:Sg}{F:DEnds}{env:d8}{st:Sto}{c:E}{b:Ss}:wpS Z (.while c b) F env st=∃n,v7 (wpT Z c) (d4 Z b) F n env st:=rfl
def R8{tc:DB}{tb:DS}{F:DEnds}(I:Nat->d8->Sto->Prop)(step:∀m env st(W:d8->Sto->Prop),I m env st->(∀m' env' st',m'<m->I m' env' st'->W env' st')->tc env st λb st1=>if b=AC then tb {F with nx:=W,ct:=W,bk:=F.nx} env st1 else F.nx env st1):∀m env st,I m env st->∃n,v7 tc tb F n env st:=by
 have main:∀k m env st,m<=k->I m env st->v7 tc tb F (k+1) env st:=by
  intro k
  induction k with
  |zero=>
   intro m env st hm hI;rw[v7];exact step m env st _ hI λm' env' st' hlt _=>by lia
  |succ k ih=>
   intro m env st hm hI;rw[v7];exact step m env st _ hI λm' env' st' hlt hI'=>ih m' env' st' ⋯ hI'
 exact λm env st hI=>⟨m+1,main m m env st (Af _) hI⟩
def a55{st:Sto}{a:AM}{ds:List D}{d:D}{Q:DK}(h:st a=AA (.lst (ds++[d]))):Q0 (.ref a) st Q=Q d (b0 st a (.lst ds)):=by
 show(∃ds d,st a=AA (.lst (ds++[d]))/\_)=_;refine propext ⟨λ z48=>?_,λq=>⟨ds,d,h,q⟩⟩;obtain⟨es,e,r,q⟩:=z48;rw[h]at r;simp only[Bi,Ob.lst.injEq]at r;obtain⟨r1,r2⟩:=List.append_inj' r rfl;cases r2;rw[r1];exact q
def be0{f:Str}{Q:Str->Prop}:(∃g,AA (AA (D.fn f))=AA (AA (.fn g))/\Q g)=Q f:=propext ⟨λ⟨_,h,q⟩=>by cases h;exact q,λq=>⟨f,rfl,q⟩⟩
variable{x:String}
section
variable {Z:Sg} {F:DEnds} {env:d8} {st:Sto} {Q:DK} {a b c e:D} {l:List D} {A B:Prop} {i:Nat} {s:S} {t u:Ss}
def V3{n:Nat}{k:Int}(e:k=n)(h:l[n]?=AA a):ixR (.tup l) (.int k) st Q=Q a st:=by
 subst e;exact propext ⟨λ⟨_,h',q⟩=>by rw[K9,h]at h';cases h';exact q,λq=>⟨a,by rw[K9];exact h,q⟩⟩
def bd2:ixR (.tup (a::l)) (.int 0) st Q=Q a st:=V3 (n:=0) rfl rfl
def bh8:ixR (.tup (b::a::l)) (.int 1) st Q=Q a st:=V3 (n:=1) rfl rfl
def bg8:ixR (.tup (b::c::a::l)) (.int 2) st Q=Q a st:=V3 (n:=2) rfl rfl
def bh1:ixR (.tup (b::c::e::a::l)) (.int 3) st Q=Q a st:=V3 (n:=3) rfl rfl
def bh2:(∃k,D.bl AC=.bl k/\if k=AC then A else B)=A:=propext ⟨λ⟨_,h,q⟩=>by cases h;exact q,λq=>⟨_,rfl,q⟩⟩
def be2:(∃k,D.bl AG=.bl k/\if k=AC then A else B)=B:=propext ⟨λ⟨_,h,q⟩=>by cases h;exact q,λq=>⟨_,rfl,q⟩⟩
def bb4:j3 .Eq (.str (AD x)) (.str (AD x)) st Q=Q (.bl AC) st:=by rw[V0,decide_eq_true rfl]
def a75{y:String}(h:AB (x=y)=AG):j3 .Eq (.str (AD x)) (.str (AD y)) st Q=Q (.bl AG) st:=by rw[V0,h]
def a65:j3 .NotEq (.str (AD x)) (.str (AD x)) st Q=Q (.bl AG) st:=by rw[U3,decide_eq_true rfl];rfl
def a95{y:String}(h:AB (x=y)=AG):j3 .NotEq (.str (AD x)) (.str (AD y)) st Q=Q (.bl AC) st:=by rw[U3,h];rfl
def bd6(h:wpS Z s ⟨d4 Z t F,F.rt,F.bk,F.ct⟩ env st):d4 Z (.cons s t) F env st:=h
end
end Ek
namespace Ek
open PySem PySem.Spec PyProof.Rows L2
abbrev tx(l:List Nat):Str:=⟨l.toArray⟩
def p7(l:List Nat):(tx l).length=l.length:=by simp[tx,Ji]
def J8{a b:List Nat}(h:tx a=tx b):a=b:=by
 have:=congrArg (λs:Str=>s.cps.toList) h;simpa[tx]using this
def j8(a b:List Nat):tx a++tx b=tx (a++b):=by
 show Str.mk (a.toArray++b.toArray)=_;simp[tx]
def ae2(s:Str):s=tx s.cps.toList:=by cases s;simp[tx]
theorem ba3(W:List Nat)(p:Nat):∀m,((DC m).map (p+·)).filterMap (λi=>W[i]?)=(W.drop p).take m
 |0=>by simp
 |m+1=>by
  rw[List.range_succ,BI,List.filterMap_append,ba3 W p m,List.take_add_one]
  congr 1
  simp only[AY,Be,Eg,List.filterMap_nil,HD];cases W[p+m]?<;>rfl
def aa6(W:List Nat)(p q:Nat)(hp:p<=W.length)(hq:p<=q):DY (tx W) (AA (p:Int)) (AA (q:Int))=tx ((W.drop p).take (q-p)):=by
 have e:Ee (AA (p:Int)) (AA (q:Int)) 1 W.length=(DC (min q W.length-p)).map (p+·):=by
  have h1:¬((p:Int)<0):=by lia
  have h2:¬((q:Int)<0):=by lia
  unfold Ee sliceRange;simp only[show(1:Int)>0 by decide,if_true,JJ,h1,h2,if_false];have ea:max 0 (min (p:Int) W.length)=(p:Int):=by lia
  have eb:max 0 (min (q:Int) W.length)=((min q W.length:Nat):Int):=by lia
  rw[ea,eb];have ec:(if(p:Int)<((min q W.length:Nat):Int)then((min q W.length:Nat):Int)-(p:Int)+1-1 else 0).toNat=min q W.length-p:=by split<;>lia
  rw[ec];exact List.map_congr_left λk _=>by lia
 have et:(W.drop p).take (min q W.length-p)=(W.drop p).take (q-p):=by
  rw[List.take_eq_take_iff,BC];lia
 unfold DY;rw[p7,e]
 split
 ·rename_i h;simp only[Aq,beq_iff_eq,Aj,List.length_range]at h;have:p=0:=by lia
  subst this;rw[<-et,JP,GS ⋯]
 ·rw[<-et,<-ba3];simp[tx]
end Ek
namespace Ek
open PySem L2
inductive Kd where
 |non|one|eith (a b:Kd)|both (a b:Kd)|way (a b:Kd)
 deriving DecidableEq
abbrev Kd.d:Kd->D
 |.non=>.tup [.str "none"]
 |.one=>.tup [.str "one"]
 |.eith a b=>.tup [.str "either",a.d,b.d]
 |.both a b=>.tup [.str "both",a.d,b.d]
 |.way a b=>.tup [.str "way",a.d,b.d]
abbrev Kd.cnt:Kd->Nat
 |.non=>0|.one=>1
 |.eith a b=>a.cnt+b.cnt
 |.both a b=>a.cnt*b.cnt
 |.way a b=>b.cnt^a.cnt
abbrev Kd.nest:Kd->Nat
 |.non=>0|.one=>0
 |.eith a b=>1+max a.nest b.nest
 |.both a b=>1+max a.nest b.nest
 |.way a b=>1+max a.nest b.nest
abbrev Kd.bd(m:Nat):Kd->Prop
 |.non=>True|.one=>1<=m
 |.eith a b=>a.bd m/\b.bd m/\a.cnt+b.cnt<=m
 |.both a b=>a.bd m/\b.bd m/\a.cnt*b.cnt<=m
 |.way a b=>a.bd m/\b.bd m/\b.cnt^a.cnt<=m
def Kd.bd_le{m:Nat}:∀{k:Kd},k.bd m->k.cnt<=m
 |.non,_=>Ar _
 |.one,h=>h
 |.eith _ _,h=>h.2.2
 |.both _ _,h=>h.2.2
 |.way _ _,h=>h.2.2
theorem Kd.bd_mono{m m':Nat}(hm:m<=m'):∀{k:Kd},k.bd m->k.bd m'
 |.non,_=>trivial
 |.one,h=>Al h hm
 |.eith _ _,h=>⟨bd_mono hm h.1,bd_mono hm h.2.1,Al h.2.2 hm⟩
 |.both _ _,h=>⟨bd_mono hm h.1,bd_mono hm h.2.1,Al h.2.2 hm⟩
 |.way _ _,h=>⟨bd_mono hm h.1,bd_mono hm h.2.1,Al h.2.2 hm⟩
def C8{m:Nat}{k:Kd}(h:k.bd m):∀a b,k=.eith a b\/k=.both a b\/k=.way a b->a.bd m/\b.bd m:=λa b e=>by
 rcases e with e|e|e<;>(subst e;exact⟨h.1,h.2.1⟩)
abbrev Kd.good:Kd->Prop
 |.non=>False|.one=>True
 |.eith a b=>(a.good/\b.good)\/(a=.non/\b.good)\/(a.good/\b=.non)
 |.both a b=>a.good/\b.good
 |.way a b=>(a.good\/a=.non)/\b.good/\a.cnt<=6
theorem Kd.good_pos:∀{k:Kd},k.good->0<k.cnt
 |.one,_=>Jd
 |.eith a b,h=>by
  show 0<a.cnt+b.cnt
  rcases h with h|h|h
  ·have:=good_pos h.1;lia
  ·have:=good_pos h.2;lia
  ·have:=good_pos h.1;lia
 |.both a b,h=>Nat.mul_pos (good_pos h.1) (good_pos h.2)
 |.way a b,h=>Ix (good_pos h.2.1)
def z0:∀a b:Kd,deq a.d b.d=AB (a=b):=by
 intro a
 induction a with
 |non=>intro b;cases b<;>simp[Kd.d,n8,j4,g5,i6]
 |one=>intro b;cases b<;>simp[Kd.d,n8,j4,g5,i6]
 |eith a c iha ihc=>intro b;cases b<;>simp[Kd.d,n8,j4,g5,i6,iha,ihc]
 |both a c iha ihc=>intro b;cases b<;>simp[Kd.d,n8,j4,g5,i6,iha,ihc]
 |way a c iha ihc=>intro b;cases b<;>simp[Kd.d,n8,j4,g5,i6,iha,ihc]
def g9{d:D}{r:List D}:D.pures (d::r)=(d.pure&&D.pures r):=rfl
def j5:D.pures []=AC:=rfl
def t0{r:List D}:(D.tup r).pure=D.pures r:=rfl
def bu1{i:Int}:(D.int i).pure=AC:=rfl
theorem p0:∀k:Kd,k.d.pure=AC
 |.non=>by simp only[Kd.d,t0,g9,j5,f7,Aa]
 |.one=>by simp only[Kd.d,t0,g9,j5,f7,Aa]
 |.eith a b=>by simp only[Kd.d,t0,g9,j5,f7,p0 a,p0 b,Aa]
 |.both a b=>by simp only[Kd.d,t0,g9,j5,f7,p0 a,p0 b,Aa]
 |.way a b=>by simp only[Kd.d,t0,g9,j5,f7,p0 a,p0 b,Aa]
theorem aa9:∀l:List Kd,D.pures (l.map Kd.d)=AC
 |[]=>rfl
 |k::r=>by rw[AY,g9,p0,aa9 r];rfl
abbrev l4:List D->Nat
 |[]=>0
 |d::r=>max (f8 d) (l4 r)
theorem an7:∀l:List D,CF (D.pys l)=l4 l
 |[]=>rfl
 |d::r=>by show max (EV d.py) (CF (D.pys r))=_;rw[an7 r];rfl
def l3{l:List D}:f8 (.tup l)=l4 l+1:=by
 show EV (.tuple (D.pys l))=_;rw[EV,an7]
theorem p8:∀k:Kd,f8 k.d=k.nest+1
 |.non=>by simp only[Kd.d,l3,l4,f9,Kd.nest];rfl
 |.one=>by simp only[Kd.d,l3,l4,f9,Kd.nest];rfl
 |.eith a b=>by simp only[Kd.d,l3,l4,f9,Kd.nest,p8 a,p8 b,Jv];lia
 |.both a b=>by simp only[Kd.d,l3,l4,f9,Kd.nest,p8 a,p8 b,Jv];lia
 |.way a b=>by simp only[Kd.d,l3,l4,f9,Kd.nest,p8 a,p8 b,Jv];lia
inductive Pg where
 |name (n:Nat)|star|pair (t u:Pg)|first (t:Pg)|second (t:Pg)|left (b:Kd) (t:Pg)|right (a:Kd) (t:Pg)
 |case (t u v:Pg)|way (a:Kd) (t:Pg)|give (t u:Pg)|lets (t u:Pg)|never (k:Kd) (t:Pg)
 deriving DecidableEq
abbrev Pg.d:Pg->D
 |.name n=>.tup [.str "name",.int n]
 |.star=>.tup [.str "star"]
 |.pair t u=>.tup [.str "pair",t.d,u.d]
 |.first t=>.tup [.str "first",t.d]
 |.second t=>.tup [.str "second",t.d]
 |.left b t=>.tup [.str "left",b.d,t.d]
 |.right a t=>.tup [.str "right",a.d,t.d]
 |.case t u v=>.tup [.str "case",t.d,u.d,v.d]
 |.way a t=>.tup [.str "way",a.d,t.d]
 |.give t u=>.tup [.str "give",t.d,u.d]
 |.lets t u=>.tup [.str "let",t.d,u.d]
 |.never k t=>.tup [.str "never",k.d,t.d]
abbrev Pg.kind(Γ:List Kd):Pg->Option Kd
 |.name n=>Γ[n]?
 |.star=>AA .one
 |.pair t u=>match t.kind Γ,u.kind Γ with
  |some a,AA b=>AA (.both a b)
  |_,_=>AE
 |.first t=>match t.kind Γ with
  |some (.both a _)=>AA a
  |_=>AE
 |.second t=>match t.kind Γ with
  |some (.both _ b)=>AA b
  |_=>AE
 |.left b t=>match t.kind Γ with
  |some a=>AA (.eith a b)
  |_=>AE
 |.right a t=>match t.kind Γ with
  |some b=>AA (.eith a b)
  |_=>AE
 |.case t u v=>match t.kind Γ with
  |some (.eith a b)=>match u.kind (a::Γ),v.kind (b::Γ)with
   |some k,AA l=>if k=l then AA k else AE
   |_,_=>AE
  |_=>AE
 |.way a t=>match t.kind (a::Γ)with
  |some b=>AA (.way a b)
  |_=>AE
 |.give t u=>match t.kind Γ,u.kind Γ with
  |some (.way a b),AA c=>if a=c then AA b else AE
  |_,_=>AE
 |.lets t u=>match t.kind Γ with
  |some a=>u.kind (a::Γ)
  |_=>AE
 |.never k t=>match t.kind Γ with
  |some .non=>AA k
  |_=>AE
abbrev Pg.kids:Pg->List Pg
 |.name _=>[]|.star=>[]
 |.pair t u=>[t,u]|.first t=>[t]|.second t=>[t]|.left _ t=>[t]|.right _ t=>[t]
 |.case t u v=>[t,u,v]|.way _ t=>[t]|.give t u=>[t,u]|.lets t u=>[t,u]|.never _ t=>[t]
abbrev Pg.hgt:Pg->Nat
 |.name _=>1|.star=>1
 |.pair t u=>1+max t.hgt u.hgt|.first t=>1+t.hgt|.second t=>1+t.hgt|.left _ t=>1+t.hgt|.right _ t=>1+t.hgt
 |.case t u v=>1+max t.hgt (max u.hgt v.hgt)|.way _ t=>1+t.hgt|.give t u=>1+max t.hgt u.hgt|.lets t u=>1+max t.hgt u.hgt|.never _ t=>1+t.hgt
abbrev Pg.parts:Pg->Nat
 |.name _=>1|.star=>1
 |.pair t u=>1+t.parts+u.parts|.first t=>1+t.parts|.second t=>1+t.parts|.left _ t=>1+t.parts|.right _ t=>1+t.parts
 |.case t u v=>1+t.parts+u.parts+v.parts|.way _ t=>1+t.parts|.give t u=>1+t.parts+u.parts|.lets t u=>1+t.parts+u.parts|.never _ t=>1+t.parts
abbrev Pg.kn(m:Nat):Pg->Prop
 |.name _=>True|.star=>True
 |.pair t u=>t.kn m/\u.kn m|.first t=>t.kn m|.second t=>t.kn m|.left b t=>b.nest<=m/\t.kn m|.right a t=>a.nest<=m/\t.kn m
 |.case t u v=>t.kn m/\u.kn m/\v.kn m|.way a t=>a.nest<=m/\t.kn m|.give t u=>t.kn m/\u.kn m|.lets t u=>t.kn m/\u.kn m|.never k t=>k.nest<=m/\t.kn m
def b97:∀a b:Pg,deq a.d b.d=AB (a=b):=by
 intro a
 induction a with
 |name n=>intro b;cases b<;>simp[Pg.d,n8,j4,g5,S8,i6]<;>lia
 |star=>intro b;cases b<;>simp[Pg.d,n8,j4,g5,i6]
 |pair t u iht ihu=>intro b;cases b<;>simp[Pg.d,n8,j4,g5,i6,iht,ihu]
 |give t u iht ihu=>intro b;cases b<;>simp[Pg.d,n8,j4,g5,i6,iht,ihu]
 |lets t u iht ihu=>intro b;cases b<;>simp[Pg.d,n8,j4,g5,i6,iht,ihu]
 |first t iht=>intro b;cases b<;>simp[Pg.d,n8,j4,g5,i6,iht]
 |second t iht=>intro b;cases b<;>simp[Pg.d,n8,j4,g5,i6,iht]
 |left k t iht=>intro b;cases b<;>simp[Pg.d,n8,j4,g5,i6,iht,z0]
 |right k t iht=>intro b;cases b<;>simp[Pg.d,n8,j4,g5,i6,iht,z0]
 |way k t iht=>intro b;cases b<;>simp[Pg.d,n8,j4,g5,i6,iht,z0]
 |never k t iht=>intro b;cases b<;>simp[Pg.d,n8,j4,g5,i6,iht,z0]
 |case t u v iht ihu ihv=>intro b;cases b<;>simp[Pg.d,n8,j4,g5,i6,iht,ihu,ihv]
def at1(p:Pg):p.d.pure=AC:=by
 induction p<;>simp only[Pg.d,t0,g9,j5,f7,bu1,p0,Aa, *]
def cg6{m:Nat}(p:Pg)(h:p.kn m):f8 p.d<=p.hgt+m+1:=by
 have mx:∀a b c:Nat,a<=c->b<=c->max a b<=c:=λa b c h h'=>Nat.max_le.mpr ⟨h,h'⟩;have l1:∀a b:Nat,a<=max a b:=λa b=>DX a b;have l2:∀a b:Nat,b<=max a b:=λa b=>Cj a b
 induction p with
 |name n=>simp only[Pg.d,l3,l4,f9,O5,Pg.hgt];simp
 |star=>simp only[Pg.d,l3,l4,f9,Pg.hgt];simp
 |pair t u iht ihu=>simp only[Pg.d,l3,l4,f9,Pg.hgt];have:=iht h.1;have:=ihu h.2;have:=l1 t.hgt u.hgt;have:=l2 t.hgt u.hgt;apply Bl;refine mx _ _ _ ⋯ (mx _ _ _ ⋯ (mx _ _ _ ⋯ ⋯))
 |give t u iht ihu=>simp only[Pg.d,l3,l4,f9,Pg.hgt];have:=iht h.1;have:=ihu h.2;have:=l1 t.hgt u.hgt;have:=l2 t.hgt u.hgt;apply Bl;refine mx _ _ _ ⋯ (mx _ _ _ ⋯ (mx _ _ _ ⋯ ⋯))
 |lets t u iht ihu=>simp only[Pg.d,l3,l4,f9,Pg.hgt];have:=iht h.1;have:=ihu h.2;have:=l1 t.hgt u.hgt;have:=l2 t.hgt u.hgt;apply Bl;refine mx _ _ _ ⋯ (mx _ _ _ ⋯ (mx _ _ _ ⋯ ⋯))
 |first t iht=>simp only[Pg.d,l3,l4,f9,Pg.hgt];have:=iht h;apply Bl;refine mx _ _ _ ⋯ (mx _ _ _ ⋯ ⋯)
 |second t iht=>simp only[Pg.d,l3,l4,f9,Pg.hgt];have:=iht h;apply Bl;refine mx _ _ _ ⋯ (mx _ _ _ ⋯ ⋯)
 |left k t iht=>simp only[Pg.d,l3,l4,f9,p8,Pg.hgt];have:=iht h.2;have:=h.1;apply Bl;refine mx _ _ _ ⋯ (mx _ _ _ ⋯ (mx _ _ _ ⋯ ⋯))
 |right k t iht=>simp only[Pg.d,l3,l4,f9,p8,Pg.hgt];have:=iht h.2;have:=h.1;apply Bl;refine mx _ _ _ ⋯ (mx _ _ _ ⋯ (mx _ _ _ ⋯ ⋯))
 |way k t iht=>simp only[Pg.d,l3,l4,f9,p8,Pg.hgt];have:=iht h.2;have:=h.1;apply Bl;refine mx _ _ _ ⋯ (mx _ _ _ ⋯ (mx _ _ _ ⋯ ⋯))
 |never k t iht=>simp only[Pg.d,l3,l4,f9,p8,Pg.hgt];have:=iht h.2;have:=h.1;apply Bl;refine mx _ _ _ ⋯ (mx _ _ _ ⋯ (mx _ _ _ ⋯ ⋯))
 |case t u v iht ihu ihv=>
  simp only[Pg.d,l3,l4,f9,Pg.hgt];have:=iht h.1;have:=ihu h.2.1;have:=ihv h.2.2;have:=l1 t.hgt (max u.hgt v.hgt);have:=l2 t.hgt (max u.hgt v.hgt);have:=l1 u.hgt v.hgt;have:=l2 u.hgt v.hgt;apply Bl;refine mx _ _ _ ⋯ (mx _ _ _ ⋯ (mx _ _ _ ⋯ (mx _ _ _ ⋯ ⋯)))
inductive Kn:List Kd->Pg->Kd->Prop
 |name {Γ n k}:Γ[n]?=AA k->Kn Γ (.name n) k
 |star {Γ}:Kn Γ .star .one
 |pair {Γ t u a b}:Kn Γ t a->Kn Γ u b->Kn Γ (.pair t u) (.both a b)
 |first {Γ t a b}:Kn Γ t (.both a b)->Kn Γ (.first t) a
 |second {Γ t a b}:Kn Γ t (.both a b)->Kn Γ (.second t) b
 |left {Γ t a b}:Kn Γ t a->Kn Γ (.left b t) (.eith a b)
 |right {Γ t a b}:Kn Γ t b->Kn Γ (.right a t) (.eith a b)
 |case {Γ t u v a b c}:Kn Γ t (.eith a b)->Kn (a::Γ) u c->Kn (b::Γ) v c->Kn Γ (.case t u v) c
 |way {Γ t a b}:Kn (a::Γ) t b->Kn Γ (.way a t) (.way a b)
 |give {Γ t u a b}:Kn Γ t (.way a b)->Kn Γ u a->Kn Γ (.give t u) b
 |lets {Γ t u a b}:Kn Γ t a->Kn (a::Γ) u b->Kn Γ (.lets t u) b
 |never {Γ t b}:Kn Γ t .non->Kn Γ (.never b t) b
def ci8:∀{p:Pg}{Γ:List Kd}{k:Kd},p.kind Γ=AA k->Kn Γ p k:=by
 intro p
 induction p with
 |name n=>exact λh=>.name h
 |star=>intro Γ k h;cases h;exact .star
 |pair t u i j=>
  intro Γ k h;unfold Pg.kind at h;cases e:t.kind Γ with
  |none=>rw[e]at h;cases h
  |some a=>cases f:u.kind Γ with
   |none=>rw[e,f]at h;cases h
   |some b=>rw[e,f]at h;cases h;exact .pair (i e) (j f)
 |first t i=>
  intro Γ k h;unfold Pg.kind at h;cases e:t.kind Γ with
  |none=>rw[e]at h;cases h
  |some a=>rw[e]at h;cases a<;>cases h;exact .first (i e)
 |second t i=>
  intro Γ k h;unfold Pg.kind at h;cases e:t.kind Γ with
  |none=>rw[e]at h;cases h
  |some a=>rw[e]at h;cases a<;>cases h;exact .second (i e)
 |left b t i=>
  intro Γ k h;unfold Pg.kind at h;cases e:t.kind Γ with
  |none=>rw[e]at h;cases h
  |some a=>rw[e]at h;cases h;exact .left (i e)
 |right b t i=>
  intro Γ k h;unfold Pg.kind at h;cases e:t.kind Γ with
  |none=>rw[e]at h;cases h
  |some a=>rw[e]at h;cases h;exact .right (i e)
 |case t u v i j l=>
  intro Γ k h;unfold Pg.kind at h;cases e:t.kind Γ with
  |none=>rw[e]at h;cases h
  |some a=>
   rw[e]at h;cases a<;>first|cases h;done|skip
   rename_i a b;replace h:(match u.kind (a::Γ),v.kind (b::Γ)with|some k,AA l=>if k=l then AA k else AE|_,_=>AE)=AA k:=h;cases f:u.kind (a::Γ)with
   |none=>rw[f]at h;cases h
   |some c=>cases g:v.kind (b::Γ)with
    |none=>rw[f,g]at h;cases h
    |some d=>
     rw[f,g]at h
     by_cases z:c=d
     ·cases(if_pos z).symm.trans h;cases z;exact .case (i e) (j f) (l g)
     ·cases(if_neg z).symm.trans h
 |way a t i=>
  intro Γ k h;unfold Pg.kind at h;cases e:t.kind (a::Γ)with
  |none=>rw[e]at h;cases h
  |some a=>rw[e]at h;cases h;exact .way (i e)
 |give t u i j=>
  intro Γ k h;unfold Pg.kind at h;cases e:t.kind Γ with
  |none=>rw[e]at h;cases h
  |some a=>cases f:u.kind Γ with
   |none=>rw[e,f]at h;cases a<;>cases h
   |some c=>
    rw[e,f]at h;cases a<;>first|cases h;done|skip
    rename_i a b
    by_cases z:a=c
    ·cases(if_pos z).symm.trans h;cases z;exact .give (i e) (j f)
    ·cases(if_neg z).symm.trans h
 |lets t u i j=>
  intro Γ k h;unfold Pg.kind at h;cases e:t.kind Γ with
  |none=>rw[e]at h;cases h
  |some a=>rw[e]at h;exact .lets (i e) (j h)
 |never b t i=>
  intro Γ k h;unfold Pg.kind at h;cases e:t.kind Γ with
  |none=>rw[e]at h;cases h
  |some a=>rw[e]at h;cases a<;>cases h;exact .never (i e)
end Ek
namespace Ek
open PySem
abbrev Z2:Def:=⟨2,["_law_cell","_law_k","_law_number"],
 (.cons (.set 2 (.bin .Mod (.bin .Add (.bin .Add (.bin .Mult (.bin .Mod (.v 0) (.int 2147483629)) (.int 48271)) (.bin .Mult (.int 7919) (.v 1))) (.int 13)) (.int 2147483629)))
 (.cons (.set 2 (.bin .Mod (.bin .Add (.bin .Mult (.v 2) (.bin .Add (.bin .FloorDiv (.v 2) (.int 5)) (.v 1))) (.bin .Mult (.int 16807) (.v 1))) (.int 2147483587)))
 (.cons (.ret (.bin .Mod (.bin .Add (.bin .Mult (.v 2) (.int 69621)) (.bin .FloorDiv (.v 2) (.int 127))) (.int 2147483647)))
 .nil)))⟩
abbrev x0:Def:=⟨1,["_law_script","_law_deck_here","_law_k","_law_cell","_law_number","_law_turn"],
 (.cons (.set 1 (.lst .nil))
 (.cons (.for (.tup [2,3]) (.enum (.sl (.v 0) .non (.int 63)))
   (.cons (.set 4 (.bin .Mod (.abs (.v 3)) (.bin .Pow (.int 2147483647) (.int 60))))
  (.cons (.iff (.cmp .Lt (.v 4) (.bin .Pow (.int 10) (.int 18)))
    (.cons (.ex (.ext (.v 1) (.comp ["_law_number","_law_k","_law_j"] [4,2] 1 (.n 2) (.rng (.int 7)) .non (.call "_law_mixed" (.cons (.v 0) (.cons (.bin .Add (.bin .Mult (.int 7) (.v 1)) (.v 2)) .nil))))))
   (.cons (.set 4 (.int 0))
   .nil))
    .nil)
  (.cons (.for (.n 5) (.rng (.int 60))
    (.cons (.iff (.cmp .Gt (.v 4) (.int 0))
     (.cons (.ex (.app (.v 1) (.bin .Mod (.v 4) (.int 2147483647))))
    (.cons (.set 4 (.bin .FloorDiv (.v 4) (.int 2147483647)))
    .nil))
     .nil)
   .nil))
  .nil))))
 (.cons (.for (.n 2) (.rng2 (.len (.v 1)) (.int 150))
   (.cons (.ex (.app (.v 1) (.call "_law_mixed" (.cons (.sum (.sl (.v 0) .non (.int 63))) (.cons (.v 2) .nil)))))
  .nil))
 (.cons (.ret (.sl (.v 1) .non (.int 900)))
 .nil))))⟩
abbrev Z9:Def:=⟨2,["_law_deck_here","_law_many"],
 (.cons (.iff (.cmp .Eq (.len (.v 0)) (.int 0))
   (.cons (.ret (.int 0))
  .nil)
   .nil)
 (.cons (.ret (.bin .Mod (.popAt (.v 0) (.int 0)) (.v 1)))
 .nil))⟩
abbrev Z4:Def:=⟨2,["_law_number","_law_times","_law_found","_law_turn"],
 (.cons (.set 2 (.int 1))
 (.cons (.for (.n 3) (.rng (.v 1))
   (.cons (.set 2 (.bin .Mult (.v 2) (.v 0)))
  .nil))
 (.cons (.ret (.v 2))
 .nil)))⟩
abbrev Q7:Def:=⟨1,["_law_kind_here","_law_one","_law_other"],
 (.cons (.iff (.cmp .Eq (.len (.v 0)) (.int 1))
   (.cons (.ret (.toInt (.cmp .Eq (.ix (.v 0) (.int 0)) (.str "one"))))
  .nil)
   .nil)
 (.cons (.set 1 (.call "_law_count" (.cons (.ix (.v 0) (.int 1)) .nil)))
 (.cons (.set 2 (.call "_law_count" (.cons (.ix (.v 0) (.int 2)) .nil)))
 (.cons (.ret (.dsel ["either","both","way"] (.cons (.bin .Add (.v 1) (.v 2)) (.cons (.bin .Mult (.v 1) (.v 2)) (.cons (.call "_law_power" (.cons (.v 2) (.cons (.v 1) .nil))) .nil))) (.ix (.v 0) (.int 0))))
 .nil))))⟩
abbrev z9:Def:=⟨3,["_law_deck_here","_law_deep","_law_most","_law_way","_law_word","_law_one","_law_other"],
 (.cons (.set 3 (.call "_law_next" (.cons (.v 0) (.cons (.ix (.lst (.cons (.int 1) (.cons (.int 6) .nil))) (.toInt (.cmp .Gt (.v 1) (.int 0)))) .nil))))
 (.cons (.iff (.or (.cmp .Eq (.v 3) (.int 0)) (.cmp .Eq (.v 3) (.int 5)))
   (.cons (.ret (.ix (.lst (.cons (.tup (.cons (.str "one") .nil)) (.cons (.tup (.cons (.str "either") (.cons (.tup (.cons (.str "one") .nil)) (.cons (.tup (.cons (.str "one") .nil)) .nil)))) .nil))) (.toInt (.and (.cmp .Eq (.v 3) (.int 5)) (.cmp .Gt (.v 2) (.int 1))))))
  .nil)
   .nil)
 (.cons (.set 4 (.ix (.lst (.cons (.str "either") (.cons (.str "both") (.cons (.str "way") (.cons (.str "either") .nil))))) (.bin .Sub (.v 3) (.int 1))))
 (.cons (.set 5 (.call "_law_kind" (.cons (.v 0) (.cons (.bin .Sub (.v 1) (.int 1)) (.cons (.v 2) .nil)))))
 (.cons (.set 6 (.call "_law_kind" (.cons (.v 0) (.cons (.bin .Sub (.v 1) (.int 1)) (.cons (.v 2) .nil)))))
 (.cons (.iff (.and (.cmp .NotEq (.v 4) (.str "both")) (.cmp .Eq (.call "_law_next" (.cons (.v 0) (.cons (.int 6) .nil))) (.int 1)))
   (.cons (.set 5 (.tup (.cons (.str "none") .nil)))
  .nil)
   (.cons (.iff (.and (.cmp .Eq (.v 4) (.str "either")) (.cmp .Eq (.call "_law_next" (.cons (.v 0) (.cons (.int 6) .nil))) (.int 1)))
    (.cons (.set 6 (.tup (.cons (.str "none") .nil)))
   .nil)
    .nil)
  .nil))
 (.cons (.iff (.and (.cmp .Eq (.v 4) (.str "way")) (.cmp .Gt (.call "_law_count" (.cons (.v 5) .nil)) (.int 6)))
   (.cons (.set 5 (.tup (.cons (.str "one") .nil)))
  .nil)
   .nil)
 (.cons (.iff (.cmp .Gt (.call "_law_count" (.cons (.tup (.cons (.v 4) (.cons (.v 5) (.cons (.v 6) .nil)))) .nil)) (.v 2))
   (.cons (.ret (.tup (.cons (.str "one") .nil)))
  .nil)
   .nil)
 (.cons (.ret (.tup (.cons (.v 4) (.cons (.v 5) (.cons (.v 6) .nil)))))
 .nil)))))))))⟩
abbrev G8:Def:=⟨2,["_law_kind_here","_law_names_here","_law_word","_law_body"],
 (.cons (.set 2 (.ix (.v 0) (.int 0)))
 (.cons (.iff (.cmp .Eq (.v 2) (.str "none"))
   (.cons (.ret (.tup (.cons (.str "name") (.cons (.index (.v 1) (.v 0)) .nil))))
  .nil)
   .nil)
 (.cons (.iff (.cmp .Eq (.v 2) (.str "one"))
   (.cons (.ret (.tup (.cons (.str "star") .nil)))
  .nil)
   .nil)
 (.cons (.iff (.cmp .Eq (.v 2) (.str "both"))
   (.cons (.ret (.tup (.cons (.str "pair") (.cons (.call "_law_least" (.cons (.ix (.v 0) (.int 1)) (.cons (.v 1) .nil))) (.cons (.call "_law_least" (.cons (.ix (.v 0) (.int 2)) (.cons (.v 1) .nil))) .nil)))))
  .nil)
   .nil)
 (.cons (.iff (.cmp .Eq (.v 2) (.str "way"))
   (.cons (.set 3 (.bin .Add (.tup (.cons (.ix (.v 0) (.int 1)) .nil)) (.v 1)))
  (.cons (.ret (.tup (.cons (.str "way") (.cons (.ix (.v 0) (.int 1)) (.cons (.call "_law_least" (.cons (.ix (.v 0) (.int 2)) (.cons (.v 3) .nil))) .nil)))))
  .nil))
   .nil)
 (.cons (.iff (.cmp .Gt (.call "_law_count" (.cons (.ix (.v 0) (.int 1)) .nil)) (.int 0))
   (.cons (.ret (.tup (.cons (.str "left") (.cons (.ix (.v 0) (.int 2)) (.cons (.call "_law_least" (.cons (.ix (.v 0) (.int 1)) (.cons (.v 1) .nil))) .nil)))))
  .nil)
   .nil)
 (.cons (.ret (.tup (.cons (.str "right") (.cons (.ix (.v 0) (.int 1)) (.cons (.call "_law_least" (.cons (.ix (.v 0) (.int 2)) (.cons (.v 1) .nil))) .nil)))))
 .nil)))))))⟩
abbrev B3:Def:=⟨5,["_law_deck_here","_law_kind_here","_law_names_here","_law_room","_law_deep","_law_word","_law_one","_law_side","_law_body"],
 (.cons (.set 5 (.ix (.v 1) (.int 0)))
 (.cons (.iff (.or (.cmp .Eq (.v 5) (.str "none")) (.cmp .Eq (.v 5) (.str "one")))
   (.cons (.ret (.call "_law_least" (.cons (.v 1) (.cons (.v 2) .nil))))
  .nil)
   .nil)
 (.cons (.iff (.cmp .Eq (.v 5) (.str "both"))
   (.cons (.set 6 (.call "_law_grown" (.cons (.v 0) (.cons (.ix (.v 1) (.int 1)) (.cons (.v 2) (.cons (.v 3) (.cons (.bin .Sub (.v 4) (.int 1)) .nil)))))))
  (.cons (.ret (.tup (.cons (.str "pair") (.cons (.v 6) (.cons (.call "_law_grown" (.cons (.v 0) (.cons (.ix (.v 1) (.int 2)) (.cons (.v 2) (.cons (.v 3) (.cons (.bin .Sub (.v 4) (.int 1)) .nil)))))) .nil)))))
  .nil))
   .nil)
 (.cons (.iff (.cmp .Eq (.v 5) (.str "way"))
   (.cons (.ret (.tup (.cons (.str "way") (.cons (.ix (.v 1) (.int 1)) (.cons (.call "_law_grown" (.cons (.v 0) (.cons (.ix (.v 1) (.int 2)) (.cons (.bin .Add (.tup (.cons (.ix (.v 1) (.int 1)) .nil)) (.v 2)) (.cons (.v 3) (.cons (.bin .Sub (.v 4) (.int 1)) .nil)))))) .nil)))))
  .nil)
   .nil)
 (.cons (.set 7 (.call "_law_next" (.cons (.v 0) (.cons (.int 2) .nil))))
 (.cons (.iff (.cmp .Eq (.call "_law_count" (.cons (.ix (.v 1) (.bin .Add (.int 1) (.v 7))) .nil)) (.int 0))
   (.cons (.set 7 (.bin .Sub (.int 1) (.v 7)))
  .nil)
   .nil)
 (.cons (.set 8 (.call "_law_grown" (.cons (.v 0) (.cons (.ix (.v 1) (.bin .Add (.int 1) (.v 7))) (.cons (.v 2) (.cons (.v 3) (.cons (.bin .Sub (.v 4) (.int 1)) .nil)))))))
 (.cons (.ret (.tup (.cons (.ix (.lst (.cons (.str "left") (.cons (.str "right") .nil))) (.v 7)) (.cons (.ix (.v 1) (.bin .Sub (.int 2) (.v 7))) (.cons (.v 8) .nil)))))
 .nil))))))))⟩
abbrev R0:Def:=⟨1,["_law_kind_here"],
 (.cons (.iff (.cmp .Eq (.len (.v 0)) (.int 1))
   (.cons (.ret (.int 0))
  .nil)
   .nil)
 (.cons (.ret (.bin .Add (.int 1) (.max (.call "_law_nest" (.cons (.ix (.v 0) (.int 1)) .nil)) (.call "_law_nest" (.cons (.ix (.v 0) (.int 2)) .nil)))))
 .nil))⟩
abbrev E2:Def:=⟨5,["_law_deck_here","_law_kind_here","_law_names_here","_law_room","_law_deep","_law_other","_law_way","_law_known","_law_more","_law_one"],
 (.cons (.set 5 (.call "_law_kind" (.cons (.v 0) (.cons (.int 1) (.cons (.int 4) .nil)))))
 (.cons (.iff (.or (.cmp .Gt (.call "_law_count" (.cons (.tup (.cons (.str "both") (.cons (.v 1) (.cons (.v 5) .nil)))) .nil)) (.int 100)) (.cmp .Gt (.call "_law_count" (.cons (.tup (.cons (.str "way") (.cons (.v 5) (.cons (.v 1) .nil)))) .nil)) (.int 100)))
   (.cons (.set 5 (.tup (.cons (.str "one") .nil)))
  .nil)
   .nil)
 (.cons (.set 6 (.call "_law_next" (.cons (.v 0) (.cons (.int 6) .nil))))
 (.cons (.iff (.cmp .Eq (.v 6) (.int 0))
   (.cons (.ret (.tup (.cons (.str "first") (.cons (.call "_law_grown" (.cons (.v 0) (.cons (.tup (.cons (.str "both") (.cons (.v 1) (.cons (.v 5) .nil)))) (.cons (.v 2) (.cons (.v 3) (.cons (.bin .Sub (.v 4) (.int 1)) .nil)))))) .nil))))
  .nil)
   .nil)
 (.cons (.iff (.cmp .Eq (.v 6) (.int 1))
   (.cons (.ret (.tup (.cons (.str "second") (.cons (.call "_law_grown" (.cons (.v 0) (.cons (.tup (.cons (.str "both") (.cons (.v 5) (.cons (.v 1) .nil)))) (.cons (.v 2) (.cons (.v 3) (.cons (.bin .Sub (.v 4) (.int 1)) .nil)))))) .nil))))
  .nil)
   .nil)
 (.cons (.iff (.cmp .Eq (.v 6) (.int 2))
   (.cons (.set 7 (.call "_law_grown" (.cons (.v 0) (.cons (.tup (.cons (.str "way") (.cons (.v 5) (.cons (.v 1) .nil)))) (.cons (.v 2) (.cons (.v 3) (.cons (.bin .Sub (.v 4) (.int 1)) .nil)))))))
  (.cons (.ret (.tup (.cons (.str "give") (.cons (.v 7) (.cons (.call "_law_grown" (.cons (.v 0) (.cons (.v 5) (.cons (.v 2) (.cons (.v 3) (.cons (.bin .Sub (.v 4) (.int 1)) .nil)))))) .nil)))))
  .nil))
   .nil)
 (.cons (.iff (.cmp .Eq (.v 6) (.int 3))
   (.cons (.set 7 (.call "_law_grown" (.cons (.v 0) (.cons (.v 5) (.cons (.v 2) (.cons (.v 3) (.cons (.bin .Sub (.v 4) (.int 1)) .nil)))))))
  (.cons (.ret (.tup (.cons (.str "let") (.cons (.v 7) (.cons (.call "_law_grown" (.cons (.v 0) (.cons (.v 1) (.cons (.bin .Add (.tup (.cons (.v 5) .nil)) (.v 2)) (.cons (.v 3) (.cons (.bin .Sub (.v 4) (.int 1)) .nil)))))) .nil)))))
  .nil))
   .nil)
 (.cons (.iff (.and (.cmp .Eq (.v 6) (.int 4)) (.cmp .In (.tup (.cons (.str "none") .nil)) (.v 2)))
   (.cons (.ret (.tup (.cons (.str "never") (.cons (.v 1) (.cons (.tup (.cons (.str "name") (.cons (.index (.v 2) (.tup (.cons (.str "none") .nil))) .nil))) .nil)))))
  .nil)
   .nil)
 (.cons (.set 8 (.call "_law_kind" (.cons (.v 0) (.cons (.int 1) (.cons (.int 4) .nil)))))
 (.cons (.set 7 (.call "_law_grown" (.cons (.v 0) (.cons (.tup (.cons (.str "either") (.cons (.v 5) (.cons (.v 8) .nil)))) (.cons (.v 2) (.cons (.v 3) (.cons (.bin .Sub (.v 4) (.int 1)) .nil)))))))
 (.cons (.set 9 (.call "_law_grown" (.cons (.v 0) (.cons (.v 1) (.cons (.bin .Add (.tup (.cons (.v 5) .nil)) (.v 2)) (.cons (.v 3) (.cons (.bin .Sub (.v 4) (.int 1)) .nil)))))))
 (.cons (.ret (.tup (.cons (.str "case") (.cons (.v 7) (.cons (.v 9) (.cons (.call "_law_grown" (.cons (.v 0) (.cons (.v 1) (.cons (.bin .Add (.tup (.cons (.v 8) .nil)) (.v 2)) (.cons (.v 3) (.cons (.bin .Sub (.v 4) (.int 1)) .nil)))))) .nil))))))
 .nil))))))))))))⟩
abbrev G7:Def:=⟨5,["_law_deck_here","_law_kind_here","_law_names_here","_law_room","_law_deep","_law_some","_law_way"],
 (.cons (.put (.v 3) (.int 0) (.bin .Sub (.ix (.v 3) (.int 0)) (.int 1)))
 (.cons (.set 5 (.comp ["_law_kind_here","_law_k","_law_name"] [1] 2 (.tup [1,2]) (.enum (.v 2)) (.cmp .Eq (.v 2) (.v 0)) (.v 1)))
 (.cons (.set 6 (.call "_law_next" (.cons (.v 0) (.cons (.int 8) .nil))))
 (.cons (.iff (.and (.cmp .Gt (.len (.v 5)) (.int 0)) (.cmp .Lt (.v 6) (.int 3)))
   (.cons (.ret (.tup (.cons (.str "name") (.cons (.ix (.v 5) (.call "_law_next" (.cons (.v 0) (.cons (.len (.v 5)) .nil)))) .nil))))
  .nil)
   .nil)
 (.cons (.iff (.or (.cmp .LtE (.ix (.v 3) (.int 0)) (.int 0)) (.or (.cmp .LtE (.v 4) (.int 0)) (.cmp .Eq (.v 1) (.tup (.cons (.str "none") .nil)))))
   (.cons (.ret (.call "_law_least" (.cons (.v 1) (.cons (.v 2) .nil))))
  .nil)
   .nil)
 (.cons (.iff (.or (.cmp .Lt (.v 6) (.int 6)) (.cmp .Gt (.call "_law_nest" (.cons (.v 1) .nil)) (.int 4)))
   (.cons (.ret (.call "_law_made" (.cons (.v 0) (.cons (.v 1) (.cons (.v 2) (.cons (.v 3) (.cons (.v 4) .nil)))))))
  .nil)
   .nil)
 (.cons (.ret (.call "_law_asked" (.cons (.v 0) (.cons (.v 1) (.cons (.v 2) (.cons (.v 3) (.cons (.v 4) .nil)))))))
 .nil)))))))⟩
abbrev Q8:Def:=⟨1,["_law_program_here","_law_word"],
 (.cons (.set 1 (.ix (.v 0) (.int 0)))
 (.cons (.iff (.cmp .Eq (.v 1) (.str "name"))
   (.cons (.ret (.tup .nil))
  .nil)
   .nil)
 (.cons (.ret (.sl (.v 0) (.bin .Add (.int 1) (.toInt (.cmp .In (.v 1) (.tup (.cons (.str "left") (.cons (.str "right") (.cons (.str "way") (.cons (.str "never") .nil)))))))) .non))
 .nil)))⟩
abbrev Z3:Def:=⟨1,["_law_program_here"],
 (.cons (.ret (.bin .Add (.int 1) (.sum (.comp ["_law_piece"] [] 1 (.n 0) (.seq (.call "_law_inner" (.cons (.v 0) .nil))) .non (.call "_law_parts" (.cons (.v 0) .nil))))))
 .nil)⟩
abbrev Y8:Def:=⟨4,["_law_deck_here","_law_kind_here","_law_names_here","_law_many","_law_found"],
 (.cons (.set 4 (.call "_law_grown" (.cons (.v 0) (.cons (.v 1) (.cons (.v 2) (.cons (.lst (.cons (.v 3) .nil)) (.cons (.int 8) .nil)))))))
 (.cons (.iff (.cmp .Gt (.call "_law_parts" (.cons (.v 4) .nil)) (.int 60))
   (.cons (.ret (.call "_law_least" (.cons (.v 1) (.cons (.v 2) .nil))))
  .nil)
   .nil)
 (.cons (.ret (.v 4))
 .nil)))⟩
abbrev w8:Def:=⟨3,["_law_deck_here","_law_most","_law_lines","_law_names_here","_law_many","_law_k","_law_kind_here"],
 (.cons (.set 3 (.tup .nil))
 (.cons (.set 4 (.int 1))
 (.cons (.for (.n 5) (.rng (.call "_law_next" (.cons (.v 0) (.cons (.bin .Add (.v 1) (.int 1)) .nil))))
   (.cons (.set 6 (.call "_law_kind" (.cons (.v 0) (.cons (.int 2) (.cons (.int 16) .nil)))))
  (.cons (.iff (.cmp .Eq (.call "_law_next" (.cons (.v 0) (.cons (.int 12) .nil))) (.int 1))
    (.cons (.set 6 (.tup (.cons (.str "none") .nil)))
   .nil)
    .nil)
  (.cons (.iff (.cmp .LtE (.bin .Mult (.v 4) (.max (.int 1) (.call "_law_count" (.cons (.v 6) .nil)))) (.v 2))
    (.cons (.set 4 (.bin .Mult (.v 4) (.max (.int 1) (.call "_law_count" (.cons (.v 6) .nil)))))
   (.cons (.set 3 (.bin .Add (.v 3) (.tup (.cons (.v 6) .nil))))
   .nil))
    .nil)
  .nil))))
 (.cons (.ret (.v 3))
 .nil))))⟩
abbrev W9:Def:=⟨2,["self","text"],
 (.cons (.fldS (.v 0) "text" (.v 1))
 (.cons (.fldS (.v 0) "place" (.int 0))
 .nil))⟩
abbrev W8:Def:=⟨1,["self"],
 (.cons (.ret (.ssl (.fld (.v 0) "text") (.fld (.v 0) "place") (.bin .Add (.fld (.v 0) "place") (.int 1))))
 .nil)⟩
abbrev X8:Def:=⟨1,["self","sign"],
 (.cons (.set 1 (.meth (.v 0) "next_sign" .nil))
 (.cons (.fldS (.v 0) "place" (.bin .Add (.fld (.v 0) "place") (.int 1)))
 (.cons (.ret (.v 1))
 .nil)))⟩
abbrev X5:Def:=⟨2,["self","wanted"],
 (.cons (.iff (.cmp .NotEq (.ssl (.fld (.v 0) "text") (.fld (.v 0) "place") (.bin .Add (.fld (.v 0) "place") (.slen (.v 1)))) (.v 1))
   (.cons .dead
  .nil)
   .nil)
 (.cons (.fldS (.v 0) "place" (.bin .Add (.fld (.v 0) "place") (.slen (.v 1))))
 .nil))⟩
abbrev X1:Def:=⟨2,["self","choices","start"],
 (.cons (.set 2 (.fld (.v 0) "place"))
 (.cons (.while (.and (.cmp .NotEq (.meth (.v 0) "next_sign" .nil) (.str "")) (.sin AG (.meth (.v 0) "next_sign" .nil) (.v 1)))
   (.cons (.fldS (.v 0) "place" (.bin .Add (.fld (.v 0) "place") (.int 1)))
  .nil))
 (.cons (.ret (.ssl (.fld (.v 0) "text") (.v 2) (.fld (.v 0) "place")))
 .nil)))⟩
abbrev X3:Def:=⟨5,["self","front","many","between","end"],
 (.cons (.fldS (.v 0) "front" (.v 1))
 (.cons (.fldS (.v 0) "many" (.v 2))
 (.cons (.fldS (.v 0) "between" (.v 3))
 (.cons (.fldS (.v 0) "end" (.v 4))
 (.cons (.fldS (.v 0) "parts" (.lst .nil))
 (.cons (.fldS (.v 0) "found" (.str ""))
 .nil))))))⟩
abbrev Q4:Def:=⟨3,["self","part","reader"],
 (.cons (.ex (.app (.fld (.v 0) "parts") (.v 1)))
 (.cons (.iff (.or (.cmp .Eq (.fld (.v 0) "many") (.len (.fld (.v 0) "parts"))) (.and (.isN (.fld (.v 0) "many")) (.cmp .Eq (.meth (.v 2) "next_sign" .nil) (.fld (.v 0) "end"))))
   (.cons (.ex (.meth (.v 2) "must_be" (.cons (.fld (.v 0) "end") .nil)))
  (.cons (.ret (.bl AC))
  .nil))
   .nil)
 (.cons (.fldS (.v 0) "found" (.meth (.v 2) "sign" .nil))
 (.cons (.iff (.or (.cmp .Eq (.fld (.v 0) "found") (.str "")) (.sin AC (.fld (.v 0) "found") (.fld (.v 0) "between")))
   (.cons .dead
  .nil)
   .nil)
 (.cons (.ret (.bl AG))
 .nil)))))⟩
abbrev Y0:Def:=⟨1,["self"],
 (.cons (.iff (.cmp .Eq (.fld (.v 0) "front") (.gc "ROW"))
   (.cons (.ret (.tup (.cons (.str "w") (.cons (.tuple (.fld (.v 0) "parts")) .nil))))
  .nil)
   .nil)
 (.cons (.iff (.cmp .Eq (.fld (.v 0) "front") (.gc "KIND"))
   (.cons (.ret (.bin .Add (.tup (.cons (.gsel "KIND_WORDS" (.fld (.v 0) "found")) .nil)) (.tuple (.fld (.v 0) "parts"))))
  .nil)
   .nil)
 (.cons (.ret (.bin .Add (.fld (.v 0) "front") (.tuple (.fld (.v 0) "parts"))))
 .nil)))⟩
abbrev Y6:Def:=⟨1,["text"],
 (.cons (.ret (.call "read_whole" (.cons (.v 0) (.cons (.gf "begin_kind") .nil))))
 .nil)⟩
abbrev X7:Def:=⟨1,["text"],
 (.cons (.ret (.call "read_whole" (.cons (.v 0) (.cons (.gf "begin_program") .nil))))
 .nil)⟩
abbrev Y3:Def:=⟨1,["text"],
 (.cons (.ret (.call "read_whole" (.cons (.v 0) (.cons (.gf "begin_thing") .nil))))
 .nil)⟩
abbrev Y2:Def:=⟨2,["text","begin","reader","answer"],
 (.cons (.set 2 (.make "Reader" (.cons (.v 0) .nil)))
 (.cons (.set 3 (.call "read_one" (.cons (.v 2) (.cons (.v 1) .nil))))
 (.cons (.iff (.cmp .Lt (.fld (.v 2) "place") (.slen (.v 0)))
   (.cons .dead
  .nil)
   .nil)
 (.cons (.ret (.v 3))
 .nil))))⟩
abbrev Y7:Def:=⟨2,["reader","begin","begun","here"],
 (.cons (.set 2 (.lst .nil))
 (.cons (.while (.bl AC)
   (.cons (.set 3 (.callv 1 (.cons (.v 0) .nil)))
  (.cons (.iff (.isC "Begun" (.v 3))
    (.cons (.ex (.app (.v 2) (.v 3)))
   (.cons .cont
   .nil))
    .nil)
  (.cons (.while (.and (.cmp .Gt (.len (.v 2)) (.int 0)) (.meth (.ix (.v 2) (.neg (.int 1))) "ends_with" (.cons (.v 3) (.cons (.v 0) .nil))))
    (.cons (.set 3 (.meth (.pop (.v 2)) "whole" .nil))
   .nil))
  (.cons (.iff (.cmp .Eq (.len (.v 2)) (.int 0))
    (.cons (.ret (.v 3))
   .nil)
    .nil)
  .nil)))))
 .nil))⟩
abbrev M9:Def:=⟨1,["reader","sign"],
 (.cons (.set 1 (.meth (.v 0) "sign" .nil))
 (.cons (.iff (.cmp .Eq (.v 1) (.str "0"))
   (.cons (.ret (.tup (.cons (.str "none") .nil)))
  .nil)
   .nil)
 (.cons (.iff (.cmp .Eq (.v 1) (.str "1"))
   (.cons (.ret (.tup (.cons (.str "one") .nil)))
  .nil)
   .nil)
 (.cons (.iff (.cmp .Eq (.v 1) (.str "("))
   (.cons (.ret (.make "Begun" (.cons (.gc "KIND") (.cons (.int 2) (.cons (.str "+*>") (.cons (.str ")") .nil))))))
  .nil)
   .nil)
 (.cons .dead
 .nil)))))⟩
abbrev G6:Def:=⟨1,["reader","sign"],
 (.cons (.set 1 (.meth (.v 0) "sign" .nil))
 (.cons (.iff (.cmp .Eq (.v 1) (.str "."))
   (.cons (.ret (.tup (.cons (.str "star") .nil)))
  .nil)
   .nil)
 (.cons (.iff (.cmp .Eq (.v 1) (.str "#"))
   (.cons (.ret (.tup (.cons (.str "name") (.cons (.call "read_number" (.cons (.v 0) .nil)) .nil))))
  .nil)
   .nil)
 (.cons (.iff (.cmp .Eq (.v 1) (.str "("))
   (.cons (.ret (.make "Begun" (.cons (.tup (.cons (.str "pair") .nil)) (.cons (.int 2) (.cons (.str ",") (.cons (.str ")") .nil))))))
  .nil)
   .nil)
 (.cons (.iff (.cmp .Eq (.v 1) (.str "["))
   (.cons (.ret (.call "begin_form" (.cons (.v 0) .nil)))
  .nil)
   .nil)
 (.cons .dead
 .nil))))))⟩
abbrev Y4:Def:=⟨1,["reader","word","form","front"],
 (.cons (.set 1 (.meth (.v 0) "signs_of" (.cons (.gc "LETTERS") .nil)))
 (.cons (.iff (.gnin (.v 1) "FORMS")
   (.cons .dead
  .nil)
   .nil)
 (.cons (.ex (.meth (.v 0) "must_be" (.cons (.str " ") .nil)))
 (.cons (.set 2 (.gsel "FORMS" (.v 1)))
 (.cons (.set 3 (.tup (.cons (.ix (.v 2) (.int 0)) .nil)))
 (.cons (.iff (.ix (.v 2) (.int 1))
   (.cons (.set 3 (.tup (.cons (.ix (.v 2) (.int 0)) (.cons (.call "read_one" (.cons (.v 0) (.cons (.gf "begin_kind") .nil))) .nil))))
  (.cons (.ex (.meth (.v 0) "must_be" (.cons (.str " ") .nil)))
  .nil))
   .nil)
 (.cons (.ret (.make "Begun" (.cons (.v 3) (.cons (.ix (.v 2) (.int 2)) (.cons (.str " ") (.cons (.str "]") .nil))))))
 .nil)))))))⟩
abbrev X9:Def:=⟨1,["reader","figures"],
 (.cons (.set 1 (.meth (.v 0) "signs_of" (.cons (.gc "FIGURES") .nil)))
 (.cons (.iff (.or (.cmp .Eq (.v 1) (.str "")) (.or (.cmp .Gt (.slen (.v 1)) (.int 4)) (.and (.cmp .Eq (.ix (.v 1) (.int 0)) (.str "0")) (.cmp .NotEq (.v 1) (.str "0")))))
   (.cons .dead
  .nil)
   .nil)
 (.cons (.ret (.sint (.v 1)))
 .nil)))⟩
abbrev w6:Def:=⟨1,["reader","sign"],
 (.cons (.set 1 (.meth (.v 0) "sign" .nil))
 (.cons (.iff (.cmp .Eq (.v 1) (.str "."))
   (.cons (.ret (.tup .nil))
  .nil)
   .nil)
 (.cons (.iff (.cmp .Eq (.v 1) (.str "<"))
   (.cons (.ret (.make "Begun" (.cons (.tup (.cons (.str "l") .nil)) (.cons (.int 1) (.cons (.str "") (.cons (.str "") .nil))))))
  .nil)
   .nil)
 (.cons (.iff (.cmp .Eq (.v 1) (.str ">"))
   (.cons (.ret (.make "Begun" (.cons (.tup (.cons (.str "r") .nil)) (.cons (.int 1) (.cons (.str "") (.cons (.str "") .nil))))))
  .nil)
   .nil)
 (.cons (.iff (.cmp .Eq (.v 1) (.str "("))
   (.cons (.ret (.make "Begun" (.cons (.tup (.cons (.str "p") .nil)) (.cons (.int 2) (.cons (.str ",") (.cons (.str ")") .nil))))))
  .nil)
   .nil)
 (.cons (.iff (.and (.cmp .Eq (.v 1) (.str "{")) (.cmp .Eq (.meth (.v 0) "next_sign" .nil) (.str "}")))
   (.cons (.ex (.meth (.v 0) "must_be" (.cons (.str "}") .nil)))
  (.cons (.ret (.tup (.cons (.str "w") (.cons (.tup .nil) .nil))))
  .nil))
   .nil)
 (.cons (.iff (.cmp .Eq (.v 1) (.str "{"))
   (.cons (.ret (.make "Begun" (.cons (.gc "ROW") (.cons .non (.cons (.str ",") (.cons (.str "}") .nil))))))
  .nil)
   .nil)
 (.cons .dead
 .nil))))))))⟩
abbrev Y5:Def:=⟨1,["kind"],
 (.cons (.ret (.call "written" (.cons (.v 0) (.cons (.gf "pieces_of_kind") .nil))))
 .nil)⟩
abbrev X6:Def:=⟨1,["program"],
 (.cons (.ret (.call "written" (.cons (.v 0) (.cons (.gf "pieces_of_program") .nil))))
 .nil)⟩
abbrev Y1:Def:=⟨1,["thing"],
 (.cons (.ret (.call "written" (.cons (.v 0) (.cons (.gf "pieces_of_thing") .nil))))
 .nil)⟩
abbrev Y9:Def:=⟨2,["whole","pieces_of","texts","ahead","here"],
 (.cons (.set 2 (.lst .nil))
 (.cons (.set 3 (.lst (.cons (.v 0) .nil)))
 (.cons (.while (.cmp .Gt (.len (.v 3)) (.int 0))
   (.cons (.set 4 (.pop (.v 3)))
  (.cons (.iff (.isT "str" (.v 4))
    (.cons (.ex (.app (.v 2) (.v 4)))
   .nil)
    (.cons (.ex (.ext (.v 3) (.lrl (.callv 1 (.cons (.v 4) .nil)))))
   .nil))
  .nil)))
 (.cons (.ret (.join (.str "") (.v 2)))
 .nil))))⟩
abbrev X4:Def:=⟨1,["kind"],
 (.cons (.iff (.cmp .Eq (.ix (.v 0) (.int 0)) (.str "none"))
   (.cons (.ret (.lst (.cons (.str "0") .nil)))
  .nil)
   .nil)
 (.cons (.iff (.cmp .Eq (.ix (.v 0) (.int 0)) (.str "one"))
   (.cons (.ret (.lst (.cons (.str "1") .nil)))
  .nil)
   .nil)
 (.cons (.ret (.lst (.cons (.str "(") (.cons (.ix (.v 0) (.int 1)) (.cons (.gsel "KIND_SIGNS" (.ix (.v 0) (.int 0))) (.cons (.ix (.v 0) (.int 2)) (.cons (.str ")") .nil)))))))
 .nil)))⟩
abbrev M8:Def:=⟨1,["program","pieces","parts","part"],
 (.cons (.iff (.cmp .Eq (.ix (.v 0) (.int 0)) (.str "name"))
   (.cons (.ret (.lst (.cons (.cat (.str "#") (.tstr (.ix (.v 0) (.int 1)))) .nil)))
  .nil)
   .nil)
 (.cons (.iff (.cmp .Eq (.ix (.v 0) (.int 0)) (.str "star"))
   (.cons (.ret (.lst (.cons (.str ".") .nil)))
  .nil)
   .nil)
 (.cons (.iff (.cmp .Eq (.ix (.v 0) (.int 0)) (.str "pair"))
   (.cons (.ret (.lst (.cons (.str "(") (.cons (.ix (.v 0) (.int 1)) (.cons (.str ",") (.cons (.ix (.v 0) (.int 2)) (.cons (.str ")") .nil)))))))
  .nil)
   .nil)
 (.cons (.set 1 (.lst (.cons (.cat (.str "[") (.gsel "PROGRAM_WORDS" (.ix (.v 0) (.int 0)))) .nil)))
 (.cons (.set 2 (.list (.sl (.v 0) (.int 1) .non)))
 (.cons (.iff (.cmp .In (.ix (.v 0) (.int 0)) (.tup (.cons (.str "left") (.cons (.str "right") (.cons (.str "way") (.cons (.str "never") .nil))))))
   (.cons (.put (.v 2) (.int 0) (.call "show_kind" (.cons (.ix (.v 0) (.int 1)) .nil)))
  .nil)
   .nil)
 (.cons (.for (.n 3) (.seq (.v 2))
   (.cons (.ex (.ext (.v 1) (.lst (.cons (.str " ") (.cons (.v 3) .nil)))))
  .nil))
 (.cons (.ret (.bin .Add (.v 1) (.lst (.cons (.str "]") .nil))))
 .nil))))))))⟩
abbrev X0:Def:=⟨1,["thing","pieces","number","part"],
 (.cons (.iff (.cmp .Eq (.v 0) (.tup .nil))
   (.cons (.ret (.lst (.cons (.str ".") .nil)))
  .nil)
   .nil)
 (.cons (.iff (.cmp .Eq (.ix (.v 0) (.int 0)) (.str "l"))
   (.cons (.ret (.lst (.cons (.str "<") (.cons (.ix (.v 0) (.int 1)) .nil))))
  .nil)
   .nil)
 (.cons (.iff (.cmp .Eq (.ix (.v 0) (.int 0)) (.str "r"))
   (.cons (.ret (.lst (.cons (.str ">") (.cons (.ix (.v 0) (.int 1)) .nil))))
  .nil)
   .nil)
 (.cons (.iff (.cmp .Eq (.ix (.v 0) (.int 0)) (.str "p"))
   (.cons (.ret (.lst (.cons (.str "(") (.cons (.ix (.v 0) (.int 1)) (.cons (.str ",") (.cons (.ix (.v 0) (.int 2)) (.cons (.str ")") .nil)))))))
  .nil)
   .nil)
 (.cons (.set 1 (.lst .nil))
 (.cons (.for (.tup [2,3]) (.enum (.ix (.v 0) (.int 1)))
   (.cons (.ex (.ext (.v 1) (.lst (.cons (.ite (.cmp .Gt (.v 2) (.int 0)) (.str ",") (.str "{")) (.cons (.v 3) .nil)))))
  .nil))
 (.cons (.ret (.ite (.cmp .Gt (.len (.v 1)) (.int 0)) (.bin .Add (.v 1) (.lst (.cons (.str "}") .nil))) (.lst (.cons (.str "{}") .nil))))
 .nil)))))))⟩
abbrev Q5:Def:=⟨1,["_law_kind_here","_law_sign"],
 (.cons (.iff (.cmp .Eq (.len (.v 0)) (.int 1))
   (.cons (.ret (.dsel ["none","one"] (.cons (.str "0") (.cons (.str "1") .nil)) (.ix (.v 0) (.int 0))))
  .nil)
   .nil)
 (.cons (.set 1 (.dsel ["either","both","way"] (.cons (.str "+") (.cons (.str "*") (.cons (.str ">") .nil))) (.ix (.v 0) (.int 0))))
 (.cons (.ret (.cat (.cat (.cat (.cat (.str "(") (.call "_law_kind_shown" (.cons (.ix (.v 0) (.int 1)) .nil))) (.v 1)) (.call "_law_kind_shown" (.cons (.ix (.v 0) (.int 2)) .nil))) (.str ")")))
 .nil)))⟩
abbrev D9:Def:=⟨1,["_law_program_here","_law_word","_law_some","_law_short"],
 (.cons (.set 1 (.ix (.v 0) (.int 0)))
 (.cons (.set 2 (.comp ["_law_piece"] [] 1 (.n 0) (.seq (.call "_law_inner" (.cons (.v 0) .nil))) .non (.call "_law_shown" (.cons (.v 0) .nil))))
 (.cons (.iff (.cmp .Eq (.v 1) (.str "name"))
   (.cons (.ret (.cat (.str "#") (.tstr (.ix (.v 0) (.int 1)))))
  .nil)
   .nil)
 (.cons (.iff (.cmp .Eq (.v 1) (.str "star"))
   (.cons (.ret (.str "."))
  .nil)
   .nil)
 (.cons (.iff (.cmp .Eq (.v 1) (.str "pair"))
   (.cons (.ret (.cat (.cat (.cat (.cat (.str "(") (.ix (.v 2) (.int 0))) (.str ",")) (.ix (.v 2) (.int 1))) (.str ")")))
  .nil)
   .nil)
 (.cons (.set 3 (.dict ["first","second","left","right"] (.cons (.str "fst") (.cons (.str "snd") (.cons (.str "inl") (.cons (.str "inr") .nil))))))
 (.cons (.iff (.cmp .In (.v 1) (.tup (.cons (.str "left") (.cons (.str "right") (.cons (.str "way") (.cons (.str "never") .nil))))))
   (.cons (.set 2 (.bin .Add (.lst (.cons (.call "_law_kind_shown" (.cons (.ix (.v 0) (.int 1)) .nil)) .nil)) (.v 2)))
  .nil)
   .nil)
 (.cons (.ret (.cat (.cat (.cat (.cat (.str "[") (.sgt (.v 3) (.v 1) (.v 1))) (.str " ")) (.join (.str " ") (.v 2))) (.str "]")))
 .nil))))))))⟩
abbrev D8:Def:=⟨2,["_law_deck_here","_law_kind_here","_law_one","_law_side"],
 (.cons (.iff (.cmp .Eq (.ix (.v 1) (.int 0)) (.str "one"))
   (.cons (.ret (.tup .nil))
  .nil)
   .nil)
 (.cons (.iff (.cmp .Eq (.ix (.v 1) (.int 0)) (.str "both"))
   (.cons (.set 2 (.call "_law_thing" (.cons (.v 0) (.cons (.ix (.v 1) (.int 1)) .nil))))
  (.cons (.ret (.tup (.cons (.str "p") (.cons (.v 2) (.cons (.call "_law_thing" (.cons (.v 0) (.cons (.ix (.v 1) (.int 2)) .nil))) .nil)))))
  .nil))
   .nil)
 (.cons (.iff (.cmp .Eq (.ix (.v 1) (.int 0)) (.str "way"))
   (.cons (.ret (.tup (.cons (.str "w") (.cons (.tuple (.comp ["_law_deck_here","_law_kind_here","_law_k"] [0,1] 1 (.n 2) (.rng (.call "_law_count" (.cons (.ix (.v 1) (.int 1)) .nil))) .non (.call "_law_thing" (.cons (.v 0) (.cons (.ix (.v 1) (.int 2)) .nil))))) .nil))))
  .nil)
   .nil)
 (.cons (.set 3 (.call "_law_next" (.cons (.v 0) (.cons (.int 2) .nil))))
 (.cons (.iff (.cmp .Eq (.call "_law_count" (.cons (.ix (.v 1) (.bin .Add (.int 1) (.v 3))) .nil)) (.int 0))
   (.cons (.set 3 (.bin .Sub (.int 1) (.v 3)))
  .nil)
   .nil)
 (.cons (.ret (.tup (.cons (.ix (.str "lr") (.v 3)) (.cons (.call "_law_thing" (.cons (.v 0) (.cons (.ix (.v 1) (.bin .Add (.int 1) (.v 3))) .nil))) .nil))))
 .nil))))))⟩
abbrev X2:Def:=⟨1,["_law_thing_here"],
 (.cons (.iff (.cmp .Eq (.v 0) (.tup .nil))
   (.cons (.ret (.str "."))
  .nil)
   .nil)
 (.cons (.iff (.cmp .Eq (.ix (.v 0) (.int 0)) (.str "w"))
   (.cons (.ret (.cat (.cat (.str "{") (.join (.str ",") (.comp ["_law_one"] [] 1 (.n 0) (.seq (.ix (.v 0) (.int 1))) .non (.call "_law_thing_shown" (.cons (.v 0) .nil))))) (.str "}")))
  .nil)
   .nil)
 (.cons (.iff (.cmp .Eq (.ix (.v 0) (.int 0)) (.str "p"))
   (.cons (.ret (.cat (.cat (.cat (.cat (.str "(") (.call "_law_thing_shown" (.cons (.ix (.v 0) (.int 1)) .nil))) (.str ",")) (.call "_law_thing_shown" (.cons (.ix (.v 0) (.int 2)) .nil))) (.str ")")))
  .nil)
   .nil)
 (.cons (.ret (.cat (.dsel ["l","r"] (.cons (.str "<") (.cons (.str ">") .nil)) (.ix (.v 0) (.int 0))) (.call "_law_thing_shown" (.cons (.ix (.v 0) (.int 1)) .nil))))
 .nil))))⟩
abbrev x8:Def:=⟨1,["_law_script","_law_deck_here","_law_names_here","_law_kind_here","_law_program_here","_law_one","_law_text","_law_found","_law_thing_here"],
 (.cons (.set 1 (.call "_law_deck" (.cons (.v 0) .nil)))
 (.cons (.set 2 (.call "_law_names" (.cons (.v 1) (.cons (.int 3) (.cons (.int 64) .nil)))))
 (.cons (.set 3 (.call "_law_kind" (.cons (.v 1) (.cons (.int 4) (.cons (.int 100) .nil)))))
 (.cons (.set 4 (.call "_law_program" (.cons (.v 1) (.cons (.call "_law_kind" (.cons (.v 1) (.cons (.int 3) (.cons (.int 16) .nil)))) (.cons (.v 2) (.cons (.bin .Add (.int 4) (.call "_law_next" (.cons (.v 1) (.cons (.int 30) .nil)))) .nil))))))
 (.cons (.iff (.cmp .Gt (.slen (.call "_law_shown" (.cons (.v 4) .nil))) (.int 3800))
   (.cons (.set 4 (.tup (.cons (.str "star") .nil)))
  .nil)
   .nil)
 (.cons (.for (.n 5) (.seq (.bin .Add (.v 2) (.tup (.cons (.v 3) (.cons (.tup (.cons (.str "both") (.cons (.v 3) (.cons (.tup (.cons (.str "none") .nil)) .nil)))) .nil)))))
   (.cons (.set 6 (.call "_law_kind_shown" (.cons (.v 5) .nil)))
  (.cons (.iff (.or (.cmp .NotEq (.call "show_kind" (.cons (.v 5) .nil)) (.v 6)) (.cmp .NotEq (.call "read_kind" (.cons (.v 6) .nil)) (.v 5)))
    (.cons (.ret (.bl AG))
   .nil)
    .nil)
  .nil)))
 (.cons (.for (.n 5) (.seq (.tup (.cons (.v 4) (.cons (.tup (.cons (.str "name") (.cons (.call "_law_next" (.cons (.v 1) (.cons (.int 10000) .nil))) .nil))) (.cons (.tup (.cons (.str "pair") (.cons (.v 4) (.cons (.tup (.cons (.str "name") (.cons (.int 0) .nil))) .nil)))) (.cons (.v 4) .nil))))))
   (.cons (.set 6 (.call "_law_shown" (.cons (.v 5) .nil)))
  (.cons (.iff (.or (.cmp .NotEq (.call "show_program" (.cons (.v 5) .nil)) (.v 6)) (.cmp .NotEq (.call "read_program" (.cons (.v 6) .nil)) (.v 5)))
    (.cons (.ret (.bl AG))
   .nil)
    .nil)
  .nil)))
 (.cons (.set 7 (.call "read_program" (.cons (.cat (.str "#") (.tstr (.call "_law_next" (.cons (.v 1) (.cons (.int 2) .nil))))) .nil)))
 (.cons (.iff (.or (.cmp .NotEq (.ix (.v 7) (.int 0)) (.str "name")) (.or (.isT "bool" (.ix (.v 7) (.int 1))) (.not (.isT "int" (.ix (.v 7) (.int 1))))))
   (.cons (.ret (.bl AG))
  .nil)
   .nil)
 (.cons (.set 8 (.call "_law_thing" (.cons (.v 1) (.cons (.v 3) .nil))))
 (.cons (.set 6 (.call "_law_thing_shown" (.cons (.v 8) .nil)))
 (.cons (.ret (.and (.cmp .Eq (.call "show_thing" (.cons (.v 8) .nil)) (.v 6)) (.and (.cmp .Eq (.call "read_thing" (.cons (.v 6) .nil)) (.v 8)) (.cmp .Eq (.call "show_thing" (.cons (.call "read_thing" (.cons (.v 6) .nil)) .nil)) (.v 6)))))
 .nil))))))))))))⟩
abbrev N4:List (Str×Def):=[(("Reader.__init__":Str),W9),(("Reader.next_sign":Str),W8),(("Reader.sign":Str),X8),(("Reader.must_be":Str),X5),(("Reader.signs_of":Str),X1),(("Begun.__init__":Str),X3),(("Begun.ends_with":Str),Q4),(("Begun.whole":Str),Y0),(("read_kind":Str),Y6),(("read_program":Str),X7),(("read_thing":Str),Y3),(("read_whole":Str),Y2),(("read_one":Str),Y7),(("begin_kind":Str),M9),(("begin_program":Str),G6),(("begin_form":Str),Y4),(("read_number":Str),X9),(("begin_thing":Str),w6),(("show_kind":Str),Y5),(("show_program":Str),X6),(("show_thing":Str),Y1),(("written":Str),Y9),(("pieces_of_kind":Str),X4),(("pieces_of_program":Str),M8),(("pieces_of_thing":Str),X0),(("_law_mixed":Str),Z2),(("_law_deck":Str),x0),(("_law_next":Str),Z9),(("_law_power":Str),Z4),(("_law_count":Str),Q7),(("_law_kind":Str),z9),(("_law_least":Str),G8),(("_law_made":Str),B3),(("_law_nest":Str),R0),(("_law_asked":Str),E2),(("_law_grown":Str),G7),(("_law_inner":Str),Q8),(("_law_parts":Str),Z3),(("_law_program":Str),Y8),(("_law_names":Str),w8),(("_law_kind_shown":Str),Q5),(("_law_shown":Str),D9),(("_law_thing":Str),D8),(("_law_thing_shown":Str),X2),(("law":Str),x8)]
abbrev y0:d7:=λf=>N4.lookup f
abbrev i9:Gs:=⟨λg=>if g="KIND_WORDS" then [("+",.str "either"),("*",.str "both"),(">",.str "way")]else if g="FORMS" then [("fst",.tup [.str "first",.bl AG,.int 1]),("snd",.tup [.str "second",.bl AG,.int 1]),("inl",.tup [.str "left",.bl AC,.int 1]),("inr",.tup [.str "right",.bl AC,.int 1]),("case",.tup [.str "case",.bl AG,.int 3]),("way",.tup [.str "way",.bl AC,.int 1]),("give",.tup [.str "give",.bl AG,.int 2]),("let",.tup [.str "let",.bl AG,.int 2]),("never",.tup [.str "never",.bl AC,.int 1])]else if g="KIND_SIGNS" then [("either",.str "+"),("both",.str "*"),("way",.str ">")]else if g="PROGRAM_WORDS" then [("first",.str "fst"),("second",.str "snd"),("left",.str "inl"),("right",.str "inr"),("case",.str "case"),("way",.str "way"),("give",.str "give"),("let",.str "let"),("never",.str "never")]else [],λc=>if c="!is" then ["Begun"]else if c="Reader" then ["text","place"]else if c="Begun" then ["front","many","between","end","parts","found"]else [],λg=>if g="FIGURES" then AA (.str "0123456789")else if g="LETTERS" then AA (.str "abcdefghijklmnopqrstuvwxyz")else if g="KIND" then AA (.tup [.str "kind"])else if g="ROW" then AA (.tup [.str "row"])else AE⟩
end Ek
namespace Ek
open PySem L2
@[reducible]noncomputable def a60(K:AR)(cd:AF)(ts:List AM):Prop:=∃c P,cd=.ref c/\DI K c P=AC/\P∈ts
abbrev FnA(K:AR)(ts:List AM)(m:Bool)(f:Str)(st:BQ):Prop:=∃(fa:AM)(od an:Option AM)(sl:Array (Option AF))(oc kV dc pm cd ct:AF),
 Ay K AS f=AA (AA (.ref fa))/\K.lookup fa=AA ⟨oc,od,.func (Fm f f (B6 st) (x9 st) (l7 st) .none kV dc pm an cd ct),sl⟩/\EU K cd f=AC/\CA K (.ref fa)=AC/\(m=AC->a60 K cd ts)
section
variable {K:AR} {ts:List AM} {f c m:Str} {st:BQ} {fa Ca:AM} {od an:Option AM} {sl:Array (Option AF)} {oc kV dc pm cd ct:AF} {hc hp:AM}
def fnA(a1:Ay K AS f=AA (AA (.ref fa)))(l1:K.lookup fa=AA ⟨oc,od,.func (Fm f f (B6 st) (x9 st) (l7 st) .none kV dc pm an cd ct),sl⟩)(c1:EU K cd f=AC)(k1:CA K (.ref fa)=AC):FnA K ts AG f st:=
 ⟨_,_,_,_,_,_,_,_,_,_,a1,l1,c1,k1,nofun⟩
structure ClA(K:AR)(c:Str)(Ca:AM):Prop where
 a:Ay K AS c=AA (AA (.ref Ca))
 cl:Cls K Ca
 ms:Gi K Ca=AC
 kp:CA K (.ref Ca)=AC
def clA(a1:Ay K AS c=AA (AA (.ref Ca)))(a2:Ez K Ca Str.empty=AC)(a3:Fp K Ca=AC)(a4:HJ K Ca=AC)(a5:BS K (.ref Ca) "__setattr__"=AA (AA (.builtin "object.__setattr__")))(a6:Gi K Ca=AC)(a7:CA K (.ref Ca)=AC):ClA K c Ca:=⟨a1,⟨a2,a3,a4,a5⟩,a6,a7⟩
structure IscA(K:AR)(Ca:AM):Prop where
 ha:BS K (.ref Ca) "__class__"=AA (AA (.builtin "object.__class__"))
 hn:Fq K (.builtin "object.__class__") "__get__"=AA (AA (.builtin "getset_descriptor.__get__"))
 htk:Gj K (.builtin "object.__class__")=AA AC
 hm:IG K Ca (.type "object")=AA AC
 no:CB K (.type "tuple") (.ref Ca)=AA AG
 yes:CB K (.ref Ca) (.ref Ca)=AA AC
def cm6(a1:BS K (.ref Ca) "__class__"=AA (AA (.builtin "object.__class__")))(a2:Fq K (.builtin "object.__class__") "__get__"=AA (AA (.builtin "getset_descriptor.__get__")))(a3:Gj K (.builtin "object.__class__")=AA AC)(a4:IG K Ca (.type "object")=AA AC)(a5:CB K (.type "tuple") (.ref Ca)=AA AG)(a6:CB K (.ref Ca) (.ref Ca)=AA AC):IscA K Ca:=⟨a1,a2,a3,a4,a5,a6⟩
abbrev MtA(K:AR)(ts:List AM)(b:Bool)(c:Str)(Ca:AM)(m:Str)(st:BQ):Prop:=∃(fa:AM)(od an:Option AM)(sl:Array (Option AF))(oc kV dc pm cd ct:AF),
 Ay K AS (d3 c m)=AA AE/\Meth K Ca m fa/\K.lookup fa=AA ⟨oc,od,.func (Fm m (d3 c m) (B6 st) (x9 st) (l7 st) .none kV dc pm an cd ct),sl⟩/\EU K cd (d3 c m)=AC/\(b=AC->a60 K cd ts)
def mtA(a1:Ay K AS (d3 c m)=AA AE)(a2:BS K (.ref Ca) m=AA (AA (.ref fa)))(a3:JE K (.ref fa)=AC)(a4:CA K (.ref fa)=AC)
  (l1:K.lookup fa=AA ⟨oc,od,.func (Fm m (d3 c m) (B6 st) (x9 st) (l7 st) .none kV dc pm an cd ct),sl⟩) (c1:EU K cd (d3 c m)=AC):MtA K ts AG c Ca m st:=⟨_,_,_,_,_,_,_,_,_,_,a1,⟨a2,a3,a4⟩,l1,c1,nofun⟩
end
def bdS{α:Type}{P:List α->Prop}{n:Nat}(h:∀a us,us.length=n->P (a::us)):∀us,us.length=n+1->P us:=λus hl=>by
 cases us with
 |nil=>cases hl
 |cons a us=>exact h a us (Ft hl)
def bdZ{α:Type}{P:List α->Prop}(h:P []):∀us,us.length=0->P us:=λus hl=>by
 cases us with
 |nil=>exact h
 |cons=>cases hl
@[reducible]noncomputable def StF(st:BQ)(d:Def)(f:Str):Prop:=Stat st d (d.N.take d.np) f f
@[reducible]noncomputable def StM(st:BQ)(d:Def)(c m:Str):Prop:=Stat st d (d.N.take d.np) m (d3 c m)
section
variable [Tbs] {K:AR} {mg:Str->Option AF} {h:Az} {f c m:Str} {d:Def} {st:BQ} {Ca:AM} {b:Bool} {U:Str->List Str}
def FnA.ok(A:FnA K Tbs.ps b f st)(X:K.In h)(G:h.Ns AS mg)(S:StF st d f:=by exact⟨⟨⟨rfl,rfl,rfl,by decide+kernel,rfl,by decide+kernel,by decide+kernel⟩,rfl,by decide+kernel⟩,λ_ _ _ _ _ _=>by(repeat refine bdS λ_=>?_);exact bdZ rfl⟩)(hb:(d.N.contains o6=AC->b=AC):=by decide+kernel):DefOk K mg f d:=by
 obtain⟨fa,od,an,sl,oc,kV,dc,pm,cd,ct,a1,l1,c1,k1,m1⟩:=A;exact b96 X G S a1 l1 c1 k1 λz=>m1 (hb z)
def MtA.ok(A:MtA K Tbs.ps b c Ca m st)(C:ClA K c Ca)(X:K.In h)(G:h.Ns AS mg)(S:StM st d c m:=by exact⟨⟨⟨rfl,rfl,rfl,by decide+kernel,rfl,by decide+kernel,by decide+kernel⟩,rfl,by decide+kernel⟩,λ_ _ _ _ _ _=>by(repeat refine bdS λ_=>?_);exact bdZ rfl⟩)(hb:(d.N.contains o6=AC->b=AC):=by decide+kernel)(hdf:M0 U (d3 c m)=AE:=by decide+kernel)(h1:isM c=AG:=by decide+kernel)(h2:isM m=AG:=by decide+kernel)(he:f=d3 c m:=by decide+kernel):∃c m,f=d3 c m/\isM c=AG/\isM m=AG/\MthOk K mg (M0 U (d3 c m)) c m d:=by
 obtain⟨fa,od,an,sl,oc,kV,dc,pm,cd,ct,a1,M,l1,c1,m1⟩:=A;subst he;exact⟨c,m,rfl,h1,h2,b93 X G S a1 C.a C.cl M (λz=>by subst z;exact⟨C.ms,M.at_,M.fn,C.kp⟩) l1 c1 (λz=>m1 (hb z)) hdf⟩
end
def e8{α β:Type}{P:α->β->Prop}{a:α}{b:β}{l:List (α×β)}(h:P a b)(t:∀f d,(f,d)∈l->P f d):∀f d,(f,d)∈(a,b)::l->P f d:=λf d hx=>(AT.1 hx).elim (λe=>by cases e;exact h) (t f d)
def a90{α β:Type}{P:α->β->Prop}:∀f d,(f,d)∈([]:List (α×β))->P f d:=nofun
local macro_rules|`(tactic|rfl')=>do
 let l:=("a91 bc5 a76 bf2 a53 ba8 ay5 bc1 as4 a41 av5 ba5 bb9 bd1 ae1 a71 e_v bc0 a67 a92 a56 a85 a96 a86 be3 bc2 a94 bf8 be6 bb5 at2 aq0 as1 a98 an9 ap7 au1 az5 ap6 ar3 ar7 as0 ay6 aq4 an3 au5 av0 a77 ba6 ar6 a66 a00 aq9 a63 a04 bg6 as7 bb0 au6 an1 ak8 bf6 bc7 ax0 ay0 ay4 az6 ay1 bb6 bb1 bb2 ap8 a73 a70 a80 a54 a01 ay3 av8 a61 a43 a82 ba2 ax2 aq7 az8 ax1 as8 a99 bb3 ax3 a44 a68 bh5 bd5 bh2 be2 be9 be0 a52 bg9 bc4 a08 a57 av4 bf1 bg0 bd4 or_false false_or a02 ax5 aw2 aw0 ad8 a48 ay9 L8 bb8 bb4 a75 a65 a95 V0 U3 bb7 bc8 bc9 a72 bg5 a97 bf4 a78 Q2 ag0 bd9 bg7 bd8 a58 a38 bc3 a69 az0 aq5 am6 az2 au0 a09 az7 aw3 ah9 ai2 ba4 a51 List.set_cons_zero List.set_cons_succ List.getElem?_cons_zero List.getElem?_cons_succ decide_eq_true_eq not_eq_true' decide_eq_false_iff_not if_true if_false true_and and_true false_eq_true Bool.true_eq_false length_cons length_nil String.reduceEq decide_true decide_false Bool.not_true Bool.not_false".splitOn " ").toArray.map fun n=>Lean.mkIdent n.toName
 `(tactic|try simp only[↓bd2,↓bh8,↓bg8,↓bh1,$[$l:ident],*])
set_option hygiene false
local macro_rules | `(tactic| ∎)=>`(tactic| ((try dsimp only);(first | refine bd6 ?_ | rw [av7]);rfl'))
set_option hygiene true
variable{P:d7}{G:Gs}{st st':Sto}{Q:DK}{a r da:AM}{b:Str}{R:D->Prop}{p i sp:Nat}{w:String}{o:Ob}{tail:List Nat}{Γ:List Kd}
structure PB0(P:d7):Prop where
 mixed:P "_law_mixed"=AA Z2
 deck:P "_law_deck"=AA x0
 next:P "_law_next"=AA Z9
 power:P "_law_power"=AA Z4
 count:P "_law_count"=AA Q7
 kind:P "_law_kind"=AA z9
structure PB(P:d7):Prop extends PB0 P where
 least:P "_law_least"=AA G8
 made:P "_law_made"=AA B3
 nest:P "_law_nest"=AA R0
 asked:P "_law_asked"=AA E2
 grown:P "_law_grown"=AA G7
 inner:P "_law_inner"=AA Q8
 parts:P "_law_parts"=AA Z3
 program:P "_law_program"=AA Y8
 names:P "_law_names"=AA w8
section
variable (B:PB0 P) {n:Nat} 
include B
def ao8(c k:Int)(q:∀i,Q (.int i) st):sem P G (n+1) "_law_mixed" [.int c,.int k] st Q:=by
 refine d5 B.mixed rfl [AA (.int c),AA (.int k),AE] rfl ?_;unfold Z2;dsimp only;∎;refine⟨∅,T6 ⟨∅,∅⟩,J7 ⟨∅,∅⟩,∅,?_⟩;∎;have e0:∀z:Int,0<=z % 2147483629/\z % 2147483629<2147483629:=λz=>⟨IN _ ∅,HZ _ ∅⟩;refine⟨⟨∅,∅⟩,J7 (by have:=e0 (c % 2147483629*48271+7919*k+13);lia),J7 ⟨∅,∅⟩,∅,?_⟩;∎;refine⟨T6 ⟨∅,∅⟩,⟨∅,∅⟩,∅,b8 (q _)⟩
def t6{m:Int}(hm:0<m)(h:g8 st a)(q:∀r st',0<=r->r<m->g8 st' a->Kp [a] st st'->Q (.int r) st'):sem P G (n+1) "_law_next" [.ref a,.int m] st Q:=by
 obtain⟨l,h⟩:=h;refine d5 B.next rfl [AA (.ref a),AA (.int m)] rfl ?_;unfold Z9;dsimp only;∎;rw[v2 (.inl h)];rfl';cases l with
 |nil=>
  rw[if_pos ∎];∎;exact b8 (q 0 st (Jc _) hm ⟨[],h⟩ Kp.refl)
 |cons x l=>
  rw[if_neg (by simp only[AY,AI];lia)];∎;rw[v9 (.inl h)];refine⟨trivial,⟨∅,∅⟩,_,0,.int x,h,by simp[ixN],rfl,?_⟩;simp only[ad8];refine⟨hm,b8 (q _ _ (IN _ ⋯) (HZ _ hm) ⟨l,?_⟩ (Kp.refl.put ∎))⟩;rw[b7];rfl
def bu4{b:Int}{t:Nat}(hb:0<=b/\b<2^64)(ht:t<2^62)(q:Q (.int (b^t)) st):sem P G (n+1) "_law_power" [.int b,.int t] st Q:=by
 refine d5 B.power rfl [AA (.int b),AA (.int t),AE,AE] rfl ?_;unfold Z4;dsimp only;(iterate 2 ∎);refine⟨⋯,?_⟩;refine y6 (λl env st'=>st'=st/\∃(f:Int)(x:Option D),env=[AA (.int b),AA (.int t),AA (.int f),x]/\f*b^l.length=b^t) ?_ ?_ _ _ _ ⟨rfl,1,AE,rfl,by simp[k8]⟩
 ·rintro env st' ⟨rfl,f,x,rfl,e⟩;refine⟨trivial,?_⟩;∎;have:f=b^t:=by rw[<-e];simp
  rw[this];exact b8 q
 ·rintro d ds env st' ih ⟨rfl,f,x,rfl,e⟩;refine⟨trivial,?_⟩;rfl';∎;refine⟨T6 ⟨⋯,⋯⟩,ih _ _ ⟨rfl,_,_,rfl,?_⟩⟩;rw[<-e,AI,JQ,Int.mul_assoc,Int.mul_comm b]
def u8:∀(k:Kd){m n:Nat}{Q:DK},k.nest+2<=n->(∀a b,k=.eith a b\/k=.both a b\/k=.way a b->a.bd m/\b.bd m)->m<2^62->Q (.int k.cnt) st->sem P G n "_law_count" [k.d] st Q:=by
 have leaf:∀(w:String)(n:Nat)(Q:DK),Q (.int (if w="one" then 1 else 0)) st->sem P G (n+1) "_law_count" [.tup [.str w]] st Q:=λw n Q q=>by
  refine d5 B.count rfl [AA (.tup [.str w]),AE,AE] rfl ?_;unfold Q7;dsimp only;∎;rw[if_pos ∅];∎;exact b8 q
 have node:∀(w:String)(a b:Kd)(n m:Nat)(Q:DK)(v:Nat),(∀Q:DK,Q (.int a.cnt) st->sem P G n "_law_count" [a.d] st Q)->(∀Q:DK,Q (.int b.cnt) st->sem P G n "_law_count" [b.d] st Q)->a.bd m->b.bd m->m<2^62->0<n ->
   (i7 [("either",.int (a.cnt+b.cnt)),("both",.int (a.cnt*b.cnt)),("way",.int ((b.cnt:Int)^a.cnt))] w=AA (.int v))->Q (.int v) st->sem P G (n+1) "_law_count" [.tup [.str w,a.d,b.d]] st Q:=λw a b n m Q v ha hb ba bb hm hn hl q=>by
  obtain⟨n,rfl⟩:∃k,n=k+1:=⟨n-1,⋯⟩;have la:=Kd.bd_le ba;have lb:=Kd.bd_le bb;refine d5 B.count rfl [AA (.tup [.str w,a.d,b.d]),AE,AE] rfl ?_;unfold Q7;dsimp only;∎;rw[if_neg ∅];∎;refine⟨by rw[B.count];rfl,ha _ ?_⟩;∎;refine⟨by rw[B.count];rfl,hb _ ?_⟩;∎;refine⟨T6 ⟨⋯,⋯⟩,by rw[B.power];rfl,bu4 B ⟨⋯,⋯⟩ ⋯ ?_⟩;rfl';exact⟨_,hl,b8 q⟩
 intro k
 induction k with
 |non=>intro m n Q hn _ _ q;obtain⟨n,rfl⟩:∃k,n=k+1:=⟨n-1,⋯⟩;exact leaf "none" n Q q
 |one=>intro m n Q hn _ _ q;obtain⟨n,rfl⟩:∃k,n=k+1:=⟨n-1,⋯⟩;exact leaf "one" n Q q
 |eith a b iha ihb=>
  intro m n Q hn hs hm q;obtain⟨n,rfl⟩:∃k,n=k+1:=⟨n-1,⋯⟩;have⟨ba,bb⟩:=hs a b (.inl rfl);simp only[Kd.nest]at hn;exact node "either" a b n m Q _ (λQ q=>iha ⋯ (λc d e=>by rcases e with e|e|e<;>(subst e;exact⟨ba.1,ba.2.1⟩)) hm q) (λQ q=>ihb ⋯ (λc d e=>by rcases e with e|e|e<;>(subst e;exact⟨bb.1,bb.2.1⟩)) hm q) ba bb hm ⋯ rfl q
 |both a b iha ihb=>
  intro m n Q hn hs hm q;obtain⟨n,rfl⟩:∃k,n=k+1:=⟨n-1,⋯⟩;have⟨ba,bb⟩:=hs a b (.inr (.inl rfl));simp only[Kd.nest]at hn;exact node "both" a b n m Q _ (λQ q=>iha ⋯ (λc d e=>by rcases e with e|e|e<;>(subst e;exact⟨ba.1,ba.2.1⟩)) hm q) (λQ q=>ihb ⋯ (λc d e=>by rcases e with e|e|e<;>(subst e;exact⟨bb.1,bb.2.1⟩)) hm q) ba bb hm ⋯ rfl q
 |way a b iha ihb=>
  intro m n Q hn hs hm q;obtain⟨n,rfl⟩:∃k,n=k+1:=⟨n-1,⋯⟩;have⟨ba,bb⟩:=hs a b (.inr (.inr rfl));simp only[Kd.nest]at hn;exact node "way" a b n m Q _ (λQ q=>iha ⋯ (λc d e=>by rcases e with e|e|e<;>(subst e;exact⟨ba.1,ba.2.1⟩)) hm q) (λQ q=>ihb ⋯ (λc d e=>by rcases e with e|e|e<;>(subst e;exact⟨bb.1,bb.2.1⟩)) hm q) ba bb hm ⋯ rfl q
end
section
variable (B:PB P) {n:Nat} 
include B
def bx4:∀(k:Kd){n:Nat}{Q:DK},k.nest+1<=n->Q (.int k.nest) st->sem P G n "_law_nest" [k.d] st Q:=by
 have leaf:∀(w:String)(n:Nat)(Q:DK),Q (.int 0) st->sem P G (n+1) "_law_nest" [.tup [.str w]] st Q:=λw n Q q=>by
  refine d5 B.nest rfl [AA (.tup [.str w])] rfl ?_;unfold R0;dsimp only;∎;rw[if_pos ∅];∎;exact b8 q
 have node:∀(w:String)(a b:Kd)(n:Nat)(Q:DK),(∀Q:DK,Q (.int a.nest) st->sem P G n "_law_nest" [a.d] st Q)->(∀Q:DK,Q (.int b.nest) st->sem P G n "_law_nest" [b.d] st Q) ->
   Q (.int (1+max a.nest b.nest:Nat)) st->sem P G (n+1) "_law_nest" [.tup [.str w,a.d,b.d]] st Q:=λw a b n Q ha hb q=>by
  refine d5 B.nest rfl [AA (.tup [.str w,a.d,b.d])] rfl ?_;unfold R0;dsimp only;∎;rw[if_neg ∅];∎;refine⟨by rw[B.nest];rfl,ha _ ⟨by rw[B.nest];rfl,hb _ ?_⟩⟩;rfl';refine b8 ?_;have e:(1+if(b.nest:Int)>a.nest then(b.nest:Int)else a.nest)=((1+max a.nest b.nest:Nat):Int):=by split<;>lia
  rw[e];exact q
 intro k
 induction k with
 |non=>intro n Q hn q;obtain⟨n,rfl⟩:∃k,n=k+1:=⟨n-1,⋯⟩;exact leaf "none" n Q q
 |one=>intro n Q hn q;obtain⟨n,rfl⟩:∃k,n=k+1:=⟨n-1,⋯⟩;exact leaf "one" n Q q
 |eith a b iha ihb|both a b iha ihb|way a b iha ihb=>
  intro n Q hn q;obtain⟨n,rfl⟩:∃k,n=k+1:=⟨n-1,⋯⟩;simp only[Kd.nest]at hn;exact node _ a b n Q (λQ q=>iha ⋯ q) (λQ q=>ihb ⋯ q) q
end
section
variable (B:PB0 P) {n:Nat} 
include B
def N7{most:Nat}(h1:1<=most)(h2:most<=100):∀(deep:Nat){n:Nat}{st:Sto}{Q:DK},deep+4<=n->g8 st a->(∀(k:Kd)st',k.good->k.bd most->k.nest<=deep->g8 st' a->Kp [a] st st'->Q k.d st')->sem P G n "_law_kind" [.ref a,.int deep,.int most] st Q:=by
 intro deep
 induction deep with
 |zero=>
  intro n st Q hn I q;obtain⟨n,rfl⟩:∃k,n=k+2:=⟨n-2,⋯⟩;refine d5 B.kind rfl [AA (.ref a),AA (.int (0:Nat)),AA (.int most),AE,AE,AE,AE] rfl ?_;unfold z9;dsimp only;∎;refine⟨by rw[B.next];rfl,λp hp=>⟨.int 1,rfl,t6 B ∅ (I.new hp) λr st1 r0 r1 I1 K1=>?_⟩⟩;have e:r=0:=by lia
  subst e;(iterate 2 ∎);intro p1 hp1;rfl';exact b8 (q .one _ trivial h1 (Ar _) (I1.new hp1) (((Kp.refl.new hp).trans K1).new hp1))
 |succ deep ih=>
  intro n st Q hn I q;obtain⟨n,rfl⟩:∃k,n=k+2:=⟨n-2,⋯⟩;refine d5 B.kind rfl [AA (.ref a),AA (.int (deep+1:Nat)),AA (.int most),AE,AE,AE,AE] rfl ?_;unfold z9;dsimp only;∎;have hd:(0:Int)<((deep+1:Nat):Int):=by lia
  simp only[hd,if_true];refine⟨by rw[B.next];rfl,λp hp=>⟨.int 6,rfl,t6 B ∅ (I.new hp) λr st1 r0 r1 I1 K1=>?_⟩⟩;have K1:=(Kp.refl.new hp).trans K1;clear hp;∎
  by_cases e0:r=0
  ·subst e0;simp only[if_true];∎;intro p1 hp1;rfl';exact b8 (q .one _ trivial h1 (Ar _) (I1.new hp1) (K1.new hp1))
  simp only[e0,if_false]
  by_cases e5:r=5
  ·subst e5;simp only[if_true];∎;intro p1 hp1
   by_cases hm:(1:Int)<most
   ·rfl';simp only[hm,if_true];rfl';exact b8 (q (.eith .one .one) _ (.inl ⟨trivial,trivial⟩) ⟨h1,h1,by show 1+1<=most;lia⟩ (by show 1+max 0 0<=_;lia) (I1.new hp1) (K1.new hp1))
   ·rfl';simp only[hm,if_false];rfl';exact b8 (q .one _ trivial h1 (Ar _) (I1.new hp1) (K1.new hp1))
  simp only[e5,if_false];rfl';∎;intro p1 hp1;have I2:=I1.new (u:=.lst [.str "either",.str "both",.str "way",.str "either"]) hp1;have K2:=K1.new (o:=.lst [.str "either",.str "both",.str "way",.str "either"]) hp1;revert I2 K2;generalize b0 st1 p1 (.lst [.str "either",.str "both",.str "way",.str "either"])=st2;intro I2 K2;obtain⟨w,hw,hws⟩:∃w:String,atI [D.str "either",.str "both",.str "way",.str "either"] (r-1)=AA (.str w)/\(w="either"\/w="both"\/w="way"):=by
   obtain rfl|rfl|rfl|rfl:r=1\/r=2\/r=3\/r=4:=by lia
   ·exact⟨"either",rfl,∎⟩
   ·exact⟨"both",rfl,∎⟩
   ·exact⟨"way",rfl,∎⟩
   ·exact⟨"either",rfl,∎⟩
  rw[hw];rfl';∎;have ed:((deep+1:Nat):Int)-1=(deep:Nat):=by lia
  rw[ed];refine⟨by rw[B.kind];rfl,ih ⋯ I2 λka st3 ga ba na I3 K3=>?_⟩;have K3:=K2.trans K3;∎;rw[ed];refine⟨by rw[B.kind];rfl,ih ⋯ I3 λkb st4 gb bb nb I4 K4=>?_⟩;have K4:=K3.trans K4;∎;have fin:∀(w:String)(ka kb k:Kd)(st5:Sto)(x:Option D),k.d=.tup [.str w,ka.d,kb.d]->(w≠"way"->k.good)->(w="way"->k=.way ka kb/\(ka.good\/ka=.non)/\kb.good)->(∀c d,k=.eith c d\/k=.both c d\/k=.way c d->c=ka/\d=kb)->k≠.non->k≠.one->ka.bd most->kb.bd most->ka.nest<=deep->kb.nest<=deep->g8 st5 a->Kp [a] st st5 ->
    d4 (Zg P G (n+1)) (z9.body.drop 6) (f6 Q) [AA (.ref a),AA (.int (deep+1:Nat)),AA (.int most),AA (.int r),AA (.str w),AA ka.d,AA kb.d] st5:=by
   intro w ka kb k st5 x hk hg hw hc hn0 hn1 ba bb na nb I5 K5;have nk:∀k:Kd,(∀c d,k=.eith c d\/k=.both c d\/k=.way c d->c.nest<=deep/\d.nest<=deep)->k.nest<=deep+1:=λk h=>by
    cases k with
    |non=>exact Ar _
    |one=>exact Ar _
    |eith c d=>have:=h c d (.inl rfl);simp only[Kd.nest];lia
    |both c d=>have:=h c d (.inr (.inl rfl));simp only[Kd.nest];lia
    |way c d=>have:=h c d (.inr (.inr rfl));simp only[Kd.nest];lia
   have last:∀(ka kb k:Kd),k.d=.tup [.str w,ka.d,kb.d]->k.good->(∀c d,k=.eith c d\/k=.both c d\/k=.way c d->c=ka/\d=kb)->k≠.non->k≠.one->ka.bd most->kb.bd most->ka.nest<=deep->kb.nest<=deep ->
     d4 (Zg P G (n+1)) (z9.body.drop 7) (f6 Q) [AA (.ref a),AA (.int (deep+1:Nat)),AA (.int most),AA (.int r),AA (.str w),AA ka.d,AA kb.d] st5:=by
    intro ka kb k hk hg hc hn0 hn1 ba bb na nb;have nk':=nk k λc d e=>by obtain⟨e1,e2⟩:=hc c d e;subst e1 e2;exact⟨na,nb⟩
    simp only[z9,Ss.drop];∎;rw[<-hk];refine⟨by rw[B.count];rfl,u8 B k (m:=most) ⋯ (λc d e=>by obtain⟨e1,e2⟩:=hc c d e;subst e1 e2;exact⟨ba,bb⟩) ⋯ ?_⟩;rfl'
    by_cases hgt:(most:Int)<k.cnt
    ·simp only[hgt,if_true];∎;exact b8 (q .one _ trivial h1 (Ar _) I5 K5)
    ·simp only[hgt,if_false];∎;rw[<-hk];refine b8 (q k _ hg ?_ nk' I5 K5);cases k with
     |non=>exact absurd rfl hn0
     |one=>exact absurd rfl hn1
     |eith c d=>obtain⟨e1,e2⟩:=hc c d (.inl rfl);subst e1 e2;exact⟨ba,bb,by have:=hgt;simp only[Kd.cnt]at this;lia⟩
     |both c d=>obtain⟨e1,e2⟩:=hc c d (.inr (.inl rfl));subst e1 e2;exact⟨ba,bb,by have:=hgt;simp only[Kd.cnt]at this;lia⟩
     |way c d=>obtain⟨e1,e2⟩:=hc c d (.inr (.inr rfl));subst e1 e2;exact⟨ba,bb,by have:=hgt;simp only[Kd.cnt]at this;lia⟩
   by_cases ew:w="way"
   ·obtain⟨rfl,gka,gkb⟩:=hw ew;subst ew;simp only[z9,Ss.drop];∎;refine⟨by rw[B.count];rfl,u8 B ka (m:=most) ⋯ (λc d e=>by rcases e with e|e|e<;>(subst e;exact⟨ba.1,ba.2.1⟩)) ⋯ ?_⟩;rfl'
    by_cases h6:(6:Int)<ka.cnt
    ·simp only[h6,if_true];∎;exact last .one kb (.way .one kb) rfl ⟨.inl trivial,gkb,∅⟩ (λc d e=>by rcases e with e|e|e<;>cases e;exact⟨rfl,rfl⟩) ∎ ∎ h1 bb (Ar _) nb
    ·simp only[h6,if_false];exact last ka kb (.way ka kb) rfl ⟨gka,gkb,⋯⟩ hc hn0 hn1 ba bb na nb
   ·simp only[z9,Ss.drop];∎;simp only[ew,if_false];exact last ka kb k hk (hg ew) hc hn0 hn1 ba bb na nb
  rcases hws with rfl|rfl|rfl
  ·rfl';refine⟨by rw[B.next];rfl,t6 B ∅ I4 λr5 st5 _ _ I5 K5=>?_⟩;have K5:=K4.trans K5;rfl'
   by_cases h1:r5=1
   ·simp only[h1,if_true];∎;exact fin "either" .non kb (.eith .non kb) st5 AE rfl (λ_=>.inr (.inl ⟨rfl,gb⟩)) (λh=>absurd h ∅) (λc d e=>by rcases e with e|e|e<;>cases e;exact⟨rfl,rfl⟩) ∎ ∎ trivial bb (Ar _) nb I5 K5
   ·simp only[h1,if_false];∎;refine⟨by rw[B.next];rfl,t6 B ∅ I5 λr6 st6 _ _ I6 K6=>?_⟩;have K6:=K5.trans K6;rfl'
    by_cases h1:r6=1
    ·simp only[h1,if_true];∎;exact fin "either" ka .non (.eith ka .non) st6 AE rfl (λ_=>.inr (.inr ⟨ga,rfl⟩)) (λh=>absurd h ∅) (λc d e=>by rcases e with e|e|e<;>cases e;exact⟨rfl,rfl⟩) ∎ ∎ ba trivial na (Ar _) I6 K6
    ·simp only[h1,if_false];rfl';exact fin "either" ka kb (.eith ka kb) st6 AE rfl (λ_=>.inl ⟨ga,gb⟩) (λh=>absurd h ∅) (λc d e=>by rcases e with e|e|e<;>cases e;exact⟨rfl,rfl⟩) ∎ ∎ ba bb na nb I6 K6
  ·rfl';∎;exact fin "both" ka kb (.both ka kb) st4 AE rfl (λ_=>⟨ga,gb⟩) (λh=>absurd h ∅) (λc d e=>by rcases e with e|e|e<;>cases e;exact⟨rfl,rfl⟩) ∎ ∎ ba bb na nb I4 K4
  ·rfl';refine⟨by rw[B.next];rfl,t6 B ∅ I4 λr5 st5 _ _ I5 K5=>?_⟩;have K5:=K4.trans K5;rfl'
   by_cases h1:r5=1
   ·simp only[h1,if_true];∎;exact fin "way" .non kb (.way .non kb) st5 AE rfl (λh=>absurd rfl h) (λ_=>⟨rfl,.inr rfl,gb⟩) (λc d e=>by rcases e with e|e|e<;>cases e;exact⟨rfl,rfl⟩) ∎ ∎ trivial bb (Ar _) nb I5 K5
   ·simp only[h1,if_false];∎;exact fin "way" ka kb (.way ka kb) st5 AE rfl (λh=>absurd rfl h) (λ_=>⟨rfl,.inl ga,gb⟩) (λc d e=>by rcases e with e|e|e<;>cases e;exact⟨rfl,rfl⟩) ∎ ∎ ba bb na nb I5 K5
end
def ab8{ns:List Int}{lo hi:Option Int}:∃ms:List Int,z5 (ns.map D.int) lo hi=ms.map D.int/\ms.length<=ns.length:=by
 refine⟨(ns.drop (HT.sIx (ns.map D.int).length 0 lo)).take (HT.sIx (ns.map D.int).length (ns.map D.int).length hi-HT.sIx (ns.map D.int).length 0 lo),by unfold z5;rw[List.map_take,List.map_drop],?_⟩;rw[El,BC];lia
def ah2{lo:Int}{n:Nat}:(k8 lo n).length=n:=by simp[k8]
def b65{b:Int}{k:Nat}(h:0<b):0<b^k:=by
 induction k with
 |zero=>rw[Int.pow_zero];decide
 |succ k ih=>rw[JQ];exact Int.mul_pos ih h
def bn6(ms:List Int)(i:Nat):j7 i (ms.map D.int)=(ms.zipIdx i).map λp=>D.tup [.int (p.2:Nat),.int p.1]:=by
 induction ms generalizing i with
 |nil=>rfl
 |cons m ms ih=>simp only[AY,j7,ih,List.zipIdx_cons]
section
variable (B:PB0 P) {n:Nat} 
include B
def b27{ns:List Int}(hn:2<=n)(hl:ns.length<=63)(h:rdS st a (ns.map D.int))(q:∀p st',g8 st' p->Kp [] st st'->Q (.ref p) st'):sem P G n "_law_deck" [.ref a] st Q:=by
 obtain⟨n,rfl⟩:∃m,n=m+2:=⟨n-2,⋯⟩;refine d5 B.deck rfl [AA (.ref a),AE,AE,AE,AE,AE] rfl ?_;unfold x0;∎;intro p hp;have hpa:a≠p:=h.elim (λh=>m9 h hp) (λh=>m9 h hp);∎;have h1:rdS (b0 st p (.lst [])) a (ns.map D.int):=h.elim (λh=>.inl (d9 h hp)) (λh=>.inr (d9 h hp));rw[ag4 h1];obtain⟨ms,em,hms⟩:=ab8 (ns:=ns) (lo:=AE) (hi:=AA 63);rw[em];intro s hs;have hsp:p≠s:=m9 b7 hs;have hsa:s≠a:=λz=>by subst z;exact h1.elim (λh=>absurd rfl (m9 h hs)) (λh=>absurd rfl (m9 h hs))
 rfl';refine⟨_,C4,?_⟩;rw[bn6];refine y6 (λl env st'=>∃(js:List (Int×Nat))(dk:List Int)(x2 x3 x4 x5:Option D),l=js.map (λp=>D.tup [.int (p.2:Nat),.int p.1])/\env=[AA (.ref a),AA (.ref p),x2,x3,x4,x5]/\st' p=AA (.lst (dk.map D.int))/\dk.length+67*js.length<=67*63/\rdS st' s (ms.map D.int)/\rdS st' a (ns.map D.int)/\Kp [] st st') ?_ ?_ _ _ _ ?_
 ·rintro env st' ⟨js,dk,x2,x3,x4,x5,el,rfl,hd,hb,hrs,hra,K⟩;refine⟨hrs,?_⟩;∎;rw[v2 (.inl hd)];rfl';simp only[Aj];refine⟨⋯,?_⟩;refine y6 (λl env st'=>∃(dk:List Int)(x2 x3 x4 x5:Option D),(∀d∈l,∃i:Int,d=.int i)/\env=[AA (.ref a),AA (.ref p),x2,x3,x4,x5]/\st' p=AA (.lst (dk.map D.int))/\dk.length+l.length<=10000/\rdS st' a (ns.map D.int)/\Kp [] st st') ?_ ?_ _ _ _ ⟨dk,_,_,_,_,λd hd=>by simp only[k8,HS]at hd;obtain⟨i,_,rfl⟩:=hd;exact⟨_,rfl⟩,rfl,hd,by rw[ah2];lia,hra,K⟩
  ·rintro env st' ⟨dk,x2,x3,x4,x5,el,rfl,hd,hb,hra,K⟩;refine⟨trivial,?_⟩;∎;rw[ag4 (.inl hd)];intro r hr;obtain⟨ks,ek,_⟩:=ab8 (ns:=dk) (lo:=AE) (hi:=AA 900);rw[ek];exact b8 (q r _ ⟨ks,b7⟩ (K.new hr))
  ·rintro d ds env st' ih ⟨dk,x2,x3,x4,x5,el,rfl,hd,hb,hra,K⟩;obtain⟨i,rfl⟩:=el d ∎;simp only[AI]at hb;refine⟨trivial,?_⟩;rfl';∎;rw[v9 (.inl hd),ag4 hra];obtain⟨ks,ek,_⟩:=ab8 (ns:=ns) (lo:=AE) (hi:=AA 63);rw[ek];refine⟨trivial,by rw[B.mixed];rfl,λr hr=>ci3 C4 ?_⟩;rfl';refine ao8 B _ _ λm=>?_;rw[L5 (d9 hd hr)];refine⟨M6 (by simp only[Aj];lia),?_⟩;have hpr:p≠r:=m9 hd hr;refine ih _ _ ⟨dk++[m],_,_,_,_,λd hd=>el d (by simp[hd]),rfl,by rw[b7,BI];rfl,by simp only[AJ,AI,AO];lia,?_,?_⟩
   ·exact hra.elim (λh=>.inl (d6 (d9 h hr) hpa)) (λh=>.inr (d6 (d9 h hr) hpa))
   ·intro b o nb e;exact d6 (d9 (K b o nb e) hr) (m9 e hp)
 ·rintro d ds env st' ih ⟨js,dk,x2,x3,x4,x5,el,rfl,hd,hb,hrs,hra,K⟩;refine⟨hrs,?_⟩;cases js with
  |nil=>simp at el
  |cons j js=>
   simp only[AY,As]at el;obtain⟨rfl,rfl⟩:=el;simp only[AI]at hb;obtain⟨c,k⟩:=j;rfl';∎;refine⟨⟨∅,∅,∅⟩,b65 ∅,?_⟩;have inn:∀(dk:List Int)(num:Int)(st':Sto),st' p=AA (.lst (dk.map D.int))->dk.length+60+67*js.length<=67*63->rdS st' s (ms.map D.int)->rdS st' a (ns.map D.int)->Kp [] st st' ->
     d4 (Zg P G (n+1)) (match x0.body.drop 1 with|.cons (.for _ _ b) _=>b.drop 2|_=>.nil) ⟨n0 (λst'=>rdS st' s (ms.map D.int)) (.tup [2,3]) (d4 (Zg P G (n+1)) (match x0.body.drop 1 with|.cons (.for _ _ b) _=>b|_=>.nil)) ⟨d4 (Zg P G (n+1)) (x0.body.drop 2) (f6 Q),(f6 Q).rt,(f6 Q).bk,(f6 Q).ct⟩ (js.map (λp=>D.tup [.int (p.2:Nat),.int p.1])),(f6 Q).rt,d4 (Zg P G (n+1)) (x0.body.drop 2) (f6 Q),n0 (λst'=>rdS st' s (ms.map D.int)) (.tup [2,3]) (d4 (Zg P G (n+1)) (match x0.body.drop 1 with|.cons (.for _ _ b) _=>b|_=>.nil)) ⟨d4 (Zg P G (n+1)) (x0.body.drop 2) (f6 Q),(f6 Q).rt,(f6 Q).bk,(f6 Q).ct⟩ (js.map (λp=>D.tup [.int (p.2:Nat),.int p.1]))⟩ [AA (.ref a),AA (.ref p),AA (.int (k:Nat)),AA (.int c),AA (.int num),x5] st':=by
    intro dk num st' hd hb hrs hra K;simp only[x0,Ss.drop];∎;refine⟨∅,?_⟩;refine y6 (λl env st'=>∃(dk:List Int)(num:Int)(x5:Option D),env=[AA (.ref a),AA (.ref p),AA (.int (k:Nat)),AA (.int c),AA (.int num),x5]/\st' p=AA (.lst (dk.map D.int))/\dk.length+l.length+67*js.length<=67*63/\rdS st' s (ms.map D.int)/\rdS st' a (ns.map D.int)/\Kp [] st st') ?_ ?_ _ _ _ ⟨dk,num,_,rfl,hd,by rw[ah2];exact hb,hrs,hra,K⟩
    ·rintro env st' ⟨dk,num,x5,rfl,hd,hb,hrs,hra,K⟩;refine⟨trivial,?_⟩;rfl';exact ih _ _ ⟨js,dk,_,_,_,_,rfl,rfl,hd,by simpa using hb,hrs,hra,K⟩
    ·rintro d ds env st' ih2 ⟨dk,num,x5,rfl,hd,hb,hrs,hra,K⟩;refine⟨trivial,?_⟩;simp only[AI]at hb;rfl';∎
     by_cases h0:0<num
     ·simp only[h0,if_true];∎;rw[v9 (.inl hd)];refine⟨trivial,∅,?_⟩;rw[L5 hd];refine⟨M6 (by simp only[Aj];lia),?_⟩;∎;refine⟨⟨∅,∅⟩,ih2 _ _ ⟨dk++[num % 2147483647],_,_,rfl,by rw[b7,BI];rfl,by simp only[AJ,AI,AO];lia,?_,?_,?_⟩⟩
      ·exact hrs.elim (λh=>.inl (d6 h hsp.symm)) (λh=>.inr (d6 h hsp.symm))
      ·exact hra.elim (λh=>.inl (d6 h hpa)) (λh=>.inr (d6 h hpa))
      ·intro b o nb e;exact d6 (K b o nb e) (m9 e hp)
     ·simp only[h0,if_false];rfl';exact ih2 _ _ ⟨dk,_,_,rfl,hd,⋯,hrs,hra,K⟩
   ∎;refine⟨⟨∅,∅,∅⟩,?_⟩;generalize(if c<0 then -c else c) % (2147483647:Int)^Int.toNat 60=num
   by_cases h18:num<10^Int.toNat 18
   ·simp only[h18,if_true];∎;rw[v9 (.inl hd)];refine⟨trivial,∅,∅,?_⟩;refine E4 (λl acc env' st''=>st''=st'/\∃(ac:List Int)(x:Option D),(∀d∈l,∃i:Int,d=.int i)/\env'=[AA (.int num),AA (.int (k:Nat)),x]/\acc=ac.map D.int/\ac.length+l.length=7) ?_ ?_ _ _ _ _ ⟨rfl,[],AE,λd hd=>by simp only[k8,HS]at hd;obtain⟨i,_,rfl⟩:=hd;exact⟨_,rfl⟩,rfl,rfl,∅⟩
    ·rintro acc env' st'' ⟨rfl,ac,x,_,rfl,rfl,hac⟩;refine⟨trivial,λr hr=>?_⟩;simp only[AO]at hac;rw[P4 (d9 hd hr) b7];refine⟨t3 (by simp only[Aj];lia),?_⟩;∎;have hpr:p≠r:=m9 hd hr;refine inn (dk++ac) 0 _ (by rw[b7,BI]) (by simp only[AJ];lia) ?_ ?_ ?_
     ·exact hrs.elim (λh=>.inl (d6 (d9 h hr) hsp.symm)) (λh=>.inr (d6 (d9 h hr) hsp.symm))
     ·exact hra.elim (λh=>.inl (d6 (d9 h hr) hpa)) (λh=>.inr (d6 (d9 h hr) hpa))
     ·intro b o nb e;exact d6 (d9 (K b o nb e) hr) (m9 e hp)
    ·rintro d ds acc env' st'' ihc ⟨rfl,ac,x,hi,rfl,rfl,hac⟩;obtain⟨i,rfl⟩:=hi d ∎;refine⟨trivial,?_⟩;rfl';refine⟨by rw[B.mixed];rfl,J7 ⟨∅,∅⟩,ao8 B _ _ λm=>ihc _ _ _ ⟨rfl,ac++[m],_,λd hd=>hi d (by simp[hd]),rfl,by rw[BI];rfl,by simp only[AJ,AI,AO]at hac ⊢;lia⟩⟩
   ·simp only[h18,if_false];exact inn dk num st' hd ⋯ hrs hra K
 ·refine⟨ms.zipIdx 0,[],AE,AE,AE,AE,rfl,rfl,d9 b7 hs,by simp only[List.length_zipIdx,AO];lia,C4,?_,(Kp.refl.new hp).new hs⟩;exact h1.elim (λh=>.inl (d9 h hs)) (λh=>.inr (d9 h hs))
end
structure PRd(P:d7)(G:Gs):Prop where
 ini:P (d3 "Reader" "__init__")=AA W9
 ns:P (d3 "Reader" "next_sign")=AA W8
 sg:P (d3 "Reader" "sign")=AA X8
 mb:P (d3 "Reader" "must_be")=AA X5
 so:P (d3 "Reader" "signs_of")=AA X1
 bi:P (d3 "Begun" "__init__")=AA X3
 be:P (d3 "Begun" "ends_with")=AA Q4
 bw:P (d3 "Begun" "whole")=AA Y0
 ro:P "read_one"=AA Y7
 rw':P "read_whole"=AA Y2
 cr:G.cls "Reader"=(["text","place"]:List Str)
 cb:G.cls "Begun"=(["front","many","between","end","parts","found"]:List Str)
 ci:G.cls "!is"=(["Begun"]:List Str)
 kR:G.cst "ROW"=AA (.tup [.str "row"])
 kK:G.cst "KIND"=AA (.tup [.str "kind"])
 kw:G.tab "KIND_WORDS"=([("+",.str "either"),("*",.str "both"),(">",.str "way")]:List (Str×D))
abbrev rdF(W:List Nat)(p:Nat):List (Str×D):=[("text",.str (tx W)),("place",.int p)]
@[reducible]noncomputable def RdA(st:Sto)(r:AM)(W:List Nat)(p:Nat):Prop:=st r=AA (.ins "Reader" (rdF W p))
def u9{l:List Nat}(h:∀c∈l,c<1114112):D.pure (.str (tx l))=AC:=by
 show Ed (tx l)=AC;unfold Ed tx;simpa using h
def U8{a:Str}(ha:D.pure (.str a)=AC)(hb:D.pure (.str b)=AC)(k:Q (.bl (!decide (a=b))) st):j3 .NotEq (.str a) (.str b) st Q:=⟨ha,hb,Ar _,by rw[g5];exact k⟩
def C6{a:Str}(ha:D.pure (.str a)=AC)(hb:D.pure (.str b)=AC)(k:Q (.bl (AB (a=b))) st):j3 .Eq (.str a) (.str b) st Q:=⟨ha,hb,Ar _,by rw[g5];exact k⟩
def af0{C:Str->List Str}{c f:Str}{fs:List (Str×D)}{d:D}(h:st r=AA (.ins c fs))(hc:f∈C c)(hl:fs.lookup f=AA d):(∃p c fs d,D.ref r=.ref p/\st p=AA (.ins c fs)/\f∈C c/\fs.lookup f=AA d/\R d)=R d:=
 propext ⟨λ⟨p,c',fs',d',e,h',_,l,k⟩=>by cases e;rw[h]at h';cases h';rw[hl]at l;cases l;exact k,λk=>⟨r,c,fs,d,rfl,h,hc,hl,k⟩⟩
section
variable (T:PRd P G) {n:Nat} {W:List Nat} 
include T
def ag6(h:RdA st r W p):(∃p c fs d,D.ref r=.ref p/\st p=AA (.ins c fs)/\AD "text"∈G.cls c/\fs.lookup (AD "text")=AA d/\R d)=R (.str (tx W)):=af0 h (by rw[T.cr];simp) rfl
def z6(h:RdA st r W p):(∃p c fs d,D.ref r=.ref p/\st p=AA (.ins c fs)/\AD "place"∈G.cls c/\fs.lookup (AD "place")=AA d/\R d)=R (.int p):=af0 h (by rw[T.cr];simp) rfl
def E3(h:RdA st r W p)(hw:W.length<=1000000)(hp:p<=W.length)(q:Q (.str (tx ((W.drop p).take 1))) st):sem P G (n+1) (d3 "Reader" "next_sign") [.ref r] st Q:=by
 refine d5 T.ns rfl [AA (.ref r)] rfl ?_;unfold W8;∎;rw[ag6 T h,z6 T h];refine⟨_,rfl,?_⟩;rw[z6 T h];rfl';refine⟨_,rfl,by rw[p7];exact Al hw ∅,b8 ?_⟩;rw[show(p:Int)+1=((p+1:Nat):Int) by lia,aa6 _ _ _ hp ⋯,Dt];exact q
def A0(h:RdA st r W p)(hw:W.length<=1000000)(hp:p<=W.length)(q:Q (.str (tx ((W.drop p).take 1))) (b0 st r (.ins "Reader" (rdF W (p+1))))):sem P G (n+2) (d3 "Reader" "sign") [.ref r] st Q:=by
 refine d5 T.sg rfl [AA (.ref r),AE] rfl ?_;unfold X8;∎;refine⟨r,"Reader",_,rfl,h,rfl,by rw[T.ns];rfl,E3 T h hw hp ?_⟩;∎;rw[z6 T h];rfl';refine⟨r,_,_,rfl,h,by rw[T.cr];simp,by simp[rdF],?_⟩;∎;exact b8 q
def T3(h:RdA st r W p)(hw:W.length<=1000000)(hp:p<=W.length){s:List Nat}{w:Str}(hs:w=tx s)(hok:D.pure (.str w)=AC)(hpre:s <+: W.drop p)(q:Q .non (b0 st r (.ins "Reader" (rdF W (p+s.length))))):sem P G (n+1) (d3 "Reader" "must_be") [.ref r,.str w] st Q:=by
 subst hs;refine d5 T.mb rfl [AA (.ref r),AA (.str (tx s))] rfl ?_;unfold X5;obtain⟨t,ht⟩:=hpre;have hl:s.length<=1000000:=by
  have:=congrArg Ap ht;simp only[AJ,BC]at this;lia
 ∎;rw[ag6 T h,z6 T h];refine⟨_,rfl,?_⟩;rw[z6 T h];refine⟨_,rfl,by rw[p7];exact Al hl ∅,?_⟩;rfl';refine⟨_,rfl,by rw[p7];exact Al hw ∅,?_⟩;rw[p7,show(p:Int)+(s.length:Int)=((p+s.length:Nat):Int) by lia,aa6 _ _ _ hp ⋯,Dt,<-ht,Ie rfl];refine U8 hok hok ⟨_,rfl,?_⟩;rw[decide_eq_true rfl,if_neg ∅];∎;rw[z6 T h];refine⟨_,rfl,by rw[p7];exact Al hl ∅,?_⟩;rfl';refine⟨r,_,_,rfl,h,by rw[T.cr];simp,by simp[rdF],?_⟩;rfl';rw[p7,show(p:Int)+(s.length:Int)=((p+s.length:Nat):Int) by lia];exact⟨_,Sub.refl _,q⟩
def ao1(h:RdA st r W p)(hw:W.length<=1000000)(hp0:p<=W.length)(hok:∀c∈W,c<1114112){cs f t:List Nat}{w:Str}(hc:w=tx cs)(hd:W.drop p=f++t)(hf:∀c∈f,c∈cs)(ht:∀c∈t.head?,c∉cs)(q:∀st',RdA st' r W (p+f.length)->Kp [r] st st'->Q (.str (tx f)) st'):sem P G (n+2) (d3 "Reader" "signs_of") [.ref r,.str w] st Q:=by
 subst hc;refine d5 T.so rfl [AA (.ref r),AA (.str (tx cs)),AE] rfl ?_;unfold X1;have hlen:W.length-p=f.length+t.length:=by
  have:=congrArg Ap hd;simpa only[AJ,BC]using this
 ∎;rw[z6 T h];∎;refine R8 (λm env st'=>∃j,m+j=f.length/\env=[AA (.ref r),AA (.str (tx cs)),AA (.int p)]/\RdA st' r W (p+j)/\Kp [r] st st') ?_ f.length _ _ ⟨0,⋯,rfl,h,Kp.refl⟩;rintro m env st' WW ⟨j,hj,rfl,hr,K⟩ ih;have hdj:W.drop (p+j)=f.drop j++t:=by
  rw[<-CK,hd,List.drop_append_of_le_length ⋯]
 have e0:tx []=AD "":=by decide
 have p1:∀l:List Nat,(∀c∈l,c<1114112)->D.pure (.str (tx l))=AC:=λl hl=>u9 hl;have hmem:∀c∈W.drop (p+j),c<1114112:=λc hc=>hok c (CT hc);have fin:d4 (Zg P G (n+1)) (Ss.cons (S.ret (((E.v 0).fld (AD "text")).ssl (E.v 2) ((E.v 0).fld (AD "place")))) Ss.nil) (f6 Q) [AA (.ref r),AA (.str (tx cs)),AA (.int p)] st'\/0<m:=by
  cases m with
  |succ m=>exact .inr (Bj m)
  |zero=>
   left
   have ej:j=f.length:=by lia
   subst ej;∎;rw[ag6 T hr];rfl';rw[z6 T hr];refine⟨_,rfl,_,rfl,by rw[p7];exact Al hw ∅,b8 ?_⟩;rw[aa6 _ _ _ hp0 ⋯,Dt,hd,Ie rfl];exact q st' hr K
 unfold wpT;rfl';refine⟨r,"Reader",_,rfl,hr,rfl,by rw[T.ns];rfl,E3 T hr hw ⋯ (U8 (p1 _ λc hc=>hmem c (EI hc)) (f7 "") ?_)⟩;refine⟨_,rfl,?_⟩;cases hk:W.drop (p+j)with
 |nil=>
  rw[List.take_nil,e0,decide_eq_true rfl,if_neg ∅];refine fin.resolve_right λz=>?_;rw[hk]at hdj;have:=congrArg Ap hdj;simp only[AO,AJ,BC]at this;lia
 |cons c l=>
  rw[Cg,EH,decide_eq_false (λz=>by rw[<-e0]at z;exact nomatch J8 z),if_pos ∅];refine⟨r,"Reader",_,rfl,hr,rfl,by rw[T.ns];rfl,E3 T hr hw ⋯ ?_⟩;rw[hk,Cg,EH];refine⟨c,_,rfl,rfl,_,rfl,?_⟩;have ecs:(tx cs).cps.toList=cs:=by simp[tx]
  rw[ecs];cases m with
  |zero=>
   have ej:f.drop j=[]:=GU ⋯;rw[ej,Do,hk]at hdj;have hc:c∉cs:=ht c (by rw[<-hdj];rfl);rw[decide_eq_false hc,if_neg ∅];exact fin.resolve_right ⋯
  |succ m=>
   have hc:c∈cs:=by
    refine hf c (CT (i:=j) ?_);cases hfj:f.drop j with
    |nil=>have:=List.drop_eq_nil_iff.1 hfj;lia
    |cons c' l'=>rw[hfj,hk]at hdj;cases hdj;simp
   rw[decide_eq_true hc,if_pos ∅];∎;rw[z6 T hr];rfl';refine⟨r,_,_,rfl,hr,by rw[T.cr];simp,by simp[rdF],?_⟩;refine ih m _ _ ⋯ ⟨j+1,⋯,rfl,?_,K.put ∎⟩;refine b7.trans ?_;rw[show((p+j:Nat):Int)+1=((p+(j+1):Nat):Int) by lia];rfl
end
def none_of{p:AM}(K:Kp [] st st')(h:st' p=AE):st p=AE:=by
 cases z:st p with
 |none=>rfl
 |some u=>rw[K.at' z ∎]at h;cases h
structure PM(P:d7)(G:Gs):Prop where
 mop:P "made_of_parts"=AA d_made_of_parts
 few:P "order_of_few"=AA d_order_of_few
 taken:P "taken"=AA d_taken
 cst:G.cst "FEW"=AA (.int 2000)
def a87{n:Nat}{f:Str}{ds:List D}(h:sem P G n f ds st Q):(o4 P G (n+1)).2.1 f ds st Q:=h
structure Fr where
 w:String
 ex:List D
 many:D
 btw:List Nat
 en:List Nat
abbrev Fr.front(f:Fr):D:=.tup (.str (AD f.w)::f.ex)
abbrev bgF(f:Fr)(pa:AM)(fd:Str):List (Str×D):=[("front",f.front),("many",f.many),("between",.str (tx f.btw)),("end",.str (tx f.en)),("parts",.ref pa),("found",.str fd)]
@[reducible]noncomputable def BgA(st:Sto)(fa pa:AM)(f:Fr)(fd:Str)(ds:List D):Prop:=st fa=AA (.ins "Begun" (bgF f pa fd))/\st pa=AA (.lst ds)/\fa≠pa
abbrev kwd(c:Nat):String:=if c=43 then "either" else if c=42 then "both" else "way"
abbrev Fr.whole(f:Fr)(sp:Nat)(ps:List D):D:=if f.w="row" then .tup [.str "w",.tup ps]else if f.w="kind" then .tup (.str (AD (kwd sp))::ps)else .tup (.str (AD f.w)::f.ex++ps)
def kpN{L:List AM}{p:AM}(x:Kp L st st')(h:st p=AE):Kp L st (b0 st' p o):=λd u n e=>d6 (x d u n e) (λz=>by rw[z,h]at e;cases e)
def ba7{i:Int}:j3 .Eq .non (.int i) st Q=Q (.bl AG) st:=by
 rw[F6];exact propext ⟨λh=>h.2.2.2,λh=>⟨rfl,rfl,Ar _,h⟩⟩
section
variable (T:PRd P G) {n:Nat} {W:List Nat} {fa pa:AM} {f:Fr} {fd:Str} {ds:List D}
include T
def l5{x:Str}{d:D}(h:BgA st fa pa f fd ds)(hx:x∈(["front","many","between","end","parts","found"]:List Str))(hl:(bgF f pa fd).lookup x=AA d):(∃p c fs d,D.ref fa=.ref p/\st p=AA (.ins c fs)/\x∈G.cls c/\fs.lookup x=AA d/\R d)=R d:=af0 h.1 (by rw[T.cb];exact hx) hl
def bw7{many:D}{e:Str}(h:st fa=AA (.ins "Begun" []))(q:∀pa,st pa=AE->pa≠fa->Q .non (b0 (b0 st pa (.lst [])) fa (.ins "Begun" [("front",.tup ds),("many",many),("between",.str b),("end",.str e),("parts",.ref pa),("found",.str "")]))):sem P G (n+1) (d3 "Begun" "__init__") [.ref fa,.tup ds,many,.str b,.str e] st Q:=by
 refine d5 T.bi rfl [AA (.ref fa),AA (.tup ds),AA many,AA (.str b),AA (.str e)] rfl ?_;unfold X3;have cb:∀x∈(["front","many","between","end","parts","found"]:List Str),x∈G.cls "Begun":=λx hx=>by rw[T.cb];exact hx
 have lt:∀{l:List (Str×D)}{k:Nat},l.length=k->k<1000->l.length<1000:=λe h=>by rw[e];exact h
 ∎;refine⟨fa,_,_,rfl,h,cb _ ∎,∅,?_⟩;∎;refine⟨fa,_,_,rfl,b7,cb _ ∎,lt (k:=1) rfl ∅,?_⟩;∎;refine⟨fa,_,_,rfl,b7,cb _ ∎,lt (k:=2) rfl ∅,?_⟩;∎;refine⟨fa,_,_,rfl,b7,cb _ ∎,lt (k:=3) rfl ∅,?_⟩;∎;intro pa hpa;have ne:pa≠fa:=λz=>by rw[z,b7]at hpa;cases hpa
 rw[g6 ne,g6 ne,g6 ne,g6 ne]at hpa;refine⟨fa,_,_,rfl,d6 b7 ne.symm,cb _ ∎,lt (k:=4) rfl ∅,?_⟩;∎;refine⟨fa,_,_,rfl,b7,cb _ ∎,lt (k:=5) rfl ∅,?_⟩;rfl';refine⟨_,Sub.refl _,?_⟩;have:=q pa hpa ne;refine cast (congrArg (Q .non) ?_) this
 funext a
 by_cases h1:a=fa
 ·subst h1;rw[b7,b7];rfl
 ·rw[g6 h1,g6 h1,g6 h1]
  by_cases h2:a=pa
  ·subst h2;rw[b7,b7]
  ·rw[g6 h2,g6 h2,g6 h1,g6 h1,g6 h1,g6 h1]
abbrev Fr.full(f:Fr)(k:Nat)(c8:List Nat):Prop:=f.many=.int k\/(f.many=.non/\∃e,f.en=[e]/\∃l,c8=e::l)
abbrev Fr.open'(f:Fr)(k:Nat)(c8:List Nat):Prop:=(∃j:Nat,f.many=.int j/\j≠k)\/(f.many=.non/\∃e,f.en=[e]/\∃c l,c8=c::l/\c≠e)
def b25(hr:RdA st r W p)(hw:W.length<=1000000)(hp:p<=W.length)(hok:∀c∈W,c<1114112)(h:BgA st fa pa f fd ds)(hl:ds.length<=100000)(n1:r≠fa)(n2:r≠pa){d:D}(hf:f.full (ds.length+1) (W.drop p))(hen:f.en <+: W.drop p)
  (q:Q (.bl AC) (b0 (b0 st pa (.lst (ds++[d]))) r (.ins "Reader" (rdF W (p+f.en.length))))):sem P G (n+2) (d3 "Begun" "ends_with") [.ref fa,d,.ref r] st Q:=by
 refine d5 T.be rfl [AA (.ref fa),AA d,AA (.ref r)] rfl ?_;unfold Q4;∎;rw[l5 T h ∎ rfl,v9 (.inl h.2.1)];refine⟨trivial,?_⟩;rw[L5 h.2.1];refine⟨M6 ⋯,?_⟩;have h':BgA (b0 st pa (.lst (ds++[d]))) fa pa f fd (ds++[d]):=⟨d6 h.1 h.2.2,b7,h.2.2⟩;have hr':RdA (b0 st pa (.lst (ds++[d]))) r W p:=d6 hr n2;have pe:D.pure (.str (tx f.en))=AC:=u9 λc hc=>hok c (CT (hen.subset hc));have fin:∀nx bk ct,d4 (Zg P G (n+1)) (Ss.cons (S.ex ((E.v 2).meth (AD "must_be") (Es.cons ((E.v 0).fld (AD "end")) Es.nil))) (Ss.cons (S.ret (E.bl AC)) Ss.nil)) ⟨nx,(f6 Q).rt,bk,ct⟩ [AA (.ref fa),AA d,AA (.ref r)] (b0 st pa (.lst (ds++[d]))):=λnx bk ct=>by
  ∎;refine⟨r,"Reader",_,rfl,hr',rfl,by rw[T.mb];rfl,?_⟩;rw[l5 T h' ∎ rfl];refine T3 T hr' hw hp rfl pe hen ?_;∎;exact b8 q
 ∎;rw[l5 T h' ∎ rfl,l5 T h' ∎ rfl,v2 (.inl h'.2.1)]
 rcases hf with e|⟨e,c,ec,l,el⟩
 ·rw[e,L8];refine⟨_,rfl,?_⟩;rw[decide_eq_true ∎,if_pos rfl];exact fin _ _ _
 ·rw[e,ba7];refine⟨_,rfl,?_⟩;rw[if_neg ∅,l5 T h' ∎ rfl,e];refine .inl ⟨rfl,?_⟩;rfl';refine⟨r,"Reader",_,rfl,hr',rfl,by rw[T.ns];rfl,E3 T hr' hw hp ?_⟩;rw[l5 T h' ∎ rfl];refine C6 (u9 λc hc=>hok c (CT (EI hc))) pe ?_;rw[el,ec,Cg,EH,decide_eq_true rfl];refine⟨_,rfl,?_⟩;rw[if_pos rfl];exact fin _ _ _
def b12(hr:RdA st r W p)(hw:W.length<=1000000)(hok:∀c∈W,c<1114112)(h:BgA st fa pa f fd ds)(hl:ds.length<=100000)(n1:r≠fa)(n2:r≠pa){d:D}{l:List Nat}(hd:W.drop p=sp::l)(hf:f.open' (ds.length+1) (W.drop p))(hsp:sp∈f.btw)(hbt:∀e∈f.en,e<1114112)
  (q:Q (.bl AG) (b0 (b0 (b0 st pa (.lst (ds++[d]))) r (.ins "Reader" (rdF W (p+1)))) fa (.ins "Begun" (bgF f pa (tx [sp]))))):sem P G (n+3) (d3 "Begun" "ends_with") [.ref fa,d,.ref r] st Q:=by
 have hp:p<=W.length:=Hs λz=>by rw[GU ⋯]at hd;cases hd
 refine d5 T.be rfl [AA (.ref fa),AA d,AA (.ref r)] rfl ?_;unfold Q4;∎;rw[l5 T h ∎ rfl,v9 (.inl h.2.1)];refine⟨trivial,?_⟩;rw[L5 h.2.1];refine⟨M6 ⋯,?_⟩;have h':BgA (b0 st pa (.lst (ds++[d]))) fa pa f fd (ds++[d]):=⟨d6 h.1 h.2.2,b7,h.2.2⟩;have hr':RdA (b0 st pa (.lst (ds++[d]))) r W p:=d6 hr n2;have pc:D.pure (.str (tx [sp]))=AC:=u9 λc hc=>hok c (CT (by rw[hd];simp at hc;simp[hc]));have fin:d4 (Zg P G (n+2)) (Ss.cons (S.fldS (E.v 0) (AD "found") ((E.v 2).meth (AD "sign") Es.nil)) (Ss.cons (S.iff ((E.cmp CmpOp.Eq ((E.v 0).fld (AD "found")) (E.str (AD ""))).or (E.sin AC ((E.v 0).fld (AD "found")) ((E.v 0).fld (AD "between")))) (Ss.cons S.dead Ss.nil) Ss.nil) (Ss.cons (S.ret (E.bl AG)) Ss.nil))) (f6 Q) [AA (.ref fa),AA d,AA (.ref r)] (b0 st pa (.lst (ds++[d]))):=by
  ∎;refine⟨r,"Reader",_,rfl,hr',rfl,by rw[T.sg];rfl,A0 T hr' hw hp ?_⟩;rw[hd,Cg,EH];rfl';refine⟨fa,_,_,rfl,d6 h'.1 n1.symm,by rw[T.cb];simp,by simp[bgF],?_⟩;have h2:BgA (b0 (b0 (b0 st pa (.lst (ds++[d]))) r (.ins "Reader" (rdF W (p+1)))) fa (.ins "Begun" (bgF f pa (tx [sp])))) fa pa f (tx [sp]) (ds++[d]):=⟨b7,d6 (d6 b7 n2.symm) h.2.2.symm,h.2.2⟩;show d4 _ _ _ _ (b0 (b0 (b0 st pa (.lst (ds++[d]))) r (.ins "Reader" (rdF W (p+1)))) fa (.ins "Begun" (bgF f pa (tx [sp]))));∎;rw[l5 T h2 ∎ rfl];refine C6 pc (f7 "") ⟨_,rfl,?_⟩;have e0:tx []=AD "":=by decide
  rw[decide_eq_false (λz=>by rw[<-e0]at z;exact nomatch J8 z),if_neg ∅,l5 T h2 ∎ rfl,l5 T h2 ∎ rfl];refine⟨sp,_,rfl,rfl,_,rfl,?_⟩;have ecs:(tx f.btw).cps.toList=f.btw:=by simp[tx]
  rw[ecs,decide_eq_true hsp,if_neg ∅];∎;exact b8 q
 ∎;rw[l5 T h' ∎ rfl,l5 T h' ∎ rfl,v2 (.inl h'.2.1)]
 rcases hf with⟨j,e,hj⟩|⟨e,c,ec,x,y,el,hne⟩
 ·rw[e,L8];refine⟨_,rfl,?_⟩;rw[decide_eq_false (by simp;lia),if_neg ∅,l5 T h' ∎ rfl,e];refine .inr ⟨nofun,?_⟩;rfl';exact fin
 ·rw[e,ba7];refine⟨_,rfl,?_⟩;rw[if_neg ∅,l5 T h' ∎ rfl,e];refine .inl ⟨rfl,?_⟩;rfl';refine⟨r,"Reader",_,rfl,hr',rfl,by rw[T.ns];rfl,E3 T hr' hw hp ?_⟩;rw[l5 T h' ∎ rfl];refine C6 (u9 λc hc=>hok c (CT (EI hc))) (u9 hbt) ?_;rw[el,ec,Cg,EH,decide_eq_false (λz=>hne (by have:=J8 z;simpa using this))];refine⟨_,rfl,?_⟩;rw[if_neg ∅];exact fin
structure Fr.ok(f:Fr):Prop where
 row:f.w="row"->f.ex=[]
 kind:f.w="kind"->f.ex=[]
 pu:D.pures f.ex=AC
 le:f.ex.length<=10
def bn7(h:BgA st fa pa f fd ds)(hl:ds.length<=100000)(ok:f.ok)(hk:f.w="kind"->fd=tx [sp]/\(sp=43\/sp=42\/sp=62))(q:Q (f.whole sp ds) st):sem P G (n+1) (d3 "Begun" "whole") [.ref fa] st Q:=by
 refine d5 T.bw rfl [AA (.ref fa)] rfl ?_;unfold Y0;have fp:f.front.pure=AC:=by unfold Fr.front;rw[t0,g9,f7,ok.pu];rfl
 have hd:∀x:String,(x="row"\/x="kind")->deq f.front (.tup [.str (AD x)])=AB (f.w=x):=λx hx=>by
  unfold Fr.front;rw[n8]
  by_cases e:f.w=x
  ·have:f.ex=[]:=by exact hx.elim (λz=>ok.row (e.trans z)) (λz=>ok.kind (e.trans z))
   rw[this,e];simp[j4,g5]
  ·have:AD f.w≠AD x:=λz=>e (i6.mp z);simp[j4,g5,e,this]
 ∎;rw[l5 T h ∎ rfl];refine⟨_,T.kR,?_⟩;rw[F6];refine⟨fp,by rw[t0,g9,f7];rfl,Al (DF _ _) ∅,?_⟩;rw[hd "row" (.inl rfl)];refine⟨_,rfl,?_⟩
 by_cases e1:f.w="row"
 ·rw[decide_eq_true e1,if_pos rfl];∎;rw[l5 T h ∎ rfl,T1 (.inl h.2.1)];refine b8 ?_;unfold Fr.whole at q;rw[if_pos e1]at q;exact q
 rw[decide_eq_false e1,if_neg ∅];∎;rw[l5 T h ∎ rfl];refine⟨_,T.kK,?_⟩;rw[F6];refine⟨fp,by rw[t0,g9,f7];rfl,Al (DF _ _) ∅,?_⟩;rw[hd "kind" (.inr rfl)];refine⟨_,rfl,?_⟩;unfold Fr.whole at q;rw[if_neg e1]at q
 by_cases e2:f.w="kind"
 ·rw[decide_eq_true e2,if_pos rfl];rw[if_pos e2]at q;obtain⟨rfl,hsp⟩:=hk e2;∎;refine⟨by rw[T.kw];nofun,?_⟩;rw[l5 T h ∎ rfl];have key:∀w:Str,AD (kwd sp)=w->i7 (G.tab "KIND_WORDS") (tx [sp])=AA (.str w):=λw e=>by
   rw[T.kw,<-e]
   rcases hsp with rfl|rfl|rfl<;>rfl
  refine⟨_,_,rfl,key _ rfl,?_⟩;rw[l5 T h ∎ rfl,T1 (.inl h.2.1)];rfl';refine⟨t3 ?_,b8 q⟩;lia
 ·rw[decide_eq_false e2,if_neg ∅];rw[if_neg e2]at q;∎;rw[l5 T h ∎ rfl,l5 T h ∎ rfl,T1 (.inl h.2.1)];unfold Fr.front;rfl';have:=ok.le;refine⟨t3 ?_,b8 q⟩;lia
end
mutual
inductive Tr where
 |leaf (d:List D) (s:List Nat)
 |node (f:Fr) (op:List Nat) (sp:Nat) (k:Trs)
inductive Trs where
 |nil|cons (t:Tr) (r:Trs)
end
abbrev Trs.len:Trs->Nat
 |.nil=>0
 |.cons _ r=>r.len+1
mutual
noncomputable def Tr.v:Tr->D
 |.leaf d _=>.tup d
 |.node f _ sp k=>f.whole sp k.vs
noncomputable def Trs.vs:Trs->List D
 |.nil=>[]
 |.cons t r=>t.v::r.vs
end
mutual
noncomputable def Tr.s:Tr->List Nat
 |.leaf _ s=>s
 |.node f op sp k=>op++(k.s sp++f.en)
noncomputable def Trs.s(sp:Nat):Trs->List Nat
 |.nil=>[]
 |.cons t r=>t.s++r.ft sp
noncomputable def Trs.ft(sp:Nat):Trs->List Nat
 |.nil=>[]
 |.cons t r=>sp::(t.s++r.ft sp)
end
mutual
noncomputable def Tr.n:Tr->Nat
 |.leaf _ _=>1
 |.node _ _ _ k=>1+k.n
noncomputable def Trs.n:Trs->Nat
 |.nil=>0
 |.cons t r=>t.n+r.n
end
abbrev nd(c:Nat):Prop:=c<48\/57<c
abbrev nf(l:List Nat):Prop:=∀c∈l.head?,nd c
structure FW(f:Fr)(sp m:Nat):Prop where
 ok:f.ok
 many:f.many=.int m\/(f.many=.non/\∃e,f.en=[e]/\sp≠e)
 le:m<=1000
 btw:2<=m->sp∈f.btw
 nds:nd sp
 nde:nf f.en
 chr:∀c∈f.en,c<1114112
 kind:f.w="kind"->m=2/\(sp=43\/sp=42\/sp=62)
mutual
noncomputable def Tr.wf(R:Tr->Prop):Tr->Prop
 |.leaf d s=>R (.leaf d s)
 |.node f op sp k=>R (.node f op sp k)/\FW f sp k.len/\0<k.len/\k.wf R
noncomputable def Trs.wf(R:Tr->Prop):Trs->Prop
 |.nil=>True
 |.cons t r=>t.wf R/\r.wf R
end
structure Cx3 where
 f:Fr
 fa:AM
 pa:AM
 fd:Str
 ds:List D
 sp:Nat
 k:Trs
abbrev l6:List Cx3->List Nat
 |[]=>[]
 |c::cs=>c.k.ft c.sp++(c.f.en++l6 cs)
abbrev M4:D->List Cx3->D
 |v,[]=>v
 |v,c::cs=>M4 (c.f.whole c.sp (c.ds++v::c.k.vs)) cs
abbrev cxn:List Cx3->Nat
 |[]=>0
 |c::cs=>c.k.n+cxn cs
structure CW(R:Tr->Prop)(c:Cx3):Prop where
 fw:FW c.f c.sp (c.ds.length+1+c.k.len)
 fd:c.ds≠[]->c.fd=tx [c.sp]
 k:c.k.wf R
abbrev adr:List Cx3->List AM
 |[]=>[]
 |c::cs=>c.fa::c.pa::adr cs
structure HI(st0 st:Sto)(r bl:AM)(cs:List Cx3):Prop where
 sk:st bl=AA (.lst (cs.reverse.map λc=>D.ref c.fa))
 fr:∀c∈cs,st c.fa=AA (.ins "Begun" (bgF c.f c.pa c.fd))/\st c.pa=AA (.lst c.ds)
 nod:(r::bl::adr cs).Nodup
 new:∀a∈bl::adr cs,st0 a=AE
theorem A1{c:Cx3}:∀{cs:List Cx3},c∈cs->c.fa∈adr cs/\c.pa∈adr cs
 |d::cs,h=>by
  rcases AT.1 h with rfl|h
  ·exact⟨.head _,.tail _ (.head _)⟩
  ·exact⟨.tail _ (.tail _ (A1 h).1),.tail _ (.tail _ (A1 h).2)⟩
section
variable {st0:Sto} {bl:AM} {c:Cx3} {cs:List Cx3}
def nOf(K:Kp [r] st st')(h:st' a=AE)(hr:st' r=AA o):st a=AE:=by
 cases e:st a with
 |none=>rfl
 |some u=>
  have:a≠r:=λz=>by rw[z,hr]at h;cases h
  rw[K a u (by simpa using this) e]at h;cases h
def HI.to(h:HI st0 st r bl cs)(hb:st' bl=AA (.lst (cs.reverse.map λc=>D.ref c.fa)))(ha:∀a∈adr cs,st' a=st a):HI st0 st' r bl cs:=
 ⟨hb,λc hc=>by rw[ha _ (A1 hc).1,ha _ (A1 hc).2];exact h.fr c hc,h.nod,h.new⟩
def HI.rn(h:HI st0 st r bl cs):r≠bl/\r∉adr cs/\bl∉adr cs/\(adr cs).Nodup:=by
 have:=h.nod;simp only[Bq,AT,not_or]at this;exact⟨this.1.1,this.1.2,this.2.1,this.2.2⟩
def HI.some'(h:HI st0 st r bl cs)(ha:a∈adr cs):∃o,st a=AA o:=by
 have:∀{cs:List Cx3},(∀c∈cs,st c.fa=AA (.ins "Begun" (bgF c.f c.pa c.fd))/\st c.pa=AA (.lst c.ds))->a∈adr cs->∃o,st a=AA o:=by
  intro cs
  induction cs with
  |nil=>exact λ_ z=>nomatch z
  |cons c cs ih=>
   intro hf ha;simp only[adr,AT]at ha
   rcases ha with rfl|rfl|ha
   ·exact⟨_,(hf c (.head _)).1⟩
   ·exact⟨_,(hf c (.head _)).2⟩
   ·exact ih (λd hd=>hf d (.tail _ hd)) ha
 exact this h.fr ha
def HI.keep(h:HI st0 st r bl cs)(K:Kp [r] st st'):HI st0 st' r bl cs:=by
 obtain⟨n1,n2,_,_⟩:=h.rn;refine h.to (K _ _ (by simpa using n1.symm) h.sk) λa ha=>?_;obtain⟨o,e⟩:=h.some' ha;rw[e,K a o (λz=>n2 (by simp at z;exact z▸ha)) e]
def HI.pop(h:HI st0 st r bl (c::cs))(hb:st' bl=AA (.lst (cs.reverse.map λc=>D.ref c.fa)))(ha:∀a∈adr cs,st' a=st a):HI st0 st' r bl cs:=by
 have nn:=h.nod;simp only[adr,Bq,AT,not_or]at nn;refine⟨hb,λd hd=>by rw[ha _ (A1 hd).1,ha _ (A1 hd).2];exact h.fr d (.tail _ hd),?_,λa ha=>h.new a ?_⟩
 ·simp only[Bq,AT,not_or];exact⟨⟨nn.1.1,nn.1.2.2.2⟩,nn.2.1.2.2,nn.2.2.2.2⟩
 ·simp only[adr,AT]at ha ⊢;exact ha.imp_right λz=>.inr (.inr z)
def HI.top(h:HI st0 st r bl (c::cs)){fd:Str}{ds:List D}{k:Trs}(hb:st' bl=st bl)(h1:st' c.fa=AA (.ins "Begun" (bgF c.f c.pa fd)))(h2:st' c.pa=AA (.lst ds))(ha:∀a∈adr cs,st' a=st a):HI st0 st' r bl (⟨c.f,c.fa,c.pa,fd,ds,c.sp,k⟩::cs):=by
 refine⟨by rw[hb,h.sk];simp,λd hd=>?_,h.nod,h.new⟩
 rcases AT.1 hd with rfl|hd
 ·exact⟨h1,h2⟩
 ·rw[ha _ (A1 hd).1,ha _ (A1 hd).2];exact h.fr d (.tail _ hd)
def HI.push(h:HI st0 st r bl cs)(b:BgA st c.fa c.pa c.f c.fd c.ds)(n1:c.fa∉r::bl::adr cs)(n2:c.pa∉r::bl::adr cs)(f1:st0 c.fa=AE)(f2:st0 c.pa=AE):HI st0 (b0 st bl (.lst ((cs.reverse.map λc=>D.ref c.fa)++[.ref c.fa]))) r bl (c::cs):=by
 obtain⟨m1,m2,m3,m4⟩:=h.rn;simp only[AT,not_or]at n1 n2;refine⟨by rw[b7,CO,BI];rfl,λd hd=>?_,?_,λa ha=>?_⟩
 ·rcases AT.1 hd with rfl|hd
  ·exact⟨d6 b.1 n1.2.1,d6 b.2.1 n2.2.1⟩
  ·have k:=A1 hd;exact⟨d6 (h.fr d hd).1 λz=>m3 (z▸k.1),d6 (h.fr d hd).2 λz=>m3 (z▸k.2)⟩
 ·simp only[adr,Bq,AT,not_or];exact⟨⟨m1,BK n1.1,BK n2.1,m2⟩,⟨BK n1.2.1,BK n2.2.1,m3⟩,⟨b.2.2,n1.2.2⟩,n2.2.2,m4⟩
 ·simp only[adr,AT]at ha
  rcases ha with rfl|rfl|rfl|ha
  ·exact h.new _ (.head _)
  ·exact f1
  ·exact f2
  ·exact h.new a (.tail _ ha)
end
def ax7{a b:List Nat}(ha:nf a)(hb:nf b):nf (a++b):=by
 cases a with
 |nil=>exact hb
 |cons c l=>exact ha
theorem a37{R:Tr->Prop}:∀{cs:List Cx3}{tail:List Nat},(∀c∈cs,CW R c)->nf tail->nf (l6 cs++tail)
 |[],_,_,ht=>ht
 |c::cs,tail,h,ht=>by
  show nf (c.k.ft c.sp++(c.f.en++l6 cs)++tail);rw[Ba,Ba];have hc:=h c (.head _);refine ax7 ?_ (ax7 hc.fw.nde (a37 (λd hd=>h d (.tail _ hd)) ht));cases c.k with
  |nil=>exact λ_ z=>nomatch z
  |cons t r=>exact λx z=>by cases z;exact hc.fw.nds
def bz9{α:Type}{l:List α}{x:α}:atI (l++[x]) (-1)=AA x:=by
 unfold atI ixN;rw[if_neg ∅,if_pos (by simp;lia)];have e:(-1+((l++[x]).length:Int)).toNat=l.length:=by simp;lia
 show(l++[x])[(-1+((l++[x]).length:Int)).toNat]?=AA x;rw[e];simp
def bo6(f:Fr)(sp:Nat)(ps:List D):∃l,f.whole sp ps=.tup l:=by
 unfold Fr.whole
 split
 ·exact⟨_,rfl⟩
 ·split<;>exact⟨_,rfl⟩
abbrev BOk(P:d7)(G:Gs)(n:Nat)(B:Str):Tr->Prop
 |.leaf d s=>∀(st:Sto)(r:AM)(W:List Nat)(p:Nat)(c8:List Nat)(Q:DK),RdA st r W p->W.length<=1000000->(∀c∈W,c<1114112)->p<=W.length->W.drop p=s++c8->nf c8->(∀st',RdA st' r W (p+s.length)->Kp [r] st st'->Q (.tup d) st')->sem P G n B [.ref r] st Q
 |.node f op sp k=>∀(st:Sto)(r:AM)(W:List Nat)(p:Nat)(c8:List Nat)(Q:DK),RdA st r W p->W.length<=1000000->(∀c∈W,c<1114112)->p<=W.length->W.drop p=op++(k.s sp++c8)->(∀st' fa pa,st fa=AE->st pa=AE->RdA st' r W (p+op.length)->BgA st' fa pa f "" []->Kp [r] st st'->Q (.ref fa) st')->sem P G n B [.ref r] st Q
section
variable (T:PRd P G) {n:Nat} {W:List Nat} {B:Str} {R:Tr->Prop}
include T
def ai6(hB:(P B).isSome=AC)(hR:∀t,R t->BOk P G (n+3) B t)(hr:RdA st r W p)(hw:W.length<=1000000)(hok:∀c∈W,c<1114112)(hp:p<=W.length){t:Tr}(hd:W.drop p=t.s++tail)(hnf:nf tail)(wf:t.wf R)(hn:t.n<=1000000)(q:∀st',RdA st' r W (p+t.s.length)->Kp [r] st st'->Q t.v st'):sem P G (n+4) "read_one" [.ref r,.fn B] st Q:=by
 refine d5 T.ro rfl [AA (.ref r),AA (.fn B),AE,AE] rfl ?_;unfold Y7;∎;intro bl hbl;∎;have hrb:r≠bl:=λz=>by rw[<-z,hr]at hbl;cases hbl
 refine R8 (λm env st'=>∃(t':Tr)(cs:List Cx3)(p':Nat)(x3:Option D),m=t'.n+cxn cs/\env=[AA (.ref r),AA (.fn B),AA (.ref bl),x3]/\RdA st' r W p'/\p'<=W.length/\HI st st' r bl cs/\W.drop p'=t'.s++(l6 cs++tail)/\p'+(t'.s++l6 cs).length=p+t.s.length/\M4 t'.v cs=t.v/\t'.wf R/\(∀c∈cs,CW R c)/\cs.length+(t'.n+cxn cs)<=t.n/\Kp [r] st st') ?_ t.n _ _ ⟨t,[],p,AE,rfl,rfl,d9 hr hbl,hp,⟨b7,nofun,by simp[adr,hrb],λa ha=>by simp[adr]at ha;rw[ha];exact hbl⟩,hd,by simp[l6],rfl,wf,nofun,by simp[cxn],Kp.refl.new hbl⟩;rintro m env st1 WW ⟨t',cs,p',x3,rfl,rfl,hr1,hp1,hi1,hd1,hl1,hv1,wf1,cw1,ht1,K1⟩ ih;unfold wpT;rfl';∎;refine⟨hB,?_⟩;cases t' with
 |node f op sp k=>
  obtain⟨rk,fw,hk0,kw⟩:=wf1;cases k with
  |nil=>exact absurd hk0 (CU 0)
  |cons t1 kr=>
   have hd1':W.drop p'=op++(t1.s++(kr.ft sp++(f.en++l6 cs)++tail)):=by
    rw[hd1];show(op++((t1.s++kr.ft sp)++f.en))++_=_;simp only[Ba]
   refine hR _ rk st1 r W p' (f.en++l6 cs++tail) _ hr1 hw hok hp1 (by rw[hd1'];simp only[Trs.s,Ba]) λst2 fa pa nfa npa hr2 bg2 K2=>?_;∎;refine⟨by rw[T.ci];simp,_,bg2.1,_,rfl,?_⟩;rw[if_pos rfl];have hi2:=hi1.keep K2;∎;rw[v9 (.inl hi2.sk),L5 hi2.sk];have nof:∀{a:AM},st1 a=AE->a∉r::bl::adr cs:=λ{a}hn hm=>by
    simp only[AT]at hm
    rcases hm with rfl|rfl|hm
    ·rw[hr1]at hn;cases hn
    ·rw[hi1.sk]at hn;cases hn
    ·obtain⟨o,e⟩:=hi1.some' hm;rw[e]at hn;cases hn
   refine⟨trivial,M6 (by simp only[Aj,ER];lia),?_⟩;∎;have hi3:=hi2.push (c:=⟨f,fa,pa,"",[],sp,kr⟩) bg2 (nof nfa) (nof npa) (nOf K1 nfa hr1) (nOf K1 npa hr1);refine ih _ _ _ ?_ ⟨t1,⟨f,fa,pa,"",[],sp,kr⟩::cs,p'+op.length,_,rfl,rfl,d6 hr2 hi1.rn.1,?_,hi3,?_,?_,hv1,kw.1,λc hc=>?_,?_,kpN (K1.trans K2) (hi1.new _ (.head _))⟩
   ·show t1.n+(kr.n+cxn cs)<1+(t1.n+kr.n)+cxn cs;lia
   ·have:=congrArg Ap hd1';simp only[AJ,BC]at this;lia
   ·rw[<-CK,hd1',FT rfl];simp only[l6,Ba]
   ·rw[<-hl1];show _=p'+((op++((t1.s++kr.ft sp)++f.en))++l6 cs).length;simp only[l6,AJ];lia
   ·rcases AT.1 hc with rfl|hc
    ·exact⟨by have:=fw;simp only[Trs.len]at this;simpa[JN]using this,λz=>absurd rfl z,kw.2⟩
    ·exact cw1 c hc
   ·have:cs.length+(1+(t1.n+kr.n)+cxn cs)<=t.n:=ht1;show cs.length+1+(t1.n+(kr.n+cxn cs))<=t.n;lia
 |leaf d s=>
  refine hR _ wf1 st1 r W p' _ _ hr1 hw hok hp1 hd1 (a37 cw1 hnf) λst2 hr2 K2=>?_;∎;refine⟨by rw[T.ci];simp,_,rfl,?_⟩;rw[if_neg ∅];∎;have hpl:p'+s.length<=W.length:=by
   have:=congrArg Ap hd1;rw[AJ,BC]at this;have e:(Tr.leaf d s).s=s:=rfl;rw[e]at this;lia
  refine R8 (λm2 env st'=>∃(v:List D)(cs2:List Cx3)(p2:Nat),m2=cs2.length/\env=[AA (.ref r),AA (.fn B),AA (.ref bl),AA (.tup v)]/\RdA st' r W p2/\p2<=W.length/\HI st st' r bl cs2/\W.drop p2=l6 cs2++tail/\p2+(l6 cs2).length=p+t.s.length/\M4 (.tup v) cs2=t.v/\(∀c∈cs2,CW R c)/\cxn cs2<=cxn cs/\cs2.length+cxn cs2<=t.n/\Kp [r] st st') ?_ cs.length _ _ ⟨d,cs,p'+s.length,rfl,rfl,hr2,hpl,hi1.keep K2,by rw[<-CK,hd1];exact FT rfl,by rw[<-hl1];show _=p'+(s++l6 cs).length;simp only[AJ];lia,hv1,cw1,Af _,by have:cs.length+(1+cxn cs)<=t.n:=ht1;lia,K1.trans K2⟩;rintro m2 env st3 W2 ⟨v,cs2,p2,rfl,rfl,hr3,hp3,hi3,hd3,hl3,hv3,cw3,hn3,ht3,K3⟩ ih2;unfold wpT;rfl';rw[v2 (.inl hi3.sk)];rfl';cases cs2 with
  |nil=>
   rw[if_neg ∎];∎;rw[v2 (.inl hi3.sk)];rfl';rw[if_pos ∎];∎;simp only[l6,AO,Nat.add_zero]at hl3;have hv3:D.tup v=t.v:=hv3;rw[hv3];exact b8 (q st3 (hl3▸hr3) K3)
  |cons c cs3=>
   have cwc:=cw3 c (.head _);have skc:st3 bl=AA (.lst ((cs3.reverse.map λc=>D.ref c.fa)++[.ref c.fa])):=by rw[hi3.sk,CO,BI];rfl
   have bgc:BgA st3 c.fa c.pa c.f c.fd c.ds:=by
    have nn:=hi3.rn.2.2.2;simp only[adr,Bq,AT,not_or]at nn;exact⟨(hi3.fr c (.head _)).1,(hi3.fr c (.head _)).2,nn.1.1⟩
   obtain⟨m1,m2,m3,m4⟩:=hi3.rn;simp only[adr,AT,not_or]at m2 m3;have hle:=cwc.fw.le;have far:∀a∈adr cs3,a≠bl/\a≠r/\a≠c.fa/\a≠c.pa:=λa ha=>by
    simp only[adr,Bq,AT,not_or]at m4;exact⟨λz=>m3.2.2 (z▸ha),λz=>m2.2.2 (z▸ha),λz=>m4.1.2 (z▸ha),λz=>m4.2.1 (z▸ha)⟩
   rw[if_pos ∎,F2 (.inl skc)];refine⟨.ref c.fa,bz9,c.fa,"Begun",_,rfl,bgc.1,rfl,by rw[T.be];rfl,?_⟩;cases hk:c.k with
   |nil=>
    have fw:=cwc.fw;rw[hk]at fw;have hd4:W.drop p2=c.f.en++(l6 cs3++tail):=by rw[hd3];simp only[l6,hk,Trs.ft,Do,Ba]
    have hfull:c.f.full (c.ds.length+1) (W.drop p2):=by
     rcases fw.many with e|⟨e,x,ex,_⟩
     ·exact .inl e
     ·exact .inr ⟨e,x,ex,_,by rw[hd4,ex];rfl⟩
    refine b25 T hr3 hw hp3 hok bgc ⋯ m2.1 m2.2.1 (d:=.tup v) hfull ⟨_,hd4.symm⟩ ⟨_,rfl,?_⟩;rw[if_pos rfl];generalize hs4:b0 (b0 st3 c.pa (.lst (c.ds++[.tup v]))) r (.ins "Reader" (rdF W (p2+c.f.en.length)))=st4;have skc4:st4 bl=AA (.lst ((cs3.reverse.map λc=>D.ref c.fa)++[.ref c.fa])):=by rw[<-hs4];exact d6 (d6 skc m3.2.1) (BK m1)
    have bg4:BgA (b0 st4 bl (.lst (cs3.reverse.map λc=>D.ref c.fa))) c.fa c.pa c.f c.fd (c.ds++[.tup v]):=by
     rw[<-hs4];exact⟨d6 (d6 (d6 bgc.1 bgc.2.2) (BK m2.1)) (BK m3.1),d6 (d6 b7 (BK m2.2.1)) (BK m3.2.1),bgc.2.2⟩
    ∎;rw[a55 skc4];refine⟨c.fa,"Begun",_,rfl,bg4.1,rfl,by rw[T.bw];rfl,bn7 T bg4 (by rw[AJ,DM];lia) fw.ok (sp:=c.sp) (λz=>⟨cwc.fd λz2=>by have:=(fw.kind z).1;rw[z2]at this;simp[Trs.len]at this,(fw.kind z).2⟩) ?_⟩;obtain⟨v',ev⟩:=bo6 c.f c.sp (c.ds++[.tup v]);rw[ev];rfl';have hp5:p2+c.f.en.length<=W.length:=by
     have:=congrArg Ap hd4;simp only[AJ,BC]at this;lia
    refine ih2 cs3.length _ _ (EJ _) ⟨v',cs3,p2+c.f.en.length,rfl,rfl,?_,hp5,?_,?_,?_,?_,λc hc=>cw3 c (.tail _ hc),?_,?_,?_⟩
    ·rw[<-hs4];exact d6 b7 m1
    ·refine hi3.pop b7 λa ha=>?_;obtain⟨x1,x2,x3,x4⟩:=far a ha;rw[<-hs4,g6 x1,g6 x2,g6 x4]
    ·rw[<-CK,hd4];exact FT rfl
    ·rw[<-hl3];simp only[l6,hk,Trs.ft,Do,AJ];lia
    ·rw[<-ev];have:=hv3;simp only[M4,hk,Trs.vs]at this;exact this
    ·have:cxn (c::cs3)=cxn cs3:=by simp[cxn,hk,Trs.n]
     lia
    ·have:cxn (c::cs3)=cxn cs3:=by simp[cxn,hk,Trs.n]
     rw[AI]at ht3;lia
    ·rw[<-hs4];exact kpN (((kpN K3 (hi3.new _ (by simp[adr]))).put ∎)) (hi3.new _ (.head _))
   |cons t1 kr=>
    have fw:=cwc.fw;rw[hk]at fw;have kw:=cwc.k;rw[hk]at kw;have hd4:W.drop p2=c.sp::(t1.s++(kr.ft c.sp++(c.f.en++l6 cs3)++tail)):=by rw[hd3];simp only[l6,hk,Trs.ft,Bm,Ba]
    have hopen:c.f.open' (c.ds.length+1) (W.drop p2):=by
     rcases fw.many with e|⟨e,x,ex,ne⟩
     ·exact .inl ⟨_,e,by simp[Trs.len]⟩
     ·exact .inr ⟨e,x,ex,_,_,hd4,ne⟩
    refine b12 T hr3 hw hok bgc ⋯ m2.1 m2.2.1 (d:=.tup v) hd4 hopen (fw.btw (by simp only[Trs.len];lia)) fw.chr ⟨_,rfl,?_⟩;rw[if_neg ∅];generalize hs4:b0 (b0 (b0 st3 c.pa (.lst (c.ds++[.tup v]))) r (.ins "Reader" (rdF W (p2+1)))) c.fa (.ins "Begun" (bgF c.f c.pa (tx [c.sp])))=st4;have sk4:st4 bl=AA (.lst ((c::cs3).reverse.map λc=>D.ref c.fa)):=by rw[<-hs4];exact d6 (d6 (d6 hi3.sk m3.2.1) (BK m1)) m3.1
    ∎;rw[v2 (.inl sk4)];rfl';rw[if_neg (by simp;lia)];rfl';refine ih _ _ _ ?_ ⟨t1,⟨c.f,c.fa,c.pa,tx [c.sp],c.ds++[.tup v],c.sp,kr⟩::cs3,p2+1,_,rfl,rfl,?_,?_,?_,?_,?_,?_,kw.1,?_,?_,?_⟩
    ·show t1.n+(kr.n+cxn cs3)<1+cxn cs;have:cxn (c::cs3)=t1.n+kr.n+cxn cs3:=by simp[cxn,hk,Trs.n]
     lia
    ·rw[<-hs4];exact d6 b7 m2.1
    ·have:=congrArg Ap hd4;simp only[AI,BC]at this;lia
    ·refine hi3.top (by rw[sk4,hi3.sk]) (by rw[<-hs4];exact b7) (by rw[<-hs4];exact d6 (d6 b7 (BK m2.2.1)) (BK bgc.2.2)) λa ha=>?_;obtain⟨x1,x2,x3,x4⟩:=far a ha;rw[<-hs4,g6 x3,g6 x2,g6 x4]
    ·rw[<-CK,hd4];simp only[l6,List.drop_succ_cons,JP,Ba]
    ·rw[<-hl3];simp only[l6,hk,Trs.ft,Bm,AJ,AI];lia
    ·have:=hv3;simp only[M4,hk,Trs.vs]at this;simp only[M4,Ba,Ge];exact this
    ·intro d hd
     rcases AT.1 hd with rfl|hd
     ·refine⟨?_,λ_=>rfl,kw.2⟩;have e:(c.ds++[D.tup v]).length+1+kr.len=c.ds.length+1+(Trs.cons t1 kr).len:=by simp[Trs.len];lia
      show FW c.f c.sp ((c.ds++[D.tup v]).length+1+kr.len);rw[e];exact fw
     ·exact cw3 d (.tail _ hd)
    ·have:cxn (c::cs3)=t1.n+kr.n+cxn cs3:=by simp[cxn,hk,Trs.n]
     rw[AI]at ht3;show cs3.length+1+(t1.n+(kr.n+cxn cs3))<=t.n;lia
    ·rw[<-hs4];exact kpN ((kpN K3 (hi3.new _ (by simp[adr]))).put ∎) (hi3.new _ (by simp[adr]))
end
structure PRk(P:d7)(G:Gs):Prop extends PRd P G where
 bk:P "begin_kind"=AA M9
 rk:P "read_kind"=AA Y6
abbrev kf:Fr:=⟨"kind",[],.int 2,[43,42,62],[41]⟩
abbrev two(a b:Tr):Trs:=.cons a (.cons b .nil)
abbrev Kd.tr:Kd->Tr
 |.non=>.leaf [.str "none"] [48]
 |.one=>.leaf [.str "one"] [49]
 |.eith a b=>.node kf [40] 43 (two a.tr b.tr)
 |.both a b=>.node kf [40] 42 (two a.tr b.tr)
 |.way a b=>.node kf [40] 62 (two a.tr b.tr)
theorem D5:∀k:Kd,k.tr.v=k.d
 |.non=>rfl
 |.one=>rfl
 |.eith a b=>by show D.tup _=_;simp only[two,Trs.vs,D5 a,D5 b];rfl
 |.both a b=>by show D.tup _=_;simp only[two,Trs.vs,D5 a,D5 b];rfl
 |.way a b=>by show D.tup _=_;simp only[two,Trs.vs,D5 a,D5 b];rfl
def D6{u:Ob}(hr:st r=AA o)(h:b0 st r u a=AE):st a=AE:=by
 by_cases e:a=r
 ·subst e;rw[b7]at h;cases h
 ·rwa [g6 e]at h
def C9(T:PRd P G){n:Nat}:(Zg P G (n+1)).MF (d3 "Begun" "__init__")=AC:=by
 show(AC&&(P _).isSome)=AC;rw[T.bi];rfl
def C5(T:PRd P G){n:Nat}{W:List Nat}(f:Fr)(hr:RdA st r W p)(k:∀st' fa pa,st fa=AE->st pa=AE->RdA st' r W p->BgA st' fa pa f "" []->Kp [] st st'->Q (.ref fa) st'):
  ∀fa,st fa=AE->(o4 P G (n+2)).2.1 (d3 "Begun" "__init__") [.ref fa,f.front,f.many,.str (tx f.btw),.str (tx f.en)] (b0 st fa (.ins "Begun" [])) λv st2=>v=.non/\Q (.ref fa) st2:=by
 intro fa hfa;refine a87 (bw7 T b7 λpa hpa ne=>⟨rfl,?_⟩);have npa:st pa=AE:=by rwa [g6 ne]at hpa
 have rf:r≠fa:=λz=>by rw[<-z,hr]at hfa;cases hfa
 have rp:r≠pa:=λz=>by rw[<-z,hr]at npa;cases npa
 exact k _ fa pa hfa npa (d6 (d6 (d6 hr rf) rp) rf) ⟨b7,d6 b7 ne,ne.symm⟩ (kpN (kpN (kpN Kp.refl hfa) npa) hfa)
def kfw(h:sp=43\/sp=42\/sp=62):FW kf sp 2:=⟨⟨λ_=>rfl,λ_=>rfl,rfl,∅⟩,.inl rfl,∅,λ_=>by rcases h with rfl|rfl|rfl<;>decide,by unfold nd;lia,λc z=>by cases z;exact .inl ∅,λc hc=>by simp[kf]at hc;lia,λ_=>⟨rfl,h⟩⟩
def aa0(T:PRd P G){n:Nat}{W:List Nat}{B:Str}{R:Tr->Prop}(hB:(P B).isSome=AC)(hR:∀t,R t->BOk P G (n+3) B t){t:Tr}(hW:W=t.s)(hw:W.length<=1000000)(hok:∀c∈W,c<1114112)(wf:t.wf R)(hn:t.n<=1000000)(q:∀st',Kp [] st st'->Q t.v st'):sem P G (n+5) "read_whole" [.str (tx W),.fn B] st Q:=by
 refine d5 T.rw' rfl [AA (.str (tx W)),AA (.fn B),AE,AE] rfl ?_;unfold Y2;∎;refine⟨by rw[T.ini];rfl,λr hr=>a87 ?_⟩;refine d5 T.ini rfl [AA (.ref r),AA (.str (tx W))] rfl ?_;unfold W9;∎;refine⟨r,_,_,rfl,b7,by rw[T.cr];simp,∅,?_⟩;∎;refine⟨r,_,_,rfl,b7,by rw[T.cr];simp,(by decide:(1:Nat)<1000),?_⟩;rfl';refine⟨_,Sub.refl _,rfl,?_⟩;have K0:Kp [] st (b0 (b0 (b0 st r (.ins "Reader" [])) r (.ins "Reader" [("text",.str (tx W))])) r (.ins "Reader" (rdF W 0))):=kpN (kpN (kpN Kp.refl hr) hr) hr;have hr0:RdA (b0 (b0 (b0 st r (.ins "Reader" [])) r (.ins "Reader" [("text",.str (tx W))])) r (.ins "Reader" (rdF W 0))) r W 0:=b7;show d4 _ _ _ _ (b0 (b0 (b0 st r (.ins "Reader" [])) r (.ins "Reader" [("text",.str (tx W))])) r (.ins "Reader" (rdF W 0)));∎;refine⟨by rw[T.ro];rfl,ai6 T hB hR hr0 hw hok (Ar _) (t:=t) (tail:=[]) (by rw[JP,BP];exact hW) nofun wf hn λst2 hr2 K2=>?_⟩;∎;rw[z6 T hr2];refine⟨_,rfl,by rw[p7];exact Al hw ∅,?_⟩;rfl';rw[p7,if_neg (by rw[hW];lia)];∎;exact b8 (q st2 λb o nb e=>K2 b o (λz=>by simp at z;rw[z,hr]at e;cases e) (K0 b o nb e))
section
variable (T:PRk P G) {n:Nat} {W:List Nat} 
include T
def an8(k:Kd):BOk P G (n+3) "begin_kind" k.tr:=by
 have nod:∀sp(a b:Tr),BOk P G (n+3) "begin_kind" (.node kf [40] sp (two a b)):=by
  intro sp a b st r W p c8 Q hr hw hok hp hd q;refine d5 T.bk rfl [AA (.ref r),AE] rfl ?_;unfold M9;∎;refine⟨r,"Reader",_,rfl,hr,rfl,by rw[T.sg];rfl,A0 T.toPRd hr hw hp ?_⟩;rw[hd];show d4 _ _ _ [AA (.ref r),AA (.str (AD "("))] _;(iterate 3 ∎);refine⟨C9 T.toPRd,_,T.kK,C5 T.toPRd kf b7 λst' fa pa n1 n2 hr' hb K=>b8 (q st' fa pa (D6 hr n1) (D6 hr n2) hr' hb (Kp.trans (Kp.refl.put ∎) (K.more ∎)))⟩
 cases k with
 |non=>
  intro st r W p c8 Q hr hw hok hp hd hn q;refine d5 T.bk rfl [AA (.ref r),AE] rfl ?_;unfold M9;∎;refine⟨r,"Reader",_,rfl,hr,rfl,by rw[T.sg];rfl,A0 T.toPRd hr hw hp ?_⟩;rw[hd];show d4 _ _ _ [AA (.ref r),AA (.str (AD "0"))] _;(iterate 2 ∎);exact b8 (q _ b7 (Kp.refl.put ∎))
 |one=>
  intro st r W p c8 Q hr hw hok hp hd hn q;refine d5 T.bk rfl [AA (.ref r),AE] rfl ?_;unfold M9;∎;refine⟨r,"Reader",_,rfl,hr,rfl,by rw[T.sg];rfl,A0 T.toPRd hr hw hp ?_⟩;rw[hd];show d4 _ _ _ [AA (.ref r),AA (.str (AD "1"))] _;(iterate 3 ∎);exact b8 (q _ b7 (Kp.refl.put ∎))
 |eith a b=>exact nod 43 _ _
 |both a b=>exact nod 42 _ _
 |way a b=>exact nod 62 _ _
omit T in
theorem B9{R:Tr->Prop}(hR:∀k:Kd,R k.tr):∀k:Kd,k.tr.wf R
 |.non=>hR .non
 |.one=>hR .one
 |.eith a b=>⟨hR (.eith a b),kfw (.inl rfl),Bj _,B9 hR a,B9 hR b,trivial⟩
 |.both a b=>⟨hR (.both a b),kfw (.inr (.inl rfl)),Bj _,B9 hR a,B9 hR b,trivial⟩
 |.way a b=>⟨hR (.way a b),kfw (.inr (.inr rfl)),Bj _,B9 hR a,B9 hR b,trivial⟩
def bq8(k:Kd)(hr:RdA st r W p)(hw:W.length<=1000000)(hok:∀c∈W,c<1114112)(hp:p<=W.length)(hd:W.drop p=k.tr.s++tail)(hnf:nf tail)(hn:k.tr.n<=1000000)(q:∀st',RdA st' r W (p+k.tr.s.length)->Kp [r] st st'->Q k.d st'):sem P G (n+4) "read_one" [.ref r,.fn "begin_kind"] st Q:=
 ai6 T.toPRd (R:=λt=>∃k:Kd,t=k.tr) (by rw[T.bk];rfl) (λt⟨k,e⟩=>e▸an8 T k) hr hw hok hp hd hnf (B9 (λk=>⟨k,rfl⟩) k) hn (by rw[D5];exact q)
end
structure PRp(P:d7)(G:Gs):Prop extends PRk P G where
 bp:P "begin_program"=AA G6
 bf:P "begin_form"=AA Y4
 rn:P "read_number"=AA X9
 rp:P "read_program"=AA X7
 kF:G.cst "FIGURES"=AA (.str "0123456789")
 kL:G.cst "LETTERS"=AA (.str "abcdefghijklmnopqrstuvwxyz")
 fo:G.tab "FORMS"=([("fst",.tup [.str "first",.bl AG,.int 1]),("snd",.tup [.str "second",.bl AG,.int 1]),("inl",.tup [.str "left",.bl AC,.int 1]),("inr",.tup [.str "right",.bl AC,.int 1]),("case",.tup [.str "case",.bl AG,.int 3]),("way",.tup [.str "way",.bl AC,.int 1]),("give",.tup [.str "give",.bl AG,.int 2]),("let",.tup [.str "let",.bl AG,.int 2]),("never",.tup [.str "never",.bl AC,.int 1])]:List (Str×D))
abbrev ch(s:String):List Nat:=(AD s).cps.toList
abbrev dg(i:Nat):List Nat:=(JR 10 i).map Da
def U5(i:Nat):tx (dg i)=AD (DE (i:Int)):=by rw[ae2 (AD _),W.KIN.signs_num];rfl
def ad3{c:Nat}(h:c∈dg i):48<=c/\c<=57:=by
 obtain⟨x,hx,rfl⟩:=HS.1 h;have:=Nat.isDigit_of_mem_toDigits ∅ ∅ hx;simp only[Char.isDigit,Aq,decide_eq_true_eq]at this;exact⟨this.1,this.2⟩
def O4(h:i<10000):(dg i).length<=4:=by
 unfold dg;rw[Aj];exact(Nat.length_toDigits_le_iff ∅ ∅).2 h
def b28:∀(i:Nat){l:List Nat},dg i=48::l->i=0:=by
 intro i
 induction i using Nat.strongRecOn with
 |_ i ih=>
  intro l h
  by_cases h10:i<10
  ·unfold dg at h;rw[Nat.toDigits_of_lt_base h10]at h;have:(Iy i).toNat=48:=by simpa using(FU h).1
   have key:∀d<10,(Iy d).toNat=48->d=0:=by decide
   exact key i h10 this
  ·have hb:10<=i:=by lia
   unfold dg at h;rw[Nat.toDigits_of_base_le ∅ hb,BI]at h;cases e:dg (i / 10)with
   |nil=>exact absurd (Gx.1 e) HE
   |cons c l'=>
    have e':(JR 10 (i / 10)).map Da=c::l':=e;rw[e',Bm]at h;have:=ih (i / 10) ⋯ (l:=l') (by rw[e,(FU h).1]);lia
abbrev pf:Fr:=⟨"pair",[],.int 2,[44],[41]⟩
abbrev ff(w:String)(ex:List D)(m:Nat):Fr:=⟨w,ex,.int m,[32],[93]⟩
abbrev i5(a:Tr):Trs:=.cons a .nil
abbrev Pg.tr:Pg->Tr
 |.name i=>.leaf [.str "name",.int i] (35::dg i)
 |.star=>.leaf [.str "star"] [46]
 |.pair t u=>.node pf [40] 44 (two t.tr u.tr)
 |.first t=>.node (ff "first" [] 1) (ch "[fst ") 32 (i5 t.tr)
 |.second t=>.node (ff "second" [] 1) (ch "[snd ") 32 (i5 t.tr)
 |.left k t=>.node (ff "left" [k.d] 1) (ch "[inl "++(k.tr.s++[32])) 32 (i5 t.tr)
 |.right k t=>.node (ff "right" [k.d] 1) (ch "[inr "++(k.tr.s++[32])) 32 (i5 t.tr)
 |.case t u v=>.node (ff "case" [] 3) (ch "[case ") 32 (.cons t.tr (two u.tr v.tr))
 |.way k t=>.node (ff "way" [k.d] 1) (ch "[way "++(k.tr.s++[32])) 32 (i5 t.tr)
 |.give t u=>.node (ff "give" [] 2) (ch "[give ") 32 (two t.tr u.tr)
 |.lets t u=>.node (ff "let" [] 2) (ch "[let ") 32 (two t.tr u.tr)
 |.never k t=>.node (ff "never" [k.d] 1) (ch "[never "++(k.tr.s++[32])) 32 (i5 t.tr)
abbrev koT:Option Kd->List Nat->List Nat
 |none,l=>l
 |some k,l=>k.tr.s++32::l
abbrev koX:Option Kd->List D
 |none=>[]
 |some k=>[k.d]
def cn8:∀p:Pg,p.tr.v=p.d:=by
 intro p
 induction p with
 |name|star=>rfl
 |pair t u it iu|give t u it iu|lets t u it iu=>show D.tup _=_;simp only[two,Trs.vs,it,iu];rfl
 |case t u v it iu iv=>show D.tup _=_;simp only[two,Trs.vs,it,iu,iv];rfl
 |first t it|second t it=>show D.tup _=_;simp only[i5,Trs.vs,it];rfl
 |left k t it|right k t it|way k t it|never k t it=>show D.tup _=_;simp only[i5,Trs.vs,it];rfl
section
variable (T:PRp P G) {n:Nat} {W:List Nat} 
include T
def b26(hr:RdA st r W p)(hw:W.length<=1000000)(hok:∀c∈W,c<1114112)(hp:p<=W.length)(hi:i<10000)(hd:W.drop p=dg i++tail)(hnf:nf tail)(q:∀st',RdA st' r W (p+(dg i).length)->Kp [r] st st'->Q (.int i) st'):sem P G (n+3) "read_number" [.ref r] st Q:=by
 refine d5 T.rn rfl [AA (.ref r),AE] rfl ?_;unfold X9;∎;refine⟨r,"Reader",_,rfl,hr,rfl,by rw[T.so];rfl,_,T.kF,?_⟩;refine ao1 T.toPRd hr hw hp hok (cs:=[48,49,50,51,52,53,54,55,56,57]) ∅ hd (λc hc=>?_) (λc hc=>?_) λst2 hr2 K2=>?_
 ·have:=ad3 hc;simp only[AT,Ac,or_false];lia
 ·have:=hnf c hc;unfold nd at this;simp only[AT,Ac,or_false];omega
 have hdl:=O4 hi;have hpu:∀c∈dg i,c<1114112:=λc hc=>by have:=ad3 hc;lia
 obtain⟨c0,l0,e0⟩:∃c l,dg i=c::l:=by
  cases e:dg i with
  |nil=>exact absurd (Gx.1 e) HE
  |cons c l=>exact⟨c,l,rfl⟩
 have en:tx []=AD "":=by decide
 have e48:tx [48]=AD "0":=by decide
 have hsz:(tx (dg i)).length<=sizeLine:=by rw[p7];exact Al hdl ∅
 have fin:d4 (Zg P G (n+2)) (Ss.cons (S.ret (E.v 1).sint) Ss.nil) (f6 Q) [AA (.ref r),AA (.str (tx (dg i)))] st2:=by
  ∎;exact⟨(i:Int),by rw[U5],⋯,⋯,b8 (q st2 hr2 K2)⟩
 ∎;refine C6 (u9 hpu) (f7 "") ⟨_,rfl,?_⟩;rw[decide_eq_false (λz=>by rw[<-en,e0]at z;exact nomatch J8 z),if_neg ∅];refine⟨_,rfl,hsz,?_⟩;rw[if_neg (by rw[p7];lia)];refine⟨c0,hsz,by rw[Q2];simp[tx,e0],C6 (u9 (l:=[c0]) λc hc=>by simp at hc;rw[hc];exact hpu c0 (by rw[e0];simp)) (f7 "0") ⟨_,rfl,?_⟩⟩
 by_cases h48:c0=48
 ·subst h48;have:=b28 i e0;subst this;have ed:tx (dg 0)=AD "0":=by decide
  rw[show(⟨#[48]⟩:Str)=AD "0" by decide,decide_eq_true rfl,if_pos rfl,ed];rfl';rw[ed]at fin;exact fin
 ·rw[decide_eq_false (λz=>by rw[<-e48]at z;exact h48 (by simpa using J8 (a:=[c0]) z)),if_neg ∅];exact fin
def br6(hr:RdA st r W p)(hw:W.length<=1000000)(hok:∀c∈W,c<1114112)(hp:p<=W.length){x:String}{m:Nat}(ko:Option Kd)(hn:∀k∈ko,k.tr.n<=1000000){c8:List Nat}(hd:W.drop p=ch w++32::koT ko c8)(hl:∀c∈ch w,c∈ch "abcdefghijklmnopqrstuvwxyz")
  (ht:i7 (G.tab "FORMS") (AD w)=AA (.tup [.str (AD x),.bl ko.isSome,.int m]))
  (q:∀st' fa pa p',st fa=AE->st pa=AE->p'+c8.length=W.length->W.drop p'=c8->RdA st' r W p'->BgA st' fa pa (ff x (koX ko) m) "" []->Kp [r] st st'->Q (.ref fa) st'):sem P G (n+5) "begin_form" [.ref r] st Q:=by
 refine d5 T.bf rfl [AA (.ref r),AE,AE,AE] rfl ?_;unfold Y4;have tc:∀s:String,tx (ch s)=AD s:=λs=>(ae2 _).symm;∎;refine⟨r,"Reader",_,rfl,hr,rfl,by rw[T.so];rfl,_,T.kL,?_⟩;refine ao1 T.toPRd hr hw hp hok (cs:=ch "abcdefghijklmnopqrstuvwxyz") (tc _).symm hd hl (λc hc=>by cases hc;decide) λst2 hr2 K2=>?_;rw[tc];have hp2:p+(ch w).length<=W.length:=by
  have:=congrArg Ap hd;simp only[AJ,BC]at this;lia
 have hd2:W.drop (p+(ch w).length)=32::koT ko c8:=by rw[<-CK,hd];exact FT rfl
 ∎;refine⟨by rw[T.fo];nofun,_,rfl,?_⟩;rw[ht,if_neg ∎];∎;refine⟨r,"Reader",_,rfl,hr2,rfl,by rw[T.mb];rfl,T3 T.toPRd hr2 hw hp2 (s:=[32]) ∅ (f7 " ") ⟨_,hd2.symm⟩ ?_⟩;have hr3:RdA (b0 st2 r (.ins "Reader" (rdF W (p+(ch w).length+1)))) r W (p+(ch w).length+1):=b7;have K3:Kp [r] st (b0 st2 r (.ins "Reader" (rdF W (p+(ch w).length+1)))):=K2.put ∎;have hd3:W.drop (p+(ch w).length+1)=koT ko c8:=by rw[<-CK,hd2];rfl
 have hp3:p+(ch w).length+1<=W.length:=by
  have:=congrArg Ap hd2;simp only[AI,BC]at this;lia
 show d4 _ _ _ _ (b0 st2 r (.ins "Reader" (rdF W (p+(ch w).length+1))));generalize b0 st2 r (.ins "Reader" (rdF W (p+(ch w).length+1)))=st3 at hr3 K3;have e32:(D.str (AD " "))=.str (tx [32]):=congrArg D.str ∅;have e93:(D.str (AD "]"))=.str (tx [93]):=congrArg D.str ∅;∎;refine⟨by rw[T.fo];nofun,_,ht,?_⟩;(iterate 2 ∎);cases ko with
 |none=>
  rw[if_neg ∅];∎;refine⟨C9 T.toPRd (n:=n+3),?_⟩;have hl3:p+(ch w).length+1+c8.length=W.length:=by
   have:=congrArg Ap hd3;simp only[BC,koT]at this;lia
  rw[e32,e93];exact C5 T.toPRd (ff x [] m) hr3 λst' fa pa n1 n2 hr' hb K=>b8 (q st' fa pa _ (nOf K3 n1 hr3) (nOf K3 n2 hr3) hl3 hd3 hr' hb (K3.trans (K.more ∎)))
 |some k=>
  rw[if_pos (show(AA k).isSome=AC from rfl)];∎;refine⟨by rw[T.ro];rfl,by rw[T.bk];rfl,bq8 T.toPRk k hr3 hw hok hp3 hd3 (λc hc=>by cases hc;exact .inl ∅) (hn k rfl) λst4 hr4 K4=>?_⟩;have hd4:W.drop (p+(ch w).length+1+k.tr.s.length)=32::c8:=by rw[<-CK,hd3];exact FT rfl
  have hl4:p+(ch w).length+1+k.tr.s.length+(c8.length+1)=W.length:=by
   have:=congrArg Ap hd3;simp only[koT,AJ,BC,AI]at this;lia
  ∎;refine⟨r,"Reader",_,rfl,hr4,rfl,by rw[T.mb];rfl,T3 T.toPRd hr4 hw ⋯ (s:=[32]) ∅ (f7 " ") ⟨_,hd4.symm⟩ ?_⟩;have hr5:RdA (b0 st4 r (.ins "Reader" (rdF W (p+(ch w).length+1+k.tr.s.length+1)))) r W (p+(ch w).length+1+k.tr.s.length+1):=b7;have K5:Kp [r] st (b0 st4 r (.ins "Reader" (rdF W (p+(ch w).length+1+k.tr.s.length+1)))):=(K3.trans K4).put ∎;show d4 _ _ _ _ (b0 st4 r (.ins "Reader" (rdF W (p+(ch w).length+1+k.tr.s.length+1))));generalize b0 st4 r (.ins "Reader" (rdF W (p+(ch w).length+1+k.tr.s.length+1)))=st5 at hr5 K5;∎;refine⟨C9 T.toPRd (n:=n+3),?_⟩;rw[e32,e93];exact C5 T.toPRd (ff x [k.d] m) hr5 λst' fa pa n1 n2 hr' hb K=>b8 (q st' fa pa _ (nOf K5 n1 hr5) (nOf K5 n2 hr5) ⋯ (by rw[<-CK,hd4];rfl) hr' hb (K5.trans (K.more ∎)))
def bu5(g:Pg)(hi:∀i,g=.name i->i<10000)(hk:∀k:Kd,(∃t,g=.left k t\/g=.right k t\/g=.way k t\/g=.never k t)->k.tr.n<=1000000):BOk P G (n+6) "begin_program" g.tr:=by
 have frm:∀(w x:String)(m sp:Nat)(ko:Option Kd)(ks:Trs)(op:List Nat),(∀k∈ko,k.tr.n<=1000000)->op=91::(ch w++32::koT ko [])->(∀c∈ch w,c∈ch "abcdefghijklmnopqrstuvwxyz")->i7 (G.tab "FORMS") (AD w)=AA (.tup [.str (AD x),.bl ko.isSome,.int m])->BOk P G (n+6) "begin_program" (.node (ff x (koX ko) m) op sp ks):=by
  intro w x m sp ko ks op hn eo hl ht st r W p c8 Q hr hw hok hp hd q;subst eo;refine d5 T.bp rfl [AA (.ref r),AE] rfl ?_;unfold G6;∎;refine⟨r,"Reader",_,rfl,hr,rfl,by rw[T.sg];rfl,A0 T.toPRd hr hw hp ?_⟩;rw[hd];show d4 _ _ _ [AA (.ref r),AA (.str (AD "["))] _;(iterate 5 ∎);have kt:∀l,koT ko []++l=koT ko l:=λl=>by cases ko<;>simp[koT]
  have hd1:W.drop (p+1)=ch w++32::koT ko (ks.s sp++c8):=by
   rw[<-CK,hd];simp[kt]
  have hl1:=congrArg Ap hd;simp only[BC,AJ,AI]at hl1;refine⟨by rw[T.bf];rfl,br6 T b7 hw hok ⋯ ko hn hd1 hl ht λst' fa pa p' n1 n2 hl' hd' hr' hb K=>b8 (q st' fa pa (D6 hr n1) (D6 hr n2) ?_ hb (Kp.trans (Kp.refl.put ∎) K))⟩;have e:p'=p+(91::(ch w++32::koT ko [])).length:=by
   simp only[AJ,AI]at hl' ⊢;lia
  exact e▸hr'
 cases g with
 |star=>
  intro st r W p c8 Q hr hw hok hp hd hn q;refine d5 T.bp rfl [AA (.ref r),AE] rfl ?_;unfold G6;∎;refine⟨r,"Reader",_,rfl,hr,rfl,by rw[T.sg];rfl,A0 T.toPRd hr hw hp ?_⟩;rw[hd];show d4 _ _ _ [AA (.ref r),AA (.str (AD "."))] _;(iterate 2 ∎);exact b8 (q _ b7 (Kp.refl.put ∎))
 |name i=>
  intro st r W p c8 Q hr hw hok hp hd hn q;refine d5 T.bp rfl [AA (.ref r),AE] rfl ?_;unfold G6;∎;refine⟨r,"Reader",_,rfl,hr,rfl,by rw[T.sg];rfl,A0 T.toPRd hr hw hp ?_⟩;rw[hd];show d4 _ _ _ [AA (.ref r),AA (.str (AD "#"))] _;(iterate 3 ∎);have hl1:=congrArg Ap hd;simp only[BC,AJ,AI]at hl1;refine⟨by rw[T.rn];rfl,b26 T b7 hw hok ⋯ (hi i rfl) (tail:=c8) (by rw[<-CK,hd];rfl) hn λst' hr' K=>b8 (q st' ?_ (Kp.trans (Kp.refl.put ∎) K))⟩;have e:p+1+(dg i).length=p+(35::dg i).length:=by simp only[AI];lia
  exact e▸hr'
 |pair t u=>
  intro st r W p c8 Q hr hw hok hp hd q;refine d5 T.bp rfl [AA (.ref r),AE] rfl ?_;unfold G6;∎;refine⟨r,"Reader",_,rfl,hr,rfl,by rw[T.sg];rfl,A0 T.toPRd hr hw hp ?_⟩;rw[hd];show d4 _ _ _ [AA (.ref r),AA (.str (AD "("))] _;(iterate 4 ∎);exact⟨C9 T.toPRd (n:=n+4),C5 T.toPRd pf b7 λst' fa pa n1 n2 hr' hb K=>b8 (q st' fa pa (D6 hr n1) (D6 hr n2) hr' hb (Kp.trans (Kp.refl.put ∎) (K.more ∎)))⟩
 |first t=>exact frm "fst" "first" 1 32 AE _ _ nofun rfl ∅ (by rw[T.fo];rfl)
 |second t=>exact frm "snd" "second" 1 32 AE _ _ nofun rfl ∅ (by rw[T.fo];rfl)
 |left k t=>exact frm "inl" "left" 1 32 (AA k) _ _ (λj e=>by cases e;exact hk k ⟨t,.inl rfl⟩) rfl ∅ (by rw[T.fo];rfl)
 |right k t=>exact frm "inr" "right" 1 32 (AA k) _ _ (λj e=>by cases e;exact hk k ⟨t,.inr (.inl rfl)⟩) rfl ∅ (by rw[T.fo];rfl)
 |case t u v=>exact frm "case" "case" 3 32 AE _ _ nofun rfl ∅ (by rw[T.fo];rfl)
 |way k t=>exact frm "way" "way" 1 32 (AA k) _ _ (λj e=>by cases e;exact hk k ⟨t,.inr (.inr (.inl rfl))⟩) rfl ∅ (by rw[T.fo];rfl)
 |give t u=>exact frm "give" "give" 2 32 AE _ _ nofun rfl ∅ (by rw[T.fo];rfl)
 |lets t u=>exact frm "let" "let" 2 32 AE _ _ nofun rfl ∅ (by rw[T.fo];rfl)
 |never k t=>exact frm "never" "never" 1 32 (AA k) _ _ (λj e=>by cases e;exact hk k ⟨t,.inr (.inr (.inr rfl))⟩) rfl ∅ (by rw[T.fo];rfl)
end
abbrev i8(z:List Nat):List (List Nat)->List Nat
 |[]=>[]
 |[x]=>x
 |x::y::r=>x++(z++i8 z (y::r))
def ac9(z:List Nat):∀ts:List (List Nat),Ic (tx z) (ts.map tx)=tx (i8 z ts):=by
 intro ts;show Jw (tx z) (ts.map tx)=_;rw[StrLaws.glued_eq_join]
 induction ts with
 |nil=>rfl
 |cons x r ih=>
  cases r with
  |nil=>rfl
  |cons y r=>
   have e:Gy (tx z) (tx x::tx y::r.map tx)=tx x++tx z++Gy (tx z) (tx y::r.map tx):=rfl;have ih':Gy (tx z) (tx y::r.map tx)=tx (i8 z (y::r)):=ih;show Gy (tx z) (tx x::tx y::r.map tx)=_;rw[e,ih',j8,j8,Ba];rfl
theorem al1:∀ts:List (List Nat),i8 [] ts=ts.flatten
 |[]=>rfl
 |[x]=>by simp[i8]
 |x::y::r=>by show x++([]++i8 [] (y::r))=_;rw[al1 (y::r)];rfl
def aa1{z:List Nat}{ts:List (List Nat)}(h:(ts.map Ap).sum+ts.length*z.length<=1000000):Ib (tx z) (ts.map tx)=AC:=by
 unfold Ib;have key:∀(ts:List (List Nat))(a:Nat),(ts.map tx).foldl (λacc s=>acc+s.length+(tx z).length) a=a+((ts.map Ap).sum+ts.length*z.length):=by
  intro ts
  induction ts with
  |nil=>intro a;simp
  |cons x r ih=>
   intro a;rw[AY,Hn,ih,p7,p7,AY,Bs,AI,Jj];lia
 have e:=key ts 0;simp only[List.foldl_toArray];rw[e];unfold Jx;simp only[EK,decide_eq_false_iff_not,not_lt];have:1000000<=sizeLine:=by decide
 lia
structure PWr(P:d7):Prop where
 wr:P "written"=AA Y9
mutual
inductive Pc where
 |s (x:List Nat)
 |n (d:List D) (k:Pcs)
inductive Pcs where
 |nil|cons (t:Pc) (r:Pcs)
end
abbrev Pc.e:Pc->D
 |.s x=>.str (tx x)
 |.n d _=>.tup d
abbrev Pcs.l:Pcs->List Pc
 |.nil=>[]
 |.cons t r=>t::r.l
mutual
noncomputable def Pc.t:Pc->List Nat
 |.s x=>x
 |.n _ k=>k.t
noncomputable def Pcs.t:Pcs->List Nat
 |.nil=>[]
 |.cons t r=>t.t++r.t
end
mutual
noncomputable def Pc.m:Pc->Nat
 |.s _=>1
 |.n _ k=>1+k.m
noncomputable def Pcs.m:Pcs->Nat
 |.nil=>0
 |.cons t r=>t.m+r.m
end
theorem a83:∀k:Pcs,k.t=(k.l.map Pc.t).flatten
 |.nil=>rfl
 |.cons t r=>by show t.t++r.t=_;rw[a83 r];rfl
theorem U7:∀k:Pcs,k.m=(k.l.map Pc.m).sum
 |.nil=>rfl
 |.cons t r=>by show t.m+r.m=_;rw[U7 r];rfl
def az9:∀t:Pc,0<t.m
 |.s _=>Jd
 |.n _ k=>by show 0<1+k.m;lia
mutual
noncomputable def Pc.wf(R:List D->Pcs->Prop):Pc->Prop
 |.s x=>True
 |.n d k=>R d k/\k.wf R
noncomputable def Pcs.wf(R:List D->Pcs->Prop):Pcs->Prop
 |.nil=>True
 |.cons t r=>t.wf R/\r.wf R
end
theorem av6{R:List D->Pcs->Prop}:∀{k:Pcs},k.wf R->∀t∈k.l,t.wf R
 |.cons t r,h,u,hu=>by
  rcases AT.1 hu with rfl|hu
  ·exact h.1
  ·exact av6 h.2 u hu
def Z5(T:PWr P){n:Nat}{F:Str}{R:List D->Pcs->Prop}(hF:(P F).isSome=AC)
  (hR:∀d k,R d k->∀(st:Sto)(Q:DK),(∀a st',st a=AE->st' a=AA (.lst (k.l.map Pc.e))->Kp [] st st'->Q (.ref a) st')->sem P G n F [.tup d] st Q)
  {d:List D} {k:Pcs} (wf:(Pc.n d k).wf R) (hm:(Pc.n d k).m<=100000) (hl:(Pc.n d k).t.length<=1000000) (q:∀st',Kp [] st st'->Q (.str (tx (Pc.n d k).t)) st'):sem P G (n+1) "written" [.tup d,.fn F] st Q:=by
 refine d5 T.wr rfl [AA (.tup d),AA (.fn F),AE,AE,AE] rfl ?_;unfold Y9;∎;intro ta hta;∎;intro ha hha;have nta:ta≠ha:=m9 b7 hha;have hha0:st ha=AE:=by rwa [g6 (BK nta)]at hha
 ∎;refine R8 (λm env st'=>∃(S:List Pc)(ts:List (List Nat))(x4:Option D),m=(S.map Pc.m).sum/\env=[AA (.tup d),AA (.fn F),AA (.ref ta),AA (.ref ha),x4]/\st' ta=AA (.lst (ts.map λx=>.str (tx x)))/\st' ha=AA (.lst (S.reverse.map Pc.e))/\ts.flatten++(S.map Pc.t).flatten=(Pc.n d k).t/\(∀t∈S,t.wf R)/\ts.length+(S.map Pc.m).sum<=(Pc.n d k).m/\Kp [] st st') ?_ (Pc.n d k).m _ _ ⟨[.n d k],[],AE,∎,rfl,d6 b7 nta,b7,∎,λt ht=>by simp at ht;rw[ht];exact wf,∎,kpN (kpN Kp.refl hta) hha0⟩;rintro m env st1 WW ⟨S,ts,x4,rfl,rfl,h1,h2,ht,hw,hb,K⟩ ih;unfold wpT;rfl';rw[v2 (.inl h2)];rfl';cases S with
 |nil=>
  rw[if_neg ∎];∎;have e0:tx []=AD "":=by decide
  simp only[Be,List.flatten_nil,BP]at ht;have hlen:(ts.map Ap).sum<=1000000:=by rw[<-List.length_flatten,ht];exact hl
  refine⟨_,rfl,ta,ts.map tx,rfl,.inl (by rw[h1,Dw];rfl),by rw[<-e0];exact aa1 (by simpa using hlen),b8 ?_⟩;rw[<-e0,ac9,al1,ht];exact q st1 K
 |cons t S=>
  rw[if_pos ∎];have h2':st1 ha=AA (.lst (S.reverse.map Pc.e++[t.e])):=by rw[h2,CO,BI];rfl
  ∎;rw[a55 h2'];∎;cases t with
  |s x=>
   refine .inl ⟨"str",rfl,_,rfl,?_⟩;rw[if_pos ∅];∎;have h1':b0 st1 ha (.lst (S.reverse.map Pc.e)) ta=AA (.lst (ts.map λx=>.str (tx x))):=d6 h1 nta;rw[v9 (.inl h1'),L5 h1'];have hm':(Pc.n d k).m<=100000:=hm;simp only[AY,Bs,Pc.m,Ci,Pc.t]at hb ht ih hm';refine⟨trivial,M6 (by rw[Aj];lia),?_⟩;rfl';refine ih ((S.map Pc.m).sum) _ _ ⋯ ⟨S,ts++[x],_,rfl,rfl,by rw[b7,BI];rfl,d6 b7 (BK nta),by rw[<-ht];simp,λt h=>hw t (.tail _ h),by rw[AJ,DM];lia,kpN (kpN K hha0) hta⟩
  |n d1 k1=>
   refine .inl ⟨"tuple",rfl,_,rfl,?_⟩;rw[if_neg ∅];∎;have h2'':b0 st1 ha (.lst (S.reverse.map Pc.e)) ha=AA (.lst (S.reverse.map Pc.e)):=b7;have hwn:=hw _ (.head _);simp only[AY,Bs,Pc.m,Ci,Pc.t]at hb ht ih;have hkl:k1.l.length<=k1.m:=by
    rw[U7];generalize k1.l=l
    induction l with
    |nil=>simp
    |cons a l il=>have:=az9 a;simp only[AY,Bs,AI];lia
   have hSl:S.length<=(S.map Pc.m).sum:=by
    generalize S=l
    induction l with
    |nil=>simp
    |cons a l il=>have:=az9 a;simp only[AY,Bs,AI];lia
   have hm':(Pc.n d k).m<=100000:=hm;simp only[Pc.m]at hm';refine⟨hF,hR d1 k1 hwn.1 _ _ λa st2 na h3 K2=>⟨_,.inl h3,by rw[Aj];lia,λb hb2=>?_⟩⟩;have hah:ha≠b:=λz=>by rw[<-z,K2 _ _ ∎ h2'']at hb2;cases hb2
   have hab:ta≠b:=λz=>by rw[<-z,K2 _ _ ∎ (d6 h1 nta)]at hb2;cases hb2
   dsimp only;rw[P4 (d6 (K2 _ _ ∎ h2'') hah) b7];refine⟨t3 (by simp only[Aj,ER];lia),?_⟩;rfl';have Kb:Kp [] st (b0 st2 b (.lst (k1.l.map Pc.e).reverse)):=((kpN K hha0).trans K2).new hb2;refine ih (((k1.l++S).map Pc.m).sum) _ _ (by rw[BI,IC,<-U7];lia) ⟨k1.l++S,ts,_,rfl,rfl,?_,?_,?_,λt h=>?_,?_,kpN Kb hha0⟩
   ·exact d6 (d6 (K2 _ _ ∎ (d6 h1 nta)) hab) nta
   ·rw[b7,List.reverse_append,BI,List.map_reverse (l:=k1.l)]
   ·rw[BI,List.flatten_append,<-a83];exact ht
   ·rcases Ax.1 h with h|h
    ·exact av6 hwn.2 t h
    ·exact hw t (.tail _ h)
   ·rw[BI,IC,<-U7];lia
structure PWk(P:d7)(G:Gs):Prop extends PWr P,PRk P G where
 pk:P "pieces_of_kind"=AA X4
 sk:P "show_kind"=AA Y5
 lk:P "_law_kind_shown"=AA Q5
 ks:G.tab "KIND_SIGNS"=([("either",.str "+"),("both",.str "*"),("way",.str ">")]:List (Str×D))
abbrev Kd.dl:Kd->List D
 |.non=>[.str "none"]
 |.one=>[.str "one"]
 |.eith a b=>[.str "either",a.d,b.d]
 |.both a b=>[.str "both",a.d,b.d]
 |.way a b=>[.str "way",a.d,b.d]
def ae0(k:Kd):k.d=.tup k.dl:=by cases k<;>rfl
abbrev Kd.pcs:Kd->Pcs
 |.non=>.cons (.s [48]) .nil
 |.one=>.cons (.s [49]) .nil
 |.eith a b=>.cons (.s [40]) (.cons (.n a.dl a.pcs) (.cons (.s [43]) (.cons (.n b.dl b.pcs) (.cons (.s [41]) .nil))))
 |.both a b=>.cons (.s [40]) (.cons (.n a.dl a.pcs) (.cons (.s [42]) (.cons (.n b.dl b.pcs) (.cons (.s [41]) .nil))))
 |.way a b=>.cons (.s [40]) (.cons (.n a.dl a.pcs) (.cons (.s [62]) (.cons (.n b.dl b.pcs) (.cons (.s [41]) .nil))))
def cl8:∀k:Kd,k.pcs.t=k.tr.s:=by
 intro k
 induction k with
 |non|one=>rfl
 |eith a b ia ib|both a b ia ib|way a b ia ib=>simp only[Kd.pcs,Pcs.t,Pc.t,ia,ib,Kd.tr,Tr.s,two,Trs.s,Trs.ft,kf];simp
def A4:∀k:Kd,k.tr.s.length+3<=4*2^k.nest:=by
 intro k
 induction k with
 |non|one=>decide
 |eith a b ia ib|both a b ia ib|way a b ia ib=>
  have h1:2^a.nest<=2^max a.nest b.nest:=AW ∅ (DX _ _);have h2:2^b.nest<=2^max a.nest b.nest:=AW ∅ (Cj _ _);simp only[Kd.tr,Tr.s,two,Trs.s,Trs.ft,kf,AJ,AI,AO,Kd.nest,Fn];lia
def bh0:∀k:Kd,k.tr.n+1<=2*2^k.nest:=by
 intro k
 induction k with
 |non|one=>decide
 |eith a b ia ib|both a b ia ib|way a b ia ib=>
  have h1:2^a.nest<=2^max a.nest b.nest:=AW ∅ (DX _ _);have h2:2^b.nest<=2^max a.nest b.nest:=AW ∅ (Cj _ _);simp only[Kd.tr,Tr.n,two,Trs.n,Kd.nest,Fn];lia
def cm9:∀k:Kd,k.pcs.m+5<=6*2^k.nest:=by
 intro k
 induction k with
 |non|one=>decide
 |eith a b ia ib|both a b ia ib|way a b ia ib=>
  have h1:2^a.nest<=2^max a.nest b.nest:=AW ∅ (DX _ _);have h2:2^b.nest<=2^max a.nest b.nest:=AW ∅ (Cj _ _);simp only[Kd.pcs,Pcs.m,Pc.m,Kd.nest,Fn];lia
def J9:∀(k:Kd),∀c∈k.tr.s,c<1114112:=by
 intro k
 induction k with
 |non|one=>intro c hc;simp[Kd.tr,Tr.s]at hc;lia
 |eith a b ia ib|both a b ia ib|way a b ia ib=>
  intro c hc;simp only[Kd.tr,Tr.s,two,Trs.s,Trs.ft,kf,Ax,AT,Ac,or_false]at hc
  rcases hc with rfl|(h|rfl|h)|rfl
  ·decide
  ·exact ia c h
  ·decide
  ·exact ib c h
  ·decide
def k9{R:Str->Str->Prop}{a b:List Nat}(h:a.length+b.length<=1000000)(k:R (tx a) (tx b)):∃i j,D.str (tx a)=.str i/\D.str (tx b)=.str j/\i.length+j.length<=sizeLine/\R i j:=⟨_,_,rfl,rfl,by rw[p7,p7];exact Al h ∅,k⟩
def t40:tx [40]=AD "(":=by decide
def t41:tx [41]=AD ")":=by decide
def t42:tx [42]=AD "*":=by decide
def t43:tx [43]=AD "+":=by decide
def t48:tx [48]=AD "0":=by decide
def t49:tx [49]=AD "1":=by decide
def t62:tx [62]=AD ">":=by decide
section
variable (T:PWk P G) {n:Nat} 
include T
def bu0(k:Kd)(q:∀a st',st a=AE->st' a=AA (.lst (k.pcs.l.map Pc.e))->Kp [] st st'->Q (.ref a) st'):sem P G (n+1) "pieces_of_kind" [k.d] st Q:=by
 refine d5 T.pk rfl [AA k.d] rfl ?_;unfold X4;cases k with
 |non=>
  unfold Kd.d;(iterate 2 ∎);exact λa ha=>b8 (q a _ ha (by rw[b7];simp only[Kd.pcs,Pcs.l,AY,Be,Pc.e,t40,t41,t42,t43,t48,t49,t62]) (Kp.refl.new ha))
 |one=>
  unfold Kd.d;(iterate 3 ∎);exact λa ha=>b8 (q a _ ha (by rw[b7];simp only[Kd.pcs,Pcs.l,AY,Be,Pc.e,t40,t41,t42,t43,t48,t49,t62]) (Kp.refl.new ha))
 |eith a b|both a b|way a b=>
  unfold Kd.d;(iterate 3 ∎);refine⟨by rw[T.ks];nofun,_,by rw[T.ks];rfl,?_⟩;rfl';exact λp hp=>b8 (q p _ hp (by rw[b7];simp only[Kd.pcs,Pcs.l,AY,Be,Pc.e,t40,t41,t42,t43,t48,t49,t62,<-ae0]) (Kp.refl.new hp))
def ap4(k:Kd)(hk:k.nest<=9)(q:∀st',Kp [] st st'->Q (.str (tx k.tr.s)) st'):sem P G (n+3) "show_kind" [k.d] st Q:=by
 refine d5 T.sk rfl [AA k.d] rfl ?_;unfold Y5;have hw:∀k:Kd,(Pc.n k.dl k.pcs).wf λd ps=>∃k:Kd,d=k.dl/\ps=k.pcs:=by
  intro k
  induction k with
  |non=>exact⟨⟨.non,rfl,rfl⟩,trivial,trivial⟩
  |one=>exact⟨⟨.one,rfl,rfl⟩,trivial,trivial⟩
  |eith a b ia ib=>exact⟨⟨.eith a b,rfl,rfl⟩,trivial,ia,trivial,ib,trivial,trivial⟩
  |both a b ia ib=>exact⟨⟨.both a b,rfl,rfl⟩,trivial,ia,trivial,ib,trivial,trivial⟩
  |way a b ia ib=>exact⟨⟨.way a b,rfl,rfl⟩,trivial,ia,trivial,ib,trivial,trivial⟩
 have p9:2^k.nest<=2^9:=AW ∅ hk;have m1:=cm9 k;have l1:=A4 k;have et:(Pc.n k.dl k.pcs).t=k.tr.s:=cl8 k;∎;rw[ae0 k];refine⟨by rw[T.wr];rfl,by rw[T.pk];rfl,Z5 T.toPWr (by rw[T.pk];rfl) (λd ps⟨k,e1,e2⟩st Q q=>by rw[e1,<-ae0];exact bu0 T k (e2▸q)) (hw k) (by show 1+k.pcs.m<=_;lia) (by rw[et];lia) λst' K=>b8 ?_⟩;rw[et];exact q st' K
def br1(k:Kd)(hk:k.nest<=9)(q:∀st',Kp [] st st'->Q k.d st'):sem P G (n+6) "read_kind" [.str (tx k.tr.s)] st Q:=by
 refine d5 T.rk rfl [AA (.str (tx k.tr.s))] rfl ?_;unfold Y6;have p9:2^k.nest<=2^9:=AW ∅ hk;have n1:=bh0 k;have l1:=A4 k;∎;refine⟨by rw[T.rw'];rfl,by rw[T.bk];rfl,aa0 T.toPRd (R:=λt=>∃k:Kd,t=k.tr) (by rw[T.bk];rfl) (λt⟨k,e⟩=>e▸an8 T.toPRk k) rfl ⋯ (J9 k) (B9 (λk=>⟨k,rfl⟩) k) ⋯ λst' K=>b8 ?_⟩;rw[D5];exact q st' K
def N1:∀(k:Kd){n:Nat}{st:Sto}{Q:DK},k.nest<=9->k.nest+1<=n->Q (.str (tx k.tr.s)) st->sem P G n "_law_kind_shown" [k.d] st Q:=by
 intro k
 induction k with
 |non|one=>
  intro n st Q h9 hn q;obtain⟨n,rfl⟩:∃m,n=m+1:=⟨n-1,⋯⟩;refine d5 T.lk rfl [AA _,AE] rfl ?_;unfold Q5 Kd.d;(iterate 2 ∎);exact⟨_,rfl,b8 q⟩
 |eith a b ia ib|both a b ia ib|way a b ia ib=>
  intro n st Q h9 hn q;simp only[Kd.nest]at hn h9;obtain⟨n,rfl⟩:∃m,n=m+1:=⟨n-1,⋯⟩;refine d5 T.lk rfl [AA _,AE] rfl ?_;unfold Q5 Kd.d;have la:=A4 a;have lb:=A4 b;have pa:2^a.nest<=2^9:=AW ∅ ⋯;have pb:2^b.nest<=2^9:=AW ∅ ⋯;(iterate 2 ∎);refine⟨_,rfl,?_⟩;∎;refine⟨by rw[T.lk];rfl,ia ⋯ ⋯ ?_⟩;rw[<-t40];refine k9 ?_ ?_
  ·(try simp only[AJ,AI,AO]);lia
  rw[j8]
  try rw[<-t42]
  try rw[<-t43]
  try rw[<-t62]
  refine k9 ?_ ?_
  ·(try simp only[AJ,AI,AO]);lia
  rw[j8];refine⟨by rw[T.lk];rfl,ib ⋯ ⋯ ?_⟩;refine k9 ?_ ?_
  ·(try simp only[AJ,AI,AO]);lia
  rw[j8];rw[<-t41];refine k9 ?_ (b8 ?_)
  ·(try simp only[AJ,AI,AO]);lia
  rw[j8];refine cast (congrArg (λl=>Q (.str (tx l)) st) ?_) q;simp[Kd.tr,Tr.s,two,Trs.s,Trs.ft,kf]
end
structure PWp(P:d7)(G:Gs):Prop extends PWk P G,PRp P G where
 pp:P "pieces_of_program"=AA M8
 sp:P "show_program"=AA X6
 ls:P "_law_shown"=AA D9
 li:P "_law_inner"=AA Q8
 pw:G.tab "PROGRAM_WORDS"=([("first",.str "fst"),("second",.str "snd"),("left",.str "inl"),("right",.str "inr"),("case",.str "case"),("way",.str "way"),("give",.str "give"),("let",.str "let"),("never",.str "never")]:List (Str×D))
abbrev Pg.dl:Pg->List D
 |.name n=>[.str "name",.int n]
 |.star=>[.str "star"]
 |.pair t u=>[.str "pair",t.d,u.d]
 |.first t=>[.str "first",t.d]
 |.second t=>[.str "second",t.d]
 |.left b t=>[.str "left",b.d,t.d]
 |.right a t=>[.str "right",a.d,t.d]
 |.case t u v=>[.str "case",t.d,u.d,v.d]
 |.way a t=>[.str "way",a.d,t.d]
 |.give t u=>[.str "give",t.d,u.d]
 |.lets t u=>[.str "let",t.d,u.d]
 |.never k t=>[.str "never",k.d,t.d]
def F5(p:Pg):p.d=.tup p.dl:=by cases p<;>rfl
abbrev fp(w:String):List Pc->Pcs
 |[]=>.cons (.s (ch ("["++w))) (.cons (.s [93]) .nil)
 |[a]=>.cons (.s (ch ("["++w))) (.cons (.s [32]) (.cons a (.cons (.s [93]) .nil)))
 |[a,b]=>.cons (.s (ch ("["++w))) (.cons (.s [32]) (.cons a (.cons (.s [32]) (.cons b (.cons (.s [93]) .nil)))))
 |a::b::c::_=>.cons (.s (ch ("["++w))) (.cons (.s [32]) (.cons a (.cons (.s [32]) (.cons b (.cons (.s [32]) (.cons c (.cons (.s [93]) .nil)))))))
abbrev Pg.pcs:Pg->Pcs
 |.name i=>.cons (.s (35::dg i)) .nil
 |.star=>.cons (.s [46]) .nil
 |.pair t u=>.cons (.s [40]) (.cons (.n t.dl t.pcs) (.cons (.s [44]) (.cons (.n u.dl u.pcs) (.cons (.s [41]) .nil))))
 |.first t=>fp "fst" [.n t.dl t.pcs]
 |.second t=>fp "snd" [.n t.dl t.pcs]
 |.left k t=>fp "inl" [.s k.tr.s,.n t.dl t.pcs]
 |.right k t=>fp "inr" [.s k.tr.s,.n t.dl t.pcs]
 |.case t u v=>fp "case" [.n t.dl t.pcs,.n u.dl u.pcs,.n v.dl v.pcs]
 |.way k t=>fp "way" [.s k.tr.s,.n t.dl t.pcs]
 |.give t u=>fp "give" [.n t.dl t.pcs,.n u.dl u.pcs]
 |.lets t u=>fp "let" [.n t.dl t.pcs,.n u.dl u.pcs]
 |.never k t=>fp "never" [.s k.tr.s,.n t.dl t.pcs]
def A8:∀w∈["fst","snd","inl","inr","case","way","give","let","never"],ch ("["++w++" ")=ch ("["++w)++[32]:=by decide
def cn1:∀p:Pg,p.pcs.t=p.tr.s:=by
 intro p
 induction p with
 |name|star=>simp[Pg.pcs,Pcs.t,Pc.t,Pg.tr,Tr.s]
 |pair t u it iu=>simp[Pg.pcs,Pcs.t,Pc.t,Pg.tr,Tr.s,two,Trs.s,Trs.ft,pf,it,iu]
 |first t it=>have e:=A8 "fst" ∅;simp[Pg.pcs,fp,Pcs.t,Pc.t,Pg.tr,Tr.s,i5,Trs.s,Trs.ft,ff,it]at e ⊢;rw[e];simp
 |second t it=>have e:=A8 "snd" ∅;simp[Pg.pcs,fp,Pcs.t,Pc.t,Pg.tr,Tr.s,i5,Trs.s,Trs.ft,ff,it]at e ⊢;rw[e];simp
 |left k t it=>have e:=A8 "inl" ∅;simp[Pg.pcs,fp,Pcs.t,Pc.t,Pg.tr,Tr.s,i5,Trs.s,Trs.ft,ff,it]at e ⊢;rw[e];simp
 |right k t it=>have e:=A8 "inr" ∅;simp[Pg.pcs,fp,Pcs.t,Pc.t,Pg.tr,Tr.s,i5,Trs.s,Trs.ft,ff,it]at e ⊢;rw[e];simp
 |way k t it=>have e:=A8 "way" ∅;simp[Pg.pcs,fp,Pcs.t,Pc.t,Pg.tr,Tr.s,i5,Trs.s,Trs.ft,ff,it]at e ⊢;rw[e];simp
 |never k t it=>have e:=A8 "never" ∅;simp[Pg.pcs,fp,Pcs.t,Pc.t,Pg.tr,Tr.s,i5,Trs.s,Trs.ft,ff,it]at e ⊢;rw[e];simp
 |case t u v it iu iv=>have e:=A8 "case" ∅;simp[Pg.pcs,fp,Pcs.t,Pc.t,Pg.tr,Tr.s,two,Trs.s,Trs.ft,ff,it,iu,iv]at e ⊢;rw[e];simp
 |give t u it iu=>have e:=A8 "give" ∅;simp[Pg.pcs,fp,Pcs.t,Pc.t,Pg.tr,Tr.s,two,Trs.s,Trs.ft,ff,it,iu]at e ⊢;rw[e];simp
 |lets t u it iu=>have e:=A8 "let" ∅;simp[Pg.pcs,fp,Pcs.t,Pc.t,Pg.tr,Tr.s,two,Trs.s,Trs.ft,ff,it,iu]at e ⊢;rw[e];simp
def t35:tx [35]=AD "#":=by decide
def t44:tx [44]=AD ",":=by decide
def t46:tx [46]=AD ".":=by decide
def t32:tx [32]=AD " ":=by decide
def t93:tx [93]=AD "]":=by decide
def D2{p:AM}(h:b0 st p o a=AE):st a=AE:=by
 by_cases e:a=p
 ·subst e;rw[b7]at h;cases h
 ·rwa [g6 e]at h
theorem fl2:∀l:List D,(l.flatMap λd=>[D.str (tx [32]),d]).length=2*l.length
 |[]=>rfl
 |d::l=>by rw[List.flatMap_cons,AJ,fl2 l,AI];simp;lia
def chs:∀w∈["fst","snd","inl","inr","case","way","give","let","never"],AD "["++AD w=tx (ch ("["++w)):=by decide
abbrev Ss.tl':Ss->Ss
 |.nil=>.nil
 |.cons _ r=>r
abbrev ptl:Ss:=M8.body.tl'.tl'.tl'.tl'.tl'.tl'
section
variable (T:PWp P G) {n:Nat} 
include T
omit T in
theorem ao0{pa qa:AM}{g d0:D}{ds:List D}{x3:Option D}(h1:st pa=AA (.lst [d0]))(h2:st qa=AA (.lst ds))(npq:pa≠qa)(hl:ds.length<=3)(q:∀a st',st a=AE->st' a=AA (.lst (d0::(ds.flatMap λd=>[.str (tx [32]),d])++[.str (tx [93])]))->Kp [pa] st st'->Q (.ref a) st'):d4 (Zg P G n) ptl (f6 Q) [AA g,AA (.ref pa),AA (.ref qa),x3] st:=by
 unfold ptl M8 Ss.tl';simp only[Ss.tl'];∎;refine⟨ds,.inl h2,y6 (λl env st'=>∃(dn:List D)(x3:Option D),ds=dn++l/\env=[AA g,AA (.ref pa),AA (.ref qa),x3]/\st' pa=AA (.lst (d0::dn.flatMap λd=>[.str (tx [32]),d]))/\st' qa=AA (.lst ds)/\Kp [pa] st st') ?_ ?_ _ _ _ ⟨[],_,rfl,rfl,h1,h2,Kp.refl⟩⟩
 ·rintro env st' ⟨dn,x3,e,rfl,h1',h2',K⟩;refine⟨.inl h2',?_⟩;rw[BP]at e;subst e;∎;intro p hp;rw[<-t93];have hfl:=fl2 ds;exact⟨_,_,d9 h1' hp,b7,t3 (by simp only[AI,AO];lia),λa ha=>b8 (q a _ (nOf K (D2 ha) h1') (by rw[b7]) ((K.new hp).new ha))⟩
 ·rintro d l env st' ih ⟨dn,x3,e,rfl,h1',h2',K⟩;refine⟨.inl h2',?_⟩;rfl';∎;rw[v9 (.inl h1'),<-t32];refine⟨trivial,λp hp=>?_⟩;have hlen:=congrArg Ap e;simp only[AJ,AI]at hlen;have hfl:=fl2 dn;rw[P4 (d9 h1' hp) b7];refine⟨t3 (by simp only[AI,AO];lia),ih _ _ ⟨dn++[d],_,by rw[e];simp,rfl,by rw[b7];simp,d6 (d9 h2' hp) (BK npq),(K.new hp).put ∎⟩⟩
def bt0(g:Pg)(hk:g.kn 6)(hi:∀i,g=.name i->i<10000)(q:∀a st',st a=AE->st' a=AA (.lst (g.pcs.l.map Pc.e))->Kp [] st st'->Q (.ref a) st'):sem P G (n+4) "pieces_of_program" [g.d] st Q:=by
 refine d5 T.pp rfl [AA g.d,AE,AE,AE] rfl ?_;unfold M8;cases g with
 |name i=>
  have hi:=hi i rfl;unfold Pg.d;(iterate 2 ∎);have hlog:((i:Int).natAbs).log2<1920:=by
   show i.log2<1920
   by_cases h0:i=0
   ·subst h0;decide
   ·exact(log2_lt h0).2 (Ah hi (Al (by decide:10000<=2^14) (AW ∅ ∅)))
  rw[<-U5,<-t35];refine⟨hlog,k9 ?_ ?_⟩
  ·have:=O4 hi;simp only[AI,AO];lia
  rw[j8];exact λa ha=>b8 (q a _ ha (by rw[b7];rfl) (Kp.refl.new ha))
 |star=>
  unfold Pg.d;(iterate 3 ∎);rw[<-t46];exact λa ha=>b8 (q a _ ha (by rw[b7];rfl) (Kp.refl.new ha))
 |pair t u=>
  unfold Pg.d;(iterate 4 ∎);rw[<-t40,<-t41,<-t44];exact λa ha=>b8 (q a _ ha (by rw[b7];simp only[Pg.pcs,Pcs.l,AY,Be,Pc.e,<-F5]) (Kp.refl.new ha))
 |first t|second t|case t u v|give t u|lets t u=>
  unfold Pg.d;(iterate 4 ∎);refine⟨by rw[T.pw];nofun,_,by rw[T.pw];rfl,_,_,rfl,rfl,∅,λpa hpa=>?_⟩;∎;refine⟨∅,λqa hqa=>?_⟩;∎;simp only[g9,j5,f7,Aa,true_and,Br,DR,g5,i6,BE,decide_true,decide_false,Bool.or_true,BF,Bool.true_or,BG,f9,if_true,Ae,if_false];refine⟨Ar _,?_⟩;have npq:pa≠qa:=m9 b7 hqa;refine ao0 (d6 b7 npq) b7 npq (BR rfl) λa st' ha e K=>q a st' (D2 (D2 ha)) (e.trans ?_) λb o nb eb=>K b o (by simp;exact m9 eb hpa) (d6 (d9 eb hpa) (m9 eb (D2 hqa)));rw[chs _ ∅];simp only[Pg.pcs,fp,Pcs.l,AY,Be,Pc.e,<-F5];rfl
 |left k t|right k t|way k t|never k t=>
  unfold Pg.d;have hk6:k.nest<=6:=hk.1;(iterate 4 ∎);refine⟨by rw[T.pw];nofun,_,by rw[T.pw];rfl,_,_,rfl,rfl,∅,λpa hpa=>?_⟩;∎;refine⟨∅,λqa hqa=>?_⟩;have npq:pa≠qa:=m9 b7 hqa;∎;simp only[g9,j5,f7,Aa,true_and,Br,DR,g5,i6,BE,decide_true,decide_false,Bool.or_true,BF,Bool.true_or,BG,f9,if_true,Ae,if_false];refine⟨Ar _,?_⟩;∎;refine⟨by rw[T.sk];rfl,ap4 T.toPWk k ⋯ λst2 K2=>⟨qa,0,0,_,rfl,rfl,K2 _ _ ∎ b7,rfl,?_⟩⟩;refine ao0 (d6 (K2 _ _ ∎ (d6 b7 npq)) npq) b7 npq (BR rfl) λa st' ha e K=>q a st' ?_ (e.trans ?_) λb o nb eb=>K b o (by simp;exact m9 eb hpa) (d6 (K2 _ _ ∎ (d6 (d9 eb hpa) (m9 eb (D2 hqa)))) (m9 eb (D2 hqa)))
  ·have h2:=D2 ha;cases hs:st a with
   |none=>rfl
   |some o=>rw[K2 a o ∎ (d6 (d9 hs hpa) (m9 hs (D2 hqa)))]at h2;cases h2
  ·rw[chs _ ∅];simp only[Pg.pcs,fp,Pcs.l,AY,Be,Pc.e,<-F5];rfl
omit T in
theorem ck9:∀p:Pg,p.pcs.m+1<=9*p.parts:=by
 intro p
 induction p with
 |name|star=>simp[Pg.pcs,Pcs.m,Pc.m,Pg.parts]
 |pair t u it iu=>simp only[Pg.pcs,Pcs.m,Pc.m,Pg.parts];lia
 |case t u v it iu iv=>simp only[Pg.pcs,fp,Pcs.m,Pc.m,Pg.parts];lia
 |first t it|second t it|left k t it|right k t it|way k t it|never k t it=>simp only[Pg.pcs,fp,Pcs.m,Pc.m,Pg.parts];lia
 |give t u it iu|lets t u it iu=>simp only[Pg.pcs,fp,Pcs.m,Pc.m,Pg.parts];lia
abbrev Pg.nm(p:Pg):Prop:=match p with
 |.name i=>i<10000
 |.star=>True
 |.pair t u=>t.nm/\u.nm|.first t=>t.nm|.second t=>t.nm|.left _ t=>t.nm|.right _ t=>t.nm
 |.case t u v=>t.nm/\u.nm/\v.nm|.way _ t=>t.nm|.give t u=>t.nm/\u.nm|.lets t u=>t.nm/\u.nm|.never _ t=>t.nm
omit T in
theorem U0:∀p:Pg,p.kn 6->p.nm->p.tr.s.length<=300*p.parts:=by
 have hk:∀k:Kd,k.nest<=6->k.tr.s.length<=253:=λk h=>by
  have:=A4 k;have p6:2^k.nest<=2^6:=AW ∅ h;lia
 intro p
 induction p with
 |name i=>intro _ h;have:=O4 h;simp only[Pg.tr,Tr.s,AI,Pg.parts];lia
 |star=>intro _ _;decide
 |pair t u it iu=>intro a b;have:=it a.1 b.1;have:=iu a.2 b.2;simp only[Pg.tr,Tr.s,two,Trs.s,Trs.ft,pf,AJ,AI,AO,Pg.parts];lia
 |case t u v it iu iv=>intro a b;have:=it a.1 b.1;have:=iu a.2.1 b.2.1;have:=iv a.2.2 b.2.2;have e:(ch "[case ").length=6:=∅;simp only[Pg.tr,Tr.s,two,Trs.s,Trs.ft,ff,AJ,AI,AO,Pg.parts,e];lia
 |first t it=>intro a b;have:=it a b;have e:(ch "[fst ").length=5:=∅;simp only[Pg.tr,Tr.s,i5,Trs.s,Trs.ft,ff,AJ,AI,AO,Pg.parts,e];lia
 |second t it=>intro a b;have:=it a b;have e:(ch "[snd ").length=5:=∅;simp only[Pg.tr,Tr.s,i5,Trs.s,Trs.ft,ff,AJ,AI,AO,Pg.parts,e];lia
 |left k t it=>intro a b;have:=it a.2 b;have:=hk k a.1;have e:(ch "[inl ").length=5:=∅;simp only[Pg.tr,Tr.s,i5,Trs.s,Trs.ft,ff,AJ,AI,AO,Pg.parts,e];lia
 |right k t it=>intro a b;have:=it a.2 b;have:=hk k a.1;have e:(ch "[inr ").length=5:=∅;simp only[Pg.tr,Tr.s,i5,Trs.s,Trs.ft,ff,AJ,AI,AO,Pg.parts,e];lia
 |way k t it=>intro a b;have:=it a.2 b;have:=hk k a.1;have e:(ch "[way ").length=5:=∅;simp only[Pg.tr,Tr.s,i5,Trs.s,Trs.ft,ff,AJ,AI,AO,Pg.parts,e];lia
 |never k t it=>intro a b;have:=it a.2 b;have:=hk k a.1;have e:(ch "[never ").length=7:=∅;simp only[Pg.tr,Tr.s,i5,Trs.s,Trs.ft,ff,AJ,AI,AO,Pg.parts,e];lia
 |give t u it iu=>intro a b;have:=it a.1 b.1;have:=iu a.2 b.2;have e:(ch "[give ").length=6:=∅;simp only[Pg.tr,Tr.s,two,Trs.s,Trs.ft,ff,AJ,AI,AO,Pg.parts,e];lia
 |lets t u it iu=>intro a b;have:=it a.1 b.1;have:=iu a.2 b.2;have e:(ch "[let ").length=5:=∅;simp only[Pg.tr,Tr.s,two,Trs.s,Trs.ft,ff,AJ,AI,AO,Pg.parts,e];lia
omit T in
theorem cm4:∀p:Pg,p.tr.n=p.parts:=by
 intro p
 induction p with
 |name|star=>rfl
 |pair t u it iu|give t u it iu|lets t u it iu=>simp only[Pg.tr,Tr.n,two,Trs.n,Pg.parts,it,iu];lia
 |case t u v it iu iv=>simp only[Pg.tr,Tr.n,two,Trs.n,Pg.parts,it,iu,iv];lia
 |first t it|second t it|left k t it|right k t it|way k t it|never k t it=>simp only[Pg.tr,Tr.n,i5,Trs.n,Pg.parts,it];lia
omit T in
theorem az3:∀p:Pg,∀c∈p.tr.s,c<1114112:=by
 have hc:∀w∈["[fst ","[snd ","[inl ","[inr ","[case ","[way ","[give ","[let ","[never "],∀c∈ch w,c<1114112:=by decide
 intro p
 induction p with
 |name i=>
  intro c h;simp only[Pg.tr,Tr.s,AT]at h
  rcases h with rfl|h
  ·exact∅
  ·have:=ad3 h;lia
 |star=>intro c h;simp[Pg.tr,Tr.s]at h;lia
 |pair t u it iu=>intro c h;simp only[Pg.tr,Tr.s,two,Trs.s,Trs.ft,pf,Ax,AT,Ac,or_false]at h;rcases h with rfl|(h|rfl|h)|rfl<;>first|decide|exact it c h|exact iu c h
 |first t it=>
  intro c h;simp only[Pg.tr,Tr.s,i5,Trs.s,Trs.ft,ff,Ax,AT,Ac,or_false]at h
  rcases h with h|h|rfl
  ·exact hc "[fst " ∅ c h
  ·exact it c h
  ·exact∅
 |second t it=>
  intro c h;simp only[Pg.tr,Tr.s,i5,Trs.s,Trs.ft,ff,Ax,AT,Ac,or_false]at h
  rcases h with h|h|rfl
  ·exact hc "[snd " ∅ c h
  ·exact it c h
  ·exact∅
 |left k t it=>
  intro c h;simp only[Pg.tr,Tr.s,i5,Trs.s,Trs.ft,ff,Ax,AT,Ac,or_false]at h
  rcases h with(h|h|rfl)|h|rfl
  ·exact hc "[inl " ∅ c h
  ·exact J9 k c h
  ·exact∅
  ·exact it c h
  ·exact∅
 |right k t it=>
  intro c h;simp only[Pg.tr,Tr.s,i5,Trs.s,Trs.ft,ff,Ax,AT,Ac,or_false]at h
  rcases h with(h|h|rfl)|h|rfl
  ·exact hc "[inr " ∅ c h
  ·exact J9 k c h
  ·exact∅
  ·exact it c h
  ·exact∅
 |way k t it=>
  intro c h;simp only[Pg.tr,Tr.s,i5,Trs.s,Trs.ft,ff,Ax,AT,Ac,or_false]at h
  rcases h with(h|h|rfl)|h|rfl
  ·exact hc "[way " ∅ c h
  ·exact J9 k c h
  ·exact∅
  ·exact it c h
  ·exact∅
 |never k t it=>
  intro c h;simp only[Pg.tr,Tr.s,i5,Trs.s,Trs.ft,ff,Ax,AT,Ac,or_false]at h
  rcases h with(h|h|rfl)|h|rfl
  ·exact hc "[never " ∅ c h
  ·exact J9 k c h
  ·exact∅
  ·exact it c h
  ·exact∅
 |give t u it iu=>
  intro c h;simp only[Pg.tr,Tr.s,two,Trs.s,Trs.ft,ff,Ax,AT,Ac,or_false]at h
  rcases h with h|(h|rfl|h)|rfl
  ·exact hc "[give " ∅ c h
  ·exact it c h
  ·exact∅
  ·exact iu c h
  ·exact∅
 |lets t u it iu=>
  intro c h;simp only[Pg.tr,Tr.s,two,Trs.s,Trs.ft,ff,Ax,AT,Ac,or_false]at h
  rcases h with h|(h|rfl|h)|rfl
  ·exact hc "[let " ∅ c h
  ·exact it c h
  ·exact∅
  ·exact iu c h
  ·exact∅
 |case t u v it iu iv=>
  intro c h;simp only[Pg.tr,Tr.s,two,Trs.s,Trs.ft,ff,Ax,AT,Ac,or_false]at h
  rcases h with h|(h|rfl|h|rfl|h)|rfl
  ·exact hc "[case " ∅ c h
  ·exact it c h
  ·exact∅
  ·exact iu c h
  ·exact∅
  ·exact iv c h
  ·exact∅
end
abbrev Rm(r:Int)(st:Sto)(a:AM):Prop:=st a=AA (.lst [.int r])
def Rm.keep{r:Int}{L:List AM}{b:AM}(h:Rm r st b)(x:Kp L st st')(n:b∉L):Rm r st' b:=x.at' h n
def Rm.new{r:Int}{b p:AM}{u:Ob}(h:Rm r st b)(hp:st p=AE):Rm r (b0 st p u) b:=d9 h hp
abbrev Pg.oc:Nat->Pg->Nat
 |i,.name n=>if n=i then 1 else 0
 |_,.star=>0
 |i,.pair t u=>t.oc i+u.oc i
 |i,.first t=>t.oc i
 |i,.second t=>t.oc i
 |i,.left _ t=>t.oc i
 |i,.right _ t=>t.oc i
 |i,.case t u v=>t.oc i+u.oc (i+1)+v.oc (i+1)
 |i,.way _ t=>t.oc (i+1)
 |i,.give t u=>t.oc i+u.oc i
 |i,.lets t u=>t.oc i+u.oc (i+1)
 |i,.never _ t=>t.oc i
abbrev Pg.nl(m:Nat):List Kd->Pg->Prop
 |_,.name _=>True
 |_,.star=>True
 |Γ,.pair t u=>t.nl m Γ/\u.nl m Γ
 |Γ,.first t=>t.nl m Γ
 |Γ,.second t=>t.nl m Γ
 |Γ,.left _ t=>t.nl m Γ
 |Γ,.right _ t=>t.nl m Γ
 |Γ,.case t u v=>t.nl m Γ/\∀a b,t.kind Γ=AA (.eith a b)->(a.nest<=m/\b.nest<=m)/\u.nl m (a::Γ)/\v.nl m (b::Γ)
 |Γ,.way a t=>t.nl m (a::Γ)
 |Γ,.give t u=>t.nl m Γ/\u.nl m Γ
 |Γ,.lets t u=>t.nl m Γ/\∀a,t.kind Γ=AA a->a.nest<=m/\u.nl m (a::Γ)
 |Γ,.never _ t=>t.nl m Γ
abbrev Cn(e:Int)(deep:Nat)(Γ:List Kd)(p:Pg)(r r':Int):Prop:=
 ((1<=r->-(2*(deep:Int))<=r')/\(e=0->r<=0->r'=r-1)/\r'<=r-1+e)/\(∀(i:Nat)(a:Kd),Γ[i]?=AA a->a≠.non->3*(p.oc i:Int)<=2*(r-r'+e)+1/\(3*(p.oc i:Int)=2*(r-r'+e)+1->(p.parts:Int)=r-r'+e))/\p.nl 6 Γ
section
variable {d:Nat} {b:Kd} {p t u v:Pg} {r r1 r2 r3:Int}
def Cn.leaf(h:(∀i,p.oc i=0)/\∀Δ,p.nl 6 Δ):Cn 1 d Γ p r r:=⟨⟨λ_=>⋯,λz=>⋯,⋯⟩,λi a _ _=>by rw[h.1 i];lia,h.2 Γ⟩
def Cn.k1(c1:Cn 0 d Γ t r r1)(ho:∀i,p.oc i=t.oc i)(hn:t.nl 6 Γ->p.nl 6 Γ):Cn 1 (d+1) Γ p r r1:=
 ⟨⟨λz=>by have:=c1.1.1 z;lia,λz=>⋯,by have:=c1.1.2.2;lia⟩,λi a h1 h2=>by have:=c1.2.1 i a h1 h2;rw[ho i];lia,hn c1.2.2⟩
def Cn.k1b(c1:Cn 0 d (b::Γ) t r r1)(ho:∀i,p.oc i=t.oc (i+1))(hn:t.nl 6 (b::Γ)->p.nl 6 Γ):Cn 1 (d+1) Γ p r r1:=
 ⟨⟨λz=>by have:=c1.1.1 z;lia,λz=>⋯,by have:=c1.1.2.2;lia⟩,λi a h1 h2=>by have:=c1.2.1 (i+1) a (by simpa using h1) h2;rw[ho i];lia,hn c1.2.2⟩
def Cn.k2(c1:Cn 0 d Γ t r r1)(c2:Cn 0 d Γ u r1 r2)(ho:∀i,p.oc i=t.oc i+u.oc i)(hn:t.nl 6 Γ->u.nl 6 Γ->p.nl 6 Γ):Cn 1 (d+1) Γ p r r2:=
 ⟨⟨λz=>by have:=c1.1.1 z;have:=c2.1.1;have:=c2.1.2.1 rfl;lia,λz=>⋯,by have:=c1.1.2.2;have:=c2.1.2.2;lia⟩,λi a h1 h2=>by have:=c1.2.1 i a h1 h2;have:=c2.2.1 i a h1 h2;rw[ho i];lia,hn c1.2.2 c2.2.2⟩
def Cn.k2b(c1:Cn 0 d Γ t r r1)(c2:Cn 0 d (b::Γ) u r1 r2)(ho:∀i,p.oc i=t.oc i+u.oc (i+1))(hn:t.nl 6 Γ->u.nl 6 (b::Γ)->p.nl 6 Γ):Cn 1 (d+1) Γ p r r2:=
 ⟨⟨λz=>by have:=c1.1.1 z;have:=c2.1.1;have:=c2.1.2.1 rfl;lia,λz=>⋯,by have:=c1.1.2.2;have:=c2.1.2.2;lia⟩,λi a h1 h2=>by have:=c1.2.1 i a h1 h2;have:=c2.2.1 (i+1) a (by simpa using h1) h2;rw[ho i];lia,hn c1.2.2 c2.2.2⟩
def Cn.k3{b':Kd}(c1:Cn 0 d Γ t r r1)(c2:Cn 0 d (b::Γ) u r1 r2)(c3:Cn 0 d (b'::Γ) v r2 r3)(hn:t.nl 6 Γ->u.nl 6 (b::Γ)->v.nl 6 (b'::Γ)->(Pg.case t u v).nl 6 Γ):Cn 1 (d+1) Γ (.case t u v) r r3:=
 ⟨⟨λz=>by have:=c1.1.1 z;have:=c2.1.1;have:=c2.1.2.1 rfl;have:=c3.1.1;have:=c3.1.2.1 rfl;lia,λz=>⋯,by have:=c1.1.2.2;have:=c2.1.2.2;have:=c3.1.2.2;lia⟩,λi a h1 h2=>by have:=c1.2.1 i a h1 h2;have:=c2.2.1 (i+1) a (by simpa using h1) h2;have:=c3.2.1 (i+1) a (by simpa using h1) h2;simp only[Pg.oc,Pg.parts];lia,hn c1.2.2 c2.2.2 c3.2.2⟩
end
def N3{k:Kd}:[k.d]++Γ.map Kd.d=(k::Γ).map Kd.d:=rfl
def O8{a b:Nat}(h:a+b<=1000):a+b<=sizeLine:=t3 ⋯
def Kp.w2(b:AM)(h:Kp [a] st st'):Kp [a,b] st st':=h.more ∎
section
variable (B:PB P) {n:Nat} 
include B
def ab0:∀(k:Kd){Γ:List Kd}{n:Nat}{Q:DK},k.good->k.bd 100->k.nest<=6->k.nest+4<=n->Γ.length+k.nest<=999->(∀p:Pg,p.kind Γ=AA k->p.hgt<=k.nest+1->p.parts+1<=2^(k.nest+1)->p.kn 6->((∀i,p.oc i=0)/\∀Δ,p.nl 6 Δ)->Q p.d st)->sem P G n "_law_least" [k.d,.tup (Γ.map Kd.d)] st Q:=by
 intro k
 induction k with
 |non=>intro Γ n Q g;exact g.elim
 |one=>
  intro Γ n Q g bd n6 hn hΓ q;obtain⟨n,rfl⟩:∃k,n=k+1:=⟨n-1,⋯⟩;refine d5 B.least rfl [AA Kd.one.d,AA (.tup (Γ.map Kd.d)),AE,AE] rfl ?_;unfold G8;simp only[Kd.d];(iterate 4 ∎);exact b8 (q .star rfl ∅ ∅ trivial ⟨λ_=>rfl,λ_=>trivial⟩)
 |both a b iha ihb=>
  intro Γ n Q g bd n6 hn hΓ q;obtain⟨n,rfl⟩:∃k,n=k+1:=⟨n-1,⋯⟩;simp only[Kd.nest]at hn hΓ n6;refine d5 B.least rfl [AA (Kd.both a b).d,AA (.tup (Γ.map Kd.d)),AE,AE] rfl ?_;unfold G8;simp only[Kd.d];(iterate 5 ∎);refine⟨by rw[B.least];rfl,iha g.1 bd.1 ⋯ ⋯ ⋯ λp k1 h1 p1 m1 o1=>⟨by rw[B.least];rfl,ihb g.2 bd.2.1 ⋯ ⋯ ⋯ λr k2 h2 p2 m2 o2=>?_⟩⟩;have e1:2^(a.nest+1)<=2^(max a.nest b.nest+1):=AW ∅ ⋯;have e2:2^(b.nest+1)<=2^(max a.nest b.nest+1):=AW ∅ ⋯;have e3:2^(1+max a.nest b.nest+1)=2*2^(max a.nest b.nest+1):=by rw[show 1+max a.nest b.nest+1=(max a.nest b.nest+1)+1 by lia,Jy,Fl]
  exact b8 (q (.pair p r) (by simp only[Pg.kind,k1,k2]) (by simp only[Pg.hgt,Kd.nest];lia) (by simp only[Pg.parts,Kd.nest];lia) ⟨m1,m2⟩ ⟨λi=>by simp only[Pg.oc,o1.1,o2.1],λΔ=>⟨o1.2 Δ,o2.2 Δ⟩⟩)
 |way a b iha ihb=>
  intro Γ n Q g bd n6 hn hΓ q;obtain⟨n,rfl⟩:∃k,n=k+1:=⟨n-1,⋯⟩;simp only[Kd.nest]at hn hΓ n6;refine d5 B.least rfl [AA (Kd.way a b).d,AA (.tup (Γ.map Kd.d)),AE,AE] rfl ?_;unfold G8;simp only[Kd.d];(iterate 6 ∎);refine⟨O8 (by simp only[Aj];lia),?_⟩;rw[N3];∎;refine⟨by rw[B.least];rfl,ihb g.2.1 bd.2.1 ⋯ ⋯ (by simp only[AI];lia) λr k2 h2 p2 m2 o2=>?_⟩;have e2:2^(b.nest+1)<=2^(max a.nest b.nest+1):=AW ∅ ⋯;have e3:2^(1+max a.nest b.nest+1)=2*2^(max a.nest b.nest+1):=by rw[show 1+max a.nest b.nest+1=(max a.nest b.nest+1)+1 by lia,Jy,Fl]
  have e4:0<2^(max a.nest b.nest+1):=Ix ∅;exact b8 (q (.way a r) (by simp only[Pg.kind,k2]) (by simp only[Pg.hgt,Kd.nest];lia) (by simp only[Pg.parts,Kd.nest];lia) ⟨⋯,m2⟩ ⟨λi=>by simp only[Pg.oc,o2.1],λΔ=>o2.2 (a::Δ)⟩)
 |eith a b iha ihb=>
  intro Γ n Q g bd n6 hn hΓ q;obtain⟨n,rfl⟩:∃k,n=k+1:=⟨n-1,⋯⟩;simp only[Kd.nest]at hn hΓ n6;refine d5 B.least rfl [AA (Kd.eith a b).d,AA (.tup (Γ.map Kd.d)),AE,AE] rfl ?_;unfold G8;simp only[Kd.d];(iterate 6 ∎);have e1:2^(a.nest+1)<=2^(max a.nest b.nest+1):=AW ∅ ⋯;have e2:2^(b.nest+1)<=2^(max a.nest b.nest+1):=AW ∅ ⋯;have e3:2^(1+max a.nest b.nest+1)=2*2^(max a.nest b.nest+1):=by rw[show 1+max a.nest b.nest+1=(max a.nest b.nest+1)+1 by lia,Jy,Fl]
  have e4:0<2^(max a.nest b.nest+1):=Ix ∅;refine⟨by rw[B.count];rfl,u8 B.toPB0 a (m:=100) ⋯ (C8 bd.1) ∅ ?_⟩;rfl'
  by_cases ha:(0:Int)<a.cnt
  ·simp only[ha,if_true];have ga:a.good:=by
    rcases g with g|g|g
    ·exact g.1
    ·rw[g.1]at ha;simp[Kd.cnt]at ha
    ·exact g.1
   ∎;refine⟨by rw[B.least];rfl,iha ga bd.1 ⋯ ⋯ ⋯ λp k1 h1 p1 m1 o1=>?_⟩;exact b8 (q (.left b p) (by simp only[Pg.kind,k1]) (by simp only[Pg.hgt,Kd.nest];lia) (by simp only[Pg.parts,Kd.nest];lia) ⟨⋯,m1⟩ ⟨λi=>by simp only[Pg.oc,o1.1],λΔ=>o1.2 Δ⟩)
  ·simp only[ha,if_false];have gb:b.good:=by
    rcases g with g|g|g
    ·exact g.2
    ·exact g.2
    ·exact absurd (Kd.good_pos g.1) ⋯
   ∎;refine⟨by rw[B.least];rfl,ihb gb bd.2.1 ⋯ ⋯ ⋯ λp k1 h1 p1 m1 o1=>?_⟩;exact b8 (q (.right a p) (by simp only[Pg.kind,k1]) (by simp only[Pg.hgt,Kd.nest];lia) (by simp only[Pg.parts,Kd.nest];lia) ⟨⋯,m1⟩ ⟨λi=>by simp only[Pg.oc,o1.1],λΔ=>o1.2 Δ⟩)
abbrev GSp(e:Int)(P:d7)(G:Gs)(f:Str)(n dp deep:Nat):Prop:=∀{da ra:AM}{k:Kd}{Γ:List Kd}{st:Sto}{Q:DK}{r:Int},da≠ra->g8 st da->Rm r st ra->k.good->k.bd 100->k.nest<=dp->Γ.length+deep<=900 ->
 (∀(p:Pg)st' r',p.kind Γ=AA k->p.hgt<=deep+7->p.kn 6->Cn e deep Γ p r r'->g8 st' da->Rm r' st' ra->Kp [da,ra] st st'->Q p.d st')->sem P G n f [.ref da,k.d,.tup (Γ.map Kd.d),.ref ra,.int deep] st Q
def bz3{n deep:Nat}(hn:12<=n)(ih:GSp 0 P G "_law_grown" n 5 deep):GSp 1 P G "_law_made" (n+1) 5 (deep+1):=by
 intro da ra k Γ st Q r0 hne I R g bd n5 hΓ q;have ed:((deep+1:Nat):Int)-1=(deep:Nat):=by lia
 obtain⟨n,rfl⟩:∃m,n=m+1:=⟨n-1,⋯⟩;cases k with
 |non=>exact g.elim
 |one=>
  refine d5 B.made rfl [AA (.ref da),AA Kd.one.d,AA (.tup (Γ.map Kd.d)),AA (.ref ra),AA (.int (deep+1:Nat)),AE,AE,AE,AE] rfl ?_;unfold B3;simp only[Kd.d];(iterate 3 ∎);exact⟨by rw[B.least];rfl,ab0 B .one g bd ∅ (by simp only[Kd.nest];lia) (by simp only[Kd.nest];lia) λp k1 h1 _ m1 o1=>b8 (q p _ _ k1 (by simp only[Kd.nest]at h1;lia) m1 (Cn.leaf o1) I R Kp.refl)⟩
 |both a b=>
  simp only[Kd.nest]at n5;refine d5 B.made rfl [AA (.ref da),AA (Kd.both a b).d,AA (.tup (Γ.map Kd.d)),AA (.ref ra),AA (.int (deep+1:Nat)),AE,AE,AE,AE] rfl ?_;unfold B3;simp only[Kd.d];(iterate 4 ∎);rw[ed];refine⟨by rw[B.grown];rfl,ih hne I R g.1 bd.1 ⋯ ⋯ λp st1 r1 k1 h1 m1 c1 I1 R1 K1=>?_⟩;∎;rw[ed];refine⟨by rw[B.grown];rfl,ih hne I1 R1 g.2 bd.2.1 ⋯ ⋯ λp2 st2 r2 k2 h2 m2 c2 I2 R2 K2=>?_⟩;exact b8 (q (.pair p p2) _ _ (by simp only[Pg.kind,k1,k2]) (by simp only[Pg.hgt];lia) ⟨m1,m2⟩ (c1.k2 c2 (λ_=>rfl) λx y=>⟨x,y⟩) I2 R2 (K1.trans K2))
 |way a b=>
  simp only[Kd.nest]at n5;refine d5 B.made rfl [AA (.ref da),AA (Kd.way a b).d,AA (.tup (Γ.map Kd.d)),AA (.ref ra),AA (.int (deep+1:Nat)),AE,AE,AE,AE] rfl ?_;unfold B3;simp only[Kd.d];(iterate 5 ∎);rw[N3,ed];refine⟨by rw[B.grown];rfl,O8 (by simp only[Aj];lia),ih hne I R g.2.1 bd.2.1 ⋯ (by simp only[AI];lia) λp st1 r1 k1 h1 m1 c1 I1 R1 K1=>?_⟩;exact b8 (q (.way a p) _ _ (by simp only[Pg.kind,k1]) (by simp only[Pg.hgt];lia) ⟨⋯,m1⟩ (c1.k1b (λ_=>rfl) λx=>x) I1 R1 K1)
 |eith a b=>
  simp only[Kd.nest]at n5;refine d5 B.made rfl [AA (.ref da),AA (Kd.eith a b).d,AA (.tup (Γ.map Kd.d)),AA (.ref ra),AA (.int (deep+1:Nat)),AE,AE,AE,AE] rfl ?_;unfold B3;simp only[Kd.d];(iterate 5 ∎);refine⟨by rw[B.next];rfl,t6 B.toPB0 ∅ I λr st1 r0 r1 I1 K1=>?_⟩;have R1:=R.keep K1 (by simp;exact λz=>hne z.symm);have K1:=K1.w2 ra;have fin:∀(s:Int),(s=0/\a.good)\/(s=1/\b.good)->d4 (Zg P G (n+1)) (B3.body.drop 6) (f6 Q) [AA (.ref da),AA (Kd.eith a b).d,AA (.tup (Γ.map Kd.d)),AA (.ref ra),AA (.int (deep+1:Nat)),AA (.str "either"),AE,AA (.int s),AE] st1:=by
   intro s hs;simp only[B3,Ss.drop,Kd.d]
   rcases hs with⟨rfl,ga⟩|⟨rfl,gb⟩
   ·∎;rw[ed];refine⟨by rw[B.grown];rfl,a.d,rfl,ih hne I1 R1 ga bd.1 ⋯ ⋯ λp st2 r2 k2 h2 m2 c2 I2 R2 K2=>?_⟩;∎;intro x hx;rfl';exact⟨b.d,rfl,b8 (q (.left b p) _ _ (by simp only[Pg.kind,k2]) (by simp only[Pg.hgt];lia) ⟨⋯,m2⟩ (c2.k1 (λ_=>rfl) λx=>x) (I2.new hx) (R2.new hx) ((K1.trans K2).new hx))⟩
   ·∎;rw[ed];refine⟨by rw[B.grown];rfl,b.d,rfl,ih hne I1 R1 gb bd.2.1 ⋯ ⋯ λp st2 r2 k2 h2 m2 c2 I2 R2 K2=>?_⟩;∎;intro x hx;rfl';exact⟨a.d,rfl,b8 (q (.right a p) _ _ (by simp only[Pg.kind,k2]) (by simp only[Pg.hgt];lia) ⟨⋯,m2⟩ (c2.k1 (λ_=>rfl) λx=>x) (I2.new hx) (R2.new hx) ((K1.trans K2).new hx))⟩
  have go:∀c:Kd,c.good\/c=.non->(c.cnt:Int)≠0->c.good:=λc h hz=>h.elim id λe=>by subst e;simp[Kd.cnt]at hz
  have ga:a.good\/a=.non:=by rcases g with g|g|g<;>simp[g]
  have gb:b.good\/b=.non:=by rcases g with g|g|g<;>simp[g]
  ∎;obtain rfl|rfl:r=0\/r=1:=by lia
  ·refine⟨by rw[B.count];rfl,a.d,rfl,u8 B.toPB0 a (m:=100) ⋯ (C8 bd.1) ∅ ?_⟩;rfl'
   by_cases hz:(a.cnt:Int)=0
   ·simp only[hz,if_true];∎;exact fin 1 (.inr ⟨rfl,g.elim (λg=>g.2) λg=>g.elim (λg=>g.2) λg=>absurd (Kd.good_pos g.1) ⋯⟩)
   ·simp only[hz,if_false];exact fin 0 (.inl ⟨rfl,go a ga hz⟩)
  ·refine⟨by rw[B.count];rfl,b.d,rfl,u8 B.toPB0 b (m:=100) ⋯ (C8 bd.2.1) ∅ ?_⟩;rfl'
   by_cases hz:(b.cnt:Int)=0
   ·simp only[hz,if_true];∎;exact fin 0 (.inl ⟨rfl,g.elim (λg=>g.1) λg=>g.elim (λg=>absurd (Kd.good_pos g.2) ⋯) λg=>g.1⟩)
   ·simp only[hz,if_false];exact fin 1 (.inr ⟨rfl,go b gb hz⟩)
omit B in
theorem cc2{k:Kd}(h:k∈Γ):∃j:Nat,Γ[j]?=AA k/\∀(i:Nat)c,i<j->Γ[i]?=AA c->c≠k:=by
 induction Γ with
 |nil=>cases h
 |cons c Γ ih=>
  by_cases e:c=k
  ·exact⟨0,by rw[e];rfl,λi c hi=>⋯⟩
  ·obtain⟨j,hj,hb⟩:=ih (by rcases AT.mp h with z|z;exact absurd z.symm e;exact z);refine⟨j+1,hj,λi d hi hd=>?_⟩;cases i with
   |zero=>cases hd;exact e
   |succ i=>exact hb i d ⋯ hd
omit B in
theorem cf0{k:Kd}(h:k∈Γ)(hn:k.nest<=100)(q:∀j:Nat,Γ[j]?=AA k->Q (.int j) st):E7 (.tup (Γ.map Kd.d)) k.d st Q:=by
 obtain⟨j,hj,hb⟩:=cc2 h;refine⟨p0 k,aa9 Γ,by rw[p8];lia,j,k.d,by rw[CM,hj];rfl,by rw[z0];simp,λi e hi he=>?_,q j hj⟩;rw[CM]at he;cases hc:Γ[i]? with
 |none=>rw[hc]at he;cases he
 |some c=>rw[hc]at he;cases he;rw[z0];simp[hb i c hi hc]
omit B in
theorem b73{k:Kd}:((Γ.map Kd.d).any λy=>deq y k.d)=AB (k∈Γ):=by
 induction Γ with
 |nil=>rfl
 |cons c Γ ih=>rw[AY,Br,ih,z0];simp only[AT,IL];congr 1;exact decide_eq_decide.mpr ⟨Hz,Hz⟩
omit B in
theorem bt6{d:Nat}{k:Kd}{j:Nat}{r:Int}(h:Γ[j]?=AA .non):Cn 1 d Γ (.never k (.name j)) r r:=
 ⟨⟨λ_=>⋯,λz=>⋯,⋯⟩,λi a h1 h2=>by
  have:j≠i:=λz=>by subst z;rw[h]at h1;cases h1;exact h2 rfl
  simp only[Pg.oc,this,if_false];lia,trivial⟩
def bt2{n deep:Nat}(hn:12<=n)(ih:GSp 0 P G "_law_grown" n 5 deep):GSp 1 P G "_law_asked" (n+1) 4 (deep+1):=by
 intro da ra k Γ st Q r0 hne I R g bd n5 hΓ q;have ed:((deep+1:Nat):Int)-1=(deep:Nat):=by lia
 obtain⟨n,rfl⟩:∃m,n=m+1:=⟨n-1,⋯⟩;have hra:ra∉[da]:=by simp;exact λz=>hne z.symm
 refine d5 B.asked rfl [AA (.ref da),AA k.d,AA (.tup (Γ.map Kd.d)),AA (.ref ra),AA (.int (deep+1:Nat)),AE,AE,AE,AE,AE] rfl ?_;unfold E2;∎;refine⟨by rw[B.kind];rfl,N7 B.toPB0 (most:=4) ∅ ∅ 1 ⋯ I λko st1 go bo no I1 K1=>?_⟩;have R1:=R.keep K1 hra;have K1:=K1.w2 ra;have fin:∀ko:Kd,ko.good->ko.bd 4->ko.nest<=1->(Kd.both k ko).bd 100->(Kd.both ko k).bd 100->(Kd.way ko k).bd 100->d4 (Zg P G (n+1)) (E2.body.drop 2) (f6 Q) [AA (.ref da),AA k.d,AA (.tup (Γ.map Kd.d)),AA (.ref ra),AA (.int (deep+1:Nat)),AA ko.d,AE,AE,AE,AE] st1:=by
  intro ko go bo no b1 b2 b3;simp only[E2,Ss.drop];∎;refine⟨by rw[B.next];rfl,t6 B.toPB0 ∅ I1 λr st2 r0 r1 I2 K2=>?_⟩;have R2:=R1.keep K2 hra;have K2:=K1.trans (K2.w2 ra);have bo':=Kd.bd_mono (show 4<=100 by decide) bo;∎
  by_cases h0:r=0
  ·simp only[h0,if_true];∎;rw[ed];refine⟨by rw[B.grown];rfl,ih (k:=.both k ko) hne I2 R2 ⟨g,go⟩ b1 (by simp only[Kd.nest];lia) ⋯ λp st3 r3 k3 h3 m3 c3 I3 R3 K3=>?_⟩;exact b8 (q (.first p) _ _ (by simp only[Pg.kind,k3]) (by simp only[Pg.hgt];lia) m3 (c3.k1 (λ_=>rfl) λx=>x) I3 R3 (K2.trans K3))
  simp only[h0,if_false];∎
  by_cases h1:r=1
  ·simp only[h1,if_true];∎;rw[ed];refine⟨by rw[B.grown];rfl,ih (k:=.both ko k) hne I2 R2 ⟨go,g⟩ b2 (by simp only[Kd.nest];lia) ⋯ λp st3 r3 k3 h3 m3 c3 I3 R3 K3=>?_⟩;exact b8 (q (.second p) _ _ (by simp only[Pg.kind,k3]) (by simp only[Pg.hgt];lia) m3 (c3.k1 (λ_=>rfl) λx=>x) I3 R3 (K2.trans K3))
  simp only[h1,if_false];∎
  by_cases h2:r=2
  ·simp only[h2,if_true];∎;rw[ed];refine⟨by rw[B.grown];rfl,ih (k:=.way ko k) hne I2 R2 ⟨.inl go,g,Al (Kd.bd_le bo) ∅⟩ b3 (by simp only[Kd.nest];lia) ⋯ λp st3 r3 k3 h3 m3 c3 I3 R3 K3=>?_⟩;∎;rw[ed];refine⟨by rw[B.grown];rfl,ih (k:=ko) hne I3 R3 go bo' ⋯ ⋯ λp4 st4 r4 k4 h4 m4 c4 I4 R4 K4=>?_⟩;exact b8 (q (.give p p4) _ _ (by simp only[Pg.kind,k3,k4,if_true]) (by simp only[Pg.hgt];lia) ⟨m3,m4⟩ (c3.k2 c4 (λ_=>rfl) λx y=>⟨x,y⟩) I4 R4 ((K2.trans K3).trans K4))
  simp only[h2,if_false];∎
  by_cases h3:r=3
  ·simp only[h3,if_true];∎;rw[ed];refine⟨by rw[B.grown];rfl,ih (k:=ko) hne I2 R2 go bo' ⋯ ⋯ λp st3 r3 k3 h3 m3 c3 I3 R3 K3=>?_⟩;∎;rw[ed,N3];refine⟨by rw[B.grown];rfl,O8 (by simp only[Aj];lia),ih (k:=k) hne I3 R3 g bd ⋯ (by simp only[AI];lia) λp4 st4 r4 k4 h4 m4 c4 I4 R4 K4=>?_⟩;exact b8 (q (.lets p p4) _ _ (by simp only[Pg.kind,k3,k4]) (by simp only[Pg.hgt];lia) ⟨m3,m4⟩ (c3.k2b c4 (λ_=>rfl) λx y=>⟨x,λa ha=>by rw[k3]at ha;cases ha;exact⟨⋯,y⟩⟩) I4 R4 ((K2.trans K3).trans K4))
  simp only[h3,if_false];have fin2:d4 (Zg P G (n+1)) (E2.body.drop 8) (f6 Q) [AA (.ref da),AA k.d,AA (.tup (Γ.map Kd.d)),AA (.ref ra),AA (.int (deep+1:Nat)),AA ko.d,AA (.int r),AE,AE,AE] st2:=by
   simp only[E2,Ss.drop];∎;refine⟨by rw[B.kind];rfl,N7 B.toPB0 (most:=4) ∅ ∅ 1 ⋯ I2 λkm st3 gm bm nm I3 K3=>?_⟩;have R3:=R2.keep K3 hra;have K3:=K2.trans (K3.w2 ra);have bm':=Kd.bd_mono (show 4<=100 by decide) bm;have lo:=Kd.bd_le bo;have lm:=Kd.bd_le bm;∎;rw[ed];refine⟨by rw[B.grown];rfl,ih (k:=.eith ko km) hne I3 R3 (.inl ⟨go,gm⟩) ⟨bo',bm',⋯⟩ (by simp only[Kd.nest];lia) ⋯ λp4 st4 r4 k4 h4 m4 c4 I4 R4 K4=>?_⟩;∎;rw[ed,N3];refine⟨by rw[B.grown];rfl,O8 (by simp only[Aj];lia),ih (k:=k) hne I4 R4 g bd ⋯ (by simp only[AI];lia) λp5 st5 r5 k5 h5 m5 c5 I5 R5 K5=>?_⟩;∎;rw[ed,N3];refine⟨by rw[B.grown];rfl,O8 (by simp only[Aj];lia),ih (k:=k) hne I5 R5 g bd ⋯ (by simp only[AI];lia) λp6 st6 r6 k6 h6 m6 c6 I6 R6 K6=>?_⟩;exact b8 (q (.case p4 p5 p6) _ _ (by simp only[Pg.kind,k4,k5,k6,if_true]) (by simp only[Pg.hgt];lia) ⟨m4,m5,m6⟩ (c4.k3 c5 c6 λx y z=>⟨x,λa b ha=>by rw[k4]at ha;cases ha;exact⟨⟨⋯,⋯⟩,y,z⟩⟩) I6 R6 (((K3.trans K4).trans K5).trans K6))
  have hnone:(D.tup [.str "none"])=Kd.non.d:=rfl;∎
  by_cases h4:r=4
  ·simp only[h4,if_true];rw[hnone,b73];refine⟨p0 _,aa9 _,by rw[p8];decide,?_⟩;rfl'
   by_cases hm:Kd.non∈Γ
   ·simp only[hm,if_true];∎;rw[hnone];refine cf0 hm ∅ λj hj=>?_;exact b8 (q (.never k (.name j)) _ _ (by simp only[Pg.kind,hj]) (by simp only[Pg.hgt];lia) ⟨⋯,trivial⟩ (bt6 hj) I2 R2 K2)
   ·simp only[hm,if_false];subst h4;exact fin2
  ·simp only[h4,if_false];exact fin2
 have lk:=Kd.bd_le bd;have bo':=Kd.bd_mono (show 4<=100 by decide) bo;have one:∀k:Kd,k.bd 100->(Kd.both k .one).bd 100/\(Kd.both .one k).bd 100/\(Kd.way .one k).bd 100:=λk h=>by
  have:=Kd.bd_le h;have o:Kd.one.bd 100:=(show 1<=100 by decide);exact⟨⟨h,o,by simpa[Kd.cnt]using this⟩,⟨o,h,by simpa[Kd.cnt]using this⟩,⟨o,h,by simpa[Kd.cnt]using this⟩⟩
 have⟨o1,o2,o3⟩:=one k bd;∎;refine⟨by rw[B.count];rfl,u8 B.toPB0 (.both k ko) (m:=100) (by simp only[Kd.nest];lia) (λc d e=>by rcases e with e|e|e<;>cases e;exact⟨bd,bo'⟩) ∅ ?_⟩;rfl'
 by_cases hb:(100:Int)<(Kd.both k ko).cnt
 ·simp only[hb,if_true];∎;exact fin .one trivial (show 1<=4 by decide) ∅ o1 o2 o3
 ·simp only[hb,if_false];refine⟨by rw[B.count];rfl,u8 B.toPB0 (.way ko k) (m:=100) (by simp only[Kd.nest];lia) (λc d e=>by rcases e with e|e|e<;>cases e;exact⟨bo',bd⟩) ∅ ?_⟩;rfl'
  by_cases hw:(100:Int)<(Kd.way ko k).cnt
  ·simp only[hw,if_true];∎;exact fin .one trivial (show 1<=4 by decide) ∅ o1 o2 o3
  ·simp only[hw,if_false];simp only[Kd.cnt]at hb hw;exact fin ko go bo no ⟨bd,bo',⋯⟩ ⟨bo',bd,by rw[Fl];lia⟩ ⟨bo',bd,⋯⟩
end
theorem ah5:∀(ds:List D)(i:Nat),(j7 i ds).length=ds.length
 |[],_=>rfl
 |_::ds,i=>by show(j7 (i+1) ds).length+1=ds.length+1;rw[ah5 ds]
def bs9{d:Nat}{p:Pg}{r:Int}(h:(∀i,p.oc i=0)/\∀Δ,p.nl 6 Δ):Cn 0 d Γ p r (r-1):=⟨⟨λ_=>⋯,λ_ _=>rfl,⋯⟩,λi a _ _=>by rw[h.1 i];lia,h.2 Γ⟩
def bx5{d:Nat}{j:Nat}{r:Int}:Cn 0 d Γ (.name j) r (r-1):=⟨⟨λ_=>⋯,λ_ _=>rfl,⋯⟩,λi a _ _=>by simp only[Pg.oc,Pg.parts];split<;>lia,trivial⟩
def ab4{d:Nat}{p:Pg}{r r':Int}(h:¬r-1<=0)(c:Cn 1 d Γ p (r-1) r'):Cn 0 d Γ p r r':=
 ⟨⟨λ_=>c.1.1 ⋯,λ_ z=>⋯,by have:=c.1.2.2;lia⟩,λi a h1 h2=>by have:=c.2.1 i a h1 h2;lia,c.2.2⟩
section
variable (B:PB P) {n:Nat} 
include B
def am0(deep:Nat){n:Nat}(hn:14<=n+2)(hm:0<deep->GSp 1 P G "_law_made" (n+1) 5 deep)(ha:0<deep->GSp 1 P G "_law_asked" (n+1) 4 deep):GSp 0 P G "_law_grown" (n+2) 5 deep:=by
 intro da ra k Γ st Q r hne I R g bd n5 hΓ q;have hra:ra∉[da]:=by simp;exact λz=>hne z.symm
 refine d5 B.grown rfl [AA (.ref da),AA k.d,AA (.tup (Γ.map Kd.d)),AA (.ref ra),AA (.int deep),AE,AE] rfl ?_;unfold G7;∎;rw[F2 (.inl R)];rfl';refine⟨ra,0,0,_,rfl,rfl,R,rfl,?_⟩;have I1:g8 (b0 st ra (.lst [.int (r-1)])) da:=let⟨l,h⟩:=I;⟨l,d6 h hne⟩;have R1:(b0 st ra (.lst [.int (r-1)])) ra=AA (.lst [.int (r-1)]):=b7;have K1:Kp [da,ra] st (b0 st ra (.lst [.int (r-1)])):=Kp.refl.put ∎;show d4 _ _ _ _ (b0 st ra (.lst [.int (r-1)]));revert I1 R1 K1;generalize b0 st ra (.lst [.int (r-1)])=st1;intro I1 R1 K1;∎;refine⟨by rw[ah5,Aj];lia,?_⟩;refine E4 (λl acc env' st'=>st'=st1/\∃(pre suf:List Kd)(x y:Option D)(acc':List Nat),Γ=pre++suf/\l=j7 pre.length (suf.map Kd.d)/\env'=[AA k.d,x,y]/\acc=acc'.map (λi:Nat=>D.int (i:Int))/\acc'.length<=pre.length/\∀i∈acc',Γ[i]?=AA k) ?_ ?_ _ _ _ _ ⟨rfl,[],Γ,AE,AE,[],rfl,rfl,rfl,rfl,Af _,∎⟩
 ·rintro acc env' st' ⟨rfl,pre,suf,x,y,acc',eΓ,el,rfl,rfl,al,hacc⟩;refine⟨trivial,λsp hsp=>?_⟩;have I2:=I1.new (u:=.lst (acc'.map (λi:Nat=>D.int (i:Int)))) hsp;have R2:=d9 (u:=.lst (acc'.map (λi:Nat=>D.int (i:Int)))) R1 hsp;have K2:=K1.new (o:=.lst (acc'.map (λi:Nat=>D.int (i:Int)))) hsp;have S2:b0 st' sp (.lst (acc'.map (λi:Nat=>D.int (i:Int)))) sp=AA (.lst (acc'.map (λi:Nat=>D.int (i:Int)))):=b7;have nds:sp∉[da]:=by simp;exact λz=>I1.ne hsp z.symm
  revert I2 R2 K2 S2;generalize b0 st' sp (.lst (acc'.map (λi:Nat=>D.int (i:Int))))=st2;intro I2 R2 K2 S2;∎;refine⟨by rw[B.next];rfl,t6 B.toPB0 ∅ I2 λw st3 w0 w1 I3 K3=>?_⟩;have R3:=K3.at' R2 hra;have S3:=K3.at' S2 nds;have K3:=K2.trans (K3.w2 ra);have fin:d4 (Zg P G (n+1)) (G7.body.drop 4) (f6 Q) [AA (.ref da),AA k.d,AA (.tup (Γ.map Kd.d)),AA (.ref ra),AA (.int deep),AA (.ref sp),AA (.int w)] st3:=by
   simp only[G7,Ss.drop];have lst:d4 (Zg P G (n+1)) (.cons (.ret (.call "_law_least" (.cons (.v 1) (.cons (.v 2) .nil)))) .nil) ⟨d4 (Zg P G (n+1)) (G7.body.drop 5) (f6 Q),(f6 Q).rt,(f6 Q).bk,(f6 Q).ct⟩ [AA (.ref da),AA k.d,AA (.tup (Γ.map Kd.d)),AA (.ref ra),AA (.int deep),AA (.ref sp),AA (.int w)] st3:=by
    ∎;exact⟨by rw[B.least];rfl,ab0 B k g bd ⋯ ⋯ ⋯ λp k1 h1 _ m1 o1=>b8 (q p _ (r-1) k1 ⋯ m1 (bs9 o1) I3 R3 K3)⟩
   have hnone:(D.tup [.str "none"])=Kd.non.d:=rfl;have kn:k≠.non:=λz=>by subst z;exact g
   ∎;rw[F2 (.inl R3)];rfl'
   by_cases h1:r-1<=0
   ·simp only[h1,if_true];exact lst
   simp only[h1,if_false]
   by_cases h2:(deep:Int)<=0
   ·simp only[h2,if_true];exact lst
   simp only[h2,if_false];rw[hnone,F6,z0];refine⟨p0 _,p0 _,by rw[p8,p8];exact Al (IE _ _) ⋯,?_⟩;rfl';simp only[kn,if_false];∎
   by_cases h6:w<6
   ·simp only[h6,if_true];∎;exact⟨by rw[B.made];rfl,hm ⋯ hne I3 R3 g bd n5 hΓ λp st4 r4 k4 h4 m4 c4 I4 R4 K4=>b8 (q p _ r4 k4 h4 m4 (ab4 ⋯ c4) I4 R4 (K3.trans K4))⟩
   simp only[h6,if_false];refine⟨by rw[B.nest];rfl,bx4 B k ⋯ ?_⟩;rfl'
   by_cases h5:(4:Int)<k.nest
   ·simp only[h5,if_true];∎;exact⟨by rw[B.made];rfl,hm ⋯ hne I3 R3 g bd n5 hΓ λp st4 r4 k4 h4 m4 c4 I4 R4 K4=>b8 (q p _ r4 k4 h4 m4 (ab4 ⋯ c4) I4 R4 (K3.trans K4))⟩
   simp only[h5,if_false];∎;exact⟨by rw[B.asked];rfl,ha ⋯ hne I3 R3 g bd ⋯ hΓ λp st4 r4 k4 h4 m4 c4 I4 R4 K4=>b8 (q p _ r4 k4 h4 m4 (ab4 ⋯ c4) I4 R4 (K3.trans K4))⟩
  ∎;rw[v2 (.inl S3)];rfl'
  by_cases hl:(0:Int)<((acc'.map (λi:Nat=>D.int (i:Int))).length:Nat)
  ·simp only[hl,if_true]
   by_cases h3:w<3
   ·simp only[h3,if_true];∎;rw[v2 (.inl S3)];refine⟨by rw[B.next];rfl,t6 B.toPB0 hl I3 λj st4 j0 j1 I4 K4=>?_⟩;have S4:=K4.at' S3 nds;have R4:=K4.at' R3 hra;have K4:=K3.trans (K4.w2 ra);rw[F2 (.inl S4)];obtain⟨j,rfl⟩:=Int.eq_ofNat_of_zero_le j0;rw[Aj]at j1;have hj:j<acc'.length:=by lia
    refine⟨.int (acc'[j]:Int),?_,b8 (q (.name acc'[j]) _ (r-1) (hacc _ (IA hj)) (by simp only[Pg.hgt];lia) trivial bx5 I4 R4 K4)⟩;show atI _ ((j:Nat):Int)=_;rw[K9,CM,AZ hj];rfl
   ·simp only[h3,if_false];exact fin
  ·simp only[hl,if_false];exact fin
 ·rintro d ds acc env' st' ih ⟨rfl,pre,suf,x,y,acc',eΓ,el,rfl,rfl,al,hacc⟩;refine⟨trivial,?_⟩;cases suf with
  |nil=>simp[j7]at el
  |cons c suf=>
   simp only[AY,j7,As]at el;obtain⟨rfl,rfl⟩:=el;have hc:Γ[pre.length]?=AA c:=by rw[eΓ];simp
   rfl';rw[F6,z0];refine⟨p0 _,p0 _,by rw[p8,p8];exact Al (DF _ _) ⋯,?_⟩;rfl'
   by_cases e:c=k
   ·simp only[e,if_true];refine ih _ _ _ ⟨rfl,pre++[c],suf,_,_,acc'++[pre.length],by rw[eΓ];simp,∎,rfl,∎,by simp;lia,λi hi=>?_⟩
    rcases Ax.mp hi with hi|hi
    ·exact hacc i hi
    ·simp only[Ef]at hi;subst hi;rw[hc,e]
   ·simp only[e,if_false];exact ih _ _ _ ⟨rfl,pre++[c],suf,_,_,acc',by rw[eΓ];simp,∎,rfl,rfl,by simp;lia,hacc⟩
theorem ab2:∀(deep:Nat){n:Nat},2*deep+14<=n->GSp 0 P G "_law_grown" n 5 deep
 |0,n,hn=>by
  obtain⟨n,rfl⟩:∃m,n=m+2:=⟨n-2,⋯⟩;exact am0 B 0 ⋯ (λh=>absurd h ∅) (λh=>absurd h ∅)
 |deep+1,n,hn=>by
  obtain⟨n,rfl⟩:∃m,n=m+2:=⟨n-2,⋯⟩;exact am0 B (deep+1) ⋯ (λ_=>bz3 B ⋯ (ab2 deep ⋯)) (λ_=>bt2 B ⋯ (ab2 deep ⋯))
end
def Kp.fresh{p:AM}(h:Kp [a,p] (b0 st p o) st')(hp:st p=AE):Kp [a] st st':=λb u n e=>by
 have nb:b≠p:=m9 e hp;exact h b u (by simp at n ⊢;exact⟨n,nb⟩) (by rw[g6 nb];exact e)
def Pg.parts_kids(p:Pg):p.parts=1+(p.kids.map Pg.parts).sum:=by
 cases p<;>simp only[Pg.parts,Pg.kids,AY,Be,Bs,Dy]<;>lia
def Pg.hgt_kids(p:Pg):∀c∈p.kids,c.hgt<p.hgt:=by
 cases p<;>simp only[Pg.hgt,Pg.kids,AT,Ac,or_false,false_imp_iff,implies_true,forall_eq_or_imp,forall_eq]<;>lia
def Pg.kn_kids{m:Nat}(p:Pg)(h:p.kn m):∀c∈p.kids,c.kn m:=by
 cases p<;>simp only[Pg.kn,Pg.kids,AT,Ac,or_false,false_imp_iff,implies_true,forall_eq_or_imp,forall_eq]at h ⊢<;>first|exact h|exact h.2
section
variable (B:PB P) {n:Nat} 
include B
def al8(p:Pg)(q:Q (.tup (p.kids.map Pg.d)) st):sem P G (n+1) "_law_inner" [p.d] st Q:=by
 refine d5 B.inner rfl [AA p.d,AE] rfl ?_;unfold Q8;cases p<;>simp only[Pg.d]
 case name=>
  (iterate 3 ∎);exact b8 q
 all_goals
  (iterate 3 ∎);simp only[g9,j5,f7,Aa,true_and,Br,DR,g5,i6,BE,decide_true,decide_false,Bool.or_true,BF,Bool.true_or,BG,f9,if_true,Ae,if_false];exact⟨∅,∅,b8 q⟩
def bt7:∀(h:Nat)(p:Pg){n:Nat}{st:Sto}{Q:DK},p.hgt<=h->h+2<=n->(∀st',Kp [] st st'->Q (.int p.parts) st')->sem P G n "_law_parts" [p.d] st Q:=by
 intro h
 induction h with
 |zero=>intro p n st Q hp;cases p<;>simp only[Pg.hgt]at hp<;>lia
 |succ h ih=>
  intro p n st Q hp hn q;obtain⟨n,rfl⟩:∃m,n=m+2:=⟨n-2,⋯⟩;refine d5 B.parts rfl [AA p.d] rfl ?_;unfold Z3;∎;refine⟨by rw[B.inner];rfl,al8 B p ?_⟩;rfl';refine⟨by rw[Aj];cases p<;>simp only[Pg.kids,AI,AO]<;>decide,?_⟩;refine E4 (λl acc env' st'=>Kp [] st st'/\∃(pre suf:List Pg)(x:Option D),p.kids=pre++suf/\l=suf.map Pg.d/\env'=[x]/\acc=(pre.map λc=>D.int (c.parts:Nat))) ?_ ?_ _ _ _ _ ⟨Kp.refl,[],p.kids,AE,rfl,rfl,rfl,rfl⟩
  ·rintro acc env' st' ⟨K,pre,suf,x,ek,el,rfl,rfl⟩;refine⟨trivial,λa ha=>?_⟩;have es:suf=[]:=by simpa using el.symm
   subst es;have e:(pre.map λc:Pg=>D.int (c.parts:Nat))=(pre.map λc:Pg=>((c.parts:Nat):Int)).map D.int:=by rw[Dw];rfl
   refine⟨_,.inl (by rw[<-e];exact b7),?_⟩;rfl';have e2:(1:Int)+(pre.map λc:Pg=>((c.parts:Nat):Int)).sum=(p.parts:Nat):=by
    rw[Pg.parts_kids p,ek,BP];generalize pre=l
    induction l with
    |nil=>rfl
    |cons c l ih=>simp only[AY,Bs]at ih ⊢;lia
   rw[e2];exact b8 (q _ (K.new ha))
  ·rintro d ds acc env' st' ihc ⟨K,pre,suf,x,ek,el,rfl,rfl⟩;refine⟨trivial,?_⟩;cases suf with
   |nil=>simp at el
   |cons c suf=>
    simp only[AY,As]at el;obtain⟨rfl,rfl⟩:=el;rfl';have hc:=Pg.hgt_kids p c (by rw[ek];simp);refine⟨by rw[B.parts];rfl,ih c ⋯ ⋯ λst2 K2=>ihc _ _ _ ⟨K.trans K2,pre++[c],suf,_,by rw[ek];simp,rfl,rfl,∎⟩⟩
def bl0{k:Kd}{many:Int}(hm:many<=33)(hn:40<=n)(I:g8 st da)(g:k.good)(bd:k.bd 100)(n5:k.nest<=5)(hΓ:Γ.length<=800)(q:∀(p:Pg)st',p.kind Γ=AA k->p.hgt<=15->p.parts<=64->p.kn 6->(k.nest<=4->p.parts<=60/\∀i a,Γ[i]?=AA a->a≠.non->p.parts+59*p.oc i<=2000)->p.nl 6 Γ->g8 st' da->Kp [da] st st'->Q p.d st'):sem P G n "_law_program" [.ref da,k.d,.tup (Γ.map Kd.d),.int many] st Q:=by
 obtain⟨n,rfl⟩:∃m,n=m+1:=⟨n-1,⋯⟩;refine d5 B.program rfl [AA (.ref da),AA k.d,AA (.tup (Γ.map Kd.d)),AA (.int many),AE] rfl ?_;unfold Y8;∎;refine⟨by rw[B.grown];rfl,λra hra=>?_⟩;refine ab2 B 8 ⋯ (I.ne hra) (I.new hra) b7 g bd n5 ⋯ λp st1 r1 k1 h1 m1 c1 I1 R1 K1=>?_;have K1:=K1.fresh hra;∎;refine⟨by rw[B.parts];rfl,bt7 B 15 p ⋯ ⋯ λst2 K2=>?_⟩;have I2:=I1.keep K2 ∎;have K2:=K1.trans (K2.more ∎);rfl'
 by_cases hp:(60:Int)<(p.parts:Nat)
 ·simp only[hp,if_true];∎;refine⟨by rw[B.least];rfl,ab0 B k g bd ⋯ ⋯ ⋯ λp3 k3 h3 p3' m3 o3=>b8 (q p3 _ k3 ⋯ ?_ m3 (λhk=>?_) (o3.2 Γ) I2 K2)⟩
  ·have:2^(k.nest+1)<=2^6:=AW ∅ ⋯;lia
  ·have:2^(k.nest+1)<=2^5:=AW ∅ ⋯;exact⟨⋯,λi a _ _=>by rw[o3.1 i];lia⟩
 ·simp only[hp,if_false];∎;exact b8 (q p _ k1 h1 ⋯ m1 (λ_=>⟨⋯,λi a h1 h2=>by
   have:=c1.2.1 i a h1 h2;have:=c1.1.1;have:=c1.1.2.1 rfl;have:=c1.1.2.2;lia⟩) c1.2.2 I2 K2)
def bk4{k:Kd}{many:Int}(hm:many<=33)(hn:40<=n)(I:g8 st da)(g:k.good)(bd:k.bd 100)(n5:k.nest<=5)(hΓ:Γ.length<=800)(q:∀(p:Pg)st',p.kind Γ=AA k->p.hgt<=15->p.parts<=64->p.kn 6->(k.nest<=4->p.parts<=60/\∀i a,Γ[i]?=AA a->a≠.non->p.parts+59*p.oc i<=2000)->g8 st' da->Kp [da] st st'->Q p.d st'):sem P G n "_law_program" [.ref da,k.d,.tup (Γ.map Kd.d),.int many] st Q:=
 bl0 B hm hn I g bd n5 hΓ λp st1 k1 h1 p1 m1 c1 _ I1 K1=>q p st1 k1 h1 p1 m1 c1 I1 K1
omit B in
abbrev v4:List Kd->Nat
 |[]=>1
 |k::r=>max 1 k.cnt*v4 r
omit B in
theorem aj9:∀(l:List Kd)(k:Kd),v4 (l++[k])=v4 l*max 1 k.cnt
 |[],k=>by simp[v4]
 |c::l,k=>by simp only[Bm,v4,aj9 l k,Nat.mul_assoc]
def bv7{most lines:Nat}(hn:20<=n)(hm:most<=100)(hl:1<=lines)(hl2:lines<=1000)(I:g8 st da)(q:∀(Γ:List Kd)st',Γ.length<=most->(∀k∈Γ,(k.good\/k=.non)/\k.bd 16/\k.nest<=2)->v4 Γ<=lines->g8 st' da->Kp [da] st st'->Q (.tup (Γ.map Kd.d)) st'):sem P G n "_law_names" [.ref da,.int most,.int lines] st Q:=by
 obtain⟨n,rfl⟩:∃m,n=m+2:=⟨n-2,⋯⟩;refine d5 B.names rfl [AA (.ref da),AA (.int most),AA (.int lines),AE,AE,AE,AE] rfl ?_;unfold w8;(iterate 3 ∎);refine⟨by rw[B.next];rfl,t6 B.toPB0 ⋯ I λr st1 r0 r1 I1 K1=>⟨r,rfl,⋯,?_⟩⟩;refine y6 (λl env st'=>g8 st' da/\Kp [da] st st'/\∃(Γ:List Kd)(x y:Option D),env=[AA (.ref da),AA (.int most),AA (.int lines),AA (.tup (Γ.map Kd.d)),AA (.int (v4 Γ:Nat)),x,y]/\Γ.length+l.length<=most/\(∀k∈Γ,(k.good\/k=.non)/\k.bd 16/\k.nest<=2)/\v4 Γ<=lines) ?_ ?_ _ _ _ ⟨I1,K1,[],AE,AE,rfl,by simp[k8];lia,∎,hl⟩
 ·rintro env st' ⟨I2,K2,Γ,x,y,rfl,h1,h2,h3⟩;refine⟨trivial,?_⟩;∎;exact b8 (q Γ _ (by simpa using h1) h2 h3 I2 K2)
 ·rintro d ds env st' ih ⟨I2,K2,Γ,x,y,rfl,h1,h2,h3⟩;refine⟨trivial,?_⟩;rfl';∎;refine⟨by rw[B.kind];rfl,N7 B.toPB0 (most:=16) ∅ ∅ 2 ⋯ I2 λk st3 g3 b3 n3 I3 K3=>?_⟩;have K3:=K2.trans K3;∎;refine⟨by rw[B.next];rfl,t6 B.toPB0 ∅ I3 λr4 st4 _ _ I4 K4=>?_⟩;have K4:=K3.trans K4;have fin:∀k:Kd,(k.good\/k=.non)->k.bd 16->k.nest<=2->d4 (Zg P G (n+1)) (match w8.body.drop 2 with|.cons (.for _ _ b) _=>b.drop 2|_=>.nil) ⟨n0 (λ_=>True) (.n 5) (d4 (Zg P G (n+1)) (match w8.body.drop 2 with|.cons (.for _ _ b) _=>b|_=>.nil)) ⟨d4 (Zg P G (n+1)) (w8.body.drop 3) (f6 Q),(f6 Q).rt,(f6 Q).bk,(f6 Q).ct⟩ ds,(f6 Q).rt,d4 (Zg P G (n+1)) (w8.body.drop 3) (f6 Q),n0 (λ_=>True) (.n 5) (d4 (Zg P G (n+1)) (match w8.body.drop 2 with|.cons (.for _ _ b) _=>b|_=>.nil)) ⟨d4 (Zg P G (n+1)) (w8.body.drop 3) (f6 Q),(f6 Q).rt,(f6 Q).bk,(f6 Q).ct⟩ ds⟩ [AA (.ref da),AA (.int most),AA (.int lines),AA (.tup (Γ.map Kd.d)),AA (.int (v4 Γ:Nat)),AA d,AA k.d] st4:=by
   intro k hk bk nk;have lk:=Kd.bd_le bk;simp only[w8,Ss.drop];∎;have ex:(if(k.cnt:Int)>1 then(k.cnt:Int)else 1)=((max 1 k.cnt:Nat):Int):=by split<;>lia
   have em:((v4 Γ:Nat):Int)*((max 1 k.cnt:Nat):Int)=((v4 (Γ++[k]):Nat):Int):=by rw[aj9];exact(IJ _ _).symm
   refine⟨by rw[B.count];rfl,u8 B.toPB0 k (m:=16) ⋯ (C8 bk) ∅ ?_⟩;rfl';rw[ex,em];refine⟨J7 ⟨⋯,⋯⟩,?_⟩
   by_cases hle:((v4 (Γ++[k]):Nat):Int)<=(lines:Nat)
   ·simp only[hle,if_true];∎;refine⟨by rw[B.count];rfl,u8 B.toPB0 k (m:=16) ⋯ (C8 bk) ∅ ?_⟩;rfl';rw[ex,em];refine⟨J7 ⟨⋯,⋯⟩,?_⟩;simp only[AI]at h1;∎;refine⟨t3 (by simp only[Aj];lia),ih _ _ ⟨I4,K4,Γ++[k],_,_,by rw[BI];rfl,by simp;lia,λc hc=>?_,⋯⟩⟩
    rcases Ax.mp hc with hc|hc
    ·exact h2 c hc
    ·simp only[Ef]at hc;subst hc;exact⟨hk,bk,nk⟩
   ·simp only[hle,if_false];simp only[AI]at h1;exact ih _ _ ⟨I4,K4,Γ,_,_,rfl,⋯,h2,h3⟩
  rfl'
  by_cases e1:r4=1
  ·simp only[e1,if_true];∎;exact fin .non (.inr rfl) trivial (Ar _)
  ·simp only[e1,if_false];exact fin k (.inl g3) b3 n3
end
def pfw:FW pf 44 2:=⟨⟨λ_=>rfl,λ_=>rfl,rfl,∅⟩,.inl rfl,∅,λ_=>∅,by unfold nd;lia,λc z=>by cases z;exact .inl ∅,λc hc=>by simp[pf]at hc;lia,nofun⟩
def ffw{ex:List D}{m:Nat}(h1:w≠"row")(h2:w≠"kind")(hp:D.pures ex=AC)(hl:ex.length<=10)(hm:m<=1000):FW (ff w ex m) 32 m:=⟨⟨λz=>absurd z h1,λz=>absurd z h2,hp,hl⟩,.inl rfl,hm,λ_=>by simp[ff],by unfold nd;lia,λc z=>by cases z;exact .inr ∅,λc hc=>by simp[ff]at hc;lia,λz=>absurd z h2⟩
def pu1(k:Kd):D.pures [k.d]=AC:=by rw[g9,p0];rfl
abbrev Pg.rd(g:Pg):Prop:=(∀i,g=.name i->i<10000)/\∀k:Kd,(∃t,g=.left k t\/g=.right k t\/g=.way k t\/g=.never k t)->k.nest<=6
def l8{g:Pg}(hk:g.kn 6)(hn:g.nm):g.rd:=⟨λi e=>by subst e;exact hn,λk⟨t,e⟩=>by rcases e with e|e|e|e<;>(subst e;exact hk.1)⟩
def ch7:∀g:Pg,g.kn 6->g.nm->g.tr.wf λt=>∃g:Pg,t=g.tr/\g.rd:=by
 intro g
 induction g with
 |name i=>intro a b;exact⟨_,rfl,l8 a b⟩
 |star=>intro a b;exact⟨_,rfl,l8 a b⟩
 |pair t u it iu=>intro a b;exact⟨⟨_,rfl,l8 a b⟩,pfw,Bj _,it a.1 b.1,iu a.2 b.2,trivial⟩
 |first t it=>intro a b;exact⟨⟨_,rfl,l8 a b⟩,ffw ∅ ∅ rfl ∅ ∅,Bj _,it a b,trivial⟩
 |second t it=>intro a b;exact⟨⟨_,rfl,l8 a b⟩,ffw ∅ ∅ rfl ∅ ∅,Bj _,it a b,trivial⟩
 |left k t it=>intro a b;exact⟨⟨_,rfl,l8 a b⟩,ffw ∅ ∅ (pu1 k) (BR rfl) ∅,Bj _,it a.2 b,trivial⟩
 |right k t it=>intro a b;exact⟨⟨_,rfl,l8 a b⟩,ffw ∅ ∅ (pu1 k) (BR rfl) ∅,Bj _,it a.2 b,trivial⟩
 |way k t it=>intro a b;exact⟨⟨_,rfl,l8 a b⟩,ffw ∅ ∅ (pu1 k) (BR rfl) ∅,Bj _,it a.2 b,trivial⟩
 |never k t it=>intro a b;exact⟨⟨_,rfl,l8 a b⟩,ffw ∅ ∅ (pu1 k) (BR rfl) ∅,Bj _,it a.2 b,trivial⟩
 |give t u it iu=>intro a b;exact⟨⟨_,rfl,l8 a b⟩,ffw ∅ ∅ rfl ∅ ∅,Bj _,it a.1 b.1,iu a.2 b.2,trivial⟩
 |lets t u it iu=>intro a b;exact⟨⟨_,rfl,l8 a b⟩,ffw ∅ ∅ rfl ∅ ∅,Bj _,it a.1 b.1,iu a.2 b.2,trivial⟩
 |case t u v it iu iv=>intro a b;exact⟨⟨_,rfl,l8 a b⟩,ffw ∅ ∅ rfl ∅ ∅,Bj _,it a.1 b.1,iu a.2.1 b.2.1,iv a.2.2 b.2.2,trivial⟩
def cf6:∀g:Pg,g.kn 6->g.nm->(Pc.n g.dl g.pcs).wf λd ps=>∃g:Pg,d=g.dl/\ps=g.pcs/\g.kn 6/\∀i,g=.name i->i<10000:=by
 intro g
 induction g with
 |name|star=>intro a b;exact⟨⟨_,rfl,rfl,a,(l8 a b).1⟩,trivial,trivial⟩
 |pair t u it iu=>intro a b;exact⟨⟨_,rfl,rfl,a,(l8 a b).1⟩,trivial,it a.1 b.1,trivial,iu a.2 b.2,trivial,trivial⟩
 |first t it|second t it=>intro a b;exact⟨⟨_,rfl,rfl,a,(l8 a b).1⟩,trivial,trivial,it a b,trivial,trivial⟩
 |left k t it|right k t it|way k t it|never k t it=>intro a b;exact⟨⟨_,rfl,rfl,a,(l8 a b).1⟩,trivial,trivial,trivial,trivial,it a.2 b,trivial,trivial⟩
 |give t u it iu|lets t u it iu=>intro a b;exact⟨⟨_,rfl,rfl,a,(l8 a b).1⟩,trivial,trivial,it a.1 b.1,trivial,iu a.2 b.2,trivial,trivial⟩
 |case t u v it iu iv=>intro a b;exact⟨⟨_,rfl,rfl,a,(l8 a b).1⟩,trivial,trivial,it a.1 b.1,trivial,iu a.2.1 b.2.1,trivial,iv a.2.2 b.2.2,trivial,trivial⟩
abbrev Pg.wd:Pg->String
 |.name _=>"name"|.star=>"star"|.pair _ _=>"pair"|.first _=>"first"|.second _=>"second"|.left _ _=>"left"|.right _ _=>"right"
 |.case _ _ _=>"case"|.way _ _=>"way"|.give _ _=>"give"|.lets _ _=>"let"|.never _ _=>"never"
def t91:tx [91]=AD "[":=by decide
def chw:∀w∈["fst","snd","inl","inr","case","way","give","let","never"],ch ("["++w++" ")=91::(ch w++[32]):=by decide
abbrev be5:Ss:=D9.body.tl'.tl'.tl'.tl'.tl'.tl'.tl'
def a79(hi:i<10000):((i:Int).natAbs).log2<1920:=by
 show i.log2<1920
 by_cases h0:i=0
 ·subst h0;decide
 ·exact Ah ((log2_lt h0).2 (Ah hi (by decide:10000<=2^14))) ∅
def au2(p:Pg)(h:p.nm):∀c∈p.kids,c.nm:=by
 cases p<;>simp only[Pg.nm,Pg.kids,AT,Ac,or_false,false_imp_iff,implies_true,forall_eq_or_imp,forall_eq]at h ⊢<;>exact h
def al0(p:Pg):∀c∈p.kids,c.parts<=p.parts:=by
 cases p<;>simp only[Pg.parts,Pg.kids,AT,Ac,or_false,false_imp_iff,implies_true,forall_eq_or_imp,forall_eq]<;>lia
section
variable (T:PWp P G) {n:Nat} 
include T
def bu9(g:Pg)(hk:g.kn 6)(hn:g.nm)(hp:g.parts<=200)(q:∀st',Kp [] st st'->Q (.str (tx g.tr.s)) st'):sem P G (n+6) "show_program" [g.d] st Q:=by
 refine d5 T.sp rfl [AA g.d] rfl ?_;unfold X6;have m1:=ck9 g;have l1:=U0 g hk hn;have et:(Pc.n g.dl g.pcs).t=g.tr.s:=cn1 g;∎;rw[F5 g];refine⟨by rw[T.wr];rfl,by rw[T.pp];rfl,Z5 T.toPWr (by rw[T.pp];rfl) (λd ps⟨g,e1,e2,hk,hi⟩st Q q=>by rw[e1,<-F5];exact bt0 T g hk hi (e2▸q)) (cf6 g hk hn) (by show 1+g.pcs.m<=_;lia) (by rw[et];lia) λst' K=>b8 ?_⟩;rw[et];exact q st' K
def ao2(g:Pg)(hk:g.kn 6)(hn:g.nm)(hp:g.parts<=200)(q:∀st',Kp [] st st'->Q g.d st'):sem P G (n+9) "read_program" [.str (tx g.tr.s)] st Q:=by
 refine d5 T.rp rfl [AA (.str (tx g.tr.s))] rfl ?_;unfold X7;have n1:=cm4 g;have l1:=U0 g hk hn;∎;refine⟨by rw[T.rw'];rfl,by rw[T.bp];rfl,aa0 T.toPRd (R:=λt=>∃g:Pg,t=g.tr/\g.rd) (by rw[T.bp];rfl) (λt⟨g,e,h1,h2⟩=>e▸bu5 T.toPRp g h1 λk z=>by
  have:=bh0 k;have p6:2^k.nest<=2^6:=AW ∅ (h2 k z);lia) rfl ⋯ (az3 g) (ch7 g hk hn) ⋯ λst' K=>b8 ?_⟩
 rw[cn8];exact q st' K
omit T in
theorem A2{sb:AM}{g:D}{x:Str}{kvs:List (Key×D)}{ts:List (List Nat)}(h1:st da=AA (.dct kvs))(h2:st sb=AA (.lst (ts.map λt=>.str (tx t))))(hw:(u2 kvs (.inr x)).getD (.str x)=.str (AD w))(hl:(ts.map Ap).sum+ts.length<=500000)(hj:(i8 [32] ts).length<=500000)(hc:(ch w).length<=10)(q:Q (.str (tx (91::(ch w++(32::(i8 [32] ts++[93])))))) st):
  d4 (Zg P G n) be5 (f6 Q) [AA g,AA (.str x),AA (.ref sb),AA (.ref da)] st:=by
 unfold be5 D9;simp only[Ss.tl'];∎;have ew:AD w=tx (ch w):=ae2 _;refine⟨⟨kvs,h1⟩,kvs,h1,?_⟩;rw[hw,ew,<-t91,<-t32,<-t93];refine k9 (by simp only[AI,AO];lia) ?_;rw[j8];refine k9 (by simp only[AJ,AI,AO];lia) ?_;rw[j8];refine⟨_,rfl,sb,ts.map tx,rfl,.inl (by rw[h2,Dw];rfl),aa1 (by simp only[AI,AO];lia),?_⟩;rw[ac9];refine k9 (by simp only[AJ,AI,AO];lia) ?_;rw[j8];refine k9 (by simp only[AJ,AI,AO];lia) (b8 ?_);rw[j8];refine cast (congrArg (λl=>Q (.str (tx l)) st) ?_) q;simp
def al3(B:PB P):∀(h:Nat)(g:Pg){n:Nat}{st:Sto}{Q:DK},g.kn 6->g.nm->g.parts<=200->g.hgt<=h->h+10<=n->(∀st',Kp [] st st'->Q (.str (tx g.tr.s)) st')->sem P G n "_law_shown" [g.d] st Q:=by
 intro h
 induction h with
 |zero=>intro g n st Q _ _ _ hp;cases g<;>simp only[Pg.hgt]at hp<;>lia
 |succ h ih=>
  intro g n st Q hk hm hpt hh hn q;obtain⟨n,rfl⟩:∃m,n=m+10:=⟨n-10,⋯⟩;refine d5 T.ls rfl [AA g.d,AE,AE,AE] rfl ?_;unfold D9;have key:∀(sa:AM)(st2:Sto),Kp [] st st2->st2 sa=AA (.lst (g.kids.map λc=>D.str (tx c.tr.s)))->d4 (Zg P G (n+9)) D9.body.tl'.tl' (f6 Q) [AA g.d,AA (.str (AD g.wd)),AA (.ref sa),AE] st2:=by
   intro sa st2 K hs;unfold D9;simp only[Ss.tl'];have hkid:∀c∈g.kids,c.tr.s.length<=60000:=λc hc=>by
    have h1:=U0 c (Pg.kn_kids g hk c hc) (au2 g hm c hc);have h2:=al0 g c hc;lia
   cases g with
   |name i=>
    have hi:i<10000:=hm;unfold Pg.d Pg.wd;(iterate 2 ∎);have hlog:=a79 hi;rw[<-U5,<-t35];refine⟨hlog,k9 ?_ (b8 ?_)⟩
    ·have:=O4 hi;simp only[AI,AO];lia
    rw[j8];exact q st2 K
   |star=>
    unfold Pg.d Pg.wd;(iterate 3 ∎);rw[<-t46];exact b8 (q st2 K)
   |pair t u=>
    unfold Pg.d Pg.wd;(iterate 4 ∎);rw[F2 (.inl hs)];refine⟨_,rfl,?_⟩;have l1:=hkid t (by simp[Pg.kids]);have l2:=hkid u (by simp[Pg.kids]);dsimp only;rw[<-t40,<-t41,<-t44];refine k9 (by simp only[AI,AO];lia) ?_;rw[j8];refine k9 (by simp only[AJ,AI,AO];lia) ?_;rw[j8,F2 (.inl hs)];refine⟨_,rfl,?_⟩;dsimp only;refine k9 (by simp only[AJ,AI,AO];lia) ?_;rw[j8];refine k9 (by simp only[AJ,AI,AO];lia) (b8 ?_);rw[j8];refine cast (congrArg (λl=>Q (.str (tx l)) st2) ?_) (q st2 K);simp[Pg.tr,Tr.s,two,Trs.s,Trs.ft,pf]
   |first t=>
    unfold Pg.d Pg.wd;(iterate 4 ∎);intro da hda;∎;simp only[g9,j5,f7,Aa,true_and,Br,DR,g5,i6,BE,decide_true,decide_false,Bool.or_true,BF,Bool.true_or,BG,f9,if_true,Ae,if_false];refine⟨Ar _,?_⟩;have hl:=hkid;simp only[Pg.kids,AT,Ac,or_false,forall_eq_or_imp,forall_eq]at hl;refine A2 (w:="fst") (ts:=[t.tr.s]) b7 (d9 hs hda) rfl (by simp only[AY,Be,Bs,Dy,AI,AO];lia) (by simp only[i8,AJ,AI,AO];lia) ∅ ?_;refine cast (congrArg (λl=>Q (.str (tx l)) (b0 st2 da _)) ?_) (q _ (K.new hda));have e:ch "[fst "=_:=chw "fst" ∅;simp[Pg.tr,Tr.s,i5,Trs.s,Trs.ft,ff,i8,e]
   |second t=>
    unfold Pg.d Pg.wd;(iterate 4 ∎);intro da hda;∎;simp only[g9,j5,f7,Aa,true_and,Br,DR,g5,i6,BE,decide_true,decide_false,Bool.or_true,BF,Bool.true_or,BG,f9,if_true,Ae,if_false];refine⟨Ar _,?_⟩;have hl:=hkid;simp only[Pg.kids,AT,Ac,or_false,forall_eq_or_imp,forall_eq]at hl;refine A2 (w:="snd") (ts:=[t.tr.s]) b7 (d9 hs hda) rfl (by simp only[AY,Be,Bs,Dy,AI,AO];lia) (by simp only[i8,AJ,AI,AO];lia) ∅ ?_;refine cast (congrArg (λl=>Q (.str (tx l)) (b0 st2 da _)) ?_) (q _ (K.new hda));have e:ch "[snd "=_:=chw "snd" ∅;simp[Pg.tr,Tr.s,i5,Trs.s,Trs.ft,ff,i8,e]
   |case t u v=>
    unfold Pg.d Pg.wd;(iterate 4 ∎);intro da hda;∎;simp only[g9,j5,f7,Aa,true_and,Br,DR,g5,i6,BE,decide_true,decide_false,Bool.or_true,BF,Bool.true_or,BG,f9,if_true,Ae,if_false];refine⟨Ar _,?_⟩;have hl:=hkid;simp only[Pg.kids,AT,Ac,or_false,forall_eq_or_imp,forall_eq]at hl;refine A2 (w:="case") (ts:=[t.tr.s,u.tr.s,v.tr.s]) b7 (d9 hs hda) rfl (by simp only[AY,Be,Bs,Dy,AI,AO];lia) (by simp only[i8,AJ,AI,AO];lia) ∅ ?_;refine cast (congrArg (λl=>Q (.str (tx l)) (b0 st2 da _)) ?_) (q _ (K.new hda));have e:ch "[case "=_:=chw "case" ∅;simp[Pg.tr,Tr.s,two,Trs.s,Trs.ft,ff,i8,e]
   |give t u=>
    unfold Pg.d Pg.wd;(iterate 4 ∎);intro da hda;∎;simp only[g9,j5,f7,Aa,true_and,Br,DR,g5,i6,BE,decide_true,decide_false,Bool.or_true,BF,Bool.true_or,BG,f9,if_true,Ae,if_false];refine⟨Ar _,?_⟩;have hl:=hkid;simp only[Pg.kids,AT,Ac,or_false,forall_eq_or_imp,forall_eq]at hl;refine A2 (w:="give") (ts:=[t.tr.s,u.tr.s]) b7 (d9 hs hda) rfl (by simp only[AY,Be,Bs,Dy,AI,AO];lia) (by simp only[i8,AJ,AI,AO];lia) ∅ ?_;refine cast (congrArg (λl=>Q (.str (tx l)) (b0 st2 da _)) ?_) (q _ (K.new hda));have e:ch "[give "=_:=chw "give" ∅;simp[Pg.tr,Tr.s,two,Trs.s,Trs.ft,ff,i8,e]
   |lets t u=>
    unfold Pg.d Pg.wd;(iterate 4 ∎);intro da hda;∎;simp only[g9,j5,f7,Aa,true_and,Br,DR,g5,i6,BE,decide_true,decide_false,Bool.or_true,BF,Bool.true_or,BG,f9,if_true,Ae,if_false];refine⟨Ar _,?_⟩;have hl:=hkid;simp only[Pg.kids,AT,Ac,or_false,forall_eq_or_imp,forall_eq]at hl;refine A2 (w:="let") (ts:=[t.tr.s,u.tr.s]) b7 (d9 hs hda) rfl (by simp only[AY,Be,Bs,Dy,AI,AO];lia) (by simp only[i8,AJ,AI,AO];lia) ∅ ?_;refine cast (congrArg (λl=>Q (.str (tx l)) (b0 st2 da _)) ?_) (q _ (K.new hda));have e:ch "[let "=_:=chw "let" ∅;simp[Pg.tr,Tr.s,two,Trs.s,Trs.ft,ff,i8,e]
   |left k t=>
    unfold Pg.d Pg.wd;(iterate 4 ∎);intro da hda;∎;simp only[g9,j5,f7,Aa,true_and,Br,DR,g5,i6,BE,decide_true,decide_false,Bool.or_true,BF,Bool.true_or,BG,f9,if_true,Ae,if_false];refine⟨Ar _,?_⟩;have hk6:k.nest<=6:=hk.1;have hl:=hkid t (by simp[Pg.kids]);have lk:k.tr.s.length<=253:=by
     have:=A4 k;have p6:2^k.nest<=2^6:=AW ∅ hk6;lia
    ∎;refine⟨by rw[T.lk];rfl,N1 T.toPWk k ⋯ ⋯ λp hp=>⟨_,_,b7,d9 (d9 hs hda) hp,t3 (by simp[Pg.kids]),λb hb=>?_⟩⟩;refine A2 (w:="inl") (ts:=[k.tr.s,t.tr.s]) (d9 (d9 b7 hp) hb) b7 rfl (by simp only[AY,Be,Bs,Dy,AI,AO];lia) (by simp only[i8,AJ,AI,AO];lia) ∅ ?_;refine cast (congrArg (λl=>Q (.str (tx l)) (b0 _ b _)) ?_) (q _ (((K.new hda).new hp).new hb));have e:ch "[inl "=_:=chw "inl" ∅;simp[Pg.tr,Tr.s,i5,Trs.s,Trs.ft,ff,i8,e]
   |right k t=>
    unfold Pg.d Pg.wd;(iterate 4 ∎);intro da hda;∎;simp only[g9,j5,f7,Aa,true_and,Br,DR,g5,i6,BE,decide_true,decide_false,Bool.or_true,BF,Bool.true_or,BG,f9,if_true,Ae,if_false];refine⟨Ar _,?_⟩;have hk6:k.nest<=6:=hk.1;have hl:=hkid t (by simp[Pg.kids]);have lk:k.tr.s.length<=253:=by
     have:=A4 k;have p6:2^k.nest<=2^6:=AW ∅ hk6;lia
    ∎;refine⟨by rw[T.lk];rfl,N1 T.toPWk k ⋯ ⋯ λp hp=>⟨_,_,b7,d9 (d9 hs hda) hp,t3 (by simp[Pg.kids]),λb hb=>?_⟩⟩;refine A2 (w:="inr") (ts:=[k.tr.s,t.tr.s]) (d9 (d9 b7 hp) hb) b7 rfl (by simp only[AY,Be,Bs,Dy,AI,AO];lia) (by simp only[i8,AJ,AI,AO];lia) ∅ ?_;refine cast (congrArg (λl=>Q (.str (tx l)) (b0 _ b _)) ?_) (q _ (((K.new hda).new hp).new hb));have e:ch "[inr "=_:=chw "inr" ∅;simp[Pg.tr,Tr.s,i5,Trs.s,Trs.ft,ff,i8,e]
   |way k t=>
    unfold Pg.d Pg.wd;(iterate 4 ∎);intro da hda;∎;simp only[g9,j5,f7,Aa,true_and,Br,DR,g5,i6,BE,decide_true,decide_false,Bool.or_true,BF,Bool.true_or,BG,f9,if_true,Ae,if_false];refine⟨Ar _,?_⟩;have hk6:k.nest<=6:=hk.1;have hl:=hkid t (by simp[Pg.kids]);have lk:k.tr.s.length<=253:=by
     have:=A4 k;have p6:2^k.nest<=2^6:=AW ∅ hk6;lia
    ∎;refine⟨by rw[T.lk];rfl,N1 T.toPWk k ⋯ ⋯ λp hp=>⟨_,_,b7,d9 (d9 hs hda) hp,t3 (by simp[Pg.kids]),λb hb=>?_⟩⟩;refine A2 (w:="way") (ts:=[k.tr.s,t.tr.s]) (d9 (d9 b7 hp) hb) b7 rfl (by simp only[AY,Be,Bs,Dy,AI,AO];lia) (by simp only[i8,AJ,AI,AO];lia) ∅ ?_;refine cast (congrArg (λl=>Q (.str (tx l)) (b0 _ b _)) ?_) (q _ (((K.new hda).new hp).new hb));have e:ch "[way "=_:=chw "way" ∅;simp[Pg.tr,Tr.s,i5,Trs.s,Trs.ft,ff,i8,e]
   |never k t=>
    unfold Pg.d Pg.wd;(iterate 4 ∎);intro da hda;∎;simp only[g9,j5,f7,Aa,true_and,Br,DR,g5,i6,BE,decide_true,decide_false,Bool.or_true,BF,Bool.true_or,BG,f9,if_true,Ae,if_false];refine⟨Ar _,?_⟩;have hk6:k.nest<=6:=hk.1;have hl:=hkid t (by simp[Pg.kids]);have lk:k.tr.s.length<=253:=by
     have:=A4 k;have p6:2^k.nest<=2^6:=AW ∅ hk6;lia
    ∎;refine⟨by rw[T.lk];rfl,N1 T.toPWk k ⋯ ⋯ λp hp=>⟨_,_,b7,d9 (d9 hs hda) hp,t3 (by simp[Pg.kids]),λb hb=>?_⟩⟩;refine A2 (w:="never") (ts:=[k.tr.s,t.tr.s]) (d9 (d9 b7 hp) hb) b7 rfl (by simp only[AY,Be,Bs,Dy,AI,AO];lia) (by simp only[i8,AJ,AI,AO];lia) ∅ ?_;refine cast (congrArg (λl=>Q (.str (tx l)) (b0 _ b _)) ?_) (q _ (((K.new hda).new hp).new hb));have e:ch "[never "=_:=chw "never" ∅;simp[Pg.tr,Tr.s,i5,Trs.s,Trs.ft,ff,i8,e]
  ∎;rw[F5];refine⟨.str (AD g.wd),by rw[Q2];cases g<;>rfl,?_⟩;rw[<-F5];∎;refine⟨by rw[B.inner];rfl,al8 B g ?_⟩;rfl';refine⟨by rw[Aj];cases g<;>simp only[Pg.kids,AI,AO]<;>decide,?_⟩;refine E4 (λl acc env' st'=>Kp [] st st'/\∃(pre suf:List Pg)(x:Option D),g.kids=pre++suf/\l=suf.map Pg.d/\env'=[x]/\acc=(pre.map λc=>D.str (tx c.tr.s))) ?_ ?_ _ _ _ _ ⟨Kp.refl,[],g.kids,AE,rfl,rfl,rfl,rfl⟩
  ·rintro acc env' st' ⟨K,pre,suf,x,ek,el,rfl,rfl⟩;refine⟨trivial,λa ha=>?_⟩;have es:suf=[]:=by simpa using el.symm
   subst es;rw[BP]at ek;exact key a _ (K.new ha) (by rw[b7,ek])
  ·rintro d ds acc env' st' ihc ⟨K,pre,suf,x,ek,el,rfl,rfl⟩;refine⟨trivial,?_⟩;cases suf with
   |nil=>simp at el
   |cons c suf=>
    simp only[AY,As]at el;obtain⟨rfl,rfl⟩:=el;rfl';have hcm:c∈g.kids:=by rw[ek];simp
    have hc:=Pg.hgt_kids g c hcm;refine⟨by rw[T.ls];rfl,ih c (Pg.kn_kids g hk c hcm) (au2 g hm c hcm) (Al (al0 g c hcm) hpt) ⋯ ⋯ λst2 K2=>?_⟩;exact ihc _ _ _ ⟨K.trans K2,pre++[c],suf,_,by rw[ek];simp,rfl,rfl,by rw[BI];rfl⟩
end
structure PRt(P:d7)(G:Gs):Prop extends PRd P G where
 bt:P "begin_thing"=AA w6
 rt:P "read_thing"=AA Y3
mutual
inductive Th where
 |u|p (a b:Th)|l (a:Th)|r (a:Th)|w (k:Ths)
inductive Ths where
 |nil|cons (t:Th) (r:Ths)
end
mutual
noncomputable def Th.d:Th->D
 |.u=>.tup []
 |.p a b=>.tup [.str "p",a.d,b.d]
 |.l a=>.tup [.str "l",a.d]
 |.r a=>.tup [.str "r",a.d]
 |.w k=>.tup [.str "w",.tup k.ds]
noncomputable def Ths.ds:Ths->List D
 |.nil=>[]
 |.cons t r=>t.d::r.ds
end
abbrev tf(w:String)(m:D)(b e:List Nat):Fr:=⟨w,[],m,b,e⟩
mutual
noncomputable def Th.tr:Th->Tr
 |.u=>.leaf [] [46]
 |.p a b=>.node (tf "p" (.int 2) [44] [41]) [40] 44 (two a.tr b.tr)
 |.l a=>.node (tf "l" (.int 1) [] []) [60] 44 (.cons a.tr .nil)
 |.r a=>.node (tf "r" (.int 1) [] []) [62] 44 (.cons a.tr .nil)
 |.w .nil=>.leaf [.str "w",.tup []] [123,125]
 |.w (.cons t r)=>.node (tf "row" .non [44] [125]) [123] 44 (.cons t.tr r.trs)
noncomputable def Ths.trs:Ths->Trs
 |.nil=>.nil
 |.cons t r=>.cons t.tr r.trs
end
mutual
theorem G1:∀t:Th,t.tr.v=t.d
 |.u=>rfl
 |.p a b=>by show D.tup _=_;simp only[two,Trs.vs,G1 a,G1 b];rfl
 |.l a=>by show D.tup _=_;simp only[Trs.vs,G1 a];rfl
 |.r a=>by show D.tup _=_;simp only[Trs.vs,G1 a];rfl
 |.w .nil=>rfl
 |.w (.cons t r)=>by show D.tup [_,.tup (_::_)]=D.tup [_,.tup (_::_)];rw[G1 t,a88 r]
theorem a88:∀k:Ths,k.trs.vs=k.ds
 |.nil=>rfl
 |.cons t r=>by show _::_=_::_;rw[G1 t,a88 r]
end
def b10(t:Th):∃c l,t.tr.s=c::l/\c≠125:=by
 cases t with
 |u=>exact⟨46,_,rfl,∅⟩
 |p=>exact⟨40,_,rfl,∅⟩
 |l=>exact⟨60,_,rfl,∅⟩
 |r=>exact⟨62,_,rfl,∅⟩
 |w k=>cases k with
  |nil=>exact⟨123,_,rfl,∅⟩
  |cons=>exact⟨123,_,rfl,∅⟩
abbrev Ss.tl:Ss->Ss
 |.nil=>.nil
 |.cons _ r=>r
section
variable (T:PRt P G) {n:Nat} {W:List Nat} 
include T
def bq9(t:Th):BOk P G (n+3) "begin_thing" t.tr:=by
 have go:∀(st:Sto)(r:AM)(W:List Nat)(p:Nat)(Q:DK)(c:Nat)(s:String)(l:List Nat),RdA st r W p->W.length<=1000000->p<=W.length->W.drop p=c::l->tx [c]=AD s->d4 (Zg P G (n+2)) (w6.body.tl) (f6 Q) [AA (.ref r),AA (.str (AD s))] (b0 st r (.ins "Reader" (rdF W (p+1))))->sem P G (n+3) "begin_thing" [.ref r] st Q:=by
  intro st r W p Q c s l hr hw hp hd hc k;refine d5 T.bt rfl [AA (.ref r),AE] rfl ?_;unfold w6;∎;refine⟨r,"Reader",_,rfl,hr,rfl,by rw[T.sg];rfl,A0 T.toPRd hr hw hp ?_⟩;rw[hd,Cg,EH,hc];exact k
 have bg:∀(w:String)(m:D)(b e op:List Nat)(sp:Nat)(k:Trs),(∀(st:Sto)(r:AM)(W:List Nat)(p:Nat)(c8:List Nat)(Q:DK),RdA st r W p->W.length<=1000000->(∀c∈W,c<1114112)->p<=W.length->W.drop p=op++(k.s sp++c8)->((∀st' fa pa,b0 st r (.ins "Reader" (rdF W (p+1))) fa=AE->b0 st r (.ins "Reader" (rdF W (p+1))) pa=AE->RdA st' r W (p+1)->BgA st' fa pa (tf w m b e) "" []->Kp [] (b0 st r (.ins "Reader" (rdF W (p+1)))) st'->(f6 Q).rt (.ref fa) st')->sem P G (n+3) "begin_thing" [.ref r] st Q))->op.length=1->BOk P G (n+3) "begin_thing" (.node (tf w m b e) op sp k):=by
  intro w m b e op sp k h ho st r W p c8 Q hr hw hok hp hd q;refine h st r W p c8 Q hr hw hok hp hd λst' fa pa n1 n2 hr' hb K=>b8 (q st' fa pa (D6 hr n1) (D6 hr n2) (ho.symm▸hr') hb (Kp.trans (Kp.refl.put ∎) (K.more ∎)))
 cases t with
 |u=>
  intro st r W p c8 Q hr hw hok hp hd hn q;refine go st r W p Q 46 "." _ hr hw hp hd ∅ ?_;unfold w6 Ss.tl;(iterate 2 ∎);exact b8 (q _ b7 (Kp.refl.put ∎))
 |l a=>
  refine bg "l" (.int 1) [] [] [60] 44 _ (λst r W p c8 Q hr hw hok hp hd q=>go st r W p Q 60 "<" _ hr hw hp hd ∅ ?_) rfl;unfold w6 Ss.tl;(iterate 3 ∎);exact⟨C9 T.toPRd (n:=n+1),C5 T.toPRd (tf "l" (.int 1) [] []) b7 q⟩
 |r a=>
  refine bg "r" (.int 1) [] [] [62] 44 _ (λst r W p c8 Q hr hw hok hp hd q=>go st r W p Q 62 ">" _ hr hw hp hd ∅ ?_) rfl;unfold w6 Ss.tl;(iterate 4 ∎);exact⟨C9 T.toPRd (n:=n+1),C5 T.toPRd (tf "r" (.int 1) [] []) b7 q⟩
 |p a b=>
  refine bg "p" (.int 2) [44] [41] [40] 44 _ (λst r W p c8 Q hr hw hok hp hd q=>go st r W p Q 40 "(" _ hr hw hp hd ∅ ?_) rfl;unfold w6 Ss.tl;(iterate 5 ∎);exact⟨C9 T.toPRd (n:=n+1),C5 T.toPRd (tf "p" (.int 2) [44] [41]) b7 q⟩
 |w k=>
  cases k with
  |nil=>
   intro st r W p c8 Q hr hw hok hp hd hn q;refine go st r W p Q 123 "{" _ hr hw hp hd ∅ ?_;have hl1:=congrArg Ap hd;simp only[BC,AJ,AI]at hl1;have hd1:W.drop (p+1)=125::c8:=by rw[<-CK,hd];rfl
   unfold w6 Ss.tl;(iterate 5 ∎);refine⟨r,"Reader",_,rfl,b7,rfl,by rw[T.ns];rfl,E3 T.toPRd b7 hw ⋯ ?_⟩;rw[hd1];show j3 .Eq (.str (AD "}")) _ _ _;rfl';∎;refine⟨r,"Reader",_,rfl,b7,rfl,by rw[T.mb];rfl,T3 T.toPRd b7 hw ⋯ (s:=[125]) ∅ (f7 "}") ⟨_,hd1.symm⟩ ?_⟩;∎;exact b8 (q _ b7 ((Kp.refl.put ∎).put ∎))
  |cons t ks=>
   refine bg "row" .non [44] [125] [123] 44 _ (λst r W p c8 Q hr hw hok hp hd q=>go st r W p Q 123 "{" _ hr hw hp hd ∅ ?_) rfl;obtain⟨c,l,e,ne⟩:=b10 t;have hl1:=congrArg Ap hd;simp only[BC,AJ,AI]at hl1;have hd1:∃l',W.drop (p+1)=c::l':=⟨_,by rw[<-CK,hd];show t.tr.s++_++_=_;rw[e];rfl⟩;obtain⟨l',hd1⟩:=hd1;unfold w6 Ss.tl;(iterate 5 ∎);refine⟨r,"Reader",_,rfl,b7,rfl,by rw[T.ns];rfl,E3 T.toPRd b7 hw ⋯ ?_⟩;rw[hd1,Cg,EH];refine C6 (u9 λx hx=>hok x (CT (i:=p+1) (by rw[hd1];simp at hx;simp[hx]))) (f7 "}") ?_;have e125:tx [125]=AD "}":=by decide
   rw[<-e125,decide_eq_false (λz=>ne (by simpa using J8 z))];refine⟨_,rfl,?_⟩;rw[if_neg ∅];(iterate 2 ∎);exact⟨C9 T.toPRd (n:=n+1),_,T.kR,C5 T.toPRd (tf "row" .non [44] [125]) b7 q⟩
end
structure PWt(P:d7)(G:Gs):Prop extends PWr P,PRt P G where
 pt:P "pieces_of_thing"=AA X0
 sh:P "show_thing"=AA Y1
 lt:P "_law_thing_shown"=AA X2
abbrev Th.dl:Th->List D
 |.u=>[]
 |.p a b=>[.str "p",a.d,b.d]
 |.l a=>[.str "l",a.d]
 |.r a=>[.str "r",a.d]
 |.w k=>[.str "w",.tup k.ds]
def P1(t:Th):t.d=.tup t.dl:=by cases t<;>simp only[Th.d,Th.dl]
mutual
noncomputable def Th.pcs:Th->Pcs
 |.u=>.cons (.s [46]) .nil
 |.p a b=>.cons (.s [40]) (.cons (.n a.dl a.pcs) (.cons (.s [44]) (.cons (.n b.dl b.pcs) (.cons (.s [41]) .nil))))
 |.l a=>.cons (.s [60]) (.cons (.n a.dl a.pcs) .nil)
 |.r a=>.cons (.s [62]) (.cons (.n a.dl a.pcs) .nil)
 |.w .nil=>.cons (.s [123,125]) .nil
 |.w (.cons t r)=>.cons (.s [123]) (.cons (.n t.dl t.pcs) r.pt)
noncomputable def Ths.pt:Ths->Pcs
 |.nil=>.cons (.s [125]) .nil
 |.cons t r=>.cons (.s [44]) (.cons (.n t.dl t.pcs) r.pt)
end
mutual
theorem G0:∀t:Th,t.pcs.t=t.tr.s
 |.u=>rfl
 |.p a b=>by simp only[Th.pcs,Pcs.t,Pc.t,G0 a,G0 b,Th.tr,Tr.s,two,Trs.s,Trs.ft,tf];simp
 |.l a=>by simp only[Th.pcs,Pcs.t,Pc.t,G0 a,Th.tr,Tr.s,Trs.s,Trs.ft,tf,BP]
 |.r a=>by simp only[Th.pcs,Pcs.t,Pc.t,G0 a,Th.tr,Tr.s,Trs.s,Trs.ft,tf,BP]
 |.w .nil=>rfl
 |.w (.cons t r)=>by simp only[Th.pcs,Pcs.t,Pc.t,G0 t,a89 r,Th.tr,Tr.s,Trs.s,tf];simp
theorem a89:∀k:Ths,k.pt.t=k.trs.ft 44++[125]
 |.nil=>rfl
 |.cons t r=>by simp only[Ths.pt,Pcs.t,Pc.t,G0 t,a89 r,Ths.trs,Trs.ft];simp
end
mutual
noncomputable def Th.z:Th->Nat
 |.u=>1
 |.p a b=>1+a.z+b.z
 |.l a=>1+a.z
 |.r a=>1+a.z
 |.w k=>1+k.z
noncomputable def Ths.z:Ths->Nat
 |.nil=>0
 |.cons t r=>t.z+r.z
end
mutual
theorem u4:∀t:Th,t.tr.s.length+1<=4*t.z
 |.u=>by decide
 |.p a b=>by have:=u4 a;have:=u4 b;simp only[Th.tr,Tr.s,two,Trs.s,Trs.ft,tf,AJ,AI,AO,Th.z];lia
 |.l a=>by have:=u4 a;simp only[Th.tr,Tr.s,Trs.s,Trs.ft,tf,AJ,AI,AO,Th.z];lia
 |.r a=>by have:=u4 a;simp only[Th.tr,Tr.s,Trs.s,Trs.ft,tf,AJ,AI,AO,Th.z];lia
 |.w .nil=>by decide
 |.w (.cons t r)=>by have:=u4 t;have:=aq3 r;simp only[Th.tr,Tr.s,Trs.s,tf,AJ,AI,AO,Th.z,Ths.z];lia
theorem aq3:∀k:Ths,(k.trs.ft 44).length<=4*k.z
 |.nil=>by decide
 |.cons t r=>by have:=u4 t;have:=aq3 r;simp only[Ths.trs,Trs.ft,AI,AJ,Ths.z];lia
end
mutual
theorem G2:∀t:Th,t.tr.n=t.z
 |.u=>rfl
 |.p a b=>by simp only[Th.tr,Tr.n,two,Trs.n,G2 a,G2 b,Th.z];lia
 |.l a=>by simp only[Th.tr,Tr.n,Trs.n,G2 a,Th.z];lia
 |.r a=>by simp only[Th.tr,Tr.n,Trs.n,G2 a,Th.z];lia
 |.w .nil=>rfl
 |.w (.cons t r)=>by simp only[Th.tr,Tr.n,Trs.n,G2 t,a59 r,Th.z,Ths.z]
theorem a59:∀k:Ths,k.trs.n=k.z
 |.nil=>rfl
 |.cons t r=>by simp only[Ths.trs,Trs.n,G2 t,a59 r,Ths.z]
end
mutual
theorem G3:∀t:Th,t.pcs.m+2<=4*t.z
 |.u=>by decide
 |.p a b=>by have:=G3 a;have:=G3 b;simp only[Th.pcs,Pcs.m,Pc.m,Th.z];lia
 |.l a=>by have:=G3 a;simp only[Th.pcs,Pcs.m,Pc.m,Th.z];lia
 |.r a=>by have:=G3 a;simp only[Th.pcs,Pcs.m,Pc.m,Th.z];lia
 |.w .nil=>by decide
 |.w (.cons t r)=>by have:=G3 t;have:=a64 r;simp only[Th.pcs,Pcs.m,Pc.m,Th.z,Ths.z];lia
theorem a64:∀k:Ths,k.pt.m<=4*k.z+1
 |.nil=>by decide
 |.cons t r=>by have:=G3 t;have:=a64 r;simp only[Ths.pt,Pcs.m,Pc.m,Ths.z];lia
end
abbrev Ths.len:Ths->Nat
 |.nil=>0
 |.cons _ r=>r.len+1
theorem at8:∀k:Ths,k.trs.len=k.len
 |.nil=>rfl
 |.cons t r=>by simp only[Ths.trs,Trs.len,Ths.len,at8 r]
def tfw{m:D}{b e:List Nat}{k:Nat}(h1:w≠"kind")(hm:m=.int k\/(m=.non/\∃x,e=[x]/\44≠x))(hk:k<=1000)(hb:2<=k->44∈b)(he:nf e)(hc:∀c∈e,c<1114112):FW (tf w m b e) 44 k:=⟨⟨λ_=>rfl,λ_=>rfl,rfl,by simp[tf]⟩,hm,hk,hb,.inl ∅,he,hc,λz=>absurd z h1⟩
def nf1{c:Nat}(h:nd c):nf [c]:=λx z=>by cases z;exact h
mutual
noncomputable def Th.sm:Th->Prop
 |.u=>True
 |.p a b=>a.sm/\b.sm
 |.l a=>a.sm
 |.r a=>a.sm
 |.w k=>k.len<=1000/\k.sm
noncomputable def Ths.sm:Ths->Prop
 |.nil=>True
 |.cons t r=>t.sm/\r.sm
end
mutual
theorem F1:∀t:Th,t.sm->t.tr.wf λx=>∃t:Th,x=t.tr
 |.u,_=>⟨.u,rfl⟩
 |.p a b,h=>⟨⟨.p a b,rfl⟩,tfw ∅ (.inl rfl) (BR rfl) (λ_=>∅) (nf1 (.inl ∅)) (λc hc=>by simp at hc;lia),Bj _,F1 a h.1,F1 b h.2,trivial⟩
 |.l a,h=>⟨⟨.l a,rfl⟩,tfw ∅ (.inl rfl) (BR rfl) (λz=>absurd (show(2:Nat)<=1 from z) ∅) nofun nofun,Bj _,F1 a h,trivial⟩
 |.r a,h=>⟨⟨.r a,rfl⟩,tfw ∅ (.inl rfl) (BR rfl) (λz=>absurd (show(2:Nat)<=1 from z) ∅) nofun nofun,Bj _,F1 a h,trivial⟩
 |.w .nil,_=>⟨.w .nil,rfl⟩
 |.w (.cons t r),h=>⟨⟨.w (.cons t r),rfl⟩,tfw ∅ (.inr ⟨rfl,125,rfl,∅⟩) (by have:=h.1;simp only[Trs.len,at8];simp only[Ths.len]at this;lia) (λ_=>∅) (nf1 (.inr ∅)) (λc hc=>by simp at hc;lia),Bj _,F1 t h.2.1,au9 r h.2.2⟩
theorem au9:∀k:Ths,k.sm->k.trs.wf λx=>∃t:Th,x=t.tr
 |.nil,_=>trivial
 |.cons t r,h=>⟨F1 t h.1,au9 r h.2⟩
end
mutual
theorem B7:∀t:Th,∀c∈t.tr.s,c<1114112
 |.u,c,h=>by simp[Th.tr,Tr.s]at h;lia
 |.p a b,c,h=>by
  simp only[Th.tr,Tr.s,two,Trs.s,Trs.ft,tf,Ax,AT,Ac,or_false]at h
  rcases h with rfl|(h|rfl|h)|rfl
  ·decide
  ·exact B7 a c h
  ·decide
  ·exact B7 b c h
  ·decide
 |.l a,c,h=>by
  simp only[Th.tr,Tr.s,Trs.s,Trs.ft,tf,Ax,AT,Ac,or_false]at h
  rcases h with rfl|h
  ·decide
  ·exact B7 a c h
 |.r a,c,h=>by
  simp only[Th.tr,Tr.s,Trs.s,Trs.ft,tf,Ax,AT,Ac,or_false]at h
  rcases h with rfl|h
  ·decide
  ·exact B7 a c h
 |.w .nil,c,h=>by simp[Th.tr,Tr.s]at h;lia
 |.w (.cons t r),c,h=>by
  simp only[Th.tr,Tr.s,Trs.s,tf,Ax,AT,Ac,or_false]at h
  rcases h with rfl|(h|h)|rfl
  ·decide
  ·exact B7 t c h
  ·exact ar8 r c h
  ·decide
theorem ar8:∀k:Ths,∀c∈k.trs.ft 44,c<1114112
 |.nil,c,h=>by simp[Ths.trs,Trs.ft]at h
 |.cons t r,c,h=>by
  simp only[Ths.trs,Trs.ft,AT,Ax]at h
  rcases h with rfl|h|h
  ·decide
  ·exact B7 t c h
  ·exact ar8 r c h
end
mutual
theorem F9:∀t:Th,t.sm->(Pc.n t.dl t.pcs).wf λd ps=>∃t:Th,d=t.dl/\ps=t.pcs/\t.sm
 |.u,h=>⟨⟨.u,rfl,rfl,h⟩,trivial,trivial⟩
 |.p a b,h=>⟨⟨.p a b,rfl,rfl,h⟩,trivial,F9 a h.1,trivial,F9 b h.2,trivial,trivial⟩
 |.l a,h=>⟨⟨.l a,rfl,rfl,h⟩,trivial,F9 a h,trivial⟩
 |.r a,h=>⟨⟨.r a,rfl,rfl,h⟩,trivial,F9 a h,trivial⟩
 |.w .nil,h=>⟨⟨.w .nil,rfl,rfl,h⟩,trivial,trivial⟩
 |.w (.cons t r),h=>⟨⟨.w (.cons t r),rfl,rfl,h⟩,trivial,F9 t h.2.1,au8 r h.2.2⟩
theorem au8:∀k:Ths,k.sm->k.pt.wf λd ps=>∃t:Th,d=t.dl/\ps=t.pcs/\t.sm
 |.nil,_=>⟨trivial,trivial⟩
 |.cons t r,h=>⟨trivial,F9 t h.1,au8 r h.2⟩
end
abbrev thP:Nat->List D->List D
 |_,[]=>[]
 |i,d::l=>.str (if 0<i then tx [44]else tx [123])::d::thP (i+1) l
theorem ac0:∀(l m:List D)(i:Nat),thP i (l++m)=thP i l++thP (i+l.length) m
 |[],m,i=>rfl
 |d::l,m,i=>by simp only[Bm,thP,ac0 l m (i+1),AI];rw[show i+1+l.length=i+(l.length+1) by lia]
theorem ac5:∀(l:List D)(i:Nat),(thP i l).length=2*l.length
 |[],_=>rfl
 |d::l,i=>by simp only[thP,AI,ac5 l (i+1)];lia
theorem ax8:∀(k:Ths)(i:Nat),thP (i+1) k.ds++[.str (tx [125])]=k.pt.l.map Pc.e
 |.nil,i=>rfl
 |.cons t r,i=>by simp only[Ths.ds,thP,Ths.pt,Pcs.l,AY,Pc.e,Bm,ax8 r (i+1),<-P1];simp
theorem aw6:∀k:Ths,k.ds.length=k.len
 |.nil=>rfl
 |.cons t r=>by simp only[Ths.ds,AI,Ths.len,aw6 r]
mutual
theorem y4:∀t:Th,t.d.pure=AC
 |.u=>rfl
 |.p a b=>by simp only[Th.d,t0,g9,j5,f7,y4 a,y4 b,Aa]
 |.l a=>by simp only[Th.d,t0,g9,j5,f7,y4 a,Aa]
 |.r a=>by simp only[Th.d,t0,g9,j5,f7,y4 a,Aa]
 |.w k=>by simp only[Th.d,t0,g9,j5,f7,R9 k,Aa]
theorem R9:∀k:Ths,D.pures k.ds=AC
 |.nil=>rfl
 |.cons t r=>by simp only[Ths.ds,g9,y4 t,R9 r,Aa]
end
def E8{ds:List D}(hp:D.pures ds=AC):j3 .Eq (.tup ds) (.tup []) st Q↔Q (.bl ds.isEmpty) st:=by
 rw[F6,n8];have e:j4 ds []=ds.isEmpty:=by cases ds<;>rfl
 rw[e];exact⟨λh=>h.2.2.2,λh=>⟨by rw[t0];exact hp,rfl,Al (DF _ _) ∅,h⟩⟩
def ch2{p:AM}(h:b0 st p o a=AE):st a=AE:=by
 by_cases e:a=p
 ·subst e;rw[b7]at h;cases h
 ·rwa [g6 e]at h
def t60:tx [60]=AD "<":=by decide
def V7:tx [44]=AD ",":=by decide
def bg1:tx [46]=AD ".":=by decide
def bh3:tx [123]=AD "{":=by decide
def bd0:tx [125]=AD "}":=by decide
def tcc:tx [123,125]=AD "{}":=by decide
section
variable (T:PWt P G) {n:Nat} 
include T
def bq3(t:Th)(hs:t.sm)(q:∀a st',st a=AE->st' a=AA (.lst (t.pcs.l.map Pc.e))->Kp [] st st'->Q (.ref a) st'):sem P G (n+1) "pieces_of_thing" [t.d] st Q:=by
 refine d5 T.pt rfl [AA t.d,AE,AE,AE] rfl ?_;unfold X0;cases t with
 |u=>
  simp only[Th.d];∎;refine(E8 rfl).mpr ⟨_,rfl,?_⟩;rw[if_pos (by rfl)];∎;rw[<-bg1];exact λa ha=>b8 (q a _ ha (by rw[b7];rfl) (Kp.refl.new ha))
 |l a|r a|p a b=>
  simp only[Th.d];∎;refine(E8 (by simp only[g9,j5,f7,y4,Aa])).mpr ⟨_,rfl,?_⟩;rw[if_neg ∎]
  iterate 4 (try((try dsimp only);(first|refine bd6 ?_|rw[av7]);rfl'))
  try rw[<-t60]
  try rw[<-t62]
  try rw[<-t40,<-t41,<-V7]
  exact λa ha=>b8 (q a _ ha (by rw[b7];simp only[Th.pcs,Pcs.l,AY,Be,Pc.e,<-P1]) (Kp.refl.new ha))
 |w k=>
  simp only[Th.d];have hl:k.ds.length<=1000:=by rw[aw6];exact hs.1
  ∎;refine(E8 (by simp only[g9,j5,f7,t0,R9,Aa])).mpr ⟨_,rfl,?_⟩;rw[if_neg ∎];(iterate 4 ∎);intro pa hpa;∎;refine y6 (λl env st'=>∃(dn c8:List D)(x2 x3:Option D),k.ds=dn++c8/\l=j7 dn.length c8/\env=[AA (.tup [.str (AD "w"),.tup k.ds]),AA (.ref pa),x2,x3]/\st' pa=AA (.lst (thP 0 dn))/\Kp [] st st') ?_ ?_ _ _ _ ⟨[],k.ds,AE,AE,rfl,rfl,rfl,b7,Kp.refl.new hpa⟩
  ·rintro env st' ⟨dn,c8,x2,x3,e,el,rfl,h1,K⟩;refine⟨trivial,?_⟩;have er:c8=[]:=by cases c8 with|nil=>rfl|cons=>exact nomatch el
   subst er;rw[BP]at e;∎;rw[v2 (.inl h1)];rfl';have tl:=ac5 dn 0;cases k with
   |nil=>
    have ed:dn=[]:=e.symm;subst ed;rw[if_neg (by simp[thP]),<-tcc];exact λa ha=>b8 (q a _ (nOf (r:=pa) (K.more ∎) ha h1) (by rw[b7];rfl) (K.new ha))
   |cons t r=>
    have ed:dn=t.d::r.ds:=e.symm;have hl2:dn.length<=1000:=by rw[<-e];exact hl
    rw[if_pos (by rw[tl,ed];simp;lia),<-bd0];intro b hb;refine⟨_,_,d9 h1 hb,b7,t3 (by simp only[AI,AO];lia),λa ha=>b8 (q a _ (nOf (r:=pa) (K.more ∎) (ch2 ha) h1) ?_ ((K.new hb).new ha))⟩;rw[b7,ed];have:=ax8 r 0;simp only[thP,Bm,Th.pcs,Pcs.l,AY,Pc.e,<-P1,this];simp
  ·rintro d l env st' ih ⟨dn,c8,x2,x3,e,el,rfl,h1,K⟩;refine⟨trivial,?_⟩;cases c8 with
   |nil=>exact nomatch el
   |cons d0 c8=>
    obtain⟨rfl,rfl⟩:=FU el;have hl2:dn.length<=1000:=by have:=hl;rw[e,AJ]at this;lia
    have tl:=ac5 dn 0;rfl';∎;rw[v9 (.inl h1),<-V7,<-bh3];refine⟨trivial,?_⟩
    by_cases hpos:0<dn.length
    ·rw[if_pos ⋯];intro p hp;rw[P4 (d9 h1 hp) b7];refine⟨t3 (by simp only[AI,AO];lia),ih _ _ ⟨dn++[d0],c8,_,_,by rw[e];simp,by rw[AJ];rfl,rfl,by rw[b7,ac0];simp[thP,hpos],kpN (K.new hp) hpa⟩⟩
    ·rw[if_neg ⋯];intro p hp;rw[P4 (d9 h1 hp) b7];refine⟨t3 (by simp only[AI,AO];lia),ih _ _ ⟨dn++[d0],c8,_,_,by rw[e];simp,by rw[AJ];rfl,rfl,by rw[b7,ac0];simp[thP,hpos],kpN (K.new hp) hpa⟩⟩
def ap3(t:Th)(hs:t.sm)(hz:t.z<=20000)(q:∀st',Kp [] st st'->Q (.str (tx t.tr.s)) st'):sem P G (n+3) "show_thing" [t.d] st Q:=by
 refine d5 T.sh rfl [AA t.d] rfl ?_;unfold Y1;have m1:=G3 t;have l1:=u4 t;have et:(Pc.n t.dl t.pcs).t=t.tr.s:=G0 t;∎;rw[P1 t];refine⟨by rw[T.wr];rfl,by rw[T.pt];rfl,Z5 T.toPWr (by rw[T.pt];rfl) (λd ps⟨t,e1,e2,hs⟩st Q q=>by rw[e1,<-P1];exact bq3 T t hs (e2▸q)) (F9 t hs) (by show 1+t.pcs.m<=_;lia) (by rw[et];lia) λst' K=>b8 ?_⟩;rw[et];exact q st' K
def ap5(t:Th)(hs:t.sm)(hz:t.z<=20000)(q:∀st',Kp [] st st'->Q t.d st'):sem P G (n+6) "read_thing" [.str (tx t.tr.s)] st Q:=by
 refine d5 T.rt rfl [AA (.str (tx t.tr.s))] rfl ?_;unfold Y3;have n1:=G2 t;have l1:=u4 t;∎;refine⟨by rw[T.rw'];rfl,by rw[T.bt];rfl,aa0 T.toPRd (R:=λx=>∃t:Th,x=t.tr) (by rw[T.bt];rfl) (λx⟨t,e⟩=>e▸bq9 T.toPRt t) rfl ⋯ (B7 t) (F1 t hs) ⋯ λst' K=>b8 ?_⟩;rw[G1];exact q st' K
end
mutual
noncomputable def Th.h:Th->Nat
 |.u=>1
 |.p a b=>1+max a.h b.h
 |.l a=>1+a.h
 |.r a=>1+a.h
 |.w k=>1+k.h
noncomputable def Ths.h:Ths->Nat
 |.nil=>0
 |.cons t r=>max t.h r.h
end
abbrev Ths.ls:Ths->List Th
 |.nil=>[]
 |.cons t r=>t::r.ls
theorem ae8:∀k:Ths,k.ds=k.ls.map Th.d
 |.nil=>rfl
 |.cons t r=>by simp only[Ths.ds,Ths.ls,AY,ae8 r]
theorem a05:∀{k:Ths}{t:Th},t∈k.ls->k.sm->t.h<=k.h/\t.z<=k.z/\t.sm
 |.cons u r,t,h,hs=>by
  rcases AT.1 h with rfl|h
  ·exact⟨DX _ _,Nat.le_add_right _ _,hs.1⟩
  ·have:=a05 h hs.2;exact⟨Al this.1 (Cj _ _),Al this.2.1 (Nat.le_add_left _ _),this.2.2⟩
theorem at0:∀(t:Th)(r:Ths),i8 [44] (t.tr.s::r.ls.map λx=>x.tr.s)=t.tr.s++r.trs.ft 44
 |t,.nil=>by simp[i8,Ths.ls,Ths.trs,Trs.ft]
 |t,.cons u r=>by
  show t.tr.s++([44]++i8 [44] (u.tr.s::r.ls.map λx=>x.tr.s))=_;rw[at0 u r];simp[Ths.trs,Trs.ft]
def bf0(k:Ths):123::(i8 [44] (k.ls.map λx=>x.tr.s)++[125])=(Th.w k).tr.s:=by
 cases k with
 |nil=>rfl
 |cons t r=>simp only[Ths.ls,AY,at0,Th.tr,Tr.s,Trs.s,tf];rfl
theorem au7:∀k:Ths,(k.ls.map λx=>x.tr.s.length).sum+k.ls.length<=4*k.z
 |.nil=>Af _
 |.cons t r=>by have:=u4 t;have:=au7 r;simp only[Ths.ls,AY,Bs,AI,Ths.z];lia
theorem a50:∀k:Ths,k.ls.length=k.len
 |.nil=>rfl
 |.cons t r=>by simp only[Ths.ls,AI,Ths.len,a50 r]
section
variable (T:PWt P G) {n:Nat} 
include T
def b03:∀(h:Nat)(t:Th){n:Nat}{st:Sto}{Q:DK},t.sm->t.z<=20000->t.h<=h->h+1<=n->(∀st',Kp [] st st'->Q (.str (tx t.tr.s)) st')->sem P G n "_law_thing_shown" [t.d] st Q:=by
 intro h
 induction h with
 |zero=>intro t n st Q _ _ hp;cases t<;>simp only[Th.h]at hp<;>lia
 |succ h ih=>
  intro t n st Q hs hz hh hn q;obtain⟨n,rfl⟩:∃m,n=m+1:=⟨n-1,⋯⟩;refine d5 T.lt rfl [AA t.d] rfl ?_;unfold X2;cases t with
  |u=>
   simp only[Th.d];∎;refine(E8 rfl).mpr ⟨_,rfl,?_⟩;rw[if_pos (by rfl)];∎;rw[<-bg1];exact b8 (q st Kp.refl)
  |l a|r a=>
   simp only[Th.z]at hz;simp only[Th.h]at hh;have la:=u4 a;simp only[Th.d];∎;refine(E8 (by simp only[g9,j5,f7,y4,Aa])).mpr ⟨_,rfl,?_⟩;rw[if_neg ∎];(iterate 3 ∎);refine⟨_,rfl,by rw[T.lt];rfl,ih a hs ⋯ ⋯ ⋯ λst2 K=>?_⟩
   try rw[<-t60]
   try rw[<-t62]
   refine k9 (by simp only[AI,AO];lia) (b8 ?_);rw[j8];refine cast (congrArg (λl=>Q (.str (tx l)) st2) ?_) (q st2 K);simp[Th.tr,Tr.s,Trs.s,Trs.ft,tf]
  |p a b=>
   simp only[Th.z]at hz;simp only[Th.h]at hh;have la:=u4 a;have lb:=u4 b;simp only[Th.d];∎;refine(E8 (by simp only[g9,j5,f7,y4,Aa])).mpr ⟨_,rfl,?_⟩;rw[if_neg ∎];(iterate 3 ∎);refine⟨by rw[T.lt];rfl,ih a hs.1 ⋯ ⋯ ⋯ λst2 K=>?_⟩;rw[<-t40,<-t41,<-V7];refine k9 (by simp only[AI,AO];lia) ?_;rw[j8];refine k9 (by simp only[AJ,AI,AO];lia) ?_;rw[j8];refine⟨by rw[T.lt];rfl,ih b hs.2 ⋯ ⋯ ⋯ λst3 K3=>?_⟩;refine k9 (by simp only[AJ,AI,AO];lia) ?_;rw[j8];refine k9 (by simp only[AJ,AI,AO];lia) (b8 ?_);rw[j8];refine cast (congrArg (λl=>Q (.str (tx l)) st3) ?_) (q st3 (K.trans K3));simp[Th.tr,Tr.s,two,Trs.s,Trs.ft,tf]
  |w k=>
   have hz':1+k.z<=20000:=hz;have hh':1+k.h<=h+1:=hh;have hl:k.len<=1000:=hs.1;simp only[Th.d];∎;refine(E8 (by simp only[g9,j5,f7,t0,R9,Aa])).mpr ⟨_,rfl,?_⟩;rw[if_neg ∎];(iterate 2 ∎);rw[ae8];have ll:=a50 k;have lsum:=au7 k;refine⟨_,rfl,by rw[Aj];lia,?_⟩;refine E4 (λl acc env' st'=>Kp [] st st'/\∃(pre suf:List Th)(x:Option D),k.ls=pre++suf/\l=suf.map Th.d/\env'=[x]/\acc=(pre.map λc=>D.str (tx c.tr.s))) ?_ ?_ _ _ _ _ ⟨Kp.refl,[],k.ls,AE,rfl,rfl,rfl,rfl⟩
   ·rintro acc env' st' ⟨K,pre,suf,x,ek,el,rfl,rfl⟩;refine⟨trivial,λa ha=>?_⟩;have es:suf=[]:=by simpa using el.symm
    subst es;rw[BP]at ek;have hjl:(i8 [44] (pre.map λx=>x.tr.s)).length<=100000:=by
     have h1:=u4 (.w k);rw[<-bf0 k,ek]at h1;simp only[AI,AJ,AO,Th.z]at h1;lia
    rw[<-V7,<-bh3,<-bd0];refine⟨a,(pre.map λx=>x.tr.s).map tx,rfl,.inl (by rw[b7,Dw,Dw];rfl),aa1 ?_,?_⟩
    ·rw[Dw,Aj,<-ek];simp only[AI,AO];have:(k.ls.map (Ap∘λx=>x.tr.s))=k.ls.map λx=>x.tr.s.length:=rfl;rw[this];lia
    rw[ac9];refine k9 (by simp only[AI,AO];lia) ?_;rw[j8];refine k9 (by simp only[AJ,AI,AO];lia) (b8 ?_);rw[j8];refine cast (congrArg (λl=>Q (.str (tx l)) _) ?_) (q _ (K.new ha));rw[<-bf0 k,ek];simp
   ·rintro d ds acc env' st' ihc ⟨K,pre,suf,x,ek,el,rfl,rfl⟩;refine⟨trivial,?_⟩;cases suf with
    |nil=>simp at el
    |cons c suf=>
     simp only[AY,As]at el;obtain⟨rfl,rfl⟩:=el;rfl';obtain⟨c1,c2,c3⟩:=a05 (k:=k) (t:=c) (by rw[ek];simp) hs.2;refine⟨by rw[T.lt];rfl,ih c c3 ⋯ ⋯ ⋯ λst2 K2=>?_⟩;exact ihc _ _ _ ⟨K.trans K2,pre++[c],suf,_,by rw[ek];simp,rfl,rfl,by rw[BI];rfl⟩
end
abbrev Ths.of:List Th->Ths
 |[]=>.nil
 |t::r=>.cons t (Ths.of r)
theorem ba9:∀l:List Th,(Ths.of l).ls=l
 |[]=>rfl
 |t::r=>by simp only[Ths.of,Ths.ls,ba9 r]
theorem am1{b m:Nat}:∀l:List Th,(∀t∈l,t.sm/\t.z<=b/\t.h<=m)->(Ths.of l).sm/\(Ths.of l).z<=l.length*b/\(Ths.of l).h<=m/\(Ths.of l).len=l.length
 |[],_=>⟨trivial,Ar _,Ar _,rfl⟩
 |t::r,h=>by
  obtain⟨h1,h2,h3⟩:=h t (.head _);obtain⟨i1,i2,i3,i4⟩:=am1 r λu hu=>h u (.tail _ hu);refine⟨⟨h1,i1⟩,?_,Nat.max_le.2 ⟨h3,i3⟩,congrArg (·+1) i4⟩;simp only[Ths.of,Ths.z,AI,Jj];lia
def ai5{lo:Int}{n:Nat}:(k8 lo n).length=n:=by simp[k8]
section
variable (B:PB0 P) (hL:P "_law_thing"=AA D8) 
include B hL
def bo0:∀(k:Kd){n:Nat}{st:Sto}{Q:DK},k.good->k.bd 100->k.nest+4<=n->g8 st da->(∀(t:Th)st',t.sm->t.z+1<=2*7^k.nest->t.h<=k.nest+1->g8 st' da->Kp [da] st st'->Q t.d st')->sem P G n "_law_thing" [.ref da,k.d] st Q:=by
 intro k
 induction k with
 |non=>intro n st Q g;exact g.elim
 |one=>
  intro n st Q g bd hn I q;obtain⟨n,rfl⟩:∃m,n=m+1:=⟨n-1,⋯⟩;refine d5 hL rfl [AA (.ref da),AA _,AE,AE] rfl ?_;unfold D8 Kd.d;(iterate 2 ∎);exact b8 (q .u st trivial ∅ ∅ I Kp.refl)
 |both a b ia ib=>
  intro n st Q g bd hn I q;simp only[Kd.nest]at hn;have h1:7^a.nest<=7^max a.nest b.nest:=AW ∅ (DX _ _);have h2:7^b.nest<=7^max a.nest b.nest:=AW ∅ (Cj _ _);obtain⟨n,rfl⟩:∃m,n=m+1:=⟨n-1,⋯⟩;refine d5 hL rfl [AA (.ref da),AA _,AE,AE] rfl ?_;unfold D8 Kd.d;(iterate 3 ∎);refine⟨by rw[hL];rfl,ia g.1 bd.1 ⋯ I λta st1 s1 z1 m1 I1 K1=>?_⟩;∎;refine⟨by rw[hL];rfl,ib g.2 bd.2.1 ⋯ I1 λtb st2 s2 z2 m2 I2 K2=>b8 (q (.p ta tb) st2 ⟨s1,s2⟩ ?_ ?_ I2 (K1.trans K2))⟩
  ·simp only[Th.z,Kd.nest,Fn];lia
  ·simp only[Th.h,Kd.nest];lia
 |way a b ia ib=>
  intro n st Q g bd hn I q;simp only[Kd.nest]at hn;have h2:7^b.nest<=7^max a.nest b.nest:=AW ∅ (Cj _ _);obtain⟨n,rfl⟩:∃m,n=m+1:=⟨n-1,⋯⟩;refine d5 hL rfl [AA (.ref da),AA _,AE,AE] rfl ?_;unfold D8 Kd.d;(iterate 4 ∎);have h6:a.cnt<=6:=g.2.2;refine⟨by rw[B.count];rfl,u8 B a (m:=100) ⋯ (C8 bd.1) ∅ ⟨_,rfl,⋯,by rw[ai5];lia,?_⟩⟩;refine E4 (λl acc env' st'=>∃(ts:List Th)(x:Option D),l.length+ts.length=a.cnt/\env'=[AA (.ref da),AA (.tup [.str (AD "way"),a.d,b.d]),x]/\acc=ts.map Th.d/\(∀t∈ts,t.sm/\t.z<=2*7^b.nest-1/\t.h<=b.nest+1)/\g8 st' da/\Kp [da] st st') ?_ ?_ _ _ _ _ ⟨[],AE,by rw[ai5];simp,rfl,rfl,nofun,I,Kp.refl⟩
  ·rintro acc env' st' ⟨ts,x,hl,rfl,rfl,hf,I',K⟩;refine⟨trivial,λp hp=>?_⟩;obtain⟨f1,f2,f3,f4⟩:=am1 ts hf;have e:D.tup [.str (AD "w"),.tup (ts.map Th.d)]=(Th.w (Ths.of ts)).d:=by simp only[Th.d,ae8,ba9]
   rw[e];simp only[AO,Nat.zero_add]at hl;have hm:ts.length*(2*7^b.nest-1)<=6*(2*7^b.nest-1):=Nat.mul_le_mul_right _ ⋯;have pos:0<7^b.nest:=Ix ∅;refine b8 (q (.w (Ths.of ts)) _ ⟨⋯,f1⟩ ?_ ?_ (let⟨l,e⟩:=I';⟨l,d9 e hp⟩) (K.new hp))
   ·simp only[Th.z,Kd.nest,Fn];lia
   ·simp only[Th.h,Kd.nest];lia
  ·rintro d ds acc env' st' ihc ⟨ts,x,hl,rfl,rfl,hf,I',K⟩;refine⟨trivial,?_⟩;simp only[AI]at hl;rfl';refine⟨by rw[hL];rfl,ib g.2.1 bd.2.1 ⋯ I' λt st2 s2 z2 m2 I2 K2=>?_⟩;exact ihc _ _ _ ⟨ts++[t],_,by rw[AJ,DM];lia,rfl,by rw[BI];rfl,λu hu=>by
    rcases Ax.1 hu with hu|hu
    ·exact hf u hu
    ·simp at hu;subst hu;exact⟨s2,⋯,m2⟩,I2,K.trans K2⟩
 |eith a b ia ib=>
  intro n st Q g bd hn I q;simp only[Kd.nest]at hn;have h1:7^a.nest<=7^max a.nest b.nest:=AW ∅ (DX _ _);have h2:7^b.nest<=7^max a.nest b.nest:=AW ∅ (Cj _ _);obtain⟨n,rfl⟩:∃m,n=m+1:=⟨n-1,⋯⟩;refine d5 hL rfl [AA (.ref da),AA _,AE,AE] rfl ?_;unfold D8 Kd.d;(iterate 4 ∎);have endL:∀st1,g8 st1 da->Kp [da] st st1->a.good->d4 (Zg P G n) (.cons (S.ret (E.tup (Es.cons ((E.str (AD "lr")).ix (E.v 3)) (Es.cons (E.call (AD "_law_thing") (Es.cons (E.v 0) (Es.cons ((E.v 1).ix (E.bin Hk (E.int 1) (E.v 3))) Es.nil))) Es.nil)))) .nil) (f6 Q) [AA (.ref da),AA (.tup [.str (AD "either"),a.d,b.d]),AE,AA (.int 0)] st1:=λst1 I1 K1 ga=>by
   ∎;have e:(⟨#[108]⟩:Str)=AD "l":=by decide
   refine⟨108,∅,by rw[Q2];rfl,by rw[hL];rfl,a.d,rfl,ia ga bd.1 ⋯ I1 λt st2 s2 z2 m2 I2 K2=>?_⟩;rw[e];have:=q (.l t) st2 s2 ?_ ?_ I2 (K1.trans K2)
   ·simp only[Th.d]at this;exact b8 this
   ·simp only[Th.z,Kd.nest,Fn];lia
   ·simp only[Th.h,Kd.nest];lia
  have endR:∀st1,g8 st1 da->Kp [da] st st1->b.good->d4 (Zg P G n) (.cons (S.ret (E.tup (Es.cons ((E.str (AD "lr")).ix (E.v 3)) (Es.cons (E.call (AD "_law_thing") (Es.cons (E.v 0) (Es.cons ((E.v 1).ix (E.bin Hk (E.int 1) (E.v 3))) Es.nil))) Es.nil)))) .nil) (f6 Q) [AA (.ref da),AA (.tup [.str (AD "either"),a.d,b.d]),AE,AA (.int 1)] st1:=λst1 I1 K1 gb=>by
   ∎;have e:(⟨#[114]⟩:Str)=AD "r":=by decide
   refine⟨114,∅,by rw[ag0];rfl,by rw[hL];rfl,b.d,rfl,ib gb bd.2.1 ⋯ I1 λt st2 s2 z2 m2 I2 K2=>?_⟩;rw[e];have:=q (.r t) st2 s2 ?_ ?_ I2 (K1.trans K2)
   ·simp only[Th.d]at this;exact b8 this
   ·simp only[Th.z,Kd.nest,Fn];lia
   ·simp only[Th.h,Kd.nest];lia
  have c0:∀k:Kd,k.cnt=0->¬k.good:=λk e g=>by have:=Kd.good_pos g;lia
  obtain⟨n,rfl⟩:∃m,n=m+1:=⟨n-1,⋯⟩;refine⟨by rw[B.next];rfl,t6 B (m:=2) ∅ I λr st1 r0 r1 I1 K1=>?_⟩;have hr:r=0\/r=1:=by lia
  rcases hr with rfl|rfl
  ·∎;refine⟨by rw[B.count];rfl,a.d,rfl,u8 B a (m:=100) ⋯ (C8 bd.1) ∅ ?_⟩;rw[L8];refine⟨_,rfl,?_⟩
   by_cases h0:(a.cnt:Int)=0
   ·rw[decide_eq_true h0,if_pos rfl];∎;have ng:=c0 a ⋯;exact endR st1 I1 K1 (g.elim (λg=>g.2) λg=>g.elim (λg=>g.2) λg=>absurd g.1 ng)
   ·rw[decide_eq_false h0,if_neg ∅];exact endL st1 I1 K1 (g.elim (λg=>g.1) λg=>g.elim (λg=>absurd (show(a.cnt:Int)=0 by rw[g.1];rfl) h0) λg=>g.1)
  ·∎;refine⟨by rw[B.count];rfl,b.d,rfl,u8 B b (m:=100) ⋯ (C8 bd.2.1) ∅ ?_⟩;rw[L8];refine⟨_,rfl,?_⟩
   by_cases h0:(b.cnt:Int)=0
   ·rw[decide_eq_true h0,if_pos rfl];∎;have ng:=c0 b ⋯;exact endL st1 I1 K1 (g.elim (λg=>g.1) λg=>g.elim (λg=>absurd g.2 ng) λg=>g.1)
   ·rw[decide_eq_false h0,if_neg ∅];exact endR st1 I1 K1 (g.elim (λg=>g.2) λg=>g.elim (λg=>g.2) λg=>absurd (show(b.cnt:Int)=0 by rw[g.2];rfl) h0)
end
structure PT0(P:d7)(G:Gs):Prop extends PM P G where
 bu:P "built_up"=AA d_built_up
mutual
noncomputable def D.lit:D->Bool
 |.int _=>AC
 |.str x=>EA (.str x)
 |.tup ds=>D.lits ds
 |_=>AG
noncomputable def D.lits:List D->Bool
 |[]=>AC
 |d::r=>d.lit&&D.lits r
end
mutual
theorem ar4:∀x y:D,x.lit=AC->y.lit=AC->(deq x y=AC↔x=y)
 |.int i,y,hx,hy=>by
  cases y<;>first|(simp[D.lit]at hy;done)|skip
  ·rw[S8];simp
  ·constructor
   ·intro h;simp[deq,D.py,Ak]at h
   ·intro h;cases h
  ·constructor
   ·intro h;simp[deq,D.py,Ak]at h
   ·intro h;cases h
 |.str x,y,hx,hy=>by
  cases y<;>first|(simp[D.lit]at hy;done)|skip
  ·constructor
   ·intro h;simp[deq,D.py,Ak]at h
   ·intro h;cases h
  ·rw[g5];simp
  ·constructor
   ·intro h;simp[deq,D.py,Ak]at h
   ·intro h;cases h
 |.tup xs,y,hx,hy=>by
  cases y<;>first|(simp[D.lit]at hy;done)|skip
  ·constructor
   ·intro h;simp[deq,D.py,Ak]at h
   ·intro h;cases h
  ·constructor
   ·intro h;simp[deq,D.py,Ak]at h
   ·intro h;cases h
  ·rename_i ys;rw[n8,ao3 xs ys hx hy];simp
 |.non,y,hx,hy=>nomatch hx
 |.bl _,y,hx,hy=>nomatch hx
 |.ref _,y,hx,hy=>nomatch hx
 |.fn _,y,hx,hy=>nomatch hx
theorem ao3:∀xs ys:List D,D.lits xs=AC->D.lits ys=AC->(j4 xs ys=AC↔xs=ys)
 |[],[],_,_=>by simp[j4]
 |[],y::ys,_,_=>by simp[j4]
 |x::xs,[],_,_=>by simp[j4]
 |x::xs,y::ys,hx,hy=>by
  have h1:x.lit=AC/\D.lits xs=AC:=by simpa[D.lits]using hx
  have h2:y.lit=AC/\D.lits ys=AC:=by simpa[D.lits]using hy
  rw[j4,Aq,ar4 x y h1.1 h2.1,ao3 xs ys h1.2 h2.2,As]
end
def bt3{x:D}(hx:x.lit=AC):deq x x=AC:=(ar4 x x hx hx).mpr rfl
def Q6(s:String):(D.str (AD s)).lit=AC:=f7 s
def S7{ds:List D}:(D.tup ds).lit=D.lits ds:=rfl
def N0{d:D}{r:List D}:D.lits (d::r)=(d.lit&&D.lits r):=rfl
def S5:D.lits []=AC:=rfl
def cf3{Γ:List Kd}{p:Pg}{k:Kd}(h:Kn Γ p k):Γ.length+p.hgt<=10000->p.nm:=by
 induction h with
 |name e=>intro hl;have:=(Ao.1 e).1;simp only[Pg.hgt]at hl;simp only[Pg.nm];lia
 |star=>intro _;trivial
 |pair _ _ i1 i2|give _ _ i1 i2=>intro hl;simp only[Pg.hgt]at hl;exact⟨i1 ⋯,i2 ⋯⟩
 |first _ i|second _ i|left _ i|right _ i|never _ i=>intro hl;simp only[Pg.hgt]at hl;exact i ⋯
 |way _ i=>intro hl;simp only[Pg.hgt]at hl;exact i (by simp only[AI];lia)
 |lets _ _ i1 i2=>intro hl;simp only[Pg.hgt]at hl;exact⟨i1 ⋯,i2 (by simp only[AI];lia)⟩
 |case _ _ _ i1 i2 i3=>intro hl;simp only[Pg.hgt]at hl;exact⟨i1 ⋯,i2 (by simp only[AI];lia),i3 (by simp only[AI];lia)⟩
mutual
theorem L9:∀t:Th,f8 t.d<=2*t.h
 |.u=>by decide
 |.p a b=>by
  have h1:=L9 a;have h2:=L9 b;simp only[Th.d,l3,Th.h];show max (f8 (.str (AD "p"))) (max (f8 a.d) (max (f8 b.d) 0))+1<=_;rw[f9];lia
 |.l a=>by
  have h1:=L9 a;simp only[Th.d,l3,Th.h];show max (f8 (.str (AD "l"))) (max (f8 a.d) 0)+1<=_;rw[f9];lia
 |.r a=>by
  have h1:=L9 a;simp only[Th.d,l3,Th.h];show max (f8 (.str (AD "r"))) (max (f8 a.d) 0)+1<=_;rw[f9];lia
 |.w k=>by
  have h1:=a49 k;simp only[Th.d,l3,Th.h];show max (f8 (.str (AD "w"))) (max (f8 (.tup k.ds)) 0)+1<=_;rw[f9,l3];lia
theorem a49:∀k:Ths,l4 k.ds<=2*k.h
 |.nil=>by decide
 |.cons t r=>by
  have h1:=L9 t;have h2:=a49 r;show max (f8 t.d) (l4 r.ds)<=2*max t.h r.h;lia
end
mutual
theorem J5:∀t:Th,t.d.lit=AC
 |.u=>rfl
 |.p a b=>by simp only[Th.d,S7,N0,S5,Q6,J5 a,J5 b,Aa]
 |.l a=>by simp only[Th.d,S7,N0,S5,Q6,J5 a,Aa]
 |.r a=>by simp only[Th.d,S7,N0,S5,Q6,J5 a,Aa]
 |.w k=>by simp only[Th.d,S7,N0,S5,Q6,at7 k,Aa]
theorem at7:∀k:Ths,D.lits k.ds=AC
 |.nil=>rfl
 |.cons t r=>by simp only[Ths.ds,N0,J5 t,at7 r,Aa]
end
def ad2{a b:Nat}(h:b<=150):Di a b<=150:=Al (DF _ _) h
section
variable {P:d7} {G:Gs} (B:PB P) (T:PWp P G) (U:PWt P G) (hL:P "_law_thing"=AA D8) {n:Nat} {st:Sto} {Q:DK}
include B T U hL
def b67(hlaw:P "law"=AA x8){a:AM}{ns:List Int}(hn:60<=n)(hl:ns.length<=63)(h:rdS st a (ns.map D.int)):sem P G n "law" [.ref a] st λd _=>d=.bl AC:=by
 obtain⟨n,rfl⟩:∃m,n=m+20:=⟨n-20,⋯⟩;refine d5 hlaw rfl [AA (.ref a),AE,AE,AE,AE,AE,AE,AE,AE] rfl ?_;unfold x8;∎;refine⟨by rw[B.deck];rfl,b27 B.toPB0 ⋯ hl h λda st1 I1 _=>?_⟩;∎;refine⟨by rw[B.names];rfl,bv7 B (most:=3) (lines:=64) ⋯ ∅ ∅ ∅ I1 λΓ st2 hΓ hk hr I2 _=>?_⟩;∎;refine⟨by rw[B.kind];rfl,N7 B.toPB0 (most:=100) ∅ ∅ 4 ⋯ I2 λkh st3 g3 b3 n3 I3 _=>?_⟩;∎;refine⟨by rw[B.program];rfl,by rw[B.kind];rfl,N7 B.toPB0 (most:=16) ∅ ∅ 3 ⋯ I3 λk4 st4 g4 b4 n4 I4 _=>?_⟩;rfl';refine⟨by rw[B.next];rfl,t6 B.toPB0 (m:=30) ∅ I4 λr5 st5 r50 r51 I5 _=>?_⟩;rfl';refine bk4 B ⋯ ⋯ I5 g4 (Kd.bd_mono ∅ b4) ⋯ ⋯ λp st6 kp hp pp mp cp I6 _=>?_;have np:p.nm:=cf3 (ci8 kp) ⋯;∎;refine⟨by rw[T.ls];rfl,al3 T B 15 p mp np ⋯ hp ⋯ λst7 K7=>?_⟩;have lp:=U0 p mp np;have I7:g8 st7 da:=I6.keep K7 ∎;have main:∀p:Pg,p.kn 6->p.nm->p.parts<=64->p.hgt<=15->d4 (Zg P G (n+19)) x8.body.tl'.tl'.tl'.tl'.tl' (f6 λd _=>d=.bl AC) [AA (.ref a),AA (.ref da),AA (.tup (Γ.map Kd.d)),AA kh.d,AA p.d,AE,AE,AE,AE] st7:=by
  intro p mp np pp hp;have three:∀(st8:Sto)(x5 x6:Option D),g8 st8 da->d4 (Zg P G (n+19)) x8.body.tl'.tl'.tl'.tl'.tl'.tl'.tl' (f6 λd _=>d=.bl AC) [AA (.ref a),AA (.ref da),AA (.tup (Γ.map Kd.d)),AA kh.d,AA p.d,x5,x6,AE,AE] st8:=by
   intro st8 x5 x6 I8;unfold x8;simp only[Ss.tl'];∎;refine⟨by rw[T.rp];rfl,by rw[B.next];rfl,t6 B.toPB0 (m:=2) ∅ I8 λr st9 r0 r1 I9 _=>?_⟩;obtain⟨i,rfl⟩:∃i:Nat,r=(i:Int):=⟨r.toNat,⋯⟩;have hi:i<10000:=by lia
   rfl';rw[<-U5,<-t35];refine⟨a79 hi,k9 ?_ ?_⟩
   ·have:=O4 hi;simp only[AI,AO];lia
   rw[j8];show sem P G (n+19) _ [.str (tx (Pg.name i).tr.s)] _ _;refine ao2 T (.name i) trivial hi (BR rfl) λst10 K10=>?_;have I10:=I9.keep K10 ∎;have en:(Pg.name i).d=.tup [.str (AD "name"),.int i]:=rfl;rw[en];∎;refine .inl ⟨"int",rfl,?_⟩;refine⟨_,rfl,?_⟩;rw[if_neg ∅];refine .inl ⟨"int",rfl,?_⟩;rfl';rw[if_neg ∅];∎;refine⟨by rw[hL];rfl,bo0 B.toPB0 hL kh g3 b3 ⋯ I10 λt st11 s11 z11 h11 I11 K11=>?_⟩;have p4:7^kh.nest<=7^4:=AW ∅ n3;have hz:t.z<=20000:=by lia
   have pc:=u9 (B7 t);have dt:=L9 t;∎;refine⟨by rw[U.lt];rfl,b03 U 6 t s11 hz ⋯ ⋯ λst12 K12=>?_⟩;∎;refine⟨by rw[U.sh];rfl,ap3 U t s11 hz λst13 K13=>C6 pc pc ⟨_,rfl,?_⟩⟩;rw[decide_eq_true rfl,if_pos rfl];refine⟨by rw[U.rt];rfl,ap5 U t s11 hz λst14 K14=>?_⟩;rw[F6,bt3 (J5 t)];refine⟨y4 t,y4 t,ad2 ⋯,_,rfl,?_⟩;rw[if_pos rfl];refine⟨by rw[U.sh];rfl,by rw[U.rt];rfl,ap5 U t s11 hz λst15 K15=>?_⟩;refine ap3 U t s11 hz λst16 K16=>C6 pc pc ?_;exact b8 (by rw[decide_eq_true rfl])
  have two:∀(st8:Sto)(x5 x6:Option D),g8 st8 da->d4 (Zg P G (n+19)) x8.body.tl'.tl'.tl'.tl'.tl'.tl' (f6 λd _=>d=.bl AC) [AA (.ref a),AA (.ref da),AA (.tup (Γ.map Kd.d)),AA kh.d,AA p.d,x5,x6,AE,AE] st8:=by
   intro st8 x5 x6 I8;unfold x8;simp only[Ss.tl'];∎;refine⟨by rw[B.next];rfl,t6 B.toPB0 (m:=10000) ∅ I8 λr st9 r0 r1 I9 _=>?_⟩;obtain⟨i,rfl⟩:∃i:Nat,r=(i:Int):=⟨r.toNat,⋯⟩;have hi:i<10000:=by lia
   rfl';have el:[p.d,.tup [.str (AD "name"),.int (i:Int)],.tup [.str (AD "pair"),p.d,.tup [.str (AD "name"),.int 0]],p.d]=[p,.name i,.pair p (.name 0),p].map Pg.d:=rfl;rw[el];refine y6 (λl env st'=>∃(ps:List Pg)(x5 x6:Option D),l=ps.map Pg.d/\(∀g∈ps,g.kn 6/\g.nm/\g.parts<=200/\g.hgt<=20)/\env=[AA (.ref a),AA (.ref da),AA (.tup (Γ.map Kd.d)),AA kh.d,AA p.d,x5,x6,AE,AE]/\g8 st' da) ?_ ?_ _ _ _ ⟨_,x5,x6,rfl,?_,rfl,I9⟩
   ·rintro env st' ⟨ps,x5,x6,el,_,rfl,I'⟩;exact⟨trivial,three st' x5 x6 I'⟩
   ·rintro d l env st' ih ⟨ps,x5,x6,el,hps,rfl,I'⟩;refine⟨trivial,?_⟩;cases ps with
    |nil=>simp at el
    |cons g ps=>
     simp only[AY,As]at el;obtain⟨rfl,rfl⟩:=el;obtain⟨c1,c2,c3,c4⟩:=hps g (.head _);have pc:=u9 (az3 g);rfl';∎;refine⟨by rw[T.ls];rfl,al3 T B 20 g c1 c2 c3 c4 ⋯ λst10 K10=>?_⟩;∎;refine⟨by rw[T.sp];rfl,bu9 T g c1 c2 c3 λst11 K11=>U8 pc pc ⟨_,rfl,?_⟩⟩;rw[decide_eq_true rfl,if_neg ∅];refine⟨by rw[T.rp];rfl,ao2 T g c1 c2 c3 λst12 K12=>?_⟩;rw[a74,b97];refine⟨at1 _,at1 _,ad2 (Al (cg6 g c1) ⋯),?_⟩;rw[decide_eq_true rfl];refine⟨_,rfl,?_⟩;rw[if_neg ∅];rfl';exact ih _ _ ⟨ps,_,_,rfl,λg hg=>hps g (.tail _ hg),rfl,I'.keep ((K10.trans K11).trans K12) ∎⟩
   ·intro g hg;simp only[AT,Ac,or_false]at hg
    rcases hg with rfl|rfl|rfl|rfl
    ·exact⟨mp,np,⋯,⋯⟩
    ·exact⟨trivial,hi,(by decide:(1:Nat)<=200),(by decide:(1:Nat)<=20)⟩
    ·exact⟨⟨mp,trivial⟩,⟨np,(by decide:(0:Nat)<10000)⟩,by simp only[Pg.parts];lia,by simp only[Pg.hgt];lia⟩
    ·exact⟨mp,np,⋯,⋯⟩
  unfold x8;simp only[Ss.tl'];∎;have el:Γ.map Kd.d++[kh.d,.tup [.str (AD "both"),kh.d,.tup [.str (AD "none")]]]=(Γ++[kh,.both kh .non]).map Kd.d:=by rw[BI];rfl
  rw[el];refine⟨t3 (by rw[Aj];lia),y6 (λl env st'=>∃(ks:List Kd)(x5 x6:Option D),l=ks.map Kd.d/\(∀k∈ks,k.nest<=9)/\env=[AA (.ref a),AA (.ref da),AA (.tup (Γ.map Kd.d)),AA kh.d,AA p.d,x5,x6,AE,AE]/\g8 st' da) ?_ ?_ _ _ _ ⟨_,AE,AE,rfl,?_,rfl,I7⟩⟩
  ·rintro env st' ⟨ks,x5,x6,el,_,rfl,I'⟩;exact⟨trivial,two st' x5 x6 I'⟩
  ·rintro d l env st' ih ⟨ks,x5,x6,el,hks,rfl,I'⟩;refine⟨trivial,?_⟩;cases ks with
   |nil=>simp at el
   |cons k ks=>
    simp only[AY,As]at el;obtain⟨rfl,rfl⟩:=el;have c1:=hks k (.head _);have pc:=u9 (J9 k);rfl';∎;refine⟨by rw[T.lk];rfl,N1 T.toPWk k c1 ⋯ ?_⟩;∎;refine⟨by rw[T.sk];rfl,ap4 T.toPWk k c1 λst11 K11=>U8 pc pc ⟨_,rfl,?_⟩⟩;rw[decide_eq_true rfl,if_neg ∅];refine⟨by rw[T.rk];rfl,br1 T.toPWk k c1 λst12 K12=>?_⟩;rw[a74,z0];refine⟨p0 _,p0 _,ad2 (by rw[p8];lia),?_⟩;rw[decide_eq_true rfl];refine⟨_,rfl,?_⟩;rw[if_neg ∅];rfl';exact ih _ _ ⟨ks,_,_,rfl,λg hg=>hks g (.tail _ hg),rfl,I'.keep (K11.trans K12) ∎⟩
  ·intro k hk'
   rcases Ax.1 hk' with hk'|hk'
   ·have:=(hk k hk').2.2;lia
   ·simp only[AT,Ac,or_false]at hk'
    rcases hk' with rfl|rfl
    ·lia
    ·simp only[Kd.nest];lia
 refine⟨_,rfl,by rw[p7];exact Al (show _<=60000 by lia) ∅,?_⟩
 by_cases hb:(3800:Int)<((tx p.tr.s).length:Nat)
 ·rw[if_pos hb];∎;exact main .star trivial trivial ∅ ∅
 ·rw[if_neg hb];exact main p mp np ⋯ hp
end
def cn4:PB y0:=⟨⟨rfl,rfl,rfl,rfl,rfl,rfl⟩,rfl,rfl,rfl,rfl,rfl,rfl,rfl,rfl,rfl⟩
def be7:PRd y0 i9:=⟨rfl,rfl,rfl,rfl,rfl,rfl,rfl,rfl,rfl,rfl,rfl,rfl,rfl,rfl,rfl,rfl⟩
def bf5:PRk y0 i9:={be7 with bk:=rfl,rk:=rfl}
def cl3:PRp y0 i9:={bf5 with bp:=rfl,bf:=rfl,rn:=rfl,rp:=rfl,kF:=rfl,kL:=rfl,fo:=rfl}
def cl5:PWk y0 i9:={bf5 with wr:=rfl,pk:=rfl,sk:=rfl,lk:=rfl,ks:=rfl}
def cn7:PWp y0 i9:={cl5,cl3 with pp:=rfl,sp:=rfl,ls:=rfl,li:=rfl,pw:=rfl}
def ck6:PWt y0 i9:={be7 with wr:=rfl,bt:=rfl,rt:=rfl,pt:=rfl,sh:=rfl,lt:=rfl}
def bq7(a:AM)(ns:List Int)(h:ns.length<=63):sem y0 i9 100 "law" [.ref a] (st0 a ns) λd _=>d=.bl AC:=
 b67 cn4 cn7 ck6 rfl rfl ∅ h (.inr (by unfold st0;rw[if_pos rfl]))
end Ek
namespace Ek
open PySem L2
abbrev top(i:Nat):BQ:=PySem.Challenge.pw_evenkinds_k95_texts_both_ways.main.body.getD i (.Pass ⟨0,0,0,0⟩)
abbrev mth(i k:Nat):BQ:=match top i with|.ClassDef _ _ _ b _ _ _ _ _ _ _=>b.getD k (.Pass ⟨0,0,0,0⟩)|_=>.Pass ⟨0,0,0,0⟩
def b64{pr:Ag}{w:BA}{K:AR}{h:Az}{mg:Str->Option AF}{ts:List AM}(X:K.In h)(G:h.Ns AS mg){g0:AM}{g1:AM}{g2:AM}{g3:AM}{ku0:AF}{ku1:AF}{ku2:AF}{ku3:AF}{C0:AM}{C1:AM}
  (a0:FnA K ts AG "read_kind" (top 10))
  (a1:FnA K ts AG "read_program" (top 11))
  (a2:FnA K ts AG "read_thing" (top 12))
  (a3:FnA K ts AG "read_whole" (top 13))
  (a4:FnA K ts AG "read_one" (top 16))
  (a5:FnA K ts AG "begin_kind" (top 17))
  (a6:FnA K ts AG "begin_program" (top 18))
  (a7:FnA K ts AG "begin_form" (top 19))
  (a8:FnA K ts AG "read_number" (top 20))
  (a9:FnA K ts AG "begin_thing" (top 21))
  (a10:FnA K ts AG "show_kind" (top 25))
  (a11:FnA K ts AG "show_program" (top 26))
  (a12:FnA K ts AG "show_thing" (top 27))
  (a13:FnA K ts AG "written" (top 28))
  (a14:FnA K ts AG "pieces_of_kind" (top 29))
  (a15:FnA K ts AG "pieces_of_program" (top 30))
  (a16:FnA K ts AG "pieces_of_thing" (top 31))
  (a17:FnA K ts AG "_law_mixed" (top 33))
  (a18:FnA K ts AG "_law_deck" (top 34))
  (a19:FnA K ts AG "_law_next" (top 35))
  (a20:FnA K ts AG "_law_power" (top 36))
  (a21:FnA K ts AG "_law_count" (top 37))
  (a22:FnA K ts AG "_law_kind" (top 38))
  (a23:FnA K ts AG "_law_least" (top 39))
  (a24:FnA K ts AG "_law_made" (top 40))
  (a25:FnA K ts AG "_law_nest" (top 41))
  (a26:FnA K ts AG "_law_asked" (top 42))
  (a27:FnA K ts AG "_law_grown" (top 43))
  (a28:FnA K ts AG "_law_inner" (top 44))
  (a29:FnA K ts AG "_law_parts" (top 45))
  (a30:FnA K ts AG "_law_program" (top 46))
  (a31:FnA K ts AG "_law_names" (top 47))
  (a32:FnA K ts AG "_law_kind_shown" (top 48))
  (a33:FnA K ts AG "_law_shown" (top 49))
  (a34:FnA K ts AG "_law_thing" (top 50))
  (a35:FnA K ts AG "_law_thing_shown" (top 51))
  (a36:FnA K ts AG "law" (top 52))
  (bb:∀b∈G9,Ay K AS b=AA AE)
  (ga0:Ay K AS "KIND_WORDS"=AA (AA (.ref g0))) (gt0:(letI:Tbs:=⟨ts,mFB,(i9.cls "!kt").isEmpty⟩;L1 K g0 (i9.tab "KIND_WORDS"))=AC)
  (ga1:Ay K AS "FORMS"=AA (AA (.ref g1))) (gt1:(letI:Tbs:=⟨ts,mFB,(i9.cls "!kt").isEmpty⟩;L1 K g1 (i9.tab "FORMS"))=AC)
  (ga2:Ay K AS "KIND_SIGNS"=AA (AA (.ref g2))) (gt2:(letI:Tbs:=⟨ts,mFB,(i9.cls "!kt").isEmpty⟩;L1 K g2 (i9.tab "KIND_SIGNS"))=AC)
  (ga3:Ay K AS "PROGRAM_WORDS"=AA (AA (.ref g3))) (gt3:(letI:Tbs:=⟨ts,mFB,(i9.cls "!kt").isEmpty⟩;L1 K g3 (i9.tab "PROGRAM_WORDS"))=AC)
  (kc0:Ay K AS "FIGURES"=AA (AA ku0)) (kv0:(letI:Tbs:=⟨ts,mFB,(i9.cls "!kt").isEmpty⟩;v3 K (.str "0123456789") ku0)=AC)
  (kc1:Ay K AS "LETTERS"=AA (AA ku1)) (kv1:(letI:Tbs:=⟨ts,mFB,(i9.cls "!kt").isEmpty⟩;v3 K (.str "abcdefghijklmnopqrstuvwxyz") ku1)=AC)
  (kc2:Ay K AS "KIND"=AA (AA ku2)) (kv2:(letI:Tbs:=⟨ts,mFB,(i9.cls "!kt").isEmpty⟩;v3 K (.tup [.str "kind"]) ku2)=AC)
  (kc3:Ay K AS "ROW"=AA (AA ku3)) (kv3:(letI:Tbs:=⟨ts,mFB,(i9.cls "!kt").isEmpty⟩;v3 K (.tup [.str "row"]) ku3)=AC)
  (kx1:Ay K AS "!is"=AA AE)
  (ca0:ClA K "Reader" C0)
  (ca1:ClA K "Begun" C1)
  (ki1:IscA K C1) (cf0_0:BS K (.ref C0) "text"=AA AE) (cf0_1:BS K (.ref C0) "place"=AA AE) (cf1_0:BS K (.ref C1) "front"=AA AE) (cf1_1:BS K (.ref C1) "many"=AA AE) (cf1_2:BS K (.ref C1) "between"=AA AE) (cf1_3:BS K (.ref C1) "end"=AA AE) (cf1_4:BS K (.ref C1) "parts"=AA AE) (cf1_5:BS K (.ref C1) "found"=AA AE)
  (m0:MtA K ts AG "Reader" C0 "__init__" (mth 14 0))
  (m1:MtA K ts AG "Reader" C0 "next_sign" (mth 14 1))
  (m2:MtA K ts AG "Reader" C0 "sign" (mth 14 2))
  (m3:MtA K ts AG "Reader" C0 "must_be" (mth 14 3))
  (m4:MtA K ts AG "Reader" C0 "signs_of" (mth 14 4))
  (m5:MtA K ts AG "Begun" C1 "__init__" (mth 15 0))
  (m6:MtA K ts AG "Begun" C1 "ends_with" (mth 15 1))
  (m7:MtA K ts AG "Begun" C1 "whole" (mth 15 2)) (nl:J2 K=AC) (nt:HY K=AC) (tso:af9 K ts=AC) :
  (letI:Tbs:=⟨ts,mFB,(i9.cls "!kt").isEmpty⟩;AllOk pr w K mg y0 i9)/\J2 K=AC/\HY K=AC/\∀P∈ts,∃c,DI K c P=AC:=by
 letI:Tbs:=⟨ts,mFB,(i9.cls "!kt").isEmpty⟩
 refine⟨⟨λf d hf hi=>?_,λf d hf hi=>?_,λf c Ca hn hf=>?_,λb hb=>W.mg_none_of X G (bb b hb),λg hg=>?_,λg i hg=>?_,λc hc=>?_,rfl⟩,nl,nt,b43 tso⟩
 ·
  refine(?_:∀f d,(f,d)∈N4->isM f=AG->DefOk K mg f d) f d (PySem.mem_of_lookup hf) hi;unfold N4
  iterate 8 refine e8 (λhi=>absurd hi (by decide+kernel)) ?_
  refine e8 (λ_=>a0.ok X G) ?_;refine e8 (λ_=>a1.ok X G) ?_;refine e8 (λ_=>a2.ok X G) ?_;refine e8 (λ_=>a3.ok X G) ?_;refine e8 (λ_=>a4.ok X G) ?_;refine e8 (λ_=>a5.ok X G) ?_;refine e8 (λ_=>a6.ok X G) ?_;refine e8 (λ_=>a7.ok X G) ?_;refine e8 (λ_=>a8.ok X G) ?_;refine e8 (λ_=>a9.ok X G) ?_;refine e8 (λ_=>a10.ok X G) ?_;refine e8 (λ_=>a11.ok X G) ?_;refine e8 (λ_=>a12.ok X G) ?_;refine e8 (λ_=>a13.ok X G) ?_;refine e8 (λ_=>a14.ok X G) ?_;refine e8 (λ_=>a15.ok X G) ?_;refine e8 (λ_=>a16.ok X G) ?_;refine e8 (λ_=>a17.ok X G) ?_;refine e8 (λ_=>a18.ok X G) ?_;refine e8 (λ_=>a19.ok X G) ?_;refine e8 (λ_=>a20.ok X G) ?_;refine e8 (λ_=>a21.ok X G) ?_;refine e8 (λ_=>a22.ok X G) ?_;refine e8 (λ_=>a23.ok X G) ?_;refine e8 (λ_=>a24.ok X G) ?_;refine e8 (λ_=>a25.ok X G) ?_;refine e8 (λ_=>a26.ok X G) ?_;refine e8 (λ_=>a27.ok X G) ?_;refine e8 (λ_=>a28.ok X G) ?_;refine e8 (λ_=>a29.ok X G) ?_;refine e8 (λ_=>a30.ok X G) ?_;refine e8 (λ_=>a31.ok X G) ?_;refine e8 (λ_=>a32.ok X G) ?_;refine e8 (λ_=>a33.ok X G) ?_;refine e8 (λ_=>a34.ok X G) ?_;refine e8 (λ_=>a35.ok X G) ?_;refine e8 (λ_=>a36.ok X G) ?_;exact a90
 ·
  refine(?_:∀f d,(f,d)∈N4->isM f=AC->∃c m,f=d3 c m/\isM c=AG/\isM m=AG/\MthOk K mg (M0 i9.cls (d3 c m)) c m d) f d (PySem.mem_of_lookup hf) hi;unfold N4;refine e8 (λ_=>m0.ok ca0 X G) ?_;refine e8 (λ_=>m1.ok ca0 X G) ?_;refine e8 (λ_=>m2.ok ca0 X G) ?_;refine e8 (λ_=>m3.ok ca0 X G) ?_;refine e8 (λ_=>m4.ok ca0 X G) ?_;refine e8 (λ_=>m5.ok ca1 X G) ?_;refine e8 (λ_=>m6.ok ca1 X G) ?_;refine e8 (λ_=>m7.ok ca1 X G) ?_
  iterate 37 refine e8 (λhi=>absurd hi (by decide+kernel)) ?_
  exact a90
 ·
  unfold i9 at hf;simp only at hf
  by_cases hci:c="!is"
  ·subst hci;rw[kx1]at hn;cases hn
  rw[if_neg hci]at hf
  by_cases hc0:c="Reader"
  ·subst hc0;rw[ca0.a]at hn;cases hn;rw[if_pos rfl]at hf;simp only[AT,Ac,or_false]at hf;refine⟨ca0.cl,?_⟩
   rcases hf with rfl|rfl
   ·exact cf0_0
   ·exact cf0_1
  rw[if_neg hc0]at hf
  by_cases hc1:c="Begun"
  ·subst hc1;rw[ca1.a]at hn;cases hn;rw[if_pos rfl]at hf;simp only[AT,Ac,or_false]at hf;refine⟨ca1.cl,?_⟩
   rcases hf with rfl|rfl|rfl|rfl|rfl|rfl
   ·exact cf1_0
   ·exact cf1_1
   ·exact cf1_2
   ·exact cf1_3
   ·exact cf1_4
   ·exact cf1_5
  rw[if_neg hc1]at hf;exact absurd hf Ac
 ·unfold i9 at hg ⊢;simp only at hg ⊢
  by_cases hg0:g="KIND_WORDS"
  ·subst hg0;exact T0 X G ga0 gt0
  rw[if_neg hg0]at hg
  by_cases hg1:g="FORMS"
  ·subst hg1;exact T0 X G ga1 gt1
  rw[if_neg hg1]at hg
  by_cases hg2:g="KIND_SIGNS"
  ·subst hg2;exact T0 X G ga2 gt2
  rw[if_neg hg2]at hg
  by_cases hg3:g="PROGRAM_WORDS"
  ·subst hg3;exact T0 X G ga3 gt3
  rw[if_neg hg3]at hg;exact absurd rfl hg
 ·unfold i9 at hg;simp only at hg
  by_cases hg0:g="FIGURES"
  ·subst hg0;rw[if_pos rfl]at hg;cases hg;exact⟨_,EX X G kc0,kv0⟩
  rw[if_neg hg0]at hg
  by_cases hg1:g="LETTERS"
  ·subst hg1;rw[if_pos rfl]at hg;cases hg;exact⟨_,EX X G kc1,kv1⟩
  rw[if_neg hg1]at hg
  by_cases hg2:g="KIND"
  ·subst hg2;rw[if_pos rfl]at hg;cases hg;exact⟨_,EX X G kc2,kv2⟩
  rw[if_neg hg2]at hg
  by_cases hg3:g="ROW"
  ·subst hg3;rw[if_pos rfl]at hg;cases hg;exact⟨_,EX X G kc3,kv3⟩
  rw[if_neg hg3]at hg;cases hg
 ·
  rw[(by decide+kernel:i9.cls "!is"=(["Begun"]:List Str))]at hc;cases Ef.1 hc;exact⟨_,EX X G ca1.a,ca1.a,ca1.cl,ki1.ha,ki1.hn,ki1.htk,ki1.hm,ki1.no,ki1.yes⟩
end Ek
namespace PySem.W.Fast
local macro_rules|`(command|include $x*)=>do return Lean.mkNullNode (← x.mapM fun i=>Lean.MonadRef.withRef .missing `(command|theorem $i:ident:True:=⟨⟩))
include tw3604202011932770232 tw18311915737380807309 tw8634245774548426327 tw7707711233970184008 tw526266620150297640 tw1576948406214192597 tw7873707915545713830 tw15952314094420312911 tw15913652164693562540 tw5072982791868496621 tw3150696799327772234 tw6665557289189918712 tw165990291028555112 tw10018175608954783170 tw11783818072997237229 tw2022353456862972895 tw16755200154406341158 tw8925764104102131977 tw6963529836412444094 tw7162004509114877828 tw7476907805241729396 tw11502585202802524912 tw13229558729640556082 tw2174059905045851766 tw30757962126707525 tw12319369987294243923 tw11056962849416374132 tw8073403223842958408 tw17099428725751727483 tw2120900778072384652 tw11370653823127148966 tw17538769088048064086 tw5622509347327474597 tw297045301042502787 tw4491589567023832589 tw4533406202724101137 tw17543533253489994854 tw1875031649677427805 tw4927326193847666693 tw14968372510718132972 tw1530132227046006232 tw13083805984699556248 tw8025782021051392709 tw13885390205372372926 tw13153753373406446328 tw202466000828409126 tw9906939879497558253 tw12325697282083836025 tw1741308729985824079 tw12491794282931331686 tw4210577547240224933 tw3234875437664662568 tw13114878477470328084 tw18047933425715716629 tw5271610199109448431 tw12517883848383223034 tw1609143708586580619 tw18302907734260475913 tw15207394989251441731 tw13694110865682205341 tw169757556601832209 tw4716297842546549357 tw8912389625438069354 tw2741601709455339784 tw16215912847566854010 tw18105727126264196070 tw15207066387750571043 tw16031837321141214521 tw14528748545371011986 tw8208857871238612427 tw12416946112390861051 tw9101544413379561175 tw2325618956165312342 tw4494580304465976243 tw16033026718588425004 tw1997204563560386545 tw16349606688356772673 tw1846815986463445674 tw9047667584646091341 tw7562390371095798818 tw3510405608551334296 tw6484489103418051968 tw17010389597189609924 tw5405564561551173624 tw2506470770218667022 tw10285754276466309654 tw9572458310786557189 tw15477303063020762359 tw10073953964891747975 tw18096190604498516962 tw1432375225442276510 tw16321728532557127953 tw11369553592754307888 tw17665116700534618150 tw17667692006283203183 tw12190805441268273398 tw3300264842683576525 tw9399439858526719832 tw11284005315180380263 tw3591217618833180579 tw13398186683671302106 tw1475548894862177171 tw2941269167527084428 tw11017075229573581102 tw10596771438179820681 tw13362884851500908816 tw7007784586493569419 tw8012299047128160163 tw6596308507051008673 tw17235303267822983401 tw11404685818012250066 tw10299406972557314494 tw6471459542626861295 tw5032503136108771556 tw18075188345975506441 tw4788498565391545273 tw2145564960882605189 tw5995119242459890870 tw8768111502360344921 tw8467251800005770905 tw9908994314393417945 tw10466348683245583754 tw5241377087677477674 tw18211986847423557560 tw5567754970945988970 tw7400250511748822858 tw9050197107880680497 tw8037760307535110908 tw10569452027492902829 tw8224769713307676418 tw6329361770389382055 tw13557052637662926895 tw15122188336743284396 tw13813317496375152912 tw11471575948310905899 tw6992157069812053752 tw4279530731621785492 tw4761432073044091475 tw14552918805740165217 tw8121009868942974540 tw10032905157401027942 tw16992725553550864296 tw11399546619651009574 tw7137364137154614860 tw6628706783980231857 tw6129620212358342022 tw2716958413800461274 tw10538742065975941795 tw3575077052224376519 tw3915433180047421281 tw7086686124780956304 tw16830248109384814893 tw18242473522444254704 tw385568826612031312 tw9489319046524454923 tw8354128203623255927 tw16383117684544530648 tw8684104336440819378 tw17847876941656476629 tw15020807964354571604 tw4015582700856225379 tw18014751806683951179 tw1625908753395235570 tw6243025617609744401 tw10782600591724035412 tw11688753010557283151 tw14256463410870309099 tw4826579965946727600 tw15359120597967372213 tw7248826875148208889 tw16295709996850892926 tw11398121095574550576 tw7417497334241102087 tw1284541777517609609 tw16765631489277485182 tw3480752289930265954 tw16219123030122743478 tw15723815755410842716 tw11387174820037194329 tw18132947548540513128 tw4558837808364275059 tw16495326631211250787 tw16408062263523876343 tw17554078051660376996 tw295128358167401053 tw9953500676673418951 tw3410150003226638284 tw9995376023629214098 tw1418832043233865752 tw8127886614025575288 tw11659926013522683636 tw12205703236341965920 tw13410362972091181798 tw9299624261659133446 tw1462075151259499794 tw1686198209974342122 tw6608390610467882486 tw17580395380725220026 tw17201614581692207135 tw3496638438151780733 tw9501647807683896138 tw16689891171509548251 tw8644721994372688920 tw11434118887365792626 tw11411092028665969036 tw10833601669825315919 tw6475858561312964523 tw15111910815972081795 tw14362405433497609674 tw17002914353306619495 tw5206706807518513842 tw3143138453310694147 tw6686072658407998280 tw16213259187359883666 tw13580068928939410763 tw15993822017569952998 tw9673562480686742987 tw686505127769373535 tw3343363682284936797 tw16898793458035018847 tw8384236060573830715 tw11551057636135756728 tw331906467031231897 tw16369454986748423199 tw6557411086292022295 tw4300546988597403329 tw7979839874728212813 tw16148330345836688444 tw5328435683928629099 tw12057454826528648333 tw3546222849061649510 tw14165470482621594304 tw8522804438934887873 tw3569401327230011558 tw6530927956484865449 tw4428309229575142104 tw15464663974979837862 tw7063841603702840974 tw17906671916628519097 tw7276853451212207568 tw8943934238610582009 tw1716348482390289657 tw8000008516678464243 tw8668498373540261688 tw8453671542424423434 tw11453732469279254822 tw7182234880106197932 tw130909858420316448 tw6871616308640030281 tw17195198265756053082 tw10250577600925069776 tw3876991728684756613 tw6495260732390610714 tw16167212463239123725 tw4247427640552775207 tw10730054397731845001 tw17864354002112004431 tw14836052402356901844 tw16729963996264539433 tw14453190992160770843 tw474394708848132335 tw9970603341234931265 tw16448008940421710982 tw13249553293681765557 tw16340667618595068512 tw15789354093246256280 tw399238838892283105 tw12730509283708841230 tw855008809401932886 tw8722839046768676485 tw13507691259517489821 tw4469664883002975711 tw11136061655002473823 tw17144513383179805792 tw8233764382352511352 tw318743162804362442 tw15416550722259408449 tw1121693288153240950 tw17141760615034668798 tw9698451191373068031 tw6018910646282469612 tw4452017119422653105 tw10094319668614321639 tw17283217293948934048 tw7109579656385570296 tw1209605703592792076 tw11508233548091037312 tw4019543053907671800 tw3724019214847051399 tw8144525381994310801 tw11935964036899968627 tw14354764304536694221 tw14877082170412219557 tw14170157359906883403 tw10365302770005063666 tw10986042201652910826 tw4530297112396061090 tw13523400630785367562 tw2894928819708929877 tw5774495281392737147 tw5520656253337012776 tw12718198859388147429 tw5700031902581017277 tw8515145798409988638 tw622360435975066574 tw9874230863301170909 tw5631620053703327467 tw14964151857149378326 tw802791079122715913 tw6556668175345723935
end PySem.W.Fast
open PySem PySem.W PyProof.Rows
set_option maxRecDepth 100000 in
set_option maxHeartbeats 0 in
theorem PySem.Challenge.cw_evenkinds_k95_texts_both_ways_holds : PySem.Challenge.rw_evenkinds_k95_texts_both_ways.Holds := by
 w_on;o_law;k_head;(case hw=>w_witness2)
 k_fill
 refine Ek.bz8 (l:=PySem.Challenge.rw_evenkinds_k95_texts_both_ways) (P:=Ek.y0) (G:=Ek.i9) (n:=100) (x:="_law_script") (dl:=Ek.x8) rfl rfl rfl ⟨rfl,∅,∅⟩ (ts:=[]) (λw h Y=>⟨W.kIn_of Y,λ_ z=>absurd z Ac⟩) rfl ?hst ?F Ek.bq7
 case hst=>
  intro st ps S;have e:=S.sc.pre;have e2:=S.np;rw[e2]at e;exact e.symm
 case F=>
  intro w mg h KX G
  refine' Ek.b64 KX G ?_ ?_ ?_ ?_ ?_ ?_ ?_ ?_ ?_ ?_ ?_ ?_ ?_ ?_ ?_ ?_ ?_ ?_ ?_ ?_ ?_ ?_ ?_ ?_ ?_ ?_ ?_ ?_ ?_ ?_ ?_ ?_ ?_ ?_ ?_ ?_ ?_ ?_ ?_ ?_ ?_ ?_ ?_ ?_ ?_ ?_ ?_ ?_ ?_ ?_ ?_ ?_ ?_ ?_ ?_ ?_ ?_ ?_ ?_ ?_ ?_ ?_ ?_ ?_ ?_ ?_ ?_ ?_ ?_ ?_ ?_ ?_ ?_ ?_ ?_ ?_ ?_
  rotate_left 10
  iterate 37 (refine' Ek.fnA ?a ?b ?c ?d;(case a=>k_is);(case b=>k_is);(case c=>k_is);(case d=>k_is))
  (intro b hb;simp only[Ek.G9,AT]at hb;(repeat' (rcases hb with rfl|hb))<;>k_is)
  k_is
  rfl
  k_is
  rfl
  k_is
  rfl
  k_is
  rfl
  k_is
  rfl
  k_is
  rfl
  k_is
  rfl
  k_is
  rfl
  k_is
  iterate 2 (refine' Ek.clA ?a ?b ?c ?d ?e ?f ?g;(case a=>k_is);(case b=>k_is);(case c=>k_is);(case d=>k_is);(case e=>k_is);(case f=>k_is);(case g=>k_is))
  (refine' Ek.cm6 ?a ?b ?c ?d ?e ?f;(case a=>k_is);(case b=>k_is);(case c=>k_is);(case d=>k_is);(case e=>kernel_rfl);(case f=>kernel_rfl))
  iterate 8 k_is
  iterate 8 (refine' Ek.mtA ?a ?b ?c ?d ?e ?f;(case a=>k_is);(case b=>k_is);(case c=>k_is);(case d=>k_is);(case e=>k_is);(case f=>k_is))
  iterate 3 rfl
#print axioms PySem.Challenge.cw_evenkinds_k95_texts_both_ways_holds
