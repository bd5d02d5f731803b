import PyProof.Rows.All
import PyProof.TupleKey
import PyProof.P3Eq
import PyProof.DictKinds
import Wide.All
import OpenK.AllK
import Wide.FinOn
import Lean
import PyProof.EqAt
import PyProof.EqKinds
import PyProof.TupleCall
import PyProof.StrBlockL
import PyProof.ListMulRoad
import PyProof.FactsAll.tuple
import PyProof.StrLawsIn
import PyProof.ZipIter
import PyProof.ListNew
import KE.KRevIter
import KE.KIntText
import KE.LcSums
import PyProof.EnumStmt
import PyProof.AttrMissHeap
import KE.KDictOf
import KE.KTryMore
import OpenK.KOwn
import OpenK.KDescr
import PyProof.ExcArgs
import PySem.Challenge.RW_evenkinds_k96_texts_refused
set_option Elab.async false
set_option maxHeartbeats 4000000
set_option compiler.extract_closed false
set_option genSizeOf false
set_option bootstrap.genMatcherCode false
set_option linter.all false
local macro_rules|`(command|abbrev $i:declId $s:optDeclSig $v:declVal)=>Lean.MonadRef.withRef .missing `(command|noncomputable def $i:declId $s:optDeclSig $v:declVal)
local macro_rules|`(command|def $i:declId $b* :$t $v:declVal)=>Lean.MonadRef.withRef .missing `(command|noncomputable def $i:declId $b* :$t $v:declVal)
local macro_rules|`(⋯)=>`(by lia)
local macro_rules|`(∅)=>`(by decide)
local macro_rules|`(∎)=>`(by simp)
open List (mem_cons length_cons append_assoc length_nil)
open Nat (not_lt mul_comm max_le)
open Bool (false_eq_true not_eq_true')
open Option renaming some->AA,none->AE,bind_some->Av,isSome_iff_exists->BJ,casesOn->CZ,map_some->GC,isSome_map->Hj,getD_none->Hy
open Decidable renaming decide->AB
open Bool renaming true->AC,false->AF,false_ne_true->AK,and_self->Ab,false_eq_true->Ar,and_eq_true->Az,false_or->Bl,or_false->Bq,true_or->CB,or_true->CS,not_eq_true'->EI,eq_iff_iff->GK,not_true->Gv,and_false->JC,decide_or->JG
open PySem.Str renaming ofString->AD,join->Hq,length->Ki
open List renaming length_cons->AG,length_append->AH,length_nil->AN,mem_cons->AT,map_cons->AV,getElem?_eq_getElem->AX,append_assoc->AY,cons_append->AZ,append_nil->Ac,not_mem_nil->Ad,size_toArray->Af,replicate->Ah,getElem?_eq_some_iff->Ai,length_map->Am,length_drop->Ap,length->Aq,mem_append->Au,nil_append->BB,mem_append_right->BK,mem_of_mem_drop->BL,mem_cons_of_mem->BQ,map_nil->BS,getElem?_append_left->BW,map_append->BY,drop_drop->Bb,getElem?_append_right->Bd,eq_nil_of_length_eq_zero->Be,mem_of_mem_take->Bg,nodup_cons->Bv,length_singleton->Bw,getElem?_set_ne->CC,getElem?_map->CJ,mem_cons_self->CL,filterMap_cons->Co,any_cons->Cp,take_succ_cons->Cq,length_take->Cs,replicate_succ->DE,sum_cons->DF,flatten_cons->DH,lookup->DI,mem_append_left->DN,drop_eq_nil_of_le->DP,getElem?_replicate->DR,find?_cons->DV,range->Da,getElem?_set_self->Dd,take_zero->Dr,drop_left'->Ds,casesOn->Dt,mem_of_getElem?->Dy,drop_eq_getElem_cons->EC,map_map->EH,take_of_length_le->Eb,all_eq_true->Ec,sum_nil->Ee,any_nil->Ef,length_replicate->Ej,getElem?_eq_none->El,take_append_drop->Eo,singleton_append->Ew,map_congr_left->FG,map_eq_nil_iff->FH,foldl->FN,mem_singleton->FV,any_eq_false->Fi,eraseIdxIfInBounds_toArray->Fq,zip_cons_cons->GD,of_mem_zip->GH,getElem?_set->GX,reverse_cons->GZ,drop_zero->Gq,getElem?_take_of_lt->Gx,lookup_cons->Gy,range_succ_eq_map->HP,length_reverse->Ho,takeWhile_cons->Hr,dropWhile_cons->Hs,mem_filterMap->Hu,getElem?_drop->Hz,take_sublist->IF,mem_map->IL,drop_length->IY,any_eq_true->IZ,flatten_nil->Ia,mem_filter->Ic,length_set->Ii,foldl_cons->Ij,forIn_cons->Ip,getElem_mem->Ix,length_zip->Iy,take_left'->JW,take_nil->JY,cons->LA
open PySem renaming Value->AI,wpAny_bind->AJ,Shared->AL,Addr->AM,mainGlobals->AO,wpAny_pure->AQ,Expr->AR,wpAny->AU,Program->Aj,starEach->As,PyData->Ax,Heap->Ay,World->BA,Stmt->BG,wpAny_mono->BP,Scope->BR,bootBuiltins->BU,Around->BV,compareOp->Bc,wpAny_newObj_type->Bn,wpAny_Call_Name_kw->Bu,FuncData->By,wpAny_truthy_bool->CA,wpAny_holding->CM,wpAny_field->CN,cLine->CO,assignEach->CP,backTo->CT,wpAny_execs_nil->CV,behindInMarks->Cd,attributeBase->Cf,wpAny_call_entry->Cm,wpAny_passesOwn->Cu,binaryOp->Cv,sysModules->DD,wpAny_specialOf->DM,builtinsNs->DQ,call_meets->DU,swapsWith->DW,wpAny_callSpecial?_slot->DX,wpAny_seqItems->Dc,foldedSetIterable->De,CmpOp->Dm,DictEntry->Dn,wpAny_execs_cons->Do,sliceBounds->Du,keywordEach->Dv,codeAny_mono->ED,getItem->EG,rawInt->EN,wpAny_setField->EO,wpAny_pyIter_tuple->EQ,eqIsQuiet_byValue->EY,codeAny->Ea,wpAny_pyHash_str->Ep,Operator->Er,typeIs_str->Ez,letOwnedTupleGo->FD,wpAny_loadPart'->FE,NameKind->FX,backToKw->FY,methodCallForm->FZ,PassesOwn->Fh,Keyword->Fj,noteFrame->Fk,swapsWithSole->Fz,ExceptHandler->GE,wpAny_call->GF,slot_dict_contains->GI,valueAt->GS,Builtin->GU,wpAny_pyIter_enum->GV,wpAny_pyHash_int->Gh,noFill_tuple_add->Gk,IsPart->Gm,standAt->HD,callerA->HK,isTrue->HS,recursionLimit->HV,bindArgs->HW,typeLookup->HX,wpAny_standAt->Hh,seq_tuple_add->Hi,wpAny_comprehension_free->Hk,Comprehension->Hn,bindL->Hw,bindC->Hx,wpAny_getItem_str_slice->IA,concat_meets->IG,seqIndex_neg->IH,wpAny_Call_method_late->IJ,wpAny_isTrue_Compare1->IT,getitemInPython_of_ne->IV,sizeLine_eq->Ie,seqIndex_of->Ih,atKey->Il,wpAny_letTemporaryGo->Im,wpAny_newFunctionEnv->Iq,wpAny_pyIter_revIter->Ir,FuncBody->Iu,wpAny_rule->JK,wpAny_Name->JL,pyIter->JN,Result->JP,typeIs_int->JS,JoinOk->JU,sliceRange->JX,wpAny_assign_Name->Jb,wpAny_Assign_Name->Jc,wpAny_sequenceKey->Jd,slot_list_getitem->Jf,wpAny_Call_method->Jh,dictGet->Jl,slot_dict_getitem->Jm,beq_builtin_none->Jp,wpAny_forIn_list->Jq,getMethod->Jt,cellsFrom->Jw,seqIndex?->KA,setFlight->KF,checkBuiltinCall->KG,wpAny_operating->KM,post_val_or_str->KP,getAttrByItsOwn->KS,Model->KY,wpAny_Compare1->KZ,wpAny_If->Ka,IntMulOk->Ke,wpAny_loadPart->Kf,typeOf->Kj,letTemporaryGo->Kk,cellOf->Km,compEnvC->Ko,newFunctionEnv->Kq,firstArgMember->Kr,Meets->Ks,IsEnum->Kt,boundAndCalled->Kv,BoolOp->Kw
open PySem.W renaming Frag->AS,nsIn->Aw,findIn->BH,keepIn->CU,kia_one->Ci,emptyDict->Cz,codeHdIn->Dl,specialIn->Dp,kitOne->Dq,mg_of->Dz,instObj->EA,mroIn->ES,takesIn->Eg,callWith_K->Et,codeIn->FL,plainGet->Fp,fresh_of_stays->Ga,fnOf->Gb,hasDictIn->Gd,excIn->HA,plainGet_of->HU,makesIn->Hd,methodObj->IC,lookIn->ID,plainOver->IE,exmOne->IP,noTabs->IQ,clsIn->JI,takerIn->JO,cellsFrom_some->JQ,methodCall_KW->Jk,isFn->Js,callWith_K0->KJ,codeHd_of_K->KU,kitx_tuple->Kg
open PySem.Heap renaming get?_push_of_some->AW,lt_size->BI,get?_push_size->BN,SameBut->CQ,get?_update_other->Cc,get?_update_self->Eu,size_push->Gi,get?_none_of_le->Hb
open False renaming elim->Aa
open Nat renaming le_refl->Ae,le_trans->Ag,pow_le_pow_right->Ak,lt_of_lt_of_le->Al,zero_le->An,le_of_ble_eq_true->Bo,ne_of_lt->Br,lt_succ_self->Bx,succ_pos->CH,succ_le_succ->CK,lt_irrefl->Cw,add_sub_cancel_left->DL,le_max_right->Dk,min_le_right->EF,le_max_left->Ed,min->FF,toDigits_ne_nil->FM,max_zero->Fb,le_add_left->Fe,min_le_left->GP,succ_ne_self->GW,mul_comm->GY,le_add_right->Gc,add_assoc->Gg,length_toDigits_le_iff->Gr,max_le->Gu,digitChar->HC,le_succ->HG,toDigits_of_base_le->HM,pow_add->HN,le_of_lt->HR,succ_mul->HY,toDigits->HZ,add_le_add_left->IB,add_sub_cancel->IN,lt_succ_of_lt->IW,le_of_not_lt->Io,pow_pos->Jo,le_of_eq->Ju,add_comm->KB,log2_lt->KO,ne_of_gt->Kb,pow_succ->Kz
open PySem.PyData renaming eqv->Ao,depthAll->BE,eqvAll->BF,canLayAll0->Bj,canLay0->Bp,depth->Bz,strOk->FU
open PySem.Value renaming ref->At,none->BZ,int->EL,str->EM,bool->ET,type->EU,float->HQ,builtin->JA,isStrOf->JB,isInt->JZ,bytes->Ja
open Option.some renaming inj->BC,injEq->CF
open Ne renaming symm->BD
open List.cons renaming injEq->BO,inj->Dw
open PySem.NameKind renaming free->Ba
open PySem.Txt renaming slice->Bf,join->JV,slice_le->KD
open PySem.Builtin.Tuple renaming tupleHashOf->Bh,tupleExact->Ct,tupleItemsOf->DZ,tupleTooMany->FK
open Sum renaming inr->Bi,inl->Fn
open ForInStep renaming yield->Bk
open String renaming reduceEq->Bm
open PyProof.Rows renaming callWith_type1->Bt,slot_tuple_getitem->DG,AllBare->EZ,subscriptTail->GB,IntsAre->GR,envOfC->Gj,subscriptTail_builtinR->II,Subscript_->JR,callWith_builtin1->KL,IsTup->KW,slicePart_none->Kh
open PyProof.Rows.KTD renaming datumAt->CD
open Array renaming getElem?_eq_some_iff->CG,length_toList->Ey,getElem?_toList->HJ,forIn_toList->Hg,toList->JM
open PySem.Builtin.List renaming listTooLong->CI
open PySem.Builtin.SmallTypes renaming nextOf->Cg
open PySem.Builtin.Str renaming strSliceIndices->Ch,occurrences->GA,glued->Kx,tooLong->Ky
open PySem.Calls renaming callWith_builtin->Cj,evalArgs_plain->Dj,spliced_cons->FI,Name_function_global->GQ,spliced_nil->Hv
open True renaming intro->Ck
open PySem.Builtin.Slice renaming slicePlaces->Cr,sliceAdjust->Di,sliceApplied->FJ,slicePartIndex->Jy,sliceFields->Jz
open PySem.F renaming slot_tuple_iterator_next->DC,slot_tuple_hash->ER,slot_tuple_mul->Ei,args_tuple_iterator_next_1->Gn,entry_tuple_iterator_next->Gz,args_list_extend_2->IK,entry_list_extend->IU,slot_list_extend->Ik,args_tuple_mul_2->Iv,slot_tuple_rmul->JD,entry_tuple_mul->JF,entry_list_pop->JT,slot_list_pop->Jg,slot_int_rmul->Jj
open PySem.Obj renaming data_mapFields->DJ,isFreed_of_fields->Db,mapSeq->Eh,mapFields->HB,cls_mapFields->IX
open PySem.Builtin.Int renaming intBits->DY,intTooBig->GJ
open ToString renaming toString->Dh
open Char renaming toNat->Dx
open PySem.CmpOp renaming NotIn->EB,Eq->Iz
open PySem.Expr.Attribute renaming elim->EJ
open PySem.Expr.Subscript renaming elim->EK
open PySem.Expr.ListComp renaming elim->EV
open PySem.Expr.Constant renaming elim->EW
open PySem.Stmt.Continue renaming elim->EX
open PySem.Expr.UnaryOp renaming elim->Em
open PySem.Expr.Compare renaming elim->En
open PySem.Stmt renaming Assign->Ex
open PySem.Expr.BoolOp renaming elim->FA
open PySem.Stmt.Assign renaming elim->FB
open PySem.Stmt.Return renaming elim->FC
open PySem.Expr.BinOp renaming elim->FO
open PySem.Expr.IfExp renaming elim->FP
open PySem.Expr.Tuple renaming elim->FQ
open PySem.Expr.Slice renaming elim->FR
open PySem.Stmt.While renaming elim->FS
open PySem.Stmt.Raise renaming elim->FT
open Std.Legacy.Range renaming size->Fa,forIn_eq_forIn_range'->JH
open Sum.inr renaming inj->Fg
open Prod renaming fst->Fl,snd->Hf
open PySem.SeqAt renaming eqAt_reads->Fm,rcNeAt_reads->Hl,EqAt->Hm,rcAt_reads->IM
open Int renaming toNat_natCast->Fs,le_refl->GO,emod_lt_of_pos->IR,natCast_mul->JE,emod_nonneg->JJ,ediv_one->Jx,pow_succ->KI
open PySem.Expr.Dict renaming elim->Ft
open PySem.Expr.Call renaming elim->Fu
open PySem.Expr.Name renaming elim->Fv
open PySem.Expr.List renaming elim->Fw
open PySem.Stmt.Expr renaming elim->Fx
open PySem.Stmt.Pass renaming elim->Fy
open PySem.AutoSeq1 renaming wpAny_loadPart'->GL
open PySem.Stmt.For renaming elim->GM
open PySem.Stmt.Try renaming elim->GN
open PySem.Heap.SameBut renaming update->GT
open List.Pairwise renaming map->Ge,nil->KC
open Nat.succ renaming inj->Gf
open PySem.EntryCells renaming newEntry->Go
open PySem.Stmt.If renaming elim->Gp
open PySem.Around renaming under->Gw,frames_deeper->HH
open PySem.Code renaming isFrame->HE,frames->Jv
open And renaming intro->HL
open PySem.StrLaws renaming found_one->He
open Function renaming comp->IS
open PySem.Operator renaming Add->Ib
open PySem.W.Looks renaming here->Ig
open Eq renaming symm->Iw
open PySem.Heap.IsSliceOf renaming new->Je
open PySem.W.WShape renaming has->Ji
open PySem.Expr renaming Compare->Jn
open PySem.Builtin.Range renaming rangeSize->Jr
open PySem.ExceptHandler renaming ExceptHandler->KH
open PySem.W.WData renaming int->KN
open PySem.SeqAt.RcNeAt renaming lists_lengths->KQ
open PySem.Builtin.Dict renaming pendingKey?->KR
open PySem.Heap.DictOf renaming new->Kl
open PySem.SeqAt.Reads renaming unique->Ku
namespace PySem
noncomputable instance decPyData:DecidableEq Ax:=λa b=>Classical.propDecidable (a=b)
namespace NK
mutual
noncomputable def lit:Ax->Bool
 |.int _=>AC
 |.str x=>Bp (.str x)
 |.tuple ds=>lits ds
 |_=>AF
noncomputable def lits:List Ax->Bool
 |[]=>AC
 |d::r=>lit d&&lits r
end
mutual
theorem ai4:∀d:Ax,lit d=AC->d.canLay0=AC
 |.int _,_=>rfl
 |.str _,h=>h
 |.tuple ds,h=>by rw[Bp];exact ax3 ds h
 |.none,h=>nomatch h
 |.bool _,h=>nomatch h
 |.list _,h=>nomatch h
 |.dict _,h=>nomatch h
theorem ax3:∀ds:List Ax,lits ds=AC->Bj ds=AC
 |[],_=>rfl
 |d::r,h=>by
  have h':lit d=AC/\lits r=AC:=by simpa[lits]using h
  show(d.canLay0&&Bj r)=AC;rw[ai4 d h'.1,ax3 r h'.2];rfl
end
mutual
theorem ai8:∀x y:Ax,lit x=AC->lit y=AC->(Ao x y=AC↔x=y)
 |.int i,.int j,_,_=>by rw[Ao];simp
 |.int i,.str y,_,_=>by simp[Ao]
 |.int i,.tuple ys,_,_=>by simp[Ao]
 |.str x,.int j,_,_=>by simp[Ao]
 |.str x,.str y,_,_=>by rw[Ao];simp
 |.str x,.tuple ys,_,_=>by simp[Ao]
 |.tuple xs,.int j,_,_=>by simp[Ao]
 |.tuple xs,.str y,_,_=>by simp[Ao]
 |.tuple xs,.tuple ys,hx,hy=>by rw[Ao,au4 xs ys hx hy];simp
 |.none,_,h,_=>nomatch h
 |.bool _,_,h,_=>nomatch h
 |.list _,_,h,_=>nomatch h
 |.dict _,_,h,_=>nomatch h
 |_,.none,_,h=>nomatch h
 |_,.bool _,_,h=>nomatch h
 |_,.list _,_,h=>nomatch h
 |_,.dict _,_,h=>nomatch h
theorem au4:∀xs ys:List Ax,lits xs=AC->lits ys=AC->(BF xs ys=AC↔xs=ys)
 |[],[],_,_=>by simp[BF]
 |[],y::ys,_,_=>by simp[BF]
 |x::xs,[],_,_=>by simp[BF]
 |x::xs,y::ys,hx,hy=>by
  have hx':lit x=AC/\lits xs=AC:=by simpa[lits]using hx
  have hy':lit y=AC/\lits ys=AC:=by simpa[lits]using hy
  rw[BF,Az,ai8 x y hx'.1 hy'.1,au4 xs ys hx'.2 hy'.2];simp
end
theorem ah3:∀{ds:List Ax},lits ds=AC->∀d∈ds,lit d=AC
 |[],_,d,h=>by cases h
 |e::r,hl,d,h=>by
  have h':lit e=AC/\lits r=AC:=by simpa[lits]using hl
  rcases AT.mp h with rfl|h
  ·exact h'.1
  ·exact ah3 h'.2 d h
theorem ag2:∀{ds:List Ax}{d:Ax},d∈ds->d.depth<=BE ds
 |e::r,d,h=>by
  show d.depth<=max e.depth (BE r)
  rcases AT.mp h with rfl|h
  ·lia
  ·have:=ag2 h;lia
def depth_tup{ds:List Ax}:(PyData.tuple ds).depth=BE ds+1:=by rw[Bz]
mutual
theorem a70{h:Ay}:∀(x y:Ax){v:AI}{as bs:List AM},lit x=AC->lit y=AC->Reads h v x as->Reads h v y bs->x=y
 |.int i,y,v,as,bs,_,hy,rx,ry=>by
  cases rx;cases ry;rfl
 |.str x,y,v,as,bs,_,hy,rx,ry=>by
  cases rx;cases ry;rfl
 |.tuple xs,y,v,as,bs,hx,hy,rx,ry=>by
  cases rx with
  |tuple e1 e2 e3 e4=>
   cases ry with
   |tuple f1 f2 f3 f4=>
    rw[e1]at f1;cases f1;rw[e3]at f3;cases f3;rw[ay8 xs _ hx hy e4 f4]
   |list=>cases hy
   |dict=>cases hy
 |.none,_,_,_,_,h,_,_,_=>nomatch h
 |.bool _,_,_,_,_,h,_,_,_=>nomatch h
 |.list _,_,_,_,_,h,_,_,_=>nomatch h
 |.dict _,_,_,_,_,h,_,_,_=>nomatch h
theorem ay8{h:Ay}:∀(xs ys:List Ax){vs:List AI}{as bs:List AM},lits xs=AC->lits ys=AC->ReadsAll h vs xs as->ReadsAll h vs ys bs->xs=ys
 |[],ys,vs,as,bs,_,_,rx,ry=>by cases rx;cases ry;rfl
 |x::xs,ys,vs,as,bs,hx,hy,rx,ry=>by
  cases rx with
  |cons r1 r2=>cases ry with
   |@cons _ _ y ys _ _ q1 q2=>
    have hx':lit x=AC/\lits xs=AC:=by simpa[lits]using hx
    have hy':lit y=AC/\lits ys=AC:=by simpa[lits]using hy
    rw[a70 x y hx'.1 hy'.1 r1 q1,ay8 xs ys hx'.2 hy'.2 r2 q2]
end
mutual
theorem a06{h h':Ay}{d:AM}{o:Obj}{es:Array Dn}{ep:Nat}(ho:h.get? d=AA o)(hd:o.data=.dict es ep)(hs:CQ d h h'):∀(x:Ax){v:AI}{as:List AM},lit x=AC->Reads h v x as->∃bs,Reads h' v x bs
 |.int i,v,as,_,r=>by cases r;exact⟨_,.int _ _⟩
 |.str x,v,as,_,r=>by cases r;exact⟨_,.str _ _⟩
 |.tuple xs,v,as,hx,r=>by
  cases r with
  |@tuple a o' _ _ _ _ e1 e2 e3 e4=>
   have hne:a≠d:=by
    rintro rfl;rw[e1]at ho;cases ho;rw[hd]at e3;exact nomatch e3
   obtain⟨bs,r'⟩:=av9 ho hd hs xs hx e4;exact⟨_,.tuple ((hs.2 a hne).trans e1) e2 e3 r'⟩
 |.none,_,_,h,_=>nomatch h
 |.bool _,_,_,h,_=>nomatch h
 |.list _,_,_,h,_=>nomatch h
 |.dict _,_,_,h,_=>nomatch h
theorem av9{h h':Ay}{d:AM}{o:Obj}{es:Array Dn}{ep:Nat}(ho:h.get? d=AA o)(hd:o.data=.dict es ep)(hs:CQ d h h'):∀(xs:List Ax){vs:List AI}{as:List AM},lits xs=AC->ReadsAll h vs xs as->∃bs,ReadsAll h' vs xs bs
 |[],vs,as,_,r=>by cases r;exact⟨_,.nil⟩
 |x::xs,vs,as,hx,r=>by
  cases r with
  |cons r1 r2=>
   have hx':lit x=AC/\lits xs=AC:=by simpa[lits]using hx
   obtain⟨b1,q1⟩:=a06 ho hd hs x hx'.1 r1;obtain⟨b2,q2⟩:=av9 ho hd hs xs hx'.2 r2;exact⟨_,.cons q1 q2⟩
end
mutual
noncomputable def hK(w:BA):Ax->Int
 |.int i=>hashInt i
 |.str x=>hashStr w x
 |.tuple ds=>reduceHash (Bh (hKs w ds))
 |_=>0
noncomputable def hKs(w:BA):List Ax->List Int
 |[]=>[]
 |d::r=>hK w d::hKs w r
end
mutual
noncomputable def dw:Ax->Nat
 |.tuple ds=>dws ds+1
 |_=>1
noncomputable def dws:List Ax->Nat
 |[]=>0
 |d::r=>dw d+dws r
end
theorem ai7(w:BA):∀(a b:List Ax),hKs w (a++b)=hKs w a++hKs w b
 |[],b=>rfl
 |x::a,b=>by rw[AZ,hKs,ai7 w a b];rfl
theorem ai9:∀(a b:List Ax),dws (a++b)=dws a+dws b
 |[],b=>by simp[dws]
 |x::a,b=>by rw[AZ,dws,ai9 a b,dws,Gg]
variable {prog:Aj} {w:BA}
def cd0:∀(n:Nat)(d:Ax),d.depth<=n->lit d=AC->∀{A:BV}{E:AI->AL->Prop}{s:AL}{v:AI}{as:List AM}{Q:Int->AL->Prop},A.units+n<CO->Reads s.heap v d as->Q (hK w d) {s with toks:=s.toks+dw d}->AU (model prog w) A (pyHash v) Q E s:=by
 intro n
 induction n with
 |zero=>
  intro d hd hl A E s v as Q hu r h;cases r with
  |int i t=>exact Gh (by simpa[hK,dw]using h)
  |str x t=>exact Ep (by simpa[hK,dw]using h)
  |tuple=>rw[depth_tup]at hd;lia
  |none=>cases hl
  |bool=>cases hl
  |list=>cases hl
  |dict=>cases hl
 |succ n ih=>
  intro d hd hl A E s v as Q hu r h;cases r with
  |int i t=>exact Gh (by simpa[hK,dw]using h)
  |str x t=>exact Ep (by simpa[hK,dw]using h)
  |none=>cases hl
  |bool=>cases hl
  |list=>cases hl
  |dict=>cases hl
  |@tuple a o items m xs as ho hc hda hi=>
   rw[depth_tup]at hd;have hl':lits xs=AC:=hl;have hT:s.TypeIs (.ref a) "tuple":=⟨o,ho,hc⟩;unfold pyHash
   first|unfold pyHashByItsType|skip
   first|refine AJ (wpAny_cRoomFor_or (.inr ⋯) ?_)|skip
   refine AJ (DM hT ER.lookup ?_);show AU _ _ (if(AA (JA "tuple.__hash__")==AA BZ)=AC then _ else _) Q E s;rw[if_neg (by rw[Jp];exact AK)];refine AJ (DM hT ER.lookup ?_);show AU _ _ (callSpecialIfBoundUnlessNone? (.ref a) "__hash__" _>>=_) Q E s;refine AJ (wpAny_callSpecialIfBoundUnlessNone?_slot hT ER (Cm ER hT F.entry_tuple_hash ?_ (F.args_tuple_hash_1 _)));show AU _ _ (DZ (.ref a)>>=_) _ _ s;refine AJ (wpAny_tupleItemsOf ho hda ?_);refine AJ ?_;rw[<-Hg];refine Jq _
    (λc8(b:Array Int)s'=>∃done left bs,xs=done++left/\ReadsAll s.heap c8 left bs/\b.toList=hKs w done/\s'={s with toks:=s.toks+dws done})
    _ ?_ ?_ _ _ ⟨[],xs,_,rfl,hi,rfl,rfl⟩
   ·rintro x c8 b s' ⟨done,left,bs,rfl,hl2,hb,rfl⟩;cases hl2 with
    |@cons _ _ k ks' _ _ h1 hl3=>
     have hk:k∈done++k::ks':=by simp
     refine AJ (ih k (by have:=ag2 hk;lia) (ah3 hl' k hk) ?_ h1 ?_)
     ·show A.units+1+n<CO;lia
     first
      |exact AQ ⟨done++[k],ks',_,∎,hl3,by rw[ai7];simp[hb,hKs],by simp[ai9,dws,Gg]⟩
      |exact AJ (AQ (AQ ⟨done++[k],ks',_,∎,hl3,by rw[ai7];simp[hb,hKs],by simp[ai9,dws,Gg]⟩))
   ·rintro b s' ⟨done,left,bs,rfl,hl2,hb,rfl⟩;cases hl2;rw[Ac]at h;simp only[hK,dw]at h;show AU _ _ (retInt (Bh b.toList)) _ _ _;rw[hb];refine wpAny_ret_mkInt ?_;show AU _ _ (if(AB (-(2:Int)^63<=Bh (hKs w done))&&AB (Bh (hKs w done)<2^63))=AC then _ else _) Q E _;unfold reduceHash at h
    by_cases hr:(AB (-(2:Int)^63<=Bh (hKs w done))&&AB (Bh (hKs w done)<2^63))=AC
    ·rw[if_pos hr];rw[if_pos hr]at h;exact AQ (by simpa[Gg]using h)
    ·rw[if_neg hr];rw[if_neg hr]at h;exact AJ (JK (AQ (by simpa[Gg]using h)))
def b47:∀(n:Nat)(d:Ax),d.depth<=n->lit d=AC->∀{A:BV}{E:AI->AL->Prop}{s:AL}{v:AI}{as:List AM}{Q:Bool->AL->Prop},Reads s.heap v d as->Q AC s->AU (model prog w) A (eqIsQuiet n v) Q E s:=by
 intro n
 induction n with
 |zero=>
  intro d hd hl A E s v as Q r h;cases r with
  |int i t=>rw[EY _ rfl];exact AQ h
  |str x t=>rw[EY _ rfl];exact AQ h
  |tuple=>rw[depth_tup]at hd;lia
  |none=>cases hl
  |bool=>cases hl
  |list=>cases hl
  |dict=>cases hl
 |succ n ih=>
  intro d hd hl A E s v as Q r h;cases r with
  |int i t=>rw[EY _ rfl];exact AQ h
  |str x t=>rw[EY _ rfl];exact AQ h
  |none=>cases hl
  |bool=>cases hl
  |list=>cases hl
  |dict=>cases hl
  |@tuple a o items m xs as ho hc hda hi=>
   rw[depth_tup]at hd;have hl':lits xs=AC:=hl;have hT:s.TypeIs (.ref a) "tuple":=⟨o,ho,hc⟩;unfold eqIsQuiet;refine AJ (DM hT F.slot_tuple_eq.lookup ?_);show AU _ _ (isInstance (.ref a) (.type "tuple")>>=_) _ _ s;refine AJ (wpAny_isInstance hT isSubtype_tuple_tuple ?_);simp only[Gv,Ar,if_false];refine AJ (Dc ho hda ?_);refine AJ ?_;show AU _ _ (forIn items _ _) _ _ s;rw[<-Hg];refine Jq _ (λc8 r s'=>r.1=AE/\s'=s/\∃left bs,(∀k∈left,lit k=AC/\k.depth<=n)/\ReadsAll s.heap c8 left bs) _ ?_ ?_ _ _ ⟨rfl,rfl,xs,_,λk hk=>⟨ah3 hl' k hk,by have:=ag2 hk;lia⟩,hi⟩
   ·rintro v c8 r s' ⟨hr,rfl,left,bs,hall,hl2⟩;cases hl2 with
    |@cons _ _ k ks' _ _ h1 hl3=>
     obtain⟨k1,k2⟩:=hall k ∎;refine AJ (ih k k2 k1 h1 ?_);simp only[Gv,Ar,if_false];exact AQ ⟨rfl,rfl,ks',_,λu hu'=>hall u (by simp[hu']),hl3⟩
   ·rintro⟨r1,r2⟩ s' ⟨hr,rfl,_⟩;simp only at hr;subst hr;exact AQ h
abbrev isK(h:Ay)(k:Ax)(a:AM):Prop:=lit k=AC/\k.depth<=7/\∃as,Reads h (.ref a) k as
abbrev dataKind(prog:Aj)(w:BA):HeapKind prog w Ax where
 is:=isK
 hash:=hK w
 draws:=dw
 room:=λA=>A.units+8<CO
 inj:=λ⟨l1,_,_,r1⟩⟨l2,_,_,r2⟩=>a70 _ _ l1 l2 r1 r2
 keeps:=λ⟨l1,d1,_,r1⟩ho hd hs=>⟨l1,d1,a06 ho hd hs _ l1 r1⟩
 pyHash:=λhu⟨l1,d1,_,r1⟩h=>cd0 7 _ d1 l1 ⋯ r1 h
 eqBool:=λ{A E s x y a b Q}hu⟨l1,d1,_,r1⟩⟨l2,d2,_,r2⟩h=>by
  have e:Ao x y=AB (x=y):=by
   by_cases z:x=y
   ·rw[decide_eq_true z];exact(ai8 x y l1 l2).mpr z
   ·rw[decide_eq_false z];cases q:Ao x y with
    |false=>rfl
    |true=>exact absurd ((ai8 x y l1 l2).mp q) z
  have:=Fm x y A s _ _ _ _ r1 r2 (ai4 x l1) (ai4 y l2) (by have:min x.depth y.depth<=x.depth:=GP _ _;lia);rw[e]at this;exact this prog w E Q h
 quiet:=λ⟨l1,d1,_,r1⟩h=>b47 8 _ ⋯ l1 r1 h
def dataKind_room_in1{prog:Aj}{w:BA}{A:BV}(h:A.units+20<CO):(dataKind prog w).room A.in1:=by
 show A.units+1+8<CO;lia
end NK
end PySem
set_option maxRecDepth 100000
namespace L2
open PySem PySem.Spec PyProof.Rows
@[reducible]noncomputable def Key:=Sum Int Str
abbrev R7:Key->AI->Bool
 |.inl k,v=>JZ k v
 |.inr x,v=>JB x v
abbrev c24(w:BA):Key->Int
 |.inl k=>hashInt k
 |.inr x=>hashStr w x
def D9:∀{k:Key}{v:AI},R7 k v=AC->(∃i t,k=Fn i/\v=EL i t)\/(∃x t,k=Bi x/\v=EM x t)
 |.inl i,v,h=>by
  obtain⟨t,e⟩:=Value.isInt_shape (k:=i) (v:=v) h;exact .inl ⟨i,t,rfl,e⟩
 |.inr x,v,h=>by
  obtain⟨t,e⟩:=Value.isStrOf_shape (x:=x) (v:=v) h;exact .inr ⟨x,t,rfl,e⟩
def bw9(i:Int)(t:Tok):R7 (.inl i) (.int i t)=AC:=by simp[R7,JZ]
def bx2(x:Str)(t:Tok):R7 (.inr x) (.str x t)=AC:=by simp[R7,JB]
def cm9(a b:Int):AB ((Fn a:Key)=Fn b)=(a==b):=by
 by_cases e:a=b
 ·subst e;simp
 ·have h:¬(Fn a:Key)=Fn b:=λq=>e (Sum.inl.inj q);rw[decide_eq_false h];exact(beq_eq_false_iff_ne.mpr e).symm
def cm2(a b:Str):AB ((Bi a:Key)=Bi b)=AB (a=b):=by
 by_cases e:a=b
 ·subst e;simp
 ·have h:¬(Bi a:Key)=Bi b:=λq=>e (Fg q);rw[decide_eq_false h,decide_eq_false e]
def ch0(a:Int)(b:Str):AB ((Fn a:Key)=Bi b)=AF:=decide_eq_false (λq=>nomatch q)
def cr1(a:Str)(b:Int):AB ((Bi a:Key)=Fn b)=AF:=decide_eq_false (λq=>nomatch q)
abbrev D2(prog:Aj)(w:BA):PySem.KeyKind prog w Key where
 is:=R7
 hash:=c24 w
 inj:=λv a b ha hb=>by
  rcases D9 ha with⟨i,t,rfl,rfl⟩|⟨x,t,rfl,rfl⟩
  ·rcases D9 hb with⟨j,u,rfl,e⟩|⟨y,u,rfl,e⟩
   ·injection e with e1 _;rw[e1]
   ·exact nomatch e
  ·rcases D9 hb with⟨j,u,rfl,e⟩|⟨y,u,rfl,e⟩
   ·exact nomatch e
   ·injection e with e1 _;rw[e1]
 byValue:=λk v h=>by
  rcases D9 h with⟨i,t,rfl,rfl⟩|⟨x,t,rfl,rfl⟩<;>rfl
 pyHash:=λhv h=>by
  rcases D9 hv with⟨i,t,rfl,rfl⟩|⟨x,t,rfl,rfl⟩
  ·exact Gh h
  ·exact Ep h
 eqBool:=λhu hv h=>by
  rcases D9 hu with⟨i,t,rfl,rfl⟩|⟨x,t,rfl,rfl⟩
  ·rcases D9 hv with⟨j,u,rfl,rfl⟩|⟨y,u,rfl,rfl⟩
   ·rw[cm9]at h;exact wpAny_eqBool_int h
   ·rw[ch0]at h;exact SeqAt.EqAt.int_str i t y u _ _ _ _ h
  ·rcases D9 hv with⟨j,u,rfl,rfl⟩|⟨y,u,rfl,rfl⟩
   ·rw[cr1]at h;exact SeqAt.EqAt.str_int x t j u _ _ _ _ h
   ·rw[cm2]at h;exact wpAny_eqBool_str h
 «strs»:=λk x t v h=>by
  rcases D9 h with⟨i,u,rfl,e⟩|⟨y,u,rfl,e⟩
  ·exact nomatch e
  ·injection e with e1 _
   subst e1;cases v<;>rfl
def bu3(prog:Aj)(w:BA)(i:Int)(t:Tok):(D2 prog w).is (.inl i) (.int i t)=AC:=bw9 i t
def bt6(prog:Aj)(w:BA)(x:Str)(t:Tok):(D2 prog w).is (.inr x) (.str x t)=AC:=bx2 x t
variable{a b:AM}{P:Aj}{h':Ay}
inductive V where
 |non|bl (b:Bool)|int (i:Int)|str (x:Str)|byt (b:Array UInt8)|flt (b:UInt64)|ref (a:AM)|ty (n:String)
 deriving DecidableEq
abbrev d3:V->AI->Prop
 |.non,u=>u=BZ
 |.bl b,u=>u=ET b
 |.int i,u=>∃t,u=EL i t
 |.str x,u=>∃t,u=EM x t
 |.byt b,u=>∃t,u=Ja b t
 |.flt b,u=>∃t,u=HQ b t
 |.ref a,u=>u=At a
 |.ty n,u=>u=EU n
@[reducible]noncomputable def c7:List V->List AI->Prop:=Paired d3
theorem c7.length{xs:List V}{us:List AI}(r:c7 xs us):xs.length=us.length:=Paired.length r
theorem c7.get:∀{xs:List V}{us:List AI}{i:Nat}{x:V},c7 xs us->xs[i]?=AA x->∃u,us[i]?=AA u/\d3 x u
 |_,_,_,_,.nil,e=>by simp at e
 |_,_,0,_,.cons r _,e=>by simp at e;subst e;exact⟨_,rfl,r⟩
 |_,_,i+1,x,.cons _ t,e=>by
  obtain⟨u,h1,h2⟩:=c7.get (i:=i) (x:=x) t (by simpa using e);exact⟨u,by simpa using h1,h2⟩
theorem c7.set{x:V}{u:AI}(r:d3 x u):∀{xs:List V}{us:List AI}(i:Nat),c7 xs us->c7 (xs.set i x) (us.set i u)
 |_,_,_,.nil=>.nil
 |_,_,0,.cons _ t=>.cons r t
 |_,_,i+1,.cons q t=>.cons q (c7.set r i t)
theorem c7.append:∀{xs ys:List V}{us ws:List AI},c7 xs us->c7 ys ws->c7 (xs++ys) (us++ws)
 |_,_,_,_,.nil,s=>s
 |_,_,_,_,.cons r t,s=>.cons r (c7.append t s)
theorem c7.take:∀{xs:List V}{us:List AI}(n:Nat),c7 xs us->c7 (xs.take n) (us.take n)
 |_,_,0,_=>.nil
 |_,_,_+1,.nil=>.nil
 |_,_,n+1,.cons r t=>.cons r (c7.take n t)
theorem c7.drop:∀{xs:List V}{us:List AI}(n:Nat),c7 xs us->c7 (xs.drop n) (us.drop n)
 |_,_,0,r=>r
 |_,_,_+1,.nil=>.nil
 |_,_,n+1,.cons _ t=>c7.drop n t
abbrev t6:Option V->Option AI->Prop
 |some v,AA u=>d3 v u
 |none,AE=>True
 |_,_=>False
abbrev KV{κ:Type}:List (κ×V)->List (κ×AI)->Prop:=Paired λ(p:κ×V)(q:κ×AI)=>p.1=q.1/\d3 p.2 q.2
abbrev kV:Key->V
 |.inl i=>.int i
 |.inr x=>.str x
inductive HO where
 |lst (xs:List V)
 |tup (xs:List V)
 |dK (kvs:List (Key×V))|dT (kvs:List (Ax×V))
 |set (S:Int->Bool) (n:Nat)
 |ins (C dx:AM) (fs:List (Str×V))
 |own (x:AM)
 |xd (fs:List (Str×V))
 |met (f x:AM)
 |rng (lo hi:Int)
 |frz (o:Obj) (u:HO)
 |tbl (ps:Array AI)
 |ext (φ:Ay->Prop)
variable{o:HO}
@[reducible]noncomputable def Hp:=AM->Option HO
variable{H:Hp}
abbrev upd(H:Hp)(a:AM)(o:HO):Hp:=λb=>if b=a then AA o else H b
def o7:upd H a o a=AA o:=by unfold upd;rw[if_pos rfl]
def f6(h:b≠a):upd H a o b=H b:=by unfold upd;rw[if_neg h]
def o6(h:H a=AA o)(h':H b=AE):a≠b:=by
 intro e;subst e;rw[h]at h';cases h'
mutual
noncomputable def HRd(H:Hp):Ax->V->Prop
 |.int i,v=>v=.int i
 |.str x,v=>v=.str x
 |.tuple ds,v=>∃a vs,v=.ref a/\H a=AA (.tup vs)/\L7 H ds vs
 |_,_=>False
noncomputable def L7(H:Hp):List Ax->List V->Prop
 |[],vs=>vs=[]
 |d::ds,vs=>∃v r,vs=v::r/\HRd H d v/\L7 H ds r
end
mutual
theorem HRd.keeps{H H':Hp}(ht:∀b ys,H b=AA (.tup ys)->H' b=AA (.tup ys)):∀(d:Ax){v:V},HRd H d v->HRd H' d v
 |.int i,v,h=>h
 |.str x,v,h=>h
 |.tuple ds,v,h=>let⟨a,vs,e,h1,h2⟩:=h;⟨a,vs,e,ht a vs h1,L7.keeps ht ds h2⟩
 |.none,_,h=>h.elim
 |.bool _,_,h=>h.elim
 |.list _,_,h=>h.elim
 |.dict _,_,h=>h.elim
theorem L7.keeps{H H':Hp}(ht:∀b ys,H b=AA (.tup ys)->H' b=AA (.tup ys)):∀(ds:List Ax){vs:List V},L7 H ds vs->L7 H' ds vs
 |[],vs,h=>h
 |d::ds,vs,h=>let⟨v,r,e,h1,h2⟩:=h;⟨v,r,e,HRd.keeps ht d h1,L7.keeps ht ds h2⟩
end
abbrev O6(H:Hp)(d:Ax)(b:AM):Prop:=NK.lit d=AC/\d.depth<=7/\HRd H d (.ref b)
theorem O6.keeps{H':Hp}{d:Ax}(h:O6 H d b)(ht:∀b ys,H b=AA (.tup ys)->H' b=AA (.tup ys)):O6 H' d b:=⟨h.1,h.2.1,HRd.keeps ht d h.2.2⟩
abbrev A5(h:Ay)(a:AM)(items:Array AI):Prop:=∃o,h.get? a=AA o/\o.cls=.type "tuple"/\o.dict=AE/\∃n,o.data=.seq items n
def A5.tup{h:Ay}{items:Array AI}(x:A5 h a items):KW h a items:=let⟨o,e,c,_,d⟩:=x;⟨o,e,c,d⟩
def A5.lt{h:Ay}{items:Array AI}(x:A5 h a items):a<h.objs.size:=let⟨_,e,_⟩:=x;BI e
def A5.new(h:Ay)(items:Array AI):A5 (h.push {cls:=.type "tuple",data:=.seq items}) h.objs.size items:=⟨_,BN _ rfl,rfl,rfl,_,rfl⟩
section
variable (P:Aj) (w:BA)
abbrev i9(H:Hp)(h:Ay)(a:AM):HO->Prop
 |.lst xs=>xs.length<=sizeLine/\∃(its:List AI)(n:Nat),c7 xs its/\h.get? a=AA {cls:=.type "list",data:=.seq its.toArray n}
 |.tup xs=>xs.length<=sizeLine/\∃its:List AI,c7 xs its/\A5 h a its.toArray
 |.dK kvs=>kvs.length<=sizeLine/\(a==DD)=AF/\∃vs,KV kvs vs/\h.DictOf (D2 P w) a vs
 |.dT kvs=>kvs.length<=sizeLine/\(a==DD)=AF/\∃xs:List (Ax×AM×AI),
   Paired (λ(p:Ax×V)(q:Ax×AM×AI)=>p.1=q.1/\O6 H p.1 q.2.1/\d3 p.2 q.2.2) kvs xs /\
   ∃o es ep,h.get? a=AA o/\o.ExactDict/\o.data=.dict es ep/\es.toList=xs.map (entryOfKey (NK.dataKind P w))/\(xs.map (·.1)).Nodup
 |.set S n=>h.SetOf (intKind P w) a S n
 |.ins C dx fs=>H dx=AA (.own a)/\fs.length<=1000/\dx≠a/\h.get? a=AA (EA C dx) /\
   ∃mA,h.Ns1 dx mA/\(∀f,t6 (fs.lookup f) (mA f))/\PySem.Within mA (fs.map (·.1))
 |.own _=>∃o,h.get? a=AA o
 |.xd fs=>∃mA,h.Ns1 a mA/\∀f,t6 (fs.lookup f) (mA f)
 |.rng lo hi=>∃t u v,h.get? a=AA {cls:=.type "range",data:=.fields #[.int lo t,.int hi u,.int 1 v]}
 |.frz o u=>h.get? a=AA o/\i9 H h a u
 |.tbl ps=>h.get? a=AA {cls:=.none,data:=.fields ps}
 |.met f x=>h.get? a=AA (IC (.ref f) (.ref x))
 |.ext φ=>φ h/\(∃o,h.get? a=AA o)/\∀h1 h2:Ay,φ h1->(∀o,h1.get? a=AA o->h2.get? a=AA o)->φ h2
abbrev HOk(H:Hp)(h:Ay):Prop:=∀a o,H a=AA o->i9 P w H h a o
end
section
variable {w:BA} {H':Hp} {h:Ay} 
theorem i9.lt(x:i9 P w H h a o):a<h.objs.size:=by
 cases o with
 |lst xs=>obtain⟨_,_,_,_,e⟩:=x;exact BI e
 |tup xs=>obtain⟨_,_,_,p⟩:=x;exact p.lt
 |dK kvs=>obtain⟨_,_,_,_,o,_,_,e,_⟩:=x;exact BI e
 |dT kvs=>obtain⟨_,_,_,_,o,_,_,e,_⟩:=x;exact BI e
 |set S n=>obtain⟨o,_,_,_,e,_⟩:=x;exact BI e
 |ins C dx fs=>obtain⟨_,_,_,e,_⟩:=x;exact BI e
 |own y=>obtain⟨_,e⟩:=x;exact BI e
 |xd fs=>obtain⟨_,⟨_,_,_,e,_⟩,_⟩:=x;exact BI e
 |rng lo hi=>obtain⟨_,_,_,e⟩:=x;exact BI e
 |frz ob u=>obtain⟨e,_⟩:=x;exact BI e
 |tbl ps=>exact BI (show h.get? a=AA _ from x)
 |met f y=>exact BI (show h.get? a=AA _ from x)
 |ext φ=>obtain⟨_,⟨_,e⟩,_⟩:=x;exact BI e
theorem Paired.mapP{α β:Type}{F G:α->β->Prop}:∀{l₁:List α}{l₂:List β},Paired F l₁ l₂->(∀a b,F a b->G a b)->Paired G l₁ l₂
 |_,_,.nil,_=>.nil
 |_,_,.cons r t,f=>.cons (f _ _ r) (Paired.mapP t f)
def i9.stay(x:i9 P w H h a o)(k:∀b u,(b=a\/H b=AA (.own a))->h.get? b=AA u->h'.get? b=AA u)
  (ho:∀b,H b=AA (.own a)->H' b=AA (.own a)) (ht:∀b xs,H b=AA (.tup xs)->H' b=AA (.tup xs)):i9 P w H' h' a o:=by
 induction o with
 |lst xs=>obtain⟨z,its,n,r,e⟩:=x;exact⟨z,its,n,r,k _ _ (.inl rfl) e⟩
 |tup xs=>obtain⟨z,its,r,ob,e,c⟩:=x;exact⟨z,its,r,ob,k _ _ (.inl rfl) e,c⟩
 |dK kvs=>obtain⟨z,y,vs,r,ob,es,ep,e,c⟩:=x;exact⟨z,y,vs,r,ob,es,ep,k _ _ (.inl rfl) e,c⟩
 |dT kvs=>
  obtain⟨z,y,xs,r,ob,es,ep,e,c⟩:=x;exact⟨z,y,xs,Paired.mapP r λp q z=>⟨z.1,z.2.1.keeps ht,z.2.2⟩,ob,es,ep,k _ _ (.inl rfl) e,c⟩
 |set S n=>obtain⟨ob,es,ep,t,e,c⟩:=x;exact⟨ob,es,ep,t,k _ _ (.inl rfl) e,c⟩
 |ins C dx fs=>
  obtain⟨d,z,ne,e,mA,⟨od,es,ep,e2,c⟩,r⟩:=x;exact⟨ho _ d,z,ne,k _ _ (.inl rfl) e,mA,⟨od,es,ep,k _ _ (.inr d) e2,c⟩,r⟩
 |own y=>obtain⟨ob,e⟩:=x;exact⟨ob,k _ _ (.inl rfl) e⟩
 |xd fs=>obtain⟨mA,⟨od,es,ep,e,c⟩,r⟩:=x;exact⟨mA,⟨od,es,ep,k _ _ (.inl rfl) e,c⟩,r⟩
 |rng lo hi=>obtain⟨t,u,v,e⟩:=x;exact⟨t,u,v,k _ _ (.inl rfl) e⟩
 |frz ob u ih=>obtain⟨e,q⟩:=x;exact⟨k _ _ (.inl rfl) e,ih q⟩
 |tbl ps=>
  have e:h.get? a=AA {cls:=.none,data:=.fields ps}:=x;show h'.get? a=AA {cls:=.none,data:=.fields ps};exact k a _ (.inl rfl) e
 |met f y=>
  have e:h.get? a=AA (IC (.ref f) (.ref y)):=x;show h'.get? a=AA (IC (.ref f) (.ref y));exact k a _ (.inl rfl) e
 |ext φ=>obtain⟨p,⟨o,e⟩,st⟩:=x;exact⟨st _ _ p λo q=>k _ _ (.inl rfl) q,⟨o,k _ _ (.inl rfl) e⟩,st⟩
theorem HOk.lt(x:HOk P w H h)(e:H a=AA o):a<h.objs.size:=(x a o e).lt
def HOk.fresh(x:HOk P w H h)(e:h.objs.size<=a):H a=AE:=by
 cases q:H a with
 |none=>rfl
 |some u=>exact absurd (Al (x.lt q) e) (Cw _)
def HOk.kept(x:HOk P w H h)(k:∀b u,h.get? b=AA u->h'.get? b=AA u):HOk P w H h':=λa o e=>
 (x a o e).stay (λb u _ q=>k b u q) (λ_ q=>q) λ_ _ q=>q
def HOk.laid(x:HOk P w H h)(k:∀b u,h.get? b=AA u->h'.get? b=AA u)(hp:h.objs.size<=a)(new:i9 P w (upd H a o) h' a o):HOk P w (upd H a o) h':=λb u e=>by
 have hn:=x.fresh hp
 by_cases hb:b=a
 ·subst hb;rw[o7]at e;cases e;exact new
 ·rw[f6 hb]at e;exact(x b u e).stay (λc v _ q=>k c v q) (λc q=>by rw[f6 (o6 q hn)];exact q) λc xs q=>by rw[f6 (o6 q hn)];exact q
end
abbrev Rd(H:Hp)(a:AM)(u:HO):Prop:=H a=AA u\/∃o,H a=AA (.frz o u)
def Rd.ok{w:BA}{h:Ay}{u:HO}(r:Rd H a u)(x:HOk P w H h):i9 P w H h a u:=by
 rcases r with r|⟨o,r⟩
 ·exact x a u r
 ·obtain⟨_,q⟩:=x a _ r;exact q
abbrev Mut:Option HO->Prop
 |some (.lst _)=>True
 |some (.dK _)=>True
 |some (.dT _)=>True
 |some (.set _ _)=>True
 |some (.ins _ _ _)=>True
 |some (.ext _)=>True
 |_=>False
section
variable {w:BA} {h:Ay} {x e:AM} {o':HO}
def HOk.write(ok:HOk P w H h)(mu:Mut (H x))(he:e=x\/H e=AA (.own x))(k:∀b u,b≠e->h.get? b=AA u->h'.get? b=AA u)(heo:∃u,h'.get? e=AA u)
  (new:i9 P w (upd H x o') h' x o'):HOk P w (upd H x o') h':=λb u q=>by
 have nown:∀c y,H c=AA (.own y)->c≠x:=λc y r z=>by subst z;rw[r]at mu;exact mu
 have ntup:∀c xs,H c=AA (.tup xs)->c≠x:=λc xs r z=>by subst z;rw[r]at mu;exact mu
 by_cases hb:b=x
 ·subst hb;rw[o7]at q;cases q;exact new
 ·rw[f6 hb]at q
  by_cases hbe:b=e
  ·have q':H b=AA (.own x):=by
    rcases he with z|z
    ·exact absurd (hbe.trans z) hb
    ·rw[hbe];exact z
   rw[q]at q';cases q';obtain⟨v,hv⟩:=heo;exact⟨v,by rw[hbe];exact hv⟩
  ·refine(ok b u q).stay (λc v hc r=>k c v ?_ r) (λc r=>by rw[f6 (nown c b r)];exact r) λc xs r=>by rw[f6 (ntup c xs r)];exact r
   rcases hc with rfl|hc
   ·exact hbe
   ·rintro rfl
    rcases he with z|z
    ·exact nown c b hc z
    ·rw[hc]at z;cases z;exact hb rfl
end
structure Un(fs ex:List AM)(H H':Hp)(h h':Ay):Prop where
 keep:∀b o,h.get? b=AA o->H b=AE->b∉fs->b∉ex->h'.get? b=AA o
 slot:∀b o,h.get? b=AA o->H b=AE->b∈fs->b∉ex->∃sl,h'.get? b=AA {o with slots:=sl}
 free:∀b o,h.get? b=AA o->H b=AE->b∉ex->H' b=AE
 there:∀b o,h.get? b=AA o->b∉ex->∃o',h'.get? b=AA o'
 tups:∀b xs,H b=AA (.tup xs)->H' b=AA (.tup xs)
 frzs:∀b o u,H b=AA (.frz o u)->H' b=AA (.frz o u)
 tbls:∀b ps,H b=AA (.tbl ps)->∃more,H' b=AA (.tbl (ps++more))
section
variable {fs fs' ex ex':List AM} {H1 H2:Hp} {h h1 h2:Ay} {x e:AM} 
def Un.any(u:Un fs ex H H1 h h1){ob:Obj}(q:h.get? b=AA ob)(n:H b=AE)(hx:b∉ex):∃sl,h1.get? b=AA {ob with slots:=sl}:=by
 by_cases hb:b∈fs
 ·exact u.slot b ob q n hb hx
 ·exact⟨ob.slots,u.keep b ob q n hb hx⟩
def Un.kept(k:∀b u,h.get? b=AA u->h'.get? b=AA u):Un fs ex H H h h':=
 ⟨λb ob q _ _ _=>k b ob q,λb ob q _ _ _=>⟨ob.slots,k b ob q⟩,λ_ _ _ n _=>n,λb ob q _=>⟨ob,k b ob q⟩,λ_ _ q=>q,λ_ _ _ q=>q,λ_ ps q=>⟨#[],by rw[q];simp⟩⟩
def Un.refl:Un fs ex H H h h:=Un.kept λ_ _ q=>q
def Un.laid(k:∀b u,h.get? b=AA u->h'.get? b=AA u)(hp:h.objs.size<=a)(hn:H a=AE):Un fs ex H (upd H a o) h h' where
 keep:=λb u q _ _ _=>k b u q
 slot:=λb u q _ _ _=>⟨u.slots,k b u q⟩
 free:=λb u q n _=>by rw[f6 (Br (Al (BI q) hp))];exact n
 there:=λb u q _=>⟨u,k b u q⟩
 tups:=λb xs q=>by rw[f6 (o6 q hn)];exact q
 frzs:=λb u xs q=>by rw[f6 (o6 q hn)];exact q
 tbls:=λb ps q=>⟨#[],by rw[f6 (o6 q hn),q];simp⟩
def Un.write(mu:Mut (H x))(he:e=x\/H e=AA (.own x))(k:∀b u,b≠e->h.get? b=AA u->h'.get? b=AA u)(heo:∃u,h'.get? e=AA u):Un fs ex H (upd H x o) h h':=by
 have hx:∀b,H b=AE->b≠x:=λb n z=>by subst z;rw[n]at mu;exact mu
 have hb:∀b,H b=AE->b≠e:=λb n z=>by
  subst z
  rcases he with r|r
  ·exact hx b n r
  ·rw[n]at r;cases r
 have hm:∀b u,H b=AA u->¬Mut (AA u)->b≠x:=λb u q nm z=>by subst z;rw[q]at mu;exact nm mu
 refine⟨λb u q n _ _=>k b u (hb b n) q,λb u q n _ _=>⟨u.slots,k b u (hb b n) q⟩,λb u q n _=>by rw[f6 (hx b n)];exact n,λb u q _=>?_,
  λb xs q=>by rw[f6 (hm b _ q λz=>z)];exact q,λb u xs q=>by rw[f6 (hm b _ q λz=>z)];exact q,λb ps q=>⟨#[],by rw[f6 (hm b _ q λz=>z),q];simp⟩⟩
 by_cases hbe:b=e
 ·subst hbe;exact heo
 ·exact⟨u,k b u hbe q⟩
end
abbrev trk(h:Ay)(H:Hp):List AM:=(Da h.objs.size).filter λa=>(H a).isSome
abbrev C6(h:Ay)(H:Hp):Ay:=W.hideAll h (trk h H)
def bz0(h:Ay)(H:Hp):(C6 h H).objs.size=h.objs.size:=W.hideAll_size _ _
def au2{h:Ay}{o:Obj}(e:h.get? b=AA o)(n:H b=AE):(C6 h H).get? b=AA o:=
 W.hideAll_get _ e λhm=>by
  have q:(H b).isSome=AC:=(Ic.mp hm).2;rw[n]at q;simp at q
def a48{h:Ay}{o:Obj}(e:(C6 h H).get? b=AA o):h.get? b=AA o/\H b=AE:=by
 have e':h.get? b=AA o:=W.of_hideAll (trk h H) e;refine⟨e',?_⟩;cases q:H b with
 |none=>rfl
 |some x=>
  have hm:b∈trk h H:=Ic.mpr ⟨List.mem_range.mpr (BI e'),by simp[q]⟩;have z:(C6 h H).get? b=AE:=W.hideAll_none (trk h H) hm;rw[z]at e;cases e
abbrev cg2(g h:Ay)(L:AM):List (AM×Obj):=(Da h.objs.size).filterMap λa=>if a=L\/(g.get? a).isSome=AC then AE else(h.get? a).map λo=>(a,o)
abbrev c8(g h:Ay)(L d:AM):List (AM×Obj):=(cg2 g h L).filter λp=>AB (p.1≠d)
end L2
namespace L2
open PySem PySem.Spec PyProof.Rows
variable{i:Nat}
structure Mod(K:AS)(mg:Str->Option AI)(base:Ay):Prop where
 kin:K.In base
 glob:base.Ns AO mg
 blt:∃mb,base.Ns DQ mb/\∀x:Str,x≠"__name__"->mb x=BU x
 nolimit:base.NoLimit
structure Cx where
 prog:Aj
 w:BA
 K:AS
 mg:Str->Option AI
 base:Ay
 A:BV
 N:List Str
 s₀:AL
 H₀:Hp
 env:Env
 outer:List Env
 stack:List Env
 ex:List AM
 fn:Str->Bool
 calm:Bool
 pn:List (AM×Obj)
 xe:AI->AL->Prop
 ow:Str->Bool:=λ_=>AF
abbrev frs(l:List Env):List AM:=l.filterMap (·.frame)
@[reducible]noncomputable def Cx.fs(X:Cx):List AM:=frs X.outer
abbrev Vis(sc:BR)(x:Str):Prop:=sc.names.lookup x=AA .local\/sc.names.lookup x=AA .cell\/sc.names.lookup x=AA .free
abbrev Loc(sc:BR)(x:Str):Prop:=sc.names.lookup x=AA .local\/sc.names.lookup x=AA .cell
abbrev bm6(env:Env)(h:Ay)(m:Str->Option AI)(x:Str)(u:AI):Prop:=
 (env.kindOf x=AA .local/\m x=AA u)\/((env.kindOf x=AA .cell\/env.kindOf x=AA .free)/\∃c,env.cells.lookup x=AA c/\h.IsCell c (AA u))
structure Cx.Ok(X:Cx):Prop where
 mod:Mod X.K X.mg X.base
 kind:X.env.scope.kind=.function
 glob:X.env.globals=AO
 blt:X.env.builtins=DQ
 above:X.s₀.heap.objs.size<=X.env.locals
 inj:∀x y c,X.env.cells.lookup x=AA c->X.env.cells.lookup y=AA c->x=y
 has:∀x,(X.env.kindOf x=AA .cell\/X.env.kindOf x=AA .free)->∃c,X.env.cells.lookup x=AA c
 cab:∀x c,X.fn x=AC\/X.ow x=AC->X.env.cells.lookup x=AA c->X.s₀.heap.objs.size<=c
 hd:X.calm=AC->X.A.handled=AE
 frames:X.A.frames=AA X.stack
 stk:X.stack=X.outer\/(X.stack=X.env::X.outer/\X.env.frame=AA X.env.locals)
 exf:∀b∈X.ex,b≠X.env.locals/\∀x c,X.env.cells.lookup x=AA c->c≠b
 bs:∀b o,X.base.get? b=AA o->X.s₀.heap.get? b=AA o/\X.H₀ b=AE
 bsz:X.base.objs.size<=X.s₀.heap.objs.size
 noex:∀b o,X.base.get? b=AA o->b∉X.ex
 exfs:∀b∈X.ex,b∉X.fs
 funs:X.s₀.heap.FunFrames X.base X.outer
 frf:∀b∈X.fs,X.H₀ b=AE
structure Inv(X:Cx)(pins:List (AM×Obj))(σ:List (Option V))(H:Hp)(s:AL):Prop where
 ok:X.Ok
 os:s.os=X.s₀.os
 bare:EZ s.gens
 base:Un X.fs X.ex X.H₀ H X.s₀.heap s.heap
 loc:∃m,s.heap.Ns X.env.locals m/\∀(i:Nat)(x:Str)(v:V),X.N[i]?=AA x->σ[i]?=AA (AA v)->Vis X.env.scope x->∃u,d3 v u/\bm6 X.env s.heap m x u
 cell:∀x c,X.env.cells.lookup x=AA c->∃v,s.heap.IsCell c v
 free:H X.env.locals=AE
 freeC:∀x c,X.env.cells.lookup x=AA c->H c=AE\/(X.fn x=AF/\∃o u,H c=AA (.frz o u))
 pin:∀p∈X.pn++pins,s.heap.get? p.1=AA p.2/\H p.1=AE/\p.1≠X.env.locals/\p.1∉X.fs/\∀v,p.2.data≠.cell v
 hok:HOk X.prog X.w H s.heap
 len:σ.length=X.N.length
section
variable {X:Cx} {pins:List (AM×Obj)} {σ:List (Option V)} {H H':Hp} {s:AL} {h':Ay}
def Cx.Ok.nofr(ok:X.Ok){b:AM}{o:Obj}(e:X.base.get? b=AA o):b∉X.fs:=λhb=>by
 have:=(ok.funs.mem hb).1;rw[e]at this;cases this
theorem Inv.bs(I:Inv X pins σ H s):∀b o,X.base.get? b=AA o->s.heap.get? b=AA o/\H b=AE:=λb o e=>
 ⟨I.base.keep b o (I.ok.bs b o e).1 (I.ok.bs b o e).2 (I.ok.nofr e) (I.ok.noex b o e),I.base.free b o (I.ok.bs b o e).1 (I.ok.bs b o e).2 (I.ok.noex b o e)⟩
def Inv.bk(I:Inv X pins σ H s):∀b o,X.base.get? b=AA o->s.heap.get? b=AA o:=λb o e=>(I.bs b o e).1
theorem Inv.mod(I:Inv X pins σ H s):Mod X.K X.mg X.base:=I.ok.mod
def Inv.kIn(I:Inv X pins σ H s):X.K.In s.heap:=I.ok.mod.kin.keeps I.bk
theorem Inv.lt(I:Inv X pins σ H s):X.env.locals<s.heap.objs.size:=let⟨_,hn,_⟩:=I.loc;hn.lt
def Inv.sz(I:Inv X pins σ H s):X.s₀.heap.objs.size<=s.heap.objs.size:=Ag I.ok.above (HR I.lt)
def Inv.nofs(I:Inv X pins σ H s){a:AM}(h:s.heap.objs.size<=a):a∉X.fs:=λhb=>by
 obtain⟨_,o,ho,_⟩:=I.ok.funs.mem hb;exact absurd (Al (BI ho) (Ag I.sz h)) (Cw _)
def Inv.cne(I:Inv X pins σ H s):∀x c,X.env.cells.lookup x=AA c->c≠X.env.locals:=λx c e z=>by
 obtain⟨v,o,ho,hd⟩:=I.cell x c e;obtain⟨m,⟨o',es,ep,ho',hd',_⟩,_⟩:=I.loc;rw[z,ho']at ho;cases ho;rw[hd']at hd;cases hd
theorem Inv.funs(I:Inv X pins σ H s):s.heap.FunFrames X.base X.outer:=by
 have all:∀(l:List Env),(∀b∈frs l,b∈X.fs)->X.s₀.heap.FunFrames X.base l->s.heap.FunFrames X.base l:=by
  intro l
  induction l with
  |nil=>intro _ _;trivial
  |cons env r ih=>
   intro hs hl;obtain⟨hk,⟨L,o,hf,hn,ho,hd⟩,hr⟩:=hl;have hL:L∈X.fs:=hs L (by unfold frs;rw[Co,hf];exact CL);obtain⟨sl,e⟩:=I.base.slot L o ho (I.ok.frf L hL) hL λz=>I.ok.exfs L z hL;exact⟨hk,⟨L,_,hf,hn,e,hd⟩,ih (λb hb=>hs b (by unfold frs;rw[Co,hf];exact BQ _ hb)) hr⟩
 exact all X.outer (λ_ hb=>hb) I.ok.funs
theorem Inv.stack(I:Inv X pins σ H s):s.heap.FunFrames X.base X.stack:=by
 rcases I.ok.stk with e|⟨e,hf⟩
 ·rw[e];exact I.funs
 ·rw[e];obtain⟨m,hn,_⟩:=I.loc;refine .cons (by rw[I.ok.kind];decide) hf hn ?_ I.funs;exact Hb (Ag I.ok.bsz I.ok.above)
def Inv.stkSub(I:Inv X pins σ H s):∀b∈frs X.stack,b∈X.env.locals::X.fs:=λb hb=>by
 rcases I.ok.stk with e|⟨e,hf⟩
 ·rw[e]at hb;exact BQ _ hb
 ·rw[e]at hb;unfold frs at hb;rw[Co,hf]at hb;exact hb
def Inv.stkFree(I:Inv X pins σ H s):∀b∈frs X.stack,H b=AE:=λb hb=>by
 rcases AT.mp (I.stkSub b hb)with e|hb
 ·rw[e];exact I.free
 ·obtain⟨_,o,ho,_⟩:=I.ok.funs.mem hb;exact I.base.free b o ho (I.ok.frf b hb) λz=>I.ok.exfs b z hb
def Inv.step{g':Array GenState}{t':Nat}{d':Drawn}{ch:List AM}(I:Inv X pins σ H s)
  (hch:∀b∈ch,(b∈X.ex\/X.s₀.heap.objs.size<=b)/\b≠X.env.locals/\(∀x c,X.env.cells.lookup x=AA c->c≠b)/\∀p∈X.pn++pins,p.1≠b)
  (keep:∀b o,b≠X.env.locals->b∉X.fs->b∉ch->s.heap.get? b=AA o->H b=AE->h'.get? b=AA o)
  (slot:∀b o,b≠X.env.locals->b∈X.fs->b∉ch->s.heap.get? b=AA o->H b=AE->∃sl,h'.get? b=AA {o with slots:=sl}) (free:∀b o,b∉ch->s.heap.get? b=AA o->H b=AE->H' b=AE)
  (there:∀b o,b∉ch->s.heap.get? b=AA o->∃o',h'.get? b=AA o')
  (tups:∀b xs,H b=AA (.tup xs)->H' b=AA (.tup xs)) (frzs:∀b o u,H b=AA (.frz o u)->H' b=AA (.frz o u)) (tbls:∀b ps,H b=AA (.tbl ps)->∃more,H' b=AA (.tbl (ps++more)))
  (ns:∀m,s.heap.Ns X.env.locals m->h'.Ns X.env.locals m) (hok:HOk X.prog X.w H' h') (hg:EZ g') :
  Inv X pins σ H' {s with heap:=h',gens:=g',drawn:=d',toks:=t'}:=by
 have neL:∀b o,X.s₀.heap.get? b=AA o->b≠X.env.locals:=λb o e=>Br (Al (BI e) I.ok.above);have neC:∀b o,X.s₀.heap.get? b=AA o->b∉X.ex->b∉ch:=λb o e hx hb=>by
  rcases(hch b hb).1 with z|z
  ·exact hx z
  ·exact absurd (Al (BI e) z) (Cw _)
 have cellK:∀x c,X.env.cells.lookup x=AA c->∀v,s.heap.IsCell c v->h'.IsCell c v:=λx c e v⟨o,ho,hd⟩=>by
  have nch:c∉ch:=λz=>(hch c z).2.2.1 x c e rfl
  rcases I.freeC x c e with hfr|⟨_,oz,uz,hz⟩
  ·by_cases hc:c∈X.fs
   ·obtain⟨sl,q⟩:=slot c o (I.cne x c e) hc nch ho hfr;exact⟨_,q,hd⟩
   ·exact⟨o,keep c o (I.cne x c e) hc nch ho hfr,hd⟩
  ·obtain⟨h1,_⟩:=I.hok c _ hz;obtain⟨h2,_⟩:=hok c _ (frzs c oz uz hz);rw[h1]at ho;cases ho;exact⟨_,h2,hd⟩
 refine⟨I.ok,I.os,hg,⟨λb o e n hb hx=>?_,λb o e n hb hx=>?_,λb o e n hx=>?_,λb o e hx=>?_,λb xs e=>tups b xs (I.base.tups b xs e),λb o xs e=>frzs b o xs (I.base.frzs b o xs e),λb ps e=>?_⟩,?_,λx c e=>?_,?_,λx c e=>?_,λp hp=>?_,hok,I.len⟩
 ·exact keep b o (neL b o e) hb (neC b o e hx) (I.base.keep b o e n hb hx) (I.base.free b o e n hx)
 ·obtain⟨sl,e1⟩:=I.base.slot b o e n hb hx;obtain⟨sl',e2⟩:=slot b _ (neL b o e) hb (neC b o e hx) e1 (I.base.free b o e n hx);exact⟨sl',e2⟩
 ·obtain⟨o',e1⟩:=I.base.there b o e hx;exact free b o' (neC b o e hx) e1 (I.base.free b o e n hx)
 ·obtain⟨o',e1⟩:=I.base.there b o e hx;exact there b o' (neC b o e hx) e1
 ·obtain⟨m1,e1⟩:=I.base.tbls b ps e;obtain⟨m2,e2⟩:=tbls b _ e1;exact⟨m1++m2,by rw[e2,Array.append_assoc]⟩
 ·obtain⟨m,hn,hl⟩:=I.loc;refine⟨m,ns m hn,λi x v e1 e2 e3=>?_⟩;obtain⟨u,r,l⟩:=hl i x v e1 e2 e3;refine⟨u,r,?_⟩
  rcases l with l|⟨k,c,e,z⟩
  ·exact .inl l
  ·exact .inr ⟨k,c,e,cellK x c e _ z⟩
 ·obtain⟨v,z⟩:=I.cell x c e;exact⟨v,cellK x c e v z⟩
 ·obtain⟨m,⟨o,_,_,ho,_⟩,_⟩:=I.loc;exact free _ o (λz=>(hch _ z).2.1 rfl) ho I.free
 ·obtain⟨v,o,ho,hd⟩:=I.cell x c e
  rcases I.freeC x c e with hfr|⟨hfn,oz,uz,hz⟩
  ·exact .inl (free c o (λz=>(hch c z).2.2.1 x c e rfl) ho hfr)
  ·exact .inr ⟨hfn,oz,uz,frzs c oz uz hz⟩
 ·obtain⟨e,n,ne,nf,d⟩:=I.pin p hp;have nch:p.1∉ch:=λz=>(hch p.1 z).2.2.2 p hp rfl;exact⟨keep p.1 p.2 ne nf nch e n,free p.1 p.2 nch e n,ne,nf,d⟩
def Inv.un{t':Nat}(I:Inv X pins σ H s)(u:Un X.fs [] H H' s.heap h')(hok:HOk X.prog X.w H' h'):Inv X pins σ H' {s with heap:=h',toks:=t'}:=by
 obtain⟨m,⟨o,es,ep,ho,r⟩,_⟩:=id I.loc;obtain⟨sl,hL⟩:=u.any ho I.free ∎;exact I.step (g':=s.gens) (d':=s.drawn) (ch:=[]) (λ_ z=>nomatch z) (λb o _ hb _ e n=>u.keep b o e n hb ∎) (λb o _ hb _ e n=>u.slot b o e n hb ∎) (λb o _ e n=>u.free b o e n ∎) (λb o _ e=>u.there b o e ∎) u.tups u.frzs u.tbls (λm' hm=>by
  obtain⟨o',es',ep',ho',r'⟩:=hm;rw[ho]at ho';cases ho';exact⟨_,es',ep',hL,r'⟩) hok I.bare
def Inv.call{g':Array GenState}{t':Nat}{d':Drawn}{ch:List AM}(I:Inv X pins σ H s)(u:Un (frs X.stack) ch H H' s.heap h')(hok:HOk X.prog X.w H' h')(hg:EZ g')
  (hch:∀b∈ch,(b∈X.ex\/X.s₀.heap.objs.size<=b)/\b≠X.env.locals/\(∀x c,X.env.cells.lookup x=AA c->c≠b)/\∀p∈X.pn++pins,p.1≠b) :
  Inv X pins σ H' {s with heap:=h',gens:=g',drawn:=d',toks:=t'}:=by
 obtain⟨m,⟨o,es,ep,ho,r⟩,_⟩:=id I.loc;obtain⟨sl,hL⟩:=u.any ho I.free λz=>(hch _ z).2.1 rfl;exact I.step (ch:=ch) hch (λb o hL hb hc e n=>u.keep b o e n (λz=>(AT.mp (I.stkSub b z)).elim hL hb) hc) (λb o _ _ hc e n=>u.any e n hc) (λb o hc e n=>u.free b o e n hc) (λb o hc e=>u.there b o e hc) u.tups u.frzs u.tbls (λm' hm=>by
  obtain⟨o',es',ep',ho',r'⟩:=hm;rw[ho]at ho';cases ho';exact⟨_,es',ep',hL,r'⟩) hok hg
def Inv.turned{t':Nat}{it:AM}(I:Inv X pins σ H s)(k:∀b o,b≠it->s.heap.get? b=AA o->h'.get? b=AA o)(hn:H it=AE)(hL:it≠X.env.locals)
  (h1:it∈X.ex\/X.s₀.heap.objs.size<=it) (h2:∀x c,X.env.cells.lookup x=AA c->c≠it) (h3:∀p∈X.pn++pins,p.1≠it):Inv X pins σ H {s with heap:=h',toks:=t'}:=by
 have nit:∀b u,H b=AA u->b≠it:=λb u e z=>by rw[z,hn]at e;cases e
 refine I.step (g':=s.gens) (d':=s.drawn) (ch:=[it]) (λb hb=>?_) (λb o _ _ hc e _=>k b o (λz=>hc (by simp[z])) e) (λb o _ _ hc e _=>⟨o.slots,k b o (λz=>hc (by simp[z])) e⟩) (λ_ _ _ _ n=>n)
  (λb o hc e=>⟨o,k b o (λz=>hc (by simp[z])) e⟩) (λ_ _ e=>e) (λ_ _ _ e=>e) (λb ps e=>⟨#[],by rw[e];simp⟩) (λm hm=>?_) (λb u e=>?_) I.bare
 ·have e:b=it:=by simpa using hb
  subst e;exact⟨h1,hL,h2,h3⟩
 ·obtain⟨o,es,ep,ho,r⟩:=hm;exact⟨o,es,ep,k _ o (BD hL) ho,r⟩
 ·refine(I.hok b u e).stay (λc v hc q=>k c v ?_ q) (λ_ q=>q) λ_ _ q=>q
  rcases hc with z|z
  ·rw[z];exact nit b u e
  ·exact nit c _ z
def Inv.tok(I:Inv X pins σ H s)(t:Nat):Inv X pins σ H {s with toks:=t}:=I.un (h':=s.heap) (t':=t) Un.refl I.hok
theorem Inv.kept{t':Nat}(I:Inv X pins σ H s)(k:∀b u,s.heap.get? b=AA u->h'.get? b=AA u):Inv X pins σ H {s with heap:=h',toks:=t'}:=I.un (Un.kept k) (I.hok.kept k)
theorem Inv.laid{a:AM}{o:HO}{t':Nat}(I:Inv X pins σ H s)(k:∀b u,s.heap.get? b=AA u->h'.get? b=AA u)(hp:s.heap.objs.size<=a)(new:i9 X.prog X.w (upd H a o) h' a o):
  Inv X pins σ (upd H a o) {s with heap:=h',toks:=t'}:=I.un (Un.laid k hp (I.hok.fresh hp)) (I.hok.laid k hp new)
theorem Inv.write{x e:AM}{o:HO}{t':Nat}(I:Inv X pins σ H s)(mu:Mut (H x))(he:e=x\/H e=AA (.own x))(k:∀b u,b≠e->s.heap.get? b=AA u->h'.get? b=AA u)(heo:∃u,h'.get? e=AA u)
  (new:i9 X.prog X.w (upd H x o) h' x o):Inv X pins σ (upd H x o) {s with heap:=h',toks:=t'}:=I.un (Un.write mu he k heo) (I.hok.write mu he k heo new)
def Inv.pins_of{pins':List (AM×Obj)}(I:Inv X pins σ H s)(h:∀p∈pins',s.heap.get? p.1=AA p.2/\H p.1=AE/\p.1≠X.env.locals/\p.1∉X.fs/\∀v,p.2.data≠.cell v):Inv X pins' σ H s:=
 ⟨I.ok,I.os,I.bare,I.base,I.loc,I.cell,I.free,I.freeC,λp hp=>(Au.mp hp).elim (λz=>I.pin p (DN _ z)) (h p),I.hok,I.len⟩
def ag7{N:List Str}(hN:N.Nodup){j:Nat}{x:Str}(a:N[i]?=AA x)(b:N[j]?=AA x):i=j:=by
 obtain⟨h1,e1⟩:=Ai.mp a;obtain⟨h2,e2⟩:=Ai.mp b;exact(List.getElem_inj hN).mp (e1.trans e2.symm)
def bz1{M:KY}{A:BV}{E:AI->AL->Prop}{x:Str}{v:V}{u:AI}{Q:Unit->AL->Prop}(I:Inv X pins σ H s)(hN:X.N.Nodup)(hi:X.N[i]?=AA x)(hx:Loc X.env.scope x)(r:d3 v u)
  (h:∀s',Inv X pins (σ.set i (AA v)) H s'->(∃a,CQ a s.heap s'.heap/\(a=X.env.locals\/X.env.cells.lookup x=AA a))->Q () s') (hf:X.fn x=AC\/X.env.scope.names.lookup x=AA .local:=by first|exact .inl rfl|exact .inr rfl|assumption):AU M A (storeName X.env x u) Q E s:=by
 obtain⟨m,hn,hl⟩:=id I.loc;have hcls:(X.env.scope.kind==.class||(X.env.scope.kind==.module&&X.env.locals != X.env.globals))=AF:=by rw[I.ok.kind];rfl
 have hiσ:i<σ.length:=by rw[I.len];exact(Ai.mp hi).1
 have cne:=I.cne;have tracked:∀{a:AM}{h':Ay},(∃o,s.heap.get? a=AA o/\H a=AE)->CQ a s.heap h'->HOk X.prog X.w H h':=λ{a h'}ha hs b ob e=>by
  obtain⟨_,_,hfree⟩:=ha;refine(I.hok b ob e).stay (λc w' hc q=>(hs.2 c ?_).trans q) (λ_ q=>q) λ_ _ q=>q;rintro rfl
  rcases hc with rfl|hc
  ·rw[hfree]at e;cases e
  ·rw[hfree]at hc;cases hc
 rcases hx with hk|hk
 ·refine wpAny_storeName_local hk hn (λh' hn' hs=>?_) hcls;obtain⟨oL,_,_,hoL,_⟩:=id hn;refine h _ ⟨I.ok,I.os,I.bare,⟨λb o e n hb hx=>?_,λb o e n hb hx=>?_,I.base.free,λb o e hx=>?_,I.base.tups,I.base.frzs,I.base.tbls⟩,⟨_,hn',λj y v' e1 e2 e3=>?_⟩,λy c e=>?_,I.free,I.freeC,λp hp=>?_,tracked ⟨oL,hoL,I.free⟩ hs,by simpa using I.len⟩ ⟨_,hs,.inl rfl⟩
  ·exact(hs.2 b (Br (Al (BI e) I.ok.above))).trans (I.base.keep b o e n hb hx)
  ·obtain⟨sl,e1⟩:=I.base.slot b o e n hb hx;exact⟨sl,(hs.2 b (Br (Al (BI e) I.ok.above))).trans e1⟩
  ·obtain⟨o',e1⟩:=I.base.there b o e hx;exact⟨o',(hs.2 b (Br (Al (BI e) I.ok.above))).trans e1⟩
  ·by_cases hj:j=i
   ·subst hj;rw[hi]at e1;cases e1;rw[Dd hiσ]at e2;cases e2;exact⟨u,r,.inl ⟨hk,∎⟩⟩
   ·rw[CC (BD hj)]at e2;obtain⟨u',r',q⟩:=hl j y v' e1 e2 e3;refine⟨u',r',?_⟩
    rcases q with⟨k,e⟩|⟨k,c,e,z⟩
    ·refine .inl ⟨k,?_⟩;have:y≠x:=λe=>hj (ag7 hN e1 (e▸hi));simp[this,e]
    ·exact .inr ⟨k,c,e,z.sameBut hs (cne y c e)⟩
  ·obtain⟨w',z⟩:=I.cell y c e;exact⟨w',z.sameBut hs (cne y c e)⟩
  ·obtain⟨e,n,ne,nf,d⟩:=I.pin p hp;exact⟨(hs.2 p.1 ne).trans e,n,ne,nf,d⟩
 ·have hfn:X.fn x=AC:=by
   rcases hf with z|z
   ·exact z
   ·rw[z]at hk;cases hk
  obtain⟨c,hc⟩:=I.ok.has x (.inl hk);obtain⟨w',z⟩:=I.cell x c hc;have hfree:H c=AE:=(I.freeC x c hc).resolve_right λz=>by rw[hfn]at z;exact absurd z.1 ∅
  refine wpAny_storeName_cell I.ok.kind hk hc z (λh' hc' hs=>?_);obtain⟨oc,hoc,hocd⟩:=id z;refine h {s with heap:=h'} ⟨I.ok,I.os,I.bare,⟨λb o e n hb hx=>?_,λb o e n hb hx=>?_,I.base.free,λb o e hx=>?_,I.base.tups,I.base.frzs,I.base.tbls⟩,⟨m,hn.sameBut hs (BD (cne x c hc)),λj y v' e1 e2 e3=>?_⟩,λy c' e=>?_,I.free,I.freeC,λp hp=>?_,tracked ⟨oc,hoc,hfree⟩ hs,by simpa using I.len⟩ ⟨c,hs,.inr hc⟩
  ·exact(hs.2 b (Br (Al (BI e) (I.ok.cab x c (.inl hfn) hc)))).trans (I.base.keep b o e n hb hx)
  ·obtain⟨sl,e1⟩:=I.base.slot b o e n hb hx;exact⟨sl,(hs.2 b (Br (Al (BI e) (I.ok.cab x c (.inl hfn) hc)))).trans e1⟩
  ·obtain⟨o',e1⟩:=I.base.there b o e hx;exact⟨o',(hs.2 b (Br (Al (BI e) (I.ok.cab x c (.inl hfn) hc)))).trans e1⟩
  ·by_cases hj:j=i
   ·subst hj;rw[hi]at e1;cases e1;rw[Dd hiσ]at e2;cases e2;exact⟨u,r,.inr ⟨.inl hk,c,hc,hc'⟩⟩
   ·rw[CC (BD hj)]at e2;obtain⟨u',r',q⟩:=hl j y v' e1 e2 e3;refine⟨u',r',?_⟩
    rcases q with q|⟨k,c',e,z'⟩
    ·exact .inl q
    ·refine .inr ⟨k,c',e,z'.sameBut hs ?_⟩;rintro rfl;exact hj (ag7 hN e1 (I.ok.inj _ _ _ e hc▸hi))
  ·by_cases hcc:c'=c
   ·subst hcc;exact⟨_,hc'⟩
   ·obtain⟨w2,z2⟩:=I.cell y c' e;exact⟨w2,z2.sameBut hs hcc⟩
  ·obtain⟨e,n,ne,nf,d⟩:=I.pin p hp;refine⟨(hs.2 p.1 ?_).trans e,n,ne,nf,d⟩;intro q;rw[q,hoc]at e;have q':oc=p.2:=BC e;exact d w' (by rw[<-q'];exact hocd)
def T9{M:KY}{A:BV}{E:AI->AL->Prop}{x:Str}{v:V}{u:AI}{Q:Unit->AL->Prop}(I:Inv X pins σ H s)(hN:X.N.Nodup)(hi:X.N[i]?=AA x)(hx:Loc X.env.scope x)(r:d3 v u)
  (h:∀s',Inv X pins (σ.set i (AA v)) H s'->Q () s') (hf:X.fn x=AC\/X.env.scope.names.lookup x=AA .local:=by first|exact .inl rfl|exact .inr rfl|assumption):AU M A (storeName X.env x u) Q E s:=
 bz1 I hN hi hx r (λs' I' _=>h s' I') hf
def Inv.call'{s':AL}{ch:List AM}(I:Inv X pins σ H s)(ho:s'.os=s.os)(u:Un (frs X.stack) ch H H' s.heap s'.heap)(hok:HOk X.prog X.w H' s'.heap)(hg:EZ s'.gens)
  (hch:∀b∈ch,(b∈X.ex\/X.s₀.heap.objs.size<=b)/\b≠X.env.locals/\(∀x c,X.env.cells.lookup x=AA c->c≠b)/\∀p∈X.pn++pins,p.1≠b):Inv X pins σ H' s':=by
 obtain⟨h',g',d',t',o'⟩:=s';have e:o'=s.os:=ho;subst e;exact I.call (g':=g') (t':=t') (d':=d') u hok hg hch
end
@[reducible]noncomputable def XK:=AI->Option AM->Hp->Prop
@[reducible]noncomputable def St:=List (Option V)
@[reducible]noncomputable def VK:=V->Hp->Prop
@[reducible]noncomputable def TE:=St->Hp->VK->Prop
@[reducible]noncomputable def TT:=St->Hp->(Bool->Hp->Prop)->Prop
@[reducible]noncomputable def TA:=St->Hp->(List V->Hp->Prop)->Prop
structure Ends where
 nx:St->Hp->Prop
 rt:VK
 bk:St->Hp->Prop:=λ_ _=>False
 ct:St->Hp->Prop:=λ_ _=>False
@[reducible]noncomputable def TS:=Ends->St->Hp->Prop
abbrev EP(X:Cx)(pins:List (AM×Obj))(σ:St)(Q:VK)(u:AI)(s':AL):Prop:=∃v H',Inv X pins σ H' s'/\d3 v u/\Q v H'
abbrev TP(X:Cx)(pins:List (AM×Obj))(σ:St)(Q:Bool->Hp->Prop)(b:Bool)(s':AL):Prop:=∃H',Inv X pins σ H' s'/\Q b H'
abbrev AP(X:Cx)(pins:List (AM×Obj))(σ:St)(Q:List V->Hp->Prop)(us:List AI)(s':AL):Prop:=∃vs H',Inv X pins σ H' s'/\c7 vs us/\Q vs H'
abbrev SP(X:Cx)(pins:List (AM×Obj))(D:Ends)(f:Flow)(s':AL):Prop:=
 match f with
 |.next=>∃σ' H',Inv X pins σ' H' s'/\D.nx σ' H'
 |.brk=>∃σ' H',Inv X pins σ' H' s'/\D.bk σ' H'
 |.cont=>∃σ' H',Inv X pins σ' H' s'/\D.ct σ' H'
 |.ret u=>∃v σ' H',Inv X pins σ' H' s'/\d3 v u/\D.rt v H'
abbrev PE(X:Cx)(e:AR)(t:TE):Prop:=
 ∀(pins:List (AM×Obj))(s:AL)(σ:St)(H:Hp)(Q:VK),Inv X pins σ H s->t σ H Q->AU (model X.prog X.w) X.A (eval e X.env) (EP X pins σ Q) X.xe s
abbrev PT(X:Cx)(e:AR)(t:TT):Prop:=
 ∀(pins:List (AM×Obj))(s:AL)(σ:St)(H:Hp)(Q:Bool->Hp->Prop),Inv X pins σ H s->t σ H Q->AU (model X.prog X.w) X.A (HS e X.env (eval e X.env)) (TP X pins σ Q) X.xe s
abbrev PW(X:Cx)(e:AR)(t:TT):Prop:=
 ∀(whole:Sem AI)(pins:List (AM×Obj))(s:AL)(σ:St)(H:Hp)(Q:Bool->Hp->Prop),Inv X pins σ H s->t σ H Q->AU (model X.prog X.w) X.A (HS e X.env whole) (TP X pins σ Q) X.xe s
def PW.pt{X:Cx}{e:AR}{t:TT}(h:PW X e t):PT X e t:=h _
abbrev PA(X:Cx)(es:List AR)(t:TA):Prop:=
 ∀(pos:Pos)(pins:List (AM×Obj))(s:AL)(σ:St)(H:Hp)(Q:List V->Hp->Prop),Inv X pins σ H s->t σ H Q->AU (model X.prog X.w) X.A (spliced (CT pos (As es X.env))) (AP X pins σ Q) X.xe s
abbrev PS(X:Cx)(st:BG)(t:TS):Prop:=
 ∀(pins:List (AM×Obj))(s:AL)(σ:St)(H:Hp)(D:Ends),Inv X pins σ H s->t D σ H->AU (model X.prog X.w) X.A (exec st X.env) (SP X pins D) X.xe s
abbrev PSs(X:Cx)(st:List BG)(t:TS):Prop:=
 ∀(pins:List (AM×Obj))(s:AL)(σ:St)(H:Hp)(D:Ends),Inv X pins σ H s->t D σ H->AU (model X.prog X.w) X.A (execs st X.env) (SP X pins D) X.xe s
def thn{α:Type}{t:Sem α}{Q Q':α->AL->Prop}{M:KY}{A:BV}{E:AI->AL->Prop}{s:AL}(h:AU M A t Q E s)(hQ:∀a s,Q a s->Q' a s):AU M A t Q' E s:=BP h hQ λ_ _ x=>x
end L2
namespace L2
open PySem PySem.Spec PyProof.Rows
variable{pins:List (AM×Obj)}{σ:St}{H:Hp}{pos:Pos}{u:AI}{op:Dm}{t:TE}
section
variable {X:Cx}
def bin{a b:AR}{ta tb:TE}(ha:PE X a ta)(hb:PE X b tb){s:AL}{R:V->V->Hp->Prop}(I:Inv X pins σ H s)(h:ta σ H λx H1=>tb σ H1 λy H2=>R x y H2)
  {α:Type} {Q:α->AL->Prop} {f:AI->AI->Sem α}
  (hf:∀v u s2 x y H2,Inv X pins σ H2 s2->d3 x v->d3 y u->R x y H2->AU (model X.prog X.w) X.A (f v u) Q X.xe s2) :
  AU (model X.prog X.w) X.A (eval a X.env) (λv s₁=>AU (model X.prog X.w) X.A (eval b X.env) (λu s₂=>AU (model X.prog X.w) X.A (f v u) Q X.xe s₂) X.xe s₁) X.xe s:=by
 refine thn (ha pins s σ H _ I h) λv s1 z0=>?_;obtain⟨x,H1,I1,r1,q1⟩:=z0;refine thn (hb pins s1 σ H1 _ I1 q1) λu s2 z1=>?_;obtain⟨y,H2,I2,r2,q2⟩:=z1;exact hf v u s2 x y H2 I2 r1 r2 q2
abbrev am2(i:Nat):TE:=λσ H Q=>∃v,σ[i]?=AA (AA v)/\Q v H
abbrev tC(v:V):TE:=λ_ H Q=>Q v H
def Q4{i:Nat}{x:Str}(hN:X.N[i]?=AA x)(hv:Vis X.env.scope x)(hd:(x==("__debug__":Str))=AF:=by decide)(hcd:(x==("__classdict__":Str))=AF:=by decide):PE X (.Name x pos) (am2 i):=by
 intro pins s σ H Q I h;obtain⟨v,e,h⟩:=h;obtain⟨m,hn,hl⟩:=I.loc;obtain⟨u,r,l⟩:=hl i x v hN e hv;have fin:EP X pins σ Q u s:=⟨v,H,I,r,h⟩
 rcases l with⟨hk,hm⟩|⟨hk,c,hc,hcell⟩
 ·exact JL (wpAny_loadName_local I.ok.kind hk hn hm fin) hd
 ·rcases hk with hk|hk
  ·exact JL (wpAny_loadName_cell I.ok.kind hk hc hcell fin) hd
  ·exact JL (wpAny_loadName_free I.ok.kind hk hc hcell fin hcd) hd
def bb4{i j pos}:PE X (.Constant (.int i) j pos) (tC (.int i)):=λ_ _ _ H _ I h=>wpAny_Constant_int ⟨.int i,H,I.tok _,⟨_,rfl⟩,h⟩
def ct4{b j pos}:PE X (.Constant (.bool b) j pos) (tC (.bl b)):=λ_ _ _ H _ I h=>Constant_bool ⟨.bl b,H,I,rfl,h⟩
def cq2{j pos}:PE X (.Constant .none j pos) (tC .non):=λ_ _ _ H _ I h=>Constant_none ⟨.non,H,I,rfl,h⟩
def ba4{x j pos}:PE X (.Constant (.str x) j pos) (tC (.str x)):=λ_ _ _ H _ I h=>Calls.Constant_str ⟨.str x,H,I.tok _,⟨_,rfl⟩,h⟩
abbrev Gl(X:Cx)(x:Str):Prop:=X.env.kindOf x=AA .globalImplicit
def E5{E:AI->AL->Prop}{s:AL}{x:Str}{pos:Pos}{Q:AI->AL->Prop}(I:Inv X pins σ H s)(hg:Gl X x)(hm:X.mg x=AA u)(h:Q u s)
  (hd:(x==("__debug__":Str))=AF:=by decide):AU (model X.prog X.w) X.A (eval (.Name x pos) X.env) Q E s:=
 GQ I.ok.kind hg (Calls.loadGlobal_global (by rw[I.ok.glob];exact I.mod.glob.keeps I.bk) hm h) hd
def P7{E:AI->AL->Prop}{s:AL}{x:Str}{pos:Pos}{Q:AI->AL->Prop}(I:Inv X pins σ H s)(hg:Gl X x)(hm:X.mg x=AE)(hv:BU x=AA u)(h:Q u s)
  (hn:x≠"__name__":=by decide) (hd:(x==("__debug__":Str))=AF:=by decide):AU (model X.prog X.w) X.A (eval (.Name x pos) X.env) Q E s:=by
 obtain⟨mb,h1,h2⟩:=I.mod.blt;exact GQ I.ok.kind hg (Calls.loadGlobal_builtin (by rw[I.ok.glob];exact I.mod.glob.keeps I.bk) hm (by rw[I.ok.blt];exact h1.keeps I.bk) ((h2 x hn).trans hv) h) hd
def aa1{x:Str}{v:V}(hg:Gl X x)(hm:X.mg x=AA u)(r:d3 v u)(hd:(x==("__debug__":Str))=AF:=by decide):PE X (.Name x pos) (tC v):=
 λ_ _ _ H _ I h=>E5 I hg hm ⟨v,H,I,r,h⟩ hd
abbrev t2I(ta tb:TE)(k:Int->Int->Hp->Prop):St->Hp->Prop:=λσ H=>ta σ H λx H1=>tb σ H1 λy H2=>∃i j,x=.int i/\y=.int j/\k i j H2
variable {a b:AR} {ta tb:TE} 
abbrev PC(X:Cx)(op:Dm)(a b:AR)(t:TE):Prop:=
 ∀(pins:List (AM×Obj))(s:AL)(σ:St)(H:Hp)(Q:VK),Inv X pins σ H s->t σ H Q ->
  AU (model X.prog X.w) X.A (eval a X.env) (λv s₁=>AU (model X.prog X.w) X.A (eval b X.env) (λu s₂=>AU (model X.prog X.w) X.A (Bc op v u) (EP X pins σ Q) X.xe s₂) X.xe s₁) X.xe s
def au3(b:AR)(h:op≠.In)(h2:op≠.NotIn):Cd op b=AF:=by
 have e1:(op==CmpOp.In)=AF:=by cases op<;>first|rfl|exact absurd rfl h
 have e2:(op==EB)=AF:=by cases op<;>first|rfl|exact absurd rfl h2
 cases b<;>simp[Cd,e1,e2]
abbrev br0(p:Int->Int->Bool)(ta tb:TE):TE:=λσ H Q=>t2I ta tb (λi j H2=>Q (.bl (p i j)) H2) σ H
@[reducible]noncomputable def bp3:TE->TE->TE:=br0 λi j=>AB (i=j)
def cp0{p:Int->Int->Bool}(ha:PE X a ta)(hb:PE X b tb)
  (rule:∀(i j:Int)(t u:Tok)(Q:AI->AL->Prop)(s:AL),Q (.bool (p i j)) s->AU (model X.prog X.w) X.A (Bc op (.int i t) (.int j u)) Q X.xe s):PC X op a b (br0 p ta tb):=by
 intro pins s σ H Q I h;refine bin ha hb I h λv u s2 x y H2 I2 rx ry q=>?_;obtain⟨i,j,rfl,rfl,q⟩:=q;obtain⟨t,rfl⟩:=rx;obtain⟨t',rfl⟩:=ry;exact rule i j t t' _ s2 ⟨.bl _,H2,I2,rfl,q⟩
def ci7(ha:PE X a ta)(hb:PE X b tb):PC X .Eq a b (bp3 ta tb):=cp0 ha hb λ_ _ _ _ _ _ h=>eq_int (by rw[Bool.beq_eq_decide_eq];exact h)
abbrev c28(ta:TE):TE:=λσ H Q=>ta σ H λx H1=>Q (.bl (AB (x=.non))) H1
def d3.none_iff{x:V}{v:AI}(r:d3 x v):(v==BZ)=AB (x=.non):=by
 cases x with
 |non=>cases r;rfl
 |bl _=>cases r;rfl
 |int _=>obtain⟨t,rfl⟩:=r;rfl
 |str _=>obtain⟨t,rfl⟩:=r;rfl
 |byt _=>obtain⟨t,rfl⟩:=r;rfl
 |flt _=>obtain⟨t,rfl⟩:=r;rfl
 |ref _=>cases r;rfl
 |ty _=>cases r;rfl
def bd5{j pos'}(ha:PE X a ta):PC X .Is a (.Constant .none j pos') (c28 ta):=by
 intro pins s σ H Q I h;refine thn (ha pins s σ H _ I h) λv s1 z2=>?_;obtain⟨x,H1,I1,r1,q1⟩:=z2;exact Constant_none (is_none_gen ⟨.bl _,H1,I1,by rw[r1.none_iff];rfl,q1⟩)
abbrev tB(t:TE):TT:=λσ H Q=>t σ H λx H1=>∃c,x=.bl c/\Q c H1
def bc6(h:PC X op a b t)(h1:Cd op b=AF:=by first|exact au3 _ ∅ ∅|rfl):PE X (.Compare a [op] [b] pos) t:=λpins s σ H Q I hw=>KZ (h pins s σ H Q I hw) h1
def aj9(h:PC X op a b t)(h1:Cd op b=AF:=by first|exact au3 _ ∅ ∅|rfl):PT X (.Compare a [op] [b] pos) (tB t):=by
 intro pins s σ H Q I hw;refine IT (thn (h pins s σ H _ I hw) λv s1 h1=>thn h1 λu s2 h2=>thn h2 λc s3 z3=>?_) h1;obtain⟨x,H1,I1,r1,q1⟩:=z3;obtain⟨d,rfl,q⟩:=q1;cases r1;exact CA ⟨H1,I1,q⟩
def cm1{e:AR}(h:PE X e t)(he:∀whole,HS e X.env whole=(do let v <-whole;HD e.pos;holding [v] (truthy v)):=by intro _;rfl):PT X e (tB t):=by
 intro pins s σ H Q I hw;refine isTrue_plain (thn (h pins s σ H _ I hw) λv s1 z4=>?_) (he _);obtain⟨x,H1,I1,r1,q1⟩:=z4;obtain⟨d,rfl,q⟩:=q1;cases r1;exact CA ⟨H1,I1,q⟩
variable {tA tB':TT} {c8:List AR}
abbrev c06(t u:TT):TT:=λσ H Q=>t σ H λc H1=>if c=AC then u σ H1 Q else Q AF H1
abbrev tOr(t u:TT):TT:=λσ H Q=>t σ H λc H1=>if c=AC then Q AC H1 else u σ H1 Q
abbrev c07(t:TT):TT:=λσ H Q=>t σ H λc H1=>Q (!c) H1
def cc0(ha:PT X a tA):PW X (.BoolOp .And [a] pos) tA:=by
 intro wh pins s σ H Q I h;refine isTrue_and (thn (ha pins s σ H Q I h) λc s1 e=>?_);cases c with
 |true=>exact isTrue_and_nil e
 |false=>exact e
def cj0(ha:PT X a tA):PW X (.BoolOp .Or [a] pos) tA:=by
 intro wh pins s σ H Q I h;refine isTrue_or (thn (ha pins s σ H Q I h) λc s1 e=>?_);cases c with
 |false=>exact isTrue_or_nil e
 |true=>exact e
def cg8(ha:PT X a tA)(hb:PW X (.BoolOp .And (b::c8) pos) tB'):PW X (.BoolOp .And (a::b::c8) pos) (c06 tA tB'):=by
 intro wh pins s σ H Q I h;refine isTrue_and (thn (ha pins s σ H _ I h) λc s1⟨H1,I1,q1⟩=>?_);cases c with
 |true=>exact hb wh pins s1 σ H1 Q I1 q1
 |false=>exact⟨H1,I1,q1⟩
def ct3(ha:PT X a tA)(hb:PW X (.BoolOp .Or (b::c8) pos) tB'):PW X (.BoolOp .Or (a::b::c8) pos) (tOr tA tB'):=by
 intro wh pins s σ H Q I h;refine isTrue_or (thn (ha pins s σ H _ I h) λc s1⟨H1,I1,q1⟩=>?_);cases c with
 |true=>exact⟨H1,I1,q1⟩
 |false=>exact hb wh pins s1 σ H1 Q I1 q1
def ch1(ha:PT X a tA):PT X (.UnaryOp .Not a pos) (c07 tA):=by
 intro pins s σ H Q I h;exact isTrue_not (ha pins s σ H (λc H1=>Q (!c) H1) I h)
abbrev cs0(ta tb:TE):TE:=λσ H Q=>ta σ H λx H1=>∃c,x=.bl c/\if c=AC then tb σ H1 Q else Q (.bl AF) H1
abbrev cz4(ta tb:TE):TE:=λσ H Q=>ta σ H λx H1=>∃c,x=.bl c/\if c=AC then Q (.bl AC) H1 else tb σ H1 Q
abbrev cs6(ta:TE):TE:=λσ H Q=>ta σ H λx H1=>∃c,x=.bl c/\Q (.bl (!c)) H1
def be1{op}(h:PE X a t):PE X (.BoolOp op [a] pos) t:=λpins s σ H Q I hw=>BoolOp_one (h pins s σ H Q I hw)
def cl7(ha:PE X a ta)(hb:PE X (.BoolOp .And (b::c8) pos) tb):PE X (.BoolOp .And (a::b::c8) pos) (cs0 ta tb):=by
 intro pins s σ H Q I h;refine BoolOp_and (thn (ha pins s σ H _ I h) λv s1 z5=>?_);obtain⟨x,H1,I1,r1,q1⟩:=z5;obtain⟨c,rfl,q1⟩:=q1;cases r1;refine CA ?_;cases c with
 |true=>exact hb pins s1 σ H1 Q I1 q1
 |false=>exact⟨.bl AF,H1,I1,rfl,q1⟩
def cr3(ha:PE X a ta)(hb:PE X (.BoolOp .Or (b::c8) pos) tb):PE X (.BoolOp .Or (a::b::c8) pos) (cz4 ta tb):=by
 intro pins s σ H Q I h;refine BoolOp_or (thn (ha pins s σ H _ I h) λv s1 z6=>?_);obtain⟨x,H1,I1,r1,q1⟩:=z6;obtain⟨c,rfl,q1⟩:=q1;cases r1;refine CA ?_;cases c with
 |false=>exact hb pins s1 σ H1 Q I1 q1
 |true=>exact⟨.bl AC,H1,I1,rfl,q1⟩
def cj7(ha:PE X a ta):PE X (.UnaryOp .Not a pos) (cs6 ta):=by
 intro pins s σ H Q I h;refine UnaryOp_ (thn (ha pins s σ H _ I h) λv s1 z7=>?_);obtain⟨x,H1,I1,r1,q1⟩:=z7;obtain⟨c,rfl,q1⟩:=q1;cases r1;exact not_of (CA ⟨.bl (!c),H1,I1,rfl,q1⟩)
abbrev tIf(t:TT)(ta tb:TE):TE:=λσ H Q=>t σ H λc H1=>if c=AC then ta σ H1 Q else tb σ H1 Q
def b30{c:AR}(hc:PT X c tA)(ha:PE X a ta)(hb:PE X b tb):PE X (.IfExp c a b pos) (tIf tA ta tb):=by
 intro pins s σ H Q I h;refine wpAny_IfExp (thn (hc pins s σ H _ I h) λd s1⟨H1,I1,q1⟩=>?_);cases d with
 |true=>exact ha pins s1 σ H1 Q I1 q1
 |false=>exact hb pins s1 σ H1 Q I1 q1
end
end L2
namespace L2
open PySem PySem.Spec PyProof.Rows
variable{u:AI}{X:Cx}{pins:List (AM×Obj)}{σ:St}{H:Hp}{e tg:AR}{te:TE}{pos:Pos}{P:Aj}
abbrev SqL(K:AS)(H:Hp)(a:AM)(xs:List V):Prop:=
 Rd H a (.lst xs)\/
  ∃(o:Obj)(its:Array AI)(n:Nat),K.lookup a=AA o/\o.cls=.type "list"/\o.dict=AE/\o.data=.seq its n/\its.size<=sizeLine/\c7 xs its.toList
abbrev SqT(K:AS)(H:Hp)(a:AM)(xs:List V):Prop:=
 Rd H a (.tup xs)\/
  ∃(o:Obj)(its:Array AI)(n:Nat),K.lookup a=AA o/\o.cls=.type "tuple"/\o.dict=AE/\o.data=.seq its n/\its.size<=sizeLine/\c7 xs its.toList
abbrev c13:AI->Option V
 |.none=>AA .non
 |.bool b=>AA (.bl b)
 |.int i _=>AA (.int i)
 |.str x _=>AA (.str x)
 |.bytes b _=>AA (.byt b)
 |.float b _=>AA (.flt b)
 |.ref a=>AA (.ref a)
 |.type n=>AA (.ty n)
 |_=>AE
def d3.abs{x:V}(r:d3 x u):c13 u=AA x:=by
 cases x with
 |non=>cases r;rfl
 |bl _=>cases r;rfl
 |int _=>obtain⟨t,rfl⟩:=r;rfl
 |str _=>obtain⟨t,rfl⟩:=r;rfl
 |byt _=>obtain⟨t,rfl⟩:=r;rfl
 |flt _=>obtain⟨t,rfl⟩:=r;rfl
 |ref _=>cases r;rfl
 |ty _=>cases r;rfl
theorem d3.inj{x y:V}(r:d3 x u)(q:d3 y u):x=y:=BC (r.abs.symm.trans q.abs)
theorem c7.inj:∀{xs ys:List V}{us:List AI},c7 xs us->c7 ys us->xs=ys
 |_,_,_,.nil,.nil=>rfl
 |_,_,_,.cons r t,.cons r' t'=>by rw[r.inj r',c7.inj t t']
section
variable {s:AL} {a:AM} {xs ys:List V}
def Inv.list(I:Inv X pins σ H s)(h:SqL X.K H a xs):∃its:List AI,c7 xs its/\PlainL s.heap a its.toArray/\xs.length<=sizeLine:=by
 rcases h with h|⟨o,its,n,hk,hc,hd,hs,hz,r⟩
 ·obtain⟨z,its,n,r,e⟩:=h.ok I.hok;exact⟨its,r,⟨_,n,e,rfl,rfl,rfl⟩,z⟩
 ·refine⟨its.toList,r,⟨o,n,I.kIn a o hk,hc,hd,by simpa using hs⟩,?_⟩;have e:=r.length;simp only[Ey]at e;lia
def Inv.tupleD(I:Inv X pins σ H s)(h:SqT X.K H a xs):∃its:List AI,c7 xs its/\A5 s.heap a its.toArray/\xs.length<=sizeLine:=by
 rcases h with h|⟨o,its,n,hk,hc,hdn,hs,hz,r⟩
 ·obtain⟨z,its,r,p⟩:=h.ok I.hok;exact⟨its,r,p,z⟩
 ·refine⟨its.toList,r,⟨o,I.kIn a o hk,hc,hdn,n,by simpa using hs⟩,?_⟩;have e:=r.length;simp only[Ey]at e;lia
def Inv.tuple(I:Inv X pins σ H s)(h:SqT X.K H a xs):∃its:List AI,c7 xs its/\KW s.heap a its.toArray/\xs.length<=sizeLine:=by
 obtain⟨its,r,p,z⟩:=I.tupleD h;exact⟨its,r,p.tup,z⟩
def Inv.list_inj(I:Inv X pins σ H s)(h:SqL X.K H a xs)(h':SqL X.K H a ys):xs=ys:=by
 obtain⟨its,r,⟨o,n,e,_,_,d⟩,_⟩:=I.list h;obtain⟨its',r',⟨o',n',e',_,_,d'⟩,_⟩:=I.list h';rw[e]at e';cases e';rw[d]at d';injection d' with d1 _
 have:its=its':=by simpa using congrArg JM d1
 subst this;exact r.inj r'
def Inv.tuple_inj(I:Inv X pins σ H s)(h:SqT X.K H a xs)(h':SqT X.K H a ys):xs=ys:=by
 obtain⟨its,r,⟨o,e,_,n,d⟩,_⟩:=I.tuple h;obtain⟨its',r',⟨o',e',_,n',d'⟩,_⟩:=I.tuple h';rw[e]at e';cases e';rw[d]at d';injection d' with d1 _
 have:its=its':=by simpa using congrArg JM d1
 subst this;exact r.inj r'
end
@[reducible]noncomputable def Cx.wish(X:Cx)(E:AI->AL->Prop):Cx:={X with xe:=E}
theorem Cx.Ok.wish(ok:X.Ok)(E:AI->AL->Prop):(X.wish E).Ok:=
 ⟨ok.mod,ok.kind,ok.glob,ok.blt,ok.above,ok.inj,ok.has,ok.cab,ok.hd,ok.frames,ok.stk,ok.exf,ok.bs,ok.bsz,ok.noex,ok.exfs,ok.funs,ok.frf⟩
def Cx.Ok.unwish{E:AI->AL->Prop}(ok:(X.wish E).Ok):X.Ok:=
 ⟨ok.mod,ok.kind,ok.glob,ok.blt,ok.above,ok.inj,ok.has,ok.cab,ok.hd,ok.frames,ok.stk,ok.exf,ok.bs,ok.bsz,ok.noex,ok.exfs,ok.funs,ok.frf⟩
section
variable {s:AL} {E:AI->AL->Prop}
theorem Inv.wish(I:Inv X pins σ H s)(E:AI->AL->Prop):Inv (X.wish E) pins σ H s:=⟨I.ok.wish E,I.os,I.bare,I.base,I.loc,I.cell,I.free,I.freeC,I.pin,I.hok,I.len⟩
theorem Inv.unwish(I:Inv (X.wish E) pins σ H s):Inv X pins σ H s:=⟨I.ok.unwish,I.os,I.bare,I.base,I.loc,I.cell,I.free,I.freeC,I.pin,I.hok,I.len⟩
end
section
variable {st:BG} {c8:List BG} {t u:TS} 
abbrev bi8:TS:=λD σ H=>D.nx σ H
abbrev cy4(t u:TS):TS:=λD σ H=>t {D with nx:=u D} σ H
def cd1:PSs X [] bi8:=λ_ _ σ H _ I h=>CV ⟨σ,H,I,h⟩
def b19(h1:PS X st t)(h2:PSs X c8 u):PSs X (st::c8) (cy4 t u):=by
 intro pins s σ H D I h;refine Do (thn (h1 pins s σ H {D with nx:=u D} I h) λf s1 q=>?_);cases f with
 |next=>
  obtain⟨σ',H',I',q⟩:=q;exact h2 pins s1 σ' H' D I' q
 |ret v=>exact q
 |brk=>exact q
 |cont=>exact q
def b81(h1:PS X st t):PSs X [st] t:=by
 intro pins s σ H D I h;refine Do (thn (h1 pins s σ H D I h) λf s1 q=>?_);cases f with
 |next=>exact CV q
 |ret v=>exact q
 |brk=>exact q
 |cont=>exact q
abbrev cr7:TS:=λD σ H=>D.ct σ H
def b94:PS X (.Pass pos) bi8:=λ_ _ σ H _ I h=>wpAny_Pass ⟨σ,H,I,h⟩
def bu2:PS X (.Continue pos) cr7:=λ_ _ σ H _ I h=>wpAny_Continue ⟨σ,H,I,h⟩
def Inv.quiet{s:AL}(I:Inv X pins σ H s):interactive X.env=AF:=by simp[interactive,I.ok.kind]
abbrev cr5(te:TE):TS:=λD σ H=>te σ H λ_ H1=>D.nx σ H1
def cb3(he:PE X e te)(hs:DW e AE pos.line X.env=pure AF:=by rfl):PS X (.Expr e pos) (cr5 te):=by
 intro pins s σ H D I h;exact wpAny_Expr_any (thn (he pins s σ H _ I h) λv s1⟨x,H1,I1,r1,q1⟩=>⟨σ,H1,I1,q1⟩) I.quiet hs
abbrev c09(te:TE):TS:=λD σ H=>te σ H D.rt
def cn7(he:PE X e te):PS X (.Return (AA e) pos) (c09 te):=by
 intro pins s σ H D I h;exact wpAny_Return_some (thn (he pins s σ H _ I h) λv s1⟨x,H1,I1,r1,q1⟩=>⟨x,σ,H1,I1,r1,q1⟩)
abbrev ct6:TS:=λD _ H=>D.rt .non H
def b90:PS X (.Return AE pos) ct6:=λ_ _ σ H _ I h=>wpAny_Return_none ⟨.non,σ,H,I,rfl,h⟩
abbrev c18(c:TT)(t u:TS):TS:=λD σ H=>c σ H λb H1=>if b=AC then t D σ H1 else u D σ H1
def cw7{c:AR}{a b:List BG}{tc:TT}(hc:PT X c tc)(ha:PSs X a t)(hb:PSs X b u):PS X (.If c a b pos) (c18 tc t u):=by
 intro pins s σ H D I h;refine Ka (thn (hc pins s σ H _ I h) λd s1⟨H1,I1,q1⟩=>?_);cases d with
 |true=>exact ha pins s1 σ H1 D I1 q1
 |false=>exact hb pins s1 σ H1 D I1 q1
end
@[reducible]noncomputable def TG:=V->St->Hp->(St->Hp->Prop)->Prop
@[reducible]noncomputable def TGs:=List V->St->Hp->(St->Hp->Prop)->Prop
abbrev PG(X:Cx)(target:AR)(t:TG):Prop:=
 ∀(pins:List (AM×Obj))(s:AL)(σ:St)(H:Hp)(v:V)(u:AI)(Q:St->Hp->Prop),Inv X pins σ H s->d3 v u->t v σ H Q ->
  AU (model X.prog X.w) X.A (assign target X.env u) (λ_ s'=>∃σ' H',Inv X pins σ' H' s'/\Q σ' H') X.xe s
abbrev PGs(X:Cx)(ts:List AR)(t:TGs):Prop:=
 ∀(pins:List (AM×Obj))(s:AL)(σ:St)(H:Hp)(vs:List V)(us:List AI)(Q:St->Hp->Prop),Inv X pins σ H s->c7 vs us->t vs σ H Q ->
  AU (model X.prog X.w) X.A (assignInOrder ((CP ts X.env).map (·.2)) us) (λ_ s'=>∃σ' H',Inv X pins σ' H' s'/\Q σ' H') X.xe s
@[reducible]noncomputable def am6:=V->V->V->Hp->(Hp->Prop)->Prop
abbrev bq7(X:Cx)(t:am6):Prop:=
 ∀(pins:List (AM×Obj))(s:AL)(σ:St)(H:Hp)(o i v:V)(ov iv u:AI)(Q:Hp->Prop),Inv X pins σ H s->d3 o ov->d3 i iv->d3 v u->t o i v H Q ->
  AU (model X.prog X.w) X.A (setItem ov iv u) (λ_ s'=>∃H',Inv X pins σ H' s'/\Q H') X.xe s
section
abbrev al4(i:Nat):TG:=λv σ H Q=>Q (σ.set i (AA v)) H
def a47{i:Nat}{x:Str}(hN:X.N.Nodup)(hi:X.N[i]?=AA x)(hx:Loc X.env.scope x)(hf:X.fn x=AC\/X.env.scope.names.lookup x=AA .local:=by first|exact .inl rfl|exact .inr rfl|assumption):PG X (.Name x pos) (al4 i):=by
 intro pins s σ H v u Q I r h;exact Jb (T9 I hN hi hx r (λs' I'=>⟨_,H,I',h⟩) hf)
abbrev bo1:TGs:=λvs σ H Q=>vs=[]/\Q σ H
abbrev bh6(t:TG)(u:TGs):TGs:=λvs σ H Q=>∃v r,vs=v::r/\t v σ H λσ' H'=>u r σ' H' Q
def b96:PGs X [] bo1:=by
 intro pins s σ H vs us Q I r h;obtain⟨e,h⟩:=h;subst e;cases r;exact assignInOrder_nil ⟨σ,H,I,h⟩
def b25{es:List AR}{t:TG}{u:TGs}(h1:PG X e t)(h2:PGs X es u)
  (hs:(CP (e::es) X.env).map (·.2)=assign e X.env::(CP es X.env).map (·.2):=by rfl):PGs X (e::es) (bh6 t u):=by
 intro pins s σ H vs us Q I r h;obtain⟨v,vr,e1,h⟩:=h;subst e1;cases r with
 |cons r rr=>
  rw[hs];refine assignInOrder_cons (thn (h1 pins s σ H _ _ _ I r h) λ_ s1 z8=>?_);obtain⟨σ1,H1,I1,q1⟩:=z8;exact h2 pins s1 σ1 H1 _ _ Q I1 rr q1
abbrev cz5(K:AS)(n:Nat)(t:TGs):TG:=λv σ H Q=>∃a xs,v=.ref a/\SqT K H a xs/\xs.length=n/\t xs σ H Q
def cl4{es:List AR}{k:Nat}{t:TGs}{n:Nat}(hc:X.calm=AC)(h:PGs X es t)
  (hn:(CP es X.env).length=n:=by rfl) (hst:(CP es X.env).findIdx? (·.1)=AE:=by rfl):PG X (.Tuple es k pos) (cz5 X.K n t):=by
 intro pins s σ H v u Q I r hw;obtain⟨a,xs,e1,hq,hl,hw⟩:=hw;subst e1;cases r;obtain⟨its,rv,ht,hz⟩:=I.tuple hq;refine assign_Tuple_tuple (I.ok.hd hc) ht (by simp[hn,<-hl,rv.length]) hst λh' hx=>?_;have I1:Inv X pins σ H {s with heap:=h'}:=I.kept (t':=s.toks) λb o e=>hx b o (Br (BI e)) e;exact h pins _ σ H xs _ Q I1 (by simpa using rv) hw
abbrev cz6(to ti:TE)(t:am6):TG:=λv σ H Q=>to σ H λo H1=>ti σ H1 λi H2=>t o i v H2 λH3=>Q σ H3
def cj1{o i:AR}{to ti:TE}{t:am6}(ho:PE X o to)(hi:PE X i ti)(hs:bq7 X t)
  (ha:∀v,assign (.Subscript o i pos) X.env v=(do
   let ov <-holding [v] (eval o X.env)
   let iv <-holding [v,ov] (eval i X.env)
   HD pos
   holding [v,ov,iv] (setItem ov iv v)
   release [v,ov,iv] []):=by intro _;rfl):PG X (.Subscript o i pos) (cz6 to ti t):=by
 intro pins s σ H v u Q I r h;rw[ha];refine AJ (CM (thn (ho pins s σ H _ I h) λov s1 z9=>?_));obtain⟨x,H1,I1,r1,q1⟩:=z9;refine AJ (CM (thn (hi pins s1 σ H1 _ I1 q1) λiv s2 z10=>?_));obtain⟨y,H2,I2,r2,q2⟩:=z10;refine AJ (Hh (AJ (CM (thn (hs pins s2 σ H2 x y v ov iv u _ I2 r1 r2 r q2) λ_ s3⟨H3,I3,q3⟩=>?_))));exact wpAny_release ⟨σ,H3,I3,q3⟩
abbrev bm2(te:TE)(g:TG):TS:=λD σ H=>te σ H λx H1=>g x σ H1 D.nx
def cn2{g:TG}(he:PE X e te)(hg:PG X tg g)(hs:Fz [tg] e pos.line X.env=pure AF:=by rfl)(hw:swappedStores [tg] e X.env=pure AE:=by rfl)
  (h1:(CP [tg] X.env).map (·.2)=[assign tg X.env]:=by rfl):PS X (.Assign [tg] e pos) (bm2 te g):=by
 intro pins s σ H D I h;refine wpAny_Assign_stores (thn (he pins s σ H _ I h) λv s1 z11=>?_) hs hw;obtain⟨x,H1,I1,r1,q1⟩:=z11;rw[h1];exact thn (hg pins s1 σ H1 x v _ I1 r1 q1) λ_ s2 q=>q
def a92{i:Nat}{x:Str}{pos':Pos}(hN:X.N.Nodup)(hi:X.N[i]?=AA x)(hx:Loc X.env.scope x)(he:PE X e te)(hs:DW e (AA (.Name x pos')) pos.line X.env=pure AF:=by rfl)(hf:X.fn x=AC\/X.env.scope.names.lookup x=AA .local:=by first|exact .inl rfl|exact .inr rfl|assumption):
  PS X (.Assign [.Name x pos'] e pos) (bm2 te (al4 i)):=by
 intro pins s σ H D I h;refine Jc (thn (he pins s σ H _ I h) λv s1 z12=>?_) hs;obtain⟨y,H1,I1,r1,q1⟩:=z12;exact T9 I1 hN hi hx r1 (λs2 I2=>⟨_,H1,I2,q1⟩) hf
end
section
abbrev cp5(c:TT)(tb:TS):TS:=λD σ H=>∃W:Nat->St->Hp->Prop,(∃m,W m σ H)/\∀m σ H,W m σ H ->
 c σ H λb H1=>if b=AC then ∃N:St->Hp->Prop,(∀σ' H',N σ' H'->∃m',m'<m/\W m' σ' H')/\tb {D with nx:=N,ct:=N,bk:=D.nx} σ H1 else D.nx σ H1
def b29{c:AR}{body:List BG}{tc:TT}{tb:TS}(hp:Fh (model X.prog X.w) X.A X.env X.xe)(hc:PT X c tc)(hb:PSs X body tb):PS X (.While c body [] pos) (cp5 tc tb):=by
 intro pins s σ H D I h;obtain⟨W,⟨m0,w0⟩,turn⟩:=h;refine wpAny_While (codeAny_whileLoop (λn s'=>∃σ' H',Inv X pins σ' H' s'/\W n σ' H') ?_ m0 ⟨σ,H,I,w0⟩);rintro n s1 ⟨σ1,H1,I1,w1⟩;refine Cu hp (thn (hc pins s1 σ1 H1 _ I1 (turn n σ1 H1 w1)) λb s2⟨H2,I2,q2⟩=>?_);cases b with
 |true=>
  obtain⟨N,hN,q2⟩:=q2;rw[if_pos rfl];refine Cu hp (thn (hb pins s2 σ1 H2 _ I2 q2) λf s3 q3=>?_);cases f with
  |next=>
   obtain⟨σ3,H3,I3,n3⟩:=q3;obtain⟨m',hm,w3⟩:=hN σ3 H3 n3;exact⟨m',hm,σ3,H3,I3,w3⟩
  |cont=>
   obtain⟨σ3,H3,I3,n3⟩:=q3;obtain⟨m',hm,w3⟩:=hN σ3 H3 n3;exact⟨m',hm,σ3,H3,I3,w3⟩
  |brk=>exact q3
  |ret v=>exact q3
 |false=>
  rw[if_neg AK];exact CV ⟨σ1,H2,I2,q2⟩
end
structure It where
 go:Nat->Hp->Prop
 yld:Nat->Hp->V->Hp->Prop
 stop:Nat->Hp->Prop
abbrev u8(X:Cx)(pins:List (AM×Obj))(H:Hp)(b:AM):Prop:=
 H b=AE/\b≠X.env.locals/\b∉X.fs/\(b∈X.ex\/X.s₀.heap.objs.size<=b)/\(∀x c,X.env.cells.lookup x=AA c->c≠b)/\∀p∈X.pn++pins,p.1≠b
def Inv.fpOk{H':Hp}{s:AL}{b:AM}(I:Inv X pins σ H s)(hb:s.heap.objs.size<=b)(hn:H' b=AE):u8 X pins H' b:=by
 refine⟨hn,Kb (Al I.lt hb),I.nofs hb,.inr (Ag I.sz hb),λx c e z=>?_,λp hp z=>?_⟩
 ·obtain⟨v,q⟩:=I.cell x c e;exact absurd (Al q.lt (by rw[z];exact hb)) (Cw _)
 ·exact absurd (Al (BI (I.pin p hp).1) (by rw[z];exact hb)) (Cw _)
structure Turn(P:Aj)(w:BA)(K:AS)(tg:AR)(J:It)(fp:List AM)(it:AM)(tn:Nat->Ay->Prop):Prop where
 mem:it∈fp
 obj:∀i h,tn i h->∀b∈fp,∃o,h.get? b=AA o/\∀v,o.data≠.cell v
 keep:∀i h h',tn i h->(∀b∈fp,∀o,h.get? b=AA o->h'.get? b=AA o)->tn i h'
 item:∀(X:Cx),X.prog=P->X.w=w->X.K=K->X.calm=AC->∀(i:Nat)(pins:List (AM×Obj))(s:AL)(σ:St)(H:Hp)(E:AI->AL->Prop),Inv X pins σ H s->(∀b∈fp,u8 X pins H b)->tn i s.heap->J.go i H ->
  AU (model P w) X.A (pyNext (.ref it)) (λr s1=>∃u,r=AA u /\
   AU (model P w) X.A (FD tg (.ref it) u) (λ_ s2=>∃x H',Inv X pins σ H' s2/\d3 x u/\J.yld i H x H'/\tn (i+1) s2.heap/\∀b∈fp,H' b=AE) E s1) E s
 done:∀(X:Cx),X.prog=P->X.w=w->X.K=K->X.calm=AC->∀(i:Nat)(pins:List (AM×Obj))(s:AL)(σ:St)(H:Hp)(E:AI->AL->Prop),Inv X pins σ H s->(∀b∈fp,u8 X pins H b)->tn i s.heap->J.stop i H ->
  AU (model P w) X.A (pyNext (.ref it)) (λr s1=>r=AE/\Inv X pins σ H s1) E s
 self:∀(A:BV)(i:Nat)(s:AL)(Q:AI->AL->Prop)(E:AI->AL->Prop),tn i s.heap->Q (.ref it) s->AU (model P w) A (JN (.ref it)) Q E s
@[reducible]noncomputable def TI:=St->Hp->(It->Hp->Prop)->Prop
abbrev PIE(X:Cx)(pins:List (AM×Obj))(σ:St)(tg:AR)(R:It->Hp->Prop)(itv:AI)(s2:AL):Prop:=
 ∃(it:AM)(fp:List AM)(tn:Nat->Ay->Prop)(J:It)(H':Hp),itv=.ref it/\Inv X pins σ H' s2/\Turn X.prog X.w X.K tg J fp it tn/\tn 0 s2.heap/\(∀b∈fp,u8 X pins H' b)/\R J H'
abbrev PI(X:Cx)(tg iter:AR)(wi:TI):Prop:=
 ∀(pins:List (AM×Obj))(s:AL)(σ:St)(H:Hp)(R:It->Hp->Prop),Inv X pins σ H s->wi σ H R ->
  AU (model X.prog X.w) X.A (eval iter X.env) (λv s1=>AU (model X.prog X.w) X.A (JN v) (PIE X pins σ tg R) X.xe s1) X.xe s
def ac2{M:KY}{A:BV}{E:AI->AL->Prop}{s:AL}{it:AM}{o:Obj}{n:String}{vs:Array AI}{Q:Unit->AL->Prop}(ho:s.heap.get? it=AA o)(hc:o.cls=.type n)(hd:o.data=.fields vs)
  (hn:["enumerate","zip","dict_itemiterator","dict_reverseitemiterator","odict_iterator","itertools.zip_longest","itertools.pairwise"].contains n=AF) (hQ:Q () s):AU M A (FD tg (.ref it) u) Q E s:=by
 unfold FD;cases tg<;>first
  |exact AQ hQ
  | (cases u <;> first
    |exact AQ hQ
    | (refine AJ (wpAny_load ho ?_)
       rw[hc,hd];show AU M A (if(["enumerate","zip","dict_itemiterator","dict_reverseitemiterator","odict_iterator","itertools.zip_longest","itertools.pairwise"].contains n&&vs[0]?==AA (EN _))=AC then _ else _) Q E s;rw[if_neg (by intro h;rw[hn,Bool.false_and]at h;cases h)];exact AQ hQ))
abbrev Itl(K:AS)(a:AM):It:=
 ⟨λi H=>∃xs x,SqL K H a xs/\xs[i]?=AA x,λi H x H'=>H'=H/\∀xs,SqL K H a xs->xs[i]?=AA x,λi H=>∃xs,SqL K H a xs/\xs.length<=i⟩
abbrev Itt(K:AS)(a:AM):It:=
 ⟨λi H=>∃xs x,SqT K H a xs/\xs[i]?=AA x,λi H x H'=>H'=H/\∀xs,SqT K H a xs->xs[i]?=AA x,λi H=>∃xs,SqT K H a xs/\xs.length<=i⟩
abbrev Itr(lo:Int)(n:Nat):It:=⟨λi _=>i<n,λi H x H'=>H'=H/\x=.int (lo+i),λi _=>n<=i⟩
def bx8{w:BA}{K:AS}(a it:AM):Turn P w K tg (Itl K a) [it] it (λi h=>h.IsListIter it a i) where
 mem:=by simp
 obj:=λi h st b hb=>by
  have e:b=it:=by simpa using hb
  subst e;obtain⟨o,e,c,d⟩:=st;exact⟨o,e,λv z=>by rw[d]at z;cases z⟩
 keep:=λi h h' st k=>st.at λo e=>k it ∎ o e
 item:=by
  intro X hP hw hK hc i pins s σ H E I hf st hg;subst hP hw hK;obtain⟨xs,x,hq,hx⟩:=hg;obtain⟨its,rv,p,hz⟩:=I.list hq;obtain⟨u,hu,ru⟩:=rv.get hx;obtain⟨f0,f1,f2,f3,f4,f5⟩:=hf it ∎;refine wpAny_pyNext_list_item st p.isList (x:=u) (by simpa using hu) λh' st' sb=>?_;have I1:Inv X pins σ H {s with heap:=h'}:=I.turned (t':=s.toks) (λb o hb e=>(sb.2 b hb).trans e) f0 f1 f3 f4 f5;obtain⟨o,e,c,d⟩:=id st';exact⟨u,rfl,ac2 (s:={s with heap:=h'}) e c d ∅ ⟨x,H,I1,ru,⟨rfl,λys hy=>by rw[I.list_inj hy hq];exact hx⟩,st',λb hb=>(hf b hb).1⟩⟩
 done:=by
  intro X hP hw hK hc i pins s σ H E I hf st hg;subst hP hw hK;obtain⟨xs,hq,hx⟩:=hg;obtain⟨its,rv,p,hz⟩:=I.list hq;obtain⟨f0,f1,f2,f3,f4,f5⟩:=hf it ∎;have hl:=rv.length;exact wpAny_pyNext_list_end (I.ok.hd hc) st p.isList (by simp;lia) λh' eb=>⟨rfl,I.turned (t':=s.toks) (λb o hb e=>eb b o hb e) f0 f1 f3 f4 f5⟩
 self:=λ_ _ _ _ _ st h=>wpAny_pyIter_listiter st h
def bu7{w:BA}{K:AS}(a it:AM):Turn P w K tg (Itt K a) [it] it (λi h=>h.IsTupleIter it a i) where
 mem:=by simp
 obj:=λi h st b hb=>by
  have e:b=it:=by simpa using hb
  subst e;obtain⟨o,e,c,d⟩:=st;exact⟨o,e,λv z=>by rw[d]at z;cases z⟩
 keep:=λi h h' st k=>st.at λo e=>k it ∎ o e
 item:=by
  intro X hP hw hK hc i pins s σ H E I hf st hg;subst hP hw hK;obtain⟨xs,x,hq,hx⟩:=hg;obtain⟨its,rv,p,hz⟩:=I.tuple hq;obtain⟨u,hu,ru⟩:=rv.get hx;obtain⟨f0,f1,f2,f3,f4,f5⟩:=hf it ∎;refine wpAny_pyNext_tuple_item st (show s.heap.IsTuple a its.toArray from p) (x:=u) (by simpa using hu) λh' st' sb=>?_;have I1:Inv X pins σ H {s with heap:=h'}:=I.turned (t':=s.toks) (λb o hb e=>(sb.2 b hb).trans e) f0 f1 f3 f4 f5;obtain⟨o,e,c,d⟩:=id st';exact⟨u,rfl,ac2 (s:={s with heap:=h'}) e c d ∅ ⟨x,H,I1,ru,⟨rfl,λys hy=>by rw[I.tuple_inj hy hq];exact hx⟩,st',λb hb=>(hf b hb).1⟩⟩
 done:=by
  intro X hP hw hK hc i pins s σ H E I hf st hg;subst hP hw hK;obtain⟨xs,hq,hx⟩:=hg;obtain⟨its,rv,p,hz⟩:=I.tuple hq;obtain⟨f0,f1,f2,f3,f4,f5⟩:=hf it ∎;have hl:=rv.length;exact wpAny_pyNext_tuple_end (I.ok.hd hc) st (show s.heap.IsTuple a its.toArray from p) (by simp;lia) λh' eb=>⟨rfl,I.turned (t':=s.toks) (λb o hb e=>eb b o hb e) f0 f1 f3 f4 f5⟩
 self:=λ_ _ _ _ _ st h=>wpAny_pyIter_tupleiter st h
def bw8{w:BA}{K:AS}(it:AM)(lo:Int)(n:Nat):Turn P w K tg (Itr lo n) [it] it (λi h=>IsRangeIter h it (lo+(i:Nat)*1) ((n:Int)-(i:Nat)) 1) where
 mem:=by simp
 obj:=λi h st b hb=>by
  have e:b=it:=by simpa using hb
  subst e;exact⟨_,st,λv z=>by
   have z':Data.fields _=Data.cell v:=z;cases z'⟩
 keep:=λi h h' st k=>k it ∎ _ st
 item:=by
  intro X hP hw hK hc i pins s σ H E I hf st hg;subst hP hw hK;obtain⟨f0,f1,f2,f3,f4,f5⟩:=hf it ∎;have W:=Walks.range (prog:=X.prog) (w:=X.w) (I.ok.hd hc) it lo 1 n;refine W.item i s _ _ hg st λv h' tk hv st' kk=>?_;obtain⟨t,rfl⟩:=hv;have I1:Inv X pins σ H {s with heap:=h',toks:=tk}:=I.turned (λb o hb e=>kk b o (by simpa using hb) e) f0 f1 f3 f4 f5;refine⟨_,rfl,ac2 (s:={s with heap:=h',toks:=tk}) (n:="range_iterator") st' rfl rfl ∅ ⟨.int (lo+i),H,I1,⟨t,?_⟩,⟨rfl,rfl⟩,st',λb hb=>(hf b hb).1⟩⟩;rw[Int.mul_one]
 done:=by
  intro X hP hw hK hc i pins s σ H E I hf st hg;subst hP hw hK;obtain⟨f0,f1,f2,f3,f4,f5⟩:=hf it ∎;exact wpAny_pyNext_range_end (I.ok.hd hc) st (by have:n<=i:=hg;lia) λh' eb=>⟨rfl,I.turned (t':=s.toks) (λb o hb e=>eb b o hb e) f0 f1 f3 f4 f5⟩
 self:=λ_ _ _ _ _ st h=>wpAny_pyIter_rangeiter st h
end L2
namespace L2
open PySem PySem.Spec PyProof.Rows
variable{pins:List (AM×Obj)}{σ:St}{H:Hp}{fp:List AM}
section
variable {X:Cx} {tg:AR}
def ax2{s:AL}{R:It->Hp->Prop}{E:AI->AL->Prop}{lo hi:Int}{t u v:Tok}{tk:Nat}(I:Inv X pins σ H s)(h1:-(2^62)<=lo)(h2:lo<2^62)(h3:-(2^62)<=hi)(h4:hi<2^62)
  (q:R (Itr lo (hi-lo).toNat) H):AU (model X.prog X.w) X.A (JN (.ref s.heap.objs.size)) (PIE X pins σ tg R) E {s with heap:=s.heap.push {cls:=.type "range",data:=.fields #[.int lo t,.int hi u,.int 1 v]},toks:=tk}:=by
 refine wpAny_pyIter_range (IsRange.new ..) (small_one h1 h2 h3 h4) ?_;have I1:Inv X pins σ H {s with heap:=s.heap.push {cls:=.type "range",data:=.fields #[.int lo t,.int hi u,.int 1 v]},toks:=tk}:=I.kept λb o e=>AW _ e;refine⟨(s.heap.push {cls:=.type "range",data:=.fields #[.int lo t,.int hi u,.int 1 v]}).objs.size,[(s.heap.push {cls:=.type "range",data:=.fields #[.int lo t,.int hi u,.int 1 v]}).objs.size],_,_,H,rfl,
  I1.kept (t':=tk) λb o e=>AW _ e,bw8 _ lo (hi-lo).toNat,?_,λb hb=>?_,q⟩
 ·have e1:lo+((0:Nat):Int)*1=lo:=by simp
  have e2:(((hi-lo).toNat:Nat):Int)-((0:Nat):Int)=Jr lo hi 1:=by rw[rangeSize_one];split<;>lia
  show IsRangeIter _ _ (lo+((0:Nat):Int)*1) ((((hi-lo).toNat:Nat):Int)-((0:Nat):Int)) 1;rw[e1,e2];exact BN _ rfl
 ·have e:b=(s.heap.push {cls:=.type "range",data:=.fields #[.int lo t,.int hi u,.int 1 v]}).objs.size:=by simpa using hb
  subst e;exact I1.fpOk (Ae _) (I1.hok.fresh (Ae _))
abbrev cr2(ta:TA):TI:=λσ H R=>ta σ H λvs H1=>∃j:Int,vs=[.int j]/\-(2^62)<=j/\j<2^62/\R (Itr 0 j.toNat) H1
abbrev ct8(ta:TA):TI:=λσ H R=>ta σ H λvs H1=>∃i j:Int,vs=[.int i,.int j]/\(-(2^62)<=i/\i<2^62/\-(2^62)<=j/\j<2^62)/\R (Itr i (j-i).toNat) H1
def by9{a:AR}{ta:TA}{p pos:Pos}(hg:Gl X "range")(hm:X.mg "range"=AE)(ha:PA X [a] ta)(hs:As [a] X.env=[(AF,eval a X.env)]:=by rfl):PI X tg (.Call (.Name "range" p) [a] [] pos) (cr2 ta):=by
 intro pins s σ H R I h;refine Call_ (P7 I hg hm boot_range (Bt (thn (ha pos pins s σ H _ I h) λus s1 z13=>?_) hs rfl));obtain⟨vs,H1,I1,r1,q1⟩:=z13;obtain⟨j,e,q1,q2,q⟩:=q1;subst e;cases r1 with
 |cons r rr=>
  cases rr;obtain⟨t,rfl⟩:=r;exact call_range_1 (ax2 I1 ⋯ ⋯ q1 q2 (by simpa using q))
def by5{a b:AR}{ta:TA}{p pos:Pos}(hg:Gl X "range")(hm:X.mg "range"=AE)(ha:PA X [a,b] ta)(hs:As [a,b] X.env=[(AF,eval a X.env),(AF,eval b X.env)]:=by rfl)(hs2:As [b] X.env=[(AF,eval b X.env)]:=by rfl):
  PI X tg (.Call (.Name "range" p) [a,b] [] pos) (ct8 ta):=by
 intro pins s σ H R I h;refine Call_ (P7 I hg hm boot_range (Bt (thn (ha pos pins s σ H _ I h) λus s1 z14=>?_) (by rw[hs,hs2]) (by rw[hs2];rfl)));obtain⟨vs,H1,I1,r1,q1⟩:=z14;obtain⟨i,j,e,⟨q1,q2,q3,q4⟩,q⟩:=q1;subst e;cases r1 with
 |cons r rr=>
  cases rr with
  |cons r' rr=>
   cases rr;obtain⟨t,rfl⟩:=r;obtain⟨t',rfl⟩:=r';exact call_range_2 (ax2 I1 q1 q2 q3 q4 q)
abbrev cy6(wi:TI)(g:TG)(tb:TS):TS:=λD σ H=>wi σ H λJ H1=>∃W:Nat->Nat->St->Hp->Prop,(∃m,W 0 m σ H1)/\∀i m σ H,W i m σ H ->
 (J.stop i H/\D.nx σ H)\/(J.go i H/\∃N:St->Hp->Prop,(∀σ' H',N σ' H'->∃m',m'<m/\W (i+1) m' σ' H')/\∀x H',J.yld i H x H'->g x σ H' λσ2 H2=>tb {D with nx:=N,ct:=N,bk:=D.nx} σ2 H2)
abbrev V5(fp:List AM)(h:Ay):List (AM×Obj):=fp.filterMap λb=>(h.get? b).map λo=>(b,o)
def Z0{h:Ay}{b:AM}{o:Obj}(hb:b∈fp)(e:h.get? b=AA o):(b,o)∈V5 fp h:=Hu.mpr ⟨b,hb,by rw[e];rfl⟩
def b01{h:Ay}{p:AM×Obj}(hp:p∈V5 fp h):p.1∈fp/\h.get? p.1=AA p.2:=by
 obtain⟨b,hb,e⟩:=Hu.mp hp;cases q:h.get? b with
 |none=>rw[q]at e;cases e
 |some o=>
  rw[q]at e;have e':(b,o)=p:=BC e;subst e';exact⟨hb,q⟩
def Inv.pinned{s:AL}(I:Inv X pins σ H s)(hf:∀b∈fp,u8 X pins H b)(ho:∀b∈fp,∃o,s.heap.get? b=AA o/\∀v,o.data≠.cell v):Inv X (pins++V5 fp s.heap) σ H s:=
 I.pins_of λp hp=>(Au.mp hp).elim (λz=>I.pin p (BK _ z)) λz=>by
  obtain⟨hb,e⟩:=b01 z;obtain⟨f0,f1,f2,_⟩:=hf p.1 hb;obtain⟨o,e',d⟩:=ho p.1 hb;rw[e]at e';cases e';exact⟨e,f0,f1,f2,d⟩
def Inv.unpinned{pl:List (AM×Obj)}{s:AL}(I:Inv X (pins++pl) σ H s):Inv X pins σ H s:=I.pins_of λp hp=>I.pin p (BK _ (DN _ hp))
def cq4{iter:AR}{body:List BG}{wi:TI}{g:TG}{tb:TS}{pos:Pos}(hp:Fh (model X.prog X.w) X.A X.env X.xe)(hc:X.calm=AC)(hi:PI X tg iter wi)(hg:PG X tg g)(hb:PSs X body tb)
  (hs:∀x,De iter X.env x=pure x:=by intro _;rfl):PS X (.For tg iter body [] pos) (cy6 wi g tb):=by
 intro pins s σ H D I h;refine wpAny_For (thn (hi pins s σ H _ I h) λv s1 h1=>thn h1 λitv s2 h2=>?_) hs;obtain⟨it,fp,tn,J,H2,e,I2,T,st2,f2,W,⟨m0,w0⟩,turn⟩:=h2;subst e;have stat:∀{H':Hp},(∀b∈fp,H' b=AE)->∀b∈fp,u8 X pins H' b:=λhn b hb=>⟨hn b hb,(f2 b hb).2⟩;refine codeAny_forLoop_any (λn s'=>∃i σ' H',Inv X pins σ' H' s'/\tn i s'.heap/\(∀b∈fp,H' b=AE)/\W i n σ' H') ?_ m0 ⟨0,σ,H2,I2,st2,λb hb=>(f2 b hb).1,w0⟩;rintro n s3 ⟨i,σ3,H3,I3,st3,fr3,w3⟩
 rcases turn i n σ3 H3 w3 with⟨stop,qn⟩|⟨go,N,hN,step⟩
 ·refine Cu hp (thn (T.done X rfl rfl rfl hc i pins s3 σ3 H3 X.xe I3 (stat fr3) st3 stop) λr s4⟨hr,I4⟩=>?_);subst hr;exact CV ⟨σ3,H3,I4,qn⟩
 ·refine Cu hp (thn (T.item X rfl rfl rfl hc i pins s3 σ3 H3 X.xe I3 (stat fr3) st3 go) λr s4⟨u,hr,h4⟩=>?_);subst hr;refine Cu hp (thn h4 λ_ s5 z15=>?_);obtain⟨x,H5,I5,r5,y5,st5,fr5⟩:=z15;have I5':=I5.pinned (stat fr5) (T.obj _ _ st5);refine Cu hp (thn (hg _ s5 σ3 H5 x u _ I5' r5 (step x H5 y5)) λ_ s6 z16=>?_);obtain⟨σ6,H6,I6,q6⟩:=z16;refine Cu hp (thn (hb _ s6 σ6 H6 _ I6 q6) λf s7 q7=>?_);have again:∀{σ7:St}{H7:Hp},Inv X (pins++V5 fp s5.heap) σ7 H7 s7->N σ7 H7->∃m,m<n/\∃i σ' H',Inv X pins σ' H' s7/\tn i s7.heap/\(∀b∈fp,H' b=AE)/\W i m σ' H':=λ{σ7 H7}I7 n7=>by
   obtain⟨m',hm,w7⟩:=hN σ7 H7 n7;refine⟨m',hm,i+1,σ7,H7,I7.unpinned,T.keep _ _ _ st5 λb hb o e=>(I7.pin (b,o) (BK _ (BK _ (Z0 hb e)))).1,λb hb=>?_,w7⟩;obtain⟨o,e,d⟩:=T.obj _ _ st5 b hb;exact(I7.pin (b,o) (BK _ (BK _ (Z0 hb e)))).2.1
  cases f with
  |next=>obtain⟨σ7,H7,I7,n7⟩:=q7;exact again I7 n7
  |cont=>obtain⟨σ7,H7,I7,n7⟩:=q7;exact again I7 n7
  |brk=>obtain⟨σ7,H7,I7,q7⟩:=q7;exact⟨σ7,H7,I7.unpinned,q7⟩
  |ret v=>obtain⟨x7,σ7,H7,I7,r7,q7⟩:=q7;exact⟨x7,σ7,H7,I7.unpinned,r7,q7⟩
end
end L2
namespace L2
open PySem PySem.Spec PyProof.Rows
variable{op:Dm}
@[reducible]noncomputable def R2:=V->V->Hp->VK->Prop
variable{r:R2}
abbrev OpR(X:Cx)(f:AI->AI->Sem AI)(r:R2):Prop:=
 ∀(pins:List (AM×Obj))(s:AL)(σ:St)(H:Hp)(x y:V)(v u:AI)(Q:VK),Inv X pins σ H s->d3 x v->d3 y u->r x y H Q ->
  AU (model X.prog X.w) X.A (f v u) (EP X pins σ Q) X.xe s
abbrev UnR(X:Cx)(f:AI->Sem AI)(r:V->Hp->VK->Prop):Prop:=
 ∀(pins:List (AM×Obj))(s:AL)(σ:St)(H:Hp)(x:V)(v:AI)(Q:VK),Inv X pins σ H s->d3 x v->r x H Q ->
  AU (model X.prog X.w) X.A (f v) (EP X pins σ Q) X.xe s
abbrev z0(X:Cx)(f:AI)(r:List V->Hp->VK->Prop):Prop:=
 ∀(pins:List (AM×Obj))(s:AL)(σ:St)(H:Hp)(xs:List V)(us:List AI)(Q:VK),Inv X pins σ H s->c7 xs us->r xs H Q ->
  AU (model X.prog X.w) X.A (call f us) (EP X pins σ Q) X.xe s
abbrev tOp(r:R2)(ta tb:TE):TE:=λσ H Q=>ta σ H λx H1=>tb σ H1 λy H2=>r x y H2 Q
abbrev tUn(r:V->Hp->VK->Prop)(ta:TE):TE:=λσ H Q=>ta σ H λx H1=>r x H1 Q
abbrev rI(C:Int->Int->Prop)(g:Int->Int->V):R2:=λx y H Q=>∃i j,x=.int i/\y=.int j/\C i j/\Q (g i j) H
abbrev rI0(g:Int->Int->V):R2:=λx y H Q=>∃i j,x=.int i/\y=.int j/\Q (g i j) H
abbrev rU(g:Int->V):V->Hp->VK->Prop:=λx H Q=>∃i,x=.int i/\Q (g i) H
section
variable {X:Cx} {a b c:AR} {ta tb tc:TE} {pos:Pos}
def an6(ha:PE X a ta)(hb:PE X b tb){pins:List (AM×Obj)}{s:AL}{σ:St}{H:Hp}{R:V->V->Hp->Prop}(I:Inv X pins σ H s)
  (h:ta σ H λx H1=>tb σ H1 λy H2=>R x y H2) {Q:AI->AL->Prop} {f:AI->AI->Sem AI}
  (hf:∀v u s2 x y H2,Inv X pins σ H2 s2->d3 x v->d3 y u->R x y H2->AU (model X.prog X.w) X.A (f v u) Q X.xe s2) :
  AU (model X.prog X.w) X.A (eval a X.env) (λv s₁=>AU (model X.prog X.w) X.A (eval b X.env) (λu s₂=>AU (model X.prog X.w) X.A (f v u) Q X.xe s₂) X.xe s₁) X.xe s:=by
 refine thn (ha pins s σ H _ I h) λv s1 z17=>?_;obtain⟨x,H1,I1,r1,q1⟩:=z17;refine thn (hb pins s1 σ H1 _ I1 q1) λu s2 z18=>?_;obtain⟨y,H2,I2,r2,q2⟩:=z18;exact hf v u s2 x y H2 I2 r1 r2 q2
def J5{op:Er}(ho:OpR X (Cv op) r)(ha:PE X a ta)(hb:PE X b tb):PE X (.BinOp a op b pos) (tOp r ta tb):=by
 intro pins s σ H Q I h;exact wpAny_BinOp (an6 ha hb I h λv u s2 x y H2 I2 rx ry q=>ho pins s2 σ H2 x y v u Q I2 rx ry q)
def cw4{op:UnaryOp}{r:V->Hp->VK->Prop}(ho:UnR X (unaryOp op) r)(ha:PE X a ta):PE X (.UnaryOp op a pos) (tUn r ta):=by
 intro pins s σ H Q I h;exact UnaryOp_ (thn (ha pins s σ H _ I h) λv s1⟨x,H1,I1,r1,q1⟩=>ho pins s1 σ H1 x v Q I1 r1 q1)
def opI{f:AI->AI->Sem AI}{C:Int->Int->Prop}{g:Int->Int->Int}
  (rule:∀(i j:Int)(t u:Tok)(s:AL)(Q:AI->AL->Prop)(E:AI->AL->Prop),C i j->Q (.int (g i j) s.toks) {s with toks:=s.toks+1}->AU (model X.prog X.w) X.A (f (.int i t) (.int j u)) Q E s) :
  OpR X f (rI C λi j=>.int (g i j)):=by
 intro pins s σ H x y v u Q I rx ry h;obtain⟨i,j,rfl,rfl,hc,q⟩:=h;obtain⟨t,rfl⟩:=rx;obtain⟨t',rfl⟩:=ry;exact rule i j t t' s _ _ hc ⟨.int (g i j),H,I.tok _,⟨_,rfl⟩,q⟩
def bq4{f:AI->AI->Sem AI}{g:Int->Int->Int}
  (rule:∀(i j:Int)(t u:Tok)(s:AL)(Q:AI->AL->Prop)(E:AI->AL->Prop),Q (.int (g i j) s.toks) {s with toks:=s.toks+1}->AU (model X.prog X.w) X.A (f (.int i t) (.int j u)) Q E s) :
  OpR X f (rI0 λi j=>.int (g i j)):=by
 intro pins s σ H x y v u Q I rx ry h;obtain⟨i,j,rfl,rfl,q⟩:=h;obtain⟨t,rfl⟩:=rx;obtain⟨t',rfl⟩:=ry;exact rule i j t t' s _ _ ⟨.int (g i j),H,I.tok _,⟨_,rfl⟩,q⟩
def ac8{f:AI->AI->Sem AI}{g:Int->Int->Bool}
  (rule:∀(i j:Int)(t u:Tok)(s:AL)(Q:AI->AL->Prop)(E:AI->AL->Prop),Q (.bool (g i j)) s->AU (model X.prog X.w) X.A (f (.int i t) (.int j u)) Q E s) :
  OpR X f (rI0 λi j=>.bl (g i j)):=by
 intro pins s σ H x y v u Q I rx ry h;obtain⟨i,j,rfl,rfl,q⟩:=h;obtain⟨t,rfl⟩:=rx;obtain⟨t',rfl⟩:=ry;exact rule i j t t' s _ _ ⟨.bl (g i j),H,I,rfl,q⟩
abbrev an4(i j:Int):Prop:=0<=j/\j<=1000000/\i.natAbs<2^64
abbrev am8(i j:Int):Prop:=(-(2^64)<i/\i<2^64)\/(-(2^64)<j/\j<2^64)
def am8.ok{i j:Int}(h:am8 i j):Ke i j:=by
 rcases h with⟨h1,h2⟩|⟨h1,h2⟩
 ·exact .of_left (intBits_le_64 h1 h2)
 ·exact .of_right (intBits_le_64 h1 h2)
def ck2:OpR X (Cv .Add) (rI0 λi j=>.int (i+j)):=bq4 λ_ _ _ _ _ _ _ q=>add_int q
def cp9:OpR X (Cv .Sub) (rI0 λi j=>.int (i-j)):=bq4 λ_ _ _ _ _ _ _ q=>sub_int q
def ck9:OpR X (Cv .Mod) (rI (λ_ j=>0<j) λi j=>.int (i % j)):=opI λi j _ _ _ _ _ hc q=>by
 have h1:(0:Int)<j:=hc;exact mod_int' ⋯ (by rw[Int.fmod_eq_emod_of_nonneg i ⋯];exact q)
def cp8:OpR X (Cv .Pow) (rI an4 λi j=>.int (i^j.toNat)):=opI λ_ _ _ _ _ _ _ hc q=>pow_int_small hc.1 hc.2.1 hc.2.2 q
def unI{f:AI->Sem AI}{g:Int->Int}
  (rule:∀(i:Int)(t:Tok)(s:AL)(Q:AI->AL->Prop)(E:AI->AL->Prop),Q (.int (g i) s.toks) {s with toks:=s.toks+1}->AU (model X.prog X.w) X.A (f (.int i t)) Q E s) :
  UnR X f (rU λi=>.int (g i)):=by
 intro pins s σ H x v Q I rx h;obtain⟨i,rfl,q⟩:=h;obtain⟨t,rfl⟩:=rx;exact rule i t s _ _ ⟨.int (g i),H,I.tok _,⟨_,rfl⟩,q⟩
def ch6:UnR X (unaryOp .USub) (rU λi=>.int (-i)):=unI λ_ _ _ _ _ q=>neg_int q
end
section
variable {X:Cx} {a b c:AR} {ta tb tc:TE} {pos:Pos}
def bb9{pins:List (AM×Obj)}{σ:St}{H:Hp}{s:AL}{Q:VK}{k k':Bool}(I:Inv X pins σ H s)(q:Q (.bl k) H)(e:k=k'):EP X pins σ Q (.bool k') s:=by
 subst e;exact⟨.bl k,H,I,rfl,q⟩
def cs1:OpR X (Bc .Lt) (rI0 λi j=>.bl (AB (i<j))):=ac8 λ_ _ _ _ _ _ _ q=>lt_int q
def cr4:OpR X (Bc .LtE) (rI0 λi j=>.bl (AB (i<=j))):=ac8 λ_ _ _ _ _ _ _ q=>le_int q
def cu2:OpR X (Bc .Gt) (rI0 λi j=>.bl (AB (j<i))):=ac8 λ_ _ _ _ _ _ _ q=>gt_int q
def ct9:OpR X (Bc .GtE) (rI0 λi j=>.bl (AB (j<=i))):=ac8 λ_ _ _ _ _ _ _ q=>ge_int q
def b06:OpR X (Bc .In) (λx y H Q=>∃i j,x=.str i/\y=.str j/\Q (.bl (!(GA j i 0 j.length 1).isEmpty)) H):=by
 intro pins s σ H x y v u Q I rx ry h;obtain⟨i,j,rfl,rfl,q⟩:=h;obtain⟨t,rfl⟩:=rx;obtain⟨t',rfl⟩:=ry;exact in_str (bb9 I q rfl)
def bt3:OpR X (Bc .NotIn) (λx y H Q=>∃i j,x=.str i/\y=.str j/\Q (.bl (!(!(GA j i 0 j.length 1).isEmpty))) H):=by
 intro pins s σ H x y v u Q I rx ry h;obtain⟨i,j,rfl,rfl,q⟩:=h;obtain⟨t,rfl⟩:=rx;obtain⟨t',rfl⟩:=ry;exact notIn_str (bb9 I q rfl)
def OpR.or{f:AI->AI->Sem AI}{r':R2}(h:OpR X f r)(h':OpR X f r'):OpR X f (λx y H Q=>r x y H Q\/r' x y H Q):=by
 intro pins s σ H x y v u Q I rx ry q
 rcases q with q|q
 ·exact h pins s σ H x y v u Q I rx ry q
 ·exact h' pins s σ H x y v u Q I rx ry q
def c33(b:AR)(h:op≠.In:=by decide)(h2:op≠.NotIn:=by decide):Cd op b=AF:=by
 have e1:(op==CmpOp.In)=AF:=by cases op<;>first|rfl|exact absurd rfl h
 have e2:(op==EB)=AF:=by cases op<;>first|rfl|exact absurd rfl h2
 cases b<;>simp[Cd,e1,e2]
def aj1(ho:OpR X (Bc op) r)(ha:PE X a ta)(hb:PE X b tb)(hm:Cd op b=AF):PE X (.Compare a [op] [b] pos) (tOp r ta tb):=by
 intro pins s σ H Q I h;exact KZ (an6 ha hb I h λv u s2 x y H2 I2 rx ry q=>ho pins s2 σ H2 x y v u Q I2 rx ry q) hm
abbrev cu8(t:TE):TT:=λσ H Q=>t σ H λx H'=>∃k,x=.bl k/\Q k H'
def ai6(ho:OpR X (Bc op) r)(ha:PE X a ta)(hb:PE X b tb)(hm:Cd op b=AF):PT X (.Compare a [op] [b] pos) (cu8 (tOp r ta tb)):=by
 intro pins s σ H Q I h;refine IT (thn (ha pins s σ H _ I h) λv s1⟨x,H1,I1,r1,q1⟩=>thn (hb pins s1 σ H1 _ I1 q1) λu s2⟨y,H2,I2,r2,q2⟩=>
  thn (ho pins s2 σ H2 x y v u _ I2 r1 r2 q2) λc s3⟨z,H3,I3,r3,k,e,q3⟩=>?_) hm
 subst e;cases r3;exact CA ⟨H3,I3,q3⟩
def Q5:(sizeLine:Nat)<2^63:=by rw[Ie];decide
def bu8:OpR X (Cv .Add) (λx y H Q=>∃i j,x=.str i/\y=.str j/\i.length+j.length<=sizeLine/\Q (.str (i++j)) H):=by
 intro pins s σ H x y v u Q I rx ry h;obtain⟨i,j,rfl,rfl,hz,q⟩:=h;obtain⟨t,rfl⟩:=rx;obtain⟨t',rfl⟩:=ry;exact add_str (λt' tk=>⟨.str (i++j),H,I.tok _,⟨_,rfl⟩,q⟩) hz
def J4{x:V}{us:List AI}(r:c7 [x] us):∃u,us=[u]/\d3 x u:=by
 cases r with
 |cons r1 r2=>cases r2;exact⟨_,rfl,r1⟩
def ct2{x y:V}{us:List AI}(r:c7 [x,y] us):∃u w',us=[u,w']/\d3 x u/\d3 y w':=by
 cases r with
 |cons r1 r2=>
  cases r2 with
  |cons r3 r4=>cases r4;exact⟨_,_,rfl,r1,r3⟩
def b31:z0 X (.builtin "abs") (λxs H Q=>∃i,xs=[.int i]/\Q (.int (if i<0 then -i else i)) H):=by
 intro pins s σ H xs us Q I r h;obtain⟨i,rfl,q⟩:=h;obtain⟨u,rfl,t,rfl⟩:=J4 r;exact call_abs_int λu tk=>⟨.int (if i<0 then -i else i),H,I.tok _,⟨_,rfl⟩,q⟩
def bx0(hc:X.calm=AC):z0 X (.builtin "max") (λxs H Q=>∃i j,xs=[.int i,.int j]/\Q (.int (if j>i then j else i)) H):=by
 intro pins s σ H xs us Q I r h;obtain⟨i,j,rfl,q⟩:=h;obtain⟨u,w',rfl,⟨t,rfl⟩,⟨t',rfl⟩⟩:=ct2 r;refine max_two_ints (I.ok.hd hc) λh' tk k=>⟨_,H,I.kept k,?_,q⟩
 by_cases hj:j>i
 ·rw[if_pos hj,if_pos hj];exact⟨_,rfl⟩
 ·rw[if_neg hj,if_neg hj];exact⟨_,rfl⟩
def by2:z0 X (.type "int") (λxs H Q=>(∃i,xs=[.int i]/\Q (.int i) H)\/∃k,xs=[.bl k]/\Q (.int (if k then 1 else 0)) H):=by
 intro pins s σ H xs us Q I r h
 rcases h with⟨i,rfl,q⟩|⟨k,rfl,q⟩
 ·obtain⟨u,rfl,t,rfl⟩:=J4 r;exact call_int_int ⟨.int i,H,I,⟨_,rfl⟩,q⟩
 ·obtain⟨u,rfl,r1⟩:=J4 r;cases r1;exact call_int_bool ⟨.int (if k then 1 else 0),H,I.tok _,⟨_,rfl⟩,q⟩
def bt0:z0 X (.type "str") (λxs H Q=>∃i,xs=[.int i]/\i.natAbs.log2<1920/\Q (.str (Dh i)) H):=by
 intro pins s σ H xs us Q I r h;obtain⟨i,rfl,hz,q⟩:=h;obtain⟨u,rfl,t,rfl⟩:=J4 r;exact PySem.P.str_of_int hz ⟨.str _,H,I.tok _,⟨_,rfl⟩,q⟩
end
end L2
namespace L2
open PySem PySem.Spec PyProof.Rows
variable{dx C:AM}{mA:Str->Option AI}{A:BV}{f:Str}{Q:AI->AL->Prop}{u:AI}{H:Hp}{X:Cx}
structure ObjM(h:Ay)(x dx C:AM)(mA:Str->Option AI):Prop where
 obj:h.get? x=AA (EA C dx)
 ns:h.Ns1 dx mA
 ne:dx≠x
def bx6{h:Ay}(n:h.Ns1 dx mA):∃od,h.get? dx=AA od/\∀name,ID name od=AA (mA name):=by
 obtain⟨o,es,ep,ho,hd,hk,_,hm⟩:=n;refine⟨o,ho,λname=>?_⟩;have e:=hm name;unfold nsFind findBy at e;rw[<-Array.find?_toList]at e;unfold ID;rw[hd];dsimp only
 split
 ·rename_i y q;rw[q]at e;exact congrArg AA e
 ·rename_i q;rw[q]at e;have a:es.toList.any (·.refKey)=AF:=by
   rw[Fi];intro y hy;obtain⟨z,t,hkey⟩:=hk y (Array.mem_toList_iff.mp hy);simp[DictEntry.refKey,hkey]
  have a':¬es.toList.any (·.refKey)=AC:=by rw[a];exact AK
  rw[if_neg a'];exact congrArg AA e
def ObjM.look{h:Ay}{x:AM}(I:ObjM h x dx C mA):∃od,W.InstAt h x (EA C dx) C (AA od)/\∀name,ID name od=AA (mA name):=
 let⟨od,ho,hl⟩:=bx6 I.ns
 ⟨od,⟨I.obj,rfl,rfl,ho⟩,hl⟩
section
variable {prog:Aj} {w:BA} {E:AI->AL->Prop} {s:AL} {K:AS} {x f:AM} {name:Str} {v:AI}
def ca8{expr:Bool}(X:K.In s.heap)(I:ObjM s.heap x dx C mA)(hg:Fp K C name=AC)(hh:Gd K C=AC)
  (ha:BH K (.ref C) name=AA AE) (hv:mA name=AA v) (hv':W.handedIn v=AC) (h:Q v {s with toks:=s.toks+1}) :
  AU (model prog w) A (getAttr (.ref x) name expr) Q E s:=by
 obtain⟨od,J,hl⟩:=I.look;exact W.get_value X J (HU hg).1 (W.findObj_own hh ha rfl (by rw[hl,hv])) hv' h
def b56{pl:Sem Bool}{Q:AI×List AI->AL->Prop}(X:K.In s.heap)(I:ObjM s.heap x dx C mA)(hg:Fp K C name=AC)
  (hf:BH K (.ref C) name=AA (AA (.ref f))) (ht:Js K (.ref f)=AC) (hv:mA name=AE) (h:Q (.ref f,[.ref x]) s) :
  AU (model prog w) A (Jt (.ref x) name pl) Q E s:=by
 obtain⟨od,J,hl⟩:=I.look;exact W.method_fn X J (HU hg).1 (HU hg).2 hf (beq_iff_eq.mp ht) (by show(ID name od).map (·.isSome)=AA AF;rw[hl,hv];rfl) h
def cc1{ns:List Str}{Q:Unit->AL->Prop}(X:K.In s.heap)(I:ObjM s.heap x dx C mA)
  (hs:BH K (.ref C) "__setattr__"=AA (AA (.builtin "object.__setattr__"))) (hp:IE K C=AC) (ht:JO K C name=AA AE) (hh:Gd K C=AC)
  (hw:PySem.Within mA ns) (hsz:ns.length<=sizeLine)
  (h:∀h',ObjM h' x dx C (λy=>if y=name then AA v else mA y)->CQ dx s.heap h'->Q () {s with heap:=h',toks:=s.toks+2}) :
  AU (model prog w) A (setAttr (.ref x) name v) Q E s:=by
 obtain⟨od,J,hl⟩:=I.look;refine W.set_plain X J hs (W.osa_open (s:={s with toks:=s.toks+1}) (r:=AE) X J hp ht λb=>?_);obtain⟨cd,hc,hd'⟩:=W.any_some hh;have hx:s.heap.get? x=AA ⟨.ref C,AA dx,.plain,#[]⟩:=I.obj;refine AJ (AQ (AJ (AJ (Kf hx (AJ (Ig (s:={s with toks:=s.toks+1}) (W.looks_clsIn X hc) ?_))))));rw[hd'];refine AQ (a:=AA dx) (AJ (AQ (AJ ?_)));refine wpAny_nsSet1 (s:={s with toks:=s.toks+1}) I.ns λh' hn2 hs2=>?_;obtain⟨oD,esD,epD,hoD,hdD,hcD⟩:=hn2.count (PySem.Within.cons name v hw);refine AJ (wpAny_lookBehind hoD (by rw[hdD];exact pastItsLine_dict (Ag hcD (by rw[AG];lia))) ?_);exact AQ (h _ ⟨(hs2.2 _ (BD I.ne)).trans I.obj,hn2,I.ne⟩ hs2)
def b38{R:JP->AL->Prop}{vs:List AI}{kw:List (Str×AI)}(X:K.In s.heap)(hm:Hd K C=AC)
  (hi:BH K (.ref C) "__init__"=AA (AA (.ref f))) (hf:W.typeIn K (.ref f)=AA (.type "function"))
  (h:Ea (model prog w) (A.under (.builtin "type.__call__" ⟨.ref C::vs,kw⟩)) (.call (.ref f) ⟨.ref (s.heap.objs.size+1)::vs,kw⟩) (W.InitBack (s.heap.objs.size+1) R)
   {s with heap:=(s.heap.push Cz).push (EA C s.heap.objs.size)}) :
  Ea (model prog w) A (.call (.ref C) ⟨vs,kw⟩) R s:=by
 obtain⟨hh,g,d,t,os⟩:=s;exact W.make_core (W.makes_of X hm) (W.looks_findIn X hi) (λself=>W.bind_fn X self hf) (.inl rfl) h
end
abbrev o8(f:Str)(v:V):List (Str×V)->List (Str×V)
 |[]=>[(f,v)]
 |(g,x)::r=>if g=f then(g,v)::r else(g,x)::o8 f v r
theorem ao9(f g:Str)(v:V):∀fs:List (Str×V),(o8 f v fs).lookup g=if g=f then AA v else fs.lookup g
 |[]=>by
  show DI g [(f,v)]=_
  by_cases h:g=f
  ·have hb:(g==f)=AC:=beq_iff_eq.mpr h;simp only[DI,hb,if_pos h]
  ·have hb:(g==f)=AF:=beq_eq_false_iff_ne.mpr h;simp only[DI,hb,if_neg h]
 |(k,x)::r=>by
  have ih:=ao9 f g v r;rw[show o8 f v ((k,x)::r)=(if k=f then(k,v)::r else(k,x)::o8 f v r) from rfl]
  by_cases hk:k=f
  ·rw[if_pos hk]
   by_cases h:g=k
   ·have hb:(g==k)=AC:=beq_iff_eq.mpr h;simp only[DI,hb,if_pos (h.trans hk)]
   ·have hb:(g==k)=AF:=beq_eq_false_iff_ne.mpr h;simp only[DI,hb,if_neg (λe:g=f=>h (e.trans hk.symm))]
  ·rw[if_neg hk]
   by_cases h:g=k
   ·have hb:(g==k)=AC:=beq_iff_eq.mpr h;simp only[DI,hb,if_neg (λe:g=f=>hk (h.symm.trans e))]
   ·have hb:(g==k)=AF:=beq_eq_false_iff_ne.mpr h;simp only[DI,hb];exact ih
theorem af9(f:Str)(v:V):∀fs:List (Str×V),f∈(o8 f v fs).map (·.1)/\∀g,g∈fs.map (·.1)->g∈(o8 f v fs).map (·.1)
 |[]=>⟨by simp[o8],λg h=>by simp at h⟩
 |(k,x)::r=>by
  obtain⟨i1,i2⟩:=af9 f v r;rw[show o8 f v ((k,x)::r)=(if k=f then(k,v)::r else(k,x)::o8 f v r) from rfl]
  by_cases hk:k=f
  ·rw[if_pos hk];subst hk;exact⟨∎,λg h=>by simpa using h⟩
  ·rw[if_neg hk];refine⟨?_,λg h=>?_⟩
   ·rw[AV];exact BQ _ i1
   ·rw[AV]at h ⊢
    rcases AT.mp h with e|e
    ·exact mem_cons.mpr (.inl e)
    ·exact BQ _ (i2 g e)
theorem ap0(f:Str)(v:V):∀fs:List (Str×V),(o8 f v fs).length<=fs.length+1
 |[]=>by simp[o8]
 |(k,x)::r=>by
  have ih:=ap0 f v r;rw[show o8 f v ((k,x)::r)=(if k=f then(k,v)::r else(k,x)::o8 f v r) from rfl]
  by_cases hk:k=f
  ·rw[if_pos hk,AG,AG];lia
  ·rw[if_neg hk,AG,AG];lia
def t6.some_of{v:V}{o:Option AI}(r:t6 (AA v) o):∃u,o=AA u/\d3 v u:=by
 cases o with
 |none=>exact(show False from r).elim
 |some u=>exact⟨u,rfl,r⟩
def t6.none_of{o:Option AI}(r:t6 AE o):o=AE:=by
 cases o with
 |none=>rfl
 |some u=>exact(show False from r).elim
def b04{v:V}(r:d3 v u):W.handedIn u=AC:=by
 cases v with
 |non=>cases(show u=BZ from r);rfl
 |bl b=>cases(show u=ET b from r);rfl
 |int i=>obtain⟨t,e⟩:=(show ∃t,u=EL i t from r);cases e;rfl
 |str x=>obtain⟨t,e⟩:=(show ∃t,u=EM x t from r);cases e;rfl
 |byt b=>obtain⟨t,e⟩:=(show ∃t,u=Ja b t from r);cases e;rfl
 |flt b=>obtain⟨t,e⟩:=(show ∃t,u=HQ b t from r);cases e;rfl
 |ref a=>cases(show u=At a from r);rfl
 |ty n=>cases(show u=EU n from r);rfl
section
variable {P:Aj} {w:BA} {H':Hp} {h h':Ay} {a:AM} {fs fs':List (Str×V)}
def Z7(hok:HOk P w H h)(e:H a=AA (.ins C dx fs)):∃mA,ObjM h a dx C mA/\(∀f,t6 (fs.lookup f) (mA f))/\PySem.Within mA (fs.map (·.1))/\fs.length<=1000/\H dx=AA (.own a):=by
 obtain⟨d,z,ne,ob,mA,n,r,q⟩:=(show i9 P w H h a (.ins C dx fs) from hok a _ e);exact⟨mA,⟨ob,n,ne⟩,r,q,z,d⟩
end
structure Cls(K:AS)(C:AM):Prop where
 pg:Fp K C Str.empty=AC
 hd:Gd K C=AC
 po:IE K C=AC
 sa:BH K (.ref C) "__setattr__"=AA (AA (.builtin "object.__setattr__"))
def Cls.get{K:AS}(c:Cls K C)(f:Str):Fp K C f=AC:=c.pg
abbrev D6(K:AS)(C:AM)(f:Str):Prop:=BH K (.ref C) f=AA AE
def D6.taker{K:AS}(n:D6 K C f):JO K C f=AA AE:=by
 unfold JO;rw[show BH K (.ref C) f=AA AE from n];rfl
structure Meth(K:AS)(C:AM)(m:Str)(f:AM):Prop where
 at_:BH K (.ref C) m=AA (AA (.ref f))
 fn:Js K (.ref f)=AC
 kp:CU K (.ref f)=AC
section
variable {pins:List (AM×Obj)} {σ:St} {s:AL} {a:AM} {fs:List (Str×V)} {v:V} {E:AI->AL->Prop}
def bv2{b:Bool}(I:Inv X pins σ H s)(e:H a=AA (.ins C dx fs))(c:Cls X.K C)(n:D6 X.K C f)(l:fs.lookup f=AA v)
  (h:∀u s',Inv X pins σ H s'->d3 v u->Q u s'):AU (model X.prog X.w) A (getAttr (.ref a) f b) Q E s:=by
 obtain⟨mA,O,r,_,_,_⟩:=Z7 I.hok e;obtain⟨u,hu,ru⟩:=t6.some_of (v:=v) (o:=mA f) (by rw[<-l];exact r f);exact ca8 I.kIn O (c.get f) c.hd n hu (b04 ru) (h u _ (I.tok _) ru)
def aq9{m:Str}{g:AM}{pl:Sem Bool}{Q:AI×List AI->AL->Prop}(I:Inv X pins σ H s)(e:H a=AA (.ins C dx fs))(c:Cls X.K C)(k:Meth X.K C m g)(l:fs.lookup m=AE)
  (h:Q (.ref g,[.ref a]) s):AU (model X.prog X.w) A (Jt (.ref a) m pl) Q E s:=by
 obtain⟨mA,O,r,_,_,_⟩:=Z7 I.hok e;have hn:mA m=AE:=t6.none_of (by rw[<-l];exact r m);exact b56 I.kIn O (c.get m) k.at_ k.fn hn h
def bv7{y:V}{Q:Unit->AL->Prop}(I:Inv X pins σ H s)(e:H a=AA (.ins C dx fs))(c:Cls X.K C)(n:D6 X.K C f)(hl:fs.length<1000)(ry:d3 y u)
  (h:∀s',Inv X pins σ (upd H a (.ins C dx (o8 f y fs))) s'->Q () s'):AU (model X.prog X.w) A (setAttr (.ref a) f u) Q E s:=by
 obtain⟨mA,O,r,wi,_,ho⟩:=Z7 I.hok e;have hz:(fs.map (·.1)).length<=sizeLine:=by rw[Am,Ie];lia
 refine cc1 I.kIn O c.sa c.po n.taker c.hd wi hz λh' O' sb=>h _ ?_;have hd:∃o,h'.get? dx=AA o:=let⟨o,_,_,e',_⟩:=O'.ns;⟨o,e'⟩;refine I.write (x:=a) (e:=dx) (by rw[e];exact Ck) (.inr ho) (λb q hb z=>(sb.2 b hb).trans z) hd ?_;refine⟨by rw[f6 O.ne];exact ho,?_,O.ne,O'.obj,_,O'.ns,λg=>?_,λg hg=>?_⟩
 ·have:=ap0 f y fs;lia
 ·show t6 ((o8 f y fs).lookup g) (if g=f then AA u else mA g);rw[ao9]
  by_cases q:g=f
  ·rw[if_pos q,if_pos q];exact ry
  ·rw[if_neg q,if_neg q];exact r g
 ·by_cases q:g=f
  ·rw[q];exact(af9 f y fs).1
  ·refine(af9 f y fs).2 g (wi g λz=>hg ?_);show(if g=f then AA u else mA g)=AE;rw[if_neg q];exact z
def Inv.made(I:Inv X pins σ H s):Inv X pins σ (upd (upd H s.heap.objs.size (.own (s.heap.objs.size+1))) (s.heap.objs.size+1) (.ins C s.heap.objs.size []))
  {s with heap:=(s.heap.push Cz).push (EA C s.heap.objs.size)}:=by
 have e1:(s.heap.push Cz).get? s.heap.objs.size=AA Cz:=BN s.heap rfl;have e2:((s.heap.push Cz).push (EA C s.heap.objs.size)).get? (s.heap.objs.size+1)=AA (EA C s.heap.objs.size):=by
  have:=BN (s.heap.push Cz) (o:=EA C s.heap.objs.size) rfl
  rwa [Gi]at this
 have e3:(s.heap.push Cz).Ns s.heap.objs.size (λ_=>AE):=⟨Cz,#[],_,e1,rfl,(λe he=>absurd he ∎),λ_=>rfl⟩;have I1:=I.laid (a:=s.heap.objs.size) (o:=.own (s.heap.objs.size+1)) (h':=s.heap.push Cz) (t':=s.toks) (λb u q=>AW _ q) (Ae _) ⟨_,e1⟩;refine I1.laid (a:=s.heap.objs.size+1) (o:=.ins C s.heap.objs.size []) (t':=s.toks) (λb u q=>AW _ q) (Ju (Gi _ _)) ?_;have ne:s.heap.objs.size≠s.heap.objs.size+1:=Br (Bx _);refine⟨by rw[f6 ne,o7],An _,ne,e2,λ_=>AE,(Heap.Ns1.of_empty e3).at λo q=>AW _ q,λ_=>Ck,λy hy=>absurd rfl hy⟩
def b91{prog:Aj}{w:BA}{env:Env}{e:AR}{pos:Pos}{s:AL}(hb:Cf e f env (eval e env)=eval e env)
  (h:AU (model prog w) A (eval e env) (λo s₁=>AU (model prog w) A (getAttr o f AC) Q E s₁) E s):AU (model prog w) A (eval (.Attribute e f pos) env) Q E s:=
 Attribute_any_ h (by rw[arm_eval_Attribute,hb])
end
abbrev c17(K:AS)(ta:TE)(f:Str):TE:=λσ H Q=>ta σ H λx H1=>∃a C dx fs v,x=.ref a/\H1 a=AA (.ins C dx fs)/\Cls K C/\D6 K C f/\fs.lookup f=AA v/\Q v H1
abbrev c31(K:AS)(ta tv:TE)(f:Str):TS:=λD σ H=>tv σ H λy H1=>ta σ H1 λx H2=>∃a C dx fs,x=.ref a/\H2 a=AA (.ins C dx fs)/\Cls K C/\D6 K C f/\fs.length<1000 /\
 D.nx σ (upd H2 a (.ins C dx (o8 f y fs)))
section
variable {o e value:AR} {pos pos' tpos:Pos} {ta tv:TE}
def cj8(he:PE X e ta)(hb:Cf e f X.env (eval e X.env)=eval e X.env):PE X (.Attribute e f pos) (c17 X.K ta f):=by
 intro pins s σ H Q I h;refine b91 hb (thn (he pins s σ H _ I h) λu s1 z19=>?_);obtain⟨x,H1,I1,rx,a,C,dx,fs,v,ex,ea,c,n,l,q⟩:=z19;subst ex;obtain rfl:u=At a:=rx;exact bv2 I1 ea c n l λu' s2 I2 ru=>⟨v,H1,I2,ru,q⟩
def cg9(ha:PE X o ta)(hv:PE X value tv)(hs:DW value (AA (.Attribute o f pos')) pos.line X.env=pure AF):PS X (.Assign [.Attribute o f pos'] value pos) (c31 X.K ta tv f):=by
 intro pins s σ H D I h;refine plainObj_wpAny_Assign_Attribute (thn (hv pins s σ H _ I h) λu s1⟨y,H1,I1,ry,q⟩=>thn (ha pins s1 σ H1 _ I1 q) λov s2 z20=>?_) hs;obtain⟨x,H2,I2,rx,a,C,dx,fs,ex,ea,c,n,l,q2⟩:=z20;subst ex;obtain rfl:ov=At a:=rx;exact bv7 I2 ea c n l ry λs3 I3=>⟨σ,_,I3,q2⟩
end
section
variable {pins:List (AM×Obj)} {σ:St} {s:AL} {E:AI->AL->Prop} {c:AI} {b:Bool}
inductive TyOf(K:AS)(H:Hp):V->AI->Prop where
 |non:TyOf K H .non (.type "NoneType")
 |bl (x:Bool):TyOf K H (.bl x) (.type "bool")
 |int (i:Int):TyOf K H (.int i) (.type "int")
 |str (x:Str):TyOf K H (.str x) (.type "str")
 |flt (x:UInt64):TyOf K H (.flt x) (.type "float")
 |lst {a:AM} {xs:List V} (e:H a=AA (.lst xs)):TyOf K H (.ref a) (.type "list")
 |frz {a:AM} {o:Obj} {xs:List V} (e:H a=AA (.frz o (.lst xs))):TyOf K H (.ref a) (.type "list")
 |tup {a:AM} {xs:List V} (e:H a=AA (.tup xs)):TyOf K H (.ref a) (.type "tuple")
 |dK {a:AM} {kvs:List (Key×V)} (e:H a=AA (.dK kvs)):TyOf K H (.ref a) (.type "dict")
 |dT {a:AM} {kvs:List (Ax×V)} (e:H a=AA (.dT kvs)):TyOf K H (.ref a) (.type "dict")
 |ins {a C dx:AM} {fs:List (Str×V)} (e:H a=AA (.ins C dx fs)) (cl:Cls K C) (ha:BH K (.ref C) "__class__"=AA (AA (.builtin "object.__class__")))
   (hn:Dp K (.builtin "object.__class__") "__get__"=AA (AA (.builtin "getset_descriptor.__get__"))) (htk:Eg K (.builtin "object.__class__")=AA AC)
   (hm:ES K C (.type "object")=AA AC):TyOf K H (.ref a) (.ref C)
def b03{x:V}{t:AI}(I:Inv X pins σ H s)(rx:d3 x u)(ty:TyOf X.K H x t)(e:Dq X.K t c=AA b)(h:∀tk,Q (.bool b) {s with toks:=tk}):
  AU (model X.prog X.w) A (call (.builtin "isinstance") [u,c]) Q E s:=by
 cases ty with
 |non=>cases(show u=BZ from rx);exact Ci W.kitx_none I.kIn Ck e (λz=>nomatch z) h
 |bl y=>cases(show u=ET y from rx);exact Ci W.kitx_bool I.kIn Ck e (λz=>nomatch z) h
 |int i=>obtain⟨t,q⟩:=(show ∃t,u=EL i t from rx);cases q;exact Ci W.kitx_int I.kIn Ck e (λz=>nomatch z) h
 |str y=>obtain⟨t,q⟩:=(show ∃t,u=EM y t from rx);cases q;exact Ci W.kitx_str I.kIn Ck e (λz=>nomatch z) h
 |flt y=>obtain⟨t,q⟩:=(show ∃t,u=HQ y t from rx);cases q;exact Ci W.kitx_float I.kIn Ck e (λz=>nomatch z) h
 |@lst a xs ea=>
  cases(show u=At a from rx);obtain⟨_,_,n,_,h1⟩:=(show i9 X.prog X.w H s.heap a (.lst xs) from I.hok a _ ea);exact Ci W.kitx_list I.kIn ⟨_,h1,rfl⟩ e (λz=>nomatch z) h
 |@frz a ob xs ea=>
  cases(show u=At a from rx);obtain⟨_,_,_,n,_,h1⟩:=(show i9 X.prog X.w H s.heap a (.frz ob (.lst xs)) from I.hok a _ ea);exact Ci W.kitx_list I.kIn ⟨_,h1,rfl⟩ e (λz=>nomatch z) h
 |@tup a xs ea=>
  cases(show u=At a from rx);obtain⟨_,_,_,p⟩:=(show i9 X.prog X.w H s.heap a (.tup xs) from I.hok a _ ea);obtain⟨o,h1,h2,_⟩:=p;exact Ci Kg I.kIn ⟨o,h1,h2⟩ e (λz=>nomatch z) h
 |@dK a kvs ea=>
  cases(show u=At a from rx);obtain⟨_,_,vs,_,p⟩:=(show i9 X.prog X.w H s.heap a (.dK kvs) from I.hok a _ ea);obtain⟨o,es,ep,h1,h2,_⟩:=p;exact Ci W.kitx_dict I.kIn ⟨o,h1,h2.1⟩ e (λz=>nomatch z) h
 |@dT a kvs ea=>
  cases(show u=At a from rx);obtain⟨_,_,xs,_,o,es,ep,h1,h2,_⟩:=(show i9 X.prog X.w H s.heap a (.dT kvs) from I.hok a _ ea);exact Ci W.kitx_dict I.kIn ⟨o,h1,h2.1⟩ e (λz=>nomatch z) h
 |@ins a C dx fs ea cl ha hn htk hm=>
  cases(show u=At a from rx);obtain⟨mA,O,_⟩:=Z7 I.hok ea;obtain⟨od,J,_⟩:=O.look;exact Ci (W.kitx_own (cl.get _) cl.hd ha hn htk hm) I.kIn J e (λz=>nomatch z) h
end
end L2
namespace L2
open PySem PySem.Spec PyProof.Rows
variable{A:BV}{C:AM}{us:List AI}{X:Cx}{H:Hp}{pins:List (AM×Obj)}{σ:St}{Q:VK}{ps:List Str}{kindOf:Str->Option FX}
structure Room(k:Nat)(A:BV):Prop where
 hd:A.handled=AE
 dp:A.depth+3*k+5<HV
 un:A.units+16*k+200<CO
theorem Room.deeper{k:Nat}(r:Room (k+1) A)(env:Env):Room k (A.deeper env):=
 ⟨r.hd,by have:=r.dp;show A.depth+1+3*k+5<_;lia,by have:=r.un;show A.units+3+16*k+200<_;lia⟩
def bw3{kw:List (Str×AI)}:(A.under (.builtin "type.__call__" ⟨.ref C::us,kw⟩)).depth=A.depth+1:=by
 first|rfl|simp[Gw,Code.weight,Code.isCreation,Code.isGuard,Code.isCaller,Jv,HE,guardIds]
def bv5{kw:List (Str×AI)}:(A.under (.builtin "type.__call__" ⟨.ref C::us,kw⟩)).units=A.units+1:=by
 first|rfl|simp[Gw,Code.cUnits,Jv,HE]
def Room.make{k:Nat}(r:Room (k+1) A)(C:AM)(us:List AI)(kw:List (Str×AI)):Room k (A.under (.builtin "type.__call__" ⟨.ref C::us,kw⟩)):=
 ⟨r.hd,by have:=r.dp;rw[bw3];lia,by have:=r.un;rw[bv5];lia⟩
theorem Room.depth{k:Nat}(r:Room k A):A.depth<HV:=by have:=r.dp;lia
abbrev W9:TA:=λ_ H Q=>Q [] H
abbrev Q6(ta:TE)(tr:TA):TA:=λσ H Q=>ta σ H λx H1=>tr σ H1 λxs H2=>Q (x::xs) H2
section
variable {e:AR} {es:List AR} {te:TE} {t:TA} {pos:Pos}
def aa8:PA X [] W9:=λ_ _ _ _ H Q I h=>Hv ⟨[],H,I,.nil,h⟩
def P3(ha:PE X e te)(hr:PA X es t)(hs:As (e::es) X.env=(AF,eval e X.env)::As es X.env:=by rfl):PA X (e::es) (Q6 te t):=by
 intro pos pins s σ H Q I h;rw[hs];show AU _ _ (spliced ((AF,eval e X.env)::CT pos (As es X.env))) _ _ s;refine FI (thn (ha pins s σ H _ I h) λu s1 z21=>?_);obtain⟨x,H1,I1,r1,q1⟩:=z21;exact thn (hr pos pins s1 σ H1 _ I1 q1) λus s2⟨xs,H2,I2,r2,q2⟩=>⟨x::xs,H2,I2,.cons r1 r2,q2⟩
abbrev cz0(t:TA):TE:=λσ H Q=>t σ H λxs H1=>xs.length<=sizeLine/\∀p,H1 p=AE->Q (.ref p) (upd H1 p (.tup xs))
abbrev cy9(t:TA):TE:=λσ H Q=>t σ H λxs H1=>xs.length<=sizeLine/\∀p,H1 p=AE->Q (.ref p) (upd H1 p (.lst xs))
def ck6{x1}(h:PA X es t):PE X (.Tuple es x1 pos) (cz0 t):=by
 intro pins s σ H Q I hq;refine wpAny_Tuple_spliced (thn (h pos pins s σ H _ I hq) λus s1⟨xs,H1,I1,r,z,q⟩=>⟨by rw[<-r.length];exact z,?_⟩);have hf:H1 s1.heap.objs.size=AE:=I1.hok.fresh (Ae _);refine⟨.ref s1.heap.objs.size,upd H1 s1.heap.objs.size (.tup xs),I1.laid (t':=s1.toks) (λb u e=>AW _ e) (Ae _) ?_,rfl,q _ hf⟩;exact⟨z,us,r,A5.new _ _⟩
def ch9(h:PA X es t):PE X (.List es pos) (cy9 t):=by
 intro pins s σ H Q I hq;refine wpAny_List_spliced (thn (h pos pins s σ H _ I hq) λus s1⟨xs,H1,I1,r,z,q⟩=>⟨by rw[<-r.length];exact z,?_⟩);have hf:H1 s1.heap.objs.size=AE:=I1.hok.fresh (Ae _);refine⟨.ref s1.heap.objs.size,upd H1 s1.heap.objs.size (.lst xs),I1.laid (t':=s1.toks) (λb u e=>AW _ e) (Ae _) ?_,rfl,q _ hf⟩;exact⟨z,us,0,r,BN _ rfl⟩
end
@[reducible]noncomputable def Sp:=List V->Hp->VK->XK->Prop
@[reducible]noncomputable def CXT:=List Env->Hp->AL->XK->AI->AL->Prop
structure Env0(P:Aj)(w:BA)(K:AS)(mg:Str->Option AI)(base:Ay)(A:BV)(outer:List Env)(s:AL)(H:Hp):Prop where
 frames:A.frames=AA outer
 mod:Mod K mg base
 bs:∀b o,base.get? b=AA o->s.heap.get? b=AA o/\H b=AE
 bsz:base.objs.size<=s.heap.objs.size
 funs:s.heap.FunFrames base outer
 frf:∀b∈frs outer,H b=AE
 hok:HOk P w H s.heap
 bare:EZ s.gens
abbrev CE(outer:List Env)(P:Aj)(w:BA)(H:Hp)(s:AL)(Q:VK)(u:AI)(s':AL):Prop:=
 ∃v H',s'.os=s.os/\EZ s'.gens/\Un (frs outer) [] H H' s.heap s'.heap/\HOk P w H' s'.heap/\d3 v u/\Q v H'
abbrev CR(CX:CXT)(outer:List Env)(P:Aj)(w:BA)(H:Hp)(s:AL)(Q:VK)(E:XK)(r:JP)(s':AL):Prop:=
 match r with
 |.ok (.ret u)=>CE outer P w H s Q u s'
 |.ok _=>False
 |.error e=>CX outer H s E e s'
structure FnOk(P:Aj)(w:BA)(K:AS)(mg:Str->Option AI)(base:Ay)(CX:CXT)(k:Nat)(f:AM)(fd:By)(ps:List Str)(sp:Sp):Prop where
 len:∀vs H Q E,sp vs H Q E->vs.length=ps.length
 run:∀(A:BV)(outer:List Env)(s:AL)(H:Hp)(args:Args)(us:List AI)(vs:List V)(Q:VK)(E:XK),Room k A->Env0 P w K mg base A outer s H->BindsTo s fd args (ps.zip us)->c7 vs us->sp vs H Q E ->
  Ea (model P w) A (.call (.ref f) args) (CR CX outer P w H s Q E) s
def Env0.make{P:Aj}{w:BA}{K:AS}{mg:Str->Option AI}{base:Ay}{outer:List Env}{s:AL}(e:Env0 P w K mg base A outer s H)(C:AM)(us:List AI)(kw:List (Str×AI)):
  Env0 P w K mg base (A.under (.builtin "type.__call__" ⟨.ref C::us,kw⟩)) outer s H:=⟨by first|exact e.frames|(simpa[Gw,Code.envs,HE,pushEnvs]using e.frames),e.mod,e.bs,e.bsz,e.funs,e.frf,e.hok,e.bare⟩
section
variable {s s':AL}
def Inv.env0(I:Inv X pins σ H s):Env0 X.prog X.w X.K X.mg X.base X.A X.stack s H:=
 ⟨I.ok.frames,I.ok.mod,I.bs,Ag I.ok.bsz I.sz,I.stack,I.stkFree,I.hok,I.bare⟩
def Inv.after{u:AI}(I:Inv X pins σ H s)(h:CE X.stack X.prog X.w H s Q u s'):EP X pins σ Q u s':=by
 obtain⟨v,H',os,bare,un,hok,r,q⟩:=h;obtain⟨hh,g,d,t,os'⟩:=s';obtain rfl:os'=s.os:=os;exact⟨v,H',I.call (h':=hh) (g':=g) (d':=d) (t':=t) (ch:=[]) un hok bare (λb z=>absurd z ∎),r,q⟩
end
abbrev cv3(sp:Sp)(dvs:List V)(E:XK)(t:TA):TE:=λσ H Q=>t σ H λvs H1=>sp (vs++dvs) H1 Q E
abbrev be9(C:AM)(sp:Sp)(dvs:List V)(E:XK)(t:TA):TE:=λσ H Q=>t σ H λvs H1=>∀x dx,H1 x=AE->H1 dx=AE->dx≠x ->
 sp (.ref x::(vs++dvs)) (upd (upd H1 dx (.own x)) x (.ins C dx [])) (λv H2=>v=.non/\Q (.ref x) H2) E
abbrev l4(K:AS)(fd:By)(ps:List Str)(ds:List AI):Prop:=
 ∀(s:AL)(us:List AI),K.In s.heap->(us++ds).length=ps.length->BindsTo s fd ⟨us,[]⟩ (ps.zip (us++ds))
def l4.all{K:AS}{fd:By}(h:∀us:List AI,us.length=ps.length->HW fd ⟨us,[]⟩=pure (ps.zip us)):l4 K fd ps []:=λs us _ hl=>by
 rw[Ac]at hl ⊢;exact .of_eq (h us hl)
abbrev v6(CX:CXT)(X:Cx)(E:XK):Prop:=∀(pins:List (AM×Obj))(σ:St)(H:Hp)(s:AL)(e:AI)(s':AL),Inv X pins σ H s->CX X.stack H s E e s'->X.xe e s'
section
variable {CX:CXT} {k:Nat} {f:AM} {fd:By} {sp:Sp} {dvs:List V} {ds:List AI} {E:XK} {x m:Str} {p pos apos:Pos} {e o:AR} {es:List AR} {ta:TE} {t:TA}
def U8{s:AL}{vs:List V}(F:FnOk X.prog X.w X.K X.mg X.base CX k f fd ps sp)(hr:Room k X.A)(hb:l4 X.K fd ps ds)(hd:c7 dvs ds)(hx:v6 CX X E)
  (I:Inv X pins σ H s) (r:c7 vs us) (h:sp (vs++dvs) H Q E):AU (model X.prog X.w) X.A (call (.ref f) us) (EP X pins σ Q) X.xe s:=by
 have r2:c7 (vs++dvs) (us++ds):=r.append hd;have hl:(us++ds).length=ps.length:=by rw[<-r2.length];exact F.len _ _ _ _ h
 refine GF (ED (F.run X.A X.stack s H ⟨us,[]⟩ (us++ds) (vs++dvs) Q E hr I.env0 (hb s us I.kIn hl) r2 h) λr s' hq=>?_);cases r with
 |error e=>exact hx pins σ H s e s' I hq
 |ok fl=>
  cases fl with
  |ret u=>exact I.after hq
  |next=>exact Aa hq
  |brk=>exact Aa hq
  |cont=>exact Aa hq
def ce9(F:FnOk X.prog X.w X.K X.mg X.base CX k f fd ps sp)(hr:Room k X.A)(hg:Gl X x)(hm:X.mg x=AA (.ref f))(hk:CU X.K (.ref f)=AC)(hb:l4 X.K fd ps ds)(hd:c7 dvs ds)(hx:v6 CX X E)
  (ha:PA X (e::es) t) (hdb:(x==("__debug__":Str))=AF:=by decide) (he:As (e::es) X.env=(AF,eval e X.env)::As es X.env:=by rfl) (hpl:(CT pos (As es X.env)).any (·.1)=AF:=by rfl) :
  PE X (.Call (.Name x p) (e::es) [] pos) (cv3 sp dvs E t):=by
 intro pins s σ H Q I h;refine Bu (E5 I hg hm ?_ hdb);refine Et (h₀:=X.base) I.ok.mod.kin hk (thn (ha pos pins s σ H _ I h) λus s1⟨vs,H1,I1,r,q⟩=>⟨I1.kIn,?_⟩) he hpl;exact U8 F hr hb hd hx I1 r q
structure Mk(K:AS)(C f:AM):Prop where
 makes:Hd K C=AC
 init:BH K (.ref C) "__init__"=AA (AA (.ref f))
 fn:Js K (.ref f)=AC
 kp:CU K (.ref C)=AC
def aw7{s:AL}{vs:List V}(M:Mk X.K C f)(F:FnOk X.prog X.w X.K X.mg X.base CX k f fd ps sp)(hr:Room (k+1) X.A)(hb:l4 X.K fd ps ds)(hd:c7 dvs ds)
  (hx:v6 CX X E) (I:Inv X pins σ H s) (r:c7 vs us)
  (h:∀x dx,H x=AE->H dx=AE->dx≠x->sp (.ref x::(vs++dvs)) (upd (upd H dx (.own x)) x (.ins C dx [])) (λv H2=>v=.non/\Q (.ref x) H2) E) :
  AU (model X.prog X.w) X.A (call (.ref C) us) (EP X pins σ Q) X.xe s:=by
 have hq:=h (s.heap.objs.size+1) s.heap.objs.size (I.hok.fresh (HG _)) (I.hok.fresh (Ae _)) (Br (Bx _));have I2:=Inv.made (C:=C) I;have r2:c7 (V.ref (s.heap.objs.size+1)::(vs++dvs)) (At (s.heap.objs.size+1)::(us++ds)):=.cons rfl (r.append hd);have hl:(At (s.heap.objs.size+1)::us++ds).length=ps.length:=by
  have e:=r2.length;rw[F.len _ _ _ _ hq]at e;exact e.symm
 refine GF (b38 (f:=f) I.kIn M.makes M.init (beq_iff_eq.mp M.fn) (ED (F.run _ X.stack _ _ ⟨At (s.heap.objs.size+1)::us,[]⟩ (At (s.heap.objs.size+1)::(us++ds)) _ _ E (hr.make C us [])
  (I2.env0.make C us []) (hb _ (At (s.heap.objs.size+1)::us) I2.kIn hl) r2 hq) λr s' hq'=>?_))
 cases r with
 |error e=>exact hx pins σ _ _ e s' I2 hq'
 |ok fl=>
  cases fl with
  |ret u=>
   obtain⟨v,H',I3,rv,ev,q3⟩:=I2.after hq';subst ev;exact⟨rv,⟨V.ref (s.heap.objs.size+1),H',I3,rfl,q3⟩⟩
  |next=>exact Aa hq'
  |brk=>exact Aa hq'
  |cont=>exact Aa hq'
def cc2(M:Mk X.K C f)(F:FnOk X.prog X.w X.K X.mg X.base CX k f fd ps sp)(hr:Room (k+1) X.A)(hg:Gl X x)(hm:X.mg x=AA (.ref C))(hb:l4 X.K fd ps ds)(hd:c7 dvs ds)(hx:v6 CX X E)
  (ha:PA X (e::es) t) (hdb:(x==("__debug__":Str))=AF:=by decide) (he:As (e::es) X.env=(AF,eval e X.env)::As es X.env:=by rfl) (hpl:(CT pos (As es X.env)).any (·.1)=AF:=by rfl) :
  PE X (.Call (.Name x p) (e::es) [] pos) (be9 C sp dvs E t):=by
 intro pins s σ H Q I h;refine Bu (E5 I hg hm ?_ hdb);refine Et (h₀:=X.base) I.ok.mod.kin M.kp (thn (ha pos pins s σ H _ I h) λus s1⟨vs,H1,I1,r,q⟩=>⟨I1.kIn,?_⟩) he hpl;exact aw7 M F hr hb hd hx I1 r q
def b64(M:Mk X.K C f)(F:FnOk X.prog X.w X.K X.mg X.base CX k f fd ps sp)(hr:Room (k+1) X.A)(hg:Gl X x)(hm:X.mg x=AA (.ref C))(hb:l4 X.K fd ps ds)(hd:c7 dvs ds)(hx:v6 CX X E)
  (hdb:(x==("__debug__":Str))=AF:=by decide):PE X (.Call (.Name x p) [] [] pos) (be9 C sp dvs E W9):=by
 intro pins s σ H Q I h;refine Bu (E5 I hg hm ?_ hdb);exact KJ I.kIn M.kp (aw7 (us:=[]) M F hr hb hd hx I .nil h)
end
structure FnScope(N P:List Str)(sc:BR):Prop where
 kind:sc.kind=.function
 co:sc.isCoroutine=AF
 gen:sc.isGenerator=AF
 nd:N.Nodup
 pre:N.take P.length=P
 par:∀x∈P,sc.names.lookup x=AA .local\/sc.names.lookup x=AA .cell
 nofree:∀y∈sc.names,y.2≠.free
theorem as8{x:Str}:∀{binds:List (Str×AI)}{m:Str->Option AI},(∀v,(x,v)∉binds)->Hw kindOf binds m x=m x
 |[],_,_=>rfl
 |(n,v)::r,m,h=>by
  unfold Hw;rw[as8 λw hw=>h w (BQ _ hw)]
  split
  ·have:x≠n:=by rintro rfl;exact h v CL
   simp[this]
  ·rfl
theorem at7{x:Str}:∀{binds:List (Str×AI)}{m:Str->Option AI},(∀v,(x,v)∉binds)->Hx kindOf binds m x=m x
 |[],_,_=>rfl
 |(n,v)::r,m,h=>by
  unfold Hx;rw[at7 λw hw=>h w (BQ _ hw)]
  split
  ·rfl
  ·have:x≠n:=by rintro rfl;exact h v CL
   simp[this]
theorem ar3{x:Str}{v:AI}:∀{P:List Str}{vs:List AI}{i:Nat}{m:Str->Option AI},P.Nodup->P[i]?=AA x->vs[i]?=AA v->kindOf x=AA .local ->
  Hw kindOf (P.zip vs) m x=AA v
 |[],_,_,_,_,h,_,_=>by simp at h
 |_::_,[],_,_,_,_,h,_=>by simp at h
 |p::P,w::vs,0,m,nd,h1,h2,hk=>by
  simp at h1 h2;subst h1;subst h2;show Hw kindOf ((p,w)::P.zip vs) m p=_;unfold Hw;rw[as8 λv hv=>(Bv.mp nd).1 (GH hv).1,if_pos hk];simp
 |p::P,w::vs,i+1,m,nd,h1,h2,hk=>by
  show Hw kindOf ((p,w)::P.zip vs) m x=_;unfold Hw;exact ar3 (i:=i) (Bv.mp nd).2 (by simpa using h1) (by simpa using h2) hk
theorem ar5{x:Str}{v:AI}:∀{P:List Str}{vs:List AI}{i:Nat}{m:Str->Option AI},P.Nodup->P[i]?=AA x->vs[i]?=AA v->kindOf x≠AA .local ->
  Hx kindOf (P.zip vs) m x=AA v
 |[],_,_,_,_,h,_,_=>by simp at h
 |_::_,[],_,_,_,_,h,_=>by simp at h
 |p::P,w::vs,0,m,nd,h1,h2,hk=>by
  simp at h1 h2;subst h1;subst h2;show Hx kindOf ((p,w)::P.zip vs) m p=_;unfold Hx;rw[at7 λv hv=>(Bv.mp nd).1 (GH hv).1,if_neg hk];simp
 |p::P,w::vs,i+1,m,nd,h1,h2,hk=>by
  show Hx kindOf ((p,w)::P.zip vs) m x=_;unfold Hx;exact ar5 (i:=i) (Bv.mp nd).2 (by simpa using h1) (by simpa using h2) hk
abbrev r8(N:List Str)(vs:List V):St:=vs.map AA++Ah (N.length-vs.length) AE
abbrev ad6(CX:CXT)(P:Aj)(w:BA)(K:AS)(mg:Str->Option AI)(base:Ay)(N:List Str)(qual:Str)(scope:BR)(f:AM)(cd:AI)(A:BV)(outer:List Env)(s:AL)(H:Hp)(E:XK):Cx where
 prog:=P
 w:=w
 K:=K
 mg:=mg
 base:=base
 A:=A.deeper (Gj qual scope s.heap.objs.size f cd)
 N:=N
 s₀:=s
 H₀:=H
 env:=Gj qual scope s.heap.objs.size f cd
 outer:=outer
 stack:=Gj qual scope s.heap.objs.size f cd::outer
 ex:=[]
 calm:=AC
 fn:=λ_=>AC
 pn:=[]
 xe:=λe s'=>AU (model P w) (A.deeper (Gj qual scope s.heap.objs.size f cd)) (leaving (Gj qual scope s.heap.objs.size f cd) e) (λ_ s''=>CX outer H s E e s'') (λe' s''=>CX outer H s E e' s'') s'
def aw1{sc:BR}{n:Nat}{x:Str}(h:sc.names.lookup x=AA .cell):∃c,(Jw n sc.names []).lookup x=AA c:=by
 have q:=JQ sc.names n [] (.inl h);exact BJ.mp q
def bz3{CX:CXT}{P:Aj}{w:BA}{K:AS}{mg:Str->Option AI}{base:Ay}{N:List Str}{qual:Str}{scope:BR}{f:AM}{cd:AI}{outer:List Env}{s s1:AL}{E:XK}{vs:List V}
  (S:FnScope N ps scope) (hd:A.handled=AE) (e0:Env0 P w K mg base A outer s H) (hl:vs.length=ps.length) (r:c7 vs us)
  (x:InCallC s s.heap.objs.size (Hw (Gj qual scope s.heap.objs.size f cd).kindOf (ps.zip us) λ_=>AE) (Jw (s.heap.objs.size+1) scope.names []) (Hx (Gj qual scope s.heap.objs.size f cd).kindOf (ps.zip us) λ_=>AE) s1) :
  Inv (ad6 CX P w K mg base N qual scope f cd A outer s H E) [] (r8 N vs) H s1:=by
 have hpl:ps.length<=N.length:=by have:=congrArg Aq S.pre;rw[Cs]at this;lia
 obtain ⟨h1,tk,rfl,hk⟩:=x.done;have noA:∀ b:AM,b ∉ (ad6 CX P w K mg base N qual scope f cd A outer s H E).ex:=λb z=>absurd (show b ∈ ([]:List AM) from z) ∎;refine ⟨⟨e0.mod,S.kind,rfl,rfl,Ae _,λy z c h1 h2=>?_,λy hy=>?_,λy c _ h=>?_,λ_=>hd,HH e0.frames,.inr ⟨rfl,rfl⟩,λb z=>absurd z (noA b),e0.bs,e0.bsz,λb _ _=>noA b,λb z=>absurd z (noA b),e0.funs,e0.frf⟩,
  rfl,e0.bare,Un.kept hk,⟨_,x.toInCall.ns,λi y v h1 h2 h3=>?_⟩,λy c h=>⟨_,x.cell y c h⟩,e0.hok.fresh (Ae _),λy c h=>?_,λp hp=>absurd (show p ∈ ([]:List (AM × Obj)) from hp) ∎,e0.hok.kept hk,?_⟩
 ·exact name_of_addr x.apart (PySem.mem_of_lookup h1) (PySem.mem_of_lookup h2)
 ·have hy:scope.names.lookup y=AA .cell\/scope.names.lookup y=AA .free:=hy
  rcases hy with hy|hy
  ·exact aw1 hy
  ·exact absurd rfl (S.nofree _ (PySem.mem_of_lookup hy))
 ·exact HR (x.above y c (PySem.mem_of_lookup h))
 ·have hi:i<vs.length:=by
   unfold r8 at h2
   by_cases hi:i<vs.length
   ·exact hi
   ·rw[Bd (by simpa using hi)]at h2;rw[DR]at h2
    split at h2<;>cases h2
  have ha:vs[i]?=AA v:=by
   unfold r8 at h2;rw[BW (by simpa using hi),CJ]at h2;cases e:vs[i]? with
   |none=>rw[e]at h2;cases h2
   |some a=>rw[e]at h2;cases h2;rfl
  obtain⟨u,hu,rv⟩:=r.get ha;have hp:ps[i]?=AA y:=by
   rw[<-S.pre,Gx ⋯];exact h1
  have ndP:ps.Nodup:=by rw[<-S.pre];exact S.nd.sublist (IF _ _)
  refine⟨u,rv,?_⟩
  rcases S.par y (Dy hp)with k|k
  ·exact .inl ⟨k,ar3 ndP hp hu k⟩
  ·obtain⟨c,e⟩:=aw1 (n:=s.heap.objs.size+1) k;refine .inr ⟨.inl k,c,e,?_⟩;have q:=x.cell y c e;rw[ar5 ndP hp hu (by show scope.names.lookup y≠_;rw[k];decide)]at q;exact q
 ·exact .inl (e0.hok.fresh (HR (x.above y c (PySem.mem_of_lookup h))))
 ·unfold r8;show _=N.length;rw[AH,Am,Ej];lia
end L2
namespace L2
open PySem PySem.Spec PyProof.Rows
section
variable {X:Cx} {x:Str} {p pos:Pos} {e:AR} {es:List AR} {t:TA} {id T:String} {r:List V->Hp->VK->Prop}
abbrev tCB(r:List V->Hp->VK->Prop)(t:TA):TE:=λσ H Q=>t σ H λvs H1=>r vs H1 Q
def Z6(hc:z0 X (.builtin id) r)(hg:Gl X x)(hm:X.mg x=AE)(hv:BU x=AA (.builtin id))(ha:PA X (e::es) t)(hn:x≠"__name__":=by decide)(hdb:(x==("__debug__":Str))=AF:=by decide)
  (he:As (e::es) X.env=(AF,eval e X.env)::As es X.env:=by rfl) (hpl:(CT pos (As es X.env)).any (·.1)=AF:=by rfl):PE X (.Call (.Name x p) (e::es) [] pos) (tCB r t):=by
 intro pins s σ H Q I h;refine Bu (P7 I hg hm hv ?_ hn hdb);exact KL (thn (ha pos pins s σ H _ I h) λus s1⟨vs,H1,I1,r1,q1⟩=>hc pins s1 σ H1 vs us Q I1 r1 q1) he hpl
def bx5(hc:z0 X (.type T) r)(hg:Gl X x)(hm:X.mg x=AE)(hv:BU x=AA (.type T))(ha:PA X (e::es) t)(hn:x≠"__name__":=by decide)(hdb:(x==("__debug__":Str))=AF:=by decide)
  (he:As (e::es) X.env=(AF,eval e X.env)::As es X.env:=by rfl) (hpl:(CT pos (As es X.env)).any (·.1)=AF:=by rfl):PE X (.Call (.Name x p) (e::es) [] pos) (tCB r t):=by
 intro pins s σ H Q I h;refine Bu (P7 I hg hm hv ?_ hn hdb);exact Bt (thn (ha pos pins s σ H _ I h) λus s1⟨vs,H1,I1,r1,q1⟩=>hc pins s1 σ H1 vs us Q I1 r1 q1) he hpl
end
end L2
namespace HT
open PySem PyProof.Rows
section
open PySem.SeqAt
open PySem.AutoSeq1 (wpAny_loadPart')
open PySem.MeetsSeq PySem.MeetsSeq2 PySem.MeetsSeq3
end
section
variable {prog:Aj} {w:BA} {A:BV} {E:AI->AL->Prop} {s:AL}
def cat_tup{t b:AM}{vs ws:List AI}{Q:AI->AL->Prop}(ht:KW s.heap t vs.toArray)(hb:KW s.heap b ws.toArray)(hv:vs≠[])
  (h1:ws=[]->Q (.ref t) s) (h2:ws≠[]->Q (.ref s.heap.objs.size) {s with heap:=s.heap.push {cls:=.type "tuple",data:=.seq (vs++ws).toArray}})
  (hsz:vs.length+ws.length<=sizeLine):AU (model prog w) A (Cv .Add (.ref t) (.ref b)) Q E s:=by
 obtain⟨⟨cls,dd,data,sl⟩,ho,hc,n,hd⟩:=id ht;obtain⟨⟨cls2,dd2,data2,sl2⟩,ho2,hc2,n2,hd2⟩:=id hb;simp only at hc hd hc2 hd2;subst hc hd hc2 hd2;have e:vs.toArray++ws.toArray=(vs++ws).toArray:=by simp
 by_cases hw:ws=[]
 ·exact IG ⟨_,ho,rfl⟩ ⟨_,ho2,rfl⟩ Gk Hi PySem.F.slot_tuple_add PySem.F.entry_tuple_add (PySem.F.args_tuple_add_2 _ _)
   (tuple_addW1 t b vs.toArray ws.toArray n n2 dd dd2 sl sl2 (by simpa using hv) (by simp[hw])) ⟨ho,ho2,h1 hw⟩
 ·refine IG ⟨_,ho,rfl⟩ ⟨_,ho2,rfl⟩ Gk Hi PySem.F.slot_tuple_add PySem.F.entry_tuple_add (PySem.F.args_tuple_add_2 _ _)
   (tuple_addW2 t b vs.toArray ws.toArray n n2 dd dd2 sl sl2 (by simpa using hv) (by simpa using hw) (by rw[Af,Af];exact hsz)) ⟨ho,ho2,?_⟩
  rw[e];exact h2 hw
abbrev sIx(n d:Nat):Option Int->Nat
 |none=>d
 |some v=>if v<0 then(v+(n:Int)).toNat else min v.toNat n
def cp4(n d:Nat)(hd:d<=n)(o:Option Int):sIx n d o<=n:=by
 cases o with
 |none=>exact hd
 |some v=>
  show(if v<0 then(v+(n:Int)).toNat else min v.toNat n)<=n
  by_cases hv:v<0
  ·rw[if_pos hv];lia
  ·rw[if_neg hv];exact EF _ _
def a01(v:Int)(n d:Nat):(if v<0 then max (v+(n:Int)) 0 else min v (n:Int))=((sIx n d (AA v):Nat):Int):=by
 show(if v<0 then max (v+(n:Int)) 0 else min v (n:Int))=(((if v<0 then(v+(n:Int)).toNat else min v.toNat n):Nat):Int)
 by_cases hv:v<0
 ·simp only[if_pos hv];lia
 ·simp only[if_neg hv];lia
def bu9(lo hi:Option Int)(n:Nat):Di lo hi 1 (n:Int)=(((sIx n 0 lo:Nat):Int),((sIx n n hi:Nat):Int)):=by
 have h1:¬((1:Int)<0):=by lia
 unfold Di;simp only[h1,if_false];refine Prod.ext ?_ ?_
 ·cases lo with
  |none=>rfl
  |some v=>exact a01 v n 0
 ·cases hi with
  |none=>rfl
  |some v=>exact a01 v n n
def bw7(i j:Nat):Cr (i:Int) (j:Int) 1=j-i:=by
 unfold Cr;have h1:(1:Int)>0:=by lia
 simp only[h1,if_true,Jx]
 split<;>lia
def ap7{v:AI}{o:Option Int}{Q:Option Int->AL->Prop}(p:Gm v o)(h:Q o s):AU (model prog w) A (Jy v) Q E s:=by
 cases p with
 |none=>exact Kh h
 |int i t=>exact slicePart_int h
def br9{sl:AM}{vl vu:AI}{lo hi:Option Int}{n:Nat}{Q:Int×Int×Nat->AL->Prop}(hs:s.heap.IsSliceOf sl vl vu .none)(pl:Gm vl lo)(pu:Gm vu hi)
  (h:Q (((sIx n 0 lo:Nat):Int),1,sIx n n hi-sIx n 0 lo) s):AU (model prog w) A (FJ (.ref sl) (pure (n:Int))) Q E s:=by
 obtain⟨os,hos,hcs,hds⟩:=id hs;unfold FJ Jz;refine AJ (AJ (CN hos hds (x:=vl) rfl (AJ (CN hos hds (x:=vu) rfl (AJ (CN hos hds (x:=.none) rfl (AQ ?_)))))));refine AJ (Kh ?_);show AU _ _ (if((1:Int)==0)=AC then _ else _) _ _ s;rw[if_neg ∅];refine AJ (ap7 pl (AJ (ap7 pu (AJ (AQ ?_)))));show AU _ _ (match Di lo hi 1 (n:Int)with|(lo,hi)=>pure (lo,(1:Int),Cr lo hi 1)) _ _ s;rw[bu9 lo hi n];show AU _ _ (pure (((sIx n 0 lo:Nat):Int),(1:Int),Cr ((sIx n 0 lo:Nat):Int) ((sIx n n hi:Nat):Int) 1)) _ _ s;rw[bw7];exact AQ h
def b72(xs:Array AI)(i k:Nat):((Da k).filterMap λ(m:Nat)=>xs[((i:Int)+(m:Int)*1).toNat]?).toArray=((xs.toList.drop i).take k).toArray:=by
 have e:(λ(m:Nat)=>xs[((i:Int)+(m:Int)*1).toNat]?)=λm=>xs[i+m]?:=by
  funext m
  have:((i:Int)+(m:Int)*1).toNat=i+m:=by lia
  rw[this]
 rw[e];have:=pick_run xs i k;rw[List.filterMap_map]at this;have e2:((λx=>xs[x]?)∘λx=>i+x)=λm=>xs[i+m]?:=rfl;rw[e2]at this;rw[this]
def getItem_tuple_cut{t sl:AM}{items:Array AI}{vl vu:AI}{lo hi:Option Int}{Q:AI->AL->Prop}(ht:KW s.heap t items)(hs:s.heap.IsSliceOf sl vl vu .none)(pl:Gm vl lo)(pu:Gm vu hi)
  (hw:¬(sIx items.size 0 lo=0/\sIx items.size items.size hi=items.size))
  (h:Q (.ref s.heap.objs.size) {s with heap:=s.heap.push {cls:=.type "tuple",data:=.seq ((items.toList.drop (sIx items.size 0 lo)).take (sIx items.size items.size hi-sIx items.size 0 lo)).toArray}})
  (hsz:items.size<=sizeLine):AU (model prog w) A (EG (.ref t) (.ref sl)) Q E s:=by
 have htake:sizeOk (.seq ((items.toList.drop (sIx items.size 0 lo)).take (sIx items.size items.size hi-sIx items.size 0 lo)).toArray):=by
  show((items.toList.drop (sIx items.size 0 lo)).take (sIx items.size items.size hi-sIx items.size 0 lo)).toArray.size<=sizeLine;rw[Af,Cs,Ap,Ey];lia
 have hj:sIx items.size items.size hi<=items.size:=cp4 _ _ (Ae _) hi;obtain⟨os,hos,hcs,hds⟩:=id hs;have hTs:s.TypeIs (.ref sl) "slice":=⟨os,hos,hcs⟩;unfold EG
 try with_reducible refine CM ?_
 first|refine AJ (AQ ?_)|skip
 refine AJ (Jd ht.typeIs ∅ ?_);refine AJ (DX (name:=AD "__getitem__") ht.typeIs DG
  (Cm DG ht.typeIs entry_tuple_getitem ?_ (args_tuple_getitem _ _)))
 show AU _ _ (DZ (.ref t)>>=_) _ _ s;refine AJ (tupleItemsOf_ ht ?_);refine AJ (wpAny_typeOf hTs ?_);rw[if_pos ∅];refine AJ (br9 hs pl pu ?_);have hno:¬((((sIx items.size 0 lo:Nat):Int)==0&&(1:Int)==1&&(sIx items.size items.size hi-sIx items.size 0 lo)==items.size)=AC):=by
  intro q;rw[Az,Az]at q;have q1:((sIx items.size 0 lo:Nat):Int)=0:=eq_of_beq q.1.1;have q2:sIx items.size items.size hi-sIx items.size 0 lo=items.size:=eq_of_beq q.2;exact hw ⟨⋯,⋯⟩
 show AU _ _ (if(((sIx items.size 0 lo:Nat):Int)==0&&(1:Int)==1&&(sIx items.size items.size hi-sIx items.size 0 lo)==items.size)=AC then _ else _) _ _ s;rw[if_neg hno,b72]
 first
  |exact AJ (m:=Ct _) (Bn (AQ ⟨_,rfl,AQ h⟩) htake)
  |exact AJ (m:=Ct _) (Bn (AJ (AQ (AQ ⟨_,rfl,AQ h⟩))) htake)
  |exact AJ (AJ (m:=Ct _) (Bn (AQ (AQ ⟨_,rfl,AQ h⟩)) htake))
  |exact AJ (AJ (m:=Ct _) (Bn (AQ ⟨_,rfl,AQ h⟩) htake))
end
end HT
namespace L2
open PySem PySem.Spec PyProof.Rows
@[reducible]noncomputable def TO:=St->Hp->(Option Int->Hp->Prop)->Prop
abbrev PO(X:Cx)(e:Option AR)(t:TO):Prop:=
 ∀(pins:List (AM×Obj))(s:AL)(σ:St)(H:Hp)(Q:Option Int->Hp->Prop),Inv X pins σ H s->t σ H Q ->
  AU (model X.prog X.w) X.A (evalPart e X.env) (λu s'=>∃o H',Inv X pins σ H' s'/\Gm u o/\Q o H') X.xe s
abbrev cf7:TO:=λ_ H Q=>Q AE H
abbrev cu9(t:TE):TO:=λσ H Q=>t σ H λx H1=>∃i,x=.int i/\Q (AA i) H1
def bv0{ns:List Int}:∀{us:List AI},c7 (ns.map V.int) us->GR us ns:=by
 induction ns with
 |nil=>intro us r;rw[BS]at r;cases r;exact .nil
 |cons n ns ih=>
  intro us r;rw[AV]at r;cases r with
  |cons r1 r2=>
   obtain⟨t,e⟩:=r1;subst e;exact .cons n t (ih r2)
section
variable {X:Cx} {e:AR} {te:TE} {lo hi:Option AR} {tl th:TO} {pos p2:Pos}
def ca3:PO X AE cf7:=by
 intro pins s σ H Q I h;rw[evalPart_none];exact AQ ⟨AE,H,I,.none,h⟩
def ce7(h:PE X e te):PO X (AA e) (cu9 te):=by
 intro pins s σ H Q I hw;rw[evalPart_some];refine thn (h pins s σ H _ I hw) λu s1 z22=>?_;obtain⟨x,H1,I1,r1,q1⟩:=z22;obtain⟨i,rfl,q⟩:=q1;obtain⟨t,rfl⟩:=r1;exact⟨AA i,H1,I1,.int i t,q⟩
abbrev SlR(X:Cx)(r:V->Option Int->Option Int->Hp->VK->Prop):Prop:=
 ∀(pins:List (AM×Obj))(s:AL)(σ:St)(H:Hp)(x:V)(v vl vu:AI)(lo hi:Option Int)(sl:AM)(Q:VK),Inv X pins σ H s->d3 x v->s.heap.IsSliceOf sl vl vu .none->Gm vl lo->Gm vu hi->r x lo hi H Q ->
  ∃T id,HX (.type T) "__getitem__"=pure (AA (.builtin id))/\s.TypeIs v T/\AU (model X.prog X.w) X.A (EG v (.ref sl)) (EP X pins σ Q) X.xe s
def SlR.or{r r':V->Option Int->Option Int->Hp->VK->Prop}(h:SlR X r)(h':SlR X r'):SlR X (λx lo hi H Q=>r x lo hi H Q\/r' x lo hi H Q):=by
 intro pins s σ H x v vl vu lo hi sl Q I rx hs pl pu q
 rcases q with q|q
 ·exact h pins s σ H x v vl vu lo hi sl Q I rx hs pl pu q
 ·exact h' pins s σ H x v vl vu lo hi sl Q I rx hs pl pu q
abbrev tSl(r:V->Option Int->Option Int->Hp->VK->Prop)(te:TE)(tl th:TO):TE:=λσ H Q=>te σ H λx H1=>tl σ H1 λl H2=>th σ H2 λu H3=>r x l u H3 Q
def au1{r:V->Option Int->Option Int->Hp->VK->Prop}(hr:SlR X r)(he:PE X e te)(hl:PO X lo tl)(hu:PO X hi th):PE X (.Subscript e (.Slice lo hi AE p2) pos) (tSl r te tl th):=by
 intro pins s σ H Q I h;refine JR (thn (he pins s σ H _ I h) λv s1 z23=>?_);obtain⟨x,H1,I1,r1,q1⟩:=z23;refine wpAny_Slice (thn (hl pins s1 σ H1 _ I1 q1) λvl s2⟨l,H2,I2,pl,q2⟩=>thn (hu pins s2 σ H2 _ I2 q2) λvu s3 z24=>?_);obtain⟨u,H3,I3,pu,q3⟩:=z24;rw[evalPart_none];refine AQ ?_;have I4:Inv X pins σ H3 {s3 with heap:=s3.heap.push {cls:=.type "slice",data:=.fields #[vl,vu,.none]}}:=I3.kept (t':=s3.toks) λb ob q=>AW _ q;obtain⟨T,id,hT,ht,hg⟩:=hr pins {s3 with heap:=s3.heap.push {cls:=.type "slice",data:=.fields #[vl,vu,.none]}} σ H3 x v vl vu l u s3.heap.objs.size Q I4 r1 (Je ..) pl pu q3;show AU (model X.prog X.w) X.A (GB e (.Slice lo hi AE p2) v (.ref s3.heap.objs.size)) (EP X pins σ Q) X.xe {s3 with heap:=s3.heap.push {cls:=.type "slice",data:=.fields #[vl,vu,.none]}};exact tail_any (ops:=[.ref s3.heap.objs.size,v]) ht hT hg (by with_unfolding_all rfl)
abbrev L4(xs:List V)(lo hi:Option Int):List V:=(xs.drop (HT.sIx xs.length 0 lo)).take (HT.sIx xs.length xs.length hi-HT.sIx xs.length 0 lo)
def ap2(xs:List V)(lo hi:Option Int):(L4 xs lo hi).length<=xs.length:=by
 unfold L4;rw[Cs,Ap];lia
abbrev cy5(K:AS):V->Option Int->Option Int->Hp->VK->Prop:=λx lo hi H Q=>∃a xs,x=.ref a/\SqT K H a xs /\
 ¬(HT.sIx xs.length 0 lo=0/\HT.sIx xs.length xs.length hi=xs.length)/\∀p,H p=AE->Q (.ref p) (upd H p (.tup (L4 xs lo hi)))
def ci1:SlR X (cy5 X.K):=by
 intro pins s σ H x v vl vu lo hi sl Q I rx hs pl pu h;obtain⟨a,xs,rfl,hx,hw,q⟩:=h;cases rx;obtain⟨its,r,ht,hz⟩:=I.tuple hx;have hlen:its.toArray.size=xs.length:=by rw[Af];exact r.length.symm
 refine⟨"tuple",_,DG.lookup,ht.typeIs,?_⟩;refine HT.getItem_tuple_cut ht hs pl pu (by rw[hlen];exact hw) ?_ (by rw[hlen];exact hz);rw[hlen];refine⟨.ref s.heap.objs.size,_,I.laid (t':=s.toks) (o:=.tup (L4 xs lo hi)) (λb ob q=>AW _ q) (Ae _) ?_,rfl,q _ (I.hok.fresh (Ae _))⟩;exact⟨Ag (ap2 xs lo hi) hz,_,(r.drop (HT.sIx xs.length 0 lo)).take (HT.sIx xs.length xs.length hi-HT.sIx xs.length 0 lo),A5.new _ _⟩
abbrev cs7(K:AS):R2:=λx y H Q=>∃a b xs ys,x=.ref a/\y=.ref b/\SqT K H a xs/\SqT K H b ys/\xs≠[]/\xs.length+ys.length<=sizeLine /\
 (ys=[]->Q (.ref a) H)/\(ys≠[]->∀p,H p=AE->Q (.ref p) (upd H p (.tup (xs++ys))))
def c7.nil_iff{xs:List V}{us:List AI}(r:c7 xs us):us=[]↔xs=[]:=by
 cases r with
 |nil=>simp
 |cons _ _=>simp
def cc3:OpR X (Cv .Add) (cs7 X.K):=by
 intro pins s σ H x y v u Q I rx ry h;obtain⟨a,b,xs,ys,rfl,rfl,ha,hb,hx,hz,q1,q2⟩:=h;cases rx;cases ry;obtain⟨its,r1,p1,_⟩:=I.tuple ha;obtain⟨its2,r2,p2,_⟩:=I.tuple hb;refine HT.cat_tup p1 p2 (λz=>hx (r1.nil_iff.mp z)) (λz=>⟨.ref a,H,I,rfl,q1 (r2.nil_iff.mp z)⟩) (λz=>?_) (by rw[<-r1.length,<-r2.length];exact hz);refine⟨.ref s.heap.objs.size,_,I.laid (t':=s.toks) (o:=.tup (xs++ys)) (λb ob q=>AW _ q) (Ae _) ?_,rfl,q2 (λw=>z (r2.nil_iff.mpr w)) _ (I.hok.fresh (Ae _))⟩;exact⟨by rw[AH];exact hz,_,r1.append r2,A5.new _ _⟩
end
variable{pins:List (AM×Obj)}{σ:St}{H:Hp}
abbrev ixN(n:Nat)(i:Int):Option Nat:=if 0<=i then(if i<n then AA i.toNat else AE)else if -(n:Int)<=i then AA (i+n).toNat else AE
abbrev atI{α:Type}(xs:List α)(i:Int):Option α:=(ixN xs.length i).bind λj=>xs[j]?
def ai5{n:Nat}{i:Int}{j:Nat}(h:ixN n i=AA j):KA i n=AA j/\j<n/\-(n:Int)<=i/\i<n:=by
 unfold ixN at h
 by_cases h0:0<=i
 ·rw[if_pos h0]at h
  by_cases h1:i<n
  ·rw[if_pos h1]at h;have e:i.toNat=j:=BC h;exact⟨by rw[Ih h0 h1,e],⋯,⋯,h1⟩
  ·rw[if_neg h1]at h;cases h
 ·rw[if_neg h0]at h
  by_cases h1:-(n:Int)<=i
  ·rw[if_pos h1]at h;have e:(i+n).toNat=j:=BC h;exact⟨by rw[IH ⋯ h1,e],⋯,h1,⋯⟩
  ·rw[if_neg h1]at h;cases h
def ai2{α:Type}{xs:List α}{i:Int}{v:α}(h:atI xs i=AA v):∃j,KA i xs.length=AA j/\xs[j]?=AA v/\j<xs.length/\-(xs.length:Int)<=i/\i<xs.length:=by
 unfold atI at h;cases e:ixN xs.length i with
 |none=>rw[e]at h;cases h
 |some j=>
  rw[e]at h;obtain⟨h1,h2,h3,h4⟩:=ai5 e;exact⟨j,h1,h,h2,h3,h4⟩
abbrev a52(b:AR):Prop:=∀o i,subscripted b AF o i=operate [o,i] (EG o i)
abbrev IxR(X:Cx)(r:R2):Prop:=
 ∀(value slice:AR)(pins:List (AM×Obj))(s:AL)(σ:St)(H:Hp)(x y:V)(v u:AI)(Q:VK),Inv X pins σ H s->d3 x v->d3 y u->r x y H Q ->
  subscripted slice AF v u=operate [v,u] (EG v u)->AU (model X.prog X.w) X.A (GB value slice v u) (EP X pins σ Q) X.xe s
abbrev MtR(X:Cx)(id:String)(r:V->List V->Hp->VK->Prop):Prop:=
 ∀(pins:List (AM×Obj))(s:AL)(σ:St)(H:Hp)(x:V)(xs:List V)(v:AI)(us:List AI)(Q:VK),Inv X pins σ H s->d3 x v->c7 xs us->r x xs H Q ->
  AU (model X.prog X.w) X.A (call (.builtin id) (v::us)) (EP X pins σ Q) X.xe s
section
variable {X:Cx} {a b:AR} {ta tb:TE} {pos:Pos}
def IxR.or{r r':R2}(h:IxR X r)(h':IxR X r'):IxR X (λx y H Q=>r x y H Q\/r' x y H Q):=by
 intro value slice pins s σ H x y v u Q I rx ry q hs
 rcases q with q|q
 ·exact h value slice pins s σ H x y v u Q I rx ry q hs
 ·exact h' value slice pins s σ H x y v u Q I rx ry q hs
def ct7{r:R2}(hr:IxR X r)(ha:PE X a ta)(hb:PE X b tb)(hs:a52 b):PE X (.Subscript a b pos) (tOp r ta tb):=by
 intro pins s σ H Q I h;exact JR (an6 ha hb I h λv u s2 x y H2 I2 rx ry q=>hr a b pins s2 σ H2 x y v u Q I2 rx ry q (hs _ _))
abbrev cz3(K:AS):R2:=λx y H Q=>∃p xs i v,x=.ref p/\y=.int i/\SqL K H p xs/\atI xs i=AA v/\Q v H
abbrev c27(K:AS):R2:=λx y H Q=>∃p xs i v,x=.ref p/\y=.int i/\SqT K H p xs/\atI xs i=AA v/\Q v H
abbrev cz2:R2:=λx y H Q=>∃z i c,x=.str z/\y=.int i/\z.length<=sizeLine/\atI z.cps.toList i=AA c/\Q (.str ⟨#[c]⟩) H
def cg0:IxR X (cz3 X.K):=by
 intro value slice pins s σ H x y v u Q I rx ry h hs;obtain⟨p,xs,i,z,rfl,rfl,hq,he,q⟩:=h;cases rx;obtain⟨t,rfl⟩:=ry;obtain⟨its,r,pl,hz⟩:=I.list hq;obtain⟨j,h1,h2,h3,h4,h5⟩:=ai2 he;obtain⟨w,ew,rw'⟩:=r.get h2;have hl:=r.length;have hn:=Q5;have fin:EP X pins σ Q w s:=⟨z,H,I,rw',q⟩
 by_cases h0:0<=i
 ·have hj:i.toNat=j:=by
   rw[Ih h0 h5]at h1;exact BC h1
  exact item_listR pl.isList h0 ⋯ (by rw[hj];simpa using ew) fin hs
 ·have hj:(i+(its.toArray.size:Int)).toNat=j:=by
   rw[IH ⋯ h4]at h1;rw[Af,<-hl];exact BC h1
  exact II (x:=w) pl.isList.typeIs Jf.lookup
   (wpAny_getItem_list_neg (Q:=λr s'=>r=w/\EP X pins σ Q r s') pl.isList ⋯ (by rw[Af]<;>lia) ⋯ (by rw[hj];simpa using ew) ⟨rfl,fin⟩) hs
def ci9:IxR X (c27 X.K):=by
 intro value slice pins s σ H x y v u Q I rx ry h hs;obtain⟨p,xs,i,z,rfl,rfl,hq,he,q⟩:=h;cases rx;obtain⟨t,rfl⟩:=ry;obtain⟨its,r,pl,hz⟩:=I.tuple hq;obtain⟨j,h1,h2,h3,h4,h5⟩:=ai2 he;obtain⟨w,ew,rw'⟩:=r.get h2;have hl:=r.length;have hn:=Q5;have fin:EP X pins σ Q w s:=⟨z,H,I,rw',q⟩;exact II (x:=w) pl.typeIs slot_tuple_getitem.lookup
  (getItem_tuple (j:=j) (Q:=λr s'=>r=w/\EP X pins σ Q r s') pl ⋯ ⋯ (by rw[Af,<-hl];exact h1) (by simpa using ew) ⟨rfl,fin⟩) hs
def cj5:IxR X cz2:=by
 intro value slice pins s σ H x y v u Q I rx ry h hs;obtain⟨z,i,c,rfl,rfl,hz,he,q⟩:=h;obtain⟨t,rfl⟩:=rx;obtain⟨t',rfl⟩:=ry;obtain⟨j,h1,h2,h3,h4,h5⟩:=ai2 he;have hl:z.cps.toList.length=z.length:=by simp[Ki]
 rw[hl]at h1 h4 h5;have hn:=Q5;exact tail_any (Ez s z t) slot_str_getitem.lookup (getItem_str (c:=c) (by
  have e1:AB (i < -(2^63:Int))=AF:=decide_eq_false ⋯;have e2:AB (i>=2^63)=AF:=decide_eq_false ⋯;rw[e1,e2,Bq]) (by rw[h1];simpa using h2) ⟨.str ⟨#[c]⟩,H,I.tok _,⟨_,rfl⟩,q⟩) hs
def bv8(its:List AI)(n j:Nat)(u:AI):Eh (·.setIfInBounds j u) {cls:=.type "list",data:=.seq its.toArray n}={cls:=.type "list",data:=.seq (its.set j u).toArray n}:=by
 simp[Eh]
theorem Inv.lst{s:AL}{p:AM}{xs:List V}(I:Inv X pins σ H s)(h:H p=AA (.lst xs)):
  ∃(its:List AI)(n:Nat),c7 xs its/\s.heap.get? p=AA {cls:=.type "list",data:=.seq its.toArray n}/\xs.length<=sizeLine:=by
 obtain⟨z,its,n,r,e⟩:=I.hok p _ h;exact⟨its,n,r,e,z⟩
def Inv.lstUpd{s:AL}{p:AM}{xs ys:List V}{its its':List AI}{n n':Nat}{f:Obj->Obj}(I:Inv X pins σ H s)(h:H p=AA (.lst xs))
  (ho:s.heap.get? p=AA {cls:=.type "list",data:=.seq its.toArray n}) (hf:f {cls:=.type "list",data:=.seq its.toArray n}={cls:=.type "list",data:=.seq its'.toArray n'}) (r:c7 ys its') (hz:ys.length<=sizeLine) (t:Nat) :
  Inv X pins σ (upd H p (.lst ys)) {s with heap:=s.heap.update p f,toks:=t}:=by
 have e:(s.heap.update p f).get? p=AA {cls:=.type "list",data:=.seq its'.toArray n'}:=by
  rw[Eu f ho (by rw[hf]<;>rfl),hf]
 refine I.write (x:=p) (e:=p) (by rw[h];trivial) (.inl rfl) (λb u hb q=>(Cc _ _ (BD hb)).trans q) ⟨_,e⟩ ?_;exact⟨hz,its',n',r,e⟩
abbrev cx1:V->V->V->Hp->(Hp->Prop)->Prop:=λo i v H Q=>∃p xs k j,o=.ref p/\i=.int k/\H p=AA (.lst xs)/\ixN xs.length k=AA j/\Q (upd H p (.lst (xs.set j v)))
def b14:bq7 X cx1:=by
 intro pins s σ H o i v ov iv u Q I ro ri rv h;obtain⟨p,xs,k,j,rfl,rfl,hp,hj,q⟩:=h;cases ro;obtain⟨t,rfl⟩:=ri;obtain⟨its,n,r,ho,hz⟩:=I.lst hp;obtain⟨h1,h2,h3,h4⟩:=ai5 hj;have hl:=r.length;have hn:=Q5;have I':Inv X pins σ (upd H p (.lst (xs.set j v))) {s with heap:=s.heap.update p (Eh (·.setIfInBounds j u))}:=
  I.lstUpd hp ho (bv8 its n j u) (r.set rv j) (by rw[Ii];exact hz) s.toks
 by_cases h0:0<=k
 ·have hk:k.toNat=j:=by
   rw[Ih h0 h4]at h1;exact BC h1
  exact W.ki_setAt ho h0 ⋯ (by rw[Af,<-hl];exact h4) (by rw[hk];exact⟨_,I',q⟩)
 ·have hk:(k+(its.toArray.size:Int)).toNat=j:=by
   rw[IH ⋯ h3]at h1;rw[Af,<-hl];exact BC h1
  exact W.ki_setBack ho ⋯ (by rw[Af,<-hl];exact h3) ⋯ (by rw[hk];exact⟨_,I',q⟩)
def bs7(lo hi:Option Int)(n:Nat):(Du lo hi AE n).1=((HT.sIx n 0 lo:Nat):Int)/\(Du lo hi AE n).2.1=((HT.sIx n n hi:Nat):Int)/\(Du lo hi AE n).2.2=1:=by
 refine⟨?_,?_,rfl⟩
 ·cases lo with
  |none=>simp[Du,HT.sIx]
  |some i=>
   simp only[Du,HT.sIx,Hy,show(1:Int)>0 by decide,if_true]
   by_cases h:i<0
   ·simp only[h,if_true]<;>lia
   ·simp only[h,if_false]<;>lia
 ·cases hi with
  |none=>simp[Du,HT.sIx]
  |some i=>
   simp only[Du,HT.sIx,Hy,show(1:Int)>0 by decide,if_true]
   by_cases h:i<0
   ·simp only[h,if_true]<;>lia
   ·simp only[h,if_false]<;>lia
def bs5(its:List AI)(lo hi:Option Int):slicePick its.toArray lo hi AE=((its.drop (HT.sIx its.length 0 lo)).take (HT.sIx its.length its.length hi-HT.sIx its.length 0 lo)).toArray:=by
 obtain⟨h1,h2,h3⟩:=bs7 lo hi its.toArray.size;unfold slicePick;rw[h1,h2,h3];simp only[sliceRange_one,pick_run,Af]<;>rfl
abbrev c03(K:AS):V->Option Int->Option Int->Hp->VK->Prop:=λx lo hi H Q=>∃a xs,x=.ref a/\SqL K H a xs/\∀p,H p=AE->Q (.ref p) (upd H p (.lst (L4 xs lo hi)))
def b95:SlR X (c03 X.K):=by
 intro pins s σ H x v vl vu lo hi sl Q I rx hs pl pu h;obtain⟨a,xs,rfl,hx,q⟩:=h;cases rx;obtain⟨its,r,ht,hz⟩:=I.list hx;have hlen:=r.length;refine⟨"list",_,Jf.lookup,ht.isList.typeIs,?_⟩;refine wpAny_getItem_list_slice ht.isList hs pl pu .none ∎ ?_ (by rw[Af]<;>lia);rw[bs5,<-hlen];refine⟨.ref s.heap.objs.size,_,I.laid (t':=s.toks) (o:=.lst (L4 xs lo hi)) (λb ob q=>AW _ q) (Ae _) ?_,rfl,q _ (I.hok.fresh (Ae _))⟩;exact⟨Ag (ap2 xs lo hi) hz,_,0,(r.drop (HT.sIx xs.length 0 lo)).take (HT.sIx xs.length xs.length hi-HT.sIx xs.length 0 lo),BN _ rfl⟩
def bt2:z0 X (.builtin "len") (λxs H Q=>∃p ys,xs=[.ref p]/\(SqL X.K H p ys\/SqT X.K H p ys)/\Q (.int ys.length) H):=by
 intro pins s σ H xs us Q I r h;obtain⟨p,ys,rfl,hq,q⟩:=h;obtain⟨u,rfl,rx⟩:=J4 r;cases rx;have hn:=Q5
 rcases hq with hq|hq
 ·obtain⟨its,r',pl,hz⟩:=I.list hq;have hlen:=r'.length;exact Calls.call_len_list pl.isList (by simp only[Af]<;>lia) ⟨.int ys.length,H,I.tok _,⟨s.toks+1,by rw[Af,hlen]⟩,q⟩
 ·obtain⟨its,r',pl,hz⟩:=I.tuple hq;have hlen:=r'.length;exact len_tuple pl (by simp only[Af]<;>lia) ⟨.int ys.length,H,I.tok _,⟨s.toks+1,by rw[Af,hlen]⟩,q⟩
def bt5:z0 X (.builtin "len") (λxs H Q=>∃z,xs=[.str z]/\z.length<=sizeLine/\Q (.int z.length) H):=by
 intro pins s σ H xs us Q I r h;obtain⟨z,rfl,hz,q⟩:=h;obtain⟨u,rfl,t,rfl⟩:=J4 r;have hn:=Q5;exact len_str ⋯ ⟨.int z.length,H,I.tok _,⟨_,rfl⟩,q⟩
def bs4:z0 X (.type "tuple") (λxs H Q=>∃p ys,xs=[.ref p]/\((SqL X.K H p ys/\∀l,H l=AE->Q (.ref l) (upd H l (.tup ys)))\/(SqT X.K H p ys/\Q (.ref p) H))):=by
 intro pins s σ H xs us Q I r h;obtain⟨p,ys,rfl,h⟩:=h;obtain⟨u,rfl,rx⟩:=J4 r;cases rx
 rcases h with⟨hq,q⟩|⟨hq,q⟩
 ·obtain⟨its,r',pl,hz⟩:=I.list hq;have hlen:=r'.length;refine call_tuple_list pl.isList (λh' kp=>?_) (by simp only[Af]<;>lia);have I1:Inv X pins σ H {s with heap:=h'}:=I.kept (t':=s.toks) kp;have I2:Inv X pins σ (upd H h'.objs.size (.tup ys)) {s with heap:=h'.push {cls:=.type "tuple",data:=.seq its.toArray}}:=
   I1.laid (t':=s.toks) (λb o e=>AW _ e) (Ae _) (show i9 X.prog X.w _ _ _ (.tup ys) from⟨hz,its,r',A5.new _ _⟩)
  exact⟨.ref h'.objs.size,_,I2,rfl,q _ (I1.hok.fresh (Ae _))⟩
 ·obtain⟨its,r',pl,hz⟩:=I.tuple hq;exact call_tuple_same pl ⟨.ref p,H,I,rfl,q⟩
abbrev tyV(K:AS)(T:String)(x:V)(H:Hp):Prop:=match x with
 |.str _=>T="str"
 |.int _=>T="int"
 |.ref p=>(T="list"/\∃xs,SqL K H p xs)\/(T="tuple"/\∃o,K.lookup p=AA o/\o.cls=.type "tuple"/\o.dict=AE)\/
   (T="dict"/\((∃kvs,H p=AA (.dK kvs))\/∃kvs,H p=AA (.dT kvs)))\/(T="set"/\∃S n,H p=AA (.set S n))
 |_=>False
def bd1{s:AL}{T:String}{x:V}{v:AI}(I:Inv X pins σ H s)(r:d3 x v)(ty:tyV X.K T x H):
  s.TypeIs v T/\∀a,v=.ref a->∃ob,s.heap.get? a=AA ob/\ob.dict=AE:=by
 cases x with
 |str z=>
  obtain⟨t,rfl⟩:=r;cases(show T="str" from ty);exact⟨Ez s z t,λ_ e=>nomatch e⟩
 |int i=>
  obtain⟨t,rfl⟩:=r;cases(show T="int" from ty);exact⟨JS s i t,λ_ e=>nomatch e⟩
 |ref p=>
  cases r
  rcases ty with⟨rfl,xs,hq⟩|⟨rfl,o,hk,hc,hd⟩|⟨rfl,hk⟩|⟨rfl,S,n,hk⟩
  ·obtain⟨its,_,pl,_⟩:=I.list hq;refine⟨pl.isList.typeIs,λa e=>?_⟩;cases e;obtain⟨o,n,e,c,hd,_⟩:=pl;exact⟨o,e,hd⟩
  ·refine⟨⟨o,I.kIn p o hk,hc⟩,λa e=>?_⟩;cases e;exact⟨o,I.kIn _ o hk,hd⟩
  ·have z:∃o,s.heap.get? p=AA o/\o.ExactDict:=by
    rcases hk with⟨kvs,hk⟩|⟨kvs,hk⟩
    ·obtain⟨_,_,_,_,o,_,_,e,ex,_⟩:=I.hok p _ hk;exact⟨o,e,ex⟩
    ·obtain⟨_,_,_,_,o,_,_,e,ex,_⟩:=I.hok p _ hk;exact⟨o,e,ex⟩
   obtain⟨o,e,ex⟩:=z;refine⟨⟨o,e,ex.1⟩,λa e2=>?_⟩;cases e2;exact⟨o,e,ex.2.1⟩
  ·obtain⟨o,_,_,_,e,ex,_⟩:=I.hok p _ hk;refine⟨⟨o,e,ex.1⟩,λa e2=>?_⟩;cases e2;exact⟨o,e,ex.2.1⟩
 |_=>exact Aa ty
abbrev c23(K:AS)(T:String)(r:V->List V->Hp->VK->Prop)(to:TE):TE:=λσ H Q=>to σ H λx H1=>tyV K T x H1/\r x [] H1 Q
abbrev tBM(K:AS)(T:String)(r:V->List V->Hp->VK->Prop)(to:TE)(t:TA):TE:=λσ H Q=>to σ H λx H1=>tyV K T x H1/\t σ H1 λxs H2=>r x xs H2 Q
variable {o e:AR} {es:List AR} {to:TE} {t:TA} {name:Str} {apos cpos:Pos} {T id:String} {r:V->List V->Hp->VK->Prop}
def cl1(pa:PlainAttrs T)(slot:Slot T name id)(hty:Kj (.builtin id)=pure (.type "method_descriptor"))(hm:MtR X id r)(ho:PE X o to)
  (hbase:Cf o name X.env (eval o X.env)=eval o X.env:=by rfl) (hline:(apos.endLine==cpos.line)=AC:=by rfl):PE X (.Call (.Attribute o name apos) [] [] cpos) (c23 X.K T r to):=by
 intro pins s σ H Q I h;refine wpAny_Call_method0_late hbase hline (thn (ho pins s σ H _ I h) λv s1 z25=>?_);obtain⟨x,H1,I1,r1,ty,q1⟩:=z25;obtain⟨h1,h2⟩:=bd1 I1 r1 ty;exact⟨T,id,pa,slot,hty,h1,h2,Cj rfl (PySem.evalArgs_none (hm pins s1 σ H1 x [] v [] Q I1 r1 .nil q1))⟩
def cw2(pa:PlainAttrs T)(slot:Slot T name id)(hty:Kj (.builtin id)=pure (.type "method_descriptor"))(hm:MtR X id r)(ho:PE X o to)(ha:PA X (e::es) t)
  (hbase:Cf o name X.env (eval o X.env)=eval o X.env:=by rfl)
  (hfew:((CT cpos (As (e::es) X.env)).all (λx=>!x.1)&&(FY cpos (Dv [] X.env)).all (λx=>x.1.isSome)
   &&AB ((e::es).length+([]:List Fj).length+(if([]:List Fj).isEmpty then 0 else 1)<30))=AC:=by rfl)
  (hline:(apos.endLine==cpos.line)=AC:=by rfl) (hs:As (e::es) X.env=(AF,eval e X.env)::As es X.env:=by rfl) (hplain:(CT cpos (As es X.env)).any (·.1)=AF:=by rfl) :
  PE X (.Call (.Attribute o name apos) (e::es) [] cpos) (tBM X.K T r to t):=by
 intro pins s σ H Q I h;refine IJ hbase hfew hline rfl (thn (ho pins s σ H _ I h) λv s1 z26=>?_);obtain⟨x,H1,I1,r1,ty,q1⟩:=z26;obtain⟨h1,h2⟩:=bd1 I1 r1 ty;refine⟨T,id,pa,slot,hty,h1,h2,?_⟩;have hA:=ha cpos pins s1 σ H1 _ I1 q1;rw[hs]at hA ⊢;refine Cj (by show(AF||(CT cpos (As es X.env)).any (·.1))=AF;rw[hplain]<;>rfl) (Dj ?_);exact thn hA λus s2⟨vs,H2,I2,r2,q2⟩=>hm pins s2 σ H2 x vs v us Q I2 r1 r2 q2
end
end L2
namespace L2
open PySem PySem.Spec PyProof.Rows
variable{us:List AI}{xs:List V}
abbrev MtM(X:Cx)(id:String)(r:V->List V->Hp->VK->Prop):Prop:=
 ∀(pins:List (AM×Obj))(s:AL)(σ:St)(H:Hp)(x:V)(xs:List V)(v:AI)(us:List AI)(Q:VK),Inv X pins σ H s->d3 x v->c7 xs us->r x xs H Q ->
  AU (model X.prog X.w) X.A (call (.builtin id) (v::us)) (EP X pins σ Q) X.xe s
def c7.one:∀{x:V}{us:List AI},c7 [x] us->∃u,us=[u]/\d3 x u
 |_,_,.cons r .nil=>⟨_,rfl,r⟩
def c7.two{x y:V}(h:c7 [x,y] us):∃u v,us=[u,v]/\d3 x u/\d3 y v:=by
 cases h with|cons r t=>cases t with|cons q t=>cases t;exact⟨_,_,rfl,r,q⟩
def c7.zero:∀{us:List AI},c7 [] us->us=[]
 |_,.nil=>rfl
theorem c7.dropLast(h:c7 xs us):c7 xs.dropLast us.dropLast:=by
 induction h with
 |nil=>exact .nil
 |cons r t ih=>
  cases t with
  |nil=>exact .nil
  |cons q t'=>exact .cons r ih
theorem c7.eraseIdx:∀{xs:List V}{us:List AI}(i:Nat),c7 xs us->c7 (xs.eraseIdx i) (us.eraseIdx i)
 |_,_,_,.nil=>.nil
 |_,_,0,.cons _ t=>t
 |_,_,i+1,.cons r t=>.cons r (c7.eraseIdx i t)
theorem c7.rep(h:c7 xs us):∀k:Nat,c7 (Ah k xs).flatten (Ah k us).flatten
 |0=>.nil
 |k+1=>by
  rw[DE,DE,DH,DH];exact c7.append h (c7.rep h k)
def bv4{α:Type}(l:List α):l.eraseIdx (l.length-1)=l.dropLast:=by
 induction l with
 |nil=>rfl
 |cons a r ih=>
  cases r with
  |nil=>rfl
  |cons b r=>
   have e:(a::b::r).length-1=((b::r).length-1)+1:=by
    have h1:(a::b::r).length=r.length+2:=rfl;have h2:(b::r).length=r.length+1:=rfl;lia
   rw[e,List.eraseIdx_cons_succ,ih]
   all_goals rfl
theorem as5{α:Type}:∀(l:List α)(i:Nat),(l.eraseIdx i).length<=l.length
 |[],_=>Ae _
 |_::_,0=>HG _
 |_::r,i+1=>CK (as5 r i)
theorem ag1(its:List AI):∀(k:Nat)(acc:List AI),
  FN (λx1 x2=>x1++x2) acc.toArray (Ah k its.toArray)=(acc++(Ah k its).flatten).toArray
 |0,acc=>by simp
 |k+1,acc=>by
  have e:acc.toArray++its.toArray=(acc++its).toArray:=by simp
  have e2:(acc++its)++(Ah k its).flatten=acc++(Ah (k+1) its).flatten:=by
   rw[DE,DH,AY]
  rw[<-e2,<-ag1 its k (acc++its),<-e,DE,Ij]
section
variable {X:Cx} {pins:List (AM×Obj)} {σ:St} {H:Hp} {s:AL} {l b:AM} {ys zs:List V}
def Inv.lset{its its':List AI}{n:Nat}{f:Array AI->Array AI}{t':Nat}(I:Inv X pins σ H s)(hH:H l=AA (.lst xs))
  (e:s.heap.get? l=AA {cls:=.type "list",data:=.seq its.toArray n}) (hf:f its.toArray=its'.toArray) (hv:c7 ys its') (hz:ys.length<=sizeLine) :
  Inv X pins σ (upd H l (.lst ys)) {s with heap:=s.heap.update l (Eh f),toks:=t'}:=by
 have q:=PySem.IsL.update e f;rw[hf]at q;refine I.write (x:=l) (e:=l) (by rw[hH];exact trivial) (.inl rfl) (λb' u hb hu=>(Cc s.heap (Eh f) (BD hb)).trans hu) ⟨_,q⟩ ?_;exact⟨hz,its',_,hv,q⟩
def Inv.lnew{its:List AI}{t':Nat}(I:Inv X pins σ H s)(hv:c7 ys its)(hz:ys.length<=sizeLine):
  Inv X pins σ (upd H s.heap.objs.size (.lst ys)) {s with heap:=s.heap.push {cls:=.type "list",data:=.seq its.toArray},toks:=t'}:=
 I.laid (λ_ _ q=>AW _ q) (Ae _) ⟨hz,its,0,hv,BN _ rfl⟩
theorem Inv.fresh(I:Inv X pins σ H s):H s.heap.objs.size=AE:=I.hok.fresh (Ae _)
def Inv.lstM(I:Inv X pins σ H s)(hH:H l=AA (.lst xs)):xs.length<=sizeLine/\∃(its:List AI)(n:Nat),c7 xs its/\xs.length=its.length/\s.heap.get? l=AA {cls:=.type "list",data:=.seq its.toArray n}:=by
 obtain⟨z,its,n,r,e⟩:=I.hok l _ hH;exact⟨z,its,n,r,r.length,e⟩
def aw0{n:Nat}(h:n<=sizeLine):CI n=AF:=by
 unfold CI;exact decide_eq_false ⋯
end
section
variable {X:Cx}
abbrev b85:V->List V->Hp->VK->Prop:=λx vs H Q=>∃l xs y,x=.ref l/\vs=[y]/\H l=AA (.lst xs)/\xs.length<sizeLine/\Q .non (upd H l (.lst (xs++[y])))
def ar4:MtM X "list.append" b85:=by
 intro pins s σ H x vs v us Q I rx rv h;obtain⟨l,xs,y,rfl,rfl,hH,hz,q⟩:=h;cases rx;obtain⟨u,rfl,ru⟩:=rv.one;obtain⟨z,its,n,r,hl,e⟩:=I.lstM hH;refine DU F.slot_list_append ⟨_,e,rfl⟩ F.entry_list_append (F.args_list_append_2 _ _) (PySem.list_append l its.toArray n u (by rw[Af];lia)) ⟨e,?_⟩;refine⟨.non,_,I.lset (its':=its++[u]) hH e ∎ (r.append (.cons ru .nil)) ?_,rfl,q⟩;rw[AH,Bw];lia
abbrev a44:V->List V->Hp->VK->Prop:=λx vs H Q=>∃l b xs zs,x=.ref l/\vs=[.ref b]/\H l=AA (.lst xs)/\H b=AA (.lst zs)/\xs.length+zs.length<=sizeLine/\Q .non (upd H l (.lst (xs++zs)))
def bz7:MtM X "list.extend" a44:=by
 intro pins s σ H x vs v us Q I rx rv h;obtain⟨l,b,xs,zs,rfl,rfl,hH,hB,hz,q⟩:=h;cases rx;obtain⟨u,rfl,ru⟩:=rv.one;cases ru;obtain⟨z,its,n,r,hl,e⟩:=I.lstM hH;obtain⟨z2,its2,n2,r2,hl2,e2⟩:=I.lstM hB;have hsz:its.toArray.size+its2.toArray.size<=sizeLine:=by rw[Af,Af];lia
 have hlong:¬(!its.toArray.isEmpty&&CI (its.toArray.size+its2.toArray.size))=AC:=by
  rw[aw0 hsz,JC];exact AK
 refine DU Ik ⟨_,e,rfl⟩ IU (IK _ _)
  (AutoSeq1.list_extend_list_list_0 l its.toArray n b its2.toArray n2 hlong (by rw[Af];lia) ⋯) ⟨e,e2,?_⟩
 refine⟨.non,_,I.lset (its':=its++its2) hH e ∎ (r.append r2) ?_,rfl,q⟩;rw[AH];lia
abbrev c11:V->List V->Hp->VK->Prop:=λx vs H Q=>∃l xs y,x=.ref l/\vs=[]/\H l=AA (.lst xs)/\xs[xs.length-1]?=AA y/\Q y (upd H l (.lst xs.dropLast))
def ci8:MtM X "list.pop" c11:=by
 intro pins s σ H x vs v us Q I rx rv h;obtain⟨l,xs,y,rfl,rfl,hH,hy,q⟩:=h;cases rx;have hus:=rv.zero;subst hus;obtain⟨z,its,n,r,hl,e⟩:=I.lstM hH;obtain⟨u,hu,ru⟩:=r.get hy;have hy':its.toArray[its.toArray.size-1]?=AA u:=by
  show its.toArray[its.length-1]?=AA u;rw[<-HJ,<-hl];exact hu
 refine DU Jg ⟨_,e,rfl⟩ JT (F.args_list_pop_1 _) (MeetsSeq.list_pop_last l its.toArray n u hy' (by rw[Af];lia)) ⟨e,?_⟩;refine⟨y,_,I.lset (its':=its.dropLast) hH e ?_ r.dropLast ?_,ru,q⟩
 ·show its.toArray.eraseIdxIfInBounds (its.toArray.size-1)=its.dropLast.toArray;rw[Af,Fq,bv4]
 ·rw[List.length_dropLast];lia
abbrev co6:V->List V->Hp->VK->Prop:=λx vs H Q=>∃l xs i k y,x=.ref l/\vs=[.int i]/\H l=AA (.lst xs)/\-(2^63)<=i/\i<2^63/\KA i xs.length=AA k/\xs[k]?=AA y/\Q y (upd H l (.lst (xs.eraseIdx k)))
def b57:MtM X "list.pop" co6:=by
 intro pins s σ H x vs v us Q I rx rv h;obtain⟨l,xs,i,k,y,rfl,rfl,hH,h1,h2,hk,hy,q⟩:=h;cases rx;obtain⟨u,rfl,ru⟩:=rv.one;obtain⟨t,rfl⟩:=ru;obtain⟨z,its,n,r,hl,e⟩:=I.lstM hH;obtain⟨w,hw,rw'⟩:=r.get hy;refine DU Jg ⟨_,e,rfl⟩ JT (F.args_list_pop_2 _ _)
  (MeetsSeq.list_pop_at l its.toArray n i t k w (fitsIndex_both h1 h2) (by rw[Af,<-hl];exact hk) (by rw[<-HJ];exact hw) (by rw[Af];lia)) ⟨e,?_⟩
 refine⟨y,_,I.lset (its':=its.eraseIdx k) hH e ?_ (r.eraseIdx k) ?_,rw',q⟩
 ·show its.toArray.eraseIdxIfInBounds k=(its.eraseIdx k).toArray;rw[Fq]
 ·have:=as5 xs k;lia
abbrev c30:R2:=λx y H Q=>∃l b xs zs,x=.ref l/\y=.ref b/\H l=AA (.lst xs)/\H b=AA (.lst zs)/\xs.length+zs.length<=sizeLine/\∀p,H p=AE->Q (.ref p) (upd H p (.lst (xs++zs)))
def cg5:OpR X (Cv .Add) c30:=by
 intro pins s σ H x y v u Q I rx ry h;obtain⟨l,b,xs,zs,rfl,rfl,hH,hB,hz,q⟩:=h;cases rx;cases ry;obtain⟨z,its,n,r,hl,e⟩:=I.lstM hH;obtain⟨z2,its2,n2,r2,hl2,e2⟩:=I.lstM hB;refine PySem.P.add_list e e2 ?_ (by rw[Af,Af];lia);have ea:its.toArray++its2.toArray=(its++its2).toArray:=by simp
 rw[ea];exact⟨.ref _,_,I.lnew (t':=s.toks) (r.append r2) (by rw[AH];lia),rfl,q _ I.fresh⟩
def az6{α:Type}(xs:List α)(k:Nat):(Ah k xs).flatten.length=k*xs.length:=by
 induction k with
 |zero=>simp
 |succ k ih=>rw[DE,DH,AH,ih,HY,KB]
end
end L2
namespace L2
open PySem PySem.Spec PyProof.Rows
variable{o:Option V}{u:AI}{y:V}{P:Aj}{H:Hp}{a:AM}{X:Cx}{pins:List (AM×Obj)}{σ:St}{A:BV}{Q:AI->AL->Prop}{pos:Pos}
section
variable {κ:Type} [DecidableEq κ]
abbrev k7(kvs:List (κ×V))(k:κ):Option V:=(kvs.find? λkv=>AB (kv.1=k)).map (·.2)
abbrev C2(kvs:List (κ×V))(k:κ)(v:V):List (κ×V):=
 if(kvs.any λkv=>AB (kv.1=k))=AC then kvs.map (λkv=>if kv.1=k then(kv.1,v)else kv)else kvs++[(k,v)]
def ag9{p:κ×V}{r:List (κ×V)}{k:κ}(e:p.1=k):k7 (p::r) k=AA p.2:=by simp[k7,DV,e]
def ah4{p:κ×V}{r:List (κ×V)}{k:κ}(e:¬p.1=k):k7 (p::r) k=k7 r k:=by simp[k7,DV,e]
theorem aw2(k:κ):∀kvs:List (κ×V),(kvs.any λkv=>AB (kv.1=k))=(k7 kvs k).isSome
 |[]=>rfl
 |p::r=>by
  rw[Cp]
  by_cases e:p.1=k
  ·simp only[ag9 e,decide_eq_true e,CB,Option.isSome_some]
  ·rw[ah4 e,decide_eq_false e,Bl];exact aw2 k r
def bu4(kvs:List (κ×V))(k:κ)(v:V):(C2 kvs k v).length<=kvs.length+1:=by
 unfold C2
 split
 ·rw[Am];lia
 ·rw[AH,AG,AN];lia
def b51{kvs:List (κ×V)}{k:κ}(v:V)(h:k7 kvs k=AE):C2 kvs k v=kvs++[(k,v)]:=by
 unfold C2;rw[aw2,h];exact if_neg ∅
def t6.isSome_eq{u:Option AI}(r:t6 o u):o.isSome=u.isSome:=by
 cases o with
 |none=>cases u with
  |none=>rfl
  |some _=>exact(show False from r).elim
 |some _=>cases u with
  |none=>exact(show False from r).elim
  |some _=>rfl
theorem t6.getD{u:Option AI}{d:V}{d':AI}(r:t6 o u)(rd:d3 d d'):d3 (o.getD d) (u.getD d'):=by
 cases o with
 |none=>cases u with
  |none=>exact rd
  |some _=>exact(show False from r).elim
 |some _=>cases u with
  |none=>exact(show False from r).elim
  |some _=>exact r
def KV.val{kvs:List (κ×V)}{vs:List (κ×AI)}(r:KV kvs vs)(k:κ):t6 (k7 kvs k) (GS vs k):=by
 unfold KV at r
 induction r with
 |nil=>exact Ck
 |@cons p q ps qs h t ih=>
  obtain⟨h1,h2⟩:=h
  by_cases e:p.1=k
  ·have e':q.1=k:=h1.symm.trans e;have b:GS (q::qs) k=AA q.2:=by simp[GS,DV,e']
   rw[ag9 e,b];exact h2
  ·have e':¬q.1=k:=λz=>e (h1.trans z);have b:GS (q::qs) k=GS qs k:=by simp[GS,DV,e']
   rw[ah4 e,b];exact ih
theorem KV.any{kvs:List (κ×V)}{vs:List (κ×AI)}(r:KV kvs vs)(k:κ):(kvs.any λkv=>AB (kv.1=k))=vs.any λkv=>AB (kv.1=k):=by
 unfold KV at r
 induction r with
 |nil=>rfl
 |cons h t ih=>rw[Cp,Cp,ih,h.1]
def KV.repl{kvs:List (κ×V)}{vs:List (κ×AI)}(r:KV kvs vs)(k:κ)(ry:d3 y u):
  KV (kvs.map λkv=>if kv.1=k then(kv.1,y)else kv) (vs.map λkv=>if kv.1=k then(kv.1,u)else kv):=by
 unfold KV at r ⊢
 induction r with
 |nil=>exact .nil
 |@cons p q ps qs h t ih=>
  rw[AV,AV];refine .cons ?_ ih;obtain⟨h1,h2⟩:=h
  by_cases e:p.1=k
  ·rw[if_pos e,if_pos (h1.symm.trans e)];exact⟨h1,ry⟩
  ·rw[if_neg e,if_neg (λz=>e (h1.trans z))];exact⟨h1,h2⟩
def KV.put{kvs:List (κ×V)}{vs:List (κ×AI)}(r:KV kvs vs)(k:κ)(ry:d3 y u):KV (C2 kvs k y) (stored vs k u):=by
 unfold C2 stored;rw[r.any k]
 by_cases e:(vs.any λkv=>AB (kv.1=k))=AC
 ·rw[if_pos e,if_pos e];exact r.repl k ry
 ·rw[if_neg e,if_neg e];exact Paired.snoc r ⟨rfl,ry⟩
end
def W5{w:BA}{k:Key}(r:d3 (kV k) u):(D2 P w).is k u=AC:=by
 cases k with
 |inl i=>obtain⟨t,e⟩:=(show ∃t,u=EL i t from r);subst e;exact bu3 P w i t
 |inr x=>obtain⟨t,e⟩:=(show ∃t,u=EM x t from r);subst e;exact bt6 P w x t
@[reducible]noncomputable def KT(H:Hp):List (Ax×V)->List (Ax×AM×AI)->Prop:=Paired λp q=>p.1=q.1/\O6 H p.1 q.2.1/\d3 p.2 q.2.2
def KT.val{kvs:List (Ax×V)}{xs:List (Ax×AM×AI)}(r:KT H kvs xs)(k:Ax):t6 (k7 kvs k) ((Il xs k).map (·.2)):=by
 induction r with
 |nil=>exact Ck
 |@cons p q ps qs h t ih=>
  obtain⟨h1,_,h2⟩:=h
  by_cases e:p.1=k
  ·have e':q.1=k:=h1.symm.trans e;have b:Il (q::qs) k=AA q.2:=by simp[Il,DV,e']
   rw[ag9 e,b];exact h2
  ·have e':¬q.1=k:=λz=>e (h1.trans z);have b:Il (q::qs) k=Il qs k:=by simp[Il,DV,e']
   rw[ah4 e,b];exact ih
section
variable {w:BA} {h:Ay} 
def v7{u:HO}(ok:HOk P w H h)(e:Rd H a u):i9 P w H h a u:=e.ok ok
def N8{kvs:List (Key×V)}(ok:HOk P w H h)(e:Rd H a (.dK kvs)):kvs.length<=sizeLine/\(a==DD)=AF/\∃vs,KV kvs vs/\h.DictOf (D2 P w) a vs:=
 show i9 P w H h a (.dK kvs) from v7 ok e
def cv6{kvs:List (Key×V)}(ok:HOk P w H h)(e:H a=AA (.dK kvs)):kvs.length<=sizeLine/\(a==DD)=AF/\∃vs,KV kvs vs/\h.DictOf (D2 P w) a vs:=N8 ok (.inl e)
def by3(ok:HOk P w H h):∀(n:Nat)(d:Ax),d.depth<=n->∀{v:V}{u:AI},HRd H d v->d3 v u->∃as,Reads h u d as:=by
 have all:∀n,(∀d:Ax,d.depth<=n->∀{v:V}{u:AI},HRd H d v->d3 v u->∃as,Reads h u d as)->∀(ds:List Ax),BE ds<=n->∀{vs:List V}{us:List AI},L7 H ds vs->c7 vs us->∃as,ReadsAll h us ds as:=λn ih ds=>by
  induction ds with
  |nil=>
   intro _ vs us q r;obtain rfl:vs=[]:=q;cases r;exact⟨_,.nil⟩
  |cons d ds ihd=>
   intro hd vs us q r;obtain⟨v,vr,rfl,q1,q2⟩:=q;have hd':max d.depth (BE ds)<=n:=hd;cases r with
   |cons r1 r2=>
    obtain⟨a1,x1⟩:=ih d ⋯ q1 r1;obtain⟨a2,x2⟩:=ihd ⋯ q2 r2;exact⟨_,.cons x1 x2⟩
 intro n
 induction n with
 |zero=>
  intro d hd v u q r;cases d with
  |int i=>obtain rfl:v=.int i:=q;obtain⟨t,rfl⟩:=(show ∃t,u=EL i t from r);exact⟨_,.int _ _⟩
  |str x=>obtain rfl:v=.str x:=q;obtain⟨t,rfl⟩:=(show ∃t,u=EM x t from r);exact⟨_,.str _ _⟩
  |tuple ds=>rw[NK.depth_tup]at hd;lia
  |none=>exact q.elim
  |bool _=>exact q.elim
  |list _=>exact q.elim
  |dict _=>exact q.elim
 |succ n ih=>
  intro d hd v u q r;cases d with
  |int i=>obtain rfl:v=.int i:=q;obtain⟨t,rfl⟩:=(show ∃t,u=EL i t from r);exact⟨_,.int _ _⟩
  |str x=>obtain rfl:v=.str x:=q;obtain⟨t,rfl⟩:=(show ∃t,u=EM x t from r);exact⟨_,.str _ _⟩
  |none=>exact q.elim
  |bool _=>exact q.elim
  |list _=>exact q.elim
  |dict _=>exact q.elim
  |tuple ds=>
   rw[NK.depth_tup]at hd;obtain⟨b,vs,rfl,q1,q2⟩:=q;cases(show u=At b from r);obtain⟨_,its,rv,o,h1,h2,_,m,h3⟩:=(show i9 P w H h b (.tup vs) from ok b _ q1);obtain⟨as,x⟩:=all n ih ds ⋯ q2 rv;exact⟨_,.tuple h1 h2 h3 (by simpa using x)⟩
def G9{k:Ax}(ok:HOk P w H h)(e:O6 H k a):(NK.dataKind P w).is h k a:=⟨e.1,e.2.1,by3 ok 7 k e.2.1 e.2.2 rfl⟩
def S0{kvs:List (Ax×V)}(ok:HOk P w H h)(e:Rd H a (.dT kvs)):kvs.length<=sizeLine/\(a==DD)=AF /\
  ∃xs,KT H kvs xs/\h.DictOfH (NK.dataKind P w) a xs:=by
 obtain⟨z,y,xs,r,o,es,ep,h1,h2,h3,h4,h5⟩:=(show i9 P w H h a (.dT kvs) from v7 ok e);refine⟨z,y,xs,r,o,es,ep,h1,h2,h3,h4,λx hx=>?_,h5⟩;have all:∀{l:List (Ax×V)}{m:List (Ax×AM×AI)},KT H l m->∀x∈m,(NK.dataKind P w).is h x.1 x.2.1:=by
  intro l m q
  induction q with
  |nil=>intro x hx;exact nomatch hx
  |@cons p q ps qs hq t ih=>
   intro x hx
   rcases AT.mp hx with e|hx
   ·subst e;exact G9 ok (by rw[<-hq.1];exact hq.2.1)
   ·exact ih x hx
 exact all r x hx
end
abbrev v9(H:Hp)(a:AM)(y:V)(r:Option V):Prop:=
 (∃kvs k,Rd H a (.dK kvs)/\y=kV k/\r=k7 kvs k)\/∃kvs k b,Rd H a (.dT kvs)/\y=.ref b/\O6 H k b/\r=k7 kvs k
theorem v9.k{kvs:List (Key×V)}{k:Key}(e:H a=AA (.dK kvs)):v9 H a (kV k) (k7 kvs k):=.inl ⟨kvs,k,.inl e,rfl,rfl⟩
section
variable {s:AL} {v:V} {r:AI} {E:AI->AL->Prop}
def Inv.big(I:Inv X pins σ H s):DD<s.heap.objs.size:=by
 have h:AO<s.heap.objs.size:=(I.mod.glob.keeps I.bk).lt;exact Nat.lt_trans ∅ h
def at3(hu:A.units+20<CO)(I:Inv X pins σ H s)(g:v9 H a y (AA v))(ry:d3 y u)(h:∀w' s',Inv X pins σ H s'->d3 v w'->Q w' s'):
  AU (model X.prog X.w) A (EG (.ref a) u) Q E s:=by
 rcases g with⟨kvs,k,e,ey,l⟩|⟨kvs,k,b,e,ey,eb,l⟩
 ·subst ey;obtain⟨z,hd,vs,rel,dd⟩:=N8 I.hok e;obtain⟨w',hw,rw'⟩:=t6.some_of (v:=v) (o:=GS vs k) (by rw[l];exact rel.val k);exact wpAny_getItem_of (W5 ry) dd.mapOf hw (h w' _ (I.tok _) rw')
 ·subst ey;cases(show u=At b from ry);obtain⟨z,hd,xs,rel,dd⟩:=S0 I.hok e;obtain⟨w',hw,rw'⟩:=t6.some_of (v:=v) (o:=(Il xs k).map (·.2)) (by rw[l];exact rel.val k);obtain⟨p,hp,hp2⟩:=Option.map_eq_some_iff.mp hw;refine wpAny_getItem_heap (NK.dataKind_room_in1 hu) (G9 I.hok eb) dd hp ?_;rw[hp2];exact h w' _ (I.tok _) rw'
def cx4(hu:A.units+20<CO)(I:Inv X pins σ H s)(g:v9 H a y o)(ry:d3 y u)(h:∀s',Inv X pins σ H s'->Q (.bool o.isSome) s'):
  AU (model X.prog X.w) A (Bc .In u (.ref a)) Q E s:=by
 rcases g with⟨kvs,k,e,ey,l⟩|⟨kvs,k,b,e,ey,eb,l⟩
 ·subst ey;obtain⟨z,hd,vs,rel,dd⟩:=N8 I.hok e;refine wpAny_in_of (W5 ry) hd dd.mapOf ?_;rw[<-(rel.val k).isSome_eq,<-l];exact h _ (I.tok _)
 ·subst ey;cases(show u=At b from ry);obtain⟨z,hd,xs,rel,dd⟩:=S0 I.hok e;refine wpAny_in_heap (NK.dataKind_room_in1 hu) (G9 I.hok eb) hd dd ?_;have q:=(rel.val k).isSome_eq;rw[Hj]at q;rw[<-q,<-l];exact h _ (I.tok _)
def cd8(hu:A.units+20<CO)(I:Inv X pins σ H s)(g:v9 H a y o)(ry:d3 y u)(h:∀s',Inv X pins σ H s'->Q (.bool (!o.isSome)) s'):
  AU (model X.prog X.w) A (Bc .NotIn u (.ref a)) Q E s:=by
 rcases g with⟨kvs,k,e,ey,l⟩|⟨kvs,k,b,e,ey,eb,l⟩
 ·subst ey;obtain⟨z,hd,vs,rel,dd⟩:=N8 I.hok e;refine wpAny_notIn_of (W5 ry) hd dd.mapOf ?_;rw[<-(rel.val k).isSome_eq,<-l];exact h _ (I.tok _)
 ·subst ey;cases(show u=At b from ry);obtain⟨z,hd,xs,rel,dd⟩:=S0 I.hok e;refine wpAny_notIn_heap (NK.dataKind_room_in1 hu) (G9 I.hok eb) hd dd ?_;have q:=(rel.val k).isSome_eq;rw[Hj]at q;rw[<-q,<-l];exact h _ (I.tok _)
def b89{h':Ay}{t':Nat}{ob:HO}(I:Inv X pins σ H s)(mu:Mut (H a))(hs:CQ a s.heap h')(he:∃q,h'.get? a=AA q)(new:i9 X.prog X.w (upd H a ob) h' a ob):
  Inv X pins σ (upd H a ob) {s with heap:=h',toks:=t'}:=
 I.write (x:=a) (e:=a) mu (.inl rfl) (λb q hb z=>(hs.2 b hb).trans z) he new
def cq3{w:BA}{H':Hp}{h':Ay}{kvs:List (Key×V)}{vs:List (Key×AI)}(z:kvs.length<=sizeLine)(hd:(a==DD)=AF)(rel:KV kvs vs)(dd:h'.DictOf (D2 P w) a vs):
  i9 P w H' h' a (.dK kvs):=⟨z,hd,vs,rel,dd⟩
end
abbrev bq1(i:AR):Prop:=∀ov iv,subscripted i AF ov iv=operate [ov,iv] (EG ov iv)
def ax4{prog:Aj}{w:BA}{E:AI->AL->Prop}{s:AL}{env:Env}{value slice:AR}{T id:String}
  (hl:HX (.type T) "__getitem__"=pure (AA (.builtin id))) (hs:bq1 slice)
  (h:AU (model prog w) A (eval value env) (λo s₁=>AU (model prog w) A (eval slice env) (λi s₂=>s₂.TypeIs o T/\AU (model prog w) A (EG o i) Q E s₂) E s₁) E s) :
  AU (model prog w) A (eval (.Subscript value slice pos) env) Q E s:=by
 refine JR (BP h (λo s₁ h₁=>BP h₁ (λi s₂ h₂=>?_) λ_ _ x=>x) λ_ _ x=>x);obtain⟨hT,h₂⟩:=h₂;unfold GB;refine AJ ?_;rw[IV hT.not_modules];refine AJ (DM hT hl ?_);have fin:AU (model prog w) A (subscripted slice AF o i) (λr s₃=>AU (model prog w) A (Kk value o r>>=λ_=>pure r) Q E s₃) E s₂:=by
  rw[hs o i];exact KM (BP h₂ (λr s₃ h₃=>AJ (Im (AQ h₃))) λ_ _ x=>x)
 first
  |exact AQ (AJ fin)
  |exact AJ (AQ (AJ fin))
  |exact AJ fin
def ap1{s:AL}(I:Inv X pins σ H s)(g:v9 H a y o):s.TypeIs (.ref a) "dict":=by
 rcases g with⟨kvs,k,e,_,_⟩|⟨kvs,k,b,e,_,_,_⟩
 ·obtain⟨_,_,vs,_,dd⟩:=N8 I.hok e;exact dd.typeIs
 ·obtain⟨_,_,xs,_,dd⟩:=S0 I.hok e;exact dd.typeIs
abbrev cu3(td ty:TE):TE:=λσ H Q=>td σ H λx H1=>ty σ H1 λy H2=>∃a v,x=.ref a/\v9 H2 a y (AA v)/\Q v H2
section
variable {o i e value:AR} {pos' tpos:Pos} {td ty tv:TE}
def b73(hu:X.A.units+20<CO)(ho:PE X o td)(hi:PE X i ty)(hs:bq1 i):PE X (.Subscript o i pos) (cu3 td ty):=by
 intro pins s σ H Q I h;refine ax4 PySem.F.slot_dict_getitem.lookup hs (thn (ho pins s σ H _ I h) λu s1⟨x,H1,I1,rx,q1⟩=>thn (hi pins s1 σ H1 _ I1 q1) λiv s2 z27=>?_);obtain⟨y,H2,I2,ry,a,v,ex,g,q2⟩:=z27;subst ex;obtain rfl:u=At a:=rx;exact⟨ap1 I2 g,at3 hu I2 g ry λw' s3 I3 rw'=>⟨v,H2,I3,rw',q2⟩⟩
end
def aw4{w:BA}(h:Ay)(hb:DD<h.objs.size):i9 P w H (h.push {cls:=.type "dict",data:=.dict #[]}) h.objs.size (.dK []):=
 ⟨An _,beq_eq_false_iff_ne.mpr (BD (Br hb)),[],.nil,Kl h⟩
abbrev ch7:TE:=λ_ H Q=>∀p,H p=AE->Q (.ref p) (upd H p (.dK []))
section
def b41:PE X (.Dict [] [] pos) ch7:=λpins s σ H Q I h=>
 wpAny_Dict_empty ⟨.ref s.heap.objs.size,_,I.laid (a:=s.heap.objs.size) (o:=.dK []) (t':=s.toks) (λ_ _ q=>AW _ q) (Ae _) (aw4 s.heap I.big),rfl,h _ (I.hok.fresh (Ae _))⟩
end
abbrev V0:List (TE×TE)->St->Hp->(List (V×V)->Hp->Prop)->Prop
 |[],_,H,Q=>Q [] H
 |(tk,tv)::r,σ,H,Q=>tk σ H λx H1=>tv σ H1 λy H2=>V0 r σ H2 λps H3=>Q ((x,y)::ps) H3
@[reducible]noncomputable def VV:List (V×V)->List (AI×AI)->Prop:=Paired λp q=>d3 p.1 q.1/\d3 p.2 q.2
abbrev PPs(X:Cx)(pos:Pos)(keys:List (Option AR))(values:List AR)(trs:List (TE×TE)):Prop:=
 ∀(pins:List (AM×Obj))(s:AL)(σ:St)(H:Hp)(Q:List (V×V)->Hp->Prop),Inv X pins σ H s->V0 trs σ H Q ->
  AU (model X.prog X.w) X.A (evalPairs (pairTrees keys values X.env pos)) (λvs s'=>∃ps H',Inv X pins σ H' s'/\VV ps vs/\Q ps H') X.xe s
def cc4:PPs X pos [] [] []:=λpins s σ H Q I h=>pairTrees_nil_walk ⟨[],H,I,.nil,h⟩
def b21{k v:AR}{ks:List (Option AR)}{vs:List AR}{tk tv:TE}{trs:List (TE×TE)}(hk:PE X k tk)(hv:PE X v tv)(hr:PPs X pos ks vs trs):
  PPs X pos (AA k::ks) (v::vs) ((tk,tv)::trs):=λpins s σ H Q I h=>
 pairTrees_cons_walk (thn (hk pins s σ H _ I h) λu s1⟨x,H1,I1,rx,q1⟩=>thn (hv pins s1 σ H1 _ I1 q1) λw2 s2⟨y,H2,I2,ry,q2⟩=>
  thn (hr pins s2 σ H2 _ I2 q2) λws s3⟨ps,H3,I3,rel,q3⟩=>⟨(x,y)::ps,H3,I3,.cons ⟨rx,ry⟩ rel,q3⟩)
abbrev D5(kvs more:List (Key×V)):List (Key×V):=more.foldl (λacc kv=>C2 acc kv.1 kv.2) kvs
def KV.merge:∀{more:List (Key×V)}{rs:List (Key×AI)}{kvs:List (Key×V)}{vs:List (Key×AI)},KV more rs->KV kvs vs->KV (D5 kvs more) (merged vs rs):=by
 intro more rs kvs vs r;unfold KV at r
 induction r generalizing kvs vs with
 |nil=>intro q;exact q
 |@cons p q ps qs h t ih=>
  intro r0;have e:KV (C2 kvs p.1 p.2) (stored vs q.1 q.2):=by
   have:=r0.put p.1 h.2;rw[<-h.1];exact this
  exact ih e
theorem ao6:∀(more kvs:List (Key×V)),(D5 kvs more).length<=kvs.length+more.length
 |[],kvs=>by show kvs.length<=kvs.length+0;lia
 |p::r,kvs=>by
  have h1:=ao6 r (C2 kvs p.1 p.2);have h2:=bu4 kvs p.1 p.2;show(D5 (C2 kvs p.1 p.2) r).length<=_;rw[AG];lia
theorem aq5{P:Aj}{w:BA}:∀{kvs:List (Key×V)}{ws:List (AI×AI)},VV (kvs.map λkv=>(kV kv.1,kv.2)) ws->∃rs,Carries (D2 P w) ws rs/\KV kvs rs
 |[],_,r=>by rw[BS]at r;cases r;exact⟨[],Ck,.nil⟩
 |p::kvs,_,r=>by
  rw[AV]at r;cases r with
  |@cons a b as bs h t=>
   obtain⟨rs,c,q⟩:=aq5 (P:=P) (w:=w) t;obtain⟨b1,b2⟩:=b;exact⟨(p.1,b2)::rs,⟨W5 h.1,rfl,c⟩,.cons ⟨rfl,h.2⟩ q⟩
abbrev cs9(trs:List (TE×TE)):TE:=λσ H Q=>∀p,H p=AE->V0 trs σ (upd H p (.dK [])) λps H2=>H2 p=AA (.dK [])/\∃kvs:List (Key×V),ps=kvs.map (λkv=>(kV kv.1,kv.2))/\kvs.length<=15/\Q (.ref p) (upd H2 p (.dK (D5 [] kvs)))
def a38{keys:List (Option AR)}{values:List AR}{trs:List (TE×TE)}(h:PPs X pos keys values trs)(hall:keys.all (·.isSome)=AC)(hl:keys.length=values.length)(h0:keys≠[])
  (h15:keys.length<=15):PE X (.Dict keys values pos) (cs9 trs):=by
 intro pins s σ H Q I q;have hn:=I.hok.fresh (Ae s.heap.objs.size);have I1:=I.laid (a:=s.heap.objs.size) (o:=.dK []) (h':=s.heap.push {cls:=.type "dict",data:=.dict #[]}) (t':=s.toks) (λ_ _ q=>AW _ q) (Ae _) (aw4 s.heap I.big);refine wpAny_Dict_walk (knd:=D2 X.prog X.w) hall hl h0 h15 (thn (h pins _ σ _ _ I1 (q _ hn)) λws s2 z28=>?_);obtain⟨ps,H2,I2,rel,e,kvs,ep,lk,q2⟩:=z28;subst ep;obtain⟨rs,c,rk⟩:=aq5 (P:=X.prog) (w:=X.w) rel;obtain⟨z,hd,vs0,r0,dd⟩:=cv6 I2.hok e;cases r0;refine⟨rs,c,dd,λh' dd' hs=>⟨.ref s.heap.objs.size,_,?_,rfl,q2⟩⟩;have hz:(D5 [] kvs).length<=sizeLine:=by
  have h1:=ao6 kvs [];rw[AN]at h1;rw[Ie];lia
 have he:∃q,h'.get? s.heap.objs.size=AA q:=let⟨q,_,_,hq,_⟩:=dd';⟨q,hq⟩;exact b89 I2 (by rw[e];exact Ck) hs he (cq3 hz hd (rk.merge .nil) dd')
structure M1(X:Cx)(o:AR)(m:Str)(apos:Pos)(e:AR)(cpos:Pos):Prop where
 base:Cf o m X.env (eval o X.env)=eval o X.env
 few:((CT cpos (As [e] X.env)).all (λx=>!x.1)&&(FY cpos (Dv [] X.env)).all (λx=>x.1.isSome)
  &&AB (([e]:List AR).length+([]:List Fj).length+(if([]:List Fj).isEmpty then 0 else 1)<30))=AC
 line:(apos.endLine==cpos.line)=AC
 trees:CT cpos (As [e] X.env)=[(AF,eval e X.env)]
structure M2(X:Cx)(o:AR)(m:Str)(apos:Pos)(e f:AR)(cpos:Pos):Prop where
 base:Cf o m X.env (eval o X.env)=eval o X.env
 few:((CT cpos (As [e,f] X.env)).all (λx=>!x.1)&&(FY cpos (Dv [] X.env)).all (λx=>x.1.isSome)
  &&AB (([e,f]:List AR).length+([]:List Fj).length+(if([]:List Fj).isEmpty then 0 else 1)<30))=AC
 line:(apos.endLine==cpos.line)=AC
 trees:CT cpos (As [e,f] X.env)=[(AF,eval e X.env),(AF,eval f X.env)]
abbrev IsD(H:Hp)(a:AM):Prop:=(∃kvs,Rd H a (.dK kvs))\/∃kvs,Rd H a (.dT kvs)
def cp6{s:AL}(I:Inv X pins σ H s)(d:IsD H a):
  s.TypeIs (.ref a) "dict"/\(∀b,At a=.ref b->∃ob,s.heap.get? b=AA ob/\ob.dict=AE)/\(a==DD)=AF:=by
 rcases d with⟨kvs,e⟩|⟨kvs,e⟩
 ·obtain⟨_,hd,vs,_,dd⟩:=N8 I.hok e;refine⟨dd.typeIs,λb q=>?_,hd⟩;cases q;obtain⟨ob,_,_,h1,h2,_⟩:=dd;exact⟨ob,h1,h2.2.1⟩
 ·obtain⟨_,hd,xs,_,dd⟩:=S0 I.hok e;refine⟨dd.typeIs,λb q=>?_,hd⟩;cases q;obtain⟨ob,_,_,h1,h2,_⟩:=dd;exact⟨ob,h1,h2.2.1⟩
section
variable {s:AL} {d:V} {r:AI} {E:AI->AL->Prop}
def ch2(hu:A.units+20<CO)(I:Inv X pins σ H s)(g:v9 H a y o)(ry:d3 y u)(rd:d3 d r)(h:∀w' s',Inv X pins σ H s'->d3 (o.getD d) w'->Q w' s'):
  AU (model X.prog X.w) A (call (.builtin "dict.get") [.ref a,u,r]) Q E s:=by
 rcases g with⟨kvs,k,e,ey,l⟩|⟨kvs,k,b,e,ey,eb,l⟩
 ·subst ey;obtain⟨z,hd,vs,rel,dd⟩:=N8 I.hok e;refine call_meetsIn PySem.F.slot_dict_get dd.typeIs PySem.F.entry_dict_get (PySem.F.args_dict_get_3 _ _ _) (meets_dict_get_default (D2 X.prog X.w) a (W5 ry) hd r) ⟨_,dd.mapOf,h _ _ (I.tok _) ?_⟩;rw[l];exact(rel.val k).getD rd
 ·subst ey;cases(show u=At b from ry);obtain⟨z,hd,xs,rel,dd⟩:=S0 I.hok e;refine call_meetsIn PySem.F.slot_dict_get dd.typeIs PySem.F.entry_dict_get (PySem.F.args_dict_get_3 _ _ _) (meetsH_dict_get_default (NK.dataKind X.prog X.w) a b hd r) ⟨NK.dataKind_room_in1 hu,k,xs,G9 I.hok eb,dd,h _ _ (I.tok _) ?_⟩;rw[l];exact(rel.val k).getD rd
end
abbrev ci3(td ty tx:TE):TE:=λσ H Q=>td σ H λx H1=>∃a,x=.ref a/\IsD H1 a/\ty σ H1 λy H2=>tx σ H2 λz H3=>∃o,v9 H3 a y o/\Q (o.getD z) H3
section
variable {o e f:AR} {apos cpos:Pos} {td ty tx:TE}
def b33(hu:X.A.units+20<CO)(ho:PE X o td)(he:PE X e ty)(hf:PE X f tx)(m:M2 X o "get" apos e f cpos):PE X (.Call (.Attribute o "get" apos) [e,f] [] cpos) (ci3 td ty tx):=by
 intro pins s σ H Q I h;refine Jh m.base m.few m.line PySem.F.plainAttrs_dict PySem.F.slot_dict_get PySem.F.type_dict_get (thn (ho pins s σ H _ I h) λu s1 z29=>?_);obtain⟨x,H1,I1,rx,a,ex,d,q1⟩:=z29;subst ex;obtain rfl:u=At a:=rx;obtain⟨t1,t2,_⟩:=cp6 I1 d;refine⟨t1,t2,?_⟩;rw[m.trees];refine Cj rfl (Dj (FI (thn (he pins s1 σ H1 _ I1 q1) λiv s2⟨y,H2,I2,ry,q2⟩=>
  FI (thn (hf pins s2 σ H2 _ I2 q2) λfv s3⟨z,H3,I3,rz,ov,g,q3⟩=>Hv ?_))))
 exact ch2 hu I3 g ry rz λw' s4 I4 rw'=>⟨_,H3,I4,rw',q3⟩
end
end L2
namespace Att
open PySem PySem.W PySem.Calls PyProof.Rows
def bs0{P:Params}{h:Ay}:∀(ns:List Int)(vs:List AI),WellAll P h vs (ns.map KN)->GR vs ns:=by
 intro ns
 induction ns with
 |nil=>
  intro vs w;rw[BS]at w;cases w;exact .nil
 |cons n ns ih=>
  intro vs w;rw[AV]at w;cases w with
  |cons a b=>
   cases a;exact .cons _ _ (ih _ b)
def by0{l:OpenLaw}{n:Nat}(hn:l.most=AA n){P:Params}{h:Ay}{args:List WData}{vals:List AI}
  (hpre:l.row.toRowW.claim.pre args=AC) (hwl:WellAll P h vals args) :
  ∃a vs ns,vals=[At a]/\args=[WData.list (ns.map KN)]/\h.get? a=AA {cls:=.type "list",data:=.seq vs.toArray}/\GR vs ns/\ns.length<=n:=by
 have hsh:WShape.hasAll [] args [.list .int]=AC:=(pre_splitW hpre).1;have hc:l.pre.holds [] {args:=args}=AC:=(pre_splitW hpre).2;obtain⟨d,r,rfl,h1,h2⟩:=hasAllW_cons hsh;obtain rfl:=hasAllW_nil h2;obtain⟨xs,rfl,h3⟩:=hasW_list h1;obtain⟨ns,rfl⟩:=items_int h3;have hlen:ns.length<=n:=by
  unfold OpenLaw.pre at hc;have h4:(WTm.not (.lt (.lit (.int (n:Int))) (.len (.arg 0)))).holds [] {args:=[.list (ns.map .int)]}=AC:=by
   have h4:=(holds_andW hc).1;rw[hn]at h4;exact h4
  have h5:=condW_of h4 (w_not (w_lt w_lit (w_len_list (w_arg rfl))));rw[Am]at h5;refine Io λq=>?_;have q':(n:Int)<((ns.length:Nat):Int):=by lia
  first
   |(rw[decide_eq_true q']at h5;exact absurd h5 ∅)
   |(simp at h5;lia)
 cases hwl with
 |cons w1 w2=>
  cases w2;cases w1 with
  |list ho hall=>exact⟨_,_,ns,rfl,rfl,ho,bs0 ns _ hall,hlen⟩
def b00(l:OpenLaw)(args:List WData):l.row.toRowW.claim.post args (.bool AC) args=AC:=
 postW_of (r:=l.row.toRowW) (X:=(AC==AC))
  (show Ji [] (.bool AC) .bool=AC by first|rfl|decide|simp[Ji,WShape.arms,WShape.armsAll])
  (show(WTm.eq .res (.lit (.bool AC))).value [] {args:=args,res:=AA (.bool AC),after:=args}=AA (.bool (AC==AC)) from w_eq_bool (w_res rfl) w_lit) rfl
def attach_call{l:OpenLaw}{n:Nat}{q:Aj}{loose:List Str}{XP:(Str->Option AI)->Ay->Prop}{YP:BA->Ay->Prop}{d:DefRec}
  (hn:l.most=AA n) (hdf:d.params.defaults=[])
  (call:∀(w:BA)(s₀ s₁:AL)(mg mb:Str->Option AI)(fa:AM)(o:Obj)(pm cd doc:AI)(a:AM)(vs:List AI)(ns:List Int),
   Ground q loose [] XP w s₀ mg mb s₁.heap->YP w s₁.heap ->
   s₁.heap.get? fa=AA o->o.data=.func (docDef d.name d.params d.body d.scope pm cd doc)->s₁.heap.CodeRec cd d.name->mg d.name=AA (.ref fa) ->
   s₁.heap.get? a=AA {cls:=.type "list",data:=.seq vs.toArray}->GR vs ns->ns.length<=n->s₁.gens=#[] ->
   Ea (model l.prog w) HK (.call (.ref fa) ⟨[.ref a],[]⟩) (λr s'=>r=.ok (.ret (.bool AC))/\OldK s₁.heap s'.heap/\s'.os=s₁.os/\EZ s'.gens) s₁) :
  WalkO q loose XP YP l.row.toRowW d [] (λf vs=>PySem.call f vs):=by
 intro w s₀ s₁ mg mb G Y fa o pm cd doc dV kV ho hd hcd hD hmg hg args vals as hpre hlay hrd hwl hlo;obtain rfl:dV=.none:=Dflts.none hD hdf;obtain rfl:kV=.none:=Dflts.noKw hD;obtain⟨a,vs,ns,rfl,rfl,hobj,hints,hlen⟩:=by0 hn hpre hwl;refine enter_call (ED (call w s₀ s₁ mg mb fa o pm cd doc a vs ns G Y ho (fd_plain hd) hcd hmg hobj hints hlen hg) λr s' hq=>?_);obtain⟨rfl,h2,h3,h4⟩:=hq;exact⟨.inl ⟨.bool AC,.bool AC,[],rfl,λ_=>rfl,.bool AC,b00 l _,λ_=>⟨KC,λ_ hm=>(nomatch hm)⟩⟩,h2,h3,h4⟩
section
variable {prog:Aj} {w:BA} {A:BV} {E:AI->AL->Prop} {s:AL} {K:Frag}
abbrev c34(h:Ay)(L d:AM):List (AM×Obj):=(Da h.objs.size).filterMap λa=>if a=L\/a=d then AE else(h.get? a).map λo=>(a,o)
end
end Att
namespace L2
open PySem PySem.Spec PyProof.Rows
theorem at0:∀{vs:List AI}{ns:List Int},GR vs ns->c7 (ns.map V.int) vs
 |_,_,.nil=>.nil
 |_,_,.cons n t h=>.cons ⟨t,rfl⟩ (at0 h)
abbrev G8(s:BG):Arguments:=match s with
 |.FunctionDef _ a _ _ _ _ _ _ _ _=>a
 |_=>{posonlyargs:=[],args:=[],vararg:=AE,kwonlyargs:=[],kw_defaults:=[],kwarg:=AE,defaults:=[]}
abbrev D0(s:BG):List BG:=match s with
 |.FunctionDef _ _ b _ _ _ _ _ _ _=>b
 |_=>[]
abbrev o0(s:BG):BR:=match s with
 |.FunctionDef _ _ _ _ _ _ sc _ _ _=>sc
 |_=>{kind:=.function,names:=[],isGenerator:=AF,isCoroutine:=AF}
@[reducible]noncomputable def CX0:CXT:=λ_ _ _ _ _ _=>False
@[reducible]noncomputable def E0:XK:=λ_ _ _=>False
def cr9{X:Cx}:v6 CX0 X E0:=λ_ _ _ _ _ _ _ h=>h.elim
def as7{n:Nat}(h:n<=1000):n<sizeLine:=Nat.lt_of_le_of_lt h ∅
variable{scope:BR}{env:Env}{cells:List (Str×AM)}{X:Cx}{Nc:List Str}{fr:List Nat}{C:AM}{fp:List AM}{pins:List (AM×Obj)}{σ:St}{H:Hp}
def bs6{prog:Aj}{w:BA}{A:BV}{R:JP->AL->Prop}{s:AL}{elt target iter:AR}{ifs:List AR}{pos:Pos}{it acc:AI}(I:Nat->AL->Prop)
  (turn:∀n s,I n s->AU (model prog w) A (pyNext it) (λr s₁=>match r with
   |none=>R (.ok .next) s₁
   |some v=>AU (model prog w) A (FD target it v) (λ_ s₁'=>AU (model prog w) A (assign target env v) (λ_ s₂=>
     AU (model prog w) A (forIn ifs AC λc r=>if r=AC then do let ok <-HS c env (eval c env);pure (Bk ok)else pure (Bk r)) (λok s₃=>
      if ok=AC then AU (model prog w) A (eval elt env) (λx s₄=>
       AU (model prog w) A (call (.builtin "list.append") [acc,x]) (λ_ s₅=>∃m,m<n/\I m s₅) (λ_ _=>False) s₄) (λ_ _=>False) s₃
      else ∃m,m<n/\I m s₃) (λ_ _=>False) s₂) (λ_ _=>False) s₁') (λ_ _=>False) s₁) (λ_ _=>False) s)
  (n:Nat) (h:I n s) :
  Ea (model prog w) A (.compLoop (.ListComp elt [⟨target,iter,ifs,0⟩] scope pos) 0 it acc env) R s:=by
 refine codeAny_loop rfl I (λn s hI=>?_) n h;show AU _ A ((compTurn (.ListComp elt [⟨target,iter,ifs,0⟩] scope pos) 0 it acc env).onRaise (λx=>do Fk x env;theTreesLotGoes x)) _ _ s;refine wpAny_noted ?_;rw[compTurn_list];refine AJ (Hh (AJ (BP (turn n s hI) (λr s₁ h₁=>?_) λ_ _ h'=>h'.elim)));cases r with
 |none=>exact AQ h₁
 |some v=>
  refine AJ (BP h₁ (λ_ s₁' h₁'=>?_) λ_ _ h'=>h'.elim);refine AJ (BP h₁' (λ_ s₂ h₂=>AJ (BP h₂ (λok s₃ h₃=>?_) λ_ _ h'=>h'.elim)) λ_ _ h'=>h'.elim);cases ok with
  |false=>exact AQ ⟨rfl,h₃⟩
  |true=>
   exact AJ (AJ (BP h₃ (λx s₄ h₄=>AJ (BP h₄ (λ_ s₅ h₅=>AQ (AQ ⟨rfl,h₅⟩)) λ_ _ h'=>h'.elim)) λ_ _ h'=>h'.elim))
abbrev u0(cells:List (Str×AM)):List (Str×FX)->List (Str×AM)->List (Str×AM)
 |[],acc=>acc
 |(n,k)::r,acc=>u0 cells r (if k==.free then(match cells.lookup n with|some a=>(n,a)::acc|none=>acc)else acc)
theorem af8:∀(names:List (Str×FX))(acc:List (Str×AM)),(∀x∈names,x.2=.free->(env.cells.lookup x.1).isSome=AC) ->
  (forIn names acc λx r=>match x with
   |(name,kind)=>if(kind==Ba)=AC then do let a <-Km env name;pure (Bk ((name,a)::r))else pure (Bk r):Sem (List (Str×AM)))=pure (u0 env.cells names acc)
 |[],acc,_=>rfl
 |(n,k)::r,acc,h=>by
  have hr:∀x∈r,x.2=.free->(env.cells.lookup x.1).isSome=AC:=λx hx=>h x (BQ _ hx);rw[Ip];cases hk:(k==Ba)with
  |false=>
   simp only[hk,Ar,if_false,pure_bind];rw[af8 r acc hr];simp only[u0,hk,Ar,if_false]
  |true=>
   have hf:k=.free:=by simpa using hk
   obtain⟨a,ha⟩:=BJ.mp (h (n,k) CL hf);have hc:Km env n=pure a:=by unfold Km;rw[ha]
   simp only[hk,if_true,hc,pure_bind];rw[af8 r _ hr];simp only[u0,hk,if_true,ha]
def aq2{env:Env}(h:∀x∈scope.names,x.2=.free->(env.cells.lookup x.1).isSome=AC):closureFor scope env=pure (u0 env.cells scope.names []):=by
 unfold closureFor;have e:=af8 (env:=env) scope.names [] h;show((forIn scope.names ([]:List (Str×AM)) (λx r=>match x with
   |(name,kind)=>if(kind==Ba)=AC then do let a <-Km env name;pure (Bk ((name,a)::r))else pure (Bk r)):Sem (List (Str×AM)))>>=λcs=>pure cs)=_
 rw[e];rfl
theorem av2:∀{names:List (Str×FX)}{acc:List (Str×AM)}{x:Str}{c:AM},(x,c)∈u0 cells names acc->(x,c)∈acc\/(cells.lookup x=AA c/\(x,Ba)∈names)
 |[],acc,x,c,h=>.inl h
 |(n,k)::r,acc,x,c,h=>by
  unfold u0 at h
  rcases av2 h with h1|⟨h1,h2⟩
  ·cases hk:(k==Ba)with
   |false=>simp only[hk,Ar,if_false]at h1;exact .inl h1
   |true=>
    have hf:k=.free:=by simpa using hk
    subst hf;simp only[hk,if_true]at h1;cases hc:cells.lookup n with
    |none=>rw[hc]at h1;exact .inl h1
    |some a=>
     rw[hc]at h1
     rcases AT.mp h1 with e|e
     ·cases e;exact .inr ⟨hc,CL⟩
     ·exact .inl e
  ·exact .inr ⟨h1,BQ _ h2⟩
theorem au9:∀{names:List (Str×FX)}{acc:List (Str×AM)}{x:Str}{c:AM},cells.lookup x=AA c->((x,Ba)∈names\/(x,c)∈acc)->(x,c)∈u0 cells names acc
 |[],acc,x,c,_,h=>by
  rcases h with h|h
  ·cases h
  ·exact h
 |(n,k)::r,acc,x,c,hc,h=>by
  unfold u0;refine au9 hc ?_
  rcases h with h|h
  ·rcases AT.mp h with e|e
   ·cases e;refine .inr ?_;rw[if_pos ∅,hc];exact CL
   ·exact .inl e
  ·refine .inr ?_
   split
   ·split
    ·exact BQ _ h
    ·exact h
   ·exact h
def af6{α:Type}{l:List (Str×α)}{x:Str}{a:α}(h:l.lookup x=AA a):(x,a)∈l:=PySem.mem_of_lookup h
theorem aq6{α:Type}:∀{l:List (Str×α)}{x:Str}{a:α},(x,a)∈l->∃b,l.lookup x=AA b
 |[],_,_,h=>by cases h
 |(y,b)::r,x,a,h=>by
  rw[Gy];cases e:x==y with
  |true=>exact⟨b,rfl⟩
  |false=>
   rcases AT.mp h with z|z
   ·cases z;simp at e
   ·exact aq6 z
def M5{names:List (Str×FX)}{x:Str}{c:AM}(h:(u0 cells names []).lookup x=AA c):cells.lookup x=AA c/\(x,Ba)∈names:=by
 rcases av2 (af6 h)with z|z
 ·cases z
 ·exact z
def aw5{names:List (Str×FX)}{x:Str}{c:AM}(h:cells.lookup x=AA c)(hm:(x,Ba)∈names):(u0 cells names []).lookup x=AA c:=by
 obtain⟨b,hb⟩:=aq6 (au9 (acc:=[]) h (.inl hm));have:=(M5 hb).1;rw[h]at this;cases this;exact hb
structure CompScope(X:Cx)(scope:BR)(Nc:List Str)(fr:List Nat)(k:Nat):Prop where
 kind:scope.kind=.function
 nocell:∀y∈scope.names,y.2≠.cell
 names:∀y∈scope.names,y.2=.local->scope.names.lookup y.1=AA .local
 frees:∀y∈scope.names,y.2=.free->X.env.scope.names.lookup y.1=AA .cell\/X.env.scope.names.lookup y.1=AA .free
 uniq:∀y∈scope.names,y.2=.free->(y.1,NameKind.local)∉scope.names
 nd:Nc.Nodup
 len:Nc.length=fr.length+k
 fre:∀i x,Nc[i]?=AA x->i<fr.length->∃j,fr[i]?=AA j/\X.N[j]?=AA x/\(x,Ba)∈scope.names
abbrev D3(fr:List Nat)(k:Nat)(σ:St):St:=(fr.map λj=>(σ[j]?).join)++Ah k AE
def bs9{x:Str}(h:((relabel scope env).names.lookup x=AA .cell\/(relabel scope env).names.lookup x=AA .free))(hc:∀y∈scope.names,y.2≠.cell):(x,Ba)∈scope.names:=by
 have go:∀k,(relabel scope env).names.lookup x=AA k->(k=.cell\/k=.free)->(x,Ba)∈scope.names:=by
  intro k hk hkk;have hm:=af6 hk;unfold relabel at hm;obtain⟨⟨n,k'⟩,h1,h2⟩:=IL.mp hm;dsimp only at h2
  split at h2
  ·rename_i hcond;cases h2;have:k'=.free:=by
    simp only[Az,beq_iff_eq]at hcond;exact hcond.1.1
   rw[<-this];exact h1
  ·cases h2
   rcases hkk with z|z
   ·exact absurd z (hc _ h1)
   ·rw[<-z];exact h1
 rcases h with h|h
 ·exact go _ h (.inl rfl)
 ·exact go _ h (.inr rfl)
def bu5{x:Str}:∀{k},(relabel scope env).names.lookup x=AA k->∃k',(x,k')∈scope.names/\(k=k'\/(k'=.free/\k=.cell)):=by
 intro k hk;have hm:=af6 hk;unfold relabel at hm;obtain⟨⟨n,k'⟩,h1,h2⟩:=IL.mp hm;dsimp only at h2
 split at h2
 ·rename_i hcond;cases h2;refine⟨_,h1,.inr ⟨?_,rfl⟩⟩;simp only[Az,beq_iff_eq]at hcond;exact hcond.1.1
 ·cases h2;exact⟨_,h1,.inl rfl⟩
abbrev Cx.comp(X:Cx)(scope:BR)(Nc:List Str)(C:AM)(fp:List AM)(pins:List (AM×Obj))(s:AL)(H:Hp):Cx:=
 {X with N:=Nc,s₀:=s,H₀:=H,env:=Ko scope (u0 X.env.cells scope.names []) C X.env,outer:=X.stack,stack:=X.stack,ex:=fp,fn:=λ_=>AF,pn:=X.pn++pins,xe:=λ_ _=>False,ow:=λ_=>AF}
def Cx.comp_ok{k:Nat}{s:AL}(S:CompScope X scope Nc fr k)(I:Inv X pins σ H s)
  (hC:s.heap.objs.size<=C) (hf:∀b∈fp,u8 X pins H b) (hlt:∀b∈fp,b<s.heap.objs.size):(X.comp scope Nc C fp pins s H).Ok where
 mod:=I.ok.mod
 kind:=S.kind
 glob:=I.ok.glob
 blt:=I.ok.blt
 above:=hC
 inj:=λx y c h1 h2=>I.ok.inj x y c (M5 h1).1 (M5 h2).1
 has:=λx h=>by
  have hm:=bs9 h S.nocell;have hx:=S.frees _ hm rfl;obtain⟨c,hc⟩:=I.ok.has x hx;exact⟨c,aw5 hc hm⟩
 cab:=λx c h _=>h.elim (λz=>nomatch z) λz=>nomatch z
 hd:=I.ok.hd
 frames:=I.ok.frames
 stk:=.inl rfl
 exf:=λb hb=>⟨λz=>by have h1:=hlt b hb;have h2:b=C:=z;rw[h2]at h1;exact absurd h1 (not_lt.mpr hC),λx c h=>(hf b hb).2.2.2.2.1 x c (M5 h).1⟩
 bs:=I.bs
 bsz:=Ag I.ok.bsz I.sz
 noex:=λb o e hb=>by
  obtain⟨h0,h1,h2,h3,h4,h5⟩:=hf b hb
  rcases h3 with z|z
  ·exact I.ok.noex b o e z
  ·have:=(I.ok.bs b o e).1;exact absurd (Al (BI this) z) (Cw _)
 exfs:=λb hb z=>by
  obtain⟨h0,h1,h2,_⟩:=hf b hb
  rcases AT.mp (I.stkSub b z)with e|e
  ·exact h1 e
  ·exact h2 e
 funs:=I.stack
 frf:=I.stkFree
def bv3{k:Nat}{s:AL}{h1:Ay}{tk:Nat}(S:CompScope X scope Nc fr k)(I:Inv X pins σ H s)
  (hC:s.heap.objs.size<=C) (hf:∀b∈fp,u8 X pins H b) (hlt:∀b∈fp,b<s.heap.objs.size) (hk:∀b o,s.heap.get? b=AA o->h1.get? b=AA o) (hn:h1.Ns C (λ_=>AE)) :
  Inv (X.comp scope Nc C fp pins s H) [] (D3 fr k σ) H {s with heap:=h1,toks:=tk}:=by
 have hfC:H C=AE:=I.hok.fresh hC;refine⟨Cx.comp_ok S I hC hf hlt,rfl,I.bare,Un.kept hk,⟨_,hn,λi x v e1 e2 e3=>?_⟩,λx c e=>?_,hfC,λx c e=>(I.freeC x c (M5 e).1).imp id λz=>⟨rfl,z.2⟩,λp hp=>?_,I.hok.kept hk,?_⟩
 ·have hi:i<fr.length:=by
   unfold D3 at e2
   by_cases hi:i<fr.length
   ·exact hi
   ·rw[Bd (by simpa using hi),DR]at e2
    split at e2<;>cases e2
  obtain⟨j,hj,hN,hm⟩:=S.fre i x e1 hi;have e2':σ[j]?=AA (AA v):=by
   unfold D3 at e2;rw[BW (by simpa using hi),CJ,hj]at e2;simp only[GC,CF]at e2;cases q:σ[j]? with
   |none=>rw[q]at e2;cases e2
   |some o=>rw[q]at e2;exact congrArg AA e2
  obtain⟨m,hns,hl⟩:=I.loc;have hvis:Vis X.env.scope x:=by
   rcases S.frees _ hm rfl with z|z
   ·exact .inr (.inl z)
   ·exact .inr (.inr z)
  obtain⟨u,r,l⟩:=hl j x v hN e2' hvis;refine⟨u,r,?_⟩
  rcases l with⟨l1,_⟩|⟨l1,c,lc,lz⟩
  ·exfalso;have l1':X.env.scope.names.lookup x=AA .local:=l1
   rcases S.frees _ hm rfl with z|z
   ·rw[l1']at z;cases z
   ·rw[l1']at z;cases z
  ·refine .inr ⟨?_,c,aw5 lc hm,?_⟩
   ·have e3':Vis (relabel scope X.env) x:=e3
    rcases e3' with z|z|z
    ·exfalso;obtain⟨k',h1,h2⟩:=bu5 z
     rcases h2 with h2|h2
     ·subst h2;exact S.uniq _ hm rfl h1
     ·cases h2.2
    ·exact .inl z
    ·exact .inr z
   ·obtain⟨o,ho,hd⟩:=lz;exact⟨o,hk _ _ ho,hd⟩
 ·obtain⟨v,o,ho,hd⟩:=I.cell x c (M5 e).1;exact⟨v,o,hk _ _ ho,hd⟩
 ·have hp':p∈X.pn++pins:=by
   have:p∈(X.pn++pins)++[]:=hp;simpa using this
  obtain⟨q1,q2,q3,q4,q5⟩:=I.pin p hp';refine⟨hk _ _ q1,q2,λz=>?_,λz=>?_,q5⟩
  ·have h2:p.1=C:=z;have h3:=BI q1;rw[h2]at h3;exact absurd h3 (not_lt.mpr hC)
  ·rcases AT.mp (I.stkSub p.1 z)with e|e
   ·exact q3 e
   ·exact q4 e
 ·unfold D3;rw[AH,Am,Ej];exact S.len.symm
def bz9{pl:List (AM×Obj)}{σc:St}{H':Hp}{s s':AL}(I:Inv X pins σ H s)(hf:∀b∈fp,u8 X pins H b)
  (I':Inv (X.comp scope Nc C fp pins s H) pl σc H' s'):Inv X pins σ H' s':=by
 obtain⟨hh,g,d,t,os'⟩:=s';obtain rfl:os'=s.os:=I'.os;exact I.call (h':=hh) (g':=g) (d':=d) (t':=t) (ch:=fp) I'.base I'.hok I'.bare λb hb=>by
  obtain⟨h0,h1,h2,h3,h4,h5⟩:=hf b hb;exact⟨h3,h1,h4,h5⟩
def aq0{σ0:St}{H0:Hp}{s s0:AL}{h':Ay}(I0:Inv X pins σ0 H0 s0)(hC:s0.heap.objs.size<=C)(I:Inv X pins σ H s)(hn:H C=AE)
  (sb:CQ C s.heap h'):Inv X pins σ H {s with heap:=h'}:=by
 refine I.turned (t':=s.toks) (it:=C) (λb o hb e=>(sb.2 b hb).trans e) hn ?_ (.inr (Ag I0.sz hC)) ?_ ?_
 ·exact λz=>absurd (Al I0.lt hC) (by rw[z];exact Cw _)
 ·intro x c e z;obtain⟨v,q⟩:=I0.cell x c e;exact absurd (Al q.lt hC) (by rw[z];exact Cw _)
 ·intro p hp z;exact absurd (Al (BI (I0.pin p hp).1) hC) (by rw[z];exact Cw _)
abbrev aj8(fr:List Nat)(k:Nat)(wi:TI)(g:TG)(tc:TT)(te:TE)(fin:V->Hp->Prop):St->Hp->Prop:=λσ H=>
 wi σ H λJ H1=>∀p,H1 p=AE->∃W:Nat->Nat->St->Hp->Prop,(∃m,W 0 m (D3 fr k σ) (upd H1 p (.lst [])))/\∀i m σc H2,W i m σc H2 ->
  (J.stop i H2/\fin (.ref p) H2)\/(J.go i H2/\∃N:St->Hp->Prop,(∀σ' H',N σ' H'->∃m',m'<m/\W (i+1) m' σ' H') /\
   ∀x H3,J.yld i H2 x H3->g x σc H3 λσ4 H4=>tc σ4 H4 λb H5=>if b=AC then te σ4 H5 λv H6=>∃ys,H6 p=AA (.lst ys)/\ys.length<sizeLine/\N σ4 (upd H6 p (.lst (ys++[v])))else N σ4 H5)
abbrev PCs(X:Cx)(ifs:List AR)(t:TT):Prop:=
 ∀(pins:List (AM×Obj))(s:AL)(σ:St)(H:Hp)(Q:Bool->Hp->Prop),Inv X pins σ H s->t σ H Q ->
  AU (model X.prog X.w) X.A (forIn ifs AC λc r=>if r=AC then do let ok <-HS c X.env (eval c X.env);pure (Bk ok)else pure (Bk r)) (TP X pins σ Q) X.xe s
abbrev cv9:TT:=λ_ H Q=>Q AC H
def ca7:PCs X [] cv9:=λ_ _ _ H _ I h=>wpAny_tests_nil ⟨H,I,h⟩
def cb2{c:AR}{t:TT}(hc:PT X c t):PCs X [c] t:=λpins s σ H Q I h=>wpAny_tests_one (hc pins s σ H Q I h)
section
variable {k:Nat} {tg iter elt:AR} {ifs:List AR} {wi:TI} {g:TG} {tc:TT} {te:TE} {pos:Pos}
def ar0(hc:X.calm=AC)(S:CompScope X scope Nc fr k)(hg:∀C fp pins s H,PG (X.comp scope Nc C fp pins s H) tg g)(ht:∀C fp pins s H,PCs (X.comp scope Nc C fp pins s H) ifs tc)(he:∀C fp pins s H,PE (X.comp scope Nc C fp pins s H) elt te)
  {pins:List (AM×Obj)} {σ:St} {s2:AL} {H2:Hp} {it:AM} {fp:List AM} {tn:Nat->Ay->Prop} {J:It} {fin:V->Hp->Prop} {RR:AI->AM->JP->AL->Prop} {E:AI->AL->Prop}
  (I2:Inv X pins σ H2 s2) (T:Turn X.prog X.w X.K tg J fp it tn) (st2:tn 0 s2.heap) (f2:∀b∈fp,u8 X pins H2 b)
  (h:∀p,H2 p=AE->∃W:Nat->Nat->St->Hp->Prop,(∃m,W 0 m (D3 fr k σ) (upd H2 p (.lst [])))/\∀i m σc H2,W i m σc H2 ->
   (J.stop i H2/\fin (.ref p) H2)\/(J.go i H2/\∃N:St->Hp->Prop,(∀σ' H',N σ' H'->∃m',m'<m/\W (i+1) m' σ' H') /\
    ∀x H3,J.yld i H2 x H3->g x σc H3 λσ4 H4=>tc σ4 H4 λb H5=>if b=AC then te σ4 H5 λv H6=>∃ys,H6 p=AA (.lst ys)/\ys.length<sizeLine/\N σ4 (upd H6 p (.lst (ys++[v])))else N σ4 H5))
  (hRR:∀(D C:AM)(H':Hp)(s':AL)(s3:AL)(H3:Hp)(m':Str->Option AI),Inv X pins σ H3 s3->s3.heap.objs.size<=C->Inv X pins σ H' s'->H' C=AE->s'.heap.Ns C m'->fin (.ref D) H'->RR (.ref D) C (.ok .next) s') :
  AU (model X.prog X.w) X.A (newList []) (λacc s₃=>AU (model X.prog X.w) X.A (Kq scope X.env.globals (u0 X.env.cells scope.names []) [] X.env.qual AE .none (AA X.env)) (λcenv s₄=>
   Ea (model X.prog X.w) X.A (.compStart (.ListComp elt [⟨tg,iter,ifs,0⟩] scope pos) 0 (.ref it) acc {cenv with scope:=relabel scope X.env}) (RR acc cenv.locals) s₄) E s₃) E s2:=by
 have hp:=I2.hok.fresh (Ae s2.heap.objs.size);obtain⟨W,⟨m0,w0⟩,turn⟩:=h s2.heap.objs.size hp;refine Bn (Iq S.nocell (by intro y hy;simp at hy) (λh₁ hns₁ hsb₁=>?_) S.kind);dsimp only at hns₁ hsb₁ ⊢;have I3:Inv X pins σ (upd H2 s2.heap.objs.size (.lst [])) {s2 with heap:=s2.heap.push {cls:=.type "list",dict:=AE,data:=.seq ([]:List AI).toArray}}:=
  I2.laid (t':=s2.toks) (λb u e=>AW _ e) (Ae _) ⟨An _,[],0,.nil,BN _ rfl⟩
 have hlt2:∀b∈fp,b<s2.heap.objs.size:=λb hb=>by
  obtain⟨o,e,_⟩:=T.obj _ _ st2 b hb;exact BI e
 have f3:∀b∈fp,u8 X pins (upd H2 s2.heap.objs.size (.lst [])) b:=λb hb=>by
  obtain⟨q0,q⟩:=f2 b hb;exact⟨by rw[f6 (Br (hlt2 b hb))];exact q0,q⟩
 generalize hH3:(s2.heap.push {cls:=.type "list",dict:=AE,data:=.seq ([]:List AI).toArray}:Ay)=g3 at I3 hns₁ hsb₁ ⊢;have hsz:g3.objs.size=s2.heap.objs.size+1:=by rw[<-hH3,Gi]
 have hlt3:∀b∈fp,b<g3.objs.size:=λb hb=>by rw[hsz];exact IW (hlt2 b hb)
 have k3:∀b o,g3.get? b=AA o->h₁.get? b=AA o:=λb o e=>hsb₁.extBut b o (Br (BI e)) (AW _ e);have st3:tn 0 g3:=T.keep _ _ _ st2 λb _ o e=>by rw[<-hH3];exact AW _ e
 have st4:tn 0 h₁:=T.keep _ _ _ st3 λb _ o e=>k3 b o e;have I4:Inv (X.comp scope Nc g3.objs.size fp pins {s2 with heap:=g3} (upd H2 s2.heap.objs.size (.lst []))) [] (D3 fr k σ) (upd H2 s2.heap.objs.size (.lst [])) {s2 with heap:=h₁,toks:=s2.toks+([]:List (Str×AI)).length}:=
  bv3 (s:={s2 with heap:=g3}) S I3 (Ae _) f3 hlt3 k3 hns₁
 generalize hXc:X.comp scope Nc g3.objs.size fp pins {s2 with heap:=g3} (upd H2 s2.heap.objs.size (.lst []))=Xc at I4;have eA:Xc.A=X.A:=by rw[<-hXc];rfl
 have eP:Xc.prog=X.prog:=by rw[<-hXc];rfl
 have ew:Xc.w=X.w:=by rw[<-hXc];rfl
 have eK:Xc.K=X.K:=by rw[<-hXc];rfl
 have ec:Xc.calm=AC:=by rw[<-hXc];exact hc
 have ee:Xc.env=Ko scope (u0 X.env.cells scope.names []) g3.objs.size X.env:=by rw[<-hXc];rfl
 have ex:Xc.xe=λ_ _=>False:=by rw[<-hXc];rfl
 have T':Turn Xc.prog Xc.w Xc.K tg J fp it tn:=by rw[eP,ew,eK];exact T
 have stat:∀{H':Hp},(∀b∈fp,H' b=AE)->∀b∈fp,u8 Xc [] H' b:=λhn b hb=>by
  obtain⟨q0,q1,q2,q3,q4,q5⟩:=f3 b hb;subst hXc;refine⟨hn b hb,Br (hlt3 b hb),λz=>?_,.inl hb,λx c e=>q4 x c (M5 e).1,λp hp=>q5 p ?_⟩
  ·rcases AT.mp (I3.stkSub b z)with e|e
   ·exact q1 e
   ·exact q2 e
  ·have:p∈(X.pn++pins)++[]:=hp;simpa using this
 have loop:∀s₃:AL,s₃={s2 with heap:=h₁,toks:=s2.toks+([]:List (Str×AI)).length} ->
   Ea (model X.prog X.w) X.A (.compLoop (.ListComp elt [⟨tg,iter,ifs,0⟩] scope pos) 0 (.ref it) (.ref s2.heap.objs.size) (Ko scope (u0 X.env.cells scope.names []) g3.objs.size X.env)) (RR (.ref s2.heap.objs.size) g3.objs.size) s₃:=by
  rintro s₃ rfl;rw[<-ee,<-eA,<-eP,<-ew];refine bs6 (λn s'=>∃i σ' H',Inv Xc [] σ' H' s'/\tn i s'.heap/\(∀b∈fp,H' b=AE)/\W i n σ' H') ?_ m0 ⟨0,_,_,I4,st4,λb hb=>(f3 b hb).1,w0⟩;rintro n s5 ⟨i,σ5,H5,I5,st5,fr5,w5⟩
  rcases turn i n σ5 H5 w5 with⟨stop,qn⟩|⟨go,N,hN,step⟩
  ·refine thn (T'.done Xc rfl rfl rfl ec i [] s5 σ5 H5 _ I5 (stat fr5) st5 stop) λr s6⟨hr,I6⟩=>?_;subst hr;subst hXc;obtain⟨m',hm,_⟩:=id I6.loc;exact hRR _ _ H5 s6 _ _ m' I3 (Ae _) (bz9 I3 f3 I6) I6.free hm qn
  ·refine thn (T'.item Xc rfl rfl rfl ec i [] s5 σ5 H5 _ I5 (stat fr5) st5 go) λr s6⟨u,hr,h6⟩=>?_;subst hr;refine thn h6 λ_ s7 z30=>?_;obtain⟨x,H7,I7,r7,y7,st7,fr7⟩:=z30;have I7':=I7.pinned (stat fr7) (T.obj _ _ st7);have hgX:PG Xc tg g:=by rw[<-hXc];exact hg _ _ _ _ _
   have htX:PCs Xc ifs tc:=by rw[<-hXc];exact ht _ _ _ _ _
   have heX:PE Xc elt te:=by rw[<-hXc];exact he _ _ _ _ _
   have again:∀{s9:AL}{σ9:St}{H9:Hp},Inv Xc ([]++V5 fp s7.heap) σ9 H9 s9->N σ9 H9->∃m,m<n/\∃i σ' H',Inv Xc [] σ' H' s9/\tn i s9.heap/\(∀b∈fp,H' b=AE)/\W i m σ' H':=λ{s9 σ9 H9}I9 n9=>by
    obtain⟨m',hm,w9⟩:=hN σ9 H9 n9;refine⟨m',hm,i+1,σ9,H9,I9.unpinned,T.keep _ _ _ st7 λb hb o e=>(I9.pin (b,o) (BK _ (BK _ (Z0 hb e)))).1,λb hb=>?_,w9⟩;obtain⟨o,e,d⟩:=T.obj _ _ st7 b hb;exact(I9.pin (b,o) (BK _ (BK _ (Z0 hb e)))).2.1
   have hgw:=hgX _ s7 σ5 H7 x u _ I7' r7 (step x H7 y7);rw[ex]at hgw;refine thn hgw λ_ s8 z31=>?_;obtain⟨σ8,H8,I8,q8⟩:=z31;have htw:=htX _ s8 σ8 H8 _ I8 q8;rw[ex]at htw;refine thn htw λok s9⟨H9,I9,q9⟩=>?_;cases ok with
   |false=>
    rw[if_neg AK]at q9 ⊢;exact again I9 q9
   |true=>
    rw[if_pos rfl]at q9 ⊢;have hew:=heX _ s9 σ8 H9 _ I9 q9;rw[ex]at hew;refine thn hew λxv s10 z32=>?_;obtain⟨v,H10,I10,r10,ys,hys,hlen,n10⟩:=z32;have hap:=ar4 (X:=Xc) _ s10 σ8 H10 (.ref s2.heap.objs.size) [v] (.ref s2.heap.objs.size) [xv] (λ_ H11=>N σ8 H11) I10 rfl (.cons r10 .nil) ⟨_,ys,v,rfl,rfl,hys,hlen,n10⟩;rw[ex]at hap;exact thn hap λ_ s11⟨_,H11,I11,_,n11⟩=>again I11 n11
 exact codeAny_compStart_list (loop _ rfl) (T.self _ 0 _ _ _ st4 (loop _ rfl))
def aq3{s:AL}(S:CompScope X scope Nc fr k)(I:Inv X pins σ H s):∀x∈scope.names,x.2=.free->(X.env.cells.lookup x.1).isSome=AC:=λx hx hf=>by
 obtain⟨c,e⟩:=I.ok.has x.1 (S.frees x hx hf);rw[e];rfl
def ce4(hc:X.calm=AC)(S:CompScope X scope Nc fr k)(hi:PI X tg iter wi)(hg:∀C fp pins s H,PG (X.comp scope Nc C fp pins s H) tg g)(ht:∀C fp pins s H,PCs (X.comp scope Nc C fp pins s H) ifs tc)(he:∀C fp pins s H,PE (X.comp scope Nc C fp pins s H) elt te)
  (hs:∀x,De iter X.env x=pure x:=by intro _;rfl):PE X (.ListComp elt [⟨tg,iter,ifs,0⟩] scope pos) (λσ H Q=>aj8 fr k wi g tc te Q σ H):=by
 intro pins s σ H Q I h;rw[eval_ListComp];refine Hk (use:=AE) (cl:=u0 X.env.cells scope.names []) rfl hs (aq2 (aq3 S I)) S.kind S.names ?_;refine thn (hi pins s σ H _ I h) λxv s1 h1=>thn h1 λitv s2 h2=>?_;obtain⟨it,fp,tn,J,H2,e,I2,T,st2,f2,h⟩:=h2;subst e;refine ar0 (RR:=λacc C=>compPost (model X.prog X.w) X.A X.xe AE (EP X pins σ Q) acc C) hc S hg ht he I2 T st2 f2 h ?_;intro D C H' s' s3 H3 m' I3 hC I' hn hns q;exact⟨m',hns,λh' sb=>⟨.ref D,H',aq0 I3 hC I' hn sb,rfl,q⟩⟩
def bv6{i:Nat}{y:Str}{py spos:Pos}(hc:X.calm=AC)(hN:X.N.Nodup)(hiy:X.N[i]?=AA y)(hy:Loc X.env.scope y)(hfy:X.fn y=AC\/X.env.scope.names.lookup y=AA .local)
  (S:CompScope X scope Nc fr k) (hi:PI X tg iter wi) (hg:∀C fp pins s H,PG (X.comp scope Nc C fp pins s H) tg g) (ht:∀C fp pins s H,PCs (X.comp scope Nc C fp pins s H) ifs tc) (he:∀C fp pins s H,PE (X.comp scope Nc C fp pins s H) elt te)
  (hsw:DW (.ListComp elt [⟨tg,iter,ifs,0⟩] scope pos) (AA (.Name y py)) spos.line X.env=pure AC)
  (hs:∀x,De iter X.env x=pure x:=by intro _;rfl):PS X (.Assign [.Name y py] (.ListComp elt [⟨tg,iter,ifs,0⟩] scope pos) spos) (λD σ H=>aj8 fr k wi g tc te (λv H'=>D.nx (σ.set i (AA v)) H') σ H):=by
 intro pins s σ H D I h;rw[exec_Assign_Name_used _ _ _ _ hsw];refine AJ (Hh (AJ ?_));show AU _ X.A (do let _ <-comprehension (.ListComp elt [⟨tg,iter,ifs,0⟩] scope pos) scope X.env _ (newList []) AF (eval iter X.env) (AA (assign (.Name y py) X.env))) _ _ s;refine AJ (BP (Hk (use:=AA (assign (.Name y py) X.env)) (cl:=u0 X.env.cells scope.names []) (Q:=λ_ s'=>SP X pins D .next s') rfl hs (aq2 (aq3 S I)) S.kind S.names ?_) (λ_ s' hq=>AQ (AQ hq)) λ_ _ e=>e);refine thn (hi pins s σ H _ I h) λxv s1 h1=>thn h1 λitv s2 h2=>?_;obtain⟨it,fp,tn,J,H2,e,I2,T,st2,f2,h⟩:=h2;subst e;refine ar0 (RR:=λacc C=>compPost (model X.prog X.w) X.A X.xe (AA (assign (.Name y py) X.env)) (λ_ s'=>SP X pins D .next s') acc C) (fin:=λv H'=>D.nx (σ.set i (AA v)) H') hc S hg ht he I2 T st2 f2 h ?_;intro D' C H' s' s3 H3 m' I3 hC I' hn hns q;show AU _ X.A (assign (.Name y py) X.env (.ref D')) _ _ s';obtain⟨oC,es,ep,hoC,hdC,hrest⟩:=id hns;have neL:C≠X.env.locals:=λz=>absurd (Al I3.lt hC) (by rw[z];exact Cw _);have nfs:C∉X.fs:=I3.nofs hC;have I'':Inv X (pins++[(C,oC)]) σ H' s':=I'.pins_of λp hp=>by
  rcases Au.mp hp with z|z
  ·exact I'.pin p (BK _ z)
  ·have e:p=(C,oC):=by simpa using z
   subst e;exact⟨hoC,hn,neL,nfs,λv z=>by rw[hdC]at z;cases z⟩
 refine Jb (T9 I'' hN hiy hy (v:=.ref D') rfl (λs'' J''=>?_) hfy);obtain⟨p1,p2,_⟩:=J''.pin (C,oC) ∎;refine⟨m',⟨oC,es,ep,p1,hdC,hrest⟩,λh' sb=>⟨_,H',aq0 I3 hC J''.unpinned p2 sb,q⟩⟩
end
end L2
namespace PySem
section
variable {prog:Aj} {w:BA} {A:BV} {E:AI->AL->Prop} {s:AL}
def br4{it l:AM}{i:Nat}{items}{x:AI}{Q:AI->AL->Prop}(hit:s.heap.IsTupleIter it l i)
  (hl:s.heap.IsTuple l items) (hx:items[i]?=AA x)
  (hQ:∀h',h'.IsTupleIter it l (i+1)->CQ it s.heap h'->Q x {s with heap:=h'}) :
  AU (model prog w) A (Cg (.ref it)) Q E s:=by
 obtain⟨o,ho,hc,hd⟩:=id hit;obtain⟨ol,hol,_,nl,hdl⟩:=hl;unfold Cg;refine AJ (DX (name:=AD "__next__") hit.typeIs DC
  (Cm DC hit.typeIs Gz ?_ (Gn _)))
 show AU _ _ (field (.ref it) 0 >>= _) _ _ s;refine AJ (CN ho hd (x:=.ref l) rfl ?_);show AU _ _ (if (At l == BZ)=AC then _ else _) _ _ s;rw [if_neg (show ¬ ((At l == BZ)=AC) from AK)];show AU _ _ (field (.ref it) 1 >>= _) _ _ s;refine AJ (CN ho hd (x:=.int i 0) rfl ?_);show AU _ _ (seqItems? (.ref l) >>= _) _ _ s;refine AJ (Dc hol hdl ?_);simp only [Fs,hx];refine AJ (EO ho hd ∎ (AQ ⟨x,rfl,AQ (hQ _ ?_ (GT ..))⟩));exact ⟨_,Eu _ ho (Db (DJ hd _)),(IX ..).trans hc,by
  rw[DJ hd];simp[EN]⟩
def br5{it l:AM}{i:Nat}{items}{Q:AI->AL->Prop}(hh:A.handled=AE)
  (hit:s.heap.IsTupleIter it l i) (hl:s.heap.IsTuple l items) (hx:items[i]?=AE)
  (hE:∀h' e,Heap.ExtBut it s.heap h'->(∃o,h'.get? e=AA o/\o.cls=.type "StopIteration")->E (.ref e) {s with heap:=h'}) :
  AU (model prog w) A (Cg (.ref it)) Q E s:=by
 obtain⟨o,ho,hc,hd⟩:=id hit;obtain⟨ol,hol,_,nl,hdl⟩:=hl;unfold Cg;refine AJ (DX (name:=AD "__next__") hit.typeIs DC
  (Cm DC hit.typeIs Gz ?_ (Gn _)))
 show AU _ _ (field (.ref it) 0>>=_) _ _ s;refine AJ (CN ho hd (x:=.ref l) rfl ?_);show AU _ _ (if(At l==BZ)=AC then _ else _) _ _ s;rw[if_neg (show ¬((At l==BZ)=AC) from AK)];show AU _ _ (field (.ref it) 1>>=_) _ _ s;refine AJ (CN ho hd (x:=.int i 0) rfl ?_);show AU _ _ (seqItems? (.ref l)>>=_) _ _ s;refine AJ (Dc hol hdl ?_);simp only[Fs,hx];refine AJ (JK (AJ (EO ho hd ∎ ?_)));show AU _ _ (newExc (.type "StopIteration") []>>=_) _ _ _;refine AJ ?_;simp only[newExc,newTuple];refine AJ (Bn ?_ (by size_fits));refine AJ (m:=Kr _ _) (wpAny_of_eq (a:=BZ) (by first|rfl|(simp only[Kr];rfl)) ?_);refine Bn ?_ (by size_fits);simp only[raiseNew];refine AJ (wpAny_handled ?_)
 first|rw[show A.in1.handled=AE from hh]|rw[hh]
 refine AJ (AQ (wpAny_throw ?_));exact hE _ _ (((GT ..).extBut.push _).push _) ⟨_,BN _ rfl,rfl⟩
end
def Draws.tuple{prog:Aj}{w:BA}{A:BV}(hh:A.handled=AE)(it l:AM)(hne:l≠it)(items:Array AI):
  Draws prog w A it [it,l] items.size (λi v=>items[i]?=AA v) (λi h=>h.IsTupleIter it l i/\h.IsTuple l items) where
 live:=λ_ _ st=>let⟨o,ho,_⟩:=st.1;⟨o,ho⟩
 frame:=λ_ _ _ st hk=>⟨st.1.at λo e=>hk it ∎ o e,let⟨o,ho,r⟩:=st.2;⟨o,hk l ∎ o ho,r⟩⟩
 item:=λi s Q E hi st hQ=>by
  refine br4 st.1 st.2 (x:=items[i]) (by simp[hi]) λh' hit' hs'=>?_;exact hQ _ h' s.toks (by simp[hi]) ⟨hit',st.2.extBut hs'.extBut hne⟩ hs'
 done:=λs Q E st hE=>br5 hh st.1 st.2 ∎ hE
open AutoSeq1 (wpAny_loadPart') in
def br6(l:AM)(items:Array AI)(n:Nat)(dct:Option AM)(sl:Array (Option AI)):
  Ks (GU.«enumerate.__new__» ⟨[.type "enumerate",.ref l],[]⟩) (λ_ R s=>s.heap.get? l=AA {cls:=.type "tuple",dict:=dct,data:=.seq items n,slots:=sl} /\
   R (.ok (.ret (.ref (s.heap.push {cls:=.type "tuple_iterator",data:=.fields #[.ref l,.int 0 0]}).objs.size)))
    {s with heap:=(s.heap.push {cls:=.type "tuple_iterator",data:=.fields #[.ref l,.int 0 0]}).push {cls:=.type "enumerate",data:=.fields #[.none,.bool AF,.ref s.heap.objs.size,EN 0,.none,.none]}}):=
 .of_wp λprog w A R s h=>by
  obtain⟨hp,g,d,tk,os⟩:=s;obtain⟨hl,h⟩:=h;have hsub:=sub_enumerate;have hL:Heap.IsTuple (Shared.heap ⟨hp,g,d,tk,os⟩) l items:=⟨_,hl,rfl,n,rfl⟩
  wp_walk using FE hl
  refine wpAny_stack_any λst=>AQ ?_
  split
  ·rename_i c _ _ _ _ _;cases(c==EU "enumerate")
   ·wp_walk using FE hl,EQ hL
    exact⟨_,rfl,h⟩
   ·wp_walk using FE hl,EQ hL
    exact⟨_,rfl,h⟩
  ·wp_walk using FE hl,EQ hL
   exact⟨_,rfl,h⟩
section
variable {prog:Aj} {w:BA} {A:BV} {E:AI->AL->Prop} {s:AL}
def br7{l:AM}{items:Array AI}{Q:AI->AL->Prop}(hL:s.heap.IsTuple l items)
  (h:∀h',Kt h' (s.heap.objs.size+1) s.heap.objs.size 0 .none->h'.IsTupleIter s.heap.objs.size l 0->h'.objs.size=s.heap.objs.size+2 ->
   (∀b o,s.heap.get? b=AA o->h'.get? b=AA o)->Q (.ref (s.heap.objs.size+1)) {s with heap:=h'}) :
  AU (model prog w) A (call (.type "enumerate") [.ref l]) Q E s:=by
 obtain⟨⟨c,dct,dt,sl⟩,hl,hc,n,hd⟩:=hL;replace hc:c=.type "tuple":=hc;replace hd:dt=.seq items n:=hd;subst hc hd;refine callType_new F.called_enumerate ∅ (F.typeCall_enumerate_1 _) (F.newCall_enumerate_1 _) (λobj=>F.args_object_init_2 obj _) F.entry_enumerate_new
  (br6 l items n dct sl) ⟨hl,?_⟩
 have hz:(s.heap.push {cls:=.type "tuple_iterator",data:=.fields #[.ref l,.int 0 0]}).objs.size=s.heap.objs.size+1:=Gi ..;show _/\_;rw[hz];have he:Kt ((s.heap.push {cls:=.type "tuple_iterator",data:=.fields #[.ref l,.int 0 0]}).push
   {cls:=.type "enumerate",data:=.fields #[.none,.bool AF,.ref s.heap.objs.size,EN 0,.none,.none]}) (s.heap.objs.size+1) s.heap.objs.size 0 .none:=by
  have:=BN (s.heap.push {cls:=.type "tuple_iterator",data:=.fields #[.ref l,.int 0 0]})
   (o:={cls:=.type "enumerate",data:=.fields #[.none,.bool AF,.ref s.heap.objs.size,EN 0,.none,.none]}) rfl
  rw[hz]at this;exact this
 refine⟨⟨_,he,rfl⟩,h _ he ⟨_,AW _ (BN _ rfl),rfl,rfl⟩ (by rw[Gi,hz]) λb o x=>AW _ (AW _ x)⟩
end
end PySem
namespace L2
open PySem PySem.Spec PyProof.Rows
variable{pins:List (AM×Obj)}{σ:St}{elts:List AR}{k0:Nat}{tp:Pos}
section
variable {X:Cx} {H:Hp} {s:AL} {h':Ay}
def Inv.turnedNew{t':Nat}{ch:List AM}{o:HO}(I:Inv X pins σ H s)(hch:∀b∈ch,u8 X pins H b)(k:∀b u,b∉ch->s.heap.get? b=AA u->h'.get? b=AA u)(ex:∀b∈ch,∃u,h'.get? b=AA u)
  (new:i9 X.prog X.w (upd H s.heap.objs.size o) h' s.heap.objs.size o):Inv X pins σ (upd H s.heap.objs.size o) {s with heap:=h',toks:=t'}:=by
 have hT:H s.heap.objs.size=AE:=I.hok.fresh (Ae _);have neT:∀b u,s.heap.get? b=AA u->b≠s.heap.objs.size:=λb u e=>Br (BI e);have nch:∀b u,H b=AA u->b∉ch:=λb u e z=>by rw[(hch b z).1]at e;cases e
 refine I.step (g':=s.gens) (d':=s.drawn) (ch:=ch) (λb hb=>?_) (λb u _ _ hc e _=>k b u hc e) (λb u _ _ hc e _=>⟨u.slots,k b u hc e⟩) (λb u _ e n=>by rw[f6 (neT b u e)];exact n)
  (λb u hc e=>⟨u,k b u hc e⟩) (λb xs e=>by rw[f6 (o6 e hT)];exact e) (λb u v e=>by rw[f6 (o6 e hT)];exact e) (λb ps e=>⟨#[],by rw[f6 (o6 e hT),e];simp⟩) (λm hm=>?_) (λb u e=>?_) I.bare
 ·obtain⟨h0,h1,h2,h3,h4,h5⟩:=hch b hb;exact⟨h3,h1,h4,h5⟩
 ·obtain⟨ob,es,ep,ho,r⟩:=hm;exact⟨ob,es,ep,k _ ob (λz=>(hch _ z).2.1 rfl) ho,r⟩
 ·by_cases hb:b=s.heap.objs.size
  ·subst hb;rw[o7]at e;cases e;exact new
  ·rw[f6 hb]at e;refine(I.hok b u e).stay (λc v hc q=>k c v ?_ q) (λc q=>by rw[f6 (o6 q hT)];exact q) λc xs q=>by rw[f6 (o6 q hT)];exact q
   rcases hc with z|z
   ·rw[z];exact nch b u e
   ·exact nch c _ z
def Inv.turnedAll{t':Nat}{ch:List AM}(I:Inv X pins σ H s)(hch:∀b∈ch,u8 X pins H b)(k:∀b u,b∉ch->s.heap.get? b=AA u->h'.get? b=AA u):Inv X pins σ H {s with heap:=h',toks:=t'}:=by
 have nch:∀b u,H b=AA u->b∉ch:=λb u e z=>by rw[(hch b z).1]at e;cases e
 refine I.step (g':=s.gens) (d':=s.drawn) (ch:=ch) (λb hb=>?_) (λb u _ _ hc e _=>k b u hc e) (λb u _ _ hc e _=>⟨u.slots,k b u hc e⟩) (λb u _ e n=>n)
  (λb u hc e=>⟨u,k b u hc e⟩) (λb xs e=>e) (λb u v e=>e) (λb ps e=>⟨#[],by rw[e];simp⟩) (λm hm=>?_) (λb u e=>?_) I.bare
 ·obtain⟨h0,h1,h2,h3,h4,h5⟩:=hch b hb;exact⟨h3,h1,h4,h5⟩
 ·obtain⟨ob,es,ep,ho,r⟩:=hm;exact⟨ob,es,ep,k _ ob (λz=>(hch _ z).2.1 rfl) ho,r⟩
 ·refine(I.hok b u e).stay (λc v hc q=>k c v ?_ q) (λc q=>q) λc xs q=>q
  rcases hc with z|z
  ·rw[z];exact nch b u e
  ·exact nch c _ z
end
abbrev Ite(K:AS)(sq:Hp->List V->Prop):It:=
 ⟨λi H=>∃xs x,sq H xs/\xs[i]?=AA x,λi H x H'=>∃t v,H t=AE/\x=.ref t/\H'=upd H t (.tup [.int i,v])/\∀xs,sq H xs->xs[i]?=AA v,λi H=>∃xs,sq H xs/\xs.length=i⟩
def ar9{P:Aj}{w:BA}{K:AS}{sq:Hp->List V->Prop}{e it:AM}{pit:Nat->Ay->Prop}{bad:AM->Prop}
  (hei:e≠it) (iobj:∀i h,pit i h->∃o,h.get? it=AA o/\∀v,o.data≠.cell v) (ikeep:∀i h h',pit i h->(∀o,h.get? it=AA o->h'.get? it=AA o)->pit i h')
  (dr:∀(X:Cx),X.prog=P->X.w=w->X.K=K->X.calm=AC->∀(i:Nat)(pins:List (AM×Obj))(s:AL)(σ:St)(H:Hp)(xs:List V),Inv X pins σ H s->u8 X pins H e->u8 X pins H it->pit i s.heap->(∃old,Kt s.heap e it i old)->sq H xs ->
   ∃(its:List AI)(fp:List AM)(Pv:Nat->AI->Prop)(St:Nat->Ay->Prop),c7 xs its/\xs.length<=sizeLine/\Draws P w X.A.in1 it fp its.length Pv St/\e∉fp/\St i s.heap/\(∀j v,Pv j v->its[j]?=AA v)/\∀j h,St j h->pit j h)
  (inj:∀(X:Cx)(pins:List (AM×Obj))(s:AL)(σ:St)(H:Hp)(xs ys:List V),X.K=K->Inv X pins σ H s->sq H xs->sq H ys->xs=ys) :
  Turn P w K (.Tuple elts k0 tp) (Ite K sq) [e,it] e (λi h=>(∃old,Kt h e it i old)/\pit i h) where
 mem:=by simp
 obj:=λi h st b hb=>by
  rcases AT.mp hb with z|z
  ·subst z;obtain⟨⟨old,he⟩,_⟩:=st;exact⟨_,he,λv z=>by cases z⟩
  ·have z':b=it:=by simpa using z
   subst z';exact iobj i h st.2
 keep:=λi h h' st kk=>by
  obtain⟨⟨old,he⟩,hp⟩:=st;exact⟨⟨old,kk e ∎ _ he⟩,ikeep i h h' hp λo q=>kk it ∎ o q⟩
 item:=by
  intro X hP hw hK hc i pins s σ H E I hf st hg;obtain⟨xs,x,hq,hx⟩:=hg;obtain⟨its,fp,Pv,St,rv,hz,D,hef,hst,hPv,hSt⟩:=dr X hP hw hK hc i pins s σ H xs I (hf e ∎) (hf it ∎) st.2 st.1 hq;obtain⟨⟨old,he⟩,hp⟩:=st;have hi:i<its.length:=by
   rw[<-rv.length];exact(Ai.mp hx).1
  refine wpAny_pyNext_enum_itemD D he hst hi hei hef λy h1 tk hPy ho hst' hT hsz hk=>?_;obtain⟨u,hu,ru⟩:=rv.get hx;have ey:y=u:=by
   have q:=hPv i y hPy;rw[hu]at q;exact(BC q).symm
  subst ey;refine⟨_,rfl,?_⟩;have hT':H s.heap.objs.size=AE:=I.hok.fresh (Ae _);have elt:e<s.heap.objs.size:=BI he;refine wpAny_letOwnedTupleGo_enum ho λh2 he2 hs2=>?_;have q2:CQ e h1 h2:=hs2;have kk:∀b u,b∉[e,it]->s.heap.get? b=AA u->h2.get? b=AA u:=λb u hb q=>by
   have h1':b≠e:=λz=>hb (by simp[z]);have h2':b≠it:=λz=>hb (by simp[z]);exact(q2.2 b h1').trans (hk b u h1' h2' q)
  have hT2:h2.get? s.heap.objs.size=AA {cls:=.type "tuple",data:=.seq #[.int i tk,y]}:=(q2.2 _ (Kb elt)).trans hT;have pit2:pit (i+1) h2:=ikeep _ _ _ (hSt _ _ hst') λo q=>(q2.2 it (BD hei)).trans q;have I1:Inv X pins σ (upd H s.heap.objs.size (.tup [.int i,x])) {s with heap:=h2,toks:=tk+1}:=by
   refine I.turnedNew (ch:=[e,it]) hf kk (λb hb=>?_) ?_
   ·rcases AT.mp hb with z|z
    ·exact⟨_,by rw[z];exact he2⟩
    ·have z':b=it:=by simpa using z
     subst z';obtain⟨o,q,_⟩:=iobj _ _ pit2;exact⟨o,q⟩
   ·exact⟨by show 2<=sizeLine;decide,[.int i tk,y],.cons ⟨_,rfl⟩ (.cons ru .nil),⟨_,hT2,rfl,rfl,_,rfl⟩⟩
  refine⟨.ref s.heap.objs.size,_,I1,rfl,⟨s.heap.objs.size,x,hT',rfl,rfl,λys hy=>by rw[inj X pins s σ H ys xs hK I hy hq];exact hx⟩,⟨⟨_,by have:=he2;simpa using this⟩,pit2⟩,λb hb=>?_⟩;have nb:b≠s.heap.objs.size:=by
   rcases AT.mp hb with z|z
   ·rw[z];exact Br elt
   ·have z':b=it:=by simpa using z
    subst z';obtain⟨o,q,_⟩:=iobj _ _ hp;exact Br (BI q)
  rw[f6 nb];exact(hf b hb).1
 done:=by
  intro X hP hw hK hc i pins s σ H E I hf st hg;obtain⟨xs,hq,hx⟩:=hg;obtain⟨its,fp,Pv,St,rv,hz,D,hef,hst,hPv,hSt⟩:=dr X hP hw hK hc i pins s σ H xs I (hf e ∎) (hf it ∎) st.2 st.1 hq;obtain⟨⟨old,he⟩,hp⟩:=st;have hi:i=its.length:=by rw[<-rv.length];exact hx.symm
  rw[hi]at hst;refine wpAny_pyNext_enum_endD D he hst λh1 eb=>⟨rfl,?_⟩;exact I.turnedAll (t':=s.toks) (ch:=[e,it]) hf λb u hb q=>eb b u (λz=>hb (by simp[z])) q
 self:=λA i s Q E st h=>by
  obtain⟨⟨old,he⟩,_⟩:=st;exact GV he h
def ab3{h:Ay}{a b:AM}{o u:Obj}(ha:h.get? a=AA o)(hb:h.get? b=AA u)(d:o.cls≠u.cls):a≠b:=λz=>by
 subst z;rw[ha]at hb;cases hb;exact d rfl
section
variable {X:Cx}
def bs1:BU "enumerate"=AA (.type "enumerate"):=by decide+kernel
def bs3:BU "reversed"=AA (.type "reversed"):=by decide+kernel
def b43{H1:Hp}{s1:AL}{R:It->Hp->Prop}{l:AM}{xs:List V}{E:AI->AL->Prop}(I1:Inv X pins σ H1 s1)(hq:SqL X.K H1 l xs)(q:R (Ite X.K λH xs=>SqL X.K H l xs) H1):
  AU (model X.prog X.w) X.A (call (.type "enumerate") [.ref l]) (λv s=>AU (model X.prog X.w) X.A (JN v) (PIE X pins σ (.Tuple elts k0 tp) R) E s) E s1:=by
 obtain⟨its,rv,pl,hz⟩:=I1.list hq;refine call_enumerate_list pl.isList λh' he hit hsz kk=>GV he ?_;have I2:Inv X pins σ H1 {s1 with heap:=h'}:=I1.kept (t':=s1.toks) kk;have hlt:∀b∈[s1.heap.objs.size+1,s1.heap.objs.size],s1.heap.objs.size<=b:=λb hb=>by
  rcases AT.mp hb with z|z
  ·rw[z];exact HG _
  ·have z':b=s1.heap.objs.size:=by simpa using z
   rw[z'];exact Ae _
 refine⟨s1.heap.objs.size+1,[s1.heap.objs.size+1,s1.heap.objs.size],_,_,H1,rfl,I2,ar9 (sq:=λH xs=>SqL X.K H l xs) (pit:=λi h=>h.IsListIter s1.heap.objs.size l i) (bad:=λ_=>True) (GW _) ?_ ?_ ?_ ?_,⟨⟨_,by simpa using he⟩,hit⟩,λb hb=>I1.fpOk (hlt b hb) (I1.hok.fresh (hlt b hb)),q⟩
 ·rintro i h ⟨o,ho,hc,hd⟩;exact⟨o,ho,λv z=>by rw[hd]at z;cases z⟩
 ·exact λi h h' st kk=>st.at kk
 ·intro Y hP hw hK hc i pins s σ H xs I f1 f2 hit he hq;rw[<-hK]at hq;obtain⟨its,rv,pl,hz⟩:=I.list hq;obtain⟨old,he⟩:=he;obtain⟨oi,hoi,hci,hdi⟩:=id hit;obtain⟨ol,nl,hol,hcl,hddl,hdl⟩:=id pl;have n1:l≠s1.heap.objs.size:=ab3 hol hoi (by rw[hcl,hci];decide);have n2:s1.heap.objs.size+1≠l:=ab3 he hol (by rw[hcl];show EU "enumerate"≠_;decide);refine⟨its,[s1.heap.objs.size,l],(λi v=>its.toArray[i]?=AA v),(λi h=>h.IsListIter s1.heap.objs.size l i/\h.IsList l its.toArray),rv,hz,?_,?_,⟨hit,pl.isList⟩,λj v z=>by simpa using z,λj h z=>z.1⟩
  ·have D:=Draws.list (prog:=X.prog) (w:=X.w) (A:=Y.A.in1) (by exact I.ok.hd hc) s1.heap.objs.size l n1 its.toArray;simpa using D
  ·intro z
   rcases AT.mp z with z|z
   ·exact GW _ z
   ·exact n2 (by simpa using z)
 ·intro Y pins s σ H xs ys hK I h1 h2;rw[<-hK]at h1 h2;exact I.list_inj h1 h2
def b13{H1:Hp}{s1:AL}{R:It->Hp->Prop}{l:AM}{xs:List V}{E:AI->AL->Prop}(I1:Inv X pins σ H1 s1)(hq:SqT X.K H1 l xs)(q:R (Ite X.K λH xs=>SqT X.K H l xs) H1):
  AU (model X.prog X.w) X.A (call (.type "enumerate") [.ref l]) (λv s=>AU (model X.prog X.w) X.A (JN v) (PIE X pins σ (.Tuple elts k0 tp) R) E s) E s1:=by
 obtain⟨its,rv,pl,hz⟩:=I1.tuple hq;refine br7 (show s1.heap.IsTuple l its.toArray from pl) λh' he hit hsz kk=>GV he ?_;have I2:Inv X pins σ H1 {s1 with heap:=h'}:=I1.kept (t':=s1.toks) kk;have hlt:∀b∈[s1.heap.objs.size+1,s1.heap.objs.size],s1.heap.objs.size<=b:=λb hb=>by
  rcases AT.mp hb with z|z
  ·rw[z];exact HG _
  ·have z':b=s1.heap.objs.size:=by simpa using z
   rw[z'];exact Ae _
 refine⟨s1.heap.objs.size+1,[s1.heap.objs.size+1,s1.heap.objs.size],_,_,H1,rfl,I2,ar9 (sq:=λH xs=>SqT X.K H l xs) (pit:=λi h=>h.IsTupleIter s1.heap.objs.size l i) (bad:=λ_=>True) (GW _) ?_ ?_ ?_ ?_,⟨⟨_,by simpa using he⟩,hit⟩,λb hb=>I1.fpOk (hlt b hb) (I1.hok.fresh (hlt b hb)),q⟩
 ·rintro i h ⟨o,ho,hc,hd⟩;exact⟨o,ho,λv z=>by rw[hd]at z;cases z⟩
 ·exact λi h h' st kk=>st.at kk
 ·intro Y hP hw hK hc i pins s σ H xs I f1 f2 hit he hq;rw[<-hK]at hq;obtain⟨its,rv,pl,hz⟩:=I.tuple hq;obtain⟨old,he⟩:=he;obtain⟨oi,hoi,hci,hdi⟩:=id hit;obtain⟨ol,hol,hcl,nl,hdl⟩:=id pl;have n1:l≠s1.heap.objs.size:=ab3 hol hoi (by rw[hcl,hci];decide);have n2:s1.heap.objs.size+1≠l:=ab3 he hol (by rw[hcl];show EU "enumerate"≠_;decide);refine⟨its,[s1.heap.objs.size,l],(λi v=>its.toArray[i]?=AA v),(λi h=>h.IsTupleIter s1.heap.objs.size l i/\h.IsTuple l its.toArray),rv,hz,?_,?_,⟨hit,pl⟩,λj v z=>by simpa using z,λj h z=>z.1⟩
  ·have D:=Draws.tuple (prog:=X.prog) (w:=X.w) (A:=Y.A.in1) (by exact I.ok.hd hc) s1.heap.objs.size l n1 its.toArray;simpa using D
  ·intro z
   rcases AT.mp z with z|z
   ·exact GW _ z
   ·exact n2 (by simpa using z)
 ·intro Y pins s σ H xs ys hK I h1 h2;rw[<-hK]at h1 h2;exact I.tuple_inj h1 h2
abbrev Itv(K:AS)(a:AM)(n:Nat):It:=
 ⟨λi H=>(∃xs,SqL K H a xs/\xs.length=n)/\i<n,λi H x H'=>H'=H/\∀xs,SqL K H a xs->xs[n-1-i]?=AA x,λi H=>(∃xs,SqL K H a xs/\xs.length=n)/\i=n⟩
def b37{P:Aj}{w:BA}{K:AS}{tg:AR}(a it:AM)(n:Nat):Turn P w K tg (Itv K a n) [it] it (λi h=>h.IsRevIter it a ((n:Int)-1-(i:Int))) where
 mem:=by simp
 obj:=λi h st b hb=>by
  have e:b=it:=by simpa using hb
  subst e;obtain⟨o,e,c,d⟩:=st;exact⟨o,e,λv z=>by rw[d]at z;cases z⟩
 keep:=λi h h' st k=>st.at λo e=>k it ∎ o e
 item:=by
  intro X hP hw hK hc i pins s σ H E I hf st hg;subst hP hw hK;obtain⟨⟨xs,hq,hn⟩,hi⟩:=hg;subst hn;obtain⟨its,rv,p,hz⟩:=I.list hq;obtain⟨x,hx⟩:∃x,xs[xs.length-1-i]?=AA x:=⟨_,AX ⋯⟩;obtain⟨u,hu,ru⟩:=rv.get hx;obtain⟨f0,f1,f2,f3,f4,f5⟩:=hf it ∎;have e:(xs.length:Int)-1-(i:Int)=((xs.length-1-i:Nat):Int):=by lia
  rw[e]at st;refine wpAny_pyNext_rev_item st p.isList (x:=u) (by simpa using hu) λh' st' sb=>?_;have I1:Inv X pins σ H {s with heap:=h'}:=I.turned (t':=s.toks) (λb o hb e=>(sb.2 b hb).trans e) f0 f1 f3 f4 f5;obtain⟨o,e',c,d⟩:=id st';have e2:((xs.length-1-i:Nat):Int)-1=(xs.length:Int)-1-((i+1:Nat):Int):=by lia
  rw[e2]at st';exact⟨u,rfl,ac2 (s:={s with heap:=h'}) e' c d ∅ ⟨x,H,I1,ru,⟨rfl,λys hy=>by rw[I.list_inj hy hq];exact hx⟩,st',λb hb=>(hf b hb).1⟩⟩
 done:=by
  intro X hP hw hK hc i pins s σ H E I hf st hg;subst hP hw hK;obtain⟨_,hi⟩:=hg;obtain⟨f0,f1,f2,f3,f4,f5⟩:=hf it ∎;have e:(n:Int)-1-(i:Int)=-1:=by lia
  rw[e]at st;exact wpAny_pyNext_rev_end (I.ok.hd hc) st λh' eb=>⟨rfl,I.turned (t':=s.toks) (λb o hb e=>eb b o hb e) f0 f1 f3 f4 f5⟩
 self:=λ_ _ _ _ _ st h=>Ir st h
abbrev cv4(K:AS)(ta:TA):TI:=λσ H R=>ta σ H λvs H1=>∃a xs,vs=[.ref a]/\SqL K H1 a xs/\R (Itv K a xs.length) H1
def cb0{tg a:AR}{ta:TA}{p pos:Pos}(hg:Gl X "reversed")(hm:X.mg "reversed"=AE)(ha:PA X [a] ta)(hs:As [a] X.env=[(AF,eval a X.env)]:=by rfl):
  PI X tg (.Call (.Name "reversed" p) [a] [] pos) (cv4 X.K ta):=by
 intro pins s σ H R I h;refine Call_ (P7 I hg hm bs3 (Bt (thn (ha pos pins s σ H _ I h) λus s1 z33=>?_) hs rfl));obtain⟨vs,H1,I1,r1,q1⟩:=z33;obtain⟨l,xs,e,hq,q⟩:=q1;subst e;obtain⟨u,rfl,ru⟩:=r1.one;cases ru;obtain⟨its,rv,pl,hz⟩:=I1.list hq;refine call_reversed_list pl.isList ?_;have hit:(s1.heap.push (revObj l ((its.toArray.size:Int)-1))).IsRevIter s1.heap.objs.size l ((xs.length:Int)-1-((0:Nat):Int)):=by
  refine⟨_,BN _ rfl,rfl,?_⟩;have e:((its.toArray.size:Nat):Int)-1=(xs.length:Int)-1-((0:Nat):Int):=by rw[Af,<-rv.length];lia
  rw[e];rfl
 refine Ir (s:={s1 with heap:=s1.heap.push (revObj l ((its.toArray.size:Int)-1))}) hit ?_;refine⟨s1.heap.objs.size,[s1.heap.objs.size],_,_,H1,rfl,I1.kept (t':=s1.toks) λb o e=>AW _ e,b37 l _ xs.length,hit,λb hb=>?_,q⟩;have e:b=s1.heap.objs.size:=by simpa using hb
 subst e;exact I1.fpOk (Ae _) (I1.hok.fresh (Ae _))
def bz4(hc:X.calm=AC):z0 X (.builtin "sum") (λxs H Q=>∃(p:AM)(ns:List Int),xs=[.ref p]/\SqL X.K H p (ns.map V.int)/\Q (.int ns.sum) H):=by
 intro pins s σ H xs us Q I r h;obtain⟨p,ns,rfl,hq,q⟩:=h;obtain⟨u,rfl,ru⟩:=r.one;cases ru;obtain⟨its,rv,pl,hz⟩:=I.list hq;have hi:GR its ns:=bv0 rv;have hn:=hi.numsOf;obtain⟨zs,ez⟩:=hi.allInts.items;have pl':=pl.isList;rw[ez]at pl';refine PySem.sum_intListG (I.ok.hd hc) pl' λh' tk t' hk=>?_;have e2:ns=zs.toList.map (·.1):=by
  rw[<-hn,<-show its.toArray.toList=its from rfl,ez,nums_intItems]
 rw[preSum_eq,Eb ∎];exact⟨.int ns.sum,H,I.kept hk,⟨t',by rw[e2]⟩,q⟩
abbrev al0(i j:Int):Prop:=0<j/\j.natAbs.log2<9000
def b61:OpR X (Cv .FloorDiv) (rI al0 λi j=>.int (i / j)):=opI λi j _ _ _ _ _ hc q=>by
 have h1:(0:Int)<j:=hc.1;exact floordiv_int ⋯ (by rw[Int.fdiv_eq_ediv_of_nonneg i ⋯];exact q) (.inl (PyProof.noPylong_of_log2 hc.2))
abbrev cv7(K:AS):R2:=λx y H Q=>∃a b xs ys,x=.ref a/\y=.ref b/\SqT K H a xs/\SqT K H b ys/\xs.length+ys.length<=sizeLine /\
 (xs=[]->Q (.ref b) H)/\(xs≠[]->ys=[]->Q (.ref a) H)/\(xs≠[]->ys≠[]->∀p,H p=AE->Q (.ref p) (upd H p (.tup (xs++ys))))
def cc5:OpR X (Cv .Add) (cv7 X.K):=by
 intro pins s σ H x y v u Q I rx ry h;obtain⟨a,b,xs,ys,rfl,rfl,ha,hb,hz,q0,q1,q2⟩:=h
 by_cases hx:xs=[]
 ·subst hx;cases rx;cases ry;obtain⟨its,r1,p1,_⟩:=I.tuple ha;obtain⟨its2,r2,p2,_⟩:=I.tuple hb;cases r1;obtain⟨⟨cls,dd,data,sl⟩,ho,hc,n,hd⟩:=id p1;obtain⟨⟨cls2,dd2,data2,sl2⟩,ho2,hc2,n2,hd2⟩:=id p2;simp only at hc hd hc2 hd2;subst hc hd hc2 hd2;exact IG ⟨_,ho,rfl⟩ ⟨_,ho2,rfl⟩ Gk Hi PySem.F.slot_tuple_add PySem.F.entry_tuple_add (PySem.F.args_tuple_add_2 _ _)
   (tuple_addW0 a b #[] its2.toArray n n2 dd dd2 sl sl2 ∎) ⟨ho,ho2,⟨.ref b,H,I,rfl,q0 rfl⟩⟩
 ·exact cc3 pins s σ H _ _ v u Q I rx ry ⟨a,b,xs,ys,rfl,rfl,ha,hb,hx,hz,q1 hx,q2 hx⟩
end
end L2
namespace Ek
open PySem PySem.Spec PyProof.Rows L2
set_option genInjectivity false
inductive Tg where
 |n (i:Nat)|tup (is:List Nat)
mutual
inductive E where
 |non|bl (b:Bool)|int (i:Int)|str (x:Str)
 |v (i:Nat)
 |tup (es:Es)|lst (es:Es)
 |bin (o:Er) (a b:E)
 |neg (a:E)
 |cmp (o:Dm) (a b:E)
 |isN (a:E)
 |and (a b:E)|or (a b:E)|not (a:E)
 |ite (c a b:E)
 |ix (a b:E)
 |sl (a lo hi:E)
 |dsel (ks:List Str) (vs:Es) (k:E)
 |gsel (g:Str) (k:E)
 |len (a:E)|abs (a:E)|toInt (a:E)|sum (a:E)|tuple (a:E)
 |max (a b:E)
 |call (f:Str) (es:Es)|gf (f:Str)|callv (i:Nat) (es:Es)|dict (ks:List Str) (vs:Es)|cmpl (ne:Bool) (a b:E)
 |fld (a:E) (f:Str)|meth (a:E) (m:Str) (es:Es)|make (c:Str) (es:Es)
 |app (a b:E)|ext (a b:E)|popAt (a b:E)|pop (a:E)|index (a b:E)
 |gc (g:Str)
 |cat (a b:E)|ssl (a lo hi:E)|slen (a:E)|tstr (a:E)|sint (a:E)|sin (ne:Bool) (a b:E)|join (a b:E)|sgt (a k d:E)|isC (c:Str) (a:E)|gnin (a:E) (g:Str)|isX (c:Str) (a:E)
 |comp (Nc:List Str) (fr:List Nat) (k:Nat) (t:Tg) (it:It) (c:E) (e:E)
inductive Es where
 |nil|cons (e:E) (r:Es)
inductive It where
 |seq (e:E)|rng (a:E)|rng2 (a b:E)|enum (e:E)|rev (e:E)
end
mutual
inductive S where
 |set (i:Nat) (e:E)
 |put (o i v:E)
 |pre (i:Nat)
 |fldS (o:E) (f:Str) (v:E)
 |ex (e:E)
 |iff (c:E) (a b:Ss)
 |ret (e:E)|retN
 |for (t:Tg) (it:It) (b:Ss)
 |while (c:E) (b:Ss)
 |cont|pass
 |raise
 |try3 (w t:Nat) (f g h:Str) (i c e:Nat)
inductive Ss where
 |nil|cons (s:S) (r:Ss)
end
abbrev Es.len:Es->Nat
 |.nil=>0
 |.cons _ r=>r.len+1
set_option genInjectivity true
inductive D where
 |non|bl (b:Bool)|int (i:Int)|str (x:Str)|tup (ds:List D)|ref (a:AM)|fn (f:Str)|clo (np:Nat) (N:List Str) (b:Ss) (cs:List D)|ktup (ns:List Int)
inductive Ob where
 |lst (ds:List D)|fro (ds:List D)|dct (kvs:List (Key×D))|dtt (kvs:List (Ax×D))|ins (c:Str) (fs:List (Str×D))|exc
@[reducible]noncomputable def Sto:=AM->Option Ob
@[reducible]noncomputable def d9:=List (Option D)
@[reducible]noncomputable def DK:=D->Sto->Prop
@[reducible]noncomputable def DT:=d9->Sto->DK->Prop
@[reducible]noncomputable def DB:=d9->Sto->(Bool->Sto->Prop)->Prop
@[reducible]noncomputable def DA:=d9->Sto->(List D->Sto->Prop)->Prop
abbrev b0(st:Sto)(a:AM)(o:Ob):Sto:=λb=>if b=a then AA o else st b
def b7{st:Sto}{a:AM}{o:Ob}:b0 st a o a=AA o:=by unfold b0;rw[if_pos rfl]
def g6{st:Sto}{a b:AM}{o:Ob}(h:b≠a):b0 st a o b=st b:=by unfold b0;rw[if_neg h]
abbrev rdS(st:Sto)(a:AM)(ds:List D):Prop:=st a=AA (.lst ds)\/st a=AA (.fro ds)
abbrev Sub(st st':Sto):Prop:=∀a o,st a=AA o->st' a=AA o
def Sub.refl(st:Sto):Sub st st:=λ_ _ h=>h
mutual
noncomputable def D.py:D->Ax
 |.non=>.none|.bl b=>.bool b|.int i=>.int i|.str x=>.str x|.tup ds=>.tuple (D.pys ds)|.ref _=>.none|.fn _=>.none|.clo _ _ _ _=>.none|.ktup _=>.none
noncomputable def D.pys:List D->List Ax
 |[]=>[]
 |d::r=>d.py::D.pys r
end
mutual
noncomputable def D.pure:D->Bool
 |.tup ds=>D.pures ds
 |.ref _=>AF
 |.fn _=>AF
 |.clo _ _ _ _=>AF
 |.ktup _=>AF
 |.str x=>Bp (.str x)
 |_=>AC
noncomputable def D.pures:List D->Bool
 |[]=>AC
 |d::r=>d.pure&&D.pures r
end
abbrev deq(d e:D):Bool:=Ao d.py e.py
abbrev g5(d:D):Nat:=d.py.depth
@[reducible]noncomputable def Spec:=List D->Sto->DK->Prop
structure Sg where
 F:Str->Bool
 Phi:Str->Spec
 G:Str->List (Str×D)
 C:Str->List Str
 Mk:Str->Spec
 MF:Str->Bool
 PhiC:Nat->List Str->Ss->List D->Spec
 Kc:Str->Option D
 X:Bool
 T:Str->Spec
@[inline]def d0(c m:Str):Str:=⟨c.cps++#[46]++m.cps⟩
abbrev S6(C:Str->List Str)(f:Str):Option Int:=match C ⟨#[33]++f.cps⟩with
 |[]=>AE
 |_::l=>AA (l.length:Nat)
abbrev N7(f:Str)(d:D):List (Str×D)->List (Str×D)
 |[]=>[(f,d)]
 |(g,e)::r=>if g=f then(g,d)::r else(g,e)::N7 f d r
abbrev W8(Z:Sg)(ta:Sto->(List D->Sto->Prop)->Prop)(st:Sto)(Q:DK):D->Prop
 |.fn f=>Z.F f=AC/\ta st λds st1=>Z.Phi f ds st1 Q
 |.clo np N b cs=>Z.X=AF/\ta st λds st1=>Z.PhiC np N b cs ds st1 Q
 |_=>False
abbrev N9(i j:Int):Prop:=am8 i j\/(i.natAbs<2^20000/\j.natAbs<2^20000)
abbrev w6(kvs:List (Key×D))(k:Key):Option D:=(kvs.find? λkv=>AB (kv.1=k)).map (·.2)
abbrev v0:Er->D->D->Sto->DK->Prop
 |.Add,.int i,.int j,st,Q=>Q (.int (i+j)) st
 |.Add,.tup xs,.tup ys,st,Q=>xs.length+ys.length<=sizeLine/\Q (.tup (xs++ys)) st
 |.Add,.ref a,.ref b,st,Q=>∃xs ys,st a=AA (.lst xs)/\st b=AA (.lst ys)/\xs.length+ys.length<=sizeLine/\∀p,st p=AE->Q (.ref p) (b0 st p (.lst (xs++ys)))
 |.Sub,.int i,.int j,st,Q=>Q (.int (i-j)) st
 |.Mult,.int i,.int j,st,Q=>N9 i j/\Q (.int (i*j)) st
 |.Mult,.tup xs,.int k,st,Q=>xs≠[]/\1<=k/\k<2^62/\xs.length*k.toNat<=sizeLine/\Q (.tup (Ah k.toNat xs).flatten) st
 |.Mod,.int i,.int j,st,Q=>0<j/\Q (.int (i % j)) st
 |.FloorDiv,.int i,.int j,st,Q=>al0 i j/\Q (.int (i / j)) st
 |.Pow,.int i,.int j,st,Q=>an4 i j/\Q (.int (i^j.toNat)) st
 |_,_,_,_,_=>False
abbrev j6:Dm->D->D->Sto->DK->Prop
 |.Eq,x,y,st,Q=>x.pure=AC/\y.pure=AC/\FF (g5 x) (g5 y)<=150/\Q (.bl (deq x y)) st
 |.NotEq,x,y,st,Q=>x.pure=AC/\y.pure=AC/\FF (g5 x) (g5 y)<=150/\Q (.bl (!deq x y)) st
 |.Lt,.int i,.int j,st,Q=>Q (.bl (AB (i<j))) st
 |.LtE,.int i,.int j,st,Q=>Q (.bl (AB (i<=j))) st
 |.Gt,.int i,.int j,st,Q=>Q (.bl (AB (j<i))) st
 |.GtE,.int i,.int j,st,Q=>Q (.bl (AB (j<=i))) st
 |.In,x,.tup ys,st,Q=>x.pure=AC/\D.pures ys=AC/\g5 x<=150/\Q (.bl (ys.any λy=>deq y x)) st
 |.NotIn,x,.tup ys,st,Q=>x.pure=AC/\D.pures ys=AC/\g5 x<=150/\Q (.bl (!ys.any λy=>deq y x)) st
 |.In,.int i,.ktup ns,st,Q=>Q (.bl (AB (i∈ns))) st
 |.In,.str w,.ref a,st,Q=>∃kvs,st a=AA (.dct kvs)/\Q (.bl (w6 kvs (.inr w)).isSome) st
 |.NotIn,.str w,.ref a,st,Q=>∃kvs,st a=AA (.dct kvs)/\Q (.bl (!(w6 kvs (.inr w)).isSome)) st
 |.In,.int i,.ref a,st,Q=>∃kvs,st a=AA (.dct kvs)/\Q (.bl (w6 kvs (.inl i)).isSome) st
 |.NotIn,.int i,.ref a,st,Q=>∃kvs,st a=AA (.dct kvs)/\Q (.bl (!(w6 kvs (.inl i)).isSome)) st
 |_,_,_,_,_=>False
abbrev ixR:D->D->Sto->DK->Prop
 |.tup ds,.int i,st,Q=>∃d,atI ds i=AA d/\Q d st
 |.ref a,.int i,st,Q=>(∃ds d,rdS st a ds/\atI ds i=AA d/\Q d st)\/∃kvs d,st a=AA (.dct kvs)/\w6 kvs (.inl i)=AA d/\Q d st
 |.ref a,.str w,st,Q=>∃kvs d,st a=AA (.dct kvs)/\w6 kvs (.inr w)=AA d/\Q d st
 |.str w,.int i,st,Q=>∃c,w.length<=sizeLine/\atI w.cps.toList i=AA c/\Q (.str ⟨#[c]⟩) st
 |_,_,_,_=>False
abbrev D7(xs:List D)(lo hi:Option Int):List D:=(xs.drop (HT.sIx xs.length 0 lo)).take (HT.sIx xs.length xs.length hi-HT.sIx xs.length 0 lo)
abbrev slR:D->Option Int->Option Int->Sto->DK->Prop
 |.tup ds,lo,hi,st,Q=>¬(HT.sIx ds.length 0 lo=0/\HT.sIx ds.length ds.length hi=ds.length)/\Q (.tup (D7 ds lo hi)) st
 |.ref a,lo,hi,st,Q=>∃ds,rdS st a ds/\∀p,st p=AE->Q (.ref p) (b0 st p (.lst (D7 ds lo hi)))
 |.str w,lo,hi,st,Q=>w.length<=sizeLine/\Q (.str (Bf w lo hi)) st
 |_,_,_,_,_=>False
abbrev g8:List (Str×D)->Str->Option D
 |[],_=>AE
 |(k,d)::r,x=>if k=x then AA d else g8 r x
abbrev S8:D->Sto->DK->Prop
 |.tup ds,st,Q=>Q (.int ds.length) st
 |.ref a,st,Q=>∃ds,rdS st a ds/\Q (.int ds.length) st
 |_,_,_=>False
abbrev V4:D->Sto->DK->Prop
 |.bl b,st,Q=>Q (.int (if b then 1 else 0)) st
 |.int i,st,Q=>Q (.int i) st
 |_,_,_=>False
abbrev cw5:D->Sto->DK->Prop
 |.tup ds,st,Q=>∀p,st p=AE->Q (.ref p) (b0 st p (.lst ds))
 |.ref a,st,Q=>∃ds,rdS st a ds/\∀p,st p=AE->Q (.ref p) (b0 st p (.lst ds))
 |_,_,_=>False
abbrev Q1:D->Sto->DK->Prop
 |.tup ds,st,Q=>Q (.tup ds) st
 |.ref a,st,Q=>∃ds,rdS st a ds/\Q (.tup ds) st
 |_,_,_=>False
abbrev ad8:D->Sto->DK->Prop
 |.ref a,st,Q=>∃ns:List Int,rdS st a (ns.map D.int)/\Q (.int ns.sum) st
 |_,_,_=>False
abbrev a08:D->Sto->DK->Prop
 |.ref a,st,Q=>∃ds,rdS st a ds/\Q (.bl AC) st
 |_,_,_=>False
abbrev aj6:D->D->Sto->DK->Prop
 |.ref a,.int i,st,Q=>(-(2^62)<=i/\i<2^62)/\∃ds k d,st a=AA (.lst ds)/\ixN ds.length i=AA k/\ds[k]?=AA d/\Q d (b0 st a (.lst (ds.eraseIdx k)))
 |_,_,_,_=>False
abbrev X1:D->Sto->DK->Prop
 |.ref a,st,Q=>∃ds d,st a=AA (.lst (ds++[d]))/\Q d (b0 st a (.lst ds))
 |_,_,_=>False
abbrev cx9:D->Option Int->Option Int->Sto->DK->Prop
 |.tup ds,lo,hi,st,Q=>Q (.tup (D7 ds lo hi)) st
 |_,_,_,_,_=>False
abbrev an5:D->Sto->Prop
 |.ref a,st=>∃kvs,st a=AA (.dct kvs)
 |_,_=>False
abbrev T3(ne:Bool)(x y:D)(st:Sto)(Q:DK):Prop:=∃c w,x=.str ⟨#[c]⟩/\y=.str w/\Q (.bl (ne != AB (c∈w.cps.toList))) st
abbrev ab8(z:Str)(y:D)(st:Sto)(Q:DK):Prop:=∃p ts,y=.ref p/\rdS st p (ts.map D.str)/\JU z ts=AC/\Q (.str (JV z ts)) st
abbrev an8:D->D->D->Sto->DK->Prop
 |.ref a,.str w,d,st,Q=>∃kvs,st a=AA (.dct kvs)/\Q ((w6 kvs (.inr w)).getD d) st
 |_,_,_,_,_=>False
abbrev am3(c:Str):D->Sto->DK->Prop
 |.tup _,st,Q=>Q (.bl AF) st
 |.ref a,st,Q=>∃fs,st a=AA (.ins c fs)/\Q (.bl AC) st
 |_,_,_=>False
abbrev ae0:D->D->Sto->DK->Prop
 |.ref a,d,st,Q=>∃ds,st a=AA (.lst ds)/\ds.length<sizeLine/\Q .non (b0 st a (.lst (ds++[d])))
 |_,_,_,_=>False
abbrev ad4:D->D->Sto->DK->Prop
 |.ref a,.ref b,st,Q=>∃ds es,st a=AA (.lst ds)/\st b=AA (.lst es)/\ds.length+es.length<=sizeLine/\Q .non (b0 st a (.lst (ds++es)))
 |.ref a,.tup es,st,Q=>∃ds,st a=AA (.lst ds)/\ds.length+es.length<=sizeLine/\Q .non (b0 st a (.lst (ds++es)))
 |_,_,_,_=>False
abbrev N2:D->D->Sto->DK->Prop
 |.ref a,x,st,Q=>∃ds,rdS st a ds/\x.pure=AC/\D.pures ds=AC/\g5 x<=150/\∃(j:Nat)(d:D),ds[j]?=AA d/\deq d x=AC/\(∀(i:Nat)e,i<j->ds[i]?=AA e->deq e x=AF)/\Q (.int (j:Int)) st
 |.tup ds,x,st,Q=>x.pure=AC/\D.pures ds=AC/\g5 x<=150/\∃(j:Nat)(d:D),ds[j]?=AA d/\deq d x=AC/\(∀(i:Nat)e,i<j->ds[i]?=AA e->deq e x=AF)/\Q (.int (j:Int)) st
 |_,_,_,_=>False
abbrev z6:D->Sto->Prop
 |.ref a,st=>∃ds,rdS st a ds
 |_,_=>False
abbrev X5:D->Sto->Prop
 |.tup _,_=>True
 |.ref a,st=>∃ds,rdS st a ds
 |_,_=>False
abbrev z9(l:List (List D)):List Ax:=l.map λds=>.list (D.pys ds)
abbrev ac5(st:Sto):List D->List (List D)->Prop
 |[],[]=>True
 |d::ds,l::ls=>(∃a,d=.ref a/\rdS st a l/\D.pures l=AC)/\ac5 st ds ls
 |_,_=>False
abbrev J9(ne:Bool):D->D->Sto->DK->Prop
 |.ref a,.ref b,st,Q=>∃xs ys,rdS st a xs/\rdS st b ys/\((D.pures xs=AC/\D.pures ys=AC/\BE (D.pys xs)<=149/\Q (.bl (ne != BF (D.pys xs) (D.pys ys))) st)\/(xs.length≠ys.length/\Q (.bl ne) st)\/∃xss yss,ac5 st xs xss/\ac5 st ys yss/\BE (z9 xss)<=149/\Q (.bl (ne != BF (z9 xss) (z9 yss))) st)
 |_,_,_,_=>False
abbrev N1:d9->List Nat->List D->d9
 |env,i::is,d::ds=>N1 (env.set i (AA d)) is ds
 |env,_,_=>env
abbrev F3:Tg->D->d9->(d9->Prop)->Prop
 |.n i,d,env,k=>k (env.set i (AA d))
 |.tup is,d,env,k=>∃ds,d=.tup ds/\ds.length=is.length/\k (N1 env is ds)
abbrev i6(lo:Int)(n:Nat):List D:=(Da n).map λi=>.int (lo+(i:Nat))
abbrev j8:Nat->List D->List D
 |_,[]=>[]
 |i,d::ds=>.tup [.int i,d]::j8 (i+1) ds
abbrev t8(chk:Sto->Prop)(t:Tg)(tc:DB)(te:DT)(Q:List D->Sto->Prop):List D->List D->d9->Sto->Prop
 |[],acc,_,st=>chk st/\Q acc st
 |d::ds,acc,env,st=>chk st/\F3 t d env λenv'=>tc env' st λb st1=>
   if b=AC then te env' st1 λv st2=>t8 chk t tc te Q ds (acc++[v]) env' st2
   else t8 chk t tc te Q ds acc env' st1
abbrev M6(fr:List Nat)(k:Nat)(env:d9):d9:=(fr.map λj=>(env[j]?).join)++Ah k AE
abbrev E.isNon:E->Bool
 |.non=>AC
 |_=>AF
@[reducible]noncomputable def ItK:=List D->(Sto->Prop)->Sto->Prop
mutual
noncomputable def wpE(Z:Sg):E->DT
 |.non=>λ_ st Q=>Q .non st
 |.bl b=>λ_ st Q=>Q (.bl b) st
 |.int i=>λ_ st Q=>Q (.int i) st
 |.str x=>λ_ st Q=>Q (.str x) st
 |.v i=>λenv st Q=>∃d,env[i]?=AA (AA d)/\Q d st
 |.tup es=>λenv st Q=>l6 Z es env st λds st1=>Q (.tup ds) st1
 |.lst es=>λenv st Q=>l6 Z es env st λds st1=>∀p,st1 p=AE->Q (.ref p) (b0 st1 p (.lst ds))
 |.bin o a b=>λenv st Q=>wpE Z a env st λx st1=>wpE Z b env st1 λy st2=>v0 o x y st2 Q
 |.neg a=>λenv st Q=>wpE Z a env st λx st1=>∃i,x=.int i/\Q (.int (-i)) st1
 |.cmp o a b=>λenv st Q=>wpE Z a env st λx st1=>wpE Z b env st1 λy st2=>j6 o x y st2 Q
 |.isN a=>λenv st Q=>wpE Z a env st λx st1=>(x=.non/\Q (.bl AC) st1)\/(x≠.non/\Q (.bl AF) st1)
 |.and a b=>λenv st Q=>wpE Z a env st λx st1=>∃c,x=.bl c/\(if c=AC then wpE Z b env st1 Q else Q (.bl AF) st1)
 |.or a b=>λenv st Q=>wpE Z a env st λx st1=>∃c,x=.bl c/\(if c=AC then Q (.bl AC) st1 else wpE Z b env st1 Q)
 |.not a=>λenv st Q=>wpE Z a env st λx st1=>∃c,x=.bl c/\Q (.bl (!c)) st1
 |.ite c a b=>λenv st Q=>wpE Z c env st λx st1=>∃k,x=.bl k/\(if k=AC then wpE Z a env st1 Q else wpE Z b env st1 Q)
 |.ix a b=>λenv st Q=>wpE Z a env st λx st1=>wpE Z b env st1 λy st2=>ixR x y st2 Q
 |.sl a lo hi=>λenv st Q=>wpE Z a env st λx st1=>
   (if lo.isNon=AC then λk=>k AE st1 else λ(k:Option Int->Sto->Prop)=>wpE Z lo env st1 λd st'=>∃i,d=.int i/\k (AA i) st') λl st2=>
   (if hi.isNon=AC then λk=>k AE st2 else λ(k:Option Int->Sto->Prop)=>wpE Z hi env st2 λd st'=>∃i,d=.int i/\k (AA i) st') λh st3=>slR x l h st3 Q
 |.dsel ks vs k=>λenv st Q=>l6 Z vs env st λds st1=>wpE Z k env st1 λx st2=>∃w d,x=.str w/\g8 (ks.zip ds) w=AA d/\Q d st2
 |.gsel g k=>λenv st Q=>Z.G g≠[]/\wpE Z k env st λx st1=>∃w d,x=.str w/\g8 (Z.G g) w=AA d/\Q d st1
 |.len a=>λenv st Q=>wpE Z a env st λx st1=>S8 x st1 Q
 |.abs a=>λenv st Q=>wpE Z a env st λx st1=>∃i,x=.int i/\Q (.int (if i<0 then -i else i)) st1
 |.toInt a=>λenv st Q=>wpE Z a env st λx st1=>V4 x st1 Q
 |.sum a=>λenv st Q=>wpE Z a env st λx st1=>ad8 x st1 Q
 |.tuple a=>λenv st Q=>wpE Z a env st λx st1=>Q1 x st1 Q
 |.max a b=>λenv st Q=>wpE Z a env st λx st1=>wpE Z b env st1 λy st2=>∃i j,x=.int i/\y=.int j/\Q (.int (if j>i then j else i)) st2
 |.call f es=>λenv st Q=>Z.F f=AC/\l6 Z es env st λds st1=>Z.Phi f ds st1 Q
 |.gf f=>λ_ st Q=>Z.F f=AC/\Q (.fn f) st
 |.callv i es=>λenv st Q=>∃x,env[i]?=AA (AA x)/\W8 Z (l6 Z es env) st Q x
 |.gc g=>λ_ st Q=>∃d,Z.Kc g=AA d/\Q d st
 |.dict ks vs=>λenv st Q=>l6 Z vs env st λds st1=>∀p,st1 p=AE->Q (.ref p) (b0 st1 p (.dct ((ks.zip ds).map λkv=>(.inr kv.1,kv.2))))
 |.cmpl ne a b=>λenv st Q=>wpE Z a env st λx st1=>wpE Z b env st1 λy st2=>J9 ne x y st2 Q
 |.fld a f=>λenv st Q=>wpE Z a env st λx st1=>∃p c fs d,x=.ref p/\st1 p=AA (.ins c fs)/\f∈Z.C c/\fs.lookup f=AA d/\Q d st1
 |.meth a m es=>λenv st Q=>wpE Z a env st λx st1=>∃p c fs,x=.ref p/\st1 p=AA (.ins c fs)/\fs.lookup m=AE/\Z.F (d0 c m)=AC/\l6 Z es env st1 λds st2=>Z.Phi (d0 c m) (.ref p::ds) st2 Q
 |.make c es=>λenv st Q=>Z.MF (d0 c "__init__")=AC/\l6 Z es env st λds st1=>∀p,st1 p=AE->Z.Mk (d0 c "__init__") (.ref p::ds) (b0 st1 p (.ins c [])) λv st2=>v=.non/\Q (.ref p) st2
 |.app a b=>λenv st Q=>wpE Z a env st λx st1=>z6 x st1/\wpE Z b env st1 λy st2=>ae0 x y st2 Q
 |.ext a b=>λenv st Q=>wpE Z a env st λx st1=>z6 x st1/\wpE Z b env st1 λy st2=>ad4 x y st2 Q
 |.popAt a b=>λenv st Q=>wpE Z a env st λx st1=>z6 x st1/\wpE Z b env st1 λy st2=>aj6 x y st2 Q
 |.pop a=>λenv st Q=>wpE Z a env st λx st1=>X1 x st1 Q
 |.cat a b=>λenv st Q=>wpE Z a env st λx st1=>wpE Z b env st1 λy st2=>∃i j,x=.str i/\y=.str j/\i.length+j.length<=sizeLine/\Q (.str (i++j)) st2
 |.ssl a lo hi=>λenv st Q=>wpE Z a env st λx st1=>wpE Z lo env st1 λl st2=>∃i,l=.int i/\wpE Z hi env st2 λh st3=>∃j,h=.int j/\∃w,x=.str w/\w.length<=sizeLine/\Q (.str (Bf w (AA i) (AA j))) st3
 |.slen a=>λenv st Q=>wpE Z a env st λx st1=>∃w,x=.str w/\w.length<=sizeLine/\Q (.int w.length) st1
 |.tstr a=>λenv st Q=>wpE Z a env st λx st1=>∃i:Int,x=.int i/\i.natAbs.log2<1920/\Q (.str (Dh i)) st1
 |.sint a=>λenv st Q=>wpE Z a env st λx st1=>∃n:Int,x=.str (AD (Dh n))/\0<=n/\n<10^10/\Q (.int n) st1
 |.sin ne a b=>λenv st Q=>wpE Z a env st λx st1=>wpE Z b env st1 λy st2=>T3 ne x y st2 Q
 |.join a b=>λenv st Q=>wpE Z a env st λx st1=>∃z,x=.str z/\wpE Z b env st1 λy st2=>ab8 z y st2 Q
 |.sgt a k d=>λenv st Q=>wpE Z a env st λx st1=>an5 x st1/\wpE Z k env st1 λy st2=>wpE Z d env st2 λz st3=>an8 x y z st3 Q
 |.isC c a=>λenv st Q=>c∈Z.C "!is"/\wpE Z a env st λx st1=>am3 c x st1 Q
 |.isX c a=>λenv st Q=>c∈Z.C "!ix"/\wpE Z a env st λx st1=>∃a,x=.ref a/\st1 a=AA .exc/\Q (.bl (c=="NoText")) st1
 |.gnin a g=>λenv st Q=>Z.G g≠[]/\wpE Z a env st λx st1=>∃w,x=.str w/\Q (.bl (!(g8 (Z.G g) w).isSome)) st1
 |.index a b=>λenv st Q=>wpE Z a env st λx st1=>X5 x st1/\wpE Z b env st1 λy st2=>N2 x y st2 Q
 |.comp _ fr k t it c e=>λenv st Q=>Z.X=AF/\w4 Z it env st λitems chk st1=>items.length<=1000000 /\
   t8 chk t (if c.isNon=AC then λ_ st Q=>Q AC st else λenv st Q=>wpE Z c env st λd st'=>∃b,d=.bl b/\Q b st') (λenv st Q=>wpE Z e env st Q) (λacc st'=>∀p,st' p=AE->Q (.ref p) (b0 st' p (.lst acc))) items [] (M6 fr k env) st1
noncomputable def l6(Z:Sg):Es->DA
 |.nil=>λ_ st Q=>Q [] st
 |.cons e r=>λenv st Q=>wpE Z e env st λd st1=>l6 Z r env st1 λds st2=>Q (d::ds) st2
noncomputable def w4(Z:Sg):It->d9->Sto->ItK->Prop
 |.seq e=>λenv st k=>wpE Z e env st λd st1=>(∃ds,d=.tup ds/\k ds (λ_=>True) st1)\/(∃a ds,d=.ref a/\rdS st1 a ds/\k ds (λst'=>rdS st' a ds) st1)
 |.rng a=>λenv st k=>wpE Z a env st λd st1=>∃j:Int,d=.int j/\(-(2^62)<=j/\j<2^62)/\k (i6 0 j.toNat) (λ_=>True) st1
 |.rng2 a b=>λenv st k=>wpE Z a env st λd st1=>wpE Z b env st1 λe st2=>∃i j:Int,d=.int i/\e=.int j/\(-(2^62)<=i/\i<2^62/\-(2^62)<=j/\j<2^62)/\k (i6 i (j-i).toNat) (λ_=>True) st2
 |.enum e=>λenv st k=>wpE Z e env st λd st1=>(∃ds,d=.tup ds/\k (j8 0 ds) (λ_=>True) st1)\/(∃a ds,d=.ref a/\rdS st1 a ds/\k (j8 0 ds) (λst'=>rdS st' a ds) st1)
 |.rev e=>λenv st k=>wpE Z e env st λd st1=>∃a ds,d=.ref a/\rdS st1 a ds/\k ds.reverse (λst'=>rdS st' a ds) st1
end
abbrev wpT(Z:Sg)(e:E):DB:=λenv st Q=>wpE Z e env st λd st'=>∃b,d=.bl b/\Q b st'
structure DEnds where
 nx:d9->Sto->Prop
 rt:DK
 bk:d9->Sto->Prop:=λ_ _=>False
 ct:d9->Sto->Prop:=λ_ _=>False
@[reducible]noncomputable def DS:=DEnds->d9->Sto->Prop
abbrev o4(chk:Sto->Prop)(t:Tg)(tb:DS)(F:DEnds):List D->d9->Sto->Prop
 |[],env,st=>chk st/\F.nx env st
 |d::ds,env,st=>chk st/\F3 t d env λenv'=>tb {F with nx:=o4 chk t tb F ds,ct:=o4 chk t tb F ds,bk:=F.nx} env' st
abbrev B7(tc:DB)(tb:DS)(F:DEnds):Nat->d9->Sto->Prop
 |0,_,_=>False
 |n+1,env,st=>tc env st λb st1=>if b=AC then tb {F with nx:=B7 tc tb F n,ct:=B7 tc tb F n,bk:=F.nx} env st1 else F.nx env st1
abbrev tr3(f g h:Str)(k:Int):Str:=if k=0 then f else if k=1 then g else h
mutual
noncomputable def wpS(Z:Sg):S->DS
 |.set i e=>λF env st=>wpE Z e env st λd st1=>F.nx (env.set i (AA d)) st1
 |.pre i=>λF env st=>∀p,st p=AE->F.nx (env.set i (AA (.ref p))) (b0 st p (.dct []))
 |.put o i v=>λF env st=>wpE Z v env st λd st1=>wpE Z o env st1 λx st2=>wpE Z i env st2 λy st3=>
   ∃a j k ds,x=.ref a/\y=.int j/\st3 a=AA (.lst ds)/\ixN ds.length j=AA k/\F.nx env (b0 st3 a (.lst (ds.set k d)))
 |.fldS o f v=>λF env st=>wpE Z v env st λd st1=>wpE Z o env st1 λx st2=>∃p c fs,x=.ref p/\st2 p=AA (.ins c fs)/\f∈Z.C c/\fs.length<1000/\F.nx env (b0 st2 p (.ins c (N7 f d fs)))
 |.ex e=>λF env st=>wpE Z e env st λ_ st1=>F.nx env st1
 |.iff c a b=>λF env st=>wpT Z c env st λk st1=>if k=AC then c9 Z a F env st1 else c9 Z b F env st1
 |.ret e=>λF env st=>wpE Z e env st F.rt
 |.retN=>λF _ st=>F.rt .non st
 |.for t it b=>λF env st=>w4 Z it env st λitems chk st1=>o4 chk t (c9 Z b) F items env st1
 |.while c b=>λF env st=>∃n,B7 (wpT Z c) (c9 Z b) F n env st
 |.cont=>λF env st=>F.ct env st
 |.pass=>λF env st=>F.nx env st
 |.raise=>λ_ _ _=>Z.X=AC/\Z.C "!ix"≠[]
 |.try3 w t f g h i c e=>λF env st=>Z.C "!ix"≠[]/\∃k s,env[w]?=AA (AA (.int k))/\env[t]?=AA (AA (.str s))/\Z.F (tr3 f g h k)=AC /\
   ((Z.X=AF/\Z.Phi (tr3 f g h k) [.str s] (λ_=>AE) λd _=>F.nx (env.set i (AA d)) st)\/
     (Z.T (tr3 f g h k) [.str s] (λ_=>AE) (λd _=>F.nx (env.set i (AA d)) st)/\∀a,st a=AE->F.nx ((env.set e AE).set c (AA (.ref a))) (b0 st a .exc)))
noncomputable def c9(Z:Sg):Ss->DS
 |.nil=>λF env st=>F.nx env st
 |.cons s r=>λF env st=>wpS Z s {F with nx:=c9 Z r F} env st
end
structure Def where
 np:Nat
 N:List Str
 body:Ss
@[reducible]noncomputable def d6:=Str->Option Def
abbrev ab1(f:Def)(ds:List D):d9:=ds.map AA++Ah (f.N.length-ds.length) AE
structure Gs where
 tab:Str->List (Str×D)
 cls:Str->List Str
 cst:Str->Option D
 rs:Bool
abbrev rsG(G:Gs):Gs:={G with rs:=AC}
class NoRs(G:Gs):Prop where
 no:G.rs=AF
abbrev bo4(P:d6)(G:Gs)(lo lo2:Str->Spec)(po:Bool)(lc:Nat->List Str->Ss->List D->Spec)(lt:Str->Spec)(f:Str):Spec:=λds st Q=>∃fd,P f=AA fd/\ds.length=fd.np/\c9 ⟨λf=>(P f).isSome,lo,G.tab,G.cls,lo2,λf=>po&&(P f).isSome,lc,G.cst,G.rs,lt⟩ fd.body
   {nx:=λ_ st'=>∃s2,Sub s2 st'/\Q .non s2,rt:=λd st'=>∃s2,Sub s2 st'/\Q d s2} (ab1 fd ds) st
abbrev M9(N:List Str)(ds cs:List D):d9:=(ds++cs).map AA++Ah (N.length-(ds++cs).length) AE
abbrev c15(P:d6)(G:Gs)(lo lo2:Str->Spec)(po:Bool)(lc:Nat->List Str->Ss->List D->Spec)(lt:Str->Spec)(np:Nat)(N:List Str)(b:Ss)(cs:List D):Spec:=λds st Q=>ds.length=np/\c9 ⟨λf=>(P f).isSome,lo,G.tab,G.cls,lo2,λf=>po&&(P f).isSome,lc,G.cst,G.rs,lt⟩ b
   {nx:=λ_ st'=>∃s2,Sub s2 st'/\Q .non s2,rt:=λd st'=>∃s2,Sub s2 st'/\Q d s2} (M9 N ds cs) st
abbrev B2(P:d6):Nat->Gs->(Str->Spec)×(Str->Spec)×Bool×(Nat->List Str->Ss->List D->Spec)
 |0,_=>(λ_ _ _ _=>False,λ_ _ _ _=>False,AF,λ_ _ _ _ _ _ _=>False)
 |n+1,G=>(bo4 P G (B2 P n G).1 (B2 P n G).2.1 (B2 P n G).2.2.1 (B2 P n G).2.2.2 (B2 P n (rsG G)).1,(B2 P n G).1,AC,c15 P G (B2 P n G).1 (B2 P n G).2.1 (B2 P n G).2.2.1 (B2 P n G).2.2.2 (B2 P n (rsG G)).1)
@[reducible]noncomputable def C3(P:d6)(G:Gs)(n:Nat):=B2 P n G
abbrev sem(P:d6)(G:Gs)(n:Nat):Str->Spec:=(C3 P G n).1
abbrev T0(P:d6)(G:Gs)(n:Nat):Nat->List Str->Ss->List D->Spec:=(C3 P G n).2.2.2
def b60{P:d6}{G:Gs}{n:Nat}:sem P G (n+1)=bo4 P G (sem P G n) (C3 P G n).2.1 (C3 P G n).2.2.1 (T0 P G n) (sem P (rsG G) n):=rfl
class Tbs where
 ps:List AM
 mt:Ss->BR->List Str->Iu->Prop
 kt:Bool
variable{H:Hp}{a p:AM}{xs:List V}{o:HO}{σ:L2.St}{st:Sto}{kvs:List (Key×D)}{ob:Ob}{X:Cx}{t:DT}{Qd:DK}{Q:VK}
structure FnScC(N P:List Str)(sc:BR):Prop where
 kind:sc.kind=.function
 co:sc.isCoroutine=AF
 gen:sc.isGenerator=AF
 nd:N.Nodup
 pre:N.take P.length=P
 par:∀x∈P,sc.names.lookup x=AA .local
 nocell:∀y∈sc.names,y.2≠.cell
 fre:∀y∈sc.names,y.2=.free->sc.names.lookup y.1=AA .free
abbrev W0(H:Hp)(cv:AI):Prop:=∃c o u vs q t,cv=.ref c/\H c=AA (.frz o u)/\(∀vs,u≠.lst vs)/\o.data=.fields vs/\vs[1]?=AA (.str q t)
variable [Tbs]
structure CloF(fd:By)(np:Nat)(N ps:List Str)(b:Ss):Prop where
 sc:FnScC N ps fd.scope
 np:ps.length=np
 mt:Tbs.mt b fd.scope N fd.body
 bind:∀us:List AI,us.length=ps.length->HW fd ⟨us,[]⟩=pure (ps.zip us)
 gl:fd.globals=AO
 bl:fd.builtins=DQ
 has:∀x,(x,Ba)∈fd.scope.names->∃c,fd.closure.lookup x=AA c
 fre:∀x c,fd.closure.lookup x=AA c->(x,Ba)∈fd.scope.names
 inj:∀x y c,fd.closure.lookup x=AA c->fd.closure.lookup y=AA c->x=y
structure CloR(H:Hp)(f:AM)(fd:By)(np:Nat)(N:List Str)(us:List V):Prop where
 ex:∃o u,H f=AA (.frz o u)/\(∀vs,u≠.lst vs)/\o.data=.func fd
 cd:W0 H fd.code
 cl:∀x c,fd.closure.lookup x=AA c->∃o' u' w,H c=AA (.frz o' u')/\(∀vs,u'≠.lst vs)/\o'.data=.cell (AA w)
 at':∀(i:Nat)v,us[i]?=AA v->∃x c o' u' w,N[np+i]?=AA x/\fd.closure.lookup x=AA c/\H c=AA (.frz o' u')/\(∀vs,u'≠.lst vs)/\o'.data=.cell (AA w)/\d3 v w
abbrev W4(H:Hp)(f:AM)(np:Nat)(N:List Str)(b:Ss)(us:List V):Prop:=∃fd ps,CloF fd np N ps b/\CloR H f fd np N us
abbrev SqX(K:AS)(H:Hp)(a:AM)(xs:List V):Prop:=H a=AA (.tup xs)\/(Tbs.kt=AC/\SqT K H a xs)
def SqX.sqt{K:AS}(h:SqX K H a xs):SqT K H a xs:=h.elim (λh=>.inl (.inl h)) λh=>h.2
def SqX.of{K:AS}(h:H a=AA (.tup xs)):SqX K H a xs:=.inl h
inductive IsD(K:AS)(H:Hp):D->V->Prop where
 |non:IsD K H .non .non
 |bl (b:Bool):IsD K H (.bl b) (.bl b)
 |int (i:Int):IsD K H (.int i) (.int i)
 |str (x:Str):IsD K H (.str x) (.str x)
 |ref (a:AM):IsD K H (.ref a) (.ref a)
 |fn {f:Str} {a:AM}:Aw K AO f=AA (AA (.ref a))->IsD K H (.fn f) (.ref a)
 |clo {f:AM} {np:Nat} {N:List Str} {b:Ss} {ds:List D} {us:List V}:W4 H f np N b us->ds.length=us.length->(∀(i:Nat)d v,ds[i]?=AA d->us[i]?=AA v->IsD K H d v)->IsD K H (.clo np N b ds) (.ref f)
 |tup {a:AM} {ds:List D} {vs:List V}:SqX K H a vs->ds.length=vs.length->(∀(i:Nat)d v,ds[i]?=AA d->vs[i]?=AA v->IsD K H d v)->IsD K H (.tup ds) (.ref a)
 |ktup {a:AM} {ns:List Int}:SqT K (λ_=>AE) a (ns.map V.int)->IsD K H (.ktup ns) (.ref a)
structure IsDs(K:AS)(H:Hp)(ds:List D)(vs:List V):Prop where
 len:ds.length=vs.length
 at':∀(i:Nat)d v,ds[i]?=AA d->vs[i]?=AA v->IsD K H d v
section
variable {K:AS} {H' H2:Hp} {d:D} {v:V} {ds es:List D} {vs ws:List V}
def IsD.mk(h:SqX K H a vs)(r:IsDs K H ds vs):IsD K H (.tup ds) (.ref a):=.tup h r.len r.at'
def IsD.tup_invX{v:V}(h:IsD K H (.tup ds) v):∃a vs,v=.ref a/\SqX K H a vs/\IsDs K H ds vs:=by
 cases h with
 |tup a b c=>exact⟨_,_,rfl,a,⟨b,c⟩⟩
def IsD.tup_inv{v:V}(h:IsD K H (.tup ds) v):∃a vs,v=.ref a/\SqT K H a vs/\IsDs K H ds vs:=let⟨a,vs,e,q,r⟩:=h.tup_invX;⟨a,vs,e,q.sqt,r⟩
def IsDs.nil:IsDs K H [] []:=⟨rfl,λi d v h=>by simp at h⟩
def IsDs.cons(h:IsD K H d v)(r:IsDs K H ds vs):IsDs K H (d::ds) (v::vs):=⟨by simp[r.len],λi e w h1 h2=>by
 cases i with
 |zero=>simp at h1 h2;subst h1 h2;exact h
 |succ i=>exact r.at' i e w (by simpa using h1) (by simpa using h2)⟩
def IsDs.get(r:IsDs K H ds vs){i:Nat}{d:D}(h:ds[i]?=AA d):∃v,vs[i]?=AA v/\IsD K H d v:=by
 have hi:i<ds.length:=(Ai.mp h).1;rw[r.len]at hi;exact⟨vs[i],AX hi,r.at' i d _ h (AX hi)⟩
def IsDs.get'(r:IsDs K H ds vs){i:Nat}{v:V}(h:vs[i]?=AA v):∃d,ds[i]?=AA d/\IsD K H d v:=by
 have hi:i<vs.length:=(Ai.mp h).1;rw[<-r.len]at hi;exact⟨ds[i],AX hi,r.at' i _ v (AX hi) h⟩
def IsDs.inv_cons{d:D}{ds:List D}{vs:List V}(r:IsDs K H (d::ds) vs):∃v ws,vs=v::ws/\IsD K H d v/\IsDs K H ds ws:=by
 cases vs with
 |nil=>have:=r.len;simp at this
 |cons v ws=>exact⟨v,ws,rfl,r.at' 0 d v rfl rfl,⟨by have:=r.len;simpa using this,λi e w h1 h2=>r.at' (i+1) e w (by simpa using h1) (by simpa using h2)⟩⟩
def IsDs.inv_nil{vs:List V}(r:IsDs K H [] vs):vs=[]:=by
 cases vs with
 |nil=>rfl
 |cons v ws=>have:=r.len;simp at this
def IsDs.append(r:IsDs K H ds vs)(q:IsDs K H es ws):IsDs K H (ds++es) (vs++ws):=⟨by simp[r.len,q.len],λi d v h1 h2=>by
 by_cases hi:i<ds.length
 ·rw[BW hi]at h1;rw[BW (by rw[<-r.len];exact hi)]at h2;exact r.at' i d v h1 h2
 ·rw[Bd ⋯]at h1;rw[Bd (by rw[<-r.len];lia),<-r.len]at h2;exact q.at' _ d v h1 h2⟩
theorem IsDs.drop(r:IsDs K H ds vs)(n:Nat):IsDs K H (ds.drop n) (vs.drop n):=⟨by simp[r.len],λi d v h1 h2=>by
 rw[Hz]at h1 h2;exact r.at' _ d v h1 h2⟩
theorem IsDs.take(r:IsDs K H ds vs)(n:Nat):IsDs K H (ds.take n) (vs.take n):=⟨by simp[r.len],λi d v h1 h2=>by
 rw[List.getElem?_take]at h1 h2
 split at h1
 ·rename_i hi;rw[if_pos hi]at h2;exact r.at' _ d v h1 h2
 ·cases h1⟩
theorem IsDs.set(r:IsDs K H ds vs)(h:IsD K H d v)(n:Nat):IsDs K H (ds.set n d) (vs.set n v):=⟨by simp[r.len],λi e w h1 h2=>by
 rw[GX]at h1 h2
 by_cases hi:n=i
 ·rw[if_pos hi]at h1 h2
  split at h1
  ·rename_i hl;rw[<-r.len,if_pos hl]at h2;cases h1;cases h2;exact h
  ·cases h1
 ·rw[if_neg hi]at h1 h2;exact r.at' i e w h1 h2⟩
theorem IsDs.erase:∀{ds:List D}{vs:List V}(r:IsDs K H ds vs)(n:Nat),IsDs K H (ds.eraseIdx n) (vs.eraseIdx n)
 |[],vs,r,n=>by rw[r.inv_nil];simpa using IsDs.nil
 |d::ds,vs,r,n=>by
  obtain⟨v,ws,rfl,h1,h2⟩:=r.inv_cons;cases n with
  |zero=>simpa using h2
  |succ n=>simpa using IsDs.cons h1 (IsDs.erase h2 n)
theorem IsDs.ints:∀{ns:List Int}{vs:List V},IsDs K H (ns.map D.int) vs->vs=ns.map V.int
 |[],vs,r=>by rw[BS]at r;exact r.inv_nil
 |n::ns,vs,r=>by
  rw[AV]at r;obtain⟨v,ws,rfl,h1,h2⟩:=r.inv_cons;cases h1;rw[IsDs.ints h2];rfl
abbrev TK(K:AS)(H H':Hp):Prop:=((∀a xs,SqT K H a xs->SqT K H' a xs)/\∀a xs,H a=AA (.tup xs)->H' a=AA (.tup xs))/\∀a o u,H a=AA (.frz o u)->(∀vs,u≠.lst vs)->H' a=AA (.frz o u)
def SqX.keep(h:SqX K H a xs)(k:TK K H H'):SqX K H' a xs:=h.elim (λh=>.inl (k.1.2 _ _ h)) λh=>.inr ⟨h.1,k.1.1 _ _ h.2⟩
def TK.refl:TK K H H:=⟨⟨λ_ _ h=>h,λ_ _ h=>h⟩,λ_ _ _ h _=>h⟩
def TK.trans(a:TK K H H')(b:TK K H' H2):TK K H H2:=⟨⟨λc xs h=>b.1.1 c xs (a.1.1 c xs h),λc xs h=>b.1.2 c xs (a.1.2 c xs h)⟩,λc o u h n=>b.2 c o u (a.2 c o u h n) n⟩
def TK.upd'(h:∀xs,H p≠AA (.tup xs))(h2:∀o u,H p≠AA (.frz o u)):TK K H (upd H p o):=⟨⟨λa xs q=>by
 rcases q with(q|⟨o',q⟩)|q
 ·exact .inl (.inl (by have ne:a≠p:=(λz=>h xs (by rw[<-z];exact q));rw[f6 ne];exact q))
 ·exact .inl (.inr ⟨o',by have ne:a≠p:=(λz=>h2 _ _ (by rw[<-z];exact q));rw[f6 ne];exact q⟩)
 ·exact .inr q,λa xs q=>by have ne:a≠p:=(λz=>h xs (by rw[<-z];exact q));rw[f6 ne];exact q⟩,λa o' u q n=>by have ne:a≠p:=(λz=>h2 _ _ (by rw[<-z];exact q));rw[f6 ne];exact q⟩
def TK.new(h:H p=AE):TK K H (upd H p o):=TK.upd' (by rw[h];exact λ_=>nofun) (by rw[h];exact λ_ _=>nofun)
def TK.putI{C dx:AM}{xs:List (Str×V)}(h:H p=AA (.ins C dx xs)):TK K H (upd H p o):=TK.upd' (by rw[h];exact λ_ z=>by cases z) (by rw[h];exact λ_ _ z=>by cases z)
def TK.putD{xs:List (Key×V)}(h:H p=AA (.dK xs)):TK K H (upd H p o):=TK.upd' (by rw[h];exact λ_ z=>by cases z) (by rw[h];exact λ_ _ z=>by cases z)
def TK.put(h:H p=AA (.lst xs)):TK K H (upd H p o):=TK.upd' (by rw[h];exact λ_ z=>by cases z) (by rw[h];exact λ_ _ z=>by cases z)
def W0.mono{cv:AI}(h:W0 H cv)(k:TK K H H'):W0 H' cv:=let⟨c,o,u,vs,q,t,e1,e2,e3,e4⟩:=h;⟨c,o,u,vs,q,t,e1,k.2 _ _ _ e2 e3,e3,e4⟩
theorem CloR.mono{f:AM}{fd:By}{np:Nat}{N:List Str}{us:List V}(h:CloR H f fd np N us)(k:TK K H H'):CloR H' f fd np N us:=by
 obtain⟨⟨o,u,e1,e2,e3⟩,e5,e6,e7⟩:=h;refine⟨⟨o,u,k.2 _ _ _ e1 e2,e2,e3⟩,e5.mono k,λx c hx=>?_,λi v hv=>?_⟩
 ·obtain⟨o',u',w,a,b,c⟩:=e6 x c hx;exact⟨o',u',w,k.2 _ _ _ a b,b,c⟩
 ·obtain⟨x,c,o',u',w,a1,a2,a3,a4,a5⟩:=e7 i v hv;exact⟨x,c,o',u',w,a1,a2,k.2 _ _ _ a3 a4,a4,a5⟩
theorem W4.mono{f:AM}{np:Nat}{N:List Str}{b:Ss}{us:List V}(h:W4 H f np N b us)(k:TK K H H'):W4 H' f np N b us:=let⟨fd,ps,a,b⟩:=h;⟨fd,ps,a,b.mono k⟩
theorem IsD.mono(h:IsD K H d v)(k:TK K H H'):IsD K H' d v:=by
 induction h with
 |non=>exact .non
 |bl b=>exact .bl b
 |int i=>exact .int i
 |str x=>exact .str x
 |ref a=>exact .ref a
 |ktup h=>exact .ktup h
 |fn h=>exact .fn h
 |clo a b _ ih=>exact .clo (a.mono k) b ih
 |tup a b _ ih=>exact .tup (a.keep k) b ih
theorem IsDs.mono(h:IsDs K H ds vs)(k:TK K H H'):IsDs K H' ds vs:=⟨h.len,λi d v a b=>(h.at' i d v a b).mono k⟩
structure RelE(K:AS)(H:Hp)(env:d9)(σ:L2.St):Prop where
 len:env.length=σ.length
 at':∀(i:Nat)d,env[i]?=AA (AA d)->∃v,σ[i]?=AA (AA v)/\IsD K H d v
variable {env:d9} {st':Sto}
theorem RelE.mono(r:RelE K H env σ)(k:TK K H H'):RelE K H' env σ:=⟨r.len,λi d h=>let⟨v,a,b⟩:=r.at' i d h;⟨v,a,b.mono k⟩⟩
theorem RelE.set(r:RelE K H env σ)(h:IsD K H d v)(i:Nat):RelE K H (env.set i (AA d)) (σ.set i (AA v)):=⟨by simp[r.len],λj e q=>by
 rw[GX]at q ⊢
 by_cases hi:i=j
 ·rw[if_pos hi]at q ⊢
  split at q
  ·rename_i hl;rw[<-r.len,if_pos hl];cases q;exact⟨v,rfl,h⟩
  ·cases q
 ·rw[if_neg hi]at q ⊢;exact r.at' j e q⟩
structure IsKs(K:AS)(H:Hp)(kvs:List (Key×D))(vs:List (Key×V)):Prop where
 ks:kvs.map (·.1)=vs.map (·.1)
 ds:IsDs K H (kvs.map (·.2)) (vs.map (·.2))
theorem IsKs.mono{vs:List (Key×V)}(h:IsKs K H kvs vs)(k:TK K H H'):IsKs K H' kvs vs:=⟨h.ks,h.ds.mono k⟩
theorem IsKs.inv_cons{e:Key×D}{vs:List (Key×V)}(h:IsKs K H (e::kvs) vs):∃v ws,vs=(e.1,v)::ws/\IsD K H e.2 v/\IsKs K H kvs ws:=by
 cases vs with
 |nil=>have:=h.ks;simp at this
 |cons f ws=>
  obtain⟨k,v⟩:=f;have e1:=h.ks;simp only[AV,BO]at e1;have e2:=h.ds;simp only[AV]at e2;obtain⟨v',ws',e3,i1,i2⟩:=e2.inv_cons;simp only[BO]at e3;obtain⟨rfl,rfl⟩:=e3;exact⟨v,ws,by rw[e1.1],i1,⟨e1.2,i2⟩⟩
theorem IsKs.look:∀{kvs:List (Key×D)}{vs:List (Key×V)}(h:IsKs K H kvs vs)(k:Key),(w6 kvs k=AE/\k7 vs k=AE)\/∃d v,w6 kvs k=AA d/\k7 vs k=AA v/\IsD K H d v
 |[],vs,h,k=>by
  have:vs=[]:=by have:=h.ks;simpa using this.symm
  subst this;exact .inl ⟨rfl,rfl⟩
 |e::kvs,vs,h,k=>by
  obtain⟨v,ws,rfl,i1,i2⟩:=h.inv_cons;unfold w6 k7;rw[DV,DV]
  by_cases hk:e.1=k
  ·simp only[hk,decide_true];exact .inr ⟨e.2,v,rfl,rfl,i1⟩
  ·simp only[hk,decide_false];exact IsKs.look i2 k
structure IsPs(K:AS)(H:Hp)(kvs:List (Ax×D))(vs:List (Ax×V)):Prop where
 ks:kvs.map (·.1)=vs.map (·.1)
 ds:IsDs K H (kvs.map (·.2)) (vs.map (·.2))
theorem IsPs.mono{kvs:List (Ax×D)}{vs:List (Ax×V)}(h:IsPs K H kvs vs)(k:TK K H H'):IsPs K H' kvs vs:=⟨h.ks,h.ds.mono k⟩
structure IsFs(K:AS)(H:Hp)(fs:List (Str×D))(vs:List (Str×V)):Prop where
 ks:fs.map (·.1)=vs.map (·.1)
 ds:IsDs K H (fs.map (·.2)) (vs.map (·.2))
theorem IsFs.nil:IsFs K H [] []:=⟨rfl,.nil⟩
theorem IsFs.mono{fs:List (Str×D)}{vs:List (Str×V)}(h:IsFs K H fs vs)(k:TK K H H'):IsFs K H' fs vs:=⟨h.ks,h.ds.mono k⟩
theorem IsFs.inv_cons{e:Str×D}{fs:List (Str×D)}{vs:List (Str×V)}(h:IsFs K H (e::fs) vs):∃v ws,vs=(e.1,v)::ws/\IsD K H e.2 v/\IsFs K H fs ws:=by
 cases vs with
 |nil=>have:=h.ks;simp at this
 |cons f ws=>
  obtain⟨k,v⟩:=f;have e1:=h.ks;simp only[AV,BO]at e1;have e2:=h.ds;simp only[AV]at e2;obtain⟨v',ws',e3,i1,i2⟩:=e2.inv_cons;simp only[BO]at e3;obtain⟨rfl,rfl⟩:=e3;exact⟨v,ws,by rw[e1.1],i1,⟨e1.2,i2⟩⟩
theorem IsFs.cons{k:Str}{d:D}{v:V}{fs:List (Str×D)}{vs:List (Str×V)}(h:IsD K H d v)(r:IsFs K H fs vs):IsFs K H ((k,d)::fs) ((k,v)::vs):=⟨by simp only[AV,r.ks],by simp only[AV];exact .cons h r.ds⟩
theorem IsFs.length{fs:List (Str×D)}{vs:List (Str×V)}(h:IsFs K H fs vs):fs.length=vs.length:=by simpa using h.ds.len
theorem IsFs.look:∀{fs:List (Str×D)}{vs:List (Str×V)}(h:IsFs K H fs vs)(k:Str),(fs.lookup k=AE/\vs.lookup k=AE)\/∃d v,fs.lookup k=AA d/\vs.lookup k=AA v/\IsD K H d v
 |[],vs,h,k=>by
  have:vs=[]:=by have:=h.ks;simpa using this.symm
  subst this;exact .inl ⟨rfl,rfl⟩
 |e::fs,vs,h,k=>by
  obtain⟨v,ws,rfl,i1,i2⟩:=h.inv_cons;obtain⟨g,d⟩:=e;rw[Gy,Gy];cases hk:k==g with
  |true=>exact .inr ⟨d,v,rfl,rfl,i1⟩
  |false=>exact IsFs.look i2 k
theorem IsFs.put:∀{fs:List (Str×D)}{vs:List (Str×V)}(h:IsFs K H fs vs){d:D}{v:V}(i:IsD K H d v)(f:Str),IsFs K H (N7 f d fs) (o8 f v vs)
 |[],vs,h,d,v,i,f=>by
  have:vs=[]:=by have:=h.ks;simpa using this.symm
  subst this;exact .cons i .nil
 |e::fs,vs,h,d,v,i,f=>by
  obtain⟨w,ws,rfl,i1,i2⟩:=h.inv_cons;obtain⟨g,x⟩:=e;unfold N7 o8
  by_cases hg:g=f
  ·rw[if_pos hg,if_pos hg];exact .cons i i2
  ·rw[if_neg hg,if_neg hg];exact .cons i1 (IsFs.put i2 i f)
abbrev ObR(K:AS)(H:Hp)(a:AM):Ob->Prop
 |.lst ds=>∃vs,H a=AA (.lst vs)/\IsDs K H ds vs
 |.fro ds=>∃vs,Rd H a (.lst vs)/\IsDs K H ds vs
 |.dct kvs=>∃vs,H a=AA (.dK vs)/\IsKs K H kvs vs
 |.dtt kvs=>∃vs,H a=AA (.dT vs)/\IsPs K H kvs vs/\Tbs.kt=AF
 |.ins c fs=>∃C dx vs,H a=AA (.ins C dx vs)/\Aw K AO c=AA (AA (.ref C))/\IsFs K H fs vs
 |.exc=>∃C,H a=AA (.ext λh=>∃o,h.get? a=AA o/\o.cls=.ref C/\o.dict=AE/\∃vs,o.data=.fields vs)/\Aw K AO "NoText"=AA (AA (.ref C))
structure TabOk(H:Hp)(ps:Array AI):Prop where
 tr:TriplesOk ps.toList
 co:∀pos cv,codeAmong pos ps.toList=AA cv->W0 H cv
abbrev ab2(H:Hp):Prop:=∀P∈Tbs.ps,∃ps,H P=AA (.tbl ps)/\TabOk H ps
def ab2.stay(h:ab2 H)(k:TK K H H')(t:∀a ps,H a=AA (.tbl ps)->H' a=AA (.tbl ps)):ab2 H':=λP hP=>by
 obtain⟨ps,e,o⟩:=h P hP;exact⟨ps,t P ps e,o.tr,λpos cv hc=>(o.co pos cv hc).mono k⟩
structure RelS(K:AS)(st:Sto)(H:Hp):Prop where
 ob:∀a o,st a=AA o->ObR K H a o
 tb:ab2 H
def RelS.free(r:RelS K st H)(h:H p=AE):st p=AE:=by
 cases q:st p with
 |none=>rfl
 |some o=>
  have z:=r.ob p o q;cases o with
  |lst ds=>obtain⟨vs,a,_⟩:=z;rw[h]at a;cases a
  |fro ds=>
   obtain⟨vs,a|⟨o',a⟩,_⟩:=z
   ·rw[h]at a;cases a
   ·rw[h]at a;cases a
  |dct kvs=>obtain⟨vs,a,_⟩:=z;rw[h]at a;cases a
  |dtt kvs=>obtain⟨vs,a,_⟩:=z;rw[h]at a;cases a
  |ins c fs=>obtain⟨C,dx,vs,a,_⟩:=z;rw[h]at a;cases a
  |exc=>obtain⟨C,a,_⟩:=z;rw[h]at a;cases a
def RelS.sub(r:RelS K st' H)(s:Sub st st'):RelS K st H:=⟨λa o h=>r.ob a o (s a o h),r.tb⟩
theorem RelS.stay(r:RelS K st H)(k:TK K H H')(ho:∀a o,st a=AA o->H' a=H a)(t:∀a ps,H a=AA (.tbl ps)->H' a=AA (.tbl ps)):RelS K st H':=⟨λa o h=>by
 have z:=r.ob a o h;have e:=ho a o h;cases o with
 |lst ds=>obtain⟨vs,q,w⟩:=z;exact⟨vs,by rw[e];exact q,w.mono k⟩
 |fro ds=>
  obtain⟨vs,q|⟨o',q⟩,w⟩:=z
  ·exact⟨vs,.inl (by rw[e];exact q),w.mono k⟩
  ·exact⟨vs,.inr ⟨o',by rw[e];exact q⟩,w.mono k⟩
 |dct kvs=>obtain⟨vs,q,w⟩:=z;exact⟨vs,by rw[e];exact q,w.mono k⟩
 |dtt kvs=>obtain⟨vs,q,w,t⟩:=z;exact⟨vs,by rw[e];exact q,w.mono k,t⟩
 |ins c fs=>obtain⟨C,dx,vs,q,n,w⟩:=z;exact⟨C,dx,vs,by rw[e];exact q,n,w.mono k⟩
 |exc=>obtain⟨C,q,n⟩:=z;exact⟨C,by rw[e];exact q,n⟩,r.tb.stay k t⟩
def aa0(h:∀ps,H p≠AA (.tbl ps)):∀a ps,H a=AA (.tbl ps)->(upd H p o) a=AA (.tbl ps):=λa ps e=>by
 have ne:a≠p:=λz=>h ps (by rw[<-z];exact e);rw[f6 ne];exact e
def b15(h:H p=AE):∀a ps,H a=AA (.tbl ps)->(upd H p o) a=AA (.tbl ps):=aa0 (by rw[h];exact λ_=>nofun)
theorem RelS.new(r:RelS K st H)(h:H p=AE):RelS K st (upd H p o):=r.stay (TK.new h) (λa u e=>f6 λz=>by
 rw[z,r.free h]at e;cases e) (b15 h)
def RelS.putAny(r:RelS K st H){o':HO}(tk:TK K H (upd H p o'))(w:ObR K (upd H p o') p ob)(t:∀ps,H p≠AA (.tbl ps)):RelS K (b0 st p ob) (upd H p o'):=by
 have r':RelS K (λb=>if b=p then AE else st b) H:=⟨λb u q=>by
  split at q
  ·cases q
  ·exact r.ob b u q,r.tb⟩
 have r2:=r'.stay tk (λb u q=>f6 λz=>by
  have q':(if b=p then AE else st b)=AA u:=q;rw[if_pos z]at q';cases q') (aa0 t)
 refine⟨λa o e=>?_,r2.tb⟩
 by_cases ha:a=p
 ·subst ha;rw[b7]at e;cases e;exact w
 ·rw[g6 ha]at e;exact r2.ob a o (by show(if a=p then AE else st a)=AA o;rw[if_neg ha];exact e)
def RelS.putNew(r:RelS K st H)(h:H p=AE)(w:IsDs K H ds vs):RelS K (b0 st p (.lst ds)) (upd H p (.lst vs)):=
 r.putAny (TK.new h) ⟨vs,o7,w.mono (TK.new h)⟩ (by rw[h];exact λ_=>nofun)
def RelS.putNewD(r:RelS K st H){ks:List (Key×V)}(h:H p=AE)(w:IsKs K H kvs ks):RelS K (b0 st p (.dct kvs)) (upd H p (.dK ks)):=
 r.putAny (TK.new h) ⟨ks,o7,w.mono (TK.new h)⟩ (by rw[h];exact λ_=>nofun)
def RelS.putOld(r:RelS K st H)(h:H p=AA (.lst xs))(w:IsDs K H ds vs):RelS K (b0 st p (.lst ds)) (upd H p (.lst vs)):=
 r.putAny (TK.put h) ⟨vs,o7,w.mono (TK.put h)⟩ (by rw[h];exact λ_ z=>by cases z)
theorem RelS.lst(r:RelS K st H){ds:List D}(h:st a=AA (.lst ds)):∃vs,H a=AA (.lst vs)/\IsDs K H ds vs:=r.ob a _ h
theorem RelS.dct(r:RelS K st H)(h:st a=AA (.dct kvs)):∃vs,H a=AA (.dK vs)/\IsKs K H kvs vs:=r.ob a _ h
theorem RelS.ins(r:RelS K st H){c:Str}{fs:List (Str×D)}(h:st a=AA (.ins c fs)):∃C dx vs,H a=AA (.ins C dx vs)/\Aw K AO c=AA (AA (.ref C))/\IsFs K H fs vs:=r.ob a _ h
def RelS.rd(r:RelS K st H){ds:List D}(h:rdS st a ds):∃vs,SqL K H a vs/\IsDs K H ds vs:=by
 rcases h with h|h
 ·obtain⟨vs,a,b⟩:=r.ob a _ h;exact⟨vs,.inl (.inl a),b⟩
 ·obtain⟨vs,a,b⟩:=r.ob a _ h;exact⟨vs,.inl a,b⟩
end
abbrev TbE(o o':HO):Prop:=o'=o\/∃p p',o=.tbl p/\o'=.tbl p'
def TbE.trans{a b c:HO}(x:TbE a b)(y:TbE b c):TbE a c:=by
 rcases x with rfl|⟨p,p',rfl,rfl⟩
 ·exact y
 ·rcases y with rfl|⟨q,q',_,rfl⟩
  ·exact .inr ⟨p,p',rfl,rfl⟩
  ·exact .inr ⟨p,q',rfl,rfl⟩
abbrev Ev(st:Sto)(H:Hp)(st':Sto)(H':Hp):Prop:=∀a o,H a=AA o->st a=AE->(∃o',H' a=AA o'/\TbE o o')/\st' a=AE
section
variable {K:AS} {st1 st2:Sto} {H1 H2:Hp}
def Ev.get(e:Ev st H st1 H1)(h:H a=AA o)(k:st a=AE)(n:∀p,o≠.tbl p):H1 a=AA o/\st1 a=AE:=by
 obtain⟨⟨o',h',t⟩,k'⟩:=e a o h k
 rcases t with rfl|⟨p,_,rfl,_⟩
 ·exact⟨h',k'⟩
 ·exact absurd rfl (n p)
def Ev.refl:Ev st H st H:=λ_ o h k=>⟨⟨o,h,.inl rfl⟩,k⟩
theorem Ev.trans(a:Ev st H st1 H1)(b:Ev st1 H1 st2 H2):Ev st H st2 H2:=λc o h k=>by
 obtain⟨⟨o',h',t⟩,y⟩:=a c o h k;obtain⟨⟨o2,h2,t2⟩,z⟩:=b c o' h' y;exact⟨⟨o2,h2,t.trans t2⟩,z⟩
def RelS.no(r:RelS K st H)(h:H a=AA o)(n1:∀vs,o≠.lst vs)(n2:∀u vs,o≠.frz u (.lst vs))(n3:∀vs,o≠.dK vs)(n4:∀C dx vs,o≠.ins C dx vs)(n5:∀vs,o≠.dT vs)(n6:∀f,o≠.ext f:=by exact λ_=>nofun):st a=AE:=by
 cases z:st a with
 |none=>rfl
 |some ob=>
  have w:=r.ob a ob z;cases ob with
  |lst ds=>obtain⟨vs,w1,_⟩:=w;rw[h]at w1;cases w1;exact absurd rfl (n1 vs)
  |fro ds=>
   obtain⟨vs,w1|⟨u,w1⟩,_⟩:=w
   ·rw[h]at w1;cases w1;exact absurd rfl (n1 vs)
   ·rw[h]at w1;cases w1;exact absurd rfl (n2 u vs)
  |dct kvs=>obtain⟨vs,w1,_⟩:=w;rw[h]at w1;cases w1;exact absurd rfl (n3 vs)
  |dtt kvs=>obtain⟨vs,w1,_⟩:=w;rw[h]at w1;cases w1;exact absurd rfl (n5 vs)
  |ins c fs=>obtain⟨C,dx,vs,w1,_⟩:=w;rw[h]at w1;cases w1;exact absurd rfl (n4 C dx vs)
  |exc=>obtain⟨C,w1,_⟩:=w;rw[h]at w1;cases w1;exact absurd rfl (n6 _)
def Ev.tk(e:Ev st H st1 H1)(r:RelS K st H):TK K H H1:=⟨⟨λa xs q=>by
 rcases q with(q|⟨o',q⟩)|q
 ·exact .inl (.inl (e.get q (r.no q (λ_ z=>by cases z) (λ_ _ z=>by cases z) (λ_ z=>by cases z) (λ_ _ _ z=>by cases z) (λ_ z=>by cases z)) (λ_ z=>by cases z)).1)
 ·exact .inl (.inr ⟨o',(e.get q (r.no q (λ_ z=>by cases z) (λ_ _ z=>by cases z) (λ_ z=>by cases z) (λ_ _ _ z=>by cases z) (λ_ z=>by cases z)) (λ_ z=>by cases z)).1⟩)
 ·exact .inr q,λa xs q=>(e.get q (r.no q (λ_ z=>by cases z) (λ_ _ z=>by cases z) (λ_ z=>by cases z) (λ_ _ _ z=>by cases z) (λ_ z=>by cases z)) (λ_ z=>by cases z)).1⟩,λa o u q n=>(e.get q (r.no q (λ_ z=>by cases z) (λ_ vs z=>by cases z;exact n vs rfl) (λ_ z=>by cases z) (λ_ _ _ z=>by cases z) (λ_ z=>by cases z)) (λ_ z=>by cases z)).1⟩
def Ev.new(h:H p=AE):Ev st H st (upd H p o):=λa u e k=>⟨⟨u,by rw[f6 (o6 e h)];exact e,.inl rfl⟩,k⟩
def Ev.newS(h:H p=AE):Ev st H (b0 st p ob) (upd H p o):=λa u e k=>⟨⟨u,by rw[f6 (o6 e h)];exact e,.inl rfl⟩,by rw[g6 (o6 e h)];exact k⟩
def Ev.put{ob':Ob}(h:st p=AA ob'):Ev st H (b0 st p ob) (upd H p o):=λa u e k=>by
 have ne:a≠p:=λz=>by rw[z,h]at k;cases k
 exact⟨⟨u,by rw[f6 ne];exact e,.inl rfl⟩,by rw[g6 ne];exact k⟩
def Ev.drop(s:Sub st2 st1)(e:Ev st H st1 H1):Ev st H st2 H1:=λa o h k=>by
 obtain⟨x,y⟩:=e a o h k;refine⟨x,?_⟩;cases z:st2 a with
 |none=>rfl
 |some u=>rw[s a u z]at y;cases y
end
abbrev m9(K:AS)(st:Sto)(H:Hp)(Qd:DK)(Q:VK):Prop:=∀v d H' st',Ev st H st' H'->IsD K H' d v->RelS K st' H'->Qd d st'->Q v H'
abbrev up(K:AS)(t:DT):TE:=λσ H Q=>∃env st Qd,RelE K H env σ/\RelS K st H/\t env st Qd/\m9 K st H Qd Q
abbrev upB(K:AS)(t:DB):TT:=λσ H Q=>∃env st Qd,RelE K H env σ/\RelS K st H/\t env st Qd/\∀b H' st',Ev st H st' H'->RelS K st' H'->Qd b st'->Q b H'
abbrev upA(K:AS)(n:Nat)(t:DA):TA:=λσ H Q=>∃env st Qd,RelE K H env σ/\RelS K st H/\t env st Qd/\∀vs ds H' st',Ev st H st' H'->IsDs K H' ds vs->ds.length=n->RelS K st' H'->Qd ds st'->Q vs H'
def _root_.L2.PE.imp{x:AR}{t t':TE}(h:PE X x t)(i:∀σ H Q,t' σ H Q->t σ H Q):PE X x t':=λpins s σ H Q I q=>h pins s σ H Q I (i σ H Q q)
def _root_.L2.PT.imp{x:AR}{t t':TT}(h:PT X x t)(i:∀σ H Q,t' σ H Q->t σ H Q):PT X x t':=λpins s σ H Q I q=>h pins s σ H Q I (i σ H Q q)
def _root_.L2.PW.imp{x:AR}{t t':TT}(h:PW X x t)(i:∀σ H Q,t' σ H Q->t σ H Q):PW X x t':=λw pins s σ H Q I q=>h w pins s σ H Q I (i σ H Q q)
def _root_.L2.PA.imp{x:List AR}{t t':TA}(h:PA X x t)(i:∀σ H Q,t' σ H Q->t σ H Q):PA X x t':=λpos pins s σ H Q I q=>h pos pins s σ H Q I (i σ H Q q)
def _root_.L2.PSs.imp{x:List BG}{t t':TS}(h:PSs X x t)(i:∀D σ H,t' D σ H->t D σ H):PSs X x t':=λpins s σ H D I q=>h pins s σ H D I (i D σ H q)
def _root_.L2.PS.imp{x:BG}{t t':TS}(h:PS X x t)(i:∀D σ H,t' D σ H->t D σ H):PS X x t':=λpins s σ H D I q=>h pins s σ H D I (i D σ H q)
def m9.after{K:AS}{st1:Sto}{H1:Hp}(p:m9 K st H Qd Q)(e:Ev st H st1 H1):m9 K st1 H1 Qd Q:=λv d H2 st2 e2 is rs q=>p v d H2 st2 (e.trans e2) is rs q
def m9.here{K:AS}{v:V}{d:D}(p:m9 K st H Qd Q)(i:IsD K H d v)(r:RelS K st H)(q:Qd d st):Q v H:=p v d H st Ev.refl i r q
def m9.newL{K:AS}{ds:List D}{vs:List V}(p:m9 K st H Qd Q)(r:RelS K st H)(w:IsDs K H ds vs)(q:∀p,st p=AE->Qd (.ref p) (b0 st p (.lst ds))):∀l,H l=AE->Q (.ref l) (upd H l (.lst vs)):=λl hl=>
 p _ (.ref l) _ (b0 st l (.lst ds)) (Ev.newS hl) (.ref l) (r.putNew hl w) (q l (r.free hl))
def m9.newT{K:AS}{ds:List D}{vs:List V}(p:m9 K st H Qd Q)(r:RelS K st H)(w:IsDs K H ds vs)(q:Qd (.tup ds) st):∀l,H l=AE->Q (.ref l) (upd H l (.tup vs)):=λl hl=>
 p _ (.tup ds) _ st (Ev.new hl) (IsD.mk (SqX.of o7) (w.mono (TK.new hl))) (r.new hl) q
def up1{K:AS}{f:D->Sto->DK->Prop}{R:V->Hp->Prop}(h:up K (λenv st Q=>t env st λd st1=>f d st1 Q) σ H Q)
  (k:∀v d H' st' Qd,IsD K H' d v->RelS K st' H'->f d st' Qd->m9 K st' H' Qd Q->R v H'):up K t σ H R:=by
 obtain⟨env,st,Qd,hE,hS,ht,hq⟩:=h;exact⟨env,st,_,hE,hS,ht,λv d H' st' ev is rs q=>k v d H' st' Qd is rs q (hq.after ev)⟩
def up2{K:AS}{u:DT}{f:D->D->Sto->DK->Prop}{R:V->V->Hp->Prop}(h:up K (λenv st Q=>t env st λd st1=>u env st1 λe st2=>f d e st2 Q) σ H Q)
  (k:∀v w d e H' st' Qd,IsD K H' d v->IsD K H' e w->RelS K st' H'->f d e st' Qd->m9 K st' H' Qd Q->R v w H'):up K t σ H λv H1=>up K u σ H1 λw H2=>R v w H2:=by
 obtain⟨env,st,Qd,hE,hS,ht,hq⟩:=h;exact⟨env,st,_,hE,hS,ht,λv d H' st' ev is rs q=>⟨env,st',_,hE.mono (ev.tk hS),rs,q,λw e H2 st2 ev2 is2 rs2 q2=>
  k v w d e H2 st2 Qd (is.mono (ev2.tk rs)) is2 rs2 q2 ((hq.after ev).after ev2)⟩⟩
def ao0{K:AS}{n:Nat}{t:DA}{f:List D->Sto->DK->Prop}{R:List V->Hp->Prop}(h:up K (λenv st Q=>t env st λds st1=>f ds st1 Q) σ H Q)
  (k:∀vs ds H' st' Qd,IsDs K H' ds vs->ds.length=n->RelS K st' H'->f ds st' Qd->m9 K st' H' Qd Q->R vs H'):upA K n t σ H R:=by
 obtain⟨env,st,Qd,hE,hS,ht,hq⟩:=h;exact⟨env,st,_,hE,hS,ht,λvs ds H' st' ev is hl rs q=>k vs ds H' st' Qd is hl rs q (hq.after ev)⟩
def cv8{x:AR}(h:PE X x (up X.K t))(he:∀whole,HS x X.env whole=(do let v <-whole;HD x.pos;holding [v] (truthy v))):
  PT X x (upB X.K λenv st Q=>t env st λd st'=>∃b,d=.bl b/\Q b st'):=PT.imp (cm1 h he) λσ H Q q=>by
 obtain⟨env,st,Qd,hE,hS,ht,hq⟩:=q;refine⟨env,st,_,hE,hS,ht,λv d H' st' ev is rs q=>?_⟩;obtain⟨b,rfl,q⟩:=q;cases is;exact⟨b,rfl,hq b H' st' ev rs q⟩
end Ek
namespace Ek
open PySem PySem.Spec PyProof.Rows L2
variable [Tbs]
mutual
theorem B8:∀d:D,d.pure=AC->d.py.canLay0=AC
 |.non,_=>rfl
 |.bl _,_=>rfl
 |.int _,_=>rfl
 |.str _,h=>h
 |.tup ds,h=>by show Bj (D.pys ds)=AC;exact M7 ds h
 |.ref _,h=>nomatch h
 |.fn _,h=>nomatch h
 |.clo _ _ _ _,h=>nomatch h
 |.ktup _,h=>nomatch h
theorem M7:∀ds:List D,D.pures ds=AC->Bj (D.pys ds)=AC
 |[],_=>rfl
 |d::r,h=>by
  have h':d.pure=AC/\D.pures r=AC:=by simpa[D.pures]using h
  show(d.py.canLay0&&Bj (D.pys r))=AC;rw[B8 d h'.1,M7 r h'.2];rfl
end
theorem Z3:∀{ds:List D},D.pures ds=AC->∀d∈ds,d.pure=AC
 |[],_,d,h=>by cases h
 |e::r,h,d,hd=>by
  have h':e.pure=AC/\D.pures r=AC:=by simpa[D.pures]using h
  rcases AT.mp hd with z|z
  ·rw[z];exact h'.1
  ·exact Z3 h'.2 d z
section
variable {X:Cx} {pins:List (AM×Obj)} {σ:L2.St} {H:Hp} {s:AL}
theorem ao8{P:D->Prop}(ih:∀d v u,P d->IsD X.K H d v->d3 v u->∃as,Reads s.heap u d.py as):∀(ds:List D)(vs:List V)(us:List AI),(∀d∈ds,P d)->IsDs X.K H ds vs->c7 vs us->∃as,ReadsAll s.heap us (D.pys ds) as
 |[],vs,us,_,r,q=>by rw[r.inv_nil]at q;cases q;exact⟨[],.nil⟩
 |d::ds,vs,us,hp,r,q=>by
  obtain⟨v,ws,rfl,h1,h2⟩:=r.inv_cons;cases q with
  |cons q1 q2=>
   obtain⟨as,ra⟩:=ih d v _ (hp d ∎) h1 q1;obtain⟨bs,rb⟩:=ao8 ih ds ws _ (λe he=>hp e (by simp[he])) h2 q2;exact⟨as++bs,.cons ra rb⟩
def y4(I:L2.Inv X pins σ H s){d:D}{v:V}(h:IsD X.K H d v):∀{u:AI},d.pure=AC->d3 v u->∃as,Reads s.heap u d.py as:=by
 induction h with
 |non=>intro u _ r;cases r;exact⟨_,.none⟩
 |bl b=>intro u _ r;cases r;exact⟨_,.bool b⟩
 |int i=>intro u _ r;obtain⟨t,rfl⟩:=r;exact⟨_,.int i t⟩
 |str x=>intro u _ r;obtain⟨t,rfl⟩:=r;exact⟨_,.str x t⟩
 |ref a=>intro u h;cases h
 |fn _=>intro u h;cases h
 |clo _ _ _ _=>intro u h;cases h
 |ktup _=>intro u h;cases h
 |@tup a ds vs hq hl hat ih=>
  intro u hp r;cases r;obtain⟨its,rv,⟨o,ho,hc,n,hd⟩,hz⟩:=I.tuple hq.sqt;have all:∀(ds':List D)(vs':List V)(us':List AI),(∀(i:Nat)d v,ds'[i]?=AA d->vs'[i]?=AA v->∀{u:AI},d.pure=AC->d3 v u->∃as,Reads s.heap u d.py as)->ds'.length=vs'.length->D.pures ds'=AC->c7 vs' us'->∃as,ReadsAll s.heap us' (D.pys ds') as:=by
   intro ds'
   induction ds' with
   |nil=>intro vs' us' _ hl' _ q;cases vs' with
    |nil=>cases q;exact⟨[],.nil⟩
    |cons a b=>simp at hl'
   |cons e es ihe=>
    intro vs' us' hat' hl' hp' q;cases vs' with
    |nil=>simp at hl'
    |cons w ws=>
     have hp2:e.pure=AC/\D.pures es=AC:=by simpa[D.pures]using hp'
     cases q with
     |cons q1 q2=>
      obtain⟨as,ra⟩:=hat' 0 e w rfl rfl hp2.1 q1;obtain⟨bs,rb⟩:=ihe ws _ (λi d v a b=>hat' (i+1) d v (by simpa using a) (by simpa using b)) (by simpa using hl') hp2.2 q2;exact⟨as++bs,.cons ra rb⟩
  obtain⟨as,ra⟩:=all ds vs its ih hl hp rv;exact⟨as,.tuple ho hc hd (by simpa using ra)⟩
def a05{A:BV}{a b:Nat}(hu:A.units+200<CO)(h:FF a b<=150):A.units+min a b<CO:=by
 have:min a b<=150:=h;lia
def cm5(hu:X.A.units+200<CO):OpR X (Bc .Eq) (λx y H Q=>∃d e,IsD X.K H d x/\IsD X.K H e y/\d.pure=AC/\e.pure=AC/\FF (g5 d) (g5 e)<=150/\Q (.bl (deq d e)) H):=by
 intro pins s σ H x y v u Q I rx ry h;obtain⟨d,e,h1,h2,p1,p2,hd,q⟩:=h;obtain⟨as,ra⟩:=y4 I h1 p1 rx;obtain⟨bs,rb⟩:=y4 I h2 p2 ry;exact IM ra rb (B8 d p1) (B8 e p2) (a05 hu hd) X.prog X.w _ _ ⟨.bl (deq d e),H,I,rfl,q⟩
def cj3(hu:X.A.units+200<CO):OpR X (Bc .NotEq) (λx y H Q=>∃d e,IsD X.K H d x/\IsD X.K H e y/\d.pure=AC/\e.pure=AC/\FF (g5 d) (g5 e)<=150/\Q (.bl (!deq d e)) H):=by
 intro pins s σ H x y v u Q I rx ry h;obtain⟨d,e,h1,h2,p1,p2,hd,q⟩:=h;obtain⟨as,ra⟩:=y4 I h1 p1 rx;obtain⟨bs,rb⟩:=y4 I h2 p2 ry;exact Hl ra rb (B8 d p1) (B8 e p2) (a05 hu hd) X.prog X.w _ _ ⟨.bl (!deq d e),H,I,rfl,q⟩
theorem ai1:∀(ds:List D)(x:D),((D.pys ds).any λy=>Ao y x.py)=ds.any λy=>deq y x
 |[],_=>rfl
 |d::r,x=>by
  show(Ao d.py x.py||(D.pys r).any _)=(deq d x||r.any _);rw[ai1 r x];rfl
def Z8{A:BV}{a b:Nat}(hu:A.units+200<CO)(h:b<=150):A.units+1+min a b<CO:=by
 have:min a b<=b:=EF _ _;lia
def be0(hu:X.A.units+200<CO):OpR X (Bc .In) (λx y H Q=>∃d es,IsD X.K H d x/\IsD X.K H (.tup es) y/\d.pure=AC/\D.pures es=AC/\g5 d<=150/\Q (.bl (es.any λe=>deq e d)) H):=by
 intro pins s σ H x y v u Q I rx ry h;obtain⟨d,es,h1,h2,p1,p2,hd,q⟩:=h;obtain⟨as,ra⟩:=y4 I h1 p1 rx;obtain⟨bs,rb⟩:=y4 I h2 p2 ry;have rb':Reads s.heap u (.tuple (D.pys es)) bs:=rb;exact SeqAt.in_tuple_reads rb' ra (M7 es p2) (B8 d p1) (Z8 hu hd) (by rw[ai1];exact⟨.bl _,H,I,rfl,q⟩)
def cg4(hu:X.A.units+200<CO):OpR X (Bc .NotIn) (λx y H Q=>∃d es,IsD X.K H d x/\IsD X.K H (.tup es) y/\d.pure=AC/\D.pures es=AC/\g5 d<=150/\Q (.bl (!es.any λe=>deq e d)) H):=by
 intro pins s σ H x y v u Q I rx ry h;obtain⟨d,es,h1,h2,p1,p2,hd,q⟩:=h;obtain⟨as,ra⟩:=y4 I h1 p1 rx;obtain⟨bs,rb⟩:=y4 I h2 p2 ry;have rb':Reads s.heap u (.tuple (D.pys es)) bs:=rb;exact SeqAt.notIn_tuple_reads rb' ra (M7 es p2) (B8 d p1) (Z8 hu hd) (by rw[ai1];exact⟨.bl _,H,I,rfl,q⟩)
end
end Ek
namespace PySem
def br8:fillsNumberSlot (.type "tuple") "mul"=pure AF:=
 fillsNumberSlot_seq (id:="tuple.__mul__") (r:=AA (.builtin "tuple.__rmul__")) Ei.lookup (by decide+kernel) JD.lookup (by decide+kernel)
def bt1:seqRepeat? (.type "tuple")=pure (AA (.builtin "tuple.__mul__")):=by
 unfold seqRepeat?;rw[seqSlot_of (T:="tuple") (name:="__mul__") (id:="tuple.__mul__") Ei.lookup (by decide+kernel),seqSlot_of (T:="tuple") (name:="__rmul__") (id:="tuple.__rmul__") JD.lookup (by decide+kernel)];rfl
def bs2(a:Int)(t:Tok)(l:AM)(xs:Array AI)(n:Nat)(dd:Option AM)(sl:Array (Option AI)):
  Ks (GU.«int.__rmul__» ⟨[.int a t,.ref l],[]⟩) (λ_ R s=>s.heap.get? l=AA {cls:=.type "tuple",dict:=dd,data:=.seq xs n,slots:=sl}/\R (.ok (.ret Value.notImplemented)) s):=
 .of_wp λprog w A R s h=>by obtain⟨hp,g,d,tk,os⟩:=s;obtain⟨hl,h⟩:=h;wp_walk;exact⟨_,rfl,h⟩
def by8(l:AM)(xs:Array AI)(n:Nat)(dd:Option AM)(sl:Array (Option AI))(k:Int)(u:Tok)(h0:xs.isEmpty=AF)(h1:2<=k)(h2:k<2^63)(hz:xs.size*k.toNat<=sizeLine):
  Ks (GU.«tuple.__mul__» ⟨[.ref l,.int k u],[]⟩) (λ_ R s=>s.heap.get? l=AA {cls:=.type "tuple",dict:=dd,data:=.seq xs n,slots:=sl}/\R (.ok (.ret (At s.heap.objs.size))) {s with heap:=s.heap.push {cls:=EU "tuple",data:=Data.seq (FN (λx1 x2=>x1++x2) #[] (Ah k.toNat xs))},toks:=s.toks}):=
 .of_wp λprog w A R s h=>by
  obtain⟨hp,g,d,tk,os⟩:=s;obtain⟨hl,h⟩:=h;have hT:(⟨hp,g,d,tk,os⟩:AL).TypeIs (.ref l) "tuple":=⟨_,hl,rfl⟩;have c1:(AB (k < -(2^63))||AB (k>=2^63))=AF:=by simp;lia
  have c2:(xs.isEmpty||k==1)=AF:=by rw[h0];simp;lia
  have c3:(AB (k<=0)||xs.isEmpty)=AF:=by rw[h0];simp;lia
  have e4:(xs.size:Int)*k=((xs.size*k.toNat:Nat):Int):=by rw[JE,Int.toNat_of_nonneg ⋯]
  have c4:¬((xs.size:Int)*k>(2^63-1) / 8):=by
   rw[e4];have:(sizeLine:Nat)<=(2^63-1) / 8:=by decide
   lia
  have c5:FK ((xs.size:Int)*k)=AF:=by
   unfold FK;rw[e4];exact decide_eq_false ⋯
  show AU _ _ (asIndex (.int k u)>>=_) _ _ _;refine AJ (AQ ?_);dsimp only;rw[c1];simp only[Ar,if_false];refine AJ (AJ (Dc hl rfl (AQ ?_)));rw[c2,c3];simp only[Ar,if_false];rw[if_neg c4,c5];simp only[Ar,if_false];refine AJ (Bn (AQ ⟨_,rfl,h⟩) ?_);have hs:(FN (λx1 x2=>x1++x2) #[] (Ah k.toNat xs)).size=k.toNat*xs.size:=by
   have:=L2.ag1 xs.toList k.toNat [];simp only[BB]at this;rw[show(Ah k.toNat xs.toList.toArray)=Ah k.toNat xs by simp]at this;rw[show((#[]:Array AI))=([]:List AI).toArray from rfl,this];simp[L2.az6]
  show(FN (λx1 x2=>x1++x2) #[] (Ah k.toNat xs)).size<=sizeLine;rw[hs,GY];exact hz
def bv1(l:AM)(xs:Array AI)(n:Nat)(dd:Option AM)(sl:Array (Option AI))(u:Tok):
  Ks (GU.«tuple.__mul__» ⟨[.ref l,.int 1 u],[]⟩) (λ_ R s=>s.heap.get? l=AA {cls:=.type "tuple",dict:=dd,data:=.seq xs n,slots:=sl}/\R (.ok (.ret (At l))) s):=
 .of_wp λprog w A R s h=>by
  obtain⟨hp,g,d,tk,os⟩:=s;obtain⟨hl,h⟩:=h;have hT:(⟨hp,g,d,tk,os⟩:AL).TypeIs (.ref l) "tuple":=⟨_,hl,rfl⟩;show AU _ _ (asIndex (.int 1 u)>>=_) _ _ _;refine AJ (AQ ?_);dsimp only;rw[if_neg ∅];refine AJ (AJ (Dc hl rfl (AQ ?_)));rw[if_pos ∎];refine AJ (AJ (wpAny_typeOf hT (AQ ?_)));rw[if_pos ∅];exact AJ (JK (AQ ⟨_,rfl,h⟩))
end PySem
namespace L2
open PySem PySem.Spec PyProof.Rows
variable {X:Cx}
abbrev cu5(K:AS):R2:=λx y H Q=>∃a k xs,x=.ref a/\y=.int k/\SqT K H a xs/\xs≠[]/\1<=k/\k<2^62/\xs.length*k.toNat<=sizeLine /\
 (k=1->Q (.ref a) H)/\(k≠1->∀p,H p=AE->Q (.ref p) (upd H p (.tup (Ah k.toNat xs).flatten)))
def cf0:OpR X (Cv .Mult) (cu5 X.K):=by
 intro pins s σ H x y v u Q I rx ry h;obtain⟨a,k,xs,rfl,rfl,ha,hne,h1,h2,hz,q1,q2⟩:=h;cases rx;obtain⟨t,rfl⟩:=ry;obtain⟨its,r,p1,hl⟩:=I.tuple ha;obtain⟨⟨cls,dd,data,sl⟩,ho,hc,n,hd⟩:=id p1;simp only at hc hd;subst hc hd;have hlen:=r.length;have go:∀{R:AI->AL->Prop},AU (model X.prog X.w) X.A (call (.builtin "tuple.__mul__") [.ref a,.int k t]) R X.xe s->AU (model X.prog X.w) X.A (Cv .Mult (.ref a) (.int k t)) R X.xe s:=λhh=>
  wpAny_binaryOp_repeat_ref (T:="tuple") (U:="int") ∅ ⟨_,ho,rfl⟩ (λs'=>JS s' k t) br8 F.fills_int_mul Jj bt1 F.slot_int_index.lookup
   (DU Jj (JS s k t) F.entry_int_rmul (F.args_int_rmul_2 _ _) (bs2 k t a its.toArray n dd sl) ⟨ho,rfl,⟨_,ho,rfl⟩,hh⟩)
 by_cases hk:k=1
 ·subst hk;exact go (DU Ei ⟨_,ho,rfl⟩ JF (Iv _ _) (bv1 a its.toArray n dd sl t) ⟨ho,⟨.ref a,H,I,rfl,q1 rfl⟩⟩)
 ·have hie:its.toArray.isEmpty=AF:=by
   cases its with
   |nil=>exact absurd (Be hlen) hne
   |cons a b=>simp
  refine go (DU Ei ⟨_,ho,rfl⟩ JF (Iv _ _) (by8 a its.toArray n dd sl k t hie ⋯ ⋯ (by rw[Af,<-hlen];exact hz)) ⟨ho,?_⟩);have hnew:FN (λx1 x2=>x1++x2) #[] (Ah k.toNat its.toArray)=(Ah k.toNat its).flatten.toArray:=by
   have:=ag1 its k.toNat [];rw[BB]at this;exact this
  rw[hnew];refine⟨.ref _,_,I.laid (t':=s.toks) (o:=.tup (Ah k.toNat xs).flatten) (λb o e=>AW _ e) (Ae _) ⟨?_,_,r.rep k.toNat,⟨_,BN _ rfl,rfl,rfl,_,rfl⟩⟩,rfl,q2 hk _ I.fresh⟩;rw[az6,GY];exact hz
end L2
namespace Ek
open PySem PySem.Spec PyProof.Rows L2
variable [Tbs]
variable{i:Int}{es:List AR}{t:DA}{H:Hp}{o:Dm}
section
variable {X:Cx} {a b c:AR} {ta tb tc:DT} {pos:Pos}
def ad7{x:AR}{d:D}{v:V}(h:PE X x (tC v))(i:∀H,IsD X.K H d v):PE X x (up X.K λ_ st Q=>Q d st):=PE.imp h λσ H Q q=>by
 obtain⟨env,st,Qd,hE,hS,ht,hq⟩:=q;exact hq.here (i H) hS ht
def cj9{i:Nat}{x:Str}(hN:X.N[i]?=AA x)(hv:Vis X.env.scope x)(hd:(x==("__debug__":Str))=AF)(hcd:(x==("__classdict__":Str))=AF):PE X (.Name x pos) (up X.K λenv st Q=>∃d,env[i]?=AA (AA d)/\Q d st):=
 PE.imp (Q4 hN hv hd hcd) λσ H Q q=>by
  obtain⟨env,st,Qd,hE,hS,⟨d,h1,ht⟩,hq⟩:=q;obtain⟨v,h2,is⟩:=hE.at' i d h1;exact⟨v,h2,hq.here is hS ht⟩
def g9{x:AR}{xs:List AR}{env:Env}(h:∀e p,x≠.Starred e p):As (x::xs) env=(AF,eval x env)::As xs env:=by
 cases x<;>first|rfl|exact absurd rfl (h _ _)
def bb2:PA X [] (upA X.K 0 λ_ st Q=>Q [] st):=PA.imp aa8 λσ H Q q=>by
 obtain⟨env,st,Qd,hE,hS,ht,hq⟩:=q;exact hq [] [] H st Ev.refl .nil rfl hS ht
def U2{n:Nat}(ha:PE X a (up X.K ta))(hr:PA X es (upA X.K n t))(h:∀e p,a≠.Starred e p):PA X (a::es) (upA X.K (n+1) λenv st Q=>ta env st λd st1=>t env st1 λds st2=>Q (d::ds) st2):=
 PA.imp (P3 ha hr (g9 h)) λσ H Q q=>by
  obtain⟨env,st,Qd,hE,hS,ht,hq⟩:=q;exact⟨env,st,_,hE,hS,ht,λv d H1 st1 ev is rs q1=>⟨env,st1,_,hE.mono (ev.tk hS),rs,q1,λvs ds H2 st2 ev2 is2 hl rs2 q2=>
   hq (v::vs) (d::ds) H2 st2 (ev.trans ev2) (.cons (is.mono (ev2.tk rs)) is2) (by simp[hl]) rs2 q2⟩⟩
def cm0{n k:Nat}(h:PA X es (upA X.K n t))(hn:n<=1000):PE X (.Tuple es k pos) (up X.K λenv st Q=>t env st λds st1=>Q (.tup ds) st1):=
 PE.imp (ck6 h) λσ H Q q=>ao0 (f:=λds st1 Q=>Q (.tup ds) st1) q λvs ds H' st' Qd is hl rs ht hq=>⟨by rw[<-is.len,hl];exact HR (as7 hn),hq.newT rs is ht⟩
def co0{n:Nat}(h:PA X es (upA X.K n t))(hn:n<=1000):PE X (.List es pos) (up X.K λenv st Q=>t env st λds st1=>∀p,st1 p=AE->Q (.ref p) (b0 st1 p (.lst ds))):=
 PE.imp (ch9 h) λσ H Q q=>ao0 (f:=λds st1 Q=>∀p,st1 p=AE->Q (.ref p) (b0 st1 p (.lst ds))) q λvs ds H' st' Qd is hl rs ht hq=>⟨by rw[<-is.len,hl];exact HR (as7 hn),hq.newL rs is ht⟩
def IsD.int_inv{K:AS}{v:V}(h:IsD K H (.int i) v):v=.int i:=by cases h;rfl
def IsD.str_inv{K:AS}{i:Str}{v:V}(h:IsD K H (.str i) v):v=.str i:=by cases h;rfl
def IsD.bl_inv{K:AS}{i:Bool}{v:V}(h:IsD K H (.bl i) v):v=.bl i:=by cases h;rfl
def IsD.ref_inv{K:AS}{i:AM}{v:V}(h:IsD K H (.ref i) v):v=.ref i:=by cases h;rfl
def cc9{n k:Nat}(h:n<2^k)(h0:n≠0):n.log2<k:=(KO h0).mpr h
def ay0(h:i.natAbs<2^20000):DY i<=20000:=by
 unfold DY
 by_cases h0:i=0
 ·subst h0;exact An _
 ·rw[if_neg (by simpa using h0)];exact cc9 h ⋯
theorem N9.ok{j:Int}(h:N9 i j):Ke i j:=by
 rcases h with h|⟨h1,h2⟩
 ·exact h.ok
 ·have b1:=ay0 h1;have b2:=ay0 h2;unfold Ke;have:GJ ((DY i:Int)+(DY j:Int))=AF:=by
   unfold GJ;refine decide_eq_false ?_;have:(40000:Int)<=(bitsLine:Nat):=by decide
   lia
  first
   |(rw[this];simp)
   |(intro z;simp only[Az]at z;have z3:=z.2;first|(rw[this]at z3;cases z3)|(simp[this]at z3))
def ce6:OpR X (Cv .Mult) (rI N9 λi j=>.int (i*j)):=opI λ_ _ _ _ _ _ _ hc q=>mul_int q hc.ok
theorem _root_.Ek.IsDs.repl{K:AS}{xs:List D}{vs:List V}(r:IsDs K H xs vs):∀n:Nat,IsDs K H (Ah n xs).flatten (Ah n vs).flatten
 |0=>.nil
 |n+1=>by
  rw[DE,DE,DH,DH];exact r.append (r.repl n)
def co2{o:Er}(ha:PE X a (up X.K ta))(hb:PE X b (up X.K tb)):PE X (.BinOp a o b pos) (up X.K λenv st Q=>ta env st λx st1=>tb env st1 λy st2=>v0 o x y st2 Q):=by
 have bad:∀{P:Prop},False->P:=λh=>h.elim;cases o with
 |Add=>
  refine PE.imp (J5 (ck2.or (cc5.or cg5)) ha hb) λσ H Q q=>up2 (f:=v0 .Add) q λv w d e H' st' Qd i1 i2 rs ht hq=>?_;cases d<;>cases e<;>first|exact Aa ht|skip
  ·exact .inl ⟨_,_,i1.int_inv,i2.int_inv,hq.here (.int _) rs ht⟩
  ·rename_i xs ys;obtain⟨p,vs,e1,q1,r1⟩:=i1.tup_invX;obtain⟨q',ws,e2,q2,r2⟩:=i2.tup_invX;refine .inr (.inl ⟨p,q',vs,ws,e1,e2,q1.sqt,q2.sqt,by rw[<-r1.len,<-r2.len];exact ht.1,λz=>?_,λz1 z2=>?_,λ_ _=>hq.newT rs (r1.append r2) ht.2⟩)
   ·have:xs=[]:=by rw[z]at r1;have:=r1.len;exact Be (by simpa using this)
    subst this;exact hq.here (IsD.mk q2 r2) rs ht.2
   ·have:ys=[]:=by rw[z2]at r2;have:=r2.len;exact Be (by simpa using this)
    subst this;have h2:=ht.2;rw[Ac]at h2;exact hq.here (IsD.mk q1 r1) rs h2
  ·obtain⟨xs,ys,s1,s2,hz,h2⟩:=ht;obtain⟨vs,e1,r1⟩:=rs.lst s1;obtain⟨ws,e2,r2⟩:=rs.lst s2;exact .inr (.inr ⟨_,_,vs,ws,i1.ref_inv,i2.ref_inv,e1,e2,by rw[<-r1.len,<-r2.len];exact hz,hq.newL rs (r1.append r2) h2⟩)
 |Sub=>
  refine PE.imp (J5 cp9 ha hb) λσ H Q q=>up2 (f:=v0 .Sub) q λv w d e H' st' Qd i1 i2 rs ht hq=>?_;cases d<;>cases e<;>first|exact Aa ht|skip
  exact⟨_,_,i1.int_inv,i2.int_inv,hq.here (.int _) rs ht⟩
 |Mult=>
  refine PE.imp (J5 (ce6.or cf0) ha hb) λσ H Q q=>up2 (f:=v0 .Mult) q λv w d e H' st' Qd i1 i2 rs ht hq=>?_;cases d<;>cases e<;>first|exact Aa ht|skip
  ·exact .inl ⟨_,_,i1.int_inv,i2.int_inv,ht.1,hq.here (.int _) rs ht.2⟩
  ·rename_i xs k;obtain⟨p,vs,e1,q1,r1⟩:=i1.tup_invX;obtain⟨h0,h1,h2,h3,ht⟩:=ht;refine .inr ⟨p,k,vs,e1,i2.int_inv,q1.sqt,λz=>h0 (by rw[z]at r1;exact Be (by simpa using r1.len)),h1,h2,by rw[<-r1.len];exact h3,λz=>?_,λ_=>hq.newT rs (r1.repl k.toNat) ht⟩;subst z;have ht':Qd (.tup xs) st':=by simpa using ht
   exact hq.here (IsD.mk q1 r1) rs ht'
 |Mod=>
  refine PE.imp (J5 ck9 ha hb) λσ H Q q=>up2 (f:=v0 .Mod) q λv w d e H' st' Qd i1 i2 rs ht hq=>?_;cases d<;>cases e<;>first|exact Aa ht|skip
  exact⟨_,_,i1.int_inv,i2.int_inv,ht.1,hq.here (.int _) rs ht.2⟩
 |FloorDiv=>
  refine PE.imp (J5 b61 ha hb) λσ H Q q=>up2 (f:=v0 .FloorDiv) q λv w d e H' st' Qd i1 i2 rs ht hq=>?_;cases d<;>cases e<;>first|exact Aa ht|skip
  exact⟨_,_,i1.int_inv,i2.int_inv,ht.1,hq.here (.int _) rs ht.2⟩
 |Pow=>
  refine PE.imp (J5 cp8 ha hb) λσ H Q q=>up2 (f:=v0 .Pow) q λv w d e H' st' Qd i1 i2 rs ht hq=>?_;cases d<;>cases e<;>first|exact Aa ht|skip
  exact⟨_,_,i1.int_inv,i2.int_inv,ht.1,hq.here (.int _) rs ht.2⟩
 |_=>
  refine PE.imp (J5 (op:=_) (r:=λ_ _ _ _=>False) (λ_ _ _ _ _ _ _ _ _ _ _ _ h=>h.elim) ha hb) λσ H Q q=>up2 (f:=λ_ _ _ _=>False) (by
   obtain⟨env,st,Qd,hE,hS,ht,hq⟩:=q;exact⟨env,st,Qd,hE,hS,ht,hq⟩) λv w d e H' st' Qd i1 i2 rs ht hq=>ht
def ck1(ha:PE X a (up X.K ta)):PE X (.UnaryOp .USub a pos) (up X.K λenv st Q=>ta env st λx st1=>∃i,x=.int i/\Q (.int (-i)) st1):=
 PE.imp (cw4 ch6 ha) λσ H Q q=>up1 (f:=λx st1 Q=>∃i,x=.int i/\Q (.int (-i)) st1) q λv d H' st' Qd is rs ht hq=>by
  obtain⟨i,rfl,ht⟩:=ht;exact⟨i,is.int_inv,hq.here (.int _) rs ht⟩
abbrev ad0(X:Cx):Dm->R2
 |.Eq=>λx y H Q=>∃d e,IsD X.K H d x/\IsD X.K H e y/\d.pure=AC/\e.pure=AC/\FF (g5 d) (g5 e)<=150/\Q (.bl (deq d e)) H
 |.NotEq=>λx y H Q=>∃d e,IsD X.K H d x/\IsD X.K H e y/\d.pure=AC/\e.pure=AC/\FF (g5 d) (g5 e)<=150/\Q (.bl (!deq d e)) H
 |.Lt=>rI0 λi j=>.bl (AB (i<j))
 |.LtE=>rI0 λi j=>.bl (AB (i<=j))
 |.Gt=>rI0 λi j=>.bl (AB (j<i))
 |.GtE=>rI0 λi j=>.bl (AB (j<=i))
 |.In=>λx y H Q=>(∃d es,IsD X.K H d x/\IsD X.K H (.tup es) y/\d.pure=AC/\D.pures es=AC/\g5 d<=150/\Q (.bl (es.any λe=>deq e d)) H)\/(∃(i:Int)(ns:List Int)(a:AM),x=.int i/\y=.ref a/\SqT X.K H a (ns.map V.int)/\Q (.bl (AB (i∈ns))) H)\/∃a k kvs,x=kV k/\y=.ref a/\H a=AA (.dK kvs)/\Q (.bl (k7 kvs k).isSome) H
 |.NotIn=>λx y H Q=>(∃d es,IsD X.K H d x/\IsD X.K H (.tup es) y/\d.pure=AC/\D.pures es=AC/\g5 d<=150/\Q (.bl (!es.any λe=>deq e d)) H)\/∃a k kvs,x=kV k/\y=.ref a/\H a=AA (.dK kvs)/\Q (.bl (!(k7 kvs k).isSome)) H
 |_=>λ_ _ _ _=>False
omit [Tbs]in
theorem a40 [Tbs]{K:AS}:∀ns:List Int,IsDs K H (ns.map D.int) (ns.map V.int)
 |[]=>.nil
 |n::r=>.cons (.int n) (a40 r)
omit [Tbs]in
theorem aw3:∀ns:List Int,D.pures (ns.map D.int)=AC
 |[]=>rfl
 |n::r=>by show(AC&&D.pures (r.map D.int))=AC;rw[aw3 r];rfl
omit [Tbs]in
theorem a79:∀ns:List Int,((ns.map D.int).any λe=>deq e (.int i))=AB (i∈ns)
 |[]=>rfl
 |n::r=>by
  have e:deq (.int n) (.int i)=AB (n=i):=by unfold deq D.py Ao;exact GK.mpr ∎
  rw[AV,Cp,a79 r,e];simp only[AT,JG]
  congr 1;exact decide_eq_decide.mpr ⟨Iw,Iw⟩
def a09(hu:X.A.units+200<CO):∀o:Dm,OpR X (Bc o) (ad0 X o)
 |.Eq=>cm5 hu
 |.NotEq=>cj3 hu
 |.Lt=>cs1
 |.LtE=>cr4
 |.Gt=>cu2
 |.GtE=>ct9
 |.In=>λpins s σ H x y v u Q I rx ry h=>by
  rcases h with h|⟨i,ns,a,rfl,rfl,sq,q⟩|⟨a,k,kvs,rfl,rfl,e,q⟩
  ·exact be0 hu pins s σ H x y v u Q I rx ry h
  ·letI T:Tbs:=⟨[],λ_ _ _ _=>True,AC⟩
   exact @be0 T X hu pins s σ H _ _ v u Q I rx ry ⟨.int i,ns.map D.int,.int i,IsD.mk (.inr ⟨rfl,sq⟩) (a40 ns),rfl,aw3 ns,An _,by rw[a79];exact q⟩
  ·cases ry;exact cx4 ⋯ I (v9.k e) rx λs' I'=>⟨.bl _,H,I',rfl,q⟩
 |.NotIn=>λpins s σ H x y v u Q I rx ry h=>by
  rcases h with h|⟨a,k,kvs,rfl,rfl,e,q⟩
  ·exact cg4 hu pins s σ H x y v u Q I rx ry h
  ·cases ry;exact cd8 ⋯ I (v9.k e) rx λs' I'=>⟨.bl _,H,I',rfl,q⟩
 |.Is=>λ_ _ _ _ _ _ _ _ _ _ _ _ h=>h.elim
 |.IsNot=>λ_ _ _ _ _ _ _ _ _ _ _ _ h=>h.elim
def ba1{v w:V}{d e:D}{H':Hp}{st':Sto}{Qd:DK}{Q:VK}(i1:IsD X.K H' d v)(i2:IsD X.K H' e w)(rs:RelS X.K st' H')(ht:j6 o d e st' Qd)(hq:m9 X.K st' H' Qd Q):ad0 X o v w H' Q:=by
 cases o with
 |Eq=>exact⟨d,e,i1,i2,ht.1,ht.2.1,ht.2.2.1,hq.here (.bl _) rs ht.2.2.2⟩
 |NotEq=>exact⟨d,e,i1,i2,ht.1,ht.2.1,ht.2.2.1,hq.here (.bl _) rs ht.2.2.2⟩
 |Lt=>cases d<;>cases e<;>first|exact Aa ht|exact⟨_,_,i1.int_inv,i2.int_inv,hq.here (.bl _) rs ht⟩
 |LtE=>cases d<;>cases e<;>first|exact Aa ht|exact⟨_,_,i1.int_inv,i2.int_inv,hq.here (.bl _) rs ht⟩
 |Gt=>cases d<;>cases e<;>first|exact Aa ht|exact⟨_,_,i1.int_inv,i2.int_inv,hq.here (.bl _) rs ht⟩
 |GtE=>cases d<;>cases e<;>first|exact Aa ht|exact⟨_,_,i1.int_inv,i2.int_inv,hq.here (.bl _) rs ht⟩
 |In=>
  have hd:∀(k:Key)(a:AM)(kvs:List (Key×D)),v=kV k->w=.ref a->st' a=AA (.dct kvs)->Qd (.bl (w6 kvs k).isSome) st'->ad0 X .In v w H' Q:=λk a kvs e1 e2 e3 ht=>by
   obtain⟨vs,h1,h2⟩:=rs.dct e3;refine .inr (.inr ⟨a,k,vs,e1,e2,h1,?_⟩)
   rcases h2.look k with⟨l1,l2⟩|⟨d,v,l1,l2,_⟩<;>(rw[l1]at ht;rw[l2];exact hq.here (.bl _) rs ht)
  cases e with
  |tup es=>exact .inl ⟨d,es,i1,i2,ht.1,ht.2.1,ht.2.2.1,hq.here (.bl _) rs ht.2.2.2⟩
  |ref a=>
   cases d<;>first|exact Aa ht|skip
   ·obtain⟨kvs,e,ht⟩:=ht;exact hd (.inl _) a kvs i1.int_inv i2.ref_inv e ht
   ·obtain⟨kvs,e,ht⟩:=ht;exact hd (.inr _) a kvs i1.str_inv i2.ref_inv e ht
  |ktup ns=>
   cases d<;>first|exact Aa ht|skip
   cases i2 with
   |ktup sq=>exact .inr (.inl ⟨_,ns,_,i1.int_inv,rfl,sq.elim (λz=>by rcases z with z|⟨_,z⟩<;>cases z) .inr,hq.here (.bl _) rs ht⟩)
  |_=>exact Aa (by cases d<;>exact ht)
 |NotIn=>
  have hd:∀(k:Key)(a:AM)(kvs:List (Key×D)),v=kV k->w=.ref a->st' a=AA (.dct kvs)->Qd (.bl (!(w6 kvs k).isSome)) st'->ad0 X .NotIn v w H' Q:=λk a kvs e1 e2 e3 ht=>by
   obtain⟨vs,h1,h2⟩:=rs.dct e3;refine .inr ⟨a,k,vs,e1,e2,h1,?_⟩
   rcases h2.look k with⟨l1,l2⟩|⟨d,v,l1,l2,_⟩<;>(rw[l1]at ht;rw[l2];exact hq.here (.bl _) rs ht)
  cases e with
  |tup es=>exact .inl ⟨d,es,i1,i2,ht.1,ht.2.1,ht.2.2.1,hq.here (.bl _) rs ht.2.2.2⟩
  |ref a=>
   cases d<;>first|exact Aa ht|skip
   ·obtain⟨kvs,e,ht⟩:=ht;exact hd (.inl _) a kvs i1.int_inv i2.ref_inv e ht
   ·obtain⟨kvs,e,ht⟩:=ht;exact hd (.inr _) a kvs i1.str_inv i2.ref_inv e ht
  |_=>exact Aa (by cases d<;>exact ht)
 |Is=>exact Aa ht
 |IsNot=>exact Aa ht
def P2(o:Dm)(b:AR)(h:∀es k p,b≠.Set es k p):Cd o b=AF:=by
 cases b<;>first|rfl|exact absurd rfl (h _ _ _)
def cl9(hu:X.A.units+200<CO)(ha:PE X a (up X.K ta))(hb:PE X b (up X.K tb))(hm:∀es k p,b≠.Set es k p):PE X (.Compare a [o] [b] pos) (up X.K λenv st Q=>ta env st λx st1=>tb env st1 λy st2=>j6 o x y st2 Q):=
 PE.imp (aj1 (a09 hu o) ha hb (P2 o b hm)) λσ H Q q=>up2 (f:=j6 o) q λv w d e H' st' Qd i1 i2 rs ht hq=>ba1 i1 i2 rs ht hq
def ck4(hu:X.A.units+200<CO)(ha:PE X a (up X.K ta))(hb:PE X b (up X.K tb))(hm:∀es k p,b≠.Set es k p):
  PT X (.Compare a [o] [b] pos) (upB X.K λenv st Q=>ta env st λx st1=>tb env st1 λy st2=>j6 o x y st2 λd st'=>∃k,d=.bl k/\Q k st'):=
 PT.imp (ai6 (a09 hu o) ha hb (P2 o b hm)) λσ H Q q=>by
  obtain⟨env,st,Qd,hE,hS,ht,hq⟩:=q;refine up2 (f:=j6 o) (Q:=λx H'=>∃k,x=.bl k/\Q k H') ⟨env,st,_,hE,hS,ht,λv d H' st' ev is rs q1=>?_⟩ λv w d e H' st' Qd i1 i2 rs ht hq=>ba1 i1 i2 rs ht hq;obtain⟨k,rfl,q1⟩:=q1;exact⟨k,is.bl_inv,hq k H' st' ev rs q1⟩
def co7{j pos'}(ha:PE X a (up X.K ta)):PE X (.Compare a [.Is] [.Constant .none j pos'] pos) (up X.K λenv st Q=>ta env st λx st1=>(x=.non/\Q (.bl AC) st1)\/(x≠.non/\Q (.bl AF) st1)):=
 PE.imp (bc6 (bd5 ha) rfl) λσ H Q q=>up1 (f:=λx st1 Q=>(x=.non/\Q (.bl AC) st1)\/(x≠.non/\Q (.bl AF) st1)) q λv d H' st' Qd is rs ht hq=>by
  rcases ht with⟨rfl,ht⟩|⟨hn,ht⟩
  ·cases is;exact hq.here (.bl _) rs (by simpa using ht)
  ·have e:AB (v=V.non)=AF:=decide_eq_false λz=>hn (by subst z;cases is;rfl);rw[e];exact hq.here (.bl _) rs ht
def bf1{x:AR}{t:TE}{f:DT}(h:PT X x (tB t))(i:∀σ H Q,up X.K f σ H Q->t σ H Q):PT X x (upB X.K λenv st Q=>f env st λd st'=>∃b,d=.bl b/\Q b st'):=PT.imp h λσ H Q q=>by
 obtain⟨env,st,Qd,hE,hS,ht,hq⟩:=q;refine i σ H _ ⟨env,st,_,hE,hS,ht,λv d H' st' ev is rs q=>?_⟩;obtain⟨b,rfl,q⟩:=q;cases is;exact⟨b,rfl,hq b H' st' ev rs q⟩
def cj6{j pos'}(ha:PE X a (up X.K ta)):PT X (.Compare a [.Is] [.Constant .none j pos'] pos) (upB X.K λenv st Q=>ta env st λx st1=>(x=.non/\∃b,D.bl AC=.bl b/\Q b st1)\/(x≠.non/\∃b,D.bl AF=.bl b/\Q b st1)):=
 bf1 (f:=λenv st Q=>ta env st λx st1=>(x=.non/\Q (.bl AC) st1)\/(x≠.non/\Q (.bl AF) st1)) (aj9 (bd5 ha) rfl) λσ H Q q=>up1 (f:=λx st1 Q=>(x=.non/\Q (.bl AC) st1)\/(x≠.non/\Q (.bl AF) st1)) q λv d H' st' Qd is rs ht hq=>by
  rcases ht with⟨rfl,ht⟩|⟨hn,ht⟩
  ·cases is;exact hq.here (.bl _) rs (by simpa using ht)
  ·have e:AB (v=V.non)=AF:=decide_eq_false λz=>hn (by subst z;cases is;rfl);rw[e];exact hq.here (.bl _) rs ht
@[reducible]noncomputable def tst(t:DT):DB:=λenv st Q=>t env st λd st'=>∃b,d=.bl b/\Q b st'
variable {c8:List AR}
def a61(ha:PE X a (up X.K ta))(hb:PE X (.BoolOp .And (b::c8) pos) (up X.K tb)):PE X (.BoolOp .And (a::b::c8) pos) (up X.K λenv st Q=>ta env st λx st1=>∃c,x=.bl c/\(if c=AC then tb env st1 Q else Q (.bl AF) st1)):=
 PE.imp (cl7 ha hb) λσ H Q q=>by
  obtain⟨env,st,Qd,hE,hS,ht,hq⟩:=q;refine⟨env,st,_,hE,hS,ht,λv d H1 st1 ev is rs q1=>?_⟩;obtain⟨k,rfl,q1⟩:=q1;refine⟨k,is.bl_inv,?_⟩;cases k with
  |true=>exact⟨env,st1,Qd,hE.mono (ev.tk hS),rs,q1,hq.after ev⟩
  |false=>exact(hq.after ev).here (.bl _) rs q1
def bk2(ha:PE X a (up X.K ta))(hb:PE X (.BoolOp .Or (b::c8) pos) (up X.K tb)):PE X (.BoolOp .Or (a::b::c8) pos) (up X.K λenv st Q=>ta env st λx st1=>∃c,x=.bl c/\(if c=AC then Q (.bl AC) st1 else tb env st1 Q)):=
 PE.imp (cr3 ha hb) λσ H Q q=>by
  obtain⟨env,st,Qd,hE,hS,ht,hq⟩:=q;refine⟨env,st,_,hE,hS,ht,λv d H1 st1 ev is rs q1=>?_⟩;obtain⟨k,rfl,q1⟩:=q1;refine⟨k,is.bl_inv,?_⟩;cases k with
  |false=>exact⟨env,st1,Qd,hE.mono (ev.tk hS),rs,q1,hq.after ev⟩
  |true=>exact(hq.after ev).here (.bl _) rs q1
def cq8(ha:PE X a (up X.K ta)):PE X (.UnaryOp .Not a pos) (up X.K λenv st Q=>ta env st λx st1=>∃c,x=.bl c/\Q (.bl (!c)) st1):=
 PE.imp (cj7 ha) λσ H Q q=>up1 (f:=λx st1 Q=>∃c,x=.bl c/\Q (.bl (!c)) st1) q λv d H' st' Qd is rs ht hq=>by
  obtain⟨c,rfl,ht⟩:=ht;exact⟨c,is.bl_inv,hq.here (.bl _) rs ht⟩
def ba9(ha:PT X a (upB X.K (tst ta)))(hb:PW X (.BoolOp .And (b::c8) pos) (upB X.K (tst tb))):PW X (.BoolOp .And (a::b::c8) pos) (upB X.K (tst λenv st Q=>ta env st λx st1=>∃c,x=.bl c/\(if c=AC then tb env st1 Q else Q (.bl AF) st1))):=
 PW.imp (cg8 ha hb) λσ H Q q=>by
  obtain⟨env,st,Qd,hE,hS,ht,hq⟩:=q;refine⟨env,st,λc st1=>if c=AC then tb env st1 (λd st'=>∃b,d=.bl b/\Qd b st')else ∃b,D.bl AF=.bl b/\Qd b st1,hE,hS,ht,λk H1 st1 ev rs q1=>?_⟩;cases k with
  |true=>
   rw[if_pos rfl]at q1 ⊢;exact⟨env,st1,Qd,hE.mono (ev.tk hS),rs,q1,λc H2 st2 ev2 rs2 q2=>hq c H2 st2 (ev.trans ev2) rs2 q2⟩
  |false=>
   rw[if_neg AK]at q1 ⊢;obtain⟨b,e,q1⟩:=q1;cases e;exact hq AF H1 st1 ev rs q1
def be6(ha:PT X a (upB X.K (tst ta)))(hb:PW X (.BoolOp .Or (b::c8) pos) (upB X.K (tst tb))):PW X (.BoolOp .Or (a::b::c8) pos) (upB X.K (tst λenv st Q=>ta env st λx st1=>∃c,x=.bl c/\(if c=AC then Q (.bl AC) st1 else tb env st1 Q))):=
 PW.imp (ct3 ha hb) λσ H Q q=>by
  obtain⟨env,st,Qd,hE,hS,ht,hq⟩:=q;refine⟨env,st,λc st1=>if c=AC then ∃b,D.bl AC=.bl b/\Qd b st1 else tb env st1 (λd st'=>∃b,d=.bl b/\Qd b st'),hE,hS,ht,λk H1 st1 ev rs q1=>?_⟩;cases k with
  |false=>
   rw[if_neg AK]at q1 ⊢;exact⟨env,st1,Qd,hE.mono (ev.tk hS),rs,q1,λc H2 st2 ev2 rs2 q2=>hq c H2 st2 (ev.trans ev2) rs2 q2⟩
  |true=>
   rw[if_pos rfl]at q1 ⊢;obtain⟨b,e,q1⟩:=q1;cases e;exact hq AC H1 st1 ev rs q1
def cn9(ha:PT X a (upB X.K (tst ta))):PT X (.UnaryOp .Not a pos) (upB X.K (tst λenv st Q=>ta env st λx st1=>∃c,x=.bl c/\Q (.bl (!c)) st1)):=
 PT.imp (ch1 ha) λσ H Q q=>by
  obtain⟨env,st,Qd,hE,hS,ht,hq⟩:=q;refine⟨env,st,λc st1=>∃b,D.bl (!c)=.bl b/\Qd b st1,hE,hS,ht,λk H1 st1 ev rs q1=>?_⟩;obtain⟨b,e,q1⟩:=q1;cases e;exact hq _ H1 st1 ev rs q1
def cl6{t1:DT}(hc:PT X c (upB X.K (tst t1)))(ha:PE X a (up X.K ta))(hb:PE X b (up X.K tb)):PE X (.IfExp c a b pos) (up X.K λenv st Q=>t1 env st λx st1=>∃k,x=.bl k/\(if k=AC then ta env st1 Q else tb env st1 Q)):=
 PE.imp (b30 hc ha hb) λσ H Q q=>by
  obtain⟨env,st,Qd,hE,hS,ht,hq⟩:=q;refine⟨env,st,λk st1=>if k=AC then ta env st1 Qd else tb env st1 Qd,hE,hS,ht,λk H1 st1 ev rs q1=>?_⟩;cases k with
  |true=>exact⟨env,st1,Qd,hE.mono (ev.tk hS),rs,q1,hq.after ev⟩
  |false=>exact⟨env,st1,Qd,hE.mono (ev.tk hS),rs,q1,hq.after ev⟩
end
end Ek
namespace Ek
open PySem PySem.Spec PyProof.Rows L2
variable [Tbs]
variable{H:Hp}{t:DA}{f m:Str}{pins:List (AM×Obj)}{σ:L2.St}{st:Sto}{CX:CXT}{fd:By}{ps:List Str}{sp:Spec}{es:List AR}{apos:Pos}{Ca:AM}
section
variable {X:Cx} {a b c:AR} {ta tb tc:DT} {pos p:Pos}
def a90{K:AS}{ds:List D}{vs:List V}{i:Int}{d:D}(r:IsDs K H ds vs)(h:atI ds i=AA d):∃v,atI vs i=AA v/\IsD K H d v:=by
 unfold atI at h ⊢;rw[<-r.len];cases e:ixN ds.length i with
 |none=>rw[e]at h;cases h
 |some j=>
  rw[e]at h;exact r.get h
def af7(h:∀l u s p,b≠.Slice l u s p):a52 b:=λo i=>by
 cases b<;>first|rfl|exact absurd rfl (h _ _ _ _)
abbrev c22:R2:=λx y H Q=>∃p k kvs v,x=.ref p/\y=kV k/\H p=AA (.dK kvs)/\k7 kvs k=AA v/\Q v H
def cg7(hu:X.A.units+200<CO):IxR X c22:=by
 intro value slice pins s σ H x y v u Q I rx ry h hs;obtain⟨p,k,kvs,z,rfl,rfl,hH,hv,q⟩:=h;cases rx;have g:v9 H p (kV k) (AA z):=by rw[<-hv];exact v9.k hH
 have hT:=ap1 I g;unfold GB;refine AJ ?_;rw[IV hT.not_modules];refine AJ (DM hT PySem.F.slot_dict_getitem.lookup ?_);have fin:AU (model X.prog X.w) X.A (subscripted slice AF (.ref p) u) (λr s₃=>AU (model X.prog X.w) X.A (Kk value (.ref p) r>>=λ_=>pure r) (EP X pins σ Q) X.xe s₃) X.xe s:=by
  rw[hs];refine KM (at3 ⋯ I g ry λw' s3 I3 rw'=>AJ (Im (AQ ⟨z,H,I3,rw',q⟩)))
 first
  |exact AQ (AJ fin)
  |exact AJ (AQ (AJ fin))
  |exact AJ fin
def cu7(hu:X.A.units+200<CO)(ha:PE X a (up X.K ta))(hb:PE X b (up X.K tb))(hs:∀l u s p,b≠.Slice l u s p):PE X (.Subscript a b pos) (up X.K λenv st Q=>ta env st λx st1=>tb env st1 λy st2=>ixR x y st2 Q):=
 PE.imp (ct7 (cg0.or (ci9.or ((cg7 hu).or cj5))) ha hb (af7 hs)) λσ H Q q=>up2 (f:=ixR) q λv w d e H' st' Qd i1 i2 rs ht hq=>by
  cases d<;>cases e<;>first|exact Aa ht|skip
  ·obtain⟨c,hl,e1,ht⟩:=ht;exact .inr (.inr (.inr ⟨_,_,c,i1.str_inv,i2.int_inv,hl,e1,hq.here (.str _) rs ht⟩))
  ·obtain⟨d,e1,ht⟩:=ht;obtain⟨p,vs,rfl,hq',r⟩:=i1.tup_inv;obtain⟨v',e2,is⟩:=a90 r e1;exact .inr (.inl ⟨p,vs,_,v',rfl,i2.int_inv,hq',e2,hq.here is rs ht⟩)
  ·rcases ht with⟨ds,d,hr,e1,ht⟩|⟨kvs,d,hr,e1,ht⟩
   ·obtain⟨vs,hq',r⟩:=rs.rd hr;obtain⟨v',e2,is⟩:=a90 r e1;exact .inl ⟨_,vs,_,v',i1.ref_inv,i2.int_inv,hq',e2,hq.here is rs ht⟩
   ·obtain⟨vs,hH,r⟩:=rs.dct hr
    rcases r.look (.inl _)with⟨l1,l2⟩|⟨d',v',l1,l2,is⟩
    ·rw[l1]at e1;cases e1
    ·rw[l1]at e1;cases e1;exact .inr (.inr (.inl ⟨_,.inl _,vs,v',i1.ref_inv,i2.int_inv,hH,l2,hq.here is rs ht⟩))
  ·obtain⟨kvs,d,hr,e1,ht⟩:=ht;obtain⟨vs,hH,r⟩:=rs.dct hr
   rcases r.look (.inr _)with⟨l1,l2⟩|⟨d',v',l1,l2,is⟩
   ·rw[l1]at e1;cases e1
   ·rw[l1]at e1;cases e1;exact .inr (.inr (.inl ⟨_,.inr _,vs,v',i1.ref_inv,i2.str_inv,hH,l2,hq.here is rs ht⟩))
@[reducible]noncomputable def DO:=d9->Sto->(Option Int->Sto->Prop)->Prop
abbrev upO(K:AS)(t:DO):TO:=λσ H Q=>∃env st Qd,RelE K H env σ/\RelS K st H/\t env st Qd/\∀o H' st',Ev st H st' H'->RelS K st' H'->Qd o st'->Q o H'
def _root_.L2.PO.imp{X:Cx}{x:Option AR}{t t':TO}(h:PO X x t)(i:∀σ H Q,t' σ H Q->t σ H Q):PO X x t':=λpins s σ H Q I q=>h pins s σ H Q I (i σ H Q q)
def cd5:PO X AE (upO X.K λ_ st k=>k AE st):=PO.imp ca3 λσ H Q q=>by
 obtain⟨env,st,Qd,hE,hS,ht,hq⟩:=q;exact hq AE H st Ev.refl hS ht
def aj3(ha:PE X a (up X.K ta)):PO X (AA a) (upO X.K λenv st k=>ta env st λd st'=>∃i,d=.int i/\k (AA i) st'):=PO.imp (ce7 ha) λσ H Q q=>by
 obtain⟨env,st,Qd,hE,hS,ht,hq⟩:=q;refine⟨env,st,_,hE,hS,ht,λv d H' st' ev is rs q1=>?_⟩;obtain⟨i,rfl,q1⟩:=q1;exact⟨i,is.int_inv,hq _ H' st' ev rs q1⟩
def a91{K:AS}{ds:List D}{vs:List V}(r:IsDs K H ds vs)(lo hi:Option Int):IsDs K H (D7 ds lo hi) (L4 vs lo hi):=by
 unfold D7 L4;rw[r.len];exact(r.drop _).take _
def cd3:SlR X (λx lo hi H Q=>∃w,x=.str w/\w.length<=sizeLine/\Q (.str (Bf w lo hi)) H):=by
 intro pins s σ H x v vl vu lo hi sl Q I rx hs pl pu h;obtain⟨w,rfl,hz,q⟩:=h;obtain⟨t,rfl⟩:=rx;have fin:∀l u:Option (Int×Tok),s.heap.IsSlice sl l u AE->l.map (·.1)=lo->u.map (·.1)=hi->∃T id,HX (.type T) "__getitem__"=pure (AA (.builtin id))/\s.TypeIs (.str w t) T/\AU (model X.prog X.w) X.A (EG (.str w t) (.ref sl)) (EP X pins σ Q) X.xe s:=λl u hs e1 e2=>by
  subst e1 e2;exact⟨"str",_,PySem.F.slot_str_getitem.lookup,Ez _ _ _,IA (l:=l) (u:=u) (st:=AE) hs rfl (KP ⟨Ag (KD w _ _) hz,λt' k=>⟨.str _,H,I.tok _,⟨_,rfl⟩,q⟩⟩)⟩
 cases pl with
 |none=>cases pu with
  |none=>exact fin AE AE hs rfl rfl
  |int j tj=>exact fin AE (AA (j,tj)) hs rfl rfl
 |int i ti=>cases pu with
  |none=>exact fin (AA (i,ti)) AE hs rfl rfl
  |int j tj=>exact fin (AA (i,ti)) (AA (j,tj)) hs rfl rfl
def cr6{lo hi:Option AR}{tl th:DO}{p2:Pos}(ha:PE X a (up X.K ta))(hl:PO X lo (upO X.K tl))(hh:PO X hi (upO X.K th)):
  PE X (.Subscript a (.Slice lo hi AE p2) pos) (up X.K λenv st Q=>ta env st λx st1=>tl env st1 λl st2=>th env st2 λh st3=>slR x l h st3 Q):=
 PE.imp (au1 ((ci1.or b95).or cd3) ha hl hh) λσ H Q q=>by
  obtain⟨env,st,Qd,hE,hS,ht,hq⟩:=q;refine⟨env,st,_,hE,hS,ht,λv d H1 st1 ev1 is1 rs1 q1=>⟨env,st1,_,hE.mono (ev1.tk hS),rs1,q1,λl H2 st2 ev2 rs2 q2=>⟨env,st2,_,(hE.mono (ev1.tk hS)).mono (ev2.tk rs1),rs2,q2,λh H3 st3 ev3 rs3 q3=>?_⟩⟩⟩;have is3:=(is1.mono (ev2.tk rs1)).mono (ev3.tk rs2);have hq3:=((hq.after ev1).after ev2).after ev3;cases d<;>first|exact Aa q3|skip
  ·exact .inr ⟨_,is3.str_inv,q3.1,hq3.here (.str _) rs3 q3.2⟩
  ·obtain⟨p,vs,rfl,hs,r⟩:=is3.tup_inv;exact .inl (.inl ⟨p,vs,rfl,hs,by rw[<-r.len];exact q3.1,hq3.newT rs3 (a91 r l h) q3.2⟩)
  ·obtain⟨ds,hr,q3⟩:=q3;obtain⟨vs,hs,r⟩:=rs3.rd hr;exact .inl (.inr ⟨_,vs,is3.ref_inv,hs,hq3.newL rs3 (a91 r l h) q3⟩)
def J0(ha:PE X a (up X.K ta))(h:∀e p,a≠.Starred e p):PA X [a] (upA X.K 1 λenv st Q=>ta env st λd st1=>Q [d] st1):=U2 ha bb2 h
def ac1{id:String}{r:List V->Hp->VK->Prop}{g:D->Sto->DK->Prop}(hc:z0 X (.builtin id) r)(hg:Gl X f)(hm:X.mg f=AE)(hv:BU f=AA (.builtin id))(ha:PE X a (up X.K ta))(hs:∀e p,a≠.Starred e p)
  (imp:∀v d H' st' Qd Q,IsD X.K H' d v->RelS X.K st' H'->g d st' Qd->m9 X.K st' H' Qd Q->r [v] H' Q) (hn:f≠"__name__") (hdb:(f==("__debug__":Str))=AF) :
  PE X (.Call (.Name f p) [a] [] pos) (up X.K λenv st Q=>ta env st λx st1=>g x st1 Q):=
 PE.imp (Z6 hc hg hm hv (J0 ha hs) hn hdb (g9 hs) rfl) λσ H Q q=>by
  obtain⟨env,st,Qd,hE,hS,ht,hq⟩:=q;refine⟨env,st,(λds st1=>match ds with|[d]=>g d st1 Qd|_=>False),hE,hS,ht,λvs ds H' st' ev is hl rs q1=>?_⟩
  match ds,hl with
  |[d],_=>
   obtain⟨v,ws,rfl,i1,i2⟩:=is.inv_cons;rw[i2.inv_nil];exact imp v d H' st' Qd Q i1 rs q1 (hq.after ev)
def ab5{T:String}{r:List V->Hp->VK->Prop}{g:D->Sto->DK->Prop}(hc:z0 X (.type T) r)(hg:Gl X f)(hm:X.mg f=AE)(hv:BU f=AA (.type T))(ha:PE X a (up X.K ta))(hs:∀e p,a≠.Starred e p)
  (imp:∀v d H' st' Qd Q,IsD X.K H' d v->RelS X.K st' H'->g d st' Qd->m9 X.K st' H' Qd Q->r [v] H' Q) (hn:f≠"__name__") (hdb:(f==("__debug__":Str))=AF) :
  PE X (.Call (.Name f p) [a] [] pos) (up X.K λenv st Q=>ta env st λx st1=>g x st1 Q):=
 PE.imp (bx5 hc hg hm hv (J0 ha hs) hn hdb (g9 hs) rfl) λσ H Q q=>by
  obtain⟨env,st,Qd,hE,hS,ht,hq⟩:=q;refine⟨env,st,(λds st1=>match ds with|[d]=>g d st1 Qd|_=>False),hE,hS,ht,λvs ds H' st' ev is hl rs q1=>?_⟩
  match ds,hl with
  |[d],_=>
   obtain⟨v,ws,rfl,i1,i2⟩:=is.inv_cons;rw[i2.inv_nil];exact imp v d H' st' Qd Q i1 rs q1 (hq.after ev)
def b10:BU "abs"=AA (.builtin "abs"):=by decide+kernel
def b48:BU "max"=AA (.builtin "max"):=by decide+kernel
def b12:BU "sum"=AA (.builtin "sum"):=by decide+kernel
def ap5:BU "isinstance"=AA (.builtin "isinstance"):=by decide+kernel
def av7:BU "int"=AA (.type "int"):=by decide+kernel
def bu6:BU "tuple"=AA (.type "tuple"):=by decide+kernel
def cq5(hg:Gl X "len")(hm:X.mg "len"=AE)(ha:PE X a (up X.K ta))(hs:∀e p,a≠.Starred e p):PE X (.Call (.Name "len" p) [a] [] pos) (up X.K λenv st Q=>ta env st λx st1=>S8 x st1 Q):=
 ac1 bt2 hg hm PySem.boot_len ha hs (λv d H' st' Qd Q is rs ht hq=>by
  cases d<;>first|exact Aa ht|skip
  ·obtain⟨p,vs,rfl,hs,r⟩:=is.tup_inv;exact⟨p,vs,rfl,.inr hs,by rw[<-r.len];exact hq.here (.int _) rs ht⟩
  ·obtain⟨ds,hr,ht⟩:=ht;obtain⟨vs,hs,r⟩:=rs.rd hr;exact⟨_,vs,by rw[is.ref_inv],.inl hs,by rw[<-r.len];exact hq.here (.int _) rs ht⟩) ∅ ∅
def ci6(hg:Gl X "abs")(hm:X.mg "abs"=AE)(ha:PE X a (up X.K ta))(hs:∀e p,a≠.Starred e p):PE X (.Call (.Name "abs" p) [a] [] pos) (up X.K λenv st Q=>ta env st λx st1=>∃i,x=.int i/\Q (.int (if i<0 then -i else i)) st1):=
 ac1 (g:=λx st1 Q=>∃i,x=.int i/\Q (.int (if i<0 then -i else i)) st1) b31 hg hm b10 ha hs (λv d H' st' Qd Q is rs ht hq=>by
  obtain⟨i,rfl,ht⟩:=ht;exact⟨i,by rw[is.int_inv],hq.here (.int _) rs ht⟩) ∅ ∅
def b23(hg:Gl X "int")(hm:X.mg "int"=AE)(ha:PE X a (up X.K ta))(hs:∀e p,a≠.Starred e p):PE X (.Call (.Name "int" p) [a] [] pos) (up X.K λenv st Q=>ta env st λx st1=>V4 x st1 Q):=
 ab5 by2 hg hm av7 ha hs (λv d H' st' Qd Q is rs ht hq=>by
  cases d<;>first|exact Aa ht|skip
  ·exact .inr ⟨_,by rw[is.bl_inv],hq.here (.int _) rs ht⟩
  ·exact .inl ⟨_,by rw[is.int_inv],hq.here (.int _) rs ht⟩) ∅ ∅
def cj4(hc:X.calm=AC)(hg:Gl X "sum")(hm:X.mg "sum"=AE)(ha:PE X a (up X.K ta))(hs:∀e p,a≠.Starred e p):PE X (.Call (.Name "sum" p) [a] [] pos) (up X.K λenv st Q=>ta env st λx st1=>ad8 x st1 Q):=
 ac1 (bz4 hc) hg hm b12 ha hs (λv d H' st' Qd Q is rs ht hq=>by
  cases d<;>first|exact Aa ht|skip
  obtain⟨ns,hr,ht⟩:=ht;obtain⟨vs,hs,r⟩:=rs.rd hr;exact⟨_,ns,by rw[is.ref_inv],by rw[<-r.ints];exact hs,hq.here (.int _) rs ht⟩) ∅ ∅
def b55(hg:Gl X "tuple")(hm:X.mg "tuple"=AE)(ha:PE X a (up X.K ta))(hs:∀e p,a≠.Starred e p):PE X (.Call (.Name "tuple" p) [a] [] pos) (up X.K λenv st Q=>ta env st λx st1=>Q1 x st1 Q):=
 ab5 bs4 hg hm bu6 ha hs (λv d H' st' Qd Q is rs ht hq=>by
  cases d<;>first|exact Aa ht|skip
  ·obtain⟨p,vs,rfl,hs,r⟩:=is.tup_inv;exact⟨p,vs,rfl,.inr ⟨hs,hq.here is rs ht⟩⟩
  ·obtain⟨ds,hr,ht⟩:=ht;obtain⟨vs,hs,r⟩:=rs.rd hr;exact⟨_,vs,by rw[is.ref_inv],.inl ⟨hs,hq.newT rs r ht⟩⟩) ∅ ∅
def a58(ha:PE X a (up X.K ta))(hb:PE X b (up X.K tb))(h:∀e p,a≠.Starred e p)(h':∀e p,b≠.Starred e p):PA X [a,b] (upA X.K 2 λenv st Q=>ta env st λd st1=>tb env st1 λe st2=>Q [d,e] st2):=U2 ha (J0 hb h') h
def cp7(hc:X.calm=AC)(hg:Gl X "max")(hm:X.mg "max"=AE)(ha:PE X a (up X.K ta))(hb:PE X b (up X.K tb))(hs:∀e p,a≠.Starred e p)(hs':∀e p,b≠.Starred e p):
  PE X (.Call (.Name "max" p) [a,b] [] pos) (up X.K λenv st Q=>ta env st λx st1=>tb env st1 λy st2=>∃i j,x=.int i/\y=.int j/\Q (.int (if j>i then j else i)) st2):=
 PE.imp (Z6 (bx0 hc) hg hm b48 (a58 ha hb hs hs') ∅ ∅ (g9 hs) (by rw[g9 hs'];rfl)) λσ H Q q=>by
  obtain⟨env,st,Qd,hE,hS,ht,hq⟩:=q;refine⟨env,st,(λds st1=>match ds with|[x,y]=>∃i j,x=.int i/\y=.int j/\Qd (.int (if j>i then j else i)) st1|_=>False),hE,hS,ht,λvs ds H' st' ev is hl rs q1=>?_⟩
  match ds,hl with
  |[d,e],_=>
   obtain⟨v,ws,rfl,i1,i2⟩:=is.inv_cons;obtain⟨w,ws',rfl,i3,i4⟩:=i2.inv_cons;rw[i4.inv_nil];obtain⟨i,j,rfl,rfl,q1⟩:=q1;exact⟨i,j,by rw[i1.int_inv,i3.int_inv],(hq.after ev).here (.int _) rs q1⟩
def ag6{s:AL}(I:L2.Inv X pins σ H s){a:AM}{ds:List D}{vs:List V}(hq:SqL X.K H a vs)(r:IsDs X.K H ds vs)(hp:D.pures ds=AC):∃as,Reads s.heap (.ref a) (.list (D.pys ds)) as:=by
 obtain⟨its,rv,⟨o,n,ho,hc,_,hd⟩,hz⟩:=I.list hq;obtain⟨as,ra⟩:=ao8 (P:=λd=>d.pure=AC) (λd v u hp is ru=>y4 I is hp ru) ds vs its (λd hd=>Z3 hp d hd) r rv;exact⟨_,.list ho hc hd (by simpa using ra)⟩
abbrev Lls(K:AS)(H:Hp):List V->List (List D)->Prop
 |[],[]=>True
 |v::vs,l::ls=>(∃a ws,v=.ref a/\SqL K H a ws/\IsDs K H l ws/\D.pures l=AC)/\Lls K H vs ls
 |_,_=>False
theorem aj7(rs:RelS X.K st H):∀{ds:List D}{vs:List V}{ls:List (List D)},IsDs X.K H ds vs->ac5 st ds ls->Lls X.K H vs ls
 |[],vs,[],r,_=>by rw[r.inv_nil];trivial
 |[],vs,l::ls,r,h=>h.elim
 |d::ds,vs,[],r,h=>h.elim
 |d::ds,vs,l::ls,r,h=>by
  obtain⟨v,ws,rfl,h1,h2⟩:=r.inv_cons;obtain⟨⟨a,rfl,hr,hp⟩,h⟩:=h;obtain⟨us,q,ru⟩:=rs.rd hr;exact⟨⟨a,us,h1.ref_inv,q,ru,hp⟩,aj7 rs h2 h⟩
theorem ah0{K:AS}:∀{vs:List V}{ls:List (List D)},Lls K H vs ls->Bj (z9 ls)=AC
 |[],[],_=>rfl
 |[],l::ls,h=>h.elim
 |v::vs,[],h=>h.elim
 |v::vs,l::ls,h=>by
  obtain⟨⟨a,us,_,_,_,hp⟩,h⟩:=h;show(Bp (.list (D.pys l))&&Bj (z9 ls))=AC;rw[ah0 h,Bp,M7 l hp];rfl
theorem ar6{s:AL}(I:L2.Inv X pins σ H s):∀{vs:List V}{us:List AI}{ls:List (List D)},c7 vs us->Lls X.K H vs ls->∃as,ReadsAll s.heap us (z9 ls) as
 |[],us,[],q,_=>by cases q;exact⟨[],.nil⟩
 |[],us,l::ls,q,h=>h.elim
 |v::vs,us,[],q,h=>h.elim
 |v::vs,us,l::ls,q,h=>by
  obtain⟨⟨a,ws,rfl,hs,ru,hp⟩,h⟩:=h;cases q with
  |cons q1 q2=>
   cases q1;obtain⟨as,ra⟩:=ag6 I hs ru hp;obtain⟨bs,rb⟩:=ar6 I q2 h;exact⟨as++bs,.cons ra rb⟩
def au0{s:AL}(I:L2.Inv X pins σ H s){a:AM}{vs:List V}{ls:List (List D)}(hq:SqL X.K H a vs)(h:Lls X.K H vs ls):∃as,Reads s.heap (.ref a) (.list (z9 ls)) as:=by
 obtain⟨its,rv,⟨o,n,ho,hc,_,hd⟩,hz⟩:=I.list hq;obtain⟨as,ra⟩:=ar6 I rv h;exact⟨_,.list ho hc hd (by simpa using ra)⟩
def a35(hu:X.A.units+200<CO)(ne:Bool):OpR X (Bc (if ne then .NotEq else .Eq)) (λx y H Q=>∃a b xs ys vs ws,x=.ref a/\y=.ref b/\SqL X.K H a vs/\SqL X.K H b ws/\IsDs X.K H xs vs/\IsDs X.K H ys ws/\((D.pures xs=AC/\D.pures ys=AC/\BE (D.pys xs)<=149/\Q (.bl (ne != BF (D.pys xs) (D.pys ys))) H)\/(xs.length≠ys.length/\Q (.bl ne) H)\/∃xss yss,Lls X.K H vs xss/\Lls X.K H ws yss/\BE (z9 xss)<=149/\Q (.bl (ne != BF (z9 xss) (z9 yss))) H)):=by
 intro pins s σ H x y v u Q I rx ry h;obtain⟨a,b,xs,ys,vs,ws,rfl,rfl,q1,q2,r1,r2,hor⟩:=h;cases rx;cases ry;have hor':(xs.length≠ys.length/\Q (.bl ne) H)\/∃ps qs as bs,Reads s.heap (.ref a) (.list ps) as/\Reads s.heap (.ref b) (.list qs) bs/\Bj ps=AC/\Bj qs=AC/\BE ps<=149/\Q (.bl (ne != BF ps qs)) H:=by
  rcases hor with⟨p1,p2,hd,q⟩|h|⟨xss,yss,l1,l2,hd,q⟩
  ·obtain⟨as,ra⟩:=ag6 I q1 r1 p1;obtain⟨bs,rb⟩:=ag6 I q2 r2 p2;exact .inr ⟨_,_,as,bs,ra,rb,M7 xs p1,M7 ys p2,hd,q⟩
  ·exact .inl h
  ·obtain⟨as,ra⟩:=au0 I q1 l1;obtain⟨bs,rb⟩:=au0 I q2 l2;exact .inr ⟨_,_,as,bs,ra,rb,ah0 l1,ah0 l2,hd,q⟩
 rcases hor' with⟨hne,q⟩|⟨ps,qs,as,bs,ra,rb,k1,k2,hd,q⟩
 ·obtain⟨its,rv,pl,hz⟩:=I.list q1;obtain⟨jts,rw',pl',hz'⟩:=I.list q2;have hsz:(its.toArray.size != jts.toArray.size)=AC:=by
   rw[Af,Af,<-rv.length,<-rw'.length,<-r1.len,<-r2.len];simpa using hne
  cases ne with
  |true=>exact KQ pl.isList pl'.isList hsz ⋯ X.prog X.w _ _ ⟨.bl _,H,I,rfl,q⟩
  |false=>exact SeqAt.RcAt.lists_lengths pl.isList pl'.isList hsz ⋯ X.prog X.w _ _ ⟨.bl _,H,I,rfl,q⟩
 have c1:Bp (.list ps)=AC:=by rw[Bp];exact k1
 have c2:Bp (.list qs)=AC:=by rw[Bp];exact k2
 have hroom:X.A.units+min (Bz (.list ps)) (Bz (.list qs))<CO:=by
  have:min (Bz (.list ps)) (Bz (.list qs))<=Bz (.list ps):=GP _ _;have e1:Bz (.list ps)=BE ps+1:=by rw[Bz]
  lia
 cases ne with
 |true=>
  have eb:(!PyData.eqv (.list ps) (.list qs))=(AC != BF ps qs):=by rw[Ao];cases BF ps qs<;>rfl
  exact Hl ra rb c1 c2 hroom X.prog X.w _ _ ⟨.bl _,H,I,congrArg ET eb,q⟩
 |false=>
  have eb:Ao (.list ps) (.list qs)=(AF != BF ps qs):=by rw[Ao];cases BF ps qs<;>rfl
  exact IM ra rb c1 c2 hroom X.prog X.w _ _ ⟨.bl _,H,I,congrArg ET eb,q⟩
def a37{ne:Bool}{v w:V}{d e:D}{H':Hp}{st':Sto}{Qd:DK}{Q:VK}(i1:IsD X.K H' d v)(i2:IsD X.K H' e w)(rs:RelS X.K st' H')(ht:J9 ne d e st' Qd)(hq:m9 X.K st' H' Qd Q):∃a b xs ys vs ws,v=.ref a/\w=.ref b/\SqL X.K H' a vs/\SqL X.K H' b ws/\IsDs X.K H' xs vs/\IsDs X.K H' ys ws/\((D.pures xs=AC/\D.pures ys=AC/\BE (D.pys xs)<=149/\Q (.bl (ne != BF (D.pys xs) (D.pys ys))) H')\/(xs.length≠ys.length/\Q (.bl ne) H')\/∃xss yss,Lls X.K H' vs xss/\Lls X.K H' ws yss/\BE (z9 xss)<=149/\Q (.bl (ne != BF (z9 xss) (z9 yss))) H'):=by
 cases d<;>cases e<;>first|exact Aa ht|skip
 obtain⟨xs,ys,h1,h2,hor⟩:=ht;obtain⟨vs,q1,r1⟩:=rs.rd h1;obtain⟨ws,q2,r2⟩:=rs.rd h2;refine⟨_,_,xs,ys,vs,ws,i1.ref_inv,i2.ref_inv,q1,q2,r1,r2,?_⟩
 rcases hor with⟨p1,p2,hd,ht⟩|⟨hne,ht⟩|⟨xss,yss,l1,l2,hd,ht⟩
 ·exact .inl ⟨p1,p2,hd,hq.here (.bl _) rs ht⟩
 ·exact .inr (.inl ⟨hne,hq.here (.bl _) rs ht⟩)
 ·exact .inr (.inr ⟨xss,yss,aj7 rs r1 l1,aj7 rs r2 l2,hd,hq.here (.bl _) rs ht⟩)
def cf5{ne:Bool}{o:Dm}(ho:o=if ne then .NotEq else .Eq)(hu:X.A.units+200<CO)(ha:PE X a (up X.K ta))(hb:PE X b (up X.K tb))(hm:∀es k p,b≠.Set es k p):PE X (.Compare a [o] [b] pos) (up X.K λenv st Q=>ta env st λx st1=>tb env st1 λy st2=>J9 ne x y st2 Q):=by
 subst ho;exact PE.imp (aj1 (a35 hu ne) ha hb (P2 _ b hm)) λσ H Q q=>up2 (f:=J9 ne) q λv w d e H' st' Qd i1 i2 rs ht hq=>a37 i1 i2 rs ht hq
def cc7{ne:Bool}{o:Dm}(ho:o=if ne then .NotEq else .Eq)(hu:X.A.units+200<CO)(ha:PE X a (up X.K ta))(hb:PE X b (up X.K tb))(hm:∀es k p,b≠.Set es k p):
  PT X (.Compare a [o] [b] pos) (upB X.K λenv st Q=>ta env st λx st1=>tb env st1 λy st2=>J9 ne x y st2 λd st'=>∃k,d=.bl k/\Q k st'):=by
 subst ho;refine PT.imp (ai6 (a35 hu ne) ha hb (P2 _ b hm)) λσ H Q q=>?_;obtain⟨env,st,Qd,hE,hS,ht,hq⟩:=q;refine up2 (f:=J9 ne) (Q:=λx H'=>∃k,x=.bl k/\Q k H') ⟨env,st,_,hE,hS,ht,λv d H' st' ev is rs q1=>?_⟩ λv w d e H' st' Qd i1 i2 rs ht hq=>a37 i1 i2 rs ht hq;obtain⟨k,rfl,q1⟩:=q1;exact⟨k,is.bl_inv,hq k H' st' ev rs q1⟩
abbrev u9(K:AS)(sp:Spec):Sp:=λvs H Q _=>∃ds st Qd,IsDs K H ds vs/\RelS K st H/\sp ds st Qd/\m9 K st H Qd Q
def cd2(hx:v6 CX X E0){f:Str}{k:Nat}{fa:AM}{n:Nat}(F:FnOk X.prog X.w X.K X.mg X.base CX k fa fd ps (u9 X.K sp))(hr:Room k X.A)(hg:Gl X f)(hm:X.mg f=AA (.ref fa))(hk:CU X.K (.ref fa)=AC)
  (hb:l4 X.K fd ps []) (ha:PA X (a::es) (upA X.K n t)) (hdb:(f==("__debug__":Str))=AF) (hs:∀e p,a≠.Starred e p) (hpl:(CT pos (As es X.env)).any (·.1)=AF) :
  PE X (.Call (.Name f p) (a::es) [] pos) (up X.K λenv st Q=>t env st λds st1=>sp ds st1 Q):=
 PE.imp (ce9 F hr hg hm hk hb .nil hx ha hdb (g9 hs) hpl) λσ H Q q=>ao0 (f:=sp) q λvs ds H' st' Qd is hl rs ht hq=>⟨ds,st',Qd,by rw[Ac];exact is,rs,ht,hq⟩
def cw0{fa:AM}(hg:Gl X f)(hm:X.mg f=AA (.ref fa))(hns:Aw X.K AO f=AA (AA (.ref fa)))(hdb:(f==("__debug__":Str))=AF):PE X (.Name f p) (up X.K λ_ st Q=>Q (.fn f) st):=
 PE.imp (aa1 (v:=.ref fa) hg hm rfl hdb) λσ H Q q=>by
  obtain⟨env,st,Qd,hE,hS,ht,hq⟩:=q;exact hq.here (.fn hns) hS ht
abbrev V9(K:AS)(f:AM)(fd:By)(np:Nat)(N:List Str)(cs:List D)(sp:Spec):Sp:=λvs H Q _=>∃us ds st Qd,CloR H f fd np N us/\IsDs K H cs us/\IsDs K H ds vs/\RelS K st H/\sp ds st Qd/\m9 K st H Qd Q
def CloR.fnAt{f:AM}{np:Nat}{N:List Str}{us:List V}(h:CloR H f fd np N us)(I:Inv X pins σ H s):W.FnAt f s.heap:=by
 obtain⟨o,u,e1,_,e3⟩:=h.ex;obtain⟨h1,_⟩:=I.hok f _ e1;obtain⟨oc,od,da,sl⟩:=o;have e3':da=.func fd:=e3;subst e3';exact⟨oc,od,fd,sl,h1⟩
def b46(hx:v6 CX X E0){i:Nat}{x:Str}{n:Nat}{Z:Sg}(hN:X.N[i]?=AA x)(hv:Vis X.env.scope x)(hd:(x==("__debug__":Str))=AF)(hcd:(x==("__classdict__":Str))=AF)
  (hF:∀f fa,Z.F f=AC->Aw X.K AO f=AA (AA (.ref fa))->∃k fd ps,FnOk X.prog X.w X.K X.mg X.base CX k fa fd ps (u9 X.K (Z.Phi f))/\Room k X.A/\CU X.K (.ref fa)=AC/\l4 X.K fd ps [])
  (hC:Z.X=AF->∀np N b cs fa fd ps,CloF fd np N ps b->∃k,FnOk X.prog X.w X.K X.mg X.base CX0 k fa fd ps (V9 X.K fa fd np N cs (Z.PhiC np N b cs))/\Room k X.A)
  (ha:PA X (a::es) (upA X.K n t)) (hs:∀e p,a≠.Starred e p) (hpl:(CT pos (As es X.env)).any (·.1)=AF) :
  PE X (.Call (.Name x p) (a::es) [] pos) (up X.K λenv st Q=>∃x,env[i]?=AA (AA x)/\W8 Z (t env) st Q x):=by
 intro pins s σ H Q I q;obtain⟨env,st,Qd,hE,hS,⟨d,he,hc⟩,hq⟩:=q;obtain⟨v,hv1,isv⟩:=hE.at' i _ he;cases d with
 |fn f=>
  obtain⟨hf,ht⟩:Z.F f=AC/\t env st λds st1=>Z.Phi f ds st1 Qd:=hc;obtain⟨fa,rfl,hns⟩:∃fa,v=.ref fa/\Aw X.K AO f=AA (AA (.ref fa)):=by cases isv with|fn h=>exact⟨_,rfl,h⟩
  obtain⟨k,fd,ps,Fo,hr,hk,hb⟩:=hF f fa hf hns;refine Bu (thn (Q4 hN hv hd hcd pins s σ H (λv H1=>v=.ref fa/\H1=H) I ⟨_,hv1,rfl,rfl⟩) λu s1 z34=>?_);obtain⟨v,H1,I1,r1,e1,e2⟩:=z34;subst e1 e2;cases r1;refine Et (h₀:=X.base) I1.ok.mod.kin hk (thn (ha pos pins s1 σ H1 (λvs H2=>∃ds st1,Ev st H1 st1 H2/\IsDs X.K H2 ds vs/\RelS X.K st1 H2/\Z.Phi f ds st1 Qd) I1 ⟨env,st,_,hE,hS,ht,λvs ds H' st' ev is hl rs q=>⟨ds,st',ev,is,rs,q⟩⟩) λus s2⟨vs,H2,I2,r,ds,st1,ev,is,rs,q⟩=>⟨I2.kIn,?_⟩) (g9 hs) hpl;exact U8 Fo hr hb .nil hx I2 r ⟨ds,st1,Qd,by rw[Ac];exact is,rs,q,hq.after ev⟩
 |clo np N b cs=>
  obtain⟨hzx,ht⟩:Z.X=AF/\t env st λds st1=>Z.PhiC np N b cs ds st1 Qd:=hc;obtain⟨fa,us0,rfl,ca,ics⟩:∃fa us,v=.ref fa/\W4 H fa np N b us/\IsDs X.K H cs us:=by cases isv with|clo h1 h2 h3=>exact⟨_,_,rfl,h1,h2,h3⟩
  obtain⟨fd,ps,cf,cr⟩:=ca;obtain⟨k,Fo,hr⟩:=hC hzx np N b cs fa fd ps cf;refine Bu (thn (Q4 hN hv hd hcd pins s σ H (λv H1=>v=.ref fa/\H1=H) I ⟨_,hv1,rfl,rfl⟩) λu s1 z35=>?_);obtain⟨v,H1,I1,r1,e1,e2⟩:=z35;subst e1 e2;cases r1;refine W.callWith_F (cr.fnAt I1) (thn (ha pos pins s1 σ H1 (λvs H2=>∃ds st1,Ev st H1 st1 H2/\IsDs X.K H2 ds vs/\RelS X.K st1 H2/\Z.PhiC np N b cs ds st1 Qd) I1 ⟨env,st,_,hE,hS,ht,λvs ds H' st' ev is hl rs q=>⟨ds,st',ev,is,rs,q⟩⟩) λus s2⟨vs,H2,I2,r,ds,st1,ev,is,rs,q⟩=>⟨(cr.mono (K:=X.K) (ev.tk hS)).fnAt I2,?_⟩) (g9 hs) hpl;exact U8 Fo hr (.all cf.bind) .nil cr9 I2 r ⟨us0,ds,st1,Qd,cr.mono (K:=X.K) (ev.tk hS),ics.mono (ev.tk hS),by rw[Ac];exact is,rs,q,hq.after ev⟩
 |_=>exact(hc:False).elim
def B5{o:AR}{nm:Str}{env:Env}{w:Sem AI}(h:∀i p p',o≠.Call (.Name i p) [] [] p'):Cf o nm env w=w:=by
 unfold Cf
 split
 ·exact absurd rfl (h _ _ _)
 ·rfl
def ck3{f:Str}{C:Str->List Str}(hC:∀c Ca,Aw X.K AO c=AA (AA (.ref Ca))->f∈C c->Cls X.K Ca/\D6 X.K Ca f)(ha:PE X a (up X.K ta))(hbase:Cf a f X.env (eval a X.env)=eval a X.env):
  PE X (.Attribute a f pos) (up X.K λenv st Q=>ta env st λx st1=>∃p c fs d,x=.ref p/\st1 p=AA (.ins c fs)/\f∈C c/\fs.lookup f=AA d/\Q d st1):=
 PE.imp (cj8 ha hbase) λσ H Q q=>up1 (f:=λx st1 Q=>∃p c fs d,x=.ref p/\st1 p=AA (.ins c fs)/\f∈C c/\fs.lookup f=AA d/\Q d st1) q λv d H' st' Qd is rs ht hq=>by
  obtain⟨p,c,fs,e,rfl,hs,hf,hl,ht⟩:=ht;obtain⟨Ca,dx,vs,hH,hn,r⟩:=rs.ins hs;obtain⟨c1,c2⟩:=hC c Ca hn hf
  rcases r.look f with⟨l1,_⟩|⟨d',v',l1,l2,is'⟩
  ·rw[l1]at hl;cases hl
  ·rw[l1]at hl;cases hl;exact⟨p,Ca,dx,vs,v',is.ref_inv,hH,c1,c2,l2,hq.here is' rs ht⟩
def ay9{o:AR}{pos:Pos}{args:List AR}{env:Env}(hbo:∀i p p',o≠.Call (.Name i p) [] [] p')(hfew:FZ (args.length+0) (CT pos (As args env)) (FY pos (Dv [] env))=AC)(hline:(apos.endLine==pos.line)=AC):
  eval (.Call (.Attribute o m apos) args [] pos) env=(do
   let ov <-eval o env
   HD apos.atName
   let(f,first) <-holding [ov] (Jt ov m (do return (<-importBound o env).getD AC))
   callWith pos f first (CT pos (As args env)) (FY pos (Dv [] env))):=by
 rw[arm_eval_Call,B5 hbo]
 congr 1
 funext ov
 congr 1
 funext _
 unfold methodCall;simp only[AN]at hfew ⊢;rw[hfew];unfold methodCallPos calleeOf;simp only[hline,Gv,Bl,if_true];rfl
def ce5(hx:v6 CX X E0){ob:AR}{n:Nat}{F:Str->Bool}{Ph:Str->Spec}
  (hM:∀c Ca,Aw X.K AO c=AA (AA (.ref Ca))->F (d0 c m)=AC->∃k f fd ps,Cls X.K Ca/\Meth X.K Ca m f/\FnOk X.prog X.w X.K X.mg X.base CX k f fd ps (u9 X.K (Ph (d0 c m)))/\Room k X.A/\l4 X.K fd ps [])
  (hfew:FZ ((a::es).length+0) (CT pos (As (a::es) X.env)) (FY pos (Dv [] X.env))=AC) (hline:(apos.endLine==pos.line)=AC) (hbo:∀i p p',ob≠.Call (.Name i p) [] [] p') (ho:PE X ob (up X.K ta)) (ha:PA X (a::es) (upA X.K n t)) (hs:∀e p,a≠.Starred e p) (hpl:(CT pos (As es X.env)).any (·.1)=AF) :
  PE X (.Call (.Attribute ob m apos) (a::es) [] pos) (up X.K λenv st Q=>ta env st λx st1=>∃p c fs,x=.ref p/\st1 p=AA (.ins c fs)/\fs.lookup m=AE/\F (d0 c m)=AC/\t env st1 λds st2=>Ph (d0 c m) (.ref p::ds) st2 Q):=by
 intro pins s σ H Q I q;obtain⟨env,st,Qd,hE,hS,ht,hq⟩:=q;refine Jk (thn (ho pins s σ H (λv H1=>∃p c fs st1,v=.ref p/\Ev st H st1 H1/\RelS X.K st1 H1/\st1 p=AA (.ins c fs)/\fs.lookup m=AE/\F (d0 c m)=AC/\t env st1 λds st2=>Ph (d0 c m) (.ref p::ds) st2 Qd) I ⟨env,st,_,hE,hS,ht,λv d H1 st1 ev is rs q1=>?_⟩) λu s1 z36=>?_) (ay9 hbo hfew hline)
 ·obtain⟨p,c,fs,rfl,q1⟩:=q1;exact⟨p,c,fs,st1,is.ref_inv,ev,rs,q1⟩
 obtain⟨v,H1,I1,rx,p,c,fs,st1,ev,e1,rs,h1,h2,h3,h4⟩:=z36;subst ev;cases rx;obtain⟨Ca,dx,vs,hH,hn,r⟩:=rs.ins h1;obtain⟨k,f,fd,ps,cl,me,Fo,hr,hb⟩:=hM c Ca hn h3;have hl:vs.lookup m=AE:=by
  rcases r.look m with⟨_,l2⟩|⟨d',v',l1,_,_⟩
  ·exact l2
  ·rw[h2]at l1;cases l1
 refine aq9 I1 hH cl me hl ?_;refine Et (first:=[.ref p]) (h₀:=X.base) I.ok.mod.kin me.kp (thn (ha pos pins s1 σ H1 (λvs H2=>∃ds st2,Ev st1 H1 st2 H2/\IsDs X.K H2 ds vs/\RelS X.K st2 H2/\Ph (d0 c m) (.ref p::ds) st2 Qd) I1 ⟨env,st1,_,hE.mono (e1.tk hS),rs,h4,λvs ds H' st' ev is hl rs q=>⟨ds,st',ev,is,rs,q⟩⟩) λus s2⟨vs,H2,I2,r2,ds,st2,ev2,is2,rs2,q2⟩=>⟨I2.kIn,?_⟩) (g9 hs) hpl;exact U8 (us:=.ref p::us) (vs:=.ref p::vs) Fo hr hb .nil hx I2 (.cons rfl r2) ⟨.ref p::ds,st2,Qd,by rw[Ac];exact .cons (.ref p) is2,rs2,q2,(hq.after e1).after ev2⟩
def b08(hx:v6 CX X E0){ob:AR}{F:Str->Bool}{Ph:Str->Spec}
  (hM:∀c Ca,Aw X.K AO c=AA (AA (.ref Ca))->F (d0 c m)=AC->∃k f fd ps,Cls X.K Ca/\Meth X.K Ca m f/\FnOk X.prog X.w X.K X.mg X.base CX k f fd ps (u9 X.K (Ph (d0 c m)))/\Room k X.A/\l4 X.K fd ps [])
  (hline:(apos.endLine==pos.line)=AC) (hbo:∀i p p',ob≠.Call (.Name i p) [] [] p') (ho:PE X ob (up X.K ta)) :
  PE X (.Call (.Attribute ob m apos) [] [] pos) (up X.K λenv st Q=>ta env st λx st1=>∃p c fs,x=.ref p/\st1 p=AA (.ins c fs)/\fs.lookup m=AE/\F (d0 c m)=AC/\Ph (d0 c m) [.ref p] st1 Q):=by
 intro pins s σ H Q I q;obtain⟨env,st,Qd,hE,hS,ht,hq⟩:=q;refine Jk (thn (ho pins s σ H (λv H1=>∃p c fs st1,v=.ref p/\Ev st H st1 H1/\RelS X.K st1 H1/\st1 p=AA (.ins c fs)/\fs.lookup m=AE/\F (d0 c m)=AC/\Ph (d0 c m) [.ref p] st1 Qd) I ⟨env,st,_,hE,hS,ht,λv d H1 st1 ev is rs q1=>?_⟩) λu s1 z37=>?_) (ay9 hbo rfl hline)
 ·obtain⟨p,c,fs,rfl,q1⟩:=q1;exact⟨p,c,fs,st1,is.ref_inv,ev,rs,q1⟩
 obtain⟨v,H1,I1,rx,p,c,fs,st1,ev,e1,rs,h1,h2,h3,h4⟩:=z37;subst ev;cases rx;obtain⟨Ca,dx,vs,hH,hn,r⟩:=rs.ins h1;obtain⟨k,f,fd,ps,cl,me,Fo,hr,hb⟩:=hM c Ca hn h3;have hl:vs.lookup m=AE:=by
  rcases r.look m with⟨_,l2⟩|⟨d',v',l1,_,_⟩
  ·exact l2
  ·rw[h2]at l1;cases l1
 refine aq9 I1 hH cl me hl ?_;exact KJ (first:=[.ref p]) I1.kIn me.kp (U8 (us:=[.ref p]) (vs:=[.ref p]) Fo hr hb .nil hx I1 (.cons rfl .nil) ⟨[.ref p],st1,Qd,by rw[Ac];exact .cons (.ref p) .nil,rs,h4,hq.after e1⟩)
def ay3{c:Str}{H1:Hp}{st1:Sto}{Qd:DK}{Q:VK}{ds:List D}{vs:List V}(hn:Aw X.K AO c=AA (AA (.ref Ca)))(ev:Ev st H st1 H1)(is:IsDs X.K H1 ds vs)(rs:RelS X.K st1 H1)(hq:m9 X.K st H Qd Q)
  (q:∀p,st1 p=AE->sp (.ref p::ds) (b0 st1 p (.ins c [])) λv st2=>v=.non/\Qd (.ref p) st2):∀x dx,H1 x=AE->H1 dx=AE->dx≠x->u9 X.K sp (.ref x::(vs++[])) (upd (upd H1 dx (.own x)) x (.ins Ca dx [])) (λv H2=>v=.non/\Q (.ref x) H2) E0:=by
 intro x dx hx hdx hne;have tk1:TK X.K H1 (upd H1 dx (.own x)):=TK.new hdx;have hx':upd H1 dx (.own x) x=AE:=by rw[f6 (λz=>hne z.symm)];exact hx
 have tk2:TK X.K (upd H1 dx (.own x)) (upd (upd H1 dx (.own x)) x (.ins Ca dx [])):=TK.new hx';refine⟨.ref x::ds,b0 st1 x (.ins c []),_,by rw[Ac];exact .cons (.ref x) ((is.mono tk1).mono tk2),(rs.new hdx).putAny (ob:=.ins c []) tk2 ⟨Ca,dx,[],o7,hn,.nil⟩ (by rw[hx'];exact λ_=>nofun),q x (rs.free hx),λv d H2 st2 ev2 is2 rs2 q2=>?_⟩;obtain⟨rfl,q2⟩:=q2;cases is2;refine⟨rfl,hq _ (.ref x) H2 st2 (λb o hb hs=>?_) (.ref x) rs2 q2⟩;obtain⟨⟨o1,b1,t1⟩,b2⟩:=ev b o hb hs;have nx:b≠x:=o6 b1 hx;have nd:b≠dx:=o6 b1 hdx;obtain⟨⟨o2,c1,t2⟩,c2⟩:=ev2 b o1 (by rw[f6 nx,f6 nd];exact b1) (by rw[g6 nx];exact b2);exact⟨⟨o2,c1,t1.trans t2⟩,c2⟩
def b82(hx:v6 CX X E0){c:Str}{n k:Nat}{f:AM}(hn:Aw X.K AO c=AA (AA (.ref Ca)))(M:Mk X.K Ca f)(Fo:FnOk X.prog X.w X.K X.mg X.base CX k f fd ps (u9 X.K sp))(hr:Room (k+1) X.A)(hg:Gl X c)(hm:X.mg c=AA (.ref Ca))(hb:l4 X.K fd ps [])
  (ha:PA X (a::es) (upA X.K n t)) (hdb:(c==("__debug__":Str))=AF) (hs:∀e p,a≠.Starred e p) (hpl:(CT pos (As es X.env)).any (·.1)=AF) :
  PE X (.Call (.Name c p) (a::es) [] pos) (up X.K λenv st Q=>t env st λds st1=>∀p,st1 p=AE->sp (.ref p::ds) (b0 st1 p (.ins c [])) λv st2=>v=.non/\Q (.ref p) st2):=
 PE.imp (cc2 M Fo hr hg hm hb .nil hx ha hdb (g9 hs) hpl) λσ H Q q=>by
  obtain⟨env,st,Qd,hE,hS,ht,hq⟩:=q;exact⟨env,st,_,hE,hS,ht,λvs ds H' st' ev is hl rs q=>ay3 hn ev is rs hq q⟩
def b53(hx:v6 CX X E0){c:Str}{k:Nat}{f:AM}(hn:Aw X.K AO c=AA (AA (.ref Ca)))(M:Mk X.K Ca f)(Fo:FnOk X.prog X.w X.K X.mg X.base CX k f fd ps (u9 X.K sp))(hr:Room (k+1) X.A)(hg:Gl X c)(hm:X.mg c=AA (.ref Ca))(hb:l4 X.K fd ps [])(hdb:(c==("__debug__":Str))=AF):
  PE X (.Call (.Name c p) [] [] pos) (up X.K λenv st Q=>∀p,st p=AE->sp [.ref p] (b0 st p (.ins c [])) λv st2=>v=.non/\Q (.ref p) st2):=
 PE.imp (b64 M Fo hr hg hm hb .nil hx hdb) λσ H Q q=>by
  obtain⟨env,st,Qd,hE,hS,ht,hq⟩:=q;exact ay3 (ds:=[]) (vs:=[]) hn Ev.refl .nil hS hq ht
def tyL{K:AS}{d:D}{v:V}(is:IsD K H d v)(rs:RelS K st H)(h:z6 d st):tyV K "list" v H:=by
 cases d<;>first|exact Aa h|skip
 obtain⟨ds,hr⟩:=h;obtain⟨vs,hs,_⟩:=rs.rd hr;rw[is.ref_inv];exact .inl ⟨rfl,vs,hs⟩
def al7{nm:Str}{id:String}{r:V->List V->Hp->VK->Prop}{g:D->D->Sto->DK->Prop}(slot:Slot "list" nm id)(hty:Kj (.builtin id)=pure (.type "method_descriptor"))(hm:MtR X id r)
  (ha:PE X a (up X.K ta)) (hb:PE X b (up X.K tb)) (hbase:∀i p p',a≠.Call (.Name i p) [] [] p') (hs:∀e p,b≠.Starred e p) (hline:(apos.endLine==pos.line)=AC)
  (imp:∀v w d e H' st' Qd Q,IsD X.K H' d v->IsD X.K H' e w->RelS X.K st' H'->g d e st' Qd->m9 X.K st' H' Qd Q->r v [w] H' Q) :
  PE X (.Call (.Attribute a nm apos) [b] [] pos) (up X.K λenv st Q=>ta env st λx st1=>z6 x st1/\tb env st1 λy st2=>g x y st2 Q):=
 PE.imp (cw2 PySem.F.plainAttrs_list slot hty hm ha (J0 hb hs) (B5 hbase) (by rw[g9 hs];rfl) hline (g9 hs) rfl) λσ H Q q=>by
  obtain⟨env,st,Qd,hE,hS,ht,hq⟩:=q;refine⟨env,st,_,hE,hS,ht,λv d H1 st1 ev is rs q1=>⟨tyL is rs q1.1,?_⟩⟩;refine⟨env,st1,(λds st2=>match ds with|[e]=>g d e st2 Qd|_=>False),hE.mono (ev.tk hS),rs,q1.2,λvs ds H' st' ev2 is2 hl rs2 q2=>?_⟩
  match ds,hl with
  |[e],_=>
   obtain⟨w,ws,rfl,i1,i2⟩:=is2.inv_cons;rw[i2.inv_nil];exact imp v w d e H' st' Qd Q (is.mono (ev2.tk rs)) i1 rs2 q2 ((hq.after ev).after ev2)
def ch5(ha:PE X a (up X.K ta))(hb:PE X b (up X.K tb))(hbase:∀i p p',a≠.Call (.Name i p) [] [] p')(hs:∀e p,b≠.Starred e p)(hline:(apos.endLine==pos.line)=AC):
  PE X (.Call (.Attribute a "append" apos) [b] [] pos) (up X.K λenv st Q=>ta env st λx st1=>z6 x st1/\tb env st1 λy st2=>ae0 x y st2 Q):=
 al7 PySem.F.slot_list_append PySem.F.type_list_append ar4 ha hb hbase hs hline λv w d e H' st' Qd Q i1 i2 rs ht hq=>by
  cases d<;>first|exact Aa ht|skip
  obtain⟨ds,hr,hz,ht⟩:=ht;obtain⟨vs,hH,r⟩:=rs.lst hr;rw[i1.ref_inv];exact⟨_,vs,w,rfl,rfl,hH,by rw[<-r.len];exact hz,hq _ _ _ _ (Ev.put hr) .non (rs.putOld hH (r.append (.cons i2 .nil))) ht⟩
def bw2(l:AM)(items:Array AI)(n:Nat)(b:AM)(items2:Array AI)(n2:Nat)(sl:Array (Option AI))(hs0:¬(!items.isEmpty&&CI (items.size+items2.size))=AC)(hs1:items.size<=sizeLine)(hs2:items.size+items2.size<=sizeLine+1):
  Ks (GU.«list.extend» ⟨[.ref l,.ref b],[]⟩) (λ_ R s=>s.heap.get? l=AA {cls:=.type "list",dict:=AE,data:=.seq items n,slots:=#[]}/\s.heap.get? b=AA {cls:=.type "tuple",dict:=AE,data:=.seq items2 n2,slots:=sl}/\R (.ok (.ret BZ)) {s with heap:=s.heap.update l (Eh λx=>x++items2),toks:=s.toks}):=
 .of_wp λprog w A R s h=>by
  obtain⟨hp,g,d,tk,os⟩:=s;obtain⟨hl,hb,h⟩:=h;have f1:=AutoSeq1.idx_int;have f2:=AutoSeq1.sub_tuple_tuple;have f3:=AutoSeq1.sub_list_list;have f4:=AutoSeq1.sub_tuple_list;have f5:=AutoSeq1.sub_list_tuple;have hz':(items++items2).size<=sizeLine+1:=by rw[Array.size_append];exact hs2
  wp_walk using(wpAny_updateSeq hl rfl (hz:=hs1) (_hz':=hz')),GL hl,GL hb;exact⟨_,rfl,h⟩
abbrev av4(K:AS):V->List V->Hp->VK->Prop:=λx vs H Q=>∃l b xs zs,x=.ref l/\vs=[.ref b]/\H l=AA (.lst xs)/\SqT K H b zs/\xs.length+zs.length<=sizeLine/\Q .non (upd H l (.lst (xs++zs)))
def bw1:MtM X "list.extend" (av4 X.K):=by
 intro pins s σ H x vs v us Q I rx rv h;obtain⟨l,b,xs,zs,rfl,rfl,hH,hB,hz,q⟩:=h;cases rx;obtain⟨u,rfl,ru⟩:=rv.one;cases ru;obtain⟨z,its,n,r,hl,e⟩:=I.lstM hH;obtain⟨its2,r2,⟨o,e2,ec,ed,n2,es⟩,z2⟩:=I.tupleD hB;obtain⟨cls,dd,data,sl⟩:=o;simp only at ec ed es;subst ec ed es;have hl2:=r2.length;have hsz:its.toArray.size+its2.toArray.size<=sizeLine:=by rw[Af,Af];lia
 have hlong:¬(!its.toArray.isEmpty&&CI (its.toArray.size+its2.toArray.size))=AC:=by
  rw[aw0 hsz,JC];exact AK
 refine DU Ik ⟨_,e,rfl⟩ IU (IK _ _)
  (bw2 l its.toArray n b its2.toArray n2 sl hlong (by rw[Af];lia) ⋯) ⟨e,e2,?_⟩
 refine⟨.non,_,I.lset (its':=its++its2) hH e ∎ (r.append r2) ?_,rfl,q⟩;rw[AH];lia
def cc8:MtM X "list.extend" (λx vs H Q=>a44 x vs H Q\/av4 X.K x vs H Q):=λpins s σ H x vs v us Q I rx rv h=>h.elim (bz7 pins s σ H x vs v us Q I rx rv) (bw1 pins s σ H x vs v us Q I rx rv)
def co8(ha:PE X a (up X.K ta))(hb:PE X b (up X.K tb))(hbase:∀i p p',a≠.Call (.Name i p) [] [] p')(hs:∀e p,b≠.Starred e p)(hline:(apos.endLine==pos.line)=AC):
  PE X (.Call (.Attribute a "extend" apos) [b] [] pos) (up X.K λenv st Q=>ta env st λx st1=>z6 x st1/\tb env st1 λy st2=>ad4 x y st2 Q):=
 al7 PySem.F.slot_list_extend PySem.F.type_list_extend cc8 ha hb hbase hs hline λv w d e H' st' Qd Q i1 i2 rs ht hq=>by
  cases d<;>cases e<;>first|exact Aa ht|skip
  ·obtain⟨ds,hr,hz,ht⟩:=ht;obtain⟨vs,hH,r⟩:=rs.lst hr;obtain⟨b,ws,rfl,hq2,r2⟩:=i2.tup_inv;rw[i1.ref_inv];exact .inr ⟨_,_,vs,ws,rfl,rfl,hH,hq2,by rw[<-r.len,<-r2.len];exact hz,hq _ _ _ _ (Ev.put hr) .non (rs.putOld hH (r.append r2)) ht⟩
  ·obtain⟨ds,es,hr,hr2,hz,ht⟩:=ht;obtain⟨vs,hH,r⟩:=rs.lst hr;obtain⟨ws,hH2,r2⟩:=rs.lst hr2;rw[i1.ref_inv,i2.ref_inv];exact .inl ⟨_,_,vs,ws,rfl,rfl,hH,hH2,by rw[<-r.len,<-r2.len];exact hz,hq _ _ _ _ (Ev.put hr) .non (rs.putOld hH (r.append r2)) ht⟩
def b67(ha:PE X a (up X.K ta))(hb:PE X b (up X.K tb))(hbase:∀i p p',a≠.Call (.Name i p) [] [] p')(hs:∀e p,b≠.Starred e p)(hline:(apos.endLine==pos.line)=AC):
  PE X (.Call (.Attribute a "pop" apos) [b] [] pos) (up X.K λenv st Q=>ta env st λx st1=>z6 x st1/\tb env st1 λy st2=>aj6 x y st2 Q):=
 al7 PySem.F.slot_list_pop PySem.F.type_list_pop b57 ha hb hbase hs hline λv w d e H' st' Qd Q i1 i2 rs ht hq=>by
  cases d<;>cases e<;>first|exact Aa ht|skip
  rename_i i;obtain⟨⟨b1,b2⟩,ds,k,d,hr,hk,hd,ht⟩:=ht;obtain⟨vs,hH,r⟩:=rs.lst hr;obtain⟨v',hv',is'⟩:=r.get hd;rw[i1.ref_inv,i2.int_inv];obtain⟨q1,q2,q3,q4⟩:=ai5 hk;exact⟨_,vs,_,k,v',rfl,rfl,hH,⋯,⋯,by rw[<-r.len];exact q1,hv',hq _ _ _ _ (Ev.put hr) (is'.mono (TK.put hH)) (rs.putOld hH (r.erase k)) ht⟩
def cq7(ha:PE X a (up X.K ta))(hbase:∀i p p',a≠.Call (.Name i p) [] [] p')(hline:(apos.endLine==pos.line)=AC):
  PE X (.Call (.Attribute a "pop" apos) [] [] pos) (up X.K λenv st Q=>ta env st λx st1=>X1 x st1 Q):=
 PE.imp (cl1 PySem.F.plainAttrs_list PySem.F.slot_list_pop PySem.F.type_list_pop ci8 ha (B5 hbase) hline) λσ H Q q=>up1 (f:=X1) q λv d H' st' Qd is rs ht hq=>by
  cases d<;>first|exact Aa ht|skip
  obtain⟨ds,d,hr,ht⟩:=ht;obtain⟨vs,hH,r⟩:=rs.lst hr;have hl:=r.len;rw[AH,Bw]at hl;obtain⟨v',hv',is'⟩:=r.get (i:=ds.length) (d:=d) ∎;rw[is.ref_inv];refine⟨.inl ⟨rfl,vs,.inl (.inl hH)⟩,_,vs,v',rfl,rfl,hH,by rw[<-hl,IN];exact hv',hq _ _ _ (b0 st' _ (.lst ds)) (Ev.put hr) (is'.mono (TK.put hH)) (rs.putOld hH ?_) ht⟩;have e:vs.dropLast=vs.take ds.length:=by rw[List.dropLast_eq_take,<-hl,IN]
  rw[e];have q:=r.take ds.length
  rwa [JW]at q
  rfl
end
end Ek
namespace Ek
open PySem PySem.Spec PyProof.Rows L2
variable [Tbs]
variable{A:BV}{items:Array AI}{j:Nat}
theorem av5{prog:Aj}{w:BA}{E:AI->AL->Prop}{s:AL}{x:AI}{e:Nat->Bool}(hj:j<items.size)(he:∀i(h:i<items.size),Hm A s items[i] x (e i))
  (hit:e j=AC) (hno:∀i,i<j->e i=AF):∀k i,i+k=items.size->i<=j ->
   AU (model prog w) A (forIn (List.range' i k) ((AE:Option PySem.Fin),()) λ(i:Nat)__s=>
      match items[i]? with
      |some y=>do
       let __do_lift <-eqBool y x
       if __do_lift=AC then do
         let __do_lift <-retInt (i:Int)
         pure (ForInStep.done (AA __do_lift,()))
        else pure (Bk (AE,()))
      |x=>pure (Bk (AE,())))
    (λr s'=>r.1=AA (PySem.Fin.done (.ret (.int j s.toks)))/\s'={s with toks:=s.toks+1}) E s
 |0,i,h1,h2=>by lia
 |k+1,i,h1,h2=>by
  have hi:i<items.size:=by lia
  rw[List.range'_succ,Ip];have e1:items[i]?=AA items[i]:=by simp[hi]
  rw[e1];dsimp only;refine AJ (AJ (he i hi prog w _ _ ?_))
  by_cases hij:i=j
  ·subst hij;rw[hit,if_pos rfl];refine AJ ?_;show AU _ _ (mkInt (i:Int)>>=_) _ _ _;refine AJ (wpAny_mkInt ?_);exact AQ (AQ (AQ ⟨rfl,rfl⟩))
  ·rw[hno i ⋯,if_neg AK];exact AQ (av5 hj he hit hno k (i+1) ⋯ ⋯)
def bt9{prog:Aj}{w:BA}{E:AI->AL->Prop}{s:AL}{a:AM}{x:AI}{e:Nat->Bool}{Q:AI->AL->Prop}(ht:s.heap.IsTuple a items)(hj:j<items.size)(he:∀i(h:i<items.size),Hm A.in1 s items[i] x (e i))
  (hit:e j=AC) (hno:∀i,i<j->e i=AF) (hQ:Q (.int j s.toks) {s with toks:=s.toks+1}) :
  AU (model prog w) A (call (.builtin "tuple.index") [.ref a,x]) Q E s:=by
 obtain⟨o,ho,hc,n,hd⟩:=id ht;refine Cm F.slot_tuple_index ht.typeIs F.entry_tuple_index ?_ (F.args_tuple_index_2 _ _);unfold GU.«tuple.index»;refine AJ (wpAny_of_eq (a:=(At a,[x])) rfl ?_);dsimp only;refine AJ ?_;unfold DZ;refine AJ (Dc ho hd (AQ ?_));refine AJ (AQ (AJ (AQ (AJ ?_))));rw[JH];have hs:(Fa [0:min items.size items.size])=items.size:=by simp[Fa]
 rw[hs];refine BP (av5 hj he hit hno items.size 0 ⋯ (An _)) (λr s' h=>?_) λ_ _ h=>h;obtain⟨h1,rfl⟩:=h;rw[h1];exact AQ ⟨_,rfl,hQ⟩
def bw5{prog:Aj}{w:BA}{E:AI->AL->Prop}{s:AL}{a:AM}{x:AI}{e:AI->Bool}{Q:AI->AL->Prop}(ht:s.heap.IsList a items)(hj:j<items.size)(hz:items.size<=sizeLine)(he:∀y,y∈items->Hm A.in1 s y x (e y))
  (hit:e items[j]=AC) (hno:∀m(hm:m<items.size),m<j->e items[m]=AF) (hQ:Q (.int j s.toks) {s with toks:=s.toks+1}) :
  AU (model prog w) A (call (.builtin "list.index") [.ref a,x]) Q E s:=by
 obtain⟨⟨cls,dd,data,sl⟩,ho,hc,n,hd⟩:=id ht;simp only at hc hd;subst hc hd;have hb:sizeLine=16777216:=rfl;exact DU PySem.F.slot_list_index ⟨_,ho,rfl⟩ PySem.F.entry_list_index (PySem.F.args_list_index_2 _ _) (SeqAt.list_indexAt a items n dd sl x e j hj ⋯ hit hno) ⟨ho,he,hQ⟩
section
variable {X:Cx} {a b c:AR} {ta tb tc:DT} {pos p:Pos}
def c25{pins:List (AM×Obj)}{σ:L2.St}{H:Hp}{s:AL}{v:V}{u:AI}{d:D}(I:L2.Inv X pins σ H s)(is:IsD X.K H d v)(ru:d3 v u)(h:∃ds,d=.tup ds):s.TypeIs u "tuple"/\∀a,u=.ref a->∃ob,s.heap.get? a=AA ob/\ob.dict=AE:=by
 obtain⟨ds,rfl⟩:=h;obtain⟨q,vs,rfl,hq,r⟩:=is.tup_inv;cases ru;obtain⟨its,rv,⟨o,ho,hc,hdn,n,hd⟩,hz⟩:=I.tupleD hq;exact⟨⟨o,ho,hc⟩,λa e=>by cases e;exact⟨o,ho,hdn⟩⟩
open Classical in
abbrev an9(h:Ay)(x:Ax)(u:AI):Bool:=AB (∃dt as,Reads h u dt as/\Ao dt x=AC)
open Classical in
def aj0{h:Ay}{x dt:Ax}{u:AI}{as:List AM}(r:Reads h u dt as)(hc:dt.canLay0=AC):an9 h x u=Ao dt x:=by
 unfold an9;cases hb:Ao dt x with
 |true=>exact decide_eq_true ⟨dt,as,r,hb⟩
 |false=>
  refine decide_eq_false λ z38=>?_;obtain⟨d',as',r',hb'⟩:=z38;rw[<-Ku dt d' u as as' hc r r',hb]at hb';cases hb'
def b70{apos:Pos}(hu:X.A.units+200<CO)(ha:PE X a (up X.K ta))(hb:PE X b (up X.K tb))(hbase:∀i p p',a≠.Call (.Name i p) [] [] p')(hs:∀e p,b≠.Starred e p)(hline:(apos.endLine==pos.line)=AC):
  PE X (.Call (.Attribute a "index" apos) [b] [] pos) (up X.K λenv st Q=>ta env st λx st1=>X5 x st1/\tb env st1 λy st2=>N2 x y st2 Q):=by
 intro pins s σ H Q I q;obtain⟨env,st,Qd,hE,hS,ht,hq⟩:=q;refine IJ (B5 hbase) (by rw[g9 hs];rfl) hline rfl (thn (ha pins s σ H (λv H1=>∃d st1,Ev st H st1 H1/\IsD X.K H1 d v/\RelS X.K st1 H1/\X5 d st1/\tb env st1 λy st2=>N2 d y st2 Qd) I ⟨env,st,_,hE,hS,ht,λv d H1 st1 ev is rs q1=>⟨d,st1,ev,is,rs,q1⟩⟩) λu s1 z39=>?_);obtain⟨v,H1,I1,r1,d,st1,ev,is,rs,q1,q2⟩:=z39;have hA0:=J0 hb hs pos pins s1 σ H1 (λvs H2=>∃w e st2,vs=[w]/\Ev st1 H1 st2 H2/\IsD X.K H2 e w/\RelS X.K st2 H2/\N2 d e st2 Qd) I1 ⟨env,st1,(λds st2=>match ds with|[e]=>N2 d e st2 Qd|_=>False),hE.mono (ev.tk hS),rs,q2,λvs ds H2 st2 ev2 is2 hl rs2 q3=>by
  match ds,hl with
  |[e],_=>
   obtain⟨w,ws,rfl,i1,i2⟩:=is2.inv_cons;rw[i2.inv_nil];exact⟨w,e,st2,rfl,ev2,i1,rs2,q3⟩⟩
 rw[g9 hs]at hA0;cases d with
 |tup ds=>
  obtain⟨h1,h2⟩:=c25 I1 is r1 ⟨_,rfl⟩;refine⟨"tuple","tuple.index",PySem.F.plainAttrs_tuple,PySem.F.slot_tuple_index,PySem.F.type_tuple_index,h1,h2,?_⟩;rw[g9 hs];refine Cj (by rfl) (Dj ?_);refine thn hA0 λus s2 z40=>?_;obtain⟨vs,H2,I2,r2,w,e,st2,ev',ev2,is2,rs2,q3⟩:=z40;subst ev';obtain⟨uw,rfl,rw'⟩:=r2.one;obtain⟨p1,p2,hd,j,dj,hjd,hit,hno,hQ⟩:=q3;have is':=is.mono (ev2.tk rs);obtain⟨q,vs,rfl,hsq,r⟩:=is'.tup_inv;cases r1;obtain⟨its,rv,pl,hz⟩:=I2.tuple hsq;have hlen:its.length=ds.length:=by rw[<-rv.length,<-r.len]
  have hj:j<ds.length:=(Ai.mp hjd).1;obtain⟨as,ra⟩:=y4 I2 is2 p1 rw';refine bt9 (items:=its.toArray) (j:=j) (e:=λi=>match ds[i]? with|some d=>deq d e|none=>AF) (show s2.heap.IsTuple q its.toArray from pl) (by simpa[hlen]using hj) (λi hi=>?_) (by rw[hjd];exact hit) (λi hi=>?_) ?_
  ·have hi':i<ds.length:=by simpa[hlen]using hi
   have e1:ds[i]?=AA ds[i]:=AX hi';rw[e1];obtain⟨v,hv,isv⟩:=r.get e1;obtain⟨u,hu',ruv⟩:=rv.get hv;have pp:=Z3 p2 ds[i] (Ix hi');obtain⟨bs,rb⟩:=y4 I2 isv pp ruv;have e2:its.toArray[i]=u:=by
    have:its[i]?=AA its[i]:=AX ⋯;rw[this]at hu';simpa using BC hu'
   rw[e2];exact Fm _ _ X.A.in1 s2 u uw bs as rb ra (B8 _ pp) (B8 _ p1) (Z8 hu hd)
  ·have hi':i<ds.length:=by lia
   have e1:ds[i]?=AA ds[i]:=AX hi';rw[e1];exact hno i _ hi e1
  ·exact⟨.int j,H2,I2.tok _,⟨_,rfl⟩,((hq.after ev).after ev2).here (.int _) rs2 hQ⟩
 |ref a0=>
  obtain⟨ds0,hr0⟩:=q1;have ev1:=is.ref_inv;subst ev1;cases r1;obtain⟨vs0,hq0,_⟩:=rs.rd hr0;obtain⟨its0,_,pl0,_⟩:=I1.list hq0;refine⟨"list","list.index",PySem.F.plainAttrs_list,PySem.F.slot_list_index,PySem.F.type_list_index,pl0.isList.typeIs,λa e=>?_,?_⟩
  ·cases e;obtain⟨o,n,g1,g2,g3,g4⟩:=pl0;exact⟨o,g1,g3⟩
  rw[g9 hs];refine Cj (by rfl) (Dj ?_);refine thn hA0 λus s2 z41=>?_;obtain⟨vs,H2,I2,r2,w,e,st2,ev',ev2,is2,rs2,q3⟩:=z41;subst ev';obtain⟨uw,rfl,rw'⟩:=r2.one;obtain⟨ds,hr,p1,p2,hd,j,dj,hjd,hit,hno,hQ⟩:=q3;obtain⟨vs,hsq,r⟩:=rs2.rd hr;obtain⟨its,rv,pl,hz⟩:=I2.list hsq;have hlen:its.length=ds.length:=by rw[<-rv.length,<-r.len]
  have hj:j<ds.length:=(Ai.mp hjd).1;obtain⟨as,ra⟩:=y4 I2 is2 p1 rw';have at':∀(i:Nat)(hi:i<ds.length),∃bs,Reads s2.heap (its[i]'⋯) (ds[i]).py bs/\(ds[i]).py.canLay0=AC:=λi hi=>by
   have e1:ds[i]?=AA ds[i]:=AX hi;obtain⟨v,hv,isv⟩:=r.get e1;obtain⟨u,hu',ruv⟩:=rv.get hv;have pp:=Z3 p2 ds[i] (Ix hi);obtain⟨bs,rb⟩:=y4 I2 isv pp ruv;have e2:its[i]'⋯=u:=by
    have:its[i]?=AA (its[i]'⋯):=AX ⋯;rw[this]at hu';exact BC hu'
   rw[e2];exact⟨bs,rb,B8 _ pp⟩
  refine bw5 (items:=its.toArray) (j:=j) (e:=an9 s2.heap e.py) pl.isList (by simpa[hlen]using hj) (by rw[Af,<-rv.length];exact hz) (λy hy=>?_) ?_ (λm hm hlt=>?_) ?_
  ·obtain⟨i,hi,rfl⟩:=List.mem_iff_getElem.mp (show y∈its by simpa using hy);obtain⟨bs,rb,cb⟩:=at' i ⋯;rw[aj0 rb cb];exact Fm _ _ X.A.in1 s2 _ uw bs as rb ra cb (B8 _ p1) (Z8 hu hd)
  ·obtain⟨bs,rb,cb⟩:=at' j hj;have e1:its.toArray[j]'(by simpa[hlen]using hj)=its[j]'⋯:=by simp
   rw[e1,aj0 rb cb];have e2:dj=ds[j]:=by rw[AX hj]at hjd;exact(BC hjd).symm
   rw[e2]at hit;exact hit
  ·have hm':m<ds.length:=by lia
   obtain⟨bs,rb,cb⟩:=at' m hm';have e1:its.toArray[m]'hm=its[m]'⋯:=by simp
   rw[e1,aj0 rb cb];exact hno m ds[m] hlt (AX hm')
  ·exact⟨.int j,H2,I2.tok _,⟨_,rfl⟩,((hq.after ev).after ev2).here (.int _) rs2 hQ⟩
 |_=>exact q1.elim
end
end Ek
namespace Ek
open PySem PySem.Spec PyProof.Rows L2
variable [Tbs]
variable{ks:List Str}{keys:List (Option AR)}{values:List AR}{t:DA}
section
variable {X:Cx} {a b c:AR} {ta tb tc:DT} {pos p:Pos}
abbrev DPs(X:Cx)(pos:Pos)(keys:List (Option AR))(values:List AR)(ks:List Str)(t:DA):Prop:=
 ∃trs,PPs X pos keys values trs/\∀(σ:L2.St)(H:Hp)(Q:List (V×V)->Hp->Prop),(∃env st Qd,RelE X.K H env σ/\RelS X.K st H/\t env st Qd /\
  ∀vs ds H' st',Ev st H st' H'->IsDs X.K H' ds vs->ds.length=ks.length->RelS X.K st' H'->Qd ds st'->Q ((ks.zip vs).map λkv=>(V.str kv.1,kv.2)) H')->V0 trs σ H Q
def cm8:DPs X pos [] [] [] (λ_ st Q=>Q [] st):=⟨[],cc4,λσ H Q⟨env,st,Qd,hE,hS,ht,hq⟩=>hq [] [] H st Ev.refl .nil rfl hS ht⟩
def ca4{k:Str}{j:Nat}{kp:Pos}(ha:PE X a (up X.K ta))(hr:DPs X pos keys values ks t):
  DPs X pos (AA (.Constant (.str k) j kp)::keys) (a::values) (k::ks) (λenv st Q=>ta env st λd st1=>t env st1 λds st2=>Q (d::ds) st2):=by
 obtain⟨trs,h1,h2⟩:=hr;refine⟨_,b21 ba4 ha h1,λσ H Q z42=>?_⟩;obtain⟨env,st,Qd,hE,hS,ht,hq⟩:=z42;show up X.K ta σ H λy H2=>V0 trs σ H2 λps H3=>Q ((V.str k,y)::ps) H3;exact⟨env,st,_,hE,hS,ht,λv d H1 st1 ev is rs q1=>h2 σ H1 _ ⟨env,st1,_,hE.mono (ev.tk hS),rs,q1,λvs ds H2 st2 ev2 is2 hl rs2 q2=>
  hq (v::vs) (d::ds) H2 st2 (ev.trans ev2) (.cons (is.mono (ev2.tk rs)) is2) (by simp[hl]) rs2 q2⟩⟩
theorem ag0:∀(more kvs:List (Key×V)),(∀k∈more.map (·.1),k7 kvs k=AE)->(more.map (·.1)).Nodup->D5 kvs more=kvs++more
 |[],kvs,_,_=>by simp[D5]
 |(k,v)::r,kvs,h,nd=>by
  have nd':=Bv.mp (show(k::r.map (·.1)).Nodup from nd);show D5 (C2 kvs k v) r=_;rw[b51 v (h k ∎),ag0 r _ (λk' hk'=>?_) nd'.2,AY]
  ·rfl
  ·have hne:k'≠k:=λz=>nd'.1 (by rw[<-z];exact hk');have h1:=h k' (by simp only[AV,AT];exact .inr hk');unfold k7 at h1 ⊢;rw[Option.map_eq_none_iff]at h1 ⊢;rw[List.find?_append,h1];simp[BD hne]
theorem at1:∀(ks:List Str)(ds:List D)(vs:List V)(w:Str)(d:D){K:AS}{H:Hp},IsDs K H ds vs->g8 (ks.zip ds) w=AA d->∃v,k7 ((ks.zip vs).map λkv=>((Bi kv.1:Key),kv.2)) (Bi w)=AA v/\IsD K H d v
 |[],ds,vs,w,d,K,H,r,h=>by simp[g8]at h
 |k::ks,[],vs,w,d,K,H,r,h=>by simp[g8]at h
 |k::ks,e::ds,vs,w,d,K,H,r,h=>by
  obtain⟨v,ws,rfl,h1,h2⟩:=r.inv_cons;simp only[GD,g8]at h
  by_cases hk:k=w
  ·rw[if_pos hk]at h;cases h;refine⟨v,?_,h1⟩;unfold k7;simp[hk]
  ·rw[if_neg hk]at h;obtain⟨v',h3,h4⟩:=at1 ks ds ws w d h2 h;refine⟨v',?_,h4⟩;unfold k7 at h3 ⊢;simp only[GD,AV,DV];have:AB ((Bi k:Key)=Bi w)=AF:=decide_eq_false λz=>hk (Fg z);rw[this];exact h3
def ce3{dp:Pos}(hu:X.A.units+200<CO)(hd:DPs X dp keys values ks t)(hall:keys.all (·.isSome)=AC)(hl:keys.length=values.length)(h0:keys≠[])(hkl:keys.length=ks.length)(h15:keys.length<=15)(nd:ks.Nodup)
  (hb:PE X b (up X.K tb)) (hs:∀l u s p,b≠.Slice l u s p) :
  PE X (.Subscript (.Dict keys values dp) b pos) (up X.K λenv st Q=>t env st λds st1=>tb env st1 λx st2=>∃w d,x=.str w/\g8 (ks.zip ds) w=AA d/\Q d st2):=by
 obtain⟨trs,h1,h2⟩:=hd;refine PE.imp (b73 ⋯ (a38 h1 hall hl h0 h15) hb (af7 hs)) λσ H Q q=>?_;obtain⟨env,st,Qd,hE,hS,ht,hq⟩:=q;intro p hp;have sp:st p=AE:=hS.free hp;refine h2 σ _ _ ⟨env,st,_,hE.mono (TK.new hp),hS.new hp,ht,λvs ds H2 st2 ev2 is2 hl2 rs2 q2=>?_⟩;obtain⟨e2,sp2⟩:=ev2.get o7 sp (λ_=>nofun);refine⟨e2,(ks.zip vs).map λkv=>((Bi kv.1:Key),kv.2),by rw[EH];rfl,?_,?_⟩
 ·rw[Am,Iy,<-is2.len,hl2];lia
 have hm:D5 [] ((ks.zip vs).map λkv=>((Bi kv.1:Key),kv.2))=(ks.zip vs).map λkv=>((Bi kv.1:Key),kv.2):=by
  rw[ag0 _ [] (λ_ _=>rfl)]
  ·rfl
  ·rw[EH];have:((λx:Key×V=>x.1)∘λkv:Str×V=>((Bi kv.1:Key),kv.2))=(λx:Str=>(Bi x:Key))∘(λkv:Str×V=>kv.1):=rfl;rw[this,<-EH];have e:(ks.zip vs).map (λkv:Str×V=>kv.1)=ks:=by
    have:=List.map_fst_zip (l₁:=ks) (l₂:=vs) (by rw[<-is2.len,hl2];exact Ae _);exact this
   rw[e];exact Ge _ (λa b hab z=>hab (Fg z)) nd
 rw[hm];have tk3:TK X.K H2 (upd H2 p (.dK ((ks.zip vs).map λkv=>((Bi kv.1:Key),kv.2)))):=TK.putD e2;have rs3:RelS X.K st2 (upd H2 p (.dK ((ks.zip vs).map λkv=>((Bi kv.1:Key),kv.2)))):=rs2.stay tk3 (λc u z=>f6 λw=>by rw[w,sp2]at z;cases z) (aa0 (by rw[e2];exact λ_ z=>by cases z));refine⟨env,st2,_,((hE.mono (TK.new hp)).mono (ev2.tk (hS.new hp))).mono tk3,rs3,q2,λy x H4 st4 ev4 is4 rs4 q4=>?_⟩;obtain⟨w,d,rfl,lk,q4⟩:=q4;obtain⟨e4,sp4⟩:=ev4.get o7 sp2 (λ_=>nofun);have is2':=(is2.mono tk3).mono (ev4.tk rs3);obtain⟨v,hv,isv⟩:=at1 ks ds vs w d is2' lk;refine⟨p,v,rfl,?_,hq v d H4 st4 (λc o hc hs=>?_) isv rs4 q4⟩
 ·rw[is4.str_inv,<-hv];exact v9.k (k:=Bi w) e4
 ·have ne:c≠p:=o6 hc hp;obtain⟨⟨o1,x1,t1⟩,y1⟩:=ev2 c o (by rw[f6 ne];exact hc) hs;obtain⟨⟨o2,x2,t2⟩,y2⟩:=ev4 c o1 (by rw[f6 ne];exact x1) y1;exact⟨⟨o2,x2,t1.trans t2⟩,y2⟩
def V8{α:Type}(ks:List Str)(vs:List α)(h:ks.length=vs.length):((ks.zip vs).map λkv=>((Bi kv.1:Key),kv.2)).map (·.1)=ks.map Bi/\((ks.zip vs).map λkv=>((Bi kv.1:Key),kv.2)).map (·.2)=vs:=by
 induction ks generalizing vs with
 |nil=>
  cases vs with
  |nil=>exact⟨rfl,rfl⟩
  |cons _ _=>simp at h
 |cons k ks ih=>
  cases vs with
  |nil=>simp at h
  |cons v vs=>
   obtain⟨h1,h2⟩:=ih vs (by simpa using h);simp only[GD,AV];exact⟨by rw[h1],by rw[h2]⟩
def cb1{dp:Pos}(hd:DPs X dp keys values ks t)(hall:keys.all (·.isSome)=AC)(hl:keys.length=values.length)(h0:keys≠[])(hkl:keys.length=ks.length)(h15:keys.length<=15)(nd:ks.Nodup):
  PE X (.Dict keys values dp) (up X.K λenv st Q=>t env st λds st1=>∀p,st1 p=AE->Q (.ref p) (b0 st1 p (.dct ((ks.zip ds).map λkv=>(.inr kv.1,kv.2))))):=by
 obtain⟨trs,h1,h2⟩:=hd;refine PE.imp (a38 h1 hall hl h0 h15) λσ H Q q=>?_;obtain⟨env,st,Qd,hE,hS,ht,hq⟩:=q;intro p hp;have sp:st p=AE:=hS.free hp;refine h2 σ _ _ ⟨env,st,_,hE.mono (TK.new hp),hS.new hp,ht,λvs ds H2 st2 ev2 is2 hl2 rs2 q2=>?_⟩;obtain⟨e2,sp2⟩:=ev2.get o7 sp (λ_=>nofun);have hlv:ks.length=vs.length:=by rw[<-is2.len,hl2]
 have hld:ks.length=ds.length:=by rw[hl2]
 refine⟨e2,(ks.zip vs).map λkv=>((Bi kv.1:Key),kv.2),by rw[EH];rfl,?_,?_⟩
 ·rw[Am,Iy,<-is2.len,hl2];lia
 have hm:D5 [] ((ks.zip vs).map λkv=>((Bi kv.1:Key),kv.2))=(ks.zip vs).map λkv=>((Bi kv.1:Key),kv.2):=by
  rw[ag0 _ [] (λ_ _=>rfl)]
  ·rfl
  ·rw[(V8 ks vs hlv).1];exact Ge _ (λa b hab z=>hab (Fg z)) nd
 rw[hm];have tk3:TK X.K H2 (upd H2 p (.dK ((ks.zip vs).map λkv=>((Bi kv.1:Key),kv.2)))):=TK.putD e2;refine hq _ (.ref p) _ (b0 st2 p (.dct ((ks.zip ds).map λkv=>(.inr kv.1,kv.2)))) (λc o hc hs=>?_) (.ref p) (rs2.putAny (ob:=.dct ((ks.zip ds).map λkv=>(.inr kv.1,kv.2))) tk3 ⟨_,o7,⟨?_,?_⟩⟩ (by rw[e2];exact λ_ z=>by cases z)) (q2 p sp2)
 ·have ne:c≠p:=o6 hc hp;obtain⟨⟨o1,x1,t1⟩,y1⟩:=ev2 c o (by rw[f6 ne];exact hc) hs;exact⟨⟨o1,by rw[f6 ne];exact x1,t1⟩,by rw[g6 ne];exact y1⟩
 ·rw[(V8 ks ds hld).1,(V8 ks vs hlv).1]
 ·rw[(V8 ks ds hld).2,(V8 ks vs hlv).2];exact is2.mono tk3
@[reducible]noncomputable def TabV(h:Ay)(a:AM)(T:List (Str×AI)):Prop:=KTD.TabOf (λ(d v:AI)=>v=d) h a T
def TabV.typeIs{s:AL}{a:AM}{T:List (Str×AI)}(t:TabV s.heap a T):s.TypeIs (.ref a) "dict":=let⟨_,o,_,_,ho,hc,_⟩:=t;⟨o,ho,hc.1⟩
def TabV.get{prog:Aj}{w:BA}{A:BV}{E:AI->AL->Prop}{s:AL}{a:AM}{T:List (Str×AI)}{k:Str}{tk:Tok}{Q:Option AI->AL->Prop}(t:TabV s.heap a T)
  (h:Q (CD k T) {s with toks:=s.toks+1}):AU (model prog w) A (Jl a (.str k tk)) Q E s:=by
 obtain⟨_,o,⟨l⟩,ep,ho,hc,hd,hr⟩:=t;unfold Jl
 try with_reducible refine CM ?_
 refine AJ (Ep (AJ (KTD.kt_dictFind_strs (s:={s with toks:=s.toks+1}) ho hd (by simpa using hr.exact) ?_)));have e:CD k T=(l.find? λe=>e.key.isStr k).map (·.val):=by
  cases hat:CD k T with
  |some d=>obtain⟨v,hv,rfl⟩:=hr.find_some hat;exact hv.symm
  |none=>exact(hr.find_none hat).symm
 have hf:findBy (λk v=>v.isStr k) (⟨l⟩:Array Dn) k=CD k T:=by rw[e];simp[findBy]
 rw[<-hf,findBy_of_findIdx?]at h;cases hi:(⟨l⟩:Array Dn).findIdx? λe=>e.key.isStr k with
 |none=>rw[hi]at h;exact AQ h
 |some i=>rw[hi]at h;exact AJ (wpAny_dictEntries (s:={s with toks:=s.toks+1}) ho hd (AQ h))
def bu1{prog:Aj}{w:BA}{A:BV}{E:AI->AL->Prop}{s:AL}{a:AM}{T:List (Str×AI)}{k:Str}{tk:Tok}{u:AI}{Q:AI->AL->Prop}(H:TabV s.heap a T)(hk:CD k T=AA u)
  (h:Q u {s with toks:=s.toks+1}):AU (model prog w) A (EG (.ref a) (.str k tk)) Q E s:=by
 unfold EG
 try with_reducible refine CM ?_
 refine AJ (Jd H.typeIs ∅ ?_);refine AJ (DX (name:=AD "__getitem__") H.typeIs Jm
  (Cm Jm H.typeIs entry_dict_getitem ?_ (args_dict_getitem _ _)))
 show AU _ _ (Jl a (.str k tk)>>=_) _ _ s;refine AJ (H.get ?_);rw[hk];exact AQ ⟨u,rfl,AQ h⟩
structure GTab(P:Aj)(w:BA)(K:AS)(mg:Str->Option AI)(g:Str)(kvs:List (Str×D)):Prop where
 ex:∃(a:AM)(T:List (Str×AI)),mg g=AA (.ref a)/\(∀h:Ay,K.In h->TabV h a T)/\(∀x d,g8 kvs x=AA d->∃u v,CD x T=AA u/\d3 v u/\∀H,IsD K H d v)/\∀x,g8 kvs x=AE->CD x T=AE
def ca6{g:Str}{kvs:List (Str×D)}(T:kvs≠[]->GTab X.prog X.w X.K X.mg g kvs)(hg:Gl X g)(hb:PE X b (up X.K tb))(hs:∀l u s p,b≠.Slice l u s p)(hdb:(g==("__debug__":Str))=AF):
  PE X (.Subscript (.Name g p) b pos) (up X.K λenv st Q=>kvs≠[]/\tb env st λx st1=>∃w d,x=.str w/\g8 kvs w=AA d/\Q d st1):=by
 intro pins s σ H Q I q;obtain⟨env,st,Qd,hE,hS,⟨hne,ht⟩,hq⟩:=q;obtain⟨t,vs,hm,hT,hl,_⟩:=(T hne).ex;have q:up X.K (λenv st Q=>tb env st λx st1=>∃w d,x=.str w/\g8 kvs w=AA d/\Q d st1) σ H Q:=⟨env,st,Qd,hE,hS,ht,hq⟩;refine ax4 PySem.F.slot_dict_getitem.lookup (af7 hs) (E5 I hg hm ?_ hdb);refine thn (hb pins s σ H (λv H1=>∃(w:Str)(d:D),v=.str w/\g8 kvs w=AA d/\∀v',IsD X.K H1 d v'->Q v' H1) I (up1 (f:=λx st1 Q=>∃w d,x=.str w/\g8 kvs w=AA d/\Q d st1) q λv d H' st' Qd is rs ht hq=>?_)) λiv s2 z43=>?_
 ·obtain⟨w,d,rfl,lk,ht⟩:=ht;exact⟨w,d,is.str_inv,lk,λv' is'=>hq.here is' rs ht⟩
 ·obtain⟨y,H2,I2,ry,w,d,ey,lk,q2⟩:=z43;subst ey;obtain⟨tt,rfl⟩:=ry;obtain⟨u,v',h1,rv,is'⟩:=hl w d lk;have hh:TabV s2.heap t vs:=hT s2.heap I2.kIn;exact⟨hh.typeIs,bu1 hh h1 ⟨v',H2,I2.tok _,rv,q2 v' (is' H2)⟩⟩
abbrev E9:List D->List AI->Bool
 |[],[]=>AC
 |.int i::ds,.int j _::us=>(i==j)&&E9 ds us
 |_,_=>AF
abbrev B9:List D->List AI->Bool
 |[],[]=>AC
 |.int i::ds,.int j _::us=>(i==j)&&B9 ds us
 |.str i::ds,.str j _::us=>(i==j)&&B9 ds us
 |.bl i::ds,.bool j::us=>(i==j)&&B9 ds us
 |_,_=>AF
theorem B9.is:∀{ds:List D}{us:List AI},B9 ds us=AC->∃vs,c7 vs us/\∀(K:AS)(H:Hp),IsDs K H ds vs
 |[],[],_=>⟨[],.nil,λ_ _=>.nil⟩
 |[],_::_,h=>by simp[B9]at h
 |d::ds,[],h=>by simp[B9]at h
 |d::ds,u::us,h=>by
  cases d<;>cases u<;>simp only[B9,Az,beq_iff_eq,Ar]at h
  all_goals
   obtain⟨rfl,h⟩:=h;obtain⟨vs,r,z⟩:=B9.is h
  ·exact⟨.bl _::vs,.cons rfl r,λK H=>.cons (.bl _) (z K H)⟩
  ·exact⟨.int _::vs,.cons ⟨_,rfl⟩ r,λK H=>.cons (.int _) (z K H)⟩
  ·exact⟨.str _::vs,.cons ⟨_,rfl⟩ r,λK H=>.cons (.str _) (z K H)⟩
abbrev A8(K:AS):D->AI->Bool
 |.int j,.int i _=>i==j
 |.str y,.str x _=>x==y
 |.fn f,.ref a=>Aw K AO f==AA (AA (.ref a))
 |.ktup ns,.ref a=>(match K.lookup a with
  |some o=>(match o.data with|.seq its _=>(o.cls==.type "tuple")&&o.dict.isNone&&AB (its.size<=1000)&&E9 (ns.map D.int) its.toList|_=>AF)
  |none=>AF)
 |.tup ds,.ref a=>Tbs.kt&&match K.lookup a with
  |some o=>(match o.data with|.seq its _=>(o.cls==.type "tuple")&&o.dict.isNone&&AB (its.size<=1000)&&B9 ds its.toList|_=>AF)
  |none=>AF
 |_,_=>AF
theorem E9.is:∀{ds:List D}{us:List AI},E9 ds us=AC->∃ns:List Int,ds=ns.map D.int/\c7 (ns.map V.int) us
 |[],[],_=>⟨[],rfl,.nil⟩
 |[],_::_,h=>by simp[E9]at h
 |d::ds,[],h=>by simp[E9]at h
 |d::ds,u::us,h=>by
  cases d<;>cases u<;>simp only[E9,Az,beq_iff_eq,Ar]at h;rename_i i j t;obtain⟨rfl,h⟩:=h;obtain⟨ns,rfl,r⟩:=E9.is h;exact⟨i::ns,rfl,.cons ⟨_,rfl⟩ r⟩
theorem A8.is{K:AS}{d:D}{u:AI}(h:A8 K d u=AC):∃v,d3 v u/\∀H,IsD K H d v:=by
 cases d<;>cases u<;>simp only[A8,beq_iff_eq,Ar]at h
 ·subst h;exact⟨.int _,⟨_,rfl⟩,λH=>.int _⟩
 ·subst h;exact⟨.str _,⟨_,rfl⟩,λH=>.str _⟩
 ·rename_i ds a;rw[Az]at h;obtain⟨hkt,h⟩:=h;cases hk:K.lookup a with
  |none=>rw[hk]at h;cases h
  |some o=>
   rw[hk]at h;simp only at h
   split at h
   ·rename_i its n hd;simp only[Az,beq_iff_eq,decide_eq_true_eq]at h;obtain⟨⟨⟨h1,h2⟩,h3⟩,h4⟩:=h;obtain⟨vs,r,z⟩:=B9.is h4;exact⟨.ref a,rfl,λH=>IsD.mk (.inr ⟨hkt,.inr ⟨o,its,n,hk,h1,by simpa using h2,hd,Ag h3 ∅,r⟩⟩) (z K H)⟩
   ·cases h
 ·rename_i f a;exact⟨.ref a,rfl,λH=>.fn h⟩
 ·rename_i ms a;cases hk:K.lookup a with
  |none=>rw[hk]at h;cases h
  |some o=>
   rw[hk]at h;simp only at h
   split at h
   ·rename_i its n hd;simp only[Az,beq_iff_eq,decide_eq_true_eq]at h;obtain⟨⟨⟨h1,h2⟩,h3⟩,h4⟩:=h;obtain⟨ns,e,r⟩:=E9.is h4;have e:ms=ns:=(List.map_inj_right (λa b z=>by cases z;rfl)).mp e;subst e;exact⟨.ref a,rfl,λH=>.ktup (.inr ⟨o,its,n,hk,h1,by simpa using h2,hd,Ag h3 ∅,r⟩)⟩
   ·cases h
abbrev am1(K:AS)(e:Dn)(p:Str×D):Bool:=(match e.key with|.str x _=>x==p.1|_=>AF)&&A8 K p.2 e.val
abbrev P9(K:AS):List Dn->List (Str×D)->Bool
 |[],[]=>AC
 |e::es,p::ps=>am1 K e p&&P9 K es ps
 |_,_=>AF
abbrev ab7(K:AS)(a:AM)(kvs:List (Str×D)):Bool:=match K.lookup a with
 |some ⟨c,dd,.dict es _,sl⟩=>(c==.type "dict")&&dd.isNone&&sl.isEmpty&&P9 K es.toList kvs&&!(a==DD)
 |_=>AF
abbrev R0:List Dn->List (Str×D)->List (Str×AI)
 |e::es,(x,_)::r=>(x,e.val)::R0 es r
 |_,_=>[]
theorem ax9{K:AS}:∀(es:List Dn)(kvs:List (Str×D)),P9 K es kvs=AC->KTD.Rows (λ(d v:AI)=>v=d) es (R0 es kvs)
 |[],[],_=>.nil
 |[],_::_,h'=>by cases h'
 |_::_,[],h'=>by cases h'
 |e::es,(x,d)::ps,h'=>by
  simp only[P9,am1,Az]at h';obtain⟨⟨h1,_⟩,h2⟩:=h'
  split at h1
  ·rename_i y t ek;have:y=x:=by simpa using h1
   subst this;exact .cons ek rfl (ax9 es ps h2)
  ·cases h1
theorem ah5{K:AS}:∀(kvs:List (Str×D))(es:List Dn),P9 K es kvs=AC->∀x,(∀d,g8 kvs x=AA d->∃u v,CD x (R0 es kvs)=AA u/\d3 v u/\∀H,IsD K H d v)/\(g8 kvs x=AE->CD x (R0 es kvs)=AE)
 |[],[],_,x=>⟨λd h=>(nomatch h),λ_=>rfl⟩
 |[],_::_,h',x=>by cases h'
 |(y,e)::r,[],h',x=>by cases h'
 |(y,e)::r,en::es,h',x=>by
  simp only[P9,am1,Az]at h';obtain⟨⟨_,h1⟩,h2⟩:=h';have ih:=ah5 r es h2 x;simp only[g8,R0,CD]
  by_cases hy:y=x
  ·rw[if_pos hy,if_pos (by simp[hy])];obtain⟨v,rv,is⟩:=A8.is h1;exact⟨λd h=>by cases h;exact⟨_,v,rfl,rv,is⟩,λh=>by cases h⟩
  ·rw[if_neg hy,if_neg (by simp[BD hy])];exact ih
def a50{P:Aj}{w:BA}{K:AS}{mg:Str->Option AI}{h:Ay}{g:Str}{kvs:List (Str×D)}{a:AM}(Xk:K.In h)(G:h.Ns AO mg)(a1:Aw K AO g=AA (AA (.ref a)))(t1:ab7 K a kvs=AC):GTab P w K mg g kvs:=by
 unfold ab7 at t1
 split at t1
 ·rename_i c dd es ep sl hk;simp only[Az,beq_iff_eq,EI]at t1;obtain⟨⟨⟨⟨e1,e2⟩,e3⟩,e4⟩,e5⟩:=t1;refine⟨a,R0 es.toList kvs,Dz Xk G a1,λh' hK'=>⟨e5,_,es,ep,hK' a _ hk,⟨e1,by simpa using e2,by simpa using e3⟩,rfl,ax9 _ _ e4⟩,λx d lk=>(ah5 kvs _ e4 x).1 d lk,λx=>(ah5 kvs _ e4 x).2⟩
 ·cases t1
end
end Ek
namespace Ek
open PySem PySem.Spec PyProof.Rows L2
variable [Tbs]
variable{q:AM}{H1:Hp}
section
variable {X:Cx} {a b c:AR} {ta tb tc:DT} {pos p:Pos}
structure ItOk(K:AS)(H1:Hp)(J:L2.It)(items:List D)(chk:Sto->Prop):Prop where
 go:∀(i:Nat)st H,TK K H1 H->RelS K st H->chk st->i<items.length->J.go i H
 yld:∀(i:Nat)st H x H',TK K H1 H->RelS K st H->chk st->i<items.length->J.yld i H x H'->∃d,items[i]?=AA d/\IsD K H' d x/\Ev st H st H'/\RelS K st H'
 stop:∀st H,TK K H1 H->RelS K st H->chk st->J.stop items.length H
abbrev upI(K:AS)(t:d9->Sto->ItK->Prop):TI:=λσ H R=>∃env st k,RelE K H env σ/\RelS K st H/\t env st k/\∀items chk st' H' J,Ev st H st' H'->RelS K st' H'->ItOk K H' J items chk->k items chk st'->R J H'
def _root_.L2.PI.imp{X:Cx}{tg x:AR}{t t':TI}(h:PI X tg x t)(i:∀σ H Q,t' σ H Q->t σ H Q):PI X tg x t':=λpins s σ H Q I q=>h pins s σ H Q I (i σ H Q q)
variable {K:AS}
def cn5{ds:List D}{vs:List V}(hq:SqT K H1 q vs)(r:IsDs K H1 ds vs):ItOk K H1 (Itt K q) ds (λ_=>True) where
 go:=λi st H tk rs _ hi=>by
  obtain⟨v,hv,_⟩:=r.get (AX hi);exact⟨vs,v,tk.1.1 _ _ hq,hv⟩
 yld:=λi st H x H' tk rs _ hi y=>by
  obtain⟨rfl,y⟩:=y;obtain⟨d,hd,is⟩:=r.get' (y vs (tk.1.1 _ _ hq));exact⟨d,hd,is.mono tk,Ev.refl,rs⟩
 stop:=λst H tk rs _=>⟨vs,tk.1.1 _ _ hq,by rw[r.len];exact Ae _⟩
def co3{ds:List D}:ItOk K H1 (Itl K q) ds (λst=>rdS st q ds) where
 go:=λi st H tk rs hc hi=>by
  obtain⟨vs,hs,r⟩:=rs.rd hc;obtain⟨v,hv,_⟩:=r.get (AX hi);exact⟨vs,v,hs,hv⟩
 yld:=λi st H x H' tk rs hc hi y=>by
  obtain⟨rfl,y⟩:=y;obtain⟨vs,hs,r⟩:=rs.rd hc;obtain⟨d,hd,is⟩:=r.get' (y vs hs);exact⟨d,hd,is,Ev.refl,rs⟩
 stop:=λst H tk rs hc=>by
  obtain⟨vs,hs,r⟩:=rs.rd hc;exact⟨vs,hs,by rw[r.len];exact Ae _⟩
def bb3{lo:Int}{n:Nat}:ItOk K H1 (Itr lo n) (i6 lo n) (λ_=>True) where
 go:=λi st H tk rs _ hi=>by show i<n;simpa[i6]using hi
 yld:=λi st H x H' tk rs _ hi y=>by
  obtain⟨rfl,rfl⟩:=y;have hi':i<n:=by simpa[i6]using hi
  exact⟨.int (lo+i),by simp[i6,hi'],.int _,Ev.refl,rs⟩
 stop:=λst H tk rs _=>by show n<=(i6 lo n).length;simp[i6]
theorem ag5:∀(ds:List D)(k:Nat),(j8 k ds).length=ds.length
 |[],_=>rfl
 |d::ds,k=>by simp[j8,ag5 ds (k+1)]
theorem as2:∀(ds:List D)(k i:Nat)(d:D),ds[i]?=AA d->(j8 k ds)[i]?=AA (.tup [.int ((k+i:Nat):Int),d])
 |[],k,i,d,h=>by simp at h
 |e::ds,k,0,d,h=>by simp at h;subst h;rfl
 |e::ds,k,i+1,d,h=>by
  have:=as2 ds (k+1) i d (by simpa using h);have e:k+(i+1)=k+1+i:=by lia
  rw[e];simpa[j8]using this
def a43{sq:Hp->List V->Prop}{ds:List D}{chk:Sto->Prop}(h:∀st H,TK K H1 H->RelS K st H->chk st->∃vs,sq H vs/\IsDs K H ds vs):ItOk K H1 (Ite K sq) (j8 0 ds) chk where
 go:=λi st H tk rs hc hi=>by
  obtain⟨vs,hs,r⟩:=h st H tk rs hc;rw[ag5]at hi;obtain⟨v,hv,_⟩:=r.get (AX hi);exact⟨vs,v,hs,hv⟩
 yld:=λi st H x H' tk rs hc hi y=>by
  obtain⟨t,v,ht,rfl,rfl,y⟩:=y;obtain⟨vs,hs,r⟩:=h st H tk rs hc;obtain⟨d,hd,is⟩:=r.get' (y vs hs);refine⟨_,as2 ds 0 i d hd,IsD.mk (SqX.of o7) (.cons ?_ (.cons (is.mono (TK.new ht)) .nil)),Ev.new ht,rs.new ht⟩;have e:((0+i:Nat):Int)=(i:Int):=by simp
  rw[e];exact .int _
 stop:=λst H tk rs hc=>by
  obtain⟨vs,hs,r⟩:=h st H tk rs hc;exact⟨vs,hs,by rw[ag5,r.len]⟩
def co5{ds:List D}:ItOk K H1 (Itv K q ds.length) ds.reverse (λst=>rdS st q ds) where
 go:=λi st H tk rs hc hi=>by
  obtain⟨vs,hs,r⟩:=rs.rd hc;exact⟨⟨vs,hs,r.len.symm⟩,by simpa using hi⟩
 yld:=λi st H x H' tk rs hc hi y=>by
  obtain⟨rfl,y⟩:=y;obtain⟨vs,hs,r⟩:=rs.rd hc;have hi':i<ds.length:=by simpa using hi
  obtain⟨d,hd,is⟩:=r.get' (y vs hs);exact⟨d,by rw[List.getElem?_reverse hi'];exact hd,is,Ev.refl,rs⟩
 stop:=λst H tk rs hc=>by
  obtain⟨vs,hs,r⟩:=rs.rd hc;exact⟨⟨vs,hs,r.len.symm⟩,∎⟩
variable {tg:AR}
def co4(ha:PE X a (up X.K ta)):PI X tg a (upI X.K λenv st k=>ta env st λd st1=>(∃ds,d=.tup ds/\k ds (λ_=>True) st1)\/(∃a ds,d=.ref a/\rdS st1 a ds/\k ds (λst'=>rdS st' a ds) st1)):=by
 intro pins s σ H R I q;obtain⟨env,st,kk,hE,hS,ht,hq⟩:=q;refine thn (ha pins s σ H (λv H1=>∃d st1,Ev st H st1 H1/\IsD X.K H1 d v/\RelS X.K st1 H1/\((∃ds,d=.tup ds/\kk ds (λ_=>True) st1)\/(∃a ds,d=.ref a/\rdS st1 a ds/\kk ds (λst'=>rdS st' a ds) st1))) I ⟨env,st,_,hE,hS,ht,λv d H1 st1 ev is rs q1=>⟨d,st1,ev,is,rs,q1⟩⟩) λu s1 z44=>?_
 obtain⟨v,H1,I1,r1,d,st1,ev,is,rs,q1⟩:=z44;rcases q1 with⟨ds,rfl,q1⟩|⟨q,ds,rfl,hr,q1⟩
 ·obtain⟨q,vs,rfl,hsq,r⟩:=is.tup_inv;cases r1;obtain⟨its,rv,pl,hz⟩:=I1.tuple hsq;refine EQ (show s1.heap.IsTuple q its.toArray from pl) ?_;refine⟨s1.heap.objs.size,[s1.heap.objs.size],_,_,H1,rfl,I1.kept (t':=s1.toks) λb o e=>AW _ e,bu7 q _,⟨_,BN _ rfl,rfl,rfl⟩,λb hb=>?_,hq ds _ st1 H1 _ ev rs (cn5 hsq r) q1⟩;have e:b=s1.heap.objs.size:=by simpa using hb
  subst e;exact I1.fpOk (Ae _) (I1.hok.fresh (Ae _))
 ·rw[is.ref_inv]at r1;cases r1;obtain⟨vs,hsq,r⟩:=rs.rd hr;obtain⟨its,rv,pl,hz⟩:=I1.list hsq;refine wpAny_pyIter_list pl.isList ?_;refine⟨s1.heap.objs.size,[s1.heap.objs.size],_,_,H1,rfl,I1.kept (t':=s1.toks) λb o e=>AW _ e,bx8 q _,⟨_,BN _ rfl,rfl,rfl⟩,λb hb=>?_,hq ds _ st1 H1 _ ev rs co3 q1⟩;have e:b=s1.heap.objs.size:=by simpa using hb
  subst e;exact I1.fpOk (Ae _) (I1.hok.fresh (Ae _))
def cn1(hg:Gl X "range")(hm:X.mg "range"=AE)(ha:PE X a (up X.K ta))(hs:∀e p,a≠.Starred e p):PI X tg (.Call (.Name "range" p) [a] [] pos) (upI X.K λenv st k=>ta env st λd st1=>∃j:Int,d=.int j/\(-(2^62)<=j/\j<2^62)/\k (i6 0 j.toNat) (λ_=>True) st1):=
 PI.imp (by9 hg hm (J0 ha hs) (by rw[g9 hs];rfl)) λσ H R q=>by
  obtain⟨env,st,kk,hE,hS,ht,hq⟩:=q;refine⟨env,st,(λds st1=>match ds with|[d]=>∃j:Int,d=.int j/\(-(2^62)<=j/\j<2^62)/\kk (i6 0 j.toNat) (λ_=>True) st1|_=>False),hE,hS,ht,λvs ds H' st' ev is hl rs q1=>?_⟩
  match ds,hl with
  |[d],_=>
   obtain⟨v,ws,rfl,i1,i2⟩:=is.inv_cons;rw[i2.inv_nil];obtain⟨j,rfl,hj,q1⟩:=q1;exact⟨j,by rw[i1.int_inv],hj.1,hj.2,hq _ _ st' H' _ ev rs bb3 q1⟩
def cb9(hg:Gl X "range")(hm:X.mg "range"=AE)(ha:PE X a (up X.K ta))(hb:PE X b (up X.K tb))(hs:∀e p,a≠.Starred e p)(hs':∀e p,b≠.Starred e p):PI X tg (.Call (.Name "range" p) [a,b] [] pos) (upI X.K λenv st k=>ta env st λd st1=>tb env st1 λe st2=>∃i j:Int,d=.int i/\e=.int j/\(-(2^62)<=i/\i<2^62/\-(2^62)<=j/\j<2^62)/\k (i6 i (j-i).toNat) (λ_=>True) st2):=
 PI.imp (by5 hg hm (a58 ha hb hs hs') (by rw[g9 hs,g9 hs'];rfl) (by rw[g9 hs'];rfl)) λσ H R q=>by
  obtain⟨env,st,kk,hE,hS,ht,hq⟩:=q;refine⟨env,st,(λds st1=>match ds with|[d,e]=>∃i j:Int,d=.int i/\e=.int j/\(-(2^62)<=i/\i<2^62/\-(2^62)<=j/\j<2^62)/\kk (i6 i (j-i).toNat) (λ_=>True) st1|_=>False),hE,hS,ht,λvs ds H' st' ev is hl rs q1=>?_⟩
  match ds,hl with
  |[d,e],_=>
   obtain⟨v,ws,rfl,i1,i2⟩:=is.inv_cons;obtain⟨w,ws',rfl,i3,i4⟩:=i2.inv_cons;rw[i4.inv_nil];obtain⟨i,j,rfl,rfl,hj,q1⟩:=q1;exact⟨i,j,by rw[i1.int_inv,i3.int_inv],hj,hq _ _ st' H' _ ev rs bb3 q1⟩
def cd6{elts:List AR}{k0:Nat}{tp:Pos}(hg:Gl X "enumerate")(hm:X.mg "enumerate"=AE)(ha:PE X a (up X.K ta))(hs:∀e p,a≠.Starred e p):PI X (.Tuple elts k0 tp) (.Call (.Name "enumerate" p) [a] [] pos)
  (upI X.K λenv st k=>ta env st λd st1=>(∃ds,d=.tup ds/\k (j8 0 ds) (λ_=>True) st1)\/(∃a ds,d=.ref a/\rdS st1 a ds/\k (j8 0 ds) (λst'=>rdS st' a ds) st1)):=by
 have hst:As [a] X.env=[(AF,eval a X.env)]:=by rw[g9 hs];rfl
 intro pins s σ H R I q;obtain⟨env,st,kk,hE,hS,ht,hq⟩:=q;have hA:=J0 ha hs;refine Call_ (P7 I hg hm L2.bs1 (Bt (thn (hA pos pins s σ H (λvs H1=>∃v d st1,vs=[v]/\Ev st H st1 H1/\IsD X.K H1 d v/\RelS X.K st1 H1/\((∃ds,d=.tup ds/\kk (j8 0 ds) (λ_=>True) st1)\/(∃a ds,d=.ref a/\rdS st1 a ds/\kk (j8 0 ds) (λst'=>rdS st' a ds) st1))) I
  ⟨env,st,(λds st1=>match ds with|[d]=>(∃ds,d=.tup ds/\kk (j8 0 ds) (λ_=>True) st1)\/(∃a ds,d=.ref a/\rdS st1 a ds/\kk (j8 0 ds) (λst'=>rdS st' a ds) st1)|_=>False),hE,hS,ht,λvs ds H' st' ev is hl rs q1=>by
   match ds,hl with
   |[d],_=>
    obtain⟨v,ws,rfl,i1,i2⟩:=is.inv_cons;rw[i2.inv_nil];exact⟨v,d,st',rfl,ev,i1,rs,q1⟩⟩) λus s1⟨vs,H1,I1,r1,v,d,st1,e1,ev,is,rs,q1⟩=>?_) hst rfl))
 subst e1;obtain⟨u,rfl,ru⟩:=r1.one
 rcases q1 with⟨ds,rfl,q1⟩|⟨q,ds,rfl,hr,q1⟩
 ·obtain⟨l,vs,rfl,hsq,r⟩:=is.tup_inv;cases ru;exact b13 I1 hsq (hq _ _ st1 H1 _ ev rs (a43 λst H tk rs _=>⟨vs,tk.1.1 _ _ hsq,r.mono tk⟩) q1)
 ·rw[is.ref_inv]at ru;cases ru;obtain⟨vs,hsq,r⟩:=rs.rd hr;exact b43 I1 hsq (hq _ _ st1 H1 _ ev rs (a43 λst H tk rs hc=>rs.rd hc) q1)
def co1(hg:Gl X "reversed")(hm:X.mg "reversed"=AE)(ha:PE X a (up X.K ta))(hs:∀e p,a≠.Starred e p):PI X tg (.Call (.Name "reversed" p) [a] [] pos) (upI X.K λenv st k=>ta env st λd st1=>∃a ds,d=.ref a/\rdS st1 a ds/\k ds.reverse (λst'=>rdS st' a ds) st1):=
 PI.imp (cb0 hg hm (J0 ha hs) (by rw[g9 hs];rfl)) λσ H R q=>by
  obtain⟨env,st,kk,hE,hS,ht,hq⟩:=q;refine⟨env,st,(λds st1=>match ds with|[d]=>∃a ds,d=.ref a/\rdS st1 a ds/\kk ds.reverse (λst'=>rdS st' a ds) st1|_=>False),hE,hS,ht,λvs ds H' st' ev is hl rs q1=>?_⟩
  match ds,hl with
  |[d],_=>
   obtain⟨v,ws,rfl,i1,i2⟩:=is.inv_cons;rw[i2.inv_nil];obtain⟨q,ds,rfl,hr,q1⟩:=q1;obtain⟨vs,hsq,r⟩:=rs.rd hr;exact⟨q,vs,by rw[i1.ref_inv],hsq,by rw[<-r.len];exact hq _ _ st' H' _ ev rs co5 q1⟩
end
end Ek
namespace PySem
open PyProof.Rows
namespace F
end F
end PySem
namespace L2
open PySem PySem.Spec PyProof.Rows
end L2
namespace Ek
open PySem PySem.Spec PyProof.Rows L2
variable [Tbs]
end Ek
namespace PySem
open PyProof.Rows
end PySem
namespace L2
open PySem PySem.Spec PyProof.Rows
end L2
namespace Ek
open PySem PySem.Spec PyProof.Rows L2
variable [Tbs]
end Ek
namespace PySem
end PySem
namespace L2
open PySem PySem.Spec PyProof.Rows
end L2
namespace Ek
open PySem PySem.Spec PyProof.Rows L2
variable [Tbs]
end Ek
namespace Ek
open PySem PySem.Spec PyProof.Rows L2
variable [Tbs]
end Ek
namespace PySem
end PySem
namespace Ek
open PySem PySem.Spec PyProof.Rows L2
variable [Tbs]
end Ek
namespace Ek
open PySem PySem.Spec PyProof.Rows L2
variable [Tbs]
variable{H:Hp}{pos':Pos}
section
variable {X:Cx} {a b c:AR} {ta tb tc:DT} {pos p:Pos} {K:AS}
abbrev upG(K:AS)(t:Tg):TG:=λv σ H Q=>∃d env k,IsD K H d v/\RelE K H env σ/\F3 t d env k/\∀env' σ',RelE K H env' σ'->k env'->Q σ' H
def _root_.L2.PG.imp{X:Cx}{x:AR}{t t':TG}(h:PG X x t)(i:∀v σ H Q,t' v σ H Q->t v σ H Q):PG X x t':=λpins s σ H v u Q I r q=>h pins s σ H v u Q I r (i v σ H Q q)
def cf1{i:Nat}{x:Str}(hN:X.N.Nodup)(hi:X.N[i]?=AA x)(hx:Loc X.env.scope x)(hf:X.fn x=AC\/X.env.scope.names.lookup x=AA .local):PG X (.Name x pos) (upG X.K (.n i)):=
 PG.imp (a47 hN hi hx hf) λv σ H Q q=>by
  obtain⟨d,env,k,is,hE,ht,hq⟩:=q;exact hq _ _ (hE.set is i) ht
abbrev X0:List Nat->TGs
 |[]=>bo1
 |i::is=>bh6 (al4 i) (X0 is)
theorem bd8{K:AS}{Q:L2.St->Hp->Prop}{k:d9->Prop}:∀(is:List Nat)(ds:List D)(vs:List V)(env:d9)(σ:L2.St),ds.length=is.length->IsDs K H ds vs->RelE K H env σ->k (N1 env is ds)->(∀env' σ',RelE K H env' σ'->k env'->Q σ' H)->X0 is vs σ H Q
 |[],[],vs,env,σ,_,r,hE,ht,hq=>⟨r.inv_nil,hq _ _ hE ht⟩
 |i::is,d::ds,vs,env,σ,hl,r,hE,ht,hq=>by
  obtain⟨v,ws,rfl,h1,h2⟩:=r.inv_cons;exact⟨v,ws,rfl,bd8 is ds ws _ _ (by simpa using hl) h2 (hE.set h1 i) ht hq⟩
 |[],d::ds,vs,env,σ,hl,_,_,_,_=>by simp at hl
 |i::is,[],vs,env,σ,hl,_,_,_,_=>by simp at hl
def cq1{es:List AR}{k0:Nat}{is:List Nat}(hc:X.calm=AC)(h:PGs X es (X0 is))(hn:(CP es X.env).length=is.length)(hst:(CP es X.env).findIdx? (·.1)=AE):PG X (.Tuple es k0 pos) (upG X.K (.tup is)):=
 PG.imp (cl4 hc h hn hst) λv σ H Q q=>by
  obtain⟨d,env,k,i1,hE,⟨ds,rfl,hl,ht⟩,hq⟩:=q;obtain⟨q,vs,rfl,hsq,r⟩:=i1.tup_inv;exact⟨q,vs,rfl,hsq,by rw[<-r.len];exact hl,bd8 is ds vs env σ hl r hE ht hq⟩
structure EndsR(K:AS)(st:Sto)(H:Hp)(Fd:DEnds)(F:Ends):Prop where
 nx:∀env σ H' st',Ev st H st' H'->RelE K H' env σ->RelS K st' H'->Fd.nx env st'->F.nx σ H'
 bk:∀env σ H' st',Ev st H st' H'->RelE K H' env σ->RelS K st' H'->Fd.bk env st'->F.bk σ H'
 ct:∀env σ H' st',Ev st H st' H'->RelE K H' env σ->RelS K st' H'->Fd.ct env st'->F.ct σ H'
 rt:m9 K st H Fd.rt F.rt
theorem EndsR.after{st st1:Sto}{H1:Hp}{Fd:DEnds}{F:Ends}(e:EndsR K st H Fd F)(ev:Ev st H st1 H1):EndsR K st1 H1 Fd F:=
 ⟨λenv σ H' st' ev'=>e.nx env σ H' st' (ev.trans ev'),λenv σ H' st' ev'=>e.bk env σ H' st' (ev.trans ev'),λenv σ H' st' ev'=>e.ct env σ H' st' (ev.trans ev'),e.rt.after ev⟩
abbrev upS(K:AS)(t:DS):TS:=λF σ H=>∃env st Fd,RelE K H env σ/\RelS K st H/\t Fd env st/\EndsR K st H Fd F
variable {t u:DS} {s1:BG} {c8:List BG}
def cq9:PSs X [] (upS X.K λF env st=>F.nx env st):=PSs.imp cd1 λF σ H⟨env,st,Fd,hE,hS,ht,hq⟩=>hq.nx env σ H st Ev.refl hE hS ht
def b98(h1:PS X s1 (upS X.K t))(h2:PSs X c8 (upS X.K u)):PSs X (s1::c8) (upS X.K λF env st=>t {F with nx:=u F} env st):=
 PSs.imp (b19 h1 h2) λF σ H⟨env,st,Fd,hE,hS,ht,hq⟩=>⟨env,st,{Fd with nx:=u Fd},hE,hS,ht,λenv' σ' H' st' ev hE' hS' q=>⟨env',st',Fd,hE',hS',q,hq.after ev⟩,hq.bk,hq.ct,hq.rt⟩
def ak1{i:Nat}{x:Str}(hN:X.N.Nodup)(hi:X.N[i]?=AA x)(hx:Loc X.env.scope x)(ha:PE X a (up X.K ta))(hs:DW a (AA (.Name x pos')) pos.line X.env=pure AF)(hf:X.fn x=AC\/X.env.scope.names.lookup x=AA .local):
  PS X (.Assign [.Name x pos'] a pos) (upS X.K λF env st=>ta env st λd st1=>F.nx (env.set i (AA d)) st1):=
 PS.imp (a92 hN hi hx ha hs hf) λF σ H⟨env,st,Fd,hE,hS,ht,hq⟩=>⟨env,st,_,hE,hS,ht,λv d H' st' ev is rs q=>hq.nx _ _ H' st' ev ((hE.mono (ev.tk hS)).set is i) rs q⟩
def cn8{o i v:AR}{to ti tv:DT}(hv:PE X v (up X.K tv))(ho:PE X o (up X.K to))(hi:PE X i (up X.K ti))
  (hsub:∀w,assign (.Subscript o i pos') X.env w=(do
   let ov <-holding [w] (eval o X.env)
   let iv <-holding [w,ov] (eval i X.env)
   HD pos'
   holding [w,ov,iv] (setItem ov iv w)
   release [w,ov,iv] [])) (hs:Fz [.Subscript o i pos'] v pos.line X.env=pure AF) (hw:swappedStores [.Subscript o i pos'] v X.env=pure AE) :
  PS X (.Assign [.Subscript o i pos'] v pos) (upS X.K λF env st=>tv env st λd st1=>to env st1 λx st2=>ti env st2 λy st3=>∃a j k ds,x=.ref a/\y=.int j/\st3 a=AA (.lst ds)/\ixN ds.length j=AA k/\F.nx env (b0 st3 a (.lst (ds.set k d)))):=
 PS.imp (cn2 hv (cj1 ho hi b14 hsub) hs hw rfl) λF σ H⟨env,st,Fd,hE,hS,ht,hq⟩=>⟨env,st,_,hE,hS,ht,λw d H1 st1 ev1 is1 rs1 q1=>
  ⟨env,st1,_,hE.mono (ev1.tk hS),rs1,q1,λov x H2 st2 ev2 is2 rs2 q2=>⟨env,st2,_,(hE.mono (ev1.tk hS)).mono (ev2.tk rs1),rs2,q2,λiv y H3 st3 ev3 is3 rs3 q3=>by
   obtain⟨q,j,k,ds,rfl,rfl,hr,hk,q3⟩:=q3;obtain⟨vs,hH,r⟩:=rs3.lst hr;have is1':=(is1.mono (ev2.tk rs1)).mono (ev3.tk rs2);refine⟨q,vs,j,k,(is2.mono (ev3.tk rs2)).ref_inv,is3.int_inv,hH,by rw[<-r.len];exact hk,?_⟩;exact hq.nx env σ _ _ (((ev1.trans ev2).trans ev3).trans (Ev.put hr)) ((((hE.mono (ev1.tk hS)).mono (ev2.tk rs1)).mono (ev3.tk rs2)).mono (TK.put hH)) (rs3.putOld hH (r.set is1' k)) q3⟩⟩⟩
def cb5{o v:AR}{to tv:DT}{f:Str}{C:Str->List Str}(hC:∀c Ca,Aw X.K AO c=AA (AA (.ref Ca))->f∈C c->Cls X.K Ca/\D6 X.K Ca f)(hv:PE X v (up X.K tv))(ho:PE X o (up X.K to))(hs:DW v (AA (.Attribute o f pos')) pos.line X.env=pure AF):
  PS X (.Assign [.Attribute o f pos'] v pos) (upS X.K λF env st=>tv env st λd st1=>to env st1 λx st2=>∃p c fs,x=.ref p/\st2 p=AA (.ins c fs)/\f∈C c/\fs.length<1000/\F.nx env (b0 st2 p (.ins c (N7 f d fs)))):=
 PS.imp (cg9 ho hv hs) λF σ H q=>by
  obtain⟨env,st,Fd,hE,hS,ht,hq⟩:=q;refine⟨env,st,_,hE,hS,ht,λw d H1 st1 ev is rs q1=>?_⟩;refine⟨env,st1,_,hE.mono (ev.tk hS),rs,q1,λy x H2 st2 ev2 is2 rs2 q2=>?_⟩;obtain⟨p,c,fs,rfl,hs2,hf,hl,hn⟩:=q2;obtain⟨Ca,dx,vs,hH,hns,r⟩:=rs2.ins hs2;obtain⟨c1,c2⟩:=hC c Ca hns hf;have is1:=is.mono (ev2.tk rs);have tk:=TK.putI (K:=X.K) (o:=.ins Ca dx (o8 f w vs)) hH;refine⟨p,Ca,dx,vs,is2.ref_inv,hH,c1,c2,by rw[<-r.length];exact hl,?_⟩;refine hq.nx env σ _ _ ((ev.trans ev2).trans (Ev.put hs2)) (((hE.mono (ev.tk hS)).mono (ev2.tk rs)).mono tk) (rs2.putAny (ob:=.ins c (N7 f d fs)) tk ⟨Ca,dx,_,o7,hns,(r.put is1 f).mono tk⟩ (by rw[hH];exact λ_ z=>by cases z)) hn
def cw6(ha:PE X a (up X.K ta))(hs:DW a AE pos.line X.env=pure AF):PS X (.Expr a pos) (upS X.K λF env st=>ta env st λ_ st1=>F.nx env st1):=
 PS.imp (cb3 ha hs) λF σ H⟨env,st,Fd,hE,hS,ht,hq⟩=>⟨env,st,_,hE,hS,ht,λv d H' st' ev is rs q=>hq.nx _ _ H' st' ev (hE.mono (ev.tk hS)) rs q⟩
def ck7(ha:PE X a (up X.K ta)):PS X (.Return (AA a) pos) (upS X.K λF env st=>ta env st F.rt):=
 PS.imp (cn7 ha) λF σ H⟨env,st,Fd,hE,hS,ht,hq⟩=>⟨env,st,_,hE,hS,ht,hq.rt⟩
def cc6:PS X (.Return AE pos) (upS X.K λF _ st=>F.rt .non st):=PS.imp b90 λF σ H⟨env,st,Fd,hE,hS,ht,hq⟩=>hq.rt.here .non hS ht
def cf2:PS X (.Pass pos) (upS X.K λF env st=>F.nx env st):=PS.imp b94 λF σ H⟨env,st,Fd,hE,hS,ht,hq⟩=>hq.nx env σ H st Ev.refl hE hS ht
def cb6:PS X (.Continue pos) (upS X.K λF env st=>F.ct env st):=PS.imp bu2 λF σ H⟨env,st,Fd,hE,hS,ht,hq⟩=>hq.ct env σ H st Ev.refl hE hS ht
def cs5{tc:DB}{x y:List BG}(hc:PT X c (upB X.K tc))(h1:PSs X x (upS X.K t))(h2:PSs X y (upS X.K u)):PS X (.If c x y pos) (upS X.K λF env st=>tc env st λk st1=>if k=AC then t F env st1 else u F env st1):=
 PS.imp (cw7 hc h1 h2) λF σ H⟨env,st,Fd,hE,hS,ht,hq⟩=>⟨env,st,_,hE,hS,ht,λk H' st' ev rs q=>by
  cases k with
  |true=>exact⟨env,st',Fd,hE.mono (ev.tk hS),rs,q,hq.after ev⟩
  |false=>exact⟨env,st',Fd,hE.mono (ev.tk hS),rs,q,hq.after ev⟩⟩
def b63{tc:DB}{x:List BG}(hp:Fh (model X.prog X.w) X.A X.env X.xe)(hc:PT X c (upB X.K tc))(h1:PSs X x (upS X.K t)):PS X (.While c x [] pos) (upS X.K λF env st=>∃n,B7 tc t F n env st):=
 PS.imp (b29 hp hc h1) λF σ H⟨env,st,Fd,hE,hS,⟨n,ht⟩,hq⟩=>by
  refine⟨λm σ' H'=>∃env' st',RelE X.K H' env' σ'/\RelS X.K st' H'/\Ev st H st' H'/\B7 tc t Fd m env' st',⟨n,env,st,hE,hS,Ev.refl,ht⟩,?_⟩;rintro m σ1 H1 ⟨env1,st1,hE1,hS1,ev1,w1⟩;cases m with
  |zero=>exact w1.elim
  |succ m=>
   refine⟨env1,st1,_,hE1,hS1,w1,λk H2 st2 ev2 rs2 q2=>?_⟩;cases k with
   |false=>
    simp only[Ar,if_false]at q2 ⊢;exact hq.nx env1 σ1 H2 st2 (ev1.trans ev2) (hE1.mono (ev2.tk hS1)) rs2 q2
   |true=>
    simp only[if_true]at q2 ⊢;refine⟨λσ' H'=>∃env' st',RelE X.K H' env' σ'/\RelS X.K st' H'/\Ev st H st' H'/\B7 tc t Fd m env' st',λσ' H' h=>⟨m,Bx _,h⟩,?_⟩;have hq2:=hq.after (ev1.trans ev2);have ev12:=ev1.trans ev2;exact⟨env1,st2,_,hE1.mono (ev2.tk hS1),rs2,q2,λenv' σ' H' st' ev hE' hS' q=>⟨env',st',hE',hS',ev12.trans ev,q⟩,hq2.nx,λenv' σ' H' st' ev hE' hS' q=>⟨env',st',hE',hS',ev12.trans ev,q⟩,hq2.rt⟩
def ch8{tg iter:AR}{x:List BG}{ti:d9->Sto->ItK->Prop}{g:Tg}(hp:Fh (model X.prog X.w) X.A X.env X.xe)(hc:X.calm=AC)(hi:PI X tg iter (upI X.K ti))(hg:PG X tg (upG X.K g))(h1:PSs X x (upS X.K t))(hs:∀v,De iter X.env v=pure v):
  PS X (.For tg iter x [] pos) (upS X.K λF env st=>ti env st λitems chk st1=>o4 chk g t F items env st1):=
 PS.imp (cq4 hp hc hi hg h1 hs) λF σ H⟨env,st,Fd,hE,hS,ht,hq⟩=>by
  refine⟨env,st,_,hE,hS,ht,λitems chk st1 H1 J ev1 rs1 ok q1=>?_⟩;refine⟨λi m σ' H'=>m=items.length-i/\i<=items.length/\∃env' st',RelE X.K H' env' σ'/\RelS X.K st' H'/\Ev st H st' H'/\TK X.K H1 H'/\o4 chk g t Fd (items.drop i) env' st',⟨items.length,∎,An _,env,st1,hE.mono (ev1.tk hS),rs1,ev1,TK.refl,q1⟩,?_⟩;rintro i m σ2 H2 ⟨rfl,hi,env2,st2,hE2,hS2,ev2,tk2,w2⟩
  by_cases hlt:i<items.length
  ·right
   rw[EC hlt]at w2;obtain⟨hchk,w2⟩:=w2;refine⟨ok.go i st2 H2 tk2 hS2 hchk hlt,λσ' H'=>i+1<=items.length/\∃env' st',RelE X.K H' env' σ'/\RelS X.K st' H'/\Ev st H st' H'/\TK X.K H1 H'/\o4 chk g t Fd (items.drop (i+1)) env' st',λσ' H' h=>⟨items.length-(i+1),⋯,rfl,h⟩,λv H3 y=>?_⟩;obtain⟨d,hd,is3,ev3,rs3⟩:=ok.yld i st2 H2 v H3 tk2 hS2 hchk hlt y;have ed:d=items[i]:=by rw[AX hlt]at hd;exact(BC hd).symm
   subst ed;refine⟨_,env2,_,is3,hE2.mono (ev3.tk hS2),w2,λenv4 σ4 hE4 q4=>?_⟩;have ev23:=ev2.trans ev3;have hq4:=hq.after ev23;have tk3:TK X.K H1 H3:=tk2.trans (ev3.tk hS2);exact⟨env4,st2,_,hE4,rs3,q4,λenv' σ' H' st' ev hE' hS' q=>⟨hlt,env',st',hE',hS',ev23.trans ev,tk3.trans (ev.tk rs3),q⟩,hq4.nx,λenv' σ' H' st' ev hE' hS' q=>⟨hlt,env',st',hE',hS',ev23.trans ev,tk3.trans (ev.tk rs3),q⟩,hq4.rt⟩
  ·left
   have e:i=items.length:=by lia
   subst e;rw[IY]at w2;exact⟨ok.stop st2 H2 tk2 hS2 w2.1,hq.nx env2 σ2 H2 st2 ev2 hE2 hS2 w2.2⟩
def b54{env:d9}{σ:L2.St}{fr:List Nat}{k:Nat}(r:RelE K H env σ):RelE K H (M6 fr k env) (D3 fr k σ):=by
 refine⟨by simp[M6,D3],λi d h=>?_⟩;unfold M6 at h;unfold D3
 by_cases hi:i<fr.length
 ·rw[BW (by simpa using hi),CJ]at h ⊢;rw[AX hi]at h ⊢;simp only[GC,CF]at h ⊢;cases q:env[fr[i]]? with
  |none=>rw[q]at h;cases h
  |some o=>
   rw[q]at h;have h':o=AA d:=h;subst h';obtain⟨v,hv,is⟩:=r.at' _ d q;exact⟨v,by rw[hv];rfl,is⟩
 ·rw[Bd (by simpa using hi),DR]at h
  split at h<;>cases h
def as6{ti:d9->Sto->ItK->Prop}{g:Tg}{tc:DB}{fr:List Nat}{k:Nat}{σ:L2.St}{Q:VK}
  (h:up K (λenv st Q=>ti env st λitems chk st1=>items.length<=1000000/\t8 chk g tc ta (λacc st'=>∀p,st' p=AE->Q (.ref p) (b0 st' p (.lst acc))) items [] (M6 fr k env) st1) σ H Q) :
  aj8 fr k (upI K ti) (upG K g) (upB K tc) (up K ta) Q σ H:=by
 obtain⟨env,st,Qd,hE,hS,ht,hq⟩:=h;refine⟨env,st,_,hE,hS,ht,λitems chk st1 H1 J ev1 rs1 ok q1 p hp=>?_⟩;obtain⟨hlen,q1⟩:=q1;have hEc:RelE K H1 env σ:=hE.mono (ev1.tk hS);refine⟨λi m σ' H'=>m=items.length-i/\i<=items.length/\∃env' st' acc ys,RelE K H' env' σ'/\RelS K st' H'/\st' p=AE/\H' p=AA (.lst ys)/\IsDs K H' acc ys/\acc.length<=i/\TK K H1 H'/\(∀a o,H a=AA o->st a=AE->a≠p/\(∃o',H' a=AA o'/\TbE o o')/\st' a=AE) /\
  t8 chk g tc ta (λacc st'=>∀p,st' p=AE->Qd (.ref p) (b0 st' p (.lst acc))) (items.drop i) acc env' st',⟨items.length,∎,An _,M6 fr k env,st1,[],[],(b54 hEc).mono (TK.new hp),rs1.new hp,rs1.free hp,o7,.nil,An _,TK.new hp,λa o h1 h2=>?_,q1⟩,?_⟩
 ·obtain⟨⟨o',x,t⟩,y⟩:=ev1 a o h1 h2;have ne:a≠p:=o6 x hp;exact⟨ne,⟨o',by rw[f6 ne];exact x,t⟩,y⟩
 rintro i m σ2 H2 ⟨rfl,hi,env2,st2,acc,ys,hE2,hS2,sp2,hp2,ra,hal,tk2,old,w2⟩
 by_cases hlt:i<items.length
 ·right
  rw[EC hlt]at w2;obtain⟨hchk,w2⟩:=w2;refine⟨ok.go i st2 H2 tk2 hS2 hchk hlt,λσ' H'=>i+1<=items.length/\∃env' st' acc ys,RelE K H' env' σ'/\RelS K st' H'/\st' p=AE/\H' p=AA (.lst ys)/\IsDs K H' acc ys/\acc.length<=i+1/\TK K H1 H'/\(∀a o,H a=AA o->st a=AE->a≠p/\(∃o',H' a=AA o'/\TbE o o')/\st' a=AE) /\
   t8 chk g tc ta (λacc st'=>∀p,st' p=AE->Qd (.ref p) (b0 st' p (.lst acc))) (items.drop (i+1)) acc env' st',λσ' H' h=>⟨items.length-(i+1),⋯,rfl,h⟩,λv H3 y=>?_⟩
  obtain⟨d,hd,is3,ev3,rs3⟩:=ok.yld i st2 H2 v H3 tk2 hS2 hchk hlt y;have ed:d=items[i]:=by rw[AX hlt]at hd;exact(BC hd).symm
  subst ed;refine⟨_,env2,_,is3,hE2.mono (ev3.tk hS2),w2,λenv4 σ4 hE4 q4=>?_⟩;have old3:∀{H':Hp}{st':Sto},Ev st2 H2 st' H'->∀a o,H a=AA o->st a=AE->a≠p/\(∃o',H' a=AA o'/\TbE o o')/\st' a=AE:=λev a o h1 h2=>by
   obtain⟨x,⟨o1,y,t1⟩,z⟩:=old a o h1 h2;obtain⟨⟨o2,y',t2⟩,z'⟩:=ev a o1 y z;exact⟨x,⟨o2,y',t1.trans t2⟩,z'⟩
  refine⟨env4,st2,_,hE4,rs3,q4,λbb H5 st5 ev5 rs5 q5=>?_⟩;have ev25:Ev st2 H2 st5 H5:=ev3.trans ev5;have tk25:TK K H2 H5:=ev25.tk hS2;obtain⟨hp5,sp5⟩:=ev25.get hp2 sp2 (λ_=>nofun);cases bb with
  |false=>
   simp only[Ar,if_false]at q5 ⊢;exact⟨hlt,env4,st5,acc,ys,hE4.mono (ev5.tk rs3),rs5,sp5,hp5,ra.mono tk25,⋯,tk2.trans tk25,old3 ev25,q5⟩
  |true=>
   simp only[if_true]at q5 ⊢;refine⟨env4,st5,_,hE4.mono (ev5.tk rs3),rs5,q5,λw e H6 st6 ev6 is6 rs6 q6=>?_⟩;have ev26:Ev st2 H2 st6 H6:=ev25.trans ev6;have tk26:TK K H2 H6:=ev26.tk hS2;obtain⟨hp6,sp6⟩:=ev26.get hp2 sp2 (λ_=>nofun);have ra6:=ra.mono tk26;have hsz:ys.length<sizeLine:=by
    rw[<-ra6.len];have:(1000001:Nat)<=sizeLine:=by decide
    lia
   refine⟨ys,hp6,hsz,hlt,env4,st6,acc++[e],ys++[w],(hE4.mono ((ev5.trans ev6).tk rs3)).mono (TK.put hp6),rs6.stay (TK.put hp6) (λa o h1=>f6 λz=>by rw[z,sp6]at h1;cases h1) (aa0 (by rw[hp6];exact λ_ z=>by cases z)),sp6,o7,(ra6.append (.cons is6 .nil)).mono (TK.put hp6),by simp;lia,(tk2.trans tk26).trans (TK.put hp6),λa o h1 h2=>?_,q6⟩;obtain⟨x,⟨o',y,t⟩,z⟩:=old3 ev26 a o h1 h2;exact⟨x,⟨o',by rw[f6 x];exact y,t⟩,z⟩
 ·left
  have e:i=items.length:=by lia
  subst e;rw[IY]at w2;refine⟨ok.stop st2 H2 tk2 hS2 w2.1,hq _ (.ref p) H2 (b0 st2 p (.lst acc)) (λa o h1 h2=>?_) (.ref p) ⟨λa o h1=>?_,hS2.tb⟩ (w2.2 p sp2)⟩
  ·obtain⟨x,y,z⟩:=old a o h1 h2;exact⟨y,by rw[g6 x];exact z⟩
  ·by_cases ha:a=p
   ·subst ha;rw[b7]at h1;cases h1;exact⟨ys,hp2,ra⟩
   ·rw[g6 ha]at h1;exact hS2.ob a o h1
end
end Ek
namespace Ek
open PySem PySem.Spec PyProof.Rows L2
variable [Tbs]
end Ek
namespace HT
open PySem PySem.Spec PyProof.Rows
end HT
namespace L2
open PySem PySem.Spec PyProof.Rows
end L2
namespace Ek
open PySem PySem.Spec PyProof.Rows L2
variable [Tbs]
end Ek
namespace Ek
open PySem PySem.Spec PyProof.Rows L2
variable [Tbs]
section
variable {X:Cx} {a b c:AR} {ta tb tc:DT} {pos apos p:Pos}
def cm6(ha:PE X a (up X.K ta))(hb:PE X b (up X.K tb)):PE X (.BinOp a .Add b pos) (up X.K λenv st Q=>ta env st λx st1=>tb env st1 λy st2=>∃i j,x=.str i/\y=.str j/\i.length+j.length<=sizeLine/\Q (.str (i++j)) st2):=
 PE.imp (J5 bu8 ha hb) λσ H Q q=>up2 (f:=λx y st2 Q=>∃i j,x=.str i/\y=.str j/\i.length+j.length<=sizeLine/\Q (.str (i++j)) st2) q λv w d e H' st' Qd i1 i2 rs ht hq=>by
  obtain⟨i,j,rfl,rfl,hz,ht⟩:=ht;exact⟨i,j,i1.str_inv,i2.str_inv,hz,hq.here (.str _) rs ht⟩
def cl3:SlR X (λx lo hi H Q=>∃w i j,x=.str w/\lo=AA i/\hi=AA j/\w.length<=sizeLine/\Q (.str (Bf w (AA i) (AA j))) H):=by
 intro pins s σ H x v vl vu lo hi sl Q I rx hs pl pu h;obtain⟨w,i,j,rfl,rfl,rfl,hz,q⟩:=h;obtain⟨t,rfl⟩:=rx;cases pl with
 |int _ ti=>cases pu with
  |int _ tj=>
   exact⟨"str",_,PySem.F.slot_str_getitem.lookup,Ez _ _ _,IA (l:=AA (i,ti)) (u:=AA (j,tj)) (st:=AE) hs rfl
    (KP ⟨Ag (KD w _ _) hz,λt' k=>⟨.str _,H,I.tok _,⟨_,rfl⟩,q⟩⟩)⟩
def ci5{lo hi:AR}{tl th:DT}{p2:Pos}(ha:PE X a (up X.K ta))(hl:PE X lo (up X.K tl))(hh:PE X hi (up X.K th)):
  PE X (.Subscript a (.Slice (AA lo) (AA hi) AE p2) pos) (up X.K λenv st Q=>ta env st λx st1=>tl env st1 λl st2=>∃i,l=.int i/\th env st2 λh st3=>∃j,h=.int j/\∃w,x=.str w/\w.length<=sizeLine/\Q (.str (Bf w (AA i) (AA j))) st3):=
 PE.imp (au1 cl3 ha (aj3 hl) (aj3 hh)) λσ H Q q=>by
  obtain⟨env,st,Qd,hE,hS,ht,hq⟩:=q;refine⟨env,st,_,hE,hS,ht,λv d H1 st1 ev1 is1 rs1 q1=>⟨env,st1,λl st2=>∃i,l=AA i/\th env st2 λh st3=>∃j,h=.int j/\∃w,d=.str w/\w.length<=sizeLine/\Qd (.str (Bf w (AA i) (AA j))) st3,hE.mono (ev1.tk hS),rs1,?_,λl H2 st2 ev2 rs2 q2=>?_⟩⟩
  ·simpa only[CF,exists_eq_left']using q1
  ·obtain⟨i,rfl,q2⟩:=q2;refine⟨env,st2,λh st3=>∃j,h=AA j/\∃w,d=.str w/\w.length<=sizeLine/\Qd (.str (Bf w (AA i) (AA j))) st3,(hE.mono (ev1.tk hS)).mono (ev2.tk rs1),rs2,?_,λh H3 st3 ev3 rs3 q3=>?_⟩
   ·simpa only[CF,exists_eq_left']using q2
   ·obtain⟨j,rfl,w,rfl,hz,q3⟩:=q3;exact⟨w,i,j,is1.str_inv,rfl,rfl,hz,(((hq.after ev1).after ev2).after ev3).here (.str _) rs3 q3⟩
def b84(hg:Gl X "len")(hm:X.mg "len"=AE)(ha:PE X a (up X.K ta))(hs:∀e p,a≠.Starred e p):PE X (.Call (.Name "len" p) [a] [] pos) (up X.K λenv st Q=>ta env st λx st1=>∃w,x=.str w/\w.length<=sizeLine/\Q (.int w.length) st1):=
 ac1 (g:=λx st1 Q=>∃w,x=.str w/\w.length<=sizeLine/\Q (.int w.length) st1) bt5 hg hm PySem.boot_len ha hs (λv d H' st' Qd Q is rs ht hq=>by
  obtain⟨w,rfl,hz,ht⟩:=ht;exact⟨w,by rw[is.str_inv],hz,hq.here (.int _) rs ht⟩) ∅ ∅
def b50:BU "str"=AA (.type "str"):=by decide+kernel
def b80(hg:Gl X "str")(hm:X.mg "str"=AE)(ha:PE X a (up X.K ta))(hs:∀e p,a≠.Starred e p):PE X (.Call (.Name "str" p) [a] [] pos) (up X.K λenv st Q=>ta env st λx st1=>∃i:Int,x=.int i/\i.natAbs.log2<1920/\Q (.str (Dh i)) st1):=
 ab5 (g:=λx st1 Q=>∃i:Int,x=.int i/\i.natAbs.log2<1920/\Q (.str (Dh i)) st1) bt0 hg hm b50 ha hs (λv d H' st' Qd Q is rs ht hq=>by
  obtain⟨i,rfl,hz,ht⟩:=ht;exact⟨i,by rw[is.int_inv],hz,hq.here (.str _) rs ht⟩) ∅ ∅
def bs8:z0 X (.type "int") (λxs H Q=>∃n:Int,xs=[.str (AD (Dh n))]/\0<=n/\n<10^10/\Q (.int n) H):=by
 intro pins s σ H xs us Q I r h;obtain⟨n,rfl,h0,h1,q⟩:=h;obtain⟨u,rfl,t,rfl⟩:=J4 r;exact W.KIN.call_num h0 h1 ⟨.int n,H,I.tok _,⟨_,rfl⟩,q⟩
def ca9(hg:Gl X "int")(hm:X.mg "int"=AE)(ha:PE X a (up X.K ta))(hs:∀e p,a≠.Starred e p):PE X (.Call (.Name "int" p) [a] [] pos) (up X.K λenv st Q=>ta env st λx st1=>∃n:Int,x=.str (AD (Dh n))/\0<=n/\n<10^10/\Q (.int n) st1):=
 ab5 (g:=λx st1 Q=>∃n:Int,x=.str (AD (Dh n))/\0<=n/\n<10^10/\Q (.int n) st1) bs8 hg hm av7 ha hs (λv d H' st' Qd Q is rs ht hq=>by
  obtain⟨n,rfl,h0,h1,ht⟩:=ht;exact⟨n,by rw[is.str_inv],h0,h1,hq.here (.int _) rs ht⟩) ∅ ∅
def bd0(ne:Bool):OpR X (Bc (if ne then EB else .In)) (λx y H Q=>∃c w,x=.str ⟨#[c]⟩/\y=.str w/\Q (.bl (ne != AB (c∈w.cps.toList))) H):=by
 intro pins s σ H x y v u Q I rx ry h;obtain⟨c,w,rfl,rfl,q⟩:=h;cases ne with
 |false=>exact b06 pins s σ H _ _ v u Q I rx ry ⟨_,_,rfl,rfl,by rw[He];simpa using q⟩
 |true=>exact bt3 pins s σ H _ _ v u Q I rx ry ⟨_,_,rfl,rfl,by rw[He];simpa using q⟩
def ck5{ne:Bool}{o:Dm}(e:o=if ne then EB else .In)(ha:PE X a (up X.K ta))(hb:PE X b (up X.K tb))(hm:∀es k p,b≠.Set es k p):PE X (.Compare a [o] [b] pos) (up X.K λenv st Q=>ta env st λx st1=>tb env st1 λy st2=>T3 ne x y st2 Q):=by
 subst e;exact PE.imp (aj1 (bd0 ne) ha hb (P2 _ b hm)) λσ H Q q=>up2 (f:=T3 ne) q λv w d e H' st' Qd i1 i2 rs ht hq=>by
  obtain⟨c,w,rfl,rfl,ht⟩:=ht;exact⟨c,w,i1.str_inv,i2.str_inv,hq.here (.bl _) rs ht⟩
def cp2{ne:Bool}{o:Dm}(e:o=if ne then EB else .In)(ha:PE X a (up X.K ta))(hb:PE X b (up X.K tb))(hm:∀es k p,b≠.Set es k p):
  PT X (.Compare a [o] [b] pos) (upB X.K λenv st Q=>ta env st λx st1=>tb env st1 λy st2=>T3 ne x y st2 λd st'=>∃k,d=.bl k/\Q k st'):=by
 subst e;refine PT.imp (ai6 (bd0 ne) ha hb (P2 _ b hm)) λσ H Q q=>?_;obtain⟨env,st,Qd,hE,hS,ht,hq⟩:=q;refine up2 (f:=T3 ne) (Q:=λx H'=>∃k,x=.bl k/\Q k H') ⟨env,st,_,hE,hS,ht,λv d H' st' ev is rs q1=>?_⟩ λv w d e H' st' Qd i1 i2 rs ht hq=>by
  obtain⟨c,w,rfl,rfl,ht⟩:=ht;exact⟨c,w,i1.str_inv,i2.str_inv,hq.here (.bl _) rs ht⟩
 obtain⟨k,rfl,q1⟩:=q1;exact⟨k,is.bl_inv,hq k H' st' ev rs q1⟩
theorem bb8:∀{ts:List Str}{us:List AI},c7 (ts.map V.str) us->∃l:List (Str×Tok),us=strValues l/\l.map (·.1)=ts
 |[],_,.nil=>⟨[],rfl,rfl⟩
 |t::ts,_,.cons ⟨k,e⟩ r=>by
  obtain⟨l,e1,e2⟩:=bb8 r;exact⟨(t,k)::l,by rw[e,e1];rfl,by rw[AV,e2]⟩
theorem a97{K:AS}{H:Hp}:∀{ts:List Str}{vs:List V},IsDs K H (ts.map D.str) vs->vs=ts.map V.str
 |[],vs,r=>by rw[r.inv_nil];rfl
 |t::ts,vs,r=>by
  obtain⟨v,ws,rfl,i1,i2⟩:=r.inv_cons;rw[i1.str_inv,a97 i2];rfl
def b83(ha:PE X a (up X.K ta))(hb:PE X b (up X.K tb))(hbase:∀i p p',a≠.Call (.Name i p) [] [] p')(hs:∀e p,b≠.Starred e p)(hline:(apos.endLine==pos.line)=AC):
  PE X (.Call (.Attribute a "join" apos) [b] [] pos) (up X.K λenv st Q=>ta env st λx st1=>∃z,x=.str z/\tb env st1 λy st2=>ab8 z y st2 Q):=by
 intro pins s σ H Q I q;obtain⟨env,st,Qd,hE,hS,ht,hq⟩:=q;have m:M1 X a "join" apos b pos:=⟨B5 hbase,by rw[g9 hs];rfl,hline,by rw[g9 hs];rfl⟩;refine Jh m.base m.few m.line PySem.F.plainAttrs_str PySem.F.slot_str_join PySem.F.type_str_join (thn (ha pins s σ H (λv H1=>∃z st1,v=.str z/\Ev st H st1 H1/\RelS X.K st1 H1/\tb env st1 λy st2=>ab8 z y st2 Qd) I ⟨env,st,_,hE,hS,ht,λv d H' st' ev is rs q=>?_⟩) λu s1 z45=>?_)
 ·obtain⟨z,rfl,q⟩:=q;exact⟨z,st',is.str_inv,ev,rs,q⟩
 obtain⟨x,H1,I1,rx,z,st1,ex,ev1,rs1,q1⟩:=z45;subst ex;obtain⟨t,rfl⟩:=rx;refine⟨Ez _ _ _,(λ_ e=>nomatch e),?_⟩;rw[m.trees];refine method1_meets PySem.F.slot_str_join PySem.F.entry_str_join (thn (hb pins s1 σ H1 (λv H2=>∃p ts st2,v=.ref p/\Ev st1 H1 st2 H2/\RelS X.K st2 H2/\rdS st2 p (ts.map D.str)/\JU z ts=AC/\Qd (.str (JV z ts)) st2) I1 ⟨env,st1,_,hE.mono (ev1.tk hS),rs1,q1,λv d H' st' ev is rs q=>?_⟩) λu s2 z46=>?_)
 ·obtain⟨p,ts,rfl,hr,hok,q⟩:=q;exact⟨p,ts,st',is.ref_inv,ev,rs,hr,hok,q⟩
 obtain⟨y,H2,I2,ry,p,ts,st2,ey,ev2,rs2,hr,hok,q2⟩:=z46;subst ey;cases ry;obtain⟨vs,hl,r⟩:=rs2.rd hr;obtain rfl:=a97 r;obtain⟨its,rv,pl,hz⟩:=I2.list hl;obtain⟨l,rfl,rfl⟩:=bb8 rv;have hok':=hok;unfold JU at hok';rw[EI]at hok';exact⟨Ez _ _ _,PySem.F.args_str_join_2 _ _,_,meets_str_join_list z t p l hok',pl.isList,post_join l ⟨joinFit_length hok',λt' k=>⟨.str _,H2,I2.tok _,⟨_,rfl⟩,(hq.after (ev1.trans ev2)).here (.str _) rs2 q2⟩⟩⟩
def cm7(hu:X.A.units+200<CO)(ha:PE X a (up X.K ta))(hb:PE X b (up X.K tb))(hc:PE X c (up X.K tc))(hbase:∀i p p',a≠.Call (.Name i p) [] [] p')(hs:∀e p,b≠.Starred e p)(hs2:∀e p,c≠.Starred e p)(hline:(apos.endLine==pos.line)=AC):
  PE X (.Call (.Attribute a "get" apos) [b,c] [] pos) (up X.K λenv st Q=>ta env st λx st1=>an5 x st1/\tb env st1 λy st2=>tc env st2 λz st3=>an8 x y z st3 Q):=
 PE.imp (b33 ⋯ ha hb hc ⟨B5 hbase,by rw[g9 hs,g9 hs2];rfl,hline,by rw[g9 hs,g9 hs2];rfl⟩) λσ H Q q=>by
  obtain⟨env,st,Qd,hE,hS,ht,hq⟩:=q;refine⟨env,st,_,hE,hS,ht,λx d H1 st1 ev is rs q1=>?_⟩;obtain⟨hd,q1⟩:=q1;cases d<;>first|exact hd.elim|skip
  rename_i p;obtain⟨kvs,hp⟩:=hd;obtain⟨vs,hH,r⟩:=rs.dct hp;refine⟨p,is.ref_inv,.inl ⟨vs,.inl hH⟩,env,st1,_,hE.mono (ev.tk hS),rs,q1,λy e H2 st2 ev2 is2 rs2 q2=>⟨env,st2,_,(hE.mono (ev.tk hS)).mono (ev2.tk rs),rs2,q2,λz f H3 st3 ev3 is3 rs3 q3=>?_⟩⟩;cases e<;>first|exact q3.elim|skip
  rename_i w;obtain⟨kvs2,hp2,q3⟩:=q3;obtain⟨vs2,hH2,r2⟩:=rs3.dct hp2;refine⟨k7 vs2 (.inr w),by rw[is2.str_inv];exact v9.k (k:=.inr w) hH2,?_⟩
  rcases r2.look (.inr w)with⟨l1,l2⟩|⟨d,v,l1,l2,is4⟩
  ·rw[l2];rw[l1]at q3;exact hq _ _ _ st3 ((ev.trans ev2).trans ev3) is3 rs3 q3
  ·rw[l2];rw[l1]at q3;exact hq _ _ _ st3 ((ev.trans ev2).trans ev3) is4 rs3 q3
structure IscOk(K:AS)(c:Str)(Ca:AM):Prop where
 at_:Aw K AO c=AA (AA (.ref Ca))
 cl:Cls K Ca
 ha:BH K (.ref Ca) "__class__"=AA (AA (.builtin "object.__class__"))
 hn:Dp K (.builtin "object.__class__") "__get__"=AA (AA (.builtin "getset_descriptor.__get__"))
 htk:Eg K (.builtin "object.__class__")=AA AC
 hm:ES K Ca (.type "object")=AA AC
 no:Dq K (.type "tuple") (.ref Ca)=AA AF
 yes:Dq K (.ref Ca) (.ref Ca)=AA AC
def cl5{p2:Pos}{k:Str}{Ca:AM}(K:IscOk X.K k Ca)(hg:Gl X "isinstance")(hm:X.mg "isinstance"=AE)(hg2:Gl X k)(hm2:X.mg k=AA (.ref Ca))(hdb:(k==("__debug__":Str))=AF)(ha:PE X a (up X.K ta))(hs:∀e p,a≠.Starred e p):
  PE X (.Call (.Name "isinstance" p) [a,.Name k p2] [] pos) (up X.K λenv st Q=>ta env st λx st1=>am3 k x st1 Q):=by
 intro pins s σ H Q I q;obtain⟨env,st,Qd,hE,hS,ht,hq⟩:=q;have arg:PA X [a,.Name k p2] (Q6 (up X.K ta) (Q6 (tC (.ref Ca)) W9)):=P3 ha (P3 (aa1 (v:=.ref Ca) hg2 hm2 rfl hdb) aa8 rfl) (g9 hs);refine Z6 (r:=λvs H Q=>(∃x ty b,vs=[x,.ref Ca]/\TyOf X.K H x ty/\Dq X.K ty (.ref Ca)=AA b/\Q (.bl b) H)\/∃q' xs,vs=[.ref q',.ref Ca]/\SqT X.K H q' xs/\Q (.bl AF) H) ?_ hg hm ap5 arg ∅ ∅ (g9 hs) rfl pins s σ H Q I ?_
 ·intro pins s σ H vs us Q I r h
  rcases h with⟨x,ty,b,rfl,h1,h2,q⟩|⟨q',xs,rfl,h1,q⟩
  ·obtain⟨u,v,rfl,ru,rv⟩:=r.two;cases rv;exact b03 I ru h1 h2 λtk=>⟨.bl b,H,I.tok _,rfl,q⟩
  ·obtain⟨u,v,rfl,ru,rv⟩:=r.two;cases rv;cases ru;obtain⟨its,_,⟨o,e1,e2,_⟩,_⟩:=I.tupleD h1;exact Ci Kg I.kIn ⟨o,e1,e2⟩ K.no (λz=>nomatch z) λtk=>⟨.bl AF,H,I.tok _,rfl,q⟩
 ·refine⟨env,st,_,hE,hS,ht,λv d H' st' ev is rs q1=>?_⟩;cases d<;>first|exact q1.elim|skip
  ·obtain⟨a,vs,rfl,sq,_⟩:=is.tup_inv;exact .inr ⟨a,vs,rfl,sq,(hq.after ev).here (.bl _) rs q1⟩
  ·obtain⟨fs,hs,q1⟩:=q1;obtain⟨Cb,dx,vs,hH,hn,r⟩:=rs.ins hs;cases K.at_.symm.trans hn;exact .inl ⟨v,.ref Ca,AC,rfl,by rw[is.ref_inv];exact .ins hH K.cl K.ha K.hn K.htk K.hm,K.yes,(hq.after ev).here (.bl _) rs q1⟩
def _root_.Ek.TabV.nin{prog:Aj}{w:BA}{A:BV}{E:AI->AL->Prop}{s:AL}{a:AM}{T:List (Str×AI)}{k:Str}{tk:Tok}{Q:AI->AL->Prop}(t:TabV s.heap a T)
  (h:Q (.bool (!(CD k T).isSome)) {s with toks:=s.toks+1}):AU (model prog w) A (Bc .NotIn (.str k tk) (.ref a)) Q E s:=by
 show AU _ _ (do return .bool (!(<-contains (.ref a) (.str k tk)))) Q E s;refine AJ ?_;unfold contains
 try with_reducible refine CM ?_
 refine AJ (DM t.typeIs GI.lookup ?_);show AU _ _ (if(AA (JA "dict.__contains__")==AA BZ)=AC then _ else _) _ E s;rw[if_neg (by rw[Jp];exact AK)];refine AJ (wpAny_callSpecialUnlessNone?_slot (name:=AD "__contains__") t.typeIs GI
  (Cm GI t.typeIs entry_dict_contains ?_ (args_dict_contains _ _)))
 show AU _ _ (Jl a (.str k tk)>>=_) _ _ s;refine AJ (t.get ?_);cases hf:CD k T with
 |some v=>
  rw[hf]at h;show AU _ _ (ret (.bool AC)) _ _ _;exact AQ ⟨_,rfl,CA (AQ h)⟩
 |none=>
  rw[hf]at h;show AU _ _ (KR a (.str k tk)>>=_) _ _ _;exact AJ (wpAny_pendingKey_other t.1 (AQ ⟨_,rfl,CA (AQ h)⟩))
def b99{g:Str}{kvs:List (Str×D)}(T:kvs≠[]->GTab X.prog X.w X.K X.mg g kvs)(hg:Gl X g)(hb:PE X b (up X.K tb))(hdb:(g==("__debug__":Str))=AF):
  PC X .NotIn b (.Name g p) (up X.K λenv st Q=>kvs≠[]/\tb env st λx st1=>∃w,x=.str w/\Q (.bl (!(g8 kvs w).isSome)) st1):=by
 intro pins s σ H Q I q;obtain⟨env,st,Qd,hE,hS,⟨hne,ht⟩,hq⟩:=q;obtain⟨t,vs,hm,hT,hl,hno⟩:=(T hne).ex;have q:up X.K (λenv st Q=>tb env st λx st1=>∃w,x=.str w/\Q (.bl (!(g8 kvs w).isSome)) st1) σ H Q:=⟨env,st,Qd,hE,hS,ht,hq⟩;refine thn (hb pins s σ H (λv H1=>∃w:Str,v=.str w/\Q (.bl (!(g8 kvs w).isSome)) H1) I (up1 (f:=λx st1 Q=>∃w,x=.str w/\Q (.bl (!(g8 kvs w).isSome)) st1) q λv d H' st' Qd is rs ht hq=>?_)) λiv s2 z47=>?_
 ·obtain⟨w,rfl,ht⟩:=ht;exact⟨w,is.str_inv,hq.here (.bl _) rs ht⟩
 ·obtain⟨y,H2,I2,ry,w,ey,q2⟩:=z47;subst ey;obtain⟨tt,rfl⟩:=ry;refine E5 I2 hg hm ?_ hdb;refine(hT _ I2.kIn).nin ?_;cases lk:g8 kvs w with
  |some dv=>
   obtain⟨u,v',h1,_,_⟩:=hl w dv lk;rw[lk]at q2;rw[h1];exact⟨.bl AF,H2,I2.tok _,rfl,q2⟩
  |none=>
   rw[lk]at q2;rw[hno w lk];exact⟨.bl AC,H2,I2.tok _,rfl,q2⟩
end
end Ek
namespace Ek
open PySem PySem.Spec PyProof.Rows L2
variable [Tbs]
section
variable {X:Cx} {a o i v:AR} {ta to ti tv:DT} {p pos pos':Pos}
def ci4:PE X (.Dict [] [] pos) (up X.K λenv st Q=>∀p,st p=AE->Q (.ref p) (b0 st p (.dct []))):=
 PE.imp b41 λσ H Q q=>by
  obtain⟨env,st,Qd,hE,hS,ht,hq⟩:=q;exact λp hp=>hq _ (.ref p) _ (b0 st p (.dct [])) (Ev.newS hp) (.ref p) (hS.putNewD hp ⟨rfl,.nil⟩) (ht p (hS.free hp))
end
end Ek
namespace PySem
end PySem
namespace Ek
open PySem PySem.Spec PyProof.Rows L2
variable [Tbs]
end Ek
namespace Ek
open PySem PySem.Spec PyProof.Rows L2
variable [Tbs]
end Ek
namespace Ek
open PySem PySem.Spec PyProof.Rows L2
variable [Tbs]
end Ek
namespace Ek
open PySem PySem.Spec PyProof.Rows L2
variable [Tbs]
abbrev N5(mg:Str->Option AI)(h:Ay):Prop:=∃bm ob,mg "__builtins__"=AA (.ref bm)/\bm≠DQ/\h.get? bm=AA ob/\ob.cls=.type "module"/\ob.dict=AA DQ/\ob.data=.plain
structure LamOk(X:Cx):Prop where
 tab:∃c P,X.env.code=.ref c/\W.CodeHd X.base c P/\P∈Tbs.ps
 bm:N5 X.mg X.base
end Ek
namespace Ek
open PySem PySem.Spec PyProof.Rows L2
variable [Tbs]
end Ek
namespace Ek
open PySem PySem.Spec PyProof.Rows L2
variable [Tbs]
variable{fd:By}{N:List Str}{H:Hp}
abbrev b34(fb:Iu)(env:Env):Code:=match fb with
 |.stmts b=>.func b env
 |.expr e=>.expr e env
def b20{prog:Aj}{w:BA}{A:BV}{R:JP->AL->Prop}{s:AL}{a c:AM}{args:Args}{o oc:Obj}{vs:Array AI}{q:Str}{t:Tok}(hroom:A.depth<HV)(ho:s.heap.get? a=AA o)(hd':o.data=.func fd)
  (hco:fd.scope.isCoroutine=AF) (hgen:fd.scope.isGenerator=AF) (hc:fd.code=.ref c) (hoc:s.heap.get? c=AA oc) (hdc:oc.data=.fields vs) (hq:vs[1]?=AA (.str q t))
  (h:AU (model prog w) A.in1 (HW fd args) (λbinds s₁=>
   AU (model prog w) A.in1 (Kq fd.scope fd.globals fd.closure binds (q++".<locals>.") (AA a) fd.code AE fd.builtins)
    (λenv s₂=>s₂.heap.NoLimit/\Ea (model prog w) A (b34 fd.body env) R s₂) (λe s'=>R (.error e) s') s₁) (λe s'=>R (.error e) s') s) :
  Ea (model prog w) A (.call (.ref a) args) R s:=by
 refine codeAny_of_tree ?_;show AU _ A.in1 (callAny (.ref a) args) _ _ s;simp only[callAny];refine AJ (wpAny_load ho ?_);simp only[hd',callFunction,hco,hgen,hc];rw[hc]at h;refine AJ (m:=field (.ref c) 1) (CN hoc hdc hq (AJ (AQ ?_)));refine AJ (BP h (λbinds s₁ h₁=>AJ (BP h₁ (λenv s₂ h₂=>AJ (wpAny_enterFrame h₂.1 hroom
  ?_)) λ_ _ h'=>h')) λ_ _ h'=>h')
 have h3:=h₂.2;cases hb:fd.body with
 |stmts b=>rw[hb]at h3;exact AQ (HL rfl h3)
 |expr e=>rw[hb]at h3;exact AQ (HL rfl h3)
theorem aq8{x:Str}{u:AI}:∀{ps:List Str}{us:List AI}{i:Nat},ps.Nodup->ps[i]?=AA x->us[i]?=AA u->(ps.zip us).reverse.lookup x=AA u
 |[],_,_,_,h,_=>by simp at h
 |_::_,[],_,_,_,h=>by simp at h
 |p::ps,w::us,i,nd,h1,h2=>by
  rw[GD,GZ,List.lookup_append];cases i with
  |zero=>
   simp at h1 h2;subst h1 h2;have:(ps.zip us).reverse.lookup p=AE:=by
    rw[List.lookup_eq_none_iff];intro y hy;have:=(GH (List.mem_reverse.mp hy)).1;have ne:p≠y.1:=λz=>(Bv.mp nd).1 (z▸this);simpa using ne
   rw[this];simp[DI]
  |succ i=>
   rw[aq8 (i:=i) (Bv.mp nd).2 (by simpa using h1) (by simpa using h2)];rfl
abbrev cxC(P:Aj)(w:BA)(K:AS)(mg:Str->Option AI)(base:Ay)(N:List Str)(scope:BR)(cl:List (Str×AM))(q:Str)(f:AM)(cd:AI)(A:BV)(outer:List Env)(s:AL)(H:Hp):Cx where
 prog:=P
 w:=w
 K:=K
 mg:=mg
 base:=base
 A:=A.deeper (newEnv scope s.heap.objs.size AO cl (q++".<locals>.") (AA f) cd AE DQ)
 N:=N
 s₀:=s
 H₀:=H
 env:=newEnv scope s.heap.objs.size AO cl (q++".<locals>.") (AA f) cd AE DQ
 outer:=outer
 stack:=newEnv scope s.heap.objs.size AO cl (q++".<locals>.") (AA f) cd AE DQ::outer
 ex:=[]
 calm:=AC
 fn:=λy=>!(scope.names.any λz=>z.1==y&&z.2==.free)
 pn:=[]
 xe:=λ_ _=>False
def bv9{P:Aj}{w:BA}{K:AS}{mg:Str->Option AI}{base:Ay}{ps:List Str}{np:Nat}{b:Ss}{q:Str}{f:AM}{A:BV}{outer:List Env}{s:AL}{h1:Ay}{tk:Nat}{us:List AI}{vs us0:List V}
  (cf:CloF fd np N ps b) (cr:CloR H f fd np N us0) (hd:A.handled=AE) (e0:Env0 P w K mg base A outer s H) (hl:vs.length=ps.length) (r:c7 vs us)
  (hns:h1.Ns s.heap.objs.size (λx=>(ps.zip us).reverse.lookup x)) (hk:∀b o,s.heap.get? b=AA o->h1.get? b=AA o) :
  Inv (cxC P w K mg base N fd.scope fd.closure q f fd.code A outer s H) [] (r8 N (vs++us0)) H {s with heap:=h1,toks:=tk}:=by
 have S:=cf.sc;have noA:∀b:AM,b∉(cxC P w K mg base N fd.scope fd.closure q f fd.code A outer s H).ex:=λb z=>absurd (show b∈([]:List AM) from z) ∎;have hpl:ps.length<=N.length:=by have:=congrArg Aq S.pre;rw[Cs]at this;lia
 have hful:(vs++us0).length<=N.length:=by
  rw[AH,hl];cases hu:us0.length with
  |zero=>lia
  |succ m=>
   have hm:m<us0.length:=by lia
   obtain⟨x,_,_,_,_,n1,_⟩:=cr.at' m _ (AX hm);have:=(Ai.mp n1).1;have:=cf.np;lia
 have fnF:∀x c,fd.closure.lookup x=AA c->(!(fd.scope.names.any λz=>z.1==x&&z.2==.free))=AF:=λx c h=>by
  have hm:=cf.fre x c h;have:(fd.scope.names.any λz=>z.1==x&&z.2==.free)=AC:=IZ.mpr ⟨(x,.free),hm,∎⟩;rw[this];rfl
 have celH:∀{c:AM}{o:Obj}{u:HO},H c=AA (.frz o u)->h1.get? c=AA o:=λ{c o u}e=>by
  obtain⟨z,_⟩:=e0.hok c _ e;exact hk _ _ z
 refine⟨⟨e0.mod,S.kind,rfl,rfl,Ae _,λy z c h1 h2=>cf.inj y z c h1 h2,λy hy=>?_,λy c h hc=>?_,λ_=>hd,HH e0.frames,.inr ⟨rfl,rfl⟩,λb z=>absurd z (noA b),e0.bs,e0.bsz,λb _ _=>noA b,λb z=>absurd z (noA b),e0.funs,e0.frf⟩,
  rfl,e0.bare,Un.kept hk,⟨_,hns,λi y v h1 h2 h3=>?_⟩,λy c h=>?_,e0.hok.fresh (Ae _),λy c h=>?_,λp hp=>absurd (show p ∈ ([]:List (AM × Obj)) from hp) ∎,e0.hok.kept hk,?_⟩
 ·have hy:fd.scope.names.lookup y=AA .cell\/fd.scope.names.lookup y=AA .free:=hy
  rcases hy with hy|hy
  ·exact absurd rfl (S.nocell _ (PySem.mem_of_lookup hy))
  ·exact cf.has y (PySem.mem_of_lookup hy)
 ·have hc':fd.closure.lookup y=AA c:=hc
  rcases h with h|h
  ·have h':(!(fd.scope.names.any λz=>z.1==y&&z.2==.free))=AC:=h;rw[fnF y c hc']at h';cases h'
  ·cases h
 ·have hi:i<(vs++us0).length:=by
   unfold L2.r8 at h2
   by_cases hi:i<(vs++us0).length
   ·exact hi
   ·rw[Bd (by simpa using hi)]at h2;rw[DR]at h2
    split at h2<;>cases h2
  have ha:(vs++us0)[i]?=AA v:=by
   unfold L2.r8 at h2;rw[BW (by simpa using hi),CJ]at h2;cases e:(vs++us0)[i]? with
   |none=>rw[e]at h2;cases h2
   |some a=>rw[e]at h2;cases h2;rfl
  have h1':N[i]?=AA y:=h1
  by_cases hv:i<vs.length
  ·rw[BW hv]at ha;obtain⟨u,hu,rv⟩:=r.get ha;have hp:ps[i]?=AA y:=by
    rw[<-S.pre,Gx ⋯];exact h1'
   have ndP:ps.Nodup:=by rw[<-S.pre];exact S.nd.sublist (IF _ _)
   exact⟨u,rv,.inl ⟨S.par y (Dy hp),aq8 ndP hp hu⟩⟩
  ·rw[Bd ⋯]at ha;obtain⟨x,c,o',u',ww,n1,n2,n3,n4,n5,n6⟩:=cr.at' _ v ha;have e:np+(i-vs.length)=i:=by have:=cf.np;lia
   rw[e,h1']at n1;cases n1;exact⟨ww,n6,.inr ⟨.inr (S.fre _ (cf.fre y c n2) rfl),c,n2,o',celH n3,n5⟩⟩
 ·obtain⟨o',u',ww,n3,n4,n5⟩:=cr.cl y c h;exact⟨AA ww,o',celH n3,n5⟩
 ·obtain⟨o',u',ww,n3,n4,n5⟩:=cr.cl y c h;exact .inr ⟨fnF y c h,o',u',n3⟩
 ·unfold L2.r8;show _=N.length;rw[AH,Am,Ej];lia
abbrev cn0(X:Cx)(fb:Iu)(Z:Sg)(b:Ss):Prop:=match fb with
 |.stmts l=>PSs X l (upS X.K (c9 Z b))
 |.expr x=>∃e,b=.cons (.ret e) .nil/\PE X x (up X.K (wpE Z e))
def aq1{K:AS}{ds:List D}{vs:List V}(r:IsDs K H ds vs):RelE K H (ds.map AA++Ah (N.length-ds.length) AE) (L2.r8 N vs):=by
 refine⟨by simp[L2.r8,r.len],λi x h=>?_⟩;unfold L2.r8
 by_cases hi:i<ds.length
 ·rw[BW (by simpa using hi),CJ,AX hi]at h;simp only[GC,CF]at h;obtain⟨v,hv,is⟩:=r.get (AX hi);refine⟨v,?_,by rw[<-h];exact is⟩;rw[BW (by rw[Am,<-r.len];exact hi),CJ,hv];rfl
 ·rw[Bd (by simpa using hi),DR]at h
  split at h<;>cases h
def bw0{K:AS}{ds cs:List D}{vs us:List V}(r:IsDs K H ds vs)(r2:IsDs K H cs us):RelE K H (M9 N ds cs) (L2.r8 N (vs++us)):=aq1 (r.append r2)
def cq0{P:Aj}{w:BA}{K:AS}{mg:Str->Option AI}{base:Ay}{n np:Nat}{fa:AM}{ps:List Str}{b:Ss}{cs:List D}{Z:Sg}(cf:CloF fd np N ps b)
  (hbody:∀(q:Str)(A:BV)(outer:List Env)(s:AL)(H:Hp),Room n (cxC P w K mg base N fd.scope fd.closure q fa fd.code A outer s H).A->cn0 (cxC P w K mg base N fd.scope fd.closure q fa fd.code A outer s H) fd.body Z b) :
  FnOk P w K mg base CX0 (n+1) fa fd ps (V9 K fa fd np N cs λds st Q=>ds.length=np/\c9 Z b {nx:=λ_ st'=>∃s2,Sub s2 st'/\Q .non s2,rt:=λd st'=>∃s2,Sub s2 st'/\Q d s2} (M9 N ds cs) st):=by
 refine⟨λvs H Q E hsp=>?_,λA outer s H args us vs Q E hr e0 hb r hsp=>?_⟩
 ·obtain⟨us0,ds,st,Qd,cr,ics,is,rs,hs,hq⟩:=hsp;rw[<-is.len,hs.1,cf.np]
 ·obtain⟨us0,ds,st,Qd,cr,ics,is,rs,⟨hlen,hs⟩,hq⟩:=hsp;have S:=cf.sc;have hl:vs.length=ps.length:=by rw[<-is.len,hlen,cf.np]
  have lim:s.heap.NoLimit:=e0.mod.nolimit.keeps λb o e=>(e0.bs b o e).1;obtain⟨o,u,f1,f2,f3⟩:=cr.ex;obtain⟨c,oc,uc,vc,q,t,c1,c2,c3,c4,c5⟩:=cr.cd;obtain⟨ho,_⟩:=e0.hok fa _ f1;obtain⟨hoc,_⟩:=e0.hok c _ c2;have hloc:∀y∈ps.zip us,fd.scope.names.lookup y.1=AA .local:=λ⟨x,v⟩hy=>S.par x (GH hy).1;refine b20 hr.depth ho f3 S.co S.gen c1 hoc c4 c5 (hb _ _ _ _ ?_);rw[cf.gl,cf.bl];refine Iq S.nocell hloc (λh1 hns hsb=>?_) S.kind;have hk:∀b o,s.heap.get? b=AA o->h1.get? b=AA o:=λb o e=>hsb.extBut b o (Br (BI e)) (AW _ e);refine⟨lim.keeps hk,?_⟩;have I:=bv9 (q:=q) (tk:=s.toks+(ps.zip us).length) cf cr hr.hd e0 hl r hns hk;have hB:=hbody q A outer s H (hr.deeper _);have hE:RelE K H (M9 N ds cs) (r8 N (vs++us0)):=bw0 is ics;have fin:∀{σ':L2.St}{H':Hp}{v:V}{u:AI}{s':AL},Inv (cxC P w K mg base N fd.scope fd.closure q fa fd.code A outer s H) [] σ' H' s'->d3 v u->Q v H'->CE outer P w H s Q u s':=
   λ{σ' H' v u s'}J rv q=>⟨v,H',J.os,J.bare,J.base,J.hok,rv,q⟩
  have rt:∀v d H' st',Ev st H st' H'->IsD K H' d v->RelS K st' H'->(∃s2,Sub s2 st'/\Qd d s2)->Q v H':=λv d H' st' ev is' rs'⟨s2,sub,q⟩=>hq v d H' s2 (ev.drop sub) is' (rs'.sub sub) q;cases hfb:fd.body with
  |stmts l=>
   rw[hfb]at hB;refine codeAny_func (BP (hB [] _ _ H {nx:=λ_ H'=>Q .non H',rt:=Q} I ⟨M9 N ds cs,st,_,hE,rs,hs,λenv σ H' st' ev hE hS q=>rt _ .non H' st' ev .non hS q,λenv σ H' st' ev hE hS q=>q.elim,λenv σ H' st' ev hE hS q=>q.elim,λv e H' st' ev is' rs' q=>rt v e H' st' ev is' rs' q⟩) (λfl s' hs=>?_) λe s' z=>z.elim);cases fl with
   |ret u=>
    obtain⟨v,σ',H',J,rv,q⟩:=hs;exact fin J rv q
   |next=>
    obtain⟨σ',H',J,q⟩:=hs;exact fin (v:=V.non) (u:=BZ) J rfl q
   |brk=>
    obtain⟨_,_,_,q⟩:=hs;exact Aa q
   |cont=>
    obtain⟨_,_,_,q⟩:=hs;exact Aa q
  |expr x=>
   rw[hfb]at hB;obtain⟨e,rfl,hB⟩:=hB;refine W.kla_codeExpr (BP (hB [] _ _ H Q I ⟨M9 N ds cs,st,_,hE,rs,(show wpE Z e (M9 N ds cs) st _ from hs),λv d H' st' ev is' rs' q=>rt v d H' st' ev is' rs' q⟩) (λu s' hs=>?_) λe s' z=>z.elim);obtain⟨v,H',J,rv,q⟩:=hs;exact fin J rv q
end Ek
namespace L2
open PySem PySem.Spec PyProof.Rows
variable{fl:AI}
structure FlyA(B:Ay)(l:List Env)(e:AM)(cls fl:AI)(h:Ay):Prop where
 st:B.StaysIn h
 new:B.get? e=AE
 fr:h.FunFrames B l
 ex:∃oe vs T oT ts,h.get? e=AA oe/\oe.cls=cls/\oe.dict=AE/\oe.data=.fields vs/\vs[1]?=AA (.ref T)/\B.get? T=AE/\T≠e/\h.get? T=AA oT/\oT.data=.fields ts/\ts[3]?=AA fl
section
variable {M:KY} {A:BV} {E:AI->AL->Prop} {s:AL} {B:Ay} {env:Env} {outer l:List Env} {L e:AM} {cls:AI} {Q:Unit->AL->Prop}
def b45(o:Obj)(f:Array AI->Array AI):(o.mapFields f).dict=o.dict:=by
 obtain⟨c,d,dt,sl⟩:=o;cases dt<;>rfl
def au6{oe:Obj}{vs:Array AI}{hd:AI}{b:Bool}(hfr:A.frames=AA (env::outer))(hf:env.frame=AA L)(hB:B.StaysIn s.heap)(hen:B.get? e=AE)(hl:s.heap.FunFrames B (env::outer))(he:s.heap.get? e=AA oe)(hdt:oe.data=.fields vs)(hdn:oe.dict=AE)(hsz:1<vs.size)
  (h:∀h',FlyA B (env::outer) e oe.cls (EN L) h'->s.heap.UpToSlots h'->Q () {s with heap:=h'}) :
  AU M A (do let a <-frameOf env;let pl <-entryPlaceOf L b;let t <-Go hd a .none (EN L) .none pl;setField (.ref e) 1 t) Q E s:=by
 have hene:e∉(env::outer).filterMap (·.frame):=λhm=>by
  obtain⟨_,o,ho,hnf⟩:=hl.mem hm;rw[he]at ho;cases ho;exact hnf vs hdt
 refine AJ (wpAny_frameOf_fun hfr hl hf λh₁ hs₁=>?_);refine AJ (wpAny_entryPlaceOf λpl hpl=>?_);unfold Go newFields;refine AJ (Bn ?_ (hpl.sizeOk5 _ _ _ _ _));have he₁:h₁.get? e=AA oe:=(hs₁.2.1 e hene).trans he;have kb₁:B.StaysIn h₁:=λb o q=>(hs₁.2.1 b λhm=>by rw[(hl.mem hm).1]at q;cases q).trans (hB b o q);generalize hT0:({cls:=.type "traceback",dict:=AE,data:=.fields ([hd,.ref L,.none,EN L,.none]++(if pl.isEmpty then Ah 6 BZ else pl)).toArray}:Obj)=oT;have hTd:∃ts,oT.data=.fields ts/\ts[3]?=AA (EN L):=⟨_,by rw[<-hT0],∎⟩;have he₂:=AW (h:=h₁) oT he₁;have hTe:h₁.objs.size≠e:=Kb (BI he₁);have hd₃:=DJ hdt (·.setIfInBounds 1 (At h₁.objs.size));refine EO he₂ hdt hsz (h _ ?_ λb o hb hn=>?_)
 ·obtain⟨ts,t1,t2⟩:=hTd;have hTf:oT.isFreed=AF:=Db t1;refine⟨λb o q=>?_,hen,hl.of_keeps λb o q hn=>?_,_,_,h₁.objs.size,oT,ts,Eu _ he₂ (Db hd₃),IX _ _,(b45 _ _).trans hdn,hd₃,by simp[hsz],kb₁.fresh,hTe,?_,t1,t2⟩
  ·rw[Cc _ _ (λz:e=b=>by rw[<-z,hen]at q;cases q)];exact AW _ (kb₁ b o q)
  ·obtain⟨sl,z⟩:=hs₁.2.2 b o q;refine⟨{o with slots:=sl},?_,rfl⟩;rw[Cc _ _ (λz:e=b=>by rw[<-z,he]at q;cases q;exact hn vs hdt)];exact AW _ z
  ·rw[Cc _ _ (BD hTe)];exact BN h₁ hTf
 ·obtain⟨sl,z⟩:=hs₁.2.2 b o hb;refine⟨sl,?_⟩;rw[Cc _ _ (λz:e=b=>by rw[<-z,he]at hb;cases hb;exact hn vs hdt)];exact AW _ z
def FlyA.mark{h:Ay}{x:AI}(f:FlyA B l e cls fl h):∃T oT ts oe vs,h.get? e=AA oe/\oe.data=.fields vs/\vs[1]?=AA (.ref T)/\h.get? T=AA oT/\oT.data=.fields ts/\ts[3]?=AA fl/\FlyA B l e cls x (h.update T (HB (·.setIfInBounds 3 x)))/\h.UpToSlots (h.update T (HB (·.setIfInBounds 3 x))):=by
 obtain⟨oe,vs,T,oT,ts,he,hc,hdn,hd,h1,hnT,hTe,hT,hdT,h3⟩:=f.ex;have hsz:3<ts.size:=(CG.mp h3).1;have other:∀b,b≠T->(h.update T (HB (·.setIfInBounds 3 x))).get? b=h.get? b:=λb hb=>Cc _ _ (BD hb);have nr:∀b o,h.get? b=AA o->(∀vs,o.data≠.fields vs)->b≠T:=λb o hb hn q=>by
  rw[q,hT]at hb;cases hb;exact hn ts hdT
 refine⟨T,oT,ts,oe,vs,he,hd,h1,hT,hdT,h3,⟨λb o q=>(other b λz=>by rw[z,hnT]at q;cases q).trans (f.st b o q),f.new,f.fr.of_keeps λb o q hn=>⟨o,(other b (nr b o q hn)).trans q,rfl⟩,oe,vs,T,_,_,(other e (BD hTe)).trans he,hc,hdn,hd,h1,hnT,hTe,Eu _ hT (Db (DJ hdT _)),DJ hdT _,by simp[hsz]⟩,λb o q hn=>⟨o.slots,(other b (nr b o q hn)).trans q⟩⟩
def Y8(f:FlyA B l e cls fl s.heap)(h:∀h',FlyA B l e cls .none h'->s.heap.UpToSlots h'->Q () {s with heap:=h'}):AU M A (KF (.ref e) AE) Q E s:=by
 obtain⟨T,oT,ts,oe,vs,he,hd,h1,hT,hdT,h3,f',u⟩:=f.mark (x:=.none);unfold KF;refine AJ (CN he hd h1 ?_);rw[if_pos (show(At T != BZ)=AC from by simp)];exact EO hT hdT (CG.mp h3).1 (h _ f' u)
def aw6(hfr:A.frames=AA (env::outer))(hf:env.frame=AA L)(f:FlyA B (env::outer) e cls .none s.heap)(h:∀h',FlyA B (env::outer) e cls (EN L) h'->s.heap.UpToSlots h'->Q () {s with heap:=h'}):AU M A (Fk (.ref e) env) Q E s:=by
 obtain⟨T,oT,ts,oe,vs,he,hd,h1,hT,hdT,h3,f',u⟩:=f.mark (x:=.none);unfold Fk;simp only[hf];refine AJ (CN he hd h1 ?_);rw[if_pos (show(At T != BZ)=AC from by simp)];refine AJ (CN hT hdT h3 ?_);rw[if_neg (show ¬((BZ==EN L)=AC) from by simp[EN])];refine AJ (EO hT hdT (CG.mp h3).1 ?_);obtain⟨oe',vs',T',oT',ts',he',hc',hdn',hd',h1',_⟩:=f'.ex;refine au6 (s:={s with heap:=_}) hfr hf f'.st f'.new f'.fr he' hd' hdn' (CG.mp h1').1 λh' k1 k2=>h h' (hc'▸k1) (u.trans k2)
def by1{oe:Obj}{vs:Array AI}(hfr:A.frames=AA (env::outer))(hf:env.frame=AA L)(hB:B.StaysIn s.heap)(hen:B.get? e=AE)(hl:s.heap.FunFrames B (env::outer))(he:s.heap.get? e=AA oe)(hc:oe.cls=cls)(hdt:oe.data=.fields vs)(hdn:oe.dict=AE)(h1:vs[1]?=AA .none)
  (h:∀h',FlyA B (env::outer) e cls (EN L) h'->s.heap.UpToSlots h'->Q () {s with heap:=h'}):AU M A (Fk (.ref e) env) Q E s:=by
 subst hc;unfold Fk;simp only[hf];refine AJ (CN he hdt h1 ?_);rw[if_neg ∅];exact au6 hfr hf hB hen hl he hdt hdn (CG.mp h1).1 h
def FlyA.tail{h:Ay}(f:FlyA B (env::outer) e cls fl h):FlyA B outer e cls fl h:=let⟨_,_,k⟩:=f.fr;⟨f.st,f.new,k,f.ex⟩
def FlyA.base{B' h:Ay}(k:B'.StaysIn B)(f:FlyA B l e cls fl h):FlyA B' l e cls fl h:=
 ⟨λb o q=>f.st b o (k b o q),Ga k f.new,W.funFrames_base k f.fr,let⟨oe,vs,T,oT,ts,a1,a2,a3,a4,a5,a6,a7⟩:=f.ex;⟨oe,vs,T,oT,ts,a1,a2,a3,a4,a5,Ga k a6,a7⟩⟩
end
end L2
namespace L2
open PySem PySem.Spec PyProof.Rows
variable{H:Hp}{outer:List Env}{b:AM}
abbrev Bs(H:Hp)(h:Ay)(outer:List Env):Ay:=C6 h λb=>if b∈frs outer then AA (.own 0)else H b
def aj4{h:Ay}{o:Obj}(e:h.get? b=AA o)(n:H b=AE)(f:b∉frs outer):(Bs H h outer).get? b=AA o:=au2 e (by rw[if_neg f];exact n)
def al9{h:Ay}{o:Obj}(e:(Bs H h outer).get? b=AA o):h.get? b=AA o/\H b=AE/\b∉frs outer:=by
 obtain⟨h1,h2⟩:=a48 e
 by_cases f:b∈frs outer
 ·rw[if_pos f]at h2;cases h2
 ·rw[if_neg f]at h2;exact⟨h1,h2,f⟩
def ca5{h:Ay}(e:b∈frs outer\/h.get? b=AE):(Bs H h outer).get? b=AE:=by
 cases q:(Bs H h outer).get? b with
 |none=>rfl
 |some o=>
  obtain⟨h1,_,h3⟩:=al9 q
  rcases e with e|e
  ·exact absurd e h3
  ·rw[e]at h1;cases h1
theorem ar8{B B' h:Ay}:∀{l:List Env},h.FunFrames B l->(∀b∈frs l,B'.get? b=AE)->h.FunFrames B' l
 |[],_,_=>trivial
 |env::l,⟨hk,⟨L,o,hf,_,ho,hd⟩,hr⟩,k=>⟨hk,⟨L,o,hf,k L (by unfold frs;rw[Co,hf];exact CL),ho,hd⟩,ar8 hr λb hb=>k b (by
   unfold frs at hb ⊢;rw[Co,hf];exact BQ _ hb)⟩
abbrev SlE(outer:List Env)(h h':Ay):Prop:=∀b∈frs outer,∀o,h.get? b=AA o->∃sl,h'.get? b=AA {o with slots:=sl}
abbrev CXe(K:AS):CXT:=λouter H s _ e s'=>∃a C,e=.ref a/\Aw K AO "NoText"=AA (AA (.ref C))/\FlyA (Bs H s.heap outer) outer a (.ref C) .none s'.heap/\SlE outer s.heap s'.heap/\s'.os=s.os/\EZ s'.gens
abbrev CXb(K:AS)(b:Bool):CXT:=λouter H s E e s'=>b=AC/\CXe K outer H s E e s'
structure FrX(X:Cx)(b:Bool):Prop where
 stk:X.stack=X.env::X.outer
 fr:X.env.frame=AA X.env.locals
 ex:X.ex=[]
 xe:X.xe=λe s'=>AU (model X.prog X.w) X.A (leaving X.env e) (λ_ s''=>CXb X.K b X.outer X.H₀ X.s₀ E0 e s'') (λe' s''=>CXb X.K b X.outer X.H₀ X.s₀ E0 e' s'') s'
section
variable {X:Cx} {b:Bool} {pins:List (AM×Obj)} {σ:St} {s s':AL}
def FrX.pass(F:FrX X b):Fh (model X.prog X.w) X.A X.env X.xe:=by rw[F.xe];exact PassesOwn.leaving
def FrX.noex(F:FrX X b)(a:AM):a∉X.ex:=by rw[F.ex];exact Ad
def FrX.stays(F:FrX X b)(I:Inv X pins σ H s):(Bs X.H₀ X.s₀.heap X.outer).StaysIn s.heap:=λb o q=>by
 obtain⟨h1,h2,h3⟩:=al9 q;exact I.base.keep b o h1 h2 h3 (F.noex b)
def FrX.frames(F:FrX X b)(I:Inv X pins σ H s):s.heap.FunFrames (Bs X.H₀ X.s₀.heap X.outer) (X.env::X.outer):=by
 have h:=I.stack;rw[F.stk]at h;refine ar8 h λb hb=>ca5 ?_;unfold frs at hb;rw[Co,F.fr]at hb
 rcases AT.mp hb with z|z
 ·right;rw[z];exact Hb I.ok.above
 ·exact .inl z
theorem FrX.slots(F:FrX X b)(I:Inv X pins σ H s){h':Ay}(u:∀b∈frs X.outer,∀o,(∀vs,o.data≠.fields vs)->s.heap.get? b=AA o->∃sl,h'.get? b=AA {o with slots:=sl}):SlE X.outer X.s₀.heap h':=λb hb o e=>by
 obtain⟨sl,e1⟩:=I.base.slot b o e (I.ok.frf b hb) hb (F.noex b);obtain⟨_,o',ho',hn⟩:=I.ok.funs.mem hb;rw[e]at ho';cases ho';obtain⟨sl',e2⟩:=u b hb {o with slots:=sl} hn e1;exact⟨sl',e2⟩
def FrX.passes(F:FrX X b):v6 (CXb X.K b) X E0:=λpins σ H s e s' I c=>by
 obtain⟨hb,a,C,rfl,hn,f,sl,os,br⟩:=c;have k:(Bs X.H₀ X.s₀.heap X.outer).StaysIn (Bs H s.heap X.stack):=λb o q=>by
  obtain⟨h1,h2,h3⟩:=al9 q;refine aj4 (I.base.keep b o h1 h2 h3 (F.noex b)) (I.base.free b o h1 h2 (F.noex b)) λz=>?_
  rcases AT.mp (I.stkSub b z)with z|z
  ·exact absurd (Al (BI h1) I.ok.above) (by rw[z];exact Cw _)
  ·exact h3 z
 have f1:=f.base k;have hfr:=I.ok.frames;rw[F.stk]at f1 hfr;rw[F.xe];show AU _ _ (leaving X.env (.ref a)) _ _ s';unfold leaving;refine AJ (aw6 hfr F.fr f1 λh1 f2 u1=>Y8 f2 λh2 f3 u2=>⟨hb,a,C,rfl,hn,f3.tail,F.slots I λb hb o hn e=>?_,os.trans I.os,br⟩);obtain⟨sl1,e1⟩:=sl b (by rw[F.stk];unfold frs;rw[Co,F.fr];exact BQ _ hb) o e;obtain⟨sl2,e2⟩:=u1 b _ e1 hn;obtain⟨sl3,e3⟩:=u2 b _ e2 hn;exact⟨sl3,e3⟩
def FrX.raised(F:FrX X AC)(I:Inv X pins σ H s){h':Ay}{a C:AM}{vs:List AI}(hn:Aw X.K AO "NoText"=AA (AA (.ref C)))(m:Heap.MadeExcOf s.heap h' a (.ref C) vs):X.xe (.ref a) {s with heap:=h'}:=by
 obtain⟨t,he,htn,ht⟩:=m.there;have hfr:=I.ok.frames;rw[F.stk]at hfr;have B1:(Bs X.H₀ X.s₀.heap X.outer).StaysIn h':=λb o q=>m.keeps b o (F.stays I b o q);have hen:(Bs X.H₀ X.s₀.heap X.outer).get? a=AE:=Ga (F.stays I) m.new;rw[F.xe];show AU _ _ (leaving X.env (.ref a)) _ _ _;unfold leaving;refine AJ (by1 (cls:=.ref C) hfr F.fr B1 hen ((F.frames I).of_keeps λb o q _=>⟨o,m.keeps b o q,rfl⟩) he rfl rfl rfl rfl λh1 f2 u1=>Y8 f2 λh2 f3 u2=>⟨rfl,a,C,rfl,hn,f3.tail,F.slots I λb hb o hn e=>?_,I.os,I.bare⟩);obtain⟨sl2,e2⟩:=u1 b _ (m.keeps b o e) hn;obtain⟨sl3,e3⟩:=u2 b _ e2 hn;exact⟨sl3,e3⟩
abbrev vB:List AI:=[.type "ValueError",.type "Exception",.type "BaseException",.type "object"]
def b93{K:AS}{h:Ay}{C:AM}{newId:String}{bmB:List AI}(X:K.In h)(q:HA K C bmB newId=AC):
  ∃bm N nm qn bs hdct sn sub ab col dd k0 k1 k2 k3 k5 mN,h.get? C=AA (excClassObj nm qn C N bs bm hdct sn sub ab col dd k0 k1 k2 k3 k5 newId)/\h.Ns N mN/\mN "__init__"=AE/\OwnTail h bmB bm:=by
 unfold HA at q
 split at q
 ·rename_i dd cd sl ho
  split at q
  ·rename_i C' bm k0 k1 k2 k3 n k5 hm hs;simp only[Az,beq_iff_eq,EI]at q;obtain⟨⟨⟨⟨⟨rfl,rfl⟩,hdel⟩,ht⟩,hok⟩,hni⟩:=q;obtain⟨nm,bs,mro,ns,qn,hd,sn,sub,ab,col,del⟩:=cd;dsimp only at hm hdel hok hni;subst hm hdel;obtain⟨l⟩:=sl;have hs:l=_:=hs;subst hs;exact⟨bm,ns,nm,qn,bs,hd,sn,sub,ab,col,dd,k0,k1,k2,k3,k5,_,X _ _ ho,.of_isNs (W.isNs_of_in X hok),W.nsMap_none_of_in X hok hni,W.tail_of_in X ht⟩
  ·cases q
 ·cases q
def b09(F:FrX X AC)(hc:X.calm=AC){C:AM}{np cpos pos:Pos}(hn:Aw X.K AO "NoText"=AA (AA (.ref C)))(hm:X.mg "NoText"=AA (.ref C))(hg:Gl X "NoText")(q:HA X.K C vB "ValueError.__new__"=AC):
  PS X (.Raise (AA (.Call (.Name "NoText" np) [] [] cpos)) AE pos) λ_ _ _=>True:=λpins s σ H D I _=>by
 obtain⟨bm,N,nm,qn,bs,hdct,sn,sub,ab,col,dd,k0,k1,k2,k3,k5,mN,hC,hN,hni,T⟩:=b93 I.kIn q;refine wpAny_Raise_call_subT (C:=C) (nm:=nm) (q:=qn) (N:=N) (bs:=bs) (bm:=bm) (hdct:=hdct) (sn:=sn) (sub:=sub) (ab:=ab) (col:=col) (dd:=dd) (k0:=k0) (k1:=k1) (k2:=k2) (k3:=k3) (k5:=k5)
  PySem.F.excBase_ValueError (mN:=mN) (T.hasType PySem.F.excBase_ValueError.hasBase) (I.ok.hd hc) rfl hni (E5 I hg hm ⟨rfl,?_⟩ ∅)
 exact evalArgs_empty ⟨rfl,An _,hC,hN,T,λh' e m=>F.raised I hn m⟩
end
end L2
namespace L2
open PySem PySem.Spec PyProof.Rows
variable{H:Hp}{o:HO}{b:AM}
section
variable {P:Aj} {w:BA} {h:Ay} {a:AM} 
def i9.ex(x:i9 P w H h a o):∃u,h.get? a=AA u:=by
 cases o with
 |lst xs=>obtain⟨_,_,_,_,e⟩:=x;exact⟨_,e⟩
 |tup xs=>obtain⟨_,_,_,_,e,_⟩:=x;exact⟨_,e⟩
 |dK kvs=>obtain⟨_,_,_,_,o,_,_,e,_⟩:=x;exact⟨_,e⟩
 |dT kvs=>obtain⟨_,_,_,_,o,_,_,e,_⟩:=x;exact⟨_,e⟩
 |set S n=>obtain⟨o,_,_,_,e,_⟩:=x;exact⟨_,e⟩
 |ins C dx fs=>obtain⟨_,_,_,e,_⟩:=x;exact⟨_,e⟩
 |own y=>exact x
 |xd fs=>obtain⟨_,⟨_,_,_,e,_⟩,_⟩:=x;exact⟨_,e⟩
 |rng lo hi=>obtain⟨_,_,_,e⟩:=x;exact⟨_,e⟩
 |frz ob u=>exact⟨_,x.1⟩
 |tbl ps=>exact⟨_,show h.get? a=AA _ from x⟩
 |met f y=>exact⟨_,show h.get? a=AA _ from x⟩
 |ext φ=>exact x.2.1
end
@[reducible]noncomputable def S1(a C:AM):HO:=.ext λh=>∃o,h.get? a=AA o/\o.cls=.ref C/\o.dict=AE/\∃vs,o.data=.fields vs
abbrev mrg(H H':Hp):Hp:=λb=>match H b with|some o=>AA o|none=>H' b
def z5{H':Hp}(h:H b=AA o):mrg H H' b=AA o:=by unfold mrg;rw[h]
def ac4{H':Hp}(h:H b=AE):mrg H H' b=H' b:=by unfold mrg;rw[h]
@[reducible]noncomputable def H0:Hp:=λ_=>AE
section
variable {X:Cx} {pins:List (AM×Obj)} {σ:St} {s s':AL}
def Inv.trk(I:Inv X pins σ H s)(e:H b=AA o):b∉frs X.stack:=λz=>by rw[I.stkFree b z]at e;cases e
def Inv.caught(I:Inv X pins σ H s){a C:AM}{fl:AI}(f:FlyA (Bs H0 s.heap X.stack) X.stack a (.ref C) fl s'.heap)(sl:SlE X.stack s.heap s'.heap)(os:s'.os=s.os)(br:EZ s'.gens):H a=AE/\Inv X pins σ (upd H a (S1 a C)) s':=by
 obtain⟨oe,vs,_,_,_,he,hc,hdn,hd,_⟩:=f.ex;have fresh:s.heap.get? a=AE:=by
  cases q:s.heap.get? a with
  |none=>rfl
  |some o=>
   by_cases z:a∈frs X.stack
   ·obtain⟨_,o',ho,hn⟩:=I.stack.mem z;rw[q]at ho;cases ho;obtain⟨s1,e1⟩:=sl a z o q;rw[he]at e1;cases e1;exact absurd hd (hn vs)
   ·have:=aj4 (H:=H0) q rfl z;rw[f.new]at this;cases this
 have hn:H a=AE:=by
  cases q:H a with
  |none=>rfl
  |some o=>obtain⟨u,e⟩:=(I.hok a o q).ex;rw[fresh]at e;cases e
 have keep:∀b o,s.heap.get? b=AA o->b∉frs X.stack->s'.heap.get? b=AA o:=λb o e z=>f.st b o (aj4 e rfl z);have ne:∀b o,s.heap.get? b=AA o->b≠a:=λb o e z=>by rw[z,fresh]at e;cases e
 have nt:∀{b:AM}{o:HO},H b=AA o->upd H a (S1 a C) b=AA o:=λ{b o}e=>by rw[f6 (o6 e hn)];exact e
 refine⟨hn,I.call' (ch:=[]) os ⟨λb o e _ z _=>keep b o e z,λb o e _ z _=>sl b z o e,λb o e n _=>by rw[f6 (ne b o e)];exact n,λb o e _=>?_,λb xs e=>nt e,λb u v e=>nt e,λb ps e=>⟨#[],by rw[nt e];simp⟩⟩ (λb u e=>?_) br λb z=>absurd z Ad⟩
 ·by_cases z:b∈frs X.stack
  ·obtain⟨s1,e1⟩:=sl b z o e;exact⟨_,e1⟩
  ·exact⟨o,keep b o e z⟩
 ·by_cases hb:b=a
  ·subst hb;rw[o7]at e;cases e;exact⟨⟨oe,he,hc,hdn,vs,hd⟩,⟨oe,he⟩,λh1 h2⟨o,e,r⟩k=>⟨o,k o e,r⟩⟩
  ·rw[f6 hb]at e;refine(I.hok b u e).stay (λc v hc q=>keep c v q ?_) (λc q=>nt q) λc xs q=>nt q
   rcases hc with rfl|hc
   ·exact I.trk e
   ·exact I.trk hc
def SlE.up{h h':Ay}(I:Inv X pins σ H s)(sl:SlE X.stack s.heap h)(u:h.UpToSlots h'):SlE X.stack s.heap h':=λb hb o e=>by
 obtain⟨_,o',ho,hn⟩:=I.stack.mem hb;rw[e]at ho;cases ho;obtain⟨s1,e1⟩:=sl b hb o e;obtain⟨s2,e2⟩:=u b {o with slots:=s1} e1 hn;exact⟨s2,e2⟩
def bw6{CX:CXT}{k:Nat}{f:AM}{fd:By}{ps:List Str}{sp:Sp}{Q Q0:VK}{us:List AI}{vs:List V}{EE:AI->AL->Prop}(F:FnOk X.prog X.w X.K X.mg X.base CX k f fd ps sp)(hr:Room k X.A)(hb:l4 X.K fd ps [])
  (I:Inv X pins σ H s) (r:c7 vs us) (h:sp vs H0 Q0 E0) (hq:∀v H',(∀b o,H b=AA o->H' b=AE)->Q0 v H'->Q v (mrg H H')) (hx:∀e s',CX X.stack H0 s E0 e s'->EE e s'):AU (model X.prog X.w) X.A (call (.ref f) us) (EP X pins σ Q) EE s:=by
 have e0:=I.env0;have e1:Env0 X.prog X.w X.K X.mg X.base X.A X.stack s H0:=⟨e0.frames,e0.mod,λb o q=>⟨(e0.bs b o q).1,rfl⟩,e0.bsz,e0.funs,λ_ _=>rfl,λb o q=>(nomatch (show(AE:Option HO)=AA o from q)),e0.bare⟩;have hl:us.length=ps.length:=by rw[<-r.length];exact F.len _ _ _ _ h
 have hb':=hb s us I.kIn (by rw[Ac];exact hl);rw[Ac]at hb';refine GF (ED (F.run X.A X.stack s H0 ⟨us,[]⟩ us vs Q0 E0 hr e1 hb' r h) λr s' hz=>?_);cases r with
 |error e=>exact hx e s' hz
 |ok fl=>
  cases fl with
  |next=>exact Aa hz
  |brk=>exact Aa hz
  |cont=>exact Aa hz
  |ret u=>
   obtain⟨v,H',os,bare,un,hok,rv,q⟩:=hz;have dis:∀b o,H b=AA o->H' b=AE:=λb o e=>by
    obtain⟨u,hu⟩:=(I.hok b o e).ex;exact un.free b u hu rfl Ad
   refine⟨v,mrg H H',I.call' (ch:=[]) os ⟨λb o e n z1 z2=>un.keep b o e rfl z1 z2,λb o e n z1 z2=>un.slot b o e rfl z1 z2,λb o e n z=>by rw[ac4 n];exact un.free b o e rfl z,un.there,λb xs e=>z5 e,λb o u e=>z5 e,λb ps e=>⟨#[],by rw[z5 e];simp⟩⟩ (λb o e=>?_) bare (λb z=>absurd z Ad),rv,hq v H' dis q⟩;cases q1:H b with
   |some o'=>
    rw[z5 q1]at e;cases e;refine(I.hok b _ q1).stay (λc v hc q=>un.keep c v q rfl ?_ Ad) (λc q=>z5 q) λc xs q=>z5 q
    rcases hc with rfl|hc
    ·exact I.trk q1
    ·exact I.trk hc
   |none=>
    rw[ac4 q1]at e;have up:∀{c:AM}{o:HO},H' c=AA o->mrg H H' c=AA o:=λ{c o}q=>by
     cases q2:H c with
     |none=>rw[ac4 q2];exact q
     |some z=>rw[dis c z q2]at q;cases q
    exact(hok b o e).stay (λc v _ q=>q) (λc q=>up q) λc xs q=>up q
def Inv.goes(I:Inv X pins σ H s)(hN:X.N.Nodup){i:Nat}{x:Str}(hi:X.N[i]?=AA x)(hl:X.env.scope.names.lookup x=AA .local){h':Ay}{m:Str->Option AI}{v:Option AI}(hm:∀(j:Nat)(y:Str)(v:V),X.N[j]?=AA y->σ[j]?=AA (AA v)->Vis X.env.scope y->∃u,d3 v u/\bm6 X.env s.heap m y u)
  (hn:h'.Ns X.env.locals λy=>if y=x then v else m y) (hs:CQ X.env.locals s.heap h') {t:Nat}:Inv X pins (σ.set i AE) H {s with heap:=h',toks:=t}:=by
 have other:∀b,b≠X.env.locals->h'.get? b=s.heap.get? b:=λb z=>hs.2 b z;have old:∀b o,X.s₀.heap.get? b=AA o->b≠X.env.locals:=λb o e=>Br (Al (BI e) I.ok.above);have cellK:∀y c u,X.env.cells.lookup y=AA c->s.heap.IsCell c u->h'.IsCell c u:=λy c u e⟨o,ho,hd⟩=>⟨o,(other c (I.cne y c e)).trans ho,hd⟩;refine⟨I.ok,I.os,I.bare,⟨λb o e n hb hx=>?_,λb o e n hb hx=>?_,I.base.free,λb o e hx=>?_,I.base.tups,I.base.frzs,I.base.tbls⟩,⟨_,hn,λj y v' e1 e2 e3=>?_⟩,λy c e=>?_,I.free,I.freeC,λp hp=>?_,λb ob e=>?_,by simpa using I.len⟩
 ·exact(other b (old b o e)).trans (I.base.keep b o e n hb hx)
 ·obtain⟨sl,e1⟩:=I.base.slot b o e n hb hx;exact⟨sl,(other b (old b o e)).trans e1⟩
 ·obtain⟨o',e1⟩:=I.base.there b o e hx;exact⟨o',(other b (old b o e)).trans e1⟩
 ·have hj:j≠i:=λz=>by
   subst z;rw[GX]at e2;simp only[if_true]at e2
   split at e2<;>cases e2
  rw[CC (BD hj)]at e2;have hy:y≠x:=λz=>hj (ag7 hN (z▸e1) hi);obtain⟨u,r,l⟩:=hm j y v' e1 e2 e3;refine⟨u,r,?_⟩
  rcases l with⟨l1,l2⟩|⟨l1,c,l2,l3⟩
  ·exact .inl ⟨l1,(if_neg hy).trans l2⟩
  ·exact .inr ⟨l1,c,l2,cellK y c _ l2 l3⟩
 ·obtain⟨u,z⟩:=I.cell y c e;exact⟨u,cellK y c u e z⟩
 ·obtain⟨e,n,ne,nf,d⟩:=I.pin p hp;exact⟨(other p.1 ne).trans e,n,ne,nf,d⟩
 ·refine(I.hok b ob e).stay (λc u hc q=>(other c λz=>?_).trans q) (λ_ q=>q) λ_ _ q=>q;rw[z]at hc
  rcases hc with hc|hc
  ·rw[<-hc,I.free]at e;cases e
  ·rw[I.free]at hc;cases hc
end
end L2
namespace L2
open PySem PySem.Spec PyProof.Rows
section
variable {X:Cx} {pins:List (AM×Obj)} {σ:St} {H:Hp} {s s':AL}
@[reducible]noncomputable def Cx.hdl(X:Cx)(a:AM):Cx:={X with A:=X.A.mark (AA (.ref a)),calm:=AF,xe:=λ_ _=>False}
theorem Inv.hdl(I:Inv X pins σ H s)(a:AM):Inv (X.hdl a) pins σ H s:=⟨⟨I.ok.mod,I.ok.kind,I.ok.glob,I.ok.blt,I.ok.above,I.ok.inj,I.ok.has,I.ok.cab,nofun,I.ok.frames,I.ok.stk,I.ok.exf,I.ok.bs,I.ok.bsz,I.ok.noex,I.ok.exfs,I.ok.funs,I.ok.frf⟩,I.os,I.bare,I.base,I.loc,I.cell,I.free,I.freeC,I.pin,I.hok,I.len⟩
def Inv.unhdl{a:AM}(o:X.Ok)(I:Inv (X.hdl a) pins σ H s):Inv X pins σ H s:=⟨o,I.os,I.bare,I.base,I.loc,I.cell,I.free,I.freeC,I.pin,I.hok,I.len⟩
def b49(stk:X.stack=X.env::X.outer)(fr:X.env.frame=AA X.env.locals)(hN:X.N.Nodup){ie ic:Nat}{xe xc:Str}{C Ce:AM}{p1 p2 p3 p4 p5:Pos}{e:AI}{D:Ends}(hie:X.N[ie]?=AA xe)(le:X.env.scope.names.lookup xe=AA .local)(hde:(xe==("__debug__":Str))=AF)(hce:(xe==("__classdict__":Str))=AF)(hic:X.N[ic]?=AA xc)(lc:Loc X.env.scope xc)(hf:X.fn xc=AC\/X.env.scope.names.lookup xc=AA .local)
  (hge:Gl X "EvenError") (hme:X.mg "EvenError"=AA (.ref Ce)) (hnt:Aw X.K AO "NoText"=AA (AA (.ref C))) (hex:IP X.K (.ref C) (.ref Ce)=AA AC)
  (I:Inv X pins σ H s) (c:CXe X.K X.stack H0 s E0 e s') (hq:∀a,H a=AE->D.nx (((σ.set ie (AA (.ref a))).set ic (AA (.ref a))).set ie AE) (upd H a (S1 a C))) :
  AU (model X.prog X.w) X.A (Fk e X.env) (λ_ s₂=>AU (model X.prog X.w) X.A (KF e AE) (λ_ s₃=>
   AU (model X.prog X.w) X.A (handleBy e X.env [.ExceptHandler (AA (.Name "EvenError" p1)) (AA xe) [.Assign [.Name xc p2] (.Name xe p3) p4] p5]) (SP X pins D) X.xe s₃) X.xe s₂) X.xe s':=by
 obtain⟨a,C',rfl,hn,f,sl,os,br⟩:=c;rw[hnt]at hn;cases hn;have hfr:=I.ok.frames;rw[stk]at hfr;have f1:FlyA (Bs H0 s.heap X.stack) (X.env::X.outer) a (.ref C) .none s'.heap:=stk▸f;refine aw6 hfr fr f1 λh1 f2 u1=>Y8 f2 λh2 f3 u2=>?_;have sl2:=(sl.up I u1).up I u2;rw[<-stk]at f3;obtain⟨ha,I2⟩:=I.caught (s':={s' with heap:=h2}) f3 sl2 os br;have I2m:=I2.hdl a;refine wpAny_handleBy_cons (codeAny_handlers_test (E5 I2m hge hme ?_ ∅)) nofun;obtain⟨oe,vs,T,oT,ts,he,hc,_⟩:=f3.ex;have LT:W.Looks (model X.prog X.w) h2 (Kj (.ref a)) (.ref C):=hc▸(W.Looks.ld he).andThen .now;refine Ig (W.exm_one I2.kIn LT hex) ?_;refine codeAny_handlers_suite_as ?_;refine Y8 f3 λh3 f4 u3=>?_;obtain⟨_,I3⟩:=I.caught (s':={s' with heap:=h3}) f4 (sl2.up I u3) os br;refine T9 I3 hN hie (.inl le) (v:=.ref a) rfl (λs4 I4=>?_) (.inr le);have hie':ie<(σ.set ie (AA (V.ref a))).length:=by rw[Ii,I.len];exact(Ai.mp hie).1
 have ps:PSs (X.hdl a) [.Assign [.Name xc p2] (.Name xe p3) p4] _:=b81 (a92 hN hic lc (Q4 hie (.inl le) hde hce) rfl hf);refine BP (ps pins s4 _ _ {nx:=λσ' H'=>σ'=(σ.set ie (AA (.ref a))).set ic (AA (.ref a))/\H'=upd H a (S1 a C),rt:=λ_ _=>False,bk:=λ_ _=>False,ct:=λ_ _=>False} (I4.hdl a) ⟨_,Dd (by rw[I.len];exact(Ai.mp hie).1),rfl,rfl⟩) (λfl s5 h5=>?_) λ_ _ z=>z.elim;cases fl with
 |brk=>obtain⟨_,_,_,z⟩:=h5;exact z.elim
 |cont=>obtain⟨_,_,_,z⟩:=h5;exact z.elim
 |ret u=>obtain⟨_,_,_,_,_,z⟩:=h5;exact z.elim
 |next=>
  obtain⟨_,_,I5,rfl,rfl⟩:=h5;obtain⟨m,hns,hm⟩:=id I5.loc;exact wpAny_nameGoes_keeps le hns (by rw[I.ok.kind];rfl) λh' v hn' hs'=>⟨_,_,(I5.goes (X:=X.hdl a) hN hie le hm hn' hs').unhdl I.ok,hq a ha⟩
end
end L2
namespace Ek
open PySem PySem.Spec PyProof.Rows L2
variable [Tbs]
section
variable {X:Cx} {pins:List (AM×Obj)} {σ:L2.St} {H:Hp} {s:AL}
structure FnT(X:Cx)(CX:CXT)(f:Str)(sp:Spec):Prop where
 ex:∃k a fd ps,FnOk X.prog X.w X.K X.mg X.base CX k a fd ps (u9 X.K sp)/\Room k X.A/\X.mg f=AA (.ref a)/\CU X.K (.ref a)=AC/\l4 X.K fd ps []
def RelS.none0(h:Tbs.ps=[]):RelS X.K (λ_=>AE) H0:=⟨λ_ _ e=>(nomatch e),λP hP=>by rw[h]at hP;cases hP⟩
def a93{K:AS}{H':Hp}:TK K H (mrg H H'):=⟨⟨λa xs q=>by
 rcases q with(q|⟨o',q⟩)|q
 ·exact .inl (.inl (z5 q))
 ·exact .inl (.inr ⟨o',z5 q⟩)
 ·exact .inr q,λa xs q=>z5 q⟩,λa o u q _=>z5 q⟩
def b78{K:AS}{H':Hp}(dis:∀b o,H b=AA o->H' b=AE):TK K H' (mrg H H'):=by
 have up:∀{c:AM}{o:HO},H' c=AA o->mrg H H' c=AA o:=λ{c o}q=>by
  cases q2:H c with
  |none=>rw[ac4 q2];exact q
  |some z=>rw[dis c z q2]at q;cases q
 exact⟨⟨λa xs q=>by
  rcases q with(q|⟨o',q⟩)|q
  ·exact .inl (.inl (up q))
  ·exact .inl (.inr ⟨o',up q⟩)
  ·exact .inr q,λa xs q=>up q⟩,λa o u q _=>up q⟩
def b22{CX:CXT}{EE:AI->AL->Prop}{f xt xi:Str}{sp:Spec}{ti i:Nat}{p p' py pc pa:Pos}{z:Str}{D:Ends}{Qd:DK}(F:FnT X CX f sp)(hps:Tbs.ps=[])(hg:Gl X f)(hdb:(f==("__debug__":Str))=AF)(hN:X.N.Nodup)
  (ht:X.N[ti]?=AA xt) (vt:Vis X.env.scope xt) (dt:(xt==("__debug__":Str))=AF) (ct:(xt==("__classdict__":Str))=AF) (hi:X.N[i]?=AA xi) (li:Loc X.env.scope xi) (hf:X.fn xi=AC\/X.env.scope.names.lookup xi=AA .local)
  (I:Inv (X.wish EE) pins σ H s) (e:σ[ti]?=AA (AA (.str z))) (hx:∀s1,Inv (X.wish EE) pins σ H s1->∀e s',CX X.stack H0 s1 E0 e s'->EE e s') (q:sp [.str z] (λ_=>AE) Qd)
  (hq:∀v d H' st',(∀b o,H b=AA o->H' b=AE)->IsD X.K H' d v->Qd d st'->D.nx (σ.set i (AA v)) (mrg H H')):AU (model X.prog X.w) X.A (execs [.Assign [.Name xi py] (.Call (.Name f p) [.Name xt p'] [] pc) pa] X.env) (SP (X.wish EE) pins D) EE s:=by
 obtain⟨k,a,fd,ps,Fo,hr,hm,hk,hb⟩:=F.ex;have ev:AU (model X.prog X.w) X.A (eval (.Call (.Name f p) [.Name xt p'] [] pc) X.env) (EP (X.wish EE) pins σ λv H1=>D.nx (σ.set i (AA v)) H1) EE s:=by
  refine Bu (E5 (X:=X.wish EE) I hg hm ?_ hdb);have ha:PA (X.wish EE) [.Name xt p'] (Q6 (am2 ti) W9):=P3 (Q4 ht vt dt ct) aa8;refine Et (h₀:=X.base) I.ok.mod.kin hk (thn (ha pc pins s σ H (λvs H1=>vs=[.str z]/\H1=H) I ⟨_,e,rfl,rfl⟩) λus s1⟨vs,H1,I1,r,e1,e2⟩=>⟨I1.kIn,?_⟩) rfl rfl;subst e1 e2;exact bw6 (X:=X.wish EE) (Q0:=λv H'=>∃d st',IsD X.K H' d v/\Qd d st') Fo hr hb I1 r ⟨[.str z],_,Qd,.cons (.str z) .nil,RelS.none0 hps,q,λv d H' st' _ is _ q=>⟨d,st',is,q⟩⟩ (λv H' dis⟨d,st',is,q⟩=>hq v d H' st' dis is q) λe s' c=>hx s1 I1 e s' c
 refine Do ?_;refine BP (Jc (Q:=λf s1=>f=.next/\SP (X.wish EE) pins D .next s1) (thn ev λv s1⟨y,H1,I1,r1,q1⟩=>T9 (X:=X.wish EE) I1 hN hi li r1 (λs2 I2=>⟨rfl,_,H1,I2,q1⟩) hf) rfl) (λfl s1 q=>?_) λ_ _ z=>z;obtain⟨rfl,q⟩:=q;exact CV q
def cr0{EE:AI->AL->Prop}{Q:Flow->AL->Prop}{wi:Nat}{xw:Str}{k:Int}{j1 j2:Nat}{p1 p2 p3 p4 p5 p6 p7 p8:Pos}{a b c:List BG}(hw:X.N[wi]?=AA xw)(vw:Vis X.env.scope xw)(dw:(xw==("__debug__":Str))=AF)(cw:(xw==("__classdict__":Str))=AF)(I:Inv (X.wish EE) pins σ H s)(e:σ[wi]?=AA (AA (.int k)))
  (q:∀s1,Inv (X.wish EE) pins σ H s1->AU (model X.prog X.w) X.A (execs (if k=0 then a else if k=1 then b else c) X.env) Q EE s1) (hQ:∀fl s,Q fl s->fl=.next) :
  AU (model X.prog X.w) X.A (execs [.If (.Compare (.Name xw p1) [.Eq] [.Constant (.int 0) j1 p2] p3) a [.If (.Compare (.Name xw p4) [.Eq] [.Constant (.int 1) j2 p5] p6) b c p7] p8] X.env) Q EE s:=by
 have t:∀(n:Int)(j:Nat)(p p' p'':Pos),PT (X.wish EE) (.Compare (.Name xw p) [.Eq] [.Constant (.int n) j p'] p'') (tB (bp3 (am2 wi) (tC (.int n)))):=λn j p p' p''=>aj9 (ci7 (Q4 hw vw dw cw) bb4);have one:∀{x:BG}{s1:AL},AU (model X.prog X.w) X.A (exec x X.env) Q EE s1->AU (model X.prog X.w) X.A (execs [x] X.env) Q EE s1:=λ{x s1}h=>Do (thn h λfl s2 z=>by
  cases hQ fl s2 z;exact CV z)
 refine one (Ka (thn (t 0 j1 p1 p2 p3 pins s σ H (λd H1=>d=AB (k=0)/\H1=H) I ⟨_,e,_,_,rfl,rfl,_,rfl,rfl,rfl⟩) λd s1 z48=>?_));obtain⟨H1,I1,e1,e2⟩:=z48;subst e1 e2
 by_cases h0:k=0
 ·rw[decide_eq_true h0];have:=q s1 I1;rw[if_pos h0]at this;exact this
 rw[decide_eq_false h0];refine one (Ka (thn (t 1 j2 p4 p5 p6 pins s1 σ H1 (λd H2=>d=AB (k=1)/\H2=H1) I1 ⟨_,e,_,_,rfl,rfl,_,rfl,rfl,rfl⟩) λd s2 z49=>?_));obtain⟨H2,I2,e1,e2⟩:=z49;subst e1 e2;have:=q s2 I2;rw[if_neg h0]at this
 by_cases h1:k=1
 ·rw[decide_eq_true h1];rw[if_pos h1]at this;exact this
 ·rw[decide_eq_false h1];rw[if_neg h1]at this;exact this
end
end Ek
namespace Ek
open PySem PySem.Spec PyProof.Rows L2
variable [Tbs]
structure TryOk(X:Cx):Prop where
 ps:Tbs.ps=[]
 ex:∃C Ce,Aw X.K AO "NoText"=AA (AA (.ref C))/\X.mg "EvenError"=AA (.ref Ce)/\IP X.K (.ref C) (.ref Ce)=AA AC
 rc:∃C,Aw X.K AO "NoText"=AA (AA (.ref C))/\X.mg "NoText"=AA (.ref C)/\HA X.K C vB "ValueError.__new__"=AC
structure FrS(X:Cx)(b:Bool):Prop where
 stk:X.stack=X.env::X.outer
 fr:X.env.frame=AA X.env.locals
 pass:Fh (model X.prog X.w) X.A X.env X.xe
 rai:b=AC->FrX X AC
section
variable {X:Cx} {pos:Pos}
def b07{b:Bool}{np cpos:Pos}{q:Prop}(F:FrS X b)(hT:q->TryOk X)(hc:X.calm=AC)(hg:Gl X "NoText"):PS X (.Raise (AA (.Call (.Name "NoText" np) [] [] cpos)) AE pos) (upS X.K λ_ _ _=>b=AC/\q):=λpins s σ H D I h=>by
 obtain⟨_,_,_,_,_,ht,_⟩:=h;obtain⟨C,h1,h2,h3⟩:=(hT ht.2).rc;exact b09 (F.rai ht.1) hc h1 h2 hg h3 pins s σ H D I trivial
structure NmOk(X:Cx)(i:Nat)(x:Str):Prop where
 at_:X.N[i]?=AA x
 vis:Vis X.env.scope x
 db:(x==("__debug__":Str))=AF
 cd:(x==("__classdict__":Str))=AF
structure NsOk(X:Cx)(i:Nat)(x:Str):Prop where
 at_:X.N[i]?=AA x
 loc:Loc X.env.scope x
 st:X.fn x=AC\/X.env.scope.names.lookup x=AA .local
def cb7{K:AS}{H H':Hp}{env:d9}{σ:L2.St}{a:AM}{ie ic:Nat}(r:RelE K H env σ)(k:TK K H H')(ne:ie≠ic):RelE K H' ((env.set ie AE).set ic (AA (.ref a))) (((σ.set ie (AA (.ref a))).set ic (AA (.ref a))).set ie AE):=⟨by simp[r.len],λj d h=>by
 have hl:=r.len
 by_cases h1:j=ie
 ·subst h1;rw[CC (BD ne),GX]at h;simp only[if_true]at h
  split at h<;>cases h
 rw[CC (BD h1)]
 by_cases h2:j=ic
 ·subst h2
  by_cases hj:j<env.length
  ·rw[Dd (by simpa using hj)]at h;cases h;exact⟨_,Dd (by simpa[<-hl]using hj),.ref a⟩
  ·rw[El (by simpa using hj)]at h;cases h
 ·rw[CC (BD h2),CC (BD h1)]at h;obtain⟨v,hv,is⟩:=r.at' j d h;exact⟨v,by rw[CC (BD h2),CC (BD h1)];exact hv,is.mono k⟩⟩
def cd7{Z:Sg}{f g h xw xt xi xc xe:Str}{wi ti i ic ie:Nat}{j1 j2:Nat}{p1 p2 p3 p4 p5 p6 p7 p8 q1 q2 q3 q4 q5 r1 r2 r3 r4 r5 t1 t2 t3 t4 t5 u1 u2 u3 u4 u5:Pos}(S:FrS X Z.X)(hN:X.N.Nodup)(hT:Z.C "!ix"≠[]->TryOk X)
  (nw:NmOk X wi xw) (nt:NmOk X ti xt) (ni:NsOk X i xi) (nc:NsOk X ic xc) (ne:NmOk X ie xe) (le:X.env.scope.names.lookup xe=AA .local) (hec:ie≠ic) (gE:Gl X "EvenError")
  (hF:∀x,x=f\/x=g\/x=h->Gl X x/\(x==("__debug__":Str))=AF/\(Z.F x=AC->FnT X (CXb X.K Z.X) x (Z.Phi x)/\FnT X (CXb X.K AC) x (Z.T x))) :
  PS X (.Try [.If (.Compare (.Name xw p1) [.Eq] [.Constant (.int 0) j1 p2] p3) [.Assign [.Name xi q1] (.Call (.Name f q2) [.Name xt q3] [] q4) q5] [.If (.Compare (.Name xw p4) [.Eq] [.Constant (.int 1) j2 p5] p6) [.Assign [.Name xi r1] (.Call (.Name g r2) [.Name xt r3] [] r4) r5] [.Assign [.Name xi t1] (.Call (.Name h t2) [.Name xt t3] [] t4) t5] p7] p8]
   [.ExceptHandler (AA (.Name "EvenError" u1)) (AA xe) [.Assign [.Name xc u2] (.Name xe u3) u4] u5] [] [] pos) (upS X.K (wpS Z (.try3 wi ti f g h i ic ie))):=λpins s σ H D I q=>by
 obtain⟨env,st,Fd,hE,hS,⟨hix,k,z,e1,e2,hZ,hh⟩,hq⟩:=q;obtain⟨hps,⟨C,Ce,hn,hm,hx⟩,_⟩:=hT hix;obtain⟨v1,s1,i1⟩:=hE.at' _ _ e1;cases i1.int_inv;obtain⟨v2,s2,i2⟩:=hE.at' _ _ e2;cases i2.str_inv;have h3:∀x,x=tr3 f g h k->x=f\/x=g\/x=h:=λx e=>by
  unfold tr3 at e
  split at e
  ·exact .inl e
  ·split at e
   ·exact .inr (.inl e)
   ·exact .inr (.inr e)
 obtain⟨hg,hdb,hFn⟩:=hF _ (h3 _ rfl);obtain⟨F1,F2⟩:=hFn hZ;have nx:∀{Qd:DK},(∀d st',Qd d st'->Fd.nx (env.set i (AA d)) st)->∀v d H' st',(∀b o,H b=AA o->H' b=AE)->IsD X.K H' d v->Qd d st'->D.nx (σ.set i (AA v)) (mrg H H'):=λ{Qd}hQ v d H' st' dis is q=>
  hq.nx _ _ _ st (λa o e n=>⟨⟨o,z5 e,.inl rfl⟩,n⟩) ((hE.mono a93).set (is.mono (b78 dis)) i) (hS.stay a93 (λa o e=>by
   cases q2:H a with
   |none=>rw[hS.free q2]at e;cases e
   |some u=>exact z5 q2) λa ps e=>z5 e) (hQ d st' q)
 have body:∀(EE:AI->AL->Prop)(CX:CXT)(sp:Spec)(Qd:DK),FnT X CX (tr3 f g h k) sp->sp [.str z] (λ_=>AE) Qd->(∀d st',Qd d st'->Fd.nx (env.set i (AA d)) st)->(∀s1,Inv (X.wish EE) pins σ H s1->∀e s',CX X.stack H0 s1 E0 e s'->EE e s') ->
   AU (model X.prog X.w) X.A (execs [.If (.Compare (.Name xw p1) [.Eq] [.Constant (.int 0) j1 p2] p3) [.Assign [.Name xi q1] (.Call (.Name f q2) [.Name xt q3] [] q4) q5] [.If (.Compare (.Name xw p4) [.Eq] [.Constant (.int 1) j2 p5] p6) [.Assign [.Name xi r1] (.Call (.Name g r2) [.Name xt r3] [] r4) r5] [.Assign [.Name xi t1] (.Call (.Name h t2) [.Name xt t3] [] t4) t5] p7] p8] X.env)
    (λfl s1=>fl=.next/\SP X pins D .next s1) EE s:=λEE CX sp Qd F q hQ hx=>by
  refine cr0 nw.at_ nw.vis nw.db nw.cd (I.wish EE) s1 (λs1 I1=>?_) λfl s h=>h.1;have call:∀(x:Str),x=tr3 f g h k->∀(py p p' pc pa:Pos),AU (model X.prog X.w) X.A (execs [.Assign [.Name xi py] (.Call (.Name x p) [.Name xt p'] [] pc) pa] X.env) (λfl s1=>fl=.next/\SP X pins D .next s1) EE s1:=λx ex py p p' pc pa=>by
   subst ex;refine thn (b22 (D:={nx:=D.nx,rt:=λ_ _=>False,bk:=λ_ _=>False,ct:=λ_ _=>False}) F hps hg hdb hN nt.at_ nt.vis nt.db nt.cd ni.at_ ni.loc ni.st I1 s2 hx q (nx hQ)) λfl s2 h2=>?_;cases fl with
   |next=>obtain⟨σ',H',J,q⟩:=h2;exact⟨rfl,σ',H',J.unwish,q⟩
   |brk=>obtain⟨_,_,_,z⟩:=h2;exact z.elim
   |cont=>obtain⟨_,_,_,z⟩:=h2;exact z.elim
   |ret u=>obtain⟨_,_,_,_,_,z⟩:=h2;exact z.elim
  by_cases k0:k=0
  ·rw[if_pos k0];exact call f (by unfold tr3;rw[if_pos k0]) _ _ _ _ _
  rw[if_neg k0]
  by_cases k1:k=1
  ·rw[if_pos k1];exact call g (by unfold tr3;rw[if_neg k0,if_pos k1]) _ _ _ _ _
  ·rw[if_neg k1];exact call h (by unfold tr3;rw[if_neg k0,if_neg k1]) _ _ _ _ _
 refine wpAny_Try_except ?_
 rcases hh with⟨hz,hh⟩|⟨hh,hh2⟩
 ·rw[hz]at F1;refine BP (body (λ_ _=>False) _ _ _ F1 hh (λ_ _ q=>q) λs1 _ e s' c=>absurd c.1 AK) (λfl s1 h1=>?_) λ_ _ z=>z.elim;obtain⟨rfl,h1⟩:=h1;exact CV h1
 ·refine BP (body (λe s'=>∃s1,Inv X pins σ H s1/\CXe X.K X.stack H0 s1 E0 e s') _ _ _ F2 hh (λ_ _ q=>q) λs1 J e s' c=>⟨s1,J.unwish,c.2⟩) (λfl s1 h1=>?_) λe s'⟨s1,J,c⟩=>?_
  ·obtain⟨rfl,h1⟩:=h1;exact CV h1
  ·refine b49 S.stk S.fr hN ne.at_ le ne.db ne.cd nc.at_ nc.loc nc.st gE hm hn hx J c λa ha=>?_;exact hq.nx _ _ _ (b0 st a .exc) (Ev.newS ha) (cb7 hE (TK.new ha) hec) (hS.putAny (ob:=.exc) (TK.new ha) ⟨C,o7,hn⟩ (by rw[ha];exact λ_=>nofun)) (hh2 a (hS.free ha))
structure IxOk(K:AS)(c:Str)(Ca:AM):Prop where
 ex:∃C,Aw K AO "NoText"=AA (AA (.ref C))/\Dq K (.ref C) (.ref Ca)=AA (c=="NoText")/\(JI K C).isSome=AC/\ (BH K (.ref C) "__getattribute__"=AA (AA (.builtin "BaseException.__getattribute__"))/\BH K (.ref C) "__getattr__"=AA AE/\ES K C (.type "BaseException")=AA AC)/\BH K (.ref C) "__class__"=AA (AA (.builtin "object.__class__")) /\
  Dp K (.builtin "object.__class__") "__get__"=AA (AA (.builtin "getset_descriptor.__get__"))/\Eg K (.builtin "object.__class__")=AA AC/\ES K C (.type "object")=AA AC
open PySem.W in
def bx7{prog:Aj}{w:BA}{A:BV}{E:AI->AL->Prop}{s:AL}{K:Frag}{x D:AM}{ox:Obj}{odo:Option Obj}{name:Str}{g a:AI}{Q:Option AI->AL->Prop}
  (X:K.In s.heap) (I:InstAt s.heap x ox D odo) (hga:findIn K (.ref D) "__getattribute__"=AA (AA (.builtin "BaseException.__getattribute__"))) (hk:findIn K (.ref D) "__getattr__"=AA AE)
  (hb:Looks (model prog w) s.heap (isSubtype (.ref D) (.type "BaseException")) AC)
  (hf:findObj K D odo name=AA (.bind g a))
  (h:AU (model prog w) A.in1 (call g [a,.ref x,.ref D])
   (λv s'=>AU (model prog w) A (handedOut v) (λv s''=>Q (AA v) s'') (λ_ _=>False) s') (λ_ _=>False) {s with toks:=s.toks+1}) :
  AU (model prog w) A (getAttr? (.ref x) name) Q E s:=by
 obtain⟨hh,gg,d,t,os⟩:=s;have L0:=I.type (M:=model prog w);have L1:=looks_findIn (M:=model prog w) X hga;have L2:=looks_findIn (M:=model prog w) X hk;have L3:=looks_find (M:=model prog w) X I hf;have LI:Looks (model prog w) hh (isInstance (.ref x) (.type "BaseException")) AC:=L0.andThen hb;have hk:builtinKind "BaseException.__getattribute__"=AA .slot:=by decide+kernel
 have hsplit:splitId "BaseException.__getattribute__"=AA ("BaseException","__getattribute__"):=by decide+kernel
 have hbi:bindSpecial (.builtin "BaseException.__getattribute__") (.ref x)=pure (.builtin "BaseException.__getattribute__",[.ref x]):=by kernel_rfl
 unfold getAttr? getAttrBy? getAttrBy;refine AJ (wpAny_mkText (AJ (wpAny_attempt (CM (AJ (L0.at (AJ (L1.at ?_))))))));show AU _ _ (KS _ _ _ _ _ _) _ _ _;unfold KS;refine AJ ?_;show AU _ _ (HX (.ref D) "__getattr__") _ _ _;refine L2.at ?_;refine AJ (wpAny_attempt (CM ?_));show AU _ _ (Kv _ _ _) _ _ _;unfold Kv;rw[hbi];refine AJ (AQ ?_);refine GF (codeAny_call_builtin (by decide+kernel) F.entry_bexc_ga ?_);have chk:∀{Q:Unit->AL->Prop}{E' A'},Q () ⟨hh,gg,d,t+1,os⟩->AU (model prog w) A' (KG "BaseException.__getattribute__" ⟨[.ref x,.str name t],[]⟩) Q E' ⟨hh,gg,d,t+1,os⟩:=λhq=>by
  have ha:=F.args_bexc_ga (.ref x) (.str name t);simp only[KG,hk,hsplit];refine AJ (LI.at ?_)
  repeat (first|exact hq|wp_step)
 refine chk ?_;unfold GU.«object.__getattribute__»;refine AJ (AQ (AJ (AQ (AJ (L0.at (AJ (L3.at ?_)))))));show AU _ _ (holding [a] (call g [a,.ref x,.ref D])>>=ret) _ _ _;refine AJ (CM (BP h (λv s' z=>AQ ?_) λ_ _ z=>z.elim));exact BP z (λv s'' hv=>AQ hv) (λ_ _ z=>z.elim)
def b62{K:AS}{x C:AM}(hc:(JI K C).isSome=AC)(hg:BH K (.ref C) "__getattribute__"=AA (AA (.builtin "BaseException.__getattribute__"))/\BH K (.ref C) "__getattr__"=AA AE/\ES K C (.type "BaseException")=AA AC)(ha:BH K (.ref C) "__class__"=AA (AA (.builtin "object.__class__")))(hn:Dp K (.builtin "object.__class__") "__get__"=AA (AA (.builtin "getset_descriptor.__get__")))
  (ht:Eg K (.builtin "object.__class__")=AA AC) (hm:ES K C (.type "object")=AA AC):W.KitX K (.ref x) (.ref C) (λh=>∃o,h.get? x=AA o/\o.cls=.ref C/\o.dict=AE/\∃vs,o.data=.fields vs):=by
 have inst:∀{h:Ay},(∃o,h.get? x=AA o/\o.cls=.ref C/\o.dict=AE/\∃vs,o.data=.fields vs)->∃o,W.InstAt h x o C AE:=λ{h}⟨o,e,c,d,vs,f⟩=>⟨o,e,c,by obtain⟨c',d',dt,sl⟩:=o;cases f;rfl,by rw[d];trivial⟩;obtain⟨cd,hcd⟩:=BJ.mp hc;have hob:∃c' d' cd' sl',K.lookup C=AA ⟨c',d',.cls cd',sl'⟩:=by
  unfold JI at hcd
  split at hcd
  ·exact⟨_,_,_,_,by assumption⟩
  ·cases hcd
 obtain⟨c',d',cd',sl',ho⟩:=hob;refine⟨λM h _ p=>(inst p).choose_spec.type,λM h X _=>?_,λh tp dd its n sl X htp=>Bool.eq_false_iff.mpr λq=>?_,λ{prog w A E Q s}X p k=>?_⟩
 ·intro A' Q' E' s' k q;unfold isType loadHead;exact AJ (Kf (k _ _ (X _ _ ho)) (AQ q))
 ·have e:C=tp:=Value.ref.inj (beq_iff_eq.mp q);subst e;rw[X _ _ ho]at htp;cases htp
 ·obtain⟨o,I⟩:=inst p;have hf:W.findObj K C AE "__class__"=AA (.bind (.builtin "getset_descriptor.__get__") (.builtin "object.__class__")):=by
   unfold W.findObj;rw[hcd,Av,ha,Av];simp[hn,ht]
  exact bx7 X I hg.1 hg.2.1 (W.looks_mroIn X hg.2.2) hf (GF (W.class_get (s:={s with toks:=s.toks+1}) X I hm (W.handed_on rfl k)))
def ck8{a:AR}{ta:DT}{p p2:Pos}{k:Str}{Ca:AM}(K:IxOk X.K k Ca)(hg:Gl X "isinstance")(hm:X.mg "isinstance"=AE)(hg2:Gl X k)(hm2:X.mg k=AA (.ref Ca))(hdb:(k==("__debug__":Str))=AF)(ha:PE X a (up X.K ta))(hs:∀e p,a≠.Starred e p):
  PE X (.Call (.Name "isinstance" p) [a,.Name k p2] [] pos) (up X.K λenv st Q=>ta env st λx st1=>∃a,x=.ref a/\st1 a=AA .exc/\Q (.bl (k=="NoText")) st1):=by
 obtain⟨C,hn,hk,c1,c2,c3,c4,c5,c6⟩:=K.ex;intro pins s σ H Q I q;obtain⟨env,st,Qd,hE,hS,ht,hq⟩:=q;have arg:PA X [a,.Name k p2] (Q6 (up X.K ta) (Q6 (tC (.ref Ca)) W9)):=P3 ha (P3 (aa1 (v:=.ref Ca) hg2 hm2 rfl hdb) aa8 rfl) (g9 hs);refine Z6 (r:=λvs H Q=>∃x,vs=[.ref x,.ref Ca]/\H x=AA (S1 x C)/\Q (.bl (k=="NoText")) H) ?_ hg hm ap5 arg ∅ ∅ (g9 hs) rfl pins s σ H Q I ?_
 ·intro pins s σ H vs us Q I r ⟨x,e,hx,q⟩;subst e;obtain⟨u,v,rfl,ru,rv⟩:=r.two;cases rv;cases ru;obtain⟨p,_,_⟩:=(show i9 X.prog X.w H s.heap x (S1 x C) from I.hok x _ hx);exact Ci (b62 c1 c2 c3 c4 c5 c6) I.kIn p hk (λz=>nomatch z) λtk=>⟨.bl _,H,I.tok _,rfl,q⟩
 ·refine⟨env,st,_,hE,hS,ht,λv d H' st' ev is rs q1=>?_⟩;obtain⟨x,rfl,e,q1⟩:=q1;obtain⟨C',hH,hn'⟩:=rs.ob x _ e;rw[hn]at hn';cases hn';exact⟨x,by rw[is.ref_inv],hH,(hq.after ev).here (.bl _) rs q1⟩
end
end Ek
namespace Ek
open PySem PySem.Spec PyProof.Rows L2
variable [Tbs]
variable{C:AR->Prop}{g m:Str}{sc:BR}
abbrev U0:List Str:=["len","abs","int","sum","list","tuple","isinstance","max","range","enumerate","reversed","str","bool","min","sorted","zip","any","dict"]
abbrev isM(f:Str):Bool:=f.cps.contains 46
structure FOk(X:Cx)(b:Bool)(f:Str)(sp:Spec):Prop where
 ex:∃k a fd ps,FnOk X.prog X.w X.K X.mg X.base (CXb X.K b) k a fd ps (u9 X.K sp)/\Room k X.A/\X.mg f=AA (.ref a)/\CU X.K (.ref a)=AC/\l4 X.K fd ps []/\Aw X.K AO f=AA (AA (.ref a))
abbrev p0:Str:=⟨#[33]⟩
abbrev v5(x:Str):Str:=⟨#[33]++x.cps⟩
abbrev glb(sc:BR)(f:Str):Bool:=sc.names.lookup f==AA .globalImplicit
abbrev X2(sc:BR)(x:Str):Bool:=match sc.names.lookup x with
 |some .local=>AC|some .cell=>AC|some .free=>AC|_=>AF
abbrev F8(sc:BR)(x:Str):Bool:=match sc.names.lookup x with
 |some .local=>AC|some .cell=>AC|_=>AF
abbrev lcl(sc:BR)(x:Str):Bool:=sc.names.lookup x==AA .local
abbrev okN(x:Str):Bool:=!(x==("__debug__":Str))&&!(x==("__classdict__":Str))
abbrev a76(x:AR):Bool:=!([22,26,7].contains x.ctorIdx)
abbrev z7(x:AR):Bool:=!(x.ctorIdx==5)
abbrev Q7(x:AR):Bool:=!([8,9,10].contains x.ctorIdx)
abbrev am9(scope sc:BR):BR:=
 {scope with names:=scope.names.map λ(n,k)=>if(k==.free&&sc.kind==.function&&sc.names.lookup n==AA .cell)then(n,.cell)else(n,k)}
abbrev V7(sc scope:BR)(N Nc:List Str)(fr:List Nat)(k:Nat):Bool:=
 (scope.kind==.function)&&scope.names.all (λy=>!(y.2==.cell))&&scope.names.all (λy=>!(y.2==.local)||scope.names.lookup y.1==AA .local)&&
 scope.names.all (λy=>!(y.2==.free)||sc.names.lookup y.1==AA .cell||sc.names.lookup y.1==AA .free)&&scope.names.all (λy=>!(y.2==.free)||!(scope.names.any λz=>z.1==y.1&&z.2==.local))&&
 decide Nc.Nodup&&!(Nc.contains p0)&&(Nc.length==fr.length+k)&&((Da fr.length).all λi=>match Nc[i]?,fr[i]? with
  |some x,AA j=>(N[j]?==AA x)&&scope.names.any (λz=>z.1==x&&z.2==.free)|_,_=>AF)
def an{a b:Bool}(h:(a&&b)=AC):a=AC/\b=AC:=Bool.and_eq_true_iff.1 h
def nt{b:Bool}(h:(!b)=AC):b=AF:=by cases b<;>first|rfl|cases h
def dE{p:Prop}[Decidable p]{f:p->Bool}{C:Prop}(h:(if h:p then f h else AF)=AC)(H:∀e,f e=AC->C):C:=by
 by_cases e:p
 ·rw[dif_pos e]at h;exact H e h
 ·rw[dif_neg e]at h;cases h
abbrev xBo(x:AR)(k:Kw->List AR->Pos->Bool):Bool:=if h:x.ctorIdx=0 then FA x h k else AF
def bm3{x:AR}{k:Kw->List AR->Pos->Bool}(h:xBo x k=AC)(H:∀o l p,k o l p=AC->C (.BoolOp o l p)):C x:=
 dE h λe=>FA (motive_1:=λx=>∀e,FA x e k=AC->C x) x e (λo l p _ h=>H o l p h) e
abbrev xBi(x:AR)(k:AR->Er->AR->Pos->Bool):Bool:=if h:x.ctorIdx=2 then FO x h k else AF
def bm1{x:AR}{k:AR->Er->AR->Pos->Bool}(h:xBi x k=AC)(H:∀a o b p,k a o b p=AC->C (.BinOp a o b p)):C x:=
 dE h λe=>FO (motive_1:=λx=>∀e,FO x e k=AC->C x) x e (λa o b p _ h=>H a o b p h) e
abbrev xU(x:AR)(k:UnaryOp->AR->Pos->Bool):Bool:=if h:x.ctorIdx=3 then Em x h k else AF
def xU_{x:AR}{k:UnaryOp->AR->Pos->Bool}(h:xU x k=AC)(H:∀o a p,k o a p=AC->C (.UnaryOp o a p)):C x:=
 dE h λe=>Em (motive_1:=λx=>∀e,Em x e k=AC->C x) x e (λo a p _ h=>H o a p h) e
abbrev xIf(x:AR)(k:AR->AR->AR->Pos->Bool):Bool:=if h:x.ctorIdx=5 then FP x h k else AF
def c04{x:AR}{k:AR->AR->AR->Pos->Bool}(h:xIf x k=AC)(H:∀a b c p,k a b c p=AC->C (.IfExp a b c p)):C x:=
 dE h λe=>FP (motive_1:=λx=>∀e,FP x e k=AC->C x) x e (λa b c p _ h=>H a b c p h) e
abbrev xD(x:AR)(k:List (Option AR)->List AR->Pos->Bool):Bool:=if h:x.ctorIdx=6 then Ft x h k else AF
def xD_{x:AR}{k:List (Option AR)->List AR->Pos->Bool}(h:xD x k=AC)(H:∀a b p,k a b p=AC->C (.Dict a b p)):C x:=
 dE h λe=>Ft (motive_1:=λx=>∀e,Ft x e k=AC->C x) x e (λa b p _ h=>H a b p h) e
abbrev xLC(x:AR)(k:AR->List Hn->BR->Pos->Bool):Bool:=if h:x.ctorIdx=8 then EV x h k else AF
def cz9{x:AR}{k:AR->List Hn->BR->Pos->Bool}(h:xLC x k=AC)(H:∀a g s p,k a g s p=AC->C (.ListComp a g s p)):C x:=
 dE h λe=>EV (motive_1:=λx=>∀e,EV x e k=AC->C x) x e (λa g s p _ h=>H a g s p h) e
abbrev xCm(x:AR)(k:AR->List Dm->List AR->Pos->Bool):Bool:=if h:x.ctorIdx=15 then En x h k else AF
def c01{x:AR}{k:AR->List Dm->List AR->Pos->Bool}(h:xCm x k=AC)(H:∀a o b p,k a o b p=AC->C (.Compare a o b p)):C x:=
 dE h λe=>En (motive_1:=λx=>∀e,En x e k=AC->C x) x e (λa o b p _ h=>H a o b p h) e
abbrev xCa(x:AR)(k:AR->List AR->List Fj->Pos->Bool):Bool:=if h:x.ctorIdx=16 then Fu x h k else AF
def cx5{x:AR}{k:AR->List AR->List Fj->Pos->Bool}(h:xCa x k=AC)(H:∀f a w p,k f a w p=AC->C (.Call f a w p)):C x:=
 dE h λe=>Fu (motive_1:=λx=>∀e,Fu x e k=AC->C x) x e (λf a w p _ h=>H f a w p h) e
abbrev xK(x:AR)(k:Const->Nat->Pos->Bool):Bool:=if h:x.ctorIdx=19 then EW x h k else AF
def xK_{x:AR}{k:Const->Nat->Pos->Bool}(h:xK x k=AC)(H:∀c n p,k c n p=AC->C (.Constant c n p)):C x:=
 dE h λe=>EW (motive_1:=λx=>∀e,EW x e k=AC->C x) x e (λc n p _ h=>H c n p h) e
abbrev xA(x:AR)(k:AR->Str->Pos->Bool):Bool:=if h:x.ctorIdx=20 then EJ x h k else AF
def xA_{x:AR}{k:AR->Str->Pos->Bool}(h:xA x k=AC)(H:∀a f p,k a f p=AC->C (.Attribute a f p)):C x:=
 dE h λe=>EJ (motive_1:=λx=>∀e,EJ x e k=AC->C x) x e (λa f p _ h=>H a f p h) e
abbrev xS(x:AR)(k:AR->AR->Pos->Bool):Bool:=if h:x.ctorIdx=21 then EK x h k else AF
def xS_{x:AR}{k:AR->AR->Pos->Bool}(h:xS x k=AC)(H:∀a b p,k a b p=AC->C (.Subscript a b p)):C x:=
 dE h λe=>EK (motive_1:=λx=>∀e,EK x e k=AC->C x) x e (λa b p _ h=>H a b p h) e
abbrev xN(x:AR)(k:Str->Pos->Bool):Bool:=if h:x.ctorIdx=23 then Fv x h k else AF
def xN_{x:AR}{k:Str->Pos->Bool}(h:xN x k=AC)(H:∀y p,k y p=AC->C (.Name y p)):C x:=
 dE h λe=>Fv (motive_1:=λx=>∀e,Fv x e k=AC->C x) x e (λy p _ h=>H y p h) e
abbrev xL(x:AR)(k:List AR->Pos->Bool):Bool:=if h:x.ctorIdx=24 then Fw x h k else AF
def xL_{x:AR}{k:List AR->Pos->Bool}(h:xL x k=AC)(H:∀l p,k l p=AC->C (.List l p)):C x:=
 dE h λe=>Fw (motive_1:=λx=>∀e,Fw x e k=AC->C x) x e (λl p _ h=>H l p h) e
abbrev xT(x:AR)(k:List AR->Nat->Pos->Bool):Bool:=if h:x.ctorIdx=25 then FQ x h k else AF
def xT_{x:AR}{k:List AR->Nat->Pos->Bool}(h:xT x k=AC)(H:∀l n p,k l n p=AC->C (.Tuple l n p)):C x:=
 dE h λe=>FQ (motive_1:=λx=>∀e,FQ x e k=AC->C x) x e (λl n p _ h=>H l n p h) e
abbrev xSl(x:AR)(k:Option AR->Option AR->Option AR->Pos->Bool):Bool:=if h:x.ctorIdx=26 then FR x h k else AF
def bo2{x:AR}{k:Option AR->Option AR->Option AR->Pos->Bool}(h:xSl x k=AC)(H:∀l u s p,k l u s p=AC->C (.Slice l u s p)):C x:=
 dE h λe=>FR (motive_1:=λx=>∀e,FR x e k=AC->C x) x e (λl u s p _ h=>H l u s p h) e
abbrev l1{α:Type}(l:List α)(k:α->Bool):Bool:=Dt (motive:=λ_=>Bool) l AF λp r=>r.isEmpty&&k p
def l1_{α:Type}{l:List α}{k:α->Bool}{C:List α->Prop}(h:l1 l k=AC)(H:∀p,k p=AC->C [p]):C l:=
 match l,h with
 |[p],h=>H p h
abbrev l2{α:Type}(l:List α)(k:α->α->Bool):Bool:=Dt (motive:=λ_=>Bool) l AF λp r=>l1 r (k p)
def l2_{α:Type}{l:List α}{k:α->α->Bool}{C:List α->Prop}(h:l2 l k=AC)(H:∀p q,k p q=AC->C [p,q]):C l:=
 match l,h with
 |p::r,h=>l1_ (C:=λr=>C (p::r)) h λq h=>H p q h
abbrev lb(l:List AR)(k:AR->AR->Bool)(m:AR->List AR->Bool):Bool:=Dt (motive:=λ_=>Bool) l AF λp r=>if r.length=1 then l1 r (k p)else AB (2<=r.length)&&m p r
abbrev xKc(x:AR)(c:Const):Bool:=xK x λd _ _=>d==c
def O4{x:AR}{c:Const}(h:xKc x c=AC)(H:∀n p,C (.Constant c n p)):C x:=
 xK_ h λd n p e=>(beq_iff_eq.1 e)▸H n p
abbrev D8(x:AR)(g:Str):Bool:=xN x λy _=>y==g
def F4{x:AR}(h:D8 x g=AC)(H:∀p,C (.Name g p)):C x:=
 xN_ h λy p e=>(beq_iff_eq.1 e)▸H p
abbrev xCl(x:AR)(k:AR->List AR->Pos->Bool):Bool:=xCa x λf a w p=>w.isEmpty&&k f a p
def ao4{x:AR}{k:AR->List AR->Pos->Bool}(h:xCl x k=AC)(H:∀f a p,k f a p=AC->C (.Call f a [] p)):C x:=
 cx5 h λf a w p h=>by
  cases w with
  |nil=>exact H f a p h
  |cons=>exact(AK h).elim
abbrev J3(x:AR):Bool:=!(xCl x λf a _=>a.isEmpty&&xN f λ_ _=>AC)
abbrev xG(g:Str)(sc:BR)(x:AR)(k:List AR->Bool):Bool:=xCl x λf a _=>D8 f g&&(glb sc g&&k a)
def xG_{x:AR}{k:List AR->Bool}{C:AR->Prop}(h:xG g sc x k=AC)(H:∀q a p,glb sc g=AC->k a=AC->C (.Call (.Name g q) a [] p)):C x:=
 ao4 h λf a p h=>F4 (C:=λf=>C (.Call f a [] p)) (an h).1 λq=>H q a p (an (an h).2).1 (an (an h).2).2
abbrev xC1(g:Str)(sc:BR)(x:AR)(k:AR->Bool):Bool:=xG g sc x λa=>l1 a k
def B0{x:AR}{k:AR->Bool}{C:AR->Prop}(h:xC1 g sc x k=AC)(H:∀q a p,glb sc g=AC->k a=AC->C (.Call (.Name g q) [a] [] p)):C x:=
 xG_ h λq a p h1 h=>l1_ (C:=λa=>C (.Call (.Name g q) a [] p)) h λa=>H q a p h1
abbrev xC2(g:Str)(sc:BR)(x:AR)(k:AR->AR->Bool):Bool:=xG g sc x λa=>l2 a k
def ac6{x:AR}{k:AR->AR->Bool}{C:AR->Prop}(h:xC2 g sc x k=AC)(H:∀q a b p,glb sc g=AC->k a b=AC->C (.Call (.Name g q) [a,b] [] p)):C x:=
 xG_ h λq a p h1 h=>l2_ (C:=λa=>C (.Call (.Name g q) a [] p)) h λa b=>H q a b p h1
abbrev xM(m:Str)(x:AR)(k:AR->List AR->Bool):Bool:=xCl x λf a cp=>xA f λo n ap=>(n==m)&&((ap.endLine==cp.line)&&k o a)
def xM_{x:AR}{k:AR->List AR->Bool}{C:AR->Prop}(h:xM m x k=AC)(H:∀o ap a cp,(ap.endLine==cp.line)=AC->k o a=AC->C (.Call (.Attribute o m ap) a [] cp)):C x:=
 ao4 h λf a cp h=>xA_ (C:=λf=>C (.Call f a [] cp)) h λo n ap h=>(beq_iff_eq.1 (an h).1)▸H o ap a cp (an (an h).2).1 (an (an h).2).2
abbrev xM0(m:Str)(x:AR)(k:AR->Bool):Bool:=xM m x λo a=>a.isEmpty&&(J3 o&&k o)
def cx3{x:AR}{k:AR->Bool}(h:xM0 m x k=AC)(H:∀o ap cp,(ap.endLine==cp.line)=AC->J3 o=AC->k o=AC->C (.Call (.Attribute o m ap) [] [] cp)):C x:=
 xM_ h λo ap a cp e h=>by
  cases a with
  |nil=>exact H o ap cp e (an (an h).2).1 (an (an h).2).2
  |cons=>exact(AK h).elim
abbrev xM1(m:Str)(x:AR)(k j:AR->Bool):Bool:=xM m x λo a=>l1 a λp=>J3 o&&(k o&&j p)
def X3{x:AR}{k j:AR->Bool}{C:AR->Prop}(h:xM1 m x k j=AC)(H:∀o ap p cp,(ap.endLine==cp.line)=AC->J3 o=AC->k o=AC->j p=AC->C (.Call (.Attribute o m ap) [p] [] cp)):C x:=
 xM_ h λo ap a cp e h=>l1_ (C:=λa=>C (.Call (.Attribute o m ap) a [] cp)) h λp h=>H o ap p cp e (an h).1 (an (an h).2).1 (an (an h).2).2
abbrev xCo(x:AR)(k:Dm->AR->AR->Bool):Bool:=xCm x λa o b _=>l1 o λo=>l1 b λb=>k o a b
def S5{x:AR}{k:Dm->AR->AR->Bool}{C:AR->Prop}(h:xCo x k=AC)(H:∀o a b p,k o a b=AC->C (.Compare a [o] [b] p)):C x:=
 c01 h λa o b p h=>l1_ (C:=λo=>C (.Compare a o b p)) h λo h=>l1_ (C:=λb=>C (.Compare a [o] b p)) h λb=>H o a b p
abbrev mTg(ow:Bool)(t:Tg)(sc:BR)(N:List Str)(x:AR):Bool:=match t with
 |.n i=>xN x λy _=>(N[i]?==AA y)&&F8 sc y&&((ow&&!(N.contains (v5 y)))||lcl sc y)
 |.tup is=>xT x λes _ _=>(is.length==es.length)&&((is.zip es).all λp=>xN p.2 λy _=>(N[p.1]?==AA y)&&F8 sc y&&((ow&&!(N.contains (v5 y)))||lcl sc y))
abbrev mKs:List Str->List (Option AR)->Bool
 |[],l=>l.isEmpty
 |k::ks,l=>Dt (motive:=λ_=>Bool) l AF λx r=>CZ (motive:=λ_=>Bool) x AF λx=>xKc x (.str k)&&mKs ks r
abbrev oE(lo:E)(m:AR->Bool)(l:Option AR):Bool:=CZ (motive:=λ_=>Bool) l lo.isNon λl=>!lo.isNon&&m l
abbrev cE(c:E)(m:AR->Bool)(l:List AR):Bool:=if l.isEmpty then c.isNon else l1 l λx=>!c.isNon&&(z7 x&&m x)
abbrev am4(ks:List Str)(vs:Es):Bool:=(ks.length==vs.len)&&(decide ks.Nodup&&(AB (ks.length<=15)&&!ks.isEmpty))
mutual
noncomputable def mE:E->BR->List Str->AR->Bool
 |.non,_,_,x=>xKc x .none
 |.bl b,_,_,x=>xKc x (.bool b)
 |.int i,_,_,x=>xKc x (.int i)
 |.str y,_,_,x=>xKc x (.str y)
 |.v i,sc,N,x=>xN x λy _=>(N[i]?==AA y)&&(X2 sc y&&okN y)
 |.tup es,sc,N,x=>xT x λxs _ _=>mEs es sc N xs&&AB (es.len<=1000)
 |.lst es,sc,N,x=>xL x λxs _=>mEs es sc N xs&&AB (es.len<=1000)
 |.bin o a b,sc,N,x=>xBi x λp q r _=>(q==o)&&(mE a sc N p&&mE b sc N r)
 |.neg a,sc,N,x=>xU x λo p _=>(o==.USub)&&mE a sc N p
 |.cmp o a b,sc,N,x=>xCo x λq p r=>(q==o)&&(mE a sc N p&&mE b sc N r)
 |.isN a,sc,N,x=>xCo x λq p r=>(q==.Is)&&(xKc r .none&&mE a sc N p)
 |.and a b,sc,N,x=>xBo x λo l ps=>(o==.And)&&lb l (λp q=>mE a sc N p&&mE b sc N q&&z7 p&&z7 q) (λp r=>mE a sc N p&&mE b sc N (.BoolOp .And r ps)&&z7 p)
 |.or a b,sc,N,x=>xBo x λo l ps=>(o==.Or)&&lb l (λp q=>mE a sc N p&&mE b sc N q&&z7 p&&z7 q) (λp r=>mE a sc N p&&mE b sc N (.BoolOp .Or r ps)&&z7 p)
 |.not a,sc,N,x=>xU x λo p _=>(o==.Not)&&(mE a sc N p&&z7 p)
 |.ite c a b,sc,N,x=>xIf x λp q r _=>(mE c sc N p&&z7 p)&&(mE a sc N q&&mE b sc N r)
 |.ix a b,sc,N,x=>xS x λp q _=>mE a sc N p&&mE b sc N q
 |.sl a lo hi,sc,N,x=>xS x λp s _=>mE a sc N p&&xSl s λl h st _=>st.isNone&&(oE lo (mE lo sc N) l&&oE hi (mE hi sc N) h)
 |.dsel ks vs k,sc,N,x=>xS x λd q _=>mE k sc N q&&xD d λkeys xs _=>mKs ks keys&&(mEs vs sc N xs&&am4 ks vs)
 |.gsel g k,sc,N,x=>xS x λn q _=>D8 n g&&(glb sc g&&(okN g&&mE k sc N q))
 |.len a,sc,N,x=>xC1 "len" sc x (mE a sc N)
 |.abs a,sc,N,x=>xC1 "abs" sc x (mE a sc N)
 |.toInt a,sc,N,x=>xC1 "int" sc x (mE a sc N)
 |.sum a,sc,N,x=>xC1 "sum" sc x (mE a sc N)
 |.tuple a,sc,N,x=>xC1 "tuple" sc x (mE a sc N)
 |.max a b,sc,N,x=>xC2 "max" sc x λp q=>mE a sc N p&&mE b sc N q
 |.call f es,sc,N,x=>xG f sc x λl=>okN f&&(!isM f&&(!l.isEmpty&&mEs es sc N l))
 |.gf f,sc,_,x=>D8 x f&&(glb sc f&&(okN f&&!isM f))
 |.callv i es,sc,N,x=>xCl x λf l _=>xN f (λy _=>(N[i]?==AA y)&&(X2 sc y&&okN y))&&(!l.isEmpty&&mEs es sc N l)
 |.dict ks vs,sc,N,x=>xD x λkeys xs _=>mKs ks keys&&(mEs vs sc N xs&&am4 ks vs)
 |.cmpl ne a b,sc,N,x=>xCo x λq p r=>(q==(if ne then CmpOp.NotEq else .Eq))&&(mE a sc N p&&mE b sc N r)
 |.fld a f,sc,N,x=>xA x λo g _=>(g==f)&&(J3 o&&mE a sc N o)
 |.meth a m es,sc,N,x=>xM m x λo l=>(J3 o&&mE a sc N o)&&(mEs es sc N l&&AB (l.length<29))
 |.make c es,sc,N,x=>xG c sc x λl=>okN c&&mEs es sc N l
 |.app a b,sc,N,x=>xM1 "append" x (mE a sc N) (mE b sc N)
 |.ext a b,sc,N,x=>xM1 "extend" x (mE a sc N) (mE b sc N)
 |.popAt a b,sc,N,x=>xM1 "pop" x (mE a sc N) (mE b sc N)
 |.pop a,sc,N,x=>xM0 "pop" x (mE a sc N)
 |.cat a b,sc,N,x=>xBi x λp q r _=>(q==.Add)&&(mE a sc N p&&mE b sc N r)
 |.ssl a lo hi,sc,N,x=>xS x λp s _=>mE a sc N p&&xSl s λl h st _=>st.isNone&&(CZ (motive:=λ_=>Bool) l AF (mE lo sc N)&&CZ (motive:=λ_=>Bool) h AF (mE hi sc N))
 |.slen a,sc,N,x=>xC1 "len" sc x (mE a sc N)
 |.tstr a,sc,N,x=>xC1 "str" sc x (mE a sc N)
 |.sint a,sc,N,x=>xC1 "int" sc x (mE a sc N)
 |.sin ne a b,sc,N,x=>xCo x λq p r=>(q==(if ne then EB else .In))&&(mE a sc N p&&mE b sc N r)
 |.join a b,sc,N,x=>xM1 "join" x (mE a sc N) (mE b sc N)
 |.sgt a k d,sc,N,x=>xM "get" x λo l=>J3 o&&(mE a sc N o&&l2 l λp q=>mE k sc N p&&mE d sc N q)
 |.isX c a,sc,N,x=>xC2 "isinstance" sc x λp g=>D8 g c&&(glb sc c&&(okN c&&mE a sc N p))
 |.isC c a,sc,N,x=>xC2 "isinstance" sc x λp g=>D8 g c&&(glb sc c&&(okN c&&mE a sc N p))
 |.gnin a g,sc,N,x=>xCo x λq p r=>(q==.NotIn)&&(D8 r g&&(glb sc g&&(okN g&&mE a sc N p)))
 |.gc g,sc,_,x=>D8 x g&&(glb sc g&&okN g)
 |.index a b,sc,N,x=>xM1 "index" x (mE a sc N) (mE b sc N)
 |.comp Nc fr k t it c e,sc,N,x=>xLC x λel g scope _=>l1 g λg=>(g.is_async==0)&&(V7 sc scope N Nc fr k&&(mIt it sc N g.target g.iter&&(mTg AF t (am9 scope sc) Nc g.target&&(mE e (am9 scope sc) Nc el&&cE c (mE c (am9 scope sc) Nc) g.ifs))))
noncomputable def mEs:Es->BR->List Str->List AR->Bool
 |.nil,_,_,xs=>xs.isEmpty
 |.cons e r,sc,N,xs=>Dt (motive:=λ_=>Bool) xs AF λx xs=>mE e sc N x&&mEs r sc N xs
noncomputable def mIt:It->BR->List Str->AR->AR->Bool
 |.seq e,sc,N,_,x=>mE e sc N x
 |.rng a,sc,N,_,x=>xC1 "range" sc x (mE a sc N)
 |.rng2 a b,sc,N,_,x=>xC2 "range" sc x λp q=>mE a sc N p&&mE b sc N q
 |.enum e,sc,N,tg,x=>xT tg (λ_ _ _=>AC)&&xC1 "enumerate" sc x (mE e sc N)
 |.rev e,sc,N,_,x=>xC1 "reversed" sc x (mE e sc N)
end
structure XOk(Z:Sg)(X:Cx):Prop where
 calm:X.calm=AC
 psx:v6 (CXb X.K Z.X) X E0
 units:X.A.units+200<CO
 nd:X.N.Nodup
 blt:∀b∈U0,X.mg b=AE
 fns:∀f,isM f=AF->Z.F f=AC->FOk X Z.X f (Z.Phi f)
 tf:∀f,isM f=AF->Z.F f=AC->FnT X (CXb X.K AC) f (Z.T f)
 tr:Z.C "!ix"≠[]->TryOk X
 ixc:∀c∈Z.C "!ix",∃Ca,X.mg c=AA (.ref Ca)/\IxOk X.K c Ca
 nom:∀f fa,Z.F f=AC->Aw X.K AO f=AA (AA (.ref fa))->isM f=AF
 cls:∀f c Ca,Aw X.K AO c=AA (AA (.ref Ca))->f∈Z.C c->Cls X.K Ca/\D6 X.K Ca f
 mth:∀m c Ca,Aw X.K AO c=AA (AA (.ref Ca))->Z.F (d0 c m)=AC->∃k f fd ps,Cls X.K Ca/\Meth X.K Ca m f/\FnOk X.prog X.w X.K X.mg X.base (CXb X.K Z.X) k f fd ps (u9 X.K (Z.Phi (d0 c m)))/\Room k X.A/\l4 X.K fd ps []
 mthd:∀m c Ca i,Aw X.K AO c=AA (AA (.ref Ca))->Z.F (d0 c m)=AC->S6 Z.C (d0 c m)=AA i->∃k f fd ps tk,Cls X.K Ca/\Meth X.K Ca m f/\FnOk X.prog X.w X.K X.mg X.base (CXb X.K Z.X) k f fd ps (u9 X.K (Z.Phi (d0 c m)))/\Room k X.A/\l4 X.K fd ps [.int i tk]
 mks:∀c,Z.MF (d0 c "__init__")=AC->∃Ca k f fd ps,Aw X.K AO c=AA (AA (.ref Ca))/\Mk X.K Ca f/\FnOk X.prog X.w X.K X.mg X.base (CXb X.K Z.X) k f fd ps (u9 X.K (Z.Mk (d0 c "__init__")))/\Room (k+1) X.A/\X.mg c=AA (.ref Ca)/\l4 X.K fd ps []
 tabs:∀g,Z.G g≠[]->GTab X.prog X.w X.K X.mg g (Z.G g)
 cst:∀g d,Z.Kc g=AA d->∃u,X.mg g=AA u/\A8 X.K d u=AC
 isc:∀c∈Z.C "!is",∃Ca,X.mg c=AA (.ref Ca)/\IscOk X.K c Ca
 kt:Tbs.kt=(Z.C "!kt").isEmpty
 lam:X.N.contains p0=AC->LamOk X/\∀x,X.N.contains (v5 x)=AC->X.fn x=AF/\X.ow x=AC
 mtE:∀(e:E)(sc:BR)(N:List Str)(x:AR),mE e sc N x=AC->N.contains p0=AF->Tbs.mt (.cons (.ret e) .nil) sc N (.expr x)
 clo:Z.X=AF->∀np N b cs fa fd ps,CloF fd np N ps b->∃k,FnOk X.prog X.w X.K X.mg X.base CX0 k fa fd ps (V9 X.K fa fd np N cs (Z.PhiC np N b cs))/\Room k X.A
end Ek
namespace Ek
open PySem PySem.Spec PyProof.Rows L2
variable [Tbs]
variable{Z:Sg}{X:Cx}{f:Str}{scope:BR}{Nc:List Str}{fr:List Nat}
structure Snd(Z:Sg)(X:Cx)(e:E)(x:AR):Prop where
 v:PE X x (up X.K (wpE Z e))
 t:z7 x=AC->PT X x (upB X.K (wpT Z e))
 w:∀op vs p,x=.BoolOp op vs p->PW X x (upB X.K (wpT Z e))
 st:∀y p,x≠.Starred y p
 sl:∀l u s p,x≠.Slice l u s p
 se:∀l k p,x≠.Set l k p
def an2{x:AR}(h:a76 x=AC):(∀y p,x≠.Starred y p)/\(∀l u s p,x≠.Slice l u s p)/\(∀l k p,x≠.Set l k p):=
 ⟨λ_ _ z=>(by rw[z]at h;cases h),λ_ _ _ _ z=>(by rw[z]at h;cases h),λ_ _ _ z=>(by rw[z]at h;cases h)⟩
def Snd.plain{e:E}{x:AR}(he:PE X x (up X.K (wpE Z e)))(hi:∀whole,HS x X.env whole=(do let v <-whole;HD x.pos;holding [v] (truthy v)))(hu:a76 x=AC)(hb:∀op vs p,x≠.BoolOp op vs p):Snd Z X e x:=
 ⟨he,λ_=>cv8 he hi,λop vs p z=>absurd z (hb op vs p),(an2 hu).1,(an2 hu).2.1,(an2 hu).2.2⟩
abbrev ck0(x:AR):Bool:=[2,4,6,8,16,19,20,21,23,24,25].contains x.ctorIdx
def Snd.pl{e:E}{x:AR}(he:PE X x (up X.K (wpE Z e)))(h:ck0 x=AC):Snd Z X e x:=by
 cases x<;>first|exact(AK h).elim|exact Snd.plain he (λ_=>rfl) rfl (by intros;exact nofun)
def j5(h:glb X.env.scope f=AC):Gl X f:=by
 have:X.env.scope.names.lookup f=AA .globalImplicit:=by simpa[glb]using h
 exact this
def ak2{sc:BR}(h:X2 sc f=AC):Vis sc f:=by
 unfold X2 at h
 split at h
 ·exact .inl (by assumption)
 ·exact .inr (.inl (by assumption))
 ·exact .inr (.inr (by assumption))
 ·cases h
def P5{sc:BR}(h:F8 sc f=AC):Loc sc f:=by
 unfold F8 at h
 split at h
 ·exact .inl (by assumption)
 ·exact .inr (by assumption)
 ·cases h
def u6{x:Str}(h:okN x=AC):(x==("__debug__":Str))=AF/\(x==("__classdict__":Str))=AF:=by
 simpa[okN]using h
def F6{o:AR}(h:J3 o=AC):∀i p p',o≠.Call (.Name i p) [] [] p':=λ_ _ _ z=>by rw[z]at h;cases h
def XOk.blt'(h:XOk Z X)(b:Str)(hb:U0.contains b=AC:=by decide):X.mg b=AE:=h.blt b (by simpa using hb)
def ak8{ow:Bool}{t:Tg}{x:AR}(hc:X.calm=AC)(hN:X.N.Nodup)(how:ow=AC->∀y,Loc X.env.scope y->X.N.contains (v5 y)=AF->X.fn y=AC\/X.env.scope.names.lookup y=AA .local)(h:mTg ow t X.env.scope X.N x=AC):PG X x (upG X.K t):=by
 have one:∀(i:Nat)(y:Str)(p:Pos),((X.N[i]?==AA y)&&F8 X.env.scope y&&((ow&&!(X.N.contains (v5 y)))||lcl X.env.scope y))=AC->X.N[i]?=AA y/\Loc X.env.scope y/\(X.fn y=AC\/X.env.scope.names.lookup y=AA .local):=λi y p h=>by
  simp only[Az,beq_iff_eq,Bool.or_eq_true,EI]at h;refine⟨h.1.1,P5 h.1.2,?_⟩
  rcases h.2 with z|z
  ·exact how z.1 y (P5 h.1.2) z.2
  ·exact .inr (by simpa[lcl]using z)
 cases t with
 |n i=>
  refine xN_ (C:=λx=>PG X x (upG X.K (.n i))) h λy p h=>?_;obtain⟨a,b,c⟩:=one _ _ p h;exact cf1 hN a b c
 |tup is=>
  refine xT_ (C:=λx=>PG X x (upG X.K (.tup is))) h λes k p h=>?_;obtain⟨hl,ha⟩:=an h;have all:∀(is:List Nat)(es:List AR),is.length=es.length->((is.zip es).all λp=>xN p.2 λy _=>(X.N[p.1]?==AA y)&&F8 X.env.scope y&&((ow&&!(X.N.contains (v5 y)))||lcl X.env.scope y))=AC->PGs X es (X0 is)/\(CP es X.env).length=is.length/\(CP es X.env).findIdx? (·.1)=AE:=by
   intro is
   induction is with
   |nil=>
    intro es hl _;cases es with
    |nil=>exact⟨b96,rfl,rfl⟩
    |cons a b=>cases hl
   |cons i is ih=>
    intro es hl h;cases es with
    |nil=>cases hl
    |cons e es=>
     obtain⟨h1,h2⟩:=an h;obtain⟨g1,g2,g3⟩:=ih es (Gf hl) h2;refine xN_ (C:=λe=>PGs X (e::es) (X0 (i::is))/\(CP (e::es) X.env).length=(i::is).length/\(CP (e::es) X.env).findIdx? (·.1)=AE) h1 λy py h1=>?_;obtain⟨a,b,c⟩:=one i y py h1;refine⟨b25 (a47 hN a b c) g1 rfl,congrArg (·+1) g2,?_⟩;show List.findIdx? _ ((AF,assign (.Name y py) X.env)::CP es X.env)=AE;rw[List.findIdx?_cons];simp only[Ar,if_false];rw[g3];rfl
  obtain⟨g1,g2,g3⟩:=all is es (beq_iff_eq.1 hl) ha;exact cq1 hc g1 g2 g3
def at8{k:Nat}(h:V7 X.env.scope scope X.N Nc fr k=AC):CompScope X scope Nc fr k:=by
 unfold V7 at h;simp only[Az,beq_iff_eq,decide_eq_true_eq,Ec]at h;obtain⟨⟨⟨⟨⟨⟨⟨⟨h1,h2⟩,h3⟩,h4⟩,h5⟩,h6⟩,_⟩,h7⟩,h8⟩:=h;refine⟨h1,λy hy=>?_,λy hy hl=>?_,λy hy hf=>?_,λy hy hf hm=>?_,h6,h7,λi x hx hi=>?_⟩
 ·simpa using h2 y hy
 ·have:=h3 y hy;rw[hl]at this;simpa using this
 ·have:=h4 y hy;rw[hf]at this;simpa using this
 ·have:=h5 y hy;rw[hf]at this;have:(scope.names.any λz=>z.1==y.1&&z.2==.local)=AF:=by simpa using this
  rw[Fi]at this;exact absurd ∎ (this _ hm)
 ·have:=h8 i (by simpa using hi);rw[hx]at this;cases q:fr[i]? with
  |none=>rw[q]at this;cases this
  |some j=>
   rw[q]at this;simp only[Az,beq_iff_eq,IZ]at this;obtain⟨a,⟨n,kd⟩,hm,e1,e2⟩:=this;simp only at e1 e2;subst e1 e2;exact⟨j,rfl,a,hm⟩
def Z2{k:Nat}(h:V7 X.env.scope scope X.N Nc fr k=AC):Nc.contains p0=AF:=by
 unfold V7 at h;simp only[Az,EI]at h;exact h.1.1.2
theorem XOk.comp{k:Nat}(h:XOk Z X)(hz:Z.X=AF)(nl:Nc.contains p0=AF)(S:CompScope X scope Nc fr k)(C:AM)(fp:List AM)(pins:List (AM×Obj))(s:AL)(H:Hp):XOk Z (X.comp scope Nc C fp pins s H) where
 calm:=h.calm
 psx:=λ_ _ _ _ _ _ _ c=>absurd (hz▸c.1) AK
 tf:=λf a b=>⟨(h.tf f a b).ex⟩
 tr:=λz=>⟨(h.tr z).ps,(h.tr z).ex,(h.tr z).rc⟩
 ixc:=h.ixc
 units:=h.units
 nd:=S.nd
 blt:=h.blt
 fns:=λf hm hf=>let⟨k,a,fd,ps,x⟩:=(h.fns f hm hf).ex;⟨k,a,fd,ps,x⟩
 nom:=λf fa a b=>h.nom f fa a b
 cls:=λf c Ca a b=>h.cls f c Ca a b
 mth:=λm c Ca a b=>h.mth m c Ca a b
 mthd:=λm c Ca i a b d=>h.mthd m c Ca i a b d
 mks:=λc a=>h.mks c a
 tabs:=λg hg=>⟨(h.tabs g hg).ex⟩
 lam:=λz=>by
  have z':Nc.contains p0=AC:=z;rw[nl]at z';cases z'
 cst:=h.cst
 isc:=h.isc
 kt:=h.kt
 mtE:=h.mtE
 clo:=λz np N b cs fa fd ps cf=>h.clo z np N b cs fa fd ps cf
end Ek
namespace Ek
open PySem PySem.Spec PyProof.Rows L2
variable [Tbs]
variable{X:Cx}{Z:Sg}{e:E}{l:List AR}
structure SndA(Z:Sg)(X:Cx)(es:Es)(xs:List AR):Prop where
 a:PA X xs (upA X.K es.len (l6 Z es))
 pl:∀pos:Pos,(CT pos (As xs X.env)).any (·.1)=AF
def a71{o:Kw}{q:AR}{pos:Pos}{t:DT}(h:PT X q (upB X.K (tst t))):PW X (.BoolOp o [q] pos) (upB X.K (tst t)):=by
 cases o with
 |And=>exact cc0 h
 |Or=>exact cj0 h
def b28:∀(e:E)(sc:BR)(N:List Str)(l:List AR)(k:Nat)(p:Pos),mE e sc N (.Set l k p)=AF:=by
 intro e sc N l k p;cases e<;>rfl
def am0{env:Env}{it:It}{sc:BR}{N:List Str}{tg x:AR}(h:mIt it sc N tg x=AC):∀v,De x env v=pure v:=by
 have hx:∀l k p,x≠.Set l k p:=λl k p z=>by
  subst z;cases it with
  |seq e=>exact(AK ((b28 e sc N l k p).symm.trans h)).elim
  |enum e=>exact(AK (an h).2).elim
  |_=>exact(AK h).elim
 intro v;cases x<;>first|rfl|exact absurd rfl (hx _ _ _)
def G5{K:AS}{t t':DT}{σ:L2.St}{H:Hp}{Q:VK}(h:∀env st Q,t env st Q->t' env st Q)(q:up K t σ H Q):up K t' σ H Q:=by
 obtain⟨env,st,Qd,hE,hS,ht,hq⟩:=q;exact⟨env,st,Qd,hE,hS,h _ _ _ ht,hq⟩
def S9{x:AR}{P:Prop}(h:¬P)(w:∀env st Q,wpE Z e env st Q->P):PE X x (up X.K (wpE Z e)):=λ_ _ _ _ _ _ q=>by
 obtain⟨env,st,_,_,_,ht,_⟩:=q;exact absurd (w env st _ ht) h
def bn5{lo:E}{l:Option AR}(h:oE lo (mE lo X.env.scope X.N) l=AC)(H:∀x,mE lo X.env.scope X.N x=AC->Snd Z X lo x):PO X l (upO X.K λenv st k=>(if lo.isNon=AC then λk=>k AE st else λ(k:Option Int->Sto->Prop)=>wpE Z lo env st λd st'=>∃i,d=.int i/\k (AA i) st') k):=by
 cases l with
 |none=>rw[show lo.isNon=AC from h];exact cd5
 |some l=>
  obtain⟨h1,h2⟩:=an h;rw[show lo.isNon=AF from nt h1];exact aj3 (H l h2).v
def bn4{c:E}(h:cE c (mE c X.env.scope X.N) l=AC)(H:∀x,mE c X.env.scope X.N x=AC->Snd Z X c x):PCs X l (upB X.K (if c.isNon=AC then λ_ st Q=>Q AC st else λenv st Q=>wpE Z c env st λd st'=>∃b,d=.bl b/\Q b st')):=by
 cases l with
 |nil=>
  rw[show c.isNon=AC from h];exact λpins' s' σ' H' Q' I'⟨env,st,Qd,hE,hS,ht,hq⟩=>ca7 pins' s' σ' H' Q' I' (hq AC H' st Ev.refl hS ht)
 |cons a l=>
  refine l1_ (C:=λl=>PCs X l _) (show l1 (a::l) (λx=>!c.isNon&&(z7 x&&mE c X.env.scope X.N x))=AC from h) λx h=>?_;obtain⟨h1,h2⟩:=an h;rw[show c.isNon=AF from nt h1];exact cb2 ((H x (an h2).2).t (an h2).1)
def bg0{ks:List Str}{vs:Es}(h:am4 ks vs=AC):ks.length=vs.len/\ks.Nodup/\ks.length<=15/\∀{l:List (Option AR)},l.length=ks.length->l≠[]:=
 ⟨beq_iff_eq.1 (an h).1,of_decide_eq_true (an (an h).2).1,of_decide_eq_true (an (an (an h).2).2).1,λe z=>by
  subst z;rw[Be e.symm]at h;exact AK (an (an (an h).2).2).2⟩
def mcF{cp:Pos}(hp:(CT cp (As l X.env)).any (·.1)=AF)(h:l.length<29):FZ (l.length+0) (CT cp (As l X.env)) (FY cp (Dv [] X.env))=AC:=by
 unfold FZ;rw[show(CT cp (As l X.env)).all (λx=>!x.1)=AC from by
  rw[Ec];intro w hw;rw[Fi]at hp;simpa using hp w hw]
 exact decide_eq_true (IW h)
def Snd.cm{a:AR}{o:List Dm}{b:List AR}{p:Pos}(he:PE X (.Compare a o b p) (up X.K (wpE Z e)))(ht:PT X (.Compare a o b p) (upB X.K (wpT Z e))):Snd Z X e (.Compare a o b p):=⟨he,λ_=>ht,nofun,nofun,nofun,nofun⟩
def Snd.bo{o:Kw}{b:List AR}{p:Pos}(he:PE X (.BoolOp o b p) (up X.K (wpE Z e)))(hw:PW X (.BoolOp o b p) (upB X.K (wpT Z e))):Snd Z X e (.BoolOp o b p):=⟨he,λ_=>hw.pt,λ_ _ _ _=>hw,nofun,nofun,nofun⟩
def lb_{k:AR->AR->Bool}{m:AR->List AR->Bool}{C:List AR->Prop}(h:lb l k m=AC)(H:∀p q,k p q=AC->C [p,q])(J:∀p q r s,m p (q::r::s)=AC->C (p::q::r::s)):C l:=
 match l,h with
 |[p,q],h=>H p q h
 |p::q::r::s,h=>J p q r s h
def XOk.fnx(hX:XOk Z X)(f:Str)(fa:AM)(hF:Z.F f=AC)(hns:Aw X.K AO f=AA (AA (.ref fa))):∃k fd ps,FnOk X.prog X.w X.K X.mg X.base (CXb X.K Z.X) k fa fd ps (u9 X.K (Z.Phi f))/\Room k X.A/\CU X.K (.ref fa)=AC/\l4 X.K fd ps []:=by
 obtain⟨k,a,fd,ps,F,hr,hm,hk,hb,hn⟩:=(hX.fns f (hX.nom f fa hF hns) hF).ex;rw[hn]at hns;cases hns;exact⟨k,fd,ps,F,hr,hk,hb⟩
mutual
theorem b9(Z:Sg):∀(e:E)(X:Cx)(x:AR),XOk Z X->mE e X.env.scope X.N x=AC->Snd Z X e x
 |.non,X,x,hX,h=>O4 h λn p=>Snd.pl (by exact ad7 cq2 λ_=>.non) rfl
 |.bl b,X,x,hX,h=>O4 h λn p=>Snd.pl (by exact ad7 ct4 λ_=>.bl _) rfl
 |.int i,X,x,hX,h=>O4 h λn p=>Snd.pl (by exact ad7 bb4 λ_=>.int _) rfl
 |.str y,X,x,hX,h=>O4 h λn p=>Snd.pl (by exact ad7 ba4 λ_=>.str _) rfl
 |.v i,X,x,hX,h=>xN_ h λy p h=>Snd.pl (by exact cj9 (beq_iff_eq.1 (an h).1) (ak2 (an (an h).2).1) (u6 (an (an h).2).2).1 (u6 (an (an h).2).2).2) rfl
 |.tup es,X,x,hX,h=>xT_ h λl n p h=>Snd.pl (by exact cm0 (F5 Z es X _ hX (an h).1).a (of_decide_eq_true (an h).2)) rfl
 |.lst es,X,x,hX,h=>xL_ h λl p h=>Snd.pl (by exact co0 (F5 Z es X _ hX (an h).1).a (of_decide_eq_true (an h).2)) rfl
 |.bin o a b,X,x,hX,h=>bm1 h λp q r ps h=>by
  cases beq_iff_eq.1 (an h).1;exact Snd.pl (by exact co2 (b9 Z a X _ hX (an (an h).2).1).v (b9 Z b X _ hX (an (an h).2).2).v) rfl
 |.neg a,X,x,hX,h=>xU_ h λo p ps h=>by
  cases beq_iff_eq.1 (an h).1;exact Snd.plain (by exact ck1 (b9 Z a X _ hX (an h).2).v) (λ_=>rfl) rfl (by intros;exact nofun)
 |.cmp o a b,X,x,hX,h=>S5 h λq p r ps h=>by
  cases beq_iff_eq.1 (an h).1;have ia:=b9 Z a X _ hX (an (an h).2).1;have ib:=b9 Z b X _ hX (an (an h).2).2;exact Snd.cm (by exact cl9 hX.units ia.v ib.v ib.se) (by unfold wpT;exact ck4 hX.units ia.v ib.v ib.se)
 |.isN a,X,x,hX,h=>S5 h λq p r ps h=>by
  cases beq_iff_eq.1 (an h).1;refine O4 (C:=λr=>Snd Z X (.isN a) (.Compare p [.Is] [r] ps)) (an (an h).2).1 λn pp=>?_;have ia:=b9 Z a X _ hX (an (an h).2).2;exact Snd.cm (by exact co7 ia.v) (by unfold wpT;exact cj6 ia.v)
 |.and a b,X,x,hX,h=>bm3 h λo l ps h=>by
  cases beq_iff_eq.1 (an h).1;refine lb_ (C:=λl=>Snd Z X (.and a b) (.BoolOp .And l ps)) (an h).2 (λp q h=>?_) λp q r c8 h=>?_
  ·have ia:=b9 Z a X _ hX (an (an (an h).1).1).1;have ib:=b9 Z b X _ hX (an (an (an h).1).1).2;exact Snd.bo (by exact a61 ia.v (be1 ib.v)) (by unfold wpT;exact ba9 (ia.t (an (an h).1).2) (a71 (ib.t (an h).2)))
  ·have ia:=b9 Z a X _ hX (an (an h).1).1;have ib:=b9 Z b X _ hX (an (an h).1).2;exact Snd.bo (by exact a61 ia.v ib.v) (by unfold wpT;exact ba9 (ia.t (an h).2) (ib.w _ _ _ rfl))
 |.or a b,X,x,hX,h=>bm3 h λo l ps h=>by
  cases beq_iff_eq.1 (an h).1;refine lb_ (C:=λl=>Snd Z X (.or a b) (.BoolOp .Or l ps)) (an h).2 (λp q h=>?_) λp q r c8 h=>?_
  ·have ia:=b9 Z a X _ hX (an (an (an h).1).1).1;have ib:=b9 Z b X _ hX (an (an (an h).1).1).2;exact Snd.bo (by exact bk2 ia.v (be1 ib.v)) (by unfold wpT;exact be6 (ia.t (an (an h).1).2) (a71 (ib.t (an h).2)))
  ·have ia:=b9 Z a X _ hX (an (an h).1).1;have ib:=b9 Z b X _ hX (an (an h).1).2;exact Snd.bo (by exact bk2 ia.v ib.v) (by unfold wpT;exact be6 (ia.t (an h).2) (ib.w _ _ _ rfl))
 |.not a,X,x,hX,h=>xU_ h λo p ps h=>by
  cases beq_iff_eq.1 (an h).1;have ia:=b9 Z a X _ hX (an (an h).2).1;exact⟨by exact cq8 ia.v,λ_=>(by unfold wpT;exact cn9 (ia.t (an (an h).2).2)),nofun,nofun,nofun,nofun⟩
 |.ite c a b,X,x,hX,h=>c04 h λp q r ps h=>
  ⟨by exact cl6 ((b9 Z c X _ hX (an (an h).1).1).t (an (an h).1).2) (b9 Z a X _ hX (an (an h).2).1).v (b9 Z b X _ hX (an (an h).2).2).v,nofun,nofun,nofun,nofun,nofun⟩
 |.ix a b,X,x,hX,h=>xS_ h λp q ps h=>
  have ib:=b9 Z b X _ hX (an h).2
  Snd.pl (by exact cu7 hX.units (b9 Z a X _ hX (an h).1).v ib.v ib.sl) rfl
 |.sl a lo hi,X,x,hX,h=>xS_ h λp s ps h=>bo2 (C:=λs=>Snd Z X (.sl a lo hi) (.Subscript p s ps)) (an h).2 λl u st p2 h2=>by
  cases st with
  |some _=>exact(AK h2).elim
  |none=>exact Snd.pl (by exact cr6 (b9 Z a X _ hX (an h).1).v (bn5 (an (an h2).2).1 λx=>b9 Z lo X x hX) (bn5 (an (an h2).2).2 λx=>b9 Z hi X x hX)) rfl
 |.dsel ks vs k,X,x,hX,h=>xS_ h λd q ps h=>xD_ (C:=λd=>Snd Z X (.dsel ks vs k) (.Subscript d q ps)) (an h).2 λkeys xs dp h2=>by
  have ik:=b9 Z k X _ hX (an h).1;obtain⟨h4,h5,h6,hne⟩:=bg0 (an (an h2).2).2;obtain⟨d,e1,e2,e3⟩:=al5 Z vs X ks _ _ dp hX (an h2).1 (an (an h2).2).1 h4;exact Snd.pl (by exact ce3 hX.units d e1 e2 (hne e3) e3 ⋯ h5 ik.v ik.sl) rfl
 |.gsel g k,X,x,hX,h=>xS_ h λn q ps h=>F4 (C:=λn=>Snd Z X (.gsel g k) (.Subscript n q ps)) (an h).1 λnp=>
  have ik:=b9 Z k X _ hX (an (an (an h).2).2).2
  Snd.pl (by exact ca6 (hX.tabs g) (j5 (an (an h).2).1) ik.v ik.sl (u6 (an (an (an h).2).2).1).1) rfl
 |.len a,X,x,hX,h=>B0 h λq p ps h1 h2=>
  have ia:=b9 Z a X _ hX h2
  Snd.pl (by exact cq5 (j5 h1) (hX.blt' _) ia.v ia.st) rfl
 |.abs a,X,x,hX,h=>B0 h λq p ps h1 h2=>
  have ia:=b9 Z a X _ hX h2
  Snd.pl (by exact ci6 (j5 h1) (hX.blt' _) ia.v ia.st) rfl
 |.toInt a,X,x,hX,h=>B0 h λq p ps h1 h2=>
  have ia:=b9 Z a X _ hX h2
  Snd.pl (by exact b23 (j5 h1) (hX.blt' _) ia.v ia.st) rfl
 |.sum a,X,x,hX,h=>B0 h λq p ps h1 h2=>
  have ia:=b9 Z a X _ hX h2
  Snd.pl (by exact cj4 hX.calm (j5 h1) (hX.blt' _) ia.v ia.st) rfl
 |.tuple a,X,x,hX,h=>B0 h λq p ps h1 h2=>
  have ia:=b9 Z a X _ hX h2
  Snd.pl (by exact b55 (j5 h1) (hX.blt' _) ia.v ia.st) rfl
 |.max a b,X,x,hX,h=>ac6 h λq p r ps h1 h2=>
  have ia:=b9 Z a X _ hX (an h2).1;have ib:=b9 Z b X _ hX (an h2).2
  Snd.pl (by exact cp7 hX.calm (j5 h1) (hX.blt' _) ia.v ib.v ia.st ib.st) rfl
 |.call f es,X,x,hX,h=>xG_ h λq l ps h1 h=>by
  cases l with
  |nil=>exact(AK (an (an (an h).2).2).1).elim
  |cons y ys=>cases es with
   |nil=>exact(AK (an (an (an h).2).2).2).elim
   |cons e0 er=>
    have i0:=b9 Z e0 X _ hX (an (an (an (an h).2).2).2).1;have ir:=F5 Z er X _ hX (an (an (an (an h).2).2).2).2;refine Snd.pl ?_ rfl
    by_cases hF:Z.F f=AC
    ·obtain⟨k,a,fd,ps,F,hr,hm,hk,hb,_⟩:=(hX.fns f (nt (an (an h).2).1) hF).ex;exact PE.imp (cd2 hX.psx F hr (j5 h1) hm hk hb (U2 i0.v ir.a i0.st) (u6 (an h).1).1 i0.st (ir.pl _)) λ_ _ _=>G5 λ_ _ _ ht=>ht.2
    ·exact S9 hF λ_ _ _ ht=>ht.1
 |.gf f,X,x,hX,h=>F4 (C:=λx=>Snd Z X (.gf f) x) (an h).1 λp=>by
  refine Snd.pl ?_ rfl
  by_cases hF:Z.F f=AC
  ·obtain⟨k,a,fd,ps,F,hr,hm,hk,hb,hn⟩:=(hX.fns f (nt (an (an (an h).2).2).2) hF).ex;exact PE.imp (cw0 (j5 (an (an h).2).1) hm hn (u6 (an (an (an h).2).2).1).1) λ_ _ _=>G5 λ_ _ _ ht=>ht.2
  ·exact S9 hF λ_ _ _ ht=>ht.1
 |.gc g,X,x,hX,h=>F4 (C:=λx=>Snd Z X (.gc g) x) (an h).1 λp=>by
  refine Snd.pl ?_ rfl;cases hk:Z.Kc g with
  |none=>exact λ_ _ _ _ _ _⟨env,st,Qd,hE,hS,⟨i,hi,_⟩,hq⟩=>nomatch hk.symm.trans hi
  |some i=>
   obtain⟨t,hm,hv⟩:=hX.cst g i hk;obtain⟨v,rv,is⟩:=A8.is hv;exact PE.imp (aa1 (v:=v) (j5 (an (an h).2).1) hm rv (u6 (an (an h).2).2).1) λσ H Q q=>by
    obtain⟨env,st,Qd,hE,hS,⟨i',hi,ht⟩,hq⟩:=q;cases hk.symm.trans hi;exact hq.here (is H) hS ht
 |.callv i es,X,x,hX,h=>ao4 h λf l ps h=>by
  refine xN_ (C:=λf=>Snd Z X (.callv i es) (.Call f l [] ps)) (an h).1 λy p h1=>?_;cases l with
  |nil=>exact(AK (an (an h).2).1).elim
  |cons z zs=>cases es with
   |nil=>exact(AK (an (an h).2).2).elim
   |cons e0 er=>
    have i0:=b9 Z e0 X _ hX (an (an (an h).2).2).1;have ir:=F5 Z er X _ hX (an (an (an h).2).2).2;refine Snd.pl ?_ rfl;exact b46 hX.psx (Z:=Z) (beq_iff_eq.1 (an h1).1) (ak2 (an (an h1).2).1) (u6 (an (an h1).2).2).1 (u6 (an (an h1).2).2).2 hX.fnx hX.clo (U2 i0.v ir.a i0.st) i0.st (ir.pl _)
 |.dict ks vs,X,x,hX,h=>xD_ h λkeys xs dp h2=>by
  obtain⟨h4,h5,h6,hne⟩:=bg0 (an (an h2).2).2;obtain⟨d,e1,e2,e3⟩:=al5 Z vs X ks _ _ dp hX (an h2).1 (an (an h2).2).1 h4;exact Snd.pl (by exact cb1 d e1 e2 (hne e3) e3 ⋯ h5) rfl
 |.cmpl ne a b,X,x,hX,h=>S5 h λq p r ps h=>by
  have e:=beq_iff_eq.1 (an h).1;have ia:=b9 Z a X _ hX (an (an h).2).1;have ib:=b9 Z b X _ hX (an (an h).2).2;exact Snd.cm (by exact cf5 e hX.units ia.v ib.v ib.se) (by unfold wpT;exact cc7 e hX.units ia.v ib.v ib.se)
 |.fld a f,X,x,hX,h=>xA_ h λo g ap h=>by
  cases beq_iff_eq.1 (an h).1;exact Snd.pl (by exact ck3 (C:=Z.C) (λc Ca=>hX.cls _ c Ca) (b9 Z a X _ hX (an (an h).2).2).v (B5 (F6 (an (an h).2).1))) rfl
 |.meth a m es,X,x,hX,h=>xM_ h λo ap l cp hl h=>by
  have hbo:=F6 (an (an h).1).1;have ia:=b9 Z a X _ hX (an (an h).1).2;have iall:=F5 Z es X _ hX (an (an h).2).1;refine Snd.pl ?_ rfl;cases l with
  |nil=>
   cases es with
   |nil=>exact PE.imp (b08 hX.psx (F:=Z.F) (Ph:=Z.Phi) (λc Ca=>hX.mth m c Ca) hl hbo ia.v) λ_ _ _=>G5 λ_ _ _ ht=>(by exact ht)
   |cons _ _=>exact(AK (an (an h).2).1).elim
  |cons z zs=>
   cases es with
   |nil=>exact(AK (an (an h).2).1).elim
   |cons e0 er=>
    exact ce5 hX.psx (F:=Z.F) (Ph:=Z.Phi) (λc Ca=>hX.mth m c Ca) (mcF (iall.pl cp) (of_decide_eq_true (an (an h).2).2)) hl hbo ia.v iall.a (b9 Z e0 X _ hX (an (an (an h).2).1).1).st ((F5 Z er X _ hX (an (an (an h).2).1).2).pl _)
 |.make c es,X,x,hX,h=>xG_ h λq l ps h1 h=>by
  have iall:=F5 Z es X _ hX (an h).2;refine Snd.pl ?_ rfl
  by_cases hF:Z.MF (d0 c "__init__")=AC
  ·obtain⟨Ca,k,f,fd,ps,hn,M,Fo,hr,hm,hb⟩:=hX.mks c hF;cases l with
   |nil=>
    cases es with
    |nil=>exact PE.imp (b53 hX.psx hn M Fo hr (j5 h1) hm hb (u6 (an h).1).1) λ_ _ _=>G5 λ_ _ _ ht=>(by exact ht.2)
    |cons _ _=>exact(AK (an h).2).elim
   |cons z zs=>
    cases es with
    |nil=>exact(AK (an h).2).elim
    |cons e0 er=>
     exact PE.imp (b82 hX.psx hn M Fo hr (j5 h1) hm hb iall.a (u6 (an h).1).1 (b9 Z e0 X _ hX (an (an h).2).1).st ((F5 Z er X _ hX (an (an h).2).2).pl _)) λ_ _ _=>G5 λ_ _ _ ht=>ht.2
  ·exact S9 hF λ_ _ _ ht=>ht.1
 |.app a b,X,x,hX,h=>X3 h λo ap p cp hl h1 h2 h3=>
  have ib:=b9 Z b X _ hX h3
  Snd.pl (by exact ch5 (b9 Z a X _ hX h2).v ib.v (F6 h1) ib.st hl) rfl
 |.ext a b,X,x,hX,h=>X3 h λo ap p cp hl h1 h2 h3=>
  have ib:=b9 Z b X _ hX h3
  Snd.pl (by exact co8 (b9 Z a X _ hX h2).v ib.v (F6 h1) ib.st hl) rfl
 |.popAt a b,X,x,hX,h=>X3 h λo ap p cp hl h1 h2 h3=>
  have ib:=b9 Z b X _ hX h3
  Snd.pl (by exact b67 (b9 Z a X _ hX h2).v ib.v (F6 h1) ib.st hl) rfl
 |.pop a,X,x,hX,h=>cx3 h λo ap cp hl h1 h2=>Snd.pl (by exact cq7 (b9 Z a X _ hX h2).v (F6 h1) hl) rfl
 |.cat a b,X,x,hX,h=>bm1 h λp q r ps h=>by
  cases beq_iff_eq.1 (an h).1;exact Snd.pl (by exact cm6 (b9 Z a X _ hX (an (an h).2).1).v (b9 Z b X _ hX (an (an h).2).2).v) rfl
 |.ssl a lo hi,X,x,hX,h=>xS_ h λp s ps h=>by
  refine bo2 (C:=λs=>Snd Z X (.ssl a lo hi) (.Subscript p s ps)) (an h).2 λl u st p2 h2=>?_;obtain⟨h3,h4⟩:=an h2;cases st with
  |some _=>exact(AK h3).elim
  |none=>cases l with
   |none=>exact(AK (an h4).1).elim
   |some l=>cases u with
    |none=>exact(AK (an h4).2).elim
    |some u=>exact Snd.pl (by exact ci5 (b9 Z a X _ hX (an h).1).v (b9 Z lo X _ hX (an h4).1).v (b9 Z hi X _ hX (an h4).2).v) rfl
 |.slen a,X,x,hX,h=>B0 h λq p ps h1 h2=>
  have ia:=b9 Z a X _ hX h2
  Snd.pl (by exact b84 (j5 h1) (hX.blt' _) ia.v ia.st) rfl
 |.tstr a,X,x,hX,h=>B0 h λq p ps h1 h2=>
  have ia:=b9 Z a X _ hX h2
  Snd.pl (by exact b80 (j5 h1) (hX.blt' _) ia.v ia.st) rfl
 |.sint a,X,x,hX,h=>B0 h λq p ps h1 h2=>
  have ia:=b9 Z a X _ hX h2
  Snd.pl (by exact ca9 (j5 h1) (hX.blt' _) ia.v ia.st) rfl
 |.sin ne a b,X,x,hX,h=>S5 h λq p r ps h=>by
  have e:=beq_iff_eq.1 (an h).1;have ia:=b9 Z a X _ hX (an (an h).2).1;have ib:=b9 Z b X _ hX (an (an h).2).2;exact Snd.cm (by exact ck5 e ia.v ib.v ib.se) (by unfold wpT;exact cp2 e ia.v ib.v ib.se)
 |.join a b,X,x,hX,h=>X3 h λo ap p cp hl h1 h2 h3=>
  have ib:=b9 Z b X _ hX h3
  Snd.pl (by exact b83 (b9 Z a X _ hX h2).v ib.v (F6 h1) ib.st hl) rfl
 |.sgt a k d,X,x,hX,h=>xM_ h λo ap l cp hl h=>l2_ (C:=λl=>Snd Z X (.sgt a k d) (.Call (.Attribute o "get" ap) l [] cp)) (an (an h).2).2 λp q h2=>
  have ib:=b9 Z k X _ hX (an h2).1;have ic:=b9 Z d X _ hX (an h2).2
  Snd.pl (by exact cm7 hX.units (b9 Z a X _ hX (an (an h).2).1).v ib.v ic.v (F6 (an h).1) ib.st ic.st hl) rfl
 |.isX c a,X,x,hX,h=>ac6 h λq p r ps h1 h2=>F4 (C:=λr=>Snd Z X (.isX c a) (.Call (.Name "isinstance" q) [p,r] [] ps)) (an h2).1 λnp=>by
  have ia:=b9 Z a X _ hX (an (an (an h2).2).2).2;refine Snd.pl ?_ rfl
  by_cases hc:c∈Z.C "!ix"
  ·obtain⟨Ca,hm,K⟩:=hX.ixc c hc;exact PE.imp (ck8 K (j5 h1) (hX.blt' _) (j5 (an (an h2).2).1) hm (u6 (an (an (an h2).2).2).1).1 ia.v ia.st) λ_ _ _=>G5 λ_ _ _ ht=>ht.2
  ·exact S9 hc λ_ _ _ ht=>ht.1
 |.isC c a,X,x,hX,h=>ac6 h λq p r ps h1 h2=>F4 (C:=λr=>Snd Z X (.isC c a) (.Call (.Name "isinstance" q) [p,r] [] ps)) (an h2).1 λnp=>by
  have ia:=b9 Z a X _ hX (an (an (an h2).2).2).2;refine Snd.pl ?_ rfl
  by_cases hc:c∈Z.C "!is"
  ·obtain⟨Ca,hm,K⟩:=hX.isc c hc;exact PE.imp (cl5 K (j5 h1) (hX.blt' _) (j5 (an (an h2).2).1) hm (u6 (an (an (an h2).2).2).1).1 ia.v ia.st) λ_ _ _=>G5 λ_ _ _ ht=>ht.2
  ·exact S9 hc λ_ _ _ ht=>ht.1
 |.gnin a g,X,x,hX,h=>S5 h λq p r ps h=>by
  cases beq_iff_eq.1 (an h).1;refine F4 (C:=λr=>Snd Z X (.gnin a g) (.Compare p [.NotIn] [r] ps)) (an (an h).2).1 λnp=>?_;have ia:=b9 Z a X _ hX (an (an (an (an h).2).2).2).2;have pc:=b99 (p:=np) (λhz=>hX.tabs g hz) (j5 (an (an (an h).2).2).1) ia.v (u6 (an (an (an (an h).2).2).2).1).1;exact Snd.cm (by exact bc6 pc rfl) (by unfold wpT;exact bf1 (aj9 pc rfl) λ_ _ _ q=>q)
 |.index a b,X,x,hX,h=>X3 h λo ap p cp hl h1 h2 h3=>
  have ib:=b9 Z b X _ hX h3
  Snd.pl (by exact b70 hX.units (b9 Z a X _ hX h2).v ib.v (F6 h1) ib.st hl) rfl
 |.comp Nc fr k t it c e,X,x,hX,h=>cz9 h λel g scope pos h=>by
  refine l1_ (C:=λg=>Snd Z X (.comp Nc fr k t it c e) (.ListComp el g scope pos)) h λg h=>?_;obtain⟨tg,itx,ifs,n⟩:=g;obtain⟨h0,h⟩:=an h;cases(beq_iff_eq.1 h0:n=0);obtain⟨h1,h⟩:=an h;obtain⟨h2,h⟩:=an h;obtain⟨h3,h⟩:=an h;have Sc:=at8 h1;refine Snd.pl ?_ rfl
  by_cases hz:Z.X=AF
  case neg=>exact S9 hz λ_ _ _ ht=>ht.1
  exact(PE.imp (ce4 hX.calm Sc (al6 Z it X tg itx hX h2)
   (λC fp pins s H=>ak8 (X:=X.comp scope Nc C fp pins s H) (ow:=AF) hX.calm Sc.nd nofun h3)
   (λC fp pins s H=>bn4 (X:=X.comp scope Nc C fp pins s H) (an h).2 λx h=>b9 Z c (X.comp scope Nc C fp pins s H) x (hX.comp hz (Z2 h1) Sc C fp pins s H) h)
   (λC fp pins s H=>(b9 Z e (X.comp scope Nc C fp pins s H) el (hX.comp hz (Z2 h1) Sc C fp pins s H) (an h).1).v) (am0 h2)) λσ H Q q=>as6 (G5 (λ_ _ _ ht=>ht.2) q))
theorem F5(Z:Sg):∀(es:Es)(X:Cx)(xs:List AR),XOk Z X->mEs es X.env.scope X.N xs=AC->SndA Z X es xs
 |.nil,X,xs,hX,h=>by
  cases xs with
  |nil=>exact⟨by exact bb2,λ_=>rfl⟩
  |cons=>exact(AK h).elim
 |.cons e r,X,xs,hX,h=>by
  cases xs with
  |nil=>exact(AK h).elim
  |cons x xs=>
   have i0:=b9 Z e X _ hX (an h).1;have ir:=F5 Z r X _ hX (an h).2;refine⟨by exact U2 i0.v ir.a i0.st,λpos=>?_⟩;rw[g9 i0.st];exact ir.pl pos
theorem al5(Z:Sg):∀(vs:Es)(X:Cx)(ks:List Str)(keys:List (Option AR))(xs:List AR)(dp:Pos),XOk Z X->mKs ks keys=AC->mEs vs X.env.scope X.N xs=AC->ks.length=vs.len ->
  DPs X dp keys xs ks (l6 Z vs)/\keys.all (·.isSome)=AC/\keys.length=xs.length/\keys.length=ks.length
 |.nil,X,ks,keys,xs,dp,hX,h1,h2,h3=>by
  cases xs with
  |cons=>exact(AK h2).elim
  |nil=>cases ks with
   |cons=>cases h3
   |nil=>cases keys with
    |nil=>exact⟨by exact cm8,rfl,rfl,rfl⟩
    |cons=>exact(AK h1).elim
 |.cons e r,X,ks,keys,xs,dp,hX,h1,h2,h3=>by
  cases xs with
  |nil=>exact(AK h2).elim
  |cons x xs=>cases ks with
   |nil=>cases h3
   |cons k ks=>cases keys with
    |nil=>exact(AK h1).elim
    |cons kx keys=>cases kx with
     |none=>exact(AK h1).elim
     |some kx=>
      obtain⟨d,a1,a2,a3⟩:=al5 Z r X ks keys _ dp hX (an h1).2 (an h2).2 (Gf h3);refine O4 (C:=λkx=>DPs X dp (AA kx::keys) (x::xs) (k::ks) (l6 Z (.cons e r))/\_) (an h1).1 λn p=>?_;exact⟨by exact ca4 (b9 Z e X _ hX (an h2).1).v d,a1,congrArg (·+1) a2,congrArg (·+1) a3⟩
theorem al6(Z:Sg):∀(it:It)(X:Cx)(tg x:AR),XOk Z X->mIt it X.env.scope X.N tg x=AC->PI X tg x (upI X.K (w4 Z it))
 |.seq e,X,tg,x,hX,h=>by exact co4 (b9 Z e X x hX h).v
 |.rng a,X,tg,x,hX,h=>B0 (C:=λx=>PI X tg x (upI X.K (w4 Z (.rng a)))) h λq p ps h1 h2=>
  have ia:=b9 Z a X _ hX h2
  (by exact cn1 (j5 h1) (hX.blt' _) ia.v ia.st)
 |.rng2 a b,X,tg,x,hX,h=>ac6 (C:=λx=>PI X tg x (upI X.K (w4 Z (.rng2 a b)))) h λq p r ps h1 h2=>
  have ia:=b9 Z a X _ hX (an h2).1;have ib:=b9 Z b X _ hX (an h2).2
  (by exact cb9 (j5 h1) (hX.blt' _) ia.v ib.v ia.st ib.st)
 |.enum e,X,tg,x,hX,h=>xT_ (C:=λtg=>PI X tg x (upI X.K (w4 Z (.enum e)))) (an h).1 λl n tp _=>B0 (C:=λx=>PI X _ x (upI X.K (w4 Z (.enum e)))) (an h).2 λq p ps h1 h2=>
  have ia:=b9 Z e X _ hX h2
  (by exact cd6 (j5 h1) (hX.blt' _) ia.v ia.st)
 |.rev e,X,tg,x,hX,h=>B0 (C:=λx=>PI X tg x (upI X.K (w4 Z (.rev e)))) h λq p ps h1 h2=>
  have ia:=b9 Z e X _ hX h2
  (by exact co1 (j5 h1) (hX.blt' _) ia.v ia.st)
end
end Ek
namespace Ek
open PySem PySem.Spec PyProof.Rows L2
variable [Tbs]
variable{C:BG->Prop}{e:E}{sc scope:BR}{N:List Str}{el:AR}{gs:List Hn}{p:Pos}{env:Env}{i:Nat}
abbrev sA(x:BG)(k:List AR->AR->Pos->Bool):Bool:=if h:x.ctorIdx=5 then FB x h k else AF
def sA_{x:BG}{k:List AR->AR->Pos->Bool}(h:sA x k=AC)(H:∀l x p,k l x p=AC->C (.Assign l x p)):C x:=
 dE h λe=>FB (motive_2:=λx=>∀e,FB x e k=AC->C x) x e (λl x p _ h=>H l x p h) e
abbrev sX(x:BG)(k:AR->Pos->Bool):Bool:=if h:x.ctorIdx=24 then Fx x h k else AF
def sX_{x:BG}{k:AR->Pos->Bool}(h:sX x k=AC)(H:∀x p,k x p=AC->C (.Expr x p)):C x:=
 dE h λe=>Fx (motive_2:=λx=>∀e,Fx x e k=AC->C x) x e (λx p _ h=>H x p h) e
abbrev sI(x:BG)(k:AR->List BG->List BG->Pos->Bool):Bool:=if h:x.ctorIdx=12 then Gp x h k else AF
def sI_{x:BG}{k:AR->List BG->List BG->Pos->Bool}(h:sI x k=AC)(H:∀x a b p,k x a b p=AC->C (.If x a b p)):C x:=
 dE h λe=>Gp (motive_2:=λx=>∀e,Gp x e k=AC->C x) x e (λx a b p _ h=>H x a b p h) e
abbrev sR(x:BG)(k:Option AR->Pos->Bool):Bool:=if h:x.ctorIdx=3 then FC x h k else AF
def sR_{x:BG}{k:Option AR->Pos->Bool}(h:sR x k=AC)(H:∀x p,k x p=AC->C (.Return x p)):C x:=
 dE h λe=>FC (motive_2:=λx=>∀e,FC x e k=AC->C x) x e (λx p _ h=>H x p h) e
abbrev sF(x:BG)(k:AR->AR->List BG->List BG->Pos->Bool):Bool:=if h:x.ctorIdx=9 then GM x h k else AF
def sF_{x:BG}{k:AR->AR->List BG->List BG->Pos->Bool}(h:sF x k=AC)(H:∀g x a b p,k g x a b p=AC->C (.For g x a b p)):C x:=
 dE h λe=>GM (motive_2:=λx=>∀e,GM x e k=AC->C x) x e (λg x a b p _ h=>H g x a b p h) e
abbrev sW(x:BG)(k:AR->List BG->List BG->Pos->Bool):Bool:=if h:x.ctorIdx=11 then FS x h k else AF
def sW_{x:BG}{k:AR->List BG->List BG->Pos->Bool}(h:sW x k=AC)(H:∀x a b p,k x a b p=AC->C (.While x a b p)):C x:=
 dE h λe=>FS (motive_2:=λx=>∀e,FS x e k=AC->C x) x e (λx a b p _ h=>H x a b p h) e
abbrev sC(x:BG)(k:Pos->Bool):Bool:=if h:x.ctorIdx=27 then EX x h k else AF
def sC_{x:BG}{k:Pos->Bool}(h:sC x k=AC)(H:∀p,k p=AC->C (.Continue p)):C x:=
 dE h λe=>EX (motive_2:=λx=>∀e,EX x e k=AC->C x) x e (λp _ h=>H p h) e
abbrev sP(x:BG)(k:Pos->Bool):Bool:=if h:x.ctorIdx=25 then Fy x h k else AF
def sP_{x:BG}{k:Pos->Bool}(h:sP x k=AC)(H:∀p,k p=AC->C (.Pass p)):C x:=
 dE h λe=>Fy (motive_2:=λx=>∀e,Fy x e k=AC->C x) x e (λp _ h=>H p h) e
abbrev sRa(x:BG)(k:Option AR->Option AR->Pos->Bool):Bool:=if h:x.ctorIdx=16 then FT x h k else AF
def cz1{x:BG}{k:Option AR->Option AR->Pos->Bool}(h:sRa x k=AC)(H:∀a b p,k a b p=AC->C (.Raise a b p)):C x:=
 dE h λe=>FT (motive_2:=λx=>∀e,FT x e k=AC->C x) x e (λa b p _ h=>H a b p h) e
abbrev sTr(x:BG)(k:List BG->List GE->List BG->List BG->Pos->Bool):Bool:=if h:x.ctorIdx=17 then GN x h k else AF
def cx2{x:BG}{k:List BG->List GE->List BG->List BG->Pos->Bool}(h:sTr x k=AC)(H:∀a b c d p,k a b c d p=AC->C (.Try a b c d p)):C x:=
 dE h λe=>GN (motive_2:=λx=>∀e,GN x e k=AC->C x) x e (λa b c d p _ h=>H a b c d p h) e
abbrev sA1(s:BG)(k:AR->AR->Bool):Bool:=sA s λl x _=>l1 l λt=>k t x
def X6{s:BG}{k:AR->AR->Bool}{C:BG->Prop}(h:sA1 s k=AC)(H:∀t x p,k t x=AC->C (.Assign [t] x p)):C s:=
 sA_ h λl x p h=>l1_ (C:=λl=>C (.Assign l x p)) h λt h=>H t x p h
abbrev nmB(N:List Str)(sc:BR)(i:Nat)(x:Str):Bool:=(N[i]?==AA x)&&(X2 sc x&&okN x)
abbrev nsB(N:List Str)(sc:BR)(i:Nat)(x:Str):Bool:=(N[i]?==AA x)&&(F8 sc x&&!(N.contains (v5 x)))
abbrev mCl(N:List Str)(sc:BR)(i t:Nat)(f:Str)(l:List BG):Bool:=l1 l λs=>sA1 s λtg v=>(xN tg λy _=>nsB N sc i y)&&(okN f&&(!(isM f)&&xC1 f sc v λa=>xN a λy _=>nmB N sc t y))
abbrev mWh(N:List Str)(sc:BR)(w:Nat)(n:Int)(x:AR):Bool:=xCo x λo a b=>(o==.Eq)&&(xKc b (.int n)&&xN a λy _=>nmB N sc w y)
abbrev mHd(N:List Str)(sc:BR)(c e:Nat)(hd:GE):Bool:=match hd with
 |.ExceptHandler ty n b _=>CZ (motive:=λ_=>Bool) ty AF λty=>CZ (motive:=λ_=>Bool) n AF λn=>
 D8 ty "EvenError"&&(glb sc "EvenError"&&(nmB N sc e n&&(lcl sc n&&(!(e==c)&&l1 b λs=>sA1 s λtg v=>(xN tg λy _=>nsB N sc c y)&&D8 v n))))
abbrev mTr(w t:Nat)(f g h:Str)(i c e:Nat)(sc:BR)(N:List Str)(s:BG):Bool:=sTr s λbd hs oe fb _=>oe.isEmpty&&(fb.isEmpty&&(l1 hs (mHd N sc c e)&&l1 bd λs=>sI s λx a b _=>mWh N sc w 0 x&&(mCl N sc i t f a&&l1 b λs=>sI s λx a b _=>mWh N sc w 1 x&&(mCl N sc i t g a&&mCl N sc i t h b))))
mutual
noncomputable def mS:S->BR->List Str->BG->Bool
 |.raise,sc,_,s=>sRa s λx c _=>c.isNone&&(glb sc "NoText"&&CZ (motive:=λ_=>Bool) x AF λx=>xG "NoText" sc x (·.isEmpty))
 |.try3 w t f g h i c e,sc,N,s=>mTr w t f g h i c e sc N s
 |.set i e,sc,N,s=>sA1 s λt x=>mE e sc N x&&xN t λy _=>(N[i]?==AA y)&&(F8 sc y&&!(N.contains (v5 y)))
 |.pre _,_,_,_=>AF
 |.put o i v,sc,N,s=>sA1 s λt x=>(mE v sc N x&&Q7 x)&&xS t λp q _=>mE o sc N p&&mE i sc N q
 |.fldS o f v,sc,N,s=>sA1 s λt x=>(mE v sc N x&&Q7 x)&&xA t λp g _=>(g==f)&&mE o sc N p
 |.ex e,sc,N,s=>sX s λx _=>mE e sc N x&&Q7 x
 |.iff c a b,sc,N,s=>sI s λx p q _=>(mE c sc N x&&z7 x)&&(mSs a sc N p&&mSs b sc N q)
 |.ret e,sc,N,s=>sR s λx _=>CZ (motive:=λ_=>Bool) x AF (mE e sc N)
 |.retN,_,_,s=>sR s λx _=>x.isNone
 |.for t it b,sc,N,s=>sF s λtg x p q _=>q.isEmpty&&(mTg AC t sc N tg&&(mIt it sc N tg x&&mSs b sc N p))
 |.while c b,sc,N,s=>sW s λx p q _=>q.isEmpty&&((mE c sc N x&&z7 x)&&mSs b sc N p)
 |.cont,_,_,s=>sC s λ_=>AC
 |.pass,_,_,s=>sP s λ_=>AC
noncomputable def mSs:Ss->BR->List Str->List BG->Bool
 |.nil,_,_,l=>l.isEmpty
 |.cons s r,sc,N,l=>Dt (motive:=λ_=>Bool) l AF λx xs=>mS s sc N x&&mSs r sc N xs
end
abbrev mFB(b:Ss)(sc:BR)(N:List Str)(fb:Iu):Prop:=N.contains p0=AF/\match fb with
 |.stmts l=>mSs b sc N l=AC
 |.expr x=>∃e,b=.cons (.ret e) .nil/\mE e sc N x=AC
@[reducible]noncomputable def HF(X:Cx):Prop:=∀y,Loc X.env.scope y->X.N.contains (v5 y)=AF->X.fn y=AC\/X.env.scope.names.lookup y=AA .local
def ct0:mE e sc N (.SetComp el gs scope p)=AF:=by cases e<;>rfl
def cs4{a b:AR}:mE e sc N (.DictComp a b gs scope p)=AF:=by cases e<;>rfl
def cw9(h:mE e sc N (.ListComp el gs scope p)=AC):∃Nc fr k t it c e',e=.comp Nc fr k t it c e':=by
 cases e<;>first|exact⟨_,_,_,_,_,_,_,rfl⟩|exact absurd h AK
def Z5{x:AR}{t:Option AR}{n:Nat}(h:Q7 x=AC):DW x t n env=pure AF:=by
 cases x<;>first|rfl|cases h
def cd9{x t:AR}{n:Nat}(h:Q7 x=AC):Fz [t] x n env=pure AF:=by
 rw[Fz];exact Z5 h
def bw4{py:Pos}{y:Str}{n:Nat}:∃b,DW (.ListComp el gs scope p) (AA (.Name y py)) n env=pure b:=⟨_,rfl⟩
def am5{X:Cx}{x:Str}(h:nmB X.N X.env.scope i x=AC):NmOk X i x:=⟨beq_iff_eq.1 (an h).1,ak2 (an (an h).2).1,(u6 (an (an h).2).2).1,(u6 (an (an h).2).2).2⟩
def bm9{X:Cx}{x:Str}(hf:HF X)(h:nsB X.N X.env.scope i x=AC):NsOk X i x:=⟨beq_iff_eq.1 (an h).1,P5 (an (an h).2).1,hf _ (P5 (an (an h).2).1) (nt (an (an h).2).2)⟩
def an7{t:Nat}{f:Str}{l:List BG}(h:mCl N sc i t f l=AC):∃xi xt q1 q2 q3 q4 q5,l=[.Assign [.Name xi q1] (.Call (.Name f q2) [.Name xt q3] [] q4) q5]/\nsB N sc i xi=AC/\nmB N sc t xt=AC/\okN f=AC/\isM f=AF/\glb sc f=AC:=by
 refine l1_ (C:=λl=>∃xi xt q1 q2 q3 q4 q5,l=[.Assign [.Name xi q1] (.Call (.Name f q2) [.Name xt q3] [] q4) q5]/\nsB N sc i xi=AC/\nmB N sc t xt=AC/\okN f=AC/\isM f=AF/\glb sc f=AC) h λs h=>X6 (C:=λs=>∃xi xt q1 q2 q3 q4 q5,[s]=[.Assign [.Name xi q1] (.Call (.Name f q2) [.Name xt q3] [] q4) q5]/\nsB N sc i xi=AC/\nmB N sc t xt=AC/\okN f=AC/\isM f=AF/\glb sc f=AC) h λtg v q5 h=>?_;obtain⟨h1,h⟩:=an h;obtain⟨h2,h⟩:=an h;obtain⟨h3,h⟩:=an h;refine xN_ (C:=λtg=>∃xi xt q1 q2 q3 q4 q5',[Ex [tg] v q5]=[.Assign [.Name xi q1] (.Call (.Name f q2) [.Name xt q3] [] q4) q5']/\nsB N sc i xi=AC/\nmB N sc t xt=AC/\okN f=AC/\isM f=AF/\glb sc f=AC) h1 λxi q1 h1=>?_;refine B0 (C:=λv=>∃xi' xt q1' q2 q3 q4 q5',[Ex [.Name xi q1] v q5]=[.Assign [.Name xi' q1'] (.Call (.Name f q2) [.Name xt q3] [] q4) q5']/\nsB N sc i xi'=AC/\nmB N sc t xt=AC/\okN f=AC/\isM f=AF/\glb sc f=AC) h λq2 a q4 h4 h=>?_;exact xN_ (C:=λa=>∃xi' xt q1' q2' q3 q4' q5',[Ex [.Name xi q1] (.Call (.Name f q2) [a] [] q4) q5]=[.Assign [.Name xi' q1'] (.Call (.Name f q2') [.Name xt q3] [] q4') q5']/\nsB N sc i xi'=AC/\nmB N sc t xt=AC/\okN f=AC/\isM f=AF/\glb sc f=AC) h λxt q3 h=>⟨xi,xt,q1,q2,q3,q4,q5,rfl,h1,h,h2,nt h3,h4⟩
def bq9{w:Nat}{n:Int}{x:AR}(h:mWh N sc w n x=AC):∃xw p1 j p2 p3,x=.Compare (.Name xw p1) [.Eq] [.Constant (.int n) j p2] p3/\nmB N sc w xw=AC:=by
 refine S5 (C:=λx=>∃xw p1 j p2 p3,x=.Compare (.Name xw p1) [.Eq] [.Constant (.int n) j p2] p3/\nmB N sc w xw=AC) h λo a b p3 h=>?_;obtain⟨h1,hh⟩:=an h;obtain⟨h2,h4⟩:=an hh;clear h hh;cases beq_iff_eq.1 h1;refine O4 (C:=λb=>∃xw p1 j p2 p3',Jn a [.Eq] [b] p3=.Compare (.Name xw p1) [.Eq] [.Constant (.int n) j p2] p3'/\nmB N sc w xw=AC) h2 λj p2=>?_;exact xN_ (C:=λa=>∃xw p1 j' p2' p3',Jn a [.Eq] [.Constant (.int n) j p2] p3=.Compare (.Name xw p1) [.Eq] [.Constant (.int n) j' p2'] p3'/\nmB N sc w xw=AC) h4 λxw p1 h=>⟨xw,p1,j,p2,p3,rfl,h⟩
def cy8{c e:Nat}{hd:GE}(h:mHd N sc c e hd=AC):∃xe xc u1 u2 u3 u4 u5,hd=.ExceptHandler (AA (.Name "EvenError" u1)) (AA xe) [.Assign [.Name xc u2] (.Name xe u3) u4] u5/\nsB N sc c xc=AC/\nmB N sc e xe=AC/\lcl sc xe=AC/\(!(e==c))=AC/\glb sc "EvenError"=AC:=by
 obtain⟨ty,n,b,u5⟩:=hd;cases ty with
 |none=>exact(AK h).elim
 |some ty=>cases n with
  |none=>exact(AK h).elim
  |some n=>
   obtain⟨h1,h⟩:=an (show(_&&_)=AC from h);obtain⟨h2,h⟩:=an h;obtain⟨h3,h⟩:=an h;obtain⟨h4,h⟩:=an h;obtain⟨h5,h⟩:=an h;refine F4 (C:=λty=>∃xe xc u1 u2 u3 u4 u5',KH (AA ty) (AA n) b u5=.ExceptHandler (AA (.Name "EvenError" u1)) (AA xe) [.Assign [.Name xc u2] (.Name xe u3) u4] u5'/\nsB N sc c xc=AC/\nmB N sc e xe=AC/\lcl sc xe=AC/\(!(e==c))=AC/\glb sc "EvenError"=AC) h1 λu1=>?_;have hb:∃xc u2 u3 u4,b=[.Assign [.Name xc u2] (.Name n u3) u4]/\nsB N sc c xc=AC:=by
    refine l1_ (C:=λb=>∃xc u2 u3 u4,b=[.Assign [.Name xc u2] (.Name n u3) u4]/\nsB N sc c xc=AC) h λs h=>X6 (C:=λs=>∃xc u2 u3 u4,[s]=[.Assign [.Name xc u2] (.Name n u3) u4]/\nsB N sc c xc=AC) h λtg v u4 h=>?_;refine xN_ (C:=λtg=>∃xc u2 u3 u4',[Ex [tg] v u4]=[.Assign [.Name xc u2] (.Name n u3) u4']/\nsB N sc c xc=AC) (an h).1 λxc u2 h6=>?_;exact F4 (C:=λv=>∃xc' u2' u3 u4',[Ex [.Name xc u2] v u4]=[.Assign [.Name xc' u2'] (.Name n u3) u4']/\nsB N sc c xc'=AC) (an h).2 λu3=>⟨xc,u2,u3,u4,rfl,h6⟩
   obtain⟨xc,u2,u3,u4,rfl,h6⟩:=hb;exact⟨n,xc,u1,u2,u3,u4,u5,rfl,h6,h3,h4,h5,h2⟩
def W7{x y:Str}{a b:Bool}(h:((N[i]?==AA x)&&a)=AC)(k:((N[i]?==AA y)&&b)=AC):x=y:=BC ((beq_iff_eq.1 (an h).1).symm.trans (beq_iff_eq.1 (an k).1))
structure Ps23 where
 (p1 p2 p3 p4 p5 p6 p7 p8 q1 q2 q3 q4 q5 r1 r2 r3 r4 r5 t1 t2 t3 t4 t5 u1 u2 u3 u4 u5:Pos)
abbrev bo3(w t:Nat)(f g k:Str)(i c e:Nat)(sc:BR)(N:List Str)(s:BG):Prop:=∃(xw xt xi xc xe:Str)(j1 j2:Nat)(pos:Pos)(P:Ps23),s=.Try [.If (.Compare (.Name xw P.p1) [.Eq] [.Constant (.int 0) j1 P.p2] P.p3) [.Assign [.Name xi P.q1] (.Call (.Name f P.q2) [.Name xt P.q3] [] P.q4) P.q5] [.If (.Compare (.Name xw P.p4) [.Eq] [.Constant (.int 1) j2 P.p5] P.p6) [.Assign [.Name xi P.r1] (.Call (.Name g P.r2) [.Name xt P.r3] [] P.r4) P.r5] [.Assign [.Name xi P.t1] (.Call (.Name k P.t2) [.Name xt P.t3] [] P.t4) P.t5] P.p7] P.p8]
   [.ExceptHandler (AA (.Name "EvenError" P.u1)) (AA xe) [.Assign [.Name xc P.u2] (.Name xe P.u3) P.u4] P.u5] [] [] pos/\nmB N sc w xw=AC/\nmB N sc t xt=AC/\nsB N sc i xi=AC/\nsB N sc c xc=AC/\nmB N sc e xe=AC/\lcl sc xe=AC/\(!(e==c))=AC/\glb sc "EvenError"=AC/\(okN f=AC/\isM f=AF/\glb sc f=AC)/\(okN g=AC/\isM g=AF/\glb sc g=AC)/\(okN k=AC/\isM k=AF/\glb sc k=AC)
def c29{w t:Nat}{f g k:Str}{c e:Nat}{s:BG}(h:mTr w t f g k i c e sc N s=AC):bo3 w t f g k i c e sc N s:=by
 refine cx2 (C:=bo3 w t f g k i c e sc N) h λbd hs oe fb pos h=>?_;obtain⟨h1,k1⟩:=an h;obtain⟨h2,k2⟩:=an k1;obtain⟨h3,k3⟩:=an k2;clear h k1 k2;cases oe with
 |cons=>exact(AK h1).elim
 |nil=>cases fb with
  |cons=>exact(AK h2).elim
  |nil=>
   have e1:∃hd,hs=[hd]/\mHd N sc c e hd=AC:=l1_ (C:=λhs=>∃hd,hs=[hd]/\mHd N sc c e hd=AC) h3 λhd h=>⟨hd,rfl,h⟩;obtain⟨hd,e1,h3⟩:=e1;obtain⟨xe,xc,u1,u2,u3,u4,u5,eh,n4,n5,n6,n7,n8⟩:=cy8 h3;have e2:∀{bd:List BG}{n:Int}{M:List BG->List BG->Bool},(l1 bd λs=>sI s λx a b _=>mWh N sc w n x&&M a b)=AC->∃x a b p,bd=[.If x a b p]/\mWh N sc w n x=AC/\M a b=AC:=λ{bd n M}h=>
    l1_ (C:=λbd=>∃x a b p,bd=[.If x a b p]/\mWh N sc w n x=AC/\M a b=AC) h λs h=>sI_ (C:=λs=>∃x a b p,[s]=[.If x a b p]/\mWh N sc w n x=AC/\M a b=AC) h λx a b p h=>⟨x,a,b,p,rfl,(an h).1,(an h).2⟩
   obtain⟨x1,a1,b1,p8,ei,w1,h⟩:=e2 (M:=λa b=>mCl N sc i t f a&&l1 b λs=>sI s λx a b _=>mWh N sc w 1 x&&(mCl N sc i t g a&&mCl N sc i t k b)) k3;obtain⟨c1,h⟩:=an h;obtain⟨x2,a2,b2,p7,ej,w2,h⟩:=e2 (M:=λa b=>mCl N sc i t g a&&mCl N sc i t k b) h;obtain⟨c2,c3⟩:=an h;obtain⟨xw,p1,j1,p2,p3,ew,n1⟩:=bq9 w1;obtain⟨xw',p4,j2,p5,p6,ew',n1'⟩:=bq9 w2;obtain⟨xi,xt,q1,q2,q3,q4,q5,ea,m1,m2,f1⟩:=an7 c1;obtain⟨xi2,xt2,r1,r2,r3,r4,r5,eb,m3,m4,f2⟩:=an7 c2;obtain⟨xi3,xt3,t1,t2,t3,t4,t5,ec,m5,m6,f3⟩:=an7 c3;exact⟨xw,xt,xi,xc,xe,j1,j2,pos,⟨p1,p2,p3,p4,p5,p6,p7,p8,q1,q2,q3,q4,q5,r1,r2,r3,r4,r5,t1,t2,t3,t4,t5,u1,u2,u3,u4,u5⟩,by rw[e1,eh,ei,ej,ew,ew',ea,eb,ec,W7 n1' n1,W7 m3 m1,W7 m5 m1,W7 m4 m2,W7 m6 m2],n1,m2,m1,n4,n5,n6,n7,n8,f1,f2,f3⟩
mutual
theorem c12(Z:Sg)(hm:∀(b:Ss)(sc:BR)(N:List Str)(l:List BG),mSs b sc N l=AC->N.contains p0=AF->Tbs.mt b sc N (.stmts l)):∀(s:S)(X:Cx)(x:BG),XOk Z X->HF X->FrS X Z.X->mS s X.env.scope X.N x=AC->PS X x (upS X.K (wpS Z s))
 |.set i e,X,x,hX,hf,hR,h=>X6 (C:=λx=>PS X x (upS X.K (wpS Z (.set i e)))) h λtx v pos h=>xN_ (C:=λtx=>PS X (.Assign [tx] v pos) (upS X.K (wpS Z (.set i e)))) (an h).2 λy py h2=>by
  have h3:=(an h).1;have ie:=b9 Z e X v hX h3;have h1:=beq_iff_eq.1 (an h2).1;have hl:=P5 (an (an h2).2).1;have hf:=hf y hl (nt (an (an h2).2).2)
  by_cases hc:Q7 v=AC
  ·exact ak1 hX.nd h1 hl ie.v (Z5 hc) hf
  ·cases v with
   |ListComp el gs scope p=>
    obtain⟨b,hb⟩:=bw4 (el:=el) (gs:=gs) (scope:=scope) (p:=p) (py:=py) (y:=y) (n:=pos.line) (env:=X.env);cases b with
    |false=>exact ak1 hX.nd h1 hl ie.v hb hf
    |true=>
     obtain⟨Nc,fr,k,t,it,c,e,rfl⟩:=cw9 h3;revert hb;refine l1_ (C:=λgs=>DW (.ListComp el gs scope p) (AA (.Name y py)) pos.line X.env=pure AC->PS X (.Assign [.Name y py] (.ListComp el gs scope p) pos) (upS X.K (wpS Z (.set i (.comp Nc fr k t it c e))))) h3 λg h hb=>?_;obtain⟨tg,itx,ifs,n⟩:=g;obtain⟨h0,h⟩:=an h;cases(beq_iff_eq.1 h0:n=0);obtain⟨g1,h⟩:=an h;obtain⟨g2,h⟩:=an h;obtain⟨g3,h⟩:=an h;have Sc:=at8 g1
     by_cases hz:Z.X=AF
     case neg=>exact λ_ _ _ _ _ _⟨_,_,_,_,_,ht,_⟩=>absurd ht.1 hz
     exact PS.imp (bv6 hX.calm hX.nd h1 hl hf Sc (al6 Z it X tg itx hX g2)
      (λC fp pins s H=>ak8 (X:=X.comp scope Nc C fp pins s H) (ow:=AF) hX.calm Sc.nd nofun g3)
      (λC fp pins s H=>bn4 (X:=X.comp scope Nc C fp pins s H) (an h).2 λx h=>b9 Z c (X.comp scope Nc C fp pins s H) x (hX.comp hz (Z2 g1) Sc C fp pins s H) h)
      (λC fp pins s H=>(b9 Z e (X.comp scope Nc C fp pins s H) el (hX.comp hz (Z2 g1) Sc C fp pins s H) (an h).1).v) hb (am0 g2)) λF σ H⟨env,st,Fd,hE,hS,ht',hq⟩=>
      as6 ⟨env,st,(λd st'=>Fd.nx (env.set i (AA d)) st'),hE,hS,ht'.2,λv d H' st' ev is rs q=>hq.nx _ _ H' st' ev ((hE.mono (ev.tk hS)).set is i) rs q⟩
   |SetComp el gs scope p=>exact(AK (ct0.symm.trans h3)).elim
   |DictComp a b gs scope p=>exact(AK (cs4.symm.trans h3)).elim
   |_=>exact absurd rfl hc
 |.pre i,X,x,hX,hf,hR,h=>(AK h).elim
 |.put o i v,X,x,hX,hf,hR,h=>X6 (C:=λx=>PS X x (upS X.K (wpS Z (.put o i v)))) h λtx y pos h=>xS_ (C:=λtx=>PS X (.Assign [tx] y pos) (upS X.K (wpS Z (.put o i v)))) (an h).2 λp q ps h2=>by
  have iq:=b9 Z i X q hX (an h2).2;refine cn8 (b9 Z v X y hX (an (an h).1).1).v (b9 Z o X p hX (an h2).1).v iq.v (λw=>?_) (cd9 (an (an h).1).2) rfl;cases q<;>first|rfl|exact absurd rfl (iq.sl _ _ _ _)
 |.fldS o f v,X,x,hX,hf,hR,h=>X6 (C:=λx=>PS X x (upS X.K (wpS Z (.fldS o f v)))) h λtx y pos h=>xA_ (C:=λtx=>PS X (.Assign [tx] y pos) (upS X.K (wpS Z (.fldS o f v)))) (an h).2 λp g ps h2=>by
  cases beq_iff_eq.1 (an h2).1;exact cb5 (hX.cls _) (b9 Z v X y hX (an (an h).1).1).v (b9 Z o X p hX (an h2).2).v (Z5 (an (an h).1).2)
 |.ex e,X,x,hX,hf,hR,h=>sX_ (C:=λx=>PS X x (upS X.K (wpS Z (.ex e)))) h λx p h=>(by exact cw6 (b9 Z e X _ hX (an h).1).v (Z5 (an h).2))
 |.iff c a b,X,x,hX,hf,hR,h=>sI_ (C:=λx=>PS X x (upS X.K (wpS Z (.iff c a b)))) h λx p q ps h=>
  (by exact cs5 ((b9 Z c X _ hX (an (an h).1).1).t (an (an h).1).2) (J7 Z hm a X _ hX hf hR (an (an h).2).1) (J7 Z hm b X _ hX hf hR (an (an h).2).2))
 |.ret e,X,x,hX,hf,hR,h=>sR_ (C:=λx=>PS X x (upS X.K (wpS Z (.ret e)))) h λx p h=>by
  cases x with
  |none=>exact(AK h).elim
  |some x=>exact ck7 (b9 Z e X _ hX h).v
 |.retN,X,x,hX,hf,hR,h=>sR_ (C:=λx=>PS X x (upS X.K (wpS Z .retN))) h λx p h=>by
  cases x with
  |some _=>exact(AK h).elim
  |none=>exact cc6
 |.for t it b,X,x,hX,hf,hR,h=>sF_ (C:=λx=>PS X x (upS X.K (wpS Z (.for t it b)))) h λtg x p q ps h=>by
  cases q with
  |cons=>exact(AK h).elim
  |nil=>exact ch8 hR.pass hX.calm (al6 Z it X _ _ hX (an (an (an h).2).2).1) (ak8 hX.calm hX.nd (λ_=>hf) (an (an h).2).1) (J7 Z hm b X _ hX hf hR (an (an (an h).2).2).2) (am0 (an (an (an h).2).2).1)
 |.while c b,X,x,hX,hf,hR,h=>sW_ (C:=λx=>PS X x (upS X.K (wpS Z (.while c b)))) h λx p q ps h=>by
  cases q with
  |cons=>exact(AK h).elim
  |nil=>exact b63 hR.pass ((b9 Z c X _ hX (an (an (an h).2).1).1).t (an (an (an h).2).1).2) (J7 Z hm b X _ hX hf hR (an (an h).2).2)
 |.cont,X,x,hX,hf,hR,h=>sC_ (C:=λx=>PS X x (upS X.K (wpS Z .cont))) h λ_ _=>(by exact cb6)
 |.raise,X,x,hX,hf,hR,h=>cz1 (C:=λx=>PS X x (upS X.K (wpS Z .raise))) h λa c p h=>by
  obtain⟨h1,k1⟩:=an h;obtain⟨h2,k2⟩:=an k1;clear h k1;cases c with
  |some=>exact(AK h1).elim
  |none=>
   cases a with
   |none=>exact(AK k2).elim
   |some a=>
    refine xG_ (C:=λa=>PS X (.Raise (AA a) AE p) (upS X.K (wpS Z .raise))) k2 λq l cp h1 h=>?_;cases l with
    |cons=>exact(AK h).elim
    |nil=>exact b07 hR hX.tr hX.calm (j5 h1)
 |.try3 w t f g k i c e,X,x,hX,hf,hR,h=>by
  obtain⟨xw,xt,xi,xc,xe,j1,j2,p,P,rfl,n1,n2,n3,n4,n5,n6,n7,n8,a1,a2,a3⟩:=c29 h;have one:∀x,(okN x=AC/\isM x=AF/\glb X.env.scope x=AC)->Gl X x/\(x==("__debug__":Str))=AF/\(Z.F x=AC->FnT X (CXb X.K Z.X) x (Z.Phi x)/\FnT X (CXb X.K AC) x (Z.T x)):=λx b=>by
   refine⟨j5 b.2.2,(u6 b.1).1,λhF=>⟨?_,hX.tf x b.2.1 hF⟩⟩;obtain⟨k,a,fd,ps,F,hr,hm,hk,hb,_⟩:=(hX.fns x b.2.1 hF).ex;exact⟨k,a,fd,ps,F,hr,hm,hk,hb⟩
  refine cd7 hR hX.nd hX.tr (am5 n1) (am5 n2) (bm9 hf n3) (bm9 hf n4) (am5 n5) (by simpa[lcl]using n6) (by simpa using n7) (j5 n8) λx hx=>one x ?_
  rcases hx with rfl|rfl|rfl
  ·exact a1
  ·exact a2
  ·exact a3
 |.pass,X,x,hX,hf,hR,h=>sP_ (C:=λx=>PS X x (upS X.K (wpS Z .pass))) h λ_ _=>(by exact cf2)
theorem J7(Z:Sg)(hm:∀(b:Ss)(sc:BR)(N:List Str)(l:List BG),mSs b sc N l=AC->N.contains p0=AF->Tbs.mt b sc N (.stmts l)):∀(l:Ss)(X:Cx)(xs:List BG),XOk Z X->HF X->FrS X Z.X->mSs l X.env.scope X.N xs=AC->PSs X xs (upS X.K (c9 Z l))
 |.nil,X,xs,hX,hf,hR,h=>by
  cases xs with
  |nil=>exact cq9
  |cons=>exact(AK h).elim
 |.cons s r,X,xs,hX,hf,hR,h=>by
  cases xs with
  |nil=>exact(AK h).elim
  |cons x xs=>
   rw[c9];exact b98 (c12 Z hm s X _ hX hf hR (an h).1) (J7 Z hm r X _ hX hf hR (an h).2)
end
end Ek
namespace Ek
open PySem PySem.Spec PyProof.Rows L2
variable [Tbs]
variable{mg:Str->Option AI}{f c m:Str}{st:BG}{ps:List Str}{cd:AI}{a:AM}{fd:By}{Pr:Aj}{P:d6}{G:Gs}{H:Hp}{X:Cx}{b:Bool}
abbrev mP(i:Nat)(sc:BR)(N:List Str):BG->Bool
 |.Assign [.Name y _] (.Dict [] [] _) _=>(N[i]?==AA y)&&F8 sc y
 |_=>AF
abbrev mB:Ss->BR->List Str->List BG->Bool
 |.cons (.pre i) r,sc,N,s::l=>mP i sc N s&&mB r sc N l
 |b,sc,N,l=>mSs b sc N l
structure Stat0(st:BG)(d:Def)(ps:List Str):Prop where
 sc:FnScope d.N ps (o0 st)
 np:ps.length=d.np
 body:mB d.body (o0 st) d.N (D0 st)=AC
structure Stat(st:BG)(d:Def)(ps:List Str)(x f:Str):Prop extends Stat0 st d ps where
 bind:∀(kV doc pm:AI)(an:Option AM)(cdv ct:AI)(us:List AI),us.length=ps.length->HW (Gb x f (G8 st) (D0 st) (o0 st) .none kV doc pm an cdv ct) ⟨us,[]⟩=pure (ps.zip us)
structure FunD(K:AS)(x qual:Str)(st:BG)(f:AM)(fd:By):Prop where
 ex:∃(oc:AI)(od:Option AM)(dV kV doc pm:AI)(an:Option AM)(cdv ct:AI)(osl:Array (Option AI)),
  fd=Gb x qual (G8 st) (D0 st) (o0 st) dV kV doc pm an cdv ct/\K.lookup f=AA ⟨oc,od,.func fd,osl⟩/\FL K cdv qual=AC
 kp:CU K (.ref f)=AC
structure DefAt(K:AS)(f:Str)(d:Def)(a:AM)(fd:By)(ps:List Str):Prop where
 ex:∃(st:BG)(x:Str),FunD K x f st a fd/\Stat0 st d ps
 bd:l4 K fd ps []
 lam:d.N.contains p0=AC->∃c P,fd.code=.ref c/\Dl K c P=AC/\P∈Tbs.ps
structure DefOk(K:AS)(mg:Str->Option AI)(f:Str)(d:Def):Prop where
 ex:∃(a:AM)(fd:By)(ps:List Str),DefAt K f d a fd ps/\mg f=AA (.ref a)/\Aw K AO f=AA (AA (.ref a))/\∀us:List AI,us.length=ps.length->HW fd ⟨us,[]⟩=pure (ps.zip us)
structure MthOk(K:AS)(mg:Str->Option AI)(df:Option Int)(c m:Str)(d:Def):Prop where
 ex:∃(Ca a:AM)(fd:By)(ps:List Str),DefAt K (d0 c m) d a fd ps/\Aw K AO c=AA (AA (.ref Ca))/\mg c=AA (.ref Ca)/\Cls K Ca/\Meth K Ca m a/\(m="__init__"->Mk K Ca a)/\∀i,df=AA i->∃tk,l4 K fd ps [.int i tk]
 nom:Aw K AO (d0 c m)=AA AE
theorem G9:∀{a b a' b':List Nat},(46:Nat)∉a'->(46:Nat)∉b'->a++46::b=a'++46::b'->a=a'/\b=b'
 |[],b,[],b',_,_,h=>⟨rfl,by simpa using h⟩
 |[],b,x::a',b',h1,_,h=>by
  simp only[BB,AZ,BO]at h;exact absurd (h.1▸CL) h1
 |x::a,b,[],b',_,h2,h=>by
  simp only[BB,AZ,BO]at h;exact absurd (h.2▸BK _ CL) h2
 |x::a,b,y::a',b',h1,h2,h=>by
  simp only[AZ,BO]at h;obtain⟨e,f⟩:=G9 (λz=>h1 (BQ _ z)) h2 h.2;exact⟨by rw[h.1,e],f⟩
def cl8{K:AS}{h:Ay}{d:Def}{fa:AM}{od an:Option AM}{sl:Array (Option AI)}{oc kV dc pm ct:AI}(X:K.In h)(G:h.Ns AO mg)(S:Stat st d ps f f)
  (a1:Aw K AO f=AA (AA (.ref fa))) (l1:K.lookup fa=AA ⟨oc,od,.func (Gb f f (G8 st) (D0 st) (o0 st) .none kV dc pm an cd ct),sl⟩) (c1:FL K cd f=AC) (k1:CU K (.ref fa)=AC)
  (m1:d.N.contains p0=AC->∃c P,cd=.ref c/\Dl K c P=AC/\P∈Tbs.ps:=by exact λh=>absurd h (by decide+kernel)):DefOk K mg f d:=
 ⟨fa,_,ps,⟨⟨st,f,⟨⟨_,_,_,_,_,_,_,_,_,_,rfl,l1,c1⟩,k1⟩,S.toStat0⟩,.all (S.bind kV dc pm an cd ct),m1⟩,Dz X G a1,a1,S.bind kV dc pm an cd ct⟩
def co9{K:AS}{h:Ay}{d:Def}{Ca fa:AM}{od an:Option AM}{sl:Array (Option AI)}{oc kV dc pm ct:AI}{df:Option Int}(X:K.In h)(G:h.Ns AO mg)(S:Stat st d ps m (d0 c m))
  (a0:Aw K AO (d0 c m)=AA AE) (a1:Aw K AO c=AA (AA (.ref Ca))) (hc:Cls K Ca) (hm:Meth K Ca m fa) (hi:m="__init__"->Mk K Ca fa)
  (l1:K.lookup fa=AA ⟨oc,od,.func (Gb m (d0 c m) (G8 st) (D0 st) (o0 st) .none kV dc pm an cd ct),sl⟩) (c1:FL K cd (d0 c m)=AC)
  (m1:d.N.contains p0=AC->∃c P,cd=.ref c/\Dl K c P=AC/\P∈Tbs.ps:=by exact λh=>absurd h (by decide+kernel)) (hdf:df=AE:=by decide+kernel):MthOk K mg df c m d:=
 ⟨⟨Ca,fa,_,ps,⟨⟨st,m,⟨⟨_,_,_,_,_,_,_,_,_,_,rfl,l1,c1⟩,hm.kp⟩,S.toStat0⟩,.all (S.bind kV dc pm an cd ct),m1⟩,a1,Dz X G a1,hc,hm,hi,λi h=>by rw[hdf]at h;cases h⟩,a0⟩
def DefAt.binds{K:AS}{d:Def}(D:DefAt K f d a fd ps):l4 K fd ps []:=D.bd
theorem DefAt.kp{K:AS}{d:Def}(D:DefAt K f d a fd ps):CU K (.ref a)=AC:=by
 obtain⟨st,x,F,S⟩:=D.ex;exact F.kp
structure AllOk(Pr:Aj)(w:BA)(K:AS)(mg:Str->Option AI)(P:d6)(G:Gs):Prop where
 fns:∀f d,P f=AA d->isM f=AF->DefOk K mg f d
 mts:∀f d,P f=AA d->isM f=AC->∃c m,f=d0 c m/\isM c=AF/\isM m=AF/\MthOk K mg (S6 G.cls (d0 c m)) c m d
 cls:∀f c Ca,Aw K AO c=AA (AA (.ref Ca))->f∈G.cls c->Cls K Ca/\D6 K Ca f
 blt:∀b∈U0,mg b=AE
 tabs:∀g,G.tab g≠[]->GTab Pr w K mg g (G.tab g)
 cst:∀g d,G.cst g=AA d->∃u,mg g=AA u/\A8 K d u=AC
 isc:∀c∈G.cls "!is",∃Ca,mg c=AA (.ref Ca)/\IscOk K c Ca
 kt:Tbs.kt=(G.cls "!kt").isEmpty
 ixc:∀c∈G.cls "!ix",∃Ca,mg c=AA (.ref Ca)/\IxOk K c Ca
 tr:G.cls "!ix"≠[]->Tbs.ps=[]/\(∃C Ce,Aw K AO "NoText"=AA (AA (.ref C))/\mg "EvenError"=AA (.ref Ce)/\IP K (.ref C) (.ref Ce)=AA AC)/\∃C,Aw K AO "NoText"=AA (AA (.ref C))/\mg "NoText"=AA (.ref C)/\HA K C vB "ValueError.__new__"=AC
theorem AllOk.rsG{w:BA}{K:AS}(h:AllOk Pr w K mg P G):AllOk Pr w K mg P (rsG G):=⟨h.fns,h.mts,h.cls,h.blt,h.tabs,h.cst,h.isc,h.kt,h.ixc,h.tr⟩
def b71:isM (d0 c m)=AC:=by
 unfold isM d0;simp
def b17{c' m':Str}(h1:isM c'=AF)(h2:isM m'=AF)(h:d0 c m=d0 c' m'):c=c'/\m=m':=by
 unfold isM at h1 h2;unfold d0 at h;have h':=congrArg (λs:Str=>s.cps.toList) h;simp only[Array.toList_append,AY,Ew]at h';have e:=G9 (by simpa using h1) (by simpa using h2) h';exact⟨by cases c;cases c';simpa using e.1,by cases m;cases m';simpa using e.2⟩
def AllOk.mth{w:BA}{K:AS}(h:AllOk Pr w K mg P G){d:Def}(e:P (d0 c m)=AA d):MthOk K mg (S6 G.cls (d0 c m)) c m d:=by
 obtain⟨c',m',e',h1,h2,M⟩:=h.mts _ d e b71;obtain⟨rfl,rfl⟩:=b17 h1 h2 e';exact M
def bz8{K:AS}{d:Def}{ds:List D}{vs:List V}(r:IsDs K H ds vs):RelE K H (ab1 d ds) (L2.r8 d.N vs):=aq1 r
def aw8{pins:List (AM×Obj)}{σ:L2.St}{s:AL}(I:L2.Inv X pins σ H s)(hfn:∀x,X.fn x=AC)(g k:Str->Bool)(e:AI->AL->Prop):L2.Inv {X with fn:=g,ow:=k,xe:=e} pins σ H s:=
 ⟨⟨I.ok.mod,I.ok.kind,I.ok.glob,I.ok.blt,I.ok.above,I.ok.inj,I.ok.has,λx c _ h=>I.ok.cab x c (.inl (hfn x)) h,I.ok.hd,I.ok.frames,I.ok.stk,I.ok.exf,I.ok.bs,I.ok.bsz,I.ok.noex,I.ok.exfs,I.ok.funs,I.ok.frf⟩,I.os,I.bare,I.base,I.loc,I.cell,I.free,
  λx c h=>.inl ((I.freeC x c h).resolve_right λz=>by rw[hfn x]at z;exact absurd z.1 ∅),I.pin,I.hok,I.len⟩
abbrev Cxa(X:Cx):Cx:={X with fn:=λ_=>AC}
def U4{pins:List (AM×Obj)}{σ:L2.St}{s:AL}(I:L2.Inv (Cxa X) pins σ H s):L2.Inv X pins σ H s:=aw8 I (λ_=>rfl) X.fn X.ow X.xe
abbrev O2(X:Cx)(l:List BG)(t:TS):Prop:=∀(pins:List (AM×Obj))(s:AL)(σ:L2.St)(H:Hp)(D:Ends),Inv (Cxa X) pins σ H s->t D σ H->AU (model X.prog X.w) X.A (execs l X.env) (SP X pins D) X.xe s
def O2.cons{x:BG}{c8:List BG}{t u:DS}(h1:PS (Cxa X) x (upS X.K t))(h2:O2 X c8 (upS X.K u)):O2 X (x::c8) (upS X.K λF env st=>t {F with nx:=u F} env st):=by
 intro pins s σ H D I h;obtain⟨env,st,Fd,hE,hS,ht,hq⟩:=h;refine Do (thn (h1 pins s σ H {D with nx:=λσ' H'=>∃env' st',RelE X.K H' env' σ'/\RelS X.K st' H'/\u Fd env' st'/\EndsR X.K st' H' Fd D} I ⟨env,st,_,hE,hS,ht,⟨λenv' σ' H' st' ev hE' hS' q=>⟨env',st',hE',hS',q,hq.after ev⟩,hq.bk,hq.ct,hq.rt⟩⟩) λf s1 q=>?_);cases f with
 |next=>
  obtain⟨σ',H',I',env',st',e1,e2,e3,e4⟩:=q;exact h2 pins s1 σ' H' D I' ⟨env',st',Fd,e1,e2,e3,e4⟩
 |ret v=>obtain⟨v',σ',H',I',q⟩:=q;exact⟨v',σ',H',U4 I',q⟩
 |brk=>obtain⟨σ',H',I',q⟩:=q;exact⟨σ',H',U4 I',q⟩
 |cont=>obtain⟨σ',H',I',q⟩:=q;exact⟨σ',H',U4 I',q⟩
theorem bp1(Z:Sg)(hm:∀(b:Ss)(sc:BR)(N:List Str)(l:List BG),mSs b sc N l=AC->N.contains p0=AF->Tbs.mt b sc N (.stmts l)){X:Cx}(hX:XOk Z X)(hF:HF X)(hR:FrS X Z.X):∀(l:Ss)(xs:List BG),mB l X.env.scope X.N xs=AC->O2 X xs (upS X.K (c9 Z l))
 |.nil,xs,h=>λpins s σ H D I q=>J7 Z hm .nil X xs hX hF hR h pins s σ H D (U4 I) q
 |.cons x r,xs,h=>by
  have old:mSs (.cons x r) X.env.scope X.N xs=AC->O2 X xs (upS X.K (c9 Z (.cons x r))):=λh pins s σ H D I q=>J7 Z hm (.cons x r) X xs hX hF hR h pins s σ H D (U4 I) q;cases x with
  |pre i=>
   cases xs with
   |nil=>exact old h
   |cons s l=>
    have h':(mP i X.env.scope X.N s&&mB r X.env.scope X.N l)=AC:=h;simp only[Az]at h';obtain⟨h1,h2⟩:=h';unfold mP at h1
    split at h1
    ·simp only[Az,beq_iff_eq]at h1;exact O2.cons (t:=λF env st=>∀p,st p=AE->F.nx (env.set i (AA (.ref p))) (b0 st p (.dct []))) (PS.imp (ak1 (X:=Cxa X) hX.nd h1.1 (P5 h1.2) ci4 rfl (.inl rfl)) λF σ H q=>q) (bp1 Z hm hX hF hR r l h2)
    ·cases h1
  |_=>exact old h
abbrev cxF(b:Bool)(P:Aj)(w:BA)(K:AS)(mg:Str->Option AI)(base:Ay)(N:List Str)(qual:Str)(scope:BR)(f:AM)(cd:AI)(A:BV)(outer:List Env)(s:AL)(H:Hp):Cx:=
 {ad6 (CXb K b) P w K mg base N qual scope f cd A outer s H E0 with fn:=λy=>!(N.contains (v5 y)),ow:=λ_=>AC}
def bc4{P:Aj}{w:BA}{K:AS}{base:Ay}{N:List Str}{qual:Str}{scope:BR}{f:AM}{A:BV}{outer:List Env}{s:AL}:FrX (cxF b P w K mg base N qual scope f cd A outer s H) b:=⟨rfl,rfl,rfl,rfl⟩
def _root_.L2.FrX.frs(F:FrX X b):FrS X b:=⟨F.stk,F.fr,F.pass,λe=>e▸F⟩
def cl0{P:Aj}{w:BA}{K:AS}{base:Ay}{k:Nat}{f:AM}{x qual:Str}{N:List Str}{sp:Sp}(F:FunD K x qual st f fd)(S:FnScope N ps (o0 st))
  (len:∀vs H Q E,sp vs H Q E->vs.length=ps.length)
  (hbody:∀(A:BV)(outer:List Env)(s:AL)(H:Hp)(vs:List V)(Q:VK)(E:XK),Room k (A.deeper (Gj qual (o0 st) s.heap.objs.size f fd.code))->sp vs H Q E ->
   ∃t,O2 (cxF b P w K mg base N qual (o0 st) f fd.code A outer s H) (D0 st) t/\t {nx:=λ_ H'=>Q .non H',rt:=Q} (L2.r8 N vs) H) :
  FnOk P w K mg base (CXb K b) (k+1) f fd ps sp:=by
 obtain⟨oc,od,dV,kV,doc,pm,an,cdv,ct,osl,rfl,lk,hcd⟩:=F.ex;refine⟨len,λA outer s H args us vs Q E hr e0 hb r hsp=>?_⟩;have hl:=len _ _ _ _ hsp;have KX:K.In s.heap:=e0.mod.kin.keeps λb o e=>(e0.bs b o e).1;have lim:s.heap.NoLimit:=e0.mod.nolimit.keeps λb o e=>(e0.bs b o e).1;have hkind:∀y∈ps.zip us,(o0 st).names.lookup y.1=AA .local\/((o0 st).names.lookup y.1=AA .cell/\((Jw (s.heap.objs.size+1) (o0 st).names []).lookup y.1).isSome=AC):=λ⟨n,v⟩hy=>by
  rcases S.par n (GH hy).1 with q|q
  ·exact .inl q
  ·exact .inr ⟨q,JQ _ _ _ (.inl q)⟩
 refine codeAny_call_function hr.depth (KX _ _ lk) rfl S.co S.gen rfl (W.codeRec_of KX hcd) (hb _ _ _ _ ?_);refine wpAny_newFunctionEnv_cells S.kind hkind λenv he s1 x=>?_;subst he;refine⟨lim.keeps x.toInCall.keep,codeAny_func ?_⟩;obtain⟨t,ht,hq⟩:=hbody A outer s H vs Q E (hr.deeper _) hsp;have I0:Inv (ad6 (CXb K b) P w K mg base N qual (o0 st) f cdv A outer s H E0) [] (L2.r8 N vs) H s1:=bz3 S hr.hd e0 hl r x;have I:Inv (Cxa (cxF b P w K mg base N qual (o0 st) f cdv A outer s H)) [] (L2.r8 N vs) H s1:=aw8 I0 (λ_=>rfl) _ _ _;refine BP (ht [] s1 (L2.r8 N vs) H _ I hq) (λfl s' hs=>?_) λe s' hs=>hs;have fin:∀{σ':L2.St}{H':Hp}{v:V}{u:AI},Inv (cxF b P w K mg base N qual (o0 st) f cdv A outer s H) [] σ' H' s'->d3 v u->Q v H'->CE outer P w H s Q u s':=
  λ{σ' H' v u}J rv q=>⟨v,H',J.os,J.bare,J.base,J.hok,rv,q⟩
 cases fl with
 |ret u=>
  obtain⟨v,σ',H',J,rv,q⟩:=hs;exact fin J rv q
 |next=>
  obtain⟨σ',H',J,q⟩:=hs;exact fin (v:=V.non) (u:=BZ) J rfl q
 |brk=>
  obtain⟨_,_,_,q⟩:=hs;exact Aa q
 |cont=>
  obtain⟨_,_,_,q⟩:=hs;exact Aa q
section
variable {w:BA} {K:AS} {base:Ay} 
structure LvOk(Pr:Aj)(w:BA)(K:AS)(mg:Str->Option AI)(base:Ay)(P:d6)(G:Gs)(n:Nat):Prop where
 fn:∀m,m<=n->∀(f:Str)(d:Def),P f=AA d->∀(a:AM)(fd:By)(ps:List Str),DefAt K f d a fd ps->FnOk Pr w K mg base (CXb K G.rs) m a fd ps (u9 K (sem P G m f))
 clo:G.rs=AF->∀np N b cs fa fd ps,CloF fd np N ps b->FnOk Pr w K mg base CX0 n fa fd ps (V9 K fa fd np N cs (T0 P G n np N b cs))
@[reducible]noncomputable def Zl(P:d6)(G:Gs)(n:Nat):Sg:=⟨λf=>(P f).isSome,sem P G n,G.tab,G.cls,(C3 P G n).2.1,λf=>(C3 P G n).2.2.1&&(P f).isSome,T0 P G n,G.cst,G.rs,sem P (rsG G) n⟩
def bc9{n:Nat}(hA:AllOk Pr w K mg P G)(L:LvOk Pr w K mg base P G n)(LX:LvOk Pr w K mg base P (rsG G) n)(e1:X.prog=Pr)(e2:X.w=w)(e3:X.K=K)(e4:X.mg=mg)(e5:X.base=base)(hr:Room n X.A)(calm:X.calm=AC)(psx:v6 (CXb X.K G.rs) X E0)(nd:X.N.Nodup)
  (lam:X.N.contains p0=AC->LamOk X/\∀x,X.N.contains (v5 x)=AC->X.fn x=AF/\X.ow x=AC)
  (mt:∀b sc N fb,mFB b sc N fb->Tbs.mt b sc N fb):XOk (Zl P G n) X where
 calm:=calm
 psx:=psx
 tf:=λg hi hg=>by
  obtain⟨dg,hdg⟩:=BJ.mp hg;obtain⟨ag,fdg,pg,Dg,mgg,nsg,_⟩:=(hA.fns g dg hdg hi).ex;refine⟨n,ag,fdg,pg,?_,hr,by rw[e4];exact mgg,by rw[e3];exact Dg.kp,by rw[e3];exact Dg.binds⟩;rw[e1,e2,e3,e4,e5];exact LX.fn n (Ae _) g dg hdg ag fdg pg Dg
 tr:=λz=>by obtain⟨a,b,c⟩:=hA.tr z;exact⟨a,by rw[e3,e4];exact b,by rw[e3,e4];exact c⟩
 ixc:=by rw[e3,e4];exact hA.ixc
 units:=by have:=hr.un;lia
 nd:=nd
 blt:=by rw[e4];exact hA.blt
 fns:=λg hi hg=>by
  obtain⟨dg,hdg⟩:=BJ.mp hg;obtain⟨ag,fdg,pg,Dg,mgg,nsg,_⟩:=(hA.fns g dg hdg hi).ex;refine⟨n,ag,fdg,pg,?_,hr,by rw[e4];exact mgg,by rw[e3];exact Dg.kp,by rw[e3];exact Dg.binds,by rw[e3];exact nsg⟩;rw[e1,e2,e3,e4,e5];exact L.fn n (Ae _) g dg hdg ag fdg pg Dg
 nom:=λg ga hg hn=>by
  obtain⟨dg,hdg⟩:=BJ.mp hg;cases e:isM g with
  |false=>rfl
  |true=>
   obtain⟨c,m,rfl,_,_,M⟩:=hA.mts g dg hdg e;rw[e3,M.nom]at hn;cases hn
 cls:=by rw[e3];exact hA.cls
 mth:=λm c Ca hc hg=>by
  obtain⟨dg,hdg⟩:=BJ.mp hg;obtain⟨Ca',ag,fdg,pg,Dg,nsc,mgc,C1,M1,I1,_⟩:=(hA.mth hdg).ex;rw[e3,nsc]at hc;cases hc;refine⟨n,ag,fdg,pg,by rw[e3];exact C1,by rw[e3];exact M1,?_,hr,by rw[e3];exact Dg.binds⟩;rw[e1,e2,e3,e4,e5];exact L.fn n (Ae _) _ dg hdg ag fdg pg Dg
 mthd:=λm c Ca i hc hg hi=>by
  obtain⟨dg,hdg⟩:=BJ.mp hg;obtain⟨Ca',ag,fdg,pg,Dg,nsc,mgc,C1,M1,I1,D1⟩:=(hA.mth hdg).ex;rw[e3,nsc]at hc;cases hc;obtain⟨tk,hb⟩:=D1 i hi;refine⟨n,ag,fdg,pg,tk,by rw[e3];exact C1,by rw[e3];exact M1,?_,hr,by rw[e3];exact hb⟩;rw[e1,e2,e3,e4,e5];exact L.fn n (Ae _) _ dg hdg ag fdg pg Dg
 mks:=λc hg=>by
  simp only[Az]at hg;obtain⟨dg,hdg⟩:=BJ.mp hg.2;obtain⟨Ca',ag,fdg,pg,Dg,nsc,mgc,C1,M1,I1,_⟩:=(hA.mth hdg).ex;cases n with
  |zero=>exact absurd hg.1 AK
  |succ m=>
   refine⟨Ca',m,ag,fdg,pg,by rw[e3];exact nsc,by rw[e3];exact I1 rfl,?_,hr,by rw[e4];exact mgc,by rw[e3];exact Dg.binds⟩;rw[e1,e2,e3,e4,e5];exact L.fn m (HG _) _ dg hdg ag fdg pg Dg
 tabs:=by rw[e1,e2,e3,e4];exact hA.tabs
 cst:=by rw[e3,e4];exact hA.cst
 isc:=by rw[e3,e4];exact hA.isc
 kt:=hA.kt
 lam:=lam
 mtE:=λe sc N x h1 h2=>mt _ _ _ _ ⟨h2,e,rfl,h1⟩
 clo:=λz np N b cs fa fd ps cf=>⟨n,by rw[e1,e2,e3,e4,e5];exact L.clo z np N b cs fa fd ps cf,hr⟩
def a57:LvOk Pr w K mg base P G 0:=by
 refine⟨λm hm f d hf a fd ps D=>?_,λ_ np N b cs fa fd ps cf=>?_⟩
 ·obtain rfl:m=0:=by lia
  have no:∀vs H Q E,¬u9 K (sem P G 0 f) vs H Q E:=λvs H Q E h=>by
   obtain⟨ds,s0,Qd,_,_,h,_⟩:=h;exact h
  exact⟨λvs H Q E h=>absurd h (no vs H Q E),λA outer s H args us vs Q E _ _ _ _ h=>absurd h (no vs H Q E)⟩
 ·have no:∀vs H Q E,¬V9 K fa fd np N cs (T0 P G 0 np N b cs) vs H Q E:=λvs H Q E h=>by
   obtain⟨us0,ds,st,Qd,_,_,_,_,h,_⟩:=h;exact h
  exact⟨λvs H Q E h=>absurd h (no vs H Q E),λA outer s H args us vs Q E _ _ _ _ h=>absurd h (no vs H Q E)⟩
def ax7{n:Nat}(hA:AllOk Pr w K mg P G)(hb0:N5 mg base)(hK0:K.In base)(mt:∀b sc N fb,mFB b sc N fb↔Tbs.mt b sc N fb)(L:LvOk Pr w K mg base P G n)(LX:LvOk Pr w K mg base P (rsG G) n):LvOk Pr w K mg base P G (n+1):=by
 have hmS:∀(b:Ss)(sc:BR)(N:List Str)(l:List BG),mSs b sc N l=AC->N.contains p0=AF->Tbs.mt b sc N (.stmts l):=λb sc N l h1 h2=>(mt _ _ _ _).mp ⟨h2,h1⟩;refine⟨λm hm f d hf a fd ps D=>?_,λhz np N b cs fa fd ps cf=>?_⟩
 ·by_cases hmn:m<=n
  ·exact L.fn m hmn f d hf a fd ps D
  obtain rfl:m=n+1:=by lia
  obtain⟨st,x,F,S⟩:=D.ex;refine cl0 F S.sc (λvs H Q E h=>?_) (λA outer s H vs Q E hr h=>?_)
  ·obtain⟨ds,s0,Qd,is,_,hs,_⟩:=h;obtain⟨d',hd',hl,_⟩:=hs;rw[hf]at hd';cases hd';rw[<-is.len,hl,S.np]
  ·obtain⟨ds,s0,Qd,is,rs,hs,hq⟩:=h;obtain⟨d',hd',hl,hb⟩:=hs;rw[hf]at hd';cases hd';have hX:XOk (Zl P G n) (cxF G.rs Pr w K mg base d.N f (o0 st) a fd.code A outer s H):=bc9 hA L LX rfl rfl rfl rfl rfl hr rfl bc4.passes S.sc.nd (λhl=>by
    obtain⟨c,P',e1,e2,e3⟩:=D.lam hl;refine⟨⟨⟨c,P',e1,KU hK0 e2,e3⟩,hb0⟩,λx hx=>⟨?_,rfl⟩⟩;show(!(d.N.contains (v5 x)))=AF;have hx':d.N.contains (v5 x)=AC:=hx;rw[hx'];rfl) λb sc N fb=>(mt b sc N fb).mp
   have hF:HF (cxF G.rs Pr w K mg base d.N f (o0 st) a fd.code A outer s H):=λy _ hy=>.inl (by
    show(!(d.N.contains (v5 y)))=AC;have hy':d.N.contains (v5 y)=AF:=hy;rw[hy'];rfl)
   refine⟨_,bp1 _ hmS hX hF bc4.frs d.body _ S.body,ab1 d ds,s0,_,bz8 is,rs,hb,λenv σ H' st' ev hE hS q=>?_,λenv σ H' st' ev hE hS q=>q.elim,λenv σ H' st' ev hE hS q=>q.elim,λv e H' st' ev is' rs' q=>?_⟩
   ·obtain⟨s2,sub,q⟩:=q;exact hq _ .non H' s2 (ev.drop sub) .non (hS.sub sub) q
   ·obtain⟨s2,sub,q⟩:=q;exact hq v e H' s2 (ev.drop sub) is' (rs'.sub sub) q
 ·refine cq0 (Z:=Zl P G n) cf λq A outer s H hr=>?_;obtain⟨hnl,hfb⟩:=(mt _ _ _ _).mpr cf.mt;have hX:XOk (Zl P G n) (cxC Pr w K mg base N fd.scope fd.closure q fa fd.code A outer s H):=bc9 hA L LX rfl rfl rfl rfl rfl hr rfl (λ_ _ _ _ _ _ _ c=>absurd (hz▸c.1) AK) cf.sc.nd (λhl=>by
   have hl':N.contains p0=AC:=hl;rw[hnl]at hl';cases hl') λb sc N fb=>(mt b sc N fb).mp
  have hF:HF (cxC Pr w K mg base N fd.scope fd.closure q fa fd.code A outer s H):=λy hy _=>by
   have hy':fd.scope.names.lookup y=AA .local\/fd.scope.names.lookup y=AA .cell:=hy
   rcases hy' with z|z
   ·exact .inr z
   ·exact absurd rfl (cf.sc.nocell _ (PySem.mem_of_lookup z))
  have hR:FrS (cxC Pr w K mg base N fd.scope fd.closure q fa fd.code A outer s H) G.rs:=⟨rfl,rfl,PassesOwn.never,λe=>by rw[hz]at e;cases e⟩;cases hb:fd.body with
  |stmts l=>rw[hb]at hfb;exact J7 _ hmS b _ l hX hF hR hfb
  |expr x=>
   rw[hb]at hfb;obtain⟨e,rfl,he⟩:=hfb;exact⟨e,rfl,(b9 _ e _ x hX he).v⟩
theorem a85(hA:AllOk Pr w K mg P G)(hb0:N5 mg base)(hK0:K.In base)(mt:∀b sc N fb,mFB b sc N fb↔Tbs.mt b sc N fb):∀n,LvOk Pr w K mg base P G n/\LvOk Pr w K mg base P (rsG G) n
 |0=>⟨a57,a57⟩
 |n+1=>let⟨a,b⟩:=a85 hA hb0 hK0 mt n;⟨ax7 hA hb0 hK0 mt a b,ax7 hA.rsG hb0 hK0 mt b b⟩
def ci0(hA:AllOk Pr w K mg P G)(hb0:N5 mg base)(hK0:K.In base)(mt:∀b sc N fb,mFB b sc N fb↔Tbs.mt b sc N fb)(n:Nat):LvOk Pr w K mg base P G n:=(a85 hA hb0 hK0 mt n).1
end
abbrev st0(a:AM)(ns:List Int):Sto:=λb=>if b=a then AA (.fro (ns.map D.int))else AE
theorem at2{K:AS}:∀ns:List Int,IsDs K H (ns.map D.int) (ns.map V.int)
 |[]=>.nil
 |n::r=>.cons (.int n) (at2 r)
abbrev P4(K:AS):Bool:=K.all λp=>!(p.2.cls==.type "list")
def aq7{K:AS}{o:Obj}(h:P4 K=AC)(e:K.lookup a=AA o):o.cls≠.type "list":=by
 unfold P4 at h;rw[Ec]at h;have hm:(a,o)∈K:=by
  induction K with
  |nil=>cases e
  |cons p r ih=>
   obtain⟨b,x⟩:=p;rw[Gy]at e;cases q:a==b with
   |true=>rw[q]at e;cases e;rw[beq_iff_eq.mp q];exact CL
   |false=>rw[q]at e;exact BQ _ (ih (λp hp=>h p (BQ _ hp)) e)
 have:=h _ hm;simpa using this
end Ek
namespace Ek
open PySem PySem.Spec PyProof.Rows L2
def bx4{P:Aj}{w:BA}{K:AS}{mg mb:Str->Option AI}{k:Nat}{fa a:AM}{fd:By}{x:Str}{sp:Sp}{s₁:AL}{vs:List AI}{ns:List Int}{ts:List AM}
  (KX:K.In s₁.heap) (hns:s₁.heap.Ns AO mg) (hb:s₁.heap.Ns DQ mb) (hbb:∀x:Str,x≠"__name__"->mb x=BU x) (hlim:s₁.heap.NoLimit) (hbm:N5 mg s₁.heap) (hg:s₁.gens=#[])
  (ha:s₁.heap.get? a=AA {cls:=.type "list",data:=.seq vs.toArray}) (hi:GR vs ns) (hl:ns.length<=sizeLine) (hr:Room k HK)
  (hT:∀P∈ts,s₁.heap.get? P=AA (W.tabObj #[])/\isCodeTable s₁.heap P) (hKt:∀P∈ts,K.lookup P=AE) (hKa:K.lookup a=AE)
  (F:∀base:Ay,K.In base->base.Ns AO mg->N5 mg base->FnOk P w K mg base CX0 k fa fd [x] sp) (hbind:∀(s:AL)(u:AI),BindsTo s fd ⟨[u],[]⟩ [(x,u)])
  (hsp:∀H:Hp,(∀P∈ts,H P=AA (.tbl #[]))->SqL K H a (ns.map V.int)->sp [.ref a] H (λv _=>v=.bl AC) λ_ _ _=>False) :
  Ea (model P w) HK (.call (.ref fa) ⟨[.ref a],[]⟩) (λr s'=>r=.ok (.ret (.bool AC))/\OldK s₁.heap s'.heap/\s'.os=s₁.os/\EZ s'.gens) s₁:=by
 have rv:=at0 hi;have naT:a∉ts:=λz=>by
  have:=(hT a z).1;rw[ha]at this;cases this
 let H:Hp:=λb=>if b=a then AA (.frz {cls:=.type "list",data:=.seq vs.toArray} (.lst (ns.map V.int)))else if b∈ts then AA (.tbl #[])else AE
 have Ha:H a=AA (.frz {cls:=.type "list",data:=.seq vs.toArray} (.lst (ns.map V.int))):=if_pos rfl;have Ht:∀P∈ts,H P=AA (.tbl #[]):=λP hP=>by
  have ne:P≠a:=λz=>naT (z▸hP);show(if P=a then _ else if P∈ts then _ else _)=_;rw[if_neg ne,if_pos hP]
 have Hc:∀b u,H b=AA u->b=a\/b∈ts:=λb u e=>by
  by_cases h1:b=a
  ·exact .inl h1
  ·by_cases h2:b∈ts
   ·exact .inr h2
   ·have e':(if b=a then AA (HO.frz {cls:=.type "list",data:=.seq vs.toArray} (.lst (ns.map V.int)))else if b∈ts then AA (.tbl #[])else AE)=AA u:=e;rw[if_neg h1,if_neg h2]at e';cases e'
 have hok:HOk P w H s₁.heap:=λb u e=>by
  rcases Hc b u e with rfl|hb
  ·rw[Ha]at e;cases e;exact⟨ha,by rw[Am];exact hl,vs,_,rv,ha⟩
  ·rw[Ht b hb]at e;cases e;exact(hT b hb).1
 have B5:∀{b:AM}{o:Obj},s₁.heap.get? b=AA o->H b=AE->(C6 s₁.heap H).get? b=AA o:=λe n=>au2 e n;have none_of:∀b o,s₁.heap.get? b=AA o->(∀xs n,o.data≠.seq xs n)->(∀xs,o.data≠.fields xs)->H b=AE:=λb o e n1 n2=>by
  cases q:H b with
  |none=>rfl
  |some u=>
   rcases Hc b u q with rfl|hb
   ·rw[ha]at e;cases e;exact absurd rfl (n1 _ _)
   ·rw[(hT b hb).1]at e;cases e;exact absurd rfl (n2 _)
 have nsK:∀{b:AM}{m:Str->Option AI},s₁.heap.Ns b m->(C6 s₁.heap H).Ns b m:=λ{b m}⟨o,es,ep,e,d,r⟩=>⟨o,es,ep,B5 e (none_of b o e (by rw[d];exact λ_ _=>nofun) (by rw[d];exact λ_=>nofun)),d,r⟩;have hKb:K.In (C6 s₁.heap H):=λb o e=>B5 (KX b o e) (by
  cases q:H b with
  |none=>rfl
  |some u=>
   rcases Hc b u q with rfl|hb
   ·rw[hKa]at e;cases e
   ·rw[hKt b hb]at e;cases e)
 have hBb:N5 mg (C6 s₁.heap H):=by
  obtain⟨bm,ob,b1,b2,b3,b4,b5,b6⟩:=hbm;exact⟨bm,ob,b1,b2,B5 b3 (none_of bm ob b3 (by rw[b6];exact λ_ _=>nofun) (by rw[b6];exact λ_=>nofun)),b4,b5,b6⟩
 have hM:Mod K mg (C6 s₁.heap H):=⟨hKb,nsK hns,⟨mb,nsK hb,hbb⟩,let⟨mc,h1,h2⟩:=hlim;⟨mc,nsK h1,h2⟩⟩;have e0:Env0 P w K mg (C6 s₁.heap H) HK [] s₁ H:=⟨rfl,hM,λb o e=>a48 e,Ju (bz0 _ _),trivial,λb hb=>absurd (show b∈([]:List AM) from hb) ∎,hok,.of_eq hg⟩;refine ED ((F _ hKb (nsK hns) hBb).run HK [] s₁ H ⟨[.ref a],[]⟩ [.ref a] [.ref a] _ _ hr e0 (hbind s₁ (.ref a)) (.cons rfl .nil) (hsp H Ht (.inl (.inr ⟨_,Ha⟩)))) λr s' h=>?_;cases r with
 |error e=>exact Aa h
 |ok fl=>
  cases fl with
  |next=>exact Aa h
  |brk=>exact Aa h
  |cont=>exact Aa h
  |ret u=>
   obtain⟨v,H',os,bare,un,hok',r',q⟩:=h;have q':v=.bl AC:=q;subst q';obtain rfl:u=ET AC:=r';refine⟨rfl,⟨λb o e=>?_,λb o e=>un.there b o e ∎⟩,os,bare⟩;cases q:H b with
   |none=>exact .inl (un.keep b o e q (by intro z;exact absurd (show b∈([]:List AM) from z) ∎) ∎)
   |some u=>
    rcases Hc b u q with rfl|hb
    ·rw[Ha]at q;cases q;have z2:=un.frzs b _ _ Ha;obtain⟨e2,_⟩:=hok' b _ z2;rw[ha]at e;cases e;exact .inl e2
    ·obtain⟨t1,t2⟩:=hT b hb;rw[t1]at e;cases e;obtain⟨more,z⟩:=un.tbls b _ (Ht b hb);have e2:=hok' b _ z;exact .inr (.inl ⟨t2,rfl,#[],more,rfl,e2⟩)
def bt4 [Tbs]{K:AS}{h:Ay}{a:AM}{o:Obj}(X:K.In h)(hn:P4 K=AC)(e:h.get? a=AA o)(hc:o.cls=.type "list"):K.lookup a=AE:=by
 cases q:K.lookup a with
 |none=>rfl
 |some o'=>
  have:=X a o' q;rw[e]at this;cases this;exact absurd hc (aq7 hn q)
def cg1{P:Aj}{w:BA}{K:AS}{mg:Str->Option AI}{base:Ay}{k:Nat}{f:AM}{fd:By}{ps:List Str}{sp:Sp}{b:Bool}(hb:b=AF)(F:FnOk P w K mg base (CXb K b) k f fd ps sp):FnOk P w K mg base CX0 k f fd ps sp:=⟨F.len,λA outer s H args us vs Q E h1 h2 h3 h4 h5=>ED (F.run A outer s H args us vs Q E h1 h2 h3 h4 h5) λr s' q=>by
 cases r with
 |ok fl=>cases fl<;>exact q
 |error e=>exact absurd (hb▸q.1) AK⟩
def b79{l:W.OpenLaw}{q:Aj}{loose:List Str}{XP:(Str->Option AI)->Ay->Prop}{YP:BA->Ay->Prop}{d:DefRec}{K:Params->AS}{P:d6}{G:Gs}{n:Nat}{x:Str}{dl:Def}{ts:List AM}
  (hn:l.most=AA 63) (hdf:d.params.defaults=[]) (hdn:d.name="law") (hr:Room n HK) (hY:∀(w:BA)(h:Ay),YP w h->(K w.params).In h/\∀P∈ts,h.get? P=AA (W.tabObj #[])) (hl:P "law"=AA dl)
  (hst:∀st ps,Stat0 st dl ps->ps=[x])
  (F:∀(w:BA)(mg:Str->Option AI)(h:Ay),(K w.params).In h->h.Ns AO mg->(letI:Tbs:=⟨ts,mFB,(G.cls "!kt").isEmpty⟩;AllOk l.prog w (K w.params) mg P G)/\P4 (K w.params)=AC/\IQ (K w.params)=AC/\∀P∈ts,∃c,Dl (K w.params) c P=AC)
  (hrs:G.rs=AF) (core:∀(a:AM)(ns:List Int),ns.length<=63->sem P G n "law" [.ref a] (st0 a ns) λd _=>d=.bl AC) :
  W.WalkO q loose XP YP l.row.toRowW d [] (λf vs=>PySem.call f vs):=by
 letI:Tbs:=⟨ts,mFB,(G.cls "!kt").isEmpty⟩
 refine Att.attach_call hn hdf λw s₀ s₁ mg mb fa o pm cd doc a vs ns GG Y ho hd hcd hmg hobj hints hlen hg=>?_;obtain⟨KX,hTs⟩:=hY w _ Y;obtain⟨hA,hNL,hNT,hC⟩:=F w mg _ KX GG.T.g;obtain⟨ad,fd,ps,Df,mf,_,hbd⟩:=(hA.fns "law" dl hl (by decide+kernel)).ex;obtain⟨st,y,Ff,Sf⟩:=Df.ex;have e:=hst st ps Sf;subst e;rw[hdn]at hmg;have ea:fa=ad:=by rw[hmg]at mf;cases mf;rfl
 subst ea;have hKa:(K w.params).lookup a=AE:=bt4 KX hNL hobj rfl;refine bx4 (ts:=ts) (sp:=u9 (K w.params) (sem P G n "law")) KX GG.T.g GG.T.b GG.T.builtins GG.T.nolimit GG.T.bmain hg hobj hints (Ag hlen ∅) hr (λP hP=>⟨hTs P hP,?_⟩) (λP hP=>?_) hKa (λbase hb hbg hbm=>cg1 hrs ((ci0 hA hbm hb (λ_ _ _ _=>Iff.rfl) n).fn n (Ae _) "law" dl hl fa fd [x] Df)) (λs u=>.of_eq (hbd [u] rfl)) (λH hH hS=>?_)
 ·obtain⟨c,hc⟩:=hC P hP;exact((KU KX hc).tab (hTs P hP)).isCodeTable
 ·cases qq:(K w.params).lookup P with
  |none=>rfl
  |some o'=>
   have z:=KX P o' qq;rw[hTs P hP]at z;cases z;unfold IQ at hNT;rw[Ec]at hNT;exact absurd (hNT _ (W.mem_of_lookupK qq)) AK
 ·refine⟨[.ref a],st0 a ns,_,.cons (.ref a) .nil,⟨λb o e=>?_,λP hP=>⟨#[],hH P hP,trivial,λpos cv z=>by cases z⟩⟩,core a ns hlen,λv d' H' st' ev is rs q=>?_⟩
  ·unfold st0 at e
   split at e
   ·rename_i hb;cases e;subst hb
    rcases hS with hS|⟨ob,its,m,hk,hc,_⟩
    ·exact⟨_,hS,at2 ns⟩
    ·exact absurd hc (aq7 hNL hk)
   ·cases e
  ·have q':d'=.bl AC:=q;subst q';cases is;rfl
abbrev b87(P:AM)(o:Obj):Bool:=match o with
 |⟨.type "code",_,.fields vs,_⟩=>(match(vs[11]?:Option AI)with|some (.ref P')=>P'==P|_=>AF)
 |_=>AF
abbrev an1(K:AS)(ts:List AM):Bool:=ts.all λP=>match K.find? λp=>b87 P p.2 with
 |some p=>Dl K p.1 P
 |none=>AF
def b77{K:AS}{ts:List AM}(h:an1 K ts=AC):∀P∈ts,∃c,Dl K c P=AC:=λP hP=>by
 unfold an1 at h;rw[Ec]at h;have:=h P hP
 split at this
 ·exact⟨_,this⟩
 ·cases this
end Ek
namespace Ek
open PySem L2
def ae9(s:String):AD s=⟨(s.toList.map Dx).toArray⟩:=by
 unfold AD;rw[cpsOfBytes_string]
def bu0:∀(x y:Char),x.toNat=y.toNat->x=y:=λx y h=>Char.ext (UInt32.toNat_inj.mp h)
theorem aq4:∀(a b:List Char),a.map Dx=b.map Dx->a=b
 |[],[],_=>rfl
 |[],_::_,h=>by simp at h
 |_::_,[],h=>by simp at h
 |x::a,y::b,h=>by
  simp only[AV,BO]at h;rw[bu0 x y h.1,aq4 a b h.2]
def o9{a b:String}:(AD a=AD b)=(a=b):=by
 refine propext ⟨λh=>?_,λh=>by rw[h]⟩;rw[ae9,ae9]at h;simp only[Str.mk.injEq]at h;have h':a.toList.map Dx=b.toList.map Dx:=by simpa using h
 exact String.toList_inj.mp (aq4 _ _ h')
def d8(s:String):(D.str (AD s)).pure=AC:=by
 show FU (AD s)=AC;unfold FU;rw[ae9];simp only[List.all_toArray,List.all_map,Ec];intro c _;have h:=c.valid;simp only[UInt32.isValidChar,Nat.isValidChar]at h;simp only[Function.comp_apply,decide_eq_true_eq];show c.val.toNat<1114112;lia
variable{L:List AM}{st st':Sto}{a b c e:E}{p:AM}{o u:Ob}{Q:DK}{P:d6}{G:Gs}{f g:Str}{i:Nat}{es:Es}
abbrev Kp(L:List AM)(st st':Sto):Prop:=∀b o,b∉L->st b=AA o->st' b=AA o
def Kp.refl:Kp L st st:=λ_ _ _ h=>h
def Kp.trans{a b c:Sto}(x:Kp L a b)(y:Kp L b c):Kp L a c:=λd o n h=>y d o n (x d o n h)
def Kp.more{M:List AM}{a b:Sto}(x:Kp L a b)(s:∀d∈L,d∈M):Kp M a b:=λd o n h=>x d o (λz=>n (s d z)) h
def Kp.new(x:Kp L st st')(h:st' p=AE):Kp L st (b0 st' p o):=λd u n e=>by
 have e':=x d u n e;rw[g6 (λz=>by rw[z,h]at e';cases e')];exact e'
def Kp.put(x:Kp L st st')(h:p∈L):Kp L st (b0 st' p o):=λd u n e=>by
 rw[g6 (λz=>n (by rw[z];exact h))];exact x d u n e
def Kp.at'{b:AM}(x:Kp L st st')(h:st b=AA o)(n:b∉L):st' b=AA o:=x b o n h
def d7{a:AM}(h:st a=AA o)(hp:st p=AE):b0 st p u a=AA o:=by
 rw[g6 (λz=>by rw[z,hp]at h;cases h)];exact h
def A9{a:AM}(h:st a=AA o)(hp:st p=AE):a≠p:=λz=>by rw[z,hp]at h;cases h
def d5{a:AM}(h:st a=AA o)(n:a≠p):b0 st p u a=AA o:=by
 rw[g6 n];exact h
abbrev f8(st:Sto)(a:AM):Prop:=∃l:List Int,st a=AA (.lst (l.map .int))
def f8.keep{b:AM}(h:f8 st b)(x:Kp L st st')(n:b∉L):f8 st' b:=let⟨l,e⟩:=h;⟨l,x.at' e n⟩
def f8.new{b:AM}(h:f8 st b)(hp:st p=AE):f8 (b0 st p u) b:=let⟨l,e⟩:=h;⟨l,d7 e hp⟩
def f8.ne{b:AM}(h:f8 st b)(hp:st p=AE):b≠p:=let⟨l,e⟩:=h;A9 e hp
abbrev e8(Q:DK):DEnds:={nx:=λ_ st'=>∃s2,Sub s2 st'/\Q .non s2,rt:=λd st'=>∃s2,Sub s2 st'/\Q d s2}
def b8{d:D}(h:Q d st):(e8 Q).rt d st:=⟨st,Sub.refl st,h⟩
@[reducible]noncomputable def Zg(P:d6)(G:Gs)(n:Nat):Sg:=⟨λf=>(P f).isSome,sem P G n,G.tab,G.cls,(C3 P G n).2.1,λf=>(C3 P G n).2.2.1&&(P f).isSome,T0 P G n,G.cst,G.rs,sem P (rsG G) n⟩
def d4{n:Nat}{fd:Def}{ds:List D}(hP:P f=AA fd)(hl:ds.length=fd.np)(env:d9)(he:ab1 fd ds=env)
  (h:c9 (Zg P G n) fd.body (e8 Q) env st):sem P G (n+1) f ds st Q:=by
 rw[b60];exact⟨fd,hP,hl,by rw[he];exact h⟩
section
variable {Z:Sg} {F:DEnds} {env:d9} 
def a94{s:S}{r:Ss}:c9 Z (.cons s r) F env st=wpS Z s ⟨c9 Z r F,F.rt,F.bk,F.ct⟩ env st:=rfl
def bi4:c9 Z .nil F env st=F.nx env st:=rfl
def be7:wpS Z (.set i e) F env st=wpE Z e env st λd st1=>F.nx (env.set i (AA d)) st1:=rfl
def bk8:wpS Z (.pre i) F env st=∀p,st p=AE->F.nx (env.set i (AA (.ref p))) (b0 st p (.dct [])):=rfl
def bl3{o i v:E}:wpS Z (.put o i v) F env st=wpE Z v env st λd st1=>wpE Z o env st1 λx st2=>wpE Z i env st2 λy st3=>∃a j k ds,x=.ref a/\y=.int j/\st3 a=AA (.lst ds)/\ixN ds.length j=AA k/\F.nx env (b0 st3 a (.lst (ds.set k d))):=rfl
def bp5:wpS Z (.ex e) F env st=wpE Z e env st λ_ st1=>F.nx env st1:=rfl
def bg5{a b:Ss}:wpS Z (.iff c a b) F env st=wpE Z c env st λd st1=>∃k,d=.bl k/\if k=AC then c9 Z a F env st1 else c9 Z b F env st1:=rfl
def bf3:wpS Z (.ret e) F env st=wpE Z e env st F.rt:=rfl
def ba8:wpS Z .retN F env st=F.rt .non st:=rfl
def bh1{t:Tg}{it:It}{b:Ss}:wpS Z (.for t it b) F env st=w4 Z it env st λitems chk st1=>o4 chk t (c9 Z b) F items env st1:=rfl
def a67:wpS Z .cont F env st=F.ct env st:=rfl
def bb6:wpS Z .pass F env st=F.nx env st:=rfl
def bl6:wpE Z .non env st Q=Q .non st:=rfl
def bp4{b:Bool}:wpE Z (.bl b) env st Q=Q (.bl b) st:=rfl
def ak7{i:Int}:wpE Z (.int i) env st Q=Q (.int i) st:=rfl
def bj2{x:Str}:wpE Z (.str x) env st Q=Q (.str x) st:=rfl
def e_v:wpE Z (.v i) env st Q=∃d,env[i]?=AA (AA d)/\Q d st:=rfl
def bf7:wpE Z (.tup es) env st Q=l6 Z es env st λds st1=>Q (.tup ds) st1:=rfl
def bk3:wpE Z (.lst es) env st Q=l6 Z es env st λds st1=>∀p,st1 p=AE->Q (.ref p) (b0 st1 p (.lst ds)):=rfl
def bj1{o:Er}:wpE Z (.bin o a b) env st Q=wpE Z a env st λx st1=>wpE Z b env st1 λy st2=>v0 o x y st2 Q:=rfl
def bj4:wpE Z (.neg a) env st Q=wpE Z a env st λx st1=>∃i,x=.int i/\Q (.int (-i)) st1:=rfl
def bf8{o:Dm}:wpE Z (.cmp o a b) env st Q=wpE Z a env st λx st1=>wpE Z b env st1 λy st2=>j6 o x y st2 Q:=rfl
def bf9:wpE Z (.isN a) env st Q=wpE Z a env st λx st1=>(x=.non/\Q (.bl AC) st1)\/(x≠.non/\Q (.bl AF) st1):=rfl
def bl7:wpE Z (.and a b) env st Q=wpE Z a env st λx st1=>∃c,x=.bl c/\(if c=AC then wpE Z b env st1 Q else Q (.bl AF) st1):=rfl
def bp2:wpE Z (.or a b) env st Q=wpE Z a env st λx st1=>∃c,x=.bl c/\(if c=AC then Q (.bl AC) st1 else wpE Z b env st1 Q):=rfl
def bg1:wpE Z (.not a) env st Q=wpE Z a env st λx st1=>∃c,x=.bl c/\Q (.bl (!c)) st1:=rfl
def bf5:wpE Z (.ite c a b) env st Q=wpE Z c env st λx st1=>∃k,x=.bl k/\(if k=AC then wpE Z a env st1 Q else wpE Z b env st1 Q):=rfl
def bo7:wpE Z (.ix a b) env st Q=wpE Z a env st λx st1=>wpE Z b env st1 λy st2=>ixR x y st2 Q:=rfl
abbrev bnd(Z:Sg)(e:E)(env:d9)(st:Sto):(Option Int->Sto->Prop)->Prop:=if e.isNon=AC then λk=>k AE st else λk=>wpE Z e env st λd st'=>∃i,d=.int i/\k (AA i) st'
def ay5{k:Option Int->Sto->Prop}:bnd Z .non env st k=k AE st:=rfl
def G1{k:Option Int->Sto->Prop}(h:e.isNon=AF):bnd Z e env st k=wpE Z e env st λd st'=>∃i,d=.int i/\k (AA i) st':=by
 unfold bnd;rw[h];rfl
def a03{i:Int}{k:Option Int->Sto->Prop}:bnd Z (.int i) env st k=k (AA i) st:=by
 rw[G1 rfl,ak7];exact propext ⟨λ⟨_,h,q⟩=>by cases h;exact q,λq=>⟨_,rfl,q⟩⟩
def bp6{lo hi:E}:wpE Z (.sl a lo hi) env st Q=wpE Z a env st λx st1=>bnd Z lo env st1 λl st2=>bnd Z hi env st2 λh st3=>slR x l h st3 Q:=rfl
def bb1{ks:List Str}{vs:Es}{k:E}:wpE Z (.dsel ks vs k) env st Q=l6 Z vs env st λds st1=>wpE Z k env st1 λx st2=>∃w d,x=.str w/\g8 (ks.zip ds) w=AA d/\Q d st2:=rfl
def a68{k:E}:wpE Z (.gsel g k) env st Q=(Z.G g≠[]/\wpE Z k env st λx st1=>∃w d,x=.str w/\g8 (Z.G g) w=AA d/\Q d st1):=rfl
def bj9:wpE Z (.len a) env st Q=wpE Z a env st λx st1=>S8 x st1 Q:=rfl
def bl0:wpE Z (.abs a) env st Q=wpE Z a env st λx st1=>∃i,x=.int i/\Q (.int (if i<0 then -i else i)) st1:=rfl
def a34:wpE Z (.toInt a) env st Q=wpE Z a env st λx st1=>V4 x st1 Q:=rfl
def bk1:wpE Z (.sum a) env st Q=wpE Z a env st λx st1=>ad8 x st1 Q:=rfl
def a00:wpE Z (.tuple a) env st Q=wpE Z a env st λx st1=>Q1 x st1 Q:=rfl
def bj5:wpE Z (.max a b) env st Q=wpE Z a env st λx st1=>wpE Z b env st1 λy st2=>∃i j,x=.int i/\y=.int j/\Q (.int (if j>i then j else i)) st2:=rfl
def a87:wpE Z (.call f es) env st Q=(Z.F f=AC/\l6 Z es env st λds st1=>Z.Phi f ds st1 Q):=rfl
def bq5:wpE Z (.gf f) env st Q=(Z.F f=AC/\Q (.fn f) st):=rfl
def bi6:wpE Z (.fld a f) env st Q=wpE Z a env st λx st1=>∃p c fs d,x=.ref p/\st1 p=AA (.ins c fs)/\f∈Z.C c/\fs.lookup f=AA d/\Q d st1:=rfl
def a81{m:Str}:wpE Z (.meth a m es) env st Q=wpE Z a env st λx st1=>∃p c fs,x=.ref p/\st1 p=AA (.ins c fs)/\fs.lookup m=AE/\Z.F (d0 c m)=AC/\l6 Z es env st1 λds st2=>Z.Phi (d0 c m) (.ref p::ds) st2 Q:=rfl
def a78{c:Str}:wpE Z (.make c es) env st Q=(Z.MF (d0 c "__init__")=AC/\l6 Z es env st λds st1=>∀p,st1 p=AE->Z.Mk (d0 c "__init__") (.ref p::ds) (b0 st1 p (.ins c [])) λv st2=>v=.non/\Q (.ref p) st2):=rfl
def bd3{o v:E}:wpS Z (.fldS o f v) F env st=wpE Z v env st λd st1=>wpE Z o env st1 λx st2=>∃p c fs,x=.ref p/\st2 p=AA (.ins c fs)/\f∈Z.C c/\fs.length<1000/\F.nx env (b0 st2 p (.ins c (N7 f d fs))):=rfl
def a41:wpS Z .raise F env st=(Z.X=AC/\Z.C "!ix"≠[]):=rfl
def a73{w t c e:Nat}{h:Str}:wpS Z (.try3 w t f g h i c e) F env st=(Z.C "!ix"≠[]/\∃k s,env[w]?=AA (AA (.int k))/\env[t]?=AA (AA (.str s))/\Z.F (tr3 f g h k)=AC /\
   ((Z.X=AF/\Z.Phi (tr3 f g h k) [.str s] (λ_=>AE) λd _=>F.nx (env.set i (AA d)) st)\/
     (Z.T (tr3 f g h k) [.str s] (λ_=>AE) (λd _=>F.nx (env.set i (AA d)) st)/\∀a,st a=AE->F.nx ((env.set e AE).set c (AA (.ref a))) (b0 st a .exc)))):=rfl
def bg7{c:Str}:wpE Z (.isX c a) env st Q=(c∈Z.C "!ix"/\wpE Z a env st λx st1=>∃a,x=.ref a/\st1 a=AA .exc/\Q (.bl (c=="NoText")) st1):=rfl
def ay6:wpE Z (.callv i es) env st Q=∃x,env[i]?=AA (AA x)/\W8 Z (l6 Z es env) st Q x:=rfl
def bi0{ta:Sto->(List D->Sto->Prop)->Prop}:W8 Z ta st Q (.fn f)=(Z.F f=AC/\ta st λds st1=>Z.Phi f ds st1 Q):=rfl
def ba3{n:Nat}[NoRs G]{ta:Sto->(List D->Sto->Prop)->Prop}{np:Nat}{N:List Str}{b:Ss}{cs:List D}:W8 (Zg P G n) ta st Q (.clo np N b cs)=ta st λds st1=>T0 P G n np N b cs ds st1 Q:=propext ⟨λz=>z.2,λz=>⟨NoRs.no,z⟩⟩
abbrev ad3(env:d9):List Nat->(List D->Prop)->Prop
 |[],k=>k []
 |i::is,k=>∃d,env[i]?=AA (AA d)/\ad3 env is λds=>k (d::ds)
def av3{k:List D->Prop}:ad3 env [] k=k []:=rfl
def as3{is:List Nat}{k:List D->Prop}:ad3 env (i::is) k=∃d,env[i]?=AA (AA d)/\ad3 env is λds=>k (d::ds):=rfl
def bn7:wpE Z (.gc g) env st Q=∃d,Z.Kc g=AA d/\Q d st:=rfl
def be4{ks:List Str}{vs:Es}:wpE Z (.dict ks vs) env st Q=l6 Z vs env st λds st1=>∀p,st1 p=AE->Q (.ref p) (b0 st1 p (.dct ((ks.zip ds).map λkv=>(.inr kv.1,kv.2)))):=rfl
def bc1{ne:Bool}:wpE Z (.cmpl ne a b) env st Q=wpE Z a env st λx st1=>wpE Z b env st1 λy st2=>J9 ne x y st2 Q:=rfl
def bg9:wpE Z (.app a b) env st Q=wpE Z a env st λx st1=>z6 x st1/\wpE Z b env st1 λy st2=>ae0 x y st2 Q:=rfl
def bl2:wpE Z (.ext a b) env st Q=wpE Z a env st λx st1=>z6 x st1/\wpE Z b env st1 λy st2=>ad4 x y st2 Q:=rfl
def a04:wpE Z (.popAt a b) env st Q=wpE Z a env st λx st1=>z6 x st1/\wpE Z b env st1 λy st2=>aj6 x y st2 Q:=rfl
def bl1:wpE Z (.pop a) env st Q=wpE Z a env st λx st1=>X1 x st1 Q:=rfl
def bi9:wpE Z (.cat a b) env st Q=wpE Z a env st λx st1=>wpE Z b env st1 λy st2=>∃i j,x=.str i/\y=.str j/\i.length+j.length<=sizeLine/\Q (.str (i++j)) st2:=rfl
def bh7{lo hi:E}:wpE Z (.ssl a lo hi) env st Q=wpE Z a env st λx st1=>wpE Z lo env st1 λl st2=>∃i,l=.int i/\wpE Z hi env st2 λh st3=>∃j,h=.int j/\∃w,x=.str w/\w.length<=sizeLine/\Q (.str (Bf w (AA i) (AA j))) st3:=rfl
def bc5:wpE Z (.slen a) env st Q=wpE Z a env st λx st1=>∃w,x=.str w/\w.length<=sizeLine/\Q (.int w.length) st1:=rfl
def a64:wpE Z (.tstr a) env st Q=wpE Z a env st λx st1=>∃i:Int,x=.int i/\i.natAbs.log2<1920/\Q (.str (Dh i)) st1:=rfl
def a62:wpE Z (.sint a) env st Q=wpE Z a env st λx st1=>∃n:Int,x=.str (AD (Dh n))/\0<=n/\n<10^10/\Q (.int n) st1:=rfl
def bh8{ne:Bool}:wpE Z (.sin ne a b) env st Q=wpE Z a env st λx st1=>wpE Z b env st1 λy st2=>T3 ne x y st2 Q:=rfl
def bc2:wpE Z (.join a b) env st Q=wpE Z a env st λx st1=>∃z,x=.str z/\wpE Z b env st1 λy st2=>ab8 z y st2 Q:=rfl
def bh0{k d:E}:wpE Z (.sgt a k d) env st Q=wpE Z a env st λx st1=>an5 x st1/\wpE Z k env st1 λy st2=>wpE Z d env st2 λz st3=>an8 x y z st3 Q:=rfl
def bj8{c:Str}:wpE Z (.isC c a) env st Q=(c∈Z.C "!is"/\wpE Z a env st λx st1=>am3 c x st1 Q):=rfl
def a66:wpE Z (.gnin a g) env st Q=(Z.G g≠[]/\wpE Z a env st λx st1=>∃w,x=.str w/\Q (.bl (!(g8 (Z.G g) w).isSome)) st1):=rfl
def az9:wpE Z (.index a b) env st Q=wpE Z a env st λx st1=>X5 x st1/\wpE Z b env st1 λy st2=>N2 x y st2 Q:=rfl
def bd6{Q:List D->Sto->Prop}:l6 Z .nil env st Q=Q [] st:=rfl
def az0{r:Es}{Q:List D->Sto->Prop}:l6 Z (.cons e r) env st Q=wpE Z e env st λd st1=>l6 Z r env st1 λds st2=>Q (d::ds) st2:=rfl
abbrev F7(Z:Sg)(c:E):DB:=if c.isNon=AC then λ_ st Q=>Q AC st else λenv st Q=>wpE Z c env st λd st'=>∃b,d=.bl b/\Q b st'
def a98{n:Nat}[NoRs G]{Nc:List Str}{fr:List Nat}{k:Nat}{t:Tg}{it:It}:wpE (Zg P G n) (.comp Nc fr k t it c e) env st Q=w4 (Zg P G n) it env st λitems chk st1=>items.length<=1000000/\t8 chk t (F7 (Zg P G n) c) (λenv st Q=>wpE (Zg P G n) e env st Q) (λacc st'=>∀p,st' p=AE->Q (.ref p) (b0 st' p (.lst acc))) items [] (M6 fr k env) st1:=propext ⟨λz=>z.2,λz=>⟨NoRs.no,z⟩⟩
variable {k:ItK}
def bk4:w4 Z (.seq e) env st k=wpE Z e env st λd st1=>(∃ds,d=.tup ds/\k ds (λ_=>True) st1)\/(∃a ds,d=.ref a/\rdS st1 a ds/\k ds (λst'=>rdS st' a ds) st1):=rfl
def bf2:w4 Z (.rng a) env st k=wpE Z a env st λd st1=>∃j:Int,d=.int j/\(-(2^62)<=j/\j<2^62)/\k (i6 0 j.toNat) (λ_=>True) st1:=rfl
def a74:w4 Z (.rng2 a b) env st k=wpE Z a env st λd st1=>wpE Z b env st1 λe st2=>∃i j:Int,d=.int i/\e=.int j/\(-(2^62)<=i/\i<2^62/\-(2^62)<=j/\j<2^62)/\k (i6 i (j-i).toNat) (λ_=>True) st2:=rfl
def bc7:w4 Z (.enum e) env st k=wpE Z e env st λd st1=>(∃ds,d=.tup ds/\k (j8 0 ds) (λ_=>True) st1)\/(∃a ds,d=.ref a/\rdS st1 a ds/\k (j8 0 ds) (λst'=>rdS st' a ds) st1):=rfl
def bl4:w4 Z (.rev e) env st k=wpE Z e env st λd st1=>∃a ds,d=.ref a/\rdS st1 a ds/\k ds.reverse (λst'=>rdS st' a ds) st1:=rfl
end
end Ek
namespace Ek
open PySem L2
variable{i:Int}{lo:Option Int}{chk:Sto->Prop}{t:Tg}{env:d9}
section
variable {st:Sto} {Q:DK} {j:Int} {a p:AM} {ds es xs ys:List D} {x y d:D}
def bm8{a:D}{r:d9}{Q:D->Prop}:(∃d,(AA a::r)[0]?=AA (AA d)/\Q d)=Q a:=propext ⟨λ⟨_,h,q⟩=>by cases h;exact q,λq=>⟨a,rfl,q⟩⟩
def bn8{a:Option D}{r:d9}{i:Nat}{Q:D->Prop}:(∃d,(a::r)[i+1]?=AA (AA d)/\Q d)=∃d,r[i]?=AA (AA d)/\Q d:=by simp only[List.getElem?_cons_succ]
def bq8{a:D}{Q:D->Prop}:(∃d,AA (AA a)=AA (AA d)/\Q d)=Q a:=propext ⟨λ⟨_,h,q⟩=>by cases h;exact q,λq=>⟨a,rfl,q⟩⟩
def bk5{Q:Int->Prop}:(∃d,D.int i=.int d/\Q d)=Q i:=propext ⟨λ⟨_,h,q⟩=>by cases h;exact q,λq=>⟨i,rfl,q⟩⟩
def bn0{i:Bool}{Q:Bool->Prop}:(∃d,D.bl i=.bl d/\Q d)=Q i:=propext ⟨λ⟨_,h,q⟩=>by cases h;exact q,λq=>⟨i,rfl,q⟩⟩
def bj6{Q:List D->Prop}:(∃d,D.tup ds=.tup d/\Q d)=Q ds:=propext ⟨λ⟨_,h,q⟩=>by cases h;exact q,λq=>⟨_,rfl,q⟩⟩
def bb5{α:Type}{a:α}{Q:α->Prop}:(∃d,AA a=AA d/\Q d)=Q a:=propext ⟨λ⟨_,h,q⟩=>by cases h;exact q,λq=>⟨a,rfl,q⟩⟩
def bf0{i:Str}{l:List (Str×D)}{Q:D->Prop}:(∃w d,D.str i=.str w/\g8 l w=AA d/\Q d)=(∃d,g8 l i=AA d/\Q d):=propext ⟨λ⟨_,d,h,e,q⟩=>by cases h;exact⟨d,e,q⟩,λ⟨d,e,q⟩=>⟨_,d,rfl,e,q⟩⟩
def ba0{j:Int}{Q:Int->Int->Prop}:(∃a b,D.int i=.int a/\D.int j=.int b/\Q a b)=Q i j:=propext ⟨λ⟨_,_,h,h',q⟩=>by cases h;cases h';exact q,λq=>⟨_,_,rfl,rfl,q⟩⟩
def be3:v0 .Add (.int i) (.int j) st Q=Q (.int (i+j)) st:=rfl
def bd7:v0 .Add (.tup xs) (.tup ys) st Q=(xs.length+ys.length<=sizeLine/\Q (.tup (xs++ys)) st):=rfl
def a63:v0 .Sub (.int i) (.int j) st Q=Q (.int (i-j)) st:=rfl
def bb7:v0 .Mult (.int i) (.int j) st Q=(N9 i j/\Q (.int (i*j)) st):=rfl
def ak5:v0 .Mod (.int i) (.int j) st Q=(0<j/\Q (.int (i % j)) st):=rfl
def bd4:v0 .FloorDiv (.int i) (.int j) st Q=(al0 i j/\Q (.int (i / j)) st):=rfl
def bb0:v0 .Pow (.int i) (.int j) st Q=(an4 i j/\Q (.int (i^j.toNat)) st):=rfl
def ai3:deq (.int i) (.int j)=AB (i=j):=by
 unfold deq D.py Ao;exact GK.mpr ∎
def l7{x y:Str}:deq (.str x) (.str y)=AB (x=y):=by
 unfold deq D.py Ao;exact GK.mpr ∎
abbrev t0:List D->List D->Bool
 |[],[]=>AC
 |x::xs,y::ys=>deq x y&&t0 xs ys
 |_,_=>AF
theorem aj2:∀xs ys:List D,BF (D.pys xs) (D.pys ys)=t0 xs ys
 |[],[]=>rfl
 |[],_::_=>rfl
 |_::_,[]=>rfl
 |x::xs,y::ys=>by show(Ao x.py y.py&&BF (D.pys xs) (D.pys ys))=_;rw[aj2 xs ys];rfl
def G7:deq (.tup xs) (.tup ys)=t0 xs ys:=by
 show Ao (.tuple (D.pys xs)) (.tuple (D.pys ys))=_;rw[Ao,aj2]
def U7:g5 (.int i)=0:=rfl
def g7{x:Str}:g5 (.str x)=0:=rfl
def N6:j6 .Eq (.int i) (.int j) st Q=Q (.bl (AB (i=j))) st:=by
 show(_/\_/\_/\_)=_;rw[ai3];exact propext ⟨λh=>h.2.2.2,λh=>⟨rfl,rfl,by rw[U7,U7];exact An _,h⟩⟩
def bg6:j6 .NotEq (.int i) (.int j) st Q=Q (.bl (!decide (i=j))) st:=by
 show(_/\_/\_/\_)=_;rw[ai3];exact propext ⟨λh=>h.2.2.2,λh=>⟨rfl,rfl,by rw[U7,U7];exact An _,h⟩⟩
def ab4{x y:String}:j6 .Eq (.str (AD x)) (.str (AD y)) st Q=Q (.bl (AB (x=y))) st:=by
 show(_/\_/\_/\_)=_;simp only[l7,o9];exact propext ⟨λh=>h.2.2.2,λh=>⟨d8 _,d8 _,by rw[g7,g7];exact An _,h⟩⟩
def ac3{x y:String}:j6 .NotEq (.str (AD x)) (.str (AD y)) st Q=Q (.bl (!decide (x=y))) st:=by
 show(_/\_/\_/\_)=_;simp only[l7,o9];exact propext ⟨λh=>h.2.2.2,λh=>⟨d8 _,d8 _,by rw[g7,g7];exact An _,h⟩⟩
def Q8:j6 .Eq x y st Q=(x.pure=AC/\y.pure=AC/\FF (g5 x) (g5 y)<=150/\Q (.bl (deq x y)) st):=by cases x<;>cases y<;>rfl
def be8:j6 .Lt (.int i) (.int j) st Q=Q (.bl (AB (i<j))) st:=rfl
def bh3:j6 .LtE (.int i) (.int j) st Q=Q (.bl (AB (i<=j))) st:=rfl
def bk9:j6 .Gt (.int i) (.int j) st Q=Q (.bl (AB (j<i))) st:=rfl
def bi1:j6 .GtE (.int i) (.int j) st Q=Q (.bl (AB (j<=i))) st:=rfl
def br1:j6 .In x (.tup ys) st Q=(x.pure=AC/\D.pures ys=AC/\g5 x<=150/\Q (.bl (ys.any λy=>deq y x)) st):=rfl
def bf6:j6 .NotIn x (.tup ys) st Q=(x.pure=AC/\D.pures ys=AC/\g5 x<=150/\Q (.bl (!ys.any λy=>deq y x)) st):=rfl
def bq2:ixR (.tup ds) (.int i) st Q=∃d,atI ds i=AA d/\Q d st:=rfl
def cy7:ixR (.ref a) (.int i) st Q=((∃ds d,rdS st a ds/\atI ds i=AA d/\Q d st)\/∃kvs d,st a=AA (.dct kvs)/\w6 kvs (.inl i)=AA d/\Q d st):=rfl
def ch3{kvs:List (Key×D)}(h:rdS st a ds)(h':st a=AA (.dct kvs)):False:=by rcases h with h|h<;>rw[h]at h'<;>cases h'
def aa2(h:rdS st a xs)(h':rdS st a ys):xs=ys:=by
 rcases h with h|h<;>rcases h' with h'|h'<;>rw[h]at h'<;>cases h'<;>rfl
def w8(h:rdS st a ds):ixR (.ref a) (.int i) st Q=∃d,atI ds i=AA d/\Q d st:=by
 rw[cy7];exact propext ⟨λz=>z.elim (λ⟨es,d,r,q⟩=>by rw[aa2 h r];exact⟨d,q⟩) (λ⟨_,_,e,_⟩=>(ch3 h e).elim),λ⟨d,q⟩=>.inl ⟨ds,d,h,q⟩⟩
def J2:rdS (b0 st p (.lst ds)) p ds:=.inl b7
def bg8:ixR (.ref p) (.int i) (b0 st p (.lst ds)) Q=∃d,atI ds i=AA d/\Q d (b0 st p (.lst ds)):=w8 J2
def L5{α:Type}{xs:List α}:atI xs 0=xs[0]?:=by
 unfold atI ixN;simp only[GO,if_true];split
 ·rfl
 ·rename_i h;rw[El ⋯];rfl
def A4{α:Type}{xs:List α}{k:Nat}:atI xs (k:Int)=xs[k]?:=by
 unfold atI ixN;rw[if_pos ⋯];split
 ·rw[Fs];rfl
 ·rename_i h;rw[El ⋯];rfl
def ad5{α:Type}{xs:List α}:atI xs 1=xs[1]?:=A4 (k:=1)
def ad2{α:Type}{xs:List α}:atI xs 2=xs[2]?:=A4 (k:=2)
def bp7{α:Type}{xs:List α}:atI xs 3=xs[3]?:=A4 (k:=3)
def bh4{hi:Option Int}:cx9 (.tup ds) lo hi st Q=Q (.tup (D7 ds lo hi)) st:=rfl
def bp8{hi:Option Int}:slR (.tup ds) lo hi st Q=(¬(HT.sIx ds.length 0 lo=0/\HT.sIx ds.length ds.length hi=ds.length)/\Q (.tup (D7 ds lo hi)) st):=rfl
def br3{w:Str}{hi:Option Int}:slR (.str w) lo hi st Q=(w.length<=sizeLine/\Q (.str (Bf w lo hi)) st):=rfl
def am7{hi:Option Int}(h:rdS st a ds):slR (.ref a) lo hi st Q=∀p,st p=AE->Q (.ref p) (b0 st p (.lst (D7 ds lo hi))):=by
 show(∃ds,rdS st a ds/\_)=_;exact propext ⟨λ⟨es,r,q⟩=>by rw[aa2 h r];exact q,λq=>⟨ds,h,q⟩⟩
def bi3:S8 (.tup ds) st Q=Q (.int ds.length) st:=rfl
def r9(h:rdS st a ds):S8 (.ref a) st Q=Q (.int ds.length) st:=by
 show(∃ds,rdS st a ds/\_)=_;exact propext ⟨λ⟨es,r,q⟩=>by rw[aa2 h r];exact q,λq=>⟨ds,h,q⟩⟩
def ba7:S8 (.ref p) (b0 st p (.lst ds)) Q=Q (.int ds.length) (b0 st p (.lst ds)):=r9 J2
def bi5{b:Bool}:V4 (.bl b) st Q=Q (.int (if b then 1 else 0)) st:=rfl
def bh2:V4 (.int i) st Q=Q (.int i) st:=rfl
def c32:cw5 (.tup ds) st Q=∀p,st p=AE->Q (.ref p) (b0 st p (.lst ds)):=rfl
def a02:Q1 (.tup ds) st Q=Q (.tup ds) st:=rfl
def Z9(h:rdS st a ds):Q1 (.ref a) st Q=Q (.tup ds) st:=by
 show(∃ds,rdS st a ds/\_)=_;exact propext ⟨λ⟨es,r,q⟩=>by rw[aa2 h r];exact q,λq=>⟨ds,h,q⟩⟩
def ax0:Q1 (.ref p) (b0 st p (.lst ds)) Q=Q (.tup ds) (b0 st p (.lst ds)):=Z9 J2
def cv5(h:rdS st a ds):a08 (.ref a) st Q=Q (.bl AC) st:=by
 show(∃ds,rdS st a ds/\_)=_;exact propext ⟨λ⟨es,r,q⟩=>q,λq=>⟨ds,h,q⟩⟩
def a88:a08 (.ref p) (b0 st p (.lst ds)) Q=Q (.bl AC) (b0 st p (.lst ds)):=cv5 J2
def cu4{ns:List Int}(h:rdS st a (ns.map D.int))(q:Q (.int ns.sum) st):ad8 (.ref a) st Q:=⟨ns,h,q⟩
def D4(h:rdS st a ds):z6 (.ref a) st=True:=propext ⟨λ_=>trivial,λ_=>⟨ds,h⟩⟩
def a39:z6 (.ref p) (b0 st p (.lst ds))=True:=D4 J2
def a60:X5 (.tup ds) st=True:=rfl
def O0(h:st a=AA (.lst ds)):ae0 (.ref a) d st Q=(ds.length<sizeLine/\Q .non (b0 st a (.lst (ds++[d])))):=by
 show(∃ds,st a=AA (.lst ds)/\_)=_;exact propext ⟨λ⟨es,r,q⟩=>by rw[h]at r;cases r;exact q,λq=>⟨ds,h,q⟩⟩
def cx0{b:AM}(h:st a=AA (.lst ds))(h':st b=AA (.lst es)):ad4 (.ref a) (.ref b) st Q=(ds.length+es.length<=sizeLine/\Q .non (b0 st a (.lst (ds++es)))):=by
 show(∃ds es,st a=AA (.lst ds)/\st b=AA (.lst es)/\_)=_;exact propext ⟨λ⟨_,_,r,r',q⟩=>by rw[h]at r;rw[h']at r';cases r;cases r';exact q,λq=>⟨ds,es,h,h',q⟩⟩
def ca2{tb:DS}{F:DEnds}:o4 chk t tb F [] env st=(chk st/\F.nx env st):=by rw[o4]
def b11{tb:DS}{F:DEnds}:o4 chk t tb F (d::ds) env st=(chk st/\F3 t d env λenv'=>tb {F with nx:=o4 chk t tb F ds,ct:=o4 chk t tb F ds,bk:=F.nx} env' st):=by rw[o4]
def a65{k:Nat}{K:d9->Prop}:F3 (.n k) d env K=K (env.set k (AA d)):=rfl
def a95{is:List Nat}{K:d9->Prop}:F3 (.tup is) (.tup ds) env K=(ds.length=is.length/\K (N1 env is ds)):=by
 show(∃es,D.tup ds=.tup es/\_)=_;exact propext ⟨λ⟨es,r,q⟩=>by cases r;exact q,λq=>⟨ds,rfl,q⟩⟩
def ap3{k:Nat}{is:List Nat}:N1 env (k::is) (d::ds)=N1 (env.set k (AA d)) is ds:=rfl
def ap8:N1 env [] []=env:=rfl
def b65{tc:DB}{te:DT}{R:List D->Sto->Prop}{acc:List D}:t8 chk t tc te R [] acc env st=(chk st/\R acc st):=by rw[t8]
def by4{tc:DB}{te:DT}{R:List D->Sto->Prop}{acc:List D}:t8 chk t tc te R (d::ds) acc env st=(chk st/\F3 t d env λenv'=>tc env' st λb st1=>if b=AC then te env' st1 λv st2=>t8 chk t tc te R ds (acc++[v]) env' st2 else t8 chk t tc te R ds acc env' st1):=by rw[t8]
def bh5{k:ItK}:((∃es,D.tup ds=.tup es/\k es (λ_=>True) st)\/(∃a es,D.tup ds=.ref a/\rdS st a es/\k es (λst'=>rdS st' a es) st))=k ds (λ_=>True) st:=
 propext ⟨(λh=>by
  rcases h with⟨es,r,q⟩|⟨a,es,r,_⟩
  ·cases r;exact q
  ·cases r),λq=>.inl ⟨ds,rfl,q⟩⟩
def bd2{k:ItK}:((∃es,D.tup ds=.tup es/\k (j8 0 es) (λ_=>True) st)\/(∃a es,D.tup ds=.ref a/\rdS st a es/\k (j8 0 es) (λst'=>rdS st' a es) st))=k (j8 0 ds) (λ_=>True) st:=
 propext ⟨(λh=>by
  rcases h with⟨es,r,q⟩|⟨a,es,r,_⟩
  ·cases r;exact q
  ·cases r),λq=>.inl ⟨ds,rfl,q⟩⟩
end
end Ek
namespace Ek
open PySem L2
theorem G4{chk:Sto->Prop}{t:Tg}{tb:DS}{F:DEnds}(I:List D->d9->Sto->Prop)(h0:∀env st,I [] env st->chk st/\F.nx env st)
  (h1:∀d ds env st,(∀env st,I ds env st->o4 chk t tb F ds env st)->I (d::ds) env st->chk st/\F3 t d env λenv'=>tb {F with nx:=o4 chk t tb F ds,ct:=o4 chk t tb F ds,bk:=F.nx} env' st):∀ds env st,I ds env st->o4 chk t tb F ds env st
 |[],env,st,h=>by rw[ca2];exact h0 env st h
 |d::ds,env,st,h=>by rw[b11];exact h1 d ds env st (G4 I h0 h1 ds) h
theorem G2{chk:Sto->Prop}{t:Tg}{tc:DB}{te:DT}{R:List D->Sto->Prop}(I:List D->List D->d9->Sto->Prop)(h0:∀acc env st,I [] acc env st->chk st/\R acc st)
  (h1:∀d ds acc env st,(∀acc env st,I ds acc env st->t8 chk t tc te R ds acc env st)->I (d::ds) acc env st->chk st/\F3 t d env λenv'=>tc env' st λb st1=>if b=AC then te env' st1 λv st2=>t8 chk t tc te R ds (acc++[v]) env' st2 else t8 chk t tc te R ds acc env' st1):∀ds acc env st,I ds acc env st->t8 chk t tc te R ds acc env st
 |[],acc,env,st,h=>by rw[b65];exact h0 acc env st h
 |d::ds,acc,env,st,h=>by rw[by4];exact h1 d ds acc env st (G2 I h0 h1 ds) h
def a45{Z:Sg}{env:d9}{st:Sto}{K:Bool->Sto->Prop}:F7 Z .non env st K=K AC st:=rfl
def P1{Z:Sg}{c:E}{env:d9}{st:Sto}{K:Bool->Sto->Prop}(h:c.isNon=AF):F7 Z c env st K=wpE Z c env st λd st'=>∃b,d=.bl b/\K b st':=by unfold F7;rw[h];rfl
def ab0{i j:Int}(h:-(2^64)<j/\j<2^64):N9 i j:=.inl (.inr h)
def P8{i j:Int}(h:-(2^64)<i/\i<2^64):N9 i j:=.inl (.inl h)
def E8{n:Nat}(h:n<=16000000):n<=sizeLine:=Ag h ∅
def O3{n:Nat}(h:n<16000000):n<sizeLine:=Al h ∅
end Ek
namespace Ek
abbrev Ss.drop:Nat->Ss->Ss
 |0,s=>s
 |_+1,.nil=>.nil
 |k+1,.cons _ r=>Ss.drop k r
def bo9{ds:List D}{R:PySem.Addr->List D->Prop}:(∃a es,D.tup ds=.ref a/\R a es)=False:=propext ⟨λ⟨_,_,h,_⟩=>(by cases h),Aa⟩
def bm7{a:PySem.Addr}{R:List D->Prop}:(∃es,D.ref a=.tup es/\R es)=False:=propext ⟨λ⟨_,h,_⟩=>(by cases h),Aa⟩
def bm4{a:PySem.Addr}{R:PySem.Addr->List D->Prop}:(∃b es,D.ref a=.ref b/\R b es)=∃es,R a es:=propext ⟨λ⟨_,es,h,q⟩=>by cases h;exact⟨es,q⟩,λ⟨es,q⟩=>⟨a,es,rfl,q⟩⟩
end Ek
namespace Ek
open PySem L2
section
variable {Z:Sg} {env:d9} {st:Sto} {k:Option Int->Sto->Prop} {K:Bool->Sto->Prop} {a b:E}
def az5{o:Er}:bnd Z (.bin o a b) env st k=wpE Z (.bin o a b) env st λd st'=>∃i,d=.int i/\k (AA i) st':=G1 rfl
def bg3{j:Nat}:bnd Z (.v j) env st k=wpE Z (.v j) env st λd st'=>∃i,d=.int i/\k (AA i) st':=G1 rfl
def av6{g:Str}:bnd Z (.gsel g a) env st k=wpE Z (.gsel g a) env st λd st'=>∃i,d=.int i/\k (AA i) st':=G1 rfl
def a46:bnd Z (.len a) env st k=wpE Z (.len a) env st λd st'=>∃i,d=.int i/\k (AA i) st':=G1 rfl
def ay7:bnd Z (.neg a) env st k=wpE Z (.neg a) env st λd st'=>∃i,d=.int i/\k (AA i) st':=G1 rfl
def a59:bnd Z (.ix a b) env st k=wpE Z (.ix a b) env st λd st'=>∃i,d=.int i/\k (AA i) st':=G1 rfl
def au7{f:Str}{es:Es}:bnd Z (.call f es) env st k=wpE Z (.call f es) env st λd st'=>∃i,d=.int i/\k (AA i) st':=G1 rfl
def az3{o:Dm}:F7 Z (.cmp o a b) env st K=wpE Z (.cmp o a b) env st λd st'=>∃b,d=.bl b/\K b st':=P1 rfl
def a55:F7 Z (.and a b) env st K=wpE Z (.and a b) env st λd st'=>∃b,d=.bl b/\K b st':=P1 rfl
def a96:F7 Z (.or a b) env st K=wpE Z (.or a b) env st λd st'=>∃b,d=.bl b/\K b st':=P1 rfl
def a49:F7 Z (.not a) env st K=wpE Z (.not a) env st λd st'=>∃b,d=.bl b/\K b st':=P1 rfl
def ax1{f:Str}{es:Es}:F7 Z (.call f es) env st K=wpE Z (.call f es) env st λd st'=>∃b,d=.bl b/\K b st':=P1 rfl
end
variable{st:Sto}
def ba2{ne:Bool}{a b:AM}{xs ys:List D}{Q:DK}(h1:rdS st a xs)(h2:rdS st b ys)(p1:D.pures xs=AC)(p2:D.pures ys=AC)(hd:BE (D.pys xs)<=149)(q:Q (.bl (ne != t0 xs ys)) st):J9 ne (.ref a) (.ref b) st Q:=⟨xs,ys,h1,h2,.inl ⟨p1,p2,hd,by rw[aj2];exact q⟩⟩
def az1{Z:Sg}{F:DEnds}{env:d9}{c:E}{b:Ss}:wpS Z (.while c b) F env st=∃n,B7 (wpT Z c) (c9 Z b) F n env st:=rfl
def T7{tc:DB}{tb:DS}{F:DEnds}(I:Nat->d9->Sto->Prop)(step:∀m env st(W:d9->Sto->Prop),I m env st->(∀m' env' st',m'<m->I m' env' st'->W env' st')->tc env st λb st1=>if b=AC then tb {F with nx:=W,ct:=W,bk:=F.nx} env st1 else F.nx env st1):∀m env st,I m env st->∃n,B7 tc tb F n env st:=by
 have main:∀k m env st,m<=k->I m env st->B7 tc tb F (k+1) env st:=by
  intro k
  induction k with
  |zero=>
   intro m env st hm hI;rw[B7];exact step m env st _ hI λm' env' st' hlt _=>by lia
  |succ k ih=>
   intro m env st hm hI;rw[B7];exact step m env st _ hI λm' env' st' hlt hI'=>ih m' env' st' ⋯ hI'
 exact λm env st hI=>⟨m+1,main m m env st (Ae _) hI⟩
def bk0{a:AM}{ds:List D}{d:D}{Q:DK}(h:st a=AA (.lst (ds++[d]))):X1 (.ref a) st Q=Q d (b0 st a (.lst ds)):=by
 show(∃ds d,st a=AA (.lst (ds++[d]))/\_)=_;refine propext ⟨λ z50=>?_,λq=>⟨ds,d,h,q⟩⟩;obtain⟨es,e,r,q⟩:=z50;rw[h]at r;simp only[CF,Ob.lst.injEq]at r;obtain⟨r1,r2⟩:=List.append_inj' r rfl;cases r2;rw[r1];exact q
def bn1{f:Str}{Q:Str->Prop}:(∃g,AA (AA (D.fn f))=AA (AA (.fn g))/\Q g)=Q f:=propext ⟨λ⟨_,h,q⟩=>by cases h;exact q,λq=>⟨f,rfl,q⟩⟩
end Ek
namespace Ek
open PySem L2
section
variable {Z:Sg} {F:DEnds} {env:d9} {st:Sto} {Q:DK} {a b c e:D} {l:List D} {A B:Prop} {i:Nat} {s:S} {t u:Ss}
def ad9{n:Nat}{k:Int}(e:k=n)(h:l[n]?=AA a):ixR (.tup l) (.int k) st Q=Q a st:=by
 subst e;exact propext ⟨λ⟨_,h',q⟩=>by rw[A4,h]at h';cases h';exact q,λq=>⟨a,by rw[A4];exact h,q⟩⟩
def bp9:ixR (.tup (a::l)) (.int 0) st Q=Q a st:=ad9 (n:=0) rfl rfl
def bn3:ixR (.tup (b::a::l)) (.int 1) st Q=Q a st:=ad9 (n:=1) rfl rfl
def bl9:ixR (.tup (b::c::a::l)) (.int 2) st Q=Q a st:=ad9 (n:=2) rfl rfl
def bq3:ixR (.tup (b::c::e::a::l)) (.int 3) st Q=Q a st:=ad9 (n:=3) rfl rfl
def bn9:(∃k,D.bl AC=.bl k/\if k=AC then A else B)=A:=propext ⟨λ⟨_,h,q⟩=>by cases h;exact q,λq=>⟨_,rfl,q⟩⟩
def bn2:(∃k,D.bl AF=.bl k/\if k=AC then A else B)=B:=propext ⟨λ⟨_,h,q⟩=>by cases h;exact q,λq=>⟨_,rfl,q⟩⟩
def bf4{x:String}:j6 .Eq (.str (AD x)) (.str (AD x)) st Q=Q (.bl AC) st:=by rw[ab4,decide_eq_true rfl]
def bl8{x y:String}(h:AB (x=y)=AF):j6 .Eq (.str (AD x)) (.str (AD y)) st Q=Q (.bl AF) st:=by rw[ab4,h]
def bj3{x:String}:j6 .NotEq (.str (AD x)) (.str (AD x)) st Q=Q (.bl AF) st:=by rw[ac3,decide_eq_true rfl];rfl
def bi7{x y:String}(h:AB (x=y)=AF):j6 .NotEq (.str (AD x)) (.str (AD y)) st Q=Q (.bl AC) st:=by rw[ac3,h];rfl
def bm5(h:wpS Z s ⟨c9 Z t F,F.rt,F.bk,F.ct⟩ env st):c9 Z (.cons s t) F env st:=h
end
end Ek
namespace Ek
open PySem PySem.Spec PyProof.Rows L2
abbrev tx(l:List Nat):Str:=⟨l.toArray⟩
def i5(l:List Nat):(tx l).length=l.length:=by simp[tx,Ki]
def y9{a b:List Nat}(h:tx a=tx b):a=b:=by
 have:=congrArg (λs:Str=>s.cps.toList) h;simpa[tx]using this
def j3(a b:List Nat):tx a++tx b=tx (a++b):=by
 show Str.mk (a.toArray++b.toArray)=_;simp[tx]
def R9(s:Str):s=tx s.cps.toList:=by cases s;simp[tx]
theorem bh9(W:List Nat)(p:Nat):∀m,((Da m).map (p+·)).filterMap (λi=>W[i]?)=(W.drop p).take m
 |0=>by simp
 |m+1=>by
  rw[List.range_succ,BY,List.filterMap_append,bh9 W p m,List.take_add_one]
  congr 1
  simp only[AV,BS,Co,List.filterMap_nil,Hz];cases W[p+m]?<;>rfl
def P0(W:List Nat)(p q:Nat)(hp:p<=W.length)(hq:p<=q):Bf (tx W) (AA (p:Int)) (AA (q:Int))=tx ((W.drop p).take (q-p)):=by
 have e:Ch (AA (p:Int)) (AA (q:Int)) 1 W.length=(Da (min q W.length-p)).map (p+·):=by
  have h1:¬((p:Int)<0):=by lia
  have h2:¬((q:Int)<0):=by lia
  unfold Ch JX;simp only[show(1:Int)>0 by decide,if_true,Jx,h1,h2,if_false];have ea:max 0 (min (p:Int) W.length)=(p:Int):=by lia
  have eb:max 0 (min (q:Int) W.length)=((min q W.length:Nat):Int):=by lia
  rw[ea,eb];have ec:(if(p:Int)<((min q W.length:Nat):Int)then((min q W.length:Nat):Int)-(p:Int)+1-1 else 0).toNat=min q W.length-p:=by split<;>lia
  rw[ec];exact FG λk _=>by lia
 have et:(W.drop p).take (min q W.length-p)=(W.drop p).take (q-p):=by
  rw[List.take_eq_take_iff,Ap];lia
 unfold Bf;rw[i5,e]
 split
 ·rename_i h;simp only[Az,beq_iff_eq,Am,List.length_range]at h;have:p=0:=by lia
  subst this;rw[<-et,Gq,Eb ⋯]
 ·rw[<-et,<-bh9];simp[tx]
end Ek
namespace Ek
open PySem L2
variable{m:Nat}
inductive Kd where
 |non|one|eith (a b:Kd)|both (a b:Kd)|way (a b:Kd)
 deriving DecidableEq
abbrev Kd.d:Kd->D
 |.non=>.tup [.str "none"]
 |.one=>.tup [.str "one"]
 |.eith a b=>.tup [.str "either",a.d,b.d]
 |.both a b=>.tup [.str "both",a.d,b.d]
 |.way a b=>.tup [.str "way",a.d,b.d]
abbrev Kd.cnt:Kd->Nat
 |.non=>0|.one=>1
 |.eith a b=>a.cnt+b.cnt
 |.both a b=>a.cnt*b.cnt
 |.way a b=>b.cnt^a.cnt
abbrev Kd.nest:Kd->Nat
 |.non=>0|.one=>0
 |.eith a b=>1+max a.nest b.nest
 |.both a b=>1+max a.nest b.nest
 |.way a b=>1+max a.nest b.nest
abbrev Kd.bd(m:Nat):Kd->Prop
 |.non=>True|.one=>1<=m
 |.eith a b=>a.bd m/\b.bd m/\a.cnt+b.cnt<=m
 |.both a b=>a.bd m/\b.bd m/\a.cnt*b.cnt<=m
 |.way a b=>a.bd m/\b.bd m/\b.cnt^a.cnt<=m
def Kd.bd_le:∀{k:Kd},k.bd m->k.cnt<=m
 |.non,_=>An _
 |.one,h=>h
 |.eith _ _,h=>h.2.2
 |.both _ _,h=>h.2.2
 |.way _ _,h=>h.2.2
theorem Kd.bd_mono{m':Nat}(hm:m<=m'):∀{k:Kd},k.bd m->k.bd m'
 |.non,_=>trivial
 |.one,h=>Ag h hm
 |.eith _ _,h=>⟨bd_mono hm h.1,bd_mono hm h.2.1,Ag h.2.2 hm⟩
 |.both _ _,h=>⟨bd_mono hm h.1,bd_mono hm h.2.1,Ag h.2.2 hm⟩
 |.way _ _,h=>⟨bd_mono hm h.1,bd_mono hm h.2.1,Ag h.2.2 hm⟩
def J8{k:Kd}(h:k.bd m):∀a b,k=.eith a b\/k=.both a b\/k=.way a b->a.bd m/\b.bd m:=λa b e=>by
 rcases e with e|e|e<;>(subst e;exact⟨h.1,h.2.1⟩)
abbrev Kd.good:Kd->Prop
 |.non=>False|.one=>True
 |.eith a b=>(a.good/\b.good)\/(a=.non/\b.good)\/(a.good/\b=.non)
 |.both a b=>a.good/\b.good
 |.way a b=>(a.good\/a=.non)/\b.good/\a.cnt<=6
theorem Kd.good_pos:∀{k:Kd},k.good->0<k.cnt
 |.one,_=>Nat.one_pos
 |.eith a b,h=>by
  show 0<a.cnt+b.cnt
  rcases h with h|h|h
  ·have:=good_pos h.1;lia
  ·have:=good_pos h.2;lia
  ·have:=good_pos h.1;lia
 |.both a b,h=>Nat.mul_pos (good_pos h.1) (good_pos h.2)
 |.way a b,h=>Jo (good_pos h.2.1)
def V2:∀a b:Kd,deq a.d b.d=AB (a=b):=by
 intro a
 induction a with
 |non=>intro b;cases b<;>simp[Kd.d,G7,t0,l7,o9]
 |one=>intro b;cases b<;>simp[Kd.d,G7,t0,l7,o9]
 |eith a c iha ihc=>intro b;cases b<;>simp[Kd.d,G7,t0,l7,o9,iha,ihc]
 |both a c iha ihc=>intro b;cases b<;>simp[Kd.d,G7,t0,l7,o9,iha,ihc]
 |way a c iha ihc=>intro b;cases b<;>simp[Kd.d,G7,t0,l7,o9,iha,ihc]
def i8{d:D}{r:List D}:D.pures (d::r)=(d.pure&&D.pures r):=rfl
def k8:D.pures []=AC:=rfl
def v4{r:List D}:(D.tup r).pure=D.pures r:=rfl
def b16{i:Int}:(D.int i).pure=AC:=rfl
theorem t7:∀k:Kd,k.d.pure=AC
 |.non=>by simp only[Kd.d,v4,i8,k8,d8,Ab]
 |.one=>by simp only[Kd.d,v4,i8,k8,d8,Ab]
 |.eith a b=>by simp only[Kd.d,v4,i8,k8,d8,t7 a,t7 b,Ab]
 |.both a b=>by simp only[Kd.d,v4,i8,k8,d8,t7 a,t7 b,Ab]
 |.way a b=>by simp only[Kd.d,v4,i8,k8,d8,t7 a,t7 b,Ab]
theorem ag3:∀l:List Kd,D.pures (l.map Kd.d)=AC
 |[]=>rfl
 |k::r=>by rw[AV,i8,t7,ag3 r];rfl
abbrev m8:List D->Nat
 |[]=>0
 |d::r=>max (g5 d) (m8 r)
theorem ah6:∀l:List D,BE (D.pys l)=m8 l
 |[]=>rfl
 |d::r=>by show max (Bz d.py) (BE (D.pys r))=_;rw[ah6 r];rfl
def l9{l:List D}:g5 (.tup l)=m8 l+1:=by
 show Bz (.tuple (D.pys l))=_;rw[Bz,ah6]
theorem t9:∀k:Kd,g5 k.d=k.nest+1
 |.non=>by simp only[Kd.d,l9,m8,g7,Kd.nest];rfl
 |.one=>by simp only[Kd.d,l9,m8,g7,Kd.nest];rfl
 |.eith a b=>by simp only[Kd.d,l9,m8,g7,Kd.nest,t9 a,t9 b,Fb];lia
 |.both a b=>by simp only[Kd.d,l9,m8,g7,Kd.nest,t9 a,t9 b,Fb];lia
 |.way a b=>by simp only[Kd.d,l9,m8,g7,Kd.nest,t9 a,t9 b,Fb];lia
inductive Pg where
 |name (n:Nat)|star|pair (t u:Pg)|first (t:Pg)|second (t:Pg)|left (b:Kd) (t:Pg)|right (a:Kd) (t:Pg)
 |case (t u v:Pg)|way (a:Kd) (t:Pg)|give (t u:Pg)|lets (t u:Pg)|never (k:Kd) (t:Pg)
 deriving DecidableEq
abbrev Pg.d:Pg->D
 |.name n=>.tup [.str "name",.int n]
 |.star=>.tup [.str "star"]
 |.pair t u=>.tup [.str "pair",t.d,u.d]
 |.first t=>.tup [.str "first",t.d]
 |.second t=>.tup [.str "second",t.d]
 |.left b t=>.tup [.str "left",b.d,t.d]
 |.right a t=>.tup [.str "right",a.d,t.d]
 |.case t u v=>.tup [.str "case",t.d,u.d,v.d]
 |.way a t=>.tup [.str "way",a.d,t.d]
 |.give t u=>.tup [.str "give",t.d,u.d]
 |.lets t u=>.tup [.str "let",t.d,u.d]
 |.never k t=>.tup [.str "never",k.d,t.d]
abbrev Pg.kind(Γ:List Kd):Pg->Option Kd
 |.name n=>Γ[n]?
 |.star=>AA .one
 |.pair t u=>match t.kind Γ,u.kind Γ with
  |some a,AA b=>AA (.both a b)
  |_,_=>AE
 |.first t=>match t.kind Γ with
  |some (.both a _)=>AA a
  |_=>AE
 |.second t=>match t.kind Γ with
  |some (.both _ b)=>AA b
  |_=>AE
 |.left b t=>match t.kind Γ with
  |some a=>AA (.eith a b)
  |_=>AE
 |.right a t=>match t.kind Γ with
  |some b=>AA (.eith a b)
  |_=>AE
 |.case t u v=>match t.kind Γ with
  |some (.eith a b)=>match u.kind (a::Γ),v.kind (b::Γ)with
   |some k,AA l=>if k=l then AA k else AE
   |_,_=>AE
  |_=>AE
 |.way a t=>match t.kind (a::Γ)with
  |some b=>AA (.way a b)
  |_=>AE
 |.give t u=>match t.kind Γ,u.kind Γ with
  |some (.way a b),AA c=>if a=c then AA b else AE
  |_,_=>AE
 |.lets t u=>match t.kind Γ with
  |some a=>u.kind (a::Γ)
  |_=>AE
 |.never k t=>match t.kind Γ with
  |some .non=>AA k
  |_=>AE
abbrev Pg.kids:Pg->List Pg
 |.name _=>[]|.star=>[]
 |.pair t u=>[t,u]|.first t=>[t]|.second t=>[t]|.left _ t=>[t]|.right _ t=>[t]
 |.case t u v=>[t,u,v]|.way _ t=>[t]|.give t u=>[t,u]|.lets t u=>[t,u]|.never _ t=>[t]
abbrev Pg.hgt:Pg->Nat
 |.name _=>1|.star=>1
 |.pair t u=>1+max t.hgt u.hgt|.first t=>1+t.hgt|.second t=>1+t.hgt|.left _ t=>1+t.hgt|.right _ t=>1+t.hgt
 |.case t u v=>1+max t.hgt (max u.hgt v.hgt)|.way _ t=>1+t.hgt|.give t u=>1+max t.hgt u.hgt|.lets t u=>1+max t.hgt u.hgt|.never _ t=>1+t.hgt
abbrev Pg.parts:Pg->Nat
 |.name _=>1|.star=>1
 |.pair t u=>1+t.parts+u.parts|.first t=>1+t.parts|.second t=>1+t.parts|.left _ t=>1+t.parts|.right _ t=>1+t.parts
 |.case t u v=>1+t.parts+u.parts+v.parts|.way _ t=>1+t.parts|.give t u=>1+t.parts+u.parts|.lets t u=>1+t.parts+u.parts|.never _ t=>1+t.parts
abbrev Pg.kn(m:Nat):Pg->Prop
 |.name _=>True|.star=>True
 |.pair t u=>t.kn m/\u.kn m|.first t=>t.kn m|.second t=>t.kn m|.left b t=>b.nest<=m/\t.kn m|.right a t=>a.nest<=m/\t.kn m
 |.case t u v=>t.kn m/\u.kn m/\v.kn m|.way a t=>a.nest<=m/\t.kn m|.give t u=>t.kn m/\u.kn m|.lets t u=>t.kn m/\u.kn m|.never k t=>k.nest<=m/\t.kn m
def b88(p:Pg):p.d.pure=AC:=by
 induction p<;>simp only[Pg.d,v4,i8,k8,d8,b16,t7,Ab, *]
def cr8(p:Pg)(h:p.kn m):g5 p.d<=p.hgt+m+1:=by
 have mx:∀a b c:Nat,a<=c->b<=c->max a b<=c:=λa b c h h'=>max_le.mpr ⟨h,h'⟩;have l1:∀a b:Nat,a<=max a b:=λa b=>Ed a b;have l2:∀a b:Nat,b<=max a b:=λa b=>Dk a b
 induction p with
 |name n=>simp only[Pg.d,l9,m8,g7,U7,Pg.hgt];simp
 |star=>simp only[Pg.d,l9,m8,g7,Pg.hgt];simp
 |pair t u iht ihu=>simp only[Pg.d,l9,m8,g7,Pg.hgt];have:=iht h.1;have:=ihu h.2;have:=l1 t.hgt u.hgt;have:=l2 t.hgt u.hgt;apply CK;refine mx _ _ _ ⋯ (mx _ _ _ ⋯ (mx _ _ _ ⋯ ⋯))
 |give t u iht ihu=>simp only[Pg.d,l9,m8,g7,Pg.hgt];have:=iht h.1;have:=ihu h.2;have:=l1 t.hgt u.hgt;have:=l2 t.hgt u.hgt;apply CK;refine mx _ _ _ ⋯ (mx _ _ _ ⋯ (mx _ _ _ ⋯ ⋯))
 |lets t u iht ihu=>simp only[Pg.d,l9,m8,g7,Pg.hgt];have:=iht h.1;have:=ihu h.2;have:=l1 t.hgt u.hgt;have:=l2 t.hgt u.hgt;apply CK;refine mx _ _ _ ⋯ (mx _ _ _ ⋯ (mx _ _ _ ⋯ ⋯))
 |first t iht=>simp only[Pg.d,l9,m8,g7,Pg.hgt];have:=iht h;apply CK;refine mx _ _ _ ⋯ (mx _ _ _ ⋯ ⋯)
 |second t iht=>simp only[Pg.d,l9,m8,g7,Pg.hgt];have:=iht h;apply CK;refine mx _ _ _ ⋯ (mx _ _ _ ⋯ ⋯)
 |left k t iht=>simp only[Pg.d,l9,m8,g7,t9,Pg.hgt];have:=iht h.2;have:=h.1;apply CK;refine mx _ _ _ ⋯ (mx _ _ _ ⋯ (mx _ _ _ ⋯ ⋯))
 |right k t iht=>simp only[Pg.d,l9,m8,g7,t9,Pg.hgt];have:=iht h.2;have:=h.1;apply CK;refine mx _ _ _ ⋯ (mx _ _ _ ⋯ (mx _ _ _ ⋯ ⋯))
 |way k t iht=>simp only[Pg.d,l9,m8,g7,t9,Pg.hgt];have:=iht h.2;have:=h.1;apply CK;refine mx _ _ _ ⋯ (mx _ _ _ ⋯ (mx _ _ _ ⋯ ⋯))
 |never k t iht=>simp only[Pg.d,l9,m8,g7,t9,Pg.hgt];have:=iht h.2;have:=h.1;apply CK;refine mx _ _ _ ⋯ (mx _ _ _ ⋯ (mx _ _ _ ⋯ ⋯))
 |case t u v iht ihu ihv=>
  simp only[Pg.d,l9,m8,g7,Pg.hgt];have:=iht h.1;have:=ihu h.2.1;have:=ihv h.2.2;have:=l1 t.hgt (max u.hgt v.hgt);have:=l2 t.hgt (max u.hgt v.hgt);have:=l1 u.hgt v.hgt;have:=l2 u.hgt v.hgt;apply CK;refine mx _ _ _ ⋯ (mx _ _ _ ⋯ (mx _ _ _ ⋯ (mx _ _ _ ⋯ ⋯)))
inductive Kn:List Kd->Pg->Kd->Prop
 |name {Γ n k}:Γ[n]?=AA k->Kn Γ (.name n) k
 |star {Γ}:Kn Γ .star .one
 |pair {Γ t u a b}:Kn Γ t a->Kn Γ u b->Kn Γ (.pair t u) (.both a b)
 |first {Γ t a b}:Kn Γ t (.both a b)->Kn Γ (.first t) a
 |second {Γ t a b}:Kn Γ t (.both a b)->Kn Γ (.second t) b
 |left {Γ t a b}:Kn Γ t a->Kn Γ (.left b t) (.eith a b)
 |right {Γ t a b}:Kn Γ t b->Kn Γ (.right a t) (.eith a b)
 |case {Γ t u v a b c}:Kn Γ t (.eith a b)->Kn (a::Γ) u c->Kn (b::Γ) v c->Kn Γ (.case t u v) c
 |way {Γ t a b}:Kn (a::Γ) t b->Kn Γ (.way a t) (.way a b)
 |give {Γ t u a b}:Kn Γ t (.way a b)->Kn Γ u a->Kn Γ (.give t u) b
 |lets {Γ t u a b}:Kn Γ t a->Kn (a::Γ) u b->Kn Γ (.lets t u) b
 |never {Γ t b}:Kn Γ t .non->Kn Γ (.never b t) b
def ct1:∀{p:Pg}{Γ:List Kd}{k:Kd},p.kind Γ=AA k->Kn Γ p k:=by
 intro p
 induction p with
 |name n=>exact λh=>.name h
 |star=>intro Γ k h;cases h;exact .star
 |pair t u i j=>
  intro Γ k h;unfold Pg.kind at h;cases e:t.kind Γ with
  |none=>rw[e]at h;cases h
  |some a=>cases f:u.kind Γ with
   |none=>rw[e,f]at h;cases h
   |some b=>rw[e,f]at h;cases h;exact .pair (i e) (j f)
 |first t i=>
  intro Γ k h;unfold Pg.kind at h;cases e:t.kind Γ with
  |none=>rw[e]at h;cases h
  |some a=>rw[e]at h;cases a<;>cases h;exact .first (i e)
 |second t i=>
  intro Γ k h;unfold Pg.kind at h;cases e:t.kind Γ with
  |none=>rw[e]at h;cases h
  |some a=>rw[e]at h;cases a<;>cases h;exact .second (i e)
 |left b t i=>
  intro Γ k h;unfold Pg.kind at h;cases e:t.kind Γ with
  |none=>rw[e]at h;cases h
  |some a=>rw[e]at h;cases h;exact .left (i e)
 |right b t i=>
  intro Γ k h;unfold Pg.kind at h;cases e:t.kind Γ with
  |none=>rw[e]at h;cases h
  |some a=>rw[e]at h;cases h;exact .right (i e)
 |case t u v i j l=>
  intro Γ k h;unfold Pg.kind at h;cases e:t.kind Γ with
  |none=>rw[e]at h;cases h
  |some a=>
   rw[e]at h;cases a<;>first|cases h;done|skip
   rename_i a b;replace h:(match u.kind (a::Γ),v.kind (b::Γ)with|some k,AA l=>if k=l then AA k else AE|_,_=>AE)=AA k:=h;cases f:u.kind (a::Γ)with
   |none=>rw[f]at h;cases h
   |some c=>cases g:v.kind (b::Γ)with
    |none=>rw[f,g]at h;cases h
    |some d=>
     rw[f,g]at h
     by_cases z:c=d
     ·cases(if_pos z).symm.trans h;cases z;exact .case (i e) (j f) (l g)
     ·cases(if_neg z).symm.trans h
 |way a t i=>
  intro Γ k h;unfold Pg.kind at h;cases e:t.kind (a::Γ)with
  |none=>rw[e]at h;cases h
  |some a=>rw[e]at h;cases h;exact .way (i e)
 |give t u i j=>
  intro Γ k h;unfold Pg.kind at h;cases e:t.kind Γ with
  |none=>rw[e]at h;cases h
  |some a=>cases f:u.kind Γ with
   |none=>rw[e,f]at h;cases a<;>cases h
   |some c=>
    rw[e,f]at h;cases a<;>first|cases h;done|skip
    rename_i a b
    by_cases z:a=c
    ·cases(if_pos z).symm.trans h;cases z;exact .give (i e) (j f)
    ·cases(if_neg z).symm.trans h
 |lets t u i j=>
  intro Γ k h;unfold Pg.kind at h;cases e:t.kind Γ with
  |none=>rw[e]at h;cases h
  |some a=>rw[e]at h;exact .lets (i e) (j h)
 |never b t i=>
  intro Γ k h;unfold Pg.kind at h;cases e:t.kind Γ with
  |none=>rw[e]at h;cases h
  |some a=>rw[e]at h;cases a<;>cases h;exact .never (i e)
end Ek
namespace Ek
open PySem
abbrev af2:Def:=⟨2,["_law_cell","_law_k","_law_number"],
 (.cons (.set 2 (.bin .Mod (.bin .Add (.bin .Add (.bin .Mult (.bin .Mod (.v 0) (.int 2147483629)) (.int 48271)) (.bin .Mult (.int 7919) (.v 1))) (.int 13)) (.int 2147483629)))
 (.cons (.set 2 (.bin .Mod (.bin .Add (.bin .Mult (.v 2) (.bin .Add (.bin .FloorDiv (.v 2) (.int 5)) (.v 1))) (.bin .Mult (.int 16807) (.v 1))) (.int 2147483587)))
 (.cons (.ret (.bin .Mod (.bin .Add (.bin .Mult (.v 2) (.int 69621)) (.bin .FloorDiv (.v 2) (.int 127))) (.int 2147483647)))
 .nil)))⟩
abbrev C8:Def:=⟨1,["_law_script","_law_deck_here","_law_k","_law_cell","_law_number","_law_turn"],
 (.cons (.set 1 (.lst .nil))
 (.cons (.for (.tup [2,3]) (.enum (.sl (.v 0) .non (.int 63)))
   (.cons (.set 4 (.bin .Mod (.abs (.v 3)) (.bin .Pow (.int 2147483647) (.int 60))))
  (.cons (.iff (.cmp .Lt (.v 4) (.bin .Pow (.int 10) (.int 18)))
    (.cons (.ex (.ext (.v 1) (.comp ["_law_number","_law_k","_law_j"] [4,2] 1 (.n 2) (.rng (.int 7)) .non (.call "_law_mixed" (.cons (.v 0) (.cons (.bin .Add (.bin .Mult (.int 7) (.v 1)) (.v 2)) .nil))))))
   (.cons (.set 4 (.int 0))
   .nil))
    .nil)
  (.cons (.for (.n 5) (.rng (.int 60))
    (.cons (.iff (.cmp .Gt (.v 4) (.int 0))
     (.cons (.ex (.app (.v 1) (.bin .Mod (.v 4) (.int 2147483647))))
    (.cons (.set 4 (.bin .FloorDiv (.v 4) (.int 2147483647)))
    .nil))
     .nil)
   .nil))
  .nil))))
 (.cons (.for (.n 2) (.rng2 (.len (.v 1)) (.int 150))
   (.cons (.ex (.app (.v 1) (.call "_law_mixed" (.cons (.sum (.sl (.v 0) .non (.int 63))) (.cons (.v 2) .nil)))))
  .nil))
 (.cons (.ret (.sl (.v 1) .non (.int 900)))
 .nil))))⟩
abbrev af3:Def:=⟨2,["_law_deck_here","_law_many"],
 (.cons (.iff (.cmp .Eq (.len (.v 0)) (.int 0))
   (.cons (.ret (.int 0))
  .nil)
   .nil)
 (.cons (.ret (.bin .Mod (.popAt (.v 0) (.int 0)) (.v 1)))
 .nil))⟩
abbrev af1:Def:=⟨2,["_law_number","_law_times","_law_found","_law_turn"],
 (.cons (.set 2 (.int 1))
 (.cons (.for (.n 3) (.rng (.v 1))
   (.cons (.set 2 (.bin .Mult (.v 2) (.v 0)))
  .nil))
 (.cons (.ret (.v 2))
 .nil)))⟩
abbrev Y9:Def:=⟨1,["_law_kind_here","_law_one","_law_other"],
 (.cons (.iff (.cmp .Eq (.len (.v 0)) (.int 1))
   (.cons (.ret (.toInt (.cmp .Eq (.ix (.v 0) (.int 0)) (.str "one"))))
  .nil)
   .nil)
 (.cons (.set 1 (.call "_law_count" (.cons (.ix (.v 0) (.int 1)) .nil)))
 (.cons (.set 2 (.call "_law_count" (.cons (.ix (.v 0) (.int 2)) .nil)))
 (.cons (.ret (.dsel ["either","both","way"] (.cons (.bin .Add (.v 1) (.v 2)) (.cons (.bin .Mult (.v 1) (.v 2)) (.cons (.call "_law_power" (.cons (.v 2) (.cons (.v 1) .nil))) .nil))) (.ix (.v 0) (.int 0))))
 .nil))))⟩
abbrev E1:Def:=⟨3,["_law_deck_here","_law_deep","_law_most","_law_way","_law_word","_law_one","_law_other"],
 (.cons (.set 3 (.call "_law_next" (.cons (.v 0) (.cons (.ix (.lst (.cons (.int 1) (.cons (.int 6) .nil))) (.toInt (.cmp .Gt (.v 1) (.int 0)))) .nil))))
 (.cons (.iff (.or (.cmp .Eq (.v 3) (.int 0)) (.cmp .Eq (.v 3) (.int 5)))
   (.cons (.ret (.ix (.lst (.cons (.tup (.cons (.str "one") .nil)) (.cons (.tup (.cons (.str "either") (.cons (.tup (.cons (.str "one") .nil)) (.cons (.tup (.cons (.str "one") .nil)) .nil)))) .nil))) (.toInt (.and (.cmp .Eq (.v 3) (.int 5)) (.cmp .Gt (.v 2) (.int 1))))))
  .nil)
   .nil)
 (.cons (.set 4 (.ix (.lst (.cons (.str "either") (.cons (.str "both") (.cons (.str "way") (.cons (.str "either") .nil))))) (.bin .Sub (.v 3) (.int 1))))
 (.cons (.set 5 (.call "_law_kind" (.cons (.v 0) (.cons (.bin .Sub (.v 1) (.int 1)) (.cons (.v 2) .nil)))))
 (.cons (.set 6 (.call "_law_kind" (.cons (.v 0) (.cons (.bin .Sub (.v 1) (.int 1)) (.cons (.v 2) .nil)))))
 (.cons (.iff (.and (.cmp .NotEq (.v 4) (.str "both")) (.cmp .Eq (.call "_law_next" (.cons (.v 0) (.cons (.int 6) .nil))) (.int 1)))
   (.cons (.set 5 (.tup (.cons (.str "none") .nil)))
  .nil)
   (.cons (.iff (.and (.cmp .Eq (.v 4) (.str "either")) (.cmp .Eq (.call "_law_next" (.cons (.v 0) (.cons (.int 6) .nil))) (.int 1)))
    (.cons (.set 6 (.tup (.cons (.str "none") .nil)))
   .nil)
    .nil)
  .nil))
 (.cons (.iff (.and (.cmp .Eq (.v 4) (.str "way")) (.cmp .Gt (.call "_law_count" (.cons (.v 5) .nil)) (.int 6)))
   (.cons (.set 5 (.tup (.cons (.str "one") .nil)))
  .nil)
   .nil)
 (.cons (.iff (.cmp .Gt (.call "_law_count" (.cons (.tup (.cons (.v 4) (.cons (.v 5) (.cons (.v 6) .nil)))) .nil)) (.v 2))
   (.cons (.ret (.tup (.cons (.str "one") .nil)))
  .nil)
   .nil)
 (.cons (.ret (.tup (.cons (.v 4) (.cons (.v 5) (.cons (.v 6) .nil)))))
 .nil)))))))))⟩
abbrev O9:Def:=⟨2,["_law_kind_here","_law_names_here","_law_word","_law_body"],
 (.cons (.set 2 (.ix (.v 0) (.int 0)))
 (.cons (.iff (.cmp .Eq (.v 2) (.str "none"))
   (.cons (.ret (.tup (.cons (.str "name") (.cons (.index (.v 1) (.v 0)) .nil))))
  .nil)
   .nil)
 (.cons (.iff (.cmp .Eq (.v 2) (.str "one"))
   (.cons (.ret (.tup (.cons (.str "star") .nil)))
  .nil)
   .nil)
 (.cons (.iff (.cmp .Eq (.v 2) (.str "both"))
   (.cons (.ret (.tup (.cons (.str "pair") (.cons (.call "_law_least" (.cons (.ix (.v 0) (.int 1)) (.cons (.v 1) .nil))) (.cons (.call "_law_least" (.cons (.ix (.v 0) (.int 2)) (.cons (.v 1) .nil))) .nil)))))
  .nil)
   .nil)
 (.cons (.iff (.cmp .Eq (.v 2) (.str "way"))
   (.cons (.set 3 (.bin .Add (.tup (.cons (.ix (.v 0) (.int 1)) .nil)) (.v 1)))
  (.cons (.ret (.tup (.cons (.str "way") (.cons (.ix (.v 0) (.int 1)) (.cons (.call "_law_least" (.cons (.ix (.v 0) (.int 2)) (.cons (.v 3) .nil))) .nil)))))
  .nil))
   .nil)
 (.cons (.iff (.cmp .Gt (.call "_law_count" (.cons (.ix (.v 0) (.int 1)) .nil)) (.int 0))
   (.cons (.ret (.tup (.cons (.str "left") (.cons (.ix (.v 0) (.int 2)) (.cons (.call "_law_least" (.cons (.ix (.v 0) (.int 1)) (.cons (.v 1) .nil))) .nil)))))
  .nil)
   .nil)
 (.cons (.ret (.tup (.cons (.str "right") (.cons (.ix (.v 0) (.int 1)) (.cons (.call "_law_least" (.cons (.ix (.v 0) (.int 2)) (.cons (.v 1) .nil))) .nil)))))
 .nil)))))))⟩
abbrev F9:Def:=⟨5,["_law_deck_here","_law_kind_here","_law_names_here","_law_room","_law_deep","_law_word","_law_one","_law_side","_law_body"],
 (.cons (.set 5 (.ix (.v 1) (.int 0)))
 (.cons (.iff (.or (.cmp .Eq (.v 5) (.str "none")) (.cmp .Eq (.v 5) (.str "one")))
   (.cons (.ret (.call "_law_least" (.cons (.v 1) (.cons (.v 2) .nil))))
  .nil)
   .nil)
 (.cons (.iff (.cmp .Eq (.v 5) (.str "both"))
   (.cons (.set 6 (.call "_law_grown" (.cons (.v 0) (.cons (.ix (.v 1) (.int 1)) (.cons (.v 2) (.cons (.v 3) (.cons (.bin .Sub (.v 4) (.int 1)) .nil)))))))
  (.cons (.ret (.tup (.cons (.str "pair") (.cons (.v 6) (.cons (.call "_law_grown" (.cons (.v 0) (.cons (.ix (.v 1) (.int 2)) (.cons (.v 2) (.cons (.v 3) (.cons (.bin .Sub (.v 4) (.int 1)) .nil)))))) .nil)))))
  .nil))
   .nil)
 (.cons (.iff (.cmp .Eq (.v 5) (.str "way"))
   (.cons (.ret (.tup (.cons (.str "way") (.cons (.ix (.v 1) (.int 1)) (.cons (.call "_law_grown" (.cons (.v 0) (.cons (.ix (.v 1) (.int 2)) (.cons (.bin .Add (.tup (.cons (.ix (.v 1) (.int 1)) .nil)) (.v 2)) (.cons (.v 3) (.cons (.bin .Sub (.v 4) (.int 1)) .nil)))))) .nil)))))
  .nil)
   .nil)
 (.cons (.set 7 (.call "_law_next" (.cons (.v 0) (.cons (.int 2) .nil))))
 (.cons (.iff (.cmp .Eq (.call "_law_count" (.cons (.ix (.v 1) (.bin .Add (.int 1) (.v 7))) .nil)) (.int 0))
   (.cons (.set 7 (.bin .Sub (.int 1) (.v 7)))
  .nil)
   .nil)
 (.cons (.set 8 (.call "_law_grown" (.cons (.v 0) (.cons (.ix (.v 1) (.bin .Add (.int 1) (.v 7))) (.cons (.v 2) (.cons (.v 3) (.cons (.bin .Sub (.v 4) (.int 1)) .nil)))))))
 (.cons (.ret (.tup (.cons (.ix (.lst (.cons (.str "left") (.cons (.str "right") .nil))) (.v 7)) (.cons (.ix (.v 1) (.bin .Sub (.int 2) (.v 7))) (.cons (.v 8) .nil)))))
 .nil))))))))⟩
abbrev Z1:Def:=⟨1,["_law_kind_here"],
 (.cons (.iff (.cmp .Eq (.len (.v 0)) (.int 1))
   (.cons (.ret (.int 0))
  .nil)
   .nil)
 (.cons (.ret (.bin .Add (.int 1) (.max (.call "_law_nest" (.cons (.ix (.v 0) (.int 1)) .nil)) (.call "_law_nest" (.cons (.ix (.v 0) (.int 2)) .nil)))))
 .nil))⟩
abbrev M4:Def:=⟨5,["_law_deck_here","_law_kind_here","_law_names_here","_law_room","_law_deep","_law_other","_law_way","_law_known","_law_more","_law_one"],
 (.cons (.set 5 (.call "_law_kind" (.cons (.v 0) (.cons (.int 1) (.cons (.int 4) .nil)))))
 (.cons (.iff (.or (.cmp .Gt (.call "_law_count" (.cons (.tup (.cons (.str "both") (.cons (.v 1) (.cons (.v 5) .nil)))) .nil)) (.int 100)) (.cmp .Gt (.call "_law_count" (.cons (.tup (.cons (.str "way") (.cons (.v 5) (.cons (.v 1) .nil)))) .nil)) (.int 100)))
   (.cons (.set 5 (.tup (.cons (.str "one") .nil)))
  .nil)
   .nil)
 (.cons (.set 6 (.call "_law_next" (.cons (.v 0) (.cons (.int 6) .nil))))
 (.cons (.iff (.cmp .Eq (.v 6) (.int 0))
   (.cons (.ret (.tup (.cons (.str "first") (.cons (.call "_law_grown" (.cons (.v 0) (.cons (.tup (.cons (.str "both") (.cons (.v 1) (.cons (.v 5) .nil)))) (.cons (.v 2) (.cons (.v 3) (.cons (.bin .Sub (.v 4) (.int 1)) .nil)))))) .nil))))
  .nil)
   .nil)
 (.cons (.iff (.cmp .Eq (.v 6) (.int 1))
   (.cons (.ret (.tup (.cons (.str "second") (.cons (.call "_law_grown" (.cons (.v 0) (.cons (.tup (.cons (.str "both") (.cons (.v 5) (.cons (.v 1) .nil)))) (.cons (.v 2) (.cons (.v 3) (.cons (.bin .Sub (.v 4) (.int 1)) .nil)))))) .nil))))
  .nil)
   .nil)
 (.cons (.iff (.cmp .Eq (.v 6) (.int 2))
   (.cons (.set 7 (.call "_law_grown" (.cons (.v 0) (.cons (.tup (.cons (.str "way") (.cons (.v 5) (.cons (.v 1) .nil)))) (.cons (.v 2) (.cons (.v 3) (.cons (.bin .Sub (.v 4) (.int 1)) .nil)))))))
  (.cons (.ret (.tup (.cons (.str "give") (.cons (.v 7) (.cons (.call "_law_grown" (.cons (.v 0) (.cons (.v 5) (.cons (.v 2) (.cons (.v 3) (.cons (.bin .Sub (.v 4) (.int 1)) .nil)))))) .nil)))))
  .nil))
   .nil)
 (.cons (.iff (.cmp .Eq (.v 6) (.int 3))
   (.cons (.set 7 (.call "_law_grown" (.cons (.v 0) (.cons (.v 5) (.cons (.v 2) (.cons (.v 3) (.cons (.bin .Sub (.v 4) (.int 1)) .nil)))))))
  (.cons (.ret (.tup (.cons (.str "let") (.cons (.v 7) (.cons (.call "_law_grown" (.cons (.v 0) (.cons (.v 1) (.cons (.bin .Add (.tup (.cons (.v 5) .nil)) (.v 2)) (.cons (.v 3) (.cons (.bin .Sub (.v 4) (.int 1)) .nil)))))) .nil)))))
  .nil))
   .nil)
 (.cons (.iff (.and (.cmp .Eq (.v 6) (.int 4)) (.cmp .In (.tup (.cons (.str "none") .nil)) (.v 2)))
   (.cons (.ret (.tup (.cons (.str "never") (.cons (.v 1) (.cons (.tup (.cons (.str "name") (.cons (.index (.v 2) (.tup (.cons (.str "none") .nil))) .nil))) .nil)))))
  .nil)
   .nil)
 (.cons (.set 8 (.call "_law_kind" (.cons (.v 0) (.cons (.int 1) (.cons (.int 4) .nil)))))
 (.cons (.set 7 (.call "_law_grown" (.cons (.v 0) (.cons (.tup (.cons (.str "either") (.cons (.v 5) (.cons (.v 8) .nil)))) (.cons (.v 2) (.cons (.v 3) (.cons (.bin .Sub (.v 4) (.int 1)) .nil)))))))
 (.cons (.set 9 (.call "_law_grown" (.cons (.v 0) (.cons (.v 1) (.cons (.bin .Add (.tup (.cons (.v 5) .nil)) (.v 2)) (.cons (.v 3) (.cons (.bin .Sub (.v 4) (.int 1)) .nil)))))))
 (.cons (.ret (.tup (.cons (.str "case") (.cons (.v 7) (.cons (.v 9) (.cons (.call "_law_grown" (.cons (.v 0) (.cons (.v 1) (.cons (.bin .Add (.tup (.cons (.v 8) .nil)) (.v 2)) (.cons (.v 3) (.cons (.bin .Sub (.v 4) (.int 1)) .nil)))))) .nil))))))
 .nil))))))))))))⟩
abbrev O8:Def:=⟨5,["_law_deck_here","_law_kind_here","_law_names_here","_law_room","_law_deep","_law_some","_law_way"],
 (.cons (.put (.v 3) (.int 0) (.bin .Sub (.ix (.v 3) (.int 0)) (.int 1)))
 (.cons (.set 5 (.comp ["_law_kind_here","_law_k","_law_name"] [1] 2 (.tup [1,2]) (.enum (.v 2)) (.cmp .Eq (.v 2) (.v 0)) (.v 1)))
 (.cons (.set 6 (.call "_law_next" (.cons (.v 0) (.cons (.int 8) .nil))))
 (.cons (.iff (.and (.cmp .Gt (.len (.v 5)) (.int 0)) (.cmp .Lt (.v 6) (.int 3)))
   (.cons (.ret (.tup (.cons (.str "name") (.cons (.ix (.v 5) (.call "_law_next" (.cons (.v 0) (.cons (.len (.v 5)) .nil)))) .nil))))
  .nil)
   .nil)
 (.cons (.iff (.or (.cmp .LtE (.ix (.v 3) (.int 0)) (.int 0)) (.or (.cmp .LtE (.v 4) (.int 0)) (.cmp .Eq (.v 1) (.tup (.cons (.str "none") .nil)))))
   (.cons (.ret (.call "_law_least" (.cons (.v 1) (.cons (.v 2) .nil))))
  .nil)
   .nil)
 (.cons (.iff (.or (.cmp .Lt (.v 6) (.int 6)) (.cmp .Gt (.call "_law_nest" (.cons (.v 1) .nil)) (.int 4)))
   (.cons (.ret (.call "_law_made" (.cons (.v 0) (.cons (.v 1) (.cons (.v 2) (.cons (.v 3) (.cons (.v 4) .nil)))))))
  .nil)
   .nil)
 (.cons (.ret (.call "_law_asked" (.cons (.v 0) (.cons (.v 1) (.cons (.v 2) (.cons (.v 3) (.cons (.v 4) .nil)))))))
 .nil)))))))⟩
abbrev Y7:Def:=⟨1,["_law_program_here","_law_word"],
 (.cons (.set 1 (.ix (.v 0) (.int 0)))
 (.cons (.iff (.cmp .Eq (.v 1) (.str "name"))
   (.cons (.ret (.tup .nil))
  .nil)
   .nil)
 (.cons (.ret (.sl (.v 0) (.bin .Add (.int 1) (.toInt (.cmp .In (.v 1) (.tup (.cons (.str "left") (.cons (.str "right") (.cons (.str "way") (.cons (.str "never") .nil)))))))) .non))
 .nil)))⟩
abbrev af0:Def:=⟨1,["_law_program_here"],
 (.cons (.ret (.bin .Add (.int 1) (.sum (.comp ["_law_piece"] [] 1 (.n 0) (.seq (.call "_law_inner" (.cons (.v 0) .nil))) .non (.call "_law_parts" (.cons (.v 0) .nil))))))
 .nil)⟩
abbrev ae8:Def:=⟨4,["_law_deck_here","_law_kind_here","_law_names_here","_law_many","_law_found"],
 (.cons (.set 4 (.call "_law_grown" (.cons (.v 0) (.cons (.v 1) (.cons (.v 2) (.cons (.lst (.cons (.v 3) .nil)) (.cons (.int 8) .nil)))))))
 (.cons (.iff (.cmp .Gt (.call "_law_parts" (.cons (.v 4) .nil)) (.int 60))
   (.cons (.ret (.call "_law_least" (.cons (.v 1) (.cons (.v 2) .nil))))
  .nil)
   .nil)
 (.cons (.ret (.v 4))
 .nil)))⟩
abbrev C7:Def:=⟨3,["_law_deck_here","_law_most","_law_lines","_law_names_here","_law_many","_law_k","_law_kind_here"],
 (.cons (.set 3 (.tup .nil))
 (.cons (.set 4 (.int 1))
 (.cons (.for (.n 5) (.rng (.call "_law_next" (.cons (.v 0) (.cons (.bin .Add (.v 1) (.int 1)) .nil))))
   (.cons (.set 6 (.call "_law_kind" (.cons (.v 0) (.cons (.int 2) (.cons (.int 16) .nil)))))
  (.cons (.iff (.cmp .Eq (.call "_law_next" (.cons (.v 0) (.cons (.int 12) .nil))) (.int 1))
    (.cons (.set 6 (.tup (.cons (.str "none") .nil)))
   .nil)
    .nil)
  (.cons (.iff (.cmp .LtE (.bin .Mult (.v 4) (.max (.int 1) (.call "_law_count" (.cons (.v 6) .nil)))) (.v 2))
    (.cons (.set 4 (.bin .Mult (.v 4) (.max (.int 1) (.call "_law_count" (.cons (.v 6) .nil)))))
   (.cons (.set 3 (.bin .Add (.v 3) (.tup (.cons (.v 6) .nil))))
   .nil))
    .nil)
  .nil))))
 (.cons (.ret (.v 3))
 .nil))))⟩
abbrev X7:Def:=⟨2,["self","text"],
 (.cons (.fldS (.v 0) "text" (.v 1))
 (.cons (.fldS (.v 0) "place" (.int 0))
 .nil))⟩
abbrev ae1:Def:=⟨1,["self"],
 (.cons (.ret (.ssl (.fld (.v 0) "text") (.fld (.v 0) "place") (.bin .Add (.fld (.v 0) "place") (.int 1))))
 .nil)⟩
abbrev ae5:Def:=⟨1,["self","sign"],
 (.cons (.set 1 (.meth (.v 0) "next_sign" .nil))
 (.cons (.fldS (.v 0) "place" (.bin .Add (.fld (.v 0) "place") (.int 1)))
 (.cons (.ret (.v 1))
 .nil)))⟩
abbrev Y0:Def:=⟨2,["self","wanted"],
 (.cons (.iff (.cmp .NotEq (.ssl (.fld (.v 0) "text") (.fld (.v 0) "place") (.bin .Add (.fld (.v 0) "place") (.slen (.v 1)))) (.v 1))
   (.cons .raise
  .nil)
   .nil)
 (.cons (.fldS (.v 0) "place" (.bin .Add (.fld (.v 0) "place") (.slen (.v 1))))
 .nil))⟩
abbrev ae2:Def:=⟨2,["self","choices","start"],
 (.cons (.set 2 (.fld (.v 0) "place"))
 (.cons (.while (.and (.cmp .NotEq (.meth (.v 0) "next_sign" .nil) (.str "")) (.sin AF (.meth (.v 0) "next_sign" .nil) (.v 1)))
   (.cons (.fldS (.v 0) "place" (.bin .Add (.fld (.v 0) "place") (.int 1)))
  .nil))
 (.cons (.ret (.ssl (.fld (.v 0) "text") (.v 2) (.fld (.v 0) "place")))
 .nil)))⟩
abbrev ae3:Def:=⟨5,["self","front","many","between","end"],
 (.cons (.fldS (.v 0) "front" (.v 1))
 (.cons (.fldS (.v 0) "many" (.v 2))
 (.cons (.fldS (.v 0) "between" (.v 3))
 (.cons (.fldS (.v 0) "end" (.v 4))
 (.cons (.fldS (.v 0) "parts" (.lst .nil))
 (.cons (.fldS (.v 0) "found" (.str ""))
 .nil))))))⟩
abbrev T4:Def:=⟨3,["self","part","reader"],
 (.cons (.ex (.app (.fld (.v 0) "parts") (.v 1)))
 (.cons (.iff (.or (.cmp .Eq (.fld (.v 0) "many") (.len (.fld (.v 0) "parts"))) (.and (.isN (.fld (.v 0) "many")) (.cmp .Eq (.meth (.v 2) "next_sign" .nil) (.fld (.v 0) "end"))))
   (.cons (.ex (.meth (.v 2) "must_be" (.cons (.fld (.v 0) "end") .nil)))
  (.cons (.ret (.bl AC))
  .nil))
   .nil)
 (.cons (.fldS (.v 0) "found" (.meth (.v 2) "sign" .nil))
 (.cons (.iff (.or (.cmp .Eq (.fld (.v 0) "found") (.str "")) (.sin AC (.fld (.v 0) "found") (.fld (.v 0) "between")))
   (.cons .raise
  .nil)
   .nil)
 (.cons (.ret (.bl AF))
 .nil)))))⟩
abbrev ae7:Def:=⟨1,["self"],
 (.cons (.iff (.cmp .Eq (.fld (.v 0) "front") (.gc "ROW"))
   (.cons (.ret (.tup (.cons (.str "w") (.cons (.tuple (.fld (.v 0) "parts")) .nil))))
  .nil)
   .nil)
 (.cons (.iff (.cmp .Eq (.fld (.v 0) "front") (.gc "KIND"))
   (.cons (.ret (.bin .Add (.tup (.cons (.gsel "KIND_WORDS" (.fld (.v 0) "found")) .nil)) (.tuple (.fld (.v 0) "parts"))))
  .nil)
   .nil)
 (.cons (.ret (.bin .Add (.fld (.v 0) "front") (.tuple (.fld (.v 0) "parts"))))
 .nil)))⟩
abbrev Y5:Def:=⟨1,["text"],
 (.cons (.ret (.call "read_whole" (.cons (.v 0) (.cons (.gf "begin_kind") .nil))))
 .nil)⟩
abbrev Y1:Def:=⟨1,["text"],
 (.cons (.ret (.call "read_whole" (.cons (.v 0) (.cons (.gf "begin_program") .nil))))
 .nil)⟩
abbrev T5:Def:=⟨1,["text"],
 (.cons (.ret (.call "read_whole" (.cons (.v 0) (.cons (.gf "begin_thing") .nil))))
 .nil)⟩
abbrev Y3:Def:=⟨2,["text","begin","reader","answer"],
 (.cons (.set 2 (.make "Reader" (.cons (.v 0) .nil)))
 (.cons (.set 3 (.call "read_one" (.cons (.v 2) (.cons (.v 1) .nil))))
 (.cons (.iff (.cmp .Lt (.fld (.v 2) "place") (.slen (.v 0)))
   (.cons .raise
  .nil)
   .nil)
 (.cons (.ret (.v 3))
 .nil))))⟩
abbrev Y6:Def:=⟨2,["reader","begin","begun","here"],
 (.cons (.set 2 (.lst .nil))
 (.cons (.while (.bl AC)
   (.cons (.set 3 (.callv 1 (.cons (.v 0) .nil)))
  (.cons (.iff (.isC "Begun" (.v 3))
    (.cons (.ex (.app (.v 2) (.v 3)))
   (.cons .cont
   .nil))
    .nil)
  (.cons (.while (.and (.cmp .Gt (.len (.v 2)) (.int 0)) (.meth (.ix (.v 2) (.neg (.int 1))) "ends_with" (.cons (.v 3) (.cons (.v 0) .nil))))
    (.cons (.set 3 (.meth (.pop (.v 2)) "whole" .nil))
   .nil))
  (.cons (.iff (.cmp .Eq (.len (.v 2)) (.int 0))
    (.cons (.ret (.v 3))
   .nil)
    .nil)
  .nil)))))
 .nil))⟩
abbrev O7:Def:=⟨1,["reader","sign"],
 (.cons (.set 1 (.meth (.v 0) "sign" .nil))
 (.cons (.iff (.cmp .Eq (.v 1) (.str "0"))
   (.cons (.ret (.tup (.cons (.str "none") .nil)))
  .nil)
   .nil)
 (.cons (.iff (.cmp .Eq (.v 1) (.str "1"))
   (.cons (.ret (.tup (.cons (.str "one") .nil)))
  .nil)
   .nil)
 (.cons (.iff (.cmp .Eq (.v 1) (.str "("))
   (.cons (.ret (.make "Begun" (.cons (.gc "KIND") (.cons (.int 2) (.cons (.str "+*>") (.cons (.str ")") .nil))))))
  .nil)
   .nil)
 (.cons .raise
 .nil)))))⟩
abbrev L8:Def:=⟨1,["reader","sign"],
 (.cons (.set 1 (.meth (.v 0) "sign" .nil))
 (.cons (.iff (.cmp .Eq (.v 1) (.str "."))
   (.cons (.ret (.tup (.cons (.str "star") .nil)))
  .nil)
   .nil)
 (.cons (.iff (.cmp .Eq (.v 1) (.str "#"))
   (.cons (.ret (.tup (.cons (.str "name") (.cons (.call "read_number" (.cons (.v 0) .nil)) .nil))))
  .nil)
   .nil)
 (.cons (.iff (.cmp .Eq (.v 1) (.str "("))
   (.cons (.ret (.make "Begun" (.cons (.tup (.cons (.str "pair") .nil)) (.cons (.int 2) (.cons (.str ",") (.cons (.str ")") .nil))))))
  .nil)
   .nil)
 (.cons (.iff (.cmp .Eq (.v 1) (.str "["))
   (.cons (.ret (.call "begin_form" (.cons (.v 0) .nil)))
  .nil)
   .nil)
 (.cons .raise
 .nil))))))⟩
abbrev Y4:Def:=⟨1,["reader","word","form","front"],
 (.cons (.set 1 (.meth (.v 0) "signs_of" (.cons (.gc "LETTERS") .nil)))
 (.cons (.iff (.gnin (.v 1) "FORMS")
   (.cons .raise
  .nil)
   .nil)
 (.cons (.ex (.meth (.v 0) "must_be" (.cons (.str " ") .nil)))
 (.cons (.set 2 (.gsel "FORMS" (.v 1)))
 (.cons (.set 3 (.tup (.cons (.ix (.v 2) (.int 0)) .nil)))
 (.cons (.iff (.ix (.v 2) (.int 1))
   (.cons (.set 3 (.tup (.cons (.ix (.v 2) (.int 0)) (.cons (.call "read_one" (.cons (.v 0) (.cons (.gf "begin_kind") .nil))) .nil))))
  (.cons (.ex (.meth (.v 0) "must_be" (.cons (.str " ") .nil)))
  .nil))
   .nil)
 (.cons (.ret (.make "Begun" (.cons (.v 3) (.cons (.ix (.v 2) (.int 2)) (.cons (.str " ") (.cons (.str "]") .nil))))))
 .nil)))))))⟩
abbrev Y2:Def:=⟨1,["reader","figures"],
 (.cons (.set 1 (.meth (.v 0) "signs_of" (.cons (.gc "FIGURES") .nil)))
 (.cons (.iff (.or (.cmp .Eq (.v 1) (.str "")) (.or (.cmp .Gt (.slen (.v 1)) (.int 4)) (.and (.cmp .Eq (.ix (.v 1) (.int 0)) (.str "0")) (.cmp .NotEq (.v 1) (.str "0")))))
   (.cons .raise
  .nil)
   .nil)
 (.cons (.ret (.sint (.v 1)))
 .nil)))⟩
abbrev A0:Def:=⟨1,["reader","sign"],
 (.cons (.set 1 (.meth (.v 0) "sign" .nil))
 (.cons (.iff (.cmp .Eq (.v 1) (.str "."))
   (.cons (.ret (.tup .nil))
  .nil)
   .nil)
 (.cons (.iff (.cmp .Eq (.v 1) (.str "<"))
   (.cons (.ret (.make "Begun" (.cons (.tup (.cons (.str "l") .nil)) (.cons (.int 1) (.cons (.str "") (.cons (.str "") .nil))))))
  .nil)
   .nil)
 (.cons (.iff (.cmp .Eq (.v 1) (.str ">"))
   (.cons (.ret (.make "Begun" (.cons (.tup (.cons (.str "r") .nil)) (.cons (.int 1) (.cons (.str "") (.cons (.str "") .nil))))))
  .nil)
   .nil)
 (.cons (.iff (.cmp .Eq (.v 1) (.str "("))
   (.cons (.ret (.make "Begun" (.cons (.tup (.cons (.str "p") .nil)) (.cons (.int 2) (.cons (.str ",") (.cons (.str ")") .nil))))))
  .nil)
   .nil)
 (.cons (.iff (.and (.cmp .Eq (.v 1) (.str "{")) (.cmp .Eq (.meth (.v 0) "next_sign" .nil) (.str "}")))
   (.cons (.ex (.meth (.v 0) "must_be" (.cons (.str "}") .nil)))
  (.cons (.ret (.tup (.cons (.str "w") (.cons (.tup .nil) .nil))))
  .nil))
   .nil)
 (.cons (.iff (.cmp .Eq (.v 1) (.str "{"))
   (.cons (.ret (.make "Begun" (.cons (.gc "ROW") (.cons .non (.cons (.str ",") (.cons (.str "}") .nil))))))
  .nil)
   .nil)
 (.cons .raise
 .nil))))))))⟩
abbrev X9:Def:=⟨1,["_law_kind_here","_law_sign"],
 (.cons (.iff (.cmp .Eq (.len (.v 0)) (.int 1))
   (.cons (.ret (.dsel ["none","one"] (.cons (.str "0") (.cons (.str "1") .nil)) (.ix (.v 0) (.int 0))))
  .nil)
   .nil)
 (.cons (.set 1 (.dsel ["either","both","way"] (.cons (.str "+") (.cons (.str "*") (.cons (.str ">") .nil))) (.ix (.v 0) (.int 0))))
 (.cons (.ret (.cat (.cat (.cat (.cat (.str "(") (.call "_law_kind_shown" (.cons (.ix (.v 0) (.int 1)) .nil))) (.v 1)) (.call "_law_kind_shown" (.cons (.ix (.v 0) (.int 2)) .nil))) (.str ")")))
 .nil)))⟩
abbrev M0:Def:=⟨1,["_law_program_here","_law_word","_law_some","_law_short"],
 (.cons (.set 1 (.ix (.v 0) (.int 0)))
 (.cons (.set 2 (.comp ["_law_piece"] [] 1 (.n 0) (.seq (.call "_law_inner" (.cons (.v 0) .nil))) .non (.call "_law_shown" (.cons (.v 0) .nil))))
 (.cons (.iff (.cmp .Eq (.v 1) (.str "name"))
   (.cons (.ret (.cat (.str "#") (.tstr (.ix (.v 0) (.int 1)))))
  .nil)
   .nil)
 (.cons (.iff (.cmp .Eq (.v 1) (.str "star"))
   (.cons (.ret (.str "."))
  .nil)
   .nil)
 (.cons (.iff (.cmp .Eq (.v 1) (.str "pair"))
   (.cons (.ret (.cat (.cat (.cat (.cat (.str "(") (.ix (.v 2) (.int 0))) (.str ",")) (.ix (.v 2) (.int 1))) (.str ")")))
  .nil)
   .nil)
 (.cons (.set 3 (.dict ["first","second","left","right"] (.cons (.str "fst") (.cons (.str "snd") (.cons (.str "inl") (.cons (.str "inr") .nil))))))
 (.cons (.iff (.cmp .In (.v 1) (.tup (.cons (.str "left") (.cons (.str "right") (.cons (.str "way") (.cons (.str "never") .nil))))))
   (.cons (.set 2 (.bin .Add (.lst (.cons (.call "_law_kind_shown" (.cons (.ix (.v 0) (.int 1)) .nil)) .nil)) (.v 2)))
  .nil)
   .nil)
 (.cons (.ret (.cat (.cat (.cat (.cat (.str "[") (.sgt (.v 3) (.v 1) (.v 1))) (.str " ")) (.join (.str " ") (.v 2))) (.str "]")))
 .nil))))))))⟩
abbrev L9:Def:=⟨2,["_law_deck_here","_law_kind_here","_law_one","_law_side"],
 (.cons (.iff (.cmp .Eq (.ix (.v 1) (.int 0)) (.str "one"))
   (.cons (.ret (.tup .nil))
  .nil)
   .nil)
 (.cons (.iff (.cmp .Eq (.ix (.v 1) (.int 0)) (.str "both"))
   (.cons (.set 2 (.call "_law_thing" (.cons (.v 0) (.cons (.ix (.v 1) (.int 1)) .nil))))
  (.cons (.ret (.tup (.cons (.str "p") (.cons (.v 2) (.cons (.call "_law_thing" (.cons (.v 0) (.cons (.ix (.v 1) (.int 2)) .nil))) .nil)))))
  .nil))
   .nil)
 (.cons (.iff (.cmp .Eq (.ix (.v 1) (.int 0)) (.str "way"))
   (.cons (.ret (.tup (.cons (.str "w") (.cons (.tuple (.comp ["_law_deck_here","_law_kind_here","_law_k"] [0,1] 1 (.n 2) (.rng (.call "_law_count" (.cons (.ix (.v 1) (.int 1)) .nil))) .non (.call "_law_thing" (.cons (.v 0) (.cons (.ix (.v 1) (.int 2)) .nil))))) .nil))))
  .nil)
   .nil)
 (.cons (.set 3 (.call "_law_next" (.cons (.v 0) (.cons (.int 2) .nil))))
 (.cons (.iff (.cmp .Eq (.call "_law_count" (.cons (.ix (.v 1) (.bin .Add (.int 1) (.v 3))) .nil)) (.int 0))
   (.cons (.set 3 (.bin .Sub (.int 1) (.v 3)))
  .nil)
   .nil)
 (.cons (.ret (.tup (.cons (.ix (.str "lr") (.v 3)) (.cons (.call "_law_thing" (.cons (.v 0) (.cons (.ix (.v 1) (.bin .Add (.int 1) (.v 3))) .nil))) .nil))))
 .nil))))))⟩
abbrev X8:Def:=⟨1,["_law_thing_here"],
 (.cons (.iff (.cmp .Eq (.v 0) (.tup .nil))
   (.cons (.ret (.str "."))
  .nil)
   .nil)
 (.cons (.iff (.cmp .Eq (.ix (.v 0) (.int 0)) (.str "w"))
   (.cons (.ret (.cat (.cat (.str "{") (.join (.str ",") (.comp ["_law_one"] [] 1 (.n 0) (.seq (.ix (.v 0) (.int 1))) .non (.call "_law_thing_shown" (.cons (.v 0) .nil))))) (.str "}")))
  .nil)
   .nil)
 (.cons (.iff (.cmp .Eq (.ix (.v 0) (.int 0)) (.str "p"))
   (.cons (.ret (.cat (.cat (.cat (.cat (.str "(") (.call "_law_thing_shown" (.cons (.ix (.v 0) (.int 1)) .nil))) (.str ",")) (.call "_law_thing_shown" (.cons (.ix (.v 0) (.int 2)) .nil))) (.str ")")))
  .nil)
   .nil)
 (.cons (.ret (.cat (.dsel ["l","r"] (.cons (.str "<") (.cons (.str ">") .nil)) (.ix (.v 0) (.int 0))) (.call "_law_thing_shown" (.cons (.ix (.v 0) (.int 1)) .nil))))
 .nil))))⟩
abbrev T6:Def:=⟨2,["_law_which","_law_text","_law_caught","_law_found","e"],
 (.cons (.set 2 .non)
 (.cons (.set 3 .non)
 (.cons (.try3 0 1 "read_kind" "read_program" "read_thing" 3 2 4)
 (.cons (.iff (.isN (.v 2))
   (.cons (.ret (.lst (.cons (.v 3) .nil)))
  .nil)
   .nil)
 (.cons (.iff (.or (.not (.isX "NoText" (.v 2))) (.or (.isX "NoKind" (.v 2)) (.isX "NoStep" (.v 2))))
   (.cons (.ret .non)
  .nil)
   .nil)
 (.cons (.ret (.lst .nil))
 .nil))))))⟩
abbrev ae6:Def:=⟨2,["_law_which","_law_thing_here"],
 (.cons (.iff (.cmp .Eq (.v 0) (.int 0))
   (.cons (.ret (.call "_law_kind_shown" (.cons (.v 1) .nil)))
  .nil)
   .nil)
 (.cons (.iff (.cmp .Eq (.v 0) (.int 1))
   (.cons (.ret (.call "_law_shown" (.cons (.v 1) .nil)))
  .nil)
   .nil)
 (.cons (.ret (.call "_law_thing_shown" (.cons (.v 1) .nil)))
 .nil)))⟩
abbrev ae4:Def:=⟨2,["_law_deck_here","_law_text","_law_signs","_law_at","_law_sign"],
 (.cons (.set 2 (.str "().,[]{}<>#+*01 abcdefghilnprstuvwy29!-"))
 (.cons (.set 3 (.call "_law_next" (.cons (.v 0) (.cons (.bin .Add (.slen (.v 1)) (.int 1)) .nil))))
 (.cons (.set 4 (.ix (.v 2) (.call "_law_next" (.cons (.v 0) (.cons (.slen (.v 2)) .nil)))))
 (.cons (.ret (.cat (.cat (.sl (.v 1) .non (.v 3)) (.ix (.lst (.cons (.str "") (.cons (.v 4) (.cons (.v 4) .nil)))) (.call "_law_next" (.cons (.v 0) (.cons (.int 3) .nil))))) (.sl (.v 1) (.bin .Add (.v 3) (.call "_law_next" (.cons (.v 0) (.cons (.int 2) .nil)))) .non)))
 .nil))))⟩
abbrev M3:Def:=⟨3,["_law_deck_here","_law_which","_law_text","_law_way","_law_places","_law_at","_law_some"],
 (.cons (.set 3 (.call "_law_next" (.cons (.v 0) (.cons (.int 8) .nil))))
 (.cons (.set 4 (.comp ["_law_text","_law_k"] [2] 1 (.n 1) (.rng (.slen (.v 2))) (.sin AF (.ix (.v 0) (.v 1)) (.str "()[]{}")) (.v 1)))
 (.cons (.iff (.and (.cmp .Eq (.v 3) (.int 0)) (.cmp .Gt (.len (.v 4)) (.int 0)))
   (.cons (.set 5 (.ix (.v 4) (.call "_law_next" (.cons (.v 0) (.cons (.len (.v 4)) .nil)))))
  (.cons (.ret (.cat (.sl (.v 2) .non (.v 5)) (.sl (.v 2) (.bin .Add (.v 5) (.int 1)) .non)))
  .nil))
   .nil)
 (.cons (.iff (.cmp .Eq (.v 3) (.int 1))
   (.cons (.ret (.cat (.v 2) (.str " ")))
  .nil)
   .nil)
 (.cons (.iff (.cmp .Eq (.v 3) (.int 2))
   (.cons (.ret (.cat (.str " ") (.v 2)))
  .nil)
   .nil)
 (.cons (.iff (.cmp .Eq (.v 3) (.int 3))
   (.cons (.ret (.cat (.v 2) (.str ")")))
  .nil)
   .nil)
 (.cons (.iff (.cmp .Eq (.v 1) (.int 1))
   (.cons (.set 6 (.lst (.cons (.str "#01") (.cons (.str "#12345") (.cons (.str "#") (.cons (.str "#-1") (.cons (.str "#+1") (.cons (.str "#1_0") (.cons (.str "# 1") (.cons (.str "#-0") (.cons (.str "[fst #0") (.cons (.str "[fst  #0]") (.cons (.str "fst #0") .nil)))))))))))))
  (.cons (.set 6 (.bin .Add (.v 6) (.lst (.cons (.str "[first #0]") (.cons (.str "[fst #0 #0]") (.cons (.str "[snd]") (.cons (.str "[inl .]") (.cons (.str "[inl 1 . .]") (.cons (.str "[inr 1]") (.cons (.str "[case . .]") .nil))))))))))
  (.cons (.set 6 (.bin .Add (.v 6) (.lst (.cons (.str "[case . . . .]") (.cons (.str "[way 1]") (.cons (.str "[way . .]") (.cons (.str "[give .]") (.cons (.str "[give . . .]") (.cons (.str "[let .]") (.cons (.str "[ .]") .nil))))))))))
  (.cons (.set 6 (.bin .Add (.v 6) (.lst (.cons (.str "[let . . .]") (.cons (.str "[never 1]") (.cons (.str "[never . .]") (.cons (.str "[pair . .]") (.cons (.str "(.)") (.cons (.str "(.,.,.)") (.cons (.str "(. .)") (.cons (.str "()") .nil)))))))))))
  (.cons (.set 6 (.bin .Add (.v 6) (.lst (.cons (.str "[f .]") (.cons (.str "[fst,.]") (.cons (.str "[star]") (.cons (.str "[]") .nil)))))))
  (.cons (.ret (.ix (.v 6) (.call "_law_next" (.cons (.v 0) (.cons (.len (.v 6)) .nil)))))
  .nil))))))
   .nil)
 (.cons (.set 6 (.ix (.lst (.cons (.lst (.cons (.str "") (.cons (.str "2") (.cons (.str "(1 + 1)") (.cons (.str "(1+1+1)") (.cons (.str "(1-1)") .nil)))))) (.cons (.lst .nil) (.cons (.lst (.cons (.str "") (.cons (.str "<") (.cons (.str "{,}") (.cons (.str "{.,}") (.cons (.str "(.)") .nil)))))) .nil)))) (.v 1)))
 (.cons (.ret (.ix (.v 6) (.call "_law_next" (.cons (.v 0) (.cons (.int 5) .nil)))))
 .nil)))))))))⟩
abbrev G0:Def:=⟨1,["_law_script","_law_deck_here","_law_names_here","_law_kind_here","_law_program_here","_law_some","_law_which","_law_text","_law_turn","_law_wrong","_law_found"],
 (.cons (.set 1 (.call "_law_deck" (.cons (.v 0) .nil)))
 (.cons (.set 2 (.call "_law_names" (.cons (.v 1) (.cons (.int 3) (.cons (.int 64) .nil)))))
 (.cons (.set 3 (.call "_law_kind" (.cons (.v 1) (.cons (.int 4) (.cons (.int 100) .nil)))))
 (.cons (.set 4 (.call "_law_program" (.cons (.v 1) (.cons (.call "_law_kind" (.cons (.v 1) (.cons (.int 3) (.cons (.int 16) .nil)))) (.cons (.v 2) (.cons (.bin .Add (.int 4) (.call "_law_next" (.cons (.v 1) (.cons (.int 20) .nil)))) .nil))))))
 (.cons (.iff (.cmp .Gt (.slen (.call "_law_shown" (.cons (.v 4) .nil))) (.int 3800))
   (.cons (.set 4 (.tup (.cons (.str "star") .nil)))
  .nil)
   .nil)
 (.cons (.set 5 (.lst (.cons (.v 3) (.cons (.v 4) (.cons (.call "_law_thing" (.cons (.v 1) (.cons (.v 3) .nil))) .nil)))))
 (.cons (.for (.n 6) (.rng (.int 3))
   (.cons (.set 7 (.call "_law_written" (.cons (.v 6) (.cons (.ix (.v 5) (.v 6)) .nil))))
  (.cons (.for (.n 8) (.rng (.int 4))
    (.cons (.set 9 (.call "_law_one_sign" (.cons (.v 1) (.cons (.v 7) .nil))))
   (.cons (.set 10 (.call "_law_read" (.cons (.v 6) (.cons (.v 9) .nil))))
   (.cons (.iff (.or (.isN (.v 10)) (.and (.cmp .Gt (.len (.v 10)) (.int 0)) (.cmp .NotEq (.call "_law_written" (.cons (.v 6) (.cons (.ix (.v 10) (.int 0)) .nil))) (.v 9))))
     (.cons (.ret (.bl AF))
    .nil)
     .nil)
   (.cons (.iff (.cmpl AC (.call "_law_read" (.cons (.v 6) (.cons (.call "_law_none" (.cons (.v 1) (.cons (.v 6) (.cons (.v 7) .nil)))) .nil))) (.lst .nil))
     (.cons (.ret (.bl AF))
    .nil)
     .nil)
   .nil)))))
  (.cons (.iff (.cmpl AC (.call "_law_read" (.cons (.v 6) (.cons (.v 7) .nil))) (.lst (.cons (.ix (.v 5) (.v 6)) .nil)))
    (.cons (.ret (.bl AF))
   .nil)
    .nil)
  .nil))))
 (.cons (.ret (.bl AC))
 .nil))))))))⟩
abbrev U5:List (Str×Def):=[(("Reader.__init__":Str),X7),(("Reader.next_sign":Str),ae1),(("Reader.sign":Str),ae5),(("Reader.must_be":Str),Y0),(("Reader.signs_of":Str),ae2),(("Begun.__init__":Str),ae3),(("Begun.ends_with":Str),T4),(("Begun.whole":Str),ae7),(("read_kind":Str),Y5),(("read_program":Str),Y1),(("read_thing":Str),T5),(("read_whole":Str),Y3),(("read_one":Str),Y6),(("begin_kind":Str),O7),(("begin_program":Str),L8),(("begin_form":Str),Y4),(("read_number":Str),Y2),(("begin_thing":Str),A0),(("_law_mixed":Str),af2),(("_law_deck":Str),C8),(("_law_next":Str),af3),(("_law_power":Str),af1),(("_law_count":Str),Y9),(("_law_kind":Str),E1),(("_law_least":Str),O9),(("_law_made":Str),F9),(("_law_nest":Str),Z1),(("_law_asked":Str),M4),(("_law_grown":Str),O8),(("_law_inner":Str),Y7),(("_law_parts":Str),af0),(("_law_program":Str),ae8),(("_law_names":Str),C7),(("_law_kind_shown":Str),X9),(("_law_shown":Str),M0),(("_law_thing":Str),L9),(("_law_thing_shown":Str),X8),(("_law_read":Str),T6),(("_law_written":Str),ae6),(("_law_one_sign":Str),ae4),(("_law_none":Str),M3),(("law":Str),G0)]
abbrev C9:d6:=λf=>U5.lookup f
abbrev j4:Gs:=⟨λg=>if g="KIND_WORDS" then [("+",.str "either"),("*",.str "both"),(">",.str "way")]else if g="FORMS" then [("fst",.tup [.str "first",.bl AF,.int 1]),("snd",.tup [.str "second",.bl AF,.int 1]),("inl",.tup [.str "left",.bl AC,.int 1]),("inr",.tup [.str "right",.bl AC,.int 1]),("case",.tup [.str "case",.bl AF,.int 3]),("way",.tup [.str "way",.bl AC,.int 1]),("give",.tup [.str "give",.bl AF,.int 2]),("let",.tup [.str "let",.bl AF,.int 2]),("never",.tup [.str "never",.bl AC,.int 1])]else [],λc=>if c="!is" then ["Begun"]else if c="!ix" then ["NoKind","NoStep","NoText"]else if c="Reader" then ["text","place"]else if c="Begun" then ["front","many","between","end","parts","found"]else [],λg=>if g="FIGURES" then AA (.str "0123456789")else if g="LETTERS" then AA (.str "abcdefghijklmnopqrstuvwxyz")else if g="KIND" then AA (.tup [.str "kind"])else if g="ROW" then AA (.tup [.str "row"])else AE,AF⟩
end Ek
namespace Ek
open PySem L2
@[reducible]noncomputable def bl5(K:AS)(cd:AI)(ts:List AM):Prop:=∃c P,cd=.ref c/\Dl K c P=AC/\P∈ts
abbrev FnA(K:AS)(ts:List AM)(m:Bool)(f:Str)(st:BG):Prop:=∃(fa:AM)(od an:Option AM)(sl:Array (Option AI))(oc kV dc pm cd ct:AI),
 Aw K AO f=AA (AA (.ref fa))/\K.lookup fa=AA ⟨oc,od,.func (Gb f f (G8 st) (D0 st) (o0 st) .none kV dc pm an cd ct),sl⟩/\FL K cd f=AC/\CU K (.ref fa)=AC/\(m=AC->bl5 K cd ts)
section
variable {K:AS} {ts:List AM} {f c m:Str} {st:BG} {fa Ca:AM} {od an:Option AM} {sl:Array (Option AI)} {oc kV dc pm cd ct:AI} {hc hp:AM}
def fnA(a1:Aw K AO f=AA (AA (.ref fa)))(l1:K.lookup fa=AA ⟨oc,od,.func (Gb f f (G8 st) (D0 st) (o0 st) .none kV dc pm an cd ct),sl⟩)(c1:FL K cd f=AC)(k1:CU K (.ref fa)=AC):FnA K ts AF f st:=
 ⟨_,_,_,_,_,_,_,_,_,_,a1,l1,c1,k1,nofun⟩
structure ClA(K:AS)(c:Str)(Ca:AM):Prop where
 a:Aw K AO c=AA (AA (.ref Ca))
 cl:Cls K Ca
 ms:Hd K Ca=AC
 kp:CU K (.ref Ca)=AC
def clA(a1:Aw K AO c=AA (AA (.ref Ca)))(a2:Fp K Ca Str.empty=AC)(a3:Gd K Ca=AC)(a4:IE K Ca=AC)(a5:BH K (.ref Ca) "__setattr__"=AA (AA (.builtin "object.__setattr__")))(a6:Hd K Ca=AC)(a7:CU K (.ref Ca)=AC):ClA K c Ca:=⟨a1,⟨a2,a3,a4,a5⟩,a6,a7⟩
structure IscA(K:AS)(Ca:AM):Prop where
 ha:BH K (.ref Ca) "__class__"=AA (AA (.builtin "object.__class__"))
 hn:Dp K (.builtin "object.__class__") "__get__"=AA (AA (.builtin "getset_descriptor.__get__"))
 htk:Eg K (.builtin "object.__class__")=AA AC
 hm:ES K Ca (.type "object")=AA AC
 no:Dq K (.type "tuple") (.ref Ca)=AA AF
 yes:Dq K (.ref Ca) (.ref Ca)=AA AC
def cz7(a1:BH K (.ref Ca) "__class__"=AA (AA (.builtin "object.__class__")))(a2:Dp K (.builtin "object.__class__") "__get__"=AA (AA (.builtin "getset_descriptor.__get__")))(a3:Eg K (.builtin "object.__class__")=AA AC)(a4:ES K Ca (.type "object")=AA AC)(a5:Dq K (.type "tuple") (.ref Ca)=AA AF)(a6:Dq K (.ref Ca) (.ref Ca)=AA AC):IscA K Ca:=⟨a1,a2,a3,a4,a5,a6⟩
structure XcA(K:AS)(C E:AM):Prop where
 n:Aw K AO "NoText"=AA (AA (.ref C))
 e:Aw K AO "EvenError"=AA (AA (.ref E))
 ex:HA K C vB "ValueError.__new__"=AC
 em:IP K (.ref C) (.ref E)=AA AC
 c1:(JI K C).isSome=AC
 c2:BH K (.ref C) "__getattribute__"=AA (AA (.builtin "BaseException.__getattribute__"))/\BH K (.ref C) "__getattr__"=AA AE/\ES K C (.type "BaseException")=AA AC
 c3:BH K (.ref C) "__class__"=AA (AA (.builtin "object.__class__"))
 c4:Dp K (.builtin "object.__class__") "__get__"=AA (AA (.builtin "getset_descriptor.__get__"))
 c5:Eg K (.builtin "object.__class__")=AA AC
 c6:ES K C (.type "object")=AA AC
structure XiA(K:AS)(C Ca:AM)(c:Str):Prop where
 n:Aw K AO c=AA (AA (.ref Ca))
 k:Dq K (.ref C) (.ref Ca)=AA (c=="NoText")
def XiA.ok{C E:AM}{mg:Str->Option AI}{h:Ay}(A:XcA K C E)(B:XiA K C Ca c)(X:K.In h)(G:h.Ns AO mg):∃Ca,mg c=AA (.ref Ca)/\IxOk K c Ca:=⟨Ca,Dz X G B.n,C,A.n,B.k,A.c1,A.c2,A.c3,A.c4,A.c5,A.c6⟩
abbrev MtA(K:AS)(ts:List AM)(b:Bool)(c:Str)(Ca:AM)(m:Str)(st:BG):Prop:=∃(fa:AM)(od an:Option AM)(sl:Array (Option AI))(oc kV dc pm cd ct:AI),
 Aw K AO (d0 c m)=AA AE/\Meth K Ca m fa/\K.lookup fa=AA ⟨oc,od,.func (Gb m (d0 c m) (G8 st) (D0 st) (o0 st) .none kV dc pm an cd ct),sl⟩/\FL K cd (d0 c m)=AC/\(b=AC->bl5 K cd ts)
def mtA(a1:Aw K AO (d0 c m)=AA AE)(a2:BH K (.ref Ca) m=AA (AA (.ref fa)))(a3:Js K (.ref fa)=AC)(a4:CU K (.ref fa)=AC)
  (l1:K.lookup fa=AA ⟨oc,od,.func (Gb m (d0 c m) (G8 st) (D0 st) (o0 st) .none kV dc pm an cd ct),sl⟩) (c1:FL K cd (d0 c m)=AC):MtA K ts AF c Ca m st:=⟨_,_,_,_,_,_,_,_,_,_,a1,⟨a2,a3,a4⟩,l1,c1,nofun⟩
end
def bdS{α:Type}{P:List α->Prop}{n:Nat}(h:∀a us,us.length=n->P (a::us)):∀us,us.length=n+1->P us:=λus hl=>by
 cases us with
 |nil=>cases hl
 |cons a us=>exact h a us (Gf hl)
def bdZ{α:Type}{P:List α->Prop}(h:P []):∀us,us.length=0->P us:=λus hl=>by
 cases us with
 |nil=>exact h
 |cons=>cases hl
@[reducible]noncomputable def StF(st:BG)(d:Def)(f:Str):Prop:=Stat st d (d.N.take d.np) f f
@[reducible]noncomputable def StM(st:BG)(d:Def)(c m:Str):Prop:=Stat st d (d.N.take d.np) m (d0 c m)
section
variable [Tbs] {K:AS} {mg:Str->Option AI} {h:Ay} {f c m:Str} {d:Def} {st:BG} {Ca:AM} {b:Bool} {U:Str->List Str}
def FnA.ok(A:FnA K Tbs.ps b f st)(X:K.In h)(G:h.Ns AO mg)(S:StF st d f:=by exact⟨⟨⟨rfl,rfl,rfl,by decide+kernel,rfl,by decide+kernel,by decide+kernel⟩,rfl,by decide+kernel⟩,λ_ _ _ _ _ _=>by(repeat refine bdS λ_=>?_);exact bdZ rfl⟩)(hb:(d.N.contains p0=AC->b=AC):=by decide+kernel):DefOk K mg f d:=by
 obtain⟨fa,od,an,sl,oc,kV,dc,pm,cd,ct,a1,l1,c1,k1,m1⟩:=A;exact cl8 X G S a1 l1 c1 k1 λz=>m1 (hb z)
def MtA.ok(A:MtA K Tbs.ps b c Ca m st)(C:ClA K c Ca)(X:K.In h)(G:h.Ns AO mg)(S:StM st d c m:=by exact⟨⟨⟨rfl,rfl,rfl,by decide+kernel,rfl,by decide+kernel,by decide+kernel⟩,rfl,by decide+kernel⟩,λ_ _ _ _ _ _=>by(repeat refine bdS λ_=>?_);exact bdZ rfl⟩)(hb:(d.N.contains p0=AC->b=AC):=by decide+kernel)(hdf:S6 U (d0 c m)=AE:=by decide+kernel)(h1:isM c=AF:=by decide+kernel)(h2:isM m=AF:=by decide+kernel)(he:f=d0 c m:=by decide+kernel):∃c m,f=d0 c m/\isM c=AF/\isM m=AF/\MthOk K mg (S6 U (d0 c m)) c m d:=by
 obtain⟨fa,od,an,sl,oc,kV,dc,pm,cd,ct,a1,M,l1,c1,m1⟩:=A;subst he;exact⟨c,m,rfl,h1,h2,co9 X G S a1 C.a C.cl M (λz=>by subst z;exact⟨C.ms,M.at_,M.fn,C.kp⟩) l1 c1 (λz=>m1 (hb z)) hdf⟩
end
def f9{α β:Type}{P:α->β->Prop}{a:α}{b:β}{l:List (α×β)}(h:P a b)(t:∀f d,(f,d)∈l->P f d):∀f d,(f,d)∈(a,b)::l->P f d:=λf d hx=>(AT.1 hx).elim (λe=>by cases e;exact h) (t f d)
def bj7{α β:Type}{P:α->β->Prop}:∀f d,(f,d)∈([]:List (α×β))->P f d:=nofun
local macro_rules|`(tactic|rfl')=>do
 let l:=("be7 bl3 bk8 bp5 bg5 bf3 ba8 bh1 az1 a67 bb6 bi4 bl6 bp4 ak7 bj2 e_v bf7 bk3 bj1 bj4 bf8 bf9 bl7 bp2 bg1 bf5 bo7 bp6 bh4 ay5 a03 az5 bg3 av6 a46 ay7 a59 au7 a45 az3 a55 a96 a49 ax1 bb1 a68 bj9 bl0 a34 bk1 a00 bj5 a87 bq5 ay6 bi0 ba3 av3 as3 bn7 bi6 a81 a78 bd3 be4 bc1 bg9 bl2 a04 bl1 bi9 bh7 bc5 a64 a62 bh8 bc2 bh0 bj8 a66 az9 a98 bd6 az0 bk4 bf2 a74 bc7 bl4 bm8 bn8 bn9 bn2 bq8 bn1 bk5 bn0 bj6 bb5 bf0 ba0 bo9 bm7 bm4 or_false false_or be3 bd7 a63 bb7 ak5 bd4 bb0 N6 bg6 bf4 bl8 bj3 bi7 ab4 ac3 be8 bh3 bk9 bi1 br1 bf6 bq2 bg8 L5 ad5 ad2 bp7 bp8 br3 a41 a73 bg7 bi3 ba7 bi5 bh2 a02 ax0 a88 a39 a60 a65 a95 ap3 ap8 bh5 bd2 List.set_cons_zero List.set_cons_succ List.getElem?_cons_zero List.getElem?_cons_succ decide_eq_true_eq not_eq_true' decide_eq_false_iff_not if_true if_false true_and and_true false_eq_true Bool.true_eq_false length_cons length_nil String.reduceEq decide_true decide_false Bool.not_true Bool.not_false".splitOn " ").toArray.map fun n=>Lean.mkIdent n.toName
 `(tactic|try simp only[↓bp9,↓bn3,↓bl9,↓bq3,$[$l:ident],*])
set_option hygiene false
local macro_rules | `(tactic| ∎)=>`(tactic| ((try dsimp only);(first | refine bm5 ?_ | rw [a94]);rfl'))
set_option hygiene true
variable{P:d6}{G:Gs}{st st':Sto}{Q:DK}{a m b c p e sp j:Nat}{l op:List Nat}{R:D->Prop}{r da:AM}{o:Ob}{i:Int}{fd:Str}{Γ:List Kd}
structure PB0(P:d6):Prop where
 mixed:P "_law_mixed"=AA af2
 deck:P "_law_deck"=AA C8
 next:P "_law_next"=AA af3
 power:P "_law_power"=AA af1
 count:P "_law_count"=AA Y9
 kind:P "_law_kind"=AA E1
structure PB(P:d6):Prop extends PB0 P where
 least:P "_law_least"=AA O9
 made:P "_law_made"=AA F9
 nest:P "_law_nest"=AA Z1
 asked:P "_law_asked"=AA M4
 grown:P "_law_grown"=AA O8
 inner:P "_law_inner"=AA Y7
 parts:P "_law_parts"=AA af0
 program:P "_law_program"=AA ae8
 names:P "_law_names"=AA C7
section
variable [NoRs G] (B:PB0 P) {n:Nat} 
include B
def aw9(c k:Int)(q:∀i,Q (.int i) st):sem P G (n+1) "_law_mixed" [.int c,.int k] st Q:=by
 refine d4 B.mixed rfl [AA (.int c),AA (.int k),AE] rfl ?_;unfold af2;dsimp only;∎;refine⟨∅,ab0 ⟨∅,∅⟩,P8 ⟨∅,∅⟩,∅,?_⟩;∎;have e0:∀z:Int,0<=z % 2147483629/\z % 2147483629<2147483629:=λz=>⟨JJ _ ∅,IR _ ∅⟩;refine⟨⟨∅,∅⟩,P8 (by have:=e0 (c % 2147483629*48271+7919*k+13);lia),P8 ⟨∅,∅⟩,∅,?_⟩;∎;refine⟨ab0 ⟨∅,∅⟩,⟨∅,∅⟩,∅,b8 (q _)⟩
def l8{a:AM}{m:Int}(hm:0<m)(h:f8 st a)(q:∀r st',0<=r->r<m->f8 st' a->Kp [a] st st'->Q (.int r) st'):sem P G (n+1) "_law_next" [.ref a,.int m] st Q:=by
 obtain⟨l,h⟩:=h;refine d4 B.next rfl [AA (.ref a),AA (.int m)] rfl ?_;unfold af3;dsimp only;∎;rw[r9 (.inl h)];rfl';cases l with
 |nil=>
  rw[if_pos ∎];∎;exact b8 (q 0 st (GO _) hm ⟨[],h⟩ Kp.refl)
 |cons x l=>
  rw[if_neg (by simp only[AV,AG];lia)];∎;rw[D4 (.inl h)];refine⟨trivial,⟨∅,∅⟩,_,0,.int x,h,by simp[ixN],rfl,?_⟩;simp only[ak5];refine⟨hm,b8 (q _ _ (JJ _ ⋯) (IR _ hm) ⟨l,?_⟩ (Kp.refl.put ∎))⟩;rw[b7];rfl
def b36{b:Int}{t:Nat}(hb:0<=b/\b<2^64)(ht:t<2^62)(q:Q (.int (b^t)) st):sem P G (n+1) "_law_power" [.int b,.int t] st Q:=by
 refine d4 B.power rfl [AA (.int b),AA (.int t),AE,AE] rfl ?_;unfold af1;dsimp only;(iterate 2 ∎);refine⟨⋯,?_⟩;refine G4 (λl env st'=>st'=st/\∃(f:Int)(x:Option D),env=[AA (.int b),AA (.int t),AA (.int f),x]/\f*b^l.length=b^t) ?_ ?_ _ _ _ ⟨rfl,1,AE,rfl,by simp[i6]⟩
 ·rintro env st' ⟨rfl,f,x,rfl,e⟩;refine⟨trivial,?_⟩;∎;have:f=b^t:=by rw[<-e];simp
  rw[this];exact b8 q
 ·rintro d ds env st' ih ⟨rfl,f,x,rfl,e⟩;refine⟨trivial,?_⟩;rfl';∎;refine⟨ab0 ⟨⋯,⋯⟩,ih _ _ ⟨rfl,_,_,rfl,?_⟩⟩;rw[<-e,AG,KI,Int.mul_assoc,Int.mul_comm b]
def A2:∀(k:Kd){m n:Nat}{Q:DK},k.nest+2<=n->(∀a b,k=.eith a b\/k=.both a b\/k=.way a b->a.bd m/\b.bd m)->m<2^62->Q (.int k.cnt) st->sem P G n "_law_count" [k.d] st Q:=by
 have leaf:∀(w:String)(n:Nat)(Q:DK),Q (.int (if w="one" then 1 else 0)) st->sem P G (n+1) "_law_count" [.tup [.str w]] st Q:=λw n Q q=>by
  refine d4 B.count rfl [AA (.tup [.str w]),AE,AE] rfl ?_;unfold Y9;dsimp only;∎;rw[if_pos ∅];∎;exact b8 q
 have node:∀(w:String)(a b:Kd)(n m:Nat)(Q:DK)(v:Nat),(∀Q:DK,Q (.int a.cnt) st->sem P G n "_law_count" [a.d] st Q)->(∀Q:DK,Q (.int b.cnt) st->sem P G n "_law_count" [b.d] st Q)->a.bd m->b.bd m->m<2^62->0<n ->
   (g8 [("either",.int (a.cnt+b.cnt)),("both",.int (a.cnt*b.cnt)),("way",.int ((b.cnt:Int)^a.cnt))] w=AA (.int v))->Q (.int v) st->sem P G (n+1) "_law_count" [.tup [.str w,a.d,b.d]] st Q:=λw a b n m Q v ha hb ba bb hm hn hl q=>by
  obtain⟨n,rfl⟩:∃k,n=k+1:=⟨n-1,⋯⟩;have la:=Kd.bd_le ba;have lb:=Kd.bd_le bb;refine d4 B.count rfl [AA (.tup [.str w,a.d,b.d]),AE,AE] rfl ?_;unfold Y9;dsimp only;∎;rw[if_neg ∅];∎;refine⟨by rw[B.count];rfl,ha _ ?_⟩;∎;refine⟨by rw[B.count];rfl,hb _ ?_⟩;∎;refine⟨ab0 ⟨⋯,⋯⟩,by rw[B.power];rfl,b36 B ⟨⋯,⋯⟩ ⋯ ?_⟩;rfl';exact⟨_,hl,b8 q⟩
 intro k
 induction k with
 |non=>intro m n Q hn _ _ q;obtain⟨n,rfl⟩:∃k,n=k+1:=⟨n-1,⋯⟩;exact leaf "none" n Q q
 |one=>intro m n Q hn _ _ q;obtain⟨n,rfl⟩:∃k,n=k+1:=⟨n-1,⋯⟩;exact leaf "one" n Q q
 |eith a b iha ihb=>
  intro m n Q hn hs hm q;obtain⟨n,rfl⟩:∃k,n=k+1:=⟨n-1,⋯⟩;have⟨ba,bb⟩:=hs a b (.inl rfl);simp only[Kd.nest]at hn;exact node "either" a b n m Q _ (λQ q=>iha ⋯ (λc d e=>by rcases e with e|e|e<;>(subst e;exact⟨ba.1,ba.2.1⟩)) hm q) (λQ q=>ihb ⋯ (λc d e=>by rcases e with e|e|e<;>(subst e;exact⟨bb.1,bb.2.1⟩)) hm q) ba bb hm ⋯ rfl q
 |both a b iha ihb=>
  intro m n Q hn hs hm q;obtain⟨n,rfl⟩:∃k,n=k+1:=⟨n-1,⋯⟩;have⟨ba,bb⟩:=hs a b (.inr (.inl rfl));simp only[Kd.nest]at hn;exact node "both" a b n m Q _ (λQ q=>iha ⋯ (λc d e=>by rcases e with e|e|e<;>(subst e;exact⟨ba.1,ba.2.1⟩)) hm q) (λQ q=>ihb ⋯ (λc d e=>by rcases e with e|e|e<;>(subst e;exact⟨bb.1,bb.2.1⟩)) hm q) ba bb hm ⋯ rfl q
 |way a b iha ihb=>
  intro m n Q hn hs hm q;obtain⟨n,rfl⟩:∃k,n=k+1:=⟨n-1,⋯⟩;have⟨ba,bb⟩:=hs a b (.inr (.inr rfl));simp only[Kd.nest]at hn;exact node "way" a b n m Q _ (λQ q=>iha ⋯ (λc d e=>by rcases e with e|e|e<;>(subst e;exact⟨ba.1,ba.2.1⟩)) hm q) (λQ q=>ihb ⋯ (λc d e=>by rcases e with e|e|e<;>(subst e;exact⟨bb.1,bb.2.1⟩)) hm q) ba bb hm ⋯ rfl q
end
section
variable [NoRs G] (B:PB P) {n:Nat} 
include B
def b74:∀(k:Kd){n:Nat}{Q:DK},k.nest+1<=n->Q (.int k.nest) st->sem P G n "_law_nest" [k.d] st Q:=by
 have leaf:∀(w:String)(n:Nat)(Q:DK),Q (.int 0) st->sem P G (n+1) "_law_nest" [.tup [.str w]] st Q:=λw n Q q=>by
  refine d4 B.nest rfl [AA (.tup [.str w])] rfl ?_;unfold Z1;dsimp only;∎;rw[if_pos ∅];∎;exact b8 q
 have node:∀(w:String)(a b:Kd)(n:Nat)(Q:DK),(∀Q:DK,Q (.int a.nest) st->sem P G n "_law_nest" [a.d] st Q)->(∀Q:DK,Q (.int b.nest) st->sem P G n "_law_nest" [b.d] st Q) ->
   Q (.int (1+max a.nest b.nest:Nat)) st->sem P G (n+1) "_law_nest" [.tup [.str w,a.d,b.d]] st Q:=λw a b n Q ha hb q=>by
  refine d4 B.nest rfl [AA (.tup [.str w,a.d,b.d])] rfl ?_;unfold Z1;dsimp only;∎;rw[if_neg ∅];∎;refine⟨by rw[B.nest];rfl,ha _ ⟨by rw[B.nest];rfl,hb _ ?_⟩⟩;rfl';refine b8 ?_;have e:(1+if(b.nest:Int)>a.nest then(b.nest:Int)else a.nest)=((1+max a.nest b.nest:Nat):Int):=by split<;>lia
  rw[e];exact q
 intro k
 induction k with
 |non=>intro n Q hn q;obtain⟨n,rfl⟩:∃k,n=k+1:=⟨n-1,⋯⟩;exact leaf "none" n Q q
 |one=>intro n Q hn q;obtain⟨n,rfl⟩:∃k,n=k+1:=⟨n-1,⋯⟩;exact leaf "one" n Q q
 |eith a b iha ihb|both a b iha ihb|way a b iha ihb=>
  intro n Q hn q;obtain⟨n,rfl⟩:∃k,n=k+1:=⟨n-1,⋯⟩;simp only[Kd.nest]at hn;exact node _ a b n Q (λQ q=>iha ⋯ q) (λQ q=>ihb ⋯ q) q
end
section
variable [NoRs G] (B:PB0 P) {n:Nat} 
include B
def U6{a:AM}{most:Nat}(h1:1<=most)(h2:most<=100):∀(deep:Nat){n:Nat}{st:Sto}{Q:DK},deep+4<=n->f8 st a->(∀(k:Kd)st',k.good->k.bd most->k.nest<=deep->f8 st' a->Kp [a] st st'->Q k.d st')->sem P G n "_law_kind" [.ref a,.int deep,.int most] st Q:=by
 intro deep
 induction deep with
 |zero=>
  intro n st Q hn I q;obtain⟨n,rfl⟩:∃k,n=k+2:=⟨n-2,⋯⟩;refine d4 B.kind rfl [AA (.ref a),AA (.int (0:Nat)),AA (.int most),AE,AE,AE,AE] rfl ?_;unfold E1;dsimp only;∎;refine⟨by rw[B.next];rfl,λp hp=>⟨.int 1,rfl,l8 B ∅ (I.new hp) λr st1 r0 r1 I1 K1=>?_⟩⟩;have e:r=0:=by lia
  subst e;(iterate 2 ∎);intro p1 hp1;rfl';exact b8 (q .one _ trivial h1 (An _) (I1.new hp1) (((Kp.refl.new hp).trans K1).new hp1))
 |succ deep ih=>
  intro n st Q hn I q;obtain⟨n,rfl⟩:∃k,n=k+2:=⟨n-2,⋯⟩;refine d4 B.kind rfl [AA (.ref a),AA (.int (deep+1:Nat)),AA (.int most),AE,AE,AE,AE] rfl ?_;unfold E1;dsimp only;∎;have hd:(0:Int)<((deep+1:Nat):Int):=by lia
  simp only[hd,if_true];refine⟨by rw[B.next];rfl,λp hp=>⟨.int 6,rfl,l8 B ∅ (I.new hp) λr st1 r0 r1 I1 K1=>?_⟩⟩;have K1:=(Kp.refl.new hp).trans K1;clear hp;∎
  by_cases e0:r=0
  ·subst e0;simp only[if_true];∎;intro p1 hp1;rfl';exact b8 (q .one _ trivial h1 (An _) (I1.new hp1) (K1.new hp1))
  simp only[e0,if_false]
  by_cases e5:r=5
  ·subst e5;simp only[if_true];∎;intro p1 hp1
   by_cases hm:(1:Int)<most
   ·rfl';simp only[hm,if_true];rfl';exact b8 (q (.eith .one .one) _ (.inl ⟨trivial,trivial⟩) ⟨h1,h1,by show 1+1<=most;lia⟩ (by show 1+max 0 0<=_;lia) (I1.new hp1) (K1.new hp1))
   ·rfl';simp only[hm,if_false];rfl';exact b8 (q .one _ trivial h1 (An _) (I1.new hp1) (K1.new hp1))
  simp only[e5,if_false];rfl';∎;intro p1 hp1;have I2:=I1.new (u:=.lst [.str "either",.str "both",.str "way",.str "either"]) hp1;have K2:=K1.new (o:=.lst [.str "either",.str "both",.str "way",.str "either"]) hp1;revert I2 K2;generalize b0 st1 p1 (.lst [.str "either",.str "both",.str "way",.str "either"])=st2;intro I2 K2;obtain⟨w,hw,hws⟩:∃w:String,atI [D.str "either",.str "both",.str "way",.str "either"] (r-1)=AA (.str w)/\(w="either"\/w="both"\/w="way"):=by
   obtain rfl|rfl|rfl|rfl:r=1\/r=2\/r=3\/r=4:=by lia
   ·exact⟨"either",rfl,∎⟩
   ·exact⟨"both",rfl,∎⟩
   ·exact⟨"way",rfl,∎⟩
   ·exact⟨"either",rfl,∎⟩
  rw[hw];rfl';∎;have ed:((deep+1:Nat):Int)-1=(deep:Nat):=by lia
  rw[ed];refine⟨by rw[B.kind];rfl,ih ⋯ I2 λka st3 ga ba na I3 K3=>?_⟩;have K3:=K2.trans K3;∎;rw[ed];refine⟨by rw[B.kind];rfl,ih ⋯ I3 λkb st4 gb bb nb I4 K4=>?_⟩;have K4:=K3.trans K4;∎;have fin:∀(w:String)(ka kb k:Kd)(st5:Sto)(x:Option D),k.d=.tup [.str w,ka.d,kb.d]->(w≠"way"->k.good)->(w="way"->k=.way ka kb/\(ka.good\/ka=.non)/\kb.good)->(∀c d,k=.eith c d\/k=.both c d\/k=.way c d->c=ka/\d=kb)->k≠.non->k≠.one->ka.bd most->kb.bd most->ka.nest<=deep->kb.nest<=deep->f8 st5 a->Kp [a] st st5 ->
    c9 (Zg P G (n+1)) (E1.body.drop 6) (e8 Q) [AA (.ref a),AA (.int (deep+1:Nat)),AA (.int most),AA (.int r),AA (.str w),AA ka.d,AA kb.d] st5:=by
   intro w ka kb k st5 x hk hg hw hc hn0 hn1 ba bb na nb I5 K5;have nk:∀k:Kd,(∀c d,k=.eith c d\/k=.both c d\/k=.way c d->c.nest<=deep/\d.nest<=deep)->k.nest<=deep+1:=λk h=>by
    cases k with
    |non=>exact An _
    |one=>exact An _
    |eith c d=>have:=h c d (.inl rfl);simp only[Kd.nest];lia
    |both c d=>have:=h c d (.inr (.inl rfl));simp only[Kd.nest];lia
    |way c d=>have:=h c d (.inr (.inr rfl));simp only[Kd.nest];lia
   have last:∀(ka kb k:Kd),k.d=.tup [.str w,ka.d,kb.d]->k.good->(∀c d,k=.eith c d\/k=.both c d\/k=.way c d->c=ka/\d=kb)->k≠.non->k≠.one->ka.bd most->kb.bd most->ka.nest<=deep->kb.nest<=deep ->
     c9 (Zg P G (n+1)) (E1.body.drop 7) (e8 Q) [AA (.ref a),AA (.int (deep+1:Nat)),AA (.int most),AA (.int r),AA (.str w),AA ka.d,AA kb.d] st5:=by
    intro ka kb k hk hg hc hn0 hn1 ba bb na nb;have nk':=nk k λc d e=>by obtain⟨e1,e2⟩:=hc c d e;subst e1 e2;exact⟨na,nb⟩
    simp only[E1,Ss.drop];∎;rw[<-hk];refine⟨by rw[B.count];rfl,A2 B k (m:=most) ⋯ (λc d e=>by obtain⟨e1,e2⟩:=hc c d e;subst e1 e2;exact⟨ba,bb⟩) ⋯ ?_⟩;rfl'
    by_cases hgt:(most:Int)<k.cnt
    ·simp only[hgt,if_true];∎;exact b8 (q .one _ trivial h1 (An _) I5 K5)
    ·simp only[hgt,if_false];∎;rw[<-hk];refine b8 (q k _ hg ?_ nk' I5 K5);cases k with
     |non=>exact absurd rfl hn0
     |one=>exact absurd rfl hn1
     |eith c d=>obtain⟨e1,e2⟩:=hc c d (.inl rfl);subst e1 e2;exact⟨ba,bb,by have:=hgt;simp only[Kd.cnt]at this;lia⟩
     |both c d=>obtain⟨e1,e2⟩:=hc c d (.inr (.inl rfl));subst e1 e2;exact⟨ba,bb,by have:=hgt;simp only[Kd.cnt]at this;lia⟩
     |way c d=>obtain⟨e1,e2⟩:=hc c d (.inr (.inr rfl));subst e1 e2;exact⟨ba,bb,by have:=hgt;simp only[Kd.cnt]at this;lia⟩
   by_cases ew:w="way"
   ·obtain⟨rfl,gka,gkb⟩:=hw ew;subst ew;simp only[E1,Ss.drop];∎;refine⟨by rw[B.count];rfl,A2 B ka (m:=most) ⋯ (λc d e=>by rcases e with e|e|e<;>(subst e;exact⟨ba.1,ba.2.1⟩)) ⋯ ?_⟩;rfl'
    by_cases h6:(6:Int)<ka.cnt
    ·simp only[h6,if_true];∎;exact last .one kb (.way .one kb) rfl ⟨.inl trivial,gkb,∅⟩ (λc d e=>by rcases e with e|e|e<;>cases e;exact⟨rfl,rfl⟩) ∎ ∎ h1 bb (An _) nb
    ·simp only[h6,if_false];exact last ka kb (.way ka kb) rfl ⟨gka,gkb,⋯⟩ hc hn0 hn1 ba bb na nb
   ·simp only[E1,Ss.drop];∎;simp only[ew,if_false];exact last ka kb k hk (hg ew) hc hn0 hn1 ba bb na nb
  rcases hws with rfl|rfl|rfl
  ·rfl';refine⟨by rw[B.next];rfl,l8 B ∅ I4 λr5 st5 _ _ I5 K5=>?_⟩;have K5:=K4.trans K5;rfl'
   by_cases h1:r5=1
   ·simp only[h1,if_true];∎;exact fin "either" .non kb (.eith .non kb) st5 AE rfl (λ_=>.inr (.inl ⟨rfl,gb⟩)) (λh=>absurd h ∅) (λc d e=>by rcases e with e|e|e<;>cases e;exact⟨rfl,rfl⟩) ∎ ∎ trivial bb (An _) nb I5 K5
   ·simp only[h1,if_false];∎;refine⟨by rw[B.next];rfl,l8 B ∅ I5 λr6 st6 _ _ I6 K6=>?_⟩;have K6:=K5.trans K6;rfl'
    by_cases h1:r6=1
    ·simp only[h1,if_true];∎;exact fin "either" ka .non (.eith ka .non) st6 AE rfl (λ_=>.inr (.inr ⟨ga,rfl⟩)) (λh=>absurd h ∅) (λc d e=>by rcases e with e|e|e<;>cases e;exact⟨rfl,rfl⟩) ∎ ∎ ba trivial na (An _) I6 K6
    ·simp only[h1,if_false];rfl';exact fin "either" ka kb (.eith ka kb) st6 AE rfl (λ_=>.inl ⟨ga,gb⟩) (λh=>absurd h ∅) (λc d e=>by rcases e with e|e|e<;>cases e;exact⟨rfl,rfl⟩) ∎ ∎ ba bb na nb I6 K6
  ·rfl';∎;exact fin "both" ka kb (.both ka kb) st4 AE rfl (λ_=>⟨ga,gb⟩) (λh=>absurd h ∅) (λc d e=>by rcases e with e|e|e<;>cases e;exact⟨rfl,rfl⟩) ∎ ∎ ba bb na nb I4 K4
  ·rfl';refine⟨by rw[B.next];rfl,l8 B ∅ I4 λr5 st5 _ _ I5 K5=>?_⟩;have K5:=K4.trans K5;rfl'
   by_cases h1:r5=1
   ·simp only[h1,if_true];∎;exact fin "way" .non kb (.way .non kb) st5 AE rfl (λh=>absurd rfl h) (λ_=>⟨rfl,.inr rfl,gb⟩) (λc d e=>by rcases e with e|e|e<;>cases e;exact⟨rfl,rfl⟩) ∎ ∎ trivial bb (An _) nb I5 K5
   ·simp only[h1,if_false];∎;exact fin "way" ka kb (.way ka kb) st5 AE rfl (λh=>absurd rfl h) (λ_=>⟨rfl,.inl ga,gb⟩) (λc d e=>by rcases e with e|e|e<;>cases e;exact⟨rfl,rfl⟩) ∎ ∎ ba bb na nb I5 K5
end
def ah2{ns:List Int}{lo hi:Option Int}:∃ms:List Int,D7 (ns.map D.int) lo hi=ms.map D.int/\ms.length<=ns.length:=by
 refine⟨(ns.drop (HT.sIx (ns.map D.int).length 0 lo)).take (HT.sIx (ns.map D.int).length (ns.map D.int).length hi-HT.sIx (ns.map D.int).length 0 lo),by unfold D7;rw[List.map_take,List.map_drop],?_⟩;rw[Cs,Ap];lia
def ao5{lo:Int}{n:Nat}:(i6 lo n).length=n:=by simp[i6]
def cm3{b:Int}{k:Nat}(h:0<b):0<b^k:=by
 induction k with
 |zero=>rw[Int.pow_zero];decide
 |succ k ih=>rw[KI];exact Int.mul_pos ih h
def by6(ms:List Int)(i:Nat):j8 i (ms.map D.int)=(ms.zipIdx i).map λp=>D.tup [.int (p.2:Nat),.int p.1]:=by
 induction ms generalizing i with
 |nil=>rfl
 |cons m ms ih=>simp only[AV,j8,ih,List.zipIdx_cons]
section
variable [NoRs G] (B:PB0 P) {n:Nat} 
include B
def b76{a:AM}{ns:List Int}(hn:2<=n)(hl:ns.length<=63)(h:rdS st a (ns.map D.int))(q:∀p st',f8 st' p->Kp [] st st'->Q (.ref p) st'):sem P G n "_law_deck" [.ref a] st Q:=by
 obtain⟨n,rfl⟩:∃m,n=m+2:=⟨n-2,⋯⟩;refine d4 B.deck rfl [AA (.ref a),AE,AE,AE,AE,AE] rfl ?_;unfold C8;∎;intro p hp;have hpa:a≠p:=h.elim (λh=>A9 h hp) (λh=>A9 h hp);∎;have h1:rdS (b0 st p (.lst [])) a (ns.map D.int):=h.elim (λh=>.inl (d7 h hp)) (λh=>.inr (d7 h hp));rw[am7 h1];obtain⟨ms,em,hms⟩:=ah2 (ns:=ns) (lo:=AE) (hi:=AA 63);rw[em];intro s hs;have hsp:p≠s:=A9 b7 hs;have hsa:s≠a:=λz=>by subst z;exact h1.elim (λh=>absurd rfl (A9 h hs)) (λh=>absurd rfl (A9 h hs))
 rfl';refine⟨_,J2,?_⟩;rw[by6];refine G4 (λl env st'=>∃(js:List (Int×Nat))(dk:List Int)(x2 x3 x4 x5:Option D),l=js.map (λp=>D.tup [.int (p.2:Nat),.int p.1])/\env=[AA (.ref a),AA (.ref p),x2,x3,x4,x5]/\st' p=AA (.lst (dk.map D.int))/\dk.length+67*js.length<=67*63/\rdS st' s (ms.map D.int)/\rdS st' a (ns.map D.int)/\Kp [] st st') ?_ ?_ _ _ _ ?_
 ·rintro env st' ⟨js,dk,x2,x3,x4,x5,el,rfl,hd,hb,hrs,hra,K⟩;refine⟨hrs,?_⟩;∎;rw[r9 (.inl hd)];rfl';simp only[Am];refine⟨⋯,?_⟩;refine G4 (λl env st'=>∃(dk:List Int)(x2 x3 x4 x5:Option D),(∀d∈l,∃i:Int,d=.int i)/\env=[AA (.ref a),AA (.ref p),x2,x3,x4,x5]/\st' p=AA (.lst (dk.map D.int))/\dk.length+l.length<=10000/\rdS st' a (ns.map D.int)/\Kp [] st st') ?_ ?_ _ _ _ ⟨dk,_,_,_,_,λd hd=>by simp only[i6,IL]at hd;obtain⟨i,_,rfl⟩:=hd;exact⟨_,rfl⟩,rfl,hd,by rw[ao5];lia,hra,K⟩
  ·rintro env st' ⟨dk,x2,x3,x4,x5,el,rfl,hd,hb,hra,K⟩;refine⟨trivial,?_⟩;∎;rw[am7 (.inl hd)];intro r hr;obtain⟨ks,ek,_⟩:=ah2 (ns:=dk) (lo:=AE) (hi:=AA 900);rw[ek];exact b8 (q r _ ⟨ks,b7⟩ (K.new hr))
  ·rintro d ds env st' ih ⟨dk,x2,x3,x4,x5,el,rfl,hd,hb,hra,K⟩;obtain⟨i,rfl⟩:=el d ∎;simp only[AG]at hb;refine⟨trivial,?_⟩;rfl';∎;rw[D4 (.inl hd),am7 hra];obtain⟨ks,ek,_⟩:=ah2 (ns:=ns) (lo:=AE) (hi:=AA 63);rw[ek];refine⟨trivial,by rw[B.mixed];rfl,λr hr=>cu4 J2 ?_⟩;rfl';refine aw9 B _ _ λm=>?_;rw[O0 (d7 hd hr)];refine⟨O3 (by simp only[Am];lia),?_⟩;have hpr:p≠r:=A9 hd hr;refine ih _ _ ⟨dk++[m],_,_,_,_,λd hd=>el d (by simp[hd]),rfl,by rw[b7,BY];rfl,by simp only[AH,AG,AN];lia,?_,?_⟩
   ·exact hra.elim (λh=>.inl (d5 (d7 h hr) hpa)) (λh=>.inr (d5 (d7 h hr) hpa))
   ·intro b o nb e;exact d5 (d7 (K b o nb e) hr) (A9 e hp)
 ·rintro d ds env st' ih ⟨js,dk,x2,x3,x4,x5,el,rfl,hd,hb,hrs,hra,K⟩;refine⟨hrs,?_⟩;cases js with
  |nil=>simp at el
  |cons j js=>
   simp only[AV,BO]at el;obtain⟨rfl,rfl⟩:=el;simp only[AG]at hb;obtain⟨c,k⟩:=j;rfl';∎;refine⟨⟨∅,∅,∅⟩,cm3 ∅,?_⟩;have inn:∀(dk:List Int)(num:Int)(st':Sto),st' p=AA (.lst (dk.map D.int))->dk.length+60+67*js.length<=67*63->rdS st' s (ms.map D.int)->rdS st' a (ns.map D.int)->Kp [] st st' ->
     c9 (Zg P G (n+1)) (match C8.body.drop 1 with|.cons (.for _ _ b) _=>b.drop 2|_=>.nil) ⟨o4 (λst'=>rdS st' s (ms.map D.int)) (.tup [2,3]) (c9 (Zg P G (n+1)) (match C8.body.drop 1 with|.cons (.for _ _ b) _=>b|_=>.nil)) ⟨c9 (Zg P G (n+1)) (C8.body.drop 2) (e8 Q),(e8 Q).rt,(e8 Q).bk,(e8 Q).ct⟩ (js.map (λp=>D.tup [.int (p.2:Nat),.int p.1])),(e8 Q).rt,c9 (Zg P G (n+1)) (C8.body.drop 2) (e8 Q),o4 (λst'=>rdS st' s (ms.map D.int)) (.tup [2,3]) (c9 (Zg P G (n+1)) (match C8.body.drop 1 with|.cons (.for _ _ b) _=>b|_=>.nil)) ⟨c9 (Zg P G (n+1)) (C8.body.drop 2) (e8 Q),(e8 Q).rt,(e8 Q).bk,(e8 Q).ct⟩ (js.map (λp=>D.tup [.int (p.2:Nat),.int p.1]))⟩ [AA (.ref a),AA (.ref p),AA (.int (k:Nat)),AA (.int c),AA (.int num),x5] st':=by
    intro dk num st' hd hb hrs hra K;simp only[C8,Ss.drop];∎;refine⟨∅,?_⟩;refine G4 (λl env st'=>∃(dk:List Int)(num:Int)(x5:Option D),env=[AA (.ref a),AA (.ref p),AA (.int (k:Nat)),AA (.int c),AA (.int num),x5]/\st' p=AA (.lst (dk.map D.int))/\dk.length+l.length+67*js.length<=67*63/\rdS st' s (ms.map D.int)/\rdS st' a (ns.map D.int)/\Kp [] st st') ?_ ?_ _ _ _ ⟨dk,num,_,rfl,hd,by rw[ao5];exact hb,hrs,hra,K⟩
    ·rintro env st' ⟨dk,num,x5,rfl,hd,hb,hrs,hra,K⟩;refine⟨trivial,?_⟩;rfl';exact ih _ _ ⟨js,dk,_,_,_,_,rfl,rfl,hd,by simpa using hb,hrs,hra,K⟩
    ·rintro d ds env st' ih2 ⟨dk,num,x5,rfl,hd,hb,hrs,hra,K⟩;refine⟨trivial,?_⟩;simp only[AG]at hb;rfl';∎
     by_cases h0:0<num
     ·simp only[h0,if_true];∎;rw[D4 (.inl hd)];refine⟨trivial,∅,?_⟩;rw[O0 hd];refine⟨O3 (by simp only[Am];lia),?_⟩;∎;refine⟨⟨∅,∅⟩,ih2 _ _ ⟨dk++[num % 2147483647],_,_,rfl,by rw[b7,BY];rfl,by simp only[AH,AG,AN];lia,?_,?_,?_⟩⟩
      ·exact hrs.elim (λh=>.inl (d5 h hsp.symm)) (λh=>.inr (d5 h hsp.symm))
      ·exact hra.elim (λh=>.inl (d5 h hpa)) (λh=>.inr (d5 h hpa))
      ·intro b o nb e;exact d5 (K b o nb e) (A9 e hp)
     ·simp only[h0,if_false];rfl';exact ih2 _ _ ⟨dk,_,_,rfl,hd,⋯,hrs,hra,K⟩
   ∎;refine⟨⟨∅,∅,∅⟩,?_⟩;generalize(if c<0 then -c else c) % (2147483647:Int)^Int.toNat 60=num
   by_cases h18:num<10^Int.toNat 18
   ·simp only[h18,if_true];∎;rw[D4 (.inl hd)];refine⟨trivial,∅,∅,?_⟩;refine G2 (λl acc env' st''=>st''=st'/\∃(ac:List Int)(x:Option D),(∀d∈l,∃i:Int,d=.int i)/\env'=[AA (.int num),AA (.int (k:Nat)),x]/\acc=ac.map D.int/\ac.length+l.length=7) ?_ ?_ _ _ _ _ ⟨rfl,[],AE,λd hd=>by simp only[i6,IL]at hd;obtain⟨i,_,rfl⟩:=hd;exact⟨_,rfl⟩,rfl,rfl,∅⟩
    ·rintro acc env' st'' ⟨rfl,ac,x,_,rfl,rfl,hac⟩;refine⟨trivial,λr hr=>?_⟩;simp only[AN]at hac;rw[cx0 (d7 hd hr) b7];refine⟨E8 (by simp only[Am];lia),?_⟩;∎;have hpr:p≠r:=A9 hd hr;refine inn (dk++ac) 0 _ (by rw[b7,BY]) (by simp only[AH];lia) ?_ ?_ ?_
     ·exact hrs.elim (λh=>.inl (d5 (d7 h hr) hsp.symm)) (λh=>.inr (d5 (d7 h hr) hsp.symm))
     ·exact hra.elim (λh=>.inl (d5 (d7 h hr) hpa)) (λh=>.inr (d5 (d7 h hr) hpa))
     ·intro b o nb e;exact d5 (d7 (K b o nb e) hr) (A9 e hp)
    ·rintro d ds acc env' st'' ihc ⟨rfl,ac,x,hi,rfl,rfl,hac⟩;obtain⟨i,rfl⟩:=hi d ∎;refine⟨trivial,?_⟩;rfl';refine⟨by rw[B.mixed];rfl,P8 ⟨∅,∅⟩,aw9 B _ _ λm=>ihc _ _ _ ⟨rfl,ac++[m],_,λd hd=>hi d (by simp[hd]),rfl,by rw[BY];rfl,by simp only[AH,AG,AN]at hac ⊢;lia⟩⟩
   ·simp only[h18,if_false];exact inn dk num st' hd ⋯ hrs hra K
 ·refine⟨ms.zipIdx 0,[],AE,AE,AE,AE,rfl,rfl,d7 b7 hs,by simp only[List.length_zipIdx,AN];lia,J2,?_,(Kp.refl.new hp).new hs⟩;exact h1.elim (λh=>.inl (d7 h hs)) (λh=>.inr (d7 h hs))
end
structure PRd(P:d6)(G:Gs):Prop where
 ini:P (d0 "Reader" "__init__")=AA X7
 ns:P (d0 "Reader" "next_sign")=AA ae1
 sg:P (d0 "Reader" "sign")=AA ae5
 mb:P (d0 "Reader" "must_be")=AA Y0
 so:P (d0 "Reader" "signs_of")=AA ae2
 bi:P (d0 "Begun" "__init__")=AA ae3
 be:P (d0 "Begun" "ends_with")=AA T4
 bw:P (d0 "Begun" "whole")=AA ae7
 ro:P "read_one"=AA Y6
 rw':P "read_whole"=AA Y3
 cr:G.cls "Reader"=(["text","place"]:List Str)
 cb:G.cls "Begun"=(["front","many","between","end","parts","found"]:List Str)
 ci:G.cls "!is"=(["Begun"]:List Str)
 kR:G.cst "ROW"=AA (.tup [.str "row"])
 kK:G.cst "KIND"=AA (.tup [.str "kind"])
 kw:G.tab "KIND_WORDS"=([("+",.str "either"),("*",.str "both"),(">",.str "way")]:List (Str×D))
abbrev rdF(W:List Nat)(p:Nat):List (Str×D):=[("text",.str (tx W)),("place",.int p)]
@[reducible]noncomputable def RdA(st:Sto)(r:AM)(W:List Nat)(p:Nat):Prop:=st r=AA (.ins "Reader" (rdF W p))
def k9(h:∀c∈l,c<1114112):D.pure (.str (tx l))=AC:=by
 show FU (tx l)=AC;unfold FU tx;simpa using h
def W1{a b:Str}(ha:D.pure (.str a)=AC)(hb:D.pure (.str b)=AC)(k:Q (.bl (!decide (a=b))) st):j6 .NotEq (.str a) (.str b) st Q:=⟨ha,hb,An _,by rw[l7];exact k⟩
def j9{a b:Str}(ha:D.pure (.str a)=AC)(hb:D.pure (.str b)=AC)(k:Q (.bl (AB (a=b))) st):j6 .Eq (.str a) (.str b) st Q:=⟨ha,hb,An _,by rw[l7];exact k⟩
def al1{C:Str->List Str}{c f:Str}{fs:List (Str×D)}{d:D}(h:st r=AA (.ins c fs))(hc:f∈C c)(hl:fs.lookup f=AA d):(∃p c fs d,D.ref r=.ref p/\st p=AA (.ins c fs)/\f∈C c/\fs.lookup f=AA d/\R d)=R d:=
 propext ⟨λ⟨p,c',fs',d',e,h',_,l,k⟩=>by cases e;rw[h]at h';cases h';rw[hl]at l;cases l;exact k,λk=>⟨r,c,fs,d,rfl,h,hc,hl,k⟩⟩
section
variable (T:PRd P G) {n:Nat} {W:List Nat} 
include T
def ad1(h:RdA st r W p):(∃p c fs d,D.ref r=.ref p/\st p=AA (.ins c fs)/\AD "text"∈G.cls c/\fs.lookup (AD "text")=AA d/\R d)=R (.str (tx W)):=al1 h (by rw[T.cr];simp) rfl
def y0(h:RdA st r W p):(∃p c fs d,D.ref r=.ref p/\st p=AA (.ins c fs)/\AD "place"∈G.cls c/\fs.lookup (AD "place")=AA d/\R d)=R (.int p):=al1 h (by rw[T.cr];simp) rfl
def E3(h:RdA st r W p)(hw:W.length<=1000000)(hp:p<=W.length)(q:Q (.str (tx ((W.drop p).take 1))) st):sem P G (n+1) (d0 "Reader" "next_sign") [.ref r] st Q:=by
 refine d4 T.ns rfl [AA (.ref r)] rfl ?_;unfold ae1;∎;rw[ad1 T h,y0 T h];refine⟨_,rfl,?_⟩;rw[y0 T h];rfl';refine⟨_,rfl,by rw[i5];exact Ag hw ∅,b8 ?_⟩;rw[show(p:Int)+1=((p+1:Nat):Int) by lia,P0 _ _ _ hp ⋯,DL];exact q
def y6(h:RdA st r W p)(hw:W.length<=1000000)(hp:p<=W.length)(q:Q (.str (tx ((W.drop p).take 1))) (b0 st r (.ins "Reader" (rdF W (p+1))))):sem P G (n+2) (d0 "Reader" "sign") [.ref r] st Q:=by
 refine d4 T.sg rfl [AA (.ref r),AE] rfl ?_;unfold ae5;∎;refine⟨r,"Reader",_,rfl,h,rfl,by rw[T.ns];rfl,E3 T h hw hp ?_⟩;∎;rw[y0 T h];rfl';refine⟨r,_,_,rfl,h,by rw[T.cr];simp,by simp[rdF],?_⟩;∎;exact b8 q
def U3(h:RdA st r W p)(hw:W.length<=1000000)(hp:p<=W.length){s:List Nat}{w:Str}(hs:w=tx s)(hok:D.pure (.str w)=AC)(hpre:s <+: W.drop p)(q:Q .non (b0 st r (.ins "Reader" (rdF W (p+s.length))))):sem P G (n+1) (d0 "Reader" "must_be") [.ref r,.str w] st Q:=by
 subst hs;refine d4 T.mb rfl [AA (.ref r),AA (.str (tx s))] rfl ?_;unfold Y0;obtain⟨t,ht⟩:=hpre;have hl:s.length<=1000000:=by
  have:=congrArg Aq ht;simp only[AH,Ap]at this;lia
 ∎;rw[ad1 T h,y0 T h];refine⟨_,rfl,?_⟩;rw[y0 T h];refine⟨_,rfl,by rw[i5];exact Ag hl ∅,?_⟩;rfl';refine⟨_,rfl,by rw[i5];exact Ag hw ∅,?_⟩;rw[i5,show(p:Int)+(s.length:Int)=((p+s.length:Nat):Int) by lia,P0 _ _ _ hp ⋯,DL,<-ht,JW rfl];refine W1 hok hok ⟨_,rfl,?_⟩;rw[decide_eq_true rfl,if_neg ∅];∎;rw[y0 T h];refine⟨_,rfl,by rw[i5];exact Ag hl ∅,?_⟩;rfl';refine⟨r,_,_,rfl,h,by rw[T.cr];simp,by simp[rdF],?_⟩;rfl';rw[i5,show(p:Int)+(s.length:Int)=((p+s.length:Nat):Int) by lia];exact⟨_,Sub.refl _,q⟩
def Z4(h:RdA st r W p)(hw:W.length<=1000000)(hp0:p<=W.length)(hok:∀c∈W,c<1114112){cs f t:List Nat}{w:Str}(hc:w=tx cs)(hd:W.drop p=f++t)(hf:∀c∈f,c∈cs)(ht:∀c∈t.head?,c∉cs)(q:∀st',RdA st' r W (p+f.length)->Kp [r] st st'->Q (.str (tx f)) st'):sem P G (n+2) (d0 "Reader" "signs_of") [.ref r,.str w] st Q:=by
 subst hc;refine d4 T.so rfl [AA (.ref r),AA (.str (tx cs)),AE] rfl ?_;unfold ae2;have hlen:W.length-p=f.length+t.length:=by
  have:=congrArg Aq hd;simpa only[AH,Ap]using this
 ∎;rw[y0 T h];∎;refine T7 (λm env st'=>∃j,m+j=f.length/\env=[AA (.ref r),AA (.str (tx cs)),AA (.int p)]/\RdA st' r W (p+j)/\Kp [r] st st') ?_ f.length _ _ ⟨0,⋯,rfl,h,Kp.refl⟩;rintro m env st' WW ⟨j,hj,rfl,hr,K⟩ ih;have hdj:W.drop (p+j)=f.drop j++t:=by
  rw[<-Bb,hd,List.drop_append_of_le_length ⋯]
 have e0:tx []=AD "":=by decide
 have p1:∀l:List Nat,(∀c∈l,c<1114112)->D.pure (.str (tx l))=AC:=λl hl=>k9 hl;have hmem:∀c∈W.drop (p+j),c<1114112:=λc hc=>hok c (BL hc);have fin:c9 (Zg P G (n+1)) (Ss.cons (S.ret (((E.v 0).fld (AD "text")).ssl (E.v 2) ((E.v 0).fld (AD "place")))) Ss.nil) (e8 Q) [AA (.ref r),AA (.str (tx cs)),AA (.int p)] st'\/0<m:=by
  cases m with
  |succ m=>exact .inr (CH m)
  |zero=>
   left
   have ej:j=f.length:=by lia
   subst ej;∎;rw[ad1 T hr];rfl';rw[y0 T hr];refine⟨_,rfl,_,rfl,by rw[i5];exact Ag hw ∅,b8 ?_⟩;rw[P0 _ _ _ hp0 ⋯,DL,hd,JW rfl];exact q st' hr K
 unfold wpT;rfl';refine⟨r,"Reader",_,rfl,hr,rfl,by rw[T.ns];rfl,E3 T hr hw ⋯ (W1 (p1 _ λc hc=>hmem c (Bg hc)) (d8 "") ?_)⟩;refine⟨_,rfl,?_⟩;cases hk:W.drop (p+j)with
 |nil=>
  rw[JY,e0,decide_eq_true rfl,if_neg ∅];refine fin.resolve_right λz=>?_;rw[hk]at hdj;have:=congrArg Aq hdj;simp only[AN,AH,Ap]at this;lia
 |cons c l=>
  rw[Cq,Dr,decide_eq_false (λz=>by rw[<-e0]at z;exact nomatch y9 z),if_pos ∅];refine⟨r,"Reader",_,rfl,hr,rfl,by rw[T.ns];rfl,E3 T hr hw ⋯ ?_⟩;rw[hk,Cq,Dr];refine⟨c,_,rfl,rfl,_,rfl,?_⟩;have ecs:(tx cs).cps.toList=cs:=by simp[tx]
  rw[ecs];cases m with
  |zero=>
   have ej:f.drop j=[]:=DP ⋯;rw[ej,BB,hk]at hdj;have hc:c∉cs:=ht c (by rw[<-hdj];rfl);rw[decide_eq_false hc,if_neg ∅];exact fin.resolve_right ⋯
  |succ m=>
   have hc:c∈cs:=by
    refine hf c (BL (i:=j) ?_);cases hfj:f.drop j with
    |nil=>have:=List.drop_eq_nil_iff.1 hfj;lia
    |cons c' l'=>rw[hfj,hk]at hdj;cases hdj;simp
   rw[decide_eq_true hc,if_pos ∅];∎;rw[y0 T hr];rfl';refine⟨r,_,_,rfl,hr,by rw[T.cr];simp,by simp[rdF],?_⟩;refine ih m _ _ ⋯ ⟨j+1,⋯,rfl,?_,K.put ∎⟩;refine b7.trans ?_;rw[show((p+j:Nat):Int)+1=((p+(j+1):Nat):Int) by lia];rfl
end
def none_of{p:AM}(K:Kp [] st st')(h:st' p=AE):st p=AE:=by
 cases z:st p with
 |none=>rfl
 |some u=>rw[K.at' z ∎]at h;cases h
structure PM(P:d6)(G:Gs):Prop where
 mop:P "made_of_parts"=AA d_made_of_parts
 few:P "order_of_few"=AA d_order_of_few
 taken:P "taken"=AA d_taken
 cst:G.cst "FEW"=AA (.int 2000)
def al8{n:Nat}{f:Str}{ds:List D}(h:sem P G n f ds st Q):(C3 P G (n+1)).2.1 f ds st Q:=h
structure Fr where
 w:String
 ex:List D
 many:D
 btw:List Nat
 en:List Nat
abbrev Fr.front(f:Fr):D:=.tup (.str (AD f.w)::f.ex)
abbrev bgF(f:Fr)(pa:AM)(fd:Str):List (Str×D):=[("front",f.front),("many",f.many),("between",.str (tx f.btw)),("end",.str (tx f.en)),("parts",.ref pa),("found",.str fd)]
@[reducible]noncomputable def BgA(st:Sto)(fa pa:AM)(f:Fr)(fd:Str)(ds:List D):Prop:=st fa=AA (.ins "Begun" (bgF f pa fd))/\st pa=AA (.lst ds)/\fa≠pa
abbrev kwd(c:Nat):String:=if c=43 then "either" else if c=42 then "both" else "way"
abbrev Fr.whole(f:Fr)(sp:Nat)(ps:List D):D:=if f.w="row" then .tup [.str "w",.tup ps]else if f.w="kind" then .tup (.str (AD (kwd sp))::ps)else .tup (.str (AD f.w)::f.ex++ps)
def kpN{L:List AM}{p:AM}(x:Kp L st st')(h:st p=AE):Kp L st (b0 st' p o):=λd u n e=>d5 (x d u n e) (λz=>by rw[z,h]at e;cases e)
def ak9:j6 .Eq .non (.int i) st Q=Q (.bl AF) st:=by
 rw[Q8];exact propext ⟨λh=>h.2.2.2,λh=>⟨rfl,rfl,An _,h⟩⟩
section
variable (T:PRd P G) {n:Nat} {W:List Nat} {fa pa:AM} {f:Fr} {ds:List D}
include T
def i7{x:Str}{d:D}(h:BgA st fa pa f fd ds)(hx:x∈(["front","many","between","end","parts","found"]:List Str))(hl:(bgF f pa fd).lookup x=AA d):(∃p c fs d,D.ref fa=.ref p/\st p=AA (.ins c fs)/\x∈G.cls c/\fs.lookup x=AA d/\R d)=R d:=al1 h.1 (by rw[T.cb];exact hx) hl
def b35{many:D}{b e:Str}(h:st fa=AA (.ins "Begun" []))(q:∀pa,st pa=AE->pa≠fa->Q .non (b0 (b0 st pa (.lst [])) fa (.ins "Begun" [("front",.tup ds),("many",many),("between",.str b),("end",.str e),("parts",.ref pa),("found",.str "")]))):sem P G (n+1) (d0 "Begun" "__init__") [.ref fa,.tup ds,many,.str b,.str e] st Q:=by
 refine d4 T.bi rfl [AA (.ref fa),AA (.tup ds),AA many,AA (.str b),AA (.str e)] rfl ?_;unfold ae3;have cb:∀x∈(["front","many","between","end","parts","found"]:List Str),x∈G.cls "Begun":=λx hx=>by rw[T.cb];exact hx
 have lt:∀{l:List (Str×D)}{k:Nat},l.length=k->k<1000->l.length<1000:=λe h=>by rw[e];exact h
 ∎;refine⟨fa,_,_,rfl,h,cb _ ∎,∅,?_⟩;∎;refine⟨fa,_,_,rfl,b7,cb _ ∎,lt (k:=1) rfl ∅,?_⟩;∎;refine⟨fa,_,_,rfl,b7,cb _ ∎,lt (k:=2) rfl ∅,?_⟩;∎;refine⟨fa,_,_,rfl,b7,cb _ ∎,lt (k:=3) rfl ∅,?_⟩;∎;intro pa hpa;have ne:pa≠fa:=λz=>by rw[z,b7]at hpa;cases hpa
 rw[g6 ne,g6 ne,g6 ne,g6 ne]at hpa;refine⟨fa,_,_,rfl,d5 b7 ne.symm,cb _ ∎,lt (k:=4) rfl ∅,?_⟩;∎;refine⟨fa,_,_,rfl,b7,cb _ ∎,lt (k:=5) rfl ∅,?_⟩;rfl';refine⟨_,Sub.refl _,?_⟩;have:=q pa hpa ne;refine cast (congrArg (Q .non) ?_) this
 funext a
 by_cases h1:a=fa
 ·subst h1;rw[b7,b7];rfl
 ·rw[g6 h1,g6 h1,g6 h1]
  by_cases h2:a=pa
  ·subst h2;rw[b7,b7]
  ·rw[g6 h2,g6 h2,g6 h1,g6 h1,g6 h1,g6 h1]
abbrev Fr.full(f:Fr)(k:Nat)(c8:List Nat):Prop:=f.many=.int k\/(f.many=.non/\∃e,f.en=[e]/\∃l,c8=e::l)
abbrev Fr.open'(f:Fr)(k:Nat)(c8:List Nat):Prop:=(∃j:Nat,f.many=.int j/\j≠k)\/(f.many=.non/\∃e,f.en=[e]/\∃c l,c8=c::l/\c≠e)
def cf8(hr:RdA st r W p)(hw:W.length<=1000000)(hp:p<=W.length)(hok:∀c∈W,c<1114112)(h:BgA st fa pa f fd ds)(hl:ds.length<=100000)(n1:r≠fa)(n2:r≠pa){d:D}(hf:f.full (ds.length+1) (W.drop p))(hen:f.en <+: W.drop p)
  (q:Q (.bl AC) (b0 (b0 st pa (.lst (ds++[d]))) r (.ins "Reader" (rdF W (p+f.en.length))))):sem P G (n+2) (d0 "Begun" "ends_with") [.ref fa,d,.ref r] st Q:=by
 refine d4 T.be rfl [AA (.ref fa),AA d,AA (.ref r)] rfl ?_;unfold T4;∎;rw[i7 T h ∎ rfl,D4 (.inl h.2.1)];refine⟨trivial,?_⟩;rw[O0 h.2.1];refine⟨O3 ⋯,?_⟩;have h':BgA (b0 st pa (.lst (ds++[d]))) fa pa f fd (ds++[d]):=⟨d5 h.1 h.2.2,b7,h.2.2⟩;have hr':RdA (b0 st pa (.lst (ds++[d]))) r W p:=d5 hr n2;have pe:D.pure (.str (tx f.en))=AC:=k9 λc hc=>hok c (BL (hen.subset hc));have fin:∀nx bk ct,c9 (Zg P G (n+1)) (Ss.cons (S.ex ((E.v 2).meth (AD "must_be") (Es.cons ((E.v 0).fld (AD "end")) Es.nil))) (Ss.cons (S.ret (E.bl AC)) Ss.nil)) ⟨nx,(e8 Q).rt,bk,ct⟩ [AA (.ref fa),AA d,AA (.ref r)] (b0 st pa (.lst (ds++[d]))):=λnx bk ct=>by
  ∎;refine⟨r,"Reader",_,rfl,hr',rfl,by rw[T.mb];rfl,?_⟩;rw[i7 T h' ∎ rfl];refine U3 T hr' hw hp rfl pe hen ?_;∎;exact b8 q
 ∎;rw[i7 T h' ∎ rfl,i7 T h' ∎ rfl,r9 (.inl h'.2.1)]
 rcases hf with e|⟨e,c,ec,l,el⟩
 ·rw[e,N6];refine⟨_,rfl,?_⟩;rw[decide_eq_true ∎,if_pos rfl];exact fin _ _ _
 ·rw[e,ak9];refine⟨_,rfl,?_⟩;rw[if_neg ∅,i7 T h' ∎ rfl,e];refine .inl ⟨rfl,?_⟩;rfl';refine⟨r,"Reader",_,rfl,hr',rfl,by rw[T.ns];rfl,E3 T hr' hw hp ?_⟩;rw[i7 T h' ∎ rfl];refine j9 (k9 λc hc=>hok c (BL (Bg hc))) pe ?_;rw[el,ec,Cq,Dr,decide_eq_true rfl];refine⟨_,rfl,?_⟩;rw[if_pos rfl];exact fin _ _ _
def cf4(hr:RdA st r W p)(hw:W.length<=1000000)(hok:∀c∈W,c<1114112)(h:BgA st fa pa f fd ds)(hl:ds.length<=100000)(n1:r≠fa)(n2:r≠pa){d:D}(hd:W.drop p=sp::l)(hf:f.open' (ds.length+1) (W.drop p))(hsp:sp∈f.btw)(hbt:∀e∈f.en,e<1114112)
  (q:Q (.bl AF) (b0 (b0 (b0 st pa (.lst (ds++[d]))) r (.ins "Reader" (rdF W (p+1)))) fa (.ins "Begun" (bgF f pa (tx [sp]))))):sem P G (n+3) (d0 "Begun" "ends_with") [.ref fa,d,.ref r] st Q:=by
 have hp:p<=W.length:=Io λz=>by rw[DP ⋯]at hd;cases hd
 refine d4 T.be rfl [AA (.ref fa),AA d,AA (.ref r)] rfl ?_;unfold T4;∎;rw[i7 T h ∎ rfl,D4 (.inl h.2.1)];refine⟨trivial,?_⟩;rw[O0 h.2.1];refine⟨O3 ⋯,?_⟩;have h':BgA (b0 st pa (.lst (ds++[d]))) fa pa f fd (ds++[d]):=⟨d5 h.1 h.2.2,b7,h.2.2⟩;have hr':RdA (b0 st pa (.lst (ds++[d]))) r W p:=d5 hr n2;have pc:D.pure (.str (tx [sp]))=AC:=k9 λc hc=>hok c (BL (by rw[hd];simp at hc;simp[hc]));have fin:c9 (Zg P G (n+2)) (Ss.cons (S.fldS (E.v 0) (AD "found") ((E.v 2).meth (AD "sign") Es.nil)) (Ss.cons (S.iff ((E.cmp Iz ((E.v 0).fld (AD "found")) (E.str (AD ""))).or (E.sin AC ((E.v 0).fld (AD "found")) ((E.v 0).fld (AD "between")))) (Ss.cons S.raise Ss.nil) Ss.nil) (Ss.cons (S.ret (E.bl AF)) Ss.nil))) (e8 Q) [AA (.ref fa),AA d,AA (.ref r)] (b0 st pa (.lst (ds++[d]))):=by
  ∎;refine⟨r,"Reader",_,rfl,hr',rfl,by rw[T.sg];rfl,y6 T hr' hw hp ?_⟩;rw[hd,Cq,Dr];rfl';refine⟨fa,_,_,rfl,d5 h'.1 n1.symm,by rw[T.cb];simp,by simp[bgF],?_⟩;have h2:BgA (b0 (b0 (b0 st pa (.lst (ds++[d]))) r (.ins "Reader" (rdF W (p+1)))) fa (.ins "Begun" (bgF f pa (tx [sp])))) fa pa f (tx [sp]) (ds++[d]):=⟨b7,d5 (d5 b7 n2.symm) h.2.2.symm,h.2.2⟩;show c9 _ _ _ _ (b0 (b0 (b0 st pa (.lst (ds++[d]))) r (.ins "Reader" (rdF W (p+1)))) fa (.ins "Begun" (bgF f pa (tx [sp]))));∎;rw[i7 T h2 ∎ rfl];refine j9 pc (d8 "") ⟨_,rfl,?_⟩;have e0:tx []=AD "":=by decide
  rw[decide_eq_false (λz=>by rw[<-e0]at z;exact nomatch y9 z),if_neg ∅,i7 T h2 ∎ rfl,i7 T h2 ∎ rfl];refine⟨sp,_,rfl,rfl,_,rfl,?_⟩;have ecs:(tx f.btw).cps.toList=f.btw:=by simp[tx]
  rw[ecs,decide_eq_true hsp,if_neg ∅];∎;exact b8 q
 ∎;rw[i7 T h' ∎ rfl,i7 T h' ∎ rfl,r9 (.inl h'.2.1)]
 rcases hf with⟨j,e,hj⟩|⟨e,c,ec,x,y,el,hne⟩
 ·rw[e,N6];refine⟨_,rfl,?_⟩;rw[decide_eq_false (by simp;lia),if_neg ∅,i7 T h' ∎ rfl,e];refine .inr ⟨nofun,?_⟩;rfl';exact fin
 ·rw[e,ak9];refine⟨_,rfl,?_⟩;rw[if_neg ∅,i7 T h' ∎ rfl,e];refine .inl ⟨rfl,?_⟩;rfl';refine⟨r,"Reader",_,rfl,hr',rfl,by rw[T.ns];rfl,E3 T hr' hw hp ?_⟩;rw[i7 T h' ∎ rfl];refine j9 (k9 λc hc=>hok c (BL (Bg hc))) (k9 hbt) ?_;rw[el,ec,Cq,Dr,decide_eq_false (λz=>hne (by have:=y9 z;simpa using this))];refine⟨_,rfl,?_⟩;rw[if_neg ∅];exact fin
structure Fr.ok(f:Fr):Prop where
 row:f.w="row"->f.ex=[]
 kind:f.w="kind"->f.ex=[]
 pu:D.pures f.ex=AC
 le:f.ex.length<=10
def as9(h:BgA st fa pa f fd ds)(hl:ds.length<=100000)(ok:f.ok)(hk:f.w="kind"->fd=tx [sp]/\(sp=43\/sp=42\/sp=62))(q:Q (f.whole sp ds) st):sem P G (n+1) (d0 "Begun" "whole") [.ref fa] st Q:=by
 refine d4 T.bw rfl [AA (.ref fa)] rfl ?_;unfold ae7;have fp:f.front.pure=AC:=by unfold Fr.front;rw[v4,i8,d8,ok.pu];rfl
 have hd:∀x:String,(x="row"\/x="kind")->deq f.front (.tup [.str (AD x)])=AB (f.w=x):=λx hx=>by
  unfold Fr.front;rw[G7]
  by_cases e:f.w=x
  ·have:f.ex=[]:=by exact hx.elim (λz=>ok.row (e.trans z)) (λz=>ok.kind (e.trans z))
   rw[this,e];simp[t0,l7]
  ·have:AD f.w≠AD x:=λz=>e (o9.mp z);simp[t0,l7,e,this]
 ∎;rw[i7 T h ∎ rfl];refine⟨_,T.kR,?_⟩;rw[Q8];refine⟨fp,by rw[v4,i8,d8];rfl,Ag (EF _ _) ∅,?_⟩;rw[hd "row" (.inl rfl)];refine⟨_,rfl,?_⟩
 by_cases e1:f.w="row"
 ·rw[decide_eq_true e1,if_pos rfl];∎;rw[i7 T h ∎ rfl,Z9 (.inl h.2.1)];refine b8 ?_;unfold Fr.whole at q;rw[if_pos e1]at q;exact q
 rw[decide_eq_false e1,if_neg ∅];∎;rw[i7 T h ∎ rfl];refine⟨_,T.kK,?_⟩;rw[Q8];refine⟨fp,by rw[v4,i8,d8];rfl,Ag (EF _ _) ∅,?_⟩;rw[hd "kind" (.inr rfl)];refine⟨_,rfl,?_⟩;unfold Fr.whole at q;rw[if_neg e1]at q
 by_cases e2:f.w="kind"
 ·rw[decide_eq_true e2,if_pos rfl];rw[if_pos e2]at q;obtain⟨rfl,hsp⟩:=hk e2;∎;refine⟨by rw[T.kw];nofun,?_⟩;rw[i7 T h ∎ rfl];have key:∀w:Str,AD (kwd sp)=w->g8 (G.tab "KIND_WORDS") (tx [sp])=AA (.str w):=λw e=>by
   rw[T.kw,<-e]
   rcases hsp with rfl|rfl|rfl<;>rfl
  refine⟨_,_,rfl,key _ rfl,?_⟩;rw[i7 T h ∎ rfl,Z9 (.inl h.2.1)];rfl';refine⟨E8 ?_,b8 q⟩;lia
 ·rw[decide_eq_false e2,if_neg ∅];rw[if_neg e2]at q;∎;rw[i7 T h ∎ rfl,i7 T h ∎ rfl,Z9 (.inl h.2.1)];unfold Fr.front;rfl';have:=ok.le;refine⟨E8 ?_,b8 q⟩;lia
end
mutual
inductive Tr where
 |leaf (d:List D) (s:List Nat)
 |node (f:Fr) (op:List Nat) (sp:Nat) (k:Trs)
inductive Trs where
 |nil|cons (t:Tr) (r:Trs)
end
abbrev Trs.len:Trs->Nat
 |.nil=>0
 |.cons _ r=>r.len+1
mutual
noncomputable def Tr.v:Tr->D
 |.leaf d _=>.tup d
 |.node f _ sp k=>f.whole sp k.vs
noncomputable def Trs.vs:Trs->List D
 |.nil=>[]
 |.cons t r=>t.v::r.vs
end
mutual
noncomputable def Tr.s:Tr->List Nat
 |.leaf _ s=>s
 |.node f op sp k=>op++(k.s sp++f.en)
noncomputable def Trs.s(sp:Nat):Trs->List Nat
 |.nil=>[]
 |.cons t r=>t.s++r.ft sp
noncomputable def Trs.ft(sp:Nat):Trs->List Nat
 |.nil=>[]
 |.cons t r=>sp::(t.s++r.ft sp)
end
mutual
noncomputable def Tr.n:Tr->Nat
 |.leaf _ _=>1
 |.node _ _ _ k=>1+k.n
noncomputable def Trs.n:Trs->Nat
 |.nil=>0
 |.cons t r=>t.n+r.n
end
abbrev nd(c:Nat):Prop:=c<48\/57<c
abbrev nf(l:List Nat):Prop:=∀c∈l.head?,nd c
structure FW(f:Fr)(sp m:Nat):Prop where
 ok:f.ok
 many:f.many=.int m\/(f.many=.non/\∃e,f.en=[e]/\sp≠e)
 le:m<=1000
 btw:2<=m->sp∈f.btw
 nds:nd sp
 nde:nf f.en
 chr:∀c∈f.en,c<1114112
 kind:f.w="kind"->m=2/\(sp=43\/sp=42\/sp=62)
mutual
noncomputable def Tr.wf(R:Tr->Prop):Tr->Prop
 |.leaf d s=>R (.leaf d s)
 |.node f op sp k=>R (.node f op sp k)/\FW f sp k.len/\0<k.len/\k.wf R
noncomputable def Trs.wf(R:Tr->Prop):Trs->Prop
 |.nil=>True
 |.cons t r=>t.wf R/\r.wf R
end
structure Cx3 where
 f:Fr
 fa:AM
 pa:AM
 fd:Str
 ds:List D
 sp:Nat
 k:Trs
abbrev n0:List Cx3->List Nat
 |[]=>[]
 |c::cs=>c.k.ft c.sp++(c.f.en++n0 cs)
abbrev T2:D->List Cx3->D
 |v,[]=>v
 |v,c::cs=>T2 (c.f.whole c.sp (c.ds++v::c.k.vs)) cs
abbrev cxn:List Cx3->Nat
 |[]=>0
 |c::cs=>c.k.n+cxn cs
structure CW(R:Tr->Prop)(c:Cx3):Prop where
 fw:FW c.f c.sp (c.ds.length+1+c.k.len)
 fd:c.ds≠[]->c.fd=tx [c.sp]
 k:c.k.wf R
abbrev adr:List Cx3->List AM
 |[]=>[]
 |c::cs=>c.fa::c.pa::adr cs
structure HI(st0 st:Sto)(r bl:AM)(cs:List Cx3):Prop where
 sk:st bl=AA (.lst (cs.reverse.map λc=>D.ref c.fa))
 fr:∀c∈cs,st c.fa=AA (.ins "Begun" (bgF c.f c.pa c.fd))/\st c.pa=AA (.lst c.ds)
 nod:(r::bl::adr cs).Nodup
 new:∀a∈bl::adr cs,st0 a=AE
theorem B4{c:Cx3}:∀{cs:List Cx3},c∈cs->c.fa∈adr cs/\c.pa∈adr cs
 |d::cs,h=>by
  rcases AT.1 h with rfl|h
  ·exact⟨.head _,.tail _ (.head _)⟩
  ·exact⟨.tail _ (.tail _ (B4 h).1),.tail _ (.tail _ (B4 h).2)⟩
section
variable {st0:Sto} {bl:AM} {c:Cx3} {cs:List Cx3}
def nOf{a:AM}(K:Kp [r] st st')(h:st' a=AE)(hr:st' r=AA o):st a=AE:=by
 cases e:st a with
 |none=>rfl
 |some u=>
  have:a≠r:=λz=>by rw[z,hr]at h;cases h
  rw[K a u (by simpa using this) e]at h;cases h
def HI.to(h:HI st0 st r bl cs)(hb:st' bl=AA (.lst (cs.reverse.map λc=>D.ref c.fa)))(ha:∀a∈adr cs,st' a=st a):HI st0 st' r bl cs:=
 ⟨hb,λc hc=>by rw[ha _ (B4 hc).1,ha _ (B4 hc).2];exact h.fr c hc,h.nod,h.new⟩
def HI.rn(h:HI st0 st r bl cs):r≠bl/\r∉adr cs/\bl∉adr cs/\(adr cs).Nodup:=by
 have:=h.nod;simp only[Bv,AT,not_or]at this;exact⟨this.1.1,this.1.2,this.2.1,this.2.2⟩
def HI.some'(h:HI st0 st r bl cs){a:AM}(ha:a∈adr cs):∃o,st a=AA o:=by
 have:∀{cs:List Cx3},(∀c∈cs,st c.fa=AA (.ins "Begun" (bgF c.f c.pa c.fd))/\st c.pa=AA (.lst c.ds))->a∈adr cs->∃o,st a=AA o:=by
  intro cs
  induction cs with
  |nil=>exact λ_ z=>nomatch z
  |cons c cs ih=>
   intro hf ha;simp only[adr,AT]at ha
   rcases ha with rfl|rfl|ha
   ·exact⟨_,(hf c (.head _)).1⟩
   ·exact⟨_,(hf c (.head _)).2⟩
   ·exact ih (λd hd=>hf d (.tail _ hd)) ha
 exact this h.fr ha
def HI.keep(h:HI st0 st r bl cs)(K:Kp [r] st st'):HI st0 st' r bl cs:=by
 obtain⟨n1,n2,_,_⟩:=h.rn;refine h.to (K _ _ (by simpa using n1.symm) h.sk) λa ha=>?_;obtain⟨o,e⟩:=h.some' ha;rw[e,K a o (λz=>n2 (by simp at z;exact z▸ha)) e]
def HI.pop(h:HI st0 st r bl (c::cs))(hb:st' bl=AA (.lst (cs.reverse.map λc=>D.ref c.fa)))(ha:∀a∈adr cs,st' a=st a):HI st0 st' r bl cs:=by
 have nn:=h.nod;simp only[adr,Bv,AT,not_or]at nn;refine⟨hb,λd hd=>by rw[ha _ (B4 hd).1,ha _ (B4 hd).2];exact h.fr d (.tail _ hd),?_,λa ha=>h.new a ?_⟩
 ·simp only[Bv,AT,not_or];exact⟨⟨nn.1.1,nn.1.2.2.2⟩,nn.2.1.2.2,nn.2.2.2.2⟩
 ·simp only[adr,AT]at ha ⊢;exact ha.imp_right λz=>.inr (.inr z)
def HI.top(h:HI st0 st r bl (c::cs)){ds:List D}{k:Trs}(hb:st' bl=st bl)(h1:st' c.fa=AA (.ins "Begun" (bgF c.f c.pa fd)))(h2:st' c.pa=AA (.lst ds))(ha:∀a∈adr cs,st' a=st a):HI st0 st' r bl (⟨c.f,c.fa,c.pa,fd,ds,c.sp,k⟩::cs):=by
 refine⟨by rw[hb,h.sk];simp,λd hd=>?_,h.nod,h.new⟩
 rcases AT.1 hd with rfl|hd
 ·exact⟨h1,h2⟩
 ·rw[ha _ (B4 hd).1,ha _ (B4 hd).2];exact h.fr d (.tail _ hd)
def HI.push(h:HI st0 st r bl cs)(b:BgA st c.fa c.pa c.f c.fd c.ds)(n1:c.fa∉r::bl::adr cs)(n2:c.pa∉r::bl::adr cs)(f1:st0 c.fa=AE)(f2:st0 c.pa=AE):HI st0 (b0 st bl (.lst ((cs.reverse.map λc=>D.ref c.fa)++[.ref c.fa]))) r bl (c::cs):=by
 obtain⟨m1,m2,m3,m4⟩:=h.rn;simp only[AT,not_or]at n1 n2;refine⟨by rw[b7,GZ,BY];rfl,λd hd=>?_,?_,λa ha=>?_⟩
 ·rcases AT.1 hd with rfl|hd
  ·exact⟨d5 b.1 n1.2.1,d5 b.2.1 n2.2.1⟩
  ·have k:=B4 hd;exact⟨d5 (h.fr d hd).1 λz=>m3 (z▸k.1),d5 (h.fr d hd).2 λz=>m3 (z▸k.2)⟩
 ·simp only[adr,Bv,AT,not_or];exact⟨⟨m1,BD n1.1,BD n2.1,m2⟩,⟨BD n1.2.1,BD n2.2.1,m3⟩,⟨b.2.2,n1.2.2⟩,n2.2.2,m4⟩
 ·simp only[adr,AT]at ha
  rcases ha with rfl|rfl|rfl|ha
  ·exact h.new _ (.head _)
  ·exact f1
  ·exact f2
  ·exact h.new a (.tail _ ha)
end
def a75{a b:List Nat}(ha:nf a)(hb:nf b):nf (a++b):=by
 cases a with
 |nil=>exact hb
 |cons c l=>exact ha
theorem ba5{R:Tr->Prop}:∀{cs:List Cx3}{tail:List Nat},(∀c∈cs,CW R c)->nf tail->nf (n0 cs++tail)
 |[],_,_,ht=>ht
 |c::cs,tail,h,ht=>by
  show nf (c.k.ft c.sp++(c.f.en++n0 cs)++tail);rw[AY,AY];have hc:=h c (.head _);refine a75 ?_ (a75 hc.fw.nde (ba5 (λd hd=>h d (.tail _ hd)) ht));cases c.k with
  |nil=>exact λ_ z=>nomatch z
  |cons t r=>exact λx z=>by cases z;exact hc.fw.nds
def ay1{α:Type}{l:List α}{x:α}:atI (l++[x]) (-1)=AA x:=by
 unfold atI ixN;rw[if_neg ∅,if_pos (by simp;lia)];have e:(-1+((l++[x]).length:Int)).toNat=l.length:=by simp;lia
 show(l++[x])[(-1+((l++[x]).length:Int)).toNat]?=AA x;rw[e];simp
def ar7(f:Fr)(sp:Nat)(ps:List D):∃l,f.whole sp ps=.tup l:=by
 unfold Fr.whole
 split
 ·exact⟨_,rfl⟩
 ·split<;>exact⟨_,rfl⟩
abbrev BOk(P:d6)(G:Gs)(n:Nat)(B:Str):Tr->Prop
 |.leaf d s=>∀(st:Sto)(r:AM)(W:List Nat)(p:Nat)(c8:List Nat)(Q:DK),RdA st r W p->W.length<=1000000->(∀c∈W,c<1114112)->p<=W.length->W.drop p=s++c8->nf c8->(∀st',RdA st' r W (p+s.length)->Kp [r] st st'->Q (.tup d) st')->sem P G n B [.ref r] st Q
 |.node f op sp k=>∀(st:Sto)(r:AM)(W:List Nat)(p:Nat)(c8:List Nat)(Q:DK),RdA st r W p->W.length<=1000000->(∀c∈W,c<1114112)->p<=W.length->W.drop p=op++(k.s sp++c8)->(∀st' fa pa,st fa=AE->st pa=AE->RdA st' r W (p+op.length)->BgA st' fa pa f "" []->Kp [r] st st'->Q (.ref fa) st')->sem P G n B [.ref r] st Q
section
variable (T:PRd P G) {n:Nat} {W:List Nat} {B:Str} {R:Tr->Prop}
include T
def ap9(hB:(P B).isSome=AC)(hR:∀t,R t->BOk P G (n+3) B t)(hr:RdA st r W p)(hw:W.length<=1000000)(hok:∀c∈W,c<1114112)(hp:p<=W.length){t:Tr}{tail:List Nat}(hd:W.drop p=t.s++tail)(hnf:nf tail)(wf:t.wf R)(hn:t.n<=1000000)(q:∀st',RdA st' r W (p+t.s.length)->Kp [r] st st'->Q t.v st'):sem P G (n+4) "read_one" [.ref r,.fn B] st Q:=by
 refine d4 T.ro rfl [AA (.ref r),AA (.fn B),AE,AE] rfl ?_;unfold Y6;∎;intro bl hbl;∎;have hrb:r≠bl:=λz=>by rw[<-z,hr]at hbl;cases hbl
 refine T7 (λm env st'=>∃(t':Tr)(cs:List Cx3)(p':Nat)(x3:Option D),m=t'.n+cxn cs/\env=[AA (.ref r),AA (.fn B),AA (.ref bl),x3]/\RdA st' r W p'/\p'<=W.length/\HI st st' r bl cs/\W.drop p'=t'.s++(n0 cs++tail)/\p'+(t'.s++n0 cs).length=p+t.s.length/\T2 t'.v cs=t.v/\t'.wf R/\(∀c∈cs,CW R c)/\cs.length+(t'.n+cxn cs)<=t.n/\Kp [r] st st') ?_ t.n _ _ ⟨t,[],p,AE,rfl,rfl,d7 hr hbl,hp,⟨b7,nofun,by simp[adr,hrb],λa ha=>by simp[adr]at ha;rw[ha];exact hbl⟩,hd,by simp[n0],rfl,wf,nofun,by simp[cxn],Kp.refl.new hbl⟩;rintro m env st1 WW ⟨t',cs,p',x3,rfl,rfl,hr1,hp1,hi1,hd1,hl1,hv1,wf1,cw1,ht1,K1⟩ ih;unfold wpT;rfl';∎;refine⟨hB,?_⟩;cases t' with
 |node f op sp k=>
  obtain⟨rk,fw,hk0,kw⟩:=wf1;cases k with
  |nil=>exact absurd hk0 (Cw 0)
  |cons t1 kr=>
   have hd1':W.drop p'=op++(t1.s++(kr.ft sp++(f.en++n0 cs)++tail)):=by
    rw[hd1];show(op++((t1.s++kr.ft sp)++f.en))++_=_;simp only[AY]
   refine hR _ rk st1 r W p' (f.en++n0 cs++tail) _ hr1 hw hok hp1 (by rw[hd1'];simp only[Trs.s,AY]) λst2 fa pa nfa npa hr2 bg2 K2=>?_;∎;refine⟨by rw[T.ci];simp,_,bg2.1,_,rfl,?_⟩;rw[if_pos rfl];have hi2:=hi1.keep K2;∎;rw[D4 (.inl hi2.sk),O0 hi2.sk];have nof:∀{a:AM},st1 a=AE->a∉r::bl::adr cs:=λ{a}hn hm=>by
    simp only[AT]at hm
    rcases hm with rfl|rfl|hm
    ·rw[hr1]at hn;cases hn
    ·rw[hi1.sk]at hn;cases hn
    ·obtain⟨o,e⟩:=hi1.some' hm;rw[e]at hn;cases hn
   refine⟨trivial,O3 (by simp only[Am,Ho];lia),?_⟩;∎;have hi3:=hi2.push (c:=⟨f,fa,pa,"",[],sp,kr⟩) bg2 (nof nfa) (nof npa) (nOf K1 nfa hr1) (nOf K1 npa hr1);refine ih _ _ _ ?_ ⟨t1,⟨f,fa,pa,"",[],sp,kr⟩::cs,p'+op.length,_,rfl,rfl,d5 hr2 hi1.rn.1,?_,hi3,?_,?_,hv1,kw.1,λc hc=>?_,?_,kpN (K1.trans K2) (hi1.new _ (.head _))⟩
   ·show t1.n+(kr.n+cxn cs)<1+(t1.n+kr.n)+cxn cs;lia
   ·have:=congrArg Aq hd1';simp only[AH,Ap]at this;lia
   ·rw[<-Bb,hd1',Ds rfl];simp only[n0,AY]
   ·rw[<-hl1];show _=p'+((op++((t1.s++kr.ft sp)++f.en))++n0 cs).length;simp only[n0,AH];lia
   ·rcases AT.1 hc with rfl|hc
    ·exact⟨by have:=fw;simp only[Trs.len]at this;simpa[KB]using this,λz=>absurd rfl z,kw.2⟩
    ·exact cw1 c hc
   ·have:cs.length+(1+(t1.n+kr.n)+cxn cs)<=t.n:=ht1;show cs.length+1+(t1.n+(kr.n+cxn cs))<=t.n;lia
 |leaf d s=>
  refine hR _ wf1 st1 r W p' _ _ hr1 hw hok hp1 hd1 (ba5 cw1 hnf) λst2 hr2 K2=>?_;∎;refine⟨by rw[T.ci];simp,_,rfl,?_⟩;rw[if_neg ∅];∎;have hpl:p'+s.length<=W.length:=by
   have:=congrArg Aq hd1;rw[AH,Ap]at this;have e:(Tr.leaf d s).s=s:=rfl;rw[e]at this;lia
  refine T7 (λm2 env st'=>∃(v:List D)(cs2:List Cx3)(p2:Nat),m2=cs2.length/\env=[AA (.ref r),AA (.fn B),AA (.ref bl),AA (.tup v)]/\RdA st' r W p2/\p2<=W.length/\HI st st' r bl cs2/\W.drop p2=n0 cs2++tail/\p2+(n0 cs2).length=p+t.s.length/\T2 (.tup v) cs2=t.v/\(∀c∈cs2,CW R c)/\cxn cs2<=cxn cs/\cs2.length+cxn cs2<=t.n/\Kp [r] st st') ?_ cs.length _ _ ⟨d,cs,p'+s.length,rfl,rfl,hr2,hpl,hi1.keep K2,by rw[<-Bb,hd1];exact Ds rfl,by rw[<-hl1];show _=p'+(s++n0 cs).length;simp only[AH];lia,hv1,cw1,Ae _,by have:cs.length+(1+cxn cs)<=t.n:=ht1;lia,K1.trans K2⟩;rintro m2 env st3 W2 ⟨v,cs2,p2,rfl,rfl,hr3,hp3,hi3,hd3,hl3,hv3,cw3,hn3,ht3,K3⟩ ih2;unfold wpT;rfl';rw[r9 (.inl hi3.sk)];rfl';cases cs2 with
  |nil=>
   rw[if_neg ∎];∎;rw[r9 (.inl hi3.sk)];rfl';rw[if_pos ∎];∎;simp only[n0,AN,Nat.add_zero]at hl3;have hv3:D.tup v=t.v:=hv3;rw[hv3];exact b8 (q st3 (hl3▸hr3) K3)
  |cons c cs3=>
   have cwc:=cw3 c (.head _);have skc:st3 bl=AA (.lst ((cs3.reverse.map λc=>D.ref c.fa)++[.ref c.fa])):=by rw[hi3.sk,GZ,BY];rfl
   have bgc:BgA st3 c.fa c.pa c.f c.fd c.ds:=by
    have nn:=hi3.rn.2.2.2;simp only[adr,Bv,AT,not_or]at nn;exact⟨(hi3.fr c (.head _)).1,(hi3.fr c (.head _)).2,nn.1.1⟩
   obtain⟨m1,m2,m3,m4⟩:=hi3.rn;simp only[adr,AT,not_or]at m2 m3;have hle:=cwc.fw.le;have far:∀a∈adr cs3,a≠bl/\a≠r/\a≠c.fa/\a≠c.pa:=λa ha=>by
    simp only[adr,Bv,AT,not_or]at m4;exact⟨λz=>m3.2.2 (z▸ha),λz=>m2.2.2 (z▸ha),λz=>m4.1.2 (z▸ha),λz=>m4.2.1 (z▸ha)⟩
   rw[if_pos ∎,w8 (.inl skc)];refine⟨.ref c.fa,ay1,c.fa,"Begun",_,rfl,bgc.1,rfl,by rw[T.be];rfl,?_⟩;cases hk:c.k with
   |nil=>
    have fw:=cwc.fw;rw[hk]at fw;have hd4:W.drop p2=c.f.en++(n0 cs3++tail):=by rw[hd3];simp only[n0,hk,Trs.ft,BB,AY]
    have hfull:c.f.full (c.ds.length+1) (W.drop p2):=by
     rcases fw.many with e|⟨e,x,ex,_⟩
     ·exact .inl e
     ·exact .inr ⟨e,x,ex,_,by rw[hd4,ex];rfl⟩
    refine cf8 T hr3 hw hp3 hok bgc ⋯ m2.1 m2.2.1 (d:=.tup v) hfull ⟨_,hd4.symm⟩ ⟨_,rfl,?_⟩;rw[if_pos rfl];generalize hs4:b0 (b0 st3 c.pa (.lst (c.ds++[.tup v]))) r (.ins "Reader" (rdF W (p2+c.f.en.length)))=st4;have skc4:st4 bl=AA (.lst ((cs3.reverse.map λc=>D.ref c.fa)++[.ref c.fa])):=by rw[<-hs4];exact d5 (d5 skc m3.2.1) (BD m1)
    have bg4:BgA (b0 st4 bl (.lst (cs3.reverse.map λc=>D.ref c.fa))) c.fa c.pa c.f c.fd (c.ds++[.tup v]):=by
     rw[<-hs4];exact⟨d5 (d5 (d5 bgc.1 bgc.2.2) (BD m2.1)) (BD m3.1),d5 (d5 b7 (BD m2.2.1)) (BD m3.2.1),bgc.2.2⟩
    ∎;rw[bk0 skc4];refine⟨c.fa,"Begun",_,rfl,bg4.1,rfl,by rw[T.bw];rfl,as9 T bg4 (by rw[AH,Bw];lia) fw.ok (sp:=c.sp) (λz=>⟨cwc.fd λz2=>by have:=(fw.kind z).1;rw[z2]at this;simp[Trs.len]at this,(fw.kind z).2⟩) ?_⟩;obtain⟨v',ev⟩:=ar7 c.f c.sp (c.ds++[.tup v]);rw[ev];rfl';have hp5:p2+c.f.en.length<=W.length:=by
     have:=congrArg Aq hd4;simp only[AH,Ap]at this;lia
    refine ih2 cs3.length _ _ (Bx _) ⟨v',cs3,p2+c.f.en.length,rfl,rfl,?_,hp5,?_,?_,?_,?_,λc hc=>cw3 c (.tail _ hc),?_,?_,?_⟩
    ·rw[<-hs4];exact d5 b7 m1
    ·refine hi3.pop b7 λa ha=>?_;obtain⟨x1,x2,x3,x4⟩:=far a ha;rw[<-hs4,g6 x1,g6 x2,g6 x4]
    ·rw[<-Bb,hd4];exact Ds rfl
    ·rw[<-hl3];simp only[n0,hk,Trs.ft,BB,AH];lia
    ·rw[<-ev];have:=hv3;simp only[T2,hk,Trs.vs]at this;exact this
    ·have:cxn (c::cs3)=cxn cs3:=by simp[cxn,hk,Trs.n]
     lia
    ·have:cxn (c::cs3)=cxn cs3:=by simp[cxn,hk,Trs.n]
     rw[AG]at ht3;lia
    ·rw[<-hs4];exact kpN (((kpN K3 (hi3.new _ (by simp[adr]))).put ∎)) (hi3.new _ (.head _))
   |cons t1 kr=>
    have fw:=cwc.fw;rw[hk]at fw;have kw:=cwc.k;rw[hk]at kw;have hd4:W.drop p2=c.sp::(t1.s++(kr.ft c.sp++(c.f.en++n0 cs3)++tail)):=by rw[hd3];simp only[n0,hk,Trs.ft,AZ,AY]
    have hopen:c.f.open' (c.ds.length+1) (W.drop p2):=by
     rcases fw.many with e|⟨e,x,ex,ne⟩
     ·exact .inl ⟨_,e,by simp[Trs.len]⟩
     ·exact .inr ⟨e,x,ex,_,_,hd4,ne⟩
    refine cf4 T hr3 hw hok bgc ⋯ m2.1 m2.2.1 (d:=.tup v) hd4 hopen (fw.btw (by simp only[Trs.len];lia)) fw.chr ⟨_,rfl,?_⟩;rw[if_neg ∅];generalize hs4:b0 (b0 (b0 st3 c.pa (.lst (c.ds++[.tup v]))) r (.ins "Reader" (rdF W (p2+1)))) c.fa (.ins "Begun" (bgF c.f c.pa (tx [c.sp])))=st4;have sk4:st4 bl=AA (.lst ((c::cs3).reverse.map λc=>D.ref c.fa)):=by rw[<-hs4];exact d5 (d5 (d5 hi3.sk m3.2.1) (BD m1)) m3.1
    ∎;rw[r9 (.inl sk4)];rfl';rw[if_neg (by simp;lia)];rfl';refine ih _ _ _ ?_ ⟨t1,⟨c.f,c.fa,c.pa,tx [c.sp],c.ds++[.tup v],c.sp,kr⟩::cs3,p2+1,_,rfl,rfl,?_,?_,?_,?_,?_,?_,kw.1,?_,?_,?_⟩
    ·show t1.n+(kr.n+cxn cs3)<1+cxn cs;have:cxn (c::cs3)=t1.n+kr.n+cxn cs3:=by simp[cxn,hk,Trs.n]
     lia
    ·rw[<-hs4];exact d5 b7 m2.1
    ·have:=congrArg Aq hd4;simp only[AG,Ap]at this;lia
    ·refine hi3.top (by rw[sk4,hi3.sk]) (by rw[<-hs4];exact b7) (by rw[<-hs4];exact d5 (d5 b7 (BD m2.2.1)) (BD bgc.2.2)) λa ha=>?_;obtain⟨x1,x2,x3,x4⟩:=far a ha;rw[<-hs4,g6 x3,g6 x2,g6 x4]
    ·rw[<-Bb,hd4];simp only[n0,List.drop_succ_cons,Gq,AY]
    ·rw[<-hl3];simp only[n0,hk,Trs.ft,AZ,AH,AG];lia
    ·have:=hv3;simp only[T2,hk,Trs.vs]at this;simp only[T2,AY,Ew];exact this
    ·intro d hd
     rcases AT.1 hd with rfl|hd
     ·refine⟨?_,λ_=>rfl,kw.2⟩;have e:(c.ds++[D.tup v]).length+1+kr.len=c.ds.length+1+(Trs.cons t1 kr).len:=by simp[Trs.len];lia
      show FW c.f c.sp ((c.ds++[D.tup v]).length+1+kr.len);rw[e];exact fw
     ·exact cw3 d (.tail _ hd)
    ·have:cxn (c::cs3)=t1.n+kr.n+cxn cs3:=by simp[cxn,hk,Trs.n]
     rw[AG]at ht3;show cs3.length+1+(t1.n+(kr.n+cxn cs3))<=t.n;lia
    ·rw[<-hs4];exact kpN ((kpN K3 (hi3.new _ (by simp[adr]))).put ∎) (hi3.new _ (by simp[adr]))
end
structure PRk(P:d6)(G:Gs):Prop extends PRd P G where
 bk:P "begin_kind"=AA O7
 rk:P "read_kind"=AA Y5
abbrev kf:Fr:=⟨"kind",[],.int 2,[43,42,62],[41]⟩
abbrev two(a b:Tr):Trs:=.cons a (.cons b .nil)
abbrev Kd.tr:Kd->Tr
 |.non=>.leaf [.str "none"] [48]
 |.one=>.leaf [.str "one"] [49]
 |.eith a b=>.node kf [40] 43 (two a.tr b.tr)
 |.both a b=>.node kf [40] 42 (two a.tr b.tr)
 |.way a b=>.node kf [40] 62 (two a.tr b.tr)
theorem L6:∀k:Kd,k.tr.v=k.d
 |.non=>rfl
 |.one=>rfl
 |.eith a b=>by show D.tup _=_;simp only[two,Trs.vs,L6 a,L6 b];rfl
 |.both a b=>by show D.tup _=_;simp only[two,Trs.vs,L6 a,L6 b];rfl
 |.way a b=>by show D.tup _=_;simp only[two,Trs.vs,L6 a,L6 b];rfl
def v3{a:AM}{u:Ob}(hr:st r=AA o)(h:b0 st r u a=AE):st a=AE:=by
 by_cases e:a=r
 ·subst e;rw[b7]at h;cases h
 ·rwa [g6 e]at h
def u7(T:PRd P G){n:Nat}:(Zg P G (n+1)).MF (d0 "Begun" "__init__")=AC:=by
 show(AC&&(P _).isSome)=AC;rw[T.bi];rfl
def z4(T:PRd P G){n:Nat}{W:List Nat}(f:Fr)(hr:RdA st r W p)(k:∀st' fa pa,st fa=AE->st pa=AE->RdA st' r W p->BgA st' fa pa f "" []->Kp [] st st'->Q (.ref fa) st'):
  ∀fa,st fa=AE->(C3 P G (n+2)).2.1 (d0 "Begun" "__init__") [.ref fa,f.front,f.many,.str (tx f.btw),.str (tx f.en)] (b0 st fa (.ins "Begun" [])) λv st2=>v=.non/\Q (.ref fa) st2:=by
 intro fa hfa;refine al8 (b35 T b7 λpa hpa ne=>⟨rfl,?_⟩);have npa:st pa=AE:=by rwa [g6 ne]at hpa
 have rf:r≠fa:=λz=>by rw[<-z,hr]at hfa;cases hfa
 have rp:r≠pa:=λz=>by rw[<-z,hr]at npa;cases npa
 exact k _ fa pa hfa npa (d5 (d5 (d5 hr rf) rp) rf) ⟨b7,d5 b7 ne,ne.symm⟩ (kpN (kpN (kpN Kp.refl hfa) npa) hfa)
def kfw(h:sp=43\/sp=42\/sp=62):FW kf sp 2:=⟨⟨λ_=>rfl,λ_=>rfl,rfl,∅⟩,.inl rfl,∅,λ_=>by rcases h with rfl|rfl|rfl<;>decide,by unfold nd;lia,λc z=>by cases z;exact .inl ∅,λc hc=>by simp[kf]at hc;lia,λ_=>⟨rfl,h⟩⟩
def ag4(T:PRd P G){n:Nat}{W:List Nat}{B:Str}{R:Tr->Prop}(hB:(P B).isSome=AC)(hR:∀t,R t->BOk P G (n+3) B t){t:Tr}(hW:W=t.s)(hw:W.length<=1000000)(hok:∀c∈W,c<1114112)(wf:t.wf R)(hn:t.n<=1000000)(q:∀st',Kp [] st st'->Q t.v st'):sem P G (n+5) "read_whole" [.str (tx W),.fn B] st Q:=by
 refine d4 T.rw' rfl [AA (.str (tx W)),AA (.fn B),AE,AE] rfl ?_;unfold Y3;∎;refine⟨by rw[T.ini];rfl,λr hr=>al8 ?_⟩;refine d4 T.ini rfl [AA (.ref r),AA (.str (tx W))] rfl ?_;unfold X7;∎;refine⟨r,_,_,rfl,b7,by rw[T.cr];simp,∅,?_⟩;∎;refine⟨r,_,_,rfl,b7,by rw[T.cr];simp,(by decide:(1:Nat)<1000),?_⟩;rfl';refine⟨_,Sub.refl _,rfl,?_⟩;have K0:Kp [] st (b0 (b0 (b0 st r (.ins "Reader" [])) r (.ins "Reader" [("text",.str (tx W))])) r (.ins "Reader" (rdF W 0))):=kpN (kpN (kpN Kp.refl hr) hr) hr;have hr0:RdA (b0 (b0 (b0 st r (.ins "Reader" [])) r (.ins "Reader" [("text",.str (tx W))])) r (.ins "Reader" (rdF W 0))) r W 0:=b7;show c9 _ _ _ _ (b0 (b0 (b0 st r (.ins "Reader" [])) r (.ins "Reader" [("text",.str (tx W))])) r (.ins "Reader" (rdF W 0)));∎;refine⟨by rw[T.ro];rfl,ap9 T hB hR hr0 hw hok (An _) (t:=t) (tail:=[]) (by rw[Gq,Ac];exact hW) nofun wf hn λst2 hr2 K2=>?_⟩;∎;rw[y0 T hr2];refine⟨_,rfl,by rw[i5];exact Ag hw ∅,?_⟩;rfl';rw[i5,if_neg (by rw[hW];lia)];∎;exact b8 (q st2 λb o nb e=>K2 b o (λz=>by simp at z;rw[z,hr]at e;cases e) (K0 b o nb e))
section
variable (T:PRk P G) {n:Nat} {W:List Nat} 
include T
def av1(k:Kd):BOk P G (n+3) "begin_kind" k.tr:=by
 have nod:∀sp(a b:Tr),BOk P G (n+3) "begin_kind" (.node kf [40] sp (two a b)):=by
  intro sp a b st r W p c8 Q hr hw hok hp hd q;refine d4 T.bk rfl [AA (.ref r),AE] rfl ?_;unfold O7;∎;refine⟨r,"Reader",_,rfl,hr,rfl,by rw[T.sg];rfl,y6 T.toPRd hr hw hp ?_⟩;rw[hd];show c9 _ _ _ [AA (.ref r),AA (.str (AD "("))] _;(iterate 3 ∎);refine⟨u7 T.toPRd,_,T.kK,z4 T.toPRd kf b7 λst' fa pa n1 n2 hr' hb K=>b8 (q st' fa pa (v3 hr n1) (v3 hr n2) hr' hb (Kp.trans (Kp.refl.put ∎) (K.more ∎)))⟩
 cases k with
 |non=>
  intro st r W p c8 Q hr hw hok hp hd hn q;refine d4 T.bk rfl [AA (.ref r),AE] rfl ?_;unfold O7;∎;refine⟨r,"Reader",_,rfl,hr,rfl,by rw[T.sg];rfl,y6 T.toPRd hr hw hp ?_⟩;rw[hd];show c9 _ _ _ [AA (.ref r),AA (.str (AD "0"))] _;(iterate 2 ∎);exact b8 (q _ b7 (Kp.refl.put ∎))
 |one=>
  intro st r W p c8 Q hr hw hok hp hd hn q;refine d4 T.bk rfl [AA (.ref r),AE] rfl ?_;unfold O7;∎;refine⟨r,"Reader",_,rfl,hr,rfl,by rw[T.sg];rfl,y6 T.toPRd hr hw hp ?_⟩;rw[hd];show c9 _ _ _ [AA (.ref r),AA (.str (AD "1"))] _;(iterate 3 ∎);exact b8 (q _ b7 (Kp.refl.put ∎))
 |eith a b=>exact nod 43 _ _
 |both a b=>exact nod 42 _ _
 |way a b=>exact nod 62 _ _
omit T in
theorem J6{R:Tr->Prop}(hR:∀k:Kd,R k.tr):∀k:Kd,k.tr.wf R
 |.non=>hR .non
 |.one=>hR .one
 |.eith a b=>⟨hR (.eith a b),kfw (.inl rfl),CH _,J6 hR a,J6 hR b,trivial⟩
 |.both a b=>⟨hR (.both a b),kfw (.inr (.inl rfl)),CH _,J6 hR a,J6 hR b,trivial⟩
 |.way a b=>⟨hR (.way a b),kfw (.inr (.inr rfl)),CH _,J6 hR a,J6 hR b,trivial⟩
def bz6(k:Kd)(hr:RdA st r W p)(hw:W.length<=1000000)(hok:∀c∈W,c<1114112)(hp:p<=W.length){tail:List Nat}(hd:W.drop p=k.tr.s++tail)(hnf:nf tail)(hn:k.tr.n<=1000000)(q:∀st',RdA st' r W (p+k.tr.s.length)->Kp [r] st st'->Q k.d st'):sem P G (n+4) "read_one" [.ref r,.fn "begin_kind"] st Q:=
 ap9 T.toPRd (R:=λt=>∃k:Kd,t=k.tr) (by rw[T.bk];rfl) (λt⟨k,e⟩=>e▸av1 T k) hr hw hok hp hd hnf (J6 (λk=>⟨k,rfl⟩) k) hn (by rw[L6];exact q)
end
abbrev e9(z:List Nat):List (List Nat)->List Nat
 |[]=>[]
 |[x]=>x
 |x::y::r=>x++(z++e9 z (y::r))
def ay2(z:List Nat):∀ts:List (List Nat),JV (tx z) (ts.map tx)=tx (e9 z ts):=by
 intro ts;show Kx (tx z) (ts.map tx)=_;rw[StrLaws.glued_eq_join]
 induction ts with
 |nil=>rfl
 |cons x r ih=>
  cases r with
  |nil=>rfl
  |cons y r=>
   have e:Hq (tx z) (tx x::tx y::r.map tx)=tx x++tx z++Hq (tx z) (tx y::r.map tx):=rfl;have ih':Hq (tx z) (tx y::r.map tx)=tx (e9 z (y::r)):=ih;show Hq (tx z) (tx x::tx y::r.map tx)=_;rw[e,ih',j3,j3,AY];rfl
def at6{z:List Nat}{ts:List (List Nat)}(h:(ts.map Aq).sum+ts.length*z.length<=1000000):JU (tx z) (ts.map tx)=AC:=by
 unfold JU;have key:∀(ts:List (List Nat))(a:Nat),(ts.map tx).foldl (λacc s=>acc+s.length+(tx z).length) a=a+((ts.map Aq).sum+ts.length*z.length):=by
  intro ts
  induction ts with
  |nil=>intro a;simp
  |cons x r ih=>
   intro a;rw[AV,Ij,ih,i5,i5,AV,DF,AG,HY];lia
 have e:=key ts 0;simp only[List.foldl_toArray];rw[e];unfold Ky;simp only[EI,decide_eq_false_iff_not,not_lt];have:1000000<=sizeLine:=by decide
 lia
def t_e:tx []=AD "":=by decide
section
variable (T:PRd P G) (hx:G.rs=AC) (hi:G.cls "!ix"≠[]) {n:Nat} {W:List Nat} {fa pa:AM} {f:Fr} {ds:List D}
include T hx hi
def ag8(h:RdA st r W p)(hw:W.length<=1000000)(hp:p<=W.length)(hok:∀c∈W,c<1114112){s:List Nat}{w:Str}(hs:w=tx s)(hl:s.length<=1000000)(hc:∀c∈s,c<1114112)(q:s <+: W.drop p->Q .non (b0 st r (.ins "Reader" (rdF W (p+s.length))))):sem P G (n+1) (d0 "Reader" "must_be") [.ref r,.str w] st Q:=by
 subst hs;refine d4 T.mb rfl [AA (.ref r),AA (.str (tx s))] rfl ?_;unfold Y0;∎;rw[ad1 T h,y0 T h];refine⟨_,rfl,?_⟩;rw[y0 T h];refine⟨_,rfl,by rw[i5];exact Ag hl ∅,?_⟩;rfl';refine⟨_,rfl,by rw[i5];exact Ag hw ∅,?_⟩;rw[i5,show(p:Int)+(s.length:Int)=((p+s.length:Nat):Int) by lia,P0 _ _ _ hp ⋯,DL];refine W1 (k9 λc hc=>hok c (BL (Bg hc))) (k9 hc) ⟨_,rfl,?_⟩
 by_cases e:(W.drop p).take s.length=s
 ·rw[e,decide_eq_true rfl,if_neg ∅];∎;rw[y0 T h];refine⟨_,rfl,by rw[i5];exact Ag hl ∅,?_⟩;rfl';refine⟨r,_,_,rfl,h,by rw[T.cr];simp,by simp[rdF],?_⟩;rfl';rw[i5,show(p:Int)+(s.length:Int)=((p+s.length:Nat):Int) by lia];exact⟨_,Sub.refl _,q (List.prefix_iff_eq_take.2 e.symm)⟩
 ·rw[decide_eq_false (λz=>e (y9 z)),if_pos ∅];∎;exact⟨hx,hi⟩
def cb8(hr:RdA st r W p)(hw:W.length<=1000000)(hp:p<=W.length)(hok:∀c∈W,c<1114112)(h:BgA st fa pa f fd ds)(hl:ds.length<=100000)(n1:r≠fa)(n2:r≠pa){d:D}(hm:(∃j:Nat,f.many=.int j)\/(f.many=.non/\∃e,f.en=[e]))(hc:∀e∈f.en++f.btw,e<1114112)(he:f.en.length<=1000)
  (qT:(f.many=.int (ds.length+1:Nat)\/f.many=.non)->f.en <+: W.drop p->Q (.bl AC) (b0 (b0 st pa (.lst (ds++[d]))) r (.ins "Reader" (rdF W (p+f.en.length)))))
  (qF:f.many≠.int (ds.length+1:Nat)->∀sp l,W.drop p=sp::l->sp∈f.btw->Q (.bl AF) (b0 (b0 (b0 st pa (.lst (ds++[d]))) r (.ins "Reader" (rdF W (p+1)))) fa (.ins "Begun" (bgF f pa (tx [sp]))))):sem P G (n+3) (d0 "Begun" "ends_with") [.ref fa,d,.ref r] st Q:=by
 refine d4 T.be rfl [AA (.ref fa),AA d,AA (.ref r)] rfl ?_;unfold T4;∎;rw[i7 T h ∎ rfl,D4 (.inl h.2.1)];refine⟨trivial,?_⟩;rw[O0 h.2.1];refine⟨O3 ⋯,?_⟩;have h':BgA (b0 st pa (.lst (ds++[d]))) fa pa f fd (ds++[d]):=⟨d5 h.1 h.2.2,b7,h.2.2⟩;have hr':RdA (b0 st pa (.lst (ds++[d]))) r W p:=d5 hr n2;have pe:D.pure (.str (tx f.en))=AC:=k9 λc h=>hc c (DN _ h);have finT:(f.many=.int (ds.length+1:Nat)\/f.many=.non)->∀nx bk ct,c9 (Zg P G (n+2)) (Ss.cons (S.ex ((E.v 2).meth (AD "must_be") (Es.cons ((E.v 0).fld (AD "end")) Es.nil))) (Ss.cons (S.ret (E.bl AC)) Ss.nil)) ⟨nx,(e8 Q).rt,bk,ct⟩ [AA (.ref fa),AA d,AA (.ref r)] (b0 st pa (.lst (ds++[d]))):=λhf nx bk ct=>by
  ∎;refine⟨r,"Reader",_,rfl,hr',rfl,by rw[T.mb];rfl,?_⟩;rw[i7 T h' ∎ rfl];refine ag8 T hx hi hr' hw hp hok rfl ⋯ (λc h=>hc c (DN _ h)) λhpre=>?_;∎;exact b8 (qT hf hpre)
 have finF:f.many≠.int (ds.length+1:Nat)->c9 (Zg P G (n+2)) (Ss.cons (S.fldS (E.v 0) (AD "found") ((E.v 2).meth (AD "sign") Es.nil)) (Ss.cons (S.iff ((E.cmp Iz ((E.v 0).fld (AD "found")) (E.str (AD ""))).or (E.sin AC ((E.v 0).fld (AD "found")) ((E.v 0).fld (AD "between")))) (Ss.cons S.raise Ss.nil) Ss.nil) (Ss.cons (S.ret (E.bl AF)) Ss.nil))) (e8 Q) [AA (.ref fa),AA d,AA (.ref r)] (b0 st pa (.lst (ds++[d]))):=λhf=>by
  ∎;refine⟨r,"Reader",_,rfl,hr',rfl,by rw[T.sg];rfl,y6 T hr' hw hp ?_⟩;rfl';refine⟨fa,_,_,rfl,d5 h'.1 n1.symm,by rw[T.cb];simp,by simp[bgF],?_⟩;generalize hz:tx ((W.drop p).take 1)=z;have pz:D.pure (.str z)=AC:=by rw[<-hz];exact k9 λc hc=>hok c (BL (Bg hc))
  have h2:BgA (b0 (b0 (b0 st pa (.lst (ds++[d]))) r (.ins "Reader" (rdF W (p+1)))) fa (.ins "Begun" (bgF f pa z))) fa pa f z (ds++[d]):=⟨b7,d5 (d5 b7 n2.symm) h.2.2.symm,h.2.2⟩;show c9 _ _ _ _ (b0 (b0 (b0 st pa (.lst (ds++[d]))) r (.ins "Reader" (rdF W (p+1)))) fa (.ins "Begun" (bgF f pa z)));∎;rw[i7 T h2 ∎ rfl];refine j9 pz (d8 "") ⟨_,rfl,?_⟩;cases hd:W.drop p with
  |nil=>
   rw[hd]at hz;rw[<-hz,JY,t_e,decide_eq_true rfl,if_pos rfl];∎;exact⟨hx,hi⟩
  |cons sp l=>
   rw[hd,Cq,Dr]at hz;subst hz;rw[decide_eq_false (λz=>by rw[<-t_e]at z;exact nomatch y9 z),if_neg ∅,i7 T h2 ∎ rfl,i7 T h2 ∎ rfl];refine⟨sp,_,rfl,rfl,_,rfl,?_⟩;have ecs:(tx f.btw).cps.toList=f.btw:=by simp[tx]
   rw[ecs]
   by_cases hsp:sp∈f.btw
   ·rw[decide_eq_true hsp,if_neg ∅];∎;exact b8 (qF hf sp l hd hsp)
   ·rw[decide_eq_false hsp,if_pos ∅];∎;exact⟨hx,hi⟩
 ∎;rw[i7 T h' ∎ rfl,i7 T h' ∎ rfl,r9 (.inl h'.2.1)]
 rcases hm with⟨j,e⟩|⟨e,c,ec⟩
 ·rw[e,N6];refine⟨_,rfl,?_⟩
  by_cases hj:j=ds.length+1
  ·rw[decide_eq_true (by simp;lia),if_pos rfl];exact finT (.inl (by rw[e,hj])) _ _ _
  ·rw[decide_eq_false (by simp;lia),if_neg ∅,i7 T h' ∎ rfl,e];refine .inr ⟨nofun,?_⟩;rfl';exact finF (by rw[e];intro z;injection z with z;lia)
 ·rw[e,ak9];refine⟨_,rfl,?_⟩;rw[if_neg ∅,i7 T h' ∎ rfl,e];refine .inl ⟨rfl,?_⟩;rfl';refine⟨r,"Reader",_,rfl,hr',rfl,by rw[T.ns];rfl,E3 T hr' hw hp ?_⟩;rw[i7 T h' ∎ rfl];refine j9 (k9 λc hc=>hok c (BL (Bg hc))) pe ⟨_,rfl,?_⟩
  by_cases hq:tx ((W.drop p).take 1)=tx f.en
  ·rw[decide_eq_true hq,if_pos rfl];exact finT (.inr e) _ _ _
  ·rw[decide_eq_false hq,if_neg ∅];exact finF (by rw[e];nofun)
end
structure Cy where
 c:Cx3
 op:List Nat
 ts:List (List Nat×D)
structure FrC(f:Fr):Prop where
 ok:f.ok
 many:(∃j:Nat,f.many=.int j/\1<=j)\/(f.many=.non/\∃e,f.en=[e])
 one:(∃b,f.btw=[b])\/f.many=.int 2\/f.many=.int 1
 chr:∀c∈f.en++f.btw,c<1114112
 len:f.en.length<=1000
 kind:f.w="kind"->f.many=.int 2/\∀c∈f.btw,c=43\/c=42\/c=62
abbrev Cy.pre(y:Cy):List Nat:=y.op++(y.ts.map λx=>x.1++[y.c.sp]).flatten
abbrev T1:List Cy->List Nat
 |[]=>[]
 |y::ys=>T1 ys++y.pre
structure VN(V:List Nat->D->Prop)(N:Fr->List Nat->Prop):Prop where
 fr:∀f op,N f op->FrC f
 tup:∀s v,V s v->∃d,v=.tup d
 nd:∀f op,N f op->∀(sp:Nat)(xs:List (List Nat×D)),xs≠[]->(∀x∈xs,V x.1 x.2)->(f.many=.int xs.length\/f.many=.non)->(2<=xs.length->sp∈f.btw)->V (op++(e9 [sp] (xs.map Fl)++f.en)) (f.whole sp (xs.map Hf))
structure CY(V:List Nat->D->Prop)(N:Fr->List Nat->Prop)(y:Cy):Prop where
 nd:N y.c.f y.op
 ds:y.c.ds=y.ts.map Hf
 pt:∀x∈y.ts,V x.1 x.2
 fd:y.ts≠[]->y.c.fd=tx [y.c.sp]/\y.c.sp∈y.c.f.btw
 lt:∀j:Nat,y.c.f.many=.int j->y.ts.length<j
theorem a53{sp:Nat}:∀(ts:List (List Nat×D))(s:List Nat),(ts.map λx=>x.1++[sp]).flatten++s=e9 [sp] (ts.map Fl++[s])
 |[],s=>by simp[e9]
 |x::ts,s=>by
  have ih:=a53 (sp:=sp) ts s;rw[AV,DH,AY,ih];cases ts with
  |nil=>simp[e9]
  |cons y ts=>simp only[AV,AZ,e9,AY,Ew,BB]
def HI.top2{st0:Sto}{bl:AM}{c:Cx3}{cs:List Cx3}(h:HI st0 st r bl (c::cs)){ds:List D}{k:Trs}(hb:st' bl=st bl)(h1:st' c.fa=AA (.ins "Begun" (bgF c.f c.pa fd)))(h2:st' c.pa=AA (.lst ds))(ha:∀a∈adr cs,st' a=st a):HI st0 st' r bl (⟨c.f,c.fa,c.pa,fd,ds,sp,k⟩::cs):=by
 refine⟨by rw[hb,h.sk];simp,λd hd=>?_,h.nod,h.new⟩
 rcases AT.1 hd with rfl|hd
 ·exact⟨h1,h2⟩
 ·rw[ha _ (B4 hd).1,ha _ (B4 hd).2];exact h.fr d (.tail _ hd)
abbrev BX(P:d6)(G:Gs)(n:Nat)(B:Str)(V:List Nat->D->Prop)(N:Fr->List Nat->Prop):Prop:=∀(st:Sto)(r:AM)(W:List Nat)(p:Nat)(Q:DK),RdA st r W p->W.length<=60000->(∀c∈W,c<1114112)->p<=W.length ->
 (∀st' s d p',V s (.tup d)->W.drop p=s++W.drop p'->p<p'->p'<=W.length->RdA st' r W p'->Kp [r] st st'->Q (.tup d) st') ->
 (∀st' fa pa f op p',N f op->W.drop p=op++W.drop p'->p<p'->p'<=W.length->st fa=AE->st pa=AE->RdA st' r W p'->BgA st' fa pa f "" []->Kp [r] st st'->Q (.ref fa) st')->sem P G n B [.ref r] st Q
section
variable (T:PRd P G) (hx:G.rs=AC) (hi:G.cls "!ix"≠[]) {n:Nat} {W:List Nat} {B:Str} {V:List Nat->D->Prop} {N:Fr->List Nat->Prop}
include T hx hi
def au8(hB:(P B).isSome=AC)(vn:VN V N)(bx:BX P G (n+3) B V N)(hr:RdA st r W p)(hw:W.length<=60000)(hok:∀c∈W,c<1114112)(hp:p<=W.length)
  (q:∀st' s v p',V s v->W.drop p=s++W.drop p'->p<p'->p'<=W.length->RdA st' r W p'->Kp [r] st st'->Q v st'):sem P G (n+4) "read_one" [.ref r,.fn B] st Q:=by
 refine d4 T.ro rfl [AA (.ref r),AA (.fn B),AE,AE] rfl ?_;unfold Y6;∎;intro bl hbl;∎;have hrb:r≠bl:=λz=>by rw[<-z,hr]at hbl;cases hbl
 have hw':W.length<=1000000:=by lia
 refine T7 (λm env st'=>∃(ys:List Cy)(p':Nat)(x3:Option D),m=W.length-p'/\env=[AA (.ref r),AA (.fn B),AA (.ref bl),x3]/\RdA st' r W p'/\p'<=W.length/\p<=p'/\HI st st' r bl (ys.map Cy.c)/\(∀y∈ys,CY V N y/\y.ts.length<=p')/\ys.length<=p'/\W.drop p=T1 ys++W.drop p'/\Kp [r] st st') ?_ (W.length-p) _ _ ⟨[],p,AE,rfl,rfl,d7 hr hbl,hp,Ae _,⟨b7,nofun,by simp[adr,hrb],λa ha=>by simp[adr]at ha;rw[ha];exact hbl⟩,nofun,An _,rfl,Kp.refl.new hbl⟩;rintro m env st1 WW ⟨ys,p',x3,rfl,rfl,hr1,hp1,hpp,hi1,cy1,hl1,hd1,K1⟩ ih;unfold wpT;rfl';∎;refine⟨hB,bx st1 r W p' _ hr1 hw hok hp1 (λst2 s d p2 hV hd2 lt2 le2 hr2 K2=>?_) λst2 fa pa f op p2 hN hd2 lt2 le2 nfa npa hr2 bg2 K2=>?_⟩
 ·∎;refine⟨by rw[T.ci];simp,_,rfl,?_⟩;rw[if_neg ∅];∎;refine T7 (λm2 env st'=>∃(v:List D)(s:List Nat)(ys2:List Cy)(p2:Nat),m2=ys2.length/\env=[AA (.ref r),AA (.fn B),AA (.ref bl),AA (.tup v)]/\V s (.tup v)/\RdA st' r W p2/\p2<=W.length/\p'<p2/\HI st st' r bl (ys2.map Cy.c)/\(∀y∈ys2,CY V N y/\y.ts.length<=p')/\ys2.length<=p'/\W.drop p=T1 ys2++(s++W.drop p2)/\Kp [r] st st') ?_ ys.length _ _ ⟨d,s,ys,p2,rfl,rfl,hV,hr2,le2,lt2,hi1.keep K2,cy1,hl1,by rw[hd1,hd2],K1.trans K2⟩;rintro m2 env st3 W2 ⟨v,s,ys2,p3,rfl,rfl,hV3,hr3,hp3,lt3,hi3,cy3,hl3,hd3,K3⟩ ih2;unfold wpT;rfl';rw[r9 (.inl hi3.sk)];rfl';cases ys2 with
  |nil=>
   rw[if_neg ∎];∎;rw[r9 (.inl hi3.sk)];rfl';rw[if_pos ∎];∎;exact b8 (q st3 s _ p3 hV3 hd3 ⋯ hp3 hr3 K3)
  |cons y ys3=>
   obtain⟨cwc,hle⟩:=cy3 y (.head _);have fc:=vn.fr _ _ cwc.nd;rw[AV]at hi3;generalize hcs:ys3.map Cy.c=cs3 at hi3;have hlc:cs3.length=ys3.length:=by rw[<-hcs,Am]
   obtain⟨c,op,ts⟩:=y;dsimp only at cwc hle fc hi3;have hds:c.ds.length=ts.length:=by have:=cwc.ds;dsimp only at this;rw[this,Am]
   have skc:st3 bl=AA (.lst ((cs3.reverse.map λc=>D.ref c.fa)++[.ref c.fa])):=by rw[hi3.sk,GZ,BY];rfl
   have bgc:BgA st3 c.fa c.pa c.f c.fd c.ds:=by
    have nn:=hi3.rn.2.2.2;simp only[adr,Bv,AT,not_or]at nn;exact⟨(hi3.fr c (.head _)).1,(hi3.fr c (.head _)).2,nn.1.1⟩
   obtain⟨m1,m2,m3,m4⟩:=hi3.rn;simp only[adr,AT,not_or]at m2 m3;have far:∀a∈adr cs3,a≠bl/\a≠r/\a≠c.fa/\a≠c.pa:=λa ha=>by
    simp only[adr,Bv,AT,not_or]at m4;exact⟨λz=>m3.2.2 (z▸ha),λz=>m2.2.2 (z▸ha),λz=>m4.1.2 (z▸ha),λz=>m4.2.1 (z▸ha)⟩
   rw[if_pos ∎,w8 (.inl skc)];refine⟨.ref c.fa,ay1,c.fa,"Begun",_,rfl,bgc.1,rfl,by rw[T.be];rfl,?_⟩;have hxs:∀x∈ts++[(s,D.tup v)],V x.1 x.2:=λx hx=>by
    rcases Au.1 hx with hx|hx
    ·exact cwc.pt x hx
    ·simp at hx;subst hx;exact hV3
   have cds:c.ds=ts.map Hf:=cwc.ds;refine cb8 T hx hi hr3 hw' hp3 hok bgc ⋯ m2.1 m2.2.1 (d:=.tup v) (fc.many.imp_left λ⟨j,e,_⟩=>⟨j,e⟩) fc.chr fc.len (λhf hpre=>⟨_,rfl,?_⟩) λhf sp l hd4 hsp=>⟨_,rfl,?_⟩
   ·rw[if_pos rfl];obtain⟨c8,hd4⟩:=hpre;generalize hs4:b0 (b0 st3 c.pa (.lst (c.ds++[.tup v]))) r (.ins "Reader" (rdF W (p3+c.f.en.length)))=st4;have skc4:st4 bl=AA (.lst ((cs3.reverse.map λc=>D.ref c.fa)++[.ref c.fa])):=by rw[<-hs4];exact d5 (d5 skc m3.2.1) (BD m1)
    have bg4:BgA (b0 st4 bl (.lst (cs3.reverse.map λc=>D.ref c.fa))) c.fa c.pa c.f c.fd (c.ds++[.tup v]):=by
     rw[<-hs4];exact⟨d5 (d5 (d5 bgc.1 bgc.2.2) (BD m2.1)) (BD m3.1),d5 (d5 b7 (BD m2.2.1)) (BD m3.2.1),bgc.2.2⟩
    ∎;rw[bk0 skc4];refine⟨c.fa,"Begun",_,rfl,bg4.1,rfl,by rw[T.bw];rfl,as9 T bg4 (by rw[AH,Bw];lia) fc.ok (sp:=c.sp) (λz=>?_) ?_⟩
    ·obtain⟨k1,k2⟩:=fc.kind z;have ne:ts≠[]:=λz=>by
      rcases hf with hf|hf
      ·rw[k1]at hf;injection hf with hf;rw[hds,z]at hf;simp at hf
      ·rw[k1]at hf;cases hf
     exact⟨(cwc.fd ne).1,k2 _ (cwc.fd ne).2⟩
    obtain⟨v',ev⟩:=ar7 c.f c.sp (c.ds++[.tup v]);have hV':=vn.nd _ _ cwc.nd c.sp (ts++[(s,D.tup v)]) ∎ hxs (by rw[AH,Bw,<-hds];exact hf) λh2=>(cwc.fd λ(z:ts=[])=>by rw[z]at h2;simp at h2).2;rw[BY,BY,<-cds]at hV';have hV2:V (op++(e9 [c.sp] (ts.map Fl++[s])++c.f.en)) (c.f.whole c.sp (c.ds++[.tup v])):=hV';rw[ev]at hV2 ⊢;rfl';have hp5:p3+c.f.en.length<=W.length:=by
     have:=congrArg Aq hd4;simp only[AH,Ap]at this;lia
    refine ih2 ys3.length _ _ (Bx _) ⟨v',_,ys3,p3+c.f.en.length,rfl,rfl,hV2,?_,hp5,⋯,?_,λy hy=>cy3 y (.tail _ hy),Nat.le_of_succ_le hl3,?_,?_⟩
    ·rw[<-hs4];exact d5 b7 m1
    ·rw[hcs];refine hi3.pop b7 λa ha=>?_;obtain⟨x1,x2,x3,x4⟩:=far a ha;rw[<-hs4,g6 x1,g6 x2,g6 x4]
    ·have e5:W.drop (p3+c.f.en.length)=c8:=by rw[<-Bb,<-hd4];exact Ds rfl
     rw[hd3,e5,<-hd4,<-a53];simp only[T1,Cy.pre,AY]
    ·rw[<-hs4];exact kpN (((kpN K3 (hi3.new _ (by simp[adr]))).put ∎)) (hi3.new _ (.head _))
   ·rw[if_neg ∅];generalize hs4:b0 (b0 (b0 st3 c.pa (.lst (c.ds++[.tup v]))) r (.ins "Reader" (rdF W (p3+1)))) c.fa (.ins "Begun" (bgF c.f c.pa (tx [sp])))=st4;have sk4:st4 bl=AA (.lst ((c::cs3).reverse.map λc=>D.ref c.fa)):=by rw[<-hs4];exact d5 (d5 (d5 hi3.sk m3.2.1) (BD m1)) m3.1
    ∎;rw[r9 (.inl sk4)];rfl';rw[if_neg (by simp;lia)];rfl';have hlt:∀j:Nat,c.f.many=.int j->ts.length+1<j:=λj e=>by
     have h1:ts.length<j:=cwc.lt j e;have h2:j≠ts.length+1:=λz=>hf (by rw[e,z,hds]);lia
    have same:ts≠[]->c.sp=sp:=λne=>by
     have pos:0<ts.length:=List.length_pos_iff.2 ne
     rcases fc.one with⟨b,e⟩|e|e
     ·have h1:=(cwc.fd ne).2;dsimp only at h1;rw[e]at h1 hsp;simp at h1 hsp;rw[h1,hsp]
     ·have:=hlt 2 e;lia
     ·have:=hlt 1 e;lia
    have hfl:(ts.map λx=>x.1++[c.sp]).flatten=(ts.map λx=>x.1++[sp]).flatten:=by
     by_cases z:ts=[]
     ·rw[z];rfl
     ·rw[same z]
    have hp5:p3+1<=W.length:=by
     have:=congrArg Aq hd4;simp only[AG,Ap]at this;lia
    refine ih _ _ _ ?_ ⟨⟨⟨c.f,c.fa,c.pa,tx [sp],c.ds++[.tup v],sp,.nil⟩,op,ts++[(s,.tup v)]⟩::ys3,p3+1,_,rfl,rfl,?_,hp5,⋯,?_,?_,?_,?_,?_⟩
    ·lia
    ·rw[<-hs4];exact d5 b7 m2.1
    ·rw[AV,hcs];refine hi3.top2 (by rw[sk4,hi3.sk]) (by rw[<-hs4];exact b7) (by rw[<-hs4];exact d5 (d5 b7 (BD m2.2.1)) (BD bgc.2.2)) λa ha=>?_;obtain⟨x1,x2,x3,x4⟩:=far a ha;rw[<-hs4,g6 x3,g6 x2,g6 x4]
    ·intro y hy
     rcases AT.1 hy with rfl|hy
     ·refine⟨⟨cwc.nd,?_,hxs,λ_=>⟨rfl,hsp⟩,λj e=>?_⟩,?_⟩
      ·show c.ds++[.tup v]=_;rw[cds,BY];rfl
      ·rw[AH,Bw];exact hlt j e
      ·rw[AH,Bw];lia
     ·exact⟨(cy3 y (.tail _ hy)).1,by have:=(cy3 y (.tail _ hy)).2;lia⟩
    ·rw[AG]at hl3 ⊢;lia
    ·have e5:W.drop (p3+1)=l:=by rw[<-Bb,hd4];rfl
     rw[hd3,hd4,e5];simp only[T1,Cy.pre,AY,hfl,BY,List.flatten_append,AV,BS,DH,Ia,Ac,Ew]
    ·rw[<-hs4];exact kpN ((kpN K3 (hi3.new _ (by simp[adr]))).put ∎) (hi3.new _ (by simp[adr]))
 ·∎;refine⟨by rw[T.ci];simp,_,bg2.1,_,rfl,?_⟩;rw[if_pos rfl];have hi2:=hi1.keep K2;∎;rw[D4 (.inl hi2.sk),O0 hi2.sk];have nof:∀{a:AM},st1 a=AE->a∉r::bl::adr (ys.map Cy.c):=λ{a}hn hm=>by
   simp only[AT]at hm
   rcases hm with rfl|rfl|hm
   ·rw[hr1]at hn;cases hn
   ·rw[hi1.sk]at hn;cases hn
   ·obtain⟨o,e⟩:=hi1.some' hm;rw[e]at hn;cases hn
  refine⟨trivial,O3 (by simp only[Am,Ho];lia),?_⟩;∎;have hi3:=hi2.push (c:=⟨f,fa,pa,"",[],0,.nil⟩) bg2 (nof nfa) (nof npa) (nOf K1 nfa hr1) (nOf K1 npa hr1);have fc:=vn.fr _ _ hN;refine ih _ _ _ ?_ ⟨⟨⟨f,fa,pa,"",[],0,.nil⟩,op,[]⟩::ys,p2,_,rfl,rfl,d5 hr2 hi1.rn.1,le2,⋯,hi3,λy hy=>?_,by rw[AG];lia,?_,kpN (K1.trans K2) (hi1.new _ (.head _))⟩
  ·lia
  ·rcases AT.1 hy with rfl|hy
   ·refine⟨⟨hN,rfl,nofun,λz=>absurd rfl z,λj e=>?_⟩,An _⟩
    rcases fc.many with⟨j',e',h1⟩|⟨e',_⟩
    ·dsimp only at e;rw[e]at e';injection e' with e';simp only[AN];lia
    ·dsimp only at e;rw[e]at e';cases e'
   ·exact⟨(cy1 y hy).1,by have:=(cy1 y hy).2;lia⟩
  ·rw[hd1,hd2];simp only[T1,Cy.pre,BS,Ia,Ac,AY]
end
structure PRp(P:d6)(G:Gs):Prop extends PRk P G where
 bp:P "begin_program"=AA L8
 bf:P "begin_form"=AA Y4
 rn:P "read_number"=AA Y2
 rp:P "read_program"=AA Y1
 kF:G.cst "FIGURES"=AA (.str "0123456789")
 kL:G.cst "LETTERS"=AA (.str "abcdefghijklmnopqrstuvwxyz")
 fo:G.tab "FORMS"=([("fst",.tup [.str "first",.bl AF,.int 1]),("snd",.tup [.str "second",.bl AF,.int 1]),("inl",.tup [.str "left",.bl AC,.int 1]),("inr",.tup [.str "right",.bl AC,.int 1]),("case",.tup [.str "case",.bl AF,.int 3]),("way",.tup [.str "way",.bl AC,.int 1]),("give",.tup [.str "give",.bl AF,.int 2]),("let",.tup [.str "let",.bl AF,.int 2]),("never",.tup [.str "never",.bl AC,.int 1])]:List (Str×D))
abbrev ch(s:String):List Nat:=(AD s).cps.toList
abbrev dg(i:Nat):List Nat:=(HZ 10 i).map Dx
def al2(i:Nat):tx (dg i)=AD (Dh (i:Int)):=by rw[R9 (AD _),W.KIN.signs_num];rfl
def U9{i:Nat}(h:c∈dg i):48<=c/\c<=57:=by
 obtain⟨x,hx,rfl⟩:=IL.1 h;have:=Nat.isDigit_of_mem_toDigits ∅ ∅ hx;simp only[Char.isDigit,Az,decide_eq_true_eq]at this;exact⟨this.1,this.2⟩
def aa3{i:Nat}(h:i<10000):(dg i).length<=4:=by
 unfold dg;rw[Am];exact(Gr ∅ ∅).2 h
def ax6:∀(i:Nat){l:List Nat},dg i=48::l->i=0:=by
 intro i
 induction i using Nat.strongRecOn with
 |_ i ih=>
  intro l h
  by_cases h10:i<10
  ·unfold dg at h;rw[Nat.toDigits_of_lt_base h10]at h;have:(HC i).toNat=48:=by simpa using(Dw h).1
   have key:∀d<10,(HC d).toNat=48->d=0:=by decide
   exact key i h10 this
  ·have hb:10<=i:=by lia
   unfold dg at h;rw[HM ∅ hb,BY]at h;cases e:dg (i / 10)with
   |nil=>exact absurd (FH.1 e) FM
   |cons c l'=>
    have e':(HZ 10 (i / 10)).map Dx=c::l':=e;rw[e',AZ]at h;have:=ih (i / 10) ⋯ (l:=l') (by rw[e,(Dw h).1]);lia
abbrev pf:Fr:=⟨"pair",[],.int 2,[44],[41]⟩
abbrev ff(w:String)(ex:List D)(m:Nat):Fr:=⟨w,ex,.int m,[32],[93]⟩
abbrev f7(a:Tr):Trs:=.cons a .nil
abbrev Pg.tr:Pg->Tr
 |.name i=>.leaf [.str "name",.int i] (35::dg i)
 |.star=>.leaf [.str "star"] [46]
 |.pair t u=>.node pf [40] 44 (two t.tr u.tr)
 |.first t=>.node (ff "first" [] 1) (ch "[fst ") 32 (f7 t.tr)
 |.second t=>.node (ff "second" [] 1) (ch "[snd ") 32 (f7 t.tr)
 |.left k t=>.node (ff "left" [k.d] 1) (ch "[inl "++(k.tr.s++[32])) 32 (f7 t.tr)
 |.right k t=>.node (ff "right" [k.d] 1) (ch "[inr "++(k.tr.s++[32])) 32 (f7 t.tr)
 |.case t u v=>.node (ff "case" [] 3) (ch "[case ") 32 (.cons t.tr (two u.tr v.tr))
 |.way k t=>.node (ff "way" [k.d] 1) (ch "[way "++(k.tr.s++[32])) 32 (f7 t.tr)
 |.give t u=>.node (ff "give" [] 2) (ch "[give ") 32 (two t.tr u.tr)
 |.lets t u=>.node (ff "let" [] 2) (ch "[let ") 32 (two t.tr u.tr)
 |.never k t=>.node (ff "never" [k.d] 1) (ch "[never "++(k.tr.s++[32])) 32 (f7 t.tr)
abbrev koT:Option Kd->List Nat->List Nat
 |none,l=>l
 |some k,l=>k.tr.s++32::l
abbrev koX:Option Kd->List D
 |none=>[]
 |some k=>[k.d]
def c05:∀p:Pg,p.tr.v=p.d:=by
 intro p
 induction p with
 |name|star=>rfl
 |pair t u it iu|give t u it iu|lets t u it iu=>show D.tup _=_;simp only[two,Trs.vs,it,iu];rfl
 |case t u v it iu iv=>show D.tup _=_;simp only[two,Trs.vs,it,iu,iv];rfl
 |first t it|second t it=>show D.tup _=_;simp only[f7,Trs.vs,it];rfl
 |left k t it|right k t it|way k t it|never k t it=>show D.tup _=_;simp only[f7,Trs.vs,it];rfl
section
variable (T:PRp P G) {n:Nat} {W:List Nat} 
include T
def cg3(hr:RdA st r W p)(hw:W.length<=1000000)(hok:∀c∈W,c<1114112)(hp:p<=W.length){i:Nat}(hi:i<10000){tail:List Nat}(hd:W.drop p=dg i++tail)(hnf:nf tail)(q:∀st',RdA st' r W (p+(dg i).length)->Kp [r] st st'->Q (.int i) st'):sem P G (n+3) "read_number" [.ref r] st Q:=by
 refine d4 T.rn rfl [AA (.ref r),AE] rfl ?_;unfold Y2;∎;refine⟨r,"Reader",_,rfl,hr,rfl,by rw[T.so];rfl,_,T.kF,?_⟩;refine Z4 T.toPRd hr hw hp hok (cs:=[48,49,50,51,52,53,54,55,56,57]) ∅ hd (λc hc=>?_) (λc hc=>?_) λst2 hr2 K2=>?_
 ·have:=U9 hc;simp only[AT,Ad,or_false];lia
 ·have h1:=hnf c hc;have key:∀x∈[48,49,50,51,52,53,54,55,56,57],48<=x/\x<=57:=by decide
  exact λz=>by
   have h2:=key c z;unfold nd at h1;lia
 have hdl:=aa3 hi;have hpu:∀c∈dg i,c<1114112:=λc hc=>by have:=U9 hc;lia
 obtain⟨c0,l0,e0⟩:∃c l,dg i=c::l:=by
  cases e:dg i with
  |nil=>exact absurd (FH.1 e) FM
  |cons c l=>exact⟨c,l,rfl⟩
 have en:tx []=AD "":=by decide
 have e48:tx [48]=AD "0":=by decide
 have hsz:(tx (dg i)).length<=sizeLine:=by rw[i5];exact Ag hdl ∅
 have fin:c9 (Zg P G (n+2)) (Ss.cons (S.ret (E.v 1).sint) Ss.nil) (e8 Q) [AA (.ref r),AA (.str (tx (dg i)))] st2:=by
  ∎;exact⟨(i:Int),by rw[al2],⋯,⋯,b8 (q st2 hr2 K2)⟩
 ∎;refine j9 (k9 hpu) (d8 "") ⟨_,rfl,?_⟩;rw[decide_eq_false (λz=>by rw[<-en,e0]at z;exact nomatch y9 z),if_neg ∅];refine⟨_,rfl,hsz,?_⟩;rw[if_neg (by rw[i5];lia)];refine⟨c0,hsz,by rw[L5];simp[tx,e0],j9 (k9 (l:=[c0]) λc hc=>by simp at hc;rw[hc];exact hpu c0 (by rw[e0];simp)) (d8 "0") ⟨_,rfl,?_⟩⟩
 by_cases h48:c0=48
 ·subst h48;have:=ax6 i e0;subst this;have ed:tx (dg 0)=AD "0":=by decide
  rw[show(⟨#[48]⟩:Str)=AD "0" by decide,decide_eq_true rfl,if_pos rfl,ed];rfl';rw[ed]at fin;exact fin
 ·rw[decide_eq_false (λz=>by rw[<-e48]at z;exact h48 (by simpa using y9 (a:=[c0]) z)),if_neg ∅];exact fin
def b27(hr:RdA st r W p)(hw:W.length<=1000000)(hok:∀c∈W,c<1114112)(hp:p<=W.length){w:String}{x:String}(ko:Option Kd)(hn:∀k∈ko,k.tr.n<=1000000){c8:List Nat}(hd:W.drop p=ch w++32::koT ko c8)(hl:∀c∈ch w,c∈ch "abcdefghijklmnopqrstuvwxyz")
  (ht:g8 (G.tab "FORMS") (AD w)=AA (.tup [.str (AD x),.bl ko.isSome,.int m]))
  (q:∀st' fa pa p',st fa=AE->st pa=AE->p'+c8.length=W.length->W.drop p'=c8->RdA st' r W p'->BgA st' fa pa (ff x (koX ko) m) "" []->Kp [r] st st'->Q (.ref fa) st'):sem P G (n+5) "begin_form" [.ref r] st Q:=by
 refine d4 T.bf rfl [AA (.ref r),AE,AE,AE] rfl ?_;unfold Y4;have tc:∀s:String,tx (ch s)=AD s:=λs=>(R9 _).symm;∎;refine⟨r,"Reader",_,rfl,hr,rfl,by rw[T.so];rfl,_,T.kL,?_⟩;refine Z4 T.toPRd hr hw hp hok (cs:=ch "abcdefghijklmnopqrstuvwxyz") (tc _).symm hd hl (λc hc=>by cases hc;decide) λst2 hr2 K2=>?_;rw[tc];have hp2:p+(ch w).length<=W.length:=by
  have:=congrArg Aq hd;simp only[AH,Ap]at this;lia
 have hd2:W.drop (p+(ch w).length)=32::koT ko c8:=by rw[<-Bb,hd];exact Ds rfl
 ∎;refine⟨by rw[T.fo];nofun,_,rfl,?_⟩;rw[ht,if_neg ∎];∎;refine⟨r,"Reader",_,rfl,hr2,rfl,by rw[T.mb];rfl,U3 T.toPRd hr2 hw hp2 (s:=[32]) ∅ (d8 " ") ⟨_,hd2.symm⟩ ?_⟩;have hr3:RdA (b0 st2 r (.ins "Reader" (rdF W (p+(ch w).length+1)))) r W (p+(ch w).length+1):=b7;have K3:Kp [r] st (b0 st2 r (.ins "Reader" (rdF W (p+(ch w).length+1)))):=K2.put ∎;have hd3:W.drop (p+(ch w).length+1)=koT ko c8:=by rw[<-Bb,hd2];rfl
 have hp3:p+(ch w).length+1<=W.length:=by
  have:=congrArg Aq hd2;simp only[AG,Ap]at this;lia
 show c9 _ _ _ _ (b0 st2 r (.ins "Reader" (rdF W (p+(ch w).length+1))));generalize b0 st2 r (.ins "Reader" (rdF W (p+(ch w).length+1)))=st3 at hr3 K3;have e32:(D.str (AD " "))=.str (tx [32]):=congrArg D.str ∅;have e93:(D.str (AD "]"))=.str (tx [93]):=congrArg D.str ∅;∎;refine⟨by rw[T.fo];nofun,_,ht,?_⟩;(iterate 2 ∎);cases ko with
 |none=>
  rw[if_neg ∅];∎;refine⟨u7 T.toPRd (n:=n+3),?_⟩;have hl3:p+(ch w).length+1+c8.length=W.length:=by
   have:=congrArg Aq hd3;simp only[Ap,koT]at this;lia
  rw[e32,e93];exact z4 T.toPRd (ff x [] m) hr3 λst' fa pa n1 n2 hr' hb K=>b8 (q st' fa pa _ (nOf K3 n1 hr3) (nOf K3 n2 hr3) hl3 hd3 hr' hb (K3.trans (K.more ∎)))
 |some k=>
  rw[if_pos (show(AA k).isSome=AC from rfl)];∎;refine⟨by rw[T.ro];rfl,by rw[T.bk];rfl,bz6 T.toPRk k hr3 hw hok hp3 hd3 (λc hc=>by cases hc;exact .inl ∅) (hn k rfl) λst4 hr4 K4=>?_⟩;have hd4:W.drop (p+(ch w).length+1+k.tr.s.length)=32::c8:=by rw[<-Bb,hd3];exact Ds rfl
  have hl4:p+(ch w).length+1+k.tr.s.length+(c8.length+1)=W.length:=by
   have:=congrArg Aq hd3;simp only[koT,AH,Ap,AG]at this;lia
  ∎;refine⟨r,"Reader",_,rfl,hr4,rfl,by rw[T.mb];rfl,U3 T.toPRd hr4 hw ⋯ (s:=[32]) ∅ (d8 " ") ⟨_,hd4.symm⟩ ?_⟩;have hr5:RdA (b0 st4 r (.ins "Reader" (rdF W (p+(ch w).length+1+k.tr.s.length+1)))) r W (p+(ch w).length+1+k.tr.s.length+1):=b7;have K5:Kp [r] st (b0 st4 r (.ins "Reader" (rdF W (p+(ch w).length+1+k.tr.s.length+1)))):=(K3.trans K4).put ∎;show c9 _ _ _ _ (b0 st4 r (.ins "Reader" (rdF W (p+(ch w).length+1+k.tr.s.length+1))));generalize b0 st4 r (.ins "Reader" (rdF W (p+(ch w).length+1+k.tr.s.length+1)))=st5 at hr5 K5;∎;refine⟨u7 T.toPRd (n:=n+3),?_⟩;rw[e32,e93];exact z4 T.toPRd (ff x [k.d] m) hr5 λst' fa pa n1 n2 hr' hb K=>b8 (q st' fa pa _ (nOf K5 n1 hr5) (nOf K5 n2 hr5) ⋯ (by rw[<-Bb,hd4];rfl) hr' hb (K5.trans (K.more ∎)))
def b52(g:Pg)(hi:∀i,g=.name i->i<10000)(hk:∀k:Kd,(∃t,g=.left k t\/g=.right k t\/g=.way k t\/g=.never k t)->k.tr.n<=1000000):BOk P G (n+6) "begin_program" g.tr:=by
 have frm:∀(w x:String)(m sp:Nat)(ko:Option Kd)(ks:Trs)(op:List Nat),(∀k∈ko,k.tr.n<=1000000)->op=91::(ch w++32::koT ko [])->(∀c∈ch w,c∈ch "abcdefghijklmnopqrstuvwxyz")->g8 (G.tab "FORMS") (AD w)=AA (.tup [.str (AD x),.bl ko.isSome,.int m])->BOk P G (n+6) "begin_program" (.node (ff x (koX ko) m) op sp ks):=by
  intro w x m sp ko ks op hn eo hl ht st r W p c8 Q hr hw hok hp hd q;subst eo;refine d4 T.bp rfl [AA (.ref r),AE] rfl ?_;unfold L8;∎;refine⟨r,"Reader",_,rfl,hr,rfl,by rw[T.sg];rfl,y6 T.toPRd hr hw hp ?_⟩;rw[hd];show c9 _ _ _ [AA (.ref r),AA (.str (AD "["))] _;(iterate 5 ∎);have kt:∀l,koT ko []++l=koT ko l:=λl=>by cases ko<;>simp[koT]
  have hd1:W.drop (p+1)=ch w++32::koT ko (ks.s sp++c8):=by
   rw[<-Bb,hd];simp[kt]
  have hl1:=congrArg Aq hd;simp only[Ap,AH,AG]at hl1;refine⟨by rw[T.bf];rfl,b27 T b7 hw hok ⋯ ko hn hd1 hl ht λst' fa pa p' n1 n2 hl' hd' hr' hb K=>b8 (q st' fa pa (v3 hr n1) (v3 hr n2) ?_ hb (Kp.trans (Kp.refl.put ∎) K))⟩;have e:p'=p+(91::(ch w++32::koT ko [])).length:=by
   simp only[AH,AG]at hl' ⊢;lia
  exact e▸hr'
 cases g with
 |star=>
  intro st r W p c8 Q hr hw hok hp hd hn q;refine d4 T.bp rfl [AA (.ref r),AE] rfl ?_;unfold L8;∎;refine⟨r,"Reader",_,rfl,hr,rfl,by rw[T.sg];rfl,y6 T.toPRd hr hw hp ?_⟩;rw[hd];show c9 _ _ _ [AA (.ref r),AA (.str (AD "."))] _;(iterate 2 ∎);exact b8 (q _ b7 (Kp.refl.put ∎))
 |name i=>
  intro st r W p c8 Q hr hw hok hp hd hn q;refine d4 T.bp rfl [AA (.ref r),AE] rfl ?_;unfold L8;∎;refine⟨r,"Reader",_,rfl,hr,rfl,by rw[T.sg];rfl,y6 T.toPRd hr hw hp ?_⟩;rw[hd];show c9 _ _ _ [AA (.ref r),AA (.str (AD "#"))] _;(iterate 3 ∎);have hl1:=congrArg Aq hd;simp only[Ap,AH,AG]at hl1;refine⟨by rw[T.rn];rfl,cg3 T b7 hw hok ⋯ (hi i rfl) (tail:=c8) (by rw[<-Bb,hd];rfl) hn λst' hr' K=>b8 (q st' ?_ (Kp.trans (Kp.refl.put ∎) K))⟩;have e:p+1+(dg i).length=p+(35::dg i).length:=by simp only[AG];lia
  exact e▸hr'
 |pair t u=>
  intro st r W p c8 Q hr hw hok hp hd q;refine d4 T.bp rfl [AA (.ref r),AE] rfl ?_;unfold L8;∎;refine⟨r,"Reader",_,rfl,hr,rfl,by rw[T.sg];rfl,y6 T.toPRd hr hw hp ?_⟩;rw[hd];show c9 _ _ _ [AA (.ref r),AA (.str (AD "("))] _;(iterate 4 ∎);exact⟨u7 T.toPRd (n:=n+4),z4 T.toPRd pf b7 λst' fa pa n1 n2 hr' hb K=>b8 (q st' fa pa (v3 hr n1) (v3 hr n2) hr' hb (Kp.trans (Kp.refl.put ∎) (K.more ∎)))⟩
 |first t=>exact frm "fst" "first" 1 32 AE _ _ nofun rfl ∅ (by rw[T.fo];rfl)
 |second t=>exact frm "snd" "second" 1 32 AE _ _ nofun rfl ∅ (by rw[T.fo];rfl)
 |left k t=>exact frm "inl" "left" 1 32 (AA k) _ _ (λj e=>by cases e;exact hk k ⟨t,.inl rfl⟩) rfl ∅ (by rw[T.fo];rfl)
 |right k t=>exact frm "inr" "right" 1 32 (AA k) _ _ (λj e=>by cases e;exact hk k ⟨t,.inr (.inl rfl)⟩) rfl ∅ (by rw[T.fo];rfl)
 |case t u v=>exact frm "case" "case" 3 32 AE _ _ nofun rfl ∅ (by rw[T.fo];rfl)
 |way k t=>exact frm "way" "way" 1 32 (AA k) _ _ (λj e=>by cases e;exact hk k ⟨t,.inr (.inr (.inl rfl))⟩) rfl ∅ (by rw[T.fo];rfl)
 |give t u=>exact frm "give" "give" 2 32 AE _ _ nofun rfl ∅ (by rw[T.fo];rfl)
 |lets t u=>exact frm "let" "let" 2 32 AE _ _ nofun rfl ∅ (by rw[T.fo];rfl)
 |never k t=>exact frm "never" "never" 1 32 (AA k) _ _ (λj e=>by cases e;exact hk k ⟨t,.inr (.inr (.inr rfl))⟩) rfl ∅ (by rw[T.fo];rfl)
end
structure PWk(P:d6)(G:Gs):Prop extends PRk P G where
 lk:P "_law_kind_shown"=AA X9
def ak3:∀k:Kd,k.tr.s.length+3<=4*2^k.nest:=by
 intro k
 induction k with
 |non|one=>decide
 |eith a b ia ib|both a b ia ib|way a b ia ib=>
  have h1:2^a.nest<=2^max a.nest b.nest:=Ak ∅ (Ed _ _);have h2:2^b.nest<=2^max a.nest b.nest:=Ak ∅ (Dk _ _);simp only[Kd.tr,Tr.s,two,Trs.s,Trs.ft,kf,AH,AG,AN,Kd.nest,HN];lia
def bo0:∀k:Kd,k.tr.n+1<=2*2^k.nest:=by
 intro k
 induction k with
 |non|one=>decide
 |eith a b ia ib|both a b ia ib|way a b ia ib=>
  have h1:2^a.nest<=2^max a.nest b.nest:=Ak ∅ (Ed _ _);have h2:2^b.nest<=2^max a.nest b.nest:=Ak ∅ (Dk _ _);simp only[Kd.tr,Tr.n,two,Trs.n,Kd.nest,HN];lia
def P6:∀(k:Kd),∀c∈k.tr.s,c<1114112:=by
 intro k
 induction k with
 |non|one=>intro c hc;simp[Kd.tr,Tr.s]at hc;lia
 |eith a b ia ib|both a b ia ib|way a b ia ib=>
  intro c hc;simp only[Kd.tr,Tr.s,two,Trs.s,Trs.ft,kf,Au,AT,Ad,or_false]at hc
  rcases hc with rfl|(h|rfl|h)|rfl
  ·decide
  ·exact ia c h
  ·decide
  ·exact ib c h
  ·decide
def j7{R:Str->Str->Prop}{a b:List Nat}(h:a.length+b.length<=1000000)(k:R (tx a) (tx b)):∃i j,D.str (tx a)=.str i/\D.str (tx b)=.str j/\i.length+j.length<=sizeLine/\R i j:=⟨_,_,rfl,rfl,by rw[i5,i5];exact Ag h ∅,k⟩
def t40:tx [40]=AD "(":=by decide
def t41:tx [41]=AD ")":=by decide
def t42:tx [42]=AD "*":=by decide
def t43:tx [43]=AD "+":=by decide
def t62:tx [62]=AD ">":=by decide
section
variable (T:PWk P G) {n:Nat} 
include T
def b24(k:Kd)(hk:k.nest<=9)(q:∀st',Kp [] st st'->Q k.d st'):sem P G (n+6) "read_kind" [.str (tx k.tr.s)] st Q:=by
 refine d4 T.rk rfl [AA (.str (tx k.tr.s))] rfl ?_;unfold Y5;have p9:2^k.nest<=2^9:=Ak ∅ hk;have n1:=bo0 k;have l1:=ak3 k;∎;refine⟨by rw[T.rw'];rfl,by rw[T.bk];rfl,ag4 T.toPRd (R:=λt=>∃k:Kd,t=k.tr) (by rw[T.bk];rfl) (λt⟨k,e⟩=>e▸av1 T.toPRk k) rfl ⋯ (P6 k) (J6 (λk=>⟨k,rfl⟩) k) ⋯ λst' K=>b8 ?_⟩;rw[L6];exact q st' K
def T8:∀(k:Kd){n:Nat}{st:Sto}{Q:DK},k.tr.s.length<=500000->k.nest+1<=n->Q (.str (tx k.tr.s)) st->sem P G n "_law_kind_shown" [k.d] st Q:=by
 intro k
 induction k with
 |non|one=>
  intro n st Q h9 hn q;obtain⟨n,rfl⟩:∃m,n=m+1:=⟨n-1,⋯⟩;refine d4 T.lk rfl [AA _,AE] rfl ?_;unfold X9 Kd.d;(iterate 2 ∎);exact⟨_,rfl,b8 q⟩
 |eith a b ia ib|both a b ia ib|way a b ia ib=>
  intro n st Q h9 hn q;simp only[Kd.nest]at hn;simp only[Kd.tr,Tr.s,two,Trs.s,Trs.ft,kf,AH,AG,AN]at h9;obtain⟨n,rfl⟩:∃m,n=m+1:=⟨n-1,⋯⟩;refine d4 T.lk rfl [AA _,AE] rfl ?_;unfold X9 Kd.d;(iterate 2 ∎);refine⟨_,rfl,?_⟩;∎;refine⟨by rw[T.lk];rfl,ia ⋯ ⋯ ?_⟩;rw[<-t40];refine j7 ?_ ?_
  ·(try simp only[AH,AG,AN]);lia
  rw[j3]
  try rw[<-t42]
  try rw[<-t43]
  try rw[<-t62]
  refine j7 ?_ ?_
  ·(try simp only[AH,AG,AN]);lia
  rw[j3];refine⟨by rw[T.lk];rfl,ib ⋯ ⋯ ?_⟩;refine j7 ?_ ?_
  ·(try simp only[AH,AG,AN]);lia
  rw[j3];rw[<-t41];refine j7 ?_ (b8 ?_)
  ·(try simp only[AH,AG,AN]);lia
  rw[j3];refine cast (congrArg (λl=>Q (.str (tx l)) st) ?_) q;simp[Kd.tr,Tr.s,two,Trs.s,Trs.ft,kf]
end
def C4{W:List Nat}(h:tx ((W.drop p).take 1)=tx [c]):W.drop p=c::W.drop (p+1)/\p+1<=W.length:=by
 have h1:=y9 h;cases hd:W.drop p with
 |nil=>rw[hd]at h1;cases h1
 |cons x l=>
  rw[hd]at h1;have h2:=congrArg Aq hd;simp only[Ap,AG]at h2;refine⟨?_,⋯⟩;have e:W.drop (p+1)=l:=by rw[<-Bb,hd];rfl
  rw[e];simpa using h1
section
variable (T:PRd P G) (hx:G.rs=AC) (hi:G.cls "!ix"≠[]) {n:Nat} {W:List Nat} {B:Str} {V:List Nat->D->Prop} {N:Fr->List Nat->Prop}
include T hx hi
def af5(hB:(P B).isSome=AC)(vn:VN V N)(bx:BX P G (n+3) B V N)(hw:W.length<=60000)(hok:∀c∈W,c<1114112)(q:∀st' v,V W v->Kp [] st st'->Q v st'):sem P G (n+5) "read_whole" [.str (tx W),.fn B] st Q:=by
 refine d4 T.rw' rfl [AA (.str (tx W)),AA (.fn B),AE,AE] rfl ?_;unfold Y3;∎;refine⟨by rw[T.ini];rfl,λr hr=>al8 ?_⟩;refine d4 T.ini rfl [AA (.ref r),AA (.str (tx W))] rfl ?_;unfold X7;∎;refine⟨r,_,_,rfl,b7,by rw[T.cr];simp,∅,?_⟩;∎;refine⟨r,_,_,rfl,b7,by rw[T.cr];simp,(by decide:(1:Nat)<1000),?_⟩;rfl';refine⟨_,Sub.refl _,rfl,?_⟩;have K0:Kp [] st (b0 (b0 (b0 st r (.ins "Reader" [])) r (.ins "Reader" [("text",.str (tx W))])) r (.ins "Reader" (rdF W 0))):=kpN (kpN (kpN Kp.refl hr) hr) hr;have hr0:RdA (b0 (b0 (b0 st r (.ins "Reader" [])) r (.ins "Reader" [("text",.str (tx W))])) r (.ins "Reader" (rdF W 0))) r W 0:=b7;show c9 _ _ _ _ (b0 (b0 (b0 st r (.ins "Reader" [])) r (.ins "Reader" [("text",.str (tx W))])) r (.ins "Reader" (rdF W 0)));∎;refine⟨by rw[T.ro];rfl,au8 T hx hi hB vn bx hr0 hw hok (An _) λst2 s v p2 hV hd _ le hr2 K2=>?_⟩;∎;rw[y0 T hr2];refine⟨_,rfl,by rw[i5];exact Ag hw ∅,?_⟩;rfl';rw[i5]
 by_cases h:p2<W.length
 ·rw[if_pos ⋯];∎;exact⟨hx,hi⟩
 ·rw[if_neg ⋯];∎;have e:W=s:=by
   rw[Gq,DP ⋯,Ac]at hd;exact hd
  rw[<-e]at hV;exact b8 (q st2 v hV λb o nb e=>K2 b o (λz=>by simp at z;rw[z,hr]at e;cases e) (K0 b o nb e))
end
abbrev VK(s:List Nat)(v:D):Prop:=∃k:Kd,s=k.tr.s/\v=k.d
abbrev NK(f:Fr)(op:List Nat):Prop:=f=kf/\op=[40]
def kfC:FrC kf:=⟨(kfw (.inl rfl)).ok,.inl ⟨2,rfl,∅⟩,.inr (.inl rfl),∅,∅,λ_=>⟨rfl,∅⟩⟩
def vnK:VN VK NK:=by
 refine⟨λf op h=>h.1▸kfC,λs v⟨k,_,e⟩=>by rw[e];cases k<;>exact⟨_,rfl⟩,?_⟩;rintro f op ⟨rfl,rfl⟩ sp xs ne hv hm hsp;have hl:xs.length=2:=by
  rcases hm with h|h
  ·injection h with h;lia
  ·cases h
 obtain⟨a,b,rfl⟩:∃a b,xs=[a,b]:=by
  match xs,hl with
  |[a,b],_=>exact⟨a,b,rfl⟩
 obtain⟨ka,ea,va⟩:=hv a ∎;obtain⟨kb,eb,vb⟩:=hv b ∎;have h:=hsp (Ae 2);simp only[kf,AT,Ad,or_false]at h;simp only[AV,BS,e9,ea,eb,va,vb]
 rcases h with rfl|rfl|rfl
 ·exact⟨.eith ka kb,by simp[Kd.tr,Tr.s,two,Trs.s,Trs.ft,kf],rfl⟩
 ·exact⟨.both ka kb,by simp[Kd.tr,Tr.s,two,Trs.s,Trs.ft,kf],rfl⟩
 ·exact⟨.way ka kb,by simp[Kd.tr,Tr.s,two,Trs.s,Trs.ft,kf],rfl⟩
section
variable (T:PRk P G) (hx:G.rs=AC) (hi:G.cls "!ix"≠[]) {n:Nat} {W:List Nat} 
include T hx hi
def a42:BX P G (n+3) "begin_kind" VK NK:=by
 intro st r W p Q hr hw hok hp qL qN;refine d4 T.bk rfl [AA (.ref r),AE] rfl ?_;unfold O7;∎;refine⟨r,"Reader",_,rfl,hr,rfl,by rw[T.sg];rfl,y6 T.toPRd hr ⋯ hp ?_⟩;generalize hz:tx ((W.drop p).take 1)=z;have pz:D.pure (.str z)=AC:=by rw[<-hz];exact k9 λc hc=>hok c (BL (Bg hc))
 ∎;refine j9 pz (d8 "0") ⟨_,rfl,?_⟩
 by_cases e1:z=AD "0"
 ·rw[decide_eq_true e1,if_pos rfl];∎;obtain⟨hd,hl⟩:=C4 (c:=48) (by rw[hz,e1];decide);exact b8 (qL _ [48] _ (p+1) ⟨.non,rfl,rfl⟩ hd (Bx _) hl b7 (Kp.refl.put ∎))
 rw[decide_eq_false e1,if_neg ∅];∎;refine j9 pz (d8 "1") ⟨_,rfl,?_⟩
 by_cases e2:z=AD "1"
 ·rw[decide_eq_true e2,if_pos rfl];∎;obtain⟨hd,hl⟩:=C4 (c:=49) (by rw[hz,e2];decide);exact b8 (qL _ [49] _ (p+1) ⟨.one,rfl,rfl⟩ hd (Bx _) hl b7 (Kp.refl.put ∎))
 rw[decide_eq_false e2,if_neg ∅];∎;refine j9 pz (d8 "(") ⟨_,rfl,?_⟩
 by_cases e3:z=AD "("
 ·rw[decide_eq_true e3,if_pos rfl];obtain⟨hd,hl⟩:=C4 (c:=40) (by rw[hz,e3];decide);∎;refine⟨u7 T.toPRd (n:=n+1),_,T.kK,z4 T.toPRd kf b7 λst' fa pa n1 n2 hr' hb K=>b8 (qN st' fa pa kf [40] (p+1) ⟨rfl,rfl⟩ hd (Bx _) hl (v3 hr n1) (v3 hr n2) hr' hb (Kp.trans (Kp.refl.put ∎) (K.more ∎)))⟩
 rw[decide_eq_false e3,if_neg ∅];∎;exact⟨hx,hi⟩
def by7(hw:W.length<=60000)(hok:∀c∈W,c<1114112)(q:∀st'(k:Kd),W=k.tr.s->Kp [] st st'->Q k.d st'):sem P G (n+6) "read_kind" [.str (tx W)] st Q:=by
 refine d4 T.rk rfl [AA (.str (tx W))] rfl ?_;unfold Y5;∎;exact⟨by rw[T.rw'];rfl,by rw[T.bk];rfl,af5 T.toPRd hx hi (by rw[T.bk];rfl) vnK (a42 T hx hi) hw hok λst' v⟨k,e1,e2⟩K=>b8 (e2▸q st' k e1 K)⟩
end
structure PRt(P:d6)(G:Gs):Prop extends PRd P G where
 bt:P "begin_thing"=AA A0
 rt:P "read_thing"=AA T5
mutual
inductive Th where
 |u|p (a b:Th)|l (a:Th)|r (a:Th)|w (k:Ths)
inductive Ths where
 |nil|cons (t:Th) (r:Ths)
end
mutual
noncomputable def Th.d:Th->D
 |.u=>.tup []
 |.p a b=>.tup [.str "p",a.d,b.d]
 |.l a=>.tup [.str "l",a.d]
 |.r a=>.tup [.str "r",a.d]
 |.w k=>.tup [.str "w",.tup k.ds]
noncomputable def Ths.ds:Ths->List D
 |.nil=>[]
 |.cons t r=>t.d::r.ds
end
abbrev tf(w:String)(m:D)(b e:List Nat):Fr:=⟨w,[],m,b,e⟩
mutual
noncomputable def Th.tr:Th->Tr
 |.u=>.leaf [] [46]
 |.p a b=>.node (tf "p" (.int 2) [44] [41]) [40] 44 (two a.tr b.tr)
 |.l a=>.node (tf "l" (.int 1) [] []) [60] 44 (.cons a.tr .nil)
 |.r a=>.node (tf "r" (.int 1) [] []) [62] 44 (.cons a.tr .nil)
 |.w .nil=>.leaf [.str "w",.tup []] [123,125]
 |.w (.cons t r)=>.node (tf "row" .non [44] [125]) [123] 44 (.cons t.tr r.trs)
noncomputable def Ths.trs:Ths->Trs
 |.nil=>.nil
 |.cons t r=>.cons t.tr r.trs
end
mutual
theorem O1:∀t:Th,t.tr.v=t.d
 |.u=>rfl
 |.p a b=>by show D.tup _=_;simp only[two,Trs.vs,O1 a,O1 b];rfl
 |.l a=>by show D.tup _=_;simp only[Trs.vs,O1 a];rfl
 |.r a=>by show D.tup _=_;simp only[Trs.vs,O1 a];rfl
 |.w .nil=>rfl
 |.w (.cons t r)=>by show D.tup [_,.tup (_::_)]=D.tup [_,.tup (_::_)];rw[O1 t,bj0 r]
theorem bj0:∀k:Ths,k.trs.vs=k.ds
 |.nil=>rfl
 |.cons t r=>by show _::_=_::_;rw[O1 t,bj0 r]
end
def ax8(t:Th):∃c l,t.tr.s=c::l/\c≠125:=by
 cases t with
 |u=>exact⟨46,_,rfl,∅⟩
 |p=>exact⟨40,_,rfl,∅⟩
 |l=>exact⟨60,_,rfl,∅⟩
 |r=>exact⟨62,_,rfl,∅⟩
 |w k=>cases k with
  |nil=>exact⟨123,_,rfl,∅⟩
  |cons=>exact⟨123,_,rfl,∅⟩
abbrev Ss.tl:Ss->Ss
 |.nil=>.nil
 |.cons _ r=>r
section
variable (T:PRt P G) {n:Nat} {W:List Nat} 
include T
def bz5(t:Th):BOk P G (n+3) "begin_thing" t.tr:=by
 have go:∀(st:Sto)(r:AM)(W:List Nat)(p:Nat)(Q:DK)(c:Nat)(s:String)(l:List Nat),RdA st r W p->W.length<=1000000->p<=W.length->W.drop p=c::l->tx [c]=AD s->c9 (Zg P G (n+2)) (A0.body.tl) (e8 Q) [AA (.ref r),AA (.str (AD s))] (b0 st r (.ins "Reader" (rdF W (p+1))))->sem P G (n+3) "begin_thing" [.ref r] st Q:=by
  intro st r W p Q c s l hr hw hp hd hc k;refine d4 T.bt rfl [AA (.ref r),AE] rfl ?_;unfold A0;∎;refine⟨r,"Reader",_,rfl,hr,rfl,by rw[T.sg];rfl,y6 T.toPRd hr hw hp ?_⟩;rw[hd,Cq,Dr,hc];exact k
 have bg:∀(w:String)(m:D)(b e op:List Nat)(sp:Nat)(k:Trs),(∀(st:Sto)(r:AM)(W:List Nat)(p:Nat)(c8:List Nat)(Q:DK),RdA st r W p->W.length<=1000000->(∀c∈W,c<1114112)->p<=W.length->W.drop p=op++(k.s sp++c8)->((∀st' fa pa,b0 st r (.ins "Reader" (rdF W (p+1))) fa=AE->b0 st r (.ins "Reader" (rdF W (p+1))) pa=AE->RdA st' r W (p+1)->BgA st' fa pa (tf w m b e) "" []->Kp [] (b0 st r (.ins "Reader" (rdF W (p+1)))) st'->(e8 Q).rt (.ref fa) st')->sem P G (n+3) "begin_thing" [.ref r] st Q))->op.length=1->BOk P G (n+3) "begin_thing" (.node (tf w m b e) op sp k):=by
  intro w m b e op sp k h ho st r W p c8 Q hr hw hok hp hd q;refine h st r W p c8 Q hr hw hok hp hd λst' fa pa n1 n2 hr' hb K=>b8 (q st' fa pa (v3 hr n1) (v3 hr n2) (ho.symm▸hr') hb (Kp.trans (Kp.refl.put ∎) (K.more ∎)))
 cases t with
 |u=>
  intro st r W p c8 Q hr hw hok hp hd hn q;refine go st r W p Q 46 "." _ hr hw hp hd ∅ ?_;unfold A0 Ss.tl;(iterate 2 ∎);exact b8 (q _ b7 (Kp.refl.put ∎))
 |l a=>
  refine bg "l" (.int 1) [] [] [60] 44 _ (λst r W p c8 Q hr hw hok hp hd q=>go st r W p Q 60 "<" _ hr hw hp hd ∅ ?_) rfl;unfold A0 Ss.tl;(iterate 3 ∎);exact⟨u7 T.toPRd (n:=n+1),z4 T.toPRd (tf "l" (.int 1) [] []) b7 q⟩
 |r a=>
  refine bg "r" (.int 1) [] [] [62] 44 _ (λst r W p c8 Q hr hw hok hp hd q=>go st r W p Q 62 ">" _ hr hw hp hd ∅ ?_) rfl;unfold A0 Ss.tl;(iterate 4 ∎);exact⟨u7 T.toPRd (n:=n+1),z4 T.toPRd (tf "r" (.int 1) [] []) b7 q⟩
 |p a b=>
  refine bg "p" (.int 2) [44] [41] [40] 44 _ (λst r W p c8 Q hr hw hok hp hd q=>go st r W p Q 40 "(" _ hr hw hp hd ∅ ?_) rfl;unfold A0 Ss.tl;(iterate 5 ∎);exact⟨u7 T.toPRd (n:=n+1),z4 T.toPRd (tf "p" (.int 2) [44] [41]) b7 q⟩
 |w k=>
  cases k with
  |nil=>
   intro st r W p c8 Q hr hw hok hp hd hn q;refine go st r W p Q 123 "{" _ hr hw hp hd ∅ ?_;have hl1:=congrArg Aq hd;simp only[Ap,AH,AG]at hl1;have hd1:W.drop (p+1)=125::c8:=by rw[<-Bb,hd];rfl
   unfold A0 Ss.tl;(iterate 5 ∎);refine⟨r,"Reader",_,rfl,b7,rfl,by rw[T.ns];rfl,E3 T.toPRd b7 hw ⋯ ?_⟩;rw[hd1];show j6 .Eq (.str (AD "}")) _ _ _;rfl';∎;refine⟨r,"Reader",_,rfl,b7,rfl,by rw[T.mb];rfl,U3 T.toPRd b7 hw ⋯ (s:=[125]) ∅ (d8 "}") ⟨_,hd1.symm⟩ ?_⟩;∎;exact b8 (q _ b7 ((Kp.refl.put ∎).put ∎))
  |cons t ks=>
   refine bg "row" .non [44] [125] [123] 44 _ (λst r W p c8 Q hr hw hok hp hd q=>go st r W p Q 123 "{" _ hr hw hp hd ∅ ?_) rfl;obtain⟨c,l,e,ne⟩:=ax8 t;have hl1:=congrArg Aq hd;simp only[Ap,AH,AG]at hl1;have hd1:∃l',W.drop (p+1)=c::l':=⟨_,by rw[<-Bb,hd];show t.tr.s++_++_=_;rw[e];rfl⟩;obtain⟨l',hd1⟩:=hd1;unfold A0 Ss.tl;(iterate 5 ∎);refine⟨r,"Reader",_,rfl,b7,rfl,by rw[T.ns];rfl,E3 T.toPRd b7 hw ⋯ ?_⟩;rw[hd1,Cq,Dr];refine j9 (k9 λx hx=>hok x (BL (i:=p+1) (by rw[hd1];simp at hx;simp[hx]))) (d8 "}") ?_;have e125:tx [125]=AD "}":=by decide
   rw[<-e125,decide_eq_false (λz=>ne (by simpa using y9 z))];refine⟨_,rfl,?_⟩;rw[if_neg ∅];(iterate 2 ∎);exact⟨u7 T.toPRd (n:=n+1),_,T.kR,z4 T.toPRd (tf "row" .non [44] [125]) b7 q⟩
end
structure PWt(P:d6)(G:Gs):Prop extends PRt P G where
 lt:P "_law_thing_shown"=AA X8
abbrev Th.dl:Th->List D
 |.u=>[]
 |.p a b=>[.str "p",a.d,b.d]
 |.l a=>[.str "l",a.d]
 |.r a=>[.str "r",a.d]
 |.w k=>[.str "w",.tup k.ds]
def cu0(t:Th):t.d=.tup t.dl:=by cases t<;>simp only[Th.d,Th.dl]
mutual
noncomputable def Th.z:Th->Nat
 |.u=>1
 |.p a b=>1+a.z+b.z
 |.l a=>1+a.z
 |.r a=>1+a.z
 |.w k=>1+k.z
noncomputable def Ths.z:Ths->Nat
 |.nil=>0
 |.cons t r=>t.z+r.z
end
mutual
theorem y8:∀t:Th,t.tr.s.length+1<=4*t.z
 |.u=>by decide
 |.p a b=>by have:=y8 a;have:=y8 b;simp only[Th.tr,Tr.s,two,Trs.s,Trs.ft,tf,AH,AG,AN,Th.z];lia
 |.l a=>by have:=y8 a;simp only[Th.tr,Tr.s,Trs.s,Trs.ft,tf,AH,AG,AN,Th.z];lia
 |.r a=>by have:=y8 a;simp only[Th.tr,Tr.s,Trs.s,Trs.ft,tf,AH,AG,AN,Th.z];lia
 |.w .nil=>by decide
 |.w (.cons t r)=>by have:=y8 t;have:=ay4 r;simp only[Th.tr,Tr.s,Trs.s,tf,AH,AG,AN,Th.z,Ths.z];lia
theorem ay4:∀k:Ths,(k.trs.ft 44).length<=4*k.z
 |.nil=>by decide
 |.cons t r=>by have:=y8 t;have:=ay4 r;simp only[Ths.trs,Trs.ft,AG,AH,Ths.z];lia
end
mutual
theorem O5:∀t:Th,t.tr.n=t.z
 |.u=>rfl
 |.p a b=>by simp only[Th.tr,Tr.n,two,Trs.n,O5 a,O5 b,Th.z];lia
 |.l a=>by simp only[Th.tr,Tr.n,Trs.n,O5 a,Th.z];lia
 |.r a=>by simp only[Th.tr,Tr.n,Trs.n,O5 a,Th.z];lia
 |.w .nil=>rfl
 |.w (.cons t r)=>by simp only[Th.tr,Tr.n,Trs.n,O5 t,bi2 r,Th.z,Ths.z]
theorem bi2:∀k:Ths,k.trs.n=k.z
 |.nil=>rfl
 |.cons t r=>by simp only[Ths.trs,Trs.n,O5 t,bi2 r,Ths.z]
end
abbrev Ths.len:Ths->Nat
 |.nil=>0
 |.cons _ r=>r.len+1
theorem a56:∀k:Ths,k.trs.len=k.len
 |.nil=>rfl
 |.cons t r=>by simp only[Ths.trs,Trs.len,Ths.len,a56 r]
def tfw{w:String}{m:D}{b e:List Nat}{k:Nat}(h1:w≠"kind")(hm:m=.int k\/(m=.non/\∃x,e=[x]/\44≠x))(hk:k<=1000)(hb:2<=k->44∈b)(he:nf e)(hc:∀c∈e,c<1114112):FW (tf w m b e) 44 k:=⟨⟨λ_=>rfl,λ_=>rfl,rfl,by simp[tf]⟩,hm,hk,hb,.inl ∅,he,hc,λz=>absurd z h1⟩
def nf1(h:nd c):nf [c]:=λx z=>by cases z;exact h
mutual
noncomputable def Th.sm:Th->Prop
 |.u=>True
 |.p a b=>a.sm/\b.sm
 |.l a=>a.sm
 |.r a=>a.sm
 |.w k=>k.len<=1000/\k.sm
noncomputable def Ths.sm:Ths->Prop
 |.nil=>True
 |.cons t r=>t.sm/\r.sm
end
mutual
theorem N4:∀t:Th,t.sm->t.tr.wf λx=>∃t:Th,x=t.tr
 |.u,_=>⟨.u,rfl⟩
 |.p a b,h=>⟨⟨.p a b,rfl⟩,tfw ∅ (.inl rfl) (Bo rfl) (λ_=>∅) (nf1 (.inl ∅)) (λc hc=>by simp at hc;lia),CH _,N4 a h.1,N4 b h.2,trivial⟩
 |.l a,h=>⟨⟨.l a,rfl⟩,tfw ∅ (.inl rfl) (Bo rfl) (λz=>absurd (show(2:Nat)<=1 from z) ∅) nofun nofun,CH _,N4 a h,trivial⟩
 |.r a,h=>⟨⟨.r a,rfl⟩,tfw ∅ (.inl rfl) (Bo rfl) (λz=>absurd (show(2:Nat)<=1 from z) ∅) nofun nofun,CH _,N4 a h,trivial⟩
 |.w .nil,_=>⟨.w .nil,rfl⟩
 |.w (.cons t r),h=>⟨⟨.w (.cons t r),rfl⟩,tfw ∅ (.inr ⟨rfl,125,rfl,∅⟩) (by have:=h.1;simp only[Trs.len,a56];simp only[Ths.len]at this;lia) (λ_=>∅) (nf1 (.inr ∅)) (λc hc=>by simp at hc;lia),CH _,N4 t h.2.1,a82 r h.2.2⟩
theorem a82:∀k:Ths,k.sm->k.trs.wf λx=>∃t:Th,x=t.tr
 |.nil,_=>trivial
 |.cons t r,h=>⟨N4 t h.1,a82 r h.2⟩
end
mutual
theorem J1:∀t:Th,∀c∈t.tr.s,c<1114112
 |.u,c,h=>by simp[Th.tr,Tr.s]at h;lia
 |.p a b,c,h=>by
  simp only[Th.tr,Tr.s,two,Trs.s,Trs.ft,tf,Au,AT,Ad,or_false]at h
  rcases h with rfl|(h|rfl|h)|rfl
  ·decide
  ·exact J1 a c h
  ·decide
  ·exact J1 b c h
  ·decide
 |.l a,c,h=>by
  simp only[Th.tr,Tr.s,Trs.s,Trs.ft,tf,Au,AT,Ad,or_false]at h
  rcases h with rfl|h
  ·decide
  ·exact J1 a c h
 |.r a,c,h=>by
  simp only[Th.tr,Tr.s,Trs.s,Trs.ft,tf,Au,AT,Ad,or_false]at h
  rcases h with rfl|h
  ·decide
  ·exact J1 a c h
 |.w .nil,c,h=>by simp[Th.tr,Tr.s]at h;lia
 |.w (.cons t r),c,h=>by
  simp only[Th.tr,Tr.s,Trs.s,tf,Au,AT,Ad,or_false]at h
  rcases h with rfl|(h|h)|rfl
  ·decide
  ·exact J1 t c h
  ·exact az4 r c h
  ·decide
theorem az4:∀k:Ths,∀c∈k.trs.ft 44,c<1114112
 |.nil,c,h=>by simp[Ths.trs,Trs.ft]at h
 |.cons t r,c,h=>by
  simp only[Ths.trs,Trs.ft,AT,Au]at h
  rcases h with rfl|h|h
  ·decide
  ·exact J1 t c h
  ·exact az4 r c h
end
mutual
theorem G6:∀t:Th,t.d.pure=AC
 |.u=>rfl
 |.p a b=>by simp only[Th.d,v4,i8,k8,d8,G6 a,G6 b,Ab]
 |.l a=>by simp only[Th.d,v4,i8,k8,d8,G6 a,Ab]
 |.r a=>by simp only[Th.d,v4,i8,k8,d8,G6 a,Ab]
 |.w k=>by simp only[Th.d,v4,i8,k8,d8,ah8 k,Ab]
theorem ah8:∀k:Ths,D.pures k.ds=AC
 |.nil=>rfl
 |.cons t r=>by simp only[Ths.ds,i8,G6 t,ah8 r,Ab]
end
def aa9{ds:List D}(hp:D.pures ds=AC):j6 .Eq (.tup ds) (.tup []) st Q↔Q (.bl ds.isEmpty) st:=by
 rw[Q8,G7];have e:t0 ds []=ds.isEmpty:=by cases ds<;>rfl
 rw[e];exact⟨λh=>h.2.2.2,λh=>⟨by rw[v4];exact hp,rfl,Ag (EF _ _) ∅,h⟩⟩
def t60:tx [60]=AD "<":=by decide
def bo6:tx [44]=AD ",":=by decide
def c19:tx [46]=AD ".":=by decide
def c21:tx [123]=AD "{":=by decide
def c00:tx [125]=AD "}":=by decide
section
variable (T:PWt P G) {n:Nat} 
include T
def b18(t:Th)(hs:t.sm)(hz:t.z<=20000)(q:∀st',Kp [] st st'->Q t.d st'):sem P G (n+6) "read_thing" [.str (tx t.tr.s)] st Q:=by
 refine d4 T.rt rfl [AA (.str (tx t.tr.s))] rfl ?_;unfold T5;have n1:=O5 t;have l1:=y8 t;∎;refine⟨by rw[T.rw'];rfl,by rw[T.bt];rfl,ag4 T.toPRd (R:=λx=>∃t:Th,x=t.tr) (by rw[T.bt];rfl) (λx⟨t,e⟩=>e▸bz5 T.toPRt t) rfl ⋯ (J1 t) (N4 t hs) ⋯ λst' K=>b8 ?_⟩;rw[O1];exact q st' K
end
mutual
noncomputable def Th.h:Th->Nat
 |.u=>1
 |.p a b=>1+max a.h b.h
 |.l a=>1+a.h
 |.r a=>1+a.h
 |.w k=>1+k.h
noncomputable def Ths.h:Ths->Nat
 |.nil=>0
 |.cons t r=>max t.h r.h
end
abbrev Ths.ls:Ths->List Th
 |.nil=>[]
 |.cons t r=>t::r.ls
theorem ab6:∀k:Ths,k.ds=k.ls.map Th.d
 |.nil=>rfl
 |.cons t r=>by simp only[Ths.ds,Ths.ls,AV,ab6 r]
theorem bd9:∀{k:Ths}{t:Th},t∈k.ls->t.h<=k.h/\t.z<=k.z
 |.cons u r,t,h=>by
  rcases AT.1 h with rfl|h
  ·exact⟨Ed _ _,Gc _ _⟩
  ·have:=bd9 h;exact⟨Ag this.1 (Dk _ _),Ag this.2 (Fe _ _)⟩
def ch4:∀t:Th,1<=t.z:=by intro t;cases t<;>simp only[Th.z]<;>lia
theorem bc8:∀k:Ths,k.len<=k.z
 |.nil=>Ae _
 |.cons t r=>by have:=bc8 r;have:=ch4 t;simp only[Ths.len,Ths.z];lia
mutual
theorem N3:∀t:Th,t.z<=t.tr.s.length
 |.u=>by decide
 |.p a b=>by have:=N3 a;have:=N3 b;simp only[Th.tr,Tr.s,two,Trs.s,Trs.ft,tf,AH,AG,AN,Th.z];lia
 |.l a=>by have:=N3 a;simp only[Th.tr,Tr.s,Trs.s,Trs.ft,tf,AH,AG,AN,Th.z];lia
 |.r a=>by have:=N3 a;simp only[Th.tr,Tr.s,Trs.s,Trs.ft,tf,AH,AG,AN,Th.z];lia
 |.w .nil=>by decide
 |.w (.cons t r)=>by have:=N3 t;have:=bc3 r;simp only[Th.tr,Tr.s,Trs.s,tf,AH,AG,AN,Th.z,Ths.z];lia
theorem bc3:∀k:Ths,k.z<=(k.trs.ft 44).length
 |.nil=>by decide
 |.cons t r=>by have:=N3 t;have:=bc3 r;simp only[Ths.trs,Trs.ft,AG,AH,Ths.z];lia
end
theorem a36:∀(t:Th)(r:Ths),e9 [44] (t.tr.s::r.ls.map λx=>x.tr.s)=t.tr.s++r.trs.ft 44
 |t,.nil=>by simp[e9,Ths.ls,Ths.trs,Trs.ft]
 |t,.cons u r=>by
  show t.tr.s++([44]++e9 [44] (u.tr.s::r.ls.map λx=>x.tr.s))=_;rw[a36 u r];simp[Ths.trs,Trs.ft]
def ao2(k:Ths):123::(e9 [44] (k.ls.map λx=>x.tr.s)++[125])=(Th.w k).tr.s:=by
 cases k with
 |nil=>rfl
 |cons t r=>simp only[Ths.ls,AV,a36,Th.tr,Tr.s,Trs.s,tf];rfl
theorem be5:∀k:Ths,(k.ls.map λx=>x.tr.s.length).sum+k.ls.length<=4*k.z
 |.nil=>Ae _
 |.cons t r=>by have:=y8 t;have:=be5 r;simp only[Ths.ls,AV,DF,AG,Ths.z];lia
theorem a77:∀k:Ths,k.ls.length=k.len
 |.nil=>rfl
 |.cons t r=>by simp only[Ths.ls,AG,Ths.len,a77 r]
section
variable (T:PWt P G) {n:Nat} 
include T
def ce8 [NoRs G]:∀(h:Nat)(t:Th){n:Nat}{st:Sto}{Q:DK},t.z<=20000->t.h<=h->h+1<=n->(∀st',Kp [] st st'->Q (.str (tx t.tr.s)) st')->sem P G n "_law_thing_shown" [t.d] st Q:=by
 intro h
 induction h with
 |zero=>intro t n st Q _ hp;cases t<;>simp only[Th.h]at hp<;>lia
 |succ h ih=>
  intro t n st Q hz hh hn q;obtain⟨n,rfl⟩:∃m,n=m+1:=⟨n-1,⋯⟩;refine d4 T.lt rfl [AA t.d] rfl ?_;unfold X8;cases t with
  |u=>
   simp only[Th.d];∎;refine(aa9 rfl).mpr ⟨_,rfl,?_⟩;rw[if_pos (by rfl)];∎;rw[<-c19];exact b8 (q st Kp.refl)
  |l a|r a=>
   simp only[Th.z]at hz;simp only[Th.h]at hh;have la:=y8 a;simp only[Th.d];∎;refine(aa9 (by simp only[i8,k8,d8,G6,Ab])).mpr ⟨_,rfl,?_⟩;rw[if_neg ∎];(iterate 3 ∎);refine⟨_,rfl,by rw[T.lt];rfl,ih a ⋯ ⋯ ⋯ λst2 K=>?_⟩
   try rw[<-t60]
   try rw[<-t62]
   refine j7 (by simp only[AG,AN];lia) (b8 ?_);rw[j3];refine cast (congrArg (λl=>Q (.str (tx l)) st2) ?_) (q st2 K);simp[Th.tr,Tr.s,Trs.s,Trs.ft,tf]
  |p a b=>
   simp only[Th.z]at hz;simp only[Th.h]at hh;have la:=y8 a;have lb:=y8 b;simp only[Th.d];∎;refine(aa9 (by simp only[i8,k8,d8,G6,Ab])).mpr ⟨_,rfl,?_⟩;rw[if_neg ∎];(iterate 3 ∎);refine⟨by rw[T.lt];rfl,ih a ⋯ ⋯ ⋯ λst2 K=>?_⟩;rw[<-t40,<-t41,<-bo6];refine j7 (by simp only[AG,AN];lia) ?_;rw[j3];refine j7 (by simp only[AH,AG,AN];lia) ?_;rw[j3];refine⟨by rw[T.lt];rfl,ih b ⋯ ⋯ ⋯ λst3 K3=>?_⟩;refine j7 (by simp only[AH,AG,AN];lia) ?_;rw[j3];refine j7 (by simp only[AH,AG,AN];lia) (b8 ?_);rw[j3];refine cast (congrArg (λl=>Q (.str (tx l)) st3) ?_) (q st3 (K.trans K3));simp[Th.tr,Tr.s,two,Trs.s,Trs.ft,tf]
  |w k=>
   have hz':1+k.z<=20000:=hz;have hh':1+k.h<=h+1:=hh;have hl:=bc8 k;simp only[Th.d];∎;refine(aa9 (by simp only[i8,k8,d8,v4,ah8,Ab])).mpr ⟨_,rfl,?_⟩;rw[if_neg ∎];(iterate 2 ∎);rw[ab6];have ll:=a77 k;have lsum:=be5 k;refine⟨_,rfl,by rw[Am];lia,?_⟩;refine G2 (λl acc env' st'=>Kp [] st st'/\∃(pre suf:List Th)(x:Option D),k.ls=pre++suf/\l=suf.map Th.d/\env'=[x]/\acc=(pre.map λc=>D.str (tx c.tr.s))) ?_ ?_ _ _ _ _ ⟨Kp.refl,[],k.ls,AE,rfl,rfl,rfl,rfl⟩
   ·rintro acc env' st' ⟨K,pre,suf,x,ek,el,rfl,rfl⟩;refine⟨trivial,λa ha=>?_⟩;have es:suf=[]:=by simpa using el.symm
    subst es;rw[Ac]at ek;have hjl:(e9 [44] (pre.map λx=>x.tr.s)).length<=100000:=by
     have h1:=y8 (.w k);rw[<-ao2 k,ek]at h1;simp only[AG,AH,AN,Th.z]at h1;lia
    rw[<-bo6,<-c21,<-c00];refine⟨a,(pre.map λx=>x.tr.s).map tx,rfl,.inl (by rw[b7,EH,EH];rfl),at6 ?_,?_⟩
    ·rw[EH,Am,<-ek];simp only[AG,AN];have:(k.ls.map (Aq∘λx=>x.tr.s))=k.ls.map λx=>x.tr.s.length:=rfl;rw[this];lia
    rw[ay2];refine j7 (by simp only[AG,AN];lia) ?_;rw[j3];refine j7 (by simp only[AH,AG,AN];lia) (b8 ?_);rw[j3];refine cast (congrArg (λl=>Q (.str (tx l)) _) ?_) (q _ (K.new ha));rw[<-ao2 k,ek];simp
   ·rintro d ds acc env' st' ihc ⟨K,pre,suf,x,ek,el,rfl,rfl⟩;refine⟨trivial,?_⟩;cases suf with
    |nil=>simp at el
    |cons c suf=>
     simp only[AV,BO]at el;obtain⟨rfl,rfl⟩:=el;rfl';obtain⟨c1,c2⟩:=bd9 (k:=k) (t:=c) (by rw[ek];simp);refine⟨by rw[T.lt];rfl,ih c ⋯ ⋯ ⋯ λst2 K2=>?_⟩;exact ihc _ _ _ ⟨K.trans K2,pre++[c],suf,_,by rw[ek];simp,rfl,rfl,by rw[BY];rfl⟩
end
abbrev Ths.of:List Th->Ths
 |[]=>.nil
 |t::r=>.cons t (Ths.of r)
theorem ab9:∀l:List Th,(Ths.of l).ls=l
 |[]=>rfl
 |t::r=>by simp only[Ths.of,Ths.ls,ab9 r]
theorem au5:∀l:List Th,(∀t∈l,t.sm/\t.z<=b/\t.h<=m)->(Ths.of l).sm/\(Ths.of l).z<=l.length*b/\(Ths.of l).h<=m/\(Ths.of l).len=l.length
 |[],_=>⟨trivial,An _,An _,rfl⟩
 |t::r,h=>by
  obtain⟨h1,h2,h3⟩:=h t (.head _);obtain⟨i1,i2,i3,i4⟩:=au5 r λu hu=>h u (.tail _ hu);refine⟨⟨h1,i1⟩,?_,Gu.2 ⟨h3,i3⟩,congrArg (·+1) i4⟩;simp only[Ths.of,Ths.z,AG,HY];lia
def af4{lo:Int}{n:Nat}:(i6 lo n).length=n:=by simp[i6]
section
variable (B:PB0 P) (hL:P "_law_thing"=AA L9) 
include B hL
def bz2 [NoRs G]:∀(k:Kd){n:Nat}{st:Sto}{Q:DK},k.good->k.bd 100->k.nest+4<=n->f8 st da->(∀(t:Th)st',t.sm->t.z+1<=2*7^k.nest->t.h<=k.nest+1->f8 st' da->Kp [da] st st'->Q t.d st')->sem P G n "_law_thing" [.ref da,k.d] st Q:=by
 intro k
 induction k with
 |non=>intro n st Q g;exact g.elim
 |one=>
  intro n st Q g bd hn I q;obtain⟨n,rfl⟩:∃m,n=m+1:=⟨n-1,⋯⟩;refine d4 hL rfl [AA (.ref da),AA _,AE,AE] rfl ?_;unfold L9 Kd.d;(iterate 2 ∎);exact b8 (q .u st trivial ∅ ∅ I Kp.refl)
 |both a b ia ib=>
  intro n st Q g bd hn I q;simp only[Kd.nest]at hn;have h1:7^a.nest<=7^max a.nest b.nest:=Ak ∅ (Ed _ _);have h2:7^b.nest<=7^max a.nest b.nest:=Ak ∅ (Dk _ _);obtain⟨n,rfl⟩:∃m,n=m+1:=⟨n-1,⋯⟩;refine d4 hL rfl [AA (.ref da),AA _,AE,AE] rfl ?_;unfold L9 Kd.d;(iterate 3 ∎);refine⟨by rw[hL];rfl,ia g.1 bd.1 ⋯ I λta st1 s1 z1 m1 I1 K1=>?_⟩;∎;refine⟨by rw[hL];rfl,ib g.2 bd.2.1 ⋯ I1 λtb st2 s2 z2 m2 I2 K2=>b8 (q (.p ta tb) st2 ⟨s1,s2⟩ ?_ ?_ I2 (K1.trans K2))⟩
  ·simp only[Th.z,Kd.nest,HN];lia
  ·simp only[Th.h,Kd.nest];lia
 |way a b ia ib=>
  intro n st Q g bd hn I q;simp only[Kd.nest]at hn;have h2:7^b.nest<=7^max a.nest b.nest:=Ak ∅ (Dk _ _);obtain⟨n,rfl⟩:∃m,n=m+1:=⟨n-1,⋯⟩;refine d4 hL rfl [AA (.ref da),AA _,AE,AE] rfl ?_;unfold L9 Kd.d;(iterate 4 ∎);have h6:a.cnt<=6:=g.2.2;refine⟨by rw[B.count];rfl,A2 B a (m:=100) ⋯ (J8 bd.1) ∅ ⟨_,rfl,⋯,by rw[af4];lia,?_⟩⟩;refine G2 (λl acc env' st'=>∃(ts:List Th)(x:Option D),l.length+ts.length=a.cnt/\env'=[AA (.ref da),AA (.tup [.str (AD "way"),a.d,b.d]),x]/\acc=ts.map Th.d/\(∀t∈ts,t.sm/\t.z<=2*7^b.nest-1/\t.h<=b.nest+1)/\f8 st' da/\Kp [da] st st') ?_ ?_ _ _ _ _ ⟨[],AE,by rw[af4];simp,rfl,rfl,nofun,I,Kp.refl⟩
  ·rintro acc env' st' ⟨ts,x,hl,rfl,rfl,hf,I',K⟩;refine⟨trivial,λp hp=>?_⟩;obtain⟨f1,f2,f3,f4⟩:=au5 ts hf;have e:D.tup [.str (AD "w"),.tup (ts.map Th.d)]=(Th.w (Ths.of ts)).d:=by simp only[Th.d,ab6,ab9]
   rw[e];simp only[AN,Nat.zero_add]at hl;have hm:ts.length*(2*7^b.nest-1)<=6*(2*7^b.nest-1):=Nat.mul_le_mul_right _ ⋯;have pos:0<7^b.nest:=Jo ∅;refine b8 (q (.w (Ths.of ts)) _ ⟨⋯,f1⟩ ?_ ?_ (let⟨l,e⟩:=I';⟨l,d7 e hp⟩) (K.new hp))
   ·simp only[Th.z,Kd.nest,HN];lia
   ·simp only[Th.h,Kd.nest];lia
  ·rintro d ds acc env' st' ihc ⟨ts,x,hl,rfl,rfl,hf,I',K⟩;refine⟨trivial,?_⟩;simp only[AG]at hl;rfl';refine⟨by rw[hL];rfl,ib g.2.1 bd.2.1 ⋯ I' λt st2 s2 z2 m2 I2 K2=>?_⟩;exact ihc _ _ _ ⟨ts++[t],_,by rw[AH,Bw];lia,rfl,by rw[BY];rfl,λu hu=>by
    rcases Au.1 hu with hu|hu
    ·exact hf u hu
    ·simp at hu;subst hu;exact⟨s2,⋯,m2⟩,I2,K.trans K2⟩
 |eith a b ia ib=>
  intro n st Q g bd hn I q;simp only[Kd.nest]at hn;have h1:7^a.nest<=7^max a.nest b.nest:=Ak ∅ (Ed _ _);have h2:7^b.nest<=7^max a.nest b.nest:=Ak ∅ (Dk _ _);obtain⟨n,rfl⟩:∃m,n=m+1:=⟨n-1,⋯⟩;refine d4 hL rfl [AA (.ref da),AA _,AE,AE] rfl ?_;unfold L9 Kd.d;(iterate 4 ∎);have endL:∀st1,f8 st1 da->Kp [da] st st1->a.good->c9 (Zg P G n) (.cons (S.ret (E.tup (Es.cons ((E.str (AD "lr")).ix (E.v 3)) (Es.cons (E.call (AD "_law_thing") (Es.cons (E.v 0) (Es.cons ((E.v 1).ix (E.bin Ib (E.int 1) (E.v 3))) Es.nil))) Es.nil)))) .nil) (e8 Q) [AA (.ref da),AA (.tup [.str (AD "either"),a.d,b.d]),AE,AA (.int 0)] st1:=λst1 I1 K1 ga=>by
   ∎;have e:(⟨#[108]⟩:Str)=AD "l":=by decide
   refine⟨108,∅,by rw[L5];rfl,by rw[hL];rfl,a.d,rfl,ia ga bd.1 ⋯ I1 λt st2 s2 z2 m2 I2 K2=>?_⟩;rw[e];have:=q (.l t) st2 s2 ?_ ?_ I2 (K1.trans K2)
   ·simp only[Th.d]at this;exact b8 this
   ·simp only[Th.z,Kd.nest,HN];lia
   ·simp only[Th.h,Kd.nest];lia
  have endR:∀st1,f8 st1 da->Kp [da] st st1->b.good->c9 (Zg P G n) (.cons (S.ret (E.tup (Es.cons ((E.str (AD "lr")).ix (E.v 3)) (Es.cons (E.call (AD "_law_thing") (Es.cons (E.v 0) (Es.cons ((E.v 1).ix (E.bin Ib (E.int 1) (E.v 3))) Es.nil))) Es.nil)))) .nil) (e8 Q) [AA (.ref da),AA (.tup [.str (AD "either"),a.d,b.d]),AE,AA (.int 1)] st1:=λst1 I1 K1 gb=>by
   ∎;have e:(⟨#[114]⟩:Str)=AD "r":=by decide
   refine⟨114,∅,by rw[ad5];rfl,by rw[hL];rfl,b.d,rfl,ib gb bd.2.1 ⋯ I1 λt st2 s2 z2 m2 I2 K2=>?_⟩;rw[e];have:=q (.r t) st2 s2 ?_ ?_ I2 (K1.trans K2)
   ·simp only[Th.d]at this;exact b8 this
   ·simp only[Th.z,Kd.nest,HN];lia
   ·simp only[Th.h,Kd.nest];lia
  have c0:∀k:Kd,k.cnt=0->¬k.good:=λk e g=>by have:=Kd.good_pos g;lia
  obtain⟨n,rfl⟩:∃m,n=m+1:=⟨n-1,⋯⟩;refine⟨by rw[B.next];rfl,l8 B (m:=2) ∅ I λr st1 r0 r1 I1 K1=>?_⟩;have hr:r=0\/r=1:=by lia
  rcases hr with rfl|rfl
  ·∎;refine⟨by rw[B.count];rfl,a.d,rfl,A2 B a (m:=100) ⋯ (J8 bd.1) ∅ ?_⟩;rw[N6];refine⟨_,rfl,?_⟩
   by_cases h0:(a.cnt:Int)=0
   ·rw[decide_eq_true h0,if_pos rfl];∎;have ng:=c0 a ⋯;exact endR st1 I1 K1 (g.elim (λg=>g.2) λg=>g.elim (λg=>g.2) λg=>absurd g.1 ng)
   ·rw[decide_eq_false h0,if_neg ∅];exact endL st1 I1 K1 (g.elim (λg=>g.1) λg=>g.elim (λg=>absurd (show(a.cnt:Int)=0 by rw[g.1];rfl) h0) λg=>g.1)
  ·∎;refine⟨by rw[B.count];rfl,b.d,rfl,A2 B b (m:=100) ⋯ (J8 bd.2.1) ∅ ?_⟩;rw[N6];refine⟨_,rfl,?_⟩
   by_cases h0:(b.cnt:Int)=0
   ·rw[decide_eq_true h0,if_pos rfl];∎;have ng:=c0 b ⋯;exact endL st1 I1 K1 (g.elim (λg=>g.1) λg=>g.elim (λg=>absurd g.2 ng) λg=>g.1)
   ·rw[decide_eq_false h0,if_neg ∅];exact endR st1 I1 K1 (g.elim (λg=>g.2) λg=>g.elim (λg=>g.2) λg=>absurd (show(b.cnt:Int)=0 by rw[g.2];rfl) h0)
end
abbrev VTh(s:List Nat)(v:D):Prop:=∃t:Th,s=t.tr.s/\v=t.d
abbrev NTh(f:Fr)(op:List Nat):Prop:=(f=tf "l" (.int 1) [] []/\op=[60])\/(f=tf "r" (.int 1) [] []/\op=[62])\/(f=tf "p" (.int 2) [44] [41]/\op=[40])\/(f=tf "row" .non [44] [125]/\op=[123])
def ac7{w:String}{m:D}{b e:List Nat}:(tf w m b e).ok:=⟨λ_=>rfl,λ_=>rfl,rfl,An _⟩
theorem a84:∀xs:List (List Nat×D),(∀x∈xs,VTh x.1 x.2)->∃ts:List Th,xs.map Fl=ts.map (λt=>t.tr.s)/\xs.map Hf=ts.map Th.d
 |[],_=>⟨[],rfl,rfl⟩
 |x::xs,h=>by
  obtain⟨t,e1,e2⟩:=h x ∎;obtain⟨ts,h1,h2⟩:=a84 xs λy hy=>h y (by simp[hy]);exact⟨t::ts,by rw[AV,AV,h1,e1],by rw[AV,AV,h2,e2]⟩
def vnT:VN VTh NTh:=by
 have m1:∀{w:String}{k:Nat}{b e:List Nat}{xs:List (List Nat×D)},((tf w (.int k) b e).many=.int xs.length\/(tf w (.int k) b e).many=.non)->xs.length=k:=λ{w k b e xs}h=>by
  rcases h with h|h
  ·injection h with h;lia
  ·cases h
 refine⟨λf op h=>?_,λs v⟨t,_,e⟩=>⟨_,e.trans (cu0 t)⟩,?_⟩
 ·rcases h with⟨rfl,_⟩|⟨rfl,_⟩|⟨rfl,_⟩|⟨rfl,_⟩
  ·exact⟨ac7,.inl ⟨1,rfl,∅⟩,.inr (.inr rfl),∅,∅,λz=>absurd z ∅⟩
  ·exact⟨ac7,.inl ⟨1,rfl,∅⟩,.inr (.inr rfl),∅,∅,λz=>absurd z ∅⟩
  ·exact⟨ac7,.inl ⟨2,rfl,∅⟩,.inl ⟨44,rfl⟩,∅,∅,λz=>absurd z ∅⟩
  ·exact⟨ac7,.inr ⟨rfl,125,rfl⟩,.inl ⟨44,rfl⟩,∅,∅,λz=>absurd z ∅⟩
 rintro f op h sp xs ne hv hm hsp
 rcases h with⟨rfl,rfl⟩|⟨rfl,rfl⟩|⟨rfl,rfl⟩|⟨rfl,rfl⟩
 ·obtain⟨a,rfl⟩:∃a,xs=[a]:=by
   match xs,m1 hm with
   |[a],_=>exact⟨a,rfl⟩
  obtain⟨t,e1,e2⟩:=hv a ∎;exact⟨.l t,by simp[e9,e1,Th.tr,Tr.s,Trs.s,Trs.ft,tf],by rw[AV,BS,e2];simp only[Th.d];rfl⟩
 ·obtain⟨a,rfl⟩:∃a,xs=[a]:=by
   match xs,m1 hm with
   |[a],_=>exact⟨a,rfl⟩
  obtain⟨t,e1,e2⟩:=hv a ∎;exact⟨.r t,by simp[e9,e1,Th.tr,Tr.s,Trs.s,Trs.ft,tf],by rw[AV,BS,e2];simp only[Th.d];rfl⟩
 ·obtain⟨a,b,rfl⟩:∃a b,xs=[a,b]:=by
   match xs,m1 hm with
   |[a,b],_=>exact⟨a,b,rfl⟩
  obtain⟨t,e1,e2⟩:=hv a ∎;obtain⟨u,e3,e4⟩:=hv b ∎;have h:=hsp (Ae 2);simp only[tf,AT,Ad,or_false]at h;subst h;exact⟨.p t u,by simp[e9,e1,e3,Th.tr,Tr.s,two,Trs.s,Trs.ft,tf],by rw[AV,AV,BS,e2,e4];simp only[Th.d];rfl⟩
 ·obtain⟨ts,h1,h2⟩:=a84 xs hv;have hj:e9 [sp] (xs.map Fl)=e9 [44] (xs.map Fl):=by
   match xs,ne with
   |[a],_=>rfl
   |a::b::l,_=>
    have h:=hsp ∎;simp only[tf,AT,Ad,or_false]at h;rw[h]
  refine⟨.w (Ths.of ts),?_,?_⟩
  ·rw[<-ao2,ab9,hj,h1];rfl
  ·simp only[Th.d,ab6,ab9,h2];rfl
section
variable (T:PRt P G) (hx:G.rs=AC) (hi:G.cls "!ix"≠[]) {n:Nat} {W:List Nat} 
include T hx hi
def b42:BX P G (n+3) "begin_thing" VTh NTh:=by
 intro st r W p Q hr hw hok hp qL qN;refine d4 T.bt rfl [AA (.ref r),AE] rfl ?_;unfold A0;have hw':W.length<=1000000:=by lia
 ∎;refine⟨r,"Reader",_,rfl,hr,rfl,by rw[T.sg];rfl,y6 T.toPRd hr hw' hp ?_⟩;generalize hz:tx ((W.drop p).take 1)=z;have pz:D.pure (.str z)=AC:=by rw[<-hz];exact k9 λc hc=>hok c (BL (Bg hc))
 have bg:∀(f:Fr)(c:Nat)(Q':DK),NTh f [c]->tx [c]=z->(∀v st,Q v st->Q' v st)->∀fa,(b0 st r (.ins "Reader" (rdF W (p+1)))) fa=AE->(C3 P G (n+2)).2.1 (d0 "Begun" "__init__") [.ref fa,f.front,f.many,.str (tx f.btw),.str (tx f.en)] (b0 (b0 st r (.ins "Reader" (rdF W (p+1)))) fa (.ins "Begun" [])) λv st2=>v=.non/\Q' (.ref fa) st2:=λf c Q' hN hc hQ=>by
  obtain⟨hd,hl⟩:=C4 (c:=c) (by rw[hz,hc]);exact z4 T.toPRd f b7 λst' fa pa n1 n2 hr' hb K=>hQ _ _ (qN st' fa pa f [c] (p+1) hN hd (Bx _) hl (v3 hr n1) (v3 hr n2) hr' hb (Kp.trans (Kp.refl.put ∎) (K.more ∎)))
 ∎;refine j9 pz (d8 ".") ⟨_,rfl,?_⟩
 by_cases e1:z=AD "."
 ·rw[decide_eq_true e1,if_pos rfl];∎;obtain⟨hd,hl⟩:=C4 (c:=46) (by rw[hz,e1];decide);exact b8 (qL _ [46] _ (p+1) ⟨.u,rfl,rfl⟩ hd (Bx _) hl b7 (Kp.refl.put ∎))
 rw[decide_eq_false e1,if_neg ∅];∎;refine j9 pz (d8 "<") ⟨_,rfl,?_⟩
 by_cases e2:z=AD "<"
 ·rw[decide_eq_true e2,if_pos rfl];∎;exact⟨u7 T.toPRd (n:=n+1),bg (tf "l" (.int 1) [] []) 60 _ (.inl ⟨rfl,rfl⟩) (by rw[e2];decide) λv st h=>b8 h⟩
 rw[decide_eq_false e2,if_neg ∅];∎;refine j9 pz (d8 ">") ⟨_,rfl,?_⟩
 by_cases e3:z=AD ">"
 ·rw[decide_eq_true e3,if_pos rfl];∎;exact⟨u7 T.toPRd (n:=n+1),bg (tf "r" (.int 1) [] []) 62 _ (.inr (.inl ⟨rfl,rfl⟩)) (by rw[e3];decide) λv st h=>b8 h⟩
 rw[decide_eq_false e3,if_neg ∅];∎;refine j9 pz (d8 "(") ⟨_,rfl,?_⟩
 by_cases e4:z=AD "("
 ·rw[decide_eq_true e4,if_pos rfl];∎;exact⟨u7 T.toPRd (n:=n+1),bg (tf "p" (.int 2) [44] [41]) 40 _ (.inr (.inr (.inl ⟨rfl,rfl⟩))) (by rw[e4];decide) λv st h=>b8 h⟩
 rw[decide_eq_false e4,if_neg ∅];have fin:c9 (Zg P G (n+2)) (Ss.cons (S.iff (E.cmp Iz (E.v 1) (E.str (AD "{"))) (Ss.cons (S.ret (E.make (AD "Begun") (Es.cons (E.gc (AD "ROW")) (Es.cons E.non (Es.cons (E.str (AD ",")) (Es.cons (E.str (AD "}")) Es.nil)))))) Ss.nil) Ss.nil) (Ss.cons S.raise Ss.nil)) (e8 Q) [AA (.ref r),AA (.str z)] (b0 st r (.ins "Reader" (rdF W (p+1)))):=by
  ∎;refine j9 pz (d8 "{") ⟨_,rfl,?_⟩
  by_cases e5:z=AD "{"
  ·rw[decide_eq_true e5,if_pos rfl];∎;exact⟨u7 T.toPRd (n:=n+1),_,T.kR,bg (tf "row" .non [44] [125]) 123 _ (.inr (.inr (.inr ⟨rfl,rfl⟩))) (by rw[e5];decide) λv st h=>b8 h⟩
  ·rw[decide_eq_false e5,if_neg ∅];∎;exact⟨hx,hi⟩
 ∎;refine j9 pz (d8 "{") ⟨_,rfl,?_⟩
 by_cases e5:z=AD "{"
 ·rw[decide_eq_true e5,if_pos rfl];obtain⟨hd,hl⟩:=C4 (c:=123) (by rw[hz,e5];decide);refine⟨r,"Reader",_,rfl,b7,rfl,by rw[T.ns];rfl,E3 T.toPRd b7 hw' hl ?_⟩;refine j9 (k9 λc hc=>hok c (BL (Bg hc))) (d8 "}") ⟨_,rfl,?_⟩
  by_cases e6:tx ((W.drop (p+1)).take 1)=AD "}"
  ·rw[decide_eq_true e6,if_pos rfl];obtain⟨hd1,hl1⟩:=C4 (c:=125) (by rw[e6];decide);∎;refine⟨r,"Reader",_,rfl,b7,rfl,by rw[T.mb];rfl,U3 T.toPRd b7 hw' hl (s:=[125]) ∅ (d8 "}") ⟨_,hd1.symm⟩ ?_⟩;∎;exact b8 (qL _ [123,125] _ (p+1+1) ⟨.w .nil,rfl,by simp only[Th.d,Ths.ds]⟩ (by rw[hd,hd1];rfl) ⋯ hl1 b7 ((Kp.refl.put ∎).put ∎))
  ·rw[decide_eq_false e6,if_neg ∅];exact fin
 ·rw[decide_eq_false e5,if_neg ∅];exact fin
def bx3(hw:W.length<=60000)(hok:∀c∈W,c<1114112)(q:∀st'(t:Th),W=t.tr.s->Kp [] st st'->Q t.d st'):sem P G (n+6) "read_thing" [.str (tx W)] st Q:=by
 refine d4 T.rt rfl [AA (.str (tx W))] rfl ?_;unfold T5;∎;exact⟨by rw[T.rw'];rfl,by rw[T.bt];rfl,af5 T.toPRd hx hi (by rw[T.bt];rfl) vnT (b42 T hx hi) hw hok λst' v⟨t,e1,e2⟩K=>b8 (e2▸q st' t e1 K)⟩
end
structure PWp(P:d6)(G:Gs):Prop extends PWk P G,PRp P G where
 ls:P "_law_shown"=AA M0
 li:P "_law_inner"=AA Y7
abbrev Pg.dl:Pg->List D
 |.name n=>[.str "name",.int n]
 |.star=>[.str "star"]
 |.pair t u=>[.str "pair",t.d,u.d]
 |.first t=>[.str "first",t.d]
 |.second t=>[.str "second",t.d]
 |.left b t=>[.str "left",b.d,t.d]
 |.right a t=>[.str "right",a.d,t.d]
 |.case t u v=>[.str "case",t.d,u.d,v.d]
 |.way a t=>[.str "way",a.d,t.d]
 |.give t u=>[.str "give",t.d,u.d]
 |.lets t u=>[.str "let",t.d,u.d]
 |.never k t=>[.str "never",k.d,t.d]
def bk7(p:Pg):p.d=.tup p.dl:=by cases p<;>rfl
def t35:tx [35]=AD "#":=by decide
def t44:tx [44]=AD ",":=by decide
def t46:tx [46]=AD ".":=by decide
def t32:tx [32]=AD " ":=by decide
def t93:tx [93]=AD "]":=by decide
abbrev Ss.tl':Ss->Ss
 |.nil=>.nil
 |.cons _ r=>r
abbrev Pg.nm(p:Pg):Prop:=match p with
 |.name i=>i<10000
 |.star=>True
 |.pair t u=>t.nm/\u.nm|.first t=>t.nm|.second t=>t.nm|.left _ t=>t.nm|.right _ t=>t.nm
 |.case t u v=>t.nm/\u.nm/\v.nm|.way _ t=>t.nm|.give t u=>t.nm/\u.nm|.lets t u=>t.nm/\u.nm|.never _ t=>t.nm
def aj5:∀p:Pg,p.kn 6->p.nm->p.tr.s.length<=300*p.parts:=by
 have hk:∀k:Kd,k.nest<=6->k.tr.s.length<=253:=λk h=>by
  have:=ak3 k;have p6:2^k.nest<=2^6:=Ak ∅ h;lia
 intro p
 induction p with
 |name i=>intro _ h;have:=aa3 h;simp only[Pg.tr,Tr.s,AG,Pg.parts];lia
 |star=>intro _ _;decide
 |pair t u it iu=>intro a b;have:=it a.1 b.1;have:=iu a.2 b.2;simp only[Pg.tr,Tr.s,two,Trs.s,Trs.ft,pf,AH,AG,AN,Pg.parts];lia
 |case t u v it iu iv=>intro a b;have:=it a.1 b.1;have:=iu a.2.1 b.2.1;have:=iv a.2.2 b.2.2;have e:(ch "[case ").length=6:=∅;simp only[Pg.tr,Tr.s,two,Trs.s,Trs.ft,ff,AH,AG,AN,Pg.parts,e];lia
 |first t it=>intro a b;have:=it a b;have e:(ch "[fst ").length=5:=∅;simp only[Pg.tr,Tr.s,f7,Trs.s,Trs.ft,ff,AH,AG,AN,Pg.parts,e];lia
 |second t it=>intro a b;have:=it a b;have e:(ch "[snd ").length=5:=∅;simp only[Pg.tr,Tr.s,f7,Trs.s,Trs.ft,ff,AH,AG,AN,Pg.parts,e];lia
 |left k t it=>intro a b;have:=it a.2 b;have:=hk k a.1;have e:(ch "[inl ").length=5:=∅;simp only[Pg.tr,Tr.s,f7,Trs.s,Trs.ft,ff,AH,AG,AN,Pg.parts,e];lia
 |right k t it=>intro a b;have:=it a.2 b;have:=hk k a.1;have e:(ch "[inr ").length=5:=∅;simp only[Pg.tr,Tr.s,f7,Trs.s,Trs.ft,ff,AH,AG,AN,Pg.parts,e];lia
 |way k t it=>intro a b;have:=it a.2 b;have:=hk k a.1;have e:(ch "[way ").length=5:=∅;simp only[Pg.tr,Tr.s,f7,Trs.s,Trs.ft,ff,AH,AG,AN,Pg.parts,e];lia
 |never k t it=>intro a b;have:=it a.2 b;have:=hk k a.1;have e:(ch "[never ").length=7:=∅;simp only[Pg.tr,Tr.s,f7,Trs.s,Trs.ft,ff,AH,AG,AN,Pg.parts,e];lia
 |give t u it iu=>intro a b;have:=it a.1 b.1;have:=iu a.2 b.2;have e:(ch "[give ").length=6:=∅;simp only[Pg.tr,Tr.s,two,Trs.s,Trs.ft,ff,AH,AG,AN,Pg.parts,e];lia
 |lets t u it iu=>intro a b;have:=it a.1 b.1;have:=iu a.2 b.2;have e:(ch "[let ").length=5:=∅;simp only[Pg.tr,Tr.s,two,Trs.s,Trs.ft,ff,AH,AG,AN,Pg.parts,e];lia
def c26:∀p:Pg,p.tr.n=p.parts:=by
 intro p
 induction p with
 |name|star=>rfl
 |pair t u it iu|give t u it iu|lets t u it iu=>simp only[Pg.tr,Tr.n,two,Trs.n,Pg.parts,it,iu];lia
 |case t u v it iu iv=>simp only[Pg.tr,Tr.n,two,Trs.n,Pg.parts,it,iu,iv];lia
 |first t it|second t it|left k t it|right k t it|way k t it|never k t it=>simp only[Pg.tr,Tr.n,f7,Trs.n,Pg.parts,it];lia
def a69:∀p:Pg,∀c∈p.tr.s,c<1114112:=by
 have hc:∀w∈["[fst ","[snd ","[inl ","[inr ","[case ","[way ","[give ","[let ","[never "],∀c∈ch w,c<1114112:=by decide
 intro p
 induction p with
 |name i=>
  intro c h;simp only[Pg.tr,Tr.s,AT]at h
  rcases h with rfl|h
  ·decide
  ·have:=U9 h;lia
 |star=>intro c h;simp[Pg.tr,Tr.s]at h;lia
 |pair t u it iu=>intro c h;simp only[Pg.tr,Tr.s,two,Trs.s,Trs.ft,pf,Au,AT,Ad,or_false]at h;rcases h with rfl|(h|rfl|h)|rfl<;>first|decide|exact it c h|exact iu c h
 |first t it=>
  intro c h;simp only[Pg.tr,Tr.s,f7,Trs.s,Trs.ft,ff,Au,AT,Ad,or_false]at h
  rcases h with h|h|rfl
  ·exact hc "[fst " ∅ c h
  ·exact it c h
  ·exact∅
 |second t it=>
  intro c h;simp only[Pg.tr,Tr.s,f7,Trs.s,Trs.ft,ff,Au,AT,Ad,or_false]at h
  rcases h with h|h|rfl
  ·exact hc "[snd " ∅ c h
  ·exact it c h
  ·exact∅
 |left k t it=>
  intro c h;simp only[Pg.tr,Tr.s,f7,Trs.s,Trs.ft,ff,Au,AT,Ad,or_false]at h
  rcases h with(h|h|rfl)|h|rfl
  ·exact hc "[inl " ∅ c h
  ·exact P6 k c h
  ·exact∅
  ·exact it c h
  ·exact∅
 |right k t it=>
  intro c h;simp only[Pg.tr,Tr.s,f7,Trs.s,Trs.ft,ff,Au,AT,Ad,or_false]at h
  rcases h with(h|h|rfl)|h|rfl
  ·exact hc "[inr " ∅ c h
  ·exact P6 k c h
  ·exact∅
  ·exact it c h
  ·exact∅
 |way k t it=>
  intro c h;simp only[Pg.tr,Tr.s,f7,Trs.s,Trs.ft,ff,Au,AT,Ad,or_false]at h
  rcases h with(h|h|rfl)|h|rfl
  ·exact hc "[way " ∅ c h
  ·exact P6 k c h
  ·exact∅
  ·exact it c h
  ·exact∅
 |never k t it=>
  intro c h;simp only[Pg.tr,Tr.s,f7,Trs.s,Trs.ft,ff,Au,AT,Ad,or_false]at h
  rcases h with(h|h|rfl)|h|rfl
  ·exact hc "[never " ∅ c h
  ·exact P6 k c h
  ·exact∅
  ·exact it c h
  ·exact∅
 |give t u it iu=>
  intro c h;simp only[Pg.tr,Tr.s,two,Trs.s,Trs.ft,ff,Au,AT,Ad,or_false]at h
  rcases h with h|(h|rfl|h)|rfl
  ·exact hc "[give " ∅ c h
  ·exact it c h
  ·exact∅
  ·exact iu c h
  ·exact∅
 |lets t u it iu=>
  intro c h;simp only[Pg.tr,Tr.s,two,Trs.s,Trs.ft,ff,Au,AT,Ad,or_false]at h
  rcases h with h|(h|rfl|h)|rfl
  ·exact hc "[let " ∅ c h
  ·exact it c h
  ·exact∅
  ·exact iu c h
  ·exact∅
 |case t u v it iu iv=>
  intro c h;simp only[Pg.tr,Tr.s,two,Trs.s,Trs.ft,ff,Au,AT,Ad,or_false]at h
  rcases h with h|(h|rfl|h|rfl|h)|rfl
  ·exact hc "[case " ∅ c h
  ·exact it c h
  ·exact∅
  ·exact iu c h
  ·exact∅
  ·exact iv c h
  ·exact∅
def b86(hj:0<j)(h1:48<=c)(h2:c<=57):dg (10*j+(c-48))=dg j++[c]:=by
 unfold dg;rw[HM ∅ ⋯,BY];have e1:(10*j+(c-48)) / 10=j:=by lia
 have e2:(10*j+(c-48)) % 10=c-48:=by lia
 rw[e1,e2];have key:∀d<10,(HC d).toNat=48+d:=by decide
 simp only[AV,BS,key (c-48) ⋯];rw[show 48+(c-48)=c by lia]
def cp1:∀c,48<=c->c<=57->dg (c-48)=[c]:=by
 have key:∀d<10,dg d=[48+d]:=by decide
 intro c h1 h2;rw[key (c-48) ⋯,show 48+(c-48)=c by lia]
def cp3:∀(m:Nat)(f:List Nat),f.length=m->f≠[]->(∀c∈f,48<=c/\c<=57)->(∀l,f≠48::l)->∃i,0<i/\f=dg i:=by
 intro m
 induction m with
 |zero=>intro f h ne;exact absurd (Be h) ne
 |succ m ih=>
  intro f hl ne hd h0
  rcases List.eq_nil_or_concat f with z|⟨g,c,e⟩
  ·exact absurd z ne
  ·rw[List.concat_eq_append]at e;subst e;have hc:=hd c ∎;cases g with
   |nil=>
    have:c≠48:=λz=>h0 [] (by rw[z];rfl);exact⟨c-48,⋯,(cp1 c hc.1 hc.2).symm⟩
   |cons a g=>
    obtain⟨j,hj,e⟩:=ih (a::g) (by simpa using hl) nofun (λc h=>hd c (DN _ h)) λl z=>h0 (l++[c]) (by rw[z];rfl);exact⟨10*j+(c-48),⋯,by rw[b86 hj hc.1 hc.2,e]⟩
def cv2{f:List Nat}(ne:f≠[])(hd:∀c∈f,48<=c/\c<=57)(hl:f.length<=4)(h0:∀l,f=48::l->l=[]):∃i<10000,f=dg i:=by
 by_cases h:f=[48]
 ·exact⟨0,∅,by rw[h];decide⟩
 ·obtain⟨i,_,e⟩:=cp3 _ f rfl ne hd λl z=>h (by rw[z,h0 l z]);refine⟨i,?_,e⟩;have:(HZ 10 i).length<=4:=by
   have h2:=congrArg Aq e;unfold dg at h2;rw[Am]at h2;lia
  exact(Gr ∅ ∅).1 this
abbrev W3:List (String×String×Bool×Nat):=[("fst","first",AF,1),("snd","second",AF,1),("inl","left",AC,1),("inr","right",AC,1),("case","case",AF,3),("way","way",AC,1),("give","give",AF,2),("let","let",AF,2),("never","never",AC,1)]
abbrev VP(s:List Nat)(v:D):Prop:=∃g:Pg,g.nm/\s=g.tr.s/\v=g.d
abbrev NP(f:Fr)(op:List Nat):Prop:=(f=pf/\op=[40])\/∃e∈W3,∃ko:Option Kd,ko.isSome=e.2.2.1/\f=ff e.2.1 (koX ko) e.2.2.2/\op=91::(ch e.1++32::koT ko [])
def pfC:FrC pf:=⟨⟨λ_=>rfl,λ_=>rfl,rfl,∅⟩,.inl ⟨2,rfl,∅⟩,.inl ⟨44,rfl⟩,∅,∅,nofun⟩
def a89(ko:Option Kd):D.pures (koX ko)=AC/\(koX ko).length<=10:=by
 cases ko with
 |none=>exact⟨rfl,∅⟩
 |some k=>exact⟨by show D.pures [k.d]=AC;rw[i8,t7];rfl,Bo rfl⟩
def ffC{w:String}(ko:Option Kd)(h1:w≠"row")(h2:w≠"kind")(hm:1<=m):FrC (ff w (koX ko) m):=⟨⟨λz=>absurd z h1,λz=>absurd z h2,(a89 ko).1,(a89 ko).2⟩,.inl ⟨m,rfl,hm⟩,.inl ⟨32,rfl⟩,by intro c hc;simp[ff]at hc;lia,by simp[ff],λz=>absurd z h2⟩
def S7{α:Type}{l:List α}(h:l.length=1):∃a,l=[a]:=by
 match l,h with
 |[a],_=>exact⟨a,rfl⟩
def ao1{α:Type}{l:List α}(h:l.length=2):∃a b,l=[a,b]:=by
 match l,h with
 |[a,b],_=>exact⟨a,b,rfl⟩
def cy0{α:Type}{l:List α}(h:l.length=3):∃a b c,l=[a,b,c]:=by
 match l,h with
 |[a,b,c],_=>exact⟨a,b,c,rfl⟩
def vnP:VN VP NP:=by
 have fo:∀e∈W3,e.2.1≠"row"/\e.2.1≠"kind"/\1<=e.2.2.2:=by decide
 have many:∀{w:String}{ex:List D}{m:Nat}{xs:List (List Nat×D)},((ff w ex m).many=.int xs.length\/(ff w ex m).many=.non)->xs.length=m:=λ{w ex m xs}h=>by
  rcases h with h|h
  ·injection h with h;lia
  ·cases h
 refine⟨λf op h=>?_,λs v⟨g,_,_,e⟩=>by rw[e];cases g<;>exact⟨_,rfl⟩,?_⟩
 ·rcases h with⟨rfl,_⟩|⟨e,he,ko,_,rfl,_⟩
  ·exact pfC
  ·exact ffC ko (fo e he).1 (fo e he).2.1 (fo e he).2.2
 rintro f op h sp xs ne hv hm hsp
 rcases h with⟨rfl,rfl⟩|⟨e,he,ko,hk,rfl,rfl⟩
 ·have hl:xs.length=2:=by
   rcases hm with h|h
   ·injection h with h;lia
   ·cases h
  obtain⟨a,b,rfl⟩:=ao1 hl;obtain⟨ga,na,ea,va⟩:=hv a ∎;obtain⟨gb,nb,eb,vb⟩:=hv b ∎;have h:=hsp (Ae 2);simp only[pf,AT,Ad,or_false]at h;subst h;simp only[AV,BS,e9,ea,eb,va,vb];exact⟨.pair ga gb,⟨na,nb⟩,by simp[Pg.tr,Tr.s,two,Trs.s,Trs.ft,pf],rfl⟩
 have hl:=many hm;have s32:2<=xs.length->sp=32:=λh=>by simpa[ff]using hsp h
 have o5:∀w∈["fst","snd","inl","inr","case","way","give","let","never"],ch ("["++w++" ")=91::(ch w++[32]):=by decide
 simp only[W3,AT,Ad,or_false]at he;have kN:∀{ko:Option Kd},ko.isSome=AF->ko=AE:=λ{ko}h=>by cases ko with|none=>rfl|some=>cases h
 have kS:∀{ko:Option Kd},ko.isSome=AC->∃k,ko=AA k:=λ{ko}h=>by cases ko with|none=>cases h|some k=>exact⟨k,rfl⟩
 rcases he with rfl|rfl|rfl|rfl|rfl|rfl|rfl|rfl|rfl
 ·obtain rfl:=kN hk;obtain⟨a,rfl⟩:=S7 hl;obtain⟨ga,na,ea,va⟩:=hv a ∎;have o:=o5 "fst" ∅;exact⟨.first ga,na,by simp[e9,ea,Pg.tr,Tr.s,f7,Trs.s,Trs.ft,ff,koT]at o ⊢;rw[o];simp,by rw[AV,BS,va];rfl⟩
 ·obtain rfl:=kN hk;obtain⟨a,rfl⟩:=S7 hl;obtain⟨ga,na,ea,va⟩:=hv a ∎;have o:=o5 "snd" ∅;exact⟨.second ga,na,by simp[e9,ea,Pg.tr,Tr.s,f7,Trs.s,Trs.ft,ff,koT]at o ⊢;rw[o];simp,by rw[AV,BS,va];rfl⟩
 ·obtain⟨k,rfl⟩:=kS hk;obtain⟨a,rfl⟩:=S7 hl;obtain⟨ga,na,ea,va⟩:=hv a ∎;have o:=o5 "inl" ∅;exact⟨.left k ga,na,by simp[e9,ea,Pg.tr,Tr.s,f7,Trs.s,Trs.ft,ff,koT]at o ⊢;rw[o];simp,by rw[AV,BS,va];rfl⟩
 ·obtain⟨k,rfl⟩:=kS hk;obtain⟨a,rfl⟩:=S7 hl;obtain⟨ga,na,ea,va⟩:=hv a ∎;have o:=o5 "inr" ∅;exact⟨.right k ga,na,by simp[e9,ea,Pg.tr,Tr.s,f7,Trs.s,Trs.ft,ff,koT]at o ⊢;rw[o];simp,by rw[AV,BS,va];rfl⟩
 ·obtain rfl:=kN hk;obtain⟨a,b,c,rfl⟩:=cy0 hl;obtain⟨ga,na,ea,va⟩:=hv a ∎;obtain⟨gb,nb,eb,vb⟩:=hv b ∎;obtain⟨gc,nc,ec,vc⟩:=hv c ∎;obtain rfl:=s32 (Bo rfl);have o:=o5 "case" ∅;exact⟨.case ga gb gc,⟨na,nb,nc⟩,by simp[e9,ea,eb,ec,Pg.tr,Tr.s,two,Trs.s,Trs.ft,ff,koT]at o ⊢;rw[o];simp,by rw[AV,AV,AV,BS,va,vb,vc];rfl⟩
 ·obtain⟨k,rfl⟩:=kS hk;obtain⟨a,rfl⟩:=S7 hl;obtain⟨ga,na,ea,va⟩:=hv a ∎;have o:=o5 "way" ∅;exact⟨.way k ga,na,by simp[e9,ea,Pg.tr,Tr.s,f7,Trs.s,Trs.ft,ff,koT]at o ⊢;rw[o];simp,by rw[AV,BS,va];rfl⟩
 ·obtain rfl:=kN hk;obtain⟨a,b,rfl⟩:=ao1 hl;obtain⟨ga,na,ea,va⟩:=hv a ∎;obtain⟨gb,nb,eb,vb⟩:=hv b ∎;obtain rfl:=s32 (Ae 2);have o:=o5 "give" ∅;exact⟨.give ga gb,⟨na,nb⟩,by simp[e9,ea,eb,Pg.tr,Tr.s,two,Trs.s,Trs.ft,ff,koT]at o ⊢;rw[o];simp,by rw[AV,AV,BS,va,vb];rfl⟩
 ·obtain rfl:=kN hk;obtain⟨a,b,rfl⟩:=ao1 hl;obtain⟨ga,na,ea,va⟩:=hv a ∎;obtain⟨gb,nb,eb,vb⟩:=hv b ∎;obtain rfl:=s32 (Ae 2);have o:=o5 "let" ∅;exact⟨.lets ga gb,⟨na,nb⟩,by simp[e9,ea,eb,Pg.tr,Tr.s,two,Trs.s,Trs.ft,ff,koT]at o ⊢;rw[o];simp,by rw[AV,AV,BS,va,vb];rfl⟩
 ·obtain⟨k,rfl⟩:=kS hk;obtain⟨a,rfl⟩:=S7 hl;obtain⟨ga,na,ea,va⟩:=hv a ∎;have o:=o5 "never" ∅;exact⟨.never k ga,na,by simp[e9,ea,Pg.tr,Tr.s,f7,Trs.s,Trs.ft,ff,koT]at o ⊢;rw[o];simp,by rw[AV,BS,va];rfl⟩
def ar2{cs:List Nat}:∃f t,l=f++t/\(∀c∈f,c∈cs)/\∀c∈t.head?,c∉cs:=by
 induction l with
 |nil=>exact⟨[],[],rfl,nofun,nofun⟩
 |cons a l ih=>
  by_cases h:a∈cs
  ·obtain⟨f,t,e,h1,h2⟩:=ih;exact⟨a::f,t,by rw[e];rfl,λc hc=>(AT.1 hc).elim (λz=>z▸h) (h1 c),h2⟩
  ·exact⟨[],a::l,rfl,nofun,λc hc=>by cases hc;exact h⟩
section
variable (T:PRp P G) (hx:G.rs=AC) (hi:G.cls "!ix"≠[]) {n:Nat} {W:List Nat} 
include T hx hi
def b68(hr:RdA st r W p)(hw:W.length<=60000)(hok:∀c∈W,c<1114112)(hp:p<=W.length)(q:∀st'(i p':Nat),i<10000->W.drop p=dg i++W.drop p'->p<=p'->p'<=W.length->RdA st' r W p'->Kp [r] st st'->Q (.int i) st'):sem P G (n+3) "read_number" [.ref r] st Q:=by
 refine d4 T.rn rfl [AA (.ref r),AE] rfl ?_;unfold Y2;∎;refine⟨r,"Reader",_,rfl,hr,rfl,by rw[T.so];rfl,_,T.kF,?_⟩;obtain⟨f,t,hd,hf,ht⟩:=ar2 (l:=W.drop p) (cs:=[48,49,50,51,52,53,54,55,56,57]);refine Z4 T.toPRd hr ⋯ hp hok (cs:=[48,49,50,51,52,53,54,55,56,57]) ∅ hd hf ht λst2 hr2 K2=>?_;have hfd:∀c∈f,48<=c/\c<=57:=λc hc=>by
  have key:∀x∈[48,49,50,51,52,53,54,55,56,57],48<=x/\x<=57:=by decide
  exact key c (hf c hc)
 have hfl:p+f.length<=W.length:=by
  have:=congrArg Aq hd;simp only[AH,Ap]at this;lia
 have hpu:∀c∈f,c<1114112:=λc hc=>by have:=hfd c hc;lia
 have hsz:(tx f).length<=sizeLine:=by rw[i5];exact Ag (show _<=60000 by lia) ∅
 have fin:f≠[]->f.length<=4->(∀l,f=48::l->l=[])->c9 (Zg P G (n+2)) (Ss.cons (S.ret (E.v 1).sint) Ss.nil) (e8 Q) [AA (.ref r),AA (.str (tx f))] st2:=λne h4 h0=>by
  obtain⟨i,hi,e⟩:=cv2 ne hfd h4 h0;subst e;∎;exact⟨(i:Int),by rw[al2],⋯,⋯,b8 (q st2 i _ hi (by rw[hd,<-Bb,hd,Ds rfl]) (Gc _ _) hfl hr2 K2)⟩
 have e48:tx [48]=AD "0":=by decide
 ∎;refine j9 (k9 hpu) (d8 "") ⟨_,rfl,?_⟩;cases f with
 |nil=>
  rw[t_e,decide_eq_true rfl,if_pos rfl];∎;exact⟨hx,hi⟩
 |cons c0 l0=>
 rw[decide_eq_false (λz=>by rw[<-t_e]at z;exact nomatch y9 z),if_neg ∅];refine⟨_,rfl,hsz,?_⟩;rw[i5]
 by_cases h4:(c0::l0).length<=4
 ·rw[if_neg ⋯];refine⟨c0,hsz,by rw[L5];simp[tx],j9 (k9 (l:=[c0]) λc hc=>by simp at hc;rw[hc];exact hpu c0 ∎) (d8 "0") ⟨_,rfl,?_⟩⟩
  by_cases h48:c0=48
  ·subst h48;rw[show(⟨#[48]⟩:Str)=AD "0" by decide,decide_eq_true rfl,if_pos rfl];refine W1 (k9 hpu) (d8 "0") ⟨_,rfl,?_⟩
   by_cases hl:l0=[]
   ·subst hl;rw[e48,decide_eq_true rfl,if_neg ∅,<-e48];exact fin nofun h4 λl z=>by cases z;rfl
   ·rw[decide_eq_false (λz=>by rw[<-e48]at z;exact hl (by simpa using y9 z)),if_pos ∅];∎;exact⟨hx,hi⟩
  ·rw[decide_eq_false (λz=>by rw[<-e48]at z;exact h48 (by simpa using y9 (a:=[c0]) z)),if_neg ∅];exact fin nofun h4 λl z=>by cases z;exact absurd rfl h48
 ·rw[if_pos ⋯];∎;exact⟨hx,hi⟩
omit hx hi in
theorem cf3{w:List Nat}{d:D}(h:g8 (G.tab "FORMS") (tx w)=AA d):∃e∈W3,w=ch e.1/\d=.tup [.str (AD e.2.1),.bl e.2.2.1,.int e.2.2.2]:=by
 rw[T.fo]at h;have key:∀{s:String},AD s=tx w->w=ch s:=λ{s}e=>by rw[R9 (AD s)]at e;exact(y9 e).symm
 simp only[g8]at h
 repeat' split at h
 all_goals first|cases h|skip
 all_goals rename_i e
 ·exact⟨("fst","first",AF,1),∅,key e,rfl⟩
 ·exact⟨("snd","second",AF,1),∅,key e,rfl⟩
 ·exact⟨("inl","left",AC,1),∅,key e,rfl⟩
 ·exact⟨("inr","right",AC,1),∅,key e,rfl⟩
 ·exact⟨("case","case",AF,3),∅,key e,rfl⟩
 ·exact⟨("way","way",AC,1),∅,key e,rfl⟩
 ·exact⟨("give","give",AF,2),∅,key e,rfl⟩
 ·exact⟨("let","let",AF,2),∅,key e,rfl⟩
 ·exact⟨("never","never",AC,1),∅,key e,rfl⟩
def b02(hr:RdA st r W p)(hw:W.length<=60000)(hok:∀c∈W,c<1114112)(hp:p<=W.length)
  (q:∀st' fa pa p',∀e∈W3,∀ko:Option Kd,ko.isSome=e.2.2.1->W.drop p=ch e.1++32::koT ko (W.drop p')->p<=p'->p'<=W.length->st fa=AE->st pa=AE->RdA st' r W p'->BgA st' fa pa (ff e.2.1 (koX ko) e.2.2.2) "" []->Kp [r] st st'->Q (.ref fa) st'):sem P G (n+5) "begin_form" [.ref r] st Q:=by
 refine d4 T.bf rfl [AA (.ref r),AE,AE,AE] rfl ?_;unfold Y4;have tc:∀s:String,tx (ch s)=AD s:=λs=>(R9 _).symm;have hw':W.length<=1000000:=by lia
 ∎;refine⟨r,"Reader",_,rfl,hr,rfl,by rw[T.so];rfl,_,T.kL,?_⟩;obtain⟨f,t,hd,hf,ht⟩:=ar2 (l:=W.drop p) (cs:=ch "abcdefghijklmnopqrstuvwxyz");refine Z4 T.toPRd hr hw' hp hok (cs:=ch "abcdefghijklmnopqrstuvwxyz") (tc _).symm hd hf ht λst2 hr2 K2=>?_;have hp2:p+f.length<=W.length:=by
  have:=congrArg Aq hd;simp only[AH,Ap]at this;lia
 have hd2:W.drop (p+f.length)=t:=by rw[<-Bb,hd];exact Ds rfl
 ∎;refine⟨by rw[T.fo];nofun,_,rfl,?_⟩;cases hlk:g8 (G.tab (AD "FORMS")) (tx f)with
 |none=>
  rw[if_pos ∎];∎;exact⟨hx,hi⟩
 |some d=>
 rw[if_neg ∎];obtain⟨e,he,rfl,rfl⟩:=cf3 T hlk;∎;refine⟨r,"Reader",_,rfl,hr2,rfl,by rw[T.mb];rfl,ag8 T.toPRd hx hi hr2 hw' hp2 hok (s:=[32]) ∅ ∅ ∅ λhpre=>?_⟩;obtain⟨t',ht'⟩:=hpre;have hr3:RdA (b0 st2 r (.ins "Reader" (rdF W (p+(ch e.1).length+1)))) r W (p+(ch e.1).length+1):=b7;have K3:Kp [r] st (b0 st2 r (.ins "Reader" (rdF W (p+(ch e.1).length+1)))):=K2.put ∎;have hd3:W.drop (p+(ch e.1).length+1)=t':=by rw[<-Bb,<-ht'];rfl
 have hp3:p+(ch e.1).length+1<=W.length:=by
  have:=congrArg Aq ht';simp only[AG,Ap,AH,AN]at this;lia
 have hd5:W.drop p=ch e.1++32::W.drop (p+(ch e.1).length+1):=by rw[hd,hd3,<-hd2,<-ht'];rfl
 show c9 _ _ _ _ (b0 st2 r (.ins "Reader" (rdF W (p+(ch e.1).length+1))));generalize b0 st2 r (.ins "Reader" (rdF W (p+(ch e.1).length+1)))=st3 at hr3 K3;have e32:(D.str (AD " "))=.str (tx [32]):=congrArg D.str ∅;have e93:(D.str (AD "]"))=.str (tx [93]):=congrArg D.str ∅;∎;refine⟨by rw[T.fo];nofun,_,hlk,?_⟩;(iterate 2 ∎);cases hb:e.2.2.1 with
 |false=>
  rw[if_neg ∅];∎;refine⟨u7 T.toPRd (n:=n+3),?_⟩;rw[e32,e93];exact z4 T.toPRd (ff e.2.1 [] e.2.2.2) hr3 λst' fa pa n1 n2 hr' hb' K=>b8 (q st' fa pa _ e he AE hb.symm hd5 ⋯ hp3 (nOf K3 n1 hr3) (nOf K3 n2 hr3) hr' hb' (K3.trans (K.more ∎)))
 |true=>
  rw[if_pos rfl];∎;refine⟨by rw[T.ro];rfl,by rw[T.bk];rfl,au8 T.toPRd hx hi (by rw[T.bk];rfl) vnK (a42 T.toPRk hx hi) hr3 hw hok hp3 λst4 s v p4⟨k,ek,ev⟩hd4 lt4 le4 hr4 K4=>?_⟩;subst ek ev;∎;refine⟨r,"Reader",_,rfl,hr4,rfl,by rw[T.mb];rfl,ag8 T.toPRd hx hi hr4 hw' le4 hok (s:=[32]) ∅ ∅ ∅ λhpre=>?_⟩;obtain⟨t5,ht5⟩:=hpre;have hr5:RdA (b0 st4 r (.ins "Reader" (rdF W (p4+1)))) r W (p4+1):=b7;have K5:Kp [r] st (b0 st4 r (.ins "Reader" (rdF W (p4+1)))):=(K3.trans K4).put ∎;have hp5:p4+1<=W.length:=by
   have:=congrArg Aq ht5;simp only[AG,Ap,AH,AN]at this;lia
  have e5:W.drop (p4+1)=t5:=by rw[<-Bb,<-ht5];rfl
  show c9 _ _ _ _ (b0 st4 r (.ins "Reader" (rdF W (p4+1))));generalize b0 st4 r (.ins "Reader" (rdF W (p4+1)))=st5 at hr5 K5;∎;refine⟨u7 T.toPRd (n:=n+3),?_⟩;rw[e32,e93];exact z4 T.toPRd (ff e.2.1 [k.d] e.2.2.2) hr5 λst' fa pa n1 n2 hr' hb' K=>b8 (q st' fa pa _ e he (AA k) hb.symm (by rw[hd5,hd4,<-ht5,e5];rfl) ⋯ hp5 (nOf K5 n1 hr5) (nOf K5 n2 hr5) hr' hb' (K5.trans (K.more ∎)))
def cb4:BX P G (n+6) "begin_program" VP NP:=by
 intro st r W p Q hr hw hok hp qL qN;refine d4 T.bp rfl [AA (.ref r),AE] rfl ?_;unfold L8;∎;refine⟨r,"Reader",_,rfl,hr,rfl,by rw[T.sg];rfl,y6 T.toPRd hr ⋯ hp ?_⟩;generalize hz:tx ((W.drop p).take 1)=z;have pz:D.pure (.str z)=AC:=by rw[<-hz];exact k9 λc hc=>hok c (BL (Bg hc))
 ∎;refine j9 pz (d8 ".") ⟨_,rfl,?_⟩
 by_cases e1:z=AD "."
 ·rw[decide_eq_true e1,if_pos rfl];∎;obtain⟨hd,hl⟩:=C4 (c:=46) (by rw[hz,e1];decide);exact b8 (qL _ [46] _ (p+1) ⟨.star,trivial,rfl,rfl⟩ hd (Bx _) hl b7 (Kp.refl.put ∎))
 rw[decide_eq_false e1,if_neg ∅];∎;refine j9 pz (d8 "#") ⟨_,rfl,?_⟩
 by_cases e2:z=AD "#"
 ·rw[decide_eq_true e2,if_pos rfl];∎;obtain⟨hd,hl⟩:=C4 (c:=35) (by rw[hz,e2];decide);exact⟨by rw[T.rn];rfl,b68 T hx hi b7 hw hok hl λst' i p' hi' hd' le le' hr' K=>b8 (qL st' (35::dg i) _ p' ⟨.name i,hi',rfl,rfl⟩ (by rw[hd,hd'];rfl) ⋯ le' hr' (Kp.trans (Kp.refl.put ∎) K))⟩
 rw[decide_eq_false e2,if_neg ∅];∎;refine j9 pz (d8 "(") ⟨_,rfl,?_⟩
 by_cases e3:z=AD "("
 ·rw[decide_eq_true e3,if_pos rfl];obtain⟨hd,hl⟩:=C4 (c:=40) (by rw[hz,e3];decide);∎;exact⟨u7 T.toPRd (n:=n+4),z4 T.toPRd pf b7 λst' fa pa n1 n2 hr' hb K=>b8 (qN st' fa pa pf [40] (p+1) (.inl ⟨rfl,rfl⟩) hd (Bx _) hl (v3 hr n1) (v3 hr n2) hr' hb (Kp.trans (Kp.refl.put ∎) (K.more ∎)))⟩
 rw[decide_eq_false e3,if_neg ∅];∎;refine j9 pz (d8 "[") ⟨_,rfl,?_⟩
 by_cases e4:z=AD "["
 ·rw[decide_eq_true e4,if_pos rfl];obtain⟨hd,hl⟩:=C4 (c:=91) (by rw[hz,e4];decide);∎;have kt:∀(ko:Option Kd)l,koT ko []++l=koT ko l:=λko l=>by cases ko<;>simp[koT]
  exact⟨by rw[T.bf];rfl,b02 T hx hi b7 hw hok hl λst' fa pa p' e he ko hk hd' le le' n1 n2 hr' hb K=>b8 (qN st' fa pa _ _ p' (.inr ⟨e,he,ko,hk,rfl,rfl⟩) (by rw[hd,hd'];simp[kt]) ⋯ le' (v3 hr n1) (v3 hr n2) hr' hb (Kp.trans (Kp.refl.put ∎) K))⟩
 rw[decide_eq_false e4,if_neg ∅];∎;exact⟨hx,hi⟩
def bx1(hw:W.length<=60000)(hok:∀c∈W,c<1114112)(q:∀st'(g:Pg),g.nm->W=g.tr.s->Kp [] st st'->Q g.d st'):sem P G (n+9) "read_program" [.str (tx W)] st Q:=by
 refine d4 T.rp rfl [AA (.str (tx W))] rfl ?_;unfold Y1;∎;exact⟨by rw[T.rw'];rfl,by rw[T.bp];rfl,af5 T.toPRd hx hi (by rw[T.bp];rfl) vnP (cb4 T hx hi) hw hok λst' v⟨g,hn,e1,e2⟩K=>b8 (e2▸q st' g hn e1 K)⟩
end
abbrev wt(c:Nat):Int:=if c=40\/c=91\/c=123 then 1 else if c=41\/c=93\/c=125 then -1 else 0
abbrev bal:List Nat->Int
 |[]=>0
 |c::l=>wt c+bal l
abbrev mx:List Nat->Int
 |[]=>0
 |c::l=>max 0 (wt c+mx l)
theorem M8:∀a b:List Nat,bal (a++b)=bal a+bal b
 |[],b=>by simp[bal]
 |c::a,b=>by rw[AZ,bal,M8 a b,bal];lia
def al3:∀l:List Nat,0<=mx l
 |[]=>GO _
 |c::l=>by rw[mx];lia
theorem Q2:∀a b:List Nat,mx (a++b)=max (mx a) (bal a+mx b)
 |[],b=>by have:=al3 b;simp only[BB,mx,bal];lia
 |c::a,b=>by rw[AZ,mx,Q2 a b,mx,bal];lia
theorem be2:∀l:List Nat,bal l<=mx l
 |[]=>GO _
 |c::l=>by have:=be2 l;rw[mx,bal];lia
theorem bo5:∀{l:List Nat},(∀c∈l,wt c=0)->bal l=0/\mx l=0
 |[],_=>⟨rfl,rfl⟩
 |c::l,h=>by
  have:=bo5 λx hx=>h x (.tail _ hx);rw[bal,mx,h c (.head _),this.1,this.2];exact⟨rfl,rfl⟩
def cu6(c:Nat):-1<=wt c/\wt c<=1:=by unfold wt;split<;>(try split)<;>lia
abbrev BM(l:List Nat)(m:Nat):Prop:=bal l=0/\mx l=m
def b92(h:∀c∈l,wt c=0):BM l 0:=bo5 h
def x0(h:BM l m):BM (l++[]) m:=by rw[Ac];exact h
def an3(hc:wt c=0)(h:BM l m):BM (c::l) m:=by
 unfold BM bal mx;rw[hc,h.1,h.2];exact⟨rfl,⋯⟩
def B6{a b:List Nat}{k:Nat}(ha:BM a m)(hs:wt sp=0)(hb:BM b k):BM (a++sp::b) (max m k):=by
 have h:=an3 hs hb;unfold BM;rw[M8,Q2,ha.1,ha.2,h.1,h.2];exact⟨rfl,⋯⟩
def br2{a:List Nat}(h1:bal op=1)(h2:mx op=(j+1:Nat))(ha:BM a m)(hc:wt c=-1):BM (op++(a++[c])) (1+max j m):=by
 unfold BM;rw[M8,Q2,M8,Q2,h1,h2,ha.1,ha.2,bal,mx,hc,bal,mx];exact⟨rfl,⋯⟩
def C5{a:List Nat}(h1:bal op=1/\mx op=1)(ha:BM a m)(hc:wt c=-1):BM (op++(a++[c])) (1+m):=by
 have:=br2 (j:=0) h1.1 h1.2 ha hc
 rwa [Nat.zero_max]at this
def b40:bal [40]=1/\mx [40]=1:=by decide
def aa4:∀k:Kd,BM k.tr.s k.nest:=by
 intro k
 induction k with
 |non|one=>exact⟨∅,∅⟩
 |eith a b ia ib=>exact C5 b40 (B6 ia rfl (x0 ib)) rfl
 |both a b ia ib=>exact C5 b40 (B6 ia rfl (x0 ib)) rfl
 |way a b ia ib=>exact C5 b40 (B6 ia rfl (x0 ib)) rfl
def F0:∀w∈["[fst ","[snd ","[inl ","[inr ","[case ","[way ","[give ","[let ","[never "],bal (ch w)=1/\mx (ch w)=1:=by decide
def ac0{w:String}{k:Kd}{a:List Nat}(h:bal (ch w)=1/\mx (ch w)=1)(ha:BM a m)(hc:wt c=-1):BM (ch w++(k.tr.s++[32])++(a++[c])) (1+max k.nest m):=by
 have b:BM (k.tr.s++[32]) (max k.nest 0):=B6 (aa4 k) rfl ⟨rfl,rfl⟩;refine br2 ?_ ?_ ha hc
 ·rw[M8,h.1,b.1];rfl
 ·rw[Q2,h.1,h.2,b.2];lia
abbrev Pg.bx:Pg->Nat
 |.name _=>0|.star=>0
 |.pair t u=>1+max t.bx u.bx|.first t=>1+t.bx|.second t=>1+t.bx|.left k t=>1+max k.nest t.bx|.right k t=>1+max k.nest t.bx
 |.case t u v=>1+max t.bx (max u.bx v.bx)|.way k t=>1+max k.nest t.bx|.give t u=>1+max t.bx u.bx|.lets t u=>1+max t.bx u.bx|.never k t=>1+max k.nest t.bx
def ak4:∀g:Pg,BM g.tr.s g.bx:=by
 intro g
 induction g with
 |name i=>
  refine b92 (l:=35::dg i) λc hc=>?_
  rcases AT.1 hc with rfl|hc
  ·decide
  ·have:=U9 hc;unfold wt;rw[if_neg ⋯,if_neg ⋯]
 |star=>exact⟨∅,∅⟩
 |pair t u it iu=>exact C5 b40 (B6 it rfl (x0 iu)) rfl
 |first t it=>exact C5 (F0 "[fst " ∅) (x0 it) rfl
 |second t it=>exact C5 (F0 "[snd " ∅) (x0 it) rfl
 |give t u it iu=>exact C5 (F0 "[give " ∅) (B6 it rfl (x0 iu)) rfl
 |lets t u it iu=>exact C5 (F0 "[let " ∅) (B6 it rfl (x0 iu)) rfl
 |case t u v it iu iv=>exact C5 (F0 "[case " ∅) (B6 it rfl (B6 iu rfl (x0 iv))) rfl
 |left k t it=>exact ac0 (F0 "[inl " ∅) (x0 it) rfl
 |right k t it=>exact ac0 (F0 "[inr " ∅) (x0 it) rfl
 |way k t it=>exact ac0 (F0 "[way " ∅) (x0 it) rfl
 |never k t it=>exact ac0 (F0 "[never " ∅) (x0 it) rfl
def mx2{d:Nat}(h1:a<=c+e)(h2:b<=d+e):1+max a b<=1+max c d+e:=by lia
def mx1(h1:a<=c+e):1+a<=1+c+e:=by lia
def mx3{d:Nat}(h1:a<=c+e)(h2:b<=d+e):max a b<=max c d+e:=by lia
def mk1{k:Nat}(h1:a<=c+e):1+a<=1+max k c+e:=by lia
def mk2{k:Nat}(hk:k<=e)(h1:a<=c+e):1+max k a<=1+c+e:=by lia
def md2(h:1+max a b<=c):a<=c/\b<=c:=by lia
def md1(h:1+a<=c):a<=c:=by lia
def md3{d:Nat}(h:1+max a (max b d)<=c):a<=c/\b<=c/\d<=c:=by lia
def cv1:∀g:Pg,g.hgt<=g.bx+1:=by
 intro g
 induction g with
 |name|star=>exact Ae _
 |pair t u it iu|give t u it iu|lets t u it iu=>exact mx2 it iu
 |first t it|second t it=>exact mx1 it
 |case t u v it iu iv=>exact mx2 it (mx3 iu iv)
 |left k t it|right k t it|way k t it|never k t it=>exact mk1 it
def cn3:∀(g:Pg)(b:Nat),g.bx<=b->g.kn b:=by
 intro g
 induction g with
 |name|star=>intro b _;trivial
 |pair t u it iu|give t u it iu|lets t u it iu=>intro b h;exact⟨it b (md2 h).1,iu b (md2 h).2⟩
 |first t it|second t it=>intro b h;exact it b (md1 h)
 |case t u v it iu iv=>intro b h;exact⟨it b (md3 h).1,iu b (md3 h).2.1,iv b (md3 h).2.2⟩
 |left k t it|right k t it|way k t it|never k t it=>intro b h;exact⟨(md2 h).1,it b (md2 h).2⟩
def cw8:∀(g:Pg),g.kn 6->g.bx<=g.hgt+6:=by
 intro g
 induction g with
 |name|star=>intro _;exact An _
 |pair t u it iu|give t u it iu|lets t u it iu=>intro h;exact mx2 (it h.1) (iu h.2)
 |first t it|second t it=>intro h;exact mx1 (it h)
 |case t u v it iu iv=>intro h;exact mx2 (it h.1) (mx3 (iu h.2.1) (iv h.2.2))
 |left k t it|right k t it|way k t it|never k t it=>intro h;exact mk2 h.1 (it h.2)
abbrev ld:List Nat->Nat
 |[]=>0
 |c::l=>if c=60\/c=62 then ld l+1 else 0
abbrev rn:List Nat->Nat
 |[]=>0
 |c::l=>max (ld (c::l)) (rn l)
theorem a72:∀a b:List Nat,ld (a++b)<=ld a+ld b/\ld a<=ld (a++b)
 |[],b=>by simp[ld]
 |c::a,b=>by have:=a72 a b;simp only[AZ,ld];split<;>lia
def bk6:∀l:List Nat,ld l<=rn l
 |[]=>Ae _
 |c::l=>by rw[rn];lia
theorem V6:∀a b:List Nat,rn (a++b)<=rn a+rn b/\rn a<=rn (a++b)/\rn b<=rn (a++b)
 |[],b=>by simp[rn]
 |c::a,b=>by
  have h1:=V6 a b;have h2:=a72 (c::a) b;have h3:=bk6 b;rw[AZ]at h2;simp only[AZ,rn];lia
theorem bc0(hc:¬(c=60\/c=62)):∀a b:List Nat,ld (a++c::b)=ld a
 |[],b=>by simp only[BB,ld,if_neg hc]
 |d::a,b=>by have:=bc0 hc a b;simp only[AZ,ld,this]
theorem V1(hc:¬(c=60\/c=62)):∀a b:List Nat,rn (a++c::b)=max (rn a) (rn b)
 |[],b=>by simp only[BB,rn,ld,if_neg hc]
 |d::a,b=>by
  have h1:=V1 hc a b;have h2:=bc0 hc (d::a) b;rw[AZ]at h2;simp only[AZ,rn,h1,h2];lia
def bp0(hc:¬(c=60\/c=62))(l:List Nat):rn (c::l)=rn l:=by simp only[rn,ld,if_neg hc];lia
def bo8(hc:¬(c=60\/c=62))(l:List Nat):ld (c::l)=0:=by simp only[ld,if_neg hc]
mutual
noncomputable def Th.bx:Th->Nat
 |.u=>0
 |.p a b=>1+max a.bx b.bx
 |.l a=>a.bx
 |.r a=>a.bx
 |.w k=>1+k.bx
noncomputable def Ths.bx:Ths->Nat
 |.nil=>0
 |.cons t r=>max t.bx r.bx
end
abbrev Th.l':Th->Nat
 |.l a=>a.l'+1
 |.r a=>a.l'+1
 |_=>0
mutual
noncomputable def Th.rn:Th->Nat
 |.u=>0
 |.p a b=>max a.rn b.rn
 |.l a=>max (a.l'+1) a.rn
 |.r a=>max (a.l'+1) a.rn
 |.w k=>k.rn
noncomputable def Ths.rn:Ths->Nat
 |.nil=>0
 |.cons t r=>max t.rn r.rn
end
def s_p(a b:Th):(Th.p a b).tr.s=40::(a.tr.s++44::(b.tr.s++41::[])):=by simp[Th.tr,Tr.s,two,Trs.s,Trs.ft,tf]
def s_l(a:Th):(Th.l a).tr.s=60::a.tr.s:=by simp[Th.tr,Tr.s,Trs.s,Trs.ft,tf]
def s_r(a:Th):(Th.r a).tr.s=62::a.tr.s:=by simp[Th.tr,Tr.s,Trs.s,Trs.ft,tf]
def s_w(t:Th)(r:Ths):(Th.w (.cons t r)).tr.s=123::(t.tr.s++(r.trs.ft 44++125::[])):=by simp[Th.tr,Tr.s,Trs.s,tf]
mutual
theorem E6:∀t:Th,BM t.tr.s t.bx
 |.u=>⟨∅,∅⟩
 |.p a b=>by
  have:=C5 b40 (B6 (sp:=44) (E6 a) rfl (E6 b)) (c:=41) rfl;rw[s_p];show BM _ (1+max a.bx b.bx);simpa only[AZ,BB,AY]using this
 |.l a=>by rw[s_l];exact an3 rfl (E6 a)
 |.r a=>by rw[s_r];exact an3 rfl (E6 a)
 |.w .nil=>⟨∅,∅⟩
 |.w (.cons t r)=>by
  have:=C5 (op:=[123]) ∅ (ax5 r _ _ (E6 t)) (c:=125) rfl;rw[s_w];show BM _ (1+max t.bx r.bx);simpa only[AZ,BB,AY]using this
theorem ax5:∀(k:Ths)(l:List Nat)(m:Nat),BM l m->BM (l++k.trs.ft 44) (max m k.bx)
 |.nil,l,m,h=>by
  show BM (l++[]) (max m 0);rw[Fb];exact x0 h
 |.cons t r,l,m,h=>B6 h rfl (ax5 r _ _ (E6 t))
end
mutual
theorem E7:∀t:Th,ld t.tr.s=t.l'/\rn t.tr.s=t.rn
 |.u=>⟨∅,∅⟩
 |.p a b=>by
  rw[s_p,bp0 ∅,bo8 ∅,V1 ∅,V1 ∅,(E7 a).2,(E7 b).2,rn,Fb];exact⟨rfl,rfl⟩
 |.l a=>by
  obtain⟨h1,h2⟩:=E7 a;rw[s_l,rn,ld,if_pos ∅,h1,h2];exact⟨rfl,rfl⟩
 |.r a=>by
  obtain⟨h1,h2⟩:=E7 a;rw[s_r,rn,ld,if_pos ∅,h1,h2];exact⟨rfl,rfl⟩
 |.w .nil=>⟨∅,∅⟩
 |.w (.cons t r)=>by
  have h2:=az2 r t.tr.s;rw[s_w,bp0 ∅,bo8 ∅,<-AY,V1 ∅,h2,(E7 t).2,rn,Fb];exact⟨rfl,rfl⟩
theorem az2:∀(k:Ths)(l:List Nat),rn (l++k.trs.ft 44)=max (rn l) k.rn
 |.nil,l=>by show rn (l++[])=max (rn l) 0;rw[Ac,Fb]
 |.cons t r,l=>by
  show rn (l++44::(t.tr.s++r.trs.ft 44))=max (rn l) (max t.rn r.rn);rw[V1 ∅,az2 r,(E7 t).2]
end
def cy2{d:Nat}(h1:a<=c)(h2:b<=d):max a b<=1+max c d:=by lia
def ao3{d:Nat}(h1:a<=c)(h2:b<=d):max a b<=max c d:=by lia
def bq6(h0:b+1<=c)(h1:a<=c):max (b+1) a<=1+c:=by lia
mutual
theorem v8:∀t:Th,t.bx<=t.h/\t.l'+1<=t.h/\t.rn<=t.h
 |.u=>⟨An _,Ae _,An _⟩
 |.p a b=>⟨IB (ao3 (v8 a).1 (v8 b).1) 1,Gc 1 _,cy2 (v8 a).2.2 (v8 b).2.2⟩
 |.l a=>⟨Ag (v8 a).1 (Fe _ 1),by have:=(v8 a).2.1;simp only[Th.l',Th.h];lia,bq6 (v8 a).2.1 (v8 a).2.2⟩
 |.r a=>⟨Ag (v8 a).1 (Fe _ 1),by have:=(v8 a).2.1;simp only[Th.l',Th.h];lia,bq6 (v8 a).2.1 (v8 a).2.2⟩
 |.w k=>⟨IB (aa5 k).1 1,Gc 1 _,Ag (aa5 k).2 (Fe _ 1)⟩
theorem aa5:∀k:Ths,k.bx<=k.h/\k.rn<=k.h
 |.nil=>⟨Ae _,Ae _⟩
 |.cons t r=>⟨ao3 (v8 t).1 (aa5 r).1,ao3 (v8 t).2.2 (aa5 r).2⟩
end
def bm0(h:1+a<=b+1):a<=b:=by lia
def c08{R q:Nat}(h1:a<=b*(R+1)+p+1)(h2:c<=b*(R+1)+q+1)(l1:p<=R)(l2:q<=R):1+max a c<=(b+1)*(R+1)+m+1:=by rw[HY];lia
def cx8{R:Nat}(h1:a<=b*(R+1)+R+1):1+a<=(b+1)*(R+1)+m+1:=by rw[HY];lia
def ac9(t:Th):t.l'<=t.rn:=by have:=E7 t;have:=bk6 t.tr.s;lia
mutual
theorem Q9(R:Nat):∀(t:Th)(b:Nat),t.rn<=R->t.bx<=b->t.h<=b*(R+1)+t.l'+1
 |.u,b,_,_=>Fe 1 _
 |.p x y,0,_,h2=>absurd h2 (by simp only[Th.bx];lia)
 |.p x y,b+1,h1,h2=>by
  obtain⟨r1,r2⟩:=Gu.1 h1;obtain⟨b1,b2⟩:=Gu.1 (bm0 h2);exact c08 (Q9 R x b r1 b1) (Q9 R y b r2 b2) (Ag (ac9 x) r1) (Ag (ac9 y) r2)
 |.l a,b,h1,h2=>by have:=Q9 R a b (Gu.1 h1).2 h2;simp only[Th.h,Th.l'];lia
 |.r a,b,h1,h2=>by have:=Q9 R a b (Gu.1 h1).2 h2;simp only[Th.h,Th.l'];lia
 |.w k,0,_,h2=>absurd h2 (by simp only[Th.bx];lia)
 |.w k,b+1,h1,h2=>cx8 (a99 R k b h1 (bm0 h2))
theorem a99(R:Nat):∀(k:Ths)(b:Nat),k.rn<=R->k.bx<=b->k.h<=b*(R+1)+R+1
 |.nil,b,_,_=>An _
 |.cons t r,b,h1,h2=>by
  obtain⟨r1,r2⟩:=Gu.1 h1;obtain⟨b1,b2⟩:=Gu.1 h2;have i1:=Q9 R t b r1 b1;have l1:=Ag (ac9 t) r1;exact Gu.2 ⟨⋯,a99 R r b r2 b2⟩
end
def ak0{A x d B:List Nat}(hx:x.length<=1)(hd:d.length<=1):mx (A++(x++B))<=mx (A++(d++B))+2/\rn (A++(x++B))<=2*rn (A++(d++B))+1:=by
 have one:∀l:List Nat,l.length<=1->-1<=bal l/\bal l<=1/\mx l<=1/\rn l<=1:=λl h=>by
  match l,h with
  |[],_=>exact⟨∅,∅,∅,∅⟩
  |[c],_=>
   have:=cu6 c;simp only[bal,mx,rn,ld];refine⟨⋯,⋯,⋯,?_⟩
   split<;>lia
 have o1:=one x hx;have o2:=one d hd;have a1:=be2 A;have a2:=al3 A;have a3:=al3 B;have r1:=V6 A (x++B);have r2:=V6 x B;have r3:=V6 A (d++B);have r4:=V6 d B;refine⟨?_,⋯⟩;simp only[Q2];lia
abbrev eat(c:Nat):List Nat->Option (List Nat)
 |[]=>AE
 |d::l=>if d=c then AA l else AE
def A6(c:Nat)(l:List Nat):eat c (c::l)=AA l:=by simp[eat]
abbrev skK:Nat->List Nat->Option (List Nat)
 |0=>λ_=>AE
 |n+1=>λl=>match l with
  |[]=>AE
  |c::l=>if c=48\/c=49 then AA l else if c=40 then(skK n l).bind λl1=>match l1 with
    |[]=>AE
    |d::l2=>if d=43\/d=42\/d=62 then(skK n l2).bind (eat 41)else AE
   else AE
def a86:∀(k:Kd)(n:Nat)(t:List Nat),k.tr.s.length<=n->skK n (k.tr.s++t)=AA t:=by
 intro k
 induction k with
 |non=>
  intro n t h;obtain⟨n,rfl⟩:∃m,n=m+1:=⟨n-1,by simp only[Kd.tr,Tr.s,AG]at h;lia⟩;rfl
 |one=>
  intro n t h;obtain⟨n,rfl⟩:∃m,n=m+1:=⟨n-1,by simp only[Kd.tr,Tr.s,AG]at h;lia⟩;rfl
 |eith a b ia ib|both a b ia ib|way a b ia ib=>
  intro n t h;simp only[Kd.tr,Tr.s,two,Trs.s,Trs.ft,kf,Ac,AH,AG,AN]at h;obtain⟨n,rfl⟩:∃m,n=m+1:=⟨n-1,⋯⟩;simp only[Kd.tr,Tr.s,two,Trs.s,Trs.ft,kf,Ac,AY,AZ,BB,skK];rw[if_neg ∅,if_pos ∅,ia _ _ ⋯];simp only[Av];rw[if_pos ∅,ib _ _ ⋯,Av,A6]
abbrev dig(c:Nat):Bool:=AB (48<=c/\c<=57)
abbrev X4(c:Nat):Bool:=AB (97<=c/\c<=122)
theorem ak6{q:Nat->Bool}:∀{f t:List Nat},(∀c∈f,q c=AC)->(∀c∈t.head?,q c=AF)->(f++t).takeWhile q=f/\(f++t).dropWhile q=t
 |[],[],_,_=>⟨rfl,rfl⟩
 |[],c::t,_,h=>by
  have:=h c rfl;simp[Hr,Hs,this]
 |a::f,t,h1,h2=>by
  have i:=ak6 (λc hc=>h1 c (.tail _ hc)) h2;have:=h1 a (.head _);rw[AZ,Hr,Hs,this,if_pos rfl,if_pos rfl,i.1,i.2];exact⟨rfl,rfl⟩
abbrev an0(l:List Nat):Option (List Nat):=if(l.takeWhile dig).length=0\/4<(l.takeWhile dig).length\/((l.takeWhile dig).head?=AA 48/\(l.takeWhile dig).length≠1)then AE else AA (l.dropWhile dig)
def b75{i:Nat}{t:List Nat}(hi:i<10000)(ht:nf t):an0 (dg i++t)=AA t:=by
 have h:=ak6 (q:=dig) (f:=dg i) (t:=t) (λc hc=>decide_eq_true (U9 hc)) (λc hc=>decide_eq_false (by have:=ht c hc;unfold nd at this;lia));unfold an0;rw[h.1,h.2,if_neg];have h4:=aa3 hi;have ne:dg i≠[]:=λe=>absurd (FH.1 e) FM;have h0:(dg i).length≠0:=λz=>ne (Be z);rintro(z|z|⟨z,z1⟩)
 ·exact h0 z
 ·lia
 ·cases e:dg i with
  |nil=>exact ne e
  |cons c l=>
   rw[e]at z;simp only[List.head?_cons,CF]at z;subst z;have:=ax6 i e;subst this;exact z1 ∅
abbrev skW:List (List Nat×Bool×Nat):=[(ch "fst",AF,0),(ch "snd",AF,0),(ch "inl",AC,0),(ch "inr",AC,0),(ch "case",AF,2),(ch "way",AC,0),(ch "give",AF,1),(ch "let",AF,1),(ch "never",AC,0)]
abbrev skM(f:List Nat->Option (List Nat)):Nat->List Nat->Option (List Nat)
 |0=>f
 |m+1=>λl=>((f l).bind (eat 32)).bind (skM f m)
abbrev skP:Nat->List Nat->Option (List Nat)
 |0=>λ_=>AE
 |n+1=>λl=>match l with
  |[]=>AE
  |c::l=>if c=46 then AA l else if c=35 then an0 l else if c=40 then(((skP n l).bind (eat 44)).bind (skP n)).bind (eat 41)
   else if c=91 then(skW.lookup (l.takeWhile X4)).bind λx=>((eat 32 (l.dropWhile X4)).bind λl2=>if x.1 then(skK n l2).bind (eat 32)else AA l2).bind λl3=>(skM (skP n) x.2 l3).bind (eat 93)
   else AE
def nfc(h:nd c):nf (c::l):=λx z=>by cases z;exact h
def E2{n:Nat}{w:String}{ko:Option Kd}{body t:List Nat}(ho:op=91::(ch w++32::koT ko []))(hw:skW.lookup (ch w)=AA (ko.isSome,m))(hl:∀c∈ch w,X4 c=AC)(hk:∀k∈ko,k.tr.s.length<=n)(hb:skM (skP n) m (body++93::t)=AA (93::t)):skP (n+1) (op++(body++93::t))=AA t:=by
 have kt:∀l,koT ko []++l=koT ko l:=λl=>by cases ko<;>simp[koT]
 subst ho;have e:91::(ch w++32::koT ko [])++(body++93::t)=91::(ch w++32::koT ko (body++93::t)):=by simp only[AZ,AY,kt]
 rw[e];obtain⟨h1,h2⟩:=ak6 (q:=X4) (f:=ch w) (t:=32::koT ko (body++93::t)) hl λc hc=>by cases hc;rfl
 simp only[skP];rw[if_neg ∅,if_neg ∅,if_neg ∅,if_pos ∅,h1,h2,hw];simp only[Av,A6];cases ko with
 |none=>
  rw[if_neg ∅];simp only[koT,Av,hb,A6]
 |some k=>
  rw[if_pos (show(AA k).isSome=AC from rfl)];simp only[koT];rw[a86 k n _ (hk k rfl)];simp only[Av,A6,hb]
def cj2:∀(g:Pg)(n:Nat)(t:List Nat),g.nm->g.tr.s.length<=n->nf t->skP n (g.tr.s++t)=AA t:=by
 have l5:∀w∈["fst","snd","inl","inr","case","way","give","let","never"],∀c∈ch w,X4 c=AC:=by decide
 have o5:∀w∈["fst","snd","inl","inr","case","way","give","let","never"],ch ("["++w++" ")=91::(ch w++[32]):=by decide
 have n32:nd 32:=.inl ∅;have n44:nd 44:=.inl ∅;have n41:nd 41:=.inl ∅;have n93:nd 93:=.inr ∅;intro g
 induction g with
 |name i=>
  intro n t hn hl ht;obtain⟨n,rfl⟩:∃m,n=m+1:=⟨n-1,by simp only[Pg.tr,Tr.s,AG]at hl;lia⟩;simp only[Pg.tr,Tr.s,AZ,skP];rw[if_neg ∅,if_pos ∅,b75 hn ht]
 |star=>
  intro n t hn hl ht;obtain⟨n,rfl⟩:∃m,n=m+1:=⟨n-1,by simp only[Pg.tr,Tr.s,AG]at hl;lia⟩;rfl
 |pair a b ia ib=>
  intro n t hn hl ht;simp only[Pg.tr,Tr.s,two,Trs.s,Trs.ft,pf,Ac,AH,AG,AN]at hl;obtain⟨n,rfl⟩:∃m,n=m+1:=⟨n-1,⋯⟩;simp only[Pg.tr,Tr.s,two,Trs.s,Trs.ft,pf,Ac,AY,AZ,BB,skP];rw[if_neg ∅,if_neg ∅,if_pos ∅,ia n _ hn.1 ⋯ (nfc n44)];simp only[Av,A6];rw[ib n _ hn.2 ⋯ (nfc n41),Av,A6]
 |first a ia=>
  intro n t hn hl ht;have o:=o5 "fst" ∅;simp only[Pg.tr,Tr.s,f7,Trs.s,Trs.ft,ff,Ac,AH,AG,AN]at hl;obtain⟨n,rfl⟩:∃m,n=m+1:=⟨n-1,⋯⟩;simp only[Pg.tr,Tr.s,f7,Trs.s,Trs.ft,ff,Ac,AY,AZ,BB];exact E2 (m:=0) (body:=a.tr.s) (w:="fst") (ko:=AE) (op:=ch "[fst ") o ∅ (l5 _ ∅) nofun (ia n _ hn ⋯ (nfc n93))
 |second a ia=>
  intro n t hn hl ht;have o:=o5 "snd" ∅;simp only[Pg.tr,Tr.s,f7,Trs.s,Trs.ft,ff,Ac,AH,AG,AN]at hl;obtain⟨n,rfl⟩:∃m,n=m+1:=⟨n-1,⋯⟩;simp only[Pg.tr,Tr.s,f7,Trs.s,Trs.ft,ff,Ac,AY,AZ,BB];exact E2 (m:=0) (body:=a.tr.s) (w:="snd") (ko:=AE) (op:=ch "[snd ") o ∅ (l5 _ ∅) nofun (ia n _ hn ⋯ (nfc n93))
 |give a b ia ib=>
  intro n t hn hl ht;have o:=o5 "give" ∅;simp only[Pg.tr,Tr.s,two,Trs.s,Trs.ft,ff,Ac,AH,AG,AN]at hl;obtain⟨n,rfl⟩:∃m,n=m+1:=⟨n-1,⋯⟩;simp only[Pg.tr,Tr.s,two,Trs.s,Trs.ft,ff,Ac,AY,AZ,BB];have:=E2 (n:=n) (t:=t) (op:=ch "[give ") (w:="give") (ko:=AE) (m:=1) (body:=a.tr.s++32::b.tr.s) o ∅ (l5 _ ∅) nofun (by
   simp only[AY,AZ,skM];rw[ia n _ hn.1 ⋯ (nfc n32)];simp only[Av,A6];rw[ib n _ hn.2 ⋯ (nfc n93)])
  simpa only[AY,AZ]using this
 |lets a b ia ib=>
  intro n t hn hl ht;have o:=o5 "let" ∅;simp only[Pg.tr,Tr.s,two,Trs.s,Trs.ft,ff,Ac,AH,AG,AN]at hl;obtain⟨n,rfl⟩:∃m,n=m+1:=⟨n-1,⋯⟩;simp only[Pg.tr,Tr.s,two,Trs.s,Trs.ft,ff,Ac,AY,AZ,BB];have:=E2 (n:=n) (t:=t) (op:=ch "[let ") (w:="let") (ko:=AE) (m:=1) (body:=a.tr.s++32::b.tr.s) o ∅ (l5 _ ∅) nofun (by
   simp only[AY,AZ,skM];rw[ia n _ hn.1 ⋯ (nfc n32)];simp only[Av,A6];rw[ib n _ hn.2 ⋯ (nfc n93)])
  simpa only[AY,AZ]using this
 |case a b c ia ib ic=>
  intro n t hn hl ht;have o:=o5 "case" ∅;simp only[Pg.tr,Tr.s,two,Trs.s,Trs.ft,ff,Ac,AH,AG,AN]at hl;obtain⟨n,rfl⟩:∃m,n=m+1:=⟨n-1,⋯⟩;simp only[Pg.tr,Tr.s,two,Trs.s,Trs.ft,ff,Ac,AY,AZ,BB];have:=E2 (n:=n) (t:=t) (op:=ch "[case ") (w:="case") (ko:=AE) (m:=2) (body:=a.tr.s++32::(b.tr.s++32::c.tr.s)) o ∅ (l5 _ ∅) nofun (by
   simp only[AY,AZ,skM];rw[ia n _ hn.1 ⋯ (nfc n32)];simp only[Av,A6];rw[ib n _ hn.2.1 ⋯ (nfc n32)];simp only[Av,A6];rw[ic n _ hn.2.2 ⋯ (nfc n93)])
  simpa only[AY,AZ]using this
 |left k a ia=>
  intro n t hn hl ht;have o:=o5 "inl" ∅;simp only[Pg.tr,Tr.s,f7,Trs.s,Trs.ft,ff,Ac,AH,AG,AN]at hl;obtain⟨n,rfl⟩:∃m,n=m+1:=⟨n-1,⋯⟩;have:=E2 (n:=n) (t:=t) (m:=0) (body:=a.tr.s) (w:="inl") (ko:=AA k) (op:=ch "[inl "++(k.tr.s++[32])) (by rw[show ch "[inl "=_ from o];simp[koT]) (by show _=AA (AC,0);decide) (l5 _ ∅) (λj e=>by cases e;lia) (ia n (93::t) hn ⋯ (nfc n93));simpa only[Pg.tr,Tr.s,f7,Trs.s,Trs.ft,ff,Ac,AY,AZ,BB]using this
 |right k a ia=>
  intro n t hn hl ht;have o:=o5 "inr" ∅;simp only[Pg.tr,Tr.s,f7,Trs.s,Trs.ft,ff,Ac,AH,AG,AN]at hl;obtain⟨n,rfl⟩:∃m,n=m+1:=⟨n-1,⋯⟩;have:=E2 (n:=n) (t:=t) (m:=0) (body:=a.tr.s) (w:="inr") (ko:=AA k) (op:=ch "[inr "++(k.tr.s++[32])) (by rw[show ch "[inr "=_ from o];simp[koT]) (by show _=AA (AC,0);decide) (l5 _ ∅) (λj e=>by cases e;lia) (ia n (93::t) hn ⋯ (nfc n93));simpa only[Pg.tr,Tr.s,f7,Trs.s,Trs.ft,ff,Ac,AY,AZ,BB]using this
 |way k a ia=>
  intro n t hn hl ht;have o:=o5 "way" ∅;simp only[Pg.tr,Tr.s,f7,Trs.s,Trs.ft,ff,Ac,AH,AG,AN]at hl;obtain⟨n,rfl⟩:∃m,n=m+1:=⟨n-1,⋯⟩;have:=E2 (n:=n) (t:=t) (m:=0) (body:=a.tr.s) (w:="way") (ko:=AA k) (op:=ch "[way "++(k.tr.s++[32])) (by rw[show ch "[way "=_ from o];simp[koT]) (by show _=AA (AC,0);decide) (l5 _ ∅) (λj e=>by cases e;lia) (ia n (93::t) hn ⋯ (nfc n93));simpa only[Pg.tr,Tr.s,f7,Trs.s,Trs.ft,ff,Ac,AY,AZ,BB]using this
 |never k a ia=>
  intro n t hn hl ht;have o:=o5 "never" ∅;simp only[Pg.tr,Tr.s,f7,Trs.s,Trs.ft,ff,Ac,AH,AG,AN]at hl;obtain⟨n,rfl⟩:∃m,n=m+1:=⟨n-1,⋯⟩;have:=E2 (n:=n) (t:=t) (m:=0) (body:=a.tr.s) (w:="never") (ko:=AA k) (op:=ch "[never "++(k.tr.s++[32])) (by rw[show ch "[never "=_ from o];simp[koT]) (by show _=AA (AC,0);decide) (l5 _ ∅) (λj e=>by cases e;lia) (ia n (93::t) hn ⋯ (nfc n93));simpa only[Pg.tr,Tr.s,f7,Trs.s,Trs.ft,ff,Ac,AY,AZ,BB]using this
abbrev skR(f:List Nat->Option (List Nat)):Nat->List Nat->Option (List Nat)
 |0=>λ_=>AE
 |m+1=>λl=>match l with
  |[]=>AE
  |d::l=>if d=125 then AA l else if d=44 then(f l).bind (skR f m)else AE
abbrev skT:Nat->List Nat->Option (List Nat)
 |0=>λ_=>AE
 |n+1=>λl=>match l with
  |[]=>AE
  |c::l=>if c=46 then AA l else if c=60\/c=62 then skT n l else if c=40 then(((skT n l).bind (eat 44)).bind (skT n)).bind (eat 41)
   else if c=123 then(match l with
    |[]=>AE
    |d::l'=>if d=125 then AA l' else(skT n (d::l')).bind (skR (skT n) (n+1)))else AE
mutual
theorem N0:∀(t:Th)(n:Nat)(l:List Nat),t.tr.s.length<=n->skT n (t.tr.s++l)=AA l
 |.u,n,l,h=>by
  obtain⟨n,rfl⟩:∃m,n=m+1:=⟨n-1,by simp only[Th.tr,Tr.s,AG]at h;lia⟩;rfl
 |.l a,n,l,h=>by
  have e:(Th.l a).tr.s=60::a.tr.s:=by simp[Th.tr,Tr.s,Trs.s,Trs.ft,tf]
  rw[e,AG]at h;obtain⟨n,rfl⟩:∃m,n=m+1:=⟨n-1,⋯⟩;rw[e];simp only[AZ,skT];rw[if_neg ∅,if_pos ∅,N0 a n l ⋯]
 |.r a,n,l,h=>by
  have e:(Th.r a).tr.s=62::a.tr.s:=by simp[Th.tr,Tr.s,Trs.s,Trs.ft,tf]
  rw[e,AG]at h;obtain⟨n,rfl⟩:∃m,n=m+1:=⟨n-1,⋯⟩;rw[e];simp only[AZ,skT];rw[if_neg ∅,if_pos ∅,N0 a n l ⋯]
 |.p a b,n,l,h=>by
  have e:(Th.p a b).tr.s=40::(a.tr.s++44::(b.tr.s++41::[])):=by simp[Th.tr,Tr.s,two,Trs.s,Trs.ft,tf]
  rw[e]at h;simp only[AG,AH,AN]at h;obtain⟨n,rfl⟩:∃m,n=m+1:=⟨n-1,⋯⟩;rw[e];simp only[AZ,AY,BB,skT];rw[if_neg ∅,if_neg ∅,if_pos ∅,N0 a n _ ⋯];simp only[Av,A6];rw[N0 b n _ ⋯,Av,A6]
 |.w .nil,n,l,h=>by
  obtain⟨n,rfl⟩:∃m,n=m+1:=⟨n-1,by simp only[Th.tr,Tr.s,AG]at h;lia⟩;rfl
 |.w (.cons t r),n,l,h=>by
  have e:(Th.w (.cons t r)).tr.s=123::(t.tr.s++(r.trs.ft 44++125::[])):=by simp[Th.tr,Tr.s,Trs.s,tf]
  rw[e]at h;simp only[AG,AH,AN]at h;obtain⟨n,rfl⟩:∃m,n=m+1:=⟨n-1,⋯⟩;rw[e];obtain⟨c,l',ec,hc⟩:=ax8 t;have i1:=N0 t n (r.trs.ft 44++125::l) ⋯;simp only[AZ,AY,BB,skT];rw[if_neg ∅,if_neg ∅,if_neg ∅,if_pos ∅];rw[ec]at i1 ⊢;simp only[AZ]at i1 ⊢;rw[if_neg hc,i1,Av];exact a83 r n (n+1) l ⋯ ⋯
theorem a83:∀(k:Ths)(n m:Nat)(l:List Nat),(k.trs.ft 44).length<=n->(k.trs.ft 44).length<m->skR (skT n) m (k.trs.ft 44++125::l)=AA l
 |.nil,n,m,l,_,h=>by
  obtain⟨m,rfl⟩:∃j,m=j+1:=⟨m-1,⋯⟩;simp only[Ths.trs,Trs.ft,BB,skR];rfl
 |.cons t r,n,m,l,h1,h2=>by
  obtain⟨m,rfl⟩:∃j,m=j+1:=⟨m-1,⋯⟩;simp only[Ths.trs,Trs.ft,AG,AH]at h1 h2;simp only[Ths.trs,Trs.ft,AZ,AY,skR];rw[if_neg ∅,if_pos ∅,N0 t n _ ⋯,Av];exact a83 r n m l ⋯ ⋯
end
abbrev Ok3(i:Int)(W:List Nat):Prop:=if i=0 then ∃k:Kd,W=k.tr.s else if i=1 then ∃g:Pg,g.nm/\W=g.tr.s else ∃t:Th,W=t.tr.s
def a54{W:List Nat}(h:Ok3 i W):bal W=0:=by
 unfold Ok3 at h
 split at h
 ·obtain⟨k,rfl⟩:=h;exact(aa4 k).1
 ·split at h
  ·obtain⟨g,_,rfl⟩:=h;exact(ak4 g).1
  ·obtain⟨t,rfl⟩:=h;exact(E6 t).1
abbrev sk3(i:Int)(n:Nat)(l:List Nat):Option (List Nat):=if i=0 then skK n l else if i=1 then skP n l else skT n l
def aa6{W:List Nat}(h:Ok3 i W){n:Nat}(hn:W.length<=n){t:List Nat}(ht:nf t):sk3 i n (W++t)=AA t:=by
 unfold Ok3 at h;unfold sk3
 by_cases h0:i=0
 ·rw[if_pos h0]at h ⊢;obtain⟨k,rfl⟩:=h;exact a86 k n t hn
 rw[if_neg h0]at h ⊢
 by_cases h1:i=1
 ·rw[if_pos h1]at h ⊢;obtain⟨g,h1,rfl⟩:=h;exact cj2 g n t h1 hn ht
 rw[if_neg h1]at h ⊢;obtain⟨t,rfl⟩:=h;exact N0 t n _ hn
def a07{W:List Nat}(h:Ok3 i W)(hc:nd c):¬Ok3 i (W++[c]):=λh2=>by
 have e1:=aa6 h (n:=W.length+1) (HG _) (t:=[c]) (nfc hc);have e2:=aa6 h2 (n:=W.length+1) ∎ (t:=[]) nofun;rw[Ac,e1]at e2;cases e2
def cf9{W:List Nat}:¬Ok3 i (32::W):=λh=>by
 have e:=aa6 h (n:=W.length+1) ∎ (t:=[]) nofun;have z:sk3 i (W.length+1) (32::W++[])=AE:=by
  unfold sk3
  split
  ·rfl
  ·split<;>rfl
 rw[z]at e;cases e
def cn4{W:List Nat}(n:Nat)(hn:W.length<=n)(h:sk3 i n W≠AA []):¬Ok3 i W:=λh2=>h (by have:=aa6 h2 hn (t:=[]) nofun;rwa [Ac]at this)
def cg6{W:List Nat}(h:bal W≠0):¬Ok3 i W:=λh2=>h (a54 h2)
abbrev lits:Int->List String:=λi=>if i=0 then ["","2","(1 + 1)","(1+1+1)","(1-1)"]else if i=1 then ["#01","#12345","#","#-1","#+1","#1_0","# 1","#-0","[fst #0","[fst  #0]","fst #0","[first #0]","[fst #0 #0]","[snd]","[inl .]","[inl 1 . .]","[inr 1]","[case . .]","[case . . . .]","[way 1]","[way . .]","[give .]","[give . . .]","[let .]","[ .]","[let . . .]","[never 1]","[never . .]","[pair . .]","(.)","(.,.,.)","(. .)","()","[f .]","[fst,.]","[star]","[]"]else ["","<","{,}","{.,}","(.)"]
def ce0:∀i∈[(0:Int),1,2],∀w∈lits i,(ch w).length<=20/\sk3 i 20 (ch w)≠AA []/\∀c∈ch w,c<1114112:=by decide+kernel
abbrev Rm(r:Int)(st:Sto)(a:AM):Prop:=st a=AA (.lst [.int r])
def Rm.keep{r:Int}{L:List AM}{b:AM}(h:Rm r st b)(x:Kp L st st')(n:b∉L):Rm r st' b:=x.at' h n
def Rm.new{r:Int}{b p:AM}{u:Ob}(h:Rm r st b)(hp:st p=AE):Rm r (b0 st p u) b:=d7 h hp
abbrev Pg.oc:Nat->Pg->Nat
 |i,.name n=>if n=i then 1 else 0
 |_,.star=>0
 |i,.pair t u=>t.oc i+u.oc i
 |i,.first t=>t.oc i
 |i,.second t=>t.oc i
 |i,.left _ t=>t.oc i
 |i,.right _ t=>t.oc i
 |i,.case t u v=>t.oc i+u.oc (i+1)+v.oc (i+1)
 |i,.way _ t=>t.oc (i+1)
 |i,.give t u=>t.oc i+u.oc i
 |i,.lets t u=>t.oc i+u.oc (i+1)
 |i,.never _ t=>t.oc i
abbrev Pg.nl(m:Nat):List Kd->Pg->Prop
 |_,.name _=>True
 |_,.star=>True
 |Γ,.pair t u=>t.nl m Γ/\u.nl m Γ
 |Γ,.first t=>t.nl m Γ
 |Γ,.second t=>t.nl m Γ
 |Γ,.left _ t=>t.nl m Γ
 |Γ,.right _ t=>t.nl m Γ
 |Γ,.case t u v=>t.nl m Γ/\∀a b,t.kind Γ=AA (.eith a b)->(a.nest<=m/\b.nest<=m)/\u.nl m (a::Γ)/\v.nl m (b::Γ)
 |Γ,.way a t=>t.nl m (a::Γ)
 |Γ,.give t u=>t.nl m Γ/\u.nl m Γ
 |Γ,.lets t u=>t.nl m Γ/\∀a,t.kind Γ=AA a->a.nest<=m/\u.nl m (a::Γ)
 |Γ,.never _ t=>t.nl m Γ
abbrev Cn(e:Int)(deep:Nat)(Γ:List Kd)(p:Pg)(r r':Int):Prop:=
 ((1<=r->-(2*(deep:Int))<=r')/\(e=0->r<=0->r'=r-1)/\r'<=r-1+e)/\(∀(i:Nat)(a:Kd),Γ[i]?=AA a->a≠.non->3*(p.oc i:Int)<=2*(r-r'+e)+1/\(3*(p.oc i:Int)=2*(r-r'+e)+1->(p.parts:Int)=r-r'+e))/\p.nl 6 Γ
section
variable {d:Nat} {b:Kd} {p t u v:Pg} {r r1 r2 r3:Int}
def Cn.leaf(h:(∀i,p.oc i=0)/\∀Δ,p.nl 6 Δ):Cn 1 d Γ p r r:=⟨⟨λ_=>⋯,λz=>⋯,⋯⟩,λi a _ _=>by rw[h.1 i];lia,h.2 Γ⟩
def Cn.k1(c1:Cn 0 d Γ t r r1)(ho:∀i,p.oc i=t.oc i)(hn:t.nl 6 Γ->p.nl 6 Γ):Cn 1 (d+1) Γ p r r1:=
 ⟨⟨λz=>by have:=c1.1.1 z;lia,λz=>⋯,by have:=c1.1.2.2;lia⟩,λi a h1 h2=>by have:=c1.2.1 i a h1 h2;rw[ho i];lia,hn c1.2.2⟩
def Cn.k1b(c1:Cn 0 d (b::Γ) t r r1)(ho:∀i,p.oc i=t.oc (i+1))(hn:t.nl 6 (b::Γ)->p.nl 6 Γ):Cn 1 (d+1) Γ p r r1:=
 ⟨⟨λz=>by have:=c1.1.1 z;lia,λz=>⋯,by have:=c1.1.2.2;lia⟩,λi a h1 h2=>by have:=c1.2.1 (i+1) a (by simpa using h1) h2;rw[ho i];lia,hn c1.2.2⟩
def Cn.k2(c1:Cn 0 d Γ t r r1)(c2:Cn 0 d Γ u r1 r2)(ho:∀i,p.oc i=t.oc i+u.oc i)(hn:t.nl 6 Γ->u.nl 6 Γ->p.nl 6 Γ):Cn 1 (d+1) Γ p r r2:=
 ⟨⟨λz=>by have:=c1.1.1 z;have:=c2.1.1;have:=c2.1.2.1 rfl;lia,λz=>⋯,by have:=c1.1.2.2;have:=c2.1.2.2;lia⟩,λi a h1 h2=>by have:=c1.2.1 i a h1 h2;have:=c2.2.1 i a h1 h2;rw[ho i];lia,hn c1.2.2 c2.2.2⟩
def Cn.k2b(c1:Cn 0 d Γ t r r1)(c2:Cn 0 d (b::Γ) u r1 r2)(ho:∀i,p.oc i=t.oc i+u.oc (i+1))(hn:t.nl 6 Γ->u.nl 6 (b::Γ)->p.nl 6 Γ):Cn 1 (d+1) Γ p r r2:=
 ⟨⟨λz=>by have:=c1.1.1 z;have:=c2.1.1;have:=c2.1.2.1 rfl;lia,λz=>⋯,by have:=c1.1.2.2;have:=c2.1.2.2;lia⟩,λi a h1 h2=>by have:=c1.2.1 i a h1 h2;have:=c2.2.1 (i+1) a (by simpa using h1) h2;rw[ho i];lia,hn c1.2.2 c2.2.2⟩
def Cn.k3{b':Kd}(c1:Cn 0 d Γ t r r1)(c2:Cn 0 d (b::Γ) u r1 r2)(c3:Cn 0 d (b'::Γ) v r2 r3)(hn:t.nl 6 Γ->u.nl 6 (b::Γ)->v.nl 6 (b'::Γ)->(Pg.case t u v).nl 6 Γ):Cn 1 (d+1) Γ (.case t u v) r r3:=
 ⟨⟨λz=>by have:=c1.1.1 z;have:=c2.1.1;have:=c2.1.2.1 rfl;have:=c3.1.1;have:=c3.1.2.1 rfl;lia,λz=>⋯,by have:=c1.1.2.2;have:=c2.1.2.2;have:=c3.1.2.2;lia⟩,λi a h1 h2=>by have:=c1.2.1 i a h1 h2;have:=c2.2.1 (i+1) a (by simpa using h1) h2;have:=c3.2.1 (i+1) a (by simpa using h1) h2;simp only[Pg.oc,Pg.parts];lia,hn c1.2.2 c2.2.2 c3.2.2⟩
end
def U1{k:Kd}:[k.d]++Γ.map Kd.d=(k::Γ).map Kd.d:=rfl
def W6(h:a+b<=1000):a+b<=sizeLine:=E8 ⋯
def Kp.w2{a:AM}(b:AM)(h:Kp [a] st st'):Kp [a,b] st st':=h.more ∎
section
variable [NoRs G] (B:PB P) {n:Nat} 
include B
def ai0:∀(k:Kd){Γ:List Kd}{n:Nat}{Q:DK},k.good->k.bd 100->k.nest<=6->k.nest+4<=n->Γ.length+k.nest<=999->(∀p:Pg,p.kind Γ=AA k->p.hgt<=k.nest+1->p.parts+1<=2^(k.nest+1)->p.kn 6->((∀i,p.oc i=0)/\∀Δ,p.nl 6 Δ)->Q p.d st)->sem P G n "_law_least" [k.d,.tup (Γ.map Kd.d)] st Q:=by
 intro k
 induction k with
 |non=>intro Γ n Q g;exact g.elim
 |one=>
  intro Γ n Q g bd n6 hn hΓ q;obtain⟨n,rfl⟩:∃k,n=k+1:=⟨n-1,⋯⟩;refine d4 B.least rfl [AA Kd.one.d,AA (.tup (Γ.map Kd.d)),AE,AE] rfl ?_;unfold O9;simp only[Kd.d];(iterate 4 ∎);exact b8 (q .star rfl ∅ ∅ trivial ⟨λ_=>rfl,λ_=>trivial⟩)
 |both a b iha ihb=>
  intro Γ n Q g bd n6 hn hΓ q;obtain⟨n,rfl⟩:∃k,n=k+1:=⟨n-1,⋯⟩;simp only[Kd.nest]at hn hΓ n6;refine d4 B.least rfl [AA (Kd.both a b).d,AA (.tup (Γ.map Kd.d)),AE,AE] rfl ?_;unfold O9;simp only[Kd.d];(iterate 5 ∎);refine⟨by rw[B.least];rfl,iha g.1 bd.1 ⋯ ⋯ ⋯ λp k1 h1 p1 m1 o1=>⟨by rw[B.least];rfl,ihb g.2 bd.2.1 ⋯ ⋯ ⋯ λr k2 h2 p2 m2 o2=>?_⟩⟩;have e1:2^(a.nest+1)<=2^(max a.nest b.nest+1):=Ak ∅ ⋯;have e2:2^(b.nest+1)<=2^(max a.nest b.nest+1):=Ak ∅ ⋯;have e3:2^(1+max a.nest b.nest+1)=2*2^(max a.nest b.nest+1):=by rw[show 1+max a.nest b.nest+1=(max a.nest b.nest+1)+1 by lia,Kz,GY]
  exact b8 (q (.pair p r) (by simp only[Pg.kind,k1,k2]) (by simp only[Pg.hgt,Kd.nest];lia) (by simp only[Pg.parts,Kd.nest];lia) ⟨m1,m2⟩ ⟨λi=>by simp only[Pg.oc,o1.1,o2.1],λΔ=>⟨o1.2 Δ,o2.2 Δ⟩⟩)
 |way a b iha ihb=>
  intro Γ n Q g bd n6 hn hΓ q;obtain⟨n,rfl⟩:∃k,n=k+1:=⟨n-1,⋯⟩;simp only[Kd.nest]at hn hΓ n6;refine d4 B.least rfl [AA (Kd.way a b).d,AA (.tup (Γ.map Kd.d)),AE,AE] rfl ?_;unfold O9;simp only[Kd.d];(iterate 6 ∎);refine⟨W6 (by simp only[Am];lia),?_⟩;rw[U1];∎;refine⟨by rw[B.least];rfl,ihb g.2.1 bd.2.1 ⋯ ⋯ (by simp only[AG];lia) λr k2 h2 p2 m2 o2=>?_⟩;have e2:2^(b.nest+1)<=2^(max a.nest b.nest+1):=Ak ∅ ⋯;have e3:2^(1+max a.nest b.nest+1)=2*2^(max a.nest b.nest+1):=by rw[show 1+max a.nest b.nest+1=(max a.nest b.nest+1)+1 by lia,Kz,GY]
  have e4:0<2^(max a.nest b.nest+1):=Jo ∅;exact b8 (q (.way a r) (by simp only[Pg.kind,k2]) (by simp only[Pg.hgt,Kd.nest];lia) (by simp only[Pg.parts,Kd.nest];lia) ⟨⋯,m2⟩ ⟨λi=>by simp only[Pg.oc,o2.1],λΔ=>o2.2 (a::Δ)⟩)
 |eith a b iha ihb=>
  intro Γ n Q g bd n6 hn hΓ q;obtain⟨n,rfl⟩:∃k,n=k+1:=⟨n-1,⋯⟩;simp only[Kd.nest]at hn hΓ n6;refine d4 B.least rfl [AA (Kd.eith a b).d,AA (.tup (Γ.map Kd.d)),AE,AE] rfl ?_;unfold O9;simp only[Kd.d];(iterate 6 ∎);have e1:2^(a.nest+1)<=2^(max a.nest b.nest+1):=Ak ∅ ⋯;have e2:2^(b.nest+1)<=2^(max a.nest b.nest+1):=Ak ∅ ⋯;have e3:2^(1+max a.nest b.nest+1)=2*2^(max a.nest b.nest+1):=by rw[show 1+max a.nest b.nest+1=(max a.nest b.nest+1)+1 by lia,Kz,GY]
  have e4:0<2^(max a.nest b.nest+1):=Jo ∅;refine⟨by rw[B.count];rfl,A2 B.toPB0 a (m:=100) ⋯ (J8 bd.1) ∅ ?_⟩;rfl'
  by_cases ha:(0:Int)<a.cnt
  ·simp only[ha,if_true];have ga:a.good:=by
    rcases g with g|g|g
    ·exact g.1
    ·rw[g.1]at ha;simp[Kd.cnt]at ha
    ·exact g.1
   ∎;refine⟨by rw[B.least];rfl,iha ga bd.1 ⋯ ⋯ ⋯ λp k1 h1 p1 m1 o1=>?_⟩;exact b8 (q (.left b p) (by simp only[Pg.kind,k1]) (by simp only[Pg.hgt,Kd.nest];lia) (by simp only[Pg.parts,Kd.nest];lia) ⟨⋯,m1⟩ ⟨λi=>by simp only[Pg.oc,o1.1],λΔ=>o1.2 Δ⟩)
  ·simp only[ha,if_false];have gb:b.good:=by
    rcases g with g|g|g
    ·exact g.2
    ·exact g.2
    ·exact absurd (Kd.good_pos g.1) ⋯
   ∎;refine⟨by rw[B.least];rfl,ihb gb bd.2.1 ⋯ ⋯ ⋯ λp k1 h1 p1 m1 o1=>?_⟩;exact b8 (q (.right a p) (by simp only[Pg.kind,k1]) (by simp only[Pg.hgt,Kd.nest];lia) (by simp only[Pg.parts,Kd.nest];lia) ⟨⋯,m1⟩ ⟨λi=>by simp only[Pg.oc,o1.1],λΔ=>o1.2 Δ⟩)
abbrev GSp(e:Int)(P:d6)(G:Gs)(f:Str)(n dp deep:Nat):Prop:=∀{da ra:AM}{k:Kd}{Γ:List Kd}{st:Sto}{Q:DK}{r:Int},da≠ra->f8 st da->Rm r st ra->k.good->k.bd 100->k.nest<=dp->Γ.length+deep<=900 ->
 (∀(p:Pg)st' r',p.kind Γ=AA k->p.hgt<=deep+7->p.kn 6->Cn e deep Γ p r r'->f8 st' da->Rm r' st' ra->Kp [da,ra] st st'->Q p.d st')->sem P G n f [.ref da,k.d,.tup (Γ.map Kd.d),.ref ra,.int deep] st Q
def ce2{n deep:Nat}(hn:12<=n)(ih:GSp 0 P G "_law_grown" n 5 deep):GSp 1 P G "_law_made" (n+1) 5 (deep+1):=by
 intro da ra k Γ st Q r0 hne I R g bd n5 hΓ q;have ed:((deep+1:Nat):Int)-1=(deep:Nat):=by lia
 obtain⟨n,rfl⟩:∃m,n=m+1:=⟨n-1,⋯⟩;cases k with
 |non=>exact g.elim
 |one=>
  refine d4 B.made rfl [AA (.ref da),AA Kd.one.d,AA (.tup (Γ.map Kd.d)),AA (.ref ra),AA (.int (deep+1:Nat)),AE,AE,AE,AE] rfl ?_;unfold F9;simp only[Kd.d];(iterate 3 ∎);exact⟨by rw[B.least];rfl,ai0 B .one g bd ∅ (by simp only[Kd.nest];lia) (by simp only[Kd.nest];lia) λp k1 h1 _ m1 o1=>b8 (q p _ _ k1 (by simp only[Kd.nest]at h1;lia) m1 (Cn.leaf o1) I R Kp.refl)⟩
 |both a b=>
  simp only[Kd.nest]at n5;refine d4 B.made rfl [AA (.ref da),AA (Kd.both a b).d,AA (.tup (Γ.map Kd.d)),AA (.ref ra),AA (.int (deep+1:Nat)),AE,AE,AE,AE] rfl ?_;unfold F9;simp only[Kd.d];(iterate 4 ∎);rw[ed];refine⟨by rw[B.grown];rfl,ih hne I R g.1 bd.1 ⋯ ⋯ λp st1 r1 k1 h1 m1 c1 I1 R1 K1=>?_⟩;∎;rw[ed];refine⟨by rw[B.grown];rfl,ih hne I1 R1 g.2 bd.2.1 ⋯ ⋯ λp2 st2 r2 k2 h2 m2 c2 I2 R2 K2=>?_⟩;exact b8 (q (.pair p p2) _ _ (by simp only[Pg.kind,k1,k2]) (by simp only[Pg.hgt];lia) ⟨m1,m2⟩ (c1.k2 c2 (λ_=>rfl) λx y=>⟨x,y⟩) I2 R2 (K1.trans K2))
 |way a b=>
  simp only[Kd.nest]at n5;refine d4 B.made rfl [AA (.ref da),AA (Kd.way a b).d,AA (.tup (Γ.map Kd.d)),AA (.ref ra),AA (.int (deep+1:Nat)),AE,AE,AE,AE] rfl ?_;unfold F9;simp only[Kd.d];(iterate 5 ∎);rw[U1,ed];refine⟨by rw[B.grown];rfl,W6 (by simp only[Am];lia),ih hne I R g.2.1 bd.2.1 ⋯ (by simp only[AG];lia) λp st1 r1 k1 h1 m1 c1 I1 R1 K1=>?_⟩;exact b8 (q (.way a p) _ _ (by simp only[Pg.kind,k1]) (by simp only[Pg.hgt];lia) ⟨⋯,m1⟩ (c1.k1b (λ_=>rfl) λx=>x) I1 R1 K1)
 |eith a b=>
  simp only[Kd.nest]at n5;refine d4 B.made rfl [AA (.ref da),AA (Kd.eith a b).d,AA (.tup (Γ.map Kd.d)),AA (.ref ra),AA (.int (deep+1:Nat)),AE,AE,AE,AE] rfl ?_;unfold F9;simp only[Kd.d];(iterate 5 ∎);refine⟨by rw[B.next];rfl,l8 B.toPB0 ∅ I λr st1 r0 r1 I1 K1=>?_⟩;have R1:=R.keep K1 (by simp;exact λz=>hne z.symm);have K1:=K1.w2 ra;have fin:∀(s:Int),(s=0/\a.good)\/(s=1/\b.good)->c9 (Zg P G (n+1)) (F9.body.drop 6) (e8 Q) [AA (.ref da),AA (Kd.eith a b).d,AA (.tup (Γ.map Kd.d)),AA (.ref ra),AA (.int (deep+1:Nat)),AA (.str "either"),AE,AA (.int s),AE] st1:=by
   intro s hs;simp only[F9,Ss.drop,Kd.d]
   rcases hs with⟨rfl,ga⟩|⟨rfl,gb⟩
   ·∎;rw[ed];refine⟨by rw[B.grown];rfl,a.d,rfl,ih hne I1 R1 ga bd.1 ⋯ ⋯ λp st2 r2 k2 h2 m2 c2 I2 R2 K2=>?_⟩;∎;intro x hx;rfl';exact⟨b.d,rfl,b8 (q (.left b p) _ _ (by simp only[Pg.kind,k2]) (by simp only[Pg.hgt];lia) ⟨⋯,m2⟩ (c2.k1 (λ_=>rfl) λx=>x) (I2.new hx) (R2.new hx) ((K1.trans K2).new hx))⟩
   ·∎;rw[ed];refine⟨by rw[B.grown];rfl,b.d,rfl,ih hne I1 R1 gb bd.2.1 ⋯ ⋯ λp st2 r2 k2 h2 m2 c2 I2 R2 K2=>?_⟩;∎;intro x hx;rfl';exact⟨a.d,rfl,b8 (q (.right a p) _ _ (by simp only[Pg.kind,k2]) (by simp only[Pg.hgt];lia) ⟨⋯,m2⟩ (c2.k1 (λ_=>rfl) λx=>x) (I2.new hx) (R2.new hx) ((K1.trans K2).new hx))⟩
  have go:∀c:Kd,c.good\/c=.non->(c.cnt:Int)≠0->c.good:=λc h hz=>h.elim id λe=>by subst e;simp[Kd.cnt]at hz
  have ga:a.good\/a=.non:=by rcases g with g|g|g<;>simp[g]
  have gb:b.good\/b=.non:=by rcases g with g|g|g<;>simp[g]
  ∎;obtain rfl|rfl:r=0\/r=1:=by lia
  ·refine⟨by rw[B.count];rfl,a.d,rfl,A2 B.toPB0 a (m:=100) ⋯ (J8 bd.1) ∅ ?_⟩;rfl'
   by_cases hz:(a.cnt:Int)=0
   ·simp only[hz,if_true];∎;exact fin 1 (.inr ⟨rfl,g.elim (λg=>g.2) λg=>g.elim (λg=>g.2) λg=>absurd (Kd.good_pos g.1) ⋯⟩)
   ·simp only[hz,if_false];exact fin 0 (.inl ⟨rfl,go a ga hz⟩)
  ·refine⟨by rw[B.count];rfl,b.d,rfl,A2 B.toPB0 b (m:=100) ⋯ (J8 bd.2.1) ∅ ?_⟩;rfl'
   by_cases hz:(b.cnt:Int)=0
   ·simp only[hz,if_true];∎;exact fin 0 (.inl ⟨rfl,g.elim (λg=>g.1) λg=>g.elim (λg=>absurd (Kd.good_pos g.2) ⋯) λg=>g.1⟩)
   ·simp only[hz,if_false];exact fin 1 (.inr ⟨rfl,go b gb hz⟩)
omit B in
theorem cn6{k:Kd}(h:k∈Γ):∃j:Nat,Γ[j]?=AA k/\∀(i:Nat)c,i<j->Γ[i]?=AA c->c≠k:=by
 induction Γ with
 |nil=>cases h
 |cons c Γ ih=>
  by_cases e:c=k
  ·exact⟨0,by rw[e];rfl,λi c hi=>⋯⟩
  ·obtain⟨j,hj,hb⟩:=ih (by rcases AT.mp h with z|z;exact absurd z.symm e;exact z);refine⟨j+1,hj,λi d hi hd=>?_⟩;cases i with
   |zero=>cases hd;exact e
   |succ i=>exact hb i d ⋯ hd
omit B in
theorem ct5{k:Kd}(h:k∈Γ)(hn:k.nest<=100)(q:∀j:Nat,Γ[j]?=AA k->Q (.int j) st):N2 (.tup (Γ.map Kd.d)) k.d st Q:=by
 obtain⟨j,hj,hb⟩:=cn6 h;refine⟨t7 k,ag3 Γ,by rw[t9];lia,j,k.d,by rw[CJ,hj];rfl,by rw[V2];simp,λi e hi he=>?_,q j hj⟩;rw[CJ]at he;cases hc:Γ[i]? with
 |none=>rw[hc]at he;cases he
 |some c=>rw[hc]at he;cases he;rw[V2];simp[hb i c hi hc]
omit B in
theorem cm4{k:Kd}:((Γ.map Kd.d).any λy=>deq y k.d)=AB (k∈Γ):=by
 induction Γ with
 |nil=>rfl
 |cons c Γ ih=>rw[AV,Cp,ih,V2];simp only[AT,JG];congr 1;exact decide_eq_decide.mpr ⟨Iw,Iw⟩
omit B in
theorem b44{d:Nat}{k:Kd}{r:Int}(h:Γ[j]?=AA .non):Cn 1 d Γ (.never k (.name j)) r r:=
 ⟨⟨λ_=>⋯,λz=>⋯,⋯⟩,λi a h1 h2=>by
  have:j≠i:=λz=>by subst z;rw[h]at h1;cases h1;exact h2 rfl
  simp only[Pg.oc,this,if_false];lia,trivial⟩
def b66{n deep:Nat}(hn:12<=n)(ih:GSp 0 P G "_law_grown" n 5 deep):GSp 1 P G "_law_asked" (n+1) 4 (deep+1):=by
 intro da ra k Γ st Q r0 hne I R g bd n5 hΓ q;have ed:((deep+1:Nat):Int)-1=(deep:Nat):=by lia
 obtain⟨n,rfl⟩:∃m,n=m+1:=⟨n-1,⋯⟩;have hra:ra∉[da]:=by simp;exact λz=>hne z.symm
 refine d4 B.asked rfl [AA (.ref da),AA k.d,AA (.tup (Γ.map Kd.d)),AA (.ref ra),AA (.int (deep+1:Nat)),AE,AE,AE,AE,AE] rfl ?_;unfold M4;∎;refine⟨by rw[B.kind];rfl,U6 B.toPB0 (most:=4) ∅ ∅ 1 ⋯ I λko st1 go bo no I1 K1=>?_⟩;have R1:=R.keep K1 hra;have K1:=K1.w2 ra;have fin:∀ko:Kd,ko.good->ko.bd 4->ko.nest<=1->(Kd.both k ko).bd 100->(Kd.both ko k).bd 100->(Kd.way ko k).bd 100->c9 (Zg P G (n+1)) (M4.body.drop 2) (e8 Q) [AA (.ref da),AA k.d,AA (.tup (Γ.map Kd.d)),AA (.ref ra),AA (.int (deep+1:Nat)),AA ko.d,AE,AE,AE,AE] st1:=by
  intro ko go bo no b1 b2 b3;simp only[M4,Ss.drop];∎;refine⟨by rw[B.next];rfl,l8 B.toPB0 ∅ I1 λr st2 r0 r1 I2 K2=>?_⟩;have R2:=R1.keep K2 hra;have K2:=K1.trans (K2.w2 ra);have bo':=Kd.bd_mono (show 4<=100 by decide) bo;∎
  by_cases h0:r=0
  ·simp only[h0,if_true];∎;rw[ed];refine⟨by rw[B.grown];rfl,ih (k:=.both k ko) hne I2 R2 ⟨g,go⟩ b1 (by simp only[Kd.nest];lia) ⋯ λp st3 r3 k3 h3 m3 c3 I3 R3 K3=>?_⟩;exact b8 (q (.first p) _ _ (by simp only[Pg.kind,k3]) (by simp only[Pg.hgt];lia) m3 (c3.k1 (λ_=>rfl) λx=>x) I3 R3 (K2.trans K3))
  simp only[h0,if_false];∎
  by_cases h1:r=1
  ·simp only[h1,if_true];∎;rw[ed];refine⟨by rw[B.grown];rfl,ih (k:=.both ko k) hne I2 R2 ⟨go,g⟩ b2 (by simp only[Kd.nest];lia) ⋯ λp st3 r3 k3 h3 m3 c3 I3 R3 K3=>?_⟩;exact b8 (q (.second p) _ _ (by simp only[Pg.kind,k3]) (by simp only[Pg.hgt];lia) m3 (c3.k1 (λ_=>rfl) λx=>x) I3 R3 (K2.trans K3))
  simp only[h1,if_false];∎
  by_cases h2:r=2
  ·simp only[h2,if_true];∎;rw[ed];refine⟨by rw[B.grown];rfl,ih (k:=.way ko k) hne I2 R2 ⟨.inl go,g,Ag (Kd.bd_le bo) ∅⟩ b3 (by simp only[Kd.nest];lia) ⋯ λp st3 r3 k3 h3 m3 c3 I3 R3 K3=>?_⟩;∎;rw[ed];refine⟨by rw[B.grown];rfl,ih (k:=ko) hne I3 R3 go bo' ⋯ ⋯ λp4 st4 r4 k4 h4 m4 c4 I4 R4 K4=>?_⟩;exact b8 (q (.give p p4) _ _ (by simp only[Pg.kind,k3,k4,if_true]) (by simp only[Pg.hgt];lia) ⟨m3,m4⟩ (c3.k2 c4 (λ_=>rfl) λx y=>⟨x,y⟩) I4 R4 ((K2.trans K3).trans K4))
  simp only[h2,if_false];∎
  by_cases h3:r=3
  ·simp only[h3,if_true];∎;rw[ed];refine⟨by rw[B.grown];rfl,ih (k:=ko) hne I2 R2 go bo' ⋯ ⋯ λp st3 r3 k3 h3 m3 c3 I3 R3 K3=>?_⟩;∎;rw[ed,U1];refine⟨by rw[B.grown];rfl,W6 (by simp only[Am];lia),ih (k:=k) hne I3 R3 g bd ⋯ (by simp only[AG];lia) λp4 st4 r4 k4 h4 m4 c4 I4 R4 K4=>?_⟩;exact b8 (q (.lets p p4) _ _ (by simp only[Pg.kind,k3,k4]) (by simp only[Pg.hgt];lia) ⟨m3,m4⟩ (c3.k2b c4 (λ_=>rfl) λx y=>⟨x,λa ha=>by rw[k3]at ha;cases ha;exact⟨⋯,y⟩⟩) I4 R4 ((K2.trans K3).trans K4))
  simp only[h3,if_false];have fin2:c9 (Zg P G (n+1)) (M4.body.drop 8) (e8 Q) [AA (.ref da),AA k.d,AA (.tup (Γ.map Kd.d)),AA (.ref ra),AA (.int (deep+1:Nat)),AA ko.d,AA (.int r),AE,AE,AE] st2:=by
   simp only[M4,Ss.drop];∎;refine⟨by rw[B.kind];rfl,U6 B.toPB0 (most:=4) ∅ ∅ 1 ⋯ I2 λkm st3 gm bm nm I3 K3=>?_⟩;have R3:=R2.keep K3 hra;have K3:=K2.trans (K3.w2 ra);have bm':=Kd.bd_mono (show 4<=100 by decide) bm;have lo:=Kd.bd_le bo;have lm:=Kd.bd_le bm;∎;rw[ed];refine⟨by rw[B.grown];rfl,ih (k:=.eith ko km) hne I3 R3 (.inl ⟨go,gm⟩) ⟨bo',bm',⋯⟩ (by simp only[Kd.nest];lia) ⋯ λp4 st4 r4 k4 h4 m4 c4 I4 R4 K4=>?_⟩;∎;rw[ed,U1];refine⟨by rw[B.grown];rfl,W6 (by simp only[Am];lia),ih (k:=k) hne I4 R4 g bd ⋯ (by simp only[AG];lia) λp5 st5 r5 k5 h5 m5 c5 I5 R5 K5=>?_⟩;∎;rw[ed,U1];refine⟨by rw[B.grown];rfl,W6 (by simp only[Am];lia),ih (k:=k) hne I5 R5 g bd ⋯ (by simp only[AG];lia) λp6 st6 r6 k6 h6 m6 c6 I6 R6 K6=>?_⟩;exact b8 (q (.case p4 p5 p6) _ _ (by simp only[Pg.kind,k4,k5,k6,if_true]) (by simp only[Pg.hgt];lia) ⟨m4,m5,m6⟩ (c4.k3 c5 c6 λx y z=>⟨x,λa b ha=>by rw[k4]at ha;cases ha;exact⟨⟨⋯,⋯⟩,y,z⟩⟩) I6 R6 (((K3.trans K4).trans K5).trans K6))
  have hnone:(D.tup [.str "none"])=Kd.non.d:=rfl;∎
  by_cases h4:r=4
  ·simp only[h4,if_true];rw[hnone,cm4];refine⟨t7 _,ag3 _,by rw[t9];decide,?_⟩;rfl'
   by_cases hm:Kd.non∈Γ
   ·simp only[hm,if_true];∎;rw[hnone];refine ct5 hm ∅ λj hj=>?_;exact b8 (q (.never k (.name j)) _ _ (by simp only[Pg.kind,hj]) (by simp only[Pg.hgt];lia) ⟨⋯,trivial⟩ (b44 hj) I2 R2 K2)
   ·simp only[hm,if_false];subst h4;exact fin2
  ·simp only[h4,if_false];exact fin2
 have lk:=Kd.bd_le bd;have bo':=Kd.bd_mono (show 4<=100 by decide) bo;have one:∀k:Kd,k.bd 100->(Kd.both k .one).bd 100/\(Kd.both .one k).bd 100/\(Kd.way .one k).bd 100:=λk h=>by
  have:=Kd.bd_le h;have o:Kd.one.bd 100:=(show 1<=100 by decide);exact⟨⟨h,o,by simpa[Kd.cnt]using this⟩,⟨o,h,by simpa[Kd.cnt]using this⟩,⟨o,h,by simpa[Kd.cnt]using this⟩⟩
 have⟨o1,o2,o3⟩:=one k bd;∎;refine⟨by rw[B.count];rfl,A2 B.toPB0 (.both k ko) (m:=100) (by simp only[Kd.nest];lia) (λc d e=>by rcases e with e|e|e<;>cases e;exact⟨bd,bo'⟩) ∅ ?_⟩;rfl'
 by_cases hb:(100:Int)<(Kd.both k ko).cnt
 ·simp only[hb,if_true];∎;exact fin .one trivial (show 1<=4 by decide) ∅ o1 o2 o3
 ·simp only[hb,if_false];refine⟨by rw[B.count];rfl,A2 B.toPB0 (.way ko k) (m:=100) (by simp only[Kd.nest];lia) (λc d e=>by rcases e with e|e|e<;>cases e;exact⟨bo',bd⟩) ∅ ?_⟩;rfl'
  by_cases hw:(100:Int)<(Kd.way ko k).cnt
  ·simp only[hw,if_true];∎;exact fin .one trivial (show 1<=4 by decide) ∅ o1 o2 o3
  ·simp only[hw,if_false];simp only[Kd.cnt]at hb hw;exact fin ko go bo no ⟨bd,bo',⋯⟩ ⟨bo',bd,by rw[GY];lia⟩ ⟨bo',bd,⋯⟩
end
theorem ao7:∀(ds:List D)(i:Nat),(j8 i ds).length=ds.length
 |[],_=>rfl
 |_::ds,i=>by show(j8 (i+1) ds).length+1=ds.length+1;rw[ao7 ds]
def b69{d:Nat}{p:Pg}{r:Int}(h:(∀i,p.oc i=0)/\∀Δ,p.nl 6 Δ):Cn 0 d Γ p r (r-1):=⟨⟨λ_=>⋯,λ_ _=>rfl,⋯⟩,λi a _ _=>by rw[h.1 i];lia,h.2 Γ⟩
def cd4{d:Nat}{r:Int}:Cn 0 d Γ (.name j) r (r-1):=⟨⟨λ_=>⋯,λ_ _=>rfl,⋯⟩,λi a _ _=>by simp only[Pg.oc,Pg.parts];split<;>lia,trivial⟩
def ah7{d:Nat}{p:Pg}{r r':Int}(h:¬r-1<=0)(c:Cn 1 d Γ p (r-1) r'):Cn 0 d Γ p r r':=
 ⟨⟨λ_=>c.1.1 ⋯,λ_ z=>⋯,by have:=c.1.2.2;lia⟩,λi a h1 h2=>by have:=c.2.1 i a h1 h2;lia,c.2.2⟩
section
variable [NoRs G] (B:PB P) {n:Nat} 
include B
def at9(deep:Nat){n:Nat}(hn:14<=n+2)(hm:0<deep->GSp 1 P G "_law_made" (n+1) 5 deep)(ha:0<deep->GSp 1 P G "_law_asked" (n+1) 4 deep):GSp 0 P G "_law_grown" (n+2) 5 deep:=by
 intro da ra k Γ st Q r hne I R g bd n5 hΓ q;have hra:ra∉[da]:=by simp;exact λz=>hne z.symm
 refine d4 B.grown rfl [AA (.ref da),AA k.d,AA (.tup (Γ.map Kd.d)),AA (.ref ra),AA (.int deep),AE,AE] rfl ?_;unfold O8;∎;rw[w8 (.inl R)];rfl';refine⟨ra,0,0,_,rfl,rfl,R,rfl,?_⟩;have I1:f8 (b0 st ra (.lst [.int (r-1)])) da:=let⟨l,h⟩:=I;⟨l,d5 h hne⟩;have R1:(b0 st ra (.lst [.int (r-1)])) ra=AA (.lst [.int (r-1)]):=b7;have K1:Kp [da,ra] st (b0 st ra (.lst [.int (r-1)])):=Kp.refl.put ∎;show c9 _ _ _ _ (b0 st ra (.lst [.int (r-1)]));revert I1 R1 K1;generalize b0 st ra (.lst [.int (r-1)])=st1;intro I1 R1 K1;∎;refine⟨by rw[ao7,Am];lia,?_⟩;refine G2 (λl acc env' st'=>st'=st1/\∃(pre suf:List Kd)(x y:Option D)(acc':List Nat),Γ=pre++suf/\l=j8 pre.length (suf.map Kd.d)/\env'=[AA k.d,x,y]/\acc=acc'.map (λi:Nat=>D.int (i:Int))/\acc'.length<=pre.length/\∀i∈acc',Γ[i]?=AA k) ?_ ?_ _ _ _ _ ⟨rfl,[],Γ,AE,AE,[],rfl,rfl,rfl,rfl,Ae _,∎⟩
 ·rintro acc env' st' ⟨rfl,pre,suf,x,y,acc',eΓ,el,rfl,rfl,al,hacc⟩;refine⟨trivial,λsp hsp=>?_⟩;have I2:=I1.new (u:=.lst (acc'.map (λi:Nat=>D.int (i:Int)))) hsp;have R2:=d7 (u:=.lst (acc'.map (λi:Nat=>D.int (i:Int)))) R1 hsp;have K2:=K1.new (o:=.lst (acc'.map (λi:Nat=>D.int (i:Int)))) hsp;have S2:b0 st' sp (.lst (acc'.map (λi:Nat=>D.int (i:Int)))) sp=AA (.lst (acc'.map (λi:Nat=>D.int (i:Int)))):=b7;have nds:sp∉[da]:=by simp;exact λz=>I1.ne hsp z.symm
  revert I2 R2 K2 S2;generalize b0 st' sp (.lst (acc'.map (λi:Nat=>D.int (i:Int))))=st2;intro I2 R2 K2 S2;∎;refine⟨by rw[B.next];rfl,l8 B.toPB0 ∅ I2 λw st3 w0 w1 I3 K3=>?_⟩;have R3:=K3.at' R2 hra;have S3:=K3.at' S2 nds;have K3:=K2.trans (K3.w2 ra);have fin:c9 (Zg P G (n+1)) (O8.body.drop 4) (e8 Q) [AA (.ref da),AA k.d,AA (.tup (Γ.map Kd.d)),AA (.ref ra),AA (.int deep),AA (.ref sp),AA (.int w)] st3:=by
   simp only[O8,Ss.drop];have lst:c9 (Zg P G (n+1)) (.cons (.ret (.call "_law_least" (.cons (.v 1) (.cons (.v 2) .nil)))) .nil) ⟨c9 (Zg P G (n+1)) (O8.body.drop 5) (e8 Q),(e8 Q).rt,(e8 Q).bk,(e8 Q).ct⟩ [AA (.ref da),AA k.d,AA (.tup (Γ.map Kd.d)),AA (.ref ra),AA (.int deep),AA (.ref sp),AA (.int w)] st3:=by
    ∎;exact⟨by rw[B.least];rfl,ai0 B k g bd ⋯ ⋯ ⋯ λp k1 h1 _ m1 o1=>b8 (q p _ (r-1) k1 ⋯ m1 (b69 o1) I3 R3 K3)⟩
   have hnone:(D.tup [.str "none"])=Kd.non.d:=rfl;have kn:k≠.non:=λz=>by subst z;exact g
   ∎;rw[w8 (.inl R3)];rfl'
   by_cases h1:r-1<=0
   ·simp only[h1,if_true];exact lst
   simp only[h1,if_false]
   by_cases h2:(deep:Int)<=0
   ·simp only[h2,if_true];exact lst
   simp only[h2,if_false];rw[hnone,Q8,V2];refine⟨t7 _,t7 _,by rw[t9,t9];exact Ag (GP _ _) ⋯,?_⟩;rfl';simp only[kn,if_false];∎
   by_cases h6:w<6
   ·simp only[h6,if_true];∎;exact⟨by rw[B.made];rfl,hm ⋯ hne I3 R3 g bd n5 hΓ λp st4 r4 k4 h4 m4 c4 I4 R4 K4=>b8 (q p _ r4 k4 h4 m4 (ah7 ⋯ c4) I4 R4 (K3.trans K4))⟩
   simp only[h6,if_false];refine⟨by rw[B.nest];rfl,b74 B k ⋯ ?_⟩;rfl'
   by_cases h5:(4:Int)<k.nest
   ·simp only[h5,if_true];∎;exact⟨by rw[B.made];rfl,hm ⋯ hne I3 R3 g bd n5 hΓ λp st4 r4 k4 h4 m4 c4 I4 R4 K4=>b8 (q p _ r4 k4 h4 m4 (ah7 ⋯ c4) I4 R4 (K3.trans K4))⟩
   simp only[h5,if_false];∎;exact⟨by rw[B.asked];rfl,ha ⋯ hne I3 R3 g bd ⋯ hΓ λp st4 r4 k4 h4 m4 c4 I4 R4 K4=>b8 (q p _ r4 k4 h4 m4 (ah7 ⋯ c4) I4 R4 (K3.trans K4))⟩
  ∎;rw[r9 (.inl S3)];rfl'
  by_cases hl:(0:Int)<((acc'.map (λi:Nat=>D.int (i:Int))).length:Nat)
  ·simp only[hl,if_true]
   by_cases h3:w<3
   ·simp only[h3,if_true];∎;rw[r9 (.inl S3)];refine⟨by rw[B.next];rfl,l8 B.toPB0 hl I3 λj st4 j0 j1 I4 K4=>?_⟩;have S4:=K4.at' S3 nds;have R4:=K4.at' R3 hra;have K4:=K3.trans (K4.w2 ra);rw[w8 (.inl S4)];obtain⟨j,rfl⟩:=Int.eq_ofNat_of_zero_le j0;rw[Am]at j1;have hj:j<acc'.length:=by lia
    refine⟨.int (acc'[j]:Int),?_,b8 (q (.name acc'[j]) _ (r-1) (hacc _ (Ix hj)) (by simp only[Pg.hgt];lia) trivial cd4 I4 R4 K4)⟩;show atI _ ((j:Nat):Int)=_;rw[A4,CJ,AX hj];rfl
   ·simp only[h3,if_false];exact fin
  ·simp only[hl,if_false];exact fin
 ·rintro d ds acc env' st' ih ⟨rfl,pre,suf,x,y,acc',eΓ,el,rfl,rfl,al,hacc⟩;refine⟨trivial,?_⟩;cases suf with
  |nil=>simp[j8]at el
  |cons c suf=>
   simp only[AV,j8,BO]at el;obtain⟨rfl,rfl⟩:=el;have hc:Γ[pre.length]?=AA c:=by rw[eΓ];simp
   rfl';rw[Q8,V2];refine⟨t7 _,t7 _,by rw[t9,t9];exact Ag (EF _ _) ⋯,?_⟩;rfl'
   by_cases e:c=k
   ·simp only[e,if_true];refine ih _ _ _ ⟨rfl,pre++[c],suf,_,_,acc'++[pre.length],by rw[eΓ];simp,∎,rfl,∎,by simp;lia,λi hi=>?_⟩
    rcases Au.mp hi with hi|hi
    ·exact hacc i hi
    ·simp only[FV]at hi;subst hi;rw[hc,e]
   ·simp only[e,if_false];exact ih _ _ _ ⟨rfl,pre++[c],suf,_,_,acc',by rw[eΓ];simp,∎,rfl,rfl,by simp;lia,hacc⟩
theorem ah9:∀(deep:Nat){n:Nat},2*deep+14<=n->GSp 0 P G "_law_grown" n 5 deep
 |0,n,hn=>by
  obtain⟨n,rfl⟩:∃m,n=m+2:=⟨n-2,⋯⟩;exact at9 B 0 ⋯ (λh=>absurd h ∅) (λh=>absurd h ∅)
 |deep+1,n,hn=>by
  obtain⟨n,rfl⟩:∃m,n=m+2:=⟨n-2,⋯⟩;exact at9 B (deep+1) ⋯ (λ_=>ce2 B ⋯ (ah9 deep ⋯)) (λ_=>b66 B ⋯ (ah9 deep ⋯))
end
def Kp.fresh{a p:AM}(h:Kp [a,p] (b0 st p o) st')(hp:st p=AE):Kp [a] st st':=λb u n e=>by
 have nb:b≠p:=A9 e hp;exact h b u (by simp at n ⊢;exact⟨n,nb⟩) (by rw[g6 nb];exact e)
def Pg.parts_kids(p:Pg):p.parts=1+(p.kids.map Pg.parts).sum:=by
 cases p<;>simp only[Pg.parts,Pg.kids,AV,BS,DF,Ee]<;>lia
def Pg.hgt_kids(p:Pg):∀c∈p.kids,c.hgt<p.hgt:=by
 cases p<;>simp only[Pg.hgt,Pg.kids,AT,Ad,or_false,false_imp_iff,implies_true,forall_eq_or_imp,forall_eq]<;>lia
def Pg.kn_kids(p:Pg)(h:p.kn m):∀c∈p.kids,c.kn m:=by
 cases p<;>simp only[Pg.kn,Pg.kids,AT,Ad,or_false,false_imp_iff,implies_true,forall_eq_or_imp,forall_eq]at h ⊢<;>first|exact h|exact h.2
section
variable [NoRs G] (B:PB P) {n:Nat} 
include B
def ar1(p:Pg)(q:Q (.tup (p.kids.map Pg.d)) st):sem P G (n+1) "_law_inner" [p.d] st Q:=by
 refine d4 B.inner rfl [AA p.d,AE] rfl ?_;unfold Y7;cases p<;>simp only[Pg.d]
 case name=>
  (iterate 3 ∎);exact b8 q
 all_goals
  (iterate 3 ∎);simp only[i8,k8,d8,Ab,true_and,Cp,Ef,l7,o9,Bm,decide_true,decide_false,CS,Bq,CB,Bl,g7,if_true,Ar,if_false];exact⟨∅,∅,b8 q⟩
def b59:∀(h:Nat)(p:Pg){n:Nat}{st:Sto}{Q:DK},p.hgt<=h->h+2<=n->(∀st',Kp [] st st'->Q (.int p.parts) st')->sem P G n "_law_parts" [p.d] st Q:=by
 intro h
 induction h with
 |zero=>intro p n st Q hp;cases p<;>simp only[Pg.hgt]at hp<;>lia
 |succ h ih=>
  intro p n st Q hp hn q;obtain⟨n,rfl⟩:∃m,n=m+2:=⟨n-2,⋯⟩;refine d4 B.parts rfl [AA p.d] rfl ?_;unfold af0;∎;refine⟨by rw[B.inner];rfl,ar1 B p ?_⟩;rfl';refine⟨by rw[Am];cases p<;>simp only[Pg.kids,AG,AN]<;>decide,?_⟩;refine G2 (λl acc env' st'=>Kp [] st st'/\∃(pre suf:List Pg)(x:Option D),p.kids=pre++suf/\l=suf.map Pg.d/\env'=[x]/\acc=(pre.map λc=>D.int (c.parts:Nat))) ?_ ?_ _ _ _ _ ⟨Kp.refl,[],p.kids,AE,rfl,rfl,rfl,rfl⟩
  ·rintro acc env' st' ⟨K,pre,suf,x,ek,el,rfl,rfl⟩;refine⟨trivial,λa ha=>?_⟩;have es:suf=[]:=by simpa using el.symm
   subst es;have e:(pre.map λc:Pg=>D.int (c.parts:Nat))=(pre.map λc:Pg=>((c.parts:Nat):Int)).map D.int:=by rw[EH];rfl
   refine⟨_,.inl (by rw[<-e];exact b7),?_⟩;rfl';have e2:(1:Int)+(pre.map λc:Pg=>((c.parts:Nat):Int)).sum=(p.parts:Nat):=by
    rw[Pg.parts_kids p,ek,Ac];generalize pre=l
    induction l with
    |nil=>rfl
    |cons c l ih=>simp only[AV,DF]at ih ⊢;lia
   rw[e2];exact b8 (q _ (K.new ha))
  ·rintro d ds acc env' st' ihc ⟨K,pre,suf,x,ek,el,rfl,rfl⟩;refine⟨trivial,?_⟩;cases suf with
   |nil=>simp at el
   |cons c suf=>
    simp only[AV,BO]at el;obtain⟨rfl,rfl⟩:=el;rfl';have hc:=Pg.hgt_kids p c (by rw[ek];simp);refine⟨by rw[B.parts];rfl,ih c ⋯ ⋯ λst2 K2=>ihc _ _ _ ⟨K.trans K2,pre++[c],suf,_,by rw[ek];simp,rfl,rfl,∎⟩⟩
def bt8{k:Kd}{many:Int}(hm:many<=33)(hn:40<=n)(I:f8 st da)(g:k.good)(bd:k.bd 100)(n5:k.nest<=5)(hΓ:Γ.length<=800)(q:∀(p:Pg)st',p.kind Γ=AA k->p.hgt<=15->p.parts<=64->p.kn 6->(k.nest<=4->p.parts<=60/\∀i a,Γ[i]?=AA a->a≠.non->p.parts+59*p.oc i<=2000)->p.nl 6 Γ->f8 st' da->Kp [da] st st'->Q p.d st'):sem P G n "_law_program" [.ref da,k.d,.tup (Γ.map Kd.d),.int many] st Q:=by
 obtain⟨n,rfl⟩:∃m,n=m+1:=⟨n-1,⋯⟩;refine d4 B.program rfl [AA (.ref da),AA k.d,AA (.tup (Γ.map Kd.d)),AA (.int many),AE] rfl ?_;unfold ae8;∎;refine⟨by rw[B.grown];rfl,λra hra=>?_⟩;refine ah9 B 8 ⋯ (I.ne hra) (I.new hra) b7 g bd n5 ⋯ λp st1 r1 k1 h1 m1 c1 I1 R1 K1=>?_;have K1:=K1.fresh hra;∎;refine⟨by rw[B.parts];rfl,b59 B 15 p ⋯ ⋯ λst2 K2=>?_⟩;have I2:=I1.keep K2 ∎;have K2:=K1.trans (K2.more ∎);rfl'
 by_cases hp:(60:Int)<(p.parts:Nat)
 ·simp only[hp,if_true];∎;refine⟨by rw[B.least];rfl,ai0 B k g bd ⋯ ⋯ ⋯ λp3 k3 h3 p3' m3 o3=>b8 (q p3 _ k3 ⋯ ?_ m3 (λhk=>?_) (o3.2 Γ) I2 K2)⟩
  ·have:2^(k.nest+1)<=2^6:=Ak ∅ ⋯;lia
  ·have:2^(k.nest+1)<=2^5:=Ak ∅ ⋯;exact⟨⋯,λi a _ _=>by rw[o3.1 i];lia⟩
 ·simp only[hp,if_false];∎;exact b8 (q p _ k1 h1 ⋯ m1 (λ_=>⟨⋯,λi a h1 h2=>by
   have:=c1.2.1 i a h1 h2;have:=c1.1.1;have:=c1.1.2.1 rfl;have:=c1.1.2.2;lia⟩) c1.2.2 I2 K2)
def bt7{k:Kd}{many:Int}(hm:many<=33)(hn:40<=n)(I:f8 st da)(g:k.good)(bd:k.bd 100)(n5:k.nest<=5)(hΓ:Γ.length<=800)(q:∀(p:Pg)st',p.kind Γ=AA k->p.hgt<=15->p.parts<=64->p.kn 6->(k.nest<=4->p.parts<=60/\∀i a,Γ[i]?=AA a->a≠.non->p.parts+59*p.oc i<=2000)->f8 st' da->Kp [da] st st'->Q p.d st'):sem P G n "_law_program" [.ref da,k.d,.tup (Γ.map Kd.d),.int many] st Q:=
 bt8 B hm hn I g bd n5 hΓ λp st1 k1 h1 p1 m1 c1 _ I1 K1=>q p st1 k1 h1 p1 m1 c1 I1 K1
omit B in
abbrev A7:List Kd->Nat
 |[]=>1
 |k::r=>max 1 k.cnt*A7 r
omit B in
theorem as0:∀(l:List Kd)(k:Kd),A7 (l++[k])=A7 l*max 1 k.cnt
 |[],k=>by simp[A7]
 |c::l,k=>by simp only[AZ,A7,as0 l k,Nat.mul_assoc]
def b32{most lines:Nat}(hn:20<=n)(hm:most<=100)(hl:1<=lines)(hl2:lines<=1000)(I:f8 st da)(q:∀(Γ:List Kd)st',Γ.length<=most->(∀k∈Γ,(k.good\/k=.non)/\k.bd 16/\k.nest<=2)->A7 Γ<=lines->f8 st' da->Kp [da] st st'->Q (.tup (Γ.map Kd.d)) st'):sem P G n "_law_names" [.ref da,.int most,.int lines] st Q:=by
 obtain⟨n,rfl⟩:∃m,n=m+2:=⟨n-2,⋯⟩;refine d4 B.names rfl [AA (.ref da),AA (.int most),AA (.int lines),AE,AE,AE,AE] rfl ?_;unfold C7;(iterate 3 ∎);refine⟨by rw[B.next];rfl,l8 B.toPB0 ⋯ I λr st1 r0 r1 I1 K1=>⟨r,rfl,⋯,?_⟩⟩;refine G4 (λl env st'=>f8 st' da/\Kp [da] st st'/\∃(Γ:List Kd)(x y:Option D),env=[AA (.ref da),AA (.int most),AA (.int lines),AA (.tup (Γ.map Kd.d)),AA (.int (A7 Γ:Nat)),x,y]/\Γ.length+l.length<=most/\(∀k∈Γ,(k.good\/k=.non)/\k.bd 16/\k.nest<=2)/\A7 Γ<=lines) ?_ ?_ _ _ _ ⟨I1,K1,[],AE,AE,rfl,by simp[i6];lia,∎,hl⟩
 ·rintro env st' ⟨I2,K2,Γ,x,y,rfl,h1,h2,h3⟩;refine⟨trivial,?_⟩;∎;exact b8 (q Γ _ (by simpa using h1) h2 h3 I2 K2)
 ·rintro d ds env st' ih ⟨I2,K2,Γ,x,y,rfl,h1,h2,h3⟩;refine⟨trivial,?_⟩;rfl';∎;refine⟨by rw[B.kind];rfl,U6 B.toPB0 (most:=16) ∅ ∅ 2 ⋯ I2 λk st3 g3 b3 n3 I3 K3=>?_⟩;have K3:=K2.trans K3;∎;refine⟨by rw[B.next];rfl,l8 B.toPB0 ∅ I3 λr4 st4 _ _ I4 K4=>?_⟩;have K4:=K3.trans K4;have fin:∀k:Kd,(k.good\/k=.non)->k.bd 16->k.nest<=2->c9 (Zg P G (n+1)) (match C7.body.drop 2 with|.cons (.for _ _ b) _=>b.drop 2|_=>.nil) ⟨o4 (λ_=>True) (.n 5) (c9 (Zg P G (n+1)) (match C7.body.drop 2 with|.cons (.for _ _ b) _=>b|_=>.nil)) ⟨c9 (Zg P G (n+1)) (C7.body.drop 3) (e8 Q),(e8 Q).rt,(e8 Q).bk,(e8 Q).ct⟩ ds,(e8 Q).rt,c9 (Zg P G (n+1)) (C7.body.drop 3) (e8 Q),o4 (λ_=>True) (.n 5) (c9 (Zg P G (n+1)) (match C7.body.drop 2 with|.cons (.for _ _ b) _=>b|_=>.nil)) ⟨c9 (Zg P G (n+1)) (C7.body.drop 3) (e8 Q),(e8 Q).rt,(e8 Q).bk,(e8 Q).ct⟩ ds⟩ [AA (.ref da),AA (.int most),AA (.int lines),AA (.tup (Γ.map Kd.d)),AA (.int (A7 Γ:Nat)),AA d,AA k.d] st4:=by
   intro k hk bk nk;have lk:=Kd.bd_le bk;simp only[C7,Ss.drop];∎;have ex:(if(k.cnt:Int)>1 then(k.cnt:Int)else 1)=((max 1 k.cnt:Nat):Int):=by split<;>lia
   have em:((A7 Γ:Nat):Int)*((max 1 k.cnt:Nat):Int)=((A7 (Γ++[k]):Nat):Int):=by rw[as0];exact(JE _ _).symm
   refine⟨by rw[B.count];rfl,A2 B.toPB0 k (m:=16) ⋯ (J8 bk) ∅ ?_⟩;rfl';rw[ex,em];refine⟨P8 ⟨⋯,⋯⟩,?_⟩
   by_cases hle:((A7 (Γ++[k]):Nat):Int)<=(lines:Nat)
   ·simp only[hle,if_true];∎;refine⟨by rw[B.count];rfl,A2 B.toPB0 k (m:=16) ⋯ (J8 bk) ∅ ?_⟩;rfl';rw[ex,em];refine⟨P8 ⟨⋯,⋯⟩,?_⟩;simp only[AG]at h1;∎;refine⟨E8 (by simp only[Am];lia),ih _ _ ⟨I4,K4,Γ++[k],_,_,by rw[BY];rfl,by simp;lia,λc hc=>?_,⋯⟩⟩
    rcases Au.mp hc with hc|hc
    ·exact h2 c hc
    ·simp only[FV]at hc;subst hc;exact⟨hk,bk,nk⟩
   ·simp only[hle,if_false];simp only[AG]at h1;exact ih _ _ ⟨I4,K4,Γ,_,_,rfl,⋯,h2,h3⟩
  rfl'
  by_cases e1:r4=1
  ·simp only[e1,if_true];∎;exact fin .non (.inr rfl) trivial (An _)
  ·simp only[e1,if_false];exact fin k (.inl g3) b3 n3
end
def pfw:FW pf 44 2:=⟨⟨λ_=>rfl,λ_=>rfl,rfl,∅⟩,.inl rfl,∅,λ_=>∅,by unfold nd;lia,λc z=>by cases z;exact .inl ∅,λc hc=>by simp[pf]at hc;lia,nofun⟩
def ffw{w:String}{ex:List D}(h1:w≠"row")(h2:w≠"kind")(hp:D.pures ex=AC)(hl:ex.length<=10)(hm:m<=1000):FW (ff w ex m) 32 m:=⟨⟨λz=>absurd z h1,λz=>absurd z h2,hp,hl⟩,.inl rfl,hm,λ_=>by simp[ff],by unfold nd;lia,λc z=>by cases z;exact .inr ∅,λc hc=>by simp[ff]at hc;lia,λz=>absurd z h2⟩
def pu1(k:Kd):D.pures [k.d]=AC:=by rw[i8,t7];rfl
abbrev Pg.rd(g:Pg):Prop:=(∀i,g=.name i->i<10000)/\∀k:Kd,(∃t,g=.left k t\/g=.right k t\/g=.way k t\/g=.never k t)->k.nest<=6
def v7{g:Pg}(hk:g.kn 6)(hn:g.nm):g.rd:=⟨λi e=>by subst e;exact hn,λk⟨t,e⟩=>by rcases e with e|e|e|e<;>(subst e;exact hk.1)⟩
def cu1:∀g:Pg,g.kn 6->g.nm->g.tr.wf λt=>∃g:Pg,t=g.tr/\g.rd:=by
 intro g
 induction g with
 |name i=>intro a b;exact⟨_,rfl,v7 a b⟩
 |star=>intro a b;exact⟨_,rfl,v7 a b⟩
 |pair t u it iu=>intro a b;exact⟨⟨_,rfl,v7 a b⟩,pfw,CH _,it a.1 b.1,iu a.2 b.2,trivial⟩
 |first t it=>intro a b;exact⟨⟨_,rfl,v7 a b⟩,ffw ∅ ∅ rfl ∅ ∅,CH _,it a b,trivial⟩
 |second t it=>intro a b;exact⟨⟨_,rfl,v7 a b⟩,ffw ∅ ∅ rfl ∅ ∅,CH _,it a b,trivial⟩
 |left k t it=>intro a b;exact⟨⟨_,rfl,v7 a b⟩,ffw ∅ ∅ (pu1 k) (Bo rfl) ∅,CH _,it a.2 b,trivial⟩
 |right k t it=>intro a b;exact⟨⟨_,rfl,v7 a b⟩,ffw ∅ ∅ (pu1 k) (Bo rfl) ∅,CH _,it a.2 b,trivial⟩
 |way k t it=>intro a b;exact⟨⟨_,rfl,v7 a b⟩,ffw ∅ ∅ (pu1 k) (Bo rfl) ∅,CH _,it a.2 b,trivial⟩
 |never k t it=>intro a b;exact⟨⟨_,rfl,v7 a b⟩,ffw ∅ ∅ (pu1 k) (Bo rfl) ∅,CH _,it a.2 b,trivial⟩
 |give t u it iu=>intro a b;exact⟨⟨_,rfl,v7 a b⟩,ffw ∅ ∅ rfl ∅ ∅,CH _,it a.1 b.1,iu a.2 b.2,trivial⟩
 |lets t u it iu=>intro a b;exact⟨⟨_,rfl,v7 a b⟩,ffw ∅ ∅ rfl ∅ ∅,CH _,it a.1 b.1,iu a.2 b.2,trivial⟩
 |case t u v it iu iv=>intro a b;exact⟨⟨_,rfl,v7 a b⟩,ffw ∅ ∅ rfl ∅ ∅,CH _,it a.1 b.1,iu a.2.1 b.2.1,iv a.2.2 b.2.2,trivial⟩
abbrev Pg.wd:Pg->String
 |.name _=>"name"|.star=>"star"|.pair _ _=>"pair"|.first _=>"first"|.second _=>"second"|.left _ _=>"left"|.right _ _=>"right"
 |.case _ _ _=>"case"|.way _ _=>"way"|.give _ _=>"give"|.lets _ _=>"let"|.never _ _=>"never"
def t91:tx [91]=AD "[":=by decide
def chw:∀w∈["fst","snd","inl","inr","case","way","give","let","never"],ch ("["++w++" ")=91::(ch w++[32]):=by decide
abbrev bq0:Ss:=M0.body.tl'.tl'.tl'.tl'.tl'.tl'.tl'
def cv0{i:Nat}(hi:i<10000):((i:Int).natAbs).log2<1920:=by
 show i.log2<1920
 by_cases h0:i=0
 ·subst h0;decide
 ·exact Al ((KO h0).2 (Al hi (by decide:10000<=2^14))) ∅
def ce1(p:Pg)(h:p.nm):∀c∈p.kids,c.nm:=by
 cases p<;>simp only[Pg.nm,Pg.kids,AT,Ad,or_false,false_imp_iff,implies_true,forall_eq_or_imp,forall_eq]at h ⊢<;>exact h
def a51(p:Pg):∀c∈p.kids,c.tr.s.length<=p.tr.s.length:=by
 cases p<;>simp only[Pg.kids,AT,Ad,or_false,false_imp_iff,implies_true,forall_eq_or_imp,forall_eq,Pg.tr,Tr.s,two,f7,Trs.s,Trs.ft,AH,AG,AN]<;>lia
section
variable (T:PWp P G) {n:Nat} 
include T
def b26(g:Pg)(hk:g.kn 6)(hn:g.nm)(hp:g.parts<=200)(q:∀st',Kp [] st st'->Q g.d st'):sem P G (n+9) "read_program" [.str (tx g.tr.s)] st Q:=by
 refine d4 T.rp rfl [AA (.str (tx g.tr.s))] rfl ?_;unfold Y1;have n1:=c26 g;have l1:=aj5 g hk hn;∎;refine⟨by rw[T.rw'];rfl,by rw[T.bp];rfl,ag4 T.toPRd (R:=λt=>∃g:Pg,t=g.tr/\g.rd) (by rw[T.bp];rfl) (λt⟨g,e,h1,h2⟩=>e▸b52 T.toPRp g h1 λk z=>by
  have:=bo0 k;have p6:2^k.nest<=2^6:=Ak ∅ (h2 k z);lia) rfl ⋯ (a69 g) (cu1 g hk hn) ⋯ λst' K=>b8 ?_⟩
 rw[c05];exact q st' K
omit T in
theorem E4{sb:AM}{g:D}{x:Str}{w:String}{kvs:List (Key×D)}{ts:List (List Nat)}(h1:st da=AA (.dct kvs))(h2:st sb=AA (.lst (ts.map λt=>.str (tx t))))(hw:(w6 kvs (.inr x)).getD (.str x)=.str (AD w))(hl:(ts.map Aq).sum+ts.length<=500000)(hj:(e9 [32] ts).length<=500000)(hc:(ch w).length<=10)(q:Q (.str (tx (91::(ch w++(32::(e9 [32] ts++[93])))))) st):
  c9 (Zg P G n) bq0 (e8 Q) [AA g,AA (.str x),AA (.ref sb),AA (.ref da)] st:=by
 unfold bq0 M0;simp only[Ss.tl'];∎;have ew:AD w=tx (ch w):=R9 _;refine⟨⟨kvs,h1⟩,kvs,h1,?_⟩;rw[hw,ew,<-t91,<-t32,<-t93];refine j7 (by simp only[AG,AN];lia) ?_;rw[j3];refine j7 (by simp only[AH,AG,AN];lia) ?_;rw[j3];refine⟨_,rfl,sb,ts.map tx,rfl,.inl (by rw[h2,EH];rfl),at6 (by simp only[AG,AN];lia),?_⟩;rw[ay2];refine j7 (by simp only[AH,AG,AN];lia) ?_;rw[j3];refine j7 (by simp only[AH,AG,AN];lia) (b8 ?_);rw[j3];refine cast (congrArg (λl=>Q (.str (tx l)) st) ?_) q;simp
def as4 [NoRs G](B:PB P):∀(h:Nat)(g:Pg){n:Nat}{st:Sto}{Q:DK},g.kn b->g.nm->g.tr.s.length<=60000->g.hgt<=h->h+10+b<=n->(∀st',Kp [] st st'->Q (.str (tx g.tr.s)) st')->sem P G n "_law_shown" [g.d] st Q:=by
 intro h
 induction h with
 |zero=>intro g n st Q _ _ _ hp;cases g<;>simp only[Pg.hgt]at hp<;>lia
 |succ h ih=>
  intro g n st Q hk hm hpt hh hn q;obtain⟨n,rfl⟩:∃m,n=m+10:=⟨n-10,⋯⟩;refine d4 T.ls rfl [AA g.d,AE,AE,AE] rfl ?_;unfold M0;have key:∀(sa:AM)(st2:Sto),Kp [] st st2->st2 sa=AA (.lst (g.kids.map λc=>D.str (tx c.tr.s)))->c9 (Zg P G (n+9)) M0.body.tl'.tl' (e8 Q) [AA g.d,AA (.str (AD g.wd)),AA (.ref sa),AE] st2:=by
   intro sa st2 K hs;unfold M0;simp only[Ss.tl'];have hkid:∀c∈g.kids,c.tr.s.length<=60000:=λc hc=>by
    have h2:=a51 g c hc;lia
   cases g with
   |name i=>
    have hi:i<10000:=hm;unfold Pg.d Pg.wd;(iterate 2 ∎);have hlog:=cv0 hi;rw[<-al2,<-t35];refine⟨hlog,j7 ?_ (b8 ?_)⟩
    ·have:=aa3 hi;simp only[AG,AN];lia
    rw[j3];exact q st2 K
   |star=>
    unfold Pg.d Pg.wd;(iterate 3 ∎);rw[<-t46];exact b8 (q st2 K)
   |pair t u=>
    unfold Pg.d Pg.wd;(iterate 4 ∎);rw[w8 (.inl hs)];refine⟨_,rfl,?_⟩;have l1:=hkid t (by simp[Pg.kids]);have l2:=hkid u (by simp[Pg.kids]);dsimp only;rw[<-t40,<-t41,<-t44];refine j7 (by simp only[AG,AN];lia) ?_;rw[j3];refine j7 (by simp only[AH,AG,AN];lia) ?_;rw[j3,w8 (.inl hs)];refine⟨_,rfl,?_⟩;dsimp only;refine j7 (by simp only[AH,AG,AN];lia) ?_;rw[j3];refine j7 (by simp only[AH,AG,AN];lia) (b8 ?_);rw[j3];refine cast (congrArg (λl=>Q (.str (tx l)) st2) ?_) (q st2 K);simp[Pg.tr,Tr.s,two,Trs.s,Trs.ft,pf]
   |first t=>
    unfold Pg.d Pg.wd;(iterate 4 ∎);intro da hda;∎;simp only[i8,k8,d8,Ab,true_and,Cp,Ef,l7,o9,Bm,decide_true,decide_false,CS,Bq,CB,Bl,g7,if_true,Ar,if_false];refine⟨An _,?_⟩;have hl:=hkid;simp only[Pg.kids,AT,Ad,or_false,forall_eq_or_imp,forall_eq]at hl;refine E4 (w:="fst") (ts:=[t.tr.s]) b7 (d7 hs hda) rfl (by simp only[AV,BS,DF,Ee,AG,AN];lia) (by simp only[e9,AH,AG,AN];lia) ∅ ?_;refine cast (congrArg (λl=>Q (.str (tx l)) (b0 st2 da _)) ?_) (q _ (K.new hda));have e:ch "[fst "=_:=chw "fst" ∅;simp[Pg.tr,Tr.s,f7,Trs.s,Trs.ft,ff,e9,e]
   |second t=>
    unfold Pg.d Pg.wd;(iterate 4 ∎);intro da hda;∎;simp only[i8,k8,d8,Ab,true_and,Cp,Ef,l7,o9,Bm,decide_true,decide_false,CS,Bq,CB,Bl,g7,if_true,Ar,if_false];refine⟨An _,?_⟩;have hl:=hkid;simp only[Pg.kids,AT,Ad,or_false,forall_eq_or_imp,forall_eq]at hl;refine E4 (w:="snd") (ts:=[t.tr.s]) b7 (d7 hs hda) rfl (by simp only[AV,BS,DF,Ee,AG,AN];lia) (by simp only[e9,AH,AG,AN];lia) ∅ ?_;refine cast (congrArg (λl=>Q (.str (tx l)) (b0 st2 da _)) ?_) (q _ (K.new hda));have e:ch "[snd "=_:=chw "snd" ∅;simp[Pg.tr,Tr.s,f7,Trs.s,Trs.ft,ff,e9,e]
   |case t u v=>
    unfold Pg.d Pg.wd;(iterate 4 ∎);intro da hda;∎;simp only[i8,k8,d8,Ab,true_and,Cp,Ef,l7,o9,Bm,decide_true,decide_false,CS,Bq,CB,Bl,g7,if_true,Ar,if_false];refine⟨An _,?_⟩;have hl:=hkid;simp only[Pg.kids,AT,Ad,or_false,forall_eq_or_imp,forall_eq]at hl;refine E4 (w:="case") (ts:=[t.tr.s,u.tr.s,v.tr.s]) b7 (d7 hs hda) rfl (by simp only[AV,BS,DF,Ee,AG,AN];lia) (by simp only[e9,AH,AG,AN];lia) ∅ ?_;refine cast (congrArg (λl=>Q (.str (tx l)) (b0 st2 da _)) ?_) (q _ (K.new hda));have e:ch "[case "=_:=chw "case" ∅;simp[Pg.tr,Tr.s,two,Trs.s,Trs.ft,ff,e9,e]
   |give t u=>
    unfold Pg.d Pg.wd;(iterate 4 ∎);intro da hda;∎;simp only[i8,k8,d8,Ab,true_and,Cp,Ef,l7,o9,Bm,decide_true,decide_false,CS,Bq,CB,Bl,g7,if_true,Ar,if_false];refine⟨An _,?_⟩;have hl:=hkid;simp only[Pg.kids,AT,Ad,or_false,forall_eq_or_imp,forall_eq]at hl;refine E4 (w:="give") (ts:=[t.tr.s,u.tr.s]) b7 (d7 hs hda) rfl (by simp only[AV,BS,DF,Ee,AG,AN];lia) (by simp only[e9,AH,AG,AN];lia) ∅ ?_;refine cast (congrArg (λl=>Q (.str (tx l)) (b0 st2 da _)) ?_) (q _ (K.new hda));have e:ch "[give "=_:=chw "give" ∅;simp[Pg.tr,Tr.s,two,Trs.s,Trs.ft,ff,e9,e]
   |lets t u=>
    unfold Pg.d Pg.wd;(iterate 4 ∎);intro da hda;∎;simp only[i8,k8,d8,Ab,true_and,Cp,Ef,l7,o9,Bm,decide_true,decide_false,CS,Bq,CB,Bl,g7,if_true,Ar,if_false];refine⟨An _,?_⟩;have hl:=hkid;simp only[Pg.kids,AT,Ad,or_false,forall_eq_or_imp,forall_eq]at hl;refine E4 (w:="let") (ts:=[t.tr.s,u.tr.s]) b7 (d7 hs hda) rfl (by simp only[AV,BS,DF,Ee,AG,AN];lia) (by simp only[e9,AH,AG,AN];lia) ∅ ?_;refine cast (congrArg (λl=>Q (.str (tx l)) (b0 st2 da _)) ?_) (q _ (K.new hda));have e:ch "[let "=_:=chw "let" ∅;simp[Pg.tr,Tr.s,two,Trs.s,Trs.ft,ff,e9,e]
   |left k t=>
    unfold Pg.d Pg.wd;(iterate 4 ∎);intro da hda;∎;simp only[i8,k8,d8,Ab,true_and,Cp,Ef,l7,o9,Bm,decide_true,decide_false,CS,Bq,CB,Bl,g7,if_true,Ar,if_false];refine⟨An _,?_⟩;have hkb:k.nest<=b:=hk.1;have hl:=hkid t (by simp[Pg.kids]);have lk:k.tr.s.length<=60000:=by
     simp only[Pg.tr,Tr.s,AH]at hpt;lia
    ∎;refine⟨by rw[T.lk];rfl,T8 T.toPWk k ⋯ ⋯ λp hp=>⟨_,_,b7,d7 (d7 hs hda) hp,E8 (by simp[Pg.kids]),λb hb=>?_⟩⟩;refine E4 (w:="inl") (ts:=[k.tr.s,t.tr.s]) (d7 (d7 b7 hp) hb) b7 rfl (by simp only[AV,BS,DF,Ee,AG,AN];lia) (by simp only[e9,AH,AG,AN];lia) ∅ ?_;refine cast (congrArg (λl=>Q (.str (tx l)) (b0 _ b _)) ?_) (q _ (((K.new hda).new hp).new hb));have e:ch "[inl "=_:=chw "inl" ∅;simp[Pg.tr,Tr.s,f7,Trs.s,Trs.ft,ff,e9,e]
   |right k t=>
    unfold Pg.d Pg.wd;(iterate 4 ∎);intro da hda;∎;simp only[i8,k8,d8,Ab,true_and,Cp,Ef,l7,o9,Bm,decide_true,decide_false,CS,Bq,CB,Bl,g7,if_true,Ar,if_false];refine⟨An _,?_⟩;have hkb:k.nest<=b:=hk.1;have hl:=hkid t (by simp[Pg.kids]);have lk:k.tr.s.length<=60000:=by
     simp only[Pg.tr,Tr.s,AH]at hpt;lia
    ∎;refine⟨by rw[T.lk];rfl,T8 T.toPWk k ⋯ ⋯ λp hp=>⟨_,_,b7,d7 (d7 hs hda) hp,E8 (by simp[Pg.kids]),λb hb=>?_⟩⟩;refine E4 (w:="inr") (ts:=[k.tr.s,t.tr.s]) (d7 (d7 b7 hp) hb) b7 rfl (by simp only[AV,BS,DF,Ee,AG,AN];lia) (by simp only[e9,AH,AG,AN];lia) ∅ ?_;refine cast (congrArg (λl=>Q (.str (tx l)) (b0 _ b _)) ?_) (q _ (((K.new hda).new hp).new hb));have e:ch "[inr "=_:=chw "inr" ∅;simp[Pg.tr,Tr.s,f7,Trs.s,Trs.ft,ff,e9,e]
   |way k t=>
    unfold Pg.d Pg.wd;(iterate 4 ∎);intro da hda;∎;simp only[i8,k8,d8,Ab,true_and,Cp,Ef,l7,o9,Bm,decide_true,decide_false,CS,Bq,CB,Bl,g7,if_true,Ar,if_false];refine⟨An _,?_⟩;have hkb:k.nest<=b:=hk.1;have hl:=hkid t (by simp[Pg.kids]);have lk:k.tr.s.length<=60000:=by
     simp only[Pg.tr,Tr.s,AH]at hpt;lia
    ∎;refine⟨by rw[T.lk];rfl,T8 T.toPWk k ⋯ ⋯ λp hp=>⟨_,_,b7,d7 (d7 hs hda) hp,E8 (by simp[Pg.kids]),λb hb=>?_⟩⟩;refine E4 (w:="way") (ts:=[k.tr.s,t.tr.s]) (d7 (d7 b7 hp) hb) b7 rfl (by simp only[AV,BS,DF,Ee,AG,AN];lia) (by simp only[e9,AH,AG,AN];lia) ∅ ?_;refine cast (congrArg (λl=>Q (.str (tx l)) (b0 _ b _)) ?_) (q _ (((K.new hda).new hp).new hb));have e:ch "[way "=_:=chw "way" ∅;simp[Pg.tr,Tr.s,f7,Trs.s,Trs.ft,ff,e9,e]
   |never k t=>
    unfold Pg.d Pg.wd;(iterate 4 ∎);intro da hda;∎;simp only[i8,k8,d8,Ab,true_and,Cp,Ef,l7,o9,Bm,decide_true,decide_false,CS,Bq,CB,Bl,g7,if_true,Ar,if_false];refine⟨An _,?_⟩;have hkb:k.nest<=b:=hk.1;have hl:=hkid t (by simp[Pg.kids]);have lk:k.tr.s.length<=60000:=by
     simp only[Pg.tr,Tr.s,AH]at hpt;lia
    ∎;refine⟨by rw[T.lk];rfl,T8 T.toPWk k ⋯ ⋯ λp hp=>⟨_,_,b7,d7 (d7 hs hda) hp,E8 (by simp[Pg.kids]),λb hb=>?_⟩⟩;refine E4 (w:="never") (ts:=[k.tr.s,t.tr.s]) (d7 (d7 b7 hp) hb) b7 rfl (by simp only[AV,BS,DF,Ee,AG,AN];lia) (by simp only[e9,AH,AG,AN];lia) ∅ ?_;refine cast (congrArg (λl=>Q (.str (tx l)) (b0 _ b _)) ?_) (q _ (((K.new hda).new hp).new hb));have e:ch "[never "=_:=chw "never" ∅;simp[Pg.tr,Tr.s,f7,Trs.s,Trs.ft,ff,e9,e]
  ∎;rw[bk7];refine⟨.str (AD g.wd),by rw[L5];cases g<;>rfl,?_⟩;rw[<-bk7];∎;refine⟨by rw[B.inner];rfl,ar1 B g ?_⟩;rfl';refine⟨by rw[Am];cases g<;>simp only[Pg.kids,AG,AN]<;>decide,?_⟩;refine G2 (λl acc env' st'=>Kp [] st st'/\∃(pre suf:List Pg)(x:Option D),g.kids=pre++suf/\l=suf.map Pg.d/\env'=[x]/\acc=(pre.map λc=>D.str (tx c.tr.s))) ?_ ?_ _ _ _ _ ⟨Kp.refl,[],g.kids,AE,rfl,rfl,rfl,rfl⟩
  ·rintro acc env' st' ⟨K,pre,suf,x,ek,el,rfl,rfl⟩;refine⟨trivial,λa ha=>?_⟩;have es:suf=[]:=by simpa using el.symm
   subst es;rw[Ac]at ek;exact key a _ (K.new ha) (by rw[b7,ek])
  ·rintro d ds acc env' st' ihc ⟨K,pre,suf,x,ek,el,rfl,rfl⟩;refine⟨trivial,?_⟩;cases suf with
   |nil=>simp at el
   |cons c suf=>
    simp only[AV,BO]at el;obtain⟨rfl,rfl⟩:=el;rfl';have hcm:c∈g.kids:=by rw[ek];simp
    have hc:=Pg.hgt_kids g c hcm;refine⟨by rw[T.ls];rfl,ih c (Pg.kn_kids g hk c hcm) (ce1 g hm c hcm) (Ag (a51 g c hcm) hpt) ⋯ ⋯ λst2 K2=>?_⟩;exact ihc _ _ _ ⟨K.trans K2,pre++[c],suf,_,by rw[ek];simp,rfl,rfl,by rw[BY];rfl⟩
end
section
def PRd.x(T:PRd P G):PRd P (rsG G):=⟨T.ini,T.ns,T.sg,T.mb,T.so,T.bi,T.be,T.bw,T.ro,T.rw',T.cr,T.cb,T.ci,T.kR,T.kK,T.kw⟩
theorem PRk.x(T:PRk P G):PRk P (rsG G):={T.toPRd.x with bk:=T.bk,rk:=T.rk}
theorem PRp.x(T:PRp P G):PRp P (rsG G):={T.toPRk.x with bp:=T.bp,bf:=T.bf,rn:=T.rn,rp:=T.rp,kF:=T.kF,kL:=T.kL,fo:=T.fo}
theorem PRt.x(T:PRt P G):PRt P (rsG G):={T.toPRd.x with bt:=T.bt,rt:=T.rt}
end
structure P96(P:d6)(G:Gs):Prop extends PWp P G where
 bt:P "begin_thing"=AA A0
 rt:P "read_thing"=AA T5
 lt:P "_law_thing_shown"=AA X8
 lr:P "_law_read"=AA T6
 lw:P "_law_written"=AA ae6
 lo:P "_law_one_sign"=AA ae4
 ln:P "_law_none"=AA M3
 ix:G.cls "!ix"=(["NoKind","NoStep","NoText"]:List Str)
def P96.w(T:P96 P G):PWt P G:={T.toPRd with bt:=T.bt,rt:=T.rt,lt:=T.lt}
abbrev rd3(i:Int):Str:=tr3 "read_kind" "read_program" "read_thing" i
abbrev V3(i:Int)(W:List Nat)(v:D):Prop:=if i=0 then ∃k:Kd,W=k.tr.s/\v=k.d else if i=1 then ∃g:Pg,g.nm/\W=g.tr.s/\v=g.d else ∃t:Th,W=t.tr.s/\v=t.d
def V3.ok{W:List Nat}{v:D}(h:V3 i W v):Ok3 i W:=by
 unfold V3 at h;unfold Ok3
 by_cases h0:i=0
 ·rw[if_pos h0]at h ⊢;obtain⟨k,e,_⟩:=h;exact⟨k,e⟩
 rw[if_neg h0]at h ⊢
 by_cases h1:i=1
 ·rw[if_pos h1]at h ⊢;obtain⟨k,n,e,_⟩:=h;exact⟨k,n,e⟩
 rw[if_neg h1]at h ⊢;obtain⟨k,e,_⟩:=h;exact⟨k,e⟩
def at4(W:List Nat)(q:Nat):Bf (tx W) AE (AA (q:Int))=tx (W.take q):=by
 have e:Bf (tx W) AE (AA (q:Int))=Bf (tx W) (AA ((0:Nat):Int)) (AA (q:Int)):=by
  have h0:¬(((0:Nat):Int)<0):=by lia
  have e0:max 0 (min ((0:Nat):Int) W.length)=0:=by lia
  unfold Bf;rw[i5];unfold Ch JX;simp only[show(1:Int)>0 by decide,if_true,h0,if_false,e0]
 rw[e,P0 _ _ _ (An _) (An _),Gq,Nat.sub_zero]
def at5(W:List Nat)(p:Nat):Bf (tx W) (AA (p:Int)) AE=tx (W.drop p):=by
 have e:Bf (tx W) (AA (p:Int)) AE=Bf (tx W) (AA ((min p W.length:Nat):Int)) (AA (W.length:Int)):=by
  have h1:¬((p:Int)<0):=by lia
  have h2:¬(((min p W.length:Nat):Int)<0):=by lia
  have h3:¬((W.length:Int)<0):=by lia
  have e1:max 0 (min (p:Int) W.length)=((min p W.length:Nat):Int):=by lia
  have e2:max 0 (min ((min p W.length:Nat):Int) W.length)=((min p W.length:Nat):Int):=by lia
  have e3:max 0 (min (W.length:Int) W.length)=(W.length:Int):=by lia
  unfold Bf;rw[i5];unfold Ch JX;simp only[show(1:Int)>0 by decide,if_true,h1,h2,h3,if_false,e1,e2,e3]
 rw[e,P0 _ _ _ ⋯ ⋯]
 by_cases h:p<=W.length
 ·rw[Nat.min_eq_left h,Eb (by rw[Ap];lia)]
 ·rw[Nat.min_eq_right ⋯,Nat.sub_self,Dr,DP ⋯]
section
variable [NoRs G] (T:P96 P G) {n:Nat} {W:List Nat} 
include T
def b39:(P (rd3 i)).isSome=AC:=by
 unfold rd3 tr3
 split
 ·rw[T.rk];rfl
 ·split
  ·rw[T.rp];rfl
  ·rw[T.rt];rfl
def ap4{w:Str}(h:(∀Q':DK,(∀d st',R d->Q' d st')->sem P G n (rd3 i) [.str w] (λ_=>AE) Q')\/((∀Q':DK,(∀d st',R d->Q' d st')->sem P (rsG G) n (rd3 i) [.str w] (λ_=>AE) Q')/\∀p st',st' p=AA (.lst [])->Kp [] st st'->Q (.ref p) st'))(q:∀d,R d->∀p st',st' p=AA (.lst [d])->Kp [] st st'->Q (.ref p) st'):sem P G (n+1) "_law_read" [.int i,.str w] st Q:=by
 refine d4 T.lr rfl [AA (.int i),AA (.str w),AE,AE,AE] rfl ?_;unfold T6;(iterate 3 ∎);have ok:∀d:D,R d->c9 (Zg P G n) T6.body.tl'.tl'.tl' (e8 Q) [AA (.int i),AA (.str w),AA .non,AA d,AE] st:=λd h=>by
  unfold T6;simp only[Ss.tl'];(iterate 2 ∎);exact .inl λp hp=>b8 (q d h p _ b7 (Kp.refl.new hp))
 refine⟨by show G.cls _≠[];rw[T.ix];nofun,i,w,rfl,rfl,b39 T,?_⟩
 rcases h with h|⟨h,h2⟩
 ·exact .inl ⟨NoRs.no,h _ λd st' h=>ok d h⟩
 ·refine .inr ⟨h _ λd st' h=>ok d h,λa ha=>?_⟩;have hix:∀c∈(["NoKind","NoStep","NoText"]:List Str),c∈G.cls "!ix":=λc hc=>by rw[T.ix];exact hc
  (iterate 2 ∎);refine .inr ⟨nofun,?_⟩;∎;refine⟨hix _ ∎,a,rfl,b7,?_⟩;rw[if_neg ∅];refine⟨hix _ ∎,a,rfl,b7,?_⟩;rw[if_neg ∅];refine⟨hix _ ∎,a,rfl,b7,?_⟩;rw[if_neg ∅];∎;exact λp hp=>b8 (h2 p _ b7 ((Kp.refl.new ha).new hp))
def as1(hn:9<=n)(hw:W.length<=60000)(hok:∀c∈W,c<1114112)(q0:∀p st',st' p=AA (.lst [])->Kp [] st st'->Q (.ref p) st')(q:∀d,V3 i W d->∀p st',st' p=AA (.lst [d])->Kp [] st st'->Q (.ref p) st'):sem P G (n+1) "_law_read" [.int i,.str (tx W)] st Q:=by
 refine ap4 T (R:=V3 i W) (.inr ⟨λQ' h=>?_,q0⟩) q;obtain⟨n,rfl⟩:∃m,n=m+9:=⟨n-9,⋯⟩;have hi:(rsG G).cls "!ix"≠[]:=by show G.cls _≠[];rw[T.ix];nofun
 unfold rd3 tr3
 by_cases h0:i=0
 ·rw[if_pos h0];exact by7 T.toPRk.x rfl hi hw hok λst' k e _=>h _ _ (by unfold V3;rw[if_pos h0];exact⟨k,e,rfl⟩)
 rw[if_neg h0]
 by_cases h1:i=1
 ·rw[if_pos h1];exact bx1 T.toPRp.x rfl hi hw hok λst' g hg e _=>h _ _ (by unfold V3;rw[if_neg h0,if_pos h1];exact⟨g,hg,e,rfl⟩)
 rw[if_neg h1];exact bx3 T.w.toPRt.x rfl hi hw hok λst' t e _=>h _ _ (by unfold V3;rw[if_neg h0,if_neg h1];exact⟨t,e,rfl⟩)
abbrev G3(i:Int)(W:List Nat)(v:D):Prop:=if i=0 then ∃k:Kd,k.nest<=9/\W=k.tr.s/\v=k.d else if i=1 then ∃g:Pg,g.kn 6/\g.nm/\g.parts<=200/\W=g.tr.s/\v=g.d else ∃t:Th,t.sm/\t.z<=20000/\W=t.tr.s/\v=t.d
def bx9{v:D}(hn:9<=n)(hg:G3 i W v)(q:∀p st',st' p=AA (.lst [v])->Kp [] st st'->Q (.ref p) st'):sem P G (n+1) "_law_read" [.int i,.str (tx W)] st Q:=by
 refine ap4 T (R:=λd=>d=v) (.inl λQ' h=>?_) λd e=>e▸q;obtain⟨n,rfl⟩:∃m,n=m+9:=⟨n-9,⋯⟩;unfold rd3 tr3;unfold G3 at hg
 by_cases h0:i=0
 ·rw[if_pos h0]at hg ⊢;obtain⟨k,hk,rfl,rfl⟩:=hg;exact b24 T.toPWk k hk λst' _=>h _ _ rfl
 rw[if_neg h0]at hg ⊢
 by_cases h1:i=1
 ·rw[if_pos h1]at hg ⊢;obtain⟨g,a,b,c,rfl,rfl⟩:=hg;exact b26 T.toPWp g a b c λst' _=>h _ _ rfl
 rw[if_neg h1]at hg ⊢;obtain⟨t,a,b,rfl,rfl⟩:=hg;exact b18 T.w t a b λst' _=>h _ _ rfl
abbrev S3(m:Nat)(i:Int)(W:List Nat)(v:D):Prop:=if i=0 then ∃k:Kd,k.nest+1<=m/\k.tr.s.length<=500000/\W=k.tr.s/\v=k.d else if i=1 then ∃(g:Pg)(b:Nat),g.kn b/\g.nm/\g.tr.s.length<=60000/\g.hgt+10+b<=m/\W=g.tr.s/\v=g.d else ∃t:Th,t.z<=20000/\t.h+1<=m/\W=t.tr.s/\v=t.d
def ap6(B:PB P){v:D}(hn:m<=n)(h:S3 m i W v)(q:∀st',Kp [] st st'->Q (.str (tx W)) st'):sem P G (n+1) "_law_written" [.int i,v] st Q:=by
 refine d4 T.lw rfl [AA (.int i),AA v] rfl ?_;unfold ae6;unfold S3 at h;∎
 by_cases h0:i=0
 ·rw[if_pos h0]at h ⊢;obtain⟨k,h1,h2,rfl,rfl⟩:=h;∎;exact⟨by rw[T.lk];rfl,T8 T.toPWk k h2 ⋯ (b8 (q st Kp.refl))⟩
 rw[if_neg h0]at h ⊢;∎
 by_cases h1:i=1
 ·rw[if_pos h1]at h ⊢;obtain⟨g,b,a1,a2,a3,a4,rfl,rfl⟩:=h;∎;exact⟨by rw[T.ls];rfl,as4 T.toPWp B g.hgt g a1 a2 a3 (Ae _) ⋯ λst' K=>b8 (q st' K)⟩
 rw[if_neg h1]at h ⊢;obtain⟨t,a1,a2,rfl,rfl⟩:=h;∎;exact⟨by rw[T.lt];rfl,ce8 T.w t.h t a1 (Ae _) ⋯ λst' K=>b8 (q st' K)⟩
def b97(B:PB P)(hn:1<=n)(hw:W.length<=100000)(I:f8 st da)(q:∀A x d Y st',W=A++(d++Y)->x.length<=1->d.length<=1->(∀c∈x,c<1114112)->f8 st' da->Kp [da] st st'->Q (.str (tx (A++(x++Y)))) st'):sem P G (n+1) "_law_one_sign" [.ref da,.str (tx W)] st Q:=by
 obtain⟨n,rfl⟩:∃m,n=m+1:=⟨n-1,⋯⟩;refine d4 T.lo rfl [AA (.ref da),AA (.str (tx W)),AE,AE,AE] rfl ?_;unfold ae4;have hsz:(tx W).length<=sizeLine:=by rw[i5];exact Ag hw ∅
 (iterate 2 ∎);refine⟨by rw[B.next];rfl,_,rfl,hsz,?_⟩;rfl';rw[i5];refine l8 B.toPB0 ⋯ I λr1 st1 h10 h11 I1 K1=>?_;obtain⟨a,rfl⟩:∃a:Nat,r1=(a:Int):=⟨r1.toNat,⋯⟩;∎;have sl:(AD "().,[]{}<>#+*01 abcdefghilnprstuvwy29!-").length=39:=by decide
 have sc:∀c∈(AD "().,[]{}<>#+*01 abcdefghilnprstuvwy29!-").cps.toList,c<1114112:=by decide
 have s39:(AD "().,[]{}<>#+*01 abcdefghilnprstuvwy29!-").cps.toList.length=39:=by decide
 refine⟨by rw[B.next];rfl,_,rfl,by rw[sl];decide,?_⟩;rw[sl];refine l8 B.toPB0 ∅ I1 λr2 st2 h20 h21 I2 K2=>?_;obtain⟨b,rfl⟩:∃b:Nat,r2=(b:Int):=⟨r2.toNat,⋯⟩;obtain⟨c,hc⟩:∃c,(AD "().,[]{}<>#+*01 abcdefghilnprstuvwy29!-").cps.toList[b]?=AA c:=⟨_,AX (by rw[s39];lia)⟩;refine⟨c,by rw[sl];decide,by rw[A4];exact hc,?_⟩;have hcc:c<1114112:=sc c (Dy hc);have ec:(⟨#[c]⟩:Str)=tx [c]:=rfl;rw[ec];∎;refine⟨hsz,?_⟩;rw[at4];intro p hp;have hpd:p≠da:=λz=>by obtain⟨l,e⟩:=I2;rw[z,e]at hp;cases hp
 refine⟨by rw[B.next];rfl,l8 B.toPB0 ∅ (let⟨l,e⟩:=I2;⟨l,d7 e hp⟩) λr3 st3 h30 h31 I3 K3=>?_⟩;have hp3:st3 p=AA (.lst [.str (AD ""),.str (tx [c]),.str (tx [c])]):=K3 p _ (by simpa using hpd) b7;rw[w8 (.inl hp3)];obtain⟨x,hx,hxl,hxc⟩:∃x:List Nat,atI [D.str (AD ""),.str (tx [c]),.str (tx [c])] r3=AA (.str (tx x))/\x.length<=1/\∀c∈x,c<1114112:=by
  have:r3=0\/r3=1\/r3=2:=by lia
  rcases this with rfl|rfl|rfl
  ·exact⟨[],by rw[L5,t_e];rfl,∅,nofun⟩
  ·exact⟨[c],by rw[ad5];rfl,∎,λd hd=>by simp at hd;rw[hd];exact hcc⟩
  ·exact⟨[c],by rw[ad2];rfl,∎,λd hd=>by simp at hd;rw[hd];exact hcc⟩
 refine⟨_,hx,j7 (by rw[Cs];lia) ?_⟩;rw[j3];refine⟨by rw[B.next];rfl,l8 B.toPB0 ∅ I3 λr4 st4 h40 h41 I4 K4=>?_⟩;obtain⟨d,rfl⟩:∃d:Nat,r4=(d:Int):=⟨r4.toNat,⋯⟩;rfl';refine⟨hsz,?_⟩;rw[show(a:Int)+(d:Int)=((a+d:Nat):Int) by lia,at5];refine j7 (by simp only[AH,Cs,Ap];lia) (b8 ?_);rw[j3,AY];refine q (W.take a) x ((W.drop a).take d) (W.drop (a+d)) st4 ?_ hxl (by rw[Cs];lia) hxc I4 ?_
 ·rw[<-Bb,Eo,Eo]
 ·exact((K1.trans K2).trans (Kp.trans (Kp.refl.new hp) K3)).trans K4
def b58(B:PB P)(hn:1<=n)(hi:i=0\/i=1\/i=2)(hw:W.length<=50000)(hok:∀c∈W,c<1114112)(hO:Ok3 i W)(I:f8 st da)(q:∀X st',¬Ok3 i X->X.length<=60000->(∀c∈X,c<1114112)->f8 st' da->Kp [da] st st'->Q (.str (tx X)) st'):sem P G (n+1) "_law_none" [.ref da,.int i,.str (tx W)] st Q:=by
 obtain⟨n,rfl⟩:∃m,n=m+1:=⟨n-1,⋯⟩;refine d4 T.ln rfl [AA (.ref da),AA (.int i),AA (.str (tx W)),AE,AE,AE,AE] rfl ?_;unfold M3;have hsz:(tx W).length<=sizeLine:=by rw[i5];exact Ag hw ∅
 ∎;refine⟨by rw[B.next];rfl,l8 B.toPB0 ∅ I λr1 st1 h10 h11 I1 K1=>?_⟩;have key:∀(p:AM)(ps:List Nat)(st':Sto),st' p=AA (.lst (ps.map λk:Nat=>D.int (k:Int)))->ps.length<=50000->p≠da->(∀k∈ps,∃c,W[k]?=AA c/\wt c≠0)->f8 st' da->Kp [da] st st'->c9 (Zg P G (n+1)) M3.body.tl'.tl' (e8 Q) [AA (.ref da),AA (.int i),AA (.str (tx W)),AA (.int r1),AA (.ref p),AE,AE] st':=by
  intro p ps st' hp hl npd hps I' K';have lit:∀(w:String)(st2:Sto),w∈lits i->f8 st2 da->Kp [da] st st2->(e8 Q).rt (.str (AD w)) st2:=λw st2 hw I2 K2=>by
   have e:AD w=tx (ch w):=R9 _;obtain⟨l1,l2,l3⟩:=ce0 i (by rcases hi with rfl|rfl|rfl<;>simp) w hw;rw[e];exact b8 (q _ _ (cn4 20 l1 l2) ⋯ l3 I2 K2)
  have fin:∀(ws:List String)(a:AM)(st3:Sto)(r:Int),st3 a=AA (.lst (ws.map λw=>D.str (AD w)))->(∀w∈ws,w∈lits i)->0<=r->r<ws.length->f8 st3 da->Kp [da] st st3->ixR (.ref a) (.int r) st3 (e8 Q).rt:=λws a st3 r ha hl r0 r1 I3 K3=>by
   obtain⟨k,rfl⟩:∃k:Nat,r=(k:Int):=⟨r.toNat,⋯⟩;obtain⟨w,hw⟩:∃w,ws[k]?=AA w:=⟨_,AX ⋯⟩;rw[w8 (.inl ha)];exact⟨.str (AD w),by rw[A4,CJ,hw];rfl,lit w st3 (hl w (Dy hw)) I3 K3⟩
  have In:∀{st2:Sto}{a:AM}{o:Ob},f8 st2 da->st2 a=AE->f8 (b0 st2 a o) da:=λ⟨l,e⟩h=>⟨l,d7 e h⟩;have ne:∀{st2:Sto}{a:AM},f8 st2 da->st2 a=AE->a≠da:=λ⟨l,e⟩h z=>by rw[z,e]at h;cases h
  have c8:c9 (Zg P G (n+1)) M3.body.tl'.tl'.tl' (e8 Q) [AA (.ref da),AA (.int i),AA (.str (tx W)),AA (.int r1),AA (.ref p),AE,AE] st':=by
   unfold M3;simp only[Ss.tl'];∎
   by_cases w1:r1=1
   ·rw[if_pos w1];∎;rw[<-t32];refine j7 (by simp only[AG,AN];lia) (b8 ?_);rw[j3];exact q _ _ (a07 hO (.inl ∅)) (by simp;lia) (λc hc=>by rcases Au.1 hc with hc|hc;exact hok c hc;simp at hc;lia) I' K'
   rw[if_neg w1];∎
   by_cases w2:r1=2
   ·rw[if_pos w2];∎;rw[<-t32];refine j7 (by simp only[AG,AN];lia) (b8 ?_);rw[j3];exact q _ _ cf9 (by simp;lia) (λc hc=>by rcases Au.1 hc with hc|hc;(simp at hc;lia);exact hok c hc) I' K'
   rw[if_neg w2];∎
   by_cases w3:r1=3
   ·rw[if_pos w3];∎;rw[<-t41];refine j7 (by simp only[AG,AN];lia) (b8 ?_);rw[j3];exact q _ _ (a07 hO (.inl ∅)) (by simp;lia) (λc hc=>by rcases Au.1 hc with hc|hc;exact hok c hc;simp at hc;lia) I' K'
   rw[if_neg w3];∎
   by_cases wi:i=1
   ·rw[if_pos wi];∎;intro a1 h1;∎;intro a2 h2;refine⟨_,_,d7 b7 h2,b7,∅,λa3 h3=>?_⟩;∎;intro a4 h4;refine⟨_,_,d7 b7 h4,b7,∅,λa5 h5=>?_⟩;∎;intro a6 h6;refine⟨_,_,d7 b7 h6,b7,∅,λa7 h7=>?_⟩;∎;intro a8 h8;refine⟨_,_,d7 b7 h8,b7,∅,λa9 h9=>?_⟩;∎;have I9:=In (o:=.lst ((lits 1).map λw=>D.str (AD w))) (In (In (In (In (In (In (In (In I' h1) h2) h3) h4) h5) h6) h7) h8) h9;have K9:=((((((((K'.new h1).new h2).new h3).new h4).new h5).new h6).new h7).new h8).new h9 (o:=.lst ((lits 1).map λw=>D.str (AD w)));have nd9:=ne (In (In (In (In (In (In (In (In I' h1) h2) h3) h4) h5) h6) h7) h8) h9;subst wi;refine⟨by rw[B.next];rfl,l8 B.toPB0 ∅ I9 λr st10 r0 r1 I10 K10=>?_⟩;exact fin (lits 1) a9 st10 r (K10 _ _ (by simpa using nd9) b7) (λw h=>h) r0 r1 I10 (K9.trans K10)
   rw[if_neg wi];∎;intro a1 h1 a2 h2 a3 h3 a4 h4;have I4:=In (o:=.lst [.ref a1,.ref a2,.ref a3]) (In (In (In I' h1) h2) h3) h4;have K4:=(((K'.new h1).new h2).new h3).new h4 (o:=.lst [.ref a1,.ref a2,.ref a3]);have n1:=ne I' h1;have n3:=ne (In (In I' h1) h2) h3;have h02:i=0\/i=2:=hi.imp_right λz=>z.resolve_left wi
   rcases h02 with rfl|rfl
   ·refine⟨.ref a1,by rw[L5];rfl,?_⟩;∎;refine⟨by rw[B.next];rfl,l8 B.toPB0 ∅ I4 λr st5 r0 r1 I5 K5=>?_⟩;exact fin (lits 0) a1 st5 r (K5 _ _ (by simpa using n1) (d7 (d7 (d7 b7 h2) h3) h4)) (λw h=>h) r0 r1 I5 (K4.trans K5)
   ·refine⟨.ref a3,by rw[ad2];rfl,?_⟩;∎;refine⟨by rw[B.next];rfl,l8 B.toPB0 ∅ I4 λr st5 r0 r1 I5 K5=>?_⟩;exact fin (lits 2) a3 st5 r (K5 _ _ (by simpa using n3) (d7 b7 h4)) (λw h=>h) r0 r1 I5 (K4.trans K5)
  unfold M3;simp only[Ss.tl'];∎
  by_cases w0:r1=0
  ·rw[if_pos w0,r9 (.inl hp)];rfl';rw[Am]
   by_cases hz:0<ps.length
   ·rw[if_pos ⋯];∎;refine⟨by rw[B.next];rfl,?_⟩;rw[r9 (.inl hp),Am];refine l8 B.toPB0 ⋯ I' λr st2 r0 r1 I2 K2=>?_;have hp2:=K2 p _ (by simpa using npd) hp;obtain⟨m,rfl⟩:∃m:Nat,r=(m:Int):=⟨r.toNat,⋯⟩;obtain⟨k,hk⟩:∃k,ps[m]?=AA k:=⟨_,AX ⋯⟩;obtain⟨c,hc,hwt⟩:=hps k (Dy hk);rw[w8 (.inl hp2)];refine⟨.int k,by rw[A4,CJ,hk];rfl,?_⟩;∎;refine⟨hsz,?_⟩;rw[at4];rfl';refine⟨hsz,?_⟩;rw[show(k:Int)+1=((k+1:Nat):Int) by lia,at5];refine j7 (by simp only[Cs,Ap];lia) (b8 ?_);rw[j3];have hkl:k<W.length:=(Ai.1 hc).1;have hb:=a54 hO;have e:W=W.take k++(c::W.drop (k+1)):=by
     have:=(Ai.1 hc).2;rw[<-this,<-EC hkl,Eo]
    refine q _ _ (cg6 ?_) (by simp only[AH,Cs,Ap];lia) (λx hx=>?_) I2 (K'.trans K2)
    ·rw[e,M8,bal]at hb;rw[M8];intro z;apply hwt;lia
    ·rcases Au.1 hx with hx|hx
     ·exact hok x (Bg hx)
     ·exact hok x (BL hx)
   ·rw[if_neg ⋯];exact c8
  ·rw[if_neg w0];exact c8
 ∎;refine⟨_,rfl,hsz,?_⟩;have hrl:(i6 0 ((tx W).length:Int).toNat).length=W.length:=by rw[af4,i5];rfl
 rw[i5]at hrl ⊢;refine⟨⟨⋯,⋯⟩,by rw[hrl];lia,?_⟩;refine G2 (λl acc env' st'=>∃(j:Nat)(ps:List Nat)(x:Option D),j<=W.length/\l=i6 j (W.length-j)/\env'=[AA (.str (tx W)),x]/\acc=ps.map (λk:Nat=>D.int (k:Int))/\ps.length<=j/\(∀k∈ps,∃c,W[k]?=AA c/\wt c≠0)/\f8 st' da/\Kp [da] st st') ?_ ?_ _ _ _ _ ⟨0,[],AE,An _,rfl,rfl,rfl,An _,nofun,I1,K1⟩
 ·rintro acc env' st' ⟨j,ps,x,hj,hl,rfl,rfl,hpl,hps,I',K'⟩;refine⟨trivial,λp hp=>?_⟩;exact key p ps _ b7 ⋯ (λz=>by obtain⟨l,e⟩:=I';rw[z,e]at hp;cases hp) hps (let⟨l,e⟩:=I';⟨l,d7 e hp⟩) (K'.new hp)
 ·rintro d ds acc env' st' ihc ⟨j,ps,x,hj,hl,rfl,rfl,hpl,hps,I',K'⟩;refine⟨trivial,?_⟩;cases hm:W.length-j with
  |zero=>rw[hm]at hl;exact nomatch hl
  |succ m=>
  rw[hm]at hl;have e:i6 (j:Int) (m+1)=.int j::i6 ((j+1:Nat):Int) m:=by
   unfold i6;rw[HP,AV,EH];refine congr (congrArg LA ∎) (FG λk _=>?_);simp only[IS]
   congr 1
   lia
  rw[e]at hl;obtain⟨rfl,rfl⟩:=Dw hl;rfl';rw[P1 rfl];rfl';have ew:(tx W).cps.toList=W:=by simp[tx]
  obtain⟨c,hc⟩:∃c,W[j]?=AA c:=⟨_,AX ⋯⟩;refine⟨c,hsz,by rw[ew,A4];exact hc,c,_,rfl,rfl,_,rfl,?_⟩;have e6:(AD "()[]{}").cps.toList=[40,41,91,93,123,125]:=by decide
  rw[e6]
  by_cases hb:c∈[40,41,91,93,123,125]
  ·rw[decide_eq_true hb,if_pos ∅];refine ihc _ _ _ ⟨j+1,ps++[j],_,⋯,by rw[show W.length-(j+1)=m by lia],rfl,by rw[BY];rfl,by rw[AH,Bw];lia,λk hk=>?_,I',K'⟩
   rcases Au.1 hk with hk|hk
   ·exact hps k hk
   ·simp at hk;subst hk;have wz:∀c∈[40,41,91,93,123,125],wt c≠0:=by decide
    exact⟨c,hc,wz c hb⟩
  ·rw[decide_eq_false hb,if_neg ∅];exact ihc _ _ _ ⟨j+1,ps,_,⋯,by rw[show W.length-(j+1)=m by lia],rfl,rfl,⋯,hps,I',K'⟩
end
structure PT0(P:d6)(G:Gs):Prop extends PM P G where
 bu:P "built_up"=AA d_built_up
mutual
noncomputable def D.lit:D->Bool
 |.int _=>AC
 |.str x=>Bp (.str x)
 |.tup ds=>D.lits ds
 |_=>AF
noncomputable def D.lits:List D->Bool
 |[]=>AC
 |d::r=>d.lit&&D.lits r
end
mutual
theorem az7:∀x y:D,x.lit=AC->y.lit=AC->(deq x y=AC↔x=y)
 |.int i,y,hx,hy=>by
  cases y<;>first|(simp[D.lit]at hy;done)|skip
  ·rw[ai3];simp
  ·constructor
   ·intro h;simp[deq,D.py,Ao]at h
   ·intro h;cases h
  ·constructor
   ·intro h;simp[deq,D.py,Ao]at h
   ·intro h;cases h
 |.str x,y,hx,hy=>by
  cases y<;>first|(simp[D.lit]at hy;done)|skip
  ·constructor
   ·intro h;simp[deq,D.py,Ao]at h
   ·intro h;cases h
  ·rw[l7];simp
  ·constructor
   ·intro h;simp[deq,D.py,Ao]at h
   ·intro h;cases h
 |.tup xs,y,hx,hy=>by
  cases y<;>first|(simp[D.lit]at hy;done)|skip
  ·constructor
   ·intro h;simp[deq,D.py,Ao]at h
   ·intro h;cases h
  ·constructor
   ·intro h;simp[deq,D.py,Ao]at h
   ·intro h;cases h
  ·rename_i ys;rw[G7,av8 xs ys hx hy];simp
 |.non,y,hx,hy=>nomatch hx
 |.bl _,y,hx,hy=>nomatch hx
 |.ref _,y,hx,hy=>nomatch hx
 |.fn _,y,hx,hy=>nomatch hx
theorem av8:∀xs ys:List D,D.lits xs=AC->D.lits ys=AC->(t0 xs ys=AC↔xs=ys)
 |[],[],_,_=>by simp[t0]
 |[],y::ys,_,_=>by simp[t0]
 |x::xs,[],_,_=>by simp[t0]
 |x::xs,y::ys,hx,hy=>by
  have h1:x.lit=AC/\D.lits xs=AC:=by simpa[D.lits]using hx
  have h2:y.lit=AC/\D.lits ys=AC:=by simpa[D.lits]using hy
  rw[t0,Az,az7 x y h1.1 h2.1,av8 xs ys h1.2 h2.2,BO]
end
def ah1{x:D}(hx:x.lit=AC):deq x x=AC:=(az7 x x hx hx).mpr rfl
def A1(s:String):(D.str (AD s)).lit=AC:=d8 s
def A3{ds:List D}:(D.tup ds).lit=D.lits ds:=rfl
def y3{d:D}{r:List D}:D.lits (d::r)=(d.lit&&D.lits r):=rfl
def B3:D.lits []=AC:=rfl
def cs8{Γ:List Kd}{p:Pg}{k:Kd}(h:Kn Γ p k):Γ.length+p.hgt<=10000->p.nm:=by
 induction h with
 |name e=>intro hl;have:=(Ai.1 e).1;simp only[Pg.hgt]at hl;simp only[Pg.nm];lia
 |star=>intro _;trivial
 |pair _ _ i1 i2|give _ _ i1 i2=>intro hl;simp only[Pg.hgt]at hl;exact⟨i1 ⋯,i2 ⋯⟩
 |first _ i|second _ i|left _ i|right _ i|never _ i=>intro hl;simp only[Pg.hgt]at hl;exact i ⋯
 |way _ i=>intro hl;simp only[Pg.hgt]at hl;exact i (by simp only[AG];lia)
 |lets _ _ i1 i2=>intro hl;simp only[Pg.hgt]at hl;exact⟨i1 ⋯,i2 (by simp only[AG];lia)⟩
 |case _ _ _ i1 i2 i3=>intro hl;simp only[Pg.hgt]at hl;exact⟨i1 ⋯,i2 (by simp only[AG];lia),i3 (by simp only[AG];lia)⟩
mutual
theorem R8:∀t:Th,g5 t.d<=2*t.h
 |.u=>by decide
 |.p a b=>by
  have h1:=R8 a;have h2:=R8 b;simp only[Th.d,l9,Th.h];show max (g5 (.str (AD "p"))) (max (g5 a.d) (max (g5 b.d) 0))+1<=_;rw[g7];lia
 |.l a=>by
  have h1:=R8 a;simp only[Th.d,l9,Th.h];show max (g5 (.str (AD "l"))) (max (g5 a.d) 0)+1<=_;rw[g7];lia
 |.r a=>by
  have h1:=R8 a;simp only[Th.d,l9,Th.h];show max (g5 (.str (AD "r"))) (max (g5 a.d) 0)+1<=_;rw[g7];lia
 |.w k=>by
  have h1:=a80 k;simp only[Th.d,l9,Th.h];show max (g5 (.str (AD "w"))) (max (g5 (.tup k.ds)) 0)+1<=_;rw[g7,l9];lia
theorem a80:∀k:Ths,m8 k.ds<=2*k.h
 |.nil=>by decide
 |.cons t r=>by
  have h1:=R8 t;have h2:=a80 r;show max (g5 t.d) (m8 r.ds)<=2*max t.h r.h;lia
end
mutual
theorem Q3:∀t:Th,t.d.lit=AC
 |.u=>rfl
 |.p a b=>by simp only[Th.d,A3,y3,B3,A1,Q3 a,Q3 b,Ab]
 |.l a=>by simp only[Th.d,A3,y3,B3,A1,Q3 a,Ab]
 |.r a=>by simp only[Th.d,A3,y3,B3,A1,Q3 a,Ab]
 |.w k=>by simp only[Th.d,A3,y3,B3,A1,az8 k,Ab]
theorem az8:∀k:Ths,D.lits k.ds=AC
 |.nil=>rfl
 |.cons t r=>by simp only[Ths.ds,y3,Q3 t,az8 r,Ab]
end
def ba6:∀k:Kd,k.d.lit=AC:=by
 intro k
 induction k with
 |non|one=>simp only[Kd.d,A3,y3,B3,A1,Ab]
 |eith a b ia ib|both a b ia ib|way a b ia ib=>simp only[Kd.d,A3,y3,B3,A1,ia,ib,Ab]
def ci2:∀g:Pg,g.d.lit=AC:=by
 intro g
 induction g with
 |name i=>
  rw[Pg.d,A3,y3,A1];rfl
 |star=>simp only[Pg.d,A3,y3,B3,A1,Ab]
 |pair t u it iu|give t u it iu|lets t u it iu=>simp only[Pg.d,A3,y3,B3,A1,it,iu,Ab]
 |first t it|second t it=>simp only[Pg.d,A3,y3,B3,A1,it,Ab]
 |case t u v it iu iv=>simp only[Pg.d,A3,y3,B3,A1,it,iu,iv,Ab]
 |left k t it|right k t it|way k t it|never k t it=>simp only[Pg.d,A3,y3,B3,A1,ba6,it,Ab]
structure Fc(i:Int)(W:List Nat)(v:D):Prop where
 g:G3 i W v
 s:S3 97 i W v
 ok:Ok3 i W
 len:W.length<=50000
 chr:∀c∈W,c<1114112
 pu:v.pure=AC
 dp:g5 v<=100
 eq:deq v v=AC
 on:∀A x d Y,W=A++(d++Y)->x.length<=1->d.length<=1->∀u,V3 i (A++(x++Y)) u->S3 97 i (A++(x++Y)) u
def aa7{W A x d Y:List Nat}(e:W=A++(d++Y))(hx:x.length<=1):(A++(x++Y)).length<=W.length+1:=by rw[e];simp only[AH];lia
def c16{k:Kd}(h:k.nest<=4):Fc 0 k.tr.s k.d:=by
 have l1:=ak3 k;have p4:2^k.nest<=2^4:=Ak ∅ h;refine⟨⟨k,⋯,rfl,rfl⟩,⟨k,⋯,⋯,rfl,rfl⟩,⟨k,rfl⟩,⋯,P6 k,t7 k,by rw[t9];lia,ah1 (ba6 k),?_⟩;rintro A x d Y e hx hd u ⟨k',e',rfl⟩;have o:=(ak0 (A:=A) (B:=Y) hx hd).1;have ol:=aa7 e hx;rw[<-e,(aa4 k).2,e',(aa4 k').2]at o;exact⟨k',⋯,by rw[<-e'];lia,e',rfl⟩
def c02{g:Pg}(h1:g.kn 6)(h2:g.nm)(h3:g.parts<=64)(h4:g.hgt<=15):Fc 1 g.tr.s g.d:=by
 have l1:=aj5 g h1 h2;have m1:=cw8 g h1;refine⟨⟨g,h1,h2,⋯,rfl,rfl⟩,⟨g,6,h1,h2,⋯,⋯,rfl,rfl⟩,⟨g,h2,rfl⟩,⋯,a69 g,b88 g,Ag (cr8 g h1) ⋯,ah1 (ci2 g),?_⟩;rintro A x d Y e hx hd u ⟨g',n',e',rfl⟩;have o:=(ak0 (A:=A) (B:=Y) hx hd).1;have ol:=aa7 e hx;rw[<-e,e',(ak4 g).2,(ak4 g').2]at o;have hb:=cv1 g';exact⟨g',23,cn3 g' 23 ⋯,n',by rw[<-e'];lia,⋯,e',rfl⟩
def cx6{t:Th}(h1:t.sm)(h2:t.z<=4801)(h3:t.h<=5):Fc 2 t.tr.s t.d:=by
 have l1:=y8 t;obtain⟨u1,_,u2⟩:=v8 t;refine⟨⟨t,h1,⋯,rfl,rfl⟩,⟨t,⋯,⋯,rfl,rfl⟩,⟨t,rfl⟩,⋯,J1 t,G6 t,Ag (R8 t) ⋯,ah1 (Q3 t),?_⟩;rintro A x d Y e hx hd u ⟨t',e',rfl⟩;obtain⟨o1,o2⟩:=ak0 (A:=A) (B:=Y) hx hd;have ol:=aa7 e hx;rw[<-e,e',(E6 t).2,(E6 t').2]at o1;rw[<-e,e',(E7 t).2,(E7 t').2]at o2;have hz:=N3 t';rw[<-e']at hz;have hb:=Q9 11 t' 7 ⋯ ⋯;have hl:=ac9 t';exact⟨t',⋯,⋯,e',rfl⟩
def av0(j m:Nat):i6 (j:Int) (m+1)=.int j::i6 ((j+1:Nat):Int) m:=by
 unfold i6;rw[HP,AV,EH];refine congr (congrArg LA ∎) (FG λk _=>?_);simp only[IS]
 congr 1
 lia
section
variable {P:d6} {G:Gs} [NoRs G] (B:PB P) (T:P96 P G) (hL:P "_law_thing"=AA L9) {n:Nat} {st:Sto} {Q:DK}
include B T
def cf6{a da sa:AM}{g kd pd:D}{vs:List D}(hn:98<=n)(hv:∀i:Nat,i<3->∃W v,vs[i]?=AA v/\Fc i W v)(I:f8 st da)(hsa:st sa=AA (.lst vs))(nd:sa≠da):c9 (Zg P G n) G0.body.tl'.tl'.tl'.tl'.tl'.tl' (e8 λd _=>d=.bl AC) [AA (.ref a),AA (.ref da),AA g,AA kd,AA pd,AA (.ref sa),AE,AE,AE,AE,AE] st:=by
 unfold G0;simp only[Ss.tl'];∎;obtain⟨n,rfl⟩:∃m,n=m+1:=⟨n-1,⋯⟩;refine⟨∅,G4 (λl env st'=>∃(j:Nat)(x6 x7 x8 x9 x10:Option D),j<=3/\l=i6 j (3-j)/\env=[AA (.ref a),AA (.ref da),AA g,AA kd,AA pd,AA (.ref sa),x6,x7,x8,x9,x10]/\f8 st' da/\st' sa=AA (.lst vs)) ?_ ?_ _ _ _ ⟨0,AE,AE,AE,AE,AE,∅,rfl,rfl,I,hsa⟩⟩
 ·rintro env st' ⟨j,x6,x7,x8,x9,x10,hj,hl,rfl,I',hsa'⟩;refine⟨trivial,?_⟩;∎;exact b8 rfl
 rintro d l env st1 ih ⟨j,x6,x7,x8,x9,x10,hj,hl,rfl,I1,hsa1⟩;refine⟨trivial,?_⟩;cases hm:3-j with
 |zero=>rw[hm]at hl;exact nomatch hl
 |succ m=>
 rw[hm,av0]at hl;obtain⟨rfl,rfl⟩:=Dw hl;obtain⟨W,v,hvj,F⟩:=hv j ⋯;have hi:(j:Int)=0\/(j:Int)=1\/(j:Int)=2:=by lia
 rfl';∎;rw[w8 (.inl hsa1)];refine⟨by rw[T.lw];rfl,v,by rw[A4];exact hvj,ap6 T B ⋯ F.s λst2 K2=>?_⟩;have I2:=I1.keep K2 ∎;have hsa2:=K2 sa _ ∎ hsa1;∎;have pt:=k9 F.chr;refine⟨∅,G4 (λl env st'=>∃(k:Nat)(x8 x9 x10:Option D),k<=4/\l=i6 k (4-k)/\env=[AA (.ref a),AA (.ref da),AA g,AA kd,AA pd,AA (.ref sa),AA (.int j),AA (.str (tx W)),x8,x9,x10]/\f8 st' da/\st' sa=AA (.lst vs)) ?_ ?_ _ _ _ ⟨0,x8,x9,x10,∅,rfl,rfl,I2,hsa2⟩⟩
 ·rintro env st3 ⟨k,x8,x9,x10,hk,hl,rfl,I3,hsa3⟩;refine⟨trivial,?_⟩;∎;refine⟨by rw[T.lr];rfl,bx9 T ⋯ F.g λp st4 hp K4=>?_⟩;have hsa4:=K4 sa _ ∎ hsa3;rw[w8 (.inl hsa4)];refine⟨v,by rw[A4];exact hvj,λp2 hp2=>?_⟩;have pv:D.pures [v]=AC:=by rw[i8,F.pu];rfl
  refine ba2 (.inl (d7 hp hp2)) (.inl b7) pv pv ?_ ?_
  ·rw[ah6];show max (g5 v) 0<=149;have:=F.dp;lia
  have ev:t0 [v] [v]=AC:=by show(deq v v&&AC)=AC;rw[F.eq];rfl
  rw[ev];refine⟨_,rfl,?_⟩;rw[if_neg ∅];rfl';exact ih _ _ ⟨j+1,_,_,_,_,_,⋯,by rw[show 3-(j+1)=m by lia],rfl,(I3.keep K4 ∎).elim λl e=>⟨l,d7 e hp2⟩,d7 hsa4 hp2⟩
 rintro d l env st3 ih2 ⟨k,x8,x9,x10,hk,hl,rfl,I3,hsa3⟩;refine⟨trivial,?_⟩;cases hm2:4-k with
 |zero=>rw[hm2]at hl;exact nomatch hl
 |succ m2=>
 rw[hm2,av0]at hl;obtain⟨rfl,rfl⟩:=Dw hl;rfl';∎;refine⟨by rw[T.lo];rfl,b97 T B ⋯ (Ag F.len ∅) I3 λA x d Y st4 eW hx hd hxc I4 K4=>?_⟩;have hsa4:=K4 sa _ (by simpa using nd) hsa3;have ol:=aa7 eW hx;have hl':=F.len;have chr':∀c∈A++(x++Y),c<1114112:=λc hc=>by
  rcases Au.1 hc with h|h
  ·exact F.chr c (by rw[eW];exact DN _ h)
  ·rcases Au.1 h with h|h
   ·exact hxc c h
   ·exact F.chr c (by rw[eW];exact BK _ (BK _ h))
 ∎;have after:∀(F':DEnds)(p:AM)(st5:Sto),(∀st6,f8 st6 da->st6 sa=AA (.lst vs)->F'.nx [AA (.ref a),AA (.ref da),AA g,AA kd,AA pd,AA (.ref sa),AA (.int j),AA (.str (tx W)),AA (.int k),AA (.str (tx (A++(x++Y)))),AA (.ref p)] st6)->f8 st5 da->st5 sa=AA (.lst vs)->c9 (Zg P G (n+1)) (Ss.cons (S.iff (E.cmpl AC (E.call (AD "_law_read") (Es.cons (E.v 6) (Es.cons (E.call (AD "_law_none") (Es.cons (E.v 1) (Es.cons (E.v 6) (Es.cons (E.v 7) Es.nil)))) Es.nil))) (E.lst Es.nil)) (Ss.cons (S.ret (E.bl AF)) Ss.nil) Ss.nil) Ss.nil) F' [AA (.ref a),AA (.ref da),AA g,AA kd,AA pd,AA (.ref sa),AA (.int j),AA (.str (tx W)),AA (.int k),AA (.str (tx (A++(x++Y)))),AA (.ref p)] st5:=by
  intro F' p st5 hF I5 hsa5;∎;refine⟨by rw[T.lr];rfl,by rw[T.ln];rfl,b58 T B ⋯ hi F.len F.chr F.ok I5 λX st6 hX lX cX I6 K6=>?_⟩;have hsa6:=K6 sa _ (by simpa using nd) hsa5;refine as1 T ⋯ lX cX (λq st7 hq K7=>?_) λu hu=>absurd hu.ok hX;intro p2 hp2;refine ba2 (.inl (d7 hq hp2)) (.inl b7) rfl rfl (An _) ⟨_,rfl,?_⟩;rw[if_neg ∅];rfl';exact hF _ ((I6.keep K7 ∎).elim λl e=>⟨l,d7 e hp2⟩) (d7 (K7 sa _ ∎ hsa6) hp2)
 refine⟨by rw[T.lr];rfl,as1 T ⋯ ⋯ chr' (λp st5 hp K5=>?_) λu hu p st5 hp K5=>?_⟩
 ·have I5:=I4.keep K5 ∎;have hsa5:=K5 sa _ ∎ hsa4;∎;refine .inr ⟨nofun,?_⟩;rw[r9 (.inl hp)];rfl';rw[if_neg ∅];exact after _ p st5 (λst6 I6 h6=>ih2 _ _ ⟨k+1,_,_,_,⋯,by rw[show 4-(k+1)=m2 by lia],rfl,I6,h6⟩) I5 hsa5
 ·have I5:=I4.keep K5 ∎;have hsa5:=K5 sa _ ∎ hsa4;have pc:=k9 chr';∎;refine .inr ⟨nofun,?_⟩;rw[r9 (.inl hp)];rfl';rw[if_pos ∅,w8 (.inl hp)];refine⟨by rw[T.lw];rfl,u,rfl,ap6 T B ⋯ (F.on A x d Y eW hx hd u hu) λst6 K6=>W1 pc pc ⟨_,rfl,?_⟩⟩;rw[decide_eq_true rfl,if_neg ∅];exact after _ p st6 (λst7 I7 h7=>ih2 _ _ ⟨k+1,_,_,_,⋯,by rw[show 4-(k+1)=m2 by lia],rfl,I7,h7⟩) (I5.keep K6 ∎) (K6 sa _ ∎ hsa5)
include hL
def cq6(hlaw:P "law"=AA G0){a:AM}{ns:List Int}(hn:99<=n)(hl:ns.length<=63)(h:rdS st a (ns.map D.int)):sem P G n "law" [.ref a] st λd _=>d=.bl AC:=by
 obtain⟨n,rfl⟩:∃m,n=m+20:=⟨n-20,⋯⟩;refine d4 hlaw rfl [AA (.ref a),AE,AE,AE,AE,AE,AE,AE,AE,AE,AE] rfl ?_;unfold G0;∎;refine⟨by rw[B.deck];rfl,b76 B.toPB0 ⋯ hl h λda st1 I1 _=>?_⟩;∎;refine⟨by rw[B.names];rfl,b32 B (most:=3) (lines:=64) ⋯ ∅ ∅ ∅ I1 λΓ st2 hΓ hk hr I2 _=>?_⟩;∎;refine⟨by rw[B.kind];rfl,U6 B.toPB0 (most:=100) ∅ ∅ 4 ⋯ I2 λkh st3 g3 b3 n3 I3 _=>?_⟩;∎;refine⟨by rw[B.program];rfl,by rw[B.kind];rfl,U6 B.toPB0 (most:=16) ∅ ∅ 3 ⋯ I3 λk4 st4 g4 b4 n4 I4 _=>?_⟩;rfl';refine⟨by rw[B.next];rfl,l8 B.toPB0 (m:=20) ∅ I4 λr5 st5 r50 r51 I5 _=>?_⟩;rfl';refine bt7 B ⋯ ⋯ I5 g4 (Kd.bd_mono ∅ b4) ⋯ ⋯ λp st6 kp hp pp mp cp I6 _=>?_;have np:p.nm:=cs8 (ct1 kp) ⋯;have lp:=aj5 p mp np;∎;refine⟨by rw[T.ls];rfl,as4 T.toPWp B 15 p mp np ⋯ hp ⋯ λst7 K7=>?_⟩;have I7:f8 st7 da:=I6.keep K7 ∎;have main:∀p:Pg,p.kn 6->p.nm->p.parts<=64->p.hgt<=15->c9 (Zg P G (n+19)) G0.body.tl'.tl'.tl'.tl'.tl' (e8 λd _=>d=.bl AC) [AA (.ref a),AA (.ref da),AA (.tup (Γ.map Kd.d)),AA kh.d,AA p.d,AE,AE,AE,AE,AE,AE] st7:=by
  intro p mp np pp hp;unfold G0;simp only[Ss.tl'];∎;refine⟨by rw[hL];rfl,bz2 B.toPB0 hL kh g3 b3 ⋯ I7 λt st8 s8 z8 h8 I8 K8=>?_⟩;have p4:7^kh.nest<=7^4:=Ak ∅ n3;intro sa hsa;have:=cf6 B T (n:=n+19) (a:=a) (g:=.tup (Γ.map Kd.d)) (kd:=kh.d) (pd:=p.d) (vs:=[kh.d,p.d,t.d]) ⋯ (λi hi=>?_) (I8.elim λl e=>⟨l,d7 e hsa⟩) b7 (λz=>by obtain⟨l,e⟩:=I8;rw[z,e]at hsa;cases hsa)
  ·exact this
  ·have:i=0\/i=1\/i=2:=by lia
   rcases this with rfl|rfl|rfl
   ·exact⟨_,_,rfl,c16 n3⟩
   ·exact⟨_,_,rfl,c02 mp np pp hp⟩
   ·exact⟨_,_,rfl,cx6 s8 ⋯ ⋯⟩
 refine⟨_,rfl,by rw[i5];exact Ag (show _<=60000 by lia) ∅,?_⟩
 by_cases hb:(3800:Int)<((tx p.tr.s).length:Nat)
 ·rw[if_pos hb];∎;exact main .star trivial trivial ∅ ∅
 ·rw[if_neg hb];exact main p mp np ⋯ hp
end
noncomputable instance:NoRs j4:=⟨rfl⟩
def cz8:PB C9:=⟨⟨rfl,rfl,rfl,rfl,rfl,rfl⟩,rfl,rfl,rfl,rfl,rfl,rfl,rfl,rfl,rfl⟩
def cx7:PRd C9 j4:=⟨rfl,rfl,rfl,rfl,rfl,rfl,rfl,rfl,rfl,rfl,rfl,rfl,rfl,rfl,rfl,rfl⟩
def bn6:PRk C9 j4:={cx7 with bk:=rfl,rk:=rfl}
def c10:PRp C9 j4:={bn6 with bp:=rfl,bf:=rfl,rn:=rfl,rp:=rfl,kF:=rfl,kL:=rfl,fo:=rfl}
def c14:PWk C9 j4:={bn6 with lk:=rfl}
def c20:PWp C9 j4:={c14,c10 with ls:=rfl,li:=rfl}
def p96:P96 C9 j4:={c20 with bt:=rfl,rt:=rfl,lt:=rfl,lr:=rfl,lw:=rfl,lo:=rfl,ln:=rfl,ix:=rfl}
def b05(a:AM)(ns:List Int)(h:ns.length<=63):sem C9 j4 100 "law" [.ref a] (st0 a ns) λd _=>d=.bl AC:=
 cq6 cz8 p96 rfl rfl ∅ h (.inr (by unfold st0;rw[if_pos rfl]))
end Ek
namespace Ek
open PySem L2
abbrev top(i:Nat):BG:=PySem.Challenge.pw_evenkinds_k96_texts_refused.main.body.getD i (.Pass ⟨0,0,0,0⟩)
abbrev mth(i k:Nat):BG:=match top i with|.ClassDef _ _ _ b _ _ _ _ _ _ _=>b.getD k (.Pass ⟨0,0,0,0⟩)|_=>.Pass ⟨0,0,0,0⟩
def cl2{pr:Aj}{w:BA}{K:AS}{h:Ay}{mg:Str->Option AI}{ts:List AM}(X:K.In h)(G:h.Ns AO mg){g0:AM}{g1:AM}{ku0:AI}{ku1:AI}{ku2:AI}{ku3:AI}{C0:AM}{C1:AM}{XC XE:AM}{XI0:AM}{XI1:AM}{XI2:AM}
  (a0:FnA K ts AF "read_kind" (top 12))
  (a1:FnA K ts AF "read_program" (top 13))
  (a2:FnA K ts AF "read_thing" (top 14))
  (a3:FnA K ts AF "read_whole" (top 15))
  (a4:FnA K ts AF "read_one" (top 18))
  (a5:FnA K ts AF "begin_kind" (top 19))
  (a6:FnA K ts AF "begin_program" (top 20))
  (a7:FnA K ts AF "begin_form" (top 21))
  (a8:FnA K ts AF "read_number" (top 22))
  (a9:FnA K ts AF "begin_thing" (top 23))
  (a10:FnA K ts AF "_law_mixed" (top 25))
  (a11:FnA K ts AF "_law_deck" (top 26))
  (a12:FnA K ts AF "_law_next" (top 27))
  (a13:FnA K ts AF "_law_power" (top 28))
  (a14:FnA K ts AF "_law_count" (top 29))
  (a15:FnA K ts AF "_law_kind" (top 30))
  (a16:FnA K ts AF "_law_least" (top 31))
  (a17:FnA K ts AF "_law_made" (top 32))
  (a18:FnA K ts AF "_law_nest" (top 33))
  (a19:FnA K ts AF "_law_asked" (top 34))
  (a20:FnA K ts AF "_law_grown" (top 35))
  (a21:FnA K ts AF "_law_inner" (top 36))
  (a22:FnA K ts AF "_law_parts" (top 37))
  (a23:FnA K ts AF "_law_program" (top 38))
  (a24:FnA K ts AF "_law_names" (top 39))
  (a25:FnA K ts AF "_law_kind_shown" (top 40))
  (a26:FnA K ts AF "_law_shown" (top 41))
  (a27:FnA K ts AF "_law_thing" (top 42))
  (a28:FnA K ts AF "_law_thing_shown" (top 43))
  (a29:FnA K ts AF "_law_read" (top 44))
  (a30:FnA K ts AF "_law_written" (top 45))
  (a31:FnA K ts AF "_law_one_sign" (top 46))
  (a32:FnA K ts AF "_law_none" (top 47))
  (a33:FnA K ts AF "law" (top 48))
  (bb:∀b∈U0,Aw K AO b=AA AE)
  (ga0:Aw K AO "KIND_WORDS"=AA (AA (.ref g0))) (gt0:(letI:Tbs:=⟨ts,mFB,(j4.cls "!kt").isEmpty⟩;ab7 K g0 (j4.tab "KIND_WORDS"))=AC)
  (ga1:Aw K AO "FORMS"=AA (AA (.ref g1))) (gt1:(letI:Tbs:=⟨ts,mFB,(j4.cls "!kt").isEmpty⟩;ab7 K g1 (j4.tab "FORMS"))=AC)
  (kc0:Aw K AO "FIGURES"=AA (AA ku0)) (kv0:(letI:Tbs:=⟨ts,mFB,(j4.cls "!kt").isEmpty⟩;A8 K (.str "0123456789") ku0)=AC)
  (kc1:Aw K AO "LETTERS"=AA (AA ku1)) (kv1:(letI:Tbs:=⟨ts,mFB,(j4.cls "!kt").isEmpty⟩;A8 K (.str "abcdefghijklmnopqrstuvwxyz") ku1)=AC)
  (kc2:Aw K AO "KIND"=AA (AA ku2)) (kv2:(letI:Tbs:=⟨ts,mFB,(j4.cls "!kt").isEmpty⟩;A8 K (.tup [.str "kind"]) ku2)=AC)
  (kc3:Aw K AO "ROW"=AA (AA ku3)) (kv3:(letI:Tbs:=⟨ts,mFB,(j4.cls "!kt").isEmpty⟩;A8 K (.tup [.str "row"]) ku3)=AC)
  (kx1:Aw K AO "!is"=AA AE)
  (kx2:Aw K AO "!ix"=AA AE)
  (ca0:ClA K "Reader" C0)
  (ca1:ClA K "Begun" C1)
  (ki1:IscA K C1) (cf0_0:BH K (.ref C0) "text"=AA AE) (cf0_1:BH K (.ref C0) "place"=AA AE) (cf1_0:BH K (.ref C1) "front"=AA AE) (cf1_1:BH K (.ref C1) "many"=AA AE) (cf1_2:BH K (.ref C1) "between"=AA AE) (cf1_3:BH K (.ref C1) "end"=AA AE) (cf1_4:BH K (.ref C1) "parts"=AA AE) (cf1_5:BH K (.ref C1) "found"=AA AE)
  (xc:XcA K XC XE) (xi0:XiA K XC XI0 "NoKind") (xi1:XiA K XC XI1 "NoStep") (xi2:XiA K XC XI2 "NoText")
  (m0:MtA K ts AF "Reader" C0 "__init__" (mth 16 0))
  (m1:MtA K ts AF "Reader" C0 "next_sign" (mth 16 1))
  (m2:MtA K ts AF "Reader" C0 "sign" (mth 16 2))
  (m3:MtA K ts AF "Reader" C0 "must_be" (mth 16 3))
  (m4:MtA K ts AF "Reader" C0 "signs_of" (mth 16 4))
  (m5:MtA K ts AF "Begun" C1 "__init__" (mth 17 0))
  (m6:MtA K ts AF "Begun" C1 "ends_with" (mth 17 1))
  (m7:MtA K ts AF "Begun" C1 "whole" (mth 17 2)) (nl:P4 K=AC) (nt:IQ K=AC) (tso:an1 K ts=AC) (tsE:ts=[]) :
  (letI:Tbs:=⟨ts,mFB,(j4.cls "!kt").isEmpty⟩;AllOk pr w K mg C9 j4)/\P4 K=AC/\IQ K=AC/\∀P∈ts,∃c,Dl K c P=AC:=by
 letI:Tbs:=⟨ts,mFB,(j4.cls "!kt").isEmpty⟩
 refine⟨⟨λf d hf hi=>?_,λf d hf hi=>?_,λf c Ca hn hf=>?_,λb hb=>W.mg_none_of X G (bb b hb),λg hg=>?_,λg i hg=>?_,λc hc=>?_,rfl,λc hc=>?_,λhz=>?_⟩,nl,nt,b77 tso⟩
 ·
  refine(?_:∀f d,(f,d)∈U5->isM f=AF->DefOk K mg f d) f d (PySem.mem_of_lookup hf) hi;unfold U5
  iterate 8 refine f9 (λhi=>absurd hi (by decide+kernel)) ?_
  refine f9 (λ_=>a0.ok X G) ?_;refine f9 (λ_=>a1.ok X G) ?_;refine f9 (λ_=>a2.ok X G) ?_;refine f9 (λ_=>a3.ok X G) ?_;refine f9 (λ_=>a4.ok X G) ?_;refine f9 (λ_=>a5.ok X G) ?_;refine f9 (λ_=>a6.ok X G) ?_;refine f9 (λ_=>a7.ok X G) ?_;refine f9 (λ_=>a8.ok X G) ?_;refine f9 (λ_=>a9.ok X G) ?_;refine f9 (λ_=>a10.ok X G) ?_;refine f9 (λ_=>a11.ok X G) ?_;refine f9 (λ_=>a12.ok X G) ?_;refine f9 (λ_=>a13.ok X G) ?_;refine f9 (λ_=>a14.ok X G) ?_;refine f9 (λ_=>a15.ok X G) ?_;refine f9 (λ_=>a16.ok X G) ?_;refine f9 (λ_=>a17.ok X G) ?_;refine f9 (λ_=>a18.ok X G) ?_;refine f9 (λ_=>a19.ok X G) ?_;refine f9 (λ_=>a20.ok X G) ?_;refine f9 (λ_=>a21.ok X G) ?_;refine f9 (λ_=>a22.ok X G) ?_;refine f9 (λ_=>a23.ok X G) ?_;refine f9 (λ_=>a24.ok X G) ?_;refine f9 (λ_=>a25.ok X G) ?_;refine f9 (λ_=>a26.ok X G) ?_;refine f9 (λ_=>a27.ok X G) ?_;refine f9 (λ_=>a28.ok X G) ?_;refine f9 (λ_=>a29.ok X G) ?_;refine f9 (λ_=>a30.ok X G) ?_;refine f9 (λ_=>a31.ok X G) ?_;refine f9 (λ_=>a32.ok X G) ?_;refine f9 (λ_=>a33.ok X G) ?_;exact bj7
 ·
  refine(?_:∀f d,(f,d)∈U5->isM f=AC->∃c m,f=d0 c m/\isM c=AF/\isM m=AF/\MthOk K mg (S6 j4.cls (d0 c m)) c m d) f d (PySem.mem_of_lookup hf) hi;unfold U5;refine f9 (λ_=>m0.ok ca0 X G) ?_;refine f9 (λ_=>m1.ok ca0 X G) ?_;refine f9 (λ_=>m2.ok ca0 X G) ?_;refine f9 (λ_=>m3.ok ca0 X G) ?_;refine f9 (λ_=>m4.ok ca0 X G) ?_;refine f9 (λ_=>m5.ok ca1 X G) ?_;refine f9 (λ_=>m6.ok ca1 X G) ?_;refine f9 (λ_=>m7.ok ca1 X G) ?_
  iterate 34 refine f9 (λhi=>absurd hi (by decide+kernel)) ?_
  exact bj7
 ·
  unfold j4 at hf;simp only at hf
  by_cases hci:c="!is"
  ·subst hci;rw[kx1]at hn;cases hn
  rw[if_neg hci]at hf
  by_cases hcx:c="!ix"
  ·subst hcx;rw[kx2]at hn;cases hn
  rw[if_neg hcx]at hf
  by_cases hc0:c="Reader"
  ·subst hc0;rw[ca0.a]at hn;cases hn;rw[if_pos rfl]at hf;simp only[AT,Ad,or_false]at hf;refine⟨ca0.cl,?_⟩
   rcases hf with rfl|rfl
   ·exact cf0_0
   ·exact cf0_1
  rw[if_neg hc0]at hf
  by_cases hc1:c="Begun"
  ·subst hc1;rw[ca1.a]at hn;cases hn;rw[if_pos rfl]at hf;simp only[AT,Ad,or_false]at hf;refine⟨ca1.cl,?_⟩
   rcases hf with rfl|rfl|rfl|rfl|rfl|rfl
   ·exact cf1_0
   ·exact cf1_1
   ·exact cf1_2
   ·exact cf1_3
   ·exact cf1_4
   ·exact cf1_5
  rw[if_neg hc1]at hf;exact absurd hf Ad
 ·unfold j4 at hg ⊢;simp only at hg ⊢
  by_cases hg0:g="KIND_WORDS"
  ·subst hg0;exact a50 X G ga0 gt0
  rw[if_neg hg0]at hg
  by_cases hg1:g="FORMS"
  ·subst hg1;exact a50 X G ga1 gt1
  rw[if_neg hg1]at hg;exact absurd rfl hg
 ·unfold j4 at hg;simp only at hg
  by_cases hg0:g="FIGURES"
  ·subst hg0;rw[if_pos rfl]at hg;cases hg;exact⟨_,Dz X G kc0,kv0⟩
  rw[if_neg hg0]at hg
  by_cases hg1:g="LETTERS"
  ·subst hg1;rw[if_pos rfl]at hg;cases hg;exact⟨_,Dz X G kc1,kv1⟩
  rw[if_neg hg1]at hg
  by_cases hg2:g="KIND"
  ·subst hg2;rw[if_pos rfl]at hg;cases hg;exact⟨_,Dz X G kc2,kv2⟩
  rw[if_neg hg2]at hg
  by_cases hg3:g="ROW"
  ·subst hg3;rw[if_pos rfl]at hg;cases hg;exact⟨_,Dz X G kc3,kv3⟩
  rw[if_neg hg3]at hg;cases hg
 ·
  rw[(by decide+kernel:j4.cls "!is"=(["Begun"]:List Str))]at hc;cases FV.1 hc;exact⟨_,Dz X G ca1.a,ca1.a,ca1.cl,ki1.ha,ki1.hn,ki1.htk,ki1.hm,ki1.no,ki1.yes⟩
 ·rw[(by decide+kernel:j4.cls "!ix"=(["NoKind","NoStep","NoText"]:List Str))]at hc
  rcases AT.1 hc with rfl|hc
  ·exact XiA.ok xc xi0 X G
  rcases AT.1 hc with rfl|hc
  ·exact XiA.ok xc xi1 X G
  rcases AT.1 hc with rfl|hc
  ·exact XiA.ok xc xi2 X G
  cases hc
 ·rw[(by decide+kernel:j4.cls "!ix"=(["NoKind","NoStep","NoText"]:List Str))]at hz;exact⟨tsE,⟨_,_,xc.n,Dz X G xc.e,xc.em⟩,_,xc.n,Dz X G xc.n,xc.ex⟩
end Ek
namespace PySem.W.Fast
local macro_rules|`(command|include $x*)=>do return Lean.mkNullNode (← x.mapM fun i=>Lean.MonadRef.withRef .missing `(command|theorem $i:ident:True:=⟨⟩))
include tw12677229666940888464 tw9852529430641666247 tw15177379553549741794 tw99126864208646521 tw17863747187686673811 tw7754269219137693251 tw834490038320294867 tw14715845795964882641 tw4064497155951147069 tw12117703174206507371 tw5680544585751099223 tw15888357763920833309 tw14128834274822928086 tw13241679863580739589 tw10139764130634480818 tw6443165409474563065 tw7932948333872716232 tw9351495869678816482 tw6425736570686192831 tw1617215556981703108 tw5134670110315132135 tw6349166363612642867 tw17483245655574045533 tw12349737649334793185 tw8127833597781941698 tw8797390028543472668 tw15554292389455581731 tw103840255832257904 tw11537698682178260779 tw12455856571308505722 tw8577285561120416450 tw8461561518064427616 tw13729535276127954861 tw5415773246905976956 tw16987813862743628454 tw14661790961295773681 tw7971194163732448440 tw1331523939419757295 tw6995296083667713577 tw1765409760947874669 tw17752078566508166482 tw6462780663610077437 tw3240027552009077892 tw945108637804597889 tw1165171293206656658 tw5936982206097538650 tw14779846816604697159 tw9081977238465195300 tw14920870199286210033 tw9079145803752267881 tw17071540475075971782 tw16000262461464390850 tw14800186580593303795 tw12030077254742322650 tw12453764612744688781 tw3869725691394662184 tw11544502423256414677 tw3339548417103258535 tw17480567297263223817 tw11349920090641602307 tw10415314996494663047 tw15485680580206852070 tw14465728084696110738 tw7850269508590478918 tw17241984019607625696 tw1146987702819073189 tw11624923196998060190 tw5557635136194373549 tw7142105212508296867 tw3674254146827993529 tw4435466879844487144 tw14325015678767086898 tw14239977934463390423 tw17945253941868571903 tw13755330425023054982 tw17937007423818360156 tw16068603356707390438 tw3970769431862397065 tw8490590019592073880 tw12828682504586936438 tw14819694105447653313 tw2288266235364741178 tw560222022682299852 tw9661546983829890912 tw14715647264142411931 tw8079019944318707007 tw4054651356961720428 tw14987126019417785839 tw15409341821211086572 tw1462102348279231176 tw7222397803408141547 tw14155247880010387267 tw7922510693457131604 tw15742618100223250001 tw15183717481694837832 tw14162663979368618415 tw16565433650447480180 tw4562902813962095484 tw14008451571871652603 tw7374237090475252768 tw10930895345604971541 tw860831105313257848 tw16112611491875844995 tw14523713339245278852 tw3580810780887785835 tw14919158384926194604 tw814331873674876298 tw5407356928085140980 tw10021933246283051067 tw4426416881932137009 tw5286534138130094052 tw123664305424145231 tw15036992269496532258 tw15552137305537361227 tw11357203753111096099 tw321753742348415256 tw7504575171103963451 tw4994834011739975340 tw4574753705364914232 tw12410146446788968880 tw10252235348609102856 tw13680740438807003702 tw17849251879649207242 tw2203759225983608470 tw2787186914888626453 tw18148923251712845083 tw4211282550289979652 tw8644836266300322481 tw10084390705918784895 tw6513275375168803786 tw5217444426345385823 tw5300170779460560855 tw11722275271219025878 tw355960528924982239 tw5342444247880946265 tw3785561525234643664 tw7286577742344547042 tw12006522354416500890 tw1233431351570339479 tw14216996076360960507 tw17908307037563420426 tw3037199745012315547 tw3936130742371473400 tw16475971575220426268 tw7224626520752185838 tw3848753919903307116 tw1434991321970266426 tw14566648126757464194 tw14909405803762017012 tw14045219590287699381 tw12483892628423391631 tw5380179202429711967 tw5281254678930408573 tw3754448525743389198 tw2144945523584348454 tw10129755202083268658 tw10746260617579017211 tw3038154626853840084 tw11883289489547606577 tw15194110520883116686 tw948038228389086848 tw10192092438207969395 tw10215008073820093809 tw1431556437076076079 tw10472808592157525779 tw8315780056429427846 tw5519037819168930564 tw4314520472721235377 tw18005481389775078000 tw17013204366208751595 tw16962727888437734662 tw3344557104341911287 tw3706349563244506352 tw9258408730525236497 tw3139499750058531770 tw7813466839029627792 tw6692415482619191781 tw13790808848410095523 tw17518224302202350315 tw6660612805674461072 tw15316200634200393266 tw5934193719410580299 tw11394408440585496234 tw3606578459773747408 tw17745739607824079565 tw9587210747435376460 tw4997031291373856165 tw17106024035131167106 tw13443259100393153351 tw4840277874294014501 tw8744910272488707515 tw10771047608346163910 tw1375424063847037561 tw16053785533977539524 tw12979808173723609856 tw11281671583303216405 tw5489808641749231589 tw1993763242711231213 tw7237782195376903776 tw5997259800692194282 tw5641802872284527761 tw17415175589697772413 tw18372983603872440334 tw7319509404606105847 tw10221644047427079053 tw11038833365760598411 tw14099980386702879931 tw8690413889571951820 tw3667253187587846266 tw14834594544646041263 tw4438296948552126886 tw4997628008318871681 tw15169560682797191203 tw11637601765047232096 tw8503468132761737147 tw7420672667123388118 tw14246635189059881586 tw9454672568724553093 tw17008749624377780850 tw5113072813015548505 tw10299777679451567933 tw4148942946211677651 tw13778802772421550927 tw7110166253175992497 tw14500000447369221299 tw6085143241952112812 tw7958301938438142241 tw920583925490538167 tw8876670111870085585 tw14832663347783087582 tw17194563701171334296 tw16143867703795274552 tw866441633436053929 tw2967794661961703625 tw10565552032789755728 tw17788367954190370823 tw8956312655185353255 tw2138985793105845959 tw17591785937894630698 tw5406716314769841370 tw4825457497612772223 tw1721017270630109205 tw14894909784971545901 tw6804184945116030080 tw10331045596976856855 tw10392830459341053193 tw9956649051328971802 tw17763062805433990898 tw3989629518751799788 tw7810338218922708867 tw1813868463437414575 tw4432265003809614034 tw7083314607906822750 tw18323398027043296330 tw8170710207297794335 tw4465059991725403986 tw3968711457146212329 tw11581776557764146225 tw2590572143048639084 tw10241639020254276215 tw5842562751142172743 tw13267934455864344000 tw16802009912035096825 tw8172945513490364663 tw16214373092000644134 tw15416798488694617052 tw11522794031755364021 tw2688043205494128639 tw3087984666336817429 tw13817908587848752075 tw1436907257660232622 tw9886051905118461069 tw6014105675942849761 tw5108551340102126903 tw13131168067107473339 tw16562473673839449424 tw11366338572564672938 tw17822817523239102620 tw1851918319724515774 tw7376843837063829242
end PySem.W.Fast
open PySem PySem.W PyProof.Rows
set_option maxRecDepth 100000 in
set_option maxHeartbeats 0 in
theorem PySem.Challenge.cw_evenkinds_k96_texts_refused_holds : PySem.Challenge.rw_evenkinds_k96_texts_refused.Holds := by
 w_on;o_law;k_head;(case hw=>w_witness2)
 k_fill
 refine Ek.b79 (l:=PySem.Challenge.rw_evenkinds_k96_texts_refused) (P:=Ek.C9) (G:=Ek.j4) (n:=100) (x:="_law_script") (dl:=Ek.G0) rfl rfl rfl ⟨rfl,∅,∅⟩ (ts:=[]) (λw h Y=>⟨W.kIn_of Y,λ_ z=>absurd z Ad⟩) rfl ?hst ?F rfl Ek.b05
 case hst=>
  intro st ps S;have e:=S.sc.pre;have e2:=S.np;rw[e2]at e;exact e.symm
 case F=>
  intro w mg h KX G
  refine' Ek.cl2 KX G ?_ ?_ ?_ ?_ ?_ ?_ ?_ ?_ ?_ ?_ ?_ ?_ ?_ ?_ ?_ ?_ ?_ ?_ ?_ ?_ ?_ ?_ ?_ ?_ ?_ ?_ ?_ ?_ ?_ ?_ ?_ ?_ ?_ ?_ ?_ ?_ ?_ ?_ ?_ ?_ ?_ ?_ ?_ ?_ ?_ ?_ ?_ ?_ ?_ ?_ ?_ ?_ ?_ ?_ ?_ ?_ ?_ ?_ ?_ ?_ ?_ ?_ ?_ ?_ ?_ ?_ ?_ ?_ ?_ ?_ ?_ ?_ ?_ ?_ ?_ ?_
  rotate_left 13
  iterate 34 (refine' Ek.fnA ?a ?b ?c ?d;(case a=>k_is);(case b=>k_is);(case c=>k_is);(case d=>k_is))
  (intro b hb;simp only[Ek.U0,AT]at hb;(repeat' (rcases hb with rfl|hb))<;>k_is)
  k_is
  rfl
  k_is
  rfl
  k_is
  rfl
  k_is
  rfl
  k_is
  rfl
  k_is
  rfl
  iterate 2 k_is
  iterate 2 (refine' Ek.clA ?a ?b ?c ?d ?e ?f ?g;(case a=>k_is);(case b=>k_is);(case c=>k_is);(case d=>k_is);(case e=>k_is);(case f=>k_is);(case g=>k_is))
  (refine' Ek.cz7 ?a ?b ?c ?d ?e ?f;(case a=>k_is);(case b=>k_is);(case c=>k_is);(case d=>k_is);(case e=>kernel_rfl);(case f=>kernel_rfl))
  iterate 8 k_is
  (refine' Ek.XcA.mk ?a ?b ?c ?d ?e ?f ?g ?h ?i ?j;(case a=>k_is);(case b=>k_is);(case c=>kernel_rfl);(case d=>kernel_rfl);(case e=>kernel_rfl);(case f=>refine' HL ?k (HL ?l ?m);(case k=>k_is);(case l=>k_is);(case m=>k_is));(case g=>k_is);(case h=>k_is);(case i=>k_is);(case j=>k_is))
  iterate 3 (refine' Ek.XiA.mk ?a ?b;(case a=>k_is);(case b=>kernel_rfl))
  iterate 8 (refine' Ek.mtA ?a ?b ?c ?d ?e ?f;(case a=>k_is);(case b=>k_is);(case c=>k_is);(case d=>k_is);(case e=>k_is);(case f=>k_is))
  iterate 4 rfl
#print axioms PySem.Challenge.cw_evenkinds_k96_texts_refused_holds
