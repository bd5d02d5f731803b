import PyProof.Rows.All
import PyProof.TupleKey
import PyProof.P3Eq
import PyProof.DictKinds
import Wide.All
import OpenK.AllK
import Wide.FinOn
import Lean
import PyProof.EqAt
import PyProof.EqKinds
import PyProof.TupleCall
import PyProof.ListMulRoad
import PyProof.FactsAll.tuple
import PyProof.ZipIter
import PyProof.ListNew
import KE.KRevIter
import KE.LcSums
import PyProof.EnumStmt
import PyProof.AttrMissHeap
import KE.KDictOf
import PySem.Challenge.RW_evenkinds_k24_lifted_and_put_in
set_option Elab.async false
set_option maxHeartbeats 4000000
set_option compiler.extract_closed false
set_option genSizeOf false
set_option bootstrap.genMatcherCode false
set_option linter.all false
local macro_rules|`(command|abbrev $i:declId $s:optDeclSig $v:declVal)=>Lean.MonadRef.withRef .missing `(command|noncomputable def $i:declId $s:optDeclSig $v:declVal)
local macro_rules|`(command|def $i:declId $b* :$t $v:declVal)=>Lean.MonadRef.withRef .missing `(command|noncomputable def $i:declId $b* :$t $v:declVal)
local macro_rules|`(⋯)=>`(by lia)
local macro_rules|`(∅)=>`(by decide)
local macro_rules|`(∎)=>`(by simp)
open List (mem_cons mem_filter length_cons append_assoc length_nil map_map)
open Nat (mul_comm pow_pos)
open Bool (false_eq_true not_eq_true')
open Option renaming some->AA,none->AD,isSome_iff_exists->BX,getD_none->Do,isSome_map->FA,map_some->Fi,casesOn->Fq,isSome_some->HJ,getD_some->Hi,isSome->Ib,getD->JE
open Decidable renaming decide->AB
open Bool renaming true->AC,false->AE,false_ne_true->AH,and_eq_true->Au,and_self->Av,false_eq_true->BO,not_true->Dn,or_eq_false_iff->Et,false_or->Ew,eq_iff_iff->Fn,not_eq_true'->GK,and_false->Ih,decide_or->Il,or_false->JB,true_or->JM
open PySem renaming wpAny_bind->AF,Value->AG,Addr->AI,Shared->AK,wpAny_pure->AM,mainGlobals->AN,Expr->AQ,wpAny->AU,PyData->Ad,Program->Aj,starEach->Am,bootBuiltins->BA,World->BB,bindArgs->BF,Scope->BG,Heap->BI,Around->BP,Stmt->BQ,wpAny_call_entry->BU,wpAny_newObj_type->BZ,FuncData->Ba,wpAny_mono->Bc,wpAny_callSpecial?_slot->Be,wpAny_field->Bm,cLine->Bo,compareOp->Bp,backTo->Bq,assignEach->By,wpAny_Call_Name_kw->Bz,wpAny_specialOf->CC,wpAny_truthy_bool->CG,sysModules->CJ,behindInMarks->CK,swapsWith->CO,wpAny_passesOwn->CW,wpAny_holding->CZ,attributeBase->Cb,builtinsNs->Cg,binaryOp->Ch,call_meets->Cj,Arguments->Cm,keywordEach->Cw,wpAny_seqItems->DC,foldedSetIterable->DE,FuncBody->DI,builtinLookup_eq_fast->DN,DictEntry->DP,getItem->DR,sliceBounds->DX,CmpOp->De,Builtin->Dk,TriplesOk->Dp,wpAny_setField->Dx,wpAny_pyIter_tuple->Dy,methodCallForm->Dz,isSubtype_type->EA,eqIsQuiet_byValue->EG,codeAny->EH,wpAny_pyHash_str->ET,Operator->EU,backToKw->EW,wpAny_rule->Eb,rawInt->Ed,letOwnedTupleGo->El,wpAny_loadPart'->Em,typeLookup_type->Eo,NameKind->FI,IsPart->FK,firstArgMember->FL,wpAny_of_eq->FM,codeAmong->FT,swapsWithSole->Fg,BindsTo->Fy,codeAny_mono->GA,wpAny_sequenceKey->GC,wpAny_typeOf->GD,valueAt->GF,wpAny_pyIter_enum->GH,wpAny_pyHash_int->GM,wpAny_isInstance->GN,PassesOwn->GO,noFill_tuple_add->GR,wpAny_execs_nil->Ge,standAt->Gj,Keyword->Go,callerA->Gq,isTrue->Gx,pyNext->Gz,recursionLimit->HB,atKey->HD,closureFor->HE,wpAny_standAt->HQ,seq_tuple_add->HS,wpAny_comprehension_free->HU,wpAny_attempt->HX,Comprehension->HY,bindL->He,bindC->Hf,seqIndex?->Hg,pyIter->Hk,concat_meets->Hq,seqIndex_neg->Hr,wpAny_Call_method_late->Hu,wpAny_isTrue_Compare1->IC,getitemInPython_of_ne->IE,sizeLine_eq->IJ,seqIndex_of->IK,wpAny_letTemporaryGo->IM,wpAny_newFunctionEnv->IP,wpAny_pyIter_revIter->IQ,wpAny_mkInt->IU,wpAny_Name->Ir,Result->Iw,typeLookup->Iz,typeIs_int->JC,setItem->JH,wpAny_assign_Name->JI,slot_list_getitem->JK,wpAny_Call_method->JN,Meets->JP,dictGet->JR,slot_dict_getitem->JS,wpAny_pyIter_list->JT,beq_builtin_none->JX,wpAny_forIn_list->JY,wpAny_execs_cons->JZ,getMethod->Jc,cellsFrom->Jf,wpAny_Dict_empty->Jj,wpAny_operating->Ju,wpAny_Compare1->KB,IntMulOk->KD,wpAny_notIn_of->KJ,letTemporaryGo->KL,cellOf->KN,compEnvC->KO,newFunctionEnv->KQ,newExc->KR,IsEnum->KS,argsOk->KW,BoolOp->KY
open List renaming getElem?_eq_getElem->AJ,mem_cons->AL,getElem?_eq_some_iff->AR,length_map->AT,not_mem_nil->AW,length_append->AX,getElem?_append_left->Aa,size_toArray->Ab,length_cons->Ac,getElem?_append_right->Af,map_append->Ag,map_cons->Ah,replicate->Ak,getElem?_map->Al,mem_cons_of_mem->Ao,eq_nil_of_length_eq_zero->Az,mem_append_right->BE,length_nil->BH,append_nil->BJ,mem_append->BK,nodup_cons->BL,mem_of_getElem?->BN,getElem?_eq_none->Bf,mem_singleton->Bg,find?_cons->Bi,append_assoc->Bk,length_take->Bl,map_map->Bv,mem_cons_self->Bw,cons_append->CD,prefix_refl->CH,mem_flatten->CI,length_drop->CS,take_of_length_le->Cc,replicate_succ->Ci,nil_append->Ck,lookup->Co,mem_map->Cs,getElem?_replicate->Ct,range->Cz,filterMap_cons->DD,reverse_cons->DG,flatten_cons->DH,flatten_append->DL,take_append_drop->DQ,casesOn->DU,lookup_cons->DY,all_eq_true->DZ,sum_cons->Da,mem_append_left->Db,drop_eq_getElem_cons->Dh,length->Di,map_nil->Dj,ext_getElem?->Dl,nodup_append->Dm,zip_cons_cons->EL,length_replicate->EN,getElem?_reverse->EO,any_cons->EX,mem_iff_getElem?->EZ,mem_iff_getElem->Ea,sum_append->Ei,length_reverse->Ep,foldl->Ez,filter_append->FH,getElem?_set->FR,map->FU,eraseIdxIfInBounds_toArray->FX,length_mapIdx->Fj,of_mem_zip->Fl,any_eq_false->Fx,drop_zero->GV,mem_or_eq_of_mem_set->GW,getElem?_take_of_lt->GY,getElem_mem->Ga,any_eq_true->Gb,getElem?_cons_succ->Gg,length_eq_zero_iff->Gh,getElem?_set_self->Gi,filter_eq_nil_iff->Gr,length_singleton->HC,getElem?_set_ne->HH,reverse_reverse->HL,mapIdx->HM,map_congr_left->HZ,reverse_append->Hb,mem_filterMap->Hd,mapIdx_append->Hh,take_sublist->Ho,sum_nil->IB,drop_length->IH,forIn_cons->IN,take_left'->IT,take_length->IW,map_reverse->IY,mapIdx_cons->IZ,map_set->JW,nodup_nil->Ji,filter->Jp,drop->KZ,map_take->Ke,map_drop->Kf
open PySem.W renaming Frag->AO,nsIn->Ax,findIn->BR,keepIn->Bj,codeHdIn->Bx,kia_one->CV,emptyDict->Cd,codeIn->Cp,fnOf->Cr,callWith_K->Dc,instObj->Dd,kitOne->EI,plainGet->FW,hasDictIn->GL,methodCall_KW->GT,tabObj->Gf,plainGet_of->HA,makesIn->HI,isFn->HR,mg_of->HW,methodObj->Hj,lookIn->Hl,plainOver->Hm,noTabs->Hz,takerIn->Iv,cellsFrom_some->Ix,callWith_K0->Jr,codeHd_of_K->Jy,kitx_tuple->KF
open PySem.Heap renaming get?_push_of_some->AS,get?_push_size->Aq,lt_size->BD,SameBut->CA,get?_update_self->EV,size_push->GP,get?_update_other->Gn,ExtBut->HK
open PySem.Str renaming ofString->AV
open Nat renaming le_refl->AY,le_of_ble_eq_true->Ai,lt_of_lt_of_le->An,succ_le_succ->Ay,le_trans->BC,ne_of_lt->BS,zero_le->BV,pow_le_pow_right->BW,lt_irrefl->Cv,min->DM,le_succ_of_le->Dt,add_assoc->ES,add_right_comm->FQ,lt_succ_self->Fk,le_of_lt->Fv,min_le_right->GB,succ_ne_self->GI,mul_comm->GJ,min_eq_left->Gc,zero_add->HG,le_succ->Hn,lt_of_le_of_lt->Hw,add_sub_cancel->Hy,lt_succ_of_lt->IF,sub_zero->IV,le_max_right->IX,pow_succ->Ia,min_le_left->Ic,le_max_left->Ip,add_mul->JV,ne_of_gt->Ja,le_of_eq->Jd,sub_self->Jo,add_zero->Jq,add_comm->KH,not_lt->KP,max_zero->Ka,max_le->Kb
open False renaming elim->AZ
open List.cons renaming injEq->Ae
open PySem.Value renaming ref->Ap,none->Bh,int->Du,str->Dv,type->EC,bool->Ft,float->Gv,isStrOf->Ie,isInt->JF,bytes->JG
open PySem.PyData renaming eqv->Ar,depthAll->CN,eqvAll->Cf,canLayAll0->Cq,canLay0->EM,depth->Ey,strOk->Io
open Option.some renaming inj->As,injEq->Bs
open PySem.NameKind renaming free->At
open Ne renaming symm->Aw
open PyProof.Rows renaming slot_tuple_getitem->BM,callWith_type1->BY,Good->DJ,slot_tuple_getitem->Dw,subscriptTail->Fh,AllBare->Fu,IntsAre->GE,envOfC->GQ,IsTup->Gw,Constant_none->HP,subscriptTail_builtinR->Hs,entry_tuple_getitem->Ig,args_tuple_getitem->Iy,Subscript_->JA,callWith_builtin1->Jt,Call_->KC,slicePart_none->KG
open PySem.Builtin.Tuple renaming tupleHashOf->Bb,tupleItemsOf->CM,tupleExact->CU,tupleTooMany->Ex,tupleIsExact->Jm
open ForInStep renaming yield->Bd
open PySem.Calls renaming callWith_builtin->Bn,evalArgs_plain->CY,spliced_cons->DW,spliced_nil->FJ,Name_function_global->Fw
open PyProof.Rows.KTD renaming datumAt->Br
open True renaming intro->Bt
open PySem.Builtin.List renaming listTooLong->Bu
open Sum renaming inr->CB,inl->Ej
open PySem.Builtin.SmallTypes renaming nextOf->CL
open PySem.Obj renaming data_mapFields->CP,mapSeq->EJ,isFreed_of_fields->EY,cls_mapFields->IG
open PySem.Builtin.Slice renaming slicePlaces->CQ,sliceAdjust->DF,sliceApplied->Eu,slicePartIndex->Jg,sliceFields->Jh
open PySem.Heap.SameBut renaming update->CT
open PySem.F renaming slot_tuple_iterator_next->Ce,slot_tuple_hash->EB,slot_tuple_mul->EK,args_tuple_iterator_next_1->GS,entry_tuple_iterator_next->GZ,args_list_extend_2->Hv,args_object_init_2->Hx,entry_list_extend->ID,slot_list_extend->IL,args_tuple_mul_2->IR,slot_tuple_rmul->Ii,entry_tuple_mul->Ik,entry_list_pop->JD,slot_list_pop->JL,slot_int_rmul->JQ
open Int renaming toNat_natCast->Cu,emod_lt_of_pos->IA,natCast_mul->Ij,emod_nonneg->Iq,pow_succ->Jn,le_refl->Jz
open PySem.Builtin.Int renaming intBits->Cy,intTooBig->Fm
open PySem.Stmt.FunctionDef renaming elim->DV
open PySem.Expr.Attribute renaming elim->Dq
open PySem.Expr.Subscript renaming elim->Dr
open PySem.Arg renaming arg->Ds
open PySem.Expr.ListComp renaming elim->ED
open PySem.Expr.Constant renaming elim->EE
open PySem.Stmt.Continue renaming elim->EF
open PySem.Expr.UnaryOp renaming elim->EQ
open PySem.Expr.Compare renaming elim->ER
open Array renaming length_toList->Ec,toList_append->Ee,getElem?_toList->Gp,forIn_toList->HN,toList->Iu
open PySem.Expr.BoolOp renaming elim->Ef
open PySem.Stmt.Assign renaming elim->Eg
open PySem.Stmt.Return renaming elim->Eh
open Nat.succ renaming inj->Er
open PySem.Expr.BinOp renaming elim->FB
open PySem.Expr.IfExp renaming elim->FC
open PySem.Expr.Tuple renaming elim->FD
open PySem.Expr.Slice renaming elim->FE
open PySem.Stmt.While renaming elim->FF
open Char renaming toNat->FG
open Std.Legacy.Range renaming size->FN,forIn_eq_forIn_range'->Im
open List.mapIdx renaming go->FP
open PySem.SeqAt renaming eqAt_reads->FV,EqAt->HV
open PySem.Expr.Dict renaming elim->FY
open PySem.Expr.Call renaming elim->FZ
open PySem.Expr.Name renaming elim->Fa
open PySem.Expr.List renaming elim->Fb
open PySem.Stmt.Expr renaming elim->Fc
open PySem.Stmt.Pass renaming elim->Fe
open PySem.AutoSeq1 renaming wpAny_loadPart'->Fp
open PySem.Stmt.For renaming elim->Fs
open PySem.Stmt.If renaming elim->GU
open PySem.Around renaming under->GX,frames_deeper->Gm
open Sum.inr renaming inj->Gd
open PySem.Code renaming isFrame->Gk,frames->Je
open PySem.BindsTo renaming of_defaults->Gu
open PySem.CmpOp renaming NotIn->Gy
open Prod.mk renaming injEq->II
open Eq renaming symm->IS,trans->JU
open PySem.Heap.IsSliceOf renaming new->JJ
open PySem.W.WShape renaming has->JO
open PySem.Builtin.Range renaming rangeSize->Jb
open List.Pairwise renaming nil->Jk,map->Jl
open PySem.W.WData renaming int->Jw
open PySem.Builtin.Dict renaming missed->Jx
open PySem.Heap.DictOf renaming new->KM
open PySem.SeqAt.Reads renaming unique->KU
namespace PySem
noncomputable instance decPyData:DecidableEq Ad:=λa b=>Classical.propDecidable (a=b)
namespace NK
mutual
noncomputable def lit:Ad->Bool
 |.int _=>AC
 |.str x=>EM (.str x)
 |.tuple ds=>lits ds
 |_=>AE
noncomputable def lits:List Ad->Bool
 |[]=>AC
 |d::r=>lit d&&lits r
end
mutual
theorem al1:∀d:Ad,lit d=AC->d.canLay0=AC
 |.int _,_=>rfl
 |.str _,h=>h
 |.tuple ds,h=>by rw[EM];exact az0 ds h
 |.none,h=>nomatch h
 |.bool _,h=>nomatch h
 |.list _,h=>nomatch h
 |.dict _,h=>nomatch h
theorem az0:∀ds:List Ad,lits ds=AC->Cq ds=AC
 |[],_=>rfl
 |d::r,h=>by
  have h':lit d=AC/\lits r=AC:=by simpa[lits]using h
  show(d.canLay0&&Cq r)=AC;rw[al1 d h'.1,az0 r h'.2];rfl
end
mutual
theorem eqv_lit:∀x y:Ad,lit x=AC->lit y=AC->(Ar x y=AC↔x=y)
 |.int i,.int j,_,_=>by rw[Ar];simp
 |.int i,.str y,_,_=>by simp[Ar]
 |.int i,.tuple ys,_,_=>by simp[Ar]
 |.str x,.int j,_,_=>by simp[Ar]
 |.str x,.str y,_,_=>by rw[Ar];simp
 |.str x,.tuple ys,_,_=>by simp[Ar]
 |.tuple xs,.int j,_,_=>by simp[Ar]
 |.tuple xs,.str y,_,_=>by simp[Ar]
 |.tuple xs,.tuple ys,hx,hy=>by rw[Ar,ay3 xs ys hx hy];simp
 |.none,_,h,_=>nomatch h
 |.bool _,_,h,_=>nomatch h
 |.list _,_,h,_=>nomatch h
 |.dict _,_,h,_=>nomatch h
 |_,.none,_,h=>nomatch h
 |_,.bool _,_,h=>nomatch h
 |_,.list _,_,h=>nomatch h
 |_,.dict _,_,h=>nomatch h
theorem ay3:∀xs ys:List Ad,lits xs=AC->lits ys=AC->(Cf xs ys=AC↔xs=ys)
 |[],[],_,_=>by simp[Cf]
 |[],y::ys,_,_=>by simp[Cf]
 |x::xs,[],_,_=>by simp[Cf]
 |x::xs,y::ys,hx,hy=>by
  have hx':lit x=AC/\lits xs=AC:=by simpa[lits]using hx
  have hy':lit y=AC/\lits ys=AC:=by simpa[lits]using hy
  rw[Cf,Au,eqv_lit x y hx'.1 hy'.1,ay3 xs ys hx'.2 hy'.2];simp
end
theorem ai6:∀{ds:List Ad},lits ds=AC->∀d∈ds,lit d=AC
 |[],_,d,h=>by cases h
 |e::r,hl,d,h=>by
  have h':lit e=AC/\lits r=AC:=by simpa[lits]using hl
  rcases AL.mp h with rfl|h
  ·exact h'.1
  ·exact ai6 h'.2 d h
theorem ai2:∀{ds:List Ad}{d:Ad},d∈ds->d.depth<=CN ds
 |e::r,d,h=>by
  show d.depth<=max e.depth (CN r)
  rcases AL.mp h with rfl|h
  ·lia
  ·have:=ai2 h;lia
def depth_tup{ds:List Ad}:(PyData.tuple ds).depth=CN ds+1:=by rw[Ey]
mutual
theorem bg3{h:BI}:∀(x y:Ad){v:AG}{as bs:List AI},lit x=AC->lit y=AC->Reads h v x as->Reads h v y bs->x=y
 |.int i,y,v,as,bs,_,hy,rx,ry=>by
  cases rx;cases ry;rfl
 |.str x,y,v,as,bs,_,hy,rx,ry=>by
  cases rx;cases ry;rfl
 |.tuple xs,y,v,as,bs,hx,hy,rx,ry=>by
  cases rx with
  |tuple e1 e2 e3 e4=>
   cases ry with
   |tuple f1 f2 f3 f4=>
    rw[e1]at f1;cases f1;rw[e3]at f3;cases f3;rw[ba1 xs _ hx hy e4 f4]
   |list=>cases hy
   |dict=>cases hy
 |.none,_,_,_,_,h,_,_,_=>nomatch h
 |.bool _,_,_,_,_,h,_,_,_=>nomatch h
 |.list _,_,_,_,_,h,_,_,_=>nomatch h
 |.dict _,_,_,_,_,h,_,_,_=>nomatch h
theorem ba1{h:BI}:∀(xs ys:List Ad){vs:List AG}{as bs:List AI},lits xs=AC->lits ys=AC->ReadsAll h vs xs as->ReadsAll h vs ys bs->xs=ys
 |[],ys,vs,as,bs,_,_,rx,ry=>by cases rx;cases ry;rfl
 |x::xs,ys,vs,as,bs,hx,hy,rx,ry=>by
  cases rx with
  |cons r1 r2=>cases ry with
   |@cons _ _ y ys _ _ q1 q2=>
    have hx':lit x=AC/\lits xs=AC:=by simpa[lits]using hx
    have hy':lit y=AC/\lits ys=AC:=by simpa[lits]using hy
    rw[bg3 x y hx'.1 hy'.1 r1 q1,ba1 xs ys hx'.2 hy'.2 r2 q2]
end
mutual
theorem a99{h h':BI}{d:AI}{o:Obj}{es:Array DP}{ep:Nat}(ho:h.get? d=AA o)(hd:o.data=.dict es ep)(hs:CA d h h'):∀(x:Ad){v:AG}{as:List AI},lit x=AC->Reads h v x as->∃bs,Reads h' v x bs
 |.int i,v,as,_,r=>by cases r;exact⟨_,.int _ _⟩
 |.str x,v,as,_,r=>by cases r;exact⟨_,.str _ _⟩
 |.tuple xs,v,as,hx,r=>by
  cases r with
  |@tuple a o' _ _ _ _ e1 e2 e3 e4=>
   have hne:a≠d:=by
    rintro rfl;rw[e1]at ho;cases ho;rw[hd]at e3;exact nomatch e3
   obtain⟨bs,r'⟩:=a00 ho hd hs xs hx e4;exact⟨_,.tuple ((hs.2 a hne).trans e1) e2 e3 r'⟩
 |.none,_,_,h,_=>nomatch h
 |.bool _,_,_,h,_=>nomatch h
 |.list _,_,_,h,_=>nomatch h
 |.dict _,_,_,h,_=>nomatch h
theorem a00{h h':BI}{d:AI}{o:Obj}{es:Array DP}{ep:Nat}(ho:h.get? d=AA o)(hd:o.data=.dict es ep)(hs:CA d h h'):∀(xs:List Ad){vs:List AG}{as:List AI},lits xs=AC->ReadsAll h vs xs as->∃bs,ReadsAll h' vs xs bs
 |[],vs,as,_,r=>by cases r;exact⟨_,.nil⟩
 |x::xs,vs,as,hx,r=>by
  cases r with
  |cons r1 r2=>
   have hx':lit x=AC/\lits xs=AC:=by simpa[lits]using hx
   obtain⟨b1,q1⟩:=a99 ho hd hs x hx'.1 r1;obtain⟨b2,q2⟩:=a00 ho hd hs xs hx'.2 r2;exact⟨_,.cons q1 q2⟩
end
mutual
noncomputable def hK(w:BB):Ad->Int
 |.int i=>hashInt i
 |.str x=>hashStr w x
 |.tuple ds=>reduceHash (Bb (hKs w ds))
 |_=>0
noncomputable def hKs(w:BB):List Ad->List Int
 |[]=>[]
 |d::r=>hK w d::hKs w r
end
mutual
noncomputable def dw:Ad->Nat
 |.tuple ds=>dws ds+1
 |_=>1
noncomputable def dws:List Ad->Nat
 |[]=>0
 |d::r=>dw d+dws r
end
theorem ak1(w:BB):∀(a b:List Ad),hKs w (a++b)=hKs w a++hKs w b
 |[],b=>rfl
 |x::a,b=>by rw[CD,hKs,ak1 w a b];rfl
theorem ak3:∀(a b:List Ad),dws (a++b)=dws a+dws b
 |[],b=>by simp[dws]
 |x::a,b=>by rw[CD,dws,ak3 a b,dws,ES]
variable {prog:Aj} {w:BB}
def ce7:∀(n:Nat)(d:Ad),d.depth<=n->lit d=AC->∀{A:BP}{E:AG->AK->Prop}{s:AK}{v:AG}{as:List AI}{Q:Int->AK->Prop},A.units+n<Bo->Reads s.heap v d as->Q (hK w d) {s with toks:=s.toks+dw d}->AU (model prog w) A (pyHash v) Q E s:=by
 intro n
 induction n with
 |zero=>
  intro d hd hl A E s v as Q hu r h;cases r with
  |int i t=>exact GM (by simpa[hK,dw]using h)
  |str x t=>exact ET (by simpa[hK,dw]using h)
  |tuple=>rw[depth_tup]at hd;lia
  |none=>cases hl
  |bool=>cases hl
  |list=>cases hl
  |dict=>cases hl
 |succ n ih=>
  intro d hd hl A E s v as Q hu r h;cases r with
  |int i t=>exact GM (by simpa[hK,dw]using h)
  |str x t=>exact ET (by simpa[hK,dw]using h)
  |none=>cases hl
  |bool=>cases hl
  |list=>cases hl
  |dict=>cases hl
  |@tuple a o items m xs as ho hc hda hi=>
   rw[depth_tup]at hd;have hl':lits xs=AC:=hl;have hT:s.TypeIs (.ref a) "tuple":=⟨o,ho,hc⟩;unfold pyHash
   first|unfold pyHashByItsType|skip
   first|refine AF (wpAny_cRoomFor_or (.inr ⋯) ?_)|skip
   refine AF (CC hT EB.lookup ?_);show AU _ _ (if(AA (Value.builtin "tuple.__hash__")==AA Bh)=AC then _ else _) Q E s;rw[if_neg (by rw[JX];exact AH)];refine AF (CC hT EB.lookup ?_);show AU _ _ (callSpecialIfBoundUnlessNone? (.ref a) "__hash__" _>>=_) Q E s;refine AF (wpAny_callSpecialIfBoundUnlessNone?_slot hT EB (BU EB hT F.entry_tuple_hash ?_ (F.args_tuple_hash_1 _)));show AU _ _ (CM (.ref a)>>=_) _ _ s;refine AF (wpAny_tupleItemsOf ho hda ?_);refine AF ?_;rw[<-HN];refine JY _
    (λi7(b:Array Int)s'=>∃done left bs,xs=done++left/\ReadsAll s.heap i7 left bs/\b.toList=hKs w done/\s'={s with toks:=s.toks+dws done})
    _ ?_ ?_ _ _ ⟨[],xs,_,rfl,hi,rfl,rfl⟩
   ·rintro x i7 b s' ⟨done,left,bs,rfl,hl2,hb,rfl⟩;cases hl2 with
    |@cons _ _ k ks' _ _ h1 hl3=>
     have hk:k∈done++k::ks':=by simp
     refine AF (ih k (by have:=ai2 hk;lia) (ai6 hl' k hk) ?_ h1 ?_)
     ·show A.units+1+n<Bo;lia
     first
      |exact AM ⟨done++[k],ks',_,∎,hl3,by rw[ak1];simp[hb,hKs],by simp[ak3,dws,ES]⟩
      |exact AF (AM (AM ⟨done++[k],ks',_,∎,hl3,by rw[ak1];simp[hb,hKs],by simp[ak3,dws,ES]⟩))
   ·rintro b s' ⟨done,left,bs,rfl,hl2,hb,rfl⟩;cases hl2;rw[BJ]at h;simp only[hK,dw]at h;show AU _ _ (retInt (Bb b.toList)) _ _ _;rw[hb];refine wpAny_ret_mkInt ?_;show AU _ _ (if(AB (-(2:Int)^63<=Bb (hKs w done))&&AB (Bb (hKs w done)<2^63))=AC then _ else _) Q E _;unfold reduceHash at h
    by_cases hr:(AB (-(2:Int)^63<=Bb (hKs w done))&&AB (Bb (hKs w done)<2^63))=AC
    ·rw[if_pos hr];rw[if_pos hr]at h;exact AM (by simpa[ES]using h)
    ·rw[if_neg hr];rw[if_neg hr]at h;exact AF (Eb (AM (by simpa[ES]using h)))
def b61:∀(n:Nat)(d:Ad),d.depth<=n->lit d=AC->∀{A:BP}{E:AG->AK->Prop}{s:AK}{v:AG}{as:List AI}{Q:Bool->AK->Prop},Reads s.heap v d as->Q AC s->AU (model prog w) A (eqIsQuiet n v) Q E s:=by
 intro n
 induction n with
 |zero=>
  intro d hd hl A E s v as Q r h;cases r with
  |int i t=>rw[EG _ rfl];exact AM h
  |str x t=>rw[EG _ rfl];exact AM h
  |tuple=>rw[depth_tup]at hd;lia
  |none=>cases hl
  |bool=>cases hl
  |list=>cases hl
  |dict=>cases hl
 |succ n ih=>
  intro d hd hl A E s v as Q r h;cases r with
  |int i t=>rw[EG _ rfl];exact AM h
  |str x t=>rw[EG _ rfl];exact AM h
  |none=>cases hl
  |bool=>cases hl
  |list=>cases hl
  |dict=>cases hl
  |@tuple a o items m xs as ho hc hda hi=>
   rw[depth_tup]at hd;have hl':lits xs=AC:=hl;have hT:s.TypeIs (.ref a) "tuple":=⟨o,ho,hc⟩;unfold eqIsQuiet;refine AF (CC hT F.slot_tuple_eq.lookup ?_);show AU _ _ (isInstance (.ref a) (.type "tuple")>>=_) _ _ s;refine AF (GN hT isSubtype_tuple_tuple ?_);simp only[Dn,BO,if_false];refine AF (DC ho hda ?_);refine AF ?_;show AU _ _ (forIn items _ _) _ _ s;rw[<-HN];refine JY _ (λi7 r s'=>r.1=AD/\s'=s/\∃left bs,(∀k∈left,lit k=AC/\k.depth<=n)/\ReadsAll s.heap i7 left bs) _ ?_ ?_ _ _ ⟨rfl,rfl,xs,_,λk hk=>⟨ai6 hl' k hk,by have:=ai2 hk;lia⟩,hi⟩
   ·rintro v i7 r s' ⟨hr,rfl,left,bs,hall,hl2⟩;cases hl2 with
    |@cons _ _ k ks' _ _ h1 hl3=>
     obtain⟨k1,k2⟩:=hall k ∎;refine AF (ih k k2 k1 h1 ?_);simp only[Dn,BO,if_false];exact AM ⟨rfl,rfl,ks',_,λu hu'=>hall u (by simp[hu']),hl3⟩
   ·rintro⟨r1,r2⟩ s' ⟨hr,rfl,_⟩;simp only at hr;subst hr;exact AM h
abbrev isK(h:BI)(k:Ad)(a:AI):Prop:=lit k=AC/\k.depth<=7/\∃as,Reads h (.ref a) k as
abbrev dataKind(prog:Aj)(w:BB):HeapKind prog w Ad where
 is:=isK
 hash:=hK w
 draws:=dw
 room:=λA=>A.units+8<Bo
 inj:=λ⟨l1,_,_,r1⟩⟨l2,_,_,r2⟩=>bg3 _ _ l1 l2 r1 r2
 keeps:=λ⟨l1,d1,_,r1⟩ho hd hs=>⟨l1,d1,a99 ho hd hs _ l1 r1⟩
 pyHash:=λhu⟨l1,d1,_,r1⟩h=>ce7 7 _ d1 l1 ⋯ r1 h
 eqBool:=λ{A E s x y a b Q}hu⟨l1,d1,_,r1⟩⟨l2,d2,_,r2⟩h=>by
  have e:Ar x y=AB (x=y):=by
   by_cases z:x=y
   ·rw[decide_eq_true z];exact(eqv_lit x y l1 l2).mpr z
   ·rw[decide_eq_false z];cases q:Ar x y with
    |false=>rfl
    |true=>exact absurd ((eqv_lit x y l1 l2).mp q) z
  have:=FV x y A s _ _ _ _ r1 r2 (al1 x l1) (al1 y l2) (by have:min x.depth y.depth<=x.depth:=Ic _ _;lia);rw[e]at this;exact this prog w E Q h
 quiet:=λ⟨l1,d1,_,r1⟩h=>b61 8 _ ⋯ l1 r1 h
def dataKind_room_in1{prog:Aj}{w:BB}{A:BP}(h:A.units+20<Bo):(dataKind prog w).room A.in1:=by
 show A.units+1+8<Bo;lia
end NK
end PySem
set_option maxRecDepth 100000
namespace L2
open PySem PySem.Spec PyProof.Rows
@[reducible]noncomputable def Key:=Sum Int Str
abbrev T6:Key->AG->Bool
 |.inl k,v=>JF k v
 |.inr x,v=>Ie x v
abbrev c73(w:BB):Key->Int
 |.inl k=>hashInt k
 |.inr x=>hashStr w x
def G2:∀{k:Key}{v:AG},T6 k v=AC->(∃i t,k=Ej i/\v=Du i t)\/(∃x t,k=CB x/\v=Dv x t)
 |.inl i,v,h=>by
  obtain⟨t,e⟩:=Value.isInt_shape (k:=i) (v:=v) h;exact .inl ⟨i,t,rfl,e⟩
 |.inr x,v,h=>by
  obtain⟨t,e⟩:=Value.isStrOf_shape (x:=x) (v:=v) h;exact .inr ⟨x,t,rfl,e⟩
def b18(i:Int)(t:Tok):T6 (.inl i) (.int i t)=AC:=by simp[T6,JF]
def b47(x:Str)(t:Tok):T6 (.inr x) (.str x t)=AC:=by simp[T6,Ie]
def cn6(a b:Int):AB ((Ej a:Key)=Ej b)=(a==b):=by
 by_cases e:a=b
 ·subst e;simp
 ·have h:¬(Ej a:Key)=Ej b:=λq=>e (Sum.inl.inj q);rw[decide_eq_false h];exact(beq_eq_false_iff_ne.mpr e).symm
def cp6(a b:Str):AB ((CB a:Key)=CB b)=AB (a=b):=by
 by_cases e:a=b
 ·subst e;simp
 ·have h:¬(CB a:Key)=CB b:=λq=>e (Gd q);rw[decide_eq_false h,decide_eq_false e]
def cp7(a:Int)(b:Str):AB ((Ej a:Key)=CB b)=AE:=decide_eq_false (λq=>nomatch q)
def cv0(a:Str)(b:Int):AB ((CB a:Key)=Ej b)=AE:=decide_eq_false (λq=>nomatch q)
abbrev F5(prog:Aj)(w:BB):PySem.KeyKind prog w Key where
 is:=T6
 hash:=c73 w
 inj:=λv a b ha hb=>by
  rcases G2 ha with⟨i,t,rfl,rfl⟩|⟨x,t,rfl,rfl⟩
  ·rcases G2 hb with⟨j,u,rfl,e⟩|⟨y,u,rfl,e⟩
   ·injection e with e1 _;rw[e1]
   ·exact nomatch e
  ·rcases G2 hb with⟨j,u,rfl,e⟩|⟨y,u,rfl,e⟩
   ·exact nomatch e
   ·injection e with e1 _;rw[e1]
 byValue:=λk v h=>by
  rcases G2 h with⟨i,t,rfl,rfl⟩|⟨x,t,rfl,rfl⟩<;>rfl
 pyHash:=λhv h=>by
  rcases G2 hv with⟨i,t,rfl,rfl⟩|⟨x,t,rfl,rfl⟩
  ·exact GM h
  ·exact ET h
 eqBool:=λhu hv h=>by
  rcases G2 hu with⟨i,t,rfl,rfl⟩|⟨x,t,rfl,rfl⟩
  ·rcases G2 hv with⟨j,u,rfl,rfl⟩|⟨y,u,rfl,rfl⟩
   ·rw[cn6]at h;exact wpAny_eqBool_int h
   ·rw[cp7]at h;exact SeqAt.EqAt.int_str i t y u _ _ _ _ h
  ·rcases G2 hv with⟨j,u,rfl,rfl⟩|⟨y,u,rfl,rfl⟩
   ·rw[cv0]at h;exact SeqAt.EqAt.str_int x t j u _ _ _ _ h
   ·rw[cp6]at h;exact wpAny_eqBool_str h
 «strs»:=λk x t v h=>by
  rcases G2 h with⟨i,u,rfl,e⟩|⟨y,u,rfl,e⟩
  ·exact nomatch e
  ·injection e with e1 _
   subst e1;cases v<;>rfl
def by6(prog:Aj)(w:BB)(i:Int)(t:Tok):(F5 prog w).is (.inl i) (.int i t)=AC:=b18 i t
def by1(prog:Aj)(w:BB)(x:Str)(t:Tok):(F5 prog w).is (.inr x) (.str x t)=AC:=b47 x t
variable{a b:AI}{h h':BI}{P:Aj}{w:BB}
inductive V where
 |non|bl (b:Bool)|int (i:Int)|str (x:Str)|byt (b:Array UInt8)|flt (b:UInt64)|ref (a:AI)|ty (n:String)
 deriving DecidableEq
abbrev f8:V->AG->Prop
 |.non,u=>u=Bh
 |.bl b,u=>u=Ft b
 |.int i,u=>∃t,u=Du i t
 |.str x,u=>∃t,u=Dv x t
 |.byt b,u=>∃t,u=JG b t
 |.flt b,u=>∃t,u=Gv b t
 |.ref a,u=>u=Ap a
 |.ty n,u=>u=EC n
@[reducible]noncomputable def f7:List V->List AG->Prop:=Paired f8
theorem f7.length{xs:List V}{us:List AG}(r:f7 xs us):xs.length=us.length:=Paired.length r
theorem f7.get:∀{xs:List V}{us:List AG}{i:Nat}{x:V},f7 xs us->xs[i]?=AA x->∃u,us[i]?=AA u/\f8 x u
 |_,_,_,_,.nil,e=>by simp at e
 |_,_,0,_,.cons r _,e=>by simp at e;subst e;exact⟨_,rfl,r⟩
 |_,_,i+1,x,.cons _ t,e=>by
  obtain⟨u,h1,h2⟩:=f7.get (i:=i) (x:=x) t (by simpa using e);exact⟨u,by simpa using h1,h2⟩
theorem f7.set{x:V}{u:AG}(r:f8 x u):∀{xs:List V}{us:List AG}(i:Nat),f7 xs us->f7 (xs.set i x) (us.set i u)
 |_,_,_,.nil=>.nil
 |_,_,0,.cons _ t=>.cons r t
 |_,_,i+1,.cons q t=>.cons q (f7.set r i t)
theorem f7.append:∀{xs ys:List V}{us ws:List AG},f7 xs us->f7 ys ws->f7 (xs++ys) (us++ws)
 |_,_,_,_,.nil,s=>s
 |_,_,_,_,.cons r t,s=>.cons r (f7.append t s)
theorem f7.take:∀{xs:List V}{us:List AG}(n:Nat),f7 xs us->f7 (xs.take n) (us.take n)
 |_,_,0,_=>.nil
 |_,_,_+1,.nil=>.nil
 |_,_,n+1,.cons r t=>.cons r (f7.take n t)
theorem f7.drop:∀{xs:List V}{us:List AG}(n:Nat),f7 xs us->f7 (xs.drop n) (us.drop n)
 |_,_,0,r=>r
 |_,_,_+1,.nil=>.nil
 |_,_,n+1,.cons _ t=>f7.drop n t
abbrev y6:Option V->Option AG->Prop
 |some v,AA u=>f8 v u
 |none,AD=>True
 |_,_=>False
abbrev KV{κ:Type}:List (κ×V)->List (κ×AG)->Prop:=Paired λ(p:κ×V)(q:κ×AG)=>p.1=q.1/\f8 p.2 q.2
abbrev kV:Key->V
 |.inl i=>.int i
 |.inr x=>.str x
inductive HO where
 |lst (xs:List V)
 |tup (xs:List V)
 |dK (kvs:List (Key×V))|dT (kvs:List (Ad×V))
 |set (S:Int->Bool) (n:Nat)
 |ins (C dx:AI) (fs:List (Str×V))
 |own (x:AI)
 |xd (fs:List (Str×V))
 |met (f x:AI)
 |rng (lo hi:Int)
 |frz (o:Obj) (u:HO)
 |tbl (ps:Array AG)
 |ext (φ:BI->Prop)
variable{o:HO}
@[reducible]noncomputable def Hp:=AI->Option HO
variable{H:Hp}
abbrev upd(H:Hp)(a:AI)(o:HO):Hp:=λb=>if b=a then AA o else H b
def r8:upd H a o a=AA o:=by unfold upd;rw[if_pos rfl]
def i8(h:b≠a):upd H a o b=H b:=by unfold upd;rw[if_neg h]
def c32{u:HO}(h:H a=AA o)(h':H b=AA u)(d:o≠u):a≠b:=by
 intro e;subst e;rw[h]at h';exact d (As h')
def u4(h:H a=AA o)(h':H b=AD):a≠b:=by
 intro e;subst e;rw[h]at h';cases h'
mutual
noncomputable def HRd(H:Hp):Ad->V->Prop
 |.int i,v=>v=.int i
 |.str x,v=>v=.str x
 |.tuple ds,v=>∃a vs,v=.ref a/\H a=AA (.tup vs)/\J6 H ds vs
 |_,_=>False
noncomputable def J6(H:Hp):List Ad->List V->Prop
 |[],vs=>vs=[]
 |d::ds,vs=>∃v r,vs=v::r/\HRd H d v/\J6 H ds r
end
mutual
theorem HRd.keeps{H H':Hp}(ht:∀b ys,H b=AA (.tup ys)->H' b=AA (.tup ys)):∀(d:Ad){v:V},HRd H d v->HRd H' d v
 |.int i,v,h=>h
 |.str x,v,h=>h
 |.tuple ds,v,h=>let⟨a,vs,e,h1,h2⟩:=h;⟨a,vs,e,ht a vs h1,J6.keeps ht ds h2⟩
 |.none,_,h=>h.elim
 |.bool _,_,h=>h.elim
 |.list _,_,h=>h.elim
 |.dict _,_,h=>h.elim
theorem J6.keeps{H H':Hp}(ht:∀b ys,H b=AA (.tup ys)->H' b=AA (.tup ys)):∀(ds:List Ad){vs:List V},J6 H ds vs->J6 H' ds vs
 |[],vs,h=>h
 |d::ds,vs,h=>let⟨v,r,e,h1,h2⟩:=h;⟨v,r,e,HRd.keeps ht d h1,J6.keeps ht ds h2⟩
end
abbrev D8(H:Hp)(d:Ad)(b:AI):Prop:=NK.lit d=AC/\d.depth<=7/\HRd H d (.ref b)
theorem D8.keeps{H':Hp}{d:Ad}(h:D8 H d b)(ht:∀b ys,H b=AA (.tup ys)->H' b=AA (.tup ys)):D8 H' d b:=⟨h.1,h.2.1,HRd.keeps ht d h.2.2⟩
abbrev D3(h:BI)(a:AI)(items:Array AG):Prop:=∃o,h.get? a=AA o/\o.cls=.type "tuple"/\o.dict=AD/\∃n,o.data=.seq items n
def D3.tup{items:Array AG}(x:D3 h a items):Gw h a items:=let⟨o,e,c,_,d⟩:=x;⟨o,e,c,d⟩
def D3.lt{items:Array AG}(x:D3 h a items):a<h.objs.size:=let⟨_,e,_⟩:=x;BD e
def D3.new(h:BI)(items:Array AG):D3 (h.push {cls:=.type "tuple",data:=.seq items}) h.objs.size items:=⟨_,Aq _ rfl,rfl,rfl,_,rfl⟩
section
variable (P:Aj) (w:BB)
abbrev o7(H:Hp)(h:BI)(a:AI):HO->Prop
 |.lst xs=>xs.length<=sizeLine/\∃(its:List AG)(n:Nat),f7 xs its/\h.get? a=AA {cls:=.type "list",data:=.seq its.toArray n}
 |.tup xs=>xs.length<=sizeLine/\∃its:List AG,f7 xs its/\D3 h a its.toArray
 |.dK kvs=>kvs.length<=sizeLine/\(a==CJ)=AE/\∃vs,KV kvs vs/\h.DictOf (F5 P w) a vs
 |.dT kvs=>kvs.length<=sizeLine/\(a==CJ)=AE/\∃xs:List (Ad×AI×AG),
   Paired (λ(p:Ad×V)(q:Ad×AI×AG)=>p.1=q.1/\D8 H p.1 q.2.1/\f8 p.2 q.2.2) kvs xs /\
   ∃o es ep,h.get? a=AA o/\o.ExactDict/\o.data=.dict es ep/\es.toList=xs.map (entryOfKey (NK.dataKind P w))/\(xs.map (·.1)).Nodup
 |.set S n=>h.SetOf (intKind P w) a S n
 |.ins C dx fs=>H dx=AA (.own a)/\fs.length<=1000/\dx≠a/\h.get? a=AA (Dd C dx) /\
   ∃mA,h.Ns1 dx mA/\(∀f,y6 (fs.lookup f) (mA f))/\PySem.Within mA (fs.map (·.1))
 |.own _=>∃o,h.get? a=AA o
 |.xd fs=>∃mA,h.Ns1 a mA/\∀f,y6 (fs.lookup f) (mA f)
 |.rng lo hi=>∃t u v,h.get? a=AA {cls:=.type "range",data:=.fields #[.int lo t,.int hi u,.int 1 v]}
 |.frz o u=>h.get? a=AA o/\o7 H h a u
 |.tbl ps=>h.get? a=AA {cls:=.none,data:=.fields ps}
 |.met f x=>h.get? a=AA (Hj (.ref f) (.ref x))
 |.ext φ=>φ h/\(∃o,h.get? a=AA o)/\∀h1 h2:BI,φ h1->(∀o,h1.get? a=AA o->h2.get? a=AA o)->φ h2
abbrev HOk(H:Hp)(h:BI):Prop:=∀a o,H a=AA o->o7 P w H h a o
end
section
variable {H':Hp} 
theorem o7.lt(x:o7 P w H h a o):a<h.objs.size:=by
 cases o with
 |lst xs=>obtain⟨_,_,_,_,e⟩:=x;exact BD e
 |tup xs=>obtain⟨_,_,_,p⟩:=x;exact p.lt
 |dK kvs=>obtain⟨_,_,_,_,o,_,_,e,_⟩:=x;exact BD e
 |dT kvs=>obtain⟨_,_,_,_,o,_,_,e,_⟩:=x;exact BD e
 |set S n=>obtain⟨o,_,_,_,e,_⟩:=x;exact BD e
 |ins C dx fs=>obtain⟨_,_,_,e,_⟩:=x;exact BD e
 |own y=>obtain⟨_,e⟩:=x;exact BD e
 |xd fs=>obtain⟨_,⟨_,_,_,e,_⟩,_⟩:=x;exact BD e
 |rng lo hi=>obtain⟨_,_,_,e⟩:=x;exact BD e
 |frz ob u=>obtain⟨e,_⟩:=x;exact BD e
 |tbl ps=>exact BD (show h.get? a=AA _ from x)
 |met f y=>exact BD (show h.get? a=AA _ from x)
 |ext φ=>obtain⟨_,⟨_,e⟩,_⟩:=x;exact BD e
theorem Paired.mapP{α β:Type}{F G:α->β->Prop}:∀{l₁:List α}{l₂:List β},Paired F l₁ l₂->(∀a b,F a b->G a b)->Paired G l₁ l₂
 |_,_,.nil,_=>.nil
 |_,_,.cons r t,f=>.cons (f _ _ r) (Paired.mapP t f)
def o7.stay(x:o7 P w H h a o)(k:∀b u,(b=a\/H b=AA (.own a))->h.get? b=AA u->h'.get? b=AA u)
  (ho:∀b,H b=AA (.own a)->H' b=AA (.own a)) (ht:∀b xs,H b=AA (.tup xs)->H' b=AA (.tup xs)):o7 P w H' h' a o:=by
 induction o with
 |lst xs=>obtain⟨z,its,n,r,e⟩:=x;exact⟨z,its,n,r,k _ _ (.inl rfl) e⟩
 |tup xs=>obtain⟨z,its,r,ob,e,c⟩:=x;exact⟨z,its,r,ob,k _ _ (.inl rfl) e,c⟩
 |dK kvs=>obtain⟨z,y,vs,r,ob,es,ep,e,c⟩:=x;exact⟨z,y,vs,r,ob,es,ep,k _ _ (.inl rfl) e,c⟩
 |dT kvs=>
  obtain⟨z,y,xs,r,ob,es,ep,e,c⟩:=x;exact⟨z,y,xs,Paired.mapP r λp q z=>⟨z.1,z.2.1.keeps ht,z.2.2⟩,ob,es,ep,k _ _ (.inl rfl) e,c⟩
 |set S n=>obtain⟨ob,es,ep,t,e,c⟩:=x;exact⟨ob,es,ep,t,k _ _ (.inl rfl) e,c⟩
 |ins C dx fs=>
  obtain⟨d,z,ne,e,mA,⟨od,es,ep,e2,c⟩,r⟩:=x;exact⟨ho _ d,z,ne,k _ _ (.inl rfl) e,mA,⟨od,es,ep,k _ _ (.inr d) e2,c⟩,r⟩
 |own y=>obtain⟨ob,e⟩:=x;exact⟨ob,k _ _ (.inl rfl) e⟩
 |xd fs=>obtain⟨mA,⟨od,es,ep,e,c⟩,r⟩:=x;exact⟨mA,⟨od,es,ep,k _ _ (.inl rfl) e,c⟩,r⟩
 |rng lo hi=>obtain⟨t,u,v,e⟩:=x;exact⟨t,u,v,k _ _ (.inl rfl) e⟩
 |frz ob u ih=>obtain⟨e,q⟩:=x;exact⟨k _ _ (.inl rfl) e,ih q⟩
 |tbl ps=>
  have e:h.get? a=AA {cls:=.none,data:=.fields ps}:=x;show h'.get? a=AA {cls:=.none,data:=.fields ps};exact k a _ (.inl rfl) e
 |met f y=>
  have e:h.get? a=AA (Hj (.ref f) (.ref y)):=x;show h'.get? a=AA (Hj (.ref f) (.ref y));exact k a _ (.inl rfl) e
 |ext φ=>obtain⟨p,⟨o,e⟩,st⟩:=x;exact⟨st _ _ p λo q=>k _ _ (.inl rfl) q,⟨o,k _ _ (.inl rfl) e⟩,st⟩
theorem HOk.lt(x:HOk P w H h)(e:H a=AA o):a<h.objs.size:=(x a o e).lt
def HOk.fresh(x:HOk P w H h)(e:h.objs.size<=a):H a=AD:=by
 cases q:H a with
 |none=>rfl
 |some u=>exact absurd (An (x.lt q) e) (Cv _)
def HOk.kept(x:HOk P w H h)(k:∀b u,h.get? b=AA u->h'.get? b=AA u):HOk P w H h':=λa o e=>
 (x a o e).stay (λb u _ q=>k b u q) (λ_ q=>q) λ_ _ q=>q
def HOk.laid(x:HOk P w H h)(k:∀b u,h.get? b=AA u->h'.get? b=AA u)(hp:h.objs.size<=a)(new:o7 P w (upd H a o) h' a o):HOk P w (upd H a o) h':=λb u e=>by
 have hn:=x.fresh hp
 by_cases hb:b=a
 ·subst hb;rw[r8]at e;cases e;exact new
 ·rw[i8 hb]at e;exact(x b u e).stay (λc v _ q=>k c v q) (λc q=>by rw[i8 (u4 q hn)];exact q) λc xs q=>by rw[i8 (u4 q hn)];exact q
end
abbrev Rd(H:Hp)(a:AI)(u:HO):Prop:=H a=AA u\/∃o,H a=AA (.frz o u)
def Rd.ok{u:HO}(r:Rd H a u)(x:HOk P w H h):o7 P w H h a u:=by
 rcases r with r|⟨o,r⟩
 ·exact x a u r
 ·obtain⟨_,q⟩:=x a _ r;exact q
abbrev Mut:Option HO->Prop
 |some (.lst _)=>True
 |some (.dK _)=>True
 |some (.dT _)=>True
 |some (.set _ _)=>True
 |some (.ins _ _ _)=>True
 |some (.ext _)=>True
 |_=>False
section
variable {x e:AI} {o':HO}
def HOk.write(ok:HOk P w H h)(mu:Mut (H x))(he:e=x\/H e=AA (.own x))(k:∀b u,b≠e->h.get? b=AA u->h'.get? b=AA u)(heo:∃u,h'.get? e=AA u)
  (new:o7 P w (upd H x o') h' x o'):HOk P w (upd H x o') h':=λb u q=>by
 have nown:∀c y,H c=AA (.own y)->c≠x:=λc y r z=>by subst z;rw[r]at mu;exact mu
 have ntup:∀c xs,H c=AA (.tup xs)->c≠x:=λc xs r z=>by subst z;rw[r]at mu;exact mu
 by_cases hb:b=x
 ·subst hb;rw[r8]at q;cases q;exact new
 ·rw[i8 hb]at q
  by_cases hbe:b=e
  ·have q':H b=AA (.own x):=by
    rcases he with z|z
    ·exact absurd (hbe.trans z) hb
    ·rw[hbe];exact z
   rw[q]at q';cases q';obtain⟨v,hv⟩:=heo;exact⟨v,by rw[hbe];exact hv⟩
  ·refine(ok b u q).stay (λc v hc r=>k c v ?_ r) (λc r=>by rw[i8 (nown c b r)];exact r) λc xs r=>by rw[i8 (ntup c xs r)];exact r
   rcases hc with rfl|hc
   ·exact hbe
   ·rintro rfl
    rcases he with z|z
    ·exact nown c b hc z
    ·rw[hc]at z;cases z;exact hb rfl
end
structure Un(fs ex:List AI)(H H':Hp)(h h':BI):Prop where
 keep:∀b o,h.get? b=AA o->H b=AD->b∉fs->b∉ex->h'.get? b=AA o
 slot:∀b o,h.get? b=AA o->H b=AD->b∈fs->b∉ex->∃sl,h'.get? b=AA {o with slots:=sl}
 free:∀b o,h.get? b=AA o->H b=AD->b∉ex->H' b=AD
 there:∀b o,h.get? b=AA o->b∉ex->∃o',h'.get? b=AA o'
 tups:∀b xs,H b=AA (.tup xs)->H' b=AA (.tup xs)
 frzs:∀b o u,H b=AA (.frz o u)->H' b=AA (.frz o u)
 tbls:∀b ps,H b=AA (.tbl ps)->∃more,H' b=AA (.tbl (ps++more))
section
variable {fs fs' ex ex':List AI} {H1 H2:Hp} {h1 h2:BI} {x e:AI} 
def Un.any(u:Un fs ex H H1 h h1){ob:Obj}(q:h.get? b=AA ob)(n:H b=AD)(hx:b∉ex):∃sl,h1.get? b=AA {ob with slots:=sl}:=by
 by_cases hb:b∈fs
 ·exact u.slot b ob q n hb hx
 ·exact⟨ob.slots,u.keep b ob q n hb hx⟩
def Un.kept(k:∀b u,h.get? b=AA u->h'.get? b=AA u):Un fs ex H H h h':=
 ⟨λb ob q _ _ _=>k b ob q,λb ob q _ _ _=>⟨ob.slots,k b ob q⟩,λ_ _ _ n _=>n,λb ob q _=>⟨ob,k b ob q⟩,λ_ _ q=>q,λ_ _ _ q=>q,λ_ ps q=>⟨#[],by rw[q];simp⟩⟩
def Un.refl:Un fs ex H H h h:=Un.kept λ_ _ q=>q
def Un.laid(k:∀b u,h.get? b=AA u->h'.get? b=AA u)(hp:h.objs.size<=a)(hn:H a=AD):Un fs ex H (upd H a o) h h' where
 keep:=λb u q _ _ _=>k b u q
 slot:=λb u q _ _ _=>⟨u.slots,k b u q⟩
 free:=λb u q n _=>by rw[i8 (BS (An (BD q) hp))];exact n
 there:=λb u q _=>⟨u,k b u q⟩
 tups:=λb xs q=>by rw[i8 (u4 q hn)];exact q
 frzs:=λb u xs q=>by rw[i8 (u4 q hn)];exact q
 tbls:=λb ps q=>⟨#[],by rw[i8 (u4 q hn),q];simp⟩
def Un.write(mu:Mut (H x))(he:e=x\/H e=AA (.own x))(k:∀b u,b≠e->h.get? b=AA u->h'.get? b=AA u)(heo:∃u,h'.get? e=AA u):Un fs ex H (upd H x o) h h':=by
 have hx:∀b,H b=AD->b≠x:=λb n z=>by subst z;rw[n]at mu;exact mu
 have hb:∀b,H b=AD->b≠e:=λb n z=>by
  subst z
  rcases he with r|r
  ·exact hx b n r
  ·rw[n]at r;cases r
 have hm:∀b u,H b=AA u->¬Mut (AA u)->b≠x:=λb u q nm z=>by subst z;rw[q]at mu;exact nm mu
 refine⟨λb u q n _ _=>k b u (hb b n) q,λb u q n _ _=>⟨u.slots,k b u (hb b n) q⟩,λb u q n _=>by rw[i8 (hx b n)];exact n,λb u q _=>?_,
  λb xs q=>by rw[i8 (hm b _ q λz=>z)];exact q,λb u xs q=>by rw[i8 (hm b _ q λz=>z)];exact q,λb ps q=>⟨#[],by rw[i8 (hm b _ q λz=>z),q];simp⟩⟩
 by_cases hbe:b=e
 ·subst hbe;exact heo
 ·exact⟨u,k b u hbe q⟩
end
abbrev trk(h:BI)(H:Hp):List AI:=(Cz h.objs.size).filter λa=>(H a).isSome
abbrev G1(h:BI)(H:Hp):BI:=W.hideAll h (trk h H)
def b42(h:BI)(H:Hp):(G1 h H).objs.size=h.objs.size:=W.hideAll_size _ _
def b70{o:Obj}(e:h.get? b=AA o)(n:H b=AD):(G1 h H).get? b=AA o:=
 W.hideAll_get _ e λhm=>by
  have q:(H b).isSome=AC:=(mem_filter.mp hm).2;rw[n]at q;simp at q
def cg6{o:Obj}(e:(G1 h H).get? b=AA o):h.get? b=AA o/\H b=AD:=by
 have e':h.get? b=AA o:=W.of_hideAll (trk h H) e;refine⟨e',?_⟩;cases q:H b with
 |none=>rfl
 |some x=>
  have hm:b∈trk h H:=mem_filter.mpr ⟨List.mem_range.mpr (BD e'),by simp[q]⟩;have z:(G1 h H).get? b=AD:=W.hideAll_none (trk h H) hm;rw[z]at e;cases e
abbrev cf7(g h:BI)(L:AI):List (AI×Obj):=(Cz h.objs.size).filterMap λa=>if a=L\/(g.get? a).isSome=AC then AD else(h.get? a).map λo=>(a,o)
abbrev i7(g h:BI)(L d:AI):List (AI×Obj):=(cf7 g h L).filter λp=>AB (p.1≠d)
end L2
namespace L2
open PySem PySem.Spec PyProof.Rows
variable{x:Str}{i:Nat}
structure Mod(K:AO)(mg:Str->Option AG)(base:BI):Prop where
 kin:K.In base
 glob:base.Ns AN mg
 blt:∃mb,base.Ns Cg mb/\∀x:Str,x≠"__name__"->mb x=BA x
 nolimit:base.NoLimit
structure Cx where
 prog:Aj
 w:BB
 K:AO
 mg:Str->Option AG
 base:BI
 A:BP
 N:List Str
 s₀:AK
 H₀:Hp
 env:Env
 outer:List Env
 stack:List Env
 ex:List AI
 fn:Str->Bool
 calm:Bool
 pn:List (AI×Obj)
 xe:AG->AK->Prop
 ow:Str->Bool:=λ_=>AE
abbrev frs(l:List Env):List AI:=l.filterMap (·.frame)
@[reducible]noncomputable def Cx.fs(X:Cx):List AI:=frs X.outer
abbrev Vis(sc:BG)(x:Str):Prop:=sc.names.lookup x=AA .local\/sc.names.lookup x=AA .cell\/sc.names.lookup x=AA .free
abbrev Loc(sc:BG)(x:Str):Prop:=sc.names.lookup x=AA .local\/sc.names.lookup x=AA .cell
abbrev c56(env:Env)(h:BI)(m:Str->Option AG)(x:Str)(u:AG):Prop:=
 (env.kindOf x=AA .local/\m x=AA u)\/((env.kindOf x=AA .cell\/env.kindOf x=AA .free)/\∃c,env.cells.lookup x=AA c/\h.IsCell c (AA u))
structure Cx.Ok(X:Cx):Prop where
 mod:Mod X.K X.mg X.base
 kind:X.env.scope.kind=.function
 glob:X.env.globals=AN
 blt:X.env.builtins=Cg
 above:X.s₀.heap.objs.size<=X.env.locals
 inj:∀x y c,X.env.cells.lookup x=AA c->X.env.cells.lookup y=AA c->x=y
 has:∀x,(X.env.kindOf x=AA .cell\/X.env.kindOf x=AA .free)->∃c,X.env.cells.lookup x=AA c
 cab:∀x c,X.fn x=AC\/X.ow x=AC->X.env.cells.lookup x=AA c->X.s₀.heap.objs.size<=c
 hd:X.calm=AC->X.A.handled=AD
 frames:X.A.frames=AA X.stack
 stk:X.stack=X.outer\/(X.stack=X.env::X.outer/\X.env.frame=AA X.env.locals)
 exf:∀b∈X.ex,b≠X.env.locals/\∀x c,X.env.cells.lookup x=AA c->c≠b
 bs:∀b o,X.base.get? b=AA o->X.s₀.heap.get? b=AA o/\X.H₀ b=AD
 bsz:X.base.objs.size<=X.s₀.heap.objs.size
 noex:∀b o,X.base.get? b=AA o->b∉X.ex
 exfs:∀b∈X.ex,b∉X.fs
 funs:X.s₀.heap.FunFrames X.base X.outer
 frf:∀b∈X.fs,X.H₀ b=AD
structure Inv(X:Cx)(pins:List (AI×Obj))(σ:List (Option V))(H:Hp)(s:AK):Prop where
 ok:X.Ok
 os:s.os=X.s₀.os
 bare:Fu s.gens
 base:Un X.fs X.ex X.H₀ H X.s₀.heap s.heap
 loc:∃m,s.heap.Ns X.env.locals m/\∀(i:Nat)(x:Str)(v:V),X.N[i]?=AA x->σ[i]?=AA (AA v)->Vis X.env.scope x->∃u,f8 v u/\c56 X.env s.heap m x u
 cell:∀x c,X.env.cells.lookup x=AA c->∃v,s.heap.IsCell c v
 free:H X.env.locals=AD
 freeC:∀x c,X.env.cells.lookup x=AA c->H c=AD\/(X.fn x=AE/\∃o u,H c=AA (.frz o u))
 pin:∀p∈X.pn++pins,s.heap.get? p.1=AA p.2/\H p.1=AD/\p.1≠X.env.locals/\p.1∉X.fs/\∀v,p.2.data≠.cell v
 hok:HOk X.prog X.w H s.heap
 len:σ.length=X.N.length
section
variable {X:Cx} {pins:List (AI×Obj)} {σ:List (Option V)} {H H':Hp} {s:AK} {h':BI}
def Cx.Ok.nofr(ok:X.Ok){b:AI}{o:Obj}(e:X.base.get? b=AA o):b∉X.fs:=λhb=>by
 have:=(ok.funs.mem hb).1;rw[e]at this;cases this
theorem Inv.bs(I:Inv X pins σ H s):∀b o,X.base.get? b=AA o->s.heap.get? b=AA o/\H b=AD:=λb o e=>
 ⟨I.base.keep b o (I.ok.bs b o e).1 (I.ok.bs b o e).2 (I.ok.nofr e) (I.ok.noex b o e),I.base.free b o (I.ok.bs b o e).1 (I.ok.bs b o e).2 (I.ok.noex b o e)⟩
def Inv.bk(I:Inv X pins σ H s):∀b o,X.base.get? b=AA o->s.heap.get? b=AA o:=λb o e=>(I.bs b o e).1
theorem Inv.mod(I:Inv X pins σ H s):Mod X.K X.mg X.base:=I.ok.mod
def Inv.kIn(I:Inv X pins σ H s):X.K.In s.heap:=I.ok.mod.kin.keeps I.bk
theorem Inv.lt(I:Inv X pins σ H s):X.env.locals<s.heap.objs.size:=let⟨_,hn,_⟩:=I.loc;hn.lt
def Inv.sz(I:Inv X pins σ H s):X.s₀.heap.objs.size<=s.heap.objs.size:=BC I.ok.above (Fv I.lt)
def Inv.nofs(I:Inv X pins σ H s){a:AI}(h:s.heap.objs.size<=a):a∉X.fs:=λhb=>by
 obtain⟨_,o,ho,_⟩:=I.ok.funs.mem hb;exact absurd (An (BD ho) (BC I.sz h)) (Cv _)
def Inv.cne(I:Inv X pins σ H s):∀x c,X.env.cells.lookup x=AA c->c≠X.env.locals:=λx c e z=>by
 obtain⟨v,o,ho,hd⟩:=I.cell x c e;obtain⟨m,⟨o',es,ep,ho',hd',_⟩,_⟩:=I.loc;rw[z,ho']at ho;cases ho;rw[hd']at hd;cases hd
theorem Inv.funs(I:Inv X pins σ H s):s.heap.FunFrames X.base X.outer:=by
 have all:∀(l:List Env),(∀b∈frs l,b∈X.fs)->X.s₀.heap.FunFrames X.base l->s.heap.FunFrames X.base l:=by
  intro l
  induction l with
  |nil=>intro _ _;trivial
  |cons env r ih=>
   intro hs hl;obtain⟨hk,⟨L,o,hf,hn,ho,hd⟩,hr⟩:=hl;have hL:L∈X.fs:=hs L (by unfold frs;rw[DD,hf];exact Bw);obtain⟨sl,e⟩:=I.base.slot L o ho (I.ok.frf L hL) hL λz=>I.ok.exfs L z hL;exact⟨hk,⟨L,_,hf,hn,e,hd⟩,ih (λb hb=>hs b (by unfold frs;rw[DD,hf];exact Ao _ hb)) hr⟩
 exact all X.outer (λ_ hb=>hb) I.ok.funs
theorem Inv.stack(I:Inv X pins σ H s):s.heap.FunFrames X.base X.stack:=by
 rcases I.ok.stk with e|⟨e,hf⟩
 ·rw[e];exact I.funs
 ·rw[e];obtain⟨m,hn,_⟩:=I.loc;refine .cons (by rw[I.ok.kind];decide) hf hn ?_ I.funs;exact Heap.get?_none_of_le (BC I.ok.bsz I.ok.above)
def Inv.stkSub(I:Inv X pins σ H s):∀b∈frs X.stack,b∈X.env.locals::X.fs:=λb hb=>by
 rcases I.ok.stk with e|⟨e,hf⟩
 ·rw[e]at hb;exact Ao _ hb
 ·rw[e]at hb;unfold frs at hb;rw[DD,hf]at hb;exact hb
def Inv.stkFree(I:Inv X pins σ H s):∀b∈frs X.stack,H b=AD:=λb hb=>by
 rcases AL.mp (I.stkSub b hb)with e|hb
 ·rw[e];exact I.free
 ·obtain⟨_,o,ho,_⟩:=I.ok.funs.mem hb;exact I.base.free b o ho (I.ok.frf b hb) λz=>I.ok.exfs b z hb
def Inv.step{g':Array GenState}{t':Nat}{d':Drawn}{ch:List AI}(I:Inv X pins σ H s)
  (hch:∀b∈ch,(b∈X.ex\/X.s₀.heap.objs.size<=b)/\b≠X.env.locals/\(∀x c,X.env.cells.lookup x=AA c->c≠b)/\∀p∈X.pn++pins,p.1≠b)
  (keep:∀b o,b≠X.env.locals->b∉X.fs->b∉ch->s.heap.get? b=AA o->H b=AD->h'.get? b=AA o)
  (slot:∀b o,b≠X.env.locals->b∈X.fs->b∉ch->s.heap.get? b=AA o->H b=AD->∃sl,h'.get? b=AA {o with slots:=sl}) (free:∀b o,b∉ch->s.heap.get? b=AA o->H b=AD->H' b=AD)
  (there:∀b o,b∉ch->s.heap.get? b=AA o->∃o',h'.get? b=AA o')
  (tups:∀b xs,H b=AA (.tup xs)->H' b=AA (.tup xs)) (frzs:∀b o u,H b=AA (.frz o u)->H' b=AA (.frz o u)) (tbls:∀b ps,H b=AA (.tbl ps)->∃more,H' b=AA (.tbl (ps++more)))
  (ns:∀m,s.heap.Ns X.env.locals m->h'.Ns X.env.locals m) (hok:HOk X.prog X.w H' h') (hg:Fu g') :
  Inv X pins σ H' {s with heap:=h',gens:=g',drawn:=d',toks:=t'}:=by
 have neL:∀b o,X.s₀.heap.get? b=AA o->b≠X.env.locals:=λb o e=>BS (An (BD e) I.ok.above);have neC:∀b o,X.s₀.heap.get? b=AA o->b∉X.ex->b∉ch:=λb o e hx hb=>by
  rcases(hch b hb).1 with z|z
  ·exact hx z
  ·exact absurd (An (BD e) z) (Cv _)
 have cellK:∀x c,X.env.cells.lookup x=AA c->∀v,s.heap.IsCell c v->h'.IsCell c v:=λx c e v⟨o,ho,hd⟩=>by
  have nch:c∉ch:=λz=>(hch c z).2.2.1 x c e rfl
  rcases I.freeC x c e with hfr|⟨_,oz,uz,hz⟩
  ·by_cases hc:c∈X.fs
   ·obtain⟨sl,q⟩:=slot c o (I.cne x c e) hc nch ho hfr;exact⟨_,q,hd⟩
   ·exact⟨o,keep c o (I.cne x c e) hc nch ho hfr,hd⟩
  ·obtain⟨h1,_⟩:=I.hok c _ hz;obtain⟨h2,_⟩:=hok c _ (frzs c oz uz hz);rw[h1]at ho;cases ho;exact⟨_,h2,hd⟩
 refine⟨I.ok,I.os,hg,⟨λb o e n hb hx=>?_,λb o e n hb hx=>?_,λb o e n hx=>?_,λb o e hx=>?_,λb xs e=>tups b xs (I.base.tups b xs e),λb o xs e=>frzs b o xs (I.base.frzs b o xs e),λb ps e=>?_⟩,?_,λx c e=>?_,?_,λx c e=>?_,λp hp=>?_,hok,I.len⟩
 ·exact keep b o (neL b o e) hb (neC b o e hx) (I.base.keep b o e n hb hx) (I.base.free b o e n hx)
 ·obtain⟨sl,e1⟩:=I.base.slot b o e n hb hx;obtain⟨sl',e2⟩:=slot b _ (neL b o e) hb (neC b o e hx) e1 (I.base.free b o e n hx);exact⟨sl',e2⟩
 ·obtain⟨o',e1⟩:=I.base.there b o e hx;exact free b o' (neC b o e hx) e1 (I.base.free b o e n hx)
 ·obtain⟨o',e1⟩:=I.base.there b o e hx;exact there b o' (neC b o e hx) e1
 ·obtain⟨m1,e1⟩:=I.base.tbls b ps e;obtain⟨m2,e2⟩:=tbls b _ e1;exact⟨m1++m2,by rw[e2,Array.append_assoc]⟩
 ·obtain⟨m,hn,hl⟩:=I.loc;refine⟨m,ns m hn,λi x v e1 e2 e3=>?_⟩;obtain⟨u,r,l⟩:=hl i x v e1 e2 e3;refine⟨u,r,?_⟩
  rcases l with l|⟨k,c,e,z⟩
  ·exact .inl l
  ·exact .inr ⟨k,c,e,cellK x c e _ z⟩
 ·obtain⟨v,z⟩:=I.cell x c e;exact⟨v,cellK x c e v z⟩
 ·obtain⟨m,⟨o,_,_,ho,_⟩,_⟩:=I.loc;exact free _ o (λz=>(hch _ z).2.1 rfl) ho I.free
 ·obtain⟨v,o,ho,hd⟩:=I.cell x c e
  rcases I.freeC x c e with hfr|⟨hfn,oz,uz,hz⟩
  ·exact .inl (free c o (λz=>(hch c z).2.2.1 x c e rfl) ho hfr)
  ·exact .inr ⟨hfn,oz,uz,frzs c oz uz hz⟩
 ·obtain⟨e,n,ne,nf,d⟩:=I.pin p hp;have nch:p.1∉ch:=λz=>(hch p.1 z).2.2.2 p hp rfl;exact⟨keep p.1 p.2 ne nf nch e n,free p.1 p.2 nch e n,ne,nf,d⟩
def Inv.un{t':Nat}(I:Inv X pins σ H s)(u:Un X.fs [] H H' s.heap h')(hok:HOk X.prog X.w H' h'):Inv X pins σ H' {s with heap:=h',toks:=t'}:=by
 obtain⟨m,⟨o,es,ep,ho,r⟩,_⟩:=id I.loc;obtain⟨sl,hL⟩:=u.any ho I.free ∎;exact I.step (g':=s.gens) (d':=s.drawn) (ch:=[]) (λ_ z=>nomatch z) (λb o _ hb _ e n=>u.keep b o e n hb ∎) (λb o _ hb _ e n=>u.slot b o e n hb ∎) (λb o _ e n=>u.free b o e n ∎) (λb o _ e=>u.there b o e ∎) u.tups u.frzs u.tbls (λm' hm=>by
  obtain⟨o',es',ep',ho',r'⟩:=hm;rw[ho]at ho';cases ho';exact⟨_,es',ep',hL,r'⟩) hok I.bare
def Inv.call{g':Array GenState}{t':Nat}{d':Drawn}{ch:List AI}(I:Inv X pins σ H s)(u:Un (frs X.stack) ch H H' s.heap h')(hok:HOk X.prog X.w H' h')(hg:Fu g')
  (hch:∀b∈ch,(b∈X.ex\/X.s₀.heap.objs.size<=b)/\b≠X.env.locals/\(∀x c,X.env.cells.lookup x=AA c->c≠b)/\∀p∈X.pn++pins,p.1≠b) :
  Inv X pins σ H' {s with heap:=h',gens:=g',drawn:=d',toks:=t'}:=by
 obtain⟨m,⟨o,es,ep,ho,r⟩,_⟩:=id I.loc;obtain⟨sl,hL⟩:=u.any ho I.free λz=>(hch _ z).2.1 rfl;exact I.step (ch:=ch) hch (λb o hL hb hc e n=>u.keep b o e n (λz=>(AL.mp (I.stkSub b z)).elim hL hb) hc) (λb o _ _ hc e n=>u.any e n hc) (λb o hc e n=>u.free b o e n hc) (λb o hc e=>u.there b o e hc) u.tups u.frzs u.tbls (λm' hm=>by
  obtain⟨o',es',ep',ho',r'⟩:=hm;rw[ho]at ho';cases ho';exact⟨_,es',ep',hL,r'⟩) hok hg
def Inv.turned{t':Nat}{it:AI}(I:Inv X pins σ H s)(k:∀b o,b≠it->s.heap.get? b=AA o->h'.get? b=AA o)(hn:H it=AD)(hL:it≠X.env.locals)
  (h1:it∈X.ex\/X.s₀.heap.objs.size<=it) (h2:∀x c,X.env.cells.lookup x=AA c->c≠it) (h3:∀p∈X.pn++pins,p.1≠it):Inv X pins σ H {s with heap:=h',toks:=t'}:=by
 have nit:∀b u,H b=AA u->b≠it:=λb u e z=>by rw[z,hn]at e;cases e
 refine I.step (g':=s.gens) (d':=s.drawn) (ch:=[it]) (λb hb=>?_) (λb o _ _ hc e _=>k b o (λz=>hc (by simp[z])) e) (λb o _ _ hc e _=>⟨o.slots,k b o (λz=>hc (by simp[z])) e⟩) (λ_ _ _ _ n=>n)
  (λb o hc e=>⟨o,k b o (λz=>hc (by simp[z])) e⟩) (λ_ _ e=>e) (λ_ _ _ e=>e) (λb ps e=>⟨#[],by rw[e];simp⟩) (λm hm=>?_) (λb u e=>?_) I.bare
 ·have e:b=it:=by simpa using hb
  subst e;exact⟨h1,hL,h2,h3⟩
 ·obtain⟨o,es,ep,ho,r⟩:=hm;exact⟨o,es,ep,k _ o (Aw hL) ho,r⟩
 ·refine(I.hok b u e).stay (λc v hc q=>k c v ?_ q) (λ_ q=>q) λ_ _ q=>q
  rcases hc with z|z
  ·rw[z];exact nit b u e
  ·exact nit c _ z
def Inv.tok(I:Inv X pins σ H s)(t:Nat):Inv X pins σ H {s with toks:=t}:=I.un (h':=s.heap) (t':=t) Un.refl I.hok
theorem Inv.kept{t':Nat}(I:Inv X pins σ H s)(k:∀b u,s.heap.get? b=AA u->h'.get? b=AA u):Inv X pins σ H {s with heap:=h',toks:=t'}:=I.un (Un.kept k) (I.hok.kept k)
theorem Inv.laid{a:AI}{o:HO}{t':Nat}(I:Inv X pins σ H s)(k:∀b u,s.heap.get? b=AA u->h'.get? b=AA u)(hp:s.heap.objs.size<=a)(new:o7 X.prog X.w (upd H a o) h' a o):
  Inv X pins σ (upd H a o) {s with heap:=h',toks:=t'}:=I.un (Un.laid k hp (I.hok.fresh hp)) (I.hok.laid k hp new)
theorem Inv.write{x e:AI}{o:HO}{t':Nat}(I:Inv X pins σ H s)(mu:Mut (H x))(he:e=x\/H e=AA (.own x))(k:∀b u,b≠e->s.heap.get? b=AA u->h'.get? b=AA u)(heo:∃u,h'.get? e=AA u)
  (new:o7 X.prog X.w (upd H x o) h' x o):Inv X pins σ (upd H x o) {s with heap:=h',toks:=t'}:=I.un (Un.write mu he k heo) (I.hok.write mu he k heo new)
def Inv.pins_of{pins':List (AI×Obj)}(I:Inv X pins σ H s)(h:∀p∈pins',s.heap.get? p.1=AA p.2/\H p.1=AD/\p.1≠X.env.locals/\p.1∉X.fs/\∀v,p.2.data≠.cell v):Inv X pins' σ H s:=
 ⟨I.ok,I.os,I.bare,I.base,I.loc,I.cell,I.free,I.freeC,λp hp=>(BK.mp hp).elim (λz=>I.pin p (Db _ z)) (h p),I.hok,I.len⟩
def a04{N:List Str}(hN:N.Nodup){j:Nat}(a:N[i]?=AA x)(b:N[j]?=AA x):i=j:=by
 obtain⟨h1,e1⟩:=AR.mp a;obtain⟨h2,e2⟩:=AR.mp b;exact(List.getElem_inj hN).mp (e1.trans e2.symm)
def b30{M:Model}{A:BP}{E:AG->AK->Prop}{v:V}{u:AG}{Q:Unit->AK->Prop}(I:Inv X pins σ H s)(hN:X.N.Nodup)(hi:X.N[i]?=AA x)(hx:Loc X.env.scope x)(r:f8 v u)
  (h:∀s',Inv X pins (σ.set i (AA v)) H s'->(∃a,CA a s.heap s'.heap/\(a=X.env.locals\/X.env.cells.lookup x=AA a))->Q () s') (hf:X.fn x=AC\/X.env.scope.names.lookup x=AA .local:=by first|exact .inl rfl|exact .inr rfl|assumption):AU M A (storeName X.env x u) Q E s:=by
 obtain⟨m,hn,hl⟩:=id I.loc;have hcls:(X.env.scope.kind==.class||(X.env.scope.kind==.module&&X.env.locals != X.env.globals))=AE:=by rw[I.ok.kind];rfl
 have hiσ:i<σ.length:=by rw[I.len];exact(AR.mp hi).1
 have cne:=I.cne;have tracked:∀{a:AI}{h':BI},(∃o,s.heap.get? a=AA o/\H a=AD)->CA a s.heap h'->HOk X.prog X.w H h':=λ{a h'}ha hs b ob e=>by
  obtain⟨_,_,hfree⟩:=ha;refine(I.hok b ob e).stay (λc w' hc q=>(hs.2 c ?_).trans q) (λ_ q=>q) λ_ _ q=>q;rintro rfl
  rcases hc with rfl|hc
  ·rw[hfree]at e;cases e
  ·rw[hfree]at hc;cases hc
 rcases hx with hk|hk
 ·refine wpAny_storeName_local hk hn (λh' hn' hs=>?_) hcls;obtain⟨oL,_,_,hoL,_⟩:=id hn;refine h _ ⟨I.ok,I.os,I.bare,⟨λb o e n hb hx=>?_,λb o e n hb hx=>?_,I.base.free,λb o e hx=>?_,I.base.tups,I.base.frzs,I.base.tbls⟩,⟨_,hn',λj y v' e1 e2 e3=>?_⟩,λy c e=>?_,I.free,I.freeC,λp hp=>?_,tracked ⟨oL,hoL,I.free⟩ hs,by simpa using I.len⟩ ⟨_,hs,.inl rfl⟩
  ·exact(hs.2 b (BS (An (BD e) I.ok.above))).trans (I.base.keep b o e n hb hx)
  ·obtain⟨sl,e1⟩:=I.base.slot b o e n hb hx;exact⟨sl,(hs.2 b (BS (An (BD e) I.ok.above))).trans e1⟩
  ·obtain⟨o',e1⟩:=I.base.there b o e hx;exact⟨o',(hs.2 b (BS (An (BD e) I.ok.above))).trans e1⟩
  ·by_cases hj:j=i
   ·subst hj;rw[hi]at e1;cases e1;rw[Gi hiσ]at e2;cases e2;exact⟨u,r,.inl ⟨hk,∎⟩⟩
   ·rw[HH (Aw hj)]at e2;obtain⟨u',r',q⟩:=hl j y v' e1 e2 e3;refine⟨u',r',?_⟩
    rcases q with⟨k,e⟩|⟨k,c,e,z⟩
    ·refine .inl ⟨k,?_⟩;have:y≠x:=λe=>hj (a04 hN e1 (e▸hi));simp[this,e]
    ·exact .inr ⟨k,c,e,z.sameBut hs (cne y c e)⟩
  ·obtain⟨w',z⟩:=I.cell y c e;exact⟨w',z.sameBut hs (cne y c e)⟩
  ·obtain⟨e,n,ne,nf,d⟩:=I.pin p hp;exact⟨(hs.2 p.1 ne).trans e,n,ne,nf,d⟩
 ·have hfn:X.fn x=AC:=by
   rcases hf with z|z
   ·exact z
   ·rw[z]at hk;cases hk
  obtain⟨c,hc⟩:=I.ok.has x (.inl hk);obtain⟨w',z⟩:=I.cell x c hc;have hfree:H c=AD:=(I.freeC x c hc).resolve_right λz=>by rw[hfn]at z;exact absurd z.1 ∅
  refine wpAny_storeName_cell I.ok.kind hk hc z (λh' hc' hs=>?_);obtain⟨oc,hoc,hocd⟩:=id z;refine h {s with heap:=h'} ⟨I.ok,I.os,I.bare,⟨λb o e n hb hx=>?_,λb o e n hb hx=>?_,I.base.free,λb o e hx=>?_,I.base.tups,I.base.frzs,I.base.tbls⟩,⟨m,hn.sameBut hs (Aw (cne x c hc)),λj y v' e1 e2 e3=>?_⟩,λy c' e=>?_,I.free,I.freeC,λp hp=>?_,tracked ⟨oc,hoc,hfree⟩ hs,by simpa using I.len⟩ ⟨c,hs,.inr hc⟩
  ·exact(hs.2 b (BS (An (BD e) (I.ok.cab x c (.inl hfn) hc)))).trans (I.base.keep b o e n hb hx)
  ·obtain⟨sl,e1⟩:=I.base.slot b o e n hb hx;exact⟨sl,(hs.2 b (BS (An (BD e) (I.ok.cab x c (.inl hfn) hc)))).trans e1⟩
  ·obtain⟨o',e1⟩:=I.base.there b o e hx;exact⟨o',(hs.2 b (BS (An (BD e) (I.ok.cab x c (.inl hfn) hc)))).trans e1⟩
  ·by_cases hj:j=i
   ·subst hj;rw[hi]at e1;cases e1;rw[Gi hiσ]at e2;cases e2;exact⟨u,r,.inr ⟨.inl hk,c,hc,hc'⟩⟩
   ·rw[HH (Aw hj)]at e2;obtain⟨u',r',q⟩:=hl j y v' e1 e2 e3;refine⟨u',r',?_⟩
    rcases q with q|⟨k,c',e,z'⟩
    ·exact .inl q
    ·refine .inr ⟨k,c',e,z'.sameBut hs ?_⟩;rintro rfl;exact hj (a04 hN e1 (I.ok.inj _ _ _ e hc▸hi))
  ·by_cases hcc:c'=c
   ·subst hcc;exact⟨_,hc'⟩
   ·obtain⟨w2,z2⟩:=I.cell y c' e;exact⟨w2,z2.sameBut hs hcc⟩
  ·obtain⟨e,n,ne,nf,d⟩:=I.pin p hp;refine⟨(hs.2 p.1 ?_).trans e,n,ne,nf,d⟩;intro q;rw[q,hoc]at e;have q':oc=p.2:=As e;exact d w' (by rw[<-q'];exact hocd)
def Y8{M:Model}{A:BP}{E:AG->AK->Prop}{v:V}{u:AG}{Q:Unit->AK->Prop}(I:Inv X pins σ H s)(hN:X.N.Nodup)(hi:X.N[i]?=AA x)(hx:Loc X.env.scope x)(r:f8 v u)
  (h:∀s',Inv X pins (σ.set i (AA v)) H s'->Q () s') (hf:X.fn x=AC\/X.env.scope.names.lookup x=AA .local:=by first|exact .inl rfl|exact .inr rfl|assumption):AU M A (storeName X.env x u) Q E s:=
 b30 I hN hi hx r (λs' I' _=>h s' I') hf
end
@[reducible]noncomputable def XK:=AG->Option AI->Hp->Prop
@[reducible]noncomputable def St:=List (Option V)
@[reducible]noncomputable def VK:=V->Hp->Prop
@[reducible]noncomputable def TE:=St->Hp->VK->Prop
@[reducible]noncomputable def TT:=St->Hp->(Bool->Hp->Prop)->Prop
@[reducible]noncomputable def TA:=St->Hp->(List V->Hp->Prop)->Prop
structure Ends where
 nx:St->Hp->Prop
 rt:VK
 bk:St->Hp->Prop:=λ_ _=>False
 ct:St->Hp->Prop:=λ_ _=>False
@[reducible]noncomputable def TS:=Ends->St->Hp->Prop
abbrev EP(X:Cx)(pins:List (AI×Obj))(σ:St)(Q:VK)(u:AG)(s':AK):Prop:=∃v H',Inv X pins σ H' s'/\f8 v u/\Q v H'
abbrev TP(X:Cx)(pins:List (AI×Obj))(σ:St)(Q:Bool->Hp->Prop)(b:Bool)(s':AK):Prop:=∃H',Inv X pins σ H' s'/\Q b H'
abbrev AP(X:Cx)(pins:List (AI×Obj))(σ:St)(Q:List V->Hp->Prop)(us:List AG)(s':AK):Prop:=∃vs H',Inv X pins σ H' s'/\f7 vs us/\Q vs H'
abbrev SP(X:Cx)(pins:List (AI×Obj))(D:Ends)(f:Flow)(s':AK):Prop:=
 match f with
 |.next=>∃σ' H',Inv X pins σ' H' s'/\D.nx σ' H'
 |.brk=>∃σ' H',Inv X pins σ' H' s'/\D.bk σ' H'
 |.cont=>∃σ' H',Inv X pins σ' H' s'/\D.ct σ' H'
 |.ret u=>∃v σ' H',Inv X pins σ' H' s'/\f8 v u/\D.rt v H'
abbrev PE(X:Cx)(e:AQ)(t:TE):Prop:=
 ∀(pins:List (AI×Obj))(s:AK)(σ:St)(H:Hp)(Q:VK),Inv X pins σ H s->t σ H Q->AU (model X.prog X.w) X.A (eval e X.env) (EP X pins σ Q) X.xe s
abbrev PT(X:Cx)(e:AQ)(t:TT):Prop:=
 ∀(pins:List (AI×Obj))(s:AK)(σ:St)(H:Hp)(Q:Bool->Hp->Prop),Inv X pins σ H s->t σ H Q->AU (model X.prog X.w) X.A (Gx e X.env (eval e X.env)) (TP X pins σ Q) X.xe s
abbrev PW(X:Cx)(e:AQ)(t:TT):Prop:=
 ∀(whole:Sem AG)(pins:List (AI×Obj))(s:AK)(σ:St)(H:Hp)(Q:Bool->Hp->Prop),Inv X pins σ H s->t σ H Q->AU (model X.prog X.w) X.A (Gx e X.env whole) (TP X pins σ Q) X.xe s
def PW.pt{X:Cx}{e:AQ}{t:TT}(h:PW X e t):PT X e t:=h _
abbrev PA(X:Cx)(es:List AQ)(t:TA):Prop:=
 ∀(pos:Pos)(pins:List (AI×Obj))(s:AK)(σ:St)(H:Hp)(Q:List V->Hp->Prop),Inv X pins σ H s->t σ H Q->AU (model X.prog X.w) X.A (spliced (Bq pos (Am es X.env))) (AP X pins σ Q) X.xe s
abbrev PS(X:Cx)(st:BQ)(t:TS):Prop:=
 ∀(pins:List (AI×Obj))(s:AK)(σ:St)(H:Hp)(D:Ends),Inv X pins σ H s->t D σ H->AU (model X.prog X.w) X.A (exec st X.env) (SP X pins D) X.xe s
abbrev PSs(X:Cx)(st:List BQ)(t:TS):Prop:=
 ∀(pins:List (AI×Obj))(s:AK)(σ:St)(H:Hp)(D:Ends),Inv X pins σ H s->t D σ H->AU (model X.prog X.w) X.A (execs st X.env) (SP X pins D) X.xe s
def thn{α:Type}{t:Sem α}{Q Q':α->AK->Prop}{M:Model}{A:BP}{E:AG->AK->Prop}{s:AK}(h:AU M A t Q E s)(hQ:∀a s,Q a s->Q' a s):AU M A t Q' E s:=Bc h hQ λ_ _ x=>x
end L2
namespace L2
open PySem PySem.Spec PyProof.Rows
variable{pins:List (AI×Obj)}{s:AK}{σ:St}{H:Hp}{x:Str}{pos:Pos}{u:AG}{op:De}
section
variable {X:Cx}
def bin{a b:AQ}{ta tb:TE}(ha:PE X a ta)(hb:PE X b tb){R:V->V->Hp->Prop}(I:Inv X pins σ H s)(h:ta σ H λx H1=>tb σ H1 λy H2=>R x y H2)
  {α:Type} {Q:α->AK->Prop} {f:AG->AG->Sem α}
  (hf:∀v u s2 x y H2,Inv X pins σ H2 s2->f8 x v->f8 y u->R x y H2->AU (model X.prog X.w) X.A (f v u) Q X.xe s2) :
  AU (model X.prog X.w) X.A (eval a X.env) (λv s₁=>AU (model X.prog X.w) X.A (eval b X.env) (λu s₂=>AU (model X.prog X.w) X.A (f v u) Q X.xe s₂) X.xe s₁) X.xe s:=by
 refine thn (ha pins s σ H _ I h) λv s1 z0=>?_;obtain⟨x,H1,I1,r1,q1⟩:=z0;refine thn (hb pins s1 σ H1 _ I1 q1) λu s2 z1=>?_;obtain⟨y,H2,I2,r2,q2⟩:=z1;exact hf v u s2 x y H2 I2 r1 r2 q2
abbrev c67(i:Nat):TE:=λσ H Q=>∃v,σ[i]?=AA (AA v)/\Q v H
abbrev tC(v:V):TE:=λ_ H Q=>Q v H
def am9{i:Nat}(hN:X.N[i]?=AA x)(hv:Vis X.env.scope x)(hd:(x==("__debug__":Str))=AE:=by decide)(hcd:(x==("__classdict__":Str))=AE:=by decide):PE X (.Name x pos) (c67 i):=by
 intro pins s σ H Q I h;obtain⟨v,e,h⟩:=h;obtain⟨m,hn,hl⟩:=I.loc;obtain⟨u,r,l⟩:=hl i x v hN e hv;have fin:EP X pins σ Q u s:=⟨v,H,I,r,h⟩
 rcases l with⟨hk,hm⟩|⟨hk,c,hc,hcell⟩
 ·exact Ir (wpAny_loadName_local I.ok.kind hk hn hm fin) hd
 ·rcases hk with hk|hk
  ·exact Ir (wpAny_loadName_cell I.ok.kind hk hc hcell fin) hd
  ·exact Ir (wpAny_loadName_free I.ok.kind hk hc hcell fin hcd) hd
def cq2{i j pos}:PE X (.Constant (.int i) j pos) (tC (.int i)):=λ_ _ _ H _ I h=>wpAny_Constant_int ⟨.int i,H,I.tok _,⟨_,rfl⟩,h⟩
def cz1{b j pos}:PE X (.Constant (.bool b) j pos) (tC (.bl b)):=λ_ _ _ H _ I h=>Constant_bool ⟨.bl b,H,I,rfl,h⟩
def cw7{j pos}:PE X (.Constant .none j pos) (tC .non):=λ_ _ _ H _ I h=>HP ⟨.non,H,I,rfl,h⟩
def bh7{x j pos}:PE X (.Constant (.str x) j pos) (tC (.str x)):=λ_ _ _ H _ I h=>Calls.Constant_str ⟨.str x,H,I.tok _,⟨_,rfl⟩,h⟩
abbrev Gl(X:Cx)(x:Str):Prop:=X.env.kindOf x=AA .globalImplicit
def Q1{E:AG->AK->Prop}{pos:Pos}{Q:AG->AK->Prop}(I:Inv X pins σ H s)(hg:Gl X x)(hm:X.mg x=AA u)(h:Q u s)
  (hd:(x==("__debug__":Str))=AE:=by decide):AU (model X.prog X.w) X.A (eval (.Name x pos) X.env) Q E s:=
 Fw I.ok.kind hg (Calls.loadGlobal_global (by rw[I.ok.glob];exact I.mod.glob.keeps I.bk) hm h) hd
def L5{E:AG->AK->Prop}{pos:Pos}{Q:AG->AK->Prop}(I:Inv X pins σ H s)(hg:Gl X x)(hm:X.mg x=AD)(hv:BA x=AA u)(h:Q u s)
  (hn:x≠"__name__":=by decide) (hd:(x==("__debug__":Str))=AE:=by decide):AU (model X.prog X.w) X.A (eval (.Name x pos) X.env) Q E s:=by
 obtain⟨mb,h1,h2⟩:=I.mod.blt;exact Fw I.ok.kind hg (Calls.loadGlobal_builtin (by rw[I.ok.glob];exact I.mod.glob.keeps I.bk) hm (by rw[I.ok.blt];exact h1.keeps I.bk) ((h2 x hn).trans hv) h) hd
def a83{v:V}(hg:Gl X x)(hm:X.mg x=AA u)(r:f8 v u)(hd:(x==("__debug__":Str))=AE:=by decide):PE X (.Name x pos) (tC v):=
 λ_ _ _ H _ I h=>Q1 I hg hm ⟨v,H,I,r,h⟩ hd
def ce3{v:V}(hg:Gl X x)(hm:X.mg x=AD)(hv:BA x=AA u)(r:f8 v u)(hn:x≠"__name__":=by decide)(hd:(x==("__debug__":Str))=AE:=by decide):PE X (.Name x pos) (tC v):=
 λ_ _ _ H _ I h=>L5 I hg hm hv ⟨v,H,I,r,h⟩ hn hd
variable {a b:AQ} {ta tb:TE} 
abbrev PC(X:Cx)(op:De)(a b:AQ)(t:TE):Prop:=
 ∀(pins:List (AI×Obj))(s:AK)(σ:St)(H:Hp)(Q:VK),Inv X pins σ H s->t σ H Q ->
  AU (model X.prog X.w) X.A (eval a X.env) (λv s₁=>AU (model X.prog X.w) X.A (eval b X.env) (λu s₂=>AU (model X.prog X.w) X.A (Bp op v u) (EP X pins σ Q) X.xe s₂) X.xe s₁) X.xe s
def ay2(b:AQ)(h:op≠.In)(h2:op≠.NotIn):CK op b=AE:=by
 have e1:(op==CmpOp.In)=AE:=by cases op<;>first|rfl|exact absurd rfl h
 have e2:(op==Gy)=AE:=by cases op<;>first|rfl|exact absurd rfl h2
 cases b<;>simp[CK,e1,e2]
abbrev c44(ta:TE):TE:=λσ H Q=>ta σ H λx H1=>Q (.bl (AB (x=.non))) H1
abbrev c06(ta:TE):TE:=λσ H Q=>ta σ H λx H1=>Q (.bl (!decide (x=.non))) H1
def f8.none_iff{x:V}{v:AG}(r:f8 x v):(v==Bh)=AB (x=.non):=by
 cases x with
 |non=>cases r;rfl
 |bl _=>cases r;rfl
 |int _=>obtain⟨t,rfl⟩:=r;rfl
 |str _=>obtain⟨t,rfl⟩:=r;rfl
 |byt _=>obtain⟨t,rfl⟩:=r;rfl
 |flt _=>obtain⟨t,rfl⟩:=r;rfl
 |ref _=>cases r;rfl
 |ty _=>cases r;rfl
def bg9{j pos'}(ha:PE X a ta):PC X .Is a (.Constant .none j pos') (c44 ta):=by
 intro pins s σ H Q I h;refine thn (ha pins s σ H _ I h) λv s1 z2=>?_;obtain⟨x,H1,I1,r1,q1⟩:=z2;exact HP (is_none_gen ⟨.bl _,H1,I1,by rw[r1.none_iff];rfl,q1⟩)
def a64{j pos'}(ha:PE X a ta):PC X .IsNot a (.Constant .none j pos') (c06 ta):=by
 intro pins s σ H Q I h;refine thn (ha pins s σ H _ I h) λv s1 z3=>?_;obtain⟨x,H1,I1,r1,q1⟩:=z3;exact HP (isnot_none_gen ⟨.bl _,H1,I1,by rw[r1.none_iff];rfl,q1⟩)
abbrev tB(t:TE):TT:=λσ H Q=>t σ H λx H1=>∃c,x=.bl c/\Q c H1
def bc1{t:TE}(h:PC X op a b t)(h1:CK op b=AE:=by first|exact ay2 _ ∅ ∅|rfl):PE X (.Compare a [op] [b] pos) t:=λpins s σ H Q I hw=>KB (h pins s σ H Q I hw) h1
def bh8{t:TE}(h:PC X op a b t)(h1:CK op b=AE:=by first|exact ay2 _ ∅ ∅|rfl):PT X (.Compare a [op] [b] pos) (tB t):=by
 intro pins s σ H Q I hw;refine IC (thn (h pins s σ H _ I hw) λv s1 h1=>thn h1 λu s2 h2=>thn h2 λc s3 z4=>?_) h1;obtain⟨x,H1,I1,r1,q1⟩:=z4;obtain⟨d,rfl,q⟩:=q1;cases r1;exact CG ⟨H1,I1,q⟩
def cu6{e:AQ}{t:TE}(h:PE X e t)(he:∀whole,Gx e X.env whole=(do let v <-whole;Gj e.pos;holding [v] (truthy v)):=by intro _;rfl):PT X e (tB t):=by
 intro pins s σ H Q I hw;refine isTrue_plain (thn (h pins s σ H _ I hw) λv s1 z5=>?_) (he _);obtain⟨x,H1,I1,r1,q1⟩:=z5;obtain⟨d,rfl,q⟩:=q1;cases r1;exact CG ⟨H1,I1,q⟩
variable {tA tB':TT} {i7:List AQ}
abbrev c63(t u:TT):TT:=λσ H Q=>t σ H λc H1=>if c=AC then u σ H1 Q else Q AE H1
abbrev tOr(t u:TT):TT:=λσ H Q=>t σ H λc H1=>if c=AC then Q AC H1 else u σ H1 Q
abbrev c54(t:TT):TT:=λσ H Q=>t σ H λc H1=>Q (!c) H1
def cg4(ha:PT X a tA):PW X (.BoolOp .And [a] pos) tA:=by
 intro wh pins s σ H Q I h;refine isTrue_and (thn (ha pins s σ H Q I h) λc s1 e=>?_);cases c with
 |true=>exact isTrue_and_nil e
 |false=>exact e
def cv7(ha:PT X a tA):PW X (.BoolOp .Or [a] pos) tA:=by
 intro wh pins s σ H Q I h;refine isTrue_or (thn (ha pins s σ H Q I h) λc s1 e=>?_);cases c with
 |false=>exact isTrue_or_nil e
 |true=>exact e
def cu8(ha:PT X a tA)(hb:PW X (.BoolOp .And (b::i7) pos) tB'):PW X (.BoolOp .And (a::b::i7) pos) (c63 tA tB'):=by
 intro wh pins s σ H Q I h;refine isTrue_and (thn (ha pins s σ H _ I h) λc s1⟨H1,I1,q1⟩=>?_);cases c with
 |true=>exact hb wh pins s1 σ H1 Q I1 q1
 |false=>exact⟨H1,I1,q1⟩
def c04(ha:PT X a tA)(hb:PW X (.BoolOp .Or (b::i7) pos) tB'):PW X (.BoolOp .Or (a::b::i7) pos) (tOr tA tB'):=by
 intro wh pins s σ H Q I h;refine isTrue_or (thn (ha pins s σ H _ I h) λc s1⟨H1,I1,q1⟩=>?_);cases c with
 |true=>exact⟨H1,I1,q1⟩
 |false=>exact hb wh pins s1 σ H1 Q I1 q1
def cq6(ha:PT X a tA):PT X (.UnaryOp .Not a pos) (c54 tA):=by
 intro pins s σ H Q I h;exact isTrue_not (ha pins s σ H (λc H1=>Q (!c) H1) I h)
abbrev c05(ta tb:TE):TE:=λσ H Q=>ta σ H λx H1=>∃c,x=.bl c/\if c=AC then tb σ H1 Q else Q (.bl AE) H1
abbrev c55(ta tb:TE):TE:=λσ H Q=>ta σ H λx H1=>∃c,x=.bl c/\if c=AC then Q (.bl AC) H1 else tb σ H1 Q
abbrev cx8(ta:TE):TE:=λσ H Q=>ta σ H λx H1=>∃c,x=.bl c/\Q (.bl (!c)) H1
def bc2{op}{t:TE}(h:PE X a t):PE X (.BoolOp op [a] pos) t:=λpins s σ H Q I hw=>BoolOp_one (h pins s σ H Q I hw)
def cs4(ha:PE X a ta)(hb:PE X (.BoolOp .And (b::i7) pos) tb):PE X (.BoolOp .And (a::b::i7) pos) (c05 ta tb):=by
 intro pins s σ H Q I h;refine BoolOp_and (thn (ha pins s σ H _ I h) λv s1 z6=>?_);obtain⟨x,H1,I1,r1,q1⟩:=z6;obtain⟨c,rfl,q1⟩:=q1;cases r1;refine CG ?_;cases c with
 |true=>exact hb pins s1 σ H1 Q I1 q1
 |false=>exact⟨.bl AE,H1,I1,rfl,q1⟩
def cz5(ha:PE X a ta)(hb:PE X (.BoolOp .Or (b::i7) pos) tb):PE X (.BoolOp .Or (a::b::i7) pos) (c55 ta tb):=by
 intro pins s σ H Q I h;refine BoolOp_or (thn (ha pins s σ H _ I h) λv s1 z7=>?_);obtain⟨x,H1,I1,r1,q1⟩:=z7;obtain⟨c,rfl,q1⟩:=q1;cases r1;refine CG ?_;cases c with
 |false=>exact hb pins s1 σ H1 Q I1 q1
 |true=>exact⟨.bl AC,H1,I1,rfl,q1⟩
def cp1(ha:PE X a ta):PE X (.UnaryOp .Not a pos) (cx8 ta):=by
 intro pins s σ H Q I h;refine UnaryOp_ (thn (ha pins s σ H _ I h) λv s1 z8=>?_);obtain⟨x,H1,I1,r1,q1⟩:=z8;obtain⟨c,rfl,q1⟩:=q1;cases r1;exact not_of (CG ⟨.bl (!c),H1,I1,rfl,q1⟩)
abbrev tIf(t:TT)(ta tb:TE):TE:=λσ H Q=>t σ H λc H1=>if c=AC then ta σ H1 Q else tb σ H1 Q
def b82{c:AQ}(hc:PT X c tA)(ha:PE X a ta)(hb:PE X b tb):PE X (.IfExp c a b pos) (tIf tA ta tb):=by
 intro pins s σ H Q I h;refine wpAny_IfExp (thn (hc pins s σ H _ I h) λd s1⟨H1,I1,q1⟩=>?_);cases d with
 |true=>exact ha pins s1 σ H1 Q I1 q1
 |false=>exact hb pins s1 σ H1 Q I1 q1
end
end L2
namespace L2
open PySem PySem.Spec PyProof.Rows
variable{u:AG}{X:Cx}{pins:List (AI×Obj)}{σ:St}{H:Hp}{s:AK}{e tg:AQ}{te:TE}{pos:Pos}{P:Aj}
abbrev SqL(K:AO)(H:Hp)(a:AI)(xs:List V):Prop:=
 Rd H a (.lst xs)\/
  ∃(o:Obj)(its:Array AG)(n:Nat),K.lookup a=AA o/\o.cls=.type "list"/\o.dict=AD/\o.data=.seq its n/\its.size<=sizeLine/\f7 xs its.toList
abbrev SqT(K:AO)(H:Hp)(a:AI)(xs:List V):Prop:=
 Rd H a (.tup xs)\/
  ∃(o:Obj)(its:Array AG)(n:Nat),K.lookup a=AA o/\o.cls=.type "tuple"/\o.dict=AD/\o.data=.seq its n/\its.size<=sizeLine/\f7 xs its.toList
abbrev c60:AG->Option V
 |.none=>AA .non
 |.bool b=>AA (.bl b)
 |.int i _=>AA (.int i)
 |.str x _=>AA (.str x)
 |.bytes b _=>AA (.byt b)
 |.float b _=>AA (.flt b)
 |.ref a=>AA (.ref a)
 |.type n=>AA (.ty n)
 |_=>AD
def f8.abs{x:V}(r:f8 x u):c60 u=AA x:=by
 cases x with
 |non=>cases r;rfl
 |bl _=>cases r;rfl
 |int _=>obtain⟨t,rfl⟩:=r;rfl
 |str _=>obtain⟨t,rfl⟩:=r;rfl
 |byt _=>obtain⟨t,rfl⟩:=r;rfl
 |flt _=>obtain⟨t,rfl⟩:=r;rfl
 |ref _=>cases r;rfl
 |ty _=>cases r;rfl
theorem f8.inj{x y:V}(r:f8 x u)(q:f8 y u):x=y:=As (r.abs.symm.trans q.abs)
theorem f7.inj:∀{xs ys:List V}{us:List AG},f7 xs us->f7 ys us->xs=ys
 |_,_,_,.nil,.nil=>rfl
 |_,_,_,.cons r t,.cons r' t'=>by rw[r.inj r',f7.inj t t']
section
variable {a:AI} {xs ys:List V}
def Inv.list(I:Inv X pins σ H s)(h:SqL X.K H a xs):∃its:List AG,f7 xs its/\PlainL s.heap a its.toArray/\xs.length<=sizeLine:=by
 rcases h with h|⟨o,its,n,hk,hc,hd,hs,hz,r⟩
 ·obtain⟨z,its,n,r,e⟩:=h.ok I.hok;exact⟨its,r,⟨_,n,e,rfl,rfl,rfl⟩,z⟩
 ·refine⟨its.toList,r,⟨o,n,I.kIn a o hk,hc,hd,by simpa using hs⟩,?_⟩;have e:=r.length;simp only[Ec]at e;lia
def Inv.tupleD(I:Inv X pins σ H s)(h:SqT X.K H a xs):∃its:List AG,f7 xs its/\D3 s.heap a its.toArray/\xs.length<=sizeLine:=by
 rcases h with h|⟨o,its,n,hk,hc,hdn,hs,hz,r⟩
 ·obtain⟨z,its,r,p⟩:=h.ok I.hok;exact⟨its,r,p,z⟩
 ·refine⟨its.toList,r,⟨o,I.kIn a o hk,hc,hdn,n,by simpa using hs⟩,?_⟩;have e:=r.length;simp only[Ec]at e;lia
def Inv.tuple(I:Inv X pins σ H s)(h:SqT X.K H a xs):∃its:List AG,f7 xs its/\Gw s.heap a its.toArray/\xs.length<=sizeLine:=by
 obtain⟨its,r,p,z⟩:=I.tupleD h;exact⟨its,r,p.tup,z⟩
def Inv.list_inj(I:Inv X pins σ H s)(h:SqL X.K H a xs)(h':SqL X.K H a ys):xs=ys:=by
 obtain⟨its,r,⟨o,n,e,_,_,d⟩,_⟩:=I.list h;obtain⟨its',r',⟨o',n',e',_,_,d'⟩,_⟩:=I.list h';rw[e]at e';cases e';rw[d]at d';injection d' with d1 _
 have:its=its':=by simpa using congrArg Iu d1
 subst this;exact r.inj r'
def Inv.tuple_inj(I:Inv X pins σ H s)(h:SqT X.K H a xs)(h':SqT X.K H a ys):xs=ys:=by
 obtain⟨its,r,⟨o,e,_,n,d⟩,_⟩:=I.tuple h;obtain⟨its',r',⟨o',e',_,n',d'⟩,_⟩:=I.tuple h';rw[e]at e';cases e';rw[d]at d';injection d' with d1 _
 have:its=its':=by simpa using congrArg Iu d1
 subst this;exact r.inj r'
end
section
variable {st:BQ} {i7:List BQ} {t u:TS} 
abbrev bo0:TS:=λD σ H=>D.nx σ H
abbrev c50(t u:TS):TS:=λD σ H=>t {D with nx:=u D} σ H
def cj8:PSs X [] bo0:=λ_ _ σ H _ I h=>Ge ⟨σ,H,I,h⟩
def b90(h1:PS X st t)(h2:PSs X i7 u):PSs X (st::i7) (c50 t u):=by
 intro pins s σ H D I h;refine JZ (thn (h1 pins s σ H {D with nx:=u D} I h) λf s1 q=>?_);cases f with
 |next=>
  obtain⟨σ',H',I',q⟩:=q;exact h2 pins s1 σ' H' D I' q
 |ret v=>exact q
 |brk=>exact q
 |cont=>exact q
abbrev cx6:TS:=λD σ H=>D.ct σ H
def ck4:PS X (.Pass pos) bo0:=λ_ _ σ H _ I h=>wpAny_Pass ⟨σ,H,I,h⟩
def by8:PS X (.Continue pos) cx6:=λ_ _ σ H _ I h=>wpAny_Continue ⟨σ,H,I,h⟩
def Inv.quiet(I:Inv X pins σ H s):interactive X.env=AE:=by simp[interactive,I.ok.kind]
abbrev cz6(te:TE):TS:=λD σ H=>te σ H λ_ H1=>D.nx σ H1
def cj5(he:PE X e te)(hs:CO e AD pos.line X.env=pure AE:=by rfl):PS X (.Expr e pos) (cz6 te):=by
 intro pins s σ H D I h;exact wpAny_Expr_any (thn (he pins s σ H _ I h) λv s1⟨x,H1,I1,r1,q1⟩=>⟨σ,H1,I1,q1⟩) I.quiet hs
abbrev c40(te:TE):TS:=λD σ H=>te σ H D.rt
def cs6(he:PE X e te):PS X (.Return (AA e) pos) (c40 te):=by
 intro pins s σ H D I h;exact wpAny_Return_some (thn (he pins s σ H _ I h) λv s1⟨x,H1,I1,r1,q1⟩=>⟨x,σ,H1,I1,r1,q1⟩)
abbrev c28:TS:=λD _ H=>D.rt .non H
def cl4:PS X (.Return AD pos) c28:=λ_ _ σ H _ I h=>wpAny_Return_none ⟨.non,σ,H,I,rfl,h⟩
abbrev c51(c:TT)(t u:TS):TS:=λD σ H=>c σ H λb H1=>if b=AC then t D σ H1 else u D σ H1
def c21{c:AQ}{a b:List BQ}{tc:TT}(hc:PT X c tc)(ha:PSs X a t)(hb:PSs X b u):PS X (.If c a b pos) (c51 tc t u):=by
 intro pins s σ H D I h;refine wpAny_If (thn (hc pins s σ H _ I h) λd s1⟨H1,I1,q1⟩=>?_);cases d with
 |true=>exact ha pins s1 σ H1 D I1 q1
 |false=>exact hb pins s1 σ H1 D I1 q1
end
@[reducible]noncomputable def TG:=V->St->Hp->(St->Hp->Prop)->Prop
@[reducible]noncomputable def TGs:=List V->St->Hp->(St->Hp->Prop)->Prop
abbrev PG(X:Cx)(target:AQ)(t:TG):Prop:=
 ∀(pins:List (AI×Obj))(s:AK)(σ:St)(H:Hp)(v:V)(u:AG)(Q:St->Hp->Prop),Inv X pins σ H s->f8 v u->t v σ H Q ->
  AU (model X.prog X.w) X.A (assign target X.env u) (λ_ s'=>∃σ' H',Inv X pins σ' H' s'/\Q σ' H') X.xe s
abbrev PGs(X:Cx)(ts:List AQ)(t:TGs):Prop:=
 ∀(pins:List (AI×Obj))(s:AK)(σ:St)(H:Hp)(vs:List V)(us:List AG)(Q:St->Hp->Prop),Inv X pins σ H s->f7 vs us->t vs σ H Q ->
  AU (model X.prog X.w) X.A (assignInOrder ((By ts X.env).map (·.2)) us) (λ_ s'=>∃σ' H',Inv X pins σ' H' s'/\Q σ' H') X.xe s
@[reducible]noncomputable def aq3:=V->V->V->Hp->(Hp->Prop)->Prop
abbrev bs2(X:Cx)(t:aq3):Prop:=
 ∀(pins:List (AI×Obj))(s:AK)(σ:St)(H:Hp)(o i v:V)(ov iv u:AG)(Q:Hp->Prop),Inv X pins σ H s->f8 o ov->f8 i iv->f8 v u->t o i v H Q ->
  AU (model X.prog X.w) X.A (JH ov iv u) (λ_ s'=>∃H',Inv X pins σ H' s'/\Q H') X.xe s
section
abbrev an8(i:Nat):TG:=λv σ H Q=>Q (σ.set i (AA v)) H
def a70{i:Nat}{x:Str}(hN:X.N.Nodup)(hi:X.N[i]?=AA x)(hx:Loc X.env.scope x)(hf:X.fn x=AC\/X.env.scope.names.lookup x=AA .local:=by first|exact .inl rfl|exact .inr rfl|assumption):PG X (.Name x pos) (an8 i):=by
 intro pins s σ H v u Q I r h;exact JI (Y8 I hN hi hx r (λs' I'=>⟨_,H,I',h⟩) hf)
abbrev bu4:TGs:=λvs σ H Q=>vs=[]/\Q σ H
abbrev bq9(t:TG)(u:TGs):TGs:=λvs σ H Q=>∃v r,vs=v::r/\t v σ H λσ' H'=>u r σ' H' Q
def cl6:PGs X [] bu4:=by
 intro pins s σ H vs us Q I r h;obtain⟨e,h⟩:=h;subst e;cases r;exact assignInOrder_nil ⟨σ,H,I,h⟩
def b89{es:List AQ}{t:TG}{u:TGs}(h1:PG X e t)(h2:PGs X es u)
  (hs:(By (e::es) X.env).map (·.2)=assign e X.env::(By es X.env).map (·.2):=by rfl):PGs X (e::es) (bq9 t u):=by
 intro pins s σ H vs us Q I r h;obtain⟨v,vr,e1,h⟩:=h;subst e1;cases r with
 |cons r rr=>
  rw[hs];refine assignInOrder_cons (thn (h1 pins s σ H _ _ _ I r h) λ_ s1 z9=>?_);obtain⟨σ1,H1,I1,q1⟩:=z9;exact h2 pins s1 σ1 H1 _ _ Q I1 rr q1
abbrev c43(K:AO)(n:Nat)(t:TGs):TG:=λv σ H Q=>∃a xs,v=.ref a/\SqT K H a xs/\xs.length=n/\t xs σ H Q
def cr5{es:List AQ}{k:Nat}{t:TGs}{n:Nat}(hc:X.calm=AC)(h:PGs X es t)
  (hn:(By es X.env).length=n:=by rfl) (hst:(By es X.env).findIdx? (·.1)=AD:=by rfl):PG X (.Tuple es k pos) (c43 X.K n t):=by
 intro pins s σ H v u Q I r hw;obtain⟨a,xs,e1,hq,hl,hw⟩:=hw;subst e1;cases r;obtain⟨its,rv,ht,hz⟩:=I.tuple hq;refine assign_Tuple_tuple (I.ok.hd hc) ht (by simp[hn,<-hl,rv.length]) hst λh' hx=>?_;have I1:Inv X pins σ H {s with heap:=h'}:=I.kept (t':=s.toks) λb o e=>hx b o (BS (BD e)) e;exact h pins _ σ H xs _ Q I1 (by simpa using rv) hw
abbrev c45(to ti:TE)(t:aq3):TG:=λv σ H Q=>to σ H λo H1=>ti σ H1 λi H2=>t o i v H2 λH3=>Q σ H3
def cv3{o i:AQ}{to ti:TE}{t:aq3}(ho:PE X o to)(hi:PE X i ti)(hs:bs2 X t)
  (ha:∀v,assign (.Subscript o i pos) X.env v=(do
   let ov <-holding [v] (eval o X.env)
   let iv <-holding [v,ov] (eval i X.env)
   Gj pos
   holding [v,ov,iv] (JH ov iv v)
   release [v,ov,iv] []):=by intro _;rfl):PG X (.Subscript o i pos) (c45 to ti t):=by
 intro pins s σ H v u Q I r h;rw[ha];refine AF (CZ (thn (ho pins s σ H _ I h) λov s1 z10=>?_));obtain⟨x,H1,I1,r1,q1⟩:=z10;refine AF (CZ (thn (hi pins s1 σ H1 _ I1 q1) λiv s2 z11=>?_));obtain⟨y,H2,I2,r2,q2⟩:=z11;refine AF (HQ (AF (CZ (thn (hs pins s2 σ H2 x y v ov iv u _ I2 r1 r2 r q2) λ_ s3⟨H3,I3,q3⟩=>?_))));exact wpAny_release ⟨σ,H3,I3,q3⟩
abbrev br4(te:TE)(g:TG):TS:=λD σ H=>te σ H λx H1=>g x σ H1 D.nx
def cn1{g:TG}(he:PE X e te)(hg:PG X tg g)(hs:Fg [tg] e pos.line X.env=pure AE:=by rfl)(hw:swappedStores [tg] e X.env=pure AD:=by rfl)
  (h1:(By [tg] X.env).map (·.2)=[assign tg X.env]:=by rfl):PS X (.Assign [tg] e pos) (br4 te g):=by
 intro pins s σ H D I h;refine wpAny_Assign_stores (thn (he pins s σ H _ I h) λv s1 z12=>?_) hs hw;obtain⟨x,H1,I1,r1,q1⟩:=z12;rw[h1];exact thn (hg pins s1 σ H1 x v _ I1 r1 q1) λ_ s2 q=>q
def cm7{i:Nat}{x:Str}{pos':Pos}(hN:X.N.Nodup)(hi:X.N[i]?=AA x)(hx:Loc X.env.scope x)(he:PE X e te)(hs:CO e (AA (.Name x pos')) pos.line X.env=pure AE:=by rfl)(hf:X.fn x=AC\/X.env.scope.names.lookup x=AA .local:=by first|exact .inl rfl|exact .inr rfl|assumption):
  PS X (.Assign [.Name x pos'] e pos) (br4 te (an8 i)):=by
 intro pins s σ H D I h;refine wpAny_Assign_Name (thn (he pins s σ H _ I h) λv s1 z13=>?_) hs;obtain⟨y,H1,I1,r1,q1⟩:=z13;exact Y8 I1 hN hi hx r1 (λs2 I2=>⟨_,H1,I2,q1⟩) hf
end
section
abbrev cr8(c:TT)(tb:TS):TS:=λD σ H=>∃W:Nat->St->Hp->Prop,(∃m,W m σ H)/\∀m σ H,W m σ H ->
 c σ H λb H1=>if b=AC then ∃N:St->Hp->Prop,(∀σ' H',N σ' H'->∃m',m'<m/\W m' σ' H')/\tb {D with nx:=N,ct:=N,bk:=D.nx} σ H1 else D.nx σ H1
def b65{c:AQ}{body:List BQ}{tc:TT}{tb:TS}(hp:GO (model X.prog X.w) X.A X.env X.xe)(hc:PT X c tc)(hb:PSs X body tb):PS X (.While c body [] pos) (cr8 tc tb):=by
 intro pins s σ H D I h;obtain⟨W,⟨m0,w0⟩,turn⟩:=h;refine wpAny_While (codeAny_whileLoop (λn s'=>∃σ' H',Inv X pins σ' H' s'/\W n σ' H') ?_ m0 ⟨σ,H,I,w0⟩);rintro n s1 ⟨σ1,H1,I1,w1⟩;refine CW hp (thn (hc pins s1 σ1 H1 _ I1 (turn n σ1 H1 w1)) λb s2⟨H2,I2,q2⟩=>?_);cases b with
 |true=>
  obtain⟨N,hN,q2⟩:=q2;rw[if_pos rfl];refine CW hp (thn (hb pins s2 σ1 H2 _ I2 q2) λf s3 q3=>?_);cases f with
  |next=>
   obtain⟨σ3,H3,I3,n3⟩:=q3;obtain⟨m',hm,w3⟩:=hN σ3 H3 n3;exact⟨m',hm,σ3,H3,I3,w3⟩
  |cont=>
   obtain⟨σ3,H3,I3,n3⟩:=q3;obtain⟨m',hm,w3⟩:=hN σ3 H3 n3;exact⟨m',hm,σ3,H3,I3,w3⟩
  |brk=>exact q3
  |ret v=>exact q3
 |false=>
  rw[if_neg AH];exact Ge ⟨σ1,H2,I2,q2⟩
end
structure It where
 go:Nat->Hp->Prop
 yld:Nat->Hp->V->Hp->Prop
 stop:Nat->Hp->Prop
abbrev A4(X:Cx)(pins:List (AI×Obj))(H:Hp)(b:AI):Prop:=
 H b=AD/\b≠X.env.locals/\b∉X.fs/\(b∈X.ex\/X.s₀.heap.objs.size<=b)/\(∀x c,X.env.cells.lookup x=AA c->c≠b)/\∀p∈X.pn++pins,p.1≠b
def Inv.fpOk{H':Hp}{b:AI}(I:Inv X pins σ H s)(hb:s.heap.objs.size<=b)(hn:H' b=AD):A4 X pins H' b:=by
 refine⟨hn,Ja (An I.lt hb),I.nofs hb,.inr (BC I.sz hb),λx c e z=>?_,λp hp z=>?_⟩
 ·obtain⟨v,q⟩:=I.cell x c e;exact absurd (An q.lt (by rw[z];exact hb)) (Cv _)
 ·exact absurd (An (BD (I.pin p hp).1) (by rw[z];exact hb)) (Cv _)
structure Turn(P:Aj)(w:BB)(K:AO)(tg:AQ)(J:It)(fp:List AI)(it:AI)(tn:Nat->BI->Prop):Prop where
 mem:it∈fp
 obj:∀i h,tn i h->∀b∈fp,∃o,h.get? b=AA o/\∀v,o.data≠.cell v
 keep:∀i h h',tn i h->(∀b∈fp,∀o,h.get? b=AA o->h'.get? b=AA o)->tn i h'
 item:∀(X:Cx),X.prog=P->X.w=w->X.K=K->X.calm=AC->∀(i:Nat)(pins:List (AI×Obj))(s:AK)(σ:St)(H:Hp)(E:AG->AK->Prop),Inv X pins σ H s->(∀b∈fp,A4 X pins H b)->tn i s.heap->J.go i H ->
  AU (model P w) X.A (Gz (.ref it)) (λr s1=>∃u,r=AA u /\
   AU (model P w) X.A (El tg (.ref it) u) (λ_ s2=>∃x H',Inv X pins σ H' s2/\f8 x u/\J.yld i H x H'/\tn (i+1) s2.heap/\∀b∈fp,H' b=AD) E s1) E s
 done:∀(X:Cx),X.prog=P->X.w=w->X.K=K->X.calm=AC->∀(i:Nat)(pins:List (AI×Obj))(s:AK)(σ:St)(H:Hp)(E:AG->AK->Prop),Inv X pins σ H s->(∀b∈fp,A4 X pins H b)->tn i s.heap->J.stop i H ->
  AU (model P w) X.A (Gz (.ref it)) (λr s1=>r=AD/\Inv X pins σ H s1) E s
 self:∀(A:BP)(i:Nat)(s:AK)(Q:AG->AK->Prop)(E:AG->AK->Prop),tn i s.heap->Q (.ref it) s->AU (model P w) A (Hk (.ref it)) Q E s
@[reducible]noncomputable def TI:=St->Hp->(It->Hp->Prop)->Prop
abbrev PIE(X:Cx)(pins:List (AI×Obj))(σ:St)(tg:AQ)(R:It->Hp->Prop)(itv:AG)(s2:AK):Prop:=
 ∃(it:AI)(fp:List AI)(tn:Nat->BI->Prop)(J:It)(H':Hp),itv=.ref it/\Inv X pins σ H' s2/\Turn X.prog X.w X.K tg J fp it tn/\tn 0 s2.heap/\(∀b∈fp,A4 X pins H' b)/\R J H'
abbrev PI(X:Cx)(tg iter:AQ)(wi:TI):Prop:=
 ∀(pins:List (AI×Obj))(s:AK)(σ:St)(H:Hp)(R:It->Hp->Prop),Inv X pins σ H s->wi σ H R ->
  AU (model X.prog X.w) X.A (eval iter X.env) (λv s1=>AU (model X.prog X.w) X.A (Hk v) (PIE X pins σ tg R) X.xe s1) X.xe s
def W4{M:Model}{A:BP}{E:AG->AK->Prop}{it:AI}{o:Obj}{n:String}{vs:Array AG}{Q:Unit->AK->Prop}(ho:s.heap.get? it=AA o)(hc:o.cls=.type n)(hd:o.data=.fields vs)
  (hn:["enumerate","zip","dict_itemiterator","dict_reverseitemiterator","odict_iterator","itertools.zip_longest","itertools.pairwise"].contains n=AE) (hQ:Q () s):AU M A (El tg (.ref it) u) Q E s:=by
 unfold El;cases tg<;>first
  |exact AM hQ
  | (cases u <;> first
    |exact AM hQ
    | (refine AF (wpAny_load ho ?_)
       rw[hc,hd];show AU M A (if(["enumerate","zip","dict_itemiterator","dict_reverseitemiterator","odict_iterator","itertools.zip_longest","itertools.pairwise"].contains n&&vs[0]?==AA (Ed _))=AC then _ else _) Q E s;rw[if_neg (by intro h;rw[hn,Bool.false_and]at h;cases h)];exact AM hQ))
abbrev Itl(K:AO)(a:AI):It:=
 ⟨λi H=>∃xs x,SqL K H a xs/\xs[i]?=AA x,λi H x H'=>H'=H/\∀xs,SqL K H a xs->xs[i]?=AA x,λi H=>∃xs,SqL K H a xs/\xs.length<=i⟩
abbrev Itt(K:AO)(a:AI):It:=
 ⟨λi H=>∃xs x,SqT K H a xs/\xs[i]?=AA x,λi H x H'=>H'=H/\∀xs,SqT K H a xs->xs[i]?=AA x,λi H=>∃xs,SqT K H a xs/\xs.length<=i⟩
abbrev Itr(lo:Int)(n:Nat):It:=⟨λi _=>i<n,λi H x H'=>H'=H/\x=.int (lo+i),λi _=>n<=i⟩
def b20{w:BB}{K:AO}(a it:AI):Turn P w K tg (Itl K a) [it] it (λi h=>h.IsListIter it a i) where
 mem:=by simp
 obj:=λi h st b hb=>by
  have e:b=it:=by simpa using hb
  subst e;obtain⟨o,e,c,d⟩:=st;exact⟨o,e,λv z=>by rw[d]at z;cases z⟩
 keep:=λi h h' st k=>st.at λo e=>k it ∎ o e
 item:=by
  intro X hP hw hK hc i pins s σ H E I hf st hg;subst hP hw hK;obtain⟨xs,x,hq,hx⟩:=hg;obtain⟨its,rv,p,hz⟩:=I.list hq;obtain⟨u,hu,ru⟩:=rv.get hx;obtain⟨f0,f1,f2,f3,f4,f5⟩:=hf it ∎;refine wpAny_pyNext_list_item st p.isList (x:=u) (by simpa using hu) λh' st' sb=>?_;have I1:Inv X pins σ H {s with heap:=h'}:=I.turned (t':=s.toks) (λb o hb e=>(sb.2 b hb).trans e) f0 f1 f3 f4 f5;obtain⟨o,e,c,d⟩:=id st';exact⟨u,rfl,W4 (s:={s with heap:=h'}) e c d ∅ ⟨x,H,I1,ru,⟨rfl,λys hy=>by rw[I.list_inj hy hq];exact hx⟩,st',λb hb=>(hf b hb).1⟩⟩
 done:=by
  intro X hP hw hK hc i pins s σ H E I hf st hg;subst hP hw hK;obtain⟨xs,hq,hx⟩:=hg;obtain⟨its,rv,p,hz⟩:=I.list hq;obtain⟨f0,f1,f2,f3,f4,f5⟩:=hf it ∎;have hl:=rv.length;exact wpAny_pyNext_list_end (I.ok.hd hc) st p.isList (by simp;lia) λh' eb=>⟨rfl,I.turned (t':=s.toks) (λb o hb e=>eb b o hb e) f0 f1 f3 f4 f5⟩
 self:=λ_ _ _ _ _ st h=>wpAny_pyIter_listiter st h
def b04{w:BB}{K:AO}(a it:AI):Turn P w K tg (Itt K a) [it] it (λi h=>h.IsTupleIter it a i) where
 mem:=by simp
 obj:=λi h st b hb=>by
  have e:b=it:=by simpa using hb
  subst e;obtain⟨o,e,c,d⟩:=st;exact⟨o,e,λv z=>by rw[d]at z;cases z⟩
 keep:=λi h h' st k=>st.at λo e=>k it ∎ o e
 item:=by
  intro X hP hw hK hc i pins s σ H E I hf st hg;subst hP hw hK;obtain⟨xs,x,hq,hx⟩:=hg;obtain⟨its,rv,p,hz⟩:=I.tuple hq;obtain⟨u,hu,ru⟩:=rv.get hx;obtain⟨f0,f1,f2,f3,f4,f5⟩:=hf it ∎;refine wpAny_pyNext_tuple_item st (show s.heap.IsTuple a its.toArray from p) (x:=u) (by simpa using hu) λh' st' sb=>?_;have I1:Inv X pins σ H {s with heap:=h'}:=I.turned (t':=s.toks) (λb o hb e=>(sb.2 b hb).trans e) f0 f1 f3 f4 f5;obtain⟨o,e,c,d⟩:=id st';exact⟨u,rfl,W4 (s:={s with heap:=h'}) e c d ∅ ⟨x,H,I1,ru,⟨rfl,λys hy=>by rw[I.tuple_inj hy hq];exact hx⟩,st',λb hb=>(hf b hb).1⟩⟩
 done:=by
  intro X hP hw hK hc i pins s σ H E I hf st hg;subst hP hw hK;obtain⟨xs,hq,hx⟩:=hg;obtain⟨its,rv,p,hz⟩:=I.tuple hq;obtain⟨f0,f1,f2,f3,f4,f5⟩:=hf it ∎;have hl:=rv.length;exact wpAny_pyNext_tuple_end (I.ok.hd hc) st (show s.heap.IsTuple a its.toArray from p) (by simp;lia) λh' eb=>⟨rfl,I.turned (t':=s.toks) (λb o hb e=>eb b o hb e) f0 f1 f3 f4 f5⟩
 self:=λ_ _ _ _ _ st h=>wpAny_pyIter_tupleiter st h
def b03{w:BB}{K:AO}(it:AI)(lo:Int)(n:Nat):Turn P w K tg (Itr lo n) [it] it (λi h=>IsRangeIter h it (lo+(i:Nat)*1) ((n:Int)-(i:Nat)) 1) where
 mem:=by simp
 obj:=λi h st b hb=>by
  have e:b=it:=by simpa using hb
  subst e;exact⟨_,st,λv z=>by
   have z':Data.fields _=Data.cell v:=z;cases z'⟩
 keep:=λi h h' st k=>k it ∎ _ st
 item:=by
  intro X hP hw hK hc i pins s σ H E I hf st hg;subst hP hw hK;obtain⟨f0,f1,f2,f3,f4,f5⟩:=hf it ∎;have W:=Walks.range (prog:=X.prog) (w:=X.w) (I.ok.hd hc) it lo 1 n;refine W.item i s _ _ hg st λv h' tk hv st' kk=>?_;obtain⟨t,rfl⟩:=hv;have I1:Inv X pins σ H {s with heap:=h',toks:=tk}:=I.turned (λb o hb e=>kk b o (by simpa using hb) e) f0 f1 f3 f4 f5;refine⟨_,rfl,W4 (s:={s with heap:=h',toks:=tk}) (n:="range_iterator") st' rfl rfl ∅ ⟨.int (lo+i),H,I1,⟨t,?_⟩,⟨rfl,rfl⟩,st',λb hb=>(hf b hb).1⟩⟩;rw[Int.mul_one]
 done:=by
  intro X hP hw hK hc i pins s σ H E I hf st hg;subst hP hw hK;obtain⟨f0,f1,f2,f3,f4,f5⟩:=hf it ∎;exact wpAny_pyNext_range_end (I.ok.hd hc) st (by have:n<=i:=hg;lia) λh' eb=>⟨rfl,I.turned (t':=s.toks) (λb o hb e=>eb b o hb e) f0 f1 f3 f4 f5⟩
 self:=λ_ _ _ _ _ st h=>wpAny_pyIter_rangeiter st h
end L2
namespace L2
open PySem PySem.Spec PyProof.Rows
variable{pins:List (AI×Obj)}{σ:St}{H:Hp}{s:AK}{fp:List AI}
section
variable {X:Cx} {tg:AQ}
def ax8{R:It->Hp->Prop}{E:AG->AK->Prop}{lo hi:Int}{t u v:Tok}{tk:Nat}(I:Inv X pins σ H s)(h1:-(2^62)<=lo)(h2:lo<2^62)(h3:-(2^62)<=hi)(h4:hi<2^62)
  (q:R (Itr lo (hi-lo).toNat) H):AU (model X.prog X.w) X.A (Hk (.ref s.heap.objs.size)) (PIE X pins σ tg R) E {s with heap:=s.heap.push {cls:=.type "range",data:=.fields #[.int lo t,.int hi u,.int 1 v]},toks:=tk}:=by
 refine wpAny_pyIter_range (IsRange.new ..) (small_one h1 h2 h3 h4) ?_;have I1:Inv X pins σ H {s with heap:=s.heap.push {cls:=.type "range",data:=.fields #[.int lo t,.int hi u,.int 1 v]},toks:=tk}:=I.kept λb o e=>AS _ e;refine⟨(s.heap.push {cls:=.type "range",data:=.fields #[.int lo t,.int hi u,.int 1 v]}).objs.size,[(s.heap.push {cls:=.type "range",data:=.fields #[.int lo t,.int hi u,.int 1 v]}).objs.size],_,_,H,rfl,
  I1.kept (t':=tk) λb o e=>AS _ e,b03 _ lo (hi-lo).toNat,?_,λb hb=>?_,q⟩
 ·have e1:lo+((0:Nat):Int)*1=lo:=by simp
  have e2:(((hi-lo).toNat:Nat):Int)-((0:Nat):Int)=Jb lo hi 1:=by rw[rangeSize_one];split<;>lia
  show IsRangeIter _ _ (lo+((0:Nat):Int)*1) ((((hi-lo).toNat:Nat):Int)-((0:Nat):Int)) 1;rw[e1,e2];exact Aq _ rfl
 ·have e:b=(s.heap.push {cls:=.type "range",data:=.fields #[.int lo t,.int hi u,.int 1 v]}).objs.size:=by simpa using hb
  subst e;exact I1.fpOk (AY _) (I1.hok.fresh (AY _))
abbrev cz0(ta:TA):TI:=λσ H R=>ta σ H λvs H1=>∃j:Int,vs=[.int j]/\-(2^62)<=j/\j<2^62/\R (Itr 0 j.toNat) H1
abbrev c01(ta:TA):TI:=λσ H R=>ta σ H λvs H1=>∃i j:Int,vs=[.int i,.int j]/\(-(2^62)<=i/\i<2^62/\-(2^62)<=j/\j<2^62)/\R (Itr i (j-i).toNat) H1
def b16{a:AQ}{ta:TA}{p pos:Pos}(hg:Gl X "range")(hm:X.mg "range"=AD)(ha:PA X [a] ta)(hs:Am [a] X.env=[(AE,eval a X.env)]:=by rfl):PI X tg (.Call (.Name "range" p) [a] [] pos) (cz0 ta):=by
 intro pins s σ H R I h;refine KC (L5 I hg hm boot_range (BY (thn (ha pos pins s σ H _ I h) λus s1 z14=>?_) hs rfl));obtain⟨vs,H1,I1,r1,q1⟩:=z14;obtain⟨j,e,q1,q2,q⟩:=q1;subst e;cases r1 with
 |cons r rr=>
  cases rr;obtain⟨t,rfl⟩:=r;exact call_range_1 (ax8 I1 ⋯ ⋯ q1 q2 (by simpa using q))
def b26{a b:AQ}{ta:TA}{p pos:Pos}(hg:Gl X "range")(hm:X.mg "range"=AD)(ha:PA X [a,b] ta)(hs:Am [a,b] X.env=[(AE,eval a X.env),(AE,eval b X.env)]:=by rfl)(hs2:Am [b] X.env=[(AE,eval b X.env)]:=by rfl):
  PI X tg (.Call (.Name "range" p) [a,b] [] pos) (c01 ta):=by
 intro pins s σ H R I h;refine KC (L5 I hg hm boot_range (BY (thn (ha pos pins s σ H _ I h) λus s1 z15=>?_) (by rw[hs,hs2]) (by rw[hs2];rfl)));obtain⟨vs,H1,I1,r1,q1⟩:=z15;obtain⟨i,j,e,⟨q1,q2,q3,q4⟩,q⟩:=q1;subst e;cases r1 with
 |cons r rr=>
  cases rr with
  |cons r' rr=>
   cases rr;obtain⟨t,rfl⟩:=r;obtain⟨t',rfl⟩:=r';exact call_range_2 (ax8 I1 q1 q2 q3 q4 q)
abbrev c52(wi:TI)(g:TG)(tb:TS):TS:=λD σ H=>wi σ H λJ H1=>∃W:Nat->Nat->St->Hp->Prop,(∃m,W 0 m σ H1)/\∀i m σ H,W i m σ H ->
 (J.stop i H/\D.nx σ H)\/(J.go i H/\∃N:St->Hp->Prop,(∀σ' H',N σ' H'->∃m',m'<m/\W (i+1) m' σ' H')/\∀x H',J.yld i H x H'->g x σ H' λσ2 H2=>tb {D with nx:=N,ct:=N,bk:=D.nx} σ2 H2)
abbrev V7(fp:List AI)(h:BI):List (AI×Obj):=fp.filterMap λb=>(h.get? b).map λo=>(b,o)
def Y0{h:BI}{b:AI}{o:Obj}(hb:b∈fp)(e:h.get? b=AA o):(b,o)∈V7 fp h:=Hd.mpr ⟨b,hb,by rw[e];rfl⟩
def b45{h:BI}{p:AI×Obj}(hp:p∈V7 fp h):p.1∈fp/\h.get? p.1=AA p.2:=by
 obtain⟨b,hb,e⟩:=Hd.mp hp;cases q:h.get? b with
 |none=>rw[q]at e;cases e
 |some o=>
  rw[q]at e;have e':(b,o)=p:=As e;subst e';exact⟨hb,q⟩
def Inv.pinned(I:Inv X pins σ H s)(hf:∀b∈fp,A4 X pins H b)(ho:∀b∈fp,∃o,s.heap.get? b=AA o/\∀v,o.data≠.cell v):Inv X (pins++V7 fp s.heap) σ H s:=
 I.pins_of λp hp=>(BK.mp hp).elim (λz=>I.pin p (BE _ z)) λz=>by
  obtain⟨hb,e⟩:=b45 z;obtain⟨f0,f1,f2,_⟩:=hf p.1 hb;obtain⟨o,e',d⟩:=ho p.1 hb;rw[e]at e';cases e';exact⟨e,f0,f1,f2,d⟩
def Inv.unpinned{pl:List (AI×Obj)}(I:Inv X (pins++pl) σ H s):Inv X pins σ H s:=I.pins_of λp hp=>I.pin p (BE _ (Db _ hp))
def cu2{iter:AQ}{body:List BQ}{wi:TI}{g:TG}{tb:TS}{pos:Pos}(hp:GO (model X.prog X.w) X.A X.env X.xe)(hc:X.calm=AC)(hi:PI X tg iter wi)(hg:PG X tg g)(hb:PSs X body tb)
  (hs:∀x,DE iter X.env x=pure x:=by intro _;rfl):PS X (.For tg iter body [] pos) (c52 wi g tb):=by
 intro pins s σ H D I h;refine wpAny_For (thn (hi pins s σ H _ I h) λv s1 h1=>thn h1 λitv s2 h2=>?_) hs;obtain⟨it,fp,tn,J,H2,e,I2,T,st2,f2,W,⟨m0,w0⟩,turn⟩:=h2;subst e;have stat:∀{H':Hp},(∀b∈fp,H' b=AD)->∀b∈fp,A4 X pins H' b:=λhn b hb=>⟨hn b hb,(f2 b hb).2⟩;refine codeAny_forLoop_any (λn s'=>∃i σ' H',Inv X pins σ' H' s'/\tn i s'.heap/\(∀b∈fp,H' b=AD)/\W i n σ' H') ?_ m0 ⟨0,σ,H2,I2,st2,λb hb=>(f2 b hb).1,w0⟩;rintro n s3 ⟨i,σ3,H3,I3,st3,fr3,w3⟩
 rcases turn i n σ3 H3 w3 with⟨stop,qn⟩|⟨go,N,hN,step⟩
 ·refine CW hp (thn (T.done X rfl rfl rfl hc i pins s3 σ3 H3 X.xe I3 (stat fr3) st3 stop) λr s4⟨hr,I4⟩=>?_);subst hr;exact Ge ⟨σ3,H3,I4,qn⟩
 ·refine CW hp (thn (T.item X rfl rfl rfl hc i pins s3 σ3 H3 X.xe I3 (stat fr3) st3 go) λr s4⟨u,hr,h4⟩=>?_);subst hr;refine CW hp (thn h4 λ_ s5 z16=>?_);obtain⟨x,H5,I5,r5,y5,st5,fr5⟩:=z16;have I5':=I5.pinned (stat fr5) (T.obj _ _ st5);refine CW hp (thn (hg _ s5 σ3 H5 x u _ I5' r5 (step x H5 y5)) λ_ s6 z17=>?_);obtain⟨σ6,H6,I6,q6⟩:=z17;refine CW hp (thn (hb _ s6 σ6 H6 _ I6 q6) λf s7 q7=>?_);have again:∀{σ7:St}{H7:Hp},Inv X (pins++V7 fp s5.heap) σ7 H7 s7->N σ7 H7->∃m,m<n/\∃i σ' H',Inv X pins σ' H' s7/\tn i s7.heap/\(∀b∈fp,H' b=AD)/\W i m σ' H':=λ{σ7 H7}I7 n7=>by
   obtain⟨m',hm,w7⟩:=hN σ7 H7 n7;refine⟨m',hm,i+1,σ7,H7,I7.unpinned,T.keep _ _ _ st5 λb hb o e=>(I7.pin (b,o) (BE _ (BE _ (Y0 hb e)))).1,λb hb=>?_,w7⟩;obtain⟨o,e,d⟩:=T.obj _ _ st5 b hb;exact(I7.pin (b,o) (BE _ (BE _ (Y0 hb e)))).2.1
  cases f with
  |next=>obtain⟨σ7,H7,I7,n7⟩:=q7;exact again I7 n7
  |cont=>obtain⟨σ7,H7,I7,n7⟩:=q7;exact again I7 n7
  |brk=>obtain⟨σ7,H7,I7,q7⟩:=q7;exact⟨σ7,H7,I7.unpinned,q7⟩
  |ret v=>obtain⟨x7,σ7,H7,I7,r7,q7⟩:=q7;exact⟨x7,σ7,H7,I7.unpinned,r7,q7⟩
end
end L2
namespace L2
open PySem PySem.Spec PyProof.Rows
variable{op:De}
@[reducible]noncomputable def R2:=V->V->Hp->VK->Prop
variable{r:R2}
abbrev OpR(X:Cx)(f:AG->AG->Sem AG)(r:R2):Prop:=
 ∀(pins:List (AI×Obj))(s:AK)(σ:St)(H:Hp)(x y:V)(v u:AG)(Q:VK),Inv X pins σ H s->f8 x v->f8 y u->r x y H Q ->
  AU (model X.prog X.w) X.A (f v u) (EP X pins σ Q) X.xe s
abbrev UnR(X:Cx)(f:AG->Sem AG)(r:V->Hp->VK->Prop):Prop:=
 ∀(pins:List (AI×Obj))(s:AK)(σ:St)(H:Hp)(x:V)(v:AG)(Q:VK),Inv X pins σ H s->f8 x v->r x H Q ->
  AU (model X.prog X.w) X.A (f v) (EP X pins σ Q) X.xe s
abbrev D5(X:Cx)(f:AG)(r:List V->Hp->VK->Prop):Prop:=
 ∀(pins:List (AI×Obj))(s:AK)(σ:St)(H:Hp)(xs:List V)(us:List AG)(Q:VK),Inv X pins σ H s->f7 xs us->r xs H Q ->
  AU (model X.prog X.w) X.A (call f us) (EP X pins σ Q) X.xe s
abbrev tOp(r:R2)(ta tb:TE):TE:=λσ H Q=>ta σ H λx H1=>tb σ H1 λy H2=>r x y H2 Q
abbrev tUn(r:V->Hp->VK->Prop)(ta:TE):TE:=λσ H Q=>ta σ H λx H1=>r x H1 Q
abbrev rI(C:Int->Int->Prop)(g:Int->Int->V):R2:=λx y H Q=>∃i j,x=.int i/\y=.int j/\C i j/\Q (g i j) H
abbrev rI0(g:Int->Int->V):R2:=λx y H Q=>∃i j,x=.int i/\y=.int j/\Q (g i j) H
abbrev rU(g:Int->V):V->Hp->VK->Prop:=λx H Q=>∃i,x=.int i/\Q (g i) H
section
variable {X:Cx} {a b c:AQ} {ta tb tc:TE} {pos:Pos}
def aq2(ha:PE X a ta)(hb:PE X b tb){pins:List (AI×Obj)}{s:AK}{σ:St}{H:Hp}{R:V->V->Hp->Prop}(I:Inv X pins σ H s)
  (h:ta σ H λx H1=>tb σ H1 λy H2=>R x y H2) {Q:AG->AK->Prop} {f:AG->AG->Sem AG}
  (hf:∀v u s2 x y H2,Inv X pins σ H2 s2->f8 x v->f8 y u->R x y H2->AU (model X.prog X.w) X.A (f v u) Q X.xe s2) :
  AU (model X.prog X.w) X.A (eval a X.env) (λv s₁=>AU (model X.prog X.w) X.A (eval b X.env) (λu s₂=>AU (model X.prog X.w) X.A (f v u) Q X.xe s₂) X.xe s₁) X.xe s:=by
 refine thn (ha pins s σ H _ I h) λv s1 z18=>?_;obtain⟨x,H1,I1,r1,q1⟩:=z18;refine thn (hb pins s1 σ H1 _ I1 q1) λu s2 z19=>?_;obtain⟨y,H2,I2,r2,q2⟩:=z19;exact hf v u s2 x y H2 I2 r1 r2 q2
def O4{op:EU}(ho:OpR X (Ch op) r)(ha:PE X a ta)(hb:PE X b tb):PE X (.BinOp a op b pos) (tOp r ta tb):=by
 intro pins s σ H Q I h;exact wpAny_BinOp (aq2 ha hb I h λv u s2 x y H2 I2 rx ry q=>ho pins s2 σ H2 x y v u Q I2 rx ry q)
def c00{op:UnaryOp}{r:V->Hp->VK->Prop}(ho:UnR X (unaryOp op) r)(ha:PE X a ta):PE X (.UnaryOp op a pos) (tUn r ta):=by
 intro pins s σ H Q I h;exact UnaryOp_ (thn (ha pins s σ H _ I h) λv s1⟨x,H1,I1,r1,q1⟩=>ho pins s1 σ H1 x v Q I1 r1 q1)
def opI{f:AG->AG->Sem AG}{C:Int->Int->Prop}{g:Int->Int->Int}
  (rule:∀(i j:Int)(t u:Tok)(s:AK)(Q:AG->AK->Prop)(E:AG->AK->Prop),C i j->Q (.int (g i j) s.toks) {s with toks:=s.toks+1}->AU (model X.prog X.w) X.A (f (.int i t) (.int j u)) Q E s) :
  OpR X f (rI C λi j=>.int (g i j)):=by
 intro pins s σ H x y v u Q I rx ry h;obtain⟨i,j,rfl,rfl,hc,q⟩:=h;obtain⟨t,rfl⟩:=rx;obtain⟨t',rfl⟩:=ry;exact rule i j t t' s _ _ hc ⟨.int (g i j),H,I.tok _,⟨_,rfl⟩,q⟩
def bs7{f:AG->AG->Sem AG}{g:Int->Int->Int}
  (rule:∀(i j:Int)(t u:Tok)(s:AK)(Q:AG->AK->Prop)(E:AG->AK->Prop),Q (.int (g i j) s.toks) {s with toks:=s.toks+1}->AU (model X.prog X.w) X.A (f (.int i t) (.int j u)) Q E s) :
  OpR X f (rI0 λi j=>.int (g i j)):=by
 intro pins s σ H x y v u Q I rx ry h;obtain⟨i,j,rfl,rfl,q⟩:=h;obtain⟨t,rfl⟩:=rx;obtain⟨t',rfl⟩:=ry;exact rule i j t t' s _ _ ⟨.int (g i j),H,I.tok _,⟨_,rfl⟩,q⟩
def ab5{f:AG->AG->Sem AG}{g:Int->Int->Bool}
  (rule:∀(i j:Int)(t u:Tok)(s:AK)(Q:AG->AK->Prop)(E:AG->AK->Prop),Q (.bool (g i j)) s->AU (model X.prog X.w) X.A (f (.int i t) (.int j u)) Q E s) :
  OpR X f (rI0 λi j=>.bl (g i j)):=by
 intro pins s σ H x y v u Q I rx ry h;obtain⟨i,j,rfl,rfl,q⟩:=h;obtain⟨t,rfl⟩:=rx;obtain⟨t',rfl⟩:=ry;exact rule i j t t' s _ _ ⟨.bl (g i j),H,I,rfl,q⟩
abbrev ar2(i j:Int):Prop:=0<=j/\j<=1000000/\i.natAbs<2^64
abbrev ap8(i j:Int):Prop:=(-(2^64)<i/\i<2^64)\/(-(2^64)<j/\j<2^64)
def ap8.ok{i j:Int}(h:ap8 i j):KD i j:=by
 rcases h with⟨h1,h2⟩|⟨h1,h2⟩
 ·exact .of_left (intBits_le_64 h1 h2)
 ·exact .of_right (intBits_le_64 h1 h2)
def co3:OpR X (Ch .Add) (rI0 λi j=>.int (i+j)):=bs7 λ_ _ _ _ _ _ _ q=>add_int q
def cq7:OpR X (Ch .Sub) (rI0 λi j=>.int (i-j)):=bs7 λ_ _ _ _ _ _ _ q=>sub_int q
def cn2:OpR X (Ch .Mod) (rI (λ_ j=>0<j) λi j=>.int (i % j)):=opI λi j _ _ _ _ _ hc q=>by
 have h1:(0:Int)<j:=hc;exact mod_int' ⋯ (by rw[Int.fmod_eq_emod_of_nonneg i ⋯];exact q)
def ct0:OpR X (Ch .Pow) (rI ar2 λi j=>.int (i^j.toNat)):=opI λ_ _ _ _ _ _ _ hc q=>pow_int_small hc.1 hc.2.1 hc.2.2 q
def unI{f:AG->Sem AG}{g:Int->Int}
  (rule:∀(i:Int)(t:Tok)(s:AK)(Q:AG->AK->Prop)(E:AG->AK->Prop),Q (.int (g i) s.toks) {s with toks:=s.toks+1}->AU (model X.prog X.w) X.A (f (.int i t)) Q E s) :
  UnR X f (rU λi=>.int (g i)):=by
 intro pins s σ H x v Q I rx h;obtain⟨i,rfl,q⟩:=h;obtain⟨t,rfl⟩:=rx;exact rule i t s _ _ ⟨.int (g i),H,I.tok _,⟨_,rfl⟩,q⟩
def ct8:UnR X (unaryOp .USub) (rU λi=>.int (-i)):=unI λ_ _ _ _ _ q=>neg_int q
end
section
variable {X:Cx} {a b c:AQ} {ta tb tc:TE} {pos:Pos}
def cz7:OpR X (Bp .Lt) (rI0 λi j=>.bl (AB (i<j))):=ab5 λ_ _ _ _ _ _ _ q=>lt_int q
def cz3:OpR X (Bp .LtE) (rI0 λi j=>.bl (AB (i<=j))):=ab5 λ_ _ _ _ _ _ _ q=>le_int q
def cy7:OpR X (Bp .Gt) (rI0 λi j=>.bl (AB (j<i))):=ab5 λ_ _ _ _ _ _ _ q=>gt_int q
def cx4:OpR X (Bp .GtE) (rI0 λi j=>.bl (AB (j<=i))):=ab5 λ_ _ _ _ _ _ _ q=>ge_int q
def OpR.or{f:AG->AG->Sem AG}{r':R2}(h:OpR X f r)(h':OpR X f r'):OpR X f (λx y H Q=>r x y H Q\/r' x y H Q):=by
 intro pins s σ H x y v u Q I rx ry q
 rcases q with q|q
 ·exact h pins s σ H x y v u Q I rx ry q
 ·exact h' pins s σ H x y v u Q I rx ry q
def c75(b:AQ)(h:op≠.In:=by decide)(h2:op≠.NotIn:=by decide):CK op b=AE:=by
 have e1:(op==CmpOp.In)=AE:=by cases op<;>first|rfl|exact absurd rfl h
 have e2:(op==Gy)=AE:=by cases op<;>first|rfl|exact absurd rfl h2
 cases b<;>simp[CK,e1,e2]
def a75(ho:OpR X (Bp op) r)(ha:PE X a ta)(hb:PE X b tb)(hm:CK op b=AE):PE X (.Compare a [op] [b] pos) (tOp r ta tb):=by
 intro pins s σ H Q I h;exact KB (aq2 ha hb I h λv u s2 x y H2 I2 rx ry q=>ho pins s2 σ H2 x y v u Q I2 rx ry q) hm
abbrev cy1(t:TE):TT:=λσ H Q=>t σ H λx H'=>∃k,x=.bl k/\Q k H'
def a65(ho:OpR X (Bp op) r)(ha:PE X a ta)(hb:PE X b tb)(hm:CK op b=AE):PT X (.Compare a [op] [b] pos) (cy1 (tOp r ta tb)):=by
 intro pins s σ H Q I h;refine IC (thn (ha pins s σ H _ I h) λv s1⟨x,H1,I1,r1,q1⟩=>thn (hb pins s1 σ H1 _ I1 q1) λu s2⟨y,H2,I2,r2,q2⟩=>
  thn (ho pins s2 σ H2 x y v u _ I2 r1 r2 q2) λc s3⟨z,H3,I3,r3,k,e,q3⟩=>?_) hm
 subst e;cases r3;exact CG ⟨H3,I3,q3⟩
def V5:(sizeLine:Nat)<2^63:=by rw[IJ];decide
def T1{x:V}{us:List AG}(r:f7 [x] us):∃u,us=[u]/\f8 x u:=by
 cases r with
 |cons r1 r2=>cases r2;exact⟨_,rfl,r1⟩
def cz4{x y:V}{us:List AG}(r:f7 [x,y] us):∃u w',us=[u,w']/\f8 x u/\f8 y w':=by
 cases r with
 |cons r1 r2=>
  cases r2 with
  |cons r3 r4=>cases r4;exact⟨_,_,rfl,r1,r3⟩
def b75:D5 X (.builtin "abs") (λxs H Q=>∃i,xs=[.int i]/\Q (.int (if i<0 then -i else i)) H):=by
 intro pins s σ H xs us Q I r h;obtain⟨i,rfl,q⟩:=h;obtain⟨u,rfl,t,rfl⟩:=T1 r;exact call_abs_int λu tk=>⟨.int (if i<0 then -i else i),H,I.tok _,⟨_,rfl⟩,q⟩
def b29(hc:X.calm=AC):D5 X (.builtin "max") (λxs H Q=>∃i j,xs=[.int i,.int j]/\Q (.int (if j>i then j else i)) H):=by
 intro pins s σ H xs us Q I r h;obtain⟨i,j,rfl,q⟩:=h;obtain⟨u,w',rfl,⟨t,rfl⟩,⟨t',rfl⟩⟩:=cz4 r;refine max_two_ints (I.ok.hd hc) λh' tk k=>⟨_,H,I.kept k,?_,q⟩
 by_cases hj:j>i
 ·rw[if_pos hj,if_pos hj];exact⟨_,rfl⟩
 ·rw[if_neg hj,if_neg hj];exact⟨_,rfl⟩
def b55:D5 X (.type "int") (λxs H Q=>(∃i,xs=[.int i]/\Q (.int i) H)\/∃k,xs=[.bl k]/\Q (.int (if k then 1 else 0)) H):=by
 intro pins s σ H xs us Q I r h
 rcases h with⟨i,rfl,q⟩|⟨k,rfl,q⟩
 ·obtain⟨u,rfl,t,rfl⟩:=T1 r;exact call_int_int ⟨.int i,H,I,⟨_,rfl⟩,q⟩
 ·obtain⟨u,rfl,r1⟩:=T1 r;cases r1;exact call_int_bool ⟨.int (if k then 1 else 0),H,I.tok _,⟨_,rfl⟩,q⟩
end
end L2
namespace L2
open PySem PySem.Spec PyProof.Rows
variable{h:BI}{dx C:AI}{mA:Str->Option AG}{w:BB}{A:BP}{s:AK}{f:Str}{v:V}{Q:AG->AK->Prop}{u:AG}{H:Hp}{X:Cx}
structure ObjM(h:BI)(x dx C:AI)(mA:Str->Option AG):Prop where
 obj:h.get? x=AA (Dd C dx)
 ns:h.Ns1 dx mA
 ne:dx≠x
def b34(n:h.Ns1 dx mA):∃od,h.get? dx=AA od/\∀name,Hl name od=AA (mA name):=by
 obtain⟨o,es,ep,ho,hd,hk,_,hm⟩:=n;refine⟨o,ho,λname=>?_⟩;have e:=hm name;unfold nsFind findBy at e;rw[<-Array.find?_toList]at e;unfold Hl;rw[hd];dsimp only
 split
 ·rename_i y q;rw[q]at e;exact congrArg AA e
 ·rename_i q;rw[q]at e;have a:es.toList.any (·.refKey)=AE:=by
   rw[Fx];intro y hy;obtain⟨z,t,hkey⟩:=hk y (Array.mem_toList_iff.mp hy);simp[DictEntry.refKey,hkey]
  have a':¬es.toList.any (·.refKey)=AC:=by rw[a];exact AH
  rw[if_neg a'];exact congrArg AA e
def ObjM.look{x:AI}(I:ObjM h x dx C mA):∃od,W.InstAt h x (Dd C dx) C (AA od)/\∀name,Hl name od=AA (mA name):=
 let⟨od,ho,hl⟩:=b34 I.ns
 ⟨od,⟨I.obj,rfl,rfl,ho⟩,hl⟩
section
variable {prog:Aj} {E:AG->AK->Prop} {K:AO} {x f:AI} {name:Str} {v:AG}
def cf3{expr:Bool}(X:K.In s.heap)(I:ObjM s.heap x dx C mA)(hg:FW K C name=AC)(hh:GL K C=AC)
  (ha:BR K (.ref C) name=AA AD) (hv:mA name=AA v) (hv':W.handedIn v=AC) (h:Q v {s with toks:=s.toks+1}) :
  AU (model prog w) A (getAttr (.ref x) name expr) Q E s:=by
 obtain⟨od,J,hl⟩:=I.look;exact W.get_value X J (HA hg).1 (W.findObj_own hh ha rfl (by rw[hl,hv])) hv' h
def cb7{pl:Sem Bool}{Q:AG×List AG->AK->Prop}(X:K.In s.heap)(I:ObjM s.heap x dx C mA)(hg:FW K C name=AC)
  (hf:BR K (.ref C) name=AA (AA (.ref f))) (ht:HR K (.ref f)=AC) (hv:mA name=AD) (h:Q (.ref f,[.ref x]) s) :
  AU (model prog w) A (Jc (.ref x) name pl) Q E s:=by
 obtain⟨od,J,hl⟩:=I.look;exact W.method_fn X J (HA hg).1 (HA hg).2 hf (beq_iff_eq.mp ht) (by show(Hl name od).map (·.isSome)=AA AE;rw[hl,hv];rfl) h
def ce1{ns:List Str}{Q:Unit->AK->Prop}(X:K.In s.heap)(I:ObjM s.heap x dx C mA)
  (hs:BR K (.ref C) "__setattr__"=AA (AA (.builtin "object.__setattr__"))) (hp:Hm K C=AC) (ht:Iv K C name=AA AD) (hh:GL K C=AC)
  (hw:PySem.Within mA ns) (hsz:ns.length<=sizeLine)
  (h:∀h',ObjM h' x dx C (λy=>if y=name then AA v else mA y)->CA dx s.heap h'->Q () {s with heap:=h',toks:=s.toks+2}) :
  AU (model prog w) A (setAttr (.ref x) name v) Q E s:=by
 obtain⟨od,J,hl⟩:=I.look;refine W.set_plain X J hs (W.osa_open (s:={s with toks:=s.toks+1}) (r:=AD) X J hp ht λb=>?_);obtain⟨cd,hc,hd'⟩:=W.any_some hh;have hx:s.heap.get? x=AA ⟨.ref C,AA dx,.plain,#[]⟩:=I.obj;refine AF (AM (AF (AF (wpAny_loadPart hx (AF (W.Looks.here (s:={s with toks:=s.toks+1}) (W.looks_clsIn X hc) ?_))))));rw[hd'];refine AM (a:=AA dx) (AF (AM (AF ?_)));refine wpAny_nsSet1 (s:={s with toks:=s.toks+1}) I.ns λh' hn2 hs2=>?_;obtain⟨oD,esD,epD,hoD,hdD,hcD⟩:=hn2.count (PySem.Within.cons name v hw);refine AF (wpAny_lookBehind hoD (by rw[hdD];exact pastItsLine_dict (BC hcD (by rw[Ac];lia))) ?_);exact AM (h _ ⟨(hs2.2 _ (Aw I.ne)).trans I.obj,hn2,I.ne⟩ hs2)
def b73{R:Iw->AK->Prop}{vs:List AG}{kw:List (Str×AG)}(X:K.In s.heap)(hm:HI K C=AC)
  (hi:BR K (.ref C) "__init__"=AA (AA (.ref f))) (hf:W.typeIn K (.ref f)=AA (.type "function"))
  (h:EH (model prog w) (A.under (.builtin "type.__call__" ⟨.ref C::vs,kw⟩)) (.call (.ref f) ⟨.ref (s.heap.objs.size+1)::vs,kw⟩) (W.InitBack (s.heap.objs.size+1) R)
   {s with heap:=(s.heap.push Cd).push (Dd C s.heap.objs.size)}) :
  EH (model prog w) A (.call (.ref C) ⟨vs,kw⟩) R s:=by
 obtain⟨hh,g,d,t,os⟩:=s;exact W.make_core (W.makes_of X hm) (W.looks_findIn X hi) (λself=>W.bind_fn X self hf) (.inl rfl) h
end
abbrev w6(f:Str)(v:V):List (Str×V)->List (Str×V)
 |[]=>[(f,v)]
 |(g,x)::r=>if g=f then(g,v)::r else(g,x)::w6 f v r
theorem as4(f g:Str)(v:V):∀fs:List (Str×V),(w6 f v fs).lookup g=if g=f then AA v else fs.lookup g
 |[]=>by
  show Co g [(f,v)]=_
  by_cases h:g=f
  ·have hb:(g==f)=AC:=beq_iff_eq.mpr h;simp only[Co,hb,if_pos h]
  ·have hb:(g==f)=AE:=beq_eq_false_iff_ne.mpr h;simp only[Co,hb,if_neg h]
 |(k,x)::r=>by
  have ih:=as4 f g v r;rw[show w6 f v ((k,x)::r)=(if k=f then(k,v)::r else(k,x)::w6 f v r) from rfl]
  by_cases hk:k=f
  ·rw[if_pos hk]
   by_cases h:g=k
   ·have hb:(g==k)=AC:=beq_iff_eq.mpr h;simp only[Co,hb,if_pos (h.trans hk)]
   ·have hb:(g==k)=AE:=beq_eq_false_iff_ne.mpr h;simp only[Co,hb,if_neg (λe:g=f=>h (e.trans hk.symm))]
  ·rw[if_neg hk]
   by_cases h:g=k
   ·have hb:(g==k)=AC:=beq_iff_eq.mpr h;simp only[Co,hb,if_neg (λe:g=f=>hk (h.symm.trans e))]
   ·have hb:(g==k)=AE:=beq_eq_false_iff_ne.mpr h;simp only[Co,hb];exact ih
theorem ah8(f:Str)(v:V):∀fs:List (Str×V),f∈(w6 f v fs).map (·.1)/\∀g,g∈fs.map (·.1)->g∈(w6 f v fs).map (·.1)
 |[]=>⟨by simp[w6],λg h=>by simp at h⟩
 |(k,x)::r=>by
  obtain⟨i1,i2⟩:=ah8 f v r;rw[show w6 f v ((k,x)::r)=(if k=f then(k,v)::r else(k,x)::w6 f v r) from rfl]
  by_cases hk:k=f
  ·rw[if_pos hk];subst hk;exact⟨∎,λg h=>by simpa using h⟩
  ·rw[if_neg hk];refine⟨?_,λg h=>?_⟩
   ·rw[Ah];exact Ao _ i1
   ·rw[Ah]at h ⊢
    rcases AL.mp h with e|e
    ·exact mem_cons.mpr (.inl e)
    ·exact Ao _ (i2 g e)
theorem as8(f:Str)(v:V):∀fs:List (Str×V),(w6 f v fs).length<=fs.length+1
 |[]=>by simp[w6]
 |(k,x)::r=>by
  have ih:=as8 f v r;rw[show w6 f v ((k,x)::r)=(if k=f then(k,v)::r else(k,x)::w6 f v r) from rfl]
  by_cases hk:k=f
  ·rw[if_pos hk,Ac,Ac];lia
  ·rw[if_neg hk,Ac,Ac];lia
def y6.some_of{o:Option AG}(r:y6 (AA v) o):∃u,o=AA u/\f8 v u:=by
 cases o with
 |none=>exact(show False from r).elim
 |some u=>exact⟨u,rfl,r⟩
def y6.none_of{o:Option AG}(r:y6 AD o):o=AD:=by
 cases o with
 |none=>rfl
 |some u=>exact(show False from r).elim
def b21(r:f8 v u):W.handedIn u=AC:=by
 cases v with
 |non=>cases(show u=Bh from r);rfl
 |bl b=>cases(show u=Ft b from r);rfl
 |int i=>obtain⟨t,e⟩:=(show ∃t,u=Du i t from r);cases e;rfl
 |str x=>obtain⟨t,e⟩:=(show ∃t,u=Dv x t from r);cases e;rfl
 |byt b=>obtain⟨t,e⟩:=(show ∃t,u=JG b t from r);cases e;rfl
 |flt b=>obtain⟨t,e⟩:=(show ∃t,u=Gv b t from r);cases e;rfl
 |ref a=>cases(show u=Ap a from r);rfl
 |ty n=>cases(show u=EC n from r);rfl
section
variable {P:Aj} {H':Hp} {h':BI} {a:AI} {fs fs':List (Str×V)}
def Z4(hok:HOk P w H h)(e:H a=AA (.ins C dx fs)):∃mA,ObjM h a dx C mA/\(∀f,y6 (fs.lookup f) (mA f))/\PySem.Within mA (fs.map (·.1))/\fs.length<=1000/\H dx=AA (.own a):=by
 obtain⟨d,z,ne,ob,mA,n,r,q⟩:=(show o7 P w H h a (.ins C dx fs) from hok a _ e);exact⟨mA,⟨ob,n,ne⟩,r,q,z,d⟩
end
structure Cls(K:AO)(C:AI):Prop where
 pg:FW K C Str.empty=AC
 hd:GL K C=AC
 po:Hm K C=AC
 sa:BR K (.ref C) "__setattr__"=AA (AA (.builtin "object.__setattr__"))
def Cls.get{K:AO}(c:Cls K C)(f:Str):FW K C f=AC:=c.pg
abbrev F7(K:AO)(C:AI)(f:Str):Prop:=BR K (.ref C) f=AA AD
def F7.taker{K:AO}(n:F7 K C f):Iv K C f=AA AD:=by
 unfold Iv;rw[show BR K (.ref C) f=AA AD from n];rfl
structure Meth(K:AO)(C:AI)(m:Str)(f:AI):Prop where
 at_:BR K (.ref C) m=AA (AA (.ref f))
 fn:HR K (.ref f)=AC
 kp:Bj K (.ref f)=AC
section
variable {pins:List (AI×Obj)} {σ:St} {a:AI} {fs:List (Str×V)} {E:AG->AK->Prop}
def b06{b:Bool}(I:Inv X pins σ H s)(e:H a=AA (.ins C dx fs))(c:Cls X.K C)(n:F7 X.K C f)(l:fs.lookup f=AA v)
  (h:∀u s',Inv X pins σ H s'->f8 v u->Q u s'):AU (model X.prog X.w) A (getAttr (.ref a) f b) Q E s:=by
 obtain⟨mA,O,r,_,_,_⟩:=Z4 I.hok e;obtain⟨u,hu,ru⟩:=y6.some_of (v:=v) (o:=mA f) (by rw[<-l];exact r f);exact cf3 I.kIn O (c.get f) c.hd n hu (b21 ru) (h u _ (I.tok _) ru)
def ah3{m:Str}{g:AI}{pl:Sem Bool}{Q:AG×List AG->AK->Prop}(I:Inv X pins σ H s)(e:H a=AA (.ins C dx fs))(c:Cls X.K C)(k:Meth X.K C m g)(l:fs.lookup m=AD)
  (h:Q (.ref g,[.ref a]) s):AU (model X.prog X.w) A (Jc (.ref a) m pl) Q E s:=by
 obtain⟨mA,O,r,_,_,_⟩:=Z4 I.hok e;have hn:mA m=AD:=y6.none_of (by rw[<-l];exact r m);exact cb7 I.kIn O (c.get m) k.at_ k.fn hn h
def b00{y:V}{Q:Unit->AK->Prop}(I:Inv X pins σ H s)(e:H a=AA (.ins C dx fs))(c:Cls X.K C)(n:F7 X.K C f)(hl:fs.length<1000)(ry:f8 y u)
  (h:∀s',Inv X pins σ (upd H a (.ins C dx (w6 f y fs))) s'->Q () s'):AU (model X.prog X.w) A (setAttr (.ref a) f u) Q E s:=by
 obtain⟨mA,O,r,wi,_,ho⟩:=Z4 I.hok e;have hz:(fs.map (·.1)).length<=sizeLine:=by rw[AT,IJ];lia
 refine ce1 I.kIn O c.sa c.po n.taker c.hd wi hz λh' O' sb=>h _ ?_;have hd:∃o,h'.get? dx=AA o:=let⟨o,_,_,e',_⟩:=O'.ns;⟨o,e'⟩;refine I.write (x:=a) (e:=dx) (by rw[e];exact Bt) (.inr ho) (λb q hb z=>(sb.2 b hb).trans z) hd ?_;refine⟨by rw[i8 O.ne];exact ho,?_,O.ne,O'.obj,_,O'.ns,λg=>?_,λg hg=>?_⟩
 ·have:=as8 f y fs;lia
 ·show y6 ((w6 f y fs).lookup g) (if g=f then AA u else mA g);rw[as4]
  by_cases q:g=f
  ·rw[if_pos q,if_pos q];exact ry
  ·rw[if_neg q,if_neg q];exact r g
 ·by_cases q:g=f
  ·rw[q];exact(ah8 f y fs).1
  ·refine(ah8 f y fs).2 g (wi g λz=>hg ?_);show(if g=f then AA u else mA g)=AD;rw[if_neg q];exact z
def Inv.made(I:Inv X pins σ H s):Inv X pins σ (upd (upd H s.heap.objs.size (.own (s.heap.objs.size+1))) (s.heap.objs.size+1) (.ins C s.heap.objs.size []))
  {s with heap:=(s.heap.push Cd).push (Dd C s.heap.objs.size)}:=by
 have e1:(s.heap.push Cd).get? s.heap.objs.size=AA Cd:=Aq s.heap rfl;have e2:((s.heap.push Cd).push (Dd C s.heap.objs.size)).get? (s.heap.objs.size+1)=AA (Dd C s.heap.objs.size):=by
  have:=Aq (s.heap.push Cd) (o:=Dd C s.heap.objs.size) rfl
  rwa [GP]at this
 have e3:(s.heap.push Cd).Ns s.heap.objs.size (λ_=>AD):=⟨Cd,#[],_,e1,rfl,(λe he=>absurd he ∎),λ_=>rfl⟩;have I1:=I.laid (a:=s.heap.objs.size) (o:=.own (s.heap.objs.size+1)) (h':=s.heap.push Cd) (t':=s.toks) (λb u q=>AS _ q) (AY _) ⟨_,e1⟩;refine I1.laid (a:=s.heap.objs.size+1) (o:=.ins C s.heap.objs.size []) (t':=s.toks) (λb u q=>AS _ q) (Jd (GP _ _)) ?_;have ne:s.heap.objs.size≠s.heap.objs.size+1:=BS (Fk _);refine⟨by rw[i8 ne,r8],BV _,ne,e2,λ_=>AD,(Heap.Ns1.of_empty e3).at λo q=>AS _ q,λ_=>Bt,λy hy=>absurd rfl hy⟩
def ci7{prog:Aj}{env:Env}{e:AQ}{pos:Pos}(hb:Cb e f env (eval e env)=eval e env)
  (h:AU (model prog w) A (eval e env) (λo s₁=>AU (model prog w) A (getAttr o f AC) Q E s₁) E s):AU (model prog w) A (eval (.Attribute e f pos) env) Q E s:=
 Attribute_any_ h (by rw[arm_eval_Attribute,hb])
end
abbrev c35(K:AO)(ta:TE)(f:Str):TE:=λσ H Q=>ta σ H λx H1=>∃a C dx fs v,x=.ref a/\H1 a=AA (.ins C dx fs)/\Cls K C/\F7 K C f/\fs.lookup f=AA v/\Q v H1
abbrev c71(K:AO)(ta tv:TE)(f:Str):TS:=λD σ H=>tv σ H λy H1=>ta σ H1 λx H2=>∃a C dx fs,x=.ref a/\H2 a=AA (.ins C dx fs)/\Cls K C/\F7 K C f/\fs.length<1000 /\
 D.nx σ (upd H2 a (.ins C dx (w6 f y fs)))
section
variable {o e value:AQ} {pos pos' tpos:Pos} {ta tv:TE}
def cn9(he:PE X e ta)(hb:Cb e f X.env (eval e X.env)=eval e X.env):PE X (.Attribute e f pos) (c35 X.K ta f):=by
 intro pins s σ H Q I h;refine ci7 hb (thn (he pins s σ H _ I h) λu s1 z20=>?_);obtain⟨x,H1,I1,rx,a,C,dx,fs,v,ex,ea,c,n,l,q⟩:=z20;subst ex;obtain rfl:u=Ap a:=rx;exact b06 I1 ea c n l λu' s2 I2 ru=>⟨v,H1,I2,ru,q⟩
def cs5(ha:PE X o ta)(hv:PE X value tv)(hs:CO value (AA (.Attribute o f pos')) pos.line X.env=pure AE):PS X (.Assign [.Attribute o f pos'] value pos) (c71 X.K ta tv f):=by
 intro pins s σ H D I h;refine plainObj_wpAny_Assign_Attribute (thn (hv pins s σ H _ I h) λu s1⟨y,H1,I1,ry,q⟩=>thn (ha pins s1 σ H1 _ I1 q) λov s2 z21=>?_) hs;obtain⟨x,H2,I2,rx,a,C,dx,fs,ex,ea,c,n,l,q2⟩:=z21;subst ex;obtain rfl:ov=Ap a:=rx;exact b00 I2 ea c n l ry λs3 I3=>⟨σ,_,I3,q2⟩
end
section
variable {pins:List (AI×Obj)} {σ:St} {E:AG->AK->Prop} {c:AG} {b:Bool}
inductive TyOf(K:AO)(H:Hp):V->AG->Prop where
 |non:TyOf K H .non (.type "NoneType")
 |bl (x:Bool):TyOf K H (.bl x) (.type "bool")
 |int (i:Int):TyOf K H (.int i) (.type "int")
 |str (x:Str):TyOf K H (.str x) (.type "str")
 |flt (x:UInt64):TyOf K H (.flt x) (.type "float")
 |lst {a:AI} {xs:List V} (e:H a=AA (.lst xs)):TyOf K H (.ref a) (.type "list")
 |frz {a:AI} {o:Obj} {xs:List V} (e:H a=AA (.frz o (.lst xs))):TyOf K H (.ref a) (.type "list")
 |tup {a:AI} {xs:List V} (e:H a=AA (.tup xs)):TyOf K H (.ref a) (.type "tuple")
 |dK {a:AI} {kvs:List (Key×V)} (e:H a=AA (.dK kvs)):TyOf K H (.ref a) (.type "dict")
 |dT {a:AI} {kvs:List (Ad×V)} (e:H a=AA (.dT kvs)):TyOf K H (.ref a) (.type "dict")
 |ins {a C dx:AI} {fs:List (Str×V)} (e:H a=AA (.ins C dx fs)) (cl:Cls K C) (ha:BR K (.ref C) "__class__"=AA (AA (.builtin "object.__class__")))
   (hn:W.specialIn K (.builtin "object.__class__") "__get__"=AA (AA (.builtin "getset_descriptor.__get__"))) (htk:W.takesIn K (.builtin "object.__class__")=AA AC)
   (hm:W.mroIn K C (.type "object")=AA AC):TyOf K H (.ref a) (.ref C)
def b54{x:V}{t:AG}(I:Inv X pins σ H s)(rx:f8 x u)(ty:TyOf X.K H x t)(e:EI X.K t c=AA b)(h:∀tk,Q (.bool b) {s with toks:=tk}):
  AU (model X.prog X.w) A (call (.builtin "isinstance") [u,c]) Q E s:=by
 cases ty with
 |non=>cases(show u=Bh from rx);exact CV W.kitx_none I.kIn Bt e (λz=>nomatch z) h
 |bl y=>cases(show u=Ft y from rx);exact CV W.kitx_bool I.kIn Bt e (λz=>nomatch z) h
 |int i=>obtain⟨t,q⟩:=(show ∃t,u=Du i t from rx);cases q;exact CV W.kitx_int I.kIn Bt e (λz=>nomatch z) h
 |str y=>obtain⟨t,q⟩:=(show ∃t,u=Dv y t from rx);cases q;exact CV W.kitx_str I.kIn Bt e (λz=>nomatch z) h
 |flt y=>obtain⟨t,q⟩:=(show ∃t,u=Gv y t from rx);cases q;exact CV W.kitx_float I.kIn Bt e (λz=>nomatch z) h
 |@lst a xs ea=>
  cases(show u=Ap a from rx);obtain⟨_,_,n,_,h1⟩:=(show o7 X.prog X.w H s.heap a (.lst xs) from I.hok a _ ea);exact CV W.kitx_list I.kIn ⟨_,h1,rfl⟩ e (λz=>nomatch z) h
 |@frz a ob xs ea=>
  cases(show u=Ap a from rx);obtain⟨_,_,_,n,_,h1⟩:=(show o7 X.prog X.w H s.heap a (.frz ob (.lst xs)) from I.hok a _ ea);exact CV W.kitx_list I.kIn ⟨_,h1,rfl⟩ e (λz=>nomatch z) h
 |@tup a xs ea=>
  cases(show u=Ap a from rx);obtain⟨_,_,_,p⟩:=(show o7 X.prog X.w H s.heap a (.tup xs) from I.hok a _ ea);obtain⟨o,h1,h2,_⟩:=p;exact CV KF I.kIn ⟨o,h1,h2⟩ e (λz=>nomatch z) h
 |@dK a kvs ea=>
  cases(show u=Ap a from rx);obtain⟨_,_,vs,_,p⟩:=(show o7 X.prog X.w H s.heap a (.dK kvs) from I.hok a _ ea);obtain⟨o,es,ep,h1,h2,_⟩:=p;exact CV W.kitx_dict I.kIn ⟨o,h1,h2.1⟩ e (λz=>nomatch z) h
 |@dT a kvs ea=>
  cases(show u=Ap a from rx);obtain⟨_,_,xs,_,o,es,ep,h1,h2,_⟩:=(show o7 X.prog X.w H s.heap a (.dT kvs) from I.hok a _ ea);exact CV W.kitx_dict I.kIn ⟨o,h1,h2.1⟩ e (λz=>nomatch z) h
 |@ins a C dx fs ea cl ha hn htk hm=>
  cases(show u=Ap a from rx);obtain⟨mA,O,_⟩:=Z4 I.hok ea;obtain⟨od,J,_⟩:=O.look;exact CV (W.kitx_own (cl.get _) cl.hd ha hn htk hm) I.kIn J e (λz=>nomatch z) h
end
end L2
namespace L2
open PySem PySem.Spec PyProof.Rows
variable{A:BP}{C:AI}{us:List AG}{X:Cx}{s:AK}{H:Hp}{pins:List (AI×Obj)}{σ:St}{Q:VK}{ps:List Str}{x:Str}{vs:List V}{kindOf:Str->Option FI}
structure Room(k:Nat)(A:BP):Prop where
 hd:A.handled=AD
 dp:A.depth+3*k+5<HB
 un:A.units+16*k+200<Bo
theorem Room.deeper{k:Nat}(r:Room (k+1) A)(env:Env):Room k (A.deeper env):=
 ⟨r.hd,by have:=r.dp;show A.depth+1+3*k+5<_;lia,by have:=r.un;show A.units+3+16*k+200<_;lia⟩
def bz1{kw:List (Str×AG)}:(A.under (.builtin "type.__call__" ⟨.ref C::us,kw⟩)).depth=A.depth+1:=by
 first|rfl|simp[GX,Code.weight,Code.isCreation,Code.isGuard,Code.isCaller,Je,Gk,guardIds]
def b14{kw:List (Str×AG)}:(A.under (.builtin "type.__call__" ⟨.ref C::us,kw⟩)).units=A.units+1:=by
 first|rfl|simp[GX,Code.cUnits,Je,Gk]
def Room.make{k:Nat}(r:Room (k+1) A)(C:AI)(us:List AG)(kw:List (Str×AG)):Room k (A.under (.builtin "type.__call__" ⟨.ref C::us,kw⟩)):=
 ⟨r.hd,by have:=r.dp;rw[bz1];lia,by have:=r.un;rw[b14];lia⟩
theorem Room.depth{k:Nat}(r:Room k A):A.depth<HB:=by have:=r.dp;lia
abbrev aq8:TA:=λ_ H Q=>Q [] H
abbrev ap1(ta:TE)(tr:TA):TA:=λσ H Q=>ta σ H λx H1=>tr σ H1 λxs H2=>Q (x::xs) H2
section
variable {e:AQ} {es:List AQ} {te:TE} {t:TA} {pos:Pos}
def bd7:PA X [] aq8:=λ_ _ _ _ H Q I h=>FJ ⟨[],H,I,.nil,h⟩
def am1(ha:PE X e te)(hr:PA X es t)(hs:Am (e::es) X.env=(AE,eval e X.env)::Am es X.env:=by rfl):PA X (e::es) (ap1 te t):=by
 intro pos pins s σ H Q I h;rw[hs];show AU _ _ (spliced ((AE,eval e X.env)::Bq pos (Am es X.env))) _ _ s;refine DW (thn (ha pins s σ H _ I h) λu s1 z22=>?_);obtain⟨x,H1,I1,r1,q1⟩:=z22;exact thn (hr pos pins s1 σ H1 _ I1 q1) λus s2⟨xs,H2,I2,r2,q2⟩=>⟨x::xs,H2,I2,.cons r1 r2,q2⟩
abbrev c65(t:TA):TE:=λσ H Q=>t σ H λxs H1=>xs.length<=sizeLine/\∀p,H1 p=AD->Q (.ref p) (upd H1 p (.tup xs))
abbrev c66(t:TA):TE:=λσ H Q=>t σ H λxs H1=>xs.length<=sizeLine/\∀p,H1 p=AD->Q (.ref p) (upd H1 p (.lst xs))
def cq8{x1}(h:PA X es t):PE X (.Tuple es x1 pos) (c65 t):=by
 intro pins s σ H Q I hq;refine wpAny_Tuple_spliced (thn (h pos pins s σ H _ I hq) λus s1⟨xs,H1,I1,r,z,q⟩=>⟨by rw[<-r.length];exact z,?_⟩);have hf:H1 s1.heap.objs.size=AD:=I1.hok.fresh (AY _);refine⟨.ref s1.heap.objs.size,upd H1 s1.heap.objs.size (.tup xs),I1.laid (t':=s1.toks) (λb u e=>AS _ e) (AY _) ?_,rfl,q _ hf⟩;exact⟨z,us,r,D3.new _ _⟩
def cq4(h:PA X es t):PE X (.List es pos) (c66 t):=by
 intro pins s σ H Q I hq;refine wpAny_List_spliced (thn (h pos pins s σ H _ I hq) λus s1⟨xs,H1,I1,r,z,q⟩=>⟨by rw[<-r.length];exact z,?_⟩);have hf:H1 s1.heap.objs.size=AD:=I1.hok.fresh (AY _);refine⟨.ref s1.heap.objs.size,upd H1 s1.heap.objs.size (.lst xs),I1.laid (t':=s1.toks) (λb u e=>AS _ e) (AY _) ?_,rfl,q _ hf⟩;exact⟨z,us,0,r,Aq _ rfl⟩
end
@[reducible]noncomputable def Sp:=List V->Hp->VK->XK->Prop
@[reducible]noncomputable def CXT:=List Env->Hp->AK->XK->AG->AK->Prop
structure Env0(P:Aj)(w:BB)(K:AO)(mg:Str->Option AG)(base:BI)(A:BP)(outer:List Env)(s:AK)(H:Hp):Prop where
 frames:A.frames=AA outer
 mod:Mod K mg base
 bs:∀b o,base.get? b=AA o->s.heap.get? b=AA o/\H b=AD
 bsz:base.objs.size<=s.heap.objs.size
 funs:s.heap.FunFrames base outer
 frf:∀b∈frs outer,H b=AD
 hok:HOk P w H s.heap
 bare:Fu s.gens
abbrev CE(outer:List Env)(P:Aj)(w:BB)(H:Hp)(s:AK)(Q:VK)(u:AG)(s':AK):Prop:=
 ∃v H',s'.os=s.os/\Fu s'.gens/\Un (frs outer) [] H H' s.heap s'.heap/\HOk P w H' s'.heap/\f8 v u/\Q v H'
abbrev CR(CX:CXT)(outer:List Env)(P:Aj)(w:BB)(H:Hp)(s:AK)(Q:VK)(E:XK)(r:Iw)(s':AK):Prop:=
 match r with
 |.ok (.ret u)=>CE outer P w H s Q u s'
 |.ok _=>False
 |.error e=>CX outer H s E e s'
structure FnOk(P:Aj)(w:BB)(K:AO)(mg:Str->Option AG)(base:BI)(CX:CXT)(k:Nat)(f:AI)(fd:Ba)(ps:List Str)(sp:Sp):Prop where
 len:∀vs H Q E,sp vs H Q E->vs.length=ps.length
 run:∀(A:BP)(outer:List Env)(s:AK)(H:Hp)(args:Args)(us:List AG)(vs:List V)(Q:VK)(E:XK),Room k A->Env0 P w K mg base A outer s H->Fy s fd args (ps.zip us)->f7 vs us->sp vs H Q E ->
  EH (model P w) A (.call (.ref f) args) (CR CX outer P w H s Q E) s
def Env0.make{P:Aj}{w:BB}{K:AO}{mg:Str->Option AG}{base:BI}{outer:List Env}(e:Env0 P w K mg base A outer s H)(C:AI)(us:List AG)(kw:List (Str×AG)):
  Env0 P w K mg base (A.under (.builtin "type.__call__" ⟨.ref C::us,kw⟩)) outer s H:=⟨by first|exact e.frames|(simpa[GX,Code.envs,Gk,pushEnvs]using e.frames),e.mod,e.bs,e.bsz,e.funs,e.frf,e.hok,e.bare⟩
section
variable {s':AK}
def Inv.env0(I:Inv X pins σ H s):Env0 X.prog X.w X.K X.mg X.base X.A X.stack s H:=
 ⟨I.ok.frames,I.ok.mod,I.bs,BC I.ok.bsz I.sz,I.stack,I.stkFree,I.hok,I.bare⟩
def Inv.after{u:AG}(I:Inv X pins σ H s)(h:CE X.stack X.prog X.w H s Q u s'):EP X pins σ Q u s':=by
 obtain⟨v,H',os,bare,un,hok,r,q⟩:=h;obtain⟨hh,g,d,t,os'⟩:=s';obtain rfl:os'=s.os:=os;exact⟨v,H',I.call (h':=hh) (g':=g) (d':=d) (t':=t) (ch:=[]) un hok bare (λb z=>absurd z ∎),r,q⟩
end
abbrev c27(sp:Sp)(dvs:List V)(E:XK)(t:TA):TE:=λσ H Q=>t σ H λvs H1=>sp (vs++dvs) H1 Q E
abbrev bn1(C:AI)(sp:Sp)(dvs:List V)(E:XK)(t:TA):TE:=λσ H Q=>t σ H λvs H1=>∀x dx,H1 x=AD->H1 dx=AD->dx≠x ->
 sp (.ref x::(vs++dvs)) (upd (upd H1 dx (.own x)) x (.ins C dx [])) (λv H2=>v=.non/\Q (.ref x) H2) E
abbrev t6(K:AO)(fd:Ba)(ps:List Str)(ds:List AG):Prop:=
 ∀(s:AK)(us:List AG),K.In s.heap->(us++ds).length=ps.length->Fy s fd ⟨us,[]⟩ (ps.zip (us++ds))
def t6.all{K:AO}{fd:Ba}(h:∀us:List AG,us.length=ps.length->BF fd ⟨us,[]⟩=pure (ps.zip us)):t6 K fd ps []:=λs us _ hl=>by
 rw[BJ]at hl ⊢;exact .of_eq (h us hl)
abbrev Q9(CX:CXT)(X:Cx)(E:XK):Prop:=∀(pins:List (AI×Obj))(σ:St)(H:Hp)(s:AK)(e:AG)(s':AK),Inv X pins σ H s->CX X.stack H s E e s'->X.xe e s'
section
variable {CX:CXT} {k:Nat} {f:AI} {fd:Ba} {sp:Sp} {dvs:List V} {ds:List AG} {E:XK} {m:Str} {p pos apos:Pos} {e o:AQ} {es:List AQ} {ta:TE} {t:TA}
def N9(F:FnOk X.prog X.w X.K X.mg X.base CX k f fd ps sp)(hr:Room k X.A)(hb:t6 X.K fd ps ds)(hd:f7 dvs ds)(hx:Q9 CX X E)
  (I:Inv X pins σ H s) (r:f7 vs us) (h:sp (vs++dvs) H Q E):AU (model X.prog X.w) X.A (call (.ref f) us) (EP X pins σ Q) X.xe s:=by
 have r2:f7 (vs++dvs) (us++ds):=r.append hd;have hl:(us++ds).length=ps.length:=by rw[<-r2.length];exact F.len _ _ _ _ h
 refine wpAny_call (GA (F.run X.A X.stack s H ⟨us,[]⟩ (us++ds) (vs++dvs) Q E hr I.env0 (hb s us I.kIn hl) r2 h) λr s' hq=>?_);cases r with
 |error e=>exact hx pins σ H s e s' I hq
 |ok fl=>
  cases fl with
  |ret u=>exact I.after hq
  |next=>exact AZ hq
  |brk=>exact AZ hq
  |cont=>exact AZ hq
def ci5(F:FnOk X.prog X.w X.K X.mg X.base CX k f fd ps sp)(hr:Room k X.A)(hg:Gl X x)(hm:X.mg x=AA (.ref f))(hk:Bj X.K (.ref f)=AC)(hb:t6 X.K fd ps ds)(hd:f7 dvs ds)(hx:Q9 CX X E)
  (ha:PA X (e::es) t) (hdb:(x==("__debug__":Str))=AE:=by decide) (he:Am (e::es) X.env=(AE,eval e X.env)::Am es X.env:=by rfl) (hpl:(Bq pos (Am es X.env)).any (·.1)=AE:=by rfl) :
  PE X (.Call (.Name x p) (e::es) [] pos) (c27 sp dvs E t):=by
 intro pins s σ H Q I h;refine Bz (Q1 I hg hm ?_ hdb);refine Dc (h₀:=X.base) I.ok.mod.kin hk (thn (ha pos pins s σ H _ I h) λus s1⟨vs,H1,I1,r,q⟩=>⟨I1.kIn,?_⟩) he hpl;exact N9 F hr hb hd hx I1 r q
structure Mk(K:AO)(C f:AI):Prop where
 makes:HI K C=AC
 init:BR K (.ref C) "__init__"=AA (AA (.ref f))
 fn:HR K (.ref f)=AC
 kp:Bj K (.ref C)=AC
def ay9(M:Mk X.K C f)(F:FnOk X.prog X.w X.K X.mg X.base CX k f fd ps sp)(hr:Room (k+1) X.A)(hb:t6 X.K fd ps ds)(hd:f7 dvs ds)
  (hx:Q9 CX X E) (I:Inv X pins σ H s) (r:f7 vs us)
  (h:∀x dx,H x=AD->H dx=AD->dx≠x->sp (.ref x::(vs++dvs)) (upd (upd H dx (.own x)) x (.ins C dx [])) (λv H2=>v=.non/\Q (.ref x) H2) E) :
  AU (model X.prog X.w) X.A (call (.ref C) us) (EP X pins σ Q) X.xe s:=by
 have hq:=h (s.heap.objs.size+1) s.heap.objs.size (I.hok.fresh (Hn _)) (I.hok.fresh (AY _)) (BS (Fk _));have I2:=Inv.made (C:=C) I;have r2:f7 (V.ref (s.heap.objs.size+1)::(vs++dvs)) (Ap (s.heap.objs.size+1)::(us++ds)):=.cons rfl (r.append hd);have hl:(Ap (s.heap.objs.size+1)::us++ds).length=ps.length:=by
  have e:=r2.length;rw[F.len _ _ _ _ hq]at e;exact e.symm
 refine wpAny_call (b73 (f:=f) I.kIn M.makes M.init (beq_iff_eq.mp M.fn) (GA (F.run _ X.stack _ _ ⟨Ap (s.heap.objs.size+1)::us,[]⟩ (Ap (s.heap.objs.size+1)::(us++ds)) _ _ E (hr.make C us [])
  (I2.env0.make C us []) (hb _ (Ap (s.heap.objs.size+1)::us) I2.kIn hl) r2 hq) λr s' hq'=>?_))
 cases r with
 |error e=>exact hx pins σ _ _ e s' I2 hq'
 |ok fl=>
  cases fl with
  |ret u=>
   obtain⟨v,H',I3,rv,ev,q3⟩:=I2.after hq';subst ev;exact⟨rv,⟨V.ref (s.heap.objs.size+1),H',I3,rfl,q3⟩⟩
  |next=>exact AZ hq'
  |brk=>exact AZ hq'
  |cont=>exact AZ hq'
def ch2(M:Mk X.K C f)(F:FnOk X.prog X.w X.K X.mg X.base CX k f fd ps sp)(hr:Room (k+1) X.A)(hg:Gl X x)(hm:X.mg x=AA (.ref C))(hb:t6 X.K fd ps ds)(hd:f7 dvs ds)(hx:Q9 CX X E)
  (ha:PA X (e::es) t) (hdb:(x==("__debug__":Str))=AE:=by decide) (he:Am (e::es) X.env=(AE,eval e X.env)::Am es X.env:=by rfl) (hpl:(Bq pos (Am es X.env)).any (·.1)=AE:=by rfl) :
  PE X (.Call (.Name x p) (e::es) [] pos) (bn1 C sp dvs E t):=by
 intro pins s σ H Q I h;refine Bz (Q1 I hg hm ?_ hdb);refine Dc (h₀:=X.base) I.ok.mod.kin M.kp (thn (ha pos pins s σ H _ I h) λus s1⟨vs,H1,I1,r,q⟩=>⟨I1.kIn,?_⟩) he hpl;exact ay9 M F hr hb hd hx I1 r q
def b72(M:Mk X.K C f)(F:FnOk X.prog X.w X.K X.mg X.base CX k f fd ps sp)(hr:Room (k+1) X.A)(hg:Gl X x)(hm:X.mg x=AA (.ref C))(hb:t6 X.K fd ps ds)(hd:f7 dvs ds)(hx:Q9 CX X E)
  (hdb:(x==("__debug__":Str))=AE:=by decide):PE X (.Call (.Name x p) [] [] pos) (bn1 C sp dvs E aq8):=by
 intro pins s σ H Q I h;refine Bz (Q1 I hg hm ?_ hdb);exact Jr I.kIn M.kp (ay9 (us:=[]) M F hr hb hd hx I .nil h)
end
structure FnScope(N P:List Str)(sc:BG):Prop where
 kind:sc.kind=.function
 co:sc.isCoroutine=AE
 gen:sc.isGenerator=AE
 nd:N.Nodup
 pre:N.take P.length=P
 par:∀x∈P,sc.names.lookup x=AA .local\/sc.names.lookup x=AA .cell
 nofree:∀y∈sc.names,y.2≠.free
theorem ax0:∀{binds:List (Str×AG)}{m:Str->Option AG},(∀v,(x,v)∉binds)->He kindOf binds m x=m x
 |[],_,_=>rfl
 |(n,v)::r,m,h=>by
  unfold He;rw[ax0 λw hw=>h w (Ao _ hw)]
  split
  ·have:x≠n:=by rintro rfl;exact h v Bw
   simp[this]
  ·rfl
theorem au5:∀{binds:List (Str×AG)}{m:Str->Option AG},(∀v,(x,v)∉binds)->Hf kindOf binds m x=m x
 |[],_,_=>rfl
 |(n,v)::r,m,h=>by
  unfold Hf;rw[au5 λw hw=>h w (Ao _ hw)]
  split
  ·rfl
  ·have:x≠n:=by rintro rfl;exact h v Bw
   simp[this]
theorem aw8{v:AG}:∀{P:List Str}{vs:List AG}{i:Nat}{m:Str->Option AG},P.Nodup->P[i]?=AA x->vs[i]?=AA v->kindOf x=AA .local ->
  He kindOf (P.zip vs) m x=AA v
 |[],_,_,_,_,h,_,_=>by simp at h
 |_::_,[],_,_,_,_,h,_=>by simp at h
 |p::P,w::vs,0,m,nd,h1,h2,hk=>by
  simp at h1 h2;subst h1;subst h2;show He kindOf ((p,w)::P.zip vs) m p=_;unfold He;rw[ax0 λv hv=>(BL.mp nd).1 (Fl hv).1,if_pos hk];simp
 |p::P,w::vs,i+1,m,nd,h1,h2,hk=>by
  show He kindOf ((p,w)::P.zip vs) m x=_;unfold He;exact aw8 (i:=i) (BL.mp nd).2 (by simpa using h1) (by simpa using h2) hk
theorem av8{v:AG}:∀{P:List Str}{vs:List AG}{i:Nat}{m:Str->Option AG},P.Nodup->P[i]?=AA x->vs[i]?=AA v->kindOf x≠AA .local ->
  Hf kindOf (P.zip vs) m x=AA v
 |[],_,_,_,_,h,_,_=>by simp at h
 |_::_,[],_,_,_,_,h,_=>by simp at h
 |p::P,w::vs,0,m,nd,h1,h2,hk=>by
  simp at h1 h2;subst h1;subst h2;show Hf kindOf ((p,w)::P.zip vs) m p=_;unfold Hf;rw[au5 λv hv=>(BL.mp nd).1 (Fl hv).1,if_neg hk];simp
 |p::P,w::vs,i+1,m,nd,h1,h2,hk=>by
  show Hf kindOf ((p,w)::P.zip vs) m x=_;unfold Hf;exact av8 (i:=i) (BL.mp nd).2 (by simpa using h1) (by simpa using h2) hk
abbrev y4(N:List Str)(vs:List V):St:=vs.map AA++Ak (N.length-vs.length) AD
abbrev ab8(CX:CXT)(P:Aj)(w:BB)(K:AO)(mg:Str->Option AG)(base:BI)(N:List Str)(qual:Str)(scope:BG)(f:AI)(cd:AG)(A:BP)(outer:List Env)(s:AK)(H:Hp)(E:XK):Cx where
 prog:=P
 w:=w
 K:=K
 mg:=mg
 base:=base
 A:=A.deeper (GQ qual scope s.heap.objs.size f cd)
 N:=N
 s₀:=s
 H₀:=H
 env:=GQ qual scope s.heap.objs.size f cd
 outer:=outer
 stack:=GQ qual scope s.heap.objs.size f cd::outer
 ex:=[]
 calm:=AC
 fn:=λ_=>AC
 pn:=[]
 xe:=λe s'=>AU (model P w) (A.deeper (GQ qual scope s.heap.objs.size f cd)) (leaving (GQ qual scope s.heap.objs.size f cd) e) (λ_ s''=>CX outer H s E e s'') (λe' s''=>CX outer H s E e' s'') s'
def az9{sc:BG}{n:Nat}(h:sc.names.lookup x=AA .cell):∃c,(Jf n sc.names []).lookup x=AA c:=by
 have q:=Ix sc.names n [] (.inl h);exact BX.mp q
def b44{CX:CXT}{P:Aj}{w:BB}{K:AO}{mg:Str->Option AG}{base:BI}{N:List Str}{qual:Str}{scope:BG}{f:AI}{cd:AG}{outer:List Env}{s1:AK}{E:XK}
  (S:FnScope N ps scope) (hd:A.handled=AD) (e0:Env0 P w K mg base A outer s H) (hl:vs.length=ps.length) (r:f7 vs us)
  (x:InCallC s s.heap.objs.size (He (GQ qual scope s.heap.objs.size f cd).kindOf (ps.zip us) λ_=>AD) (Jf (s.heap.objs.size+1) scope.names []) (Hf (GQ qual scope s.heap.objs.size f cd).kindOf (ps.zip us) λ_=>AD) s1) :
  Inv (ab8 CX P w K mg base N qual scope f cd A outer s H E) [] (y4 N vs) H s1:=by
 have hpl:ps.length<=N.length:=by have:=congrArg Di S.pre;rw[Bl]at this;lia
 obtain ⟨h1,tk,rfl,hk⟩:=x.done;have noA:∀ b:AI,b ∉ (ab8 CX P w K mg base N qual scope f cd A outer s H E).ex:=λb z=>absurd (show b ∈ ([]:List AI) from z) ∎;refine ⟨⟨e0.mod,S.kind,rfl,rfl,AY _,λy z c h1 h2=>?_,λy hy=>?_,λy c _ h=>?_,λ_=>hd,Gm e0.frames,.inr ⟨rfl,rfl⟩,λb z=>absurd z (noA b),e0.bs,e0.bsz,λb _ _=>noA b,λb z=>absurd z (noA b),e0.funs,e0.frf⟩,
  rfl,e0.bare,Un.kept hk,⟨_,x.toInCall.ns,λi y v h1 h2 h3=>?_⟩,λy c h=>⟨_,x.cell y c h⟩,e0.hok.fresh (AY _),λy c h=>?_,λp hp=>absurd (show p ∈ ([]:List (AI × Obj)) from hp) ∎,e0.hok.kept hk,?_⟩
 ·exact name_of_addr x.apart (PySem.mem_of_lookup h1) (PySem.mem_of_lookup h2)
 ·have hy:scope.names.lookup y=AA .cell\/scope.names.lookup y=AA .free:=hy
  rcases hy with hy|hy
  ·exact az9 hy
  ·exact absurd rfl (S.nofree _ (PySem.mem_of_lookup hy))
 ·exact Fv (x.above y c (PySem.mem_of_lookup h))
 ·have hi:i<vs.length:=by
   unfold y4 at h2
   by_cases hi:i<vs.length
   ·exact hi
   ·rw[Af (by simpa using hi)]at h2;rw[Ct]at h2
    split at h2<;>cases h2
  have ha:vs[i]?=AA v:=by
   unfold y4 at h2;rw[Aa (by simpa using hi),Al]at h2;cases e:vs[i]? with
   |none=>rw[e]at h2;cases h2
   |some a=>rw[e]at h2;cases h2;rfl
  obtain⟨u,hu,rv⟩:=r.get ha;have hp:ps[i]?=AA y:=by
   rw[<-S.pre,GY ⋯];exact h1
  have ndP:ps.Nodup:=by rw[<-S.pre];exact S.nd.sublist (Ho _ _)
  refine⟨u,rv,?_⟩
  rcases S.par y (BN hp)with k|k
  ·exact .inl ⟨k,aw8 ndP hp hu k⟩
  ·obtain⟨c,e⟩:=az9 (n:=s.heap.objs.size+1) k;refine .inr ⟨.inl k,c,e,?_⟩;have q:=x.cell y c e;rw[av8 ndP hp hu (by show scope.names.lookup y≠_;rw[k];decide)]at q;exact q
 ·exact .inl (e0.hok.fresh (Fv (x.above y c (PySem.mem_of_lookup h))))
 ·unfold y4;show _=N.length;rw[AX,AT,EN];lia
end L2
namespace L2
open PySem PySem.Spec PyProof.Rows
section
variable {X:Cx} {x:Str} {p pos:Pos} {e:AQ} {es:List AQ} {t:TA} {id T:String} {r:List V->Hp->VK->Prop}
abbrev tCB(r:List V->Hp->VK->Prop)(t:TA):TE:=λσ H Q=>t σ H λvs H1=>r vs H1 Q
def aj4(hc:D5 X (.builtin id) r)(hg:Gl X x)(hm:X.mg x=AD)(hv:BA x=AA (.builtin id))(ha:PA X (e::es) t)(hn:x≠"__name__":=by decide)(hdb:(x==("__debug__":Str))=AE:=by decide)
  (he:Am (e::es) X.env=(AE,eval e X.env)::Am es X.env:=by rfl) (hpl:(Bq pos (Am es X.env)).any (·.1)=AE:=by rfl):PE X (.Call (.Name x p) (e::es) [] pos) (tCB r t):=by
 intro pins s σ H Q I h;refine Bz (L5 I hg hm hv ?_ hn hdb);exact Jt (thn (ha pos pins s σ H _ I h) λus s1⟨vs,H1,I1,r1,q1⟩=>hc pins s1 σ H1 vs us Q I1 r1 q1) he hpl
def b24(hc:D5 X (.type T) r)(hg:Gl X x)(hm:X.mg x=AD)(hv:BA x=AA (.type T))(ha:PA X (e::es) t)(hn:x≠"__name__":=by decide)(hdb:(x==("__debug__":Str))=AE:=by decide)
  (he:Am (e::es) X.env=(AE,eval e X.env)::Am es X.env:=by rfl) (hpl:(Bq pos (Am es X.env)).any (·.1)=AE:=by rfl):PE X (.Call (.Name x p) (e::es) [] pos) (tCB r t):=by
 intro pins s σ H Q I h;refine Bz (L5 I hg hm hv ?_ hn hdb);exact BY (thn (ha pos pins s σ H _ I h) λus s1⟨vs,H1,I1,r1,q1⟩=>hc pins s1 σ H1 vs us Q I1 r1 q1) he hpl
end
end L2
namespace HT
open PySem PyProof.Rows
section
open PySem.SeqAt
open PySem.AutoSeq1 (wpAny_loadPart')
open PySem.MeetsSeq PySem.MeetsSeq2 PySem.MeetsSeq3
end
section
variable {prog:Aj} {w:BB} {A:BP} {E:AG->AK->Prop} {s:AK}
def cat_tup{t b:AI}{vs ws:List AG}{Q:AG->AK->Prop}(ht:Gw s.heap t vs.toArray)(hb:Gw s.heap b ws.toArray)(hv:vs≠[])
  (h1:ws=[]->Q (.ref t) s) (h2:ws≠[]->Q (.ref s.heap.objs.size) {s with heap:=s.heap.push {cls:=.type "tuple",data:=.seq (vs++ws).toArray}})
  (hsz:vs.length+ws.length<=sizeLine):AU (model prog w) A (Ch .Add (.ref t) (.ref b)) Q E s:=by
 obtain⟨⟨cls,dd,data,sl⟩,ho,hc,n,hd⟩:=id ht;obtain⟨⟨cls2,dd2,data2,sl2⟩,ho2,hc2,n2,hd2⟩:=id hb;simp only at hc hd hc2 hd2;subst hc hd hc2 hd2;have e:vs.toArray++ws.toArray=(vs++ws).toArray:=by simp
 by_cases hw:ws=[]
 ·exact Hq ⟨_,ho,rfl⟩ ⟨_,ho2,rfl⟩ GR HS PySem.F.slot_tuple_add PySem.F.entry_tuple_add (PySem.F.args_tuple_add_2 _ _)
   (tuple_addW1 t b vs.toArray ws.toArray n n2 dd dd2 sl sl2 (by simpa using hv) (by simp[hw])) ⟨ho,ho2,h1 hw⟩
 ·refine Hq ⟨_,ho,rfl⟩ ⟨_,ho2,rfl⟩ GR HS PySem.F.slot_tuple_add PySem.F.entry_tuple_add (PySem.F.args_tuple_add_2 _ _)
   (tuple_addW2 t b vs.toArray ws.toArray n n2 dd dd2 sl sl2 (by simpa using hv) (by simpa using hw) (by rw[Ab,Ab];exact hsz)) ⟨ho,ho2,?_⟩
  rw[e];exact h2 hw
abbrev sIx(n d:Nat):Option Int->Nat
 |none=>d
 |some v=>if v<0 then(v+(n:Int)).toNat else min v.toNat n
def sIx_none(n d:Nat):sIx n d AD=d:=rfl
def sIx_nat(n d k:Nat):sIx n d (AA (k:Int))=min k n:=by
 show(if(k:Int)<0 then((k:Int)+(n:Int)).toNat else min (k:Int).toNat n)=min k n;rw[if_neg ⋯,Cu]
def bf2(n d:Nat)(hd:d<=n)(o:Option Int):sIx n d o<=n:=by
 cases o with
 |none=>exact hd
 |some v=>
  show(if v<0 then(v+(n:Int)).toNat else min v.toNat n)<=n
  by_cases hv:v<0
  ·rw[if_pos hv];lia
  ·rw[if_neg hv];exact GB _ _
def a80(v:Int)(n d:Nat):(if v<0 then max (v+(n:Int)) 0 else min v (n:Int))=((sIx n d (AA v):Nat):Int):=by
 show(if v<0 then max (v+(n:Int)) 0 else min v (n:Int))=(((if v<0 then(v+(n:Int)).toNat else min v.toNat n):Nat):Int)
 by_cases hv:v<0
 ·simp only[if_pos hv];lia
 ·simp only[if_neg hv];lia
def bz7(lo hi:Option Int)(n:Nat):DF lo hi 1 (n:Int)=(((sIx n 0 lo:Nat):Int),((sIx n n hi:Nat):Int)):=by
 have h1:¬((1:Int)<0):=by lia
 unfold DF;simp only[h1,if_false];refine Prod.ext ?_ ?_
 ·cases lo with
  |none=>rfl
  |some v=>exact a80 v n 0
 ·cases hi with
  |none=>rfl
  |some v=>exact a80 v n n
def bz5(i j:Nat):CQ (i:Int) (j:Int) 1=j-i:=by
 unfold CQ;have h1:(1:Int)>0:=by lia
 simp only[h1,if_true,Int.ediv_one]
 split<;>lia
def at0{v:AG}{o:Option Int}{Q:Option Int->AK->Prop}(p:FK v o)(h:Q o s):AU (model prog w) A (Jg v) Q E s:=by
 cases p with
 |none=>exact KG h
 |int i t=>exact slicePart_int h
def ar6{sl:AI}{vl vu:AG}{lo hi:Option Int}{n:Nat}{Q:Int×Int×Nat->AK->Prop}(hs:s.heap.IsSliceOf sl vl vu .none)(pl:FK vl lo)(pu:FK vu hi)
  (h:Q (((sIx n 0 lo:Nat):Int),1,sIx n n hi-sIx n 0 lo) s):AU (model prog w) A (Eu (.ref sl) (pure (n:Int))) Q E s:=by
 obtain⟨os,hos,hcs,hds⟩:=id hs;unfold Eu Jh;refine AF (AF (Bm hos hds (x:=vl) rfl (AF (Bm hos hds (x:=vu) rfl (AF (Bm hos hds (x:=.none) rfl (AM ?_)))))));refine AF (KG ?_);show AU _ _ (if((1:Int)==0)=AC then _ else _) _ _ s;rw[if_neg ∅];refine AF (at0 pl (AF (at0 pu (AF (AM ?_)))));show AU _ _ (match DF lo hi 1 (n:Int)with|(lo,hi)=>pure (lo,(1:Int),CQ lo hi 1)) _ _ s;rw[bz7 lo hi n];show AU _ _ (pure (((sIx n 0 lo:Nat):Int),(1:Int),CQ ((sIx n 0 lo:Nat):Int) ((sIx n n hi:Nat):Int) 1)) _ _ s;rw[bz5];exact AM h
def cc8(xs:Array AG)(i k:Nat):((Cz k).filterMap λ(m:Nat)=>xs[((i:Int)+(m:Int)*1).toNat]?).toArray=((xs.toList.drop i).take k).toArray:=by
 have e:(λ(m:Nat)=>xs[((i:Int)+(m:Int)*1).toNat]?)=λm=>xs[i+m]?:=by
  funext m
  have:((i:Int)+(m:Int)*1).toNat=i+m:=by lia
  rw[this]
 rw[e];have:=pick_run xs i k;rw[List.filterMap_map]at this;have e2:((λx=>xs[x]?)∘λx=>i+x)=λm=>xs[i+m]?:=rfl;rw[e2]at this;rw[this]
def getItem_tuple_cut{t sl:AI}{items:Array AG}{vl vu:AG}{lo hi:Option Int}{Q:AG->AK->Prop}(ht:Gw s.heap t items)(hs:s.heap.IsSliceOf sl vl vu .none)(pl:FK vl lo)(pu:FK vu hi)
  (hw:¬(sIx items.size 0 lo=0/\sIx items.size items.size hi=items.size))
  (h:Q (.ref s.heap.objs.size) {s with heap:=s.heap.push {cls:=.type "tuple",data:=.seq ((items.toList.drop (sIx items.size 0 lo)).take (sIx items.size items.size hi-sIx items.size 0 lo)).toArray}})
  (hsz:items.size<=sizeLine):AU (model prog w) A (DR (.ref t) (.ref sl)) Q E s:=by
 have htake:sizeOk (.seq ((items.toList.drop (sIx items.size 0 lo)).take (sIx items.size items.size hi-sIx items.size 0 lo)).toArray):=by
  show((items.toList.drop (sIx items.size 0 lo)).take (sIx items.size items.size hi-sIx items.size 0 lo)).toArray.size<=sizeLine;rw[Ab,Bl,CS,Ec];lia
 have hj:sIx items.size items.size hi<=items.size:=bf2 _ _ (AY _) hi;obtain⟨os,hos,hcs,hds⟩:=id hs;have hTs:s.TypeIs (.ref sl) "slice":=⟨os,hos,hcs⟩;unfold DR
 try with_reducible refine CZ ?_
 first|refine AF (AM ?_)|skip
 refine AF (GC ht.typeIs ∅ ?_);refine AF (Be (name:=AV "__getitem__") ht.typeIs BM
  (BU BM ht.typeIs Ig ?_ (Iy _ _)))
 show AU _ _ (CM (.ref t)>>=_) _ _ s;refine AF (tupleItemsOf_ ht ?_);refine AF (GD hTs ?_);rw[if_pos ∅];refine AF (ar6 hs pl pu ?_);have hno:¬((((sIx items.size 0 lo:Nat):Int)==0&&(1:Int)==1&&(sIx items.size items.size hi-sIx items.size 0 lo)==items.size)=AC):=by
  intro q;rw[Au,Au]at q;have q1:((sIx items.size 0 lo:Nat):Int)=0:=eq_of_beq q.1.1;have q2:sIx items.size items.size hi-sIx items.size 0 lo=items.size:=eq_of_beq q.2;exact hw ⟨⋯,⋯⟩
 show AU _ _ (if(((sIx items.size 0 lo:Nat):Int)==0&&(1:Int)==1&&(sIx items.size items.size hi-sIx items.size 0 lo)==items.size)=AC then _ else _) _ _ s;rw[if_neg hno,cc8]
 first
  |exact AF (m:=CU _) (BZ (AM ⟨_,rfl,AM h⟩) htake)
  |exact AF (m:=CU _) (BZ (AF (AM (AM ⟨_,rfl,AM h⟩))) htake)
  |exact AF (AF (m:=CU _) (BZ (AM (AM ⟨_,rfl,AM h⟩)) htake))
  |exact AF (AF (m:=CU _) (BZ (AM ⟨_,rfl,AM h⟩) htake))
end
end HT
namespace L2
open PySem PySem.Spec PyProof.Rows
@[reducible]noncomputable def TO:=St->Hp->(Option Int->Hp->Prop)->Prop
abbrev PO(X:Cx)(e:Option AQ)(t:TO):Prop:=
 ∀(pins:List (AI×Obj))(s:AK)(σ:St)(H:Hp)(Q:Option Int->Hp->Prop),Inv X pins σ H s->t σ H Q ->
  AU (model X.prog X.w) X.A (evalPart e X.env) (λu s'=>∃o H',Inv X pins σ H' s'/\FK u o/\Q o H') X.xe s
abbrev cj9:TO:=λ_ H Q=>Q AD H
abbrev cy0(t:TE):TO:=λσ H Q=>t σ H λx H1=>∃i,x=.int i/\Q (AA i) H1
def bz4{ns:List Int}:∀{us:List AG},f7 (ns.map V.int) us->GE us ns:=by
 induction ns with
 |nil=>intro us r;rw[Dj]at r;cases r;exact .nil
 |cons n ns ih=>
  intro us r;rw[Ah]at r;cases r with
  |cons r1 r2=>
   obtain⟨t,e⟩:=r1;subst e;exact .cons n t (ih r2)
section
variable {X:Cx} {e:AQ} {te:TE} {lo hi:Option AQ} {tl th:TO} {pos p2:Pos}
def ce8:PO X AD cj9:=by
 intro pins s σ H Q I h;rw[evalPart_none];exact AM ⟨AD,H,I,.none,h⟩
def ch1(h:PE X e te):PO X (AA e) (cy0 te):=by
 intro pins s σ H Q I hw;rw[evalPart_some];refine thn (h pins s σ H _ I hw) λu s1 z23=>?_;obtain⟨x,H1,I1,r1,q1⟩:=z23;obtain⟨i,rfl,q⟩:=q1;obtain⟨t,rfl⟩:=r1;exact⟨AA i,H1,I1,.int i t,q⟩
abbrev SlR(X:Cx)(r:V->Option Int->Option Int->Hp->VK->Prop):Prop:=
 ∀(pins:List (AI×Obj))(s:AK)(σ:St)(H:Hp)(x:V)(v vl vu:AG)(lo hi:Option Int)(sl:AI)(Q:VK),Inv X pins σ H s->f8 x v->s.heap.IsSliceOf sl vl vu .none->FK vl lo->FK vu hi->r x lo hi H Q ->
  ∃T id,Iz (.type T) "__getitem__"=pure (AA (.builtin id))/\s.TypeIs v T/\AU (model X.prog X.w) X.A (DR v (.ref sl)) (EP X pins σ Q) X.xe s
def SlR.or{r r':V->Option Int->Option Int->Hp->VK->Prop}(h:SlR X r)(h':SlR X r'):SlR X (λx lo hi H Q=>r x lo hi H Q\/r' x lo hi H Q):=by
 intro pins s σ H x v vl vu lo hi sl Q I rx hs pl pu q
 rcases q with q|q
 ·exact h pins s σ H x v vl vu lo hi sl Q I rx hs pl pu q
 ·exact h' pins s σ H x v vl vu lo hi sl Q I rx hs pl pu q
abbrev tSl(r:V->Option Int->Option Int->Hp->VK->Prop)(te:TE)(tl th:TO):TE:=λσ H Q=>te σ H λx H1=>tl σ H1 λl H2=>th σ H2 λu H3=>r x l u H3 Q
def az2{r:V->Option Int->Option Int->Hp->VK->Prop}(hr:SlR X r)(he:PE X e te)(hl:PO X lo tl)(hu:PO X hi th):PE X (.Subscript e (.Slice lo hi AD p2) pos) (tSl r te tl th):=by
 intro pins s σ H Q I h;refine JA (thn (he pins s σ H _ I h) λv s1 z24=>?_);obtain⟨x,H1,I1,r1,q1⟩:=z24;refine wpAny_Slice (thn (hl pins s1 σ H1 _ I1 q1) λvl s2⟨l,H2,I2,pl,q2⟩=>thn (hu pins s2 σ H2 _ I2 q2) λvu s3 z25=>?_);obtain⟨u,H3,I3,pu,q3⟩:=z25;rw[evalPart_none];refine AM ?_;have I4:Inv X pins σ H3 {s3 with heap:=s3.heap.push {cls:=.type "slice",data:=.fields #[vl,vu,.none]}}:=I3.kept (t':=s3.toks) λb ob q=>AS _ q;obtain⟨T,id,hT,ht,hg⟩:=hr pins {s3 with heap:=s3.heap.push {cls:=.type "slice",data:=.fields #[vl,vu,.none]}} σ H3 x v vl vu l u s3.heap.objs.size Q I4 r1 (JJ ..) pl pu q3;show AU (model X.prog X.w) X.A (Fh e (.Slice lo hi AD p2) v (.ref s3.heap.objs.size)) (EP X pins σ Q) X.xe {s3 with heap:=s3.heap.push {cls:=.type "slice",data:=.fields #[vl,vu,.none]}};exact tail_any (ops:=[.ref s3.heap.objs.size,v]) ht hT hg (by with_unfolding_all rfl)
abbrev M9(xs:List V)(lo hi:Option Int):List V:=(xs.drop (HT.sIx xs.length 0 lo)).take (HT.sIx xs.length xs.length hi-HT.sIx xs.length 0 lo)
def as6(xs:List V)(lo hi:Option Int):(M9 xs lo hi).length<=xs.length:=by
 unfold M9;rw[Bl,CS];lia
abbrev c34(K:AO):V->Option Int->Option Int->Hp->VK->Prop:=λx lo hi H Q=>∃a xs,x=.ref a/\SqT K H a xs /\
 ¬(HT.sIx xs.length 0 lo=0/\HT.sIx xs.length xs.length hi=xs.length)/\∀p,H p=AD->Q (.ref p) (upd H p (.tup (M9 xs lo hi)))
def bb4:SlR X (c34 X.K):=by
 intro pins s σ H x v vl vu lo hi sl Q I rx hs pl pu h;obtain⟨a,xs,rfl,hx,hw,q⟩:=h;cases rx;obtain⟨its,r,ht,hz⟩:=I.tuple hx;have hlen:its.toArray.size=xs.length:=by rw[Ab];exact r.length.symm
 refine⟨"tuple",_,BM.lookup,ht.typeIs,?_⟩;refine HT.getItem_tuple_cut ht hs pl pu (by rw[hlen];exact hw) ?_ (by rw[hlen];exact hz);rw[hlen];refine⟨.ref s.heap.objs.size,_,I.laid (t':=s.toks) (o:=.tup (M9 xs lo hi)) (λb ob q=>AS _ q) (AY _) ?_,rfl,q _ (I.hok.fresh (AY _))⟩;exact⟨BC (as6 xs lo hi) hz,_,(r.drop (HT.sIx xs.length 0 lo)).take (HT.sIx xs.length xs.length hi-HT.sIx xs.length 0 lo),D3.new _ _⟩
abbrev c30(K:AO):R2:=λx y H Q=>∃a b xs ys,x=.ref a/\y=.ref b/\SqT K H a xs/\SqT K H b ys/\xs≠[]/\xs.length+ys.length<=sizeLine /\
 (ys=[]->Q (.ref a) H)/\(ys≠[]->∀p,H p=AD->Q (.ref p) (upd H p (.tup (xs++ys))))
def f7.nil_iff{xs:List V}{us:List AG}(r:f7 xs us):us=[]↔xs=[]:=by
 cases r with
 |nil=>simp
 |cons _ _=>simp
def ch0:OpR X (Ch .Add) (c30 X.K):=by
 intro pins s σ H x y v u Q I rx ry h;obtain⟨a,b,xs,ys,rfl,rfl,ha,hb,hx,hz,q1,q2⟩:=h;cases rx;cases ry;obtain⟨its,r1,p1,_⟩:=I.tuple ha;obtain⟨its2,r2,p2,_⟩:=I.tuple hb;refine HT.cat_tup p1 p2 (λz=>hx (r1.nil_iff.mp z)) (λz=>⟨.ref a,H,I,rfl,q1 (r2.nil_iff.mp z)⟩) (λz=>?_) (by rw[<-r1.length,<-r2.length];exact hz);refine⟨.ref s.heap.objs.size,_,I.laid (t':=s.toks) (o:=.tup (xs++ys)) (λb ob q=>AS _ q) (AY _) ?_,rfl,q2 (λw=>z (r2.nil_iff.mpr w)) _ (I.hok.fresh (AY _))⟩;exact⟨by rw[AX];exact hz,_,r1.append r2,D3.new _ _⟩
end
variable{pins:List (AI×Obj)}{σ:St}{H:Hp}{s:AK}
abbrev ixN(n:Nat)(i:Int):Option Nat:=if 0<=i then(if i<n then AA i.toNat else AD)else if -(n:Int)<=i then AA (i+n).toNat else AD
abbrev atI{α:Type}(xs:List α)(i:Int):Option α:=(ixN xs.length i).bind λj=>xs[j]?
def al4{n:Nat}{i:Int}{j:Nat}(h:ixN n i=AA j):Hg i n=AA j/\j<n/\-(n:Int)<=i/\i<n:=by
 unfold ixN at h
 by_cases h0:0<=i
 ·rw[if_pos h0]at h
  by_cases h1:i<n
  ·rw[if_pos h1]at h;have e:i.toNat=j:=As h;exact⟨by rw[IK h0 h1,e],⋯,⋯,h1⟩
  ·rw[if_neg h1]at h;cases h
 ·rw[if_neg h0]at h
  by_cases h1:-(n:Int)<=i
  ·rw[if_pos h1]at h;have e:(i+n).toNat=j:=As h;exact⟨by rw[Hr ⋯ h1,e],⋯,h1,⋯⟩
  ·rw[if_neg h1]at h;cases h
def ak9{α:Type}{xs:List α}{i:Int}{v:α}(h:atI xs i=AA v):∃j,Hg i xs.length=AA j/\xs[j]?=AA v/\j<xs.length/\-(xs.length:Int)<=i/\i<xs.length:=by
 unfold atI at h;cases e:ixN xs.length i with
 |none=>rw[e]at h;cases h
 |some j=>
  rw[e]at h;obtain⟨h1,h2,h3,h4⟩:=al4 e;exact⟨j,h1,h,h2,h3,h4⟩
abbrev a78(b:AQ):Prop:=∀o i,subscripted b AE o i=operate [o,i] (DR o i)
abbrev IxR(X:Cx)(r:R2):Prop:=
 ∀(value slice:AQ)(pins:List (AI×Obj))(s:AK)(σ:St)(H:Hp)(x y:V)(v u:AG)(Q:VK),Inv X pins σ H s->f8 x v->f8 y u->r x y H Q ->
  subscripted slice AE v u=operate [v,u] (DR v u)->AU (model X.prog X.w) X.A (Fh value slice v u) (EP X pins σ Q) X.xe s
abbrev MtR(X:Cx)(id:String)(r:V->List V->Hp->VK->Prop):Prop:=
 ∀(pins:List (AI×Obj))(s:AK)(σ:St)(H:Hp)(x:V)(xs:List V)(v:AG)(us:List AG)(Q:VK),Inv X pins σ H s->f8 x v->f7 xs us->r x xs H Q ->
  AU (model X.prog X.w) X.A (call (.builtin id) (v::us)) (EP X pins σ Q) X.xe s
section
variable {X:Cx} {a b:AQ} {ta tb:TE} {pos:Pos}
def IxR.or{r r':R2}(h:IxR X r)(h':IxR X r'):IxR X (λx y H Q=>r x y H Q\/r' x y H Q):=by
 intro value slice pins s σ H x y v u Q I rx ry q hs
 rcases q with q|q
 ·exact h value slice pins s σ H x y v u Q I rx ry q hs
 ·exact h' value slice pins s σ H x y v u Q I rx ry q hs
def cx9{r:R2}(hr:IxR X r)(ha:PE X a ta)(hb:PE X b tb)(hs:a78 b):PE X (.Subscript a b pos) (tOp r ta tb):=by
 intro pins s σ H Q I h;exact JA (aq2 ha hb I h λv u s2 x y H2 I2 rx ry q=>hr a b pins s2 σ H2 x y v u Q I2 rx ry q (hs _ _))
abbrev c72(K:AO):R2:=λx y H Q=>∃p xs i v,x=.ref p/\y=.int i/\SqL K H p xs/\atI xs i=AA v/\Q v H
abbrev c62(K:AO):R2:=λx y H Q=>∃p xs i v,x=.ref p/\y=.int i/\SqT K H p xs/\atI xs i=AA v/\Q v H
abbrev c42:R2:=λx y H Q=>∃z i c,x=.str z/\y=.int i/\z.length<=sizeLine/\atI z.cps.toList i=AA c/\Q (.str ⟨#[c]⟩) H
def ci6:IxR X (c72 X.K):=by
 intro value slice pins s σ H x y v u Q I rx ry h hs;obtain⟨p,xs,i,z,rfl,rfl,hq,he,q⟩:=h;cases rx;obtain⟨t,rfl⟩:=ry;obtain⟨its,r,pl,hz⟩:=I.list hq;obtain⟨j,h1,h2,h3,h4,h5⟩:=ak9 he;obtain⟨w,ew,rw'⟩:=r.get h2;have hl:=r.length;have hn:=V5;have fin:EP X pins σ Q w s:=⟨z,H,I,rw',q⟩
 by_cases h0:0<=i
 ·have hj:i.toNat=j:=by
   rw[IK h0 h5]at h1;exact As h1
  exact item_listR pl.isList h0 ⋯ (by rw[hj];simpa using ew) fin hs
 ·have hj:(i+(its.toArray.size:Int)).toNat=j:=by
   rw[Hr ⋯ h4]at h1;rw[Ab,<-hl];exact As h1
  exact Hs (x:=w) pl.isList.typeIs JK.lookup
   (wpAny_getItem_list_neg (Q:=λr s'=>r=w/\EP X pins σ Q r s') pl.isList ⋯ (by rw[Ab]<;>lia) ⋯ (by rw[hj];simpa using ew) ⟨rfl,fin⟩) hs
def cx0:IxR X (c62 X.K):=by
 intro value slice pins s σ H x y v u Q I rx ry h hs;obtain⟨p,xs,i,z,rfl,rfl,hq,he,q⟩:=h;cases rx;obtain⟨t,rfl⟩:=ry;obtain⟨its,r,pl,hz⟩:=I.tuple hq;obtain⟨j,h1,h2,h3,h4,h5⟩:=ak9 he;obtain⟨w,ew,rw'⟩:=r.get h2;have hl:=r.length;have hn:=V5;have fin:EP X pins σ Q w s:=⟨z,H,I,rw',q⟩;exact Hs (x:=w) pl.typeIs Dw.lookup
  (getItem_tuple (j:=j) (Q:=λr s'=>r=w/\EP X pins σ Q r s') pl ⋯ ⋯ (by rw[Ab,<-hl];exact h1) (by simpa using ew) ⟨rfl,fin⟩) hs
def cv1:IxR X c42:=by
 intro value slice pins s σ H x y v u Q I rx ry h hs;obtain⟨z,i,c,rfl,rfl,hz,he,q⟩:=h;obtain⟨t,rfl⟩:=rx;obtain⟨t',rfl⟩:=ry;obtain⟨j,h1,h2,h3,h4,h5⟩:=ak9 he;have hl:z.cps.toList.length=z.length:=by simp[Str.length]
 rw[hl]at h1 h4 h5;have hn:=V5;exact tail_any (typeIs_str s z t) slot_str_getitem.lookup (getItem_str (c:=c) (by
  have e1:AB (i < -(2^63:Int))=AE:=decide_eq_false ⋯;have e2:AB (i>=2^63)=AE:=decide_eq_false ⋯;rw[e1,e2,JB]) (by rw[h1];simpa using h2) ⟨.str ⟨#[c]⟩,H,I.tok _,⟨_,rfl⟩,q⟩) hs
def b07(its:List AG)(n j:Nat)(u:AG):EJ (·.setIfInBounds j u) {cls:=.type "list",data:=.seq its.toArray n}={cls:=.type "list",data:=.seq (its.set j u).toArray n}:=by
 simp[EJ]
theorem Inv.lst{p:AI}{xs:List V}(I:Inv X pins σ H s)(h:H p=AA (.lst xs)):
  ∃(its:List AG)(n:Nat),f7 xs its/\s.heap.get? p=AA {cls:=.type "list",data:=.seq its.toArray n}/\xs.length<=sizeLine:=by
 obtain⟨z,its,n,r,e⟩:=I.hok p _ h;exact⟨its,n,r,e,z⟩
def Inv.lstUpd{p:AI}{xs ys:List V}{its its':List AG}{n n':Nat}{f:Obj->Obj}(I:Inv X pins σ H s)(h:H p=AA (.lst xs))
  (ho:s.heap.get? p=AA {cls:=.type "list",data:=.seq its.toArray n}) (hf:f {cls:=.type "list",data:=.seq its.toArray n}={cls:=.type "list",data:=.seq its'.toArray n'}) (r:f7 ys its') (hz:ys.length<=sizeLine) (t:Nat) :
  Inv X pins σ (upd H p (.lst ys)) {s with heap:=s.heap.update p f,toks:=t}:=by
 have e:(s.heap.update p f).get? p=AA {cls:=.type "list",data:=.seq its'.toArray n'}:=by
  rw[EV f ho (by rw[hf]<;>rfl),hf]
 refine I.write (x:=p) (e:=p) (by rw[h];trivial) (.inl rfl) (λb u hb q=>(Gn _ _ (Aw hb)).trans q) ⟨_,e⟩ ?_;exact⟨hz,its',n',r,e⟩
abbrev cy8:V->V->V->Hp->(Hp->Prop)->Prop:=λo i v H Q=>∃p xs k j,o=.ref p/\i=.int k/\H p=AA (.lst xs)/\ixN xs.length k=AA j/\Q (upd H p (.lst (xs.set j v)))
def b60:bs2 X cy8:=by
 intro pins s σ H o i v ov iv u Q I ro ri rv h;obtain⟨p,xs,k,j,rfl,rfl,hp,hj,q⟩:=h;cases ro;obtain⟨t,rfl⟩:=ri;obtain⟨its,n,r,ho,hz⟩:=I.lst hp;obtain⟨h1,h2,h3,h4⟩:=al4 hj;have hl:=r.length;have hn:=V5;have I':Inv X pins σ (upd H p (.lst (xs.set j v))) {s with heap:=s.heap.update p (EJ (·.setIfInBounds j u))}:=
  I.lstUpd hp ho (b07 its n j u) (r.set rv j) (by rw[List.length_set];exact hz) s.toks
 by_cases h0:0<=k
 ·have hk:k.toNat=j:=by
   rw[IK h0 h4]at h1;exact As h1
  exact W.ki_setAt ho h0 ⋯ (by rw[Ab,<-hl];exact h4) (by rw[hk];exact⟨_,I',q⟩)
 ·have hk:(k+(its.toArray.size:Int)).toNat=j:=by
   rw[Hr ⋯ h3]at h1;rw[Ab,<-hl];exact As h1
  exact W.ki_setBack ho ⋯ (by rw[Ab,<-hl];exact h3) ⋯ (by rw[hk];exact⟨_,I',q⟩)
def bx4(lo hi:Option Int)(n:Nat):(DX lo hi AD n).1=((HT.sIx n 0 lo:Nat):Int)/\(DX lo hi AD n).2.1=((HT.sIx n n hi:Nat):Int)/\(DX lo hi AD n).2.2=1:=by
 refine⟨?_,?_,rfl⟩
 ·cases lo with
  |none=>simp[DX,HT.sIx]
  |some i=>
   simp only[DX,HT.sIx,Do,show(1:Int)>0 by decide,if_true]
   by_cases h:i<0
   ·simp only[h,if_true]<;>lia
   ·simp only[h,if_false]<;>lia
 ·cases hi with
  |none=>simp[DX,HT.sIx]
  |some i=>
   simp only[DX,HT.sIx,Do,show(1:Int)>0 by decide,if_true]
   by_cases h:i<0
   ·simp only[h,if_true]<;>lia
   ·simp only[h,if_false]<;>lia
def bw8(its:List AG)(lo hi:Option Int):slicePick its.toArray lo hi AD=((its.drop (HT.sIx its.length 0 lo)).take (HT.sIx its.length its.length hi-HT.sIx its.length 0 lo)).toArray:=by
 obtain⟨h1,h2,h3⟩:=bx4 lo hi its.toArray.size;unfold slicePick;rw[h1,h2,h3];simp only[sliceRange_one,pick_run,Ab]<;>rfl
abbrev c48(K:AO):V->Option Int->Option Int->Hp->VK->Prop:=λx lo hi H Q=>∃a xs,x=.ref a/\SqL K H a xs/\∀p,H p=AD->Q (.ref p) (upd H p (.lst (M9 xs lo hi)))
def cg3:SlR X (c48 X.K):=by
 intro pins s σ H x v vl vu lo hi sl Q I rx hs pl pu h;obtain⟨a,xs,rfl,hx,q⟩:=h;cases rx;obtain⟨its,r,ht,hz⟩:=I.list hx;have hlen:=r.length;refine⟨"list",_,JK.lookup,ht.isList.typeIs,?_⟩;refine wpAny_getItem_list_slice ht.isList hs pl pu .none ∎ ?_ (by rw[Ab]<;>lia);rw[bw8,<-hlen];refine⟨.ref s.heap.objs.size,_,I.laid (t':=s.toks) (o:=.lst (M9 xs lo hi)) (λb ob q=>AS _ q) (AY _) ?_,rfl,q _ (I.hok.fresh (AY _))⟩;exact⟨BC (as6 xs lo hi) hz,_,0,(r.drop (HT.sIx xs.length 0 lo)).take (HT.sIx xs.length xs.length hi-HT.sIx xs.length 0 lo),Aq _ rfl⟩
def bx0:D5 X (.builtin "len") (λxs H Q=>∃p ys,xs=[.ref p]/\(SqL X.K H p ys\/SqT X.K H p ys)/\Q (.int ys.length) H):=by
 intro pins s σ H xs us Q I r h;obtain⟨p,ys,rfl,hq,q⟩:=h;obtain⟨u,rfl,rx⟩:=T1 r;cases rx;have hn:=V5
 rcases hq with hq|hq
 ·obtain⟨its,r',pl,hz⟩:=I.list hq;have hlen:=r'.length;exact Calls.call_len_list pl.isList (by simp only[Ab]<;>lia) ⟨.int ys.length,H,I.tok _,⟨s.toks+1,by rw[Ab,hlen]⟩,q⟩
 ·obtain⟨its,r',pl,hz⟩:=I.tuple hq;have hlen:=r'.length;exact len_tuple pl (by simp only[Ab]<;>lia) ⟨.int ys.length,H,I.tok _,⟨s.toks+1,by rw[Ab,hlen]⟩,q⟩
def bx6:D5 X (.type "list") (λxs H Q=>∃p ys,xs=[.ref p]/\(SqL X.K H p ys\/SqT X.K H p ys)/\∀l,H l=AD->Q (.ref l) (upd H l (.lst ys))):=by
 intro pins s σ H xs us Q I r h;obtain⟨p,ys,rfl,hq,q⟩:=h;obtain⟨u,rfl,rx⟩:=T1 r;cases rx;have fin:∀(its:List AG),f7 ys its->ys.length<=sizeLine->∀(h':BI)(c':Nat),(∀b o',s.heap.get? b=AA o'->h'.get? b=AA o') ->
   h'.get? s.heap.objs.size=AA {cls:=.type "list",dict:=AD,data:=.seq its.toArray c',slots:=#[]}->EP X pins σ Q (.ref s.heap.objs.size) {s with heap:=h'}:=λits r' hz h' c' kp e=>
  ⟨.ref s.heap.objs.size,_,I.laid (t':=s.toks) kp (AY _) (show o7 X.prog X.w _ h' _ (.lst ys) from⟨hz,its,c',r',e⟩),rfl,q _ (I.hok.fresh (AY _))⟩
 rcases hq with hq|hq
 ·obtain⟨its,r',pl,hz⟩:=I.list hq;have hlen:=r'.length;obtain⟨o,ho,hc,n,hd⟩:=pl.isList;exact call_list_seq p (.inl rfl) ho hc hd (λh' c' kp e=>fin its r' hz h' c' kp e) (by simp only[Ab]<;>lia)
 ·obtain⟨its,r',pl,hz⟩:=I.tuple hq;have hlen:=r'.length;obtain⟨o,ho,hc,n,hd⟩:=pl;exact call_list_seq p (.inr rfl) ho hc hd (λh' c' kp e=>fin its r' hz h' c' kp e) (by simp only[Ab]<;>lia)
def bw9:D5 X (.type "tuple") (λxs H Q=>∃p ys,xs=[.ref p]/\((SqL X.K H p ys/\∀l,H l=AD->Q (.ref l) (upd H l (.tup ys)))\/(SqT X.K H p ys/\Q (.ref p) H))):=by
 intro pins s σ H xs us Q I r h;obtain⟨p,ys,rfl,h⟩:=h;obtain⟨u,rfl,rx⟩:=T1 r;cases rx
 rcases h with⟨hq,q⟩|⟨hq,q⟩
 ·obtain⟨its,r',pl,hz⟩:=I.list hq;have hlen:=r'.length;refine call_tuple_list pl.isList (λh' kp=>?_) (by simp only[Ab]<;>lia);have I1:Inv X pins σ H {s with heap:=h'}:=I.kept (t':=s.toks) kp;have I2:Inv X pins σ (upd H h'.objs.size (.tup ys)) {s with heap:=h'.push {cls:=.type "tuple",data:=.seq its.toArray}}:=
   I1.laid (t':=s.toks) (λb o e=>AS _ e) (AY _) (show o7 X.prog X.w _ _ _ (.tup ys) from⟨hz,its,r',D3.new _ _⟩)
  exact⟨.ref h'.objs.size,_,I2,rfl,q _ (I1.hok.fresh (AY _))⟩
 ·obtain⟨its,r',pl,hz⟩:=I.tuple hq;exact call_tuple_same pl ⟨.ref p,H,I,rfl,q⟩
abbrev tyV(K:AO)(T:String)(x:V)(H:Hp):Prop:=match x with
 |.str _=>T="str"
 |.int _=>T="int"
 |.ref p=>(T="list"/\∃xs,SqL K H p xs)\/(T="tuple"/\∃o,K.lookup p=AA o/\o.cls=.type "tuple"/\o.dict=AD)\/
   (T="dict"/\((∃kvs,H p=AA (.dK kvs))\/∃kvs,H p=AA (.dT kvs)))\/(T="set"/\∃S n,H p=AA (.set S n))
 |_=>False
def bc6{T:String}{x:V}{v:AG}(I:Inv X pins σ H s)(r:f8 x v)(ty:tyV X.K T x H):
  s.TypeIs v T/\∀a,v=.ref a->∃ob,s.heap.get? a=AA ob/\ob.dict=AD:=by
 cases x with
 |str z=>
  obtain⟨t,rfl⟩:=r;cases(show T="str" from ty);exact⟨typeIs_str s z t,λ_ e=>nomatch e⟩
 |int i=>
  obtain⟨t,rfl⟩:=r;cases(show T="int" from ty);exact⟨JC s i t,λ_ e=>nomatch e⟩
 |ref p=>
  cases r
  rcases ty with⟨rfl,xs,hq⟩|⟨rfl,o,hk,hc,hd⟩|⟨rfl,hk⟩|⟨rfl,S,n,hk⟩
  ·obtain⟨its,_,pl,_⟩:=I.list hq;refine⟨pl.isList.typeIs,λa e=>?_⟩;cases e;obtain⟨o,n,e,c,hd,_⟩:=pl;exact⟨o,e,hd⟩
  ·refine⟨⟨o,I.kIn p o hk,hc⟩,λa e=>?_⟩;cases e;exact⟨o,I.kIn _ o hk,hd⟩
  ·have z:∃o,s.heap.get? p=AA o/\o.ExactDict:=by
    rcases hk with⟨kvs,hk⟩|⟨kvs,hk⟩
    ·obtain⟨_,_,_,_,o,_,_,e,ex,_⟩:=I.hok p _ hk;exact⟨o,e,ex⟩
    ·obtain⟨_,_,_,_,o,_,_,e,ex,_⟩:=I.hok p _ hk;exact⟨o,e,ex⟩
   obtain⟨o,e,ex⟩:=z;refine⟨⟨o,e,ex.1⟩,λa e2=>?_⟩;cases e2;exact⟨o,e,ex.2.1⟩
  ·obtain⟨o,_,_,_,e,ex,_⟩:=I.hok p _ hk;refine⟨⟨o,e,ex.1⟩,λa e2=>?_⟩;cases e2;exact⟨o,e,ex.2.1⟩
 |_=>exact AZ ty
abbrev c39(K:AO)(T:String)(r:V->List V->Hp->VK->Prop)(to:TE):TE:=λσ H Q=>to σ H λx H1=>tyV K T x H1/\r x [] H1 Q
abbrev tBM(K:AO)(T:String)(r:V->List V->Hp->VK->Prop)(to:TE)(t:TA):TE:=λσ H Q=>to σ H λx H1=>tyV K T x H1/\t σ H1 λxs H2=>r x xs H2 Q
variable {o e:AQ} {es:List AQ} {to:TE} {t:TA} {name:Str} {apos cpos:Pos} {T id:String} {r:V->List V->Hp->VK->Prop}
def be0(pa:PlainAttrs T)(slot:Slot T name id)(hty:typeOf (.builtin id)=pure (.type "method_descriptor"))(hm:MtR X id r)(ho:PE X o to)
  (hbase:Cb o name X.env (eval o X.env)=eval o X.env:=by rfl) (hline:(apos.endLine==cpos.line)=AC:=by rfl):PE X (.Call (.Attribute o name apos) [] [] cpos) (c39 X.K T r to):=by
 intro pins s σ H Q I h;refine wpAny_Call_method0_late hbase hline (thn (ho pins s σ H _ I h) λv s1 z26=>?_);obtain⟨x,H1,I1,r1,ty,q1⟩:=z26;obtain⟨h1,h2⟩:=bc6 I1 r1 ty;exact⟨T,id,pa,slot,hty,h1,h2,Bn rfl (PySem.evalArgs_none (hm pins s1 σ H1 x [] v [] Q I1 r1 .nil q1))⟩
def c22(pa:PlainAttrs T)(slot:Slot T name id)(hty:typeOf (.builtin id)=pure (.type "method_descriptor"))(hm:MtR X id r)(ho:PE X o to)(ha:PA X (e::es) t)
  (hbase:Cb o name X.env (eval o X.env)=eval o X.env:=by rfl)
  (hfew:((Bq cpos (Am (e::es) X.env)).all (λx=>!x.1)&&(EW cpos (Cw [] X.env)).all (λx=>x.1.isSome)
   &&AB ((e::es).length+([]:List Go).length+(if([]:List Go).isEmpty then 0 else 1)<30))=AC:=by rfl)
  (hline:(apos.endLine==cpos.line)=AC:=by rfl) (hs:Am (e::es) X.env=(AE,eval e X.env)::Am es X.env:=by rfl) (hplain:(Bq cpos (Am es X.env)).any (·.1)=AE:=by rfl) :
  PE X (.Call (.Attribute o name apos) (e::es) [] cpos) (tBM X.K T r to t):=by
 intro pins s σ H Q I h;refine Hu hbase hfew hline rfl (thn (ho pins s σ H _ I h) λv s1 z27=>?_);obtain⟨x,H1,I1,r1,ty,q1⟩:=z27;obtain⟨h1,h2⟩:=bc6 I1 r1 ty;refine⟨T,id,pa,slot,hty,h1,h2,?_⟩;have hA:=ha cpos pins s1 σ H1 _ I1 q1;rw[hs]at hA ⊢;refine Bn (by show(AE||(Bq cpos (Am es X.env)).any (·.1))=AE;rw[hplain]<;>rfl) (CY ?_);exact thn hA λus s2⟨vs,H2,I2,r2,q2⟩=>hm pins s2 σ H2 x vs v us Q I2 r1 r2 q2
end
end L2
namespace L2
open PySem PySem.Spec PyProof.Rows
variable{us:List AG}{xs:List V}
abbrev MtM(X:Cx)(id:String)(r:V->List V->Hp->VK->Prop):Prop:=
 ∀(pins:List (AI×Obj))(s:AK)(σ:St)(H:Hp)(x:V)(xs:List V)(v:AG)(us:List AG)(Q:VK),Inv X pins σ H s->f8 x v->f7 xs us->r x xs H Q ->
  AU (model X.prog X.w) X.A (call (.builtin id) (v::us)) (EP X pins σ Q) X.xe s
def f7.one:∀{x:V}{us:List AG},f7 [x] us->∃u,us=[u]/\f8 x u
 |_,_,.cons r .nil=>⟨_,rfl,r⟩
def f7.two{x y:V}(h:f7 [x,y] us):∃u v,us=[u,v]/\f8 x u/\f8 y v:=by
 cases h with|cons r t=>cases t with|cons q t=>cases t;exact⟨_,_,rfl,r,q⟩
def f7.zero:∀{us:List AG},f7 [] us->us=[]
 |_,.nil=>rfl
theorem f7.dropLast(h:f7 xs us):f7 xs.dropLast us.dropLast:=by
 induction h with
 |nil=>exact .nil
 |cons r t ih=>
  cases t with
  |nil=>exact .nil
  |cons q t'=>exact .cons r ih
theorem f7.eraseIdx:∀{xs:List V}{us:List AG}(i:Nat),f7 xs us->f7 (xs.eraseIdx i) (us.eraseIdx i)
 |_,_,_,.nil=>.nil
 |_,_,0,.cons _ t=>t
 |_,_,i+1,.cons r t=>.cons r (f7.eraseIdx i t)
theorem f7.reverse(h:f7 xs us):f7 xs.reverse us.reverse:=by
 induction h with
 |nil=>exact .nil
 |cons r t ih=>rw[DG,DG];exact f7.append ih (.cons r .nil)
theorem f7.rep(h:f7 xs us):∀k:Nat,f7 (Ak k xs).flatten (Ak k us).flatten
 |0=>.nil
 |k+1=>by
  rw[Ci,Ci,DH,DH];exact f7.append h (f7.rep h k)
def by9{α:Type}(l:List α):l.eraseIdx (l.length-1)=l.dropLast:=by
 induction l with
 |nil=>rfl
 |cons a r ih=>
  cases r with
  |nil=>rfl
  |cons b r=>
   have e:(a::b::r).length-1=((b::r).length-1)+1:=by
    have h1:(a::b::r).length=r.length+2:=rfl;have h2:(b::r).length=r.length+1:=rfl;lia
   rw[e,List.eraseIdx_cons_succ,ih]
   all_goals rfl
theorem ax1{α:Type}:∀(l:List α)(i:Nat),(l.eraseIdx i).length<=l.length
 |[],_=>AY _
 |_::_,0=>Hn _
 |_::r,i+1=>Ay (ax1 r i)
theorem ai1(its:List AG):∀(k:Nat)(acc:List AG),
  Ez (λx1 x2=>x1++x2) acc.toArray (Ak k its.toArray)=(acc++(Ak k its).flatten).toArray
 |0,acc=>by simp
 |k+1,acc=>by
  have e:acc.toArray++its.toArray=(acc++its).toArray:=by simp
  have e2:(acc++its)++(Ak k its).flatten=acc++(Ak (k+1) its).flatten:=by
   rw[Ci,DH,Bk]
  rw[<-e2,<-ai1 its k (acc++its),<-e,Ci,List.foldl_cons]
section
variable {X:Cx} {pins:List (AI×Obj)} {σ:St} {H:Hp} {s:AK} {l b:AI} {ys zs:List V}
def Inv.lset{its its':List AG}{n:Nat}{f:Array AG->Array AG}{t':Nat}(I:Inv X pins σ H s)(hH:H l=AA (.lst xs))
  (e:s.heap.get? l=AA {cls:=.type "list",data:=.seq its.toArray n}) (hf:f its.toArray=its'.toArray) (hv:f7 ys its') (hz:ys.length<=sizeLine) :
  Inv X pins σ (upd H l (.lst ys)) {s with heap:=s.heap.update l (EJ f),toks:=t'}:=by
 have q:=PySem.IsL.update e f;rw[hf]at q;refine I.write (x:=l) (e:=l) (by rw[hH];exact trivial) (.inl rfl) (λb' u hb hu=>(Gn s.heap (EJ f) (Aw hb)).trans hu) ⟨_,q⟩ ?_;exact⟨hz,its',_,hv,q⟩
def Inv.lnew{its:List AG}{t':Nat}(I:Inv X pins σ H s)(hv:f7 ys its)(hz:ys.length<=sizeLine):
  Inv X pins σ (upd H s.heap.objs.size (.lst ys)) {s with heap:=s.heap.push {cls:=.type "list",data:=.seq its.toArray},toks:=t'}:=
 I.laid (λ_ _ q=>AS _ q) (AY _) ⟨hz,its,0,hv,Aq _ rfl⟩
theorem Inv.fresh(I:Inv X pins σ H s):H s.heap.objs.size=AD:=I.hok.fresh (AY _)
def Inv.lstM(I:Inv X pins σ H s)(hH:H l=AA (.lst xs)):xs.length<=sizeLine/\∃(its:List AG)(n:Nat),f7 xs its/\xs.length=its.length/\s.heap.get? l=AA {cls:=.type "list",data:=.seq its.toArray n}:=by
 obtain⟨z,its,n,r,e⟩:=I.hok l _ hH;exact⟨z,its,n,r,r.length,e⟩
def a03{n:Nat}(h:n<=sizeLine):Bu n=AE:=by
 unfold Bu;exact decide_eq_false ⋯
end
section
variable {X:Cx}
abbrev ch9:V->List V->Hp->VK->Prop:=λx vs H Q=>∃l xs y,x=.ref l/\vs=[y]/\H l=AA (.lst xs)/\xs.length<sizeLine/\Q .non (upd H l (.lst (xs++[y])))
def ax2:MtM X "list.append" ch9:=by
 intro pins s σ H x vs v us Q I rx rv h;obtain⟨l,xs,y,rfl,rfl,hH,hz,q⟩:=h;cases rx;obtain⟨u,rfl,ru⟩:=rv.one;obtain⟨z,its,n,r,hl,e⟩:=I.lstM hH;refine Cj F.slot_list_append ⟨_,e,rfl⟩ F.entry_list_append (F.args_list_append_2 _ _) (PySem.list_append l its.toArray n u (by rw[Ab];lia)) ⟨e,?_⟩;refine⟨.non,_,I.lset (its':=its++[u]) hH e ∎ (r.append (.cons ru .nil)) ?_,rfl,q⟩;rw[AX,HC];lia
abbrev a84:V->List V->Hp->VK->Prop:=λx vs H Q=>∃l b xs zs,x=.ref l/\vs=[.ref b]/\H l=AA (.lst xs)/\H b=AA (.lst zs)/\xs.length+zs.length<=sizeLine/\Q .non (upd H l (.lst (xs++zs)))
def b43:MtM X "list.extend" a84:=by
 intro pins s σ H x vs v us Q I rx rv h;obtain⟨l,b,xs,zs,rfl,rfl,hH,hB,hz,q⟩:=h;cases rx;obtain⟨u,rfl,ru⟩:=rv.one;cases ru;obtain⟨z,its,n,r,hl,e⟩:=I.lstM hH;obtain⟨z2,its2,n2,r2,hl2,e2⟩:=I.lstM hB;have hsz:its.toArray.size+its2.toArray.size<=sizeLine:=by rw[Ab,Ab];lia
 have hlong:¬(!its.toArray.isEmpty&&Bu (its.toArray.size+its2.toArray.size))=AC:=by
  rw[a03 hsz,Ih];exact AH
 refine Cj IL ⟨_,e,rfl⟩ ID (Hv _ _)
  (AutoSeq1.list_extend_list_list_0 l its.toArray n b its2.toArray n2 hlong (by rw[Ab];lia) ⋯) ⟨e,e2,?_⟩
 refine⟨.non,_,I.lset (its':=its++its2) hH e ∎ (r.append r2) ?_,rfl,q⟩;rw[AX];lia
abbrev c36:V->List V->Hp->VK->Prop:=λx vs H Q=>∃l xs y,x=.ref l/\vs=[]/\H l=AA (.lst xs)/\xs[xs.length-1]?=AA y/\Q y (upd H l (.lst xs.dropLast))
def cs7:MtM X "list.pop" c36:=by
 intro pins s σ H x vs v us Q I rx rv h;obtain⟨l,xs,y,rfl,rfl,hH,hy,q⟩:=h;cases rx;have hus:=rv.zero;subst hus;obtain⟨z,its,n,r,hl,e⟩:=I.lstM hH;obtain⟨u,hu,ru⟩:=r.get hy;have hy':its.toArray[its.toArray.size-1]?=AA u:=by
  show its.toArray[its.length-1]?=AA u;rw[<-Gp,<-hl];exact hu
 refine Cj JL ⟨_,e,rfl⟩ JD (F.args_list_pop_1 _) (MeetsSeq.list_pop_last l its.toArray n u hy' (by rw[Ab];lia)) ⟨e,?_⟩;refine⟨y,_,I.lset (its':=its.dropLast) hH e ?_ r.dropLast ?_,ru,q⟩
 ·show its.toArray.eraseIdxIfInBounds (its.toArray.size-1)=its.dropLast.toArray;rw[Ab,FX,by9]
 ·rw[List.length_dropLast];lia
abbrev cu4:V->List V->Hp->VK->Prop:=λx vs H Q=>∃l xs i k y,x=.ref l/\vs=[.int i]/\H l=AA (.lst xs)/\-(2^63)<=i/\i<2^63/\Hg i xs.length=AA k/\xs[k]?=AA y/\Q y (upd H l (.lst (xs.eraseIdx k)))
def ca8:MtM X "list.pop" cu4:=by
 intro pins s σ H x vs v us Q I rx rv h;obtain⟨l,xs,i,k,y,rfl,rfl,hH,h1,h2,hk,hy,q⟩:=h;cases rx;obtain⟨u,rfl,ru⟩:=rv.one;obtain⟨t,rfl⟩:=ru;obtain⟨z,its,n,r,hl,e⟩:=I.lstM hH;obtain⟨w,hw,rw'⟩:=r.get hy;refine Cj JL ⟨_,e,rfl⟩ JD (F.args_list_pop_2 _ _)
  (MeetsSeq.list_pop_at l its.toArray n i t k w (fitsIndex_both h1 h2) (by rw[Ab,<-hl];exact hk) (by rw[<-Gp];exact hw) (by rw[Ab];lia)) ⟨e,?_⟩
 refine⟨y,_,I.lset (its':=its.eraseIdx k) hH e ?_ (r.eraseIdx k) ?_,rw',q⟩
 ·show its.toArray.eraseIdxIfInBounds k=(its.eraseIdx k).toArray;rw[FX]
 ·have:=ax1 xs k;lia
abbrev c38:R2:=λx y H Q=>∃l b xs zs,x=.ref l/\y=.ref b/\H l=AA (.lst xs)/\H b=AA (.lst zs)/\xs.length+zs.length<=sizeLine/\∀p,H p=AD->Q (.ref p) (upd H p (.lst (xs++zs)))
def cu1:OpR X (Ch .Add) c38:=by
 intro pins s σ H x y v u Q I rx ry h;obtain⟨l,b,xs,zs,rfl,rfl,hH,hB,hz,q⟩:=h;cases rx;cases ry;obtain⟨z,its,n,r,hl,e⟩:=I.lstM hH;obtain⟨z2,its2,n2,r2,hl2,e2⟩:=I.lstM hB;refine PySem.P.add_list e e2 ?_ (by rw[Ab,Ab];lia);have ea:its.toArray++its2.toArray=(its++its2).toArray:=by simp
 rw[ea];exact⟨.ref _,_,I.lnew (t':=s.toks) (r.append r2) (by rw[AX];lia),rfl,q _ I.fresh⟩
def a60{α:Type}(xs:List α)(k:Nat):(Ak k xs).flatten.length=k*xs.length:=by
 induction k with
 |zero=>simp
 |succ k ih=>rw[Ci,DH,AX,ih,Nat.succ_mul,KH]
end
end L2
namespace L2
open PySem PySem.Spec PyProof.Rows
variable{kvs:List (Ad×V)}{o:Option V}{u:AG}{y v:V}{P:Aj}{w:BB}{H H':Hp}{xs:List (Ad×AI×AG)}{b a:AI}{X:Cx}{pins:List (AI×Obj)}{σ:St}{s:AK}{A:BP}{Q:AG->AK->Prop}{pos:Pos}
section
variable {κ:Type} [DecidableEq κ]
abbrev p8(kvs:List (κ×V))(k:κ):Option V:=(kvs.find? λkv=>AB (kv.1=k)).map (·.2)
abbrev v2(kvs:List (κ×V))(k:κ)(v:V):List (κ×V):=
 if(kvs.any λkv=>AB (kv.1=k))=AC then kvs.map (λkv=>if kv.1=k then(kv.1,v)else kv)else kvs++[(k,v)]
def aj2{p:κ×V}{r:List (κ×V)}{k:κ}(e:p.1=k):p8 (p::r) k=AA p.2:=by simp[p8,Bi,e]
def aj0{p:κ×V}{r:List (κ×V)}{k:κ}(e:¬p.1=k):p8 (p::r) k=p8 r k:=by simp[p8,Bi,e]
theorem ai8(k:κ):∀kvs:List (κ×V),(kvs.any λkv=>AB (kv.1=k))=(p8 kvs k).isSome
 |[]=>rfl
 |p::r=>by
  rw[EX]
  by_cases e:p.1=k
  ·simp only[aj2 e,decide_eq_true e,JM,HJ]
  ·rw[aj0 e,decide_eq_false e,Ew];exact ai8 k r
def ag8(kvs:List (κ×V))(k:κ)(v:V):(v2 kvs k v).length<=kvs.length+1:=by
 unfold v2
 split
 ·rw[AT];lia
 ·rw[AX,Ac,BH];lia
def az1{kvs:List (κ×V)}{k:κ}(v:V)(h:p8 kvs k=AD):v2 kvs k v=kvs++[(k,v)]:=by
 unfold v2;rw[ai8,h];exact if_neg ∅
def y6.isSome_eq{u:Option AG}(r:y6 o u):o.isSome=u.isSome:=by
 cases o with
 |none=>cases u with
  |none=>rfl
  |some _=>exact(show False from r).elim
 |some _=>cases u with
  |none=>exact(show False from r).elim
  |some _=>rfl
theorem y6.getD{u:Option AG}{d:V}{d':AG}(r:y6 o u)(rd:f8 d d'):f8 (o.getD d) (u.getD d'):=by
 cases o with
 |none=>cases u with
  |none=>exact rd
  |some _=>exact(show False from r).elim
 |some _=>cases u with
  |none=>exact(show False from r).elim
  |some _=>exact r
def KV.val{kvs:List (κ×V)}{vs:List (κ×AG)}(r:KV kvs vs)(k:κ):y6 (p8 kvs k) (GF vs k):=by
 unfold KV at r
 induction r with
 |nil=>exact Bt
 |@cons p q ps qs h t ih=>
  obtain⟨h1,h2⟩:=h
  by_cases e:p.1=k
  ·have e':q.1=k:=h1.symm.trans e;have b:GF (q::qs) k=AA q.2:=by simp[GF,Bi,e']
   rw[aj2 e,b];exact h2
  ·have e':¬q.1=k:=λz=>e (h1.trans z);have b:GF (q::qs) k=GF qs k:=by simp[GF,Bi,e']
   rw[aj0 e,b];exact ih
theorem KV.any{kvs:List (κ×V)}{vs:List (κ×AG)}(r:KV kvs vs)(k:κ):(kvs.any λkv=>AB (kv.1=k))=vs.any λkv=>AB (kv.1=k):=by
 unfold KV at r
 induction r with
 |nil=>rfl
 |cons h t ih=>rw[EX,EX,ih,h.1]
def KV.repl{kvs:List (κ×V)}{vs:List (κ×AG)}(r:KV kvs vs)(k:κ)(ry:f8 y u):
  KV (kvs.map λkv=>if kv.1=k then(kv.1,y)else kv) (vs.map λkv=>if kv.1=k then(kv.1,u)else kv):=by
 unfold KV at r ⊢
 induction r with
 |nil=>exact .nil
 |@cons p q ps qs h t ih=>
  rw[Ah,Ah];refine .cons ?_ ih;obtain⟨h1,h2⟩:=h
  by_cases e:p.1=k
  ·rw[if_pos e,if_pos (h1.symm.trans e)];exact⟨h1,ry⟩
  ·rw[if_neg e,if_neg (λz=>e (h1.trans z))];exact⟨h1,h2⟩
def KV.put{kvs:List (κ×V)}{vs:List (κ×AG)}(r:KV kvs vs)(k:κ)(ry:f8 y u):KV (v2 kvs k y) (stored vs k u):=by
 unfold v2 stored;rw[r.any k]
 by_cases e:(vs.any λkv=>AB (kv.1=k))=AC
 ·rw[if_pos e,if_pos e];exact r.repl k ry
 ·rw[if_neg e,if_neg e];exact Paired.snoc r ⟨rfl,ry⟩
theorem KV.length{kvs:List (κ×V)}{vs:List (κ×AG)}(r:KV kvs vs):kvs.length=vs.length:=Paired.length r
end
def T2{k:Key}(r:f8 (kV k) u):(F5 P w).is k u=AC:=by
 cases k with
 |inl i=>obtain⟨t,e⟩:=(show ∃t,u=Du i t from r);subst e;exact by6 P w i t
 |inr x=>obtain⟨t,e⟩:=(show ∃t,u=Dv x t from r);subst e;exact by1 P w x t
@[reducible]noncomputable def KT(H:Hp):List (Ad×V)->List (Ad×AI×AG)->Prop:=Paired λp q=>p.1=q.1/\D8 H p.1 q.2.1/\f8 p.2 q.2.2
def KT.val(r:KT H kvs xs)(k:Ad):y6 (p8 kvs k) ((HD xs k).map (·.2)):=by
 induction r with
 |nil=>exact Bt
 |@cons p q ps qs h t ih=>
  obtain⟨h1,_,h2⟩:=h
  by_cases e:p.1=k
  ·have e':q.1=k:=h1.symm.trans e;have b:HD (q::qs) k=AA q.2:=by simp[HD,Bi,e']
   rw[aj2 e,b];exact h2
  ·have e':¬q.1=k:=λz=>e (h1.trans z);have b:HD (q::qs) k=HD qs k:=by simp[HD,Bi,e']
   rw[aj0 e,b];exact ih
def KT.repl(r:KT H kvs xs)(k:Ad)(ry:f8 y u):
  KT H (kvs.map λkv=>if kv.1=k then(kv.1,y)else kv) (xs.map (putAt k u)):=by
 induction r with
 |nil=>exact .nil
 |@cons p q ps qs h t ih=>
  rw[Ah,Ah];refine .cons ?_ ih;obtain⟨h1,h2,h3⟩:=h;unfold putAt
  by_cases e:p.1=k
  ·rw[if_pos e,if_pos (h1.symm.trans e)];exact⟨h1,h2,ry⟩
  ·rw[if_neg e,if_neg (λz=>e (h1.trans z))];exact⟨h1,h2,h3⟩
def KT.put(r:KT H kvs xs)(k:Ad)(hb:D8 H k b)(ry:f8 y u):
  KT H (v2 kvs k y) (storedH xs k b u):=by
 have e:(kvs.any λkv=>AB (kv.1=k))=(HD xs k).isSome:=by
  rw[ai8,(r.val k).isSome_eq,FA]
 unfold v2 storedH;rw[e]
 by_cases q:(HD xs k).isSome=AC
 ·rw[if_pos q,if_pos q];exact r.repl k ry
 ·rw[if_neg q,if_neg q];exact Paired.snoc r ⟨rfl,hb,ry⟩
theorem KT.keeps(r:KT H kvs xs)(ht:∀b ys,H b=AA (.tup ys)->H' b=AA (.tup ys)):KT H' kvs xs:=
 Paired.mapP r λ_ _ z=>⟨z.1,z.2.1.keeps ht,z.2.2⟩
section
variable {h:BI} 
def bq7{u:HO}(ok:HOk P w H h)(e:Rd H a u):o7 P w H h a u:=e.ok ok
def O6{kvs:List (Key×V)}(ok:HOk P w H h)(e:Rd H a (.dK kvs)):kvs.length<=sizeLine/\(a==CJ)=AE/\∃vs,KV kvs vs/\h.DictOf (F5 P w) a vs:=
 show o7 P w H h a (.dK kvs) from bq7 ok e
def bm8{kvs:List (Key×V)}(ok:HOk P w H h)(e:H a=AA (.dK kvs)):kvs.length<=sizeLine/\(a==CJ)=AE/\∃vs,KV kvs vs/\h.DictOf (F5 P w) a vs:=O6 ok (.inl e)
def b53(ok:HOk P w H h):∀(n:Nat)(d:Ad),d.depth<=n->∀{v:V}{u:AG},HRd H d v->f8 v u->∃as,Reads h u d as:=by
 have all:∀n,(∀d:Ad,d.depth<=n->∀{v:V}{u:AG},HRd H d v->f8 v u->∃as,Reads h u d as)->∀(ds:List Ad),CN ds<=n->∀{vs:List V}{us:List AG},J6 H ds vs->f7 vs us->∃as,ReadsAll h us ds as:=λn ih ds=>by
  induction ds with
  |nil=>
   intro _ vs us q r;obtain rfl:vs=[]:=q;cases r;exact⟨_,.nil⟩
  |cons d ds ihd=>
   intro hd vs us q r;obtain⟨v,vr,rfl,q1,q2⟩:=q;have hd':max d.depth (CN ds)<=n:=hd;cases r with
   |cons r1 r2=>
    obtain⟨a1,x1⟩:=ih d ⋯ q1 r1;obtain⟨a2,x2⟩:=ihd ⋯ q2 r2;exact⟨_,.cons x1 x2⟩
 intro n
 induction n with
 |zero=>
  intro d hd v u q r;cases d with
  |int i=>obtain rfl:v=.int i:=q;obtain⟨t,rfl⟩:=(show ∃t,u=Du i t from r);exact⟨_,.int _ _⟩
  |str x=>obtain rfl:v=.str x:=q;obtain⟨t,rfl⟩:=(show ∃t,u=Dv x t from r);exact⟨_,.str _ _⟩
  |tuple ds=>rw[NK.depth_tup]at hd;lia
  |none=>exact q.elim
  |bool _=>exact q.elim
  |list _=>exact q.elim
  |dict _=>exact q.elim
 |succ n ih=>
  intro d hd v u q r;cases d with
  |int i=>obtain rfl:v=.int i:=q;obtain⟨t,rfl⟩:=(show ∃t,u=Du i t from r);exact⟨_,.int _ _⟩
  |str x=>obtain rfl:v=.str x:=q;obtain⟨t,rfl⟩:=(show ∃t,u=Dv x t from r);exact⟨_,.str _ _⟩
  |none=>exact q.elim
  |bool _=>exact q.elim
  |list _=>exact q.elim
  |dict _=>exact q.elim
  |tuple ds=>
   rw[NK.depth_tup]at hd;obtain⟨b,vs,rfl,q1,q2⟩:=q;cases(show u=Ap b from r);obtain⟨_,its,rv,o,h1,h2,_,m,h3⟩:=(show o7 P w H h b (.tup vs) from ok b _ q1);obtain⟨as,x⟩:=all n ih ds ⋯ q2 rv;exact⟨_,.tuple h1 h2 h3 (by simpa using x)⟩
def J3{k:Ad}(ok:HOk P w H h)(e:D8 H k a):(NK.dataKind P w).is h k a:=⟨e.1,e.2.1,b53 ok 7 k e.2.1 e.2.2 rfl⟩
def L9(ok:HOk P w H h)(e:Rd H a (.dT kvs)):kvs.length<=sizeLine/\(a==CJ)=AE /\
  ∃xs,KT H kvs xs/\h.DictOfH (NK.dataKind P w) a xs:=by
 obtain⟨z,y,xs,r,o,es,ep,h1,h2,h3,h4,h5⟩:=(show o7 P w H h a (.dT kvs) from bq7 ok e);refine⟨z,y,xs,r,o,es,ep,h1,h2,h3,h4,λx hx=>?_,h5⟩;have all:∀{l:List (Ad×V)}{m:List (Ad×AI×AG)},KT H l m->∀x∈m,(NK.dataKind P w).is h x.1 x.2.1:=by
  intro l m q
  induction q with
  |nil=>intro x hx;exact nomatch hx
  |@cons p q ps qs hq t ih=>
   intro x hx
   rcases AL.mp hx with e|hx
   ·subst e;exact J3 ok (by rw[<-hq.1];exact hq.2.1)
   ·exact ih x hx
 exact all r x hx
def c31(ok:HOk P w H h)(e:H a=AA (.dT kvs)):kvs.length<=sizeLine/\(a==CJ)=AE /\
  ∃xs,KT H kvs xs/\h.DictOfH (NK.dataKind P w) a xs:=L9 ok (.inl e)
end
abbrev v5(H:Hp)(a:AI)(y:V)(r:Option V):Prop:=
 (∃kvs k,Rd H a (.dK kvs)/\y=kV k/\r=p8 kvs k)\/∃kvs k b,Rd H a (.dT kvs)/\y=.ref b/\D8 H k b/\r=p8 kvs k
abbrev J9(H:Hp)(a:AI)(y v:V)(H':Hp):Prop:=
 (∃kvs k,H a=AA (.dK kvs)/\y=kV k/\kvs.length<sizeLine/\H'=upd H a (.dK (v2 kvs k v)))\/
 ∃kvs k b,H a=AA (.dT kvs)/\y=.ref b/\D8 H k b/\kvs.length<sizeLine/\H'=upd H a (.dT (v2 kvs k v))
theorem v5.k{kvs:List (Key×V)}{k:Key}(e:H a=AA (.dK kvs)):v5 H a (kV k) (p8 kvs k):=.inl ⟨kvs,k,.inl e,rfl,rfl⟩
def v5.t{k:Ad}(e:H a=AA (.dT kvs))(eb:D8 H k b):v5 H a (.ref b) (p8 kvs k):=.inr ⟨kvs,k,b,.inl e,rfl,eb,rfl⟩
theorem J9.k{kvs:List (Key×V)}{k:Key}(e:H a=AA (.dK kvs))(hl:kvs.length<sizeLine):J9 H a (kV k) v (upd H a (.dK (v2 kvs k v))):=.inl ⟨kvs,k,e,rfl,hl,rfl⟩
def J9.t{k:Ad}(e:H a=AA (.dT kvs))(eb:D8 H k b)(hl:kvs.length<sizeLine):
  J9 H a (.ref b) v (upd H a (.dT (v2 kvs k v))):=.inr ⟨kvs,k,b,e,rfl,eb,hl,rfl⟩
section
variable {r:AG} {E:AG->AK->Prop}
def Inv.big(I:Inv X pins σ H s):CJ<s.heap.objs.size:=by
 have h:AN<s.heap.objs.size:=(I.mod.glob.keeps I.bk).lt;exact Nat.lt_trans ∅ h
def av7(hu:A.units+20<Bo)(I:Inv X pins σ H s)(g:v5 H a y (AA v))(ry:f8 y u)(h:∀w' s',Inv X pins σ H s'->f8 v w'->Q w' s'):
  AU (model X.prog X.w) A (DR (.ref a) u) Q E s:=by
 rcases g with⟨kvs,k,e,ey,l⟩|⟨kvs,k,b,e,ey,eb,l⟩
 ·subst ey;obtain⟨z,hd,vs,rel,dd⟩:=O6 I.hok e;obtain⟨w',hw,rw'⟩:=y6.some_of (v:=v) (o:=GF vs k) (by rw[l];exact rel.val k);exact wpAny_getItem_of (T2 ry) dd.mapOf hw (h w' _ (I.tok _) rw')
 ·subst ey;cases(show u=Ap b from ry);obtain⟨z,hd,xs,rel,dd⟩:=L9 I.hok e;obtain⟨w',hw,rw'⟩:=y6.some_of (v:=v) (o:=(HD xs k).map (·.2)) (by rw[l];exact rel.val k);obtain⟨p,hp,hp2⟩:=Option.map_eq_some_iff.mp hw;refine wpAny_getItem_heap (NK.dataKind_room_in1 hu) (J3 I.hok eb) dd hp ?_;rw[hp2];exact h w' _ (I.tok _) rw'
def bs3(hu:A.units+20<Bo)(I:Inv X pins σ H s)(g:v5 H a y o)(ry:f8 y u)(h:∀s',Inv X pins σ H s'->Q (.bool o.isSome) s'):
  AU (model X.prog X.w) A (Bp .In u (.ref a)) Q E s:=by
 rcases g with⟨kvs,k,e,ey,l⟩|⟨kvs,k,b,e,ey,eb,l⟩
 ·subst ey;obtain⟨z,hd,vs,rel,dd⟩:=O6 I.hok e;refine wpAny_in_of (T2 ry) hd dd.mapOf ?_;rw[<-(rel.val k).isSome_eq,<-l];exact h _ (I.tok _)
 ·subst ey;cases(show u=Ap b from ry);obtain⟨z,hd,xs,rel,dd⟩:=L9 I.hok e;refine wpAny_in_heap (NK.dataKind_room_in1 hu) (J3 I.hok eb) hd dd ?_;have q:=(rel.val k).isSome_eq;rw[FA]at q;rw[<-q,<-l];exact h _ (I.tok _)
def a89(hu:A.units+20<Bo)(I:Inv X pins σ H s)(g:v5 H a y o)(ry:f8 y u)(h:∀s',Inv X pins σ H s'->Q (.bool (!o.isSome)) s'):
  AU (model X.prog X.w) A (Bp .NotIn u (.ref a)) Q E s:=by
 rcases g with⟨kvs,k,e,ey,l⟩|⟨kvs,k,b,e,ey,eb,l⟩
 ·subst ey;obtain⟨z,hd,vs,rel,dd⟩:=O6 I.hok e;refine KJ (T2 ry) hd dd.mapOf ?_;rw[<-(rel.val k).isSome_eq,<-l];exact h _ (I.tok _)
 ·subst ey;cases(show u=Ap b from ry);obtain⟨z,hd,xs,rel,dd⟩:=L9 I.hok e;refine wpAny_notIn_heap (NK.dataKind_room_in1 hu) (J3 I.hok eb) hd dd ?_;have q:=(rel.val k).isSome_eq;rw[FA]at q;rw[<-q,<-l];exact h _ (I.tok _)
def al6{h':BI}{t':Nat}{ob:HO}(I:Inv X pins σ H s)(mu:Mut (H a))(hs:CA a s.heap h')(he:∃q,h'.get? a=AA q)(new:o7 X.prog X.w (upd H a ob) h' a ob):
  Inv X pins σ (upd H a ob) {s with heap:=h',toks:=t'}:=
 I.write (x:=a) (e:=a) mu (.inl rfl) (λb q hb z=>(hs.2 b hb).trans z) he new
def bi2{h':BI}{kvs:List (Key×V)}{vs:List (Key×AG)}(z:kvs.length<=sizeLine)(hd:(a==CJ)=AE)(rel:KV kvs vs)(dd:h'.DictOf (F5 P w) a vs):
  o7 P w H' h' a (.dK kvs):=⟨z,hd,vs,rel,dd⟩
def b41{Q:Unit->AK->Prop}(hu:A.units+20<Bo)(I:Inv X pins σ H s)(g:J9 H a y v H')(ry:f8 y u)(rv:f8 v r)(h:∀s',Inv X pins σ H' s'->Q () s'):
  AU (model X.prog X.w) A (JH (.ref a) u r) Q E s:=by
 rcases g with⟨kvs,k,e,ey,l,eH⟩|⟨kvs,k,b,e,ey,eb,l,eH⟩
 ·subst ey eH;obtain⟨z,hd,vs,rel,dd⟩:=bm8 I.hok e;have hz:vs.length<=sizeLine:=by rw[<-rel.length];exact z
  have hl:(v2 kvs k v).length<=sizeLine:=by have:=ag8 kvs k v;lia
  refine wpAny_setItem_pairs (hsz:=hz) (T2 ry) dd λh' dd' hs=>h _ ?_;have he:∃q,h'.get? a=AA q:=let⟨q,_,_,hq,_⟩:=dd';⟨q,hq⟩;exact al6 I (by rw[e];exact Bt) hs he (bi2 hl hd (rel.put k rv) dd')
 ·subst ey eH;cases(show u=Ap b from ry);obtain⟨z,hd,xs,rel,dd⟩:=c31 I.hok e;have hz:xs.length<=sizeLine:=by rw[<-Paired.length rel];exact z
  have hl:(v2 kvs k v).length<=sizeLine:=by have:=ag8 kvs k v;lia
  refine wpAny_setItem_heap (hsz:=hz) (NK.dataKind_room_in1 hu) (J3 I.hok eb) dd λh' dd' hs=>h _ ?_;obtain⟨q,es,ep,hq,h2,h3,h4,_,h5⟩:=dd';refine al6 I (by rw[e];exact Bt) hs ⟨q,hq⟩ ⟨hl,hd,_,(rel.put k eb rv).keeps λc ys ec=>?_,q,es,ep,hq,h2,h3,h4,h5⟩;rw[i8 (c32 ec e (λz=>nomatch z))];exact ec
end
abbrev bt6(i:AQ):Prop:=∀ov iv,subscripted i AE ov iv=operate [ov,iv] (DR ov iv)
def ba9{prog:Aj}{E:AG->AK->Prop}{env:Env}{value slice:AQ}{T id:String}
  (hl:Iz (.type T) "__getitem__"=pure (AA (.builtin id))) (hs:bt6 slice)
  (h:AU (model prog w) A (eval value env) (λo s₁=>AU (model prog w) A (eval slice env) (λi s₂=>s₂.TypeIs o T/\AU (model prog w) A (DR o i) Q E s₂) E s₁) E s) :
  AU (model prog w) A (eval (.Subscript value slice pos) env) Q E s:=by
 refine JA (Bc h (λo s₁ h₁=>Bc h₁ (λi s₂ h₂=>?_) λ_ _ x=>x) λ_ _ x=>x);obtain⟨hT,h₂⟩:=h₂;unfold Fh;refine AF ?_;rw[IE hT.not_modules];refine AF (CC hT hl ?_);have fin:AU (model prog w) A (subscripted slice AE o i) (λr s₃=>AU (model prog w) A (KL value o r>>=λ_=>pure r) Q E s₃) E s₂:=by
  rw[hs o i];exact Ju (Bc h₂ (λr s₃ h₃=>AF (IM (AM h₃))) λ_ _ x=>x)
 first
  |exact AM (AF fin)
  |exact AF (AM (AF fin))
  |exact AF fin
def as3(I:Inv X pins σ H s)(g:v5 H a y o):s.TypeIs (.ref a) "dict":=by
 rcases g with⟨kvs,k,e,_,_⟩|⟨kvs,k,b,e,_,_,_⟩
 ·obtain⟨_,_,vs,_,dd⟩:=O6 I.hok e;exact dd.typeIs
 ·obtain⟨_,_,xs,_,dd⟩:=L9 I.hok e;exact dd.typeIs
abbrev c07(td ty:TE):TE:=λσ H Q=>td σ H λx H1=>ty σ H1 λy H2=>∃a v,x=.ref a/\v5 H2 a y (AA v)/\Q v H2
abbrev cx2(td ty tv:TE):TS:=λD σ H=>tv σ H λv H1=>td σ H1 λx H2=>ty σ H2 λy H3=>∃a H4,x=.ref a/\J9 H3 a y v H4/\D.nx σ H4
section
variable {o i e value:AQ} {pos' tpos:Pos} {td ty tv:TE}
def ch3(hu:X.A.units+20<Bo)(ho:PE X o td)(hi:PE X i ty)(hs:bt6 i):PE X (.Subscript o i pos) (c07 td ty):=by
 intro pins s σ H Q I h;refine ba9 PySem.F.slot_dict_getitem.lookup hs (thn (ho pins s σ H _ I h) λu s1⟨x,H1,I1,rx,q1⟩=>thn (hi pins s1 σ H1 _ I1 q1) λiv s2 z28=>?_);obtain⟨y,H2,I2,ry,a,v,ex,g,q2⟩:=z28;subst ex;obtain rfl:u=Ap a:=rx;exact⟨as3 I2 g,av7 hu I2 g ry λw' s3 I3 rw'=>⟨v,H2,I3,rw',q2⟩⟩
def a82(hu:X.A.units+20<Bo)(ho:PE X o td)(hi:PE X i ty)(hv:PE X value tv)(hs:CO value (AA (.Subscript o i pos')) pos.line X.env=pure AE):
  PS X (.Assign [.Subscript o i pos'] value pos) (cx2 td ty tv):=by
 intro pins s σ H D I h;refine wpAny_Assign_Subscript (thn (hv pins s σ H _ I h) λr s1⟨v,H1,I1,rv,q1⟩=>thn (ho pins s1 σ H1 _ I1 q1) λu s2⟨x,H2,I2,rx,q2⟩=>thn (hi pins s2 σ H2 _ I2 q2) λiv s3 z29=>?_) hs;obtain⟨y,H3,I3,ry,a,H4,ex,g,q3⟩:=z29;subst ex;obtain rfl:u=Ap a:=rx;exact b41 hu I3 g ry rv λs4 I4=>⟨σ,H4,I4,q3⟩
end
def az3(h:BI)(hb:CJ<h.objs.size):o7 P w H (h.push {cls:=.type "dict",data:=.dict #[]}) h.objs.size (.dK []):=
 ⟨BV _,beq_eq_false_iff_ne.mpr (Aw (BS hb)),[],.nil,KM h⟩
def b97(h:BI)(hb:CJ<h.objs.size):o7 P w H (h.push {cls:=.type "dict",data:=.dict #[]}) h.objs.size (.dT []):=
 ⟨BV _,beq_eq_false_iff_ne.mpr (Aw (BS hb)),[],.nil,_,#[],0,Aq _ rfl,⟨rfl,rfl,rfl⟩,rfl,rfl,Ji⟩
abbrev cu3:TE:=λ_ H Q=>∀p,H p=AD->Q (.ref p) (upd H p (.dK []))
abbrev cs2:TE:=λ_ H Q=>∀p,H p=AD->Q (.ref p) (upd H p (.dT []))
section
def b91:PE X (.Dict [] [] pos) cu3:=λpins s σ H Q I h=>
 Jj ⟨.ref s.heap.objs.size,_,I.laid (a:=s.heap.objs.size) (o:=.dK []) (t':=s.toks) (λ_ _ q=>AS _ q) (AY _) (az3 s.heap I.big),rfl,h _ (I.hok.fresh (AY _))⟩
def b78:PE X (.Dict [] [] pos) cs2:=λpins s σ H Q I h=>
 Jj ⟨.ref s.heap.objs.size,_,I.laid (a:=s.heap.objs.size) (o:=.dT []) (t':=s.toks) (λ_ _ q=>AS _ q) (AY _) (b97 s.heap I.big),rfl,h _ (I.hok.fresh (AY _))⟩
end
abbrev V8:List (TE×TE)->St->Hp->(List (V×V)->Hp->Prop)->Prop
 |[],_,H,Q=>Q [] H
 |(tk,tv)::r,σ,H,Q=>tk σ H λx H1=>tv σ H1 λy H2=>V8 r σ H2 λps H3=>Q ((x,y)::ps) H3
@[reducible]noncomputable def VV:List (V×V)->List (AG×AG)->Prop:=Paired λp q=>f8 p.1 q.1/\f8 p.2 q.2
abbrev PPs(X:Cx)(pos:Pos)(keys:List (Option AQ))(values:List AQ)(trs:List (TE×TE)):Prop:=
 ∀(pins:List (AI×Obj))(s:AK)(σ:St)(H:Hp)(Q:List (V×V)->Hp->Prop),Inv X pins σ H s->V8 trs σ H Q ->
  AU (model X.prog X.w) X.A (evalPairs (pairTrees keys values X.env pos)) (λvs s'=>∃ps H',Inv X pins σ H' s'/\VV ps vs/\Q ps H') X.xe s
def ci0:PPs X pos [] [] []:=λpins s σ H Q I h=>pairTrees_nil_walk ⟨[],H,I,.nil,h⟩
def cd2{k v:AQ}{ks:List (Option AQ)}{vs:List AQ}{tk tv:TE}{trs:List (TE×TE)}(hk:PE X k tk)(hv:PE X v tv)(hr:PPs X pos ks vs trs):
  PPs X pos (AA k::ks) (v::vs) ((tk,tv)::trs):=λpins s σ H Q I h=>
 pairTrees_cons_walk (thn (hk pins s σ H _ I h) λu s1⟨x,H1,I1,rx,q1⟩=>thn (hv pins s1 σ H1 _ I1 q1) λw2 s2⟨y,H2,I2,ry,q2⟩=>
  thn (hr pins s2 σ H2 _ I2 q2) λws s3⟨ps,H3,I3,rel,q3⟩=>⟨(x,y)::ps,H3,I3,.cons ⟨rx,ry⟩ rel,q3⟩)
abbrev J0(kvs more:List (Key×V)):List (Key×V):=more.foldl (λacc kv=>v2 acc kv.1 kv.2) kvs
def KV.merge:∀{more:List (Key×V)}{rs:List (Key×AG)}{kvs:List (Key×V)}{vs:List (Key×AG)},KV more rs->KV kvs vs->KV (J0 kvs more) (merged vs rs):=by
 intro more rs kvs vs r;unfold KV at r
 induction r generalizing kvs vs with
 |nil=>intro q;exact q
 |@cons p q ps qs h t ih=>
  intro r0;have e:KV (v2 kvs p.1 p.2) (stored vs q.1 q.2):=by
   have:=r0.put p.1 h.2;rw[<-h.1];exact this
  exact ih e
theorem ar7:∀(more kvs:List (Key×V)),(J0 kvs more).length<=kvs.length+more.length
 |[],kvs=>by show kvs.length<=kvs.length+0;lia
 |p::r,kvs=>by
  have h1:=ar7 r (v2 kvs p.1 p.2);have h2:=ag8 kvs p.1 p.2;show(J0 (v2 kvs p.1 p.2) r).length<=_;rw[Ac];lia
theorem at7{P:Aj}{w:BB}:∀{kvs:List (Key×V)}{ws:List (AG×AG)},VV (kvs.map λkv=>(kV kv.1,kv.2)) ws->∃rs,Carries (F5 P w) ws rs/\KV kvs rs
 |[],_,r=>by rw[Dj]at r;cases r;exact⟨[],Bt,.nil⟩
 |p::kvs,_,r=>by
  rw[Ah]at r;cases r with
  |@cons a b as bs h t=>
   obtain⟨rs,c,q⟩:=at7 (P:=P) (w:=w) t;obtain⟨b1,b2⟩:=b;exact⟨(p.1,b2)::rs,⟨T2 h.1,rfl,c⟩,.cons ⟨rfl,h.2⟩ q⟩
abbrev c26(trs:List (TE×TE)):TE:=λσ H Q=>∀p,H p=AD->V8 trs σ (upd H p (.dK [])) λps H2=>H2 p=AA (.dK [])/\∃kvs:List (Key×V),ps=kvs.map (λkv=>(kV kv.1,kv.2))/\kvs.length<=15/\Q (.ref p) (upd H2 p (.dK (J0 [] kvs)))
def ch5{keys:List (Option AQ)}{values:List AQ}{trs:List (TE×TE)}(h:PPs X pos keys values trs)(hall:keys.all (·.isSome)=AC)(hl:keys.length=values.length)(h0:keys≠[])
  (h15:keys.length<=15):PE X (.Dict keys values pos) (c26 trs):=by
 intro pins s σ H Q I q;have hn:=I.hok.fresh (AY s.heap.objs.size);have I1:=I.laid (a:=s.heap.objs.size) (o:=.dK []) (h':=s.heap.push {cls:=.type "dict",data:=.dict #[]}) (t':=s.toks) (λ_ _ q=>AS _ q) (AY _) (az3 s.heap I.big);refine wpAny_Dict_walk (knd:=F5 X.prog X.w) hall hl h0 h15 (thn (h pins _ σ _ _ I1 (q _ hn)) λws s2 z30=>?_);obtain⟨ps,H2,I2,rel,e,kvs,ep,lk,q2⟩:=z30;subst ep;obtain⟨rs,c,rk⟩:=at7 (P:=X.prog) (w:=X.w) rel;obtain⟨z,hd,vs0,r0,dd⟩:=bm8 I2.hok e;cases r0;refine⟨rs,c,dd,λh' dd' hs=>⟨.ref s.heap.objs.size,_,?_,rfl,q2⟩⟩;have hz:(J0 [] kvs).length<=sizeLine:=by
  have h1:=ar7 kvs [];rw[BH]at h1;rw[IJ];lia
 have he:∃q,h'.get? s.heap.objs.size=AA q:=let⟨q,_,_,hq,_⟩:=dd';⟨q,hq⟩;exact al6 I2 (by rw[e];exact Bt) hs he (bi2 hz hd (rk.merge .nil) dd')
structure M1(X:Cx)(o:AQ)(m:Str)(apos:Pos)(e:AQ)(cpos:Pos):Prop where
 base:Cb o m X.env (eval o X.env)=eval o X.env
 few:((Bq cpos (Am [e] X.env)).all (λx=>!x.1)&&(EW cpos (Cw [] X.env)).all (λx=>x.1.isSome)
  &&AB (([e]:List AQ).length+([]:List Go).length+(if([]:List Go).isEmpty then 0 else 1)<30))=AC
 line:(apos.endLine==cpos.line)=AC
 trees:Bq cpos (Am [e] X.env)=[(AE,eval e X.env)]
abbrev IsD(H:Hp)(a:AI):Prop:=(∃kvs,Rd H a (.dK kvs))\/∃kvs,Rd H a (.dT kvs)
def cv6(I:Inv X pins σ H s)(d:IsD H a):
  s.TypeIs (.ref a) "dict"/\(∀b,Ap a=.ref b->∃ob,s.heap.get? b=AA ob/\ob.dict=AD)/\(a==CJ)=AE:=by
 rcases d with⟨kvs,e⟩|⟨kvs,e⟩
 ·obtain⟨_,hd,vs,_,dd⟩:=O6 I.hok e;refine⟨dd.typeIs,λb q=>?_,hd⟩;cases q;obtain⟨ob,_,_,h1,h2,_⟩:=dd;exact⟨ob,h1,h2.2.1⟩
 ·obtain⟨_,hd,xs,_,dd⟩:=L9 I.hok e;refine⟨dd.typeIs,λb q=>?_,hd⟩;cases q;obtain⟨ob,_,_,h1,h2,_⟩:=dd;exact⟨ob,h1,h2.2.1⟩
section
variable {d:V} {r:AG} {E:AG->AK->Prop}
def cq5(hu:A.units+20<Bo)(I:Inv X pins σ H s)(g:v5 H a y o)(ry:f8 y u)(h:∀w' s',Inv X pins σ H s'->f8 (o.getD .non) w'->Q w' s'):
  AU (model X.prog X.w) A (call (.builtin "dict.get") [.ref a,u]) Q E s:=by
 rcases g with⟨kvs,k,e,ey,l⟩|⟨kvs,k,b,e,ey,eb,l⟩
 ·subst ey;obtain⟨z,hd,vs,rel,dd⟩:=O6 I.hok e;refine call_meetsIn PySem.F.slot_dict_get dd.typeIs PySem.F.entry_dict_get (PySem.F.args_dict_get_2 _ _) (meets_dict_get (F5 X.prog X.w) a (T2 ry) hd) ⟨_,dd.mapOf,h _ _ (I.tok _) ?_⟩;rw[l];exact(rel.val k).getD rfl
 ·subst ey;cases(show u=Ap b from ry);obtain⟨z,hd,xs,rel,dd⟩:=L9 I.hok e;refine call_meetsIn PySem.F.slot_dict_get dd.typeIs PySem.F.entry_dict_get (PySem.F.args_dict_get_2 _ _) (meetsH_dict_get (NK.dataKind X.prog X.w) a b hd) ⟨NK.dataKind_room_in1 hu,k,xs,J3 I.hok eb,dd,h _ _ (I.tok _) ?_⟩;rw[l];exact(rel.val k).getD rfl
end
abbrev ct7(td ty:TE):TE:=λσ H Q=>td σ H λx H1=>∃a,x=.ref a/\IsD H1 a/\ty σ H1 λy H2=>∃o,v5 H2 a y o/\Q (o.getD .non) H2
section
variable {o e f:AQ} {apos cpos:Pos} {td ty tx:TE}
def b93(hu:X.A.units+20<Bo)(ho:PE X o td)(he:PE X e ty)(m:M1 X o "get" apos e cpos):PE X (.Call (.Attribute o "get" apos) [e] [] cpos) (ct7 td ty):=by
 intro pins s σ H Q I h;refine JN m.base m.few m.line PySem.F.plainAttrs_dict PySem.F.slot_dict_get PySem.F.type_dict_get (thn (ho pins s σ H _ I h) λu s1 z31=>?_);obtain⟨x,H1,I1,rx,a,ex,d,q1⟩:=z31;subst ex;obtain rfl:u=Ap a:=rx;obtain⟨t1,t2,_⟩:=cv6 I1 d;refine⟨t1,t2,?_⟩;rw[m.trees];refine Bn rfl (CY (DW (thn (he pins s1 σ H1 _ I1 q1) λiv s2⟨y,H2,I2,ry,ov,g,q2⟩=>FJ ?_)));exact cq5 hu I2 g ry λw' s3 I3 rw'=>⟨_,H2,I3,rw',q2⟩
end
end L2
namespace Att
open PySem PySem.W PySem.Calls PyProof.Rows
def bw5{P:Params}{h:BI}:∀(ns:List Int)(vs:List AG),WellAll P h vs (ns.map Jw)->GE vs ns:=by
 intro ns
 induction ns with
 |nil=>
  intro vs w;rw[Dj]at w;cases w;exact .nil
 |cons n ns ih=>
  intro vs w;rw[Ah]at w;cases w with
  |cons a b=>
   cases a;exact .cons _ _ (ih _ b)
def b39{l:OpenLaw}{n:Nat}(hn:l.most=AA n){P:Params}{h:BI}{args:List WData}{vals:List AG}
  (hpre:l.row.toRowW.claim.pre args=AC) (hwl:WellAll P h vals args) :
  ∃a vs ns,vals=[Ap a]/\args=[WData.list (ns.map Jw)]/\h.get? a=AA {cls:=.type "list",data:=.seq vs.toArray}/\GE vs ns/\ns.length<=n:=by
 have hsh:WShape.hasAll [] args [.list .int]=AC:=(pre_splitW hpre).1;have hc:l.pre.holds [] {args:=args}=AC:=(pre_splitW hpre).2;obtain⟨d,r,rfl,h1,h2⟩:=hasAllW_cons hsh;obtain rfl:=hasAllW_nil h2;obtain⟨xs,rfl,h3⟩:=hasW_list h1;obtain⟨ns,rfl⟩:=items_int h3;have hlen:ns.length<=n:=by
  unfold OpenLaw.pre at hc;have h4:(WTm.not (.lt (.lit (.int (n:Int))) (.len (.arg 0)))).holds [] {args:=[.list (ns.map .int)]}=AC:=by
   have h4:=(holds_andW hc).1;rw[hn]at h4;exact h4
  have h5:=condW_of h4 (w_not (w_lt w_lit (w_len_list (w_arg rfl))));rw[AT]at h5;refine Nat.le_of_not_lt λq=>?_;have q':(n:Int)<((ns.length:Nat):Int):=by lia
  first
   |(rw[decide_eq_true q']at h5;exact absurd h5 ∅)
   |(simp at h5;lia)
 cases hwl with
 |cons w1 w2=>
  cases w2;cases w1 with
  |list ho hall=>exact⟨_,_,ns,rfl,rfl,ho,bw5 ns _ hall,hlen⟩
def b33(l:OpenLaw)(args:List WData):l.row.toRowW.claim.post args (.bool AC) args=AC:=
 postW_of (r:=l.row.toRowW) (X:=(AC==AC))
  (show JO [] (.bool AC) .bool=AC by first|rfl|decide|simp[JO,WShape.arms,WShape.armsAll])
  (show(WTm.eq .res (.lit (.bool AC))).value [] {args:=args,res:=AA (.bool AC),after:=args}=AA (.bool (AC==AC)) from w_eq_bool (w_res rfl) w_lit) rfl
def attach_call{l:OpenLaw}{n:Nat}{q:Aj}{loose:List Str}{XP:(Str->Option AG)->BI->Prop}{YP:BB->BI->Prop}{d:DefRec}
  (hn:l.most=AA n) (hdf:d.params.defaults=[])
  (call:∀(w:BB)(s₀ s₁:AK)(mg mb:Str->Option AG)(fa:AI)(o:Obj)(pm cd doc:AG)(a:AI)(vs:List AG)(ns:List Int),
   Ground q loose [] XP w s₀ mg mb s₁.heap->YP w s₁.heap ->
   s₁.heap.get? fa=AA o->o.data=.func (docDef d.name d.params d.body d.scope pm cd doc)->s₁.heap.CodeRec cd d.name->mg d.name=AA (.ref fa) ->
   s₁.heap.get? a=AA {cls:=.type "list",data:=.seq vs.toArray}->GE vs ns->ns.length<=n->s₁.gens=#[] ->
   EH (model l.prog w) Gq (.call (.ref fa) ⟨[.ref a],[]⟩) (λr s'=>r=.ok (.ret (.bool AC))/\OldK s₁.heap s'.heap/\s'.os=s₁.os/\Fu s'.gens) s₁) :
  WalkO q loose XP YP l.row.toRowW d [] (λf vs=>PySem.call f vs):=by
 intro w s₀ s₁ mg mb G Y fa o pm cd doc dV kV ho hd hcd hD hmg hg args vals as hpre hlay hrd hwl hlo;obtain rfl:dV=.none:=Dflts.none hD hdf;obtain rfl:kV=.none:=Dflts.noKw hD;obtain⟨a,vs,ns,rfl,rfl,hobj,hints,hlen⟩:=b39 hn hpre hwl;refine enter_call (GA (call w s₀ s₁ mg mb fa o pm cd doc a vs ns G Y ho (fd_plain hd) hcd hmg hobj hints hlen hg) λr s' hq=>?_);obtain⟨rfl,h2,h3,h4⟩:=hq;exact⟨.inl ⟨.bool AC,.bool AC,[],rfl,λ_=>rfl,.bool AC,b33 l _,λ_=>⟨Jk,λ_ hm=>(nomatch hm)⟩⟩,h2,h3,h4⟩
section
variable {prog:Aj} {w:BB} {A:BP} {E:AG->AK->Prop} {s:AK} {K:Frag}
abbrev c74(h:BI)(L d:AI):List (AI×Obj):=(Cz h.objs.size).filterMap λa=>if a=L\/a=d then AD else(h.get? a).map λo=>(a,o)
end
end Att
namespace L2
open PySem PySem.Spec PyProof.Rows
theorem av2:∀{vs:List AG}{ns:List Int},GE vs ns->f7 (ns.map V.int) vs
 |_,_,.nil=>.nil
 |_,_,.cons n t h=>.cons ⟨t,rfl⟩ (av2 h)
abbrev z0(s:BQ):Cm:=match s with
 |.FunctionDef _ a _ _ _ _ _ _ _ _=>a
 |_=>{posonlyargs:=[],args:=[],vararg:=AD,kwonlyargs:=[],kw_defaults:=[],kwarg:=AD,defaults:=[]}
abbrev v6(s:BQ):List BQ:=match s with
 |.FunctionDef _ _ b _ _ _ _ _ _ _=>b
 |_=>[]
abbrev o6(s:BQ):BG:=match s with
 |.FunctionDef _ _ _ _ _ _ sc _ _ _=>sc
 |_=>{kind:=.function,names:=[],isGenerator:=AE,isCoroutine:=AE}
@[reducible]noncomputable def CX0:CXT:=λ_ _ _ _ _ _=>False
@[reducible]noncomputable def E0:XK:=λ_ _ _=>False
def J4{X:Cx}:Q9 CX0 X E0:=λ_ _ _ _ _ _ _ h=>h.elim
def au9{n:Nat}(h:n<=1000):n<sizeLine:=Hw h ∅
abbrev D9(H H':Hp):Prop:=∀b o,H b=AA o->H' b=AA o
def D9.refl(H:Hp):D9 H H:=λ_ _ h=>h
def D9.trans{H H1 H2:Hp}(a:D9 H H1)(b:D9 H1 H2):D9 H H2:=λc o h=>b c o (a c o h)
variable{s:AK}{scope:BG}{env:Env}{cells:List (Str×AI)}{x:Str}{X:Cx}{Nc:List Str}{fr:List Nat}{C:AI}{fp:List AI}{pins:List (AI×Obj)}{σ:St}{H:Hp}
def bx3{prog:Aj}{w:BB}{A:BP}{R:Iw->AK->Prop}{elt target iter:AQ}{ifs:List AQ}{pos:Pos}{it acc:AG}(I:Nat->AK->Prop)
  (turn:∀n s,I n s->AU (model prog w) A (Gz it) (λr s₁=>match r with
   |none=>R (.ok .next) s₁
   |some v=>AU (model prog w) A (El target it v) (λ_ s₁'=>AU (model prog w) A (assign target env v) (λ_ s₂=>
     AU (model prog w) A (forIn ifs AC λc r=>if r=AC then do let ok <-Gx c env (eval c env);pure (Bd ok)else pure (Bd r)) (λok s₃=>
      if ok=AC then AU (model prog w) A (eval elt env) (λx s₄=>
       AU (model prog w) A (call (.builtin "list.append") [acc,x]) (λ_ s₅=>∃m,m<n/\I m s₅) (λ_ _=>False) s₄) (λ_ _=>False) s₃
      else ∃m,m<n/\I m s₃) (λ_ _=>False) s₂) (λ_ _=>False) s₁') (λ_ _=>False) s₁) (λ_ _=>False) s)
  (n:Nat) (h:I n s) :
  EH (model prog w) A (.compLoop (.ListComp elt [⟨target,iter,ifs,0⟩] scope pos) 0 it acc env) R s:=by
 refine codeAny_loop rfl I (λn s hI=>?_) n h;show AU _ A ((compTurn (.ListComp elt [⟨target,iter,ifs,0⟩] scope pos) 0 it acc env).onRaise (λx=>do noteFrame x env;theTreesLotGoes x)) _ _ s;refine wpAny_noted ?_;rw[compTurn_list];refine AF (HQ (AF (Bc (turn n s hI) (λr s₁ h₁=>?_) λ_ _ h'=>h'.elim)));cases r with
 |none=>exact AM h₁
 |some v=>
  refine AF (Bc h₁ (λ_ s₁' h₁'=>?_) λ_ _ h'=>h'.elim);refine AF (Bc h₁' (λ_ s₂ h₂=>AF (Bc h₂ (λok s₃ h₃=>?_) λ_ _ h'=>h'.elim)) λ_ _ h'=>h'.elim);cases ok with
  |false=>exact AM ⟨rfl,h₃⟩
  |true=>
   exact AF (AF (Bc h₃ (λx s₄ h₄=>AF (Bc h₄ (λ_ s₅ h₅=>AM (AM ⟨rfl,h₅⟩)) λ_ _ h'=>h'.elim)) λ_ _ h'=>h'.elim))
abbrev u3(cells:List (Str×AI)):List (Str×FI)->List (Str×AI)->List (Str×AI)
 |[],acc=>acc
 |(n,k)::r,acc=>u3 cells r (if k==.free then(match cells.lookup n with|some a=>(n,a)::acc|none=>acc)else acc)
theorem ah5:∀(names:List (Str×FI))(acc:List (Str×AI)),(∀x∈names,x.2=.free->(env.cells.lookup x.1).isSome=AC) ->
  (forIn names acc λx r=>match x with
   |(name,kind)=>if(kind==At)=AC then do let a <-KN env name;pure (Bd ((name,a)::r))else pure (Bd r):Sem (List (Str×AI)))=pure (u3 env.cells names acc)
 |[],acc,_=>rfl
 |(n,k)::r,acc,h=>by
  have hr:∀x∈r,x.2=.free->(env.cells.lookup x.1).isSome=AC:=λx hx=>h x (Ao _ hx);rw[IN];cases hk:(k==At)with
  |false=>
   simp only[hk,BO,if_false,pure_bind];rw[ah5 r acc hr];simp only[u3,hk,BO,if_false]
  |true=>
   have hf:k=.free:=by simpa using hk
   obtain⟨a,ha⟩:=BX.mp (h (n,k) Bw hf);have hc:KN env n=pure a:=by unfold KN;rw[ha]
   simp only[hk,if_true,hc,pure_bind];rw[ah5 r _ hr];simp only[u3,hk,if_true,ha]
def ah1{env:Env}(h:∀x∈scope.names,x.2=.free->(env.cells.lookup x.1).isSome=AC):HE scope env=pure (u3 env.cells scope.names []):=by
 unfold HE;have e:=ah5 (env:=env) scope.names [] h;show((forIn scope.names ([]:List (Str×AI)) (λx r=>match x with
   |(name,kind)=>if(kind==At)=AC then do let a <-KN env name;pure (Bd ((name,a)::r))else pure (Bd r)):Sem (List (Str×AI)))>>=λcs=>pure cs)=_
 rw[e];rfl
theorem a54:∀{names:List (Str×FI)}{acc:List (Str×AI)}{x:Str}{c:AI},(x,c)∈u3 cells names acc->(x,c)∈acc\/(cells.lookup x=AA c/\(x,At)∈names)
 |[],acc,x,c,h=>.inl h
 |(n,k)::r,acc,x,c,h=>by
  unfold u3 at h
  rcases a54 h with h1|⟨h1,h2⟩
  ·cases hk:(k==At)with
   |false=>simp only[hk,BO,if_false]at h1;exact .inl h1
   |true=>
    have hf:k=.free:=by simpa using hk
    subst hf;simp only[hk,if_true]at h1;cases hc:cells.lookup n with
    |none=>rw[hc]at h1;exact .inl h1
    |some a=>
     rw[hc]at h1
     rcases AL.mp h1 with e|e
     ·cases e;exact .inr ⟨hc,Bw⟩
     ·exact .inl e
  ·exact .inr ⟨h1,Ao _ h2⟩
theorem a09:∀{names:List (Str×FI)}{acc:List (Str×AI)}{x:Str}{c:AI},cells.lookup x=AA c->((x,At)∈names\/(x,c)∈acc)->(x,c)∈u3 cells names acc
 |[],acc,x,c,_,h=>by
  rcases h with h|h
  ·cases h
  ·exact h
 |(n,k)::r,acc,x,c,hc,h=>by
  unfold u3;refine a09 hc ?_
  rcases h with h|h
  ·rcases AL.mp h with e|e
   ·cases e;refine .inr ?_;rw[if_pos ∅,hc];exact Bw
   ·exact .inl e
  ·refine .inr ?_
   split
   ·split
    ·exact Ao _ h
    ·exact h
   ·exact h
def ah2{α:Type}{l:List (Str×α)}{a:α}(h:l.lookup x=AA a):(x,a)∈l:=PySem.mem_of_lookup h
theorem at5{α:Type}:∀{l:List (Str×α)}{x:Str}{a:α},(x,a)∈l->∃b,l.lookup x=AA b
 |[],_,_,h=>by cases h
 |(y,b)::r,x,a,h=>by
  rw[DY];cases e:x==y with
  |true=>exact⟨b,rfl⟩
  |false=>
   rcases AL.mp h with z|z
   ·cases z;simp at e
   ·exact at5 z
def K8{names:List (Str×FI)}{c:AI}(h:(u3 cells names []).lookup x=AA c):cells.lookup x=AA c/\(x,At)∈names:=by
 rcases a54 (ah2 h)with z|z
 ·cases z
 ·exact z
def Z0{names:List (Str×FI)}{c:AI}(h:cells.lookup x=AA c)(hm:(x,At)∈names):(u3 cells names []).lookup x=AA c:=by
 obtain⟨b,hb⟩:=at5 (a09 (acc:=[]) h (.inl hm));have:=(K8 hb).1;rw[h]at this;cases this;exact hb
structure CompScope(X:Cx)(scope:BG)(Nc:List Str)(fr:List Nat)(k:Nat):Prop where
 kind:scope.kind=.function
 nocell:∀y∈scope.names,y.2≠.cell
 names:∀y∈scope.names,y.2=.local->scope.names.lookup y.1=AA .local
 frees:∀y∈scope.names,y.2=.free->X.env.scope.names.lookup y.1=AA .cell\/X.env.scope.names.lookup y.1=AA .free
 uniq:∀y∈scope.names,y.2=.free->(y.1,NameKind.local)∉scope.names
 nd:Nc.Nodup
 len:Nc.length=fr.length+k
 fre:∀i x,Nc[i]?=AA x->i<fr.length->∃j,fr[i]?=AA j/\X.N[j]?=AA x/\(x,At)∈scope.names
abbrev F8(fr:List Nat)(k:Nat)(σ:St):St:=(fr.map λj=>(σ[j]?).join)++Ak k AD
def bx7(h:((relabel scope env).names.lookup x=AA .cell\/(relabel scope env).names.lookup x=AA .free))(hc:∀y∈scope.names,y.2≠.cell):(x,At)∈scope.names:=by
 have go:∀k,(relabel scope env).names.lookup x=AA k->(k=.cell\/k=.free)->(x,At)∈scope.names:=by
  intro k hk hkk;have hm:=ah2 hk;unfold relabel at hm;obtain⟨⟨n,k'⟩,h1,h2⟩:=Cs.mp hm;dsimp only at h2
  split at h2
  ·rename_i hcond;cases h2;have:k'=.free:=by
    simp only[Au,beq_iff_eq]at hcond;exact hcond.1.1
   rw[<-this];exact h1
  ·cases h2
   rcases hkk with z|z
   ·exact absurd z (hc _ h1)
   ·rw[<-z];exact h1
 rcases h with h|h
 ·exact go _ h (.inl rfl)
 ·exact go _ h (.inr rfl)
def bx8:∀{k},(relabel scope env).names.lookup x=AA k->∃k',(x,k')∈scope.names/\(k=k'\/(k'=.free/\k=.cell)):=by
 intro k hk;have hm:=ah2 hk;unfold relabel at hm;obtain⟨⟨n,k'⟩,h1,h2⟩:=Cs.mp hm;dsimp only at h2
 split at h2
 ·rename_i hcond;cases h2;refine⟨_,h1,.inr ⟨?_,rfl⟩⟩;simp only[Au,beq_iff_eq]at hcond;exact hcond.1.1
 ·cases h2;exact⟨_,h1,.inl rfl⟩
abbrev Cx.comp(X:Cx)(scope:BG)(Nc:List Str)(C:AI)(fp:List AI)(pins:List (AI×Obj))(s:AK)(H:Hp):Cx:=
 {X with N:=Nc,s₀:=s,H₀:=H,env:=KO scope (u3 X.env.cells scope.names []) C X.env,outer:=X.stack,stack:=X.stack,ex:=fp,fn:=λ_=>AE,pn:=X.pn++pins,xe:=λ_ _=>False,ow:=λ_=>AE}
def Cx.comp_ok{k:Nat}(S:CompScope X scope Nc fr k)(I:Inv X pins σ H s)
  (hC:s.heap.objs.size<=C) (hf:∀b∈fp,A4 X pins H b) (hlt:∀b∈fp,b<s.heap.objs.size):(X.comp scope Nc C fp pins s H).Ok where
 mod:=I.ok.mod
 kind:=S.kind
 glob:=I.ok.glob
 blt:=I.ok.blt
 above:=hC
 inj:=λx y c h1 h2=>I.ok.inj x y c (K8 h1).1 (K8 h2).1
 has:=λx h=>by
  have hm:=bx7 h S.nocell;have hx:=S.frees _ hm rfl;obtain⟨c,hc⟩:=I.ok.has x hx;exact⟨c,Z0 hc hm⟩
 cab:=λx c h _=>h.elim (λz=>nomatch z) λz=>nomatch z
 hd:=I.ok.hd
 frames:=I.ok.frames
 stk:=.inl rfl
 exf:=λb hb=>⟨λz=>by have h1:=hlt b hb;have h2:b=C:=z;rw[h2]at h1;exact absurd h1 (KP.mpr hC),λx c h=>(hf b hb).2.2.2.2.1 x c (K8 h).1⟩
 bs:=I.bs
 bsz:=BC I.ok.bsz I.sz
 noex:=λb o e hb=>by
  obtain⟨h0,h1,h2,h3,h4,h5⟩:=hf b hb
  rcases h3 with z|z
  ·exact I.ok.noex b o e z
  ·have:=(I.ok.bs b o e).1;exact absurd (An (BD this) z) (Cv _)
 exfs:=λb hb z=>by
  obtain⟨h0,h1,h2,_⟩:=hf b hb
  rcases AL.mp (I.stkSub b z)with e|e
  ·exact h1 e
  ·exact h2 e
 funs:=I.stack
 frf:=I.stkFree
def bz9{k:Nat}{h1:BI}{tk:Nat}(S:CompScope X scope Nc fr k)(I:Inv X pins σ H s)
  (hC:s.heap.objs.size<=C) (hf:∀b∈fp,A4 X pins H b) (hlt:∀b∈fp,b<s.heap.objs.size) (hk:∀b o,s.heap.get? b=AA o->h1.get? b=AA o) (hn:h1.Ns C (λ_=>AD)) :
  Inv (X.comp scope Nc C fp pins s H) [] (F8 fr k σ) H {s with heap:=h1,toks:=tk}:=by
 have hfC:H C=AD:=I.hok.fresh hC;refine⟨Cx.comp_ok S I hC hf hlt,rfl,I.bare,Un.kept hk,⟨_,hn,λi x v e1 e2 e3=>?_⟩,λx c e=>?_,hfC,λx c e=>(I.freeC x c (K8 e).1).imp id λz=>⟨rfl,z.2⟩,λp hp=>?_,I.hok.kept hk,?_⟩
 ·have hi:i<fr.length:=by
   unfold F8 at e2
   by_cases hi:i<fr.length
   ·exact hi
   ·rw[Af (by simpa using hi),Ct]at e2
    split at e2<;>cases e2
  obtain⟨j,hj,hN,hm⟩:=S.fre i x e1 hi;have e2':σ[j]?=AA (AA v):=by
   unfold F8 at e2;rw[Aa (by simpa using hi),Al,hj]at e2;simp only[Fi,Bs]at e2;cases q:σ[j]? with
   |none=>rw[q]at e2;cases e2
   |some o=>rw[q]at e2;exact congrArg AA e2
  obtain⟨m,hns,hl⟩:=I.loc;have hvis:Vis X.env.scope x:=by
   rcases S.frees _ hm rfl with z|z
   ·exact .inr (.inl z)
   ·exact .inr (.inr z)
  obtain⟨u,r,l⟩:=hl j x v hN e2' hvis;refine⟨u,r,?_⟩
  rcases l with⟨l1,_⟩|⟨l1,c,lc,lz⟩
  ·exfalso;have l1':X.env.scope.names.lookup x=AA .local:=l1
   rcases S.frees _ hm rfl with z|z
   ·rw[l1']at z;cases z
   ·rw[l1']at z;cases z
  ·refine .inr ⟨?_,c,Z0 lc hm,?_⟩
   ·have e3':Vis (relabel scope X.env) x:=e3
    rcases e3' with z|z|z
    ·exfalso;obtain⟨k',h1,h2⟩:=bx8 z
     rcases h2 with h2|h2
     ·subst h2;exact S.uniq _ hm rfl h1
     ·cases h2.2
    ·exact .inl z
    ·exact .inr z
   ·obtain⟨o,ho,hd⟩:=lz;exact⟨o,hk _ _ ho,hd⟩
 ·obtain⟨v,o,ho,hd⟩:=I.cell x c (K8 e).1;exact⟨v,o,hk _ _ ho,hd⟩
 ·have hp':p∈X.pn++pins:=by
   have:p∈(X.pn++pins)++[]:=hp;simpa using this
  obtain⟨q1,q2,q3,q4,q5⟩:=I.pin p hp';refine⟨hk _ _ q1,q2,λz=>?_,λz=>?_,q5⟩
  ·have h2:p.1=C:=z;have h3:=BD q1;rw[h2]at h3;exact absurd h3 (KP.mpr hC)
  ·rcases AL.mp (I.stkSub p.1 z)with e|e
   ·exact q3 e
   ·exact q4 e
 ·unfold F8;rw[AX,AT,EN];exact S.len.symm
def b40{pl:List (AI×Obj)}{σc:St}{H':Hp}{s':AK}(I:Inv X pins σ H s)(hf:∀b∈fp,A4 X pins H b)
  (I':Inv (X.comp scope Nc C fp pins s H) pl σc H' s'):Inv X pins σ H' s':=by
 obtain⟨hh,g,d,t,os'⟩:=s';obtain rfl:os'=s.os:=I'.os;exact I.call (h':=hh) (g':=g) (d':=d) (t':=t) (ch:=fp) I'.base I'.hok I'.bare λb hb=>by
  obtain⟨h0,h1,h2,h3,h4,h5⟩:=hf b hb;exact⟨h3,h1,h4,h5⟩
def au2{σ0:St}{H0:Hp}{s0:AK}{h':BI}(I0:Inv X pins σ0 H0 s0)(hC:s0.heap.objs.size<=C)(I:Inv X pins σ H s)(hn:H C=AD)
  (sb:CA C s.heap h'):Inv X pins σ H {s with heap:=h'}:=by
 refine I.turned (t':=s.toks) (it:=C) (λb o hb e=>(sb.2 b hb).trans e) hn ?_ (.inr (BC I0.sz hC)) ?_ ?_
 ·exact λz=>absurd (An I0.lt hC) (by rw[z];exact Cv _)
 ·intro x c e z;obtain⟨v,q⟩:=I0.cell x c e;exact absurd (An q.lt hC) (by rw[z];exact Cv _)
 ·intro p hp z;exact absurd (An (BD (I0.pin p hp).1) hC) (by rw[z];exact Cv _)
abbrev an2(fr:List Nat)(k:Nat)(wi:TI)(g:TG)(tc:TT)(te:TE)(fin:V->Hp->Prop):St->Hp->Prop:=λσ H=>
 wi σ H λJ H1=>∀p,H1 p=AD->∃W:Nat->Nat->St->Hp->Prop,(∃m,W 0 m (F8 fr k σ) (upd H1 p (.lst [])))/\∀i m σc H2,W i m σc H2 ->
  (J.stop i H2/\fin (.ref p) H2)\/(J.go i H2/\∃N:St->Hp->Prop,(∀σ' H',N σ' H'->∃m',m'<m/\W (i+1) m' σ' H') /\
   ∀x H3,J.yld i H2 x H3->g x σc H3 λσ4 H4=>tc σ4 H4 λb H5=>if b=AC then te σ4 H5 λv H6=>∃ys,H6 p=AA (.lst ys)/\ys.length<sizeLine/\N σ4 (upd H6 p (.lst (ys++[v])))else N σ4 H5)
abbrev PCs(X:Cx)(ifs:List AQ)(t:TT):Prop:=
 ∀(pins:List (AI×Obj))(s:AK)(σ:St)(H:Hp)(Q:Bool->Hp->Prop),Inv X pins σ H s->t σ H Q ->
  AU (model X.prog X.w) X.A (forIn ifs AC λc r=>if r=AC then do let ok <-Gx c X.env (eval c X.env);pure (Bd ok)else pure (Bd r)) (TP X pins σ Q) X.xe s
abbrev cx5:TT:=λ_ H Q=>Q AC H
def cf8:PCs X [] cx5:=λ_ _ _ H _ I h=>wpAny_tests_nil ⟨H,I,h⟩
def cg5{c:AQ}{t:TT}(hc:PT X c t):PCs X [c] t:=λpins s σ H Q I h=>wpAny_tests_one (hc pins s σ H Q I h)
section
variable {k:Nat} {tg iter elt:AQ} {ifs:List AQ} {wi:TI} {g:TG} {tc:TT} {te:TE} {pos:Pos}
def au0(hc:X.calm=AC)(S:CompScope X scope Nc fr k)(hg:∀C fp pins s H,PG (X.comp scope Nc C fp pins s H) tg g)(ht:∀C fp pins s H,PCs (X.comp scope Nc C fp pins s H) ifs tc)(he:∀C fp pins s H,PE (X.comp scope Nc C fp pins s H) elt te)
  {pins:List (AI×Obj)} {σ:St} {s2:AK} {H2:Hp} {it:AI} {fp:List AI} {tn:Nat->BI->Prop} {J:It} {fin:V->Hp->Prop} {RR:AG->AI->Iw->AK->Prop} {E:AG->AK->Prop}
  (I2:Inv X pins σ H2 s2) (T:Turn X.prog X.w X.K tg J fp it tn) (st2:tn 0 s2.heap) (f2:∀b∈fp,A4 X pins H2 b)
  (h:∀p,H2 p=AD->∃W:Nat->Nat->St->Hp->Prop,(∃m,W 0 m (F8 fr k σ) (upd H2 p (.lst [])))/\∀i m σc H2,W i m σc H2 ->
   (J.stop i H2/\fin (.ref p) H2)\/(J.go i H2/\∃N:St->Hp->Prop,(∀σ' H',N σ' H'->∃m',m'<m/\W (i+1) m' σ' H') /\
    ∀x H3,J.yld i H2 x H3->g x σc H3 λσ4 H4=>tc σ4 H4 λb H5=>if b=AC then te σ4 H5 λv H6=>∃ys,H6 p=AA (.lst ys)/\ys.length<sizeLine/\N σ4 (upd H6 p (.lst (ys++[v])))else N σ4 H5))
  (hRR:∀(D C:AI)(H':Hp)(s':AK)(s3:AK)(H3:Hp)(m':Str->Option AG),Inv X pins σ H3 s3->s3.heap.objs.size<=C->Inv X pins σ H' s'->H' C=AD->s'.heap.Ns C m'->fin (.ref D) H'->RR (.ref D) C (.ok .next) s') :
  AU (model X.prog X.w) X.A (newList []) (λacc s₃=>AU (model X.prog X.w) X.A (KQ scope X.env.globals (u3 X.env.cells scope.names []) [] X.env.qual AD .none (AA X.env)) (λcenv s₄=>
   EH (model X.prog X.w) X.A (.compStart (.ListComp elt [⟨tg,iter,ifs,0⟩] scope pos) 0 (.ref it) acc {cenv with scope:=relabel scope X.env}) (RR acc cenv.locals) s₄) E s₃) E s2:=by
 have hp:=I2.hok.fresh (AY s2.heap.objs.size);obtain⟨W,⟨m0,w0⟩,turn⟩:=h s2.heap.objs.size hp;refine BZ (IP S.nocell (by intro y hy;simp at hy) (λh₁ hns₁ hsb₁=>?_) S.kind);dsimp only at hns₁ hsb₁ ⊢;have I3:Inv X pins σ (upd H2 s2.heap.objs.size (.lst [])) {s2 with heap:=s2.heap.push {cls:=.type "list",dict:=AD,data:=.seq ([]:List AG).toArray}}:=
  I2.laid (t':=s2.toks) (λb u e=>AS _ e) (AY _) ⟨BV _,[],0,.nil,Aq _ rfl⟩
 have hlt2:∀b∈fp,b<s2.heap.objs.size:=λb hb=>by
  obtain⟨o,e,_⟩:=T.obj _ _ st2 b hb;exact BD e
 have f3:∀b∈fp,A4 X pins (upd H2 s2.heap.objs.size (.lst [])) b:=λb hb=>by
  obtain⟨q0,q⟩:=f2 b hb;exact⟨by rw[i8 (BS (hlt2 b hb))];exact q0,q⟩
 generalize hH3:(s2.heap.push {cls:=.type "list",dict:=AD,data:=.seq ([]:List AG).toArray}:BI)=g3 at I3 hns₁ hsb₁ ⊢;have hsz:g3.objs.size=s2.heap.objs.size+1:=by rw[<-hH3,GP]
 have hlt3:∀b∈fp,b<g3.objs.size:=λb hb=>by rw[hsz];exact IF (hlt2 b hb)
 have k3:∀b o,g3.get? b=AA o->h₁.get? b=AA o:=λb o e=>hsb₁.extBut b o (BS (BD e)) (AS _ e);have st3:tn 0 g3:=T.keep _ _ _ st2 λb _ o e=>by rw[<-hH3];exact AS _ e
 have st4:tn 0 h₁:=T.keep _ _ _ st3 λb _ o e=>k3 b o e;have I4:Inv (X.comp scope Nc g3.objs.size fp pins {s2 with heap:=g3} (upd H2 s2.heap.objs.size (.lst []))) [] (F8 fr k σ) (upd H2 s2.heap.objs.size (.lst [])) {s2 with heap:=h₁,toks:=s2.toks+([]:List (Str×AG)).length}:=
  bz9 (s:={s2 with heap:=g3}) S I3 (AY _) f3 hlt3 k3 hns₁
 generalize hXc:X.comp scope Nc g3.objs.size fp pins {s2 with heap:=g3} (upd H2 s2.heap.objs.size (.lst []))=Xc at I4;have eA:Xc.A=X.A:=by rw[<-hXc];rfl
 have eP:Xc.prog=X.prog:=by rw[<-hXc];rfl
 have ew:Xc.w=X.w:=by rw[<-hXc];rfl
 have eK:Xc.K=X.K:=by rw[<-hXc];rfl
 have ec:Xc.calm=AC:=by rw[<-hXc];exact hc
 have ee:Xc.env=KO scope (u3 X.env.cells scope.names []) g3.objs.size X.env:=by rw[<-hXc];rfl
 have ex:Xc.xe=λ_ _=>False:=by rw[<-hXc];rfl
 have T':Turn Xc.prog Xc.w Xc.K tg J fp it tn:=by rw[eP,ew,eK];exact T
 have stat:∀{H':Hp},(∀b∈fp,H' b=AD)->∀b∈fp,A4 Xc [] H' b:=λhn b hb=>by
  obtain⟨q0,q1,q2,q3,q4,q5⟩:=f3 b hb;subst hXc;refine⟨hn b hb,BS (hlt3 b hb),λz=>?_,.inl hb,λx c e=>q4 x c (K8 e).1,λp hp=>q5 p ?_⟩
  ·rcases AL.mp (I3.stkSub b z)with e|e
   ·exact q1 e
   ·exact q2 e
  ·have:p∈(X.pn++pins)++[]:=hp;simpa using this
 have loop:∀s₃:AK,s₃={s2 with heap:=h₁,toks:=s2.toks+([]:List (Str×AG)).length} ->
   EH (model X.prog X.w) X.A (.compLoop (.ListComp elt [⟨tg,iter,ifs,0⟩] scope pos) 0 (.ref it) (.ref s2.heap.objs.size) (KO scope (u3 X.env.cells scope.names []) g3.objs.size X.env)) (RR (.ref s2.heap.objs.size) g3.objs.size) s₃:=by
  rintro s₃ rfl;rw[<-ee,<-eA,<-eP,<-ew];refine bx3 (λn s'=>∃i σ' H',Inv Xc [] σ' H' s'/\tn i s'.heap/\(∀b∈fp,H' b=AD)/\W i n σ' H') ?_ m0 ⟨0,_,_,I4,st4,λb hb=>(f3 b hb).1,w0⟩;rintro n s5 ⟨i,σ5,H5,I5,st5,fr5,w5⟩
  rcases turn i n σ5 H5 w5 with⟨stop,qn⟩|⟨go,N,hN,step⟩
  ·refine thn (T'.done Xc rfl rfl rfl ec i [] s5 σ5 H5 _ I5 (stat fr5) st5 stop) λr s6⟨hr,I6⟩=>?_;subst hr;subst hXc;obtain⟨m',hm,_⟩:=id I6.loc;exact hRR _ _ H5 s6 _ _ m' I3 (AY _) (b40 I3 f3 I6) I6.free hm qn
  ·refine thn (T'.item Xc rfl rfl rfl ec i [] s5 σ5 H5 _ I5 (stat fr5) st5 go) λr s6⟨u,hr,h6⟩=>?_;subst hr;refine thn h6 λ_ s7 z32=>?_;obtain⟨x,H7,I7,r7,y7,st7,fr7⟩:=z32;have I7':=I7.pinned (stat fr7) (T.obj _ _ st7);have hgX:PG Xc tg g:=by rw[<-hXc];exact hg _ _ _ _ _
   have htX:PCs Xc ifs tc:=by rw[<-hXc];exact ht _ _ _ _ _
   have heX:PE Xc elt te:=by rw[<-hXc];exact he _ _ _ _ _
   have again:∀{s9:AK}{σ9:St}{H9:Hp},Inv Xc ([]++V7 fp s7.heap) σ9 H9 s9->N σ9 H9->∃m,m<n/\∃i σ' H',Inv Xc [] σ' H' s9/\tn i s9.heap/\(∀b∈fp,H' b=AD)/\W i m σ' H':=λ{s9 σ9 H9}I9 n9=>by
    obtain⟨m',hm,w9⟩:=hN σ9 H9 n9;refine⟨m',hm,i+1,σ9,H9,I9.unpinned,T.keep _ _ _ st7 λb hb o e=>(I9.pin (b,o) (BE _ (BE _ (Y0 hb e)))).1,λb hb=>?_,w9⟩;obtain⟨o,e,d⟩:=T.obj _ _ st7 b hb;exact(I9.pin (b,o) (BE _ (BE _ (Y0 hb e)))).2.1
   have hgw:=hgX _ s7 σ5 H7 x u _ I7' r7 (step x H7 y7);rw[ex]at hgw;refine thn hgw λ_ s8 z33=>?_;obtain⟨σ8,H8,I8,q8⟩:=z33;have htw:=htX _ s8 σ8 H8 _ I8 q8;rw[ex]at htw;refine thn htw λok s9⟨H9,I9,q9⟩=>?_;cases ok with
   |false=>
    rw[if_neg AH]at q9 ⊢;exact again I9 q9
   |true=>
    rw[if_pos rfl]at q9 ⊢;have hew:=heX _ s9 σ8 H9 _ I9 q9;rw[ex]at hew;refine thn hew λxv s10 z34=>?_;obtain⟨v,H10,I10,r10,ys,hys,hlen,n10⟩:=z34;have hap:=ax2 (X:=Xc) _ s10 σ8 H10 (.ref s2.heap.objs.size) [v] (.ref s2.heap.objs.size) [xv] (λ_ H11=>N σ8 H11) I10 rfl (.cons r10 .nil) ⟨_,ys,v,rfl,rfl,hys,hlen,n10⟩;rw[ex]at hap;exact thn hap λ_ s11⟨_,H11,I11,_,n11⟩=>again I11 n11
 exact codeAny_compStart_list (loop _ rfl) (T.self _ 0 _ _ _ st4 (loop _ rfl))
def au1(S:CompScope X scope Nc fr k)(I:Inv X pins σ H s):∀x∈scope.names,x.2=.free->(X.env.cells.lookup x.1).isSome=AC:=λx hx hf=>by
 obtain⟨c,e⟩:=I.ok.has x.1 (S.frees x hx hf);rw[e];rfl
def cj6(hc:X.calm=AC)(S:CompScope X scope Nc fr k)(hi:PI X tg iter wi)(hg:∀C fp pins s H,PG (X.comp scope Nc C fp pins s H) tg g)(ht:∀C fp pins s H,PCs (X.comp scope Nc C fp pins s H) ifs tc)(he:∀C fp pins s H,PE (X.comp scope Nc C fp pins s H) elt te)
  (hs:∀x,DE iter X.env x=pure x:=by intro _;rfl):PE X (.ListComp elt [⟨tg,iter,ifs,0⟩] scope pos) (λσ H Q=>an2 fr k wi g tc te Q σ H):=by
 intro pins s σ H Q I h;rw[eval_ListComp];refine HU (use:=AD) (cl:=u3 X.env.cells scope.names []) rfl hs (ah1 (au1 S I)) S.kind S.names ?_;refine thn (hi pins s σ H _ I h) λxv s1 h1=>thn h1 λitv s2 h2=>?_;obtain⟨it,fp,tn,J,H2,e,I2,T,st2,f2,h⟩:=h2;subst e;refine au0 (RR:=λacc C=>compPost (model X.prog X.w) X.A X.xe AD (EP X pins σ Q) acc C) hc S hg ht he I2 T st2 f2 h ?_;intro D C H' s' s3 H3 m' I3 hC I' hn hns q;exact⟨m',hns,λh' sb=>⟨.ref D,H',au2 I3 hC I' hn sb,rfl,q⟩⟩
def b11{i:Nat}{y:Str}{py spos:Pos}(hc:X.calm=AC)(hN:X.N.Nodup)(hiy:X.N[i]?=AA y)(hy:Loc X.env.scope y)(hfy:X.fn y=AC\/X.env.scope.names.lookup y=AA .local)
  (S:CompScope X scope Nc fr k) (hi:PI X tg iter wi) (hg:∀C fp pins s H,PG (X.comp scope Nc C fp pins s H) tg g) (ht:∀C fp pins s H,PCs (X.comp scope Nc C fp pins s H) ifs tc) (he:∀C fp pins s H,PE (X.comp scope Nc C fp pins s H) elt te)
  (hsw:CO (.ListComp elt [⟨tg,iter,ifs,0⟩] scope pos) (AA (.Name y py)) spos.line X.env=pure AC)
  (hs:∀x,DE iter X.env x=pure x:=by intro _;rfl):PS X (.Assign [.Name y py] (.ListComp elt [⟨tg,iter,ifs,0⟩] scope pos) spos) (λD σ H=>an2 fr k wi g tc te (λv H'=>D.nx (σ.set i (AA v)) H') σ H):=by
 intro pins s σ H D I h;rw[exec_Assign_Name_used _ _ _ _ hsw];refine AF (HQ (AF ?_));show AU _ X.A (do let _ <-comprehension (.ListComp elt [⟨tg,iter,ifs,0⟩] scope pos) scope X.env _ (newList []) AE (eval iter X.env) (AA (assign (.Name y py) X.env))) _ _ s;refine AF (Bc (HU (use:=AA (assign (.Name y py) X.env)) (cl:=u3 X.env.cells scope.names []) (Q:=λ_ s'=>SP X pins D .next s') rfl hs (ah1 (au1 S I)) S.kind S.names ?_) (λ_ s' hq=>AM (AM hq)) λ_ _ e=>e);refine thn (hi pins s σ H _ I h) λxv s1 h1=>thn h1 λitv s2 h2=>?_;obtain⟨it,fp,tn,J,H2,e,I2,T,st2,f2,h⟩:=h2;subst e;refine au0 (RR:=λacc C=>compPost (model X.prog X.w) X.A X.xe (AA (assign (.Name y py) X.env)) (λ_ s'=>SP X pins D .next s') acc C) (fin:=λv H'=>D.nx (σ.set i (AA v)) H') hc S hg ht he I2 T st2 f2 h ?_;intro D' C H' s' s3 H3 m' I3 hC I' hn hns q;show AU _ X.A (assign (.Name y py) X.env (.ref D')) _ _ s';obtain⟨oC,es,ep,hoC,hdC,hrest⟩:=id hns;have neL:C≠X.env.locals:=λz=>absurd (An I3.lt hC) (by rw[z];exact Cv _);have nfs:C∉X.fs:=I3.nofs hC;have I'':Inv X (pins++[(C,oC)]) σ H' s':=I'.pins_of λp hp=>by
  rcases BK.mp hp with z|z
  ·exact I'.pin p (BE _ z)
  ·have e:p=(C,oC):=by simpa using z
   subst e;exact⟨hoC,hn,neL,nfs,λv z=>by rw[hdC]at z;cases z⟩
 refine JI (Y8 I'' hN hiy hy (v:=.ref D') rfl (λs'' J''=>?_) hfy);obtain⟨p1,p2,_⟩:=J''.pin (C,oC) ∎;refine⟨m',⟨oC,es,ep,p1,hdC,hrest⟩,λh' sb=>⟨_,H',au2 I3 hC J''.unpinned p2 sb,q⟩⟩
end
end L2
namespace PySem
section
variable {prog:Aj} {w:BB} {A:BP} {E:AG->AK->Prop} {s:AK}
def bv4{it l:AI}{i:Nat}{items}{x:AG}{Q:AG->AK->Prop}(hit:s.heap.IsTupleIter it l i)
  (hl:s.heap.IsTuple l items) (hx:items[i]?=AA x)
  (hQ:∀h',h'.IsTupleIter it l (i+1)->CA it s.heap h'->Q x {s with heap:=h'}) :
  AU (model prog w) A (CL (.ref it)) Q E s:=by
 obtain⟨o,ho,hc,hd⟩:=id hit;obtain⟨ol,hol,_,nl,hdl⟩:=hl;unfold CL;refine AF (Be (name:=AV "__next__") hit.typeIs Ce
  (BU Ce hit.typeIs GZ ?_ (GS _)))
 show AU _ _ (field (.ref it) 0 >>= _) _ _ s;refine AF (Bm ho hd (x:=.ref l) rfl ?_);show AU _ _ (if (Ap l == Bh)=AC then _ else _) _ _ s;rw [if_neg (show ¬ ((Ap l == Bh)=AC) from AH)];show AU _ _ (field (.ref it) 1 >>= _) _ _ s;refine AF (Bm ho hd (x:=.int i 0) rfl ?_);show AU _ _ (seqItems? (.ref l) >>= _) _ _ s;refine AF (DC hol hdl ?_);simp only [Cu,hx];refine AF (Dx ho hd ∎ (AM ⟨x,rfl,AM (hQ _ ?_ (CT ..))⟩));exact ⟨_,EV _ ho (EY (CP hd _)),(IG ..).trans hc,by
  rw[CP hd];simp[Ed]⟩
def bv5{it l:AI}{i:Nat}{items}{Q:AG->AK->Prop}(hh:A.handled=AD)
  (hit:s.heap.IsTupleIter it l i) (hl:s.heap.IsTuple l items) (hx:items[i]?=AD)
  (hE:∀h' e,HK it s.heap h'->(∃o,h'.get? e=AA o/\o.cls=.type "StopIteration")->E (.ref e) {s with heap:=h'}) :
  AU (model prog w) A (CL (.ref it)) Q E s:=by
 obtain⟨o,ho,hc,hd⟩:=id hit;obtain⟨ol,hol,_,nl,hdl⟩:=hl;unfold CL;refine AF (Be (name:=AV "__next__") hit.typeIs Ce
  (BU Ce hit.typeIs GZ ?_ (GS _)))
 show AU _ _ (field (.ref it) 0>>=_) _ _ s;refine AF (Bm ho hd (x:=.ref l) rfl ?_);show AU _ _ (if(Ap l==Bh)=AC then _ else _) _ _ s;rw[if_neg (show ¬((Ap l==Bh)=AC) from AH)];show AU _ _ (field (.ref it) 1>>=_) _ _ s;refine AF (Bm ho hd (x:=.int i 0) rfl ?_);show AU _ _ (seqItems? (.ref l)>>=_) _ _ s;refine AF (DC hol hdl ?_);simp only[Cu,hx];refine AF (Eb (AF (Dx ho hd ∎ ?_)));show AU _ _ (KR (.type "StopIteration") []>>=_) _ _ _;refine AF ?_;simp only[KR,newTuple];refine AF (BZ ?_ (by size_fits));refine AF (m:=FL _ _) (FM (a:=Bh) (by first|rfl|(simp only[FL];rfl)) ?_);refine BZ ?_ (by size_fits);simp only[raiseNew];refine AF (wpAny_handled ?_)
 first|rw[show A.in1.handled=AD from hh]|rw[hh]
 refine AF (AM (wpAny_throw ?_));exact hE _ _ (((CT ..).extBut.push _).push _) ⟨_,Aq _ rfl,rfl⟩
end
def Draws.tuple{prog:Aj}{w:BB}{A:BP}(hh:A.handled=AD)(it l:AI)(hne:l≠it)(items:Array AG):
  Draws prog w A it [it,l] items.size (λi v=>items[i]?=AA v) (λi h=>h.IsTupleIter it l i/\h.IsTuple l items) where
 live:=λ_ _ st=>let⟨o,ho,_⟩:=st.1;⟨o,ho⟩
 frame:=λ_ _ _ st hk=>⟨st.1.at λo e=>hk it ∎ o e,let⟨o,ho,r⟩:=st.2;⟨o,hk l ∎ o ho,r⟩⟩
 item:=λi s Q E hi st hQ=>by
  refine bv4 st.1 st.2 (x:=items[i]) (by simp[hi]) λh' hit' hs'=>?_;exact hQ _ h' s.toks (by simp[hi]) ⟨hit',st.2.extBut hs'.extBut hne⟩ hs'
 done:=λs Q E st hE=>bv5 hh st.1 st.2 ∎ hE
open AutoSeq1 (wpAny_loadPart') in
def bv7(l:AI)(items:Array AG)(n:Nat)(dct:Option AI)(sl:Array (Option AG)):
  JP (Dk.«enumerate.__new__» ⟨[.type "enumerate",.ref l],[]⟩) (λ_ R s=>s.heap.get? l=AA {cls:=.type "tuple",dict:=dct,data:=.seq items n,slots:=sl} /\
   R (.ok (.ret (.ref (s.heap.push {cls:=.type "tuple_iterator",data:=.fields #[.ref l,.int 0 0]}).objs.size)))
    {s with heap:=(s.heap.push {cls:=.type "tuple_iterator",data:=.fields #[.ref l,.int 0 0]}).push {cls:=.type "enumerate",data:=.fields #[.none,.bool AE,.ref s.heap.objs.size,Ed 0,.none,.none]}}):=
 .of_wp λprog w A R s h=>by
  obtain⟨hp,g,d,tk,os⟩:=s;obtain⟨hl,h⟩:=h;have hsub:=sub_enumerate;have hL:Heap.IsTuple (Shared.heap ⟨hp,g,d,tk,os⟩) l items:=⟨_,hl,rfl,n,rfl⟩
  wp_walk using Em hl
  refine wpAny_stack_any λst=>AM ?_
  split
  ·rename_i c _ _ _ _ _;cases(c==EC "enumerate")
   ·wp_walk using Em hl,Dy hL
    exact⟨_,rfl,h⟩
   ·wp_walk using Em hl,Dy hL
    exact⟨_,rfl,h⟩
  ·wp_walk using Em hl,Dy hL
   exact⟨_,rfl,h⟩
section
variable {prog:Aj} {w:BB} {A:BP} {E:AG->AK->Prop} {s:AK}
def bv6{l:AI}{items:Array AG}{Q:AG->AK->Prop}(hL:s.heap.IsTuple l items)
  (h:∀h',KS h' (s.heap.objs.size+1) s.heap.objs.size 0 .none->h'.IsTupleIter s.heap.objs.size l 0->h'.objs.size=s.heap.objs.size+2 ->
   (∀b o,s.heap.get? b=AA o->h'.get? b=AA o)->Q (.ref (s.heap.objs.size+1)) {s with heap:=h'}) :
  AU (model prog w) A (call (.type "enumerate") [.ref l]) Q E s:=by
 obtain⟨⟨c,dct,dt,sl⟩,hl,hc,n,hd⟩:=hL;replace hc:c=.type "tuple":=hc;replace hd:dt=.seq items n:=hd;subst hc hd;refine callType_new F.called_enumerate ∅ (F.typeCall_enumerate_1 _) (F.newCall_enumerate_1 _) (λobj=>Hx obj _) F.entry_enumerate_new
  (bv7 l items n dct sl) ⟨hl,?_⟩
 have hz:(s.heap.push {cls:=.type "tuple_iterator",data:=.fields #[.ref l,.int 0 0]}).objs.size=s.heap.objs.size+1:=GP ..;show _/\_;rw[hz];have he:KS ((s.heap.push {cls:=.type "tuple_iterator",data:=.fields #[.ref l,.int 0 0]}).push
   {cls:=.type "enumerate",data:=.fields #[.none,.bool AE,.ref s.heap.objs.size,Ed 0,.none,.none]}) (s.heap.objs.size+1) s.heap.objs.size 0 .none:=by
  have:=Aq (s.heap.push {cls:=.type "tuple_iterator",data:=.fields #[.ref l,.int 0 0]})
   (o:={cls:=.type "enumerate",data:=.fields #[.none,.bool AE,.ref s.heap.objs.size,Ed 0,.none,.none]}) rfl
  rw[hz]at this;exact this
 refine⟨⟨_,he,rfl⟩,h _ he ⟨_,AS _ (Aq _ rfl),rfl,rfl⟩ (by rw[GP,hz]) λb o x=>AS _ (AS _ x)⟩
end
end PySem
namespace L2
open PySem PySem.Spec PyProof.Rows
variable{pins:List (AI×Obj)}{σ:St}{elts:List AQ}{k0:Nat}{tp:Pos}
section
variable {X:Cx} {H:Hp} {s:AK} {h':BI}
def Inv.turnedNew{t':Nat}{ch:List AI}{o:HO}(I:Inv X pins σ H s)(hch:∀b∈ch,A4 X pins H b)(k:∀b u,b∉ch->s.heap.get? b=AA u->h'.get? b=AA u)(ex:∀b∈ch,∃u,h'.get? b=AA u)
  (new:o7 X.prog X.w (upd H s.heap.objs.size o) h' s.heap.objs.size o):Inv X pins σ (upd H s.heap.objs.size o) {s with heap:=h',toks:=t'}:=by
 have hT:H s.heap.objs.size=AD:=I.hok.fresh (AY _);have neT:∀b u,s.heap.get? b=AA u->b≠s.heap.objs.size:=λb u e=>BS (BD e);have nch:∀b u,H b=AA u->b∉ch:=λb u e z=>by rw[(hch b z).1]at e;cases e
 refine I.step (g':=s.gens) (d':=s.drawn) (ch:=ch) (λb hb=>?_) (λb u _ _ hc e _=>k b u hc e) (λb u _ _ hc e _=>⟨u.slots,k b u hc e⟩) (λb u _ e n=>by rw[i8 (neT b u e)];exact n)
  (λb u hc e=>⟨u,k b u hc e⟩) (λb xs e=>by rw[i8 (u4 e hT)];exact e) (λb u v e=>by rw[i8 (u4 e hT)];exact e) (λb ps e=>⟨#[],by rw[i8 (u4 e hT),e];simp⟩) (λm hm=>?_) (λb u e=>?_) I.bare
 ·obtain⟨h0,h1,h2,h3,h4,h5⟩:=hch b hb;exact⟨h3,h1,h4,h5⟩
 ·obtain⟨ob,es,ep,ho,r⟩:=hm;exact⟨ob,es,ep,k _ ob (λz=>(hch _ z).2.1 rfl) ho,r⟩
 ·by_cases hb:b=s.heap.objs.size
  ·subst hb;rw[r8]at e;cases e;exact new
  ·rw[i8 hb]at e;refine(I.hok b u e).stay (λc v hc q=>k c v ?_ q) (λc q=>by rw[i8 (u4 q hT)];exact q) λc xs q=>by rw[i8 (u4 q hT)];exact q
   rcases hc with z|z
   ·rw[z];exact nch b u e
   ·exact nch c _ z
def Inv.turnedAll{t':Nat}{ch:List AI}(I:Inv X pins σ H s)(hch:∀b∈ch,A4 X pins H b)(k:∀b u,b∉ch->s.heap.get? b=AA u->h'.get? b=AA u):Inv X pins σ H {s with heap:=h',toks:=t'}:=by
 have nch:∀b u,H b=AA u->b∉ch:=λb u e z=>by rw[(hch b z).1]at e;cases e
 refine I.step (g':=s.gens) (d':=s.drawn) (ch:=ch) (λb hb=>?_) (λb u _ _ hc e _=>k b u hc e) (λb u _ _ hc e _=>⟨u.slots,k b u hc e⟩) (λb u _ e n=>n)
  (λb u hc e=>⟨u,k b u hc e⟩) (λb xs e=>e) (λb u v e=>e) (λb ps e=>⟨#[],by rw[e];simp⟩) (λm hm=>?_) (λb u e=>?_) I.bare
 ·obtain⟨h0,h1,h2,h3,h4,h5⟩:=hch b hb;exact⟨h3,h1,h4,h5⟩
 ·obtain⟨ob,es,ep,ho,r⟩:=hm;exact⟨ob,es,ep,k _ ob (λz=>(hch _ z).2.1 rfl) ho,r⟩
 ·refine(I.hok b u e).stay (λc v hc q=>k c v ?_ q) (λc q=>q) λc xs q=>q
  rcases hc with z|z
  ·rw[z];exact nch b u e
  ·exact nch c _ z
end
abbrev Ite(K:AO)(sq:Hp->List V->Prop):It:=
 ⟨λi H=>∃xs x,sq H xs/\xs[i]?=AA x,λi H x H'=>∃t v,H t=AD/\x=.ref t/\H'=upd H t (.tup [.int i,v])/\∀xs,sq H xs->xs[i]?=AA v,λi H=>∃xs,sq H xs/\xs.length=i⟩
def aw9{P:Aj}{w:BB}{K:AO}{sq:Hp->List V->Prop}{e it:AI}{pit:Nat->BI->Prop}{bad:AI->Prop}
  (hei:e≠it) (iobj:∀i h,pit i h->∃o,h.get? it=AA o/\∀v,o.data≠.cell v) (ikeep:∀i h h',pit i h->(∀o,h.get? it=AA o->h'.get? it=AA o)->pit i h')
  (dr:∀(X:Cx),X.prog=P->X.w=w->X.K=K->X.calm=AC->∀(i:Nat)(pins:List (AI×Obj))(s:AK)(σ:St)(H:Hp)(xs:List V),Inv X pins σ H s->A4 X pins H e->A4 X pins H it->pit i s.heap->(∃old,KS s.heap e it i old)->sq H xs ->
   ∃(its:List AG)(fp:List AI)(Pv:Nat->AG->Prop)(St:Nat->BI->Prop),f7 xs its/\xs.length<=sizeLine/\Draws P w X.A.in1 it fp its.length Pv St/\e∉fp/\St i s.heap/\(∀j v,Pv j v->its[j]?=AA v)/\∀j h,St j h->pit j h)
  (inj:∀(X:Cx)(pins:List (AI×Obj))(s:AK)(σ:St)(H:Hp)(xs ys:List V),X.K=K->Inv X pins σ H s->sq H xs->sq H ys->xs=ys) :
  Turn P w K (.Tuple elts k0 tp) (Ite K sq) [e,it] e (λi h=>(∃old,KS h e it i old)/\pit i h) where
 mem:=by simp
 obj:=λi h st b hb=>by
  rcases AL.mp hb with z|z
  ·subst z;obtain⟨⟨old,he⟩,_⟩:=st;exact⟨_,he,λv z=>by cases z⟩
  ·have z':b=it:=by simpa using z
   subst z';exact iobj i h st.2
 keep:=λi h h' st kk=>by
  obtain⟨⟨old,he⟩,hp⟩:=st;exact⟨⟨old,kk e ∎ _ he⟩,ikeep i h h' hp λo q=>kk it ∎ o q⟩
 item:=by
  intro X hP hw hK hc i pins s σ H E I hf st hg;obtain⟨xs,x,hq,hx⟩:=hg;obtain⟨its,fp,Pv,St,rv,hz,D,hef,hst,hPv,hSt⟩:=dr X hP hw hK hc i pins s σ H xs I (hf e ∎) (hf it ∎) st.2 st.1 hq;obtain⟨⟨old,he⟩,hp⟩:=st;have hi:i<its.length:=by
   rw[<-rv.length];exact(AR.mp hx).1
  refine wpAny_pyNext_enum_itemD D he hst hi hei hef λy h1 tk hPy ho hst' hT hsz hk=>?_;obtain⟨u,hu,ru⟩:=rv.get hx;have ey:y=u:=by
   have q:=hPv i y hPy;rw[hu]at q;exact(As q).symm
  subst ey;refine⟨_,rfl,?_⟩;have hT':H s.heap.objs.size=AD:=I.hok.fresh (AY _);have elt:e<s.heap.objs.size:=BD he;refine wpAny_letOwnedTupleGo_enum ho λh2 he2 hs2=>?_;have q2:CA e h1 h2:=hs2;have kk:∀b u,b∉[e,it]->s.heap.get? b=AA u->h2.get? b=AA u:=λb u hb q=>by
   have h1':b≠e:=λz=>hb (by simp[z]);have h2':b≠it:=λz=>hb (by simp[z]);exact(q2.2 b h1').trans (hk b u h1' h2' q)
  have hT2:h2.get? s.heap.objs.size=AA {cls:=.type "tuple",data:=.seq #[.int i tk,y]}:=(q2.2 _ (Ja elt)).trans hT;have pit2:pit (i+1) h2:=ikeep _ _ _ (hSt _ _ hst') λo q=>(q2.2 it (Aw hei)).trans q;have I1:Inv X pins σ (upd H s.heap.objs.size (.tup [.int i,x])) {s with heap:=h2,toks:=tk+1}:=by
   refine I.turnedNew (ch:=[e,it]) hf kk (λb hb=>?_) ?_
   ·rcases AL.mp hb with z|z
    ·exact⟨_,by rw[z];exact he2⟩
    ·have z':b=it:=by simpa using z
     subst z';obtain⟨o,q,_⟩:=iobj _ _ pit2;exact⟨o,q⟩
   ·exact⟨by show 2<=sizeLine;decide,[.int i tk,y],.cons ⟨_,rfl⟩ (.cons ru .nil),⟨_,hT2,rfl,rfl,_,rfl⟩⟩
  refine⟨.ref s.heap.objs.size,_,I1,rfl,⟨s.heap.objs.size,x,hT',rfl,rfl,λys hy=>by rw[inj X pins s σ H ys xs hK I hy hq];exact hx⟩,⟨⟨_,by have:=he2;simpa using this⟩,pit2⟩,λb hb=>?_⟩;have nb:b≠s.heap.objs.size:=by
   rcases AL.mp hb with z|z
   ·rw[z];exact BS elt
   ·have z':b=it:=by simpa using z
    subst z';obtain⟨o,q,_⟩:=iobj _ _ hp;exact BS (BD q)
  rw[i8 nb];exact(hf b hb).1
 done:=by
  intro X hP hw hK hc i pins s σ H E I hf st hg;obtain⟨xs,hq,hx⟩:=hg;obtain⟨its,fp,Pv,St,rv,hz,D,hef,hst,hPv,hSt⟩:=dr X hP hw hK hc i pins s σ H xs I (hf e ∎) (hf it ∎) st.2 st.1 hq;obtain⟨⟨old,he⟩,hp⟩:=st;have hi:i=its.length:=by rw[<-rv.length];exact hx.symm
  rw[hi]at hst;refine wpAny_pyNext_enum_endD D he hst λh1 eb=>⟨rfl,?_⟩;exact I.turnedAll (t':=s.toks) (ch:=[e,it]) hf λb u hb q=>eb b u (λz=>hb (by simp[z])) q
 self:=λA i s Q E st h=>by
  obtain⟨⟨old,he⟩,_⟩:=st;exact GH he h
def aa5{h:BI}{a b:AI}{o u:Obj}(ha:h.get? a=AA o)(hb:h.get? b=AA u)(d:o.cls≠u.cls):a≠b:=λz=>by
 subst z;rw[ha]at hb;cases hb;exact d rfl
section
variable {X:Cx}
def bw7:BA "enumerate"=AA (.type "enumerate"):=by decide+kernel
def ar8:BA "reversed"=AA (.type "reversed"):=by decide+kernel
def b80{H1:Hp}{s1:AK}{R:It->Hp->Prop}{l:AI}{xs:List V}{E:AG->AK->Prop}(I1:Inv X pins σ H1 s1)(hq:SqL X.K H1 l xs)(q:R (Ite X.K λH xs=>SqL X.K H l xs) H1):
  AU (model X.prog X.w) X.A (call (.type "enumerate") [.ref l]) (λv s=>AU (model X.prog X.w) X.A (Hk v) (PIE X pins σ (.Tuple elts k0 tp) R) E s) E s1:=by
 obtain⟨its,rv,pl,hz⟩:=I1.list hq;refine call_enumerate_list pl.isList λh' he hit hsz kk=>GH he ?_;have I2:Inv X pins σ H1 {s1 with heap:=h'}:=I1.kept (t':=s1.toks) kk;have hlt:∀b∈[s1.heap.objs.size+1,s1.heap.objs.size],s1.heap.objs.size<=b:=λb hb=>by
  rcases AL.mp hb with z|z
  ·rw[z];exact Hn _
  ·have z':b=s1.heap.objs.size:=by simpa using z
   rw[z'];exact AY _
 refine⟨s1.heap.objs.size+1,[s1.heap.objs.size+1,s1.heap.objs.size],_,_,H1,rfl,I2,aw9 (sq:=λH xs=>SqL X.K H l xs) (pit:=λi h=>h.IsListIter s1.heap.objs.size l i) (bad:=λ_=>True) (GI _) ?_ ?_ ?_ ?_,⟨⟨_,by simpa using he⟩,hit⟩,λb hb=>I1.fpOk (hlt b hb) (I1.hok.fresh (hlt b hb)),q⟩
 ·rintro i h ⟨o,ho,hc,hd⟩;exact⟨o,ho,λv z=>by rw[hd]at z;cases z⟩
 ·exact λi h h' st kk=>st.at kk
 ·intro Y hP hw hK hc i pins s σ H xs I f1 f2 hit he hq;rw[<-hK]at hq;obtain⟨its,rv,pl,hz⟩:=I.list hq;obtain⟨old,he⟩:=he;obtain⟨oi,hoi,hci,hdi⟩:=id hit;obtain⟨ol,nl,hol,hcl,hddl,hdl⟩:=id pl;have n1:l≠s1.heap.objs.size:=aa5 hol hoi (by rw[hcl,hci];decide);have n2:s1.heap.objs.size+1≠l:=aa5 he hol (by rw[hcl];show EC "enumerate"≠_;decide);refine⟨its,[s1.heap.objs.size,l],(λi v=>its.toArray[i]?=AA v),(λi h=>h.IsListIter s1.heap.objs.size l i/\h.IsList l its.toArray),rv,hz,?_,?_,⟨hit,pl.isList⟩,λj v z=>by simpa using z,λj h z=>z.1⟩
  ·have D:=Draws.list (prog:=X.prog) (w:=X.w) (A:=Y.A.in1) (by exact I.ok.hd hc) s1.heap.objs.size l n1 its.toArray;simpa using D
  ·intro z
   rcases AL.mp z with z|z
   ·exact GI _ z
   ·exact n2 (by simpa using z)
 ·intro Y pins s σ H xs ys hK I h1 h2;rw[<-hK]at h1 h2;exact I.list_inj h1 h2
def b88{H1:Hp}{s1:AK}{R:It->Hp->Prop}{l:AI}{xs:List V}{E:AG->AK->Prop}(I1:Inv X pins σ H1 s1)(hq:SqT X.K H1 l xs)(q:R (Ite X.K λH xs=>SqT X.K H l xs) H1):
  AU (model X.prog X.w) X.A (call (.type "enumerate") [.ref l]) (λv s=>AU (model X.prog X.w) X.A (Hk v) (PIE X pins σ (.Tuple elts k0 tp) R) E s) E s1:=by
 obtain⟨its,rv,pl,hz⟩:=I1.tuple hq;refine bv6 (show s1.heap.IsTuple l its.toArray from pl) λh' he hit hsz kk=>GH he ?_;have I2:Inv X pins σ H1 {s1 with heap:=h'}:=I1.kept (t':=s1.toks) kk;have hlt:∀b∈[s1.heap.objs.size+1,s1.heap.objs.size],s1.heap.objs.size<=b:=λb hb=>by
  rcases AL.mp hb with z|z
  ·rw[z];exact Hn _
  ·have z':b=s1.heap.objs.size:=by simpa using z
   rw[z'];exact AY _
 refine⟨s1.heap.objs.size+1,[s1.heap.objs.size+1,s1.heap.objs.size],_,_,H1,rfl,I2,aw9 (sq:=λH xs=>SqT X.K H l xs) (pit:=λi h=>h.IsTupleIter s1.heap.objs.size l i) (bad:=λ_=>True) (GI _) ?_ ?_ ?_ ?_,⟨⟨_,by simpa using he⟩,hit⟩,λb hb=>I1.fpOk (hlt b hb) (I1.hok.fresh (hlt b hb)),q⟩
 ·rintro i h ⟨o,ho,hc,hd⟩;exact⟨o,ho,λv z=>by rw[hd]at z;cases z⟩
 ·exact λi h h' st kk=>st.at kk
 ·intro Y hP hw hK hc i pins s σ H xs I f1 f2 hit he hq;rw[<-hK]at hq;obtain⟨its,rv,pl,hz⟩:=I.tuple hq;obtain⟨old,he⟩:=he;obtain⟨oi,hoi,hci,hdi⟩:=id hit;obtain⟨ol,hol,hcl,nl,hdl⟩:=id pl;have n1:l≠s1.heap.objs.size:=aa5 hol hoi (by rw[hcl,hci];decide);have n2:s1.heap.objs.size+1≠l:=aa5 he hol (by rw[hcl];show EC "enumerate"≠_;decide);refine⟨its,[s1.heap.objs.size,l],(λi v=>its.toArray[i]?=AA v),(λi h=>h.IsTupleIter s1.heap.objs.size l i/\h.IsTuple l its.toArray),rv,hz,?_,?_,⟨hit,pl⟩,λj v z=>by simpa using z,λj h z=>z.1⟩
  ·have D:=Draws.tuple (prog:=X.prog) (w:=X.w) (A:=Y.A.in1) (by exact I.ok.hd hc) s1.heap.objs.size l n1 its.toArray;simpa using D
  ·intro z
   rcases AL.mp z with z|z
   ·exact GI _ z
   ·exact n2 (by simpa using z)
 ·intro Y pins s σ H xs ys hK I h1 h2;rw[<-hK]at h1 h2;exact I.tuple_inj h1 h2
abbrev Itv(K:AO)(a:AI)(n:Nat):It:=
 ⟨λi H=>(∃xs,SqL K H a xs/\xs.length=n)/\i<n,λi H x H'=>H'=H/\∀xs,SqL K H a xs->xs[n-1-i]?=AA x,λi H=>(∃xs,SqL K H a xs/\xs.length=n)/\i=n⟩
def ca3{P:Aj}{w:BB}{K:AO}{tg:AQ}(a it:AI)(n:Nat):Turn P w K tg (Itv K a n) [it] it (λi h=>h.IsRevIter it a ((n:Int)-1-(i:Int))) where
 mem:=by simp
 obj:=λi h st b hb=>by
  have e:b=it:=by simpa using hb
  subst e;obtain⟨o,e,c,d⟩:=st;exact⟨o,e,λv z=>by rw[d]at z;cases z⟩
 keep:=λi h h' st k=>st.at λo e=>k it ∎ o e
 item:=by
  intro X hP hw hK hc i pins s σ H E I hf st hg;subst hP hw hK;obtain⟨⟨xs,hq,hn⟩,hi⟩:=hg;subst hn;obtain⟨its,rv,p,hz⟩:=I.list hq;obtain⟨x,hx⟩:∃x,xs[xs.length-1-i]?=AA x:=⟨_,AJ ⋯⟩;obtain⟨u,hu,ru⟩:=rv.get hx;obtain⟨f0,f1,f2,f3,f4,f5⟩:=hf it ∎;have e:(xs.length:Int)-1-(i:Int)=((xs.length-1-i:Nat):Int):=by lia
  rw[e]at st;refine wpAny_pyNext_rev_item st p.isList (x:=u) (by simpa using hu) λh' st' sb=>?_;have I1:Inv X pins σ H {s with heap:=h'}:=I.turned (t':=s.toks) (λb o hb e=>(sb.2 b hb).trans e) f0 f1 f3 f4 f5;obtain⟨o,e',c,d⟩:=id st';have e2:((xs.length-1-i:Nat):Int)-1=(xs.length:Int)-1-((i+1:Nat):Int):=by lia
  rw[e2]at st';exact⟨u,rfl,W4 (s:={s with heap:=h'}) e' c d ∅ ⟨x,H,I1,ru,⟨rfl,λys hy=>by rw[I.list_inj hy hq];exact hx⟩,st',λb hb=>(hf b hb).1⟩⟩
 done:=by
  intro X hP hw hK hc i pins s σ H E I hf st hg;subst hP hw hK;obtain⟨_,hi⟩:=hg;obtain⟨f0,f1,f2,f3,f4,f5⟩:=hf it ∎;have e:(n:Int)-1-(i:Int)=-1:=by lia
  rw[e]at st;exact wpAny_pyNext_rev_end (I.ok.hd hc) st λh' eb=>⟨rfl,I.turned (t':=s.toks) (λb o hb e=>eb b o hb e) f0 f1 f3 f4 f5⟩
 self:=λ_ _ _ _ _ st h=>IQ st h
abbrev c02(K:AO)(ta:TA):TI:=λσ H R=>ta σ H λvs H1=>∃a xs,vs=[.ref a]/\SqL K H1 a xs/\R (Itv K a xs.length) H1
def cm5{tg a:AQ}{ta:TA}{p pos:Pos}(hg:Gl X "reversed")(hm:X.mg "reversed"=AD)(ha:PA X [a] ta)(hs:Am [a] X.env=[(AE,eval a X.env)]:=by rfl):
  PI X tg (.Call (.Name "reversed" p) [a] [] pos) (c02 X.K ta):=by
 intro pins s σ H R I h;refine KC (L5 I hg hm ar8 (BY (thn (ha pos pins s σ H _ I h) λus s1 z35=>?_) hs rfl));obtain⟨vs,H1,I1,r1,q1⟩:=z35;obtain⟨l,xs,e,hq,q⟩:=q1;subst e;obtain⟨u,rfl,ru⟩:=r1.one;cases ru;obtain⟨its,rv,pl,hz⟩:=I1.list hq;refine call_reversed_list pl.isList ?_;have hit:(s1.heap.push (revObj l ((its.toArray.size:Int)-1))).IsRevIter s1.heap.objs.size l ((xs.length:Int)-1-((0:Nat):Int)):=by
  refine⟨_,Aq _ rfl,rfl,?_⟩;have e:((its.toArray.size:Nat):Int)-1=(xs.length:Int)-1-((0:Nat):Int):=by rw[Ab,<-rv.length];lia
  rw[e];rfl
 refine IQ (s:={s1 with heap:=s1.heap.push (revObj l ((its.toArray.size:Int)-1))}) hit ?_;refine⟨s1.heap.objs.size,[s1.heap.objs.size],_,_,H1,rfl,I1.kept (t':=s1.toks) λb o e=>AS _ e,ca3 l _ xs.length,hit,λb hb=>?_,q⟩;have e:b=s1.heap.objs.size:=by simpa using hb
 subst e;exact I1.fpOk (AY _) (I1.hok.fresh (AY _))
def b56(hc:X.calm=AC):D5 X (.builtin "sum") (λxs H Q=>∃(p:AI)(ns:List Int),xs=[.ref p]/\SqL X.K H p (ns.map V.int)/\Q (.int ns.sum) H):=by
 intro pins s σ H xs us Q I r h;obtain⟨p,ns,rfl,hq,q⟩:=h;obtain⟨u,rfl,ru⟩:=r.one;cases ru;obtain⟨its,rv,pl,hz⟩:=I.list hq;have hi:GE its ns:=bz4 rv;have hn:=hi.numsOf;obtain⟨zs,ez⟩:=hi.allInts.items;have pl':=pl.isList;rw[ez]at pl';refine PySem.sum_intListG (I.ok.hd hc) pl' λh' tk t' hk=>?_;have e2:ns=zs.toList.map (·.1):=by
  rw[<-hn,<-show its.toArray.toList=its from rfl,ez,nums_intItems]
 rw[preSum_eq,Cc ∎];exact⟨.int ns.sum,H,I.kept hk,⟨t',by rw[e2]⟩,q⟩
abbrev ao3(i j:Int):Prop:=0<j/\j.natAbs.log2<9000
def cb6:OpR X (Ch .FloorDiv) (rI ao3 λi j=>.int (i / j)):=opI λi j _ _ _ _ _ hc q=>by
 have h1:(0:Int)<j:=hc.1;exact floordiv_int ⋯ (by rw[Int.fdiv_eq_ediv_of_nonneg i ⋯];exact q) (.inl (PyProof.noPylong_of_log2 hc.2))
abbrev cz2(K:AO):R2:=λx y H Q=>∃a b xs ys,x=.ref a/\y=.ref b/\SqT K H a xs/\SqT K H b ys/\xs.length+ys.length<=sizeLine /\
 (xs=[]->Q (.ref b) H)/\(xs≠[]->ys=[]->Q (.ref a) H)/\(xs≠[]->ys≠[]->∀p,H p=AD->Q (.ref p) (upd H p (.tup (xs++ys))))
def cj4:OpR X (Ch .Add) (cz2 X.K):=by
 intro pins s σ H x y v u Q I rx ry h;obtain⟨a,b,xs,ys,rfl,rfl,ha,hb,hz,q0,q1,q2⟩:=h
 by_cases hx:xs=[]
 ·subst hx;cases rx;cases ry;obtain⟨its,r1,p1,_⟩:=I.tuple ha;obtain⟨its2,r2,p2,_⟩:=I.tuple hb;cases r1;obtain⟨⟨cls,dd,data,sl⟩,ho,hc,n,hd⟩:=id p1;obtain⟨⟨cls2,dd2,data2,sl2⟩,ho2,hc2,n2,hd2⟩:=id p2;simp only at hc hd hc2 hd2;subst hc hd hc2 hd2;exact Hq ⟨_,ho,rfl⟩ ⟨_,ho2,rfl⟩ GR HS PySem.F.slot_tuple_add PySem.F.entry_tuple_add (PySem.F.args_tuple_add_2 _ _)
   (tuple_addW0 a b #[] its2.toArray n n2 dd dd2 sl sl2 ∎) ⟨ho,ho2,⟨.ref b,H,I,rfl,q0 rfl⟩⟩
 ·exact ch0 pins s σ H _ _ v u Q I rx ry ⟨a,b,xs,ys,rfl,rfl,ha,hb,hx,hz,q1 hx,q2 hx⟩
end
end L2
namespace Ek
open PySem PySem.Spec PyProof.Rows L2
set_option genInjectivity false
inductive Tg where
 |n (i:Nat)|tup (is:List Nat)
mutual
inductive E where
 |non|bl (b:Bool)|int (i:Int)|str (x:Str)
 |v (i:Nat)
 |tup (es:Es)|lst (es:Es)
 |bin (o:EU) (a b:E)
 |neg (a:E)
 |cmp (o:De) (a b:E)
 |isN (a:E)|notN (a:E)
 |and (a b:E)|or (a b:E)|not (a:E)
 |ite (c a b:E)
 |ix (a b:E)
 |sl (a lo hi:E)
 |slw (a lo hi:E)
 |dsel (ks:List Str) (vs:Es) (k:E)
 |gsel (g:Str) (k:E)|gget (g:Str) (k d:E)
 |len (a:E)|abs (a:E)|toInt (a:E)|sum (a:E)|list (a:E)|tuple (a:E)
 |max (a b:E)
 |call (f:Str) (es:Es)|gf (f:Str)|callv (i:Nat) (es:Es)|callx (c:E) (es:Es)|isT (t:String) (a:E)
 |fld (a:E) (f:Str)|meth (a:E) (m:Str) (es:Es)|make (c:Str) (es:Es)
 |app (a b:E)|ext (a b:E)|popAt (a b:E)|pop (a:E)|index (a b:E)
 |lrev (a:E)
 |gc (g:Str)
 |dnt|dgt (a k:E)|din (ne:Bool) (k a:E)
 |any (a:E)|methd (a:E) (m:Str) (es:Es)
 |comp (Nc:List Str) (fr:List Nat) (k:Nat) (t:Tg) (it:It) (c:E) (e:E)
inductive Es where
 |nil|cons (e:E) (r:Es)
inductive It where
 |seq (e:E)|rng (a:E)|rng2 (a b:E)|enum (e:E)|rev (e:E)|revt (e:E)
end
mutual
inductive S where
 |set (i:Nat) (e:E)
 |put (o i v:E)
 |dput (o i v:E)
 |iput (o i v:E)
 |pre (i:Nat)
 |fldS (o:E) (f:Str) (v:E)
 |ex (e:E)
 |iff (c:E) (a b:Ss)
 |ret (e:E)|retN
 |for (t:Tg) (it:It) (b:Ss)
 |while (c:E) (b:Ss)
 |cont|pass|dead
 |dfn (i np:Nat) (N:List Str) (cp:List Nat) (b:Ss)
inductive Ss where
 |nil|cons (s:S) (r:Ss)
end
abbrev Es.len:Es->Nat
 |.nil=>0
 |.cons _ r=>r.len+1
set_option genInjectivity true
inductive D where
 |non|bl (b:Bool)|int (i:Int)|str (x:Str)|tup (ds:List D)|ref (a:AI)|fn (f:Str)|clo (np:Nat) (N:List Str) (b:Ss) (cs:List D)|ktup (ns:List Int)
inductive Ob where
 |lst (ds:List D)|fro (ds:List D)|dct (kvs:List (Key×D))|dtt (kvs:List (Ad×D))|ins (c:Str) (fs:List (Str×D))
@[reducible]noncomputable def Sto:=AI->Option Ob
@[reducible]noncomputable def i9:=List (Option D)
@[reducible]noncomputable def DK:=D->Sto->Prop
@[reducible]noncomputable def DT:=i9->Sto->DK->Prop
@[reducible]noncomputable def DB:=i9->Sto->(Bool->Sto->Prop)->Prop
@[reducible]noncomputable def DA:=i9->Sto->(List D->Sto->Prop)->Prop
abbrev b0(st:Sto)(a:AI)(o:Ob):Sto:=λb=>if b=a then AA o else st b
def c9{st:Sto}{a:AI}{o:Ob}:b0 st a o a=AA o:=by unfold b0;rw[if_pos rfl]
def C9{st:Sto}{a b:AI}{o:Ob}(h:b≠a):b0 st a o b=st b:=by unfold b0;rw[if_neg h]
abbrev rdS(st:Sto)(a:AI)(ds:List D):Prop:=st a=AA (.lst ds)\/st a=AA (.fro ds)
abbrev Sub(st st':Sto):Prop:=∀a o,st a=AA o->st' a=AA o
def Sub.refl(st:Sto):Sub st st:=λ_ _ h=>h
mutual
noncomputable def D.py:D->Ad
 |.non=>.none|.bl b=>.bool b|.int i=>.int i|.str x=>.str x|.tup ds=>.tuple (D.pys ds)|.ref _=>.none|.fn _=>.none|.clo _ _ _ _=>.none|.ktup _=>.none
noncomputable def D.pys:List D->List Ad
 |[]=>[]
 |d::r=>d.py::D.pys r
end
mutual
noncomputable def D.pure:D->Bool
 |.tup ds=>D.pures ds
 |.ref _=>AE
 |.fn _=>AE
 |.clo _ _ _ _=>AE
 |.ktup _=>AE
 |.str x=>EM (.str x)
 |_=>AC
noncomputable def D.pures:List D->Bool
 |[]=>AC
 |d::r=>d.pure&&D.pures r
end
abbrev deq(d e:D):Bool:=Ar d.py e.py
abbrev l5(d:D):Nat:=d.py.depth
@[reducible]noncomputable def Spec:=List D->Sto->DK->Prop
structure Sg where
 F:Str->Bool
 Phi:Str->Spec
 G:Str->List (Str×D)
 C:Str->List Str
 Mk:Str->Spec
 MF:Str->Bool
 PhiC:Nat->List Str->Ss->List D->Spec
 Kc:Str->Option Int
@[inline]def c7(c m:Str):Str:=⟨c.cps++#[46]++m.cps⟩
abbrev B3(C:Str->List Str)(f:Str):Option Int:=match C ⟨#[33]++f.cps⟩with
 |[]=>AD
 |_::l=>AA (l.length:Nat)
abbrev j9(f:Str)(d:D):List (Str×D)->List (Str×D)
 |[]=>[(f,d)]
 |(g,e)::r=>if g=f then(g,d)::r else(g,e)::j9 f d r
abbrev S6(Z:Sg)(ta:Sto->(List D->Sto->Prop)->Prop)(st:Sto)(Q:DK):D->Prop
 |.fn f=>Z.F f=AC/\ta st λds st1=>Z.Phi f ds st1 Q
 |.clo np N b cs=>ta st λds st1=>Z.PhiC np N b cs ds st1 Q
 |_=>False
abbrev K7(env:i9):List Nat->Option (List D)
 |[]=>AA []
 |i::is=>match env[i]?,K7 env is with
  |some (AA d),AA ds=>AA (d::ds)
  |_,_=>AD
abbrev O5(i j:Int):Prop:=ap8 i j\/(i.natAbs<2^20000/\j.natAbs<2^20000)
abbrev B0(kvs:List (Key×D))(k:Key):Option D:=(kvs.find? λkv=>AB (kv.1=k)).map (·.2)
abbrev A6:EU->D->D->Sto->DK->Prop
 |.Add,.int i,.int j,st,Q=>Q (.int (i+j)) st
 |.Add,.tup xs,.tup ys,st,Q=>xs.length+ys.length<=sizeLine/\Q (.tup (xs++ys)) st
 |.Add,.ref a,.ref b,st,Q=>∃xs ys,st a=AA (.lst xs)/\st b=AA (.lst ys)/\xs.length+ys.length<=sizeLine/\∀p,st p=AD->Q (.ref p) (b0 st p (.lst (xs++ys)))
 |.Sub,.int i,.int j,st,Q=>Q (.int (i-j)) st
 |.Mult,.int i,.int j,st,Q=>O5 i j/\Q (.int (i*j)) st
 |.Mult,.tup xs,.int k,st,Q=>xs≠[]/\1<=k/\k<2^62/\xs.length*k.toNat<=sizeLine/\Q (.tup (Ak k.toNat xs).flatten) st
 |.Mod,.int i,.int j,st,Q=>0<j/\Q (.int (i % j)) st
 |.FloorDiv,.int i,.int j,st,Q=>ao3 i j/\Q (.int (i / j)) st
 |.Pow,.int i,.int j,st,Q=>ar2 i j/\Q (.int (i^j.toNat)) st
 |_,_,_,_,_=>False
abbrev o9:De->D->D->Sto->DK->Prop
 |.Eq,x,y,st,Q=>x.pure=AC/\y.pure=AC/\DM (l5 x) (l5 y)<=150/\Q (.bl (deq x y)) st
 |.NotEq,x,y,st,Q=>x.pure=AC/\y.pure=AC/\DM (l5 x) (l5 y)<=150/\Q (.bl (!deq x y)) st
 |.Lt,.int i,.int j,st,Q=>Q (.bl (AB (i<j))) st
 |.LtE,.int i,.int j,st,Q=>Q (.bl (AB (i<=j))) st
 |.Gt,.int i,.int j,st,Q=>Q (.bl (AB (j<i))) st
 |.GtE,.int i,.int j,st,Q=>Q (.bl (AB (j<=i))) st
 |.In,x,.tup ys,st,Q=>x.pure=AC/\D.pures ys=AC/\l5 x<=150/\Q (.bl (ys.any λy=>deq y x)) st
 |.NotIn,x,.tup ys,st,Q=>x.pure=AC/\D.pures ys=AC/\l5 x<=150/\Q (.bl (!ys.any λy=>deq y x)) st
 |.In,.int i,.ktup ns,st,Q=>Q (.bl (AB (i∈ns))) st
 |.In,.str w,.ref a,st,Q=>∃kvs,st a=AA (.dct kvs)/\Q (.bl (B0 kvs (.inr w)).isSome) st
 |.NotIn,.str w,.ref a,st,Q=>∃kvs,st a=AA (.dct kvs)/\Q (.bl (!(B0 kvs (.inr w)).isSome)) st
 |.In,.int i,.ref a,st,Q=>∃kvs,st a=AA (.dct kvs)/\Q (.bl (B0 kvs (.inl i)).isSome) st
 |.NotIn,.int i,.ref a,st,Q=>∃kvs,st a=AA (.dct kvs)/\Q (.bl (!(B0 kvs (.inl i)).isSome)) st
 |_,_,_,_,_=>False
abbrev ixR:D->D->Sto->DK->Prop
 |.tup ds,.int i,st,Q=>∃d,atI ds i=AA d/\Q d st
 |.ref a,.int i,st,Q=>(∃ds d,rdS st a ds/\atI ds i=AA d/\Q d st)\/∃kvs d,st a=AA (.dct kvs)/\B0 kvs (.inl i)=AA d/\Q d st
 |.ref a,.str w,st,Q=>∃kvs d,st a=AA (.dct kvs)/\B0 kvs (.inr w)=AA d/\Q d st
 |.str w,.int i,st,Q=>∃c,w.length<=sizeLine/\atI w.cps.toList i=AA c/\Q (.str ⟨#[c]⟩) st
 |_,_,_,_=>False
abbrev r9(xs:List D)(lo hi:Option Int):List D:=(xs.drop (HT.sIx xs.length 0 lo)).take (HT.sIx xs.length xs.length hi-HT.sIx xs.length 0 lo)
abbrev slR:D->Option Int->Option Int->Sto->DK->Prop
 |.tup ds,lo,hi,st,Q=>¬(HT.sIx ds.length 0 lo=0/\HT.sIx ds.length ds.length hi=ds.length)/\Q (.tup (r9 ds lo hi)) st
 |.ref a,lo,hi,st,Q=>∃ds,rdS st a ds/\∀p,st p=AD->Q (.ref p) (b0 st p (.lst (r9 ds lo hi)))
 |_,_,_,_,_=>False
abbrev o8:List (Str×D)->Str->Option D
 |[],_=>AD
 |(k,d)::r,x=>if k=x then AA d else o8 r x
abbrev O8:D->Sto->DK->Prop
 |.tup ds,st,Q=>Q (.int ds.length) st
 |.ref a,st,Q=>∃ds,rdS st a ds/\Q (.int ds.length) st
 |_,_,_=>False
abbrev V9:D->Sto->DK->Prop
 |.bl b,st,Q=>Q (.int (if b then 1 else 0)) st
 |.int i,st,Q=>Q (.int i) st
 |_,_,_=>False
abbrev aa9:D->Sto->DK->Prop
 |.tup ds,st,Q=>∀p,st p=AD->Q (.ref p) (b0 st p (.lst ds))
 |.ref a,st,Q=>∃ds,rdS st a ds/\∀p,st p=AD->Q (.ref p) (b0 st p (.lst ds))
 |_,_,_=>False
abbrev Q6:D->Sto->DK->Prop
 |.tup ds,st,Q=>Q (.tup ds) st
 |.ref a,st,Q=>∃ds,rdS st a ds/\Q (.tup ds) st
 |_,_,_=>False
abbrev ac0:D->Sto->DK->Prop
 |.ref a,st,Q=>∃ns:List Int,rdS st a (ns.map D.int)/\Q (.int ns.sum) st
 |_,_,_=>False
abbrev ap7:D->Sto->DK->Prop
 |.ref a,st,Q=>∃bs:List Bool,rdS st a (bs.map D.bl)/\Q (.bl (bs.any id)) st
 |_,_,_=>False
abbrev a73:D->Sto->DK->Prop
 |.ref a,st,Q=>∃ds,rdS st a ds/\Q (.bl AC) st
 |_,_,_=>False
abbrev an1:D->D->Sto->DK->Prop
 |.ref a,.int i,st,Q=>(-(2^62)<=i/\i<2^62)/\∃ds k d,st a=AA (.lst ds)/\ixN ds.length i=AA k/\ds[k]?=AA d/\Q d (b0 st a (.lst (ds.eraseIdx k)))
 |_,_,_,_=>False
abbrev X5:D->Sto->DK->Prop
 |.ref a,st,Q=>∃ds d,st a=AA (.lst (ds++[d]))/\Q d (b0 st a (.lst ds))
 |_,_,_=>False
abbrev X4:D->Sto->DK->Prop
 |.ref a,st,Q=>∃ds,st a=AA (.lst ds)/\Q .non (b0 st a (.lst ds.reverse))
 |_,_,_=>False
abbrev B9(kvs:List (Ad×D))(k:Ad):Option D:=(kvs.find? λkv=>AB (kv.1=k)).map (·.2)
abbrev T7(kvs:List (Ad×D))(k:Ad)(v:D):List (Ad×D):=
 if(kvs.any λkv=>AB (kv.1=k))=AC then kvs.map (λkv=>if kv.1=k then(kv.1,v)else kv)else kvs++[(k,v)]
abbrev D.key(d:D):Prop:=NK.lit d.py=AC/\d.py.depth<=7
abbrev ab9:D->Option Int->Option Int->Sto->DK->Prop
 |.tup ds,lo,hi,st,Q=>Q (.tup (r9 ds lo hi)) st
 |_,_,_,_,_=>False
abbrev ar0:D->Sto->Prop
 |.ref a,st=>∃kvs,st a=AA (.dtt kvs)
 |_,_=>False
abbrev ap9:D->D->Sto->DK->Prop
 |.ref a,.tup ks,st,Q=>∃kvs,st a=AA (.dtt kvs)/\D.key (.tup ks)/\Q ((B9 kvs (D.tup ks).py).getD .non) st
 |_,_,_,_=>False
abbrev P1(ne:Bool):D->D->Sto->DK->Prop
 |.non,.ref a,st,Q=>st a=AA (.dtt [])/\Q (.bl ne) st
 |.tup ks,.ref a,st,Q=>∃kvs,st a=AA (.dtt kvs)/\D.key (.tup ks)/\Q (.bl (ne != (B9 kvs (D.tup ks).py).isSome)) st
 |_,_,_,_=>False
abbrev ap2:D->D->D->Sto->(Sto->Prop)->Prop
 |.ref a,.tup ks,d,st,K=>∃kvs,st a=AA (.dtt kvs)/\D.key (.tup ks)/\kvs.length<sizeLine/\K (b0 st a (.dtt (T7 kvs (D.tup ks).py d)))
 |_,_,_,_,_=>False
abbrev ao7:D->D->D->Sto->(Sto->Prop)->Prop
 |.ref a,.int i,d,st,K=>∃kvs,st a=AA (.dct kvs)/\B0 kvs (.inl i)=AD/\kvs.length<sizeLine/\K (b0 st a (.dct (kvs++[(.inl i,d)])))
 |_,_,_,_,_=>False
abbrev U0:D->D->Sto->DK->Prop
 |.ref a,d,st,Q=>∃ds,st a=AA (.lst ds)/\ds.length<sizeLine/\Q .non (b0 st a (.lst (ds++[d])))
 |_,_,_,_=>False
abbrev T8:D->D->Sto->DK->Prop
 |.ref a,.ref b,st,Q=>∃ds es,st a=AA (.lst ds)/\st b=AA (.lst es)/\ds.length+es.length<=sizeLine/\Q .non (b0 st a (.lst (ds++es)))
 |.ref a,.tup es,st,Q=>∃ds,st a=AA (.lst ds)/\ds.length+es.length<=sizeLine/\Q .non (b0 st a (.lst (ds++es)))
 |_,_,_,_=>False
abbrev O2:D->D->Sto->DK->Prop
 |.ref a,x,st,Q=>∃ds,rdS st a ds/\x.pure=AC/\D.pures ds=AC/\l5 x<=150/\∃(j:Nat)(d:D),ds[j]?=AA d/\deq d x=AC/\(∀(i:Nat)e,i<j->ds[i]?=AA e->deq e x=AE)/\Q (.int (j:Int)) st
 |.tup ds,x,st,Q=>x.pure=AC/\D.pures ds=AC/\l5 x<=150/\∃(j:Nat)(d:D),ds[j]?=AA d/\deq d x=AC/\(∀(i:Nat)e,i<j->ds[i]?=AA e->deq e x=AE)/\Q (.int (j:Int)) st
 |_,_,_,_=>False
abbrev C3:D->Sto->Prop
 |.ref a,st=>∃ds,rdS st a ds
 |_,_=>False
abbrev W9:D->Sto->Prop
 |.tup _,_=>True
 |.ref a,st=>∃ds,rdS st a ds
 |_,_=>False
abbrev tyD:D->Sto->Option String
 |.non,_=>AA "NoneType"|.bl _,_=>AA "bool"|.int _,_=>AA "int"|.str _,_=>AA "str"|.tup _,_=>AA "tuple"
 |_,_=>AD
abbrev ab2(t:String)(d:D)(st:Sto)(Q:DK):Prop:=(∃ty,tyD d st=AA ty/\Q (.bl (ty==t||(ty=="bool"&&t=="int"))) st)\/∃a ds,d=.ref a/\rdS st a ds/\Q (.bl (t=="list")) st
abbrev O1:i9->List Nat->List D->i9
 |env,i::is,d::ds=>O1 (env.set i (AA d)) is ds
 |env,_,_=>env
abbrev J5:Tg->D->i9->(i9->Prop)->Prop
 |.n i,d,env,k=>k (env.set i (AA d))
 |.tup is,d,env,k=>∃ds,d=.tup ds/\ds.length=is.length/\k (O1 env is ds)
abbrev t4(lo:Int)(n:Nat):List D:=(Cz n).map λi=>.int (lo+(i:Nat))
abbrev o5:Nat->List D->List D
 |_,[]=>[]
 |i,d::ds=>.tup [.int i,d]::o5 (i+1) ds
abbrev v3(chk:Sto->Prop)(t:Tg)(tc:DB)(te:DT)(Q:List D->Sto->Prop):List D->List D->i9->Sto->Prop
 |[],acc,_,st=>chk st/\Q acc st
 |d::ds,acc,env,st=>chk st/\J5 t d env λenv'=>tc env' st λb st1=>
   if b=AC then te env' st1 λv st2=>v3 chk t tc te Q ds (acc++[v]) env' st2
   else v3 chk t tc te Q ds acc env' st1
abbrev N8(fr:List Nat)(k:Nat)(env:i9):i9:=(fr.map λj=>(env[j]?).join)++Ak k AD
abbrev E.isNon:E->Bool
 |.non=>AC
 |_=>AE
@[reducible]noncomputable def ItK:=List D->(Sto->Prop)->Sto->Prop
mutual
noncomputable def wpE(Z:Sg):E->DT
 |.non=>λ_ st Q=>Q .non st
 |.bl b=>λ_ st Q=>Q (.bl b) st
 |.int i=>λ_ st Q=>Q (.int i) st
 |.str x=>λ_ st Q=>Q (.str x) st
 |.v i=>λenv st Q=>∃d,env[i]?=AA (AA d)/\Q d st
 |.tup es=>λenv st Q=>t3 Z es env st λds st1=>Q (.tup ds) st1
 |.lst es=>λenv st Q=>t3 Z es env st λds st1=>∀p,st1 p=AD->Q (.ref p) (b0 st1 p (.lst ds))
 |.bin o a b=>λenv st Q=>wpE Z a env st λx st1=>wpE Z b env st1 λy st2=>A6 o x y st2 Q
 |.neg a=>λenv st Q=>wpE Z a env st λx st1=>∃i,x=.int i/\Q (.int (-i)) st1
 |.cmp o a b=>λenv st Q=>wpE Z a env st λx st1=>wpE Z b env st1 λy st2=>o9 o x y st2 Q
 |.isN a=>λenv st Q=>wpE Z a env st λx st1=>(x=.non/\Q (.bl AC) st1)\/(x≠.non/\Q (.bl AE) st1)
 |.notN a=>λenv st Q=>wpE Z a env st λx st1=>(x=.non/\Q (.bl AE) st1)\/(x≠.non/\Q (.bl AC) st1)
 |.and a b=>λenv st Q=>wpE Z a env st λx st1=>∃c,x=.bl c/\(if c=AC then wpE Z b env st1 Q else Q (.bl AE) st1)
 |.or a b=>λenv st Q=>wpE Z a env st λx st1=>∃c,x=.bl c/\(if c=AC then Q (.bl AC) st1 else wpE Z b env st1 Q)
 |.not a=>λenv st Q=>wpE Z a env st λx st1=>∃c,x=.bl c/\Q (.bl (!c)) st1
 |.ite c a b=>λenv st Q=>wpE Z c env st λx st1=>∃k,x=.bl k/\(if k=AC then wpE Z a env st1 Q else wpE Z b env st1 Q)
 |.ix a b=>λenv st Q=>wpE Z a env st λx st1=>wpE Z b env st1 λy st2=>ixR x y st2 Q
 |.sl a lo hi=>λenv st Q=>wpE Z a env st λx st1=>
   (if lo.isNon=AC then λk=>k AD st1 else λ(k:Option Int->Sto->Prop)=>wpE Z lo env st1 λd st'=>∃i,d=.int i/\k (AA i) st') λl st2=>
   (if hi.isNon=AC then λk=>k AD st2 else λ(k:Option Int->Sto->Prop)=>wpE Z hi env st2 λd st'=>∃i,d=.int i/\k (AA i) st') λh st3=>slR x l h st3 Q
 |.slw a lo hi=>λenv st Q=>wpE Z a env st λx st1=>
   (if lo.isNon=AC then λk=>k AD st1 else λ(k:Option Int->Sto->Prop)=>wpE Z lo env st1 λd st'=>∃i,d=.int i/\k (AA i) st') λl st2=>
   (if hi.isNon=AC then λk=>k AD st2 else λ(k:Option Int->Sto->Prop)=>wpE Z hi env st2 λd st'=>∃i,d=.int i/\k (AA i) st') λh st3=>ab9 x l h st3 Q
 |.dsel ks vs k=>λenv st Q=>t3 Z vs env st λds st1=>wpE Z k env st1 λx st2=>∃w d,x=.str w/\o8 (ks.zip ds) w=AA d/\Q d st2
 |.gget g k d=>λenv st Q=>Z.G g≠[]/\wpE Z k env st λx st1=>wpE Z d env st1 λy st2=>∃w,x=.str w/\Q ((o8 (Z.G g) w).getD y) st2
 |.gsel g k=>λenv st Q=>Z.G g≠[]/\wpE Z k env st λx st1=>∃w d,x=.str w/\o8 (Z.G g) w=AA d/\Q d st1
 |.len a=>λenv st Q=>wpE Z a env st λx st1=>O8 x st1 Q
 |.abs a=>λenv st Q=>wpE Z a env st λx st1=>∃i,x=.int i/\Q (.int (if i<0 then -i else i)) st1
 |.toInt a=>λenv st Q=>wpE Z a env st λx st1=>V9 x st1 Q
 |.sum a=>λenv st Q=>wpE Z a env st λx st1=>ac0 x st1 Q
 |.list a=>λenv st Q=>wpE Z a env st λx st1=>aa9 x st1 Q
 |.tuple a=>λenv st Q=>wpE Z a env st λx st1=>Q6 x st1 Q
 |.max a b=>λenv st Q=>wpE Z a env st λx st1=>wpE Z b env st1 λy st2=>∃i j,x=.int i/\y=.int j/\Q (.int (if j>i then j else i)) st2
 |.call f es=>λenv st Q=>Z.F f=AC/\t3 Z es env st λds st1=>Z.Phi f ds st1 Q
 |.gf f=>λ_ st Q=>Z.F f=AC/\Q (.fn f) st
 |.callx c es=>λenv st Q=>wpE Z c env st λx st1=>∃f,x=.fn f/\Z.F f=AC/\t3 Z es env st1 λds st2=>Z.Phi f ds st2 Q
 |.callv i es=>λenv st Q=>∃x,env[i]?=AA (AA x)/\S6 Z (t3 Z es env) st Q x
 |.gc g=>λ_ st Q=>∃i,Z.Kc g=AA i/\Q (.int i) st
 |.isT t a=>λenv st Q=>wpE Z a env st λx st1=>ab2 t x st1 Q
 |.fld a f=>λenv st Q=>wpE Z a env st λx st1=>∃p c fs d,x=.ref p/\st1 p=AA (.ins c fs)/\f∈Z.C c/\fs.lookup f=AA d/\Q d st1
 |.meth a m es=>λenv st Q=>wpE Z a env st λx st1=>∃p c fs,x=.ref p/\st1 p=AA (.ins c fs)/\fs.lookup m=AD/\Z.F (c7 c m)=AC/\t3 Z es env st1 λds st2=>Z.Phi (c7 c m) (.ref p::ds) st2 Q
 |.methd a m es=>λenv st Q=>wpE Z a env st λx st1=>∃p c fs i,x=.ref p/\st1 p=AA (.ins c fs)/\fs.lookup m=AD/\Z.F (c7 c m)=AC/\B3 Z.C (c7 c m)=AA i/\t3 Z es env st1 λds st2=>Z.Phi (c7 c m) (.ref p::(ds++[.int i])) st2 Q
 |.make c es=>λenv st Q=>Z.MF (c7 c "__init__")=AC/\t3 Z es env st λds st1=>∀p,st1 p=AD->Z.Mk (c7 c "__init__") (.ref p::ds) (b0 st1 p (.ins c [])) λv st2=>v=.non/\Q (.ref p) st2
 |.app a b=>λenv st Q=>wpE Z a env st λx st1=>C3 x st1/\wpE Z b env st1 λy st2=>U0 x y st2 Q
 |.ext a b=>λenv st Q=>wpE Z a env st λx st1=>C3 x st1/\wpE Z b env st1 λy st2=>T8 x y st2 Q
 |.popAt a b=>λenv st Q=>wpE Z a env st λx st1=>C3 x st1/\wpE Z b env st1 λy st2=>an1 x y st2 Q
 |.pop a=>λenv st Q=>wpE Z a env st λx st1=>X5 x st1 Q
 |.any a=>λenv st Q=>wpE Z a env st λx st1=>ap7 x st1 Q
 |.dnt=>λenv st Q=>Z.C "!kt"≠[]/\∀p,st p=AD->Q (.ref p) (b0 st p (.dtt []))
 |.dgt a k=>λenv st Q=>wpE Z a env st λx st1=>ar0 x st1/\wpE Z k env st1 λy st2=>ap9 x y st2 Q
 |.din ne k a=>λenv st Q=>wpE Z k env st λy st1=>wpE Z a env st1 λx st2=>P1 ne y x st2 Q
 |.lrev a=>λenv st Q=>wpE Z a env st λx st1=>X4 x st1 Q
 |.index a b=>λenv st Q=>wpE Z a env st λx st1=>W9 x st1/\wpE Z b env st1 λy st2=>O2 x y st2 Q
 |.comp _ fr k t it c e=>λenv st Q=>z5 Z it env st λitems chk st1=>items.length<=1000000 /\
   v3 chk t (if c.isNon=AC then λ_ st Q=>Q AC st else λenv st Q=>wpE Z c env st λd st'=>∃b,d=.bl b/\Q b st') (λenv st Q=>wpE Z e env st Q) (λacc st'=>∀p,st' p=AD->Q (.ref p) (b0 st' p (.lst acc))) items [] (N8 fr k env) st1
noncomputable def t3(Z:Sg):Es->DA
 |.nil=>λ_ st Q=>Q [] st
 |.cons e r=>λenv st Q=>wpE Z e env st λd st1=>t3 Z r env st1 λds st2=>Q (d::ds) st2
noncomputable def z5(Z:Sg):It->i9->Sto->ItK->Prop
 |.seq e=>λenv st k=>wpE Z e env st λd st1=>(∃ds,d=.tup ds/\k ds (λ_=>True) st1)\/(∃a ds,d=.ref a/\rdS st1 a ds/\k ds (λst'=>rdS st' a ds) st1)
 |.rng a=>λenv st k=>wpE Z a env st λd st1=>∃j:Int,d=.int j/\(-(2^62)<=j/\j<2^62)/\k (t4 0 j.toNat) (λ_=>True) st1
 |.rng2 a b=>λenv st k=>wpE Z a env st λd st1=>wpE Z b env st1 λe st2=>∃i j:Int,d=.int i/\e=.int j/\(-(2^62)<=i/\i<2^62/\-(2^62)<=j/\j<2^62)/\k (t4 i (j-i).toNat) (λ_=>True) st2
 |.enum e=>λenv st k=>wpE Z e env st λd st1=>(∃ds,d=.tup ds/\k (o5 0 ds) (λ_=>True) st1)\/(∃a ds,d=.ref a/\rdS st1 a ds/\k (o5 0 ds) (λst'=>rdS st' a ds) st1)
 |.revt e=>λenv st k=>wpE Z e env st λd st1=>∃ds,d=.tup ds/\k ds.reverse (λ_=>True) st1
 |.rev e=>λenv st k=>wpE Z e env st λd st1=>∃a ds,d=.ref a/\rdS st1 a ds/\k ds.reverse (λst'=>rdS st' a ds) st1
end
abbrev wpT(Z:Sg)(e:E):DB:=λenv st Q=>wpE Z e env st λd st'=>∃b,d=.bl b/\Q b st'
structure DEnds where
 nx:i9->Sto->Prop
 rt:DK
 bk:i9->Sto->Prop:=λ_ _=>False
 ct:i9->Sto->Prop:=λ_ _=>False
@[reducible]noncomputable def DS:=DEnds->i9->Sto->Prop
abbrev t5(chk:Sto->Prop)(t:Tg)(tb:DS)(F:DEnds):List D->i9->Sto->Prop
 |[],env,st=>chk st/\F.nx env st
 |d::ds,env,st=>chk st/\J5 t d env λenv'=>tb {F with nx:=t5 chk t tb F ds,ct:=t5 chk t tb F ds,bk:=F.nx} env' st
abbrev y3(tc:DB)(tb:DS)(F:DEnds):Nat->i9->Sto->Prop
 |0,_,_=>False
 |n+1,env,st=>tc env st λb st1=>if b=AC then tb {F with nx:=y3 tc tb F n,ct:=y3 tc tb F n,bk:=F.nx} env st1 else F.nx env st1
mutual
noncomputable def wpS(Z:Sg):S->DS
 |.set i e=>λF env st=>wpE Z e env st λd st1=>F.nx (env.set i (AA d)) st1
 |.pre i=>λF env st=>∀p,st p=AD->F.nx (env.set i (AA (.ref p))) (b0 st p (.dct []))
 |.iput o i v=>λF env st=>wpE Z v env st λd st1=>wpE Z o env st1 λx st2=>wpE Z i env st2 λy st3=>ao7 x y d st3 λst4=>F.nx env st4
 |.dput o i v=>λF env st=>wpE Z v env st λd st1=>wpE Z o env st1 λx st2=>wpE Z i env st2 λy st3=>ap2 x y d st3 λst4=>F.nx env st4
 |.put o i v=>λF env st=>wpE Z v env st λd st1=>wpE Z o env st1 λx st2=>wpE Z i env st2 λy st3=>
   ∃a j k ds,x=.ref a/\y=.int j/\st3 a=AA (.lst ds)/\ixN ds.length j=AA k/\F.nx env (b0 st3 a (.lst (ds.set k d)))
 |.fldS o f v=>λF env st=>wpE Z v env st λd st1=>wpE Z o env st1 λx st2=>∃p c fs,x=.ref p/\st2 p=AA (.ins c fs)/\f∈Z.C c/\fs.length<1000/\F.nx env (b0 st2 p (.ins c (j9 f d fs)))
 |.ex e=>λF env st=>wpE Z e env st λ_ st1=>F.nx env st1
 |.iff c a b=>λF env st=>wpT Z c env st λk st1=>if k=AC then g9 Z a F env st1 else g9 Z b F env st1
 |.ret e=>λF env st=>wpE Z e env st F.rt
 |.retN=>λF _ st=>F.rt .non st
 |.for t it b=>λF env st=>z5 Z it env st λitems chk st1=>t5 chk t (g9 Z b) F items env st1
 |.while c b=>λF env st=>∃n,y3 (wpT Z c) (g9 Z b) F n env st
 |.cont=>λF env st=>F.ct env st
 |.dead=>λ_ _ _=>False
 |.pass=>λF env st=>F.nx env st
 |.dfn i np N cp b=>λF env st=>∃cs,K7 env cp=AA cs/\F.nx (env.set i (AA (.clo np N b cs))) st
noncomputable def g9(Z:Sg):Ss->DS
 |.nil=>λF env st=>F.nx env st
 |.cons s r=>λF env st=>wpS Z s {F with nx:=g9 Z r F} env st
end
structure Def where
 np:Nat
 N:List Str
 body:Ss
@[reducible]noncomputable def i6:=Str->Option Def
abbrev aa3(f:Def)(ds:List D):i9:=ds.map AA++Ak (f.N.length-ds.length) AD
structure Gs where
 tab:Str->List (Str×D)
 cls:Str->List Str
 cst:Str->Option Int
abbrev bt3(P:i6)(G:Gs)(lo lo2:Str->Spec)(po:Bool)(lc:Nat->List Str->Ss->List D->Spec)(f:Str):Spec:=λds st Q=>∃fd,P f=AA fd/\ds.length=fd.np/\g9 ⟨λf=>(P f).isSome,lo,G.tab,G.cls,lo2,λf=>po&&(P f).isSome,lc,G.cst⟩ fd.body
   {nx:=λ_ st'=>∃s2,Sub s2 st'/\Q .non s2,rt:=λd st'=>∃s2,Sub s2 st'/\Q d s2} (aa3 fd ds) st
abbrev L6(N:List Str)(ds cs:List D):i9:=(ds++cs).map AA++Ak (N.length-(ds++cs).length) AD
abbrev br9(P:i6)(G:Gs)(lo lo2:Str->Spec)(po:Bool)(lc:Nat->List Str->Ss->List D->Spec)(np:Nat)(N:List Str)(b:Ss)(cs:List D):Spec:=λds st Q=>ds.length=np/\g9 ⟨λf=>(P f).isSome,lo,G.tab,G.cls,lo2,λf=>po&&(P f).isSome,lc,G.cst⟩ b
   {nx:=λ_ st'=>∃s2,Sub s2 st'/\Q .non s2,rt:=λd st'=>∃s2,Sub s2 st'/\Q d s2} (L6 N ds cs) st
abbrev v4(P:i6)(G:Gs):Nat->(Str->Spec)×(Str->Spec)×Bool×(Nat->List Str->Ss->List D->Spec)
 |0=>(λ_ _ _ _=>False,λ_ _ _ _=>False,AE,λ_ _ _ _ _ _ _=>False)
 |n+1=>(bt3 P G (v4 P G n).1 (v4 P G n).2.1 (v4 P G n).2.2.1 (v4 P G n).2.2.2,(v4 P G n).1,AC,br9 P G (v4 P G n).1 (v4 P G n).2.1 (v4 P G n).2.2.1 (v4 P G n).2.2.2)
abbrev sem(P:i6)(G:Gs)(n:Nat):Str->Spec:=(v4 P G n).1
abbrev J8(P:i6)(G:Gs)(n:Nat):Nat->List Str->Ss->List D->Spec:=(v4 P G n).2.2.2
def cc6{P:i6}{G:Gs}{n:Nat}:sem P G (n+1)=bt3 P G (sem P G n) (v4 P G n).2.1 (v4 P G n).2.2.1 (J8 P G n):=rfl
def b17{P:i6}{G:Gs}{n:Nat}:J8 P G (n+1)=br9 P G (sem P G n) (v4 P G n).2.1 (v4 P G n).2.2.1 (J8 P G n):=rfl
class Tbs where
 ps:List AI
 mt:Ss->BG->List Str->DI->Prop
 kt:Bool
variable{H:Hp}{a p:AI}{xs vs:List V}{v:V}{ds:List D}{o:HO}{σ:L2.St}{st:Sto}{kvs:List (Ad×D)}{ob:Ob}{X:Cx}{x:AQ}{Qd:DK}{Q:VK}
structure FnScC(N P:List Str)(sc:BG):Prop where
 kind:sc.kind=.function
 co:sc.isCoroutine=AE
 gen:sc.isGenerator=AE
 nd:N.Nodup
 pre:N.take P.length=P
 par:∀x∈P,sc.names.lookup x=AA .local
 nocell:∀y∈sc.names,y.2≠.cell
 fre:∀y∈sc.names,y.2=.free->sc.names.lookup y.1=AA .free
abbrev M5(H:Hp)(cv:AG):Prop:=∃c o u vs q t,cv=.ref c/\H c=AA (.frz o u)/\(∀vs,u≠.lst vs)/\o.data=.fields vs/\vs[1]?=AA (.str q t)
variable [Tbs]
structure CloF(fd:Ba)(np:Nat)(N ps:List Str)(b:Ss):Prop where
 sc:FnScC N ps fd.scope
 np:ps.length=np
 mt:Tbs.mt b fd.scope N fd.body
 bind:∀us:List AG,us.length=ps.length->BF fd ⟨us,[]⟩=pure (ps.zip us)
 gl:fd.globals=AN
 bl:fd.builtins=Cg
 has:∀x,(x,At)∈fd.scope.names->∃c,fd.closure.lookup x=AA c
 fre:∀x c,fd.closure.lookup x=AA c->(x,At)∈fd.scope.names
 inj:∀x y c,fd.closure.lookup x=AA c->fd.closure.lookup y=AA c->x=y
structure CloR(H:Hp)(f:AI)(fd:Ba)(np:Nat)(N:List Str)(us:List V):Prop where
 ex:∃o u,H f=AA (.frz o u)/\(∀vs,u≠.lst vs)/\o.data=.func fd
 cd:M5 H fd.code
 cl:∀x c,fd.closure.lookup x=AA c->∃o' u' w,H c=AA (.frz o' u')/\(∀vs,u'≠.lst vs)/\o'.data=.cell (AA w)
 at':∀(i:Nat)v,us[i]?=AA v->∃x c o' u' w,N[np+i]?=AA x/\fd.closure.lookup x=AA c/\H c=AA (.frz o' u')/\(∀vs,u'≠.lst vs)/\o'.data=.cell (AA w)/\f8 v w
abbrev W5(H:Hp)(f:AI)(np:Nat)(N:List Str)(b:Ss)(us:List V):Prop:=∃fd ps,CloF fd np N ps b/\CloR H f fd np N us
abbrev SqX(K:AO)(H:Hp)(a:AI)(xs:List V):Prop:=H a=AA (.tup xs)\/(Tbs.kt=AC/\SqT K H a xs)
def SqX.sqt{K:AO}(h:SqX K H a xs):SqT K H a xs:=h.elim (λh=>.inl (.inl h)) λh=>h.2
def SqX.of{K:AO}(h:H a=AA (.tup xs)):SqX K H a xs:=.inl h
def SqX.trk{K:AO}(hk:Tbs.kt=AE)(h:SqX K H a xs):H a=AA (.tup xs):=h.elim (λh=>h) λh=>by rw[hk]at h;exact absurd h.1 ∅
inductive IsD(K:AO)(H:Hp):D->V->Prop where
 |non:IsD K H .non .non
 |bl (b:Bool):IsD K H (.bl b) (.bl b)
 |int (i:Int):IsD K H (.int i) (.int i)
 |str (x:Str):IsD K H (.str x) (.str x)
 |ref (a:AI):IsD K H (.ref a) (.ref a)
 |fn {f:Str} {a:AI}:Ax K AN f=AA (AA (.ref a))->IsD K H (.fn f) (.ref a)
 |clo {f:AI} {np:Nat} {N:List Str} {b:Ss} {ds:List D} {us:List V}:W5 H f np N b us->ds.length=us.length->(∀(i:Nat)d v,ds[i]?=AA d->us[i]?=AA v->IsD K H d v)->IsD K H (.clo np N b ds) (.ref f)
 |tup {a:AI} {ds:List D} {vs:List V}:SqX K H a vs->ds.length=vs.length->(∀(i:Nat)d v,ds[i]?=AA d->vs[i]?=AA v->IsD K H d v)->IsD K H (.tup ds) (.ref a)
 |ktup {a:AI} {ns:List Int}:SqT K (λ_=>AD) a (ns.map V.int)->IsD K H (.ktup ns) (.ref a)
structure IsDs(K:AO)(H:Hp)(ds:List D)(vs:List V):Prop where
 len:ds.length=vs.length
 at':∀(i:Nat)d v,ds[i]?=AA d->vs[i]?=AA v->IsD K H d v
section
variable {K:AO} {H' H2:Hp} {d:D} {es:List D} {ws:List V}
def IsD.mk(h:SqX K H a vs)(r:IsDs K H ds vs):IsD K H (.tup ds) (.ref a):=.tup h r.len r.at'
def IsD.tup_invX(h:IsD K H (.tup ds) v):∃a vs,v=.ref a/\SqX K H a vs/\IsDs K H ds vs:=by
 cases h with
 |tup a b c=>exact⟨_,_,rfl,a,⟨b,c⟩⟩
def IsD.tup_inv(h:IsD K H (.tup ds) v):∃a vs,v=.ref a/\SqT K H a vs/\IsDs K H ds vs:=let⟨a,vs,e,q,r⟩:=h.tup_invX;⟨a,vs,e,q.sqt,r⟩
def IsDs.nil:IsDs K H [] []:=⟨rfl,λi d v h=>by simp at h⟩
def IsDs.cons(h:IsD K H d v)(r:IsDs K H ds vs):IsDs K H (d::ds) (v::vs):=⟨by simp[r.len],λi e w h1 h2=>by
 cases i with
 |zero=>simp at h1 h2;subst h1 h2;exact h
 |succ i=>exact r.at' i e w (by simpa using h1) (by simpa using h2)⟩
def IsDs.get(r:IsDs K H ds vs){i:Nat}{d:D}(h:ds[i]?=AA d):∃v,vs[i]?=AA v/\IsD K H d v:=by
 have hi:i<ds.length:=(AR.mp h).1;rw[r.len]at hi;exact⟨vs[i],AJ hi,r.at' i d _ h (AJ hi)⟩
def IsDs.get'(r:IsDs K H ds vs){i:Nat}(h:vs[i]?=AA v):∃d,ds[i]?=AA d/\IsD K H d v:=by
 have hi:i<vs.length:=(AR.mp h).1;rw[<-r.len]at hi;exact⟨ds[i],AJ hi,r.at' i _ v (AJ hi) h⟩
def IsDs.inv_cons{d:D}(r:IsDs K H (d::ds) vs):∃v ws,vs=v::ws/\IsD K H d v/\IsDs K H ds ws:=by
 cases vs with
 |nil=>have:=r.len;simp at this
 |cons v ws=>exact⟨v,ws,rfl,r.at' 0 d v rfl rfl,⟨by have:=r.len;simpa using this,λi e w h1 h2=>r.at' (i+1) e w (by simpa using h1) (by simpa using h2)⟩⟩
def IsDs.inv_nil(r:IsDs K H [] vs):vs=[]:=by
 cases vs with
 |nil=>rfl
 |cons v ws=>have:=r.len;simp at this
def IsDs.append(r:IsDs K H ds vs)(q:IsDs K H es ws):IsDs K H (ds++es) (vs++ws):=⟨by simp[r.len,q.len],λi d v h1 h2=>by
 by_cases hi:i<ds.length
 ·rw[Aa hi]at h1;rw[Aa (by rw[<-r.len];exact hi)]at h2;exact r.at' i d v h1 h2
 ·rw[Af ⋯]at h1;rw[Af (by rw[<-r.len];lia),<-r.len]at h2;exact q.at' _ d v h1 h2⟩
theorem IsDs.drop(r:IsDs K H ds vs)(n:Nat):IsDs K H (ds.drop n) (vs.drop n):=⟨by simp[r.len],λi d v h1 h2=>by
 rw[List.getElem?_drop]at h1 h2;exact r.at' _ d v h1 h2⟩
theorem IsDs.take(r:IsDs K H ds vs)(n:Nat):IsDs K H (ds.take n) (vs.take n):=⟨by simp[r.len],λi d v h1 h2=>by
 rw[List.getElem?_take]at h1 h2
 split at h1
 ·rename_i hi;rw[if_pos hi]at h2;exact r.at' _ d v h1 h2
 ·cases h1⟩
theorem IsDs.set(r:IsDs K H ds vs)(h:IsD K H d v)(n:Nat):IsDs K H (ds.set n d) (vs.set n v):=⟨by simp[r.len],λi e w h1 h2=>by
 rw[FR]at h1 h2
 by_cases hi:n=i
 ·rw[if_pos hi]at h1 h2
  split at h1
  ·rename_i hl;rw[<-r.len,if_pos hl]at h2;cases h1;cases h2;exact h
  ·cases h1
 ·rw[if_neg hi]at h1 h2;exact r.at' i e w h1 h2⟩
theorem IsDs.erase:∀{ds:List D}{vs:List V}(r:IsDs K H ds vs)(n:Nat),IsDs K H (ds.eraseIdx n) (vs.eraseIdx n)
 |[],vs,r,n=>by rw[r.inv_nil];simpa using IsDs.nil
 |d::ds,vs,r,n=>by
  obtain⟨v,ws,rfl,h1,h2⟩:=r.inv_cons;cases n with
  |zero=>simpa using h2
  |succ n=>simpa using IsDs.cons h1 (IsDs.erase h2 n)
theorem IsDs.rev:∀{ds:List D}{vs:List V}(r:IsDs K H ds vs),IsDs K H ds.reverse vs.reverse
 |[],vs,r=>by rw[r.inv_nil];exact IsDs.nil
 |d::ds,vs,r=>by
  obtain⟨v,ws,rfl,h1,h2⟩:=r.inv_cons;rw[DG,DG];exact(IsDs.rev h2).append (IsDs.cons h1 IsDs.nil)
theorem IsDs.ints:∀{ns:List Int}{vs:List V},IsDs K H (ns.map D.int) vs->vs=ns.map V.int
 |[],vs,r=>by rw[Dj]at r;exact r.inv_nil
 |n::ns,vs,r=>by
  rw[Ah]at r;obtain⟨v,ws,rfl,h1,h2⟩:=r.inv_cons;cases h1;rw[IsDs.ints h2];rfl
abbrev TK(K:AO)(H H':Hp):Prop:=((∀a xs,SqT K H a xs->SqT K H' a xs)/\∀a xs,H a=AA (.tup xs)->H' a=AA (.tup xs))/\∀a o u,H a=AA (.frz o u)->(∀vs,u≠.lst vs)->H' a=AA (.frz o u)
def SqX.keep(h:SqX K H a xs)(k:TK K H H'):SqX K H' a xs:=h.elim (λh=>.inl (k.1.2 _ _ h)) λh=>.inr ⟨h.1,k.1.1 _ _ h.2⟩
def TK.refl:TK K H H:=⟨⟨λ_ _ h=>h,λ_ _ h=>h⟩,λ_ _ _ h _=>h⟩
def TK.trans(a:TK K H H')(b:TK K H' H2):TK K H H2:=⟨⟨λc xs h=>b.1.1 c xs (a.1.1 c xs h),λc xs h=>b.1.2 c xs (a.1.2 c xs h)⟩,λc o u h n=>b.2 c o u (a.2 c o u h n) n⟩
def TK.upd'(h:∀xs,H p≠AA (.tup xs))(h2:∀o u,H p≠AA (.frz o u)):TK K H (upd H p o):=⟨⟨λa xs q=>by
 rcases q with(q|⟨o',q⟩)|q
 ·exact .inl (.inl (by have ne:a≠p:=(λz=>h xs (by rw[<-z];exact q));rw[i8 ne];exact q))
 ·exact .inl (.inr ⟨o',by have ne:a≠p:=(λz=>h2 _ _ (by rw[<-z];exact q));rw[i8 ne];exact q⟩)
 ·exact .inr q,λa xs q=>by have ne:a≠p:=(λz=>h xs (by rw[<-z];exact q));rw[i8 ne];exact q⟩,λa o' u q n=>by have ne:a≠p:=(λz=>h2 _ _ (by rw[<-z];exact q));rw[i8 ne];exact q⟩
def TK.new(h:H p=AD):TK K H (upd H p o):=TK.upd' (by rw[h];exact λ_=>nofun) (by rw[h];exact λ_ _=>nofun)
def TK.putI{C dx:AI}{xs:List (Str×V)}(h:H p=AA (.ins C dx xs)):TK K H (upd H p o):=TK.upd' (by rw[h];exact λ_ z=>by cases z) (by rw[h];exact λ_ _ z=>by cases z)
def TK.putD{xs:List (Key×V)}(h:H p=AA (.dK xs)):TK K H (upd H p o):=TK.upd' (by rw[h];exact λ_ z=>by cases z) (by rw[h];exact λ_ _ z=>by cases z)
def TK.put(h:H p=AA (.lst xs)):TK K H (upd H p o):=TK.upd' (by rw[h];exact λ_ z=>by cases z) (by rw[h];exact λ_ _ z=>by cases z)
def M5.mono{cv:AG}(h:M5 H cv)(k:TK K H H'):M5 H' cv:=let⟨c,o,u,vs,q,t,e1,e2,e3,e4⟩:=h;⟨c,o,u,vs,q,t,e1,k.2 _ _ _ e2 e3,e3,e4⟩
theorem CloR.mono{f:AI}{fd:Ba}{np:Nat}{N:List Str}{us:List V}(h:CloR H f fd np N us)(k:TK K H H'):CloR H' f fd np N us:=by
 obtain⟨⟨o,u,e1,e2,e3⟩,e5,e6,e7⟩:=h;refine⟨⟨o,u,k.2 _ _ _ e1 e2,e2,e3⟩,e5.mono k,λx c hx=>?_,λi v hv=>?_⟩
 ·obtain⟨o',u',w,a,b,c⟩:=e6 x c hx;exact⟨o',u',w,k.2 _ _ _ a b,b,c⟩
 ·obtain⟨x,c,o',u',w,a1,a2,a3,a4,a5⟩:=e7 i v hv;exact⟨x,c,o',u',w,a1,a2,k.2 _ _ _ a3 a4,a4,a5⟩
theorem W5.mono{f:AI}{np:Nat}{N:List Str}{b:Ss}{us:List V}(h:W5 H f np N b us)(k:TK K H H'):W5 H' f np N b us:=let⟨fd,ps,a,b⟩:=h;⟨fd,ps,a,b.mono k⟩
theorem IsD.mono(h:IsD K H d v)(k:TK K H H'):IsD K H' d v:=by
 induction h with
 |non=>exact .non
 |bl b=>exact .bl b
 |int i=>exact .int i
 |str x=>exact .str x
 |ref a=>exact .ref a
 |ktup h=>exact .ktup h
 |fn h=>exact .fn h
 |clo a b _ ih=>exact .clo (a.mono k) b ih
 |tup a b _ ih=>exact .tup (a.keep k) b ih
theorem IsDs.mono(h:IsDs K H ds vs)(k:TK K H H'):IsDs K H' ds vs:=⟨h.len,λi d v a b=>(h.at' i d v a b).mono k⟩
structure RelE(K:AO)(H:Hp)(env:i9)(σ:L2.St):Prop where
 len:env.length=σ.length
 at':∀(i:Nat)d,env[i]?=AA (AA d)->∃v,σ[i]?=AA (AA v)/\IsD K H d v
variable {env:i9} {st':Sto}
theorem RelE.mono(r:RelE K H env σ)(k:TK K H H'):RelE K H' env σ:=⟨r.len,λi d h=>let⟨v,a,b⟩:=r.at' i d h;⟨v,a,b.mono k⟩⟩
theorem RelE.set(r:RelE K H env σ)(h:IsD K H d v)(i:Nat):RelE K H (env.set i (AA d)) (σ.set i (AA v)):=⟨by simp[r.len],λj e q=>by
 rw[FR]at q ⊢
 by_cases hi:i=j
 ·rw[if_pos hi]at q ⊢
  split at q
  ·rename_i hl;rw[<-r.len,if_pos hl];cases q;exact⟨v,rfl,h⟩
  ·cases q
 ·rw[if_neg hi]at q ⊢;exact r.at' j e q⟩
structure IsKs(K:AO)(H:Hp)(kvs:List (Key×D))(vs:List (Key×V)):Prop where
 ks:kvs.map (·.1)=vs.map (·.1)
 ds:IsDs K H (kvs.map (·.2)) (vs.map (·.2))
theorem IsKs.mono{kvs:List (Key×D)}{vs:List (Key×V)}(h:IsKs K H kvs vs)(k:TK K H H'):IsKs K H' kvs vs:=⟨h.ks,h.ds.mono k⟩
theorem IsKs.inv_cons{e:Key×D}{kvs:List (Key×D)}{vs:List (Key×V)}(h:IsKs K H (e::kvs) vs):∃v ws,vs=(e.1,v)::ws/\IsD K H e.2 v/\IsKs K H kvs ws:=by
 cases vs with
 |nil=>have:=h.ks;simp at this
 |cons f ws=>
  obtain⟨k,v⟩:=f;have e1:=h.ks;simp only[Ah,Ae]at e1;have e2:=h.ds;simp only[Ah]at e2;obtain⟨v',ws',e3,i1,i2⟩:=e2.inv_cons;simp only[Ae]at e3;obtain⟨rfl,rfl⟩:=e3;exact⟨v,ws,by rw[e1.1],i1,⟨e1.2,i2⟩⟩
theorem IsKs.look:∀{kvs:List (Key×D)}{vs:List (Key×V)}(h:IsKs K H kvs vs)(k:Key),(B0 kvs k=AD/\p8 vs k=AD)\/∃d v,B0 kvs k=AA d/\p8 vs k=AA v/\IsD K H d v
 |[],vs,h,k=>by
  have:vs=[]:=by have:=h.ks;simpa using this.symm
  subst this;exact .inl ⟨rfl,rfl⟩
 |e::kvs,vs,h,k=>by
  obtain⟨v,ws,rfl,i1,i2⟩:=h.inv_cons;unfold B0 p8;rw[Bi,Bi]
  by_cases hk:e.1=k
  ·simp only[hk,decide_true];exact .inr ⟨e.2,v,rfl,rfl,i1⟩
  ·simp only[hk,decide_false];exact IsKs.look i2 k
structure IsPs(K:AO)(H:Hp)(kvs:List (Ad×D))(vs:List (Ad×V)):Prop where
 ks:kvs.map (·.1)=vs.map (·.1)
 ds:IsDs K H (kvs.map (·.2)) (vs.map (·.2))
theorem IsPs.nil:IsPs K H [] []:=⟨rfl,.nil⟩
theorem IsPs.mono{vs:List (Ad×V)}(h:IsPs K H kvs vs)(k:TK K H H'):IsPs K H' kvs vs:=⟨h.ks,h.ds.mono k⟩
theorem IsPs.inv_cons{e:Ad×D}{vs:List (Ad×V)}(h:IsPs K H (e::kvs) vs):∃v ws,vs=(e.1,v)::ws/\IsD K H e.2 v/\IsPs K H kvs ws:=by
 cases vs with
 |nil=>have:=h.ks;simp at this
 |cons f ws=>
  obtain⟨k,v⟩:=f;have e1:=h.ks;simp only[Ah,Ae]at e1;have e2:=h.ds;simp only[Ah]at e2;obtain⟨v',ws',e3,i1,i2⟩:=e2.inv_cons;simp only[Ae]at e3;obtain⟨rfl,rfl⟩:=e3;exact⟨v,ws,by rw[e1.1],i1,⟨e1.2,i2⟩⟩
theorem IsPs.cons{k:Ad}{d:D}{vs:List (Ad×V)}(i:IsD K H d v)(h:IsPs K H kvs vs):IsPs K H ((k,d)::kvs) ((k,v)::vs):=⟨by simp[h.ks],by simpa using IsDs.cons i h.ds⟩
theorem IsPs.look:∀{kvs:List (Ad×D)}{vs:List (Ad×V)}(h:IsPs K H kvs vs)(k:Ad),(B9 kvs k=AD/\p8 vs k=AD)\/∃d v,B9 kvs k=AA d/\p8 vs k=AA v/\IsD K H d v
 |[],vs,h,k=>by
  have:vs=[]:=by have:=h.ks;simpa using this.symm
  subst this;exact .inl ⟨rfl,rfl⟩
 |e::kvs,vs,h,k=>by
  obtain⟨v,ws,rfl,i1,i2⟩:=h.inv_cons;unfold B9 p8;rw[Bi,Bi]
  by_cases hk:e.1=k
  ·simp only[hk,decide_true];exact .inr ⟨e.2,v,rfl,rfl,i1⟩
  ·simp only[hk,decide_false];exact IsPs.look i2 k
theorem IsPs.any:∀{kvs:List (Ad×D)}{vs:List (Ad×V)}(h:IsPs K H kvs vs)(k:Ad),(kvs.any λkv=>AB (kv.1=k))=(vs.any λkv=>AB (kv.1=k))
 |[],vs,h,k=>by
  have:vs=[]:=by have:=h.ks;simpa using this.symm
  subst this;rfl
 |e::kvs,vs,h,k=>by
  obtain⟨v,ws,rfl,i1,i2⟩:=h.inv_cons;rw[EX,EX,IsPs.any i2 k]
theorem IsPs.repl{d:D}(i:IsD K H d v)(k:Ad):∀{kvs:List (Ad×D)}{vs:List (Ad×V)}(h:IsPs K H kvs vs),IsPs K H (kvs.map λkv=>if kv.1=k then(kv.1,d)else kv) (vs.map λkv=>if kv.1=k then(kv.1,v)else kv)
 |[],vs,h=>by
  have:vs=[]:=by have:=h.ks;simpa using this.symm
  subst this;exact .nil
 |e::kvs,vs,h=>by
  obtain⟨u,ws,rfl,i1,i2⟩:=h.inv_cons;obtain⟨x,y⟩:=e;rw[Ah,Ah];simp only
  by_cases hk:x=k
  ·rw[if_pos hk,if_pos hk];exact IsPs.cons i (IsPs.repl i k i2)
  ·rw[if_neg hk,if_neg hk];exact IsPs.cons i1 (IsPs.repl i k i2)
theorem IsPs.snoc{d:D}(i:IsD K H d v)(k:Ad):∀{kvs:List (Ad×D)}{vs:List (Ad×V)}(h:IsPs K H kvs vs),IsPs K H (kvs++[(k,d)]) (vs++[(k,v)])
 |[],vs,h=>by
  have:vs=[]:=by have:=h.ks;simpa using this.symm
  subst this;exact IsPs.cons i .nil
 |e::kvs,vs,h=>by
  obtain⟨u,ws,rfl,i1,i2⟩:=h.inv_cons;exact IsPs.cons i1 (IsPs.snoc i k i2)
def IsPs.put{vs:List (Ad×V)}(h:IsPs K H kvs vs){d:D}(i:IsD K H d v)(k:Ad):IsPs K H (T7 kvs k d) (v2 vs k v):=by
 unfold T7 v2;rw[h.any k]
 by_cases q:(vs.any λkv=>AB (kv.1=k))=AC
 ·rw[if_pos q,if_pos q];exact IsPs.repl i k h
 ·rw[if_neg q,if_neg q];exact IsPs.snoc i k h
def IsPs.len{vs:List (Ad×V)}(h:IsPs K H kvs vs):kvs.length=vs.length:=by
 have:=congrArg Di h.ks;simpa using this
structure IsFs(K:AO)(H:Hp)(fs:List (Str×D))(vs:List (Str×V)):Prop where
 ks:fs.map (·.1)=vs.map (·.1)
 ds:IsDs K H (fs.map (·.2)) (vs.map (·.2))
theorem IsFs.nil:IsFs K H [] []:=⟨rfl,.nil⟩
theorem IsFs.mono{fs:List (Str×D)}{vs:List (Str×V)}(h:IsFs K H fs vs)(k:TK K H H'):IsFs K H' fs vs:=⟨h.ks,h.ds.mono k⟩
theorem IsFs.inv_cons{e:Str×D}{fs:List (Str×D)}{vs:List (Str×V)}(h:IsFs K H (e::fs) vs):∃v ws,vs=(e.1,v)::ws/\IsD K H e.2 v/\IsFs K H fs ws:=by
 cases vs with
 |nil=>have:=h.ks;simp at this
 |cons f ws=>
  obtain⟨k,v⟩:=f;have e1:=h.ks;simp only[Ah,Ae]at e1;have e2:=h.ds;simp only[Ah]at e2;obtain⟨v',ws',e3,i1,i2⟩:=e2.inv_cons;simp only[Ae]at e3;obtain⟨rfl,rfl⟩:=e3;exact⟨v,ws,by rw[e1.1],i1,⟨e1.2,i2⟩⟩
theorem IsFs.cons{k:Str}{d:D}{fs:List (Str×D)}{vs:List (Str×V)}(h:IsD K H d v)(r:IsFs K H fs vs):IsFs K H ((k,d)::fs) ((k,v)::vs):=⟨by simp only[Ah,r.ks],by simp only[Ah];exact .cons h r.ds⟩
theorem IsFs.length{fs:List (Str×D)}{vs:List (Str×V)}(h:IsFs K H fs vs):fs.length=vs.length:=by simpa using h.ds.len
theorem IsFs.look:∀{fs:List (Str×D)}{vs:List (Str×V)}(h:IsFs K H fs vs)(k:Str),(fs.lookup k=AD/\vs.lookup k=AD)\/∃d v,fs.lookup k=AA d/\vs.lookup k=AA v/\IsD K H d v
 |[],vs,h,k=>by
  have:vs=[]:=by have:=h.ks;simpa using this.symm
  subst this;exact .inl ⟨rfl,rfl⟩
 |e::fs,vs,h,k=>by
  obtain⟨v,ws,rfl,i1,i2⟩:=h.inv_cons;obtain⟨g,d⟩:=e;rw[DY,DY];cases hk:k==g with
  |true=>exact .inr ⟨d,v,rfl,rfl,i1⟩
  |false=>exact IsFs.look i2 k
theorem IsFs.put:∀{fs:List (Str×D)}{vs:List (Str×V)}(h:IsFs K H fs vs){d:D}{v:V}(i:IsD K H d v)(f:Str),IsFs K H (j9 f d fs) (w6 f v vs)
 |[],vs,h,d,v,i,f=>by
  have:vs=[]:=by have:=h.ks;simpa using this.symm
  subst this;exact .cons i .nil
 |e::fs,vs,h,d,v,i,f=>by
  obtain⟨w,ws,rfl,i1,i2⟩:=h.inv_cons;obtain⟨g,x⟩:=e;unfold j9 w6
  by_cases hg:g=f
  ·rw[if_pos hg,if_pos hg];exact .cons i i2
  ·rw[if_neg hg,if_neg hg];exact .cons i1 (IsFs.put i2 i f)
abbrev ObR(K:AO)(H:Hp)(a:AI):Ob->Prop
 |.lst ds=>∃vs,H a=AA (.lst vs)/\IsDs K H ds vs
 |.fro ds=>∃vs,Rd H a (.lst vs)/\IsDs K H ds vs
 |.dct kvs=>∃vs,H a=AA (.dK vs)/\IsKs K H kvs vs
 |.dtt kvs=>∃vs,H a=AA (.dT vs)/\IsPs K H kvs vs/\Tbs.kt=AE
 |.ins c fs=>∃C dx vs,H a=AA (.ins C dx vs)/\Ax K AN c=AA (AA (.ref C))/\IsFs K H fs vs
structure TabOk(H:Hp)(ps:Array AG):Prop where
 tr:Dp ps.toList
 co:∀pos cv,FT pos ps.toList=AA cv->M5 H cv
abbrev aa4(H:Hp):Prop:=∀P∈Tbs.ps,∃ps,H P=AA (.tbl ps)/\TabOk H ps
def aa4.stay(h:aa4 H)(k:TK K H H')(t:∀a ps,H a=AA (.tbl ps)->H' a=AA (.tbl ps)):aa4 H':=λP hP=>by
 obtain⟨ps,e,o⟩:=h P hP;exact⟨ps,t P ps e,o.tr,λpos cv hc=>(o.co pos cv hc).mono k⟩
structure RelS(K:AO)(st:Sto)(H:Hp):Prop where
 ob:∀a o,st a=AA o->ObR K H a o
 tb:aa4 H
def RelS.free(r:RelS K st H)(h:H p=AD):st p=AD:=by
 cases q:st p with
 |none=>rfl
 |some o=>
  have z:=r.ob p o q;cases o with
  |lst ds=>obtain⟨vs,a,_⟩:=z;rw[h]at a;cases a
  |fro ds=>
   obtain⟨vs,a|⟨o',a⟩,_⟩:=z
   ·rw[h]at a;cases a
   ·rw[h]at a;cases a
  |dct kvs=>obtain⟨vs,a,_⟩:=z;rw[h]at a;cases a
  |dtt kvs=>obtain⟨vs,a,_⟩:=z;rw[h]at a;cases a
  |ins c fs=>obtain⟨C,dx,vs,a,_⟩:=z;rw[h]at a;cases a
def RelS.sub(r:RelS K st' H)(s:Sub st st'):RelS K st H:=⟨λa o h=>r.ob a o (s a o h),r.tb⟩
theorem RelS.stay(r:RelS K st H)(k:TK K H H')(ho:∀a o,st a=AA o->H' a=H a)(t:∀a ps,H a=AA (.tbl ps)->H' a=AA (.tbl ps)):RelS K st H':=⟨λa o h=>by
 have z:=r.ob a o h;have e:=ho a o h;cases o with
 |lst ds=>obtain⟨vs,q,w⟩:=z;exact⟨vs,by rw[e];exact q,w.mono k⟩
 |fro ds=>
  obtain⟨vs,q|⟨o',q⟩,w⟩:=z
  ·exact⟨vs,.inl (by rw[e];exact q),w.mono k⟩
  ·exact⟨vs,.inr ⟨o',by rw[e];exact q⟩,w.mono k⟩
 |dct kvs=>obtain⟨vs,q,w⟩:=z;exact⟨vs,by rw[e];exact q,w.mono k⟩
 |dtt kvs=>obtain⟨vs,q,w,t⟩:=z;exact⟨vs,by rw[e];exact q,w.mono k,t⟩
 |ins c fs=>obtain⟨C,dx,vs,q,n,w⟩:=z;exact⟨C,dx,vs,by rw[e];exact q,n,w.mono k⟩,r.tb.stay k t⟩
def Z5(h:∀ps,H p≠AA (.tbl ps)):∀a ps,H a=AA (.tbl ps)->(upd H p o) a=AA (.tbl ps):=λa ps e=>by
 have ne:a≠p:=λz=>h ps (by rw[<-z];exact e);rw[i8 ne];exact e
def cd1(h:H p=AD):∀a ps,H a=AA (.tbl ps)->(upd H p o) a=AA (.tbl ps):=Z5 (by rw[h];exact λ_=>nofun)
theorem RelS.new(r:RelS K st H)(h:H p=AD):RelS K st (upd H p o):=r.stay (TK.new h) (λa u e=>i8 λz=>by
 rw[z,r.free h]at e;cases e) (cd1 h)
def RelS.putAny(r:RelS K st H){o':HO}(tk:TK K H (upd H p o'))(w:ObR K (upd H p o') p ob)(t:∀ps,H p≠AA (.tbl ps)):RelS K (b0 st p ob) (upd H p o'):=by
 have r':RelS K (λb=>if b=p then AD else st b) H:=⟨λb u q=>by
  split at q
  ·cases q
  ·exact r.ob b u q,r.tb⟩
 have r2:=r'.stay tk (λb u q=>i8 λz=>by
  have q':(if b=p then AD else st b)=AA u:=q;rw[if_pos z]at q';cases q') (Z5 t)
 refine⟨λa o e=>?_,r2.tb⟩
 by_cases ha:a=p
 ·subst ha;rw[c9]at e;cases e;exact w
 ·rw[C9 ha]at e;exact r2.ob a o (by show(if a=p then AD else st a)=AA o;rw[if_neg ha];exact e)
def RelS.putNew(r:RelS K st H)(h:H p=AD)(w:IsDs K H ds vs):RelS K (b0 st p (.lst ds)) (upd H p (.lst vs)):=
 r.putAny (TK.new h) ⟨vs,r8,w.mono (TK.new h)⟩ (by rw[h];exact λ_=>nofun)
def RelS.putNewD(r:RelS K st H){kvs:List (Key×D)}{ks:List (Key×V)}(h:H p=AD)(w:IsKs K H kvs ks):RelS K (b0 st p (.dct kvs)) (upd H p (.dK ks)):=
 r.putAny (TK.new h) ⟨ks,r8,w.mono (TK.new h)⟩ (by rw[h];exact λ_=>nofun)
def RelS.putOld(r:RelS K st H)(h:H p=AA (.lst xs))(w:IsDs K H ds vs):RelS K (b0 st p (.lst ds)) (upd H p (.lst vs)):=
 r.putAny (TK.put h) ⟨vs,r8,w.mono (TK.put h)⟩ (by rw[h];exact λ_ z=>by cases z)
theorem RelS.lst(r:RelS K st H)(h:st a=AA (.lst ds)):∃vs,H a=AA (.lst vs)/\IsDs K H ds vs:=r.ob a _ h
theorem RelS.dct(r:RelS K st H){kvs:List (Key×D)}(h:st a=AA (.dct kvs)):∃vs,H a=AA (.dK vs)/\IsKs K H kvs vs:=r.ob a _ h
theorem RelS.ins(r:RelS K st H){c:Str}{fs:List (Str×D)}(h:st a=AA (.ins c fs)):∃C dx vs,H a=AA (.ins C dx vs)/\Ax K AN c=AA (AA (.ref C))/\IsFs K H fs vs:=r.ob a _ h
def RelS.rd(r:RelS K st H)(h:rdS st a ds):∃vs,SqL K H a vs/\IsDs K H ds vs:=by
 rcases h with h|h
 ·obtain⟨vs,a,b⟩:=r.ob a _ h;exact⟨vs,.inl (.inl a),b⟩
 ·obtain⟨vs,a,b⟩:=r.ob a _ h;exact⟨vs,.inl a,b⟩
def RelS.rdR(r:RelS K st H)(h:rdS st a ds):∃vs,Rd H a (.lst vs)/\IsDs K H ds vs:=by
 rcases h with h|h
 ·obtain⟨vs,a,b⟩:=r.ob a _ h;exact⟨vs,.inl a,b⟩
 ·obtain⟨vs,a,b⟩:=r.ob a _ h;exact⟨vs,a,b⟩
end
abbrev TbE(o o':HO):Prop:=o'=o\/∃p p',o=.tbl p/\o'=.tbl p'
def TbE.trans{a b c:HO}(x:TbE a b)(y:TbE b c):TbE a c:=by
 rcases x with rfl|⟨p,p',rfl,rfl⟩
 ·exact y
 ·rcases y with rfl|⟨q,q',_,rfl⟩
  ·exact .inr ⟨p,p',rfl,rfl⟩
  ·exact .inr ⟨p,q',rfl,rfl⟩
abbrev Ev(st:Sto)(H:Hp)(st':Sto)(H':Hp):Prop:=∀a o,H a=AA o->st a=AD->(∃o',H' a=AA o'/\TbE o o')/\st' a=AD
section
variable {K:AO} {st1 st2:Sto} {H1 H2:Hp}
def Ev.get(e:Ev st H st1 H1)(h:H a=AA o)(k:st a=AD)(n:∀p,o≠.tbl p):H1 a=AA o/\st1 a=AD:=by
 obtain⟨⟨o',h',t⟩,k'⟩:=e a o h k
 rcases t with rfl|⟨p,_,rfl,_⟩
 ·exact⟨h',k'⟩
 ·exact absurd rfl (n p)
def Ev.refl:Ev st H st H:=λ_ o h k=>⟨⟨o,h,.inl rfl⟩,k⟩
theorem Ev.trans(a:Ev st H st1 H1)(b:Ev st1 H1 st2 H2):Ev st H st2 H2:=λc o h k=>by
 obtain⟨⟨o',h',t⟩,y⟩:=a c o h k;obtain⟨⟨o2,h2,t2⟩,z⟩:=b c o' h' y;exact⟨⟨o2,h2,t.trans t2⟩,z⟩
def RelS.no(r:RelS K st H)(h:H a=AA o)(n1:∀vs,o≠.lst vs)(n2:∀u vs,o≠.frz u (.lst vs))(n3:∀vs,o≠.dK vs)(n4:∀C dx vs,o≠.ins C dx vs)(n5:∀vs,o≠.dT vs):st a=AD:=by
 cases z:st a with
 |none=>rfl
 |some ob=>
  have w:=r.ob a ob z;cases ob with
  |lst ds=>obtain⟨vs,w1,_⟩:=w;rw[h]at w1;cases w1;exact absurd rfl (n1 vs)
  |fro ds=>
   obtain⟨vs,w1|⟨u,w1⟩,_⟩:=w
   ·rw[h]at w1;cases w1;exact absurd rfl (n1 vs)
   ·rw[h]at w1;cases w1;exact absurd rfl (n2 u vs)
  |dct kvs=>obtain⟨vs,w1,_⟩:=w;rw[h]at w1;cases w1;exact absurd rfl (n3 vs)
  |dtt kvs=>obtain⟨vs,w1,_⟩:=w;rw[h]at w1;cases w1;exact absurd rfl (n5 vs)
  |ins c fs=>obtain⟨C,dx,vs,w1,_⟩:=w;rw[h]at w1;cases w1;exact absurd rfl (n4 C dx vs)
def Ev.tk(e:Ev st H st1 H1)(r:RelS K st H):TK K H H1:=⟨⟨λa xs q=>by
 rcases q with(q|⟨o',q⟩)|q
 ·exact .inl (.inl (e.get q (r.no q (λ_ z=>by cases z) (λ_ _ z=>by cases z) (λ_ z=>by cases z) (λ_ _ _ z=>by cases z) (λ_ z=>by cases z)) (λ_ z=>by cases z)).1)
 ·exact .inl (.inr ⟨o',(e.get q (r.no q (λ_ z=>by cases z) (λ_ _ z=>by cases z) (λ_ z=>by cases z) (λ_ _ _ z=>by cases z) (λ_ z=>by cases z)) (λ_ z=>by cases z)).1⟩)
 ·exact .inr q,λa xs q=>(e.get q (r.no q (λ_ z=>by cases z) (λ_ _ z=>by cases z) (λ_ z=>by cases z) (λ_ _ _ z=>by cases z) (λ_ z=>by cases z)) (λ_ z=>by cases z)).1⟩,λa o u q n=>(e.get q (r.no q (λ_ z=>by cases z) (λ_ vs z=>by cases z;exact n vs rfl) (λ_ z=>by cases z) (λ_ _ _ z=>by cases z) (λ_ z=>by cases z)) (λ_ z=>by cases z)).1⟩
def Ev.new(h:H p=AD):Ev st H st (upd H p o):=λa u e k=>⟨⟨u,by rw[i8 (u4 e h)];exact e,.inl rfl⟩,k⟩
def Ev.newS(h:H p=AD):Ev st H (b0 st p ob) (upd H p o):=λa u e k=>⟨⟨u,by rw[i8 (u4 e h)];exact e,.inl rfl⟩,by rw[C9 (u4 e h)];exact k⟩
def Ev.put{ob':Ob}(h:st p=AA ob'):Ev st H (b0 st p ob) (upd H p o):=λa u e k=>by
 have ne:a≠p:=λz=>by rw[z,h]at k;cases k
 exact⟨⟨u,by rw[i8 ne];exact e,.inl rfl⟩,by rw[C9 ne];exact k⟩
def Ev.drop(s:Sub st2 st1)(e:Ev st H st1 H1):Ev st H st2 H1:=λa o h k=>by
 obtain⟨x,y⟩:=e a o h k;refine⟨x,?_⟩;cases z:st2 a with
 |none=>rfl
 |some u=>rw[s a u z]at y;cases y
end
abbrev u1(K:AO)(st:Sto)(H:Hp)(Qd:DK)(Q:VK):Prop:=∀v d H' st',Ev st H st' H'->IsD K H' d v->RelS K st' H'->Qd d st'->Q v H'
abbrev up(K:AO)(t:DT):TE:=λσ H Q=>∃env st Qd,RelE K H env σ/\RelS K st H/\t env st Qd/\u1 K st H Qd Q
abbrev upB(K:AO)(t:DB):TT:=λσ H Q=>∃env st Qd,RelE K H env σ/\RelS K st H/\t env st Qd/\∀b H' st',Ev st H st' H'->RelS K st' H'->Qd b st'->Q b H'
abbrev upA(K:AO)(n:Nat)(t:DA):TA:=λσ H Q=>∃env st Qd,RelE K H env σ/\RelS K st H/\t env st Qd/\∀vs ds H' st',Ev st H st' H'->IsDs K H' ds vs->ds.length=n->RelS K st' H'->Qd ds st'->Q vs H'
def _root_.L2.PE.imp{t t':TE}(h:PE X x t)(i:∀σ H Q,t' σ H Q->t σ H Q):PE X x t':=λpins s σ H Q I q=>h pins s σ H Q I (i σ H Q q)
def _root_.L2.PT.imp{t t':TT}(h:PT X x t)(i:∀σ H Q,t' σ H Q->t σ H Q):PT X x t':=λpins s σ H Q I q=>h pins s σ H Q I (i σ H Q q)
def _root_.L2.PW.imp{t t':TT}(h:PW X x t)(i:∀σ H Q,t' σ H Q->t σ H Q):PW X x t':=λw pins s σ H Q I q=>h w pins s σ H Q I (i σ H Q q)
def _root_.L2.PA.imp{x:List AQ}{t t':TA}(h:PA X x t)(i:∀σ H Q,t' σ H Q->t σ H Q):PA X x t':=λpos pins s σ H Q I q=>h pos pins s σ H Q I (i σ H Q q)
def _root_.L2.PSs.imp{x:List BQ}{t t':TS}(h:PSs X x t)(i:∀D σ H,t' D σ H->t D σ H):PSs X x t':=λpins s σ H D I q=>h pins s σ H D I (i D σ H q)
def _root_.L2.PS.imp{x:BQ}{t t':TS}(h:PS X x t)(i:∀D σ H,t' D σ H->t D σ H):PS X x t':=λpins s σ H D I q=>h pins s σ H D I (i D σ H q)
def u1.after{K:AO}{st1:Sto}{H1:Hp}(p:u1 K st H Qd Q)(e:Ev st H st1 H1):u1 K st1 H1 Qd Q:=λv d H2 st2 e2 is rs q=>p v d H2 st2 (e.trans e2) is rs q
def u1.here{K:AO}{d:D}(p:u1 K st H Qd Q)(i:IsD K H d v)(r:RelS K st H)(q:Qd d st):Q v H:=p v d H st Ev.refl i r q
def u1.newL{K:AO}(p:u1 K st H Qd Q)(r:RelS K st H)(w:IsDs K H ds vs)(q:∀p,st p=AD->Qd (.ref p) (b0 st p (.lst ds))):∀l,H l=AD->Q (.ref l) (upd H l (.lst vs)):=λl hl=>
 p _ (.ref l) _ (b0 st l (.lst ds)) (Ev.newS hl) (.ref l) (r.putNew hl w) (q l (r.free hl))
def u1.newT{K:AO}(p:u1 K st H Qd Q)(r:RelS K st H)(w:IsDs K H ds vs)(q:Qd (.tup ds) st):∀l,H l=AD->Q (.ref l) (upd H l (.tup vs)):=λl hl=>
 p _ (.tup ds) _ st (Ev.new hl) (IsD.mk (SqX.of r8) (w.mono (TK.new hl))) (r.new hl) q
def up1{K:AO}{t:DT}{f:D->Sto->DK->Prop}{R:V->Hp->Prop}(h:up K (λenv st Q=>t env st λd st1=>f d st1 Q) σ H Q)
  (k:∀v d H' st' Qd,IsD K H' d v->RelS K st' H'->f d st' Qd->u1 K st' H' Qd Q->R v H'):up K t σ H R:=by
 obtain⟨env,st,Qd,hE,hS,ht,hq⟩:=h;exact⟨env,st,_,hE,hS,ht,λv d H' st' ev is rs q=>k v d H' st' Qd is rs q (hq.after ev)⟩
def up2{K:AO}{t u:DT}{f:D->D->Sto->DK->Prop}{R:V->V->Hp->Prop}(h:up K (λenv st Q=>t env st λd st1=>u env st1 λe st2=>f d e st2 Q) σ H Q)
  (k:∀v w d e H' st' Qd,IsD K H' d v->IsD K H' e w->RelS K st' H'->f d e st' Qd->u1 K st' H' Qd Q->R v w H'):up K t σ H λv H1=>up K u σ H1 λw H2=>R v w H2:=by
 obtain⟨env,st,Qd,hE,hS,ht,hq⟩:=h;exact⟨env,st,_,hE,hS,ht,λv d H' st' ev is rs q=>⟨env,st',_,hE.mono (ev.tk hS),rs,q,λw e H2 st2 ev2 is2 rs2 q2=>
  k v w d e H2 st2 Qd (is.mono (ev2.tk rs)) is2 rs2 q2 ((hq.after ev).after ev2)⟩⟩
def aq0{K:AO}{n:Nat}{t:DA}{f:List D->Sto->DK->Prop}{R:List V->Hp->Prop}(h:up K (λenv st Q=>t env st λds st1=>f ds st1 Q) σ H Q)
  (k:∀vs ds H' st' Qd,IsDs K H' ds vs->ds.length=n->RelS K st' H'->f ds st' Qd->u1 K st' H' Qd Q->R vs H'):upA K n t σ H R:=by
 obtain⟨env,st,Qd,hE,hS,ht,hq⟩:=h;exact⟨env,st,_,hE,hS,ht,λvs ds H' st' ev is hl rs q=>k vs ds H' st' Qd is hl rs q (hq.after ev)⟩
def c23{t:DT}(h:PE X x (up X.K t))(he:∀whole,Gx x X.env whole=(do let v <-whole;Gj x.pos;holding [v] (truthy v))):
  PT X x (upB X.K λenv st Q=>t env st λd st'=>∃b,d=.bl b/\Q b st'):=PT.imp (cu6 h he) λσ H Q q=>by
 obtain⟨env,st,Qd,hE,hS,ht,hq⟩:=q;refine⟨env,st,_,hE,hS,ht,λv d H' st' ev is rs q=>?_⟩;obtain⟨b,rfl,q⟩:=q;cases is;exact⟨b,rfl,hq b H' st' ev rs q⟩
end Ek
namespace Ek
open PySem PySem.Spec PyProof.Rows L2
variable [Tbs]
mutual
theorem E5:∀d:D,d.pure=AC->d.py.canLay0=AC
 |.non,_=>rfl
 |.bl _,_=>rfl
 |.int _,_=>rfl
 |.str _,h=>h
 |.tup ds,h=>by show Cq (D.pys ds)=AC;exact Z2 ds h
 |.ref _,h=>nomatch h
 |.fn _,h=>nomatch h
 |.clo _ _ _ _,h=>nomatch h
 |.ktup _,h=>nomatch h
theorem Z2:∀ds:List D,D.pures ds=AC->Cq (D.pys ds)=AC
 |[],_=>rfl
 |d::r,h=>by
  have h':d.pure=AC/\D.pures r=AC:=by simpa[D.pures]using h
  show(d.py.canLay0&&Cq (D.pys r))=AC;rw[E5 d h'.1,Z2 r h'.2];rfl
end
theorem ah9:∀{ds:List D},D.pures ds=AC->∀d∈ds,d.pure=AC
 |[],_,d,h=>by cases h
 |e::r,h,d,hd=>by
  have h':e.pure=AC/\D.pures r=AC:=by simpa[D.pures]using h
  rcases AL.mp hd with z|z
  ·rw[z];exact h'.1
  ·exact ah9 h'.2 d z
section
variable {X:Cx} {pins:List (AI×Obj)} {σ:L2.St} {H:Hp} {s:AK}
def C7(I:L2.Inv X pins σ H s){d:D}{v:V}(h:IsD X.K H d v):∀{u:AG},d.pure=AC->f8 v u->∃as,Reads s.heap u d.py as:=by
 induction h with
 |non=>intro u _ r;cases r;exact⟨_,.none⟩
 |bl b=>intro u _ r;cases r;exact⟨_,.bool b⟩
 |int i=>intro u _ r;obtain⟨t,rfl⟩:=r;exact⟨_,.int i t⟩
 |str x=>intro u _ r;obtain⟨t,rfl⟩:=r;exact⟨_,.str x t⟩
 |ref a=>intro u h;cases h
 |fn _=>intro u h;cases h
 |clo _ _ _ _=>intro u h;cases h
 |ktup _=>intro u h;cases h
 |@tup a ds vs hq hl hat ih=>
  intro u hp r;cases r;obtain⟨its,rv,⟨o,ho,hc,n,hd⟩,hz⟩:=I.tuple hq.sqt;have all:∀(ds':List D)(vs':List V)(us':List AG),(∀(i:Nat)d v,ds'[i]?=AA d->vs'[i]?=AA v->∀{u:AG},d.pure=AC->f8 v u->∃as,Reads s.heap u d.py as)->ds'.length=vs'.length->D.pures ds'=AC->f7 vs' us'->∃as,ReadsAll s.heap us' (D.pys ds') as:=by
   intro ds'
   induction ds' with
   |nil=>intro vs' us' _ hl' _ q;cases vs' with
    |nil=>cases q;exact⟨[],.nil⟩
    |cons a b=>simp at hl'
   |cons e es ihe=>
    intro vs' us' hat' hl' hp' q;cases vs' with
    |nil=>simp at hl'
    |cons w ws=>
     have hp2:e.pure=AC/\D.pures es=AC:=by simpa[D.pures]using hp'
     cases q with
     |cons q1 q2=>
      obtain⟨as,ra⟩:=hat' 0 e w rfl rfl hp2.1 q1;obtain⟨bs,rb⟩:=ihe ws _ (λi d v a b=>hat' (i+1) d v (by simpa using a) (by simpa using b)) (by simpa using hl') hp2.2 q2;exact⟨as++bs,.cons ra rb⟩
  obtain⟨as,ra⟩:=all ds vs its ih hl hp rv;exact⟨as,.tuple ho hc hd (by simpa using ra)⟩
def a88{A:BP}{a b:Nat}(hu:A.units+200<Bo)(h:DM a b<=150):A.units+min a b<Bo:=by
 have:min a b<=150:=h;lia
def ct2(hu:X.A.units+200<Bo):OpR X (Bp .Eq) (λx y H Q=>∃d e,IsD X.K H d x/\IsD X.K H e y/\d.pure=AC/\e.pure=AC/\DM (l5 d) (l5 e)<=150/\Q (.bl (deq d e)) H):=by
 intro pins s σ H x y v u Q I rx ry h;obtain⟨d,e,h1,h2,p1,p2,hd,q⟩:=h;obtain⟨as,ra⟩:=C7 I h1 p1 rx;obtain⟨bs,rb⟩:=C7 I h2 p2 ry;exact SeqAt.rcAt_reads ra rb (E5 d p1) (E5 e p2) (a88 hu hd) X.prog X.w _ _ ⟨.bl (deq d e),H,I,rfl,q⟩
def cp0(hu:X.A.units+200<Bo):OpR X (Bp .NotEq) (λx y H Q=>∃d e,IsD X.K H d x/\IsD X.K H e y/\d.pure=AC/\e.pure=AC/\DM (l5 d) (l5 e)<=150/\Q (.bl (!deq d e)) H):=by
 intro pins s σ H x y v u Q I rx ry h;obtain⟨d,e,h1,h2,p1,p2,hd,q⟩:=h;obtain⟨as,ra⟩:=C7 I h1 p1 rx;obtain⟨bs,rb⟩:=C7 I h2 p2 ry;exact SeqAt.rcNeAt_reads ra rb (E5 d p1) (E5 e p2) (a88 hu hd) X.prog X.w _ _ ⟨.bl (!deq d e),H,I,rfl,q⟩
theorem ak8:∀(ds:List D)(x:D),((D.pys ds).any λy=>Ar y x.py)=ds.any λy=>deq y x
 |[],_=>rfl
 |d::r,x=>by
  show(Ar d.py x.py||(D.pys r).any _)=(deq d x||r.any _);rw[ak8 r x];rfl
def Z1{A:BP}{a b:Nat}(hu:A.units+200<Bo)(h:b<=150):A.units+1+min a b<Bo:=by
 have:min a b<=b:=GB _ _;lia
def bj3(hu:X.A.units+200<Bo):OpR X (Bp .In) (λx y H Q=>∃d es,IsD X.K H d x/\IsD X.K H (.tup es) y/\d.pure=AC/\D.pures es=AC/\l5 d<=150/\Q (.bl (es.any λe=>deq e d)) H):=by
 intro pins s σ H x y v u Q I rx ry h;obtain⟨d,es,h1,h2,p1,p2,hd,q⟩:=h;obtain⟨as,ra⟩:=C7 I h1 p1 rx;obtain⟨bs,rb⟩:=C7 I h2 p2 ry;have rb':Reads s.heap u (.tuple (D.pys es)) bs:=rb;exact SeqAt.in_tuple_reads rb' ra (Z2 es p2) (E5 d p1) (Z1 hu hd) (by rw[ak8];exact⟨.bl _,H,I,rfl,q⟩)
def cf2(hu:X.A.units+200<Bo):OpR X (Bp .NotIn) (λx y H Q=>∃d es,IsD X.K H d x/\IsD X.K H (.tup es) y/\d.pure=AC/\D.pures es=AC/\l5 d<=150/\Q (.bl (!es.any λe=>deq e d)) H):=by
 intro pins s σ H x y v u Q I rx ry h;obtain⟨d,es,h1,h2,p1,p2,hd,q⟩:=h;obtain⟨as,ra⟩:=C7 I h1 p1 rx;obtain⟨bs,rb⟩:=C7 I h2 p2 ry;have rb':Reads s.heap u (.tuple (D.pys es)) bs:=rb;exact SeqAt.notIn_tuple_reads rb' ra (Z2 es p2) (E5 d p1) (Z1 hu hd) (by rw[ak8];exact⟨.bl _,H,I,rfl,q⟩)
end
end Ek
namespace PySem
def bw0:fillsNumberSlot (.type "tuple") "mul"=pure AE:=
 fillsNumberSlot_seq (id:="tuple.__mul__") (r:=AA (.builtin "tuple.__rmul__")) EK.lookup (by decide+kernel) Ii.lookup (by decide+kernel)
def bx1:seqRepeat? (.type "tuple")=pure (AA (.builtin "tuple.__mul__")):=by
 unfold seqRepeat?;rw[seqSlot_of (T:="tuple") (name:="__mul__") (id:="tuple.__mul__") EK.lookup (by decide+kernel),seqSlot_of (T:="tuple") (name:="__rmul__") (id:="tuple.__rmul__") Ii.lookup (by decide+kernel)];rfl
def bw6(a:Int)(t:Tok)(l:AI)(xs:Array AG)(n:Nat)(dd:Option AI)(sl:Array (Option AG)):
  JP (Dk.«int.__rmul__» ⟨[.int a t,.ref l],[]⟩) (λ_ R s=>s.heap.get? l=AA {cls:=.type "tuple",dict:=dd,data:=.seq xs n,slots:=sl}/\R (.ok (.ret Value.notImplemented)) s):=
 .of_wp λprog w A R s h=>by obtain⟨hp,g,d,tk,os⟩:=s;obtain⟨hl,h⟩:=h;wp_walk;exact⟨_,rfl,h⟩
def b19(l:AI)(xs:Array AG)(n:Nat)(dd:Option AI)(sl:Array (Option AG))(k:Int)(u:Tok)(h0:xs.isEmpty=AE)(h1:2<=k)(h2:k<2^63)(hz:xs.size*k.toNat<=sizeLine):
  JP (Dk.«tuple.__mul__» ⟨[.ref l,.int k u],[]⟩) (λ_ R s=>s.heap.get? l=AA {cls:=.type "tuple",dict:=dd,data:=.seq xs n,slots:=sl}/\R (.ok (.ret (Ap s.heap.objs.size))) {s with heap:=s.heap.push {cls:=EC "tuple",data:=Data.seq (Ez (λx1 x2=>x1++x2) #[] (Ak k.toNat xs))},toks:=s.toks}):=
 .of_wp λprog w A R s h=>by
  obtain⟨hp,g,d,tk,os⟩:=s;obtain⟨hl,h⟩:=h;have hT:(⟨hp,g,d,tk,os⟩:AK).TypeIs (.ref l) "tuple":=⟨_,hl,rfl⟩;have c1:(AB (k < -(2^63))||AB (k>=2^63))=AE:=by simp;lia
  have c2:(xs.isEmpty||k==1)=AE:=by rw[h0];simp;lia
  have c3:(AB (k<=0)||xs.isEmpty)=AE:=by rw[h0];simp;lia
  have e4:(xs.size:Int)*k=((xs.size*k.toNat:Nat):Int):=by rw[Ij,Int.toNat_of_nonneg ⋯]
  have c4:¬((xs.size:Int)*k>(2^63-1) / 8):=by
   rw[e4];have:(sizeLine:Nat)<=(2^63-1) / 8:=by decide
   lia
  have c5:Ex ((xs.size:Int)*k)=AE:=by
   unfold Ex;rw[e4];exact decide_eq_false ⋯
  show AU _ _ (asIndex (.int k u)>>=_) _ _ _;refine AF (AM ?_);dsimp only;rw[c1];simp only[BO,if_false];refine AF (AF (DC hl rfl (AM ?_)));rw[c2,c3];simp only[BO,if_false];rw[if_neg c4,c5];simp only[BO,if_false];refine AF (BZ (AM ⟨_,rfl,h⟩) ?_);have hs:(Ez (λx1 x2=>x1++x2) #[] (Ak k.toNat xs)).size=k.toNat*xs.size:=by
   have:=L2.ai1 xs.toList k.toNat [];simp only[Ck]at this;rw[show(Ak k.toNat xs.toList.toArray)=Ak k.toNat xs by simp]at this;rw[show((#[]:Array AG))=([]:List AG).toArray from rfl,this];simp[L2.a60]
  show(Ez (λx1 x2=>x1++x2) #[] (Ak k.toNat xs)).size<=sizeLine;rw[hs,GJ];exact hz
def b01(l:AI)(xs:Array AG)(n:Nat)(dd:Option AI)(sl:Array (Option AG))(u:Tok):
  JP (Dk.«tuple.__mul__» ⟨[.ref l,.int 1 u],[]⟩) (λ_ R s=>s.heap.get? l=AA {cls:=.type "tuple",dict:=dd,data:=.seq xs n,slots:=sl}/\R (.ok (.ret (Ap l))) s):=
 .of_wp λprog w A R s h=>by
  obtain⟨hp,g,d,tk,os⟩:=s;obtain⟨hl,h⟩:=h;have hT:(⟨hp,g,d,tk,os⟩:AK).TypeIs (.ref l) "tuple":=⟨_,hl,rfl⟩;show AU _ _ (asIndex (.int 1 u)>>=_) _ _ _;refine AF (AM ?_);dsimp only;rw[if_neg ∅];refine AF (AF (DC hl rfl (AM ?_)));rw[if_pos ∎];refine AF (AF (GD hT (AM ?_)));rw[if_pos ∅];exact AF (Eb (AM ⟨_,rfl,h⟩))
end PySem
namespace L2
open PySem PySem.Spec PyProof.Rows
variable {X:Cx}
abbrev c13(K:AO):R2:=λx y H Q=>∃a k xs,x=.ref a/\y=.int k/\SqT K H a xs/\xs≠[]/\1<=k/\k<2^62/\xs.length*k.toNat<=sizeLine /\
 (k=1->Q (.ref a) H)/\(k≠1->∀p,H p=AD->Q (.ref p) (upd H p (.tup (Ak k.toNat xs).flatten)))
def cf0:OpR X (Ch .Mult) (c13 X.K):=by
 intro pins s σ H x y v u Q I rx ry h;obtain⟨a,k,xs,rfl,rfl,ha,hne,h1,h2,hz,q1,q2⟩:=h;cases rx;obtain⟨t,rfl⟩:=ry;obtain⟨its,r,p1,hl⟩:=I.tuple ha;obtain⟨⟨cls,dd,data,sl⟩,ho,hc,n,hd⟩:=id p1;simp only at hc hd;subst hc hd;have hlen:=r.length;have go:∀{R:AG->AK->Prop},AU (model X.prog X.w) X.A (call (.builtin "tuple.__mul__") [.ref a,.int k t]) R X.xe s->AU (model X.prog X.w) X.A (Ch .Mult (.ref a) (.int k t)) R X.xe s:=λhh=>
  wpAny_binaryOp_repeat_ref (T:="tuple") (U:="int") ∅ ⟨_,ho,rfl⟩ (λs'=>JC s' k t) bw0 F.fills_int_mul JQ bx1 F.slot_int_index.lookup
   (Cj JQ (JC s k t) F.entry_int_rmul (F.args_int_rmul_2 _ _) (bw6 k t a its.toArray n dd sl) ⟨ho,rfl,⟨_,ho,rfl⟩,hh⟩)
 by_cases hk:k=1
 ·subst hk;exact go (Cj EK ⟨_,ho,rfl⟩ Ik (IR _ _) (b01 a its.toArray n dd sl t) ⟨ho,⟨.ref a,H,I,rfl,q1 rfl⟩⟩)
 ·have hie:its.toArray.isEmpty=AE:=by
   cases its with
   |nil=>exact absurd (Az hlen) hne
   |cons a b=>simp
  refine go (Cj EK ⟨_,ho,rfl⟩ Ik (IR _ _) (b19 a its.toArray n dd sl k t hie ⋯ ⋯ (by rw[Ab,<-hlen];exact hz)) ⟨ho,?_⟩);have hnew:Ez (λx1 x2=>x1++x2) #[] (Ak k.toNat its.toArray)=(Ak k.toNat its).flatten.toArray:=by
   have:=ai1 its k.toNat [];rw[Ck]at this;exact this
  rw[hnew];refine⟨.ref _,_,I.laid (t':=s.toks) (o:=.tup (Ak k.toNat xs).flatten) (λb o e=>AS _ e) (AY _) ⟨?_,_,r.rep k.toNat,⟨_,Aq _ rfl,rfl,rfl,_,rfl⟩⟩,rfl,q2 hk _ I.fresh⟩;rw[a60,GJ];exact hz
end L2
namespace Ek
open PySem PySem.Spec PyProof.Rows L2
variable [Tbs]
variable{x:AQ}{v:V}{i:Int}{es:List AQ}{n:Nat}{H:Hp}{o:De}
section
variable {X:Cx} {a b c:AQ} {ta tb tc:DT} {pos:Pos}
def ac3{d:D}(h:PE X x (tC v))(i:∀H,IsD X.K H d v):PE X x (up X.K λ_ st Q=>Q d st):=PE.imp h λσ H Q q=>by
 obtain⟨env,st,Qd,hE,hS,ht,hq⟩:=q;exact hq.here (i H) hS ht
def cw8{i:Nat}{x:Str}(hN:X.N[i]?=AA x)(hv:Vis X.env.scope x)(hd:(x==("__debug__":Str))=AE)(hcd:(x==("__classdict__":Str))=AE):PE X (.Name x pos) (up X.K λenv st Q=>∃d,env[i]?=AA (AA d)/\Q d st):=
 PE.imp (am9 hN hv hd hcd) λσ H Q q=>by
  obtain⟨env,st,Qd,hE,hS,⟨d,h1,ht⟩,hq⟩:=q;obtain⟨v,h2,is⟩:=hE.at' i d h1;exact⟨v,h2,hq.here is hS ht⟩
def o0{xs:List AQ}{env:Env}(h:∀e p,x≠.Starred e p):Am (x::xs) env=(AE,eval x env)::Am xs env:=by
 cases x<;>first|rfl|exact absurd rfl (h _ _)
def bc9:PA X [] (upA X.K 0 λ_ st Q=>Q [] st):=PA.imp bd7 λσ H Q q=>by
 obtain⟨env,st,Qd,hE,hS,ht,hq⟩:=q;exact hq [] [] H st Ev.refl .nil rfl hS ht
def Q5{t:DA}(ha:PE X a (up X.K ta))(hr:PA X es (upA X.K n t))(h:∀e p,a≠.Starred e p):PA X (a::es) (upA X.K (n+1) λenv st Q=>ta env st λd st1=>t env st1 λds st2=>Q (d::ds) st2):=
 PA.imp (am1 ha hr (o0 h)) λσ H Q q=>by
  obtain⟨env,st,Qd,hE,hS,ht,hq⟩:=q;exact⟨env,st,_,hE,hS,ht,λv d H1 st1 ev is rs q1=>⟨env,st1,_,hE.mono (ev.tk hS),rs,q1,λvs ds H2 st2 ev2 is2 hl rs2 q2=>
   hq (v::vs) (d::ds) H2 st2 (ev.trans ev2) (.cons (is.mono (ev2.tk rs)) is2) (by simp[hl]) rs2 q2⟩⟩
def cr3{k:Nat}{t:DA}(h:PA X es (upA X.K n t))(hn:n<=1000):PE X (.Tuple es k pos) (up X.K λenv st Q=>t env st λds st1=>Q (.tup ds) st1):=
 PE.imp (cq8 h) λσ H Q q=>aq0 (f:=λds st1 Q=>Q (.tup ds) st1) q λvs ds H' st' Qd is hl rs ht hq=>⟨by rw[<-is.len,hl];exact Fv (au9 hn),hq.newT rs is ht⟩
def cw2{t:DA}(h:PA X es (upA X.K n t))(hn:n<=1000):PE X (.List es pos) (up X.K λenv st Q=>t env st λds st1=>∀p,st1 p=AD->Q (.ref p) (b0 st1 p (.lst ds))):=
 PE.imp (cq4 h) λσ H Q q=>aq0 (f:=λds st1 Q=>∀p,st1 p=AD->Q (.ref p) (b0 st1 p (.lst ds))) q λvs ds H' st' Qd is hl rs ht hq=>⟨by rw[<-is.len,hl];exact Fv (au9 hn),hq.newL rs is ht⟩
def IsD.int_inv{K:AO}(h:IsD K H (.int i) v):v=.int i:=by cases h;rfl
def IsD.str_inv{K:AO}{i:Str}(h:IsD K H (.str i) v):v=.str i:=by cases h;rfl
def IsD.bl_inv{K:AO}{i:Bool}(h:IsD K H (.bl i) v):v=.bl i:=by cases h;rfl
def IsD.ref_inv{K:AO}{i:AI}(h:IsD K H (.ref i) v):v=.ref i:=by cases h;rfl
def cd9{k:Nat}(h:n<2^k)(h0:n≠0):n.log2<k:=(Nat.log2_lt h0).mpr h
def ba6(h:i.natAbs<2^20000):Cy i<=20000:=by
 unfold Cy
 by_cases h0:i=0
 ·subst h0;exact BV _
 ·rw[if_neg (by simpa using h0)];exact cd9 h ⋯
theorem O5.ok{j:Int}(h:O5 i j):KD i j:=by
 rcases h with h|⟨h1,h2⟩
 ·exact h.ok
 ·have b1:=ba6 h1;have b2:=ba6 h2;unfold KD;have:Fm ((Cy i:Int)+(Cy j:Int))=AE:=by
   unfold Fm;refine decide_eq_false ?_;have:(40000:Int)<=(bitsLine:Nat):=by decide
   lia
  first
   |(rw[this];simp)
   |(intro z;simp only[Au]at z;have z3:=z.2;first|(rw[this]at z3;cases z3)|(simp[this]at z3))
def cf1:OpR X (Ch .Mult) (rI O5 λi j=>.int (i*j)):=opI λ_ _ _ _ _ _ _ hc q=>mul_int q hc.ok
theorem _root_.Ek.IsDs.repl{K:AO}{xs:List D}{vs:List V}(r:IsDs K H xs vs):∀n:Nat,IsDs K H (Ak n xs).flatten (Ak n vs).flatten
 |0=>.nil
 |n+1=>by
  rw[Ci,Ci,DH,DH];exact r.append (r.repl n)
def ct3{o:EU}(ha:PE X a (up X.K ta))(hb:PE X b (up X.K tb)):PE X (.BinOp a o b pos) (up X.K λenv st Q=>ta env st λx st1=>tb env st1 λy st2=>A6 o x y st2 Q):=by
 have bad:∀{P:Prop},False->P:=λh=>h.elim;cases o with
 |Add=>
  refine PE.imp (O4 (co3.or (cj4.or cu1)) ha hb) λσ H Q q=>up2 (f:=A6 .Add) q λv w d e H' st' Qd i1 i2 rs ht hq=>?_;cases d<;>cases e<;>first|exact AZ ht|skip
  ·exact .inl ⟨_,_,i1.int_inv,i2.int_inv,hq.here (.int _) rs ht⟩
  ·rename_i xs ys;obtain⟨p,vs,e1,q1,r1⟩:=i1.tup_invX;obtain⟨q',ws,e2,q2,r2⟩:=i2.tup_invX;refine .inr (.inl ⟨p,q',vs,ws,e1,e2,q1.sqt,q2.sqt,by rw[<-r1.len,<-r2.len];exact ht.1,λz=>?_,λz1 z2=>?_,λ_ _=>hq.newT rs (r1.append r2) ht.2⟩)
   ·have:xs=[]:=by rw[z]at r1;have:=r1.len;exact Az (by simpa using this)
    subst this;exact hq.here (IsD.mk q2 r2) rs ht.2
   ·have:ys=[]:=by rw[z2]at r2;have:=r2.len;exact Az (by simpa using this)
    subst this;have h2:=ht.2;rw[BJ]at h2;exact hq.here (IsD.mk q1 r1) rs h2
  ·obtain⟨xs,ys,s1,s2,hz,h2⟩:=ht;obtain⟨vs,e1,r1⟩:=rs.lst s1;obtain⟨ws,e2,r2⟩:=rs.lst s2;exact .inr (.inr ⟨_,_,vs,ws,i1.ref_inv,i2.ref_inv,e1,e2,by rw[<-r1.len,<-r2.len];exact hz,hq.newL rs (r1.append r2) h2⟩)
 |Sub=>
  refine PE.imp (O4 cq7 ha hb) λσ H Q q=>up2 (f:=A6 .Sub) q λv w d e H' st' Qd i1 i2 rs ht hq=>?_;cases d<;>cases e<;>first|exact AZ ht|skip
  exact⟨_,_,i1.int_inv,i2.int_inv,hq.here (.int _) rs ht⟩
 |Mult=>
  refine PE.imp (O4 (cf1.or cf0) ha hb) λσ H Q q=>up2 (f:=A6 .Mult) q λv w d e H' st' Qd i1 i2 rs ht hq=>?_;cases d<;>cases e<;>first|exact AZ ht|skip
  ·exact .inl ⟨_,_,i1.int_inv,i2.int_inv,ht.1,hq.here (.int _) rs ht.2⟩
  ·rename_i xs k;obtain⟨p,vs,e1,q1,r1⟩:=i1.tup_invX;obtain⟨h0,h1,h2,h3,ht⟩:=ht;refine .inr ⟨p,k,vs,e1,i2.int_inv,q1.sqt,λz=>h0 (by rw[z]at r1;exact Az (by simpa using r1.len)),h1,h2,by rw[<-r1.len];exact h3,λz=>?_,λ_=>hq.newT rs (r1.repl k.toNat) ht⟩;subst z;have ht':Qd (.tup xs) st':=by simpa using ht
   exact hq.here (IsD.mk q1 r1) rs ht'
 |Mod=>
  refine PE.imp (O4 cn2 ha hb) λσ H Q q=>up2 (f:=A6 .Mod) q λv w d e H' st' Qd i1 i2 rs ht hq=>?_;cases d<;>cases e<;>first|exact AZ ht|skip
  exact⟨_,_,i1.int_inv,i2.int_inv,ht.1,hq.here (.int _) rs ht.2⟩
 |FloorDiv=>
  refine PE.imp (O4 cb6 ha hb) λσ H Q q=>up2 (f:=A6 .FloorDiv) q λv w d e H' st' Qd i1 i2 rs ht hq=>?_;cases d<;>cases e<;>first|exact AZ ht|skip
  exact⟨_,_,i1.int_inv,i2.int_inv,ht.1,hq.here (.int _) rs ht.2⟩
 |Pow=>
  refine PE.imp (O4 ct0 ha hb) λσ H Q q=>up2 (f:=A6 .Pow) q λv w d e H' st' Qd i1 i2 rs ht hq=>?_;cases d<;>cases e<;>first|exact AZ ht|skip
  exact⟨_,_,i1.int_inv,i2.int_inv,ht.1,hq.here (.int _) rs ht.2⟩
 |_=>
  refine PE.imp (O4 (op:=_) (r:=λ_ _ _ _=>False) (λ_ _ _ _ _ _ _ _ _ _ _ _ h=>h.elim) ha hb) λσ H Q q=>up2 (f:=λ_ _ _ _=>False) (by
   obtain⟨env,st,Qd,hE,hS,ht,hq⟩:=q;exact⟨env,st,Qd,hE,hS,ht,hq⟩) λv w d e H' st' Qd i1 i2 rs ht hq=>ht
def cr2(ha:PE X a (up X.K ta)):PE X (.UnaryOp .USub a pos) (up X.K λenv st Q=>ta env st λx st1=>∃i,x=.int i/\Q (.int (-i)) st1):=
 PE.imp (c00 ct8 ha) λσ H Q q=>up1 (f:=λx st1 Q=>∃i,x=.int i/\Q (.int (-i)) st1) q λv d H' st' Qd is rs ht hq=>by
  obtain⟨i,rfl,ht⟩:=ht;exact⟨i,is.int_inv,hq.here (.int _) rs ht⟩
abbrev ac5(X:Cx):De->R2
 |.Eq=>λx y H Q=>∃d e,IsD X.K H d x/\IsD X.K H e y/\d.pure=AC/\e.pure=AC/\DM (l5 d) (l5 e)<=150/\Q (.bl (deq d e)) H
 |.NotEq=>λx y H Q=>∃d e,IsD X.K H d x/\IsD X.K H e y/\d.pure=AC/\e.pure=AC/\DM (l5 d) (l5 e)<=150/\Q (.bl (!deq d e)) H
 |.Lt=>rI0 λi j=>.bl (AB (i<j))
 |.LtE=>rI0 λi j=>.bl (AB (i<=j))
 |.Gt=>rI0 λi j=>.bl (AB (j<i))
 |.GtE=>rI0 λi j=>.bl (AB (j<=i))
 |.In=>λx y H Q=>(∃d es,IsD X.K H d x/\IsD X.K H (.tup es) y/\d.pure=AC/\D.pures es=AC/\l5 d<=150/\Q (.bl (es.any λe=>deq e d)) H)\/(∃(i:Int)(ns:List Int)(a:AI),x=.int i/\y=.ref a/\SqT X.K H a (ns.map V.int)/\Q (.bl (AB (i∈ns))) H)\/∃a k kvs,x=kV k/\y=.ref a/\H a=AA (.dK kvs)/\Q (.bl (p8 kvs k).isSome) H
 |.NotIn=>λx y H Q=>(∃d es,IsD X.K H d x/\IsD X.K H (.tup es) y/\d.pure=AC/\D.pures es=AC/\l5 d<=150/\Q (.bl (!es.any λe=>deq e d)) H)\/∃a k kvs,x=kV k/\y=.ref a/\H a=AA (.dK kvs)/\Q (.bl (!(p8 kvs k).isSome)) H
 |_=>λ_ _ _ _=>False
omit [Tbs]in
theorem a71 [Tbs]{K:AO}:∀ns:List Int,IsDs K H (ns.map D.int) (ns.map V.int)
 |[]=>.nil
 |n::r=>.cons (.int n) (a71 r)
omit [Tbs]in
theorem ay6:∀ns:List Int,D.pures (ns.map D.int)=AC
 |[]=>rfl
 |n::r=>by show(AC&&D.pures (r.map D.int))=AC;rw[ay6 r];rfl
omit [Tbs]in
theorem bf4:∀ns:List Int,((ns.map D.int).any λe=>deq e (.int i))=AB (i∈ns)
 |[]=>rfl
 |n::r=>by
  have e:deq (.int n) (.int i)=AB (n=i):=by unfold deq D.py Ar;exact Fn.mpr ∎
  rw[Ah,EX,bf4 r,e];simp only[AL,Il]
  congr 1;exact decide_eq_decide.mpr ⟨IS,IS⟩
def ba5(hu:X.A.units+200<Bo):∀o:De,OpR X (Bp o) (ac5 X o)
 |.Eq=>ct2 hu
 |.NotEq=>cp0 hu
 |.Lt=>cz7
 |.LtE=>cz3
 |.Gt=>cy7
 |.GtE=>cx4
 |.In=>λpins s σ H x y v u Q I rx ry h=>by
  rcases h with h|⟨i,ns,a,rfl,rfl,sq,q⟩|⟨a,k,kvs,rfl,rfl,e,q⟩
  ·exact bj3 hu pins s σ H x y v u Q I rx ry h
  ·letI T:Tbs:=⟨[],λ_ _ _ _=>True,AC⟩
   exact @bj3 T X hu pins s σ H _ _ v u Q I rx ry ⟨.int i,ns.map D.int,.int i,IsD.mk (.inr ⟨rfl,sq⟩) (a71 ns),rfl,ay6 ns,BV _,by rw[bf4];exact q⟩
  ·cases ry;exact bs3 ⋯ I (v5.k e) rx λs' I'=>⟨.bl _,H,I',rfl,q⟩
 |.NotIn=>λpins s σ H x y v u Q I rx ry h=>by
  rcases h with h|⟨a,k,kvs,rfl,rfl,e,q⟩
  ·exact cf2 hu pins s σ H x y v u Q I rx ry h
  ·cases ry;exact a89 ⋯ I (v5.k e) rx λs' I'=>⟨.bl _,H,I',rfl,q⟩
 |.Is=>λ_ _ _ _ _ _ _ _ _ _ _ _ h=>h.elim
 |.IsNot=>λ_ _ _ _ _ _ _ _ _ _ _ _ h=>h.elim
def bc4{w:V}{d e:D}{H':Hp}{st':Sto}{Qd:DK}{Q:VK}(i1:IsD X.K H' d v)(i2:IsD X.K H' e w)(rs:RelS X.K st' H')(ht:o9 o d e st' Qd)(hq:u1 X.K st' H' Qd Q):ac5 X o v w H' Q:=by
 cases o with
 |Eq=>exact⟨d,e,i1,i2,ht.1,ht.2.1,ht.2.2.1,hq.here (.bl _) rs ht.2.2.2⟩
 |NotEq=>exact⟨d,e,i1,i2,ht.1,ht.2.1,ht.2.2.1,hq.here (.bl _) rs ht.2.2.2⟩
 |Lt=>cases d<;>cases e<;>first|exact AZ ht|exact⟨_,_,i1.int_inv,i2.int_inv,hq.here (.bl _) rs ht⟩
 |LtE=>cases d<;>cases e<;>first|exact AZ ht|exact⟨_,_,i1.int_inv,i2.int_inv,hq.here (.bl _) rs ht⟩
 |Gt=>cases d<;>cases e<;>first|exact AZ ht|exact⟨_,_,i1.int_inv,i2.int_inv,hq.here (.bl _) rs ht⟩
 |GtE=>cases d<;>cases e<;>first|exact AZ ht|exact⟨_,_,i1.int_inv,i2.int_inv,hq.here (.bl _) rs ht⟩
 |In=>
  have hd:∀(k:Key)(a:AI)(kvs:List (Key×D)),v=kV k->w=.ref a->st' a=AA (.dct kvs)->Qd (.bl (B0 kvs k).isSome) st'->ac5 X .In v w H' Q:=λk a kvs e1 e2 e3 ht=>by
   obtain⟨vs,h1,h2⟩:=rs.dct e3;refine .inr (.inr ⟨a,k,vs,e1,e2,h1,?_⟩)
   rcases h2.look k with⟨l1,l2⟩|⟨d,v,l1,l2,_⟩<;>(rw[l1]at ht;rw[l2];exact hq.here (.bl _) rs ht)
  cases e with
  |tup es=>exact .inl ⟨d,es,i1,i2,ht.1,ht.2.1,ht.2.2.1,hq.here (.bl _) rs ht.2.2.2⟩
  |ref a=>
   cases d<;>first|exact AZ ht|skip
   ·obtain⟨kvs,e,ht⟩:=ht;exact hd (.inl _) a kvs i1.int_inv i2.ref_inv e ht
   ·obtain⟨kvs,e,ht⟩:=ht;exact hd (.inr _) a kvs i1.str_inv i2.ref_inv e ht
  |ktup ns=>
   cases d<;>first|exact AZ ht|skip
   cases i2 with
   |ktup sq=>exact .inr (.inl ⟨_,ns,_,i1.int_inv,rfl,sq.elim (λz=>by rcases z with z|⟨_,z⟩<;>cases z) .inr,hq.here (.bl _) rs ht⟩)
  |_=>exact AZ (by cases d<;>exact ht)
 |NotIn=>
  have hd:∀(k:Key)(a:AI)(kvs:List (Key×D)),v=kV k->w=.ref a->st' a=AA (.dct kvs)->Qd (.bl (!(B0 kvs k).isSome)) st'->ac5 X .NotIn v w H' Q:=λk a kvs e1 e2 e3 ht=>by
   obtain⟨vs,h1,h2⟩:=rs.dct e3;refine .inr ⟨a,k,vs,e1,e2,h1,?_⟩
   rcases h2.look k with⟨l1,l2⟩|⟨d,v,l1,l2,_⟩<;>(rw[l1]at ht;rw[l2];exact hq.here (.bl _) rs ht)
  cases e with
  |tup es=>exact .inl ⟨d,es,i1,i2,ht.1,ht.2.1,ht.2.2.1,hq.here (.bl _) rs ht.2.2.2⟩
  |ref a=>
   cases d<;>first|exact AZ ht|skip
   ·obtain⟨kvs,e,ht⟩:=ht;exact hd (.inl _) a kvs i1.int_inv i2.ref_inv e ht
   ·obtain⟨kvs,e,ht⟩:=ht;exact hd (.inr _) a kvs i1.str_inv i2.ref_inv e ht
  |_=>exact AZ (by cases d<;>exact ht)
 |Is=>exact AZ ht
 |IsNot=>exact AZ ht
def Y6(o:De)(b:AQ)(h:∀es k p,b≠.Set es k p):CK o b=AE:=by
 cases b<;>first|rfl|exact absurd rfl (h _ _ _)
def cr7(hu:X.A.units+200<Bo)(ha:PE X a (up X.K ta))(hb:PE X b (up X.K tb))(hm:∀es k p,b≠.Set es k p):PE X (.Compare a [o] [b] pos) (up X.K λenv st Q=>ta env st λx st1=>tb env st1 λy st2=>o9 o x y st2 Q):=
 PE.imp (a75 (ba5 hu o) ha hb (Y6 o b hm)) λσ H Q q=>up2 (f:=o9 o) q λv w d e H' st' Qd i1 i2 rs ht hq=>bc4 i1 i2 rs ht hq
def co2(hu:X.A.units+200<Bo)(ha:PE X a (up X.K ta))(hb:PE X b (up X.K tb))(hm:∀es k p,b≠.Set es k p):
  PT X (.Compare a [o] [b] pos) (upB X.K λenv st Q=>ta env st λx st1=>tb env st1 λy st2=>o9 o x y st2 λd st'=>∃k,d=.bl k/\Q k st'):=
 PT.imp (a65 (ba5 hu o) ha hb (Y6 o b hm)) λσ H Q q=>by
  obtain⟨env,st,Qd,hE,hS,ht,hq⟩:=q;refine up2 (f:=o9 o) (Q:=λx H'=>∃k,x=.bl k/\Q k H') ⟨env,st,_,hE,hS,ht,λv d H' st' ev is rs q1=>?_⟩ λv w d e H' st' Qd i1 i2 rs ht hq=>bc4 i1 i2 rs ht hq;obtain⟨k,rfl,q1⟩:=q1;exact⟨k,is.bl_inv,hq k H' st' ev rs q1⟩
def cr9{j pos'}(ha:PE X a (up X.K ta)):PE X (.Compare a [.Is] [.Constant .none j pos'] pos) (up X.K λenv st Q=>ta env st λx st1=>(x=.non/\Q (.bl AC) st1)\/(x≠.non/\Q (.bl AE) st1)):=
 PE.imp (bc1 (bg9 ha) rfl) λσ H Q q=>up1 (f:=λx st1 Q=>(x=.non/\Q (.bl AC) st1)\/(x≠.non/\Q (.bl AE) st1)) q λv d H' st' Qd is rs ht hq=>by
  rcases ht with⟨rfl,ht⟩|⟨hn,ht⟩
  ·cases is;exact hq.here (.bl _) rs (by simpa using ht)
  ·have e:AB (v=V.non)=AE:=decide_eq_false λz=>hn (by subst z;cases is;rfl);rw[e];exact hq.here (.bl _) rs ht
def cl3{j pos'}(ha:PE X a (up X.K ta)):PE X (.Compare a [.IsNot] [.Constant .none j pos'] pos) (up X.K λenv st Q=>ta env st λx st1=>(x=.non/\Q (.bl AE) st1)\/(x≠.non/\Q (.bl AC) st1)):=
 PE.imp (bc1 (a64 ha) rfl) λσ H Q q=>up1 (f:=λx st1 Q=>(x=.non/\Q (.bl AE) st1)\/(x≠.non/\Q (.bl AC) st1)) q λv d H' st' Qd is rs ht hq=>by
  rcases ht with⟨rfl,ht⟩|⟨hn,ht⟩
  ·cases is;exact hq.here (.bl _) rs (by simpa using ht)
  ·have e:AB (v=V.non)=AE:=decide_eq_false λz=>hn (by subst z;cases is;rfl);rw[e];exact hq.here (.bl _) rs ht
def bo7{t:TE}{f:DT}(h:PT X x (tB t))(i:∀σ H Q,up X.K f σ H Q->t σ H Q):PT X x (upB X.K λenv st Q=>f env st λd st'=>∃b,d=.bl b/\Q b st'):=PT.imp h λσ H Q q=>by
 obtain⟨env,st,Qd,hE,hS,ht,hq⟩:=q;refine i σ H _ ⟨env,st,_,hE,hS,ht,λv d H' st' ev is rs q=>?_⟩;obtain⟨b,rfl,q⟩:=q;cases is;exact⟨b,rfl,hq b H' st' ev rs q⟩
def ct6{j pos'}(ha:PE X a (up X.K ta)):PT X (.Compare a [.Is] [.Constant .none j pos'] pos) (upB X.K λenv st Q=>ta env st λx st1=>(x=.non/\∃b,D.bl AC=.bl b/\Q b st1)\/(x≠.non/\∃b,D.bl AE=.bl b/\Q b st1)):=
 bo7 (f:=λenv st Q=>ta env st λx st1=>(x=.non/\Q (.bl AC) st1)\/(x≠.non/\Q (.bl AE) st1)) (bh8 (bg9 ha) rfl) λσ H Q q=>up1 (f:=λx st1 Q=>(x=.non/\Q (.bl AC) st1)\/(x≠.non/\Q (.bl AE) st1)) q λv d H' st' Qd is rs ht hq=>by
  rcases ht with⟨rfl,ht⟩|⟨hn,ht⟩
  ·cases is;exact hq.here (.bl _) rs (by simpa using ht)
  ·have e:AB (v=V.non)=AE:=decide_eq_false λz=>hn (by subst z;cases is;rfl);rw[e];exact hq.here (.bl _) rs ht
def cj1{j pos'}(ha:PE X a (up X.K ta)):PT X (.Compare a [.IsNot] [.Constant .none j pos'] pos) (upB X.K λenv st Q=>ta env st λx st1=>(x=.non/\∃b,D.bl AE=.bl b/\Q b st1)\/(x≠.non/\∃b,D.bl AC=.bl b/\Q b st1)):=
 bo7 (f:=λenv st Q=>ta env st λx st1=>(x=.non/\Q (.bl AE) st1)\/(x≠.non/\Q (.bl AC) st1)) (bh8 (a64 ha) rfl) λσ H Q q=>up1 (f:=λx st1 Q=>(x=.non/\Q (.bl AE) st1)\/(x≠.non/\Q (.bl AC) st1)) q λv d H' st' Qd is rs ht hq=>by
  rcases ht with⟨rfl,ht⟩|⟨hn,ht⟩
  ·cases is;exact hq.here (.bl _) rs (by simpa using ht)
  ·have e:AB (v=V.non)=AE:=decide_eq_false λz=>hn (by subst z;cases is;rfl);rw[e];exact hq.here (.bl _) rs ht
@[reducible]noncomputable def tst(t:DT):DB:=λenv st Q=>t env st λd st'=>∃b,d=.bl b/\Q b st'
variable {i7:List AQ}
def bf3(ha:PE X a (up X.K ta))(hb:PE X (.BoolOp .And (b::i7) pos) (up X.K tb)):PE X (.BoolOp .And (a::b::i7) pos) (up X.K λenv st Q=>ta env st λx st1=>∃c,x=.bl c/\(if c=AC then tb env st1 Q else Q (.bl AE) st1)):=
 PE.imp (cs4 ha hb) λσ H Q q=>by
  obtain⟨env,st,Qd,hE,hS,ht,hq⟩:=q;refine⟨env,st,_,hE,hS,ht,λv d H1 st1 ev is rs q1=>?_⟩;obtain⟨k,rfl,q1⟩:=q1;refine⟨k,is.bl_inv,?_⟩;cases k with
  |true=>exact⟨env,st1,Qd,hE.mono (ev.tk hS),rs,q1,hq.after ev⟩
  |false=>exact(hq.after ev).here (.bl _) rs q1
def bm9(ha:PE X a (up X.K ta))(hb:PE X (.BoolOp .Or (b::i7) pos) (up X.K tb)):PE X (.BoolOp .Or (a::b::i7) pos) (up X.K λenv st Q=>ta env st λx st1=>∃c,x=.bl c/\(if c=AC then Q (.bl AC) st1 else tb env st1 Q)):=
 PE.imp (cz5 ha hb) λσ H Q q=>by
  obtain⟨env,st,Qd,hE,hS,ht,hq⟩:=q;refine⟨env,st,_,hE,hS,ht,λv d H1 st1 ev is rs q1=>?_⟩;obtain⟨k,rfl,q1⟩:=q1;refine⟨k,is.bl_inv,?_⟩;cases k with
  |false=>exact⟨env,st1,Qd,hE.mono (ev.tk hS),rs,q1,hq.after ev⟩
  |true=>exact(hq.after ev).here (.bl _) rs q1
def co5(ha:PE X a (up X.K ta)):PE X (.UnaryOp .Not a pos) (up X.K λenv st Q=>ta env st λx st1=>∃c,x=.bl c/\Q (.bl (!c)) st1):=
 PE.imp (cp1 ha) λσ H Q q=>up1 (f:=λx st1 Q=>∃c,x=.bl c/\Q (.bl (!c)) st1) q λv d H' st' Qd is rs ht hq=>by
  obtain⟨c,rfl,ht⟩:=ht;exact⟨c,is.bl_inv,hq.here (.bl _) rs ht⟩
def bh2(ha:PT X a (upB X.K (tst ta)))(hb:PW X (.BoolOp .And (b::i7) pos) (upB X.K (tst tb))):PW X (.BoolOp .And (a::b::i7) pos) (upB X.K (tst λenv st Q=>ta env st λx st1=>∃c,x=.bl c/\(if c=AC then tb env st1 Q else Q (.bl AE) st1))):=
 PW.imp (cu8 ha hb) λσ H Q q=>by
  obtain⟨env,st,Qd,hE,hS,ht,hq⟩:=q;refine⟨env,st,λc st1=>if c=AC then tb env st1 (λd st'=>∃b,d=.bl b/\Qd b st')else ∃b,D.bl AE=.bl b/\Qd b st1,hE,hS,ht,λk H1 st1 ev rs q1=>?_⟩;cases k with
  |true=>
   rw[if_pos rfl]at q1 ⊢;exact⟨env,st1,Qd,hE.mono (ev.tk hS),rs,q1,λc H2 st2 ev2 rs2 q2=>hq c H2 st2 (ev.trans ev2) rs2 q2⟩
  |false=>
   rw[if_neg AH]at q1 ⊢;obtain⟨b,e,q1⟩:=q1;cases e;exact hq AE H1 st1 ev rs q1
def bq6(ha:PT X a (upB X.K (tst ta)))(hb:PW X (.BoolOp .Or (b::i7) pos) (upB X.K (tst tb))):PW X (.BoolOp .Or (a::b::i7) pos) (upB X.K (tst λenv st Q=>ta env st λx st1=>∃c,x=.bl c/\(if c=AC then Q (.bl AC) st1 else tb env st1 Q))):=
 PW.imp (c04 ha hb) λσ H Q q=>by
  obtain⟨env,st,Qd,hE,hS,ht,hq⟩:=q;refine⟨env,st,λc st1=>if c=AC then ∃b,D.bl AC=.bl b/\Qd b st1 else tb env st1 (λd st'=>∃b,d=.bl b/\Qd b st'),hE,hS,ht,λk H1 st1 ev rs q1=>?_⟩;cases k with
  |false=>
   rw[if_neg AH]at q1 ⊢;exact⟨env,st1,Qd,hE.mono (ev.tk hS),rs,q1,λc H2 st2 ev2 rs2 q2=>hq c H2 st2 (ev.trans ev2) rs2 q2⟩
  |true=>
   rw[if_pos rfl]at q1 ⊢;obtain⟨b,e,q1⟩:=q1;cases e;exact hq AC H1 st1 ev rs q1
def cs0(ha:PT X a (upB X.K (tst ta))):PT X (.UnaryOp .Not a pos) (upB X.K (tst λenv st Q=>ta env st λx st1=>∃c,x=.bl c/\Q (.bl (!c)) st1)):=
 PT.imp (cq6 ha) λσ H Q q=>by
  obtain⟨env,st,Qd,hE,hS,ht,hq⟩:=q;refine⟨env,st,λc st1=>∃b,D.bl (!c)=.bl b/\Qd b st1,hE,hS,ht,λk H1 st1 ev rs q1=>?_⟩;obtain⟨b,e,q1⟩:=q1;cases e;exact hq _ H1 st1 ev rs q1
def co9{t1:DT}(hc:PT X c (upB X.K (tst t1)))(ha:PE X a (up X.K ta))(hb:PE X b (up X.K tb)):PE X (.IfExp c a b pos) (up X.K λenv st Q=>t1 env st λx st1=>∃k,x=.bl k/\(if k=AC then ta env st1 Q else tb env st1 Q)):=
 PE.imp (b82 hc ha hb) λσ H Q q=>by
  obtain⟨env,st,Qd,hE,hS,ht,hq⟩:=q;refine⟨env,st,λk st1=>if k=AC then ta env st1 Qd else tb env st1 Qd,hE,hS,ht,λk H1 st1 ev rs q1=>?_⟩;cases k with
  |true=>exact⟨env,st1,Qd,hE.mono (ev.tk hS),rs,q1,hq.after ev⟩
  |false=>exact⟨env,st1,Qd,hE.mono (ev.tk hS),rs,q1,hq.after ev⟩
end
end Ek
namespace Ek
open PySem PySem.Spec PyProof.Rows L2
variable [Tbs]
variable{H:Hp}{ds:List D}{vs:List V}{f y m:Str}{fd:Ba}{ps:List Str}{sp:Spec}{es:List AQ}{n:Nat}{Ph:Str->Spec}{apos:Pos}{Ca:AI}
section
variable {X:Cx} {a b c:AQ} {ta tb tc:DT} {pos p:Pos}
def be4{K:AO}{i:Int}{d:D}(r:IsDs K H ds vs)(h:atI ds i=AA d):∃v,atI vs i=AA v/\IsD K H d v:=by
 unfold atI at h ⊢;rw[<-r.len];cases e:ixN ds.length i with
 |none=>rw[e]at h;cases h
 |some j=>
  rw[e]at h;exact r.get h
def ah0(h:∀l u s p,b≠.Slice l u s p):a78 b:=λo i=>by
 cases b<;>first|rfl|exact absurd rfl (h _ _ _ _)
abbrev c41:R2:=λx y H Q=>∃p k kvs v,x=.ref p/\y=kV k/\H p=AA (.dK kvs)/\p8 kvs k=AA v/\Q v H
def cq3(hu:X.A.units+200<Bo):IxR X c41:=by
 intro value slice pins s σ H x y v u Q I rx ry h hs;obtain⟨p,k,kvs,z,rfl,rfl,hH,hv,q⟩:=h;cases rx;have g:v5 H p (kV k) (AA z):=by rw[<-hv];exact v5.k hH
 have hT:=as3 I g;unfold Fh;refine AF ?_;rw[IE hT.not_modules];refine AF (CC hT PySem.F.slot_dict_getitem.lookup ?_);have fin:AU (model X.prog X.w) X.A (subscripted slice AE (.ref p) u) (λr s₃=>AU (model X.prog X.w) X.A (KL value (.ref p) r>>=λ_=>pure r) (EP X pins σ Q) X.xe s₃) X.xe s:=by
  rw[hs];refine Ju (av7 ⋯ I g ry λw' s3 I3 rw'=>AF (IM (AM ⟨z,H,I3,rw',q⟩)))
 first
  |exact AM (AF fin)
  |exact AF (AM (AF fin))
  |exact AF fin
def c11(hu:X.A.units+200<Bo)(ha:PE X a (up X.K ta))(hb:PE X b (up X.K tb))(hs:∀l u s p,b≠.Slice l u s p):PE X (.Subscript a b pos) (up X.K λenv st Q=>ta env st λx st1=>tb env st1 λy st2=>ixR x y st2 Q):=
 PE.imp (cx9 (ci6.or (cx0.or ((cq3 hu).or cv1))) ha hb (ah0 hs)) λσ H Q q=>up2 (f:=ixR) q λv w d e H' st' Qd i1 i2 rs ht hq=>by
  cases d<;>cases e<;>first|exact AZ ht|skip
  ·obtain⟨c,hl,e1,ht⟩:=ht;exact .inr (.inr (.inr ⟨_,_,c,i1.str_inv,i2.int_inv,hl,e1,hq.here (.str _) rs ht⟩))
  ·obtain⟨d,e1,ht⟩:=ht;obtain⟨p,vs,rfl,hq',r⟩:=i1.tup_inv;obtain⟨v',e2,is⟩:=be4 r e1;exact .inr (.inl ⟨p,vs,_,v',rfl,i2.int_inv,hq',e2,hq.here is rs ht⟩)
  ·rcases ht with⟨ds,d,hr,e1,ht⟩|⟨kvs,d,hr,e1,ht⟩
   ·obtain⟨vs,hq',r⟩:=rs.rd hr;obtain⟨v',e2,is⟩:=be4 r e1;exact .inl ⟨_,vs,_,v',i1.ref_inv,i2.int_inv,hq',e2,hq.here is rs ht⟩
   ·obtain⟨vs,hH,r⟩:=rs.dct hr
    rcases r.look (.inl _)with⟨l1,l2⟩|⟨d',v',l1,l2,is⟩
    ·rw[l1]at e1;cases e1
    ·rw[l1]at e1;cases e1;exact .inr (.inr (.inl ⟨_,.inl _,vs,v',i1.ref_inv,i2.int_inv,hH,l2,hq.here is rs ht⟩))
  ·obtain⟨kvs,d,hr,e1,ht⟩:=ht;obtain⟨vs,hH,r⟩:=rs.dct hr
   rcases r.look (.inr _)with⟨l1,l2⟩|⟨d',v',l1,l2,is⟩
   ·rw[l1]at e1;cases e1
   ·rw[l1]at e1;cases e1;exact .inr (.inr (.inl ⟨_,.inr _,vs,v',i1.ref_inv,i2.str_inv,hH,l2,hq.here is rs ht⟩))
@[reducible]noncomputable def DO:=i9->Sto->(Option Int->Sto->Prop)->Prop
abbrev upO(K:AO)(t:DO):TO:=λσ H Q=>∃env st Qd,RelE K H env σ/\RelS K st H/\t env st Qd/\∀o H' st',Ev st H st' H'->RelS K st' H'->Qd o st'->Q o H'
def _root_.L2.PO.imp{X:Cx}{x:Option AQ}{t t':TO}(h:PO X x t)(i:∀σ H Q,t' σ H Q->t σ H Q):PO X x t':=λpins s σ H Q I q=>h pins s σ H Q I (i σ H Q q)
def ch4:PO X AD (upO X.K λ_ st k=>k AD st):=PO.imp ce8 λσ H Q q=>by
 obtain⟨env,st,Qd,hE,hS,ht,hq⟩:=q;exact hq AD H st Ev.refl hS ht
def cm0(ha:PE X a (up X.K ta)):PO X (AA a) (upO X.K λenv st k=>ta env st λd st'=>∃i,d=.int i/\k (AA i) st'):=PO.imp (ch1 ha) λσ H Q q=>by
 obtain⟨env,st,Qd,hE,hS,ht,hq⟩:=q;refine⟨env,st,_,hE,hS,ht,λv d H' st' ev is rs q1=>?_⟩;obtain⟨i,rfl,q1⟩:=q1;exact⟨i,is.int_inv,hq _ H' st' ev rs q1⟩
def an0{K:AO}(r:IsDs K H ds vs)(lo hi:Option Int):IsDs K H (r9 ds lo hi) (M9 vs lo hi):=by
 unfold r9 M9;rw[r.len];exact(r.drop _).take _
def cy2{lo hi:Option AQ}{tl th:DO}{p2:Pos}(ha:PE X a (up X.K ta))(hl:PO X lo (upO X.K tl))(hh:PO X hi (upO X.K th)):
  PE X (.Subscript a (.Slice lo hi AD p2) pos) (up X.K λenv st Q=>ta env st λx st1=>tl env st1 λl st2=>th env st2 λh st3=>slR x l h st3 Q):=
 PE.imp (az2 (bb4.or cg3) ha hl hh) λσ H Q q=>by
  obtain⟨env,st,Qd,hE,hS,ht,hq⟩:=q;refine⟨env,st,_,hE,hS,ht,λv d H1 st1 ev1 is1 rs1 q1=>⟨env,st1,_,hE.mono (ev1.tk hS),rs1,q1,λl H2 st2 ev2 rs2 q2=>⟨env,st2,_,(hE.mono (ev1.tk hS)).mono (ev2.tk rs1),rs2,q2,λh H3 st3 ev3 rs3 q3=>?_⟩⟩⟩;have is3:=(is1.mono (ev2.tk rs1)).mono (ev3.tk rs2);have hq3:=((hq.after ev1).after ev2).after ev3;cases d<;>first|exact AZ q3|skip
  ·obtain⟨p,vs,rfl,hs,r⟩:=is3.tup_inv;exact .inl ⟨p,vs,rfl,hs,by rw[<-r.len];exact q3.1,hq3.newT rs3 (an0 r l h) q3.2⟩
  ·obtain⟨ds,hr,q3⟩:=q3;obtain⟨vs,hs,r⟩:=rs3.rd hr;exact .inr ⟨_,vs,is3.ref_inv,hs,hq3.newL rs3 (an0 r l h) q3⟩
def G9(ha:PE X a (up X.K ta))(h:∀e p,a≠.Starred e p):PA X [a] (upA X.K 1 λenv st Q=>ta env st λd st1=>Q [d] st1):=Q5 ha bc9 h
def ab3{id:String}{r:List V->Hp->VK->Prop}{g:D->Sto->DK->Prop}(hc:D5 X (.builtin id) r)(hg:Gl X f)(hm:X.mg f=AD)(hv:BA f=AA (.builtin id))(ha:PE X a (up X.K ta))(hs:∀e p,a≠.Starred e p)
  (imp:∀v d H' st' Qd Q,IsD X.K H' d v->RelS X.K st' H'->g d st' Qd->u1 X.K st' H' Qd Q->r [v] H' Q) (hn:f≠"__name__") (hdb:(f==("__debug__":Str))=AE) :
  PE X (.Call (.Name f p) [a] [] pos) (up X.K λenv st Q=>ta env st λx st1=>g x st1 Q):=
 PE.imp (aj4 hc hg hm hv (G9 ha hs) hn hdb (o0 hs) rfl) λσ H Q q=>by
  obtain⟨env,st,Qd,hE,hS,ht,hq⟩:=q;refine⟨env,st,(λds st1=>match ds with|[d]=>g d st1 Qd|_=>False),hE,hS,ht,λvs ds H' st' ev is hl rs q1=>?_⟩
  match ds,hl with
  |[d],_=>
   obtain⟨v,ws,rfl,i1,i2⟩:=is.inv_cons;rw[i2.inv_nil];exact imp v d H' st' Qd Q i1 rs q1 (hq.after ev)
def ao2{T:String}{r:List V->Hp->VK->Prop}{g:D->Sto->DK->Prop}(hc:D5 X (.type T) r)(hg:Gl X f)(hm:X.mg f=AD)(hv:BA f=AA (.type T))(ha:PE X a (up X.K ta))(hs:∀e p,a≠.Starred e p)
  (imp:∀v d H' st' Qd Q,IsD X.K H' d v->RelS X.K st' H'->g d st' Qd->u1 X.K st' H' Qd Q->r [v] H' Q) (hn:f≠"__name__") (hdb:(f==("__debug__":Str))=AE) :
  PE X (.Call (.Name f p) [a] [] pos) (up X.K λenv st Q=>ta env st λx st1=>g x st1 Q):=
 PE.imp (b24 hc hg hm hv (G9 ha hs) hn hdb (o0 hs) rfl) λσ H Q q=>by
  obtain⟨env,st,Qd,hE,hS,ht,hq⟩:=q;refine⟨env,st,(λds st1=>match ds with|[d]=>g d st1 Qd|_=>False),hE,hS,ht,λvs ds H' st' ev is hl rs q1=>?_⟩
  match ds,hl with
  |[d],_=>
   obtain⟨v,ws,rfl,i1,i2⟩:=is.inv_cons;rw[i2.inv_nil];exact imp v d H' st' Qd Q i1 rs q1 (hq.after ev)
def cc4:BA "abs"=AA (.builtin "abs"):=by decide+kernel
def b92:BA "max"=AA (.builtin "max"):=by decide+kernel
def b94:BA "sum"=AA (.builtin "sum"):=by decide+kernel
def bx9:BA "isinstance"=AA (.builtin "isinstance"):=by decide+kernel
def b68:BA "int"=AA (.type "int"):=by decide+kernel
def bz3:BA "list"=AA (.type "list"):=by decide+kernel
def by0:BA "tuple"=AA (.type "tuple"):=by decide+kernel
def co7(hg:Gl X "len")(hm:X.mg "len"=AD)(ha:PE X a (up X.K ta))(hs:∀e p,a≠.Starred e p):PE X (.Call (.Name "len" p) [a] [] pos) (up X.K λenv st Q=>ta env st λx st1=>O8 x st1 Q):=
 ab3 bx0 hg hm PySem.boot_len ha hs (λv d H' st' Qd Q is rs ht hq=>by
  cases d<;>first|exact AZ ht|skip
  ·obtain⟨p,vs,rfl,hs,r⟩:=is.tup_inv;exact⟨p,vs,rfl,.inr hs,by rw[<-r.len];exact hq.here (.int _) rs ht⟩
  ·obtain⟨ds,hr,ht⟩:=ht;obtain⟨vs,hs,r⟩:=rs.rd hr;exact⟨_,vs,by rw[is.ref_inv],.inl hs,by rw[<-r.len];exact hq.here (.int _) rs ht⟩) ∅ ∅
def cv2(hg:Gl X "abs")(hm:X.mg "abs"=AD)(ha:PE X a (up X.K ta))(hs:∀e p,a≠.Starred e p):PE X (.Call (.Name "abs" p) [a] [] pos) (up X.K λenv st Q=>ta env st λx st1=>∃i,x=.int i/\Q (.int (if i<0 then -i else i)) st1):=
 ab3 (g:=λx st1 Q=>∃i,x=.int i/\Q (.int (if i<0 then -i else i)) st1) b75 hg hm cc4 ha hs (λv d H' st' Qd Q is rs ht hq=>by
  obtain⟨i,rfl,ht⟩:=ht;exact⟨i,by rw[is.int_inv],hq.here (.int _) rs ht⟩) ∅ ∅
def b96(hg:Gl X "int")(hm:X.mg "int"=AD)(ha:PE X a (up X.K ta))(hs:∀e p,a≠.Starred e p):PE X (.Call (.Name "int" p) [a] [] pos) (up X.K λenv st Q=>ta env st λx st1=>V9 x st1 Q):=
 ao2 b55 hg hm b68 ha hs (λv d H' st' Qd Q is rs ht hq=>by
  cases d<;>first|exact AZ ht|skip
  ·exact .inr ⟨_,by rw[is.bl_inv],hq.here (.int _) rs ht⟩
  ·exact .inl ⟨_,by rw[is.int_inv],hq.here (.int _) rs ht⟩) ∅ ∅
def cw0(hc:X.calm=AC)(hg:Gl X "sum")(hm:X.mg "sum"=AD)(ha:PE X a (up X.K ta))(hs:∀e p,a≠.Starred e p):PE X (.Call (.Name "sum" p) [a] [] pos) (up X.K λenv st Q=>ta env st λx st1=>ac0 x st1 Q):=
 ab3 (b56 hc) hg hm b94 ha hs (λv d H' st' Qd Q is rs ht hq=>by
  cases d<;>first|exact AZ ht|skip
  obtain⟨ns,hr,ht⟩:=ht;obtain⟨vs,hs,r⟩:=rs.rd hr;exact⟨_,ns,by rw[is.ref_inv],by rw[<-r.ints];exact hs,hq.here (.int _) rs ht⟩) ∅ ∅
def cl2(hg:Gl X "list")(hm:X.mg "list"=AD)(ha:PE X a (up X.K ta))(hs:∀e p,a≠.Starred e p):PE X (.Call (.Name "list" p) [a] [] pos) (up X.K λenv st Q=>ta env st λx st1=>aa9 x st1 Q):=
 ao2 bx6 hg hm bz3 ha hs (λv d H' st' Qd Q is rs ht hq=>by
  cases d<;>first|exact AZ ht|skip
  ·obtain⟨p,vs,rfl,hs,r⟩:=is.tup_inv;exact⟨p,vs,rfl,.inr hs,hq.newL rs r ht⟩
  ·obtain⟨ds,hr,ht⟩:=ht;obtain⟨vs,hs,r⟩:=rs.rd hr;exact⟨_,vs,by rw[is.ref_inv],.inl hs,hq.newL rs r ht⟩) ∅ ∅
def b66(hg:Gl X "tuple")(hm:X.mg "tuple"=AD)(ha:PE X a (up X.K ta))(hs:∀e p,a≠.Starred e p):PE X (.Call (.Name "tuple" p) [a] [] pos) (up X.K λenv st Q=>ta env st λx st1=>Q6 x st1 Q):=
 ao2 bw9 hg hm by0 ha hs (λv d H' st' Qd Q is rs ht hq=>by
  cases d<;>first|exact AZ ht|skip
  ·obtain⟨p,vs,rfl,hs,r⟩:=is.tup_inv;exact⟨p,vs,rfl,.inr ⟨hs,hq.here is rs ht⟩⟩
  ·obtain⟨ds,hr,ht⟩:=ht;obtain⟨vs,hs,r⟩:=rs.rd hr;exact⟨_,vs,by rw[is.ref_inv],.inl ⟨hs,hq.newT rs r ht⟩⟩) ∅ ∅
def bj2(ha:PE X a (up X.K ta))(hb:PE X b (up X.K tb))(h:∀e p,a≠.Starred e p)(h':∀e p,b≠.Starred e p):PA X [a,b] (upA X.K 2 λenv st Q=>ta env st λd st1=>tb env st1 λe st2=>Q [d,e] st2):=Q5 ha (G9 hb h') h
def cr4(hc:X.calm=AC)(hg:Gl X "max")(hm:X.mg "max"=AD)(ha:PE X a (up X.K ta))(hb:PE X b (up X.K tb))(hs:∀e p,a≠.Starred e p)(hs':∀e p,b≠.Starred e p):
  PE X (.Call (.Name "max" p) [a,b] [] pos) (up X.K λenv st Q=>ta env st λx st1=>tb env st1 λy st2=>∃i j,x=.int i/\y=.int j/\Q (.int (if j>i then j else i)) st2):=
 PE.imp (aj4 (b29 hc) hg hm b92 (bj2 ha hb hs hs') ∅ ∅ (o0 hs) (by rw[o0 hs'];rfl)) λσ H Q q=>by
  obtain⟨env,st,Qd,hE,hS,ht,hq⟩:=q;refine⟨env,st,(λds st1=>match ds with|[x,y]=>∃i j,x=.int i/\y=.int j/\Qd (.int (if j>i then j else i)) st1|_=>False),hE,hS,ht,λvs ds H' st' ev is hl rs q1=>?_⟩
  match ds,hl with
  |[d,e],_=>
   obtain⟨v,ws,rfl,i1,i2⟩:=is.inv_cons;obtain⟨w,ws',rfl,i3,i4⟩:=i2.inv_cons;rw[i4.inv_nil];obtain⟨i,j,rfl,rfl,q1⟩:=q1;exact⟨i,j,by rw[i1.int_inv,i3.int_inv],(hq.after ev).here (.int _) rs q1⟩
abbrev L4:List String:=["tuple","int","bool","str","list"]
def bi4(K:AO):∀t∈L4,∀ty∈["NoneType","bool","int","str","tuple","list"],EI K (.type ty) (.type t)=AA (ty==t||(ty=="bool"&&t=="int")):=by
 intro t ht ty hty;simp only[L4,AL,AW,or_false]at ht hty
 rcases ht with rfl|rfl|rfl|rfl|rfl<;>rcases hty with rfl|rfl|rfl|rfl|rfl|rfl<;>first|rfl|(unfold EI;rfl)|(unfold EI;first|(rw[if_pos ∅];rfl)|(rw[if_neg ∅];decide+kernel))
def cn0{p2:Pos}{t:String}(hin:t∈L4)(hg:Gl X "isinstance")(hm:X.mg "isinstance"=AD)(hg2:Gl X f)(hm2:X.mg f=AD)(hboot:BA f=AA (.type t))(hn:f≠"__name__")(hdb:(f==("__debug__":Str))=AE)(ha:PE X a (up X.K ta))(hs:∀e p,a≠.Starred e p):
  PE X (.Call (.Name "isinstance" p) [a,.Name f p2] [] pos) (up X.K λenv st Q=>ta env st λx st1=>ab2 t x st1 Q):=by
 intro pins s σ H Q I q;obtain⟨env,st,Qd,hE,hS,ht,hq⟩:=q;have arg:PA X [a,.Name f p2] (ap1 (up X.K ta) (ap1 (tC (.ty t)) aq8)):=am1 ha (am1 (ce3 (v:=.ty t) hg2 hm2 hboot rfl hn hdb) bd7 rfl) (o0 hs);refine aj4 (r:=λvs H Q=>(∃x ty b,vs=[x,.ty t]/\TyOf X.K H x ty/\EI X.K ty (.type t)=AA b/\Q (.bl b) H)\/∃q' xs b,vs=[.ref q',.ty t]/\SqT X.K H q' xs/\EI X.K (.type "tuple") (.type t)=AA b/\Q (.bl b) H) ?_ hg hm bx9 arg ∅ ∅ (o0 hs) rfl pins s σ H Q I ?_
 ·intro pins s σ H vs us Q I r h
  rcases h with⟨x,ty,b,rfl,h1,h2,q⟩|⟨q',xs,b,rfl,h1,h2,q⟩
  ·obtain⟨u,v,rfl,ru,rv⟩:=r.two;cases rv;exact b54 I ru h1 h2 λtk=>⟨.bl b,H,I.tok _,rfl,q⟩
  ·obtain⟨u,v,rfl,ru,rv⟩:=r.two;cases rv;cases ru;obtain⟨its,_,⟨o,e1,e2,_⟩,_⟩:=I.tupleD h1;exact CV KF I.kIn ⟨o,e1,e2⟩ h2 (λz=>nomatch z) λtk=>⟨.bl b,H,I.tok _,rfl,q⟩
 ·refine⟨env,st,_,hE,hS,ht,λv d H' st' ev is rs q1=>?_⟩;have fin:∀ty:String,ty∈["NoneType","bool","int","str","tuple","list"]->TyOf X.K H' v (.type ty)->Qd (.bl (ty==t||(ty=="bool"&&t=="int"))) st'->(∃x ty b,[v,V.ty t]=[x,.ty t]/\TyOf X.K H' x ty/\EI X.K ty (.type t)=AA b/\Q (.bl b) H')\/∃q' xs b,[v,V.ty t]=[.ref q',.ty t]/\SqT X.K H' q' xs/\EI X.K (.type "tuple") (.type t)=AA b/\Q (.bl b) H':=λty hty h1 h2=>.inl ⟨v,.type ty,_,rfl,h1,bi4 X.K t hin ty hty,(hq.after ev).here (.bl _) rs h2⟩
  rcases q1 with⟨ty,e,q1⟩|⟨b,ds,rfl,hr,q1⟩
  ·cases d<;>first|(simp[tyD]at e;done)|skip
   all_goals (simp only[tyD,Bs]at e;subst e)
   ·cases is;exact fin "NoneType" ∎ .non q1
   ·cases is;exact fin "bool" ∎ (.bl _) q1
   ·cases is;exact fin "int" ∎ (.int _) q1
   ·cases is;exact fin "str" ∎ (.str _) q1
   ·obtain⟨q',vs,rfl,hq',r⟩:=is.tup_inv;exact .inr ⟨q',vs,_,rfl,hq',bi4 X.K t hin "tuple" ∎,(hq.after ev).here (.bl _) rs q1⟩
  ·obtain⟨vs,hs',r⟩:=rs.rdR hr;rw[is.ref_inv];have q2:Qd (.bl ("list"==t||("list"=="bool"&&t=="int"))) st':=by
    have e:("list"==t||("list"=="bool"&&t=="int"))=(t=="list"):=by simp only[L4,AL,AW,or_false]at hin;rcases hin with rfl|rfl|rfl|rfl|rfl<;>decide
    rw[e];exact q1
   rw[is.ref_inv]at fin
   rcases hs' with h|⟨o,h⟩
   ·exact fin "list" ∎ (.lst h) q2
   ·exact fin "list" ∎ (.frz h) q2
abbrev z8(K:AO)(sp:Spec):Sp:=λvs H Q _=>∃ds st Qd,IsDs K H ds vs/\RelS K st H/\sp ds st Qd/\u1 K st H Qd Q
def ci3{f:Str}{k:Nat}{fa:AI}{t:DA}(F:FnOk X.prog X.w X.K X.mg X.base CX0 k fa fd ps (z8 X.K sp))(hr:Room k X.A)(hg:Gl X f)(hm:X.mg f=AA (.ref fa))(hk:Bj X.K (.ref fa)=AC)
  (hb:t6 X.K fd ps []) (ha:PA X (a::es) (upA X.K n t)) (hdb:(f==("__debug__":Str))=AE) (hs:∀e p,a≠.Starred e p) (hpl:(Bq pos (Am es X.env)).any (·.1)=AE) :
  PE X (.Call (.Name f p) (a::es) [] pos) (up X.K λenv st Q=>t env st λds st1=>sp ds st1 Q):=
 PE.imp (ci5 F hr hg hm hk hb .nil J4 ha hdb (o0 hs) hpl) λσ H Q q=>aq0 (f:=sp) q λvs ds H' st' Qd is hl rs ht hq=>⟨ds,st',Qd,by rw[BJ];exact is,rs,ht,hq⟩
def c14{fa:AI}(hg:Gl X f)(hm:X.mg f=AA (.ref fa))(hns:Ax X.K AN f=AA (AA (.ref fa)))(hdb:(f==("__debug__":Str))=AE):PE X (.Name f p) (up X.K λ_ st Q=>Q (.fn f) st):=
 PE.imp (a83 (v:=.ref fa) hg hm rfl hdb) λσ H Q q=>by
  obtain⟨env,st,Qd,hE,hS,ht,hq⟩:=q;exact hq.here (.fn hns) hS ht
abbrev W7(K:AO)(f:AI)(fd:Ba)(np:Nat)(N:List Str)(cs:List D)(sp:Spec):Sp:=λvs H Q _=>∃us ds st Qd,CloR H f fd np N us/\IsDs K H cs us/\IsDs K H ds vs/\RelS K st H/\sp ds st Qd/\u1 K st H Qd Q
def CloR.fnAt{f:AI}{np:Nat}{N:List Str}{us:List V}(h:CloR H f fd np N us)(I:Inv X pins σ H s):W.FnAt f s.heap:=by
 obtain⟨o,u,e1,_,e3⟩:=h.ex;obtain⟨h1,_⟩:=I.hok f _ e1;obtain⟨oc,od,da,sl⟩:=o;have e3':da=.func fd:=e3;subst e3';exact⟨oc,od,fd,sl,h1⟩
def b83{i:Nat}{x:Str}{t:DA}{Z:Sg}(hN:X.N[i]?=AA x)(hv:Vis X.env.scope x)(hd:(x==("__debug__":Str))=AE)(hcd:(x==("__classdict__":Str))=AE)
  (hF:∀f fa,Z.F f=AC->Ax X.K AN f=AA (AA (.ref fa))->∃k fd ps,FnOk X.prog X.w X.K X.mg X.base CX0 k fa fd ps (z8 X.K (Z.Phi f))/\Room k X.A/\Bj X.K (.ref fa)=AC/\t6 X.K fd ps [])
  (hC:∀np N b cs fa fd ps,CloF fd np N ps b->∃k,FnOk X.prog X.w X.K X.mg X.base CX0 k fa fd ps (W7 X.K fa fd np N cs (Z.PhiC np N b cs))/\Room k X.A)
  (ha:PA X (a::es) (upA X.K n t)) (hs:∀e p,a≠.Starred e p) (hpl:(Bq pos (Am es X.env)).any (·.1)=AE) :
  PE X (.Call (.Name x p) (a::es) [] pos) (up X.K λenv st Q=>∃x,env[i]?=AA (AA x)/\S6 Z (t env) st Q x):=by
 intro pins s σ H Q I q;obtain⟨env,st,Qd,hE,hS,⟨d,he,hc⟩,hq⟩:=q;obtain⟨v,hv1,isv⟩:=hE.at' i _ he;cases d with
 |fn f=>
  obtain⟨hf,ht⟩:Z.F f=AC/\t env st λds st1=>Z.Phi f ds st1 Qd:=hc;obtain⟨fa,rfl,hns⟩:∃fa,v=.ref fa/\Ax X.K AN f=AA (AA (.ref fa)):=by cases isv with|fn h=>exact⟨_,rfl,h⟩
  obtain⟨k,fd,ps,Fo,hr,hk,hb⟩:=hF f fa hf hns;refine Bz (thn (am9 hN hv hd hcd pins s σ H (λv H1=>v=.ref fa/\H1=H) I ⟨_,hv1,rfl,rfl⟩) λu s1 z36=>?_);obtain⟨v,H1,I1,r1,e1,e2⟩:=z36;subst e1 e2;cases r1;refine Dc (h₀:=X.base) I1.ok.mod.kin hk (thn (ha pos pins s1 σ H1 (λvs H2=>∃ds st1,Ev st H1 st1 H2/\IsDs X.K H2 ds vs/\RelS X.K st1 H2/\Z.Phi f ds st1 Qd) I1 ⟨env,st,_,hE,hS,ht,λvs ds H' st' ev is hl rs q=>⟨ds,st',ev,is,rs,q⟩⟩) λus s2⟨vs,H2,I2,r,ds,st1,ev,is,rs,q⟩=>⟨I2.kIn,?_⟩) (o0 hs) hpl;exact N9 Fo hr hb .nil J4 I2 r ⟨ds,st1,Qd,by rw[BJ];exact is,rs,q,hq.after ev⟩
 |clo np N b cs=>
  have ht:t env st λds st1=>Z.PhiC np N b cs ds st1 Qd:=hc;obtain⟨fa,us0,rfl,ca,ics⟩:∃fa us,v=.ref fa/\W5 H fa np N b us/\IsDs X.K H cs us:=by cases isv with|clo h1 h2 h3=>exact⟨_,_,rfl,h1,h2,h3⟩
  obtain⟨fd,ps,cf,cr⟩:=ca;obtain⟨k,Fo,hr⟩:=hC np N b cs fa fd ps cf;refine Bz (thn (am9 hN hv hd hcd pins s σ H (λv H1=>v=.ref fa/\H1=H) I ⟨_,hv1,rfl,rfl⟩) λu s1 z37=>?_);obtain⟨v,H1,I1,r1,e1,e2⟩:=z37;subst e1 e2;cases r1;refine W.callWith_F (cr.fnAt I1) (thn (ha pos pins s1 σ H1 (λvs H2=>∃ds st1,Ev st H1 st1 H2/\IsDs X.K H2 ds vs/\RelS X.K st1 H2/\Z.PhiC np N b cs ds st1 Qd) I1 ⟨env,st,_,hE,hS,ht,λvs ds H' st' ev is hl rs q=>⟨ds,st',ev,is,rs,q⟩⟩) λus s2⟨vs,H2,I2,r,ds,st1,ev,is,rs,q⟩=>⟨(cr.mono (K:=X.K) (ev.tk hS)).fnAt I2,?_⟩) (o0 hs) hpl;exact N9 Fo hr (.all cf.bind) .nil J4 I2 r ⟨us0,ds,st1,Qd,cr.mono (K:=X.K) (ev.tk hS),ics.mono (ev.tk hS),by rw[BJ];exact is,rs,q,hq.after ev⟩
 |_=>exact(hc:False).elim
def b64{ca cb:AQ}{cp:Pos}{t:DA}{tf:DT}{F:Str->Bool}(hf:PE X (.Subscript ca cb cp) (up X.K tf))
  (hF:∀f fa,F f=AC->Ax X.K AN f=AA (AA (.ref fa))->∃k fd ps,FnOk X.prog X.w X.K X.mg X.base CX0 k fa fd ps (z8 X.K (Ph f))/\Room k X.A/\Bj X.K (.ref fa)=AC/\t6 X.K fd ps [])
  (ha:PA X (a::es) (upA X.K n t)) (hs:∀e p,a≠.Starred e p) (hpl:(Bq pos (Am es X.env)).any (·.1)=AE) :
  PE X (.Call (.Subscript ca cb cp) (a::es) [] pos) (up X.K λenv st Q=>tf env st λx st1=>∃f,x=.fn f/\F f=AC/\t env st1 λds st2=>Ph f ds st2 Q):=by
 intro pins s σ H Q I q;obtain⟨env,st,Qd,hE,hS,ht,hq⟩:=q;have e:eval (.Call (.Subscript ca cb cp) (a::es) [] pos) X.env=(do
  callWith pos (<-eval (.Subscript ca cb cp) X.env) [] (Bq pos (Am (a::es) X.env)) (EW pos (Cw [] X.env))):=rfl
 rw[e];refine AF (thn (hf pins s σ H (λv H1=>∃d st1,Ev st H st1 H1/\IsD X.K H1 d v/\RelS X.K st1 H1/\∃f,d=.fn f/\F f=AC/\t env st1 λds st2=>Ph f ds st2 Qd) I ⟨env,st,_,hE,hS,ht,λv d H' st' ev is rs q=>⟨d,st',ev,is,rs,q⟩⟩) λu s1 z38=>?_);obtain⟨v,H1,I1,r1,d,st1,ev1,isd,rs1,f,e1,hf1,ht1⟩:=z38;subst e1;obtain⟨fa,rfl,hns⟩:∃fa,v=.ref fa/\Ax X.K AN f=AA (AA (.ref fa)):=by cases isd with|fn h=>exact⟨_,rfl,h⟩
 obtain⟨k,fd,ps,Fo,hr,hk,hb⟩:=hF f fa hf1 hns;cases r1;refine Dc (h₀:=X.base) I1.ok.mod.kin hk (thn (ha pos pins s1 σ H1 (λvs H2=>∃ds st2,Ev st1 H1 st2 H2/\IsDs X.K H2 ds vs/\RelS X.K st2 H2/\Ph f ds st2 Qd) I1 ⟨env,st1,_,hE.mono (ev1.tk hS),rs1,ht1,λvs ds H' st' ev is hl rs q=>⟨ds,st',ev,is,rs,q⟩⟩) λus s2⟨vs,H2,I2,r,ds,st2,ev,is,rs,q⟩=>⟨I2.kIn,?_⟩) (o0 hs) hpl;exact N9 Fo hr hb .nil J4 I2 r ⟨ds,st2,Qd,by rw[BJ];exact is,rs,q,hq.after (ev1.trans ev)⟩
def D2{o:AQ}{nm:Str}{env:Env}{w:Sem AG}(h:∀i p p',o≠.Call (.Name i p) [] [] p'):Cb o nm env w=w:=by
 unfold Cb
 split
 ·exact absurd rfl (h _ _ _)
 ·rfl
def cr1{f:Str}{C:Str->List Str}(hC:∀c Ca,Ax X.K AN c=AA (AA (.ref Ca))->f∈C c->Cls X.K Ca/\F7 X.K Ca f)(ha:PE X a (up X.K ta))(hbase:Cb a f X.env (eval a X.env)=eval a X.env):
  PE X (.Attribute a f pos) (up X.K λenv st Q=>ta env st λx st1=>∃p c fs d,x=.ref p/\st1 p=AA (.ins c fs)/\f∈C c/\fs.lookup f=AA d/\Q d st1):=
 PE.imp (cn9 ha hbase) λσ H Q q=>up1 (f:=λx st1 Q=>∃p c fs d,x=.ref p/\st1 p=AA (.ins c fs)/\f∈C c/\fs.lookup f=AA d/\Q d st1) q λv d H' st' Qd is rs ht hq=>by
  obtain⟨p,c,fs,e,rfl,hs,hf,hl,ht⟩:=ht;obtain⟨Ca,dx,vs,hH,hn,r⟩:=rs.ins hs;obtain⟨c1,c2⟩:=hC c Ca hn hf
  rcases r.look f with⟨l1,_⟩|⟨d',v',l1,l2,is'⟩
  ·rw[l1]at hl;cases hl
  ·rw[l1]at hl;cases hl;exact⟨p,Ca,dx,vs,v',is.ref_inv,hH,c1,c2,l2,hq.here is' rs ht⟩
def al5{py pos:Pos}{args:List AQ}{env:Env}(hfew:Dz (args.length+0) (Bq pos (Am args env)) (EW pos (Cw [] env))=AC)(hline:(apos.endLine==pos.line)=AC):
  eval (.Call (.Attribute (.Name y py) m apos) args [] pos) env=(do
   let ov <-eval (.Name y py) env
   Gj apos.atName
   let(f,first) <-holding [ov] (Jc ov m (do return (<-importBound (.Name y py) env).getD AC))
   callWith pos f first (Bq pos (Am args env)) (EW pos (Cw [] env))):=by
 rw[arm_eval_Call,D2 (by intros;exact nofun)]
 congr 1
 funext ov
 congr 1
 funext _
 unfold methodCall;simp only[BH]at hfew ⊢;rw[hfew];unfold methodCallPos calleeOf;simp only[hline,Dn,Ew,if_true];rfl
def cg2{py:Pos}{t:DA}{F:Str->Bool}
  (hM:∀c Ca,Ax X.K AN c=AA (AA (.ref Ca))->F (c7 c m)=AC->∃k f fd ps,Cls X.K Ca/\Meth X.K Ca m f/\FnOk X.prog X.w X.K X.mg X.base CX0 k f fd ps (z8 X.K (Ph (c7 c m)))/\Room k X.A/\t6 X.K fd ps [])
  (hfew:Dz ((a::es).length+0) (Bq pos (Am (a::es) X.env)) (EW pos (Cw [] X.env))=AC) (hline:(apos.endLine==pos.line)=AC) (ho:PE X (.Name y py) (up X.K ta)) (ha:PA X (a::es) (upA X.K n t)) (hs:∀e p,a≠.Starred e p) (hpl:(Bq pos (Am es X.env)).any (·.1)=AE) :
  PE X (.Call (.Attribute (.Name y py) m apos) (a::es) [] pos) (up X.K λenv st Q=>ta env st λx st1=>∃p c fs,x=.ref p/\st1 p=AA (.ins c fs)/\fs.lookup m=AD/\F (c7 c m)=AC/\t env st1 λds st2=>Ph (c7 c m) (.ref p::ds) st2 Q):=by
 intro pins s σ H Q I q;obtain⟨env,st,Qd,hE,hS,ht,hq⟩:=q;refine GT (thn (ho pins s σ H (λv H1=>∃p c fs st1,v=.ref p/\Ev st H st1 H1/\RelS X.K st1 H1/\st1 p=AA (.ins c fs)/\fs.lookup m=AD/\F (c7 c m)=AC/\t env st1 λds st2=>Ph (c7 c m) (.ref p::ds) st2 Qd) I ⟨env,st,_,hE,hS,ht,λv d H1 st1 ev is rs q1=>?_⟩) λu s1 z39=>?_) (al5 hfew hline)
 ·obtain⟨p,c,fs,rfl,q1⟩:=q1;exact⟨p,c,fs,st1,is.ref_inv,ev,rs,q1⟩
 obtain⟨v,H1,I1,rx,p,c,fs,st1,ev,e1,rs,h1,h2,h3,h4⟩:=z39;subst ev;cases rx;obtain⟨Ca,dx,vs,hH,hn,r⟩:=rs.ins h1;obtain⟨k,f,fd,ps,cl,me,Fo,hr,hb⟩:=hM c Ca hn h3;have hl:vs.lookup m=AD:=by
  rcases r.look m with⟨_,l2⟩|⟨d',v',l1,_,_⟩
  ·exact l2
  ·rw[h2]at l1;cases l1
 refine ah3 I1 hH cl me hl ?_;refine Dc (first:=[.ref p]) (h₀:=X.base) I.ok.mod.kin me.kp (thn (ha pos pins s1 σ H1 (λvs H2=>∃ds st2,Ev st1 H1 st2 H2/\IsDs X.K H2 ds vs/\RelS X.K st2 H2/\Ph (c7 c m) (.ref p::ds) st2 Qd) I1 ⟨env,st1,_,hE.mono (e1.tk hS),rs,h4,λvs ds H' st' ev is hl rs q=>⟨ds,st',ev,is,rs,q⟩⟩) λus s2⟨vs,H2,I2,r2,ds,st2,ev2,is2,rs2,q2⟩=>⟨I2.kIn,?_⟩) (o0 hs) hpl;exact N9 (us:=.ref p::us) (vs:=.ref p::vs) Fo hr hb .nil J4 I2 (.cons rfl r2) ⟨.ref p::ds,st2,Qd,by rw[BJ];exact .cons (.ref p) is2,rs2,q2,(hq.after e1).after ev2⟩
def cd3{C:Str->List Str}{py:Pos}{t:DA}{F:Str->Bool}
  (hM:∀c Ca i,Ax X.K AN c=AA (AA (.ref Ca))->F (c7 c m)=AC->B3 C (c7 c m)=AA i->∃k f fd ps tk,Cls X.K Ca/\Meth X.K Ca m f/\FnOk X.prog X.w X.K X.mg X.base CX0 k f fd ps (z8 X.K (Ph (c7 c m)))/\Room k X.A/\t6 X.K fd ps [.int i tk])
  (hfew:Dz ((a::es).length+0) (Bq pos (Am (a::es) X.env)) (EW pos (Cw [] X.env))=AC) (hline:(apos.endLine==pos.line)=AC) (ho:PE X (.Name y py) (up X.K ta)) (ha:PA X (a::es) (upA X.K n t)) (hs:∀e p,a≠.Starred e p) (hpl:(Bq pos (Am es X.env)).any (·.1)=AE) :
  PE X (.Call (.Attribute (.Name y py) m apos) (a::es) [] pos) (up X.K λenv st Q=>ta env st λx st1=>∃p c fs i,x=.ref p/\st1 p=AA (.ins c fs)/\fs.lookup m=AD/\F (c7 c m)=AC/\B3 C (c7 c m)=AA i/\t env st1 λds st2=>Ph (c7 c m) (.ref p::(ds++[.int i])) st2 Q):=by
 intro pins s σ H Q I q;obtain⟨env,st,Qd,hE,hS,ht,hq⟩:=q;refine GT (thn (ho pins s σ H (λv H1=>∃p c fs i st1,v=.ref p/\Ev st H st1 H1/\RelS X.K st1 H1/\st1 p=AA (.ins c fs)/\fs.lookup m=AD/\F (c7 c m)=AC/\B3 C (c7 c m)=AA i/\t env st1 λds st2=>Ph (c7 c m) (.ref p::(ds++[.int i])) st2 Qd) I ⟨env,st,_,hE,hS,ht,λv d H1 st1 ev is rs q1=>?_⟩) λu s1 z40=>?_) (al5 hfew hline)
 ·obtain⟨p,c,fs,i,rfl,q1⟩:=q1;exact⟨p,c,fs,i,st1,is.ref_inv,ev,rs,q1⟩
 obtain⟨v,H1,I1,rx,p,c,fs,i,st1,ev,e1,rs,h1,h2,h3,h5,h4⟩:=z40;subst ev;cases rx;obtain⟨Ca,dx,vs,hH,hn,r⟩:=rs.ins h1;obtain⟨k,f,fd,ps,tk,cl,me,Fo,hr,hb⟩:=hM c Ca i hn h3 h5;have hl:vs.lookup m=AD:=by
  rcases r.look m with⟨_,l2⟩|⟨d',v',l1,_,_⟩
  ·exact l2
  ·rw[h2]at l1;cases l1
 refine ah3 I1 hH cl me hl ?_;refine Dc (first:=[.ref p]) (h₀:=X.base) I.ok.mod.kin me.kp (thn (ha pos pins s1 σ H1 (λvs H2=>∃ds st2,Ev st1 H1 st2 H2/\IsDs X.K H2 ds vs/\RelS X.K st2 H2/\Ph (c7 c m) (.ref p::(ds++[.int i])) st2 Qd) I1 ⟨env,st1,_,hE.mono (e1.tk hS),rs,h4,λvs ds H' st' ev is hl rs q=>⟨ds,st',ev,is,rs,q⟩⟩) λus s2⟨vs,H2,I2,r2,ds,st2,ev2,is2,rs2,q2⟩=>⟨I2.kIn,?_⟩) (o0 hs) hpl;exact N9 (us:=.ref p::us) (vs:=.ref p::vs) Fo hr hb (dvs:=[.int i]) (.cons ⟨_,rfl⟩ .nil) J4 I2 (.cons rfl r2) ⟨.ref p::(ds++[.int i]),st2,Qd,.cons (.ref p) (is2.append (.cons (.int i) .nil)),rs2,q2,(hq.after e1).after ev2⟩
def cb0{py:Pos}{F:Str->Bool}
  (hM:∀c Ca,Ax X.K AN c=AA (AA (.ref Ca))->F (c7 c m)=AC->∃k f fd ps,Cls X.K Ca/\Meth X.K Ca m f/\FnOk X.prog X.w X.K X.mg X.base CX0 k f fd ps (z8 X.K (Ph (c7 c m)))/\Room k X.A/\t6 X.K fd ps [])
  (hline:(apos.endLine==pos.line)=AC) (ho:PE X (.Name y py) (up X.K ta)) :
  PE X (.Call (.Attribute (.Name y py) m apos) [] [] pos) (up X.K λenv st Q=>ta env st λx st1=>∃p c fs,x=.ref p/\st1 p=AA (.ins c fs)/\fs.lookup m=AD/\F (c7 c m)=AC/\Ph (c7 c m) [.ref p] st1 Q):=by
 intro pins s σ H Q I q;obtain⟨env,st,Qd,hE,hS,ht,hq⟩:=q;refine GT (thn (ho pins s σ H (λv H1=>∃p c fs st1,v=.ref p/\Ev st H st1 H1/\RelS X.K st1 H1/\st1 p=AA (.ins c fs)/\fs.lookup m=AD/\F (c7 c m)=AC/\Ph (c7 c m) [.ref p] st1 Qd) I ⟨env,st,_,hE,hS,ht,λv d H1 st1 ev is rs q1=>?_⟩) λu s1 z41=>?_) (al5 rfl hline)
 ·obtain⟨p,c,fs,rfl,q1⟩:=q1;exact⟨p,c,fs,st1,is.ref_inv,ev,rs,q1⟩
 obtain⟨v,H1,I1,rx,p,c,fs,st1,ev,e1,rs,h1,h2,h3,h4⟩:=z41;subst ev;cases rx;obtain⟨Ca,dx,vs,hH,hn,r⟩:=rs.ins h1;obtain⟨k,f,fd,ps,cl,me,Fo,hr,hb⟩:=hM c Ca hn h3;have hl:vs.lookup m=AD:=by
  rcases r.look m with⟨_,l2⟩|⟨d',v',l1,_,_⟩
  ·exact l2
  ·rw[h2]at l1;cases l1
 refine ah3 I1 hH cl me hl ?_;exact Jr (first:=[.ref p]) I1.kIn me.kp (N9 (us:=[.ref p]) (vs:=[.ref p]) Fo hr hb .nil J4 I1 (.cons rfl .nil) ⟨[.ref p],st1,Qd,by rw[BJ];exact .cons (.ref p) .nil,rs,h4,hq.after e1⟩)
def a96{c:Str}{H1:Hp}{st st1:Sto}{Qd:DK}{Q:VK}(hn:Ax X.K AN c=AA (AA (.ref Ca)))(ev:Ev st H st1 H1)(is:IsDs X.K H1 ds vs)(rs:RelS X.K st1 H1)(hq:u1 X.K st H Qd Q)
  (q:∀p,st1 p=AD->sp (.ref p::ds) (b0 st1 p (.ins c [])) λv st2=>v=.non/\Qd (.ref p) st2):∀x dx,H1 x=AD->H1 dx=AD->dx≠x->z8 X.K sp (.ref x::(vs++[])) (upd (upd H1 dx (.own x)) x (.ins Ca dx [])) (λv H2=>v=.non/\Q (.ref x) H2) E0:=by
 intro x dx hx hdx hne;have tk1:TK X.K H1 (upd H1 dx (.own x)):=TK.new hdx;have hx':upd H1 dx (.own x) x=AD:=by rw[i8 (λz=>hne z.symm)];exact hx
 have tk2:TK X.K (upd H1 dx (.own x)) (upd (upd H1 dx (.own x)) x (.ins Ca dx [])):=TK.new hx';refine⟨.ref x::ds,b0 st1 x (.ins c []),_,by rw[BJ];exact .cons (.ref x) ((is.mono tk1).mono tk2),(rs.new hdx).putAny (ob:=.ins c []) tk2 ⟨Ca,dx,[],r8,hn,.nil⟩ (by rw[hx'];exact λ_=>nofun),q x (rs.free hx),λv d H2 st2 ev2 is2 rs2 q2=>?_⟩;obtain⟨rfl,q2⟩:=q2;cases is2;refine⟨rfl,hq _ (.ref x) H2 st2 (λb o hb hs=>?_) (.ref x) rs2 q2⟩;obtain⟨⟨o1,b1,t1⟩,b2⟩:=ev b o hb hs;have nx:b≠x:=u4 b1 hx;have nd:b≠dx:=u4 b1 hdx;obtain⟨⟨o2,c1,t2⟩,c2⟩:=ev2 b o1 (by rw[i8 nx,i8 nd];exact b1) (by rw[C9 nx];exact b2);exact⟨⟨o2,c1,t1.trans t2⟩,c2⟩
def ci4{c:Str}{k:Nat}{t:DA}{f:AI}(hn:Ax X.K AN c=AA (AA (.ref Ca)))(M:Mk X.K Ca f)(Fo:FnOk X.prog X.w X.K X.mg X.base CX0 k f fd ps (z8 X.K sp))(hr:Room (k+1) X.A)(hg:Gl X c)(hm:X.mg c=AA (.ref Ca))(hb:t6 X.K fd ps [])
  (ha:PA X (a::es) (upA X.K n t)) (hdb:(c==("__debug__":Str))=AE) (hs:∀e p,a≠.Starred e p) (hpl:(Bq pos (Am es X.env)).any (·.1)=AE) :
  PE X (.Call (.Name c p) (a::es) [] pos) (up X.K λenv st Q=>t env st λds st1=>∀p,st1 p=AD->sp (.ref p::ds) (b0 st1 p (.ins c [])) λv st2=>v=.non/\Q (.ref p) st2):=
 PE.imp (ch2 M Fo hr hg hm hb .nil J4 ha hdb (o0 hs) hpl) λσ H Q q=>by
  obtain⟨env,st,Qd,hE,hS,ht,hq⟩:=q;exact⟨env,st,_,hE,hS,ht,λvs ds H' st' ev is hl rs q=>a96 hn ev is rs hq q⟩
def cb9{c:Str}{k:Nat}{f:AI}(hn:Ax X.K AN c=AA (AA (.ref Ca)))(M:Mk X.K Ca f)(Fo:FnOk X.prog X.w X.K X.mg X.base CX0 k f fd ps (z8 X.K sp))(hr:Room (k+1) X.A)(hg:Gl X c)(hm:X.mg c=AA (.ref Ca))(hb:t6 X.K fd ps [])(hdb:(c==("__debug__":Str))=AE):
  PE X (.Call (.Name c p) [] [] pos) (up X.K λenv st Q=>∀p,st p=AD->sp [.ref p] (b0 st p (.ins c [])) λv st2=>v=.non/\Q (.ref p) st2):=
 PE.imp (b72 M Fo hr hg hm hb .nil J4 hdb) λσ H Q q=>by
  obtain⟨env,st,Qd,hE,hS,ht,hq⟩:=q;exact a96 (ds:=[]) (vs:=[]) hn Ev.refl .nil hS hq ht
def tyL{K:AO}{st:Sto}{d:D}{v:V}(is:IsD K H d v)(rs:RelS K st H)(h:C3 d st):tyV K "list" v H:=by
 cases d<;>first|exact AZ h|skip
 obtain⟨ds,hr⟩:=h;obtain⟨vs,hs,_⟩:=rs.rd hr;rw[is.ref_inv];exact .inl ⟨rfl,vs,hs⟩
def an6{nm:Str}{id:String}{r:V->List V->Hp->VK->Prop}{g:D->D->Sto->DK->Prop}(slot:Slot "list" nm id)(hty:typeOf (.builtin id)=pure (.type "method_descriptor"))(hm:MtR X id r)
  (ha:PE X a (up X.K ta)) (hb:PE X b (up X.K tb)) (hbase:∀i p p',a≠.Call (.Name i p) [] [] p') (hs:∀e p,b≠.Starred e p) (hline:(apos.endLine==pos.line)=AC)
  (imp:∀v w d e H' st' Qd Q,IsD X.K H' d v->IsD X.K H' e w->RelS X.K st' H'->g d e st' Qd->u1 X.K st' H' Qd Q->r v [w] H' Q) :
  PE X (.Call (.Attribute a nm apos) [b] [] pos) (up X.K λenv st Q=>ta env st λx st1=>C3 x st1/\tb env st1 λy st2=>g x y st2 Q):=
 PE.imp (c22 PySem.F.plainAttrs_list slot hty hm ha (G9 hb hs) (D2 hbase) (by rw[o0 hs];rfl) hline (o0 hs) rfl) λσ H Q q=>by
  obtain⟨env,st,Qd,hE,hS,ht,hq⟩:=q;refine⟨env,st,_,hE,hS,ht,λv d H1 st1 ev is rs q1=>⟨tyL is rs q1.1,?_⟩⟩;refine⟨env,st1,(λds st2=>match ds with|[e]=>g d e st2 Qd|_=>False),hE.mono (ev.tk hS),rs,q1.2,λvs ds H' st' ev2 is2 hl rs2 q2=>?_⟩
  match ds,hl with
  |[e],_=>
   obtain⟨w,ws,rfl,i1,i2⟩:=is2.inv_cons;rw[i2.inv_nil];exact imp v w d e H' st' Qd Q (is.mono (ev2.tk rs)) i1 rs2 q2 ((hq.after ev).after ev2)
def cu0(ha:PE X a (up X.K ta))(hb:PE X b (up X.K tb))(hbase:∀i p p',a≠.Call (.Name i p) [] [] p')(hs:∀e p,b≠.Starred e p)(hline:(apos.endLine==pos.line)=AC):
  PE X (.Call (.Attribute a "append" apos) [b] [] pos) (up X.K λenv st Q=>ta env st λx st1=>C3 x st1/\tb env st1 λy st2=>U0 x y st2 Q):=
 an6 PySem.F.slot_list_append PySem.F.type_list_append ax2 ha hb hbase hs hline λv w d e H' st' Qd Q i1 i2 rs ht hq=>by
  cases d<;>first|exact AZ ht|skip
  obtain⟨ds,hr,hz,ht⟩:=ht;obtain⟨vs,hH,r⟩:=rs.lst hr;rw[i1.ref_inv];exact⟨_,vs,w,rfl,rfl,hH,by rw[<-r.len];exact hz,hq _ _ _ _ (Ev.put hr) .non (rs.putOld hH (r.append (.cons i2 .nil))) ht⟩
def b05(l:AI)(items:Array AG)(n:Nat)(b:AI)(items2:Array AG)(n2:Nat)(sl:Array (Option AG))(hs0:¬(!items.isEmpty&&Bu (items.size+items2.size))=AC)(hs1:items.size<=sizeLine)(hs2:items.size+items2.size<=sizeLine+1):
  JP (Dk.«list.extend» ⟨[.ref l,.ref b],[]⟩) (λ_ R s=>s.heap.get? l=AA {cls:=.type "list",dict:=AD,data:=.seq items n,slots:=#[]}/\s.heap.get? b=AA {cls:=.type "tuple",dict:=AD,data:=.seq items2 n2,slots:=sl}/\R (.ok (.ret Bh)) {s with heap:=s.heap.update l (EJ λx=>x++items2),toks:=s.toks}):=
 .of_wp λprog w A R s h=>by
  obtain⟨hp,g,d,tk,os⟩:=s;obtain⟨hl,hb,h⟩:=h;have f1:=AutoSeq1.idx_int;have f2:=AutoSeq1.sub_tuple_tuple;have f3:=AutoSeq1.sub_list_list;have f4:=AutoSeq1.sub_tuple_list;have f5:=AutoSeq1.sub_list_tuple;have hz':(items++items2).size<=sizeLine+1:=by rw[Array.size_append];exact hs2
  wp_walk using(wpAny_updateSeq hl rfl (hz:=hs1) (_hz':=hz')),Fp hl,Fp hb;exact⟨_,rfl,h⟩
abbrev az8(K:AO):V->List V->Hp->VK->Prop:=λx vs H Q=>∃l b xs zs,x=.ref l/\vs=[.ref b]/\H l=AA (.lst xs)/\SqT K H b zs/\xs.length+zs.length<=sizeLine/\Q .non (upd H l (.lst (xs++zs)))
def b13:MtM X "list.extend" (az8 X.K):=by
 intro pins s σ H x vs v us Q I rx rv h;obtain⟨l,b,xs,zs,rfl,rfl,hH,hB,hz,q⟩:=h;cases rx;obtain⟨u,rfl,ru⟩:=rv.one;cases ru;obtain⟨z,its,n,r,hl,e⟩:=I.lstM hH;obtain⟨its2,r2,⟨o,e2,ec,ed,n2,es⟩,z2⟩:=I.tupleD hB;obtain⟨cls,dd,data,sl⟩:=o;simp only at ec ed es;subst ec ed es;have hl2:=r2.length;have hsz:its.toArray.size+its2.toArray.size<=sizeLine:=by rw[Ab,Ab];lia
 have hlong:¬(!its.toArray.isEmpty&&Bu (its.toArray.size+its2.toArray.size))=AC:=by
  rw[a03 hsz,Ih];exact AH
 refine Cj IL ⟨_,e,rfl⟩ ID (Hv _ _)
  (b05 l its.toArray n b its2.toArray n2 sl hlong (by rw[Ab];lia) ⋯) ⟨e,e2,?_⟩
 refine⟨.non,_,I.lset (its':=its++its2) hH e ∎ (r.append r2) ?_,rfl,q⟩;rw[AX];lia
def ce2:MtM X "list.extend" (λx vs H Q=>a84 x vs H Q\/az8 X.K x vs H Q):=λpins s σ H x vs v us Q I rx rv h=>h.elim (b43 pins s σ H x vs v us Q I rx rv) (b13 pins s σ H x vs v us Q I rx rv)
def cx1(ha:PE X a (up X.K ta))(hb:PE X b (up X.K tb))(hbase:∀i p p',a≠.Call (.Name i p) [] [] p')(hs:∀e p,b≠.Starred e p)(hline:(apos.endLine==pos.line)=AC):
  PE X (.Call (.Attribute a "extend" apos) [b] [] pos) (up X.K λenv st Q=>ta env st λx st1=>C3 x st1/\tb env st1 λy st2=>T8 x y st2 Q):=
 an6 PySem.F.slot_list_extend PySem.F.type_list_extend ce2 ha hb hbase hs hline λv w d e H' st' Qd Q i1 i2 rs ht hq=>by
  cases d<;>cases e<;>first|exact AZ ht|skip
  ·obtain⟨ds,hr,hz,ht⟩:=ht;obtain⟨vs,hH,r⟩:=rs.lst hr;obtain⟨b,ws,rfl,hq2,r2⟩:=i2.tup_inv;rw[i1.ref_inv];exact .inr ⟨_,_,vs,ws,rfl,rfl,hH,hq2,by rw[<-r.len,<-r2.len];exact hz,hq _ _ _ _ (Ev.put hr) .non (rs.putOld hH (r.append r2)) ht⟩
  ·obtain⟨ds,es,hr,hr2,hz,ht⟩:=ht;obtain⟨vs,hH,r⟩:=rs.lst hr;obtain⟨ws,hH2,r2⟩:=rs.lst hr2;rw[i1.ref_inv,i2.ref_inv];exact .inl ⟨_,_,vs,ws,rfl,rfl,hH,hH2,by rw[<-r.len,<-r2.len];exact hz,hq _ _ _ _ (Ev.put hr) .non (rs.putOld hH (r.append r2)) ht⟩
def ca5(ha:PE X a (up X.K ta))(hb:PE X b (up X.K tb))(hbase:∀i p p',a≠.Call (.Name i p) [] [] p')(hs:∀e p,b≠.Starred e p)(hline:(apos.endLine==pos.line)=AC):
  PE X (.Call (.Attribute a "pop" apos) [b] [] pos) (up X.K λenv st Q=>ta env st λx st1=>C3 x st1/\tb env st1 λy st2=>an1 x y st2 Q):=
 an6 PySem.F.slot_list_pop PySem.F.type_list_pop ca8 ha hb hbase hs hline λv w d e H' st' Qd Q i1 i2 rs ht hq=>by
  cases d<;>cases e<;>first|exact AZ ht|skip
  rename_i i;obtain⟨⟨b1,b2⟩,ds,k,d,hr,hk,hd,ht⟩:=ht;obtain⟨vs,hH,r⟩:=rs.lst hr;obtain⟨v',hv',is'⟩:=r.get hd;rw[i1.ref_inv,i2.int_inv];obtain⟨q1,q2,q3,q4⟩:=al4 hk;exact⟨_,vs,_,k,v',rfl,rfl,hH,⋯,⋯,by rw[<-r.len];exact q1,hv',hq _ _ _ _ (Ev.put hr) (is'.mono (TK.put hH)) (rs.putOld hH (r.erase k)) ht⟩
def ct1(ha:PE X a (up X.K ta))(hbase:∀i p p',a≠.Call (.Name i p) [] [] p')(hline:(apos.endLine==pos.line)=AC):
  PE X (.Call (.Attribute a "pop" apos) [] [] pos) (up X.K λenv st Q=>ta env st λx st1=>X5 x st1 Q):=
 PE.imp (be0 PySem.F.plainAttrs_list PySem.F.slot_list_pop PySem.F.type_list_pop cs7 ha (D2 hbase) hline) λσ H Q q=>up1 (f:=X5) q λv d H' st' Qd is rs ht hq=>by
  cases d<;>first|exact AZ ht|skip
  obtain⟨ds,d,hr,ht⟩:=ht;obtain⟨vs,hH,r⟩:=rs.lst hr;have hl:=r.len;rw[AX,HC]at hl;obtain⟨v',hv',is'⟩:=r.get (i:=ds.length) (d:=d) ∎;rw[is.ref_inv];refine⟨.inl ⟨rfl,vs,.inl (.inl hH)⟩,_,vs,v',rfl,rfl,hH,by rw[<-hl,Hy];exact hv',hq _ _ _ (b0 st' _ (.lst ds)) (Ev.put hr) (is'.mono (TK.put hH)) (rs.putOld hH ?_) ht⟩;have e:vs.dropLast=vs.take ds.length:=by rw[List.dropLast_eq_take,<-hl,Hy]
  rw[e];have q:=r.take ds.length
  rwa [IT]at q
  rfl
end
end Ek
namespace Ek
open PySem PySem.Spec PyProof.Rows L2
variable [Tbs]
variable{A:BP}{s:AK}{items:Array AG}{x:AG}{j:Nat}
theorem ay0{prog:Aj}{w:BB}{E:AG->AK->Prop}{e:Nat->Bool}(hj:j<items.size)(he:∀i(h:i<items.size),HV A s items[i] x (e i))
  (hit:e j=AC) (hno:∀i,i<j->e i=AE):∀k i,i+k=items.size->i<=j ->
   AU (model prog w) A (forIn (List.range' i k) ((AD:Option PySem.Fin),()) λ(i:Nat)__s=>
      match items[i]? with
      |some y=>do
       let __do_lift <-eqBool y x
       if __do_lift=AC then do
         let __do_lift <-retInt (i:Int)
         pure (ForInStep.done (AA __do_lift,()))
        else pure (Bd (AD,()))
      |x=>pure (Bd (AD,())))
    (λr s'=>r.1=AA (PySem.Fin.done (.ret (.int j s.toks)))/\s'={s with toks:=s.toks+1}) E s
 |0,i,h1,h2=>by lia
 |k+1,i,h1,h2=>by
  have hi:i<items.size:=by lia
  rw[List.range'_succ,IN];have e1:items[i]?=AA items[i]:=by simp[hi]
  rw[e1];dsimp only;refine AF (AF (he i hi prog w _ _ ?_))
  by_cases hij:i=j
  ·subst hij;rw[hit,if_pos rfl];refine AF ?_;show AU _ _ (mkInt (i:Int)>>=_) _ _ _;refine AF (IU ?_);exact AM (AM (AM ⟨rfl,rfl⟩))
  ·rw[hno i ⋯,if_neg AH];exact AM (ay0 hj he hit hno k (i+1) ⋯ ⋯)
def by3{prog:Aj}{w:BB}{E:AG->AK->Prop}{a:AI}{e:Nat->Bool}{Q:AG->AK->Prop}(ht:s.heap.IsTuple a items)(hj:j<items.size)(he:∀i(h:i<items.size),HV A.in1 s items[i] x (e i))
  (hit:e j=AC) (hno:∀i,i<j->e i=AE) (hQ:Q (.int j s.toks) {s with toks:=s.toks+1}) :
  AU (model prog w) A (call (.builtin "tuple.index") [.ref a,x]) Q E s:=by
 obtain⟨o,ho,hc,n,hd⟩:=id ht;refine BU F.slot_tuple_index ht.typeIs F.entry_tuple_index ?_ (F.args_tuple_index_2 _ _);unfold Dk.«tuple.index»;refine AF (FM (a:=(Ap a,[x])) rfl ?_);dsimp only;refine AF ?_;unfold CM;refine AF (DC ho hd (AM ?_));refine AF (AM (AF (AM (AF ?_))));rw[Im];have hs:(FN [0:min items.size items.size])=items.size:=by simp[FN]
 rw[hs];refine Bc (ay0 hj he hit hno items.size 0 ⋯ (BV _)) (λr s' h=>?_) λ_ _ h=>h;obtain⟨h1,rfl⟩:=h;rw[h1];exact AM ⟨_,rfl,hQ⟩
def bz6{prog:Aj}{w:BB}{E:AG->AK->Prop}{a:AI}{e:AG->Bool}{Q:AG->AK->Prop}(ht:s.heap.IsList a items)(hj:j<items.size)(hz:items.size<=sizeLine)(he:∀y,y∈items->HV A.in1 s y x (e y))
  (hit:e items[j]=AC) (hno:∀m(hm:m<items.size),m<j->e items[m]=AE) (hQ:Q (.int j s.toks) {s with toks:=s.toks+1}) :
  AU (model prog w) A (call (.builtin "list.index") [.ref a,x]) Q E s:=by
 obtain⟨⟨cls,dd,data,sl⟩,ho,hc,n,hd⟩:=id ht;simp only at hc hd;subst hc hd;have hb:sizeLine=16777216:=rfl;exact Cj PySem.F.slot_list_index ⟨_,ho,rfl⟩ PySem.F.entry_list_index (PySem.F.args_list_index_2 _ _) (SeqAt.list_indexAt a items n dd sl x e j hj ⋯ hit hno) ⟨ho,he,hQ⟩
section
variable {X:Cx} {a b c:AQ} {ta tb tc:DT} {pos p:Pos}
def c46{pins:List (AI×Obj)}{σ:L2.St}{H:Hp}{v:V}{u:AG}{d:D}(I:L2.Inv X pins σ H s)(is:IsD X.K H d v)(ru:f8 v u)(h:∃ds,d=.tup ds):s.TypeIs u "tuple"/\∀a,u=.ref a->∃ob,s.heap.get? a=AA ob/\ob.dict=AD:=by
 obtain⟨ds,rfl⟩:=h;obtain⟨q,vs,rfl,hq,r⟩:=is.tup_inv;cases ru;obtain⟨its,rv,⟨o,ho,hc,hdn,n,hd⟩,hz⟩:=I.tupleD hq;exact⟨⟨o,ho,hc⟩,λa e=>by cases e;exact⟨o,ho,hdn⟩⟩
open Classical in
abbrev ar4(h:BI)(x:Ad)(u:AG):Bool:=AB (∃dt as,Reads h u dt as/\Ar dt x=AC)
open Classical in
def al8{h:BI}{x dt:Ad}{u:AG}{as:List AI}(r:Reads h u dt as)(hc:dt.canLay0=AC):ar4 h x u=Ar dt x:=by
 unfold ar4;cases hb:Ar dt x with
 |true=>exact decide_eq_true ⟨dt,as,r,hb⟩
 |false=>
  refine decide_eq_false λ z42=>?_;obtain⟨d',as',r',hb'⟩:=z42;rw[<-KU dt d' u as as' hc r r',hb]at hb';cases hb'
def cb2{apos:Pos}(hu:X.A.units+200<Bo)(ha:PE X a (up X.K ta))(hb:PE X b (up X.K tb))(hbase:∀i p p',a≠.Call (.Name i p) [] [] p')(hs:∀e p,b≠.Starred e p)(hline:(apos.endLine==pos.line)=AC):
  PE X (.Call (.Attribute a "index" apos) [b] [] pos) (up X.K λenv st Q=>ta env st λx st1=>W9 x st1/\tb env st1 λy st2=>O2 x y st2 Q):=by
 intro pins s σ H Q I q;obtain⟨env,st,Qd,hE,hS,ht,hq⟩:=q;refine Hu (D2 hbase) (by rw[o0 hs];rfl) hline rfl (thn (ha pins s σ H (λv H1=>∃d st1,Ev st H st1 H1/\IsD X.K H1 d v/\RelS X.K st1 H1/\W9 d st1/\tb env st1 λy st2=>O2 d y st2 Qd) I ⟨env,st,_,hE,hS,ht,λv d H1 st1 ev is rs q1=>⟨d,st1,ev,is,rs,q1⟩⟩) λu s1 z43=>?_);obtain⟨v,H1,I1,r1,d,st1,ev,is,rs,q1,q2⟩:=z43;have hA0:=G9 hb hs pos pins s1 σ H1 (λvs H2=>∃w e st2,vs=[w]/\Ev st1 H1 st2 H2/\IsD X.K H2 e w/\RelS X.K st2 H2/\O2 d e st2 Qd) I1 ⟨env,st1,(λds st2=>match ds with|[e]=>O2 d e st2 Qd|_=>False),hE.mono (ev.tk hS),rs,q2,λvs ds H2 st2 ev2 is2 hl rs2 q3=>by
  match ds,hl with
  |[e],_=>
   obtain⟨w,ws,rfl,i1,i2⟩:=is2.inv_cons;rw[i2.inv_nil];exact⟨w,e,st2,rfl,ev2,i1,rs2,q3⟩⟩
 rw[o0 hs]at hA0;cases d with
 |tup ds=>
  obtain⟨h1,h2⟩:=c46 I1 is r1 ⟨_,rfl⟩;refine⟨"tuple","tuple.index",PySem.F.plainAttrs_tuple,PySem.F.slot_tuple_index,PySem.F.type_tuple_index,h1,h2,?_⟩;rw[o0 hs];refine Bn (by rfl) (CY ?_);refine thn hA0 λus s2 z44=>?_;obtain⟨vs,H2,I2,r2,w,e,st2,ev',ev2,is2,rs2,q3⟩:=z44;subst ev';obtain⟨uw,rfl,rw'⟩:=r2.one;obtain⟨p1,p2,hd,j,dj,hjd,hit,hno,hQ⟩:=q3;have is':=is.mono (ev2.tk rs);obtain⟨q,vs,rfl,hsq,r⟩:=is'.tup_inv;cases r1;obtain⟨its,rv,pl,hz⟩:=I2.tuple hsq;have hlen:its.length=ds.length:=by rw[<-rv.length,<-r.len]
  have hj:j<ds.length:=(AR.mp hjd).1;obtain⟨as,ra⟩:=C7 I2 is2 p1 rw';refine by3 (items:=its.toArray) (j:=j) (e:=λi=>match ds[i]? with|some d=>deq d e|none=>AE) (show s2.heap.IsTuple q its.toArray from pl) (by simpa[hlen]using hj) (λi hi=>?_) (by rw[hjd];exact hit) (λi hi=>?_) ?_
  ·have hi':i<ds.length:=by simpa[hlen]using hi
   have e1:ds[i]?=AA ds[i]:=AJ hi';rw[e1];obtain⟨v,hv,isv⟩:=r.get e1;obtain⟨u,hu',ruv⟩:=rv.get hv;have pp:=ah9 p2 ds[i] (Ga hi');obtain⟨bs,rb⟩:=C7 I2 isv pp ruv;have e2:its.toArray[i]=u:=by
    have:its[i]?=AA its[i]:=AJ ⋯;rw[this]at hu';simpa using As hu'
   rw[e2];exact FV _ _ X.A.in1 s2 u uw bs as rb ra (E5 _ pp) (E5 _ p1) (Z1 hu hd)
  ·have hi':i<ds.length:=by lia
   have e1:ds[i]?=AA ds[i]:=AJ hi';rw[e1];exact hno i _ hi e1
  ·exact⟨.int j,H2,I2.tok _,⟨_,rfl⟩,((hq.after ev).after ev2).here (.int _) rs2 hQ⟩
 |ref a0=>
  obtain⟨ds0,hr0⟩:=q1;have ev1:=is.ref_inv;subst ev1;cases r1;obtain⟨vs0,hq0,_⟩:=rs.rd hr0;obtain⟨its0,_,pl0,_⟩:=I1.list hq0;refine⟨"list","list.index",PySem.F.plainAttrs_list,PySem.F.slot_list_index,PySem.F.type_list_index,pl0.isList.typeIs,λa e=>?_,?_⟩
  ·cases e;obtain⟨o,n,g1,g2,g3,g4⟩:=pl0;exact⟨o,g1,g3⟩
  rw[o0 hs];refine Bn (by rfl) (CY ?_);refine thn hA0 λus s2 z45=>?_;obtain⟨vs,H2,I2,r2,w,e,st2,ev',ev2,is2,rs2,q3⟩:=z45;subst ev';obtain⟨uw,rfl,rw'⟩:=r2.one;obtain⟨ds,hr,p1,p2,hd,j,dj,hjd,hit,hno,hQ⟩:=q3;obtain⟨vs,hsq,r⟩:=rs2.rd hr;obtain⟨its,rv,pl,hz⟩:=I2.list hsq;have hlen:its.length=ds.length:=by rw[<-rv.length,<-r.len]
  have hj:j<ds.length:=(AR.mp hjd).1;obtain⟨as,ra⟩:=C7 I2 is2 p1 rw';have at':∀(i:Nat)(hi:i<ds.length),∃bs,Reads s2.heap (its[i]'⋯) (ds[i]).py bs/\(ds[i]).py.canLay0=AC:=λi hi=>by
   have e1:ds[i]?=AA ds[i]:=AJ hi;obtain⟨v,hv,isv⟩:=r.get e1;obtain⟨u,hu',ruv⟩:=rv.get hv;have pp:=ah9 p2 ds[i] (Ga hi);obtain⟨bs,rb⟩:=C7 I2 isv pp ruv;have e2:its[i]'⋯=u:=by
    have:its[i]?=AA (its[i]'⋯):=AJ ⋯;rw[this]at hu';exact As hu'
   rw[e2];exact⟨bs,rb,E5 _ pp⟩
  refine bz6 (items:=its.toArray) (j:=j) (e:=ar4 s2.heap e.py) pl.isList (by simpa[hlen]using hj) (by rw[Ab,<-rv.length];exact hz) (λy hy=>?_) ?_ (λm hm hlt=>?_) ?_
  ·obtain⟨i,hi,rfl⟩:=Ea.mp (show y∈its by simpa using hy);obtain⟨bs,rb,cb⟩:=at' i ⋯;rw[al8 rb cb];exact FV _ _ X.A.in1 s2 _ uw bs as rb ra cb (E5 _ p1) (Z1 hu hd)
  ·obtain⟨bs,rb,cb⟩:=at' j hj;have e1:its.toArray[j]'(by simpa[hlen]using hj)=its[j]'⋯:=by simp
   rw[e1,al8 rb cb];have e2:dj=ds[j]:=by rw[AJ hj]at hjd;exact(As hjd).symm
   rw[e2]at hit;exact hit
  ·have hm':m<ds.length:=by lia
   obtain⟨bs,rb,cb⟩:=at' m hm';have e1:its.toArray[m]'hm=its[m]'⋯:=by simp
   rw[e1,al8 rb cb];exact hno m ds[m] hlt (AJ hm')
  ·exact⟨.int j,H2,I2.tok _,⟨_,rfl⟩,((hq.after ev).after ev2).here (.int _) rs2 hQ⟩
 |_=>exact q1.elim
end
end Ek
namespace Ek
open PySem PySem.Spec PyProof.Rows L2
variable [Tbs]
variable{s:AK}{g:Str}{kvs:List (Str×D)}
section
variable {X:Cx} {a b c:AQ} {ta tb tc:DT} {pos p:Pos}
abbrev DPs(X:Cx)(pos:Pos)(keys:List (Option AQ))(values:List AQ)(ks:List Str)(t:DA):Prop:=
 ∃trs,PPs X pos keys values trs/\∀(σ:L2.St)(H:Hp)(Q:List (V×V)->Hp->Prop),(∃env st Qd,RelE X.K H env σ/\RelS X.K st H/\t env st Qd /\
  ∀vs ds H' st',Ev st H st' H'->IsDs X.K H' ds vs->ds.length=ks.length->RelS X.K st' H'->Qd ds st'->Q ((ks.zip vs).map λkv=>(V.str kv.1,kv.2)) H')->V8 trs σ H Q
def cp5:DPs X pos [] [] [] (λ_ st Q=>Q [] st):=⟨[],ci0,λσ H Q⟨env,st,Qd,hE,hS,ht,hq⟩=>hq [] [] H st Ev.refl .nil rfl hS ht⟩
def ci9{k:Str}{j:Nat}{kp:Pos}{ks:List Str}{keys:List (Option AQ)}{values:List AQ}{t:DA}(ha:PE X a (up X.K ta))(hr:DPs X pos keys values ks t):
  DPs X pos (AA (.Constant (.str k) j kp)::keys) (a::values) (k::ks) (λenv st Q=>ta env st λd st1=>t env st1 λds st2=>Q (d::ds) st2):=by
 obtain⟨trs,h1,h2⟩:=hr;refine⟨_,cd2 bh7 ha h1,λσ H Q z46=>?_⟩;obtain⟨env,st,Qd,hE,hS,ht,hq⟩:=z46;show up X.K ta σ H λy H2=>V8 trs σ H2 λps H3=>Q ((V.str k,y)::ps) H3;exact⟨env,st,_,hE,hS,ht,λv d H1 st1 ev is rs q1=>h2 σ H1 _ ⟨env,st1,_,hE.mono (ev.tk hS),rs,q1,λvs ds H2 st2 ev2 is2 hl rs2 q2=>
  hq (v::vs) (d::ds) H2 st2 (ev.trans ev2) (.cons (is.mono (ev2.tk rs)) is2) (by simp[hl]) rs2 q2⟩⟩
theorem av4:∀(more kvs:List (Key×V)),(∀k∈more.map (·.1),p8 kvs k=AD)->(more.map (·.1)).Nodup->J0 kvs more=kvs++more
 |[],kvs,_,_=>by simp[J0]
 |(k,v)::r,kvs,h,nd=>by
  have nd':=BL.mp (show(k::r.map (·.1)).Nodup from nd);show J0 (v2 kvs k v) r=_;rw[az1 v (h k ∎),av4 r _ (λk' hk'=>?_) nd'.2,Bk]
  ·rfl
  ·have hne:k'≠k:=λz=>nd'.1 (by rw[<-z];exact hk');have h1:=h k' (by simp only[Ah,AL];exact .inr hk');unfold p8 at h1 ⊢;rw[Option.map_eq_none_iff]at h1 ⊢;rw[List.find?_append,h1];simp[Aw hne]
theorem av3:∀(ks:List Str)(ds:List D)(vs:List V)(w:Str)(d:D){K:AO}{H:Hp},IsDs K H ds vs->o8 (ks.zip ds) w=AA d->∃v,p8 ((ks.zip vs).map λkv=>((CB kv.1:Key),kv.2)) (CB w)=AA v/\IsD K H d v
 |[],ds,vs,w,d,K,H,r,h=>by simp[o8]at h
 |k::ks,[],vs,w,d,K,H,r,h=>by simp[o8]at h
 |k::ks,e::ds,vs,w,d,K,H,r,h=>by
  obtain⟨v,ws,rfl,h1,h2⟩:=r.inv_cons;simp only[EL,o8]at h
  by_cases hk:k=w
  ·rw[if_pos hk]at h;cases h;refine⟨v,?_,h1⟩;unfold p8;simp[hk]
  ·rw[if_neg hk]at h;obtain⟨v',h3,h4⟩:=av3 ks ds ws w d h2 h;refine⟨v',?_,h4⟩;unfold p8 at h3 ⊢;simp only[EL,Ah,Bi];have:AB ((CB k:Key)=CB w)=AE:=decide_eq_false λz=>hk (Gd z);rw[this];exact h3
def ce6{ks:List Str}{keys:List (Option AQ)}{values:List AQ}{t:DA}{dp:Pos}(hu:X.A.units+200<Bo)(hd:DPs X dp keys values ks t)(hall:keys.all (·.isSome)=AC)(hl:keys.length=values.length)(h0:keys≠[])(hkl:keys.length=ks.length)(h15:keys.length<=15)(nd:ks.Nodup)
  (hb:PE X b (up X.K tb)) (hs:∀l u s p,b≠.Slice l u s p) :
  PE X (.Subscript (.Dict keys values dp) b pos) (up X.K λenv st Q=>t env st λds st1=>tb env st1 λx st2=>∃w d,x=.str w/\o8 (ks.zip ds) w=AA d/\Q d st2):=by
 obtain⟨trs,h1,h2⟩:=hd;refine PE.imp (ch3 ⋯ (ch5 h1 hall hl h0 h15) hb (ah0 hs)) λσ H Q q=>?_;obtain⟨env,st,Qd,hE,hS,ht,hq⟩:=q;intro p hp;have sp:st p=AD:=hS.free hp;refine h2 σ _ _ ⟨env,st,_,hE.mono (TK.new hp),hS.new hp,ht,λvs ds H2 st2 ev2 is2 hl2 rs2 q2=>?_⟩;obtain⟨e2,sp2⟩:=ev2.get r8 sp (λ_=>nofun);refine⟨e2,(ks.zip vs).map λkv=>((CB kv.1:Key),kv.2),by rw[Bv];rfl,?_,?_⟩
 ·rw[AT,List.length_zip,<-is2.len,hl2];lia
 have hm:J0 [] ((ks.zip vs).map λkv=>((CB kv.1:Key),kv.2))=(ks.zip vs).map λkv=>((CB kv.1:Key),kv.2):=by
  rw[av4 _ [] (λ_ _=>rfl)]
  ·rfl
  ·rw[Bv];have:((λx:Key×V=>x.1)∘λkv:Str×V=>((CB kv.1:Key),kv.2))=(λx:Str=>(CB x:Key))∘(λkv:Str×V=>kv.1):=rfl;rw[this,<-Bv];have e:(ks.zip vs).map (λkv:Str×V=>kv.1)=ks:=by
    have:=List.map_fst_zip (l₁:=ks) (l₂:=vs) (by rw[<-is2.len,hl2];exact AY _);exact this
   rw[e];exact Jl _ (λa b hab z=>hab (Gd z)) nd
 rw[hm];have tk3:TK X.K H2 (upd H2 p (.dK ((ks.zip vs).map λkv=>((CB kv.1:Key),kv.2)))):=TK.putD e2;have rs3:RelS X.K st2 (upd H2 p (.dK ((ks.zip vs).map λkv=>((CB kv.1:Key),kv.2)))):=rs2.stay tk3 (λc u z=>i8 λw=>by rw[w,sp2]at z;cases z) (Z5 (by rw[e2];exact λ_ z=>by cases z));refine⟨env,st2,_,((hE.mono (TK.new hp)).mono (ev2.tk (hS.new hp))).mono tk3,rs3,q2,λy x H4 st4 ev4 is4 rs4 q4=>?_⟩;obtain⟨w,d,rfl,lk,q4⟩:=q4;obtain⟨e4,sp4⟩:=ev4.get r8 sp2 (λ_=>nofun);have is2':=(is2.mono tk3).mono (ev4.tk rs3);obtain⟨v,hv,isv⟩:=av3 ks ds vs w d is2' lk;refine⟨p,v,rfl,?_,hq v d H4 st4 (λc o hc hs=>?_) isv rs4 q4⟩
 ·rw[is4.str_inv,<-hv];exact v5.k (k:=CB w) e4
 ·have ne:c≠p:=u4 hc hp;obtain⟨⟨o1,x1,t1⟩,y1⟩:=ev2 c o (by rw[i8 ne];exact hc) hs;obtain⟨⟨o2,x2,t2⟩,y2⟩:=ev4 c o1 (by rw[i8 ne];exact x1) y1;exact⟨⟨o2,x2,t1.trans t2⟩,y2⟩
@[reducible]noncomputable def F9(h:BI)(a:AI)(T:List (Str×AG)):Prop:=KTD.TabOf (λ(d v:AG)=>v=d) h a T
def F9.typeIs{a:AI}{T:List (Str×AG)}(t:F9 s.heap a T):s.TypeIs (.ref a) "dict":=let⟨_,o,_,_,ho,hc,_⟩:=t;⟨o,ho,hc.1⟩
def F9.get{prog:Aj}{w:BB}{A:BP}{E:AG->AK->Prop}{s:AK}{a:AI}{T:List (Str×AG)}{k:Str}{tk:Tok}{Q:Option AG->AK->Prop}(t:F9 s.heap a T)
  (h:Q (Br k T) {s with toks:=s.toks+1}):AU (model prog w) A (JR a (.str k tk)) Q E s:=by
 obtain⟨_,o,⟨l⟩,ep,ho,hc,hd,hr⟩:=t;unfold JR
 try with_reducible refine CZ ?_
 refine AF (ET (AF (KTD.kt_dictFind_strs (s:={s with toks:=s.toks+1}) ho hd (by simpa using hr.exact) ?_)));have e:Br k T=(l.find? λe=>e.key.isStr k).map (·.val):=by
  cases hat:Br k T with
  |some d=>obtain⟨v,hv,rfl⟩:=hr.find_some hat;exact hv.symm
  |none=>exact(hr.find_none hat).symm
 have hf:findBy (λk v=>v.isStr k) (⟨l⟩:Array DP) k=Br k T:=by rw[e];simp[findBy]
 rw[<-hf,findBy_of_findIdx?]at h;cases hi:(⟨l⟩:Array DP).findIdx? λe=>e.key.isStr k with
 |none=>rw[hi]at h;exact AM h
 |some i=>rw[hi]at h;exact AF (wpAny_dictEntries (s:={s with toks:=s.toks+1}) ho hd (AM h))
def by5{prog:Aj}{w:BB}{A:BP}{E:AG->AK->Prop}{a:AI}{T:List (Str×AG)}{k:Str}{tk:Tok}{u:AG}{Q:AG->AK->Prop}(H:F9 s.heap a T)(hk:Br k T=AA u)
  (h:Q u {s with toks:=s.toks+1}):AU (model prog w) A (DR (.ref a) (.str k tk)) Q E s:=by
 unfold DR
 try with_reducible refine CZ ?_
 refine AF (GC H.typeIs ∅ ?_);refine AF (Be (name:=AV "__getitem__") H.typeIs JS
  (BU JS H.typeIs entry_dict_getitem ?_ (args_dict_getitem _ _)))
 show AU _ _ (JR a (.str k tk)>>=_) _ _ s;refine AF (H.get ?_);rw[hk];exact AM ⟨u,rfl,AM h⟩
def F9.dget{prog:Aj}{w:BB}{A:BP}{E:AG->AK->Prop}{a:AI}{T:List (Str×AG)}{k:Str}{tk:Tok}{r:AG}{Q:AG->AK->Prop}(t:F9 s.heap a T)
  (h:Q ((Br k T).getD r) {s with toks:=s.toks+1}):AU (model prog w) A (call (.builtin "dict.get") [.ref a,.str k tk,r]) Q E s:=by
 refine BU PySem.F.slot_dict_get t.typeIs PySem.F.entry_dict_get ?_ (PySem.F.args_dict_get_3 _ _ _);show AU _ _ (JR a (.str k tk)>>=_) _ _ s;refine AF (t.get ?_);cases hf:Br k T with
 |some v=>rw[hf]at h;exact AM ⟨v,rfl,h⟩
 |none=>
  rw[hf]at h;show AU _ _ (Jx a (.str k tk)>>=_) _ _ _;exact AF (wpAny_missed_other t.1 (AM ⟨r,rfl,h⟩))
structure GTab(P:Aj)(w:BB)(K:AO)(mg:Str->Option AG)(g:Str)(kvs:List (Str×D)):Prop where
 ex:∃(a:AI)(T:List (Str×AG)),mg g=AA (.ref a)/\(∀h:BI,K.In h->F9 h a T)/\(∀x d,o8 kvs x=AA d->∃u v,Br x T=AA u/\f8 v u/\∀H,IsD K H d v)/\∀x,o8 kvs x=AD->Br x T=AD
def cg0(T:kvs≠[]->GTab X.prog X.w X.K X.mg g kvs)(hg:Gl X g)(hb:PE X b (up X.K tb))(hs:∀l u s p,b≠.Slice l u s p)(hdb:(g==("__debug__":Str))=AE):
  PE X (.Subscript (.Name g p) b pos) (up X.K λenv st Q=>kvs≠[]/\tb env st λx st1=>∃w d,x=.str w/\o8 kvs w=AA d/\Q d st1):=by
 intro pins s σ H Q I q;obtain⟨env,st,Qd,hE,hS,⟨hne,ht⟩,hq⟩:=q;obtain⟨t,vs,hm,hT,hl,_⟩:=(T hne).ex;have q:up X.K (λenv st Q=>tb env st λx st1=>∃w d,x=.str w/\o8 kvs w=AA d/\Q d st1) σ H Q:=⟨env,st,Qd,hE,hS,ht,hq⟩;refine ba9 PySem.F.slot_dict_getitem.lookup (ah0 hs) (Q1 I hg hm ?_ hdb);refine thn (hb pins s σ H (λv H1=>∃(w:Str)(d:D),v=.str w/\o8 kvs w=AA d/\∀v',IsD X.K H1 d v'->Q v' H1) I (up1 (f:=λx st1 Q=>∃w d,x=.str w/\o8 kvs w=AA d/\Q d st1) q λv d H' st' Qd is rs ht hq=>?_)) λiv s2 z47=>?_
 ·obtain⟨w,d,rfl,lk,ht⟩:=ht;exact⟨w,d,is.str_inv,lk,λv' is'=>hq.here is' rs ht⟩
 ·obtain⟨y,H2,I2,ry,w,d,ey,lk,q2⟩:=z47;subst ey;obtain⟨tt,rfl⟩:=ry;obtain⟨u,v',h1,rv,is'⟩:=hl w d lk;have hh:F9 s2.heap t vs:=hT s2.heap I2.kIn;exact⟨hh.typeIs,by5 hh h1 ⟨v',H2,I2.tok _,rv,q2 v' (is' H2)⟩⟩
def cl8{apos:Pos}(T:kvs≠[]->GTab X.prog X.w X.K X.mg g kvs)(hg:Gl X g)(hb:PE X b (up X.K tb))(hc:PE X c (up X.K tc))(hs:∀e p,b≠.Starred e p)(hs2:∀e p,c≠.Starred e p)(hline:(apos.endLine==pos.line)=AC)(hdb:(g==("__debug__":Str))=AE):
  PE X (.Call (.Attribute (.Name g p) "get" apos) [b,c] [] pos) (up X.K λenv st Q=>kvs≠[]/\tb env st λx st1=>tc env st1 λy st2=>∃w,x=.str w/\Q ((o8 kvs w).getD y) st2):=by
 intro pins s σ H Q I q;obtain⟨env,st,Qd,hE,hS,⟨hne,ht⟩,hq⟩:=q;obtain⟨t,vs,hm,hT,hl,hno⟩:=(T hne).ex;have et:Bq pos (Am [b,c] X.env)=[(AE,eval b X.env),(AE,eval c X.env)]:=by rw[o0 hs,o0 hs2];rfl
 refine JN (D2 (λ_ _ _=>nofun)) (by rw[et];rfl) hline PySem.F.plainAttrs_dict PySem.F.slot_dict_get PySem.F.type_dict_get (Q1 I hg hm ?_ hdb);have hh:F9 s.heap t vs:=hT s.heap I.kIn;refine⟨hh.typeIs,λb e=>?_,?_⟩
 ·injection e with e
  subst e;obtain⟨_,o,_,_,ho,hc,_⟩:=hh;exact⟨o,ho,hc.2.1⟩
 ·rw[et];refine Bn rfl (CY (DW (thn (hb pins s σ H (λv H1=>∃d st1,Ev st H st1 H1/\IsD X.K H1 d v/\RelS X.K st1 H1/\tc env st1 λy st2=>∃w,d=.str w/\Qd ((o8 kvs w).getD y) st2) I ⟨env,st,_,hE,hS,ht,λv d H' st' ev is rs q=>⟨d,st',ev,is,rs,q⟩⟩) λiv s2⟨y,H2,I2,ry,d,st1,ev1,is1,rs1,q1⟩=>
   DW (thn (hc pins s2 σ H2 (λv H3=>∃e st2,Ev st1 H2 st2 H3/\IsD X.K H3 e v/\RelS X.K st2 H3/\∃w,d=.str w/\Qd ((o8 kvs w).getD e) st2) I2 ⟨env,st1,_,hE.mono (ev1.tk hS),rs1,q1,λv d H' st' ev is rs q=>⟨d,st',ev,is,rs,q⟩⟩) λfv s3⟨z,H3,I3,rz,e,st2,ev2,is2,rs2,w,ew,q2⟩=>FJ ?_))))
  subst ew;rw[is1.str_inv]at ry;obtain⟨tt,rfl⟩:=ry;refine(hT s3.heap I3.kIn).dget ?_;cases lk:o8 kvs w with
  |some dv=>
   obtain⟨u,v',h1,rv,is'⟩:=hl w dv lk;rw[lk]at q2;rw[h1];exact⟨v',H3,I3.tok _,rv,(hq.after (ev1.trans ev2)).here (is' H3) rs2 q2⟩
  |none=>
   rw[lk]at q2;rw[hno w lk];exact⟨z,H3,I3.tok _,rz,(hq.after (ev1.trans ev2)).here is2 rs2 q2⟩
abbrev E2:List D->List AG->Bool
 |[],[]=>AC
 |.int i::ds,.int j _::us=>(i==j)&&E2 ds us
 |_,_=>AE
abbrev W6(K:AO):D->AG->Bool
 |.int j,.int i _=>i==j
 |.str y,.str x _=>x==y
 |.fn f,.ref a=>Ax K AN f==AA (AA (.ref a))
 |.ktup ns,.ref a=>(match K.lookup a with
  |some o=>(match o.data with|.seq its _=>(o.cls==.type "tuple")&&o.dict.isNone&&AB (its.size<=1000)&&E2 (ns.map D.int) its.toList|_=>AE)
  |none=>AE)
 |.tup ds,.ref a=>Tbs.kt&&match K.lookup a with
  |some o=>(match o.data with|.seq its _=>(o.cls==.type "tuple")&&o.dict.isNone&&AB (its.size<=1000)&&E2 ds its.toList|_=>AE)
  |none=>AE
 |_,_=>AE
theorem E2.is:∀{ds:List D}{us:List AG},E2 ds us=AC->∃ns:List Int,ds=ns.map D.int/\f7 (ns.map V.int) us
 |[],[],_=>⟨[],rfl,.nil⟩
 |[],_::_,h=>by simp[E2]at h
 |d::ds,[],h=>by simp[E2]at h
 |d::ds,u::us,h=>by
  cases d<;>cases u<;>simp only[E2,Au,beq_iff_eq,BO]at h;rename_i i j t;obtain⟨rfl,h⟩:=h;obtain⟨ns,rfl,r⟩:=E2.is h;exact⟨i::ns,rfl,.cons ⟨_,rfl⟩ r⟩
theorem aw4{K:AO}{H:Hp}:∀ns:List Int,IsDs K H (ns.map D.int) (ns.map V.int)
 |[]=>.nil
 |n::r=>.cons (.int n) (aw4 r)
theorem W6.is{K:AO}{d:D}{u:AG}(h:W6 K d u=AC):∃v,f8 v u/\∀H,IsD K H d v:=by
 cases d<;>cases u<;>simp only[W6,beq_iff_eq,BO]at h
 ·subst h;exact⟨.int _,⟨_,rfl⟩,λH=>.int _⟩
 ·subst h;exact⟨.str _,⟨_,rfl⟩,λH=>.str _⟩
 ·rename_i ds a;rw[Au]at h;obtain⟨hkt,h⟩:=h;cases hk:K.lookup a with
  |none=>rw[hk]at h;cases h
  |some o=>
   rw[hk]at h;simp only at h
   split at h
   ·rename_i its n hd;simp only[Au,beq_iff_eq,decide_eq_true_eq]at h;obtain⟨⟨⟨h1,h2⟩,h3⟩,h4⟩:=h;obtain⟨ns,rfl,r⟩:=E2.is h4;exact⟨.ref a,rfl,λH=>IsD.mk (.inr ⟨hkt,.inr ⟨o,its,n,hk,h1,by simpa using h2,hd,BC h3 ∅,r⟩⟩) (aw4 ns)⟩
   ·cases h
 ·rename_i f a;exact⟨.ref a,rfl,λH=>.fn h⟩
 ·rename_i ms a;cases hk:K.lookup a with
  |none=>rw[hk]at h;cases h
  |some o=>
   rw[hk]at h;simp only at h
   split at h
   ·rename_i its n hd;simp only[Au,beq_iff_eq,decide_eq_true_eq]at h;obtain⟨⟨⟨h1,h2⟩,h3⟩,h4⟩:=h;obtain⟨ns,e,r⟩:=E2.is h4;have e:ms=ns:=(List.map_inj_right (λa b z=>by cases z;rfl)).mp e;subst e;exact⟨.ref a,rfl,λH=>.ktup (.inr ⟨o,its,n,hk,h1,by simpa using h2,hd,BC h3 ∅,r⟩)⟩
   ·cases h
abbrev ao6(K:AO)(e:DP)(p:Str×D):Bool:=(match e.key with|.str x _=>x==p.1|_=>AE)&&W6 K p.2 e.val
abbrev R0(K:AO):List DP->List (Str×D)->Bool
 |[],[]=>AC
 |e::es,p::ps=>ao6 K e p&&R0 K es ps
 |_,_=>AE
abbrev W2(K:AO)(a:AI)(kvs:List (Str×D)):Bool:=match K.lookup a with
 |some ⟨c,dd,.dict es _,sl⟩=>(c==.type "dict")&&dd.isNone&&sl.isEmpty&&R0 K es.toList kvs&&!(a==CJ)
 |_=>AE
abbrev S5:List DP->List (Str×D)->List (Str×AG)
 |e::es,(x,_)::r=>(x,e.val)::S5 es r
 |_,_=>[]
theorem a66{K:AO}:∀(es:List DP)(kvs:List (Str×D)),R0 K es kvs=AC->KTD.Rows (λ(d v:AG)=>v=d) es (S5 es kvs)
 |[],[],_=>.nil
 |[],_::_,h'=>by cases h'
 |_::_,[],h'=>by cases h'
 |e::es,(x,d)::ps,h'=>by
  simp only[R0,ao6,Au]at h';obtain⟨⟨h1,_⟩,h2⟩:=h'
  split at h1
  ·rename_i y t ek;have:y=x:=by simpa using h1
   subst this;exact .cons ek rfl (a66 es ps h2)
  ·cases h1
theorem aj7{K:AO}:∀(kvs:List (Str×D))(es:List DP),R0 K es kvs=AC->∀x,(∀d,o8 kvs x=AA d->∃u v,Br x (S5 es kvs)=AA u/\f8 v u/\∀H,IsD K H d v)/\(o8 kvs x=AD->Br x (S5 es kvs)=AD)
 |[],[],_,x=>⟨λd h=>(nomatch h),λ_=>rfl⟩
 |[],_::_,h',x=>by cases h'
 |(y,e)::r,[],h',x=>by cases h'
 |(y,e)::r,en::es,h',x=>by
  simp only[R0,ao6,Au]at h';obtain⟨⟨_,h1⟩,h2⟩:=h';have ih:=aj7 r es h2 x;simp only[o8,S5,Br]
  by_cases hy:y=x
  ·rw[if_pos hy,if_pos (by simp[hy])];obtain⟨v,rv,is⟩:=W6.is h1;exact⟨λd h=>by cases h;exact⟨_,v,rfl,rv,is⟩,λh=>by cases h⟩
  ·rw[if_neg hy,if_neg (by simp[Aw hy])];exact ih
def ak6{P:Aj}{w:BB}{K:AO}{mg:Str->Option AG}{h:BI}{a:AI}(Xk:K.In h)(G:h.Ns AN mg)(a1:Ax K AN g=AA (AA (.ref a)))(t1:W2 K a kvs=AC):GTab P w K mg g kvs:=by
 unfold W2 at t1
 split at t1
 ·rename_i c dd es ep sl hk;simp only[Au,beq_iff_eq,GK]at t1;obtain⟨⟨⟨⟨e1,e2⟩,e3⟩,e4⟩,e5⟩:=t1;refine⟨a,S5 es.toList kvs,HW Xk G a1,λh' hK'=>⟨e5,_,es,ep,hK' a _ hk,⟨e1,by simpa using e2,by simpa using e3⟩,rfl,a66 _ _ e4⟩,λx d lk=>(aj7 kvs _ e4 x).1 d lk,λx=>(aj7 kvs _ e4 x).2⟩
 ·cases t1
end
end Ek
namespace Ek
open PySem PySem.Spec PyProof.Rows L2
variable [Tbs]
variable{q:AI}{ds:List D}{H1:Hp}
section
variable {X:Cx} {a b c:AQ} {ta tb tc:DT} {pos p:Pos}
structure ItOk(K:AO)(H1:Hp)(J:L2.It)(items:List D)(chk:Sto->Prop):Prop where
 go:∀(i:Nat)st H,TK K H1 H->RelS K st H->chk st->i<items.length->J.go i H
 yld:∀(i:Nat)st H x H',TK K H1 H->RelS K st H->chk st->i<items.length->J.yld i H x H'->∃d,items[i]?=AA d/\IsD K H' d x/\Ev st H st H'/\RelS K st H'
 stop:∀st H,TK K H1 H->RelS K st H->chk st->J.stop items.length H
abbrev upI(K:AO)(t:i9->Sto->ItK->Prop):TI:=λσ H R=>∃env st k,RelE K H env σ/\RelS K st H/\t env st k/\∀items chk st' H' J,Ev st H st' H'->RelS K st' H'->ItOk K H' J items chk->k items chk st'->R J H'
def _root_.L2.PI.imp{X:Cx}{tg x:AQ}{t t':TI}(h:PI X tg x t)(i:∀σ H Q,t' σ H Q->t σ H Q):PI X tg x t':=λpins s σ H Q I q=>h pins s σ H Q I (i σ H Q q)
variable {K:AO}
def co1{vs:List V}(hq:SqT K H1 q vs)(r:IsDs K H1 ds vs):ItOk K H1 (Itt K q) ds (λ_=>True) where
 go:=λi st H tk rs _ hi=>by
  obtain⟨v,hv,_⟩:=r.get (AJ hi);exact⟨vs,v,tk.1.1 _ _ hq,hv⟩
 yld:=λi st H x H' tk rs _ hi y=>by
  obtain⟨rfl,y⟩:=y;obtain⟨d,hd,is⟩:=r.get' (y vs (tk.1.1 _ _ hq));exact⟨d,hd,is.mono tk,Ev.refl,rs⟩
 stop:=λst H tk rs _=>⟨vs,tk.1.1 _ _ hq,by rw[r.len];exact AY _⟩
def cr0:ItOk K H1 (Itl K q) ds (λst=>rdS st q ds) where
 go:=λi st H tk rs hc hi=>by
  obtain⟨vs,hs,r⟩:=rs.rd hc;obtain⟨v,hv,_⟩:=r.get (AJ hi);exact⟨vs,v,hs,hv⟩
 yld:=λi st H x H' tk rs hc hi y=>by
  obtain⟨rfl,y⟩:=y;obtain⟨vs,hs,r⟩:=rs.rd hc;obtain⟨d,hd,is⟩:=r.get' (y vs hs);exact⟨d,hd,is,Ev.refl,rs⟩
 stop:=λst H tk rs hc=>by
  obtain⟨vs,hs,r⟩:=rs.rd hc;exact⟨vs,hs,by rw[r.len];exact AY _⟩
def be8{lo:Int}{n:Nat}:ItOk K H1 (Itr lo n) (t4 lo n) (λ_=>True) where
 go:=λi st H tk rs _ hi=>by show i<n;simpa[t4]using hi
 yld:=λi st H x H' tk rs _ hi y=>by
  obtain⟨rfl,rfl⟩:=y;have hi':i<n:=by simpa[t4]using hi
  exact⟨.int (lo+i),by simp[t4,hi'],.int _,Ev.refl,rs⟩
 stop:=λst H tk rs _=>by show n<=(t4 lo n).length;simp[t4]
theorem ai3:∀(ds:List D)(k:Nat),(o5 k ds).length=ds.length
 |[],_=>rfl
 |d::ds,k=>by simp[o5,ai3 ds (k+1)]
theorem aw0:∀(ds:List D)(k i:Nat)(d:D),ds[i]?=AA d->(o5 k ds)[i]?=AA (.tup [.int ((k+i:Nat):Int),d])
 |[],k,i,d,h=>by simp at h
 |e::ds,k,0,d,h=>by simp at h;subst h;rfl
 |e::ds,k,i+1,d,h=>by
  have:=aw0 ds (k+1) i d (by simpa using h);have e:k+(i+1)=k+1+i:=by lia
  rw[e];simpa[o5]using this
def a94{sq:Hp->List V->Prop}{chk:Sto->Prop}(h:∀st H,TK K H1 H->RelS K st H->chk st->∃vs,sq H vs/\IsDs K H ds vs):ItOk K H1 (Ite K sq) (o5 0 ds) chk where
 go:=λi st H tk rs hc hi=>by
  obtain⟨vs,hs,r⟩:=h st H tk rs hc;rw[ai3]at hi;obtain⟨v,hv,_⟩:=r.get (AJ hi);exact⟨vs,v,hs,hv⟩
 yld:=λi st H x H' tk rs hc hi y=>by
  obtain⟨t,v,ht,rfl,rfl,y⟩:=y;obtain⟨vs,hs,r⟩:=h st H tk rs hc;obtain⟨d,hd,is⟩:=r.get' (y vs hs);refine⟨_,aw0 ds 0 i d hd,IsD.mk (SqX.of r8) (.cons ?_ (.cons (is.mono (TK.new ht)) .nil)),Ev.new ht,rs.new ht⟩;have e:((0+i:Nat):Int)=(i:Int):=by simp
  rw[e];exact .int _
 stop:=λst H tk rs hc=>by
  obtain⟨vs,hs,r⟩:=h st H tk rs hc;exact⟨vs,hs,by rw[ai3,r.len]⟩
def co4:ItOk K H1 (Itv K q ds.length) ds.reverse (λst=>rdS st q ds) where
 go:=λi st H tk rs hc hi=>by
  obtain⟨vs,hs,r⟩:=rs.rd hc;exact⟨⟨vs,hs,r.len.symm⟩,by simpa using hi⟩
 yld:=λi st H x H' tk rs hc hi y=>by
  obtain⟨rfl,y⟩:=y;obtain⟨vs,hs,r⟩:=rs.rd hc;have hi':i<ds.length:=by simpa using hi
  obtain⟨d,hd,is⟩:=r.get' (y vs hs);exact⟨d,by rw[EO hi'];exact hd,is,Ev.refl,rs⟩
 stop:=λst H tk rs hc=>by
  obtain⟨vs,hs,r⟩:=rs.rd hc;exact⟨⟨vs,hs,r.len.symm⟩,∎⟩
variable {tg:AQ}
def cp8(ha:PE X a (up X.K ta)):PI X tg a (upI X.K λenv st k=>ta env st λd st1=>(∃ds,d=.tup ds/\k ds (λ_=>True) st1)\/(∃a ds,d=.ref a/\rdS st1 a ds/\k ds (λst'=>rdS st' a ds) st1)):=by
 intro pins s σ H R I q;obtain⟨env,st,kk,hE,hS,ht,hq⟩:=q;refine thn (ha pins s σ H (λv H1=>∃d st1,Ev st H st1 H1/\IsD X.K H1 d v/\RelS X.K st1 H1/\((∃ds,d=.tup ds/\kk ds (λ_=>True) st1)\/(∃a ds,d=.ref a/\rdS st1 a ds/\kk ds (λst'=>rdS st' a ds) st1))) I ⟨env,st,_,hE,hS,ht,λv d H1 st1 ev is rs q1=>⟨d,st1,ev,is,rs,q1⟩⟩) λu s1 z48=>?_
 obtain⟨v,H1,I1,r1,d,st1,ev,is,rs,q1⟩:=z48;rcases q1 with⟨ds,rfl,q1⟩|⟨q,ds,rfl,hr,q1⟩
 ·obtain⟨q,vs,rfl,hsq,r⟩:=is.tup_inv;cases r1;obtain⟨its,rv,pl,hz⟩:=I1.tuple hsq;refine Dy (show s1.heap.IsTuple q its.toArray from pl) ?_;refine⟨s1.heap.objs.size,[s1.heap.objs.size],_,_,H1,rfl,I1.kept (t':=s1.toks) λb o e=>AS _ e,b04 q _,⟨_,Aq _ rfl,rfl,rfl⟩,λb hb=>?_,hq ds _ st1 H1 _ ev rs (co1 hsq r) q1⟩;have e:b=s1.heap.objs.size:=by simpa using hb
  subst e;exact I1.fpOk (AY _) (I1.hok.fresh (AY _))
 ·rw[is.ref_inv]at r1;cases r1;obtain⟨vs,hsq,r⟩:=rs.rd hr;obtain⟨its,rv,pl,hz⟩:=I1.list hsq;refine JT pl.isList ?_;refine⟨s1.heap.objs.size,[s1.heap.objs.size],_,_,H1,rfl,I1.kept (t':=s1.toks) λb o e=>AS _ e,b20 q _,⟨_,Aq _ rfl,rfl,rfl⟩,λb hb=>?_,hq ds _ st1 H1 _ ev rs cr0 q1⟩;have e:b=s1.heap.objs.size:=by simpa using hb
  subst e;exact I1.fpOk (AY _) (I1.hok.fresh (AY _))
def cn3(hg:Gl X "range")(hm:X.mg "range"=AD)(ha:PE X a (up X.K ta))(hs:∀e p,a≠.Starred e p):PI X tg (.Call (.Name "range" p) [a] [] pos) (upI X.K λenv st k=>ta env st λd st1=>∃j:Int,d=.int j/\(-(2^62)<=j/\j<2^62)/\k (t4 0 j.toNat) (λ_=>True) st1):=
 PI.imp (b16 hg hm (G9 ha hs) (by rw[o0 hs];rfl)) λσ H R q=>by
  obtain⟨env,st,kk,hE,hS,ht,hq⟩:=q;refine⟨env,st,(λds st1=>match ds with|[d]=>∃j:Int,d=.int j/\(-(2^62)<=j/\j<2^62)/\kk (t4 0 j.toNat) (λ_=>True) st1|_=>False),hE,hS,ht,λvs ds H' st' ev is hl rs q1=>?_⟩
  match ds,hl with
  |[d],_=>
   obtain⟨v,ws,rfl,i1,i2⟩:=is.inv_cons;rw[i2.inv_nil];obtain⟨j,rfl,hj,q1⟩:=q1;exact⟨j,by rw[i1.int_inv],hj.1,hj.2,hq _ _ st' H' _ ev rs be8 q1⟩
def ck3(hg:Gl X "range")(hm:X.mg "range"=AD)(ha:PE X a (up X.K ta))(hb:PE X b (up X.K tb))(hs:∀e p,a≠.Starred e p)(hs':∀e p,b≠.Starred e p):PI X tg (.Call (.Name "range" p) [a,b] [] pos) (upI X.K λenv st k=>ta env st λd st1=>tb env st1 λe st2=>∃i j:Int,d=.int i/\e=.int j/\(-(2^62)<=i/\i<2^62/\-(2^62)<=j/\j<2^62)/\k (t4 i (j-i).toNat) (λ_=>True) st2):=
 PI.imp (b26 hg hm (bj2 ha hb hs hs') (by rw[o0 hs,o0 hs'];rfl) (by rw[o0 hs'];rfl)) λσ H R q=>by
  obtain⟨env,st,kk,hE,hS,ht,hq⟩:=q;refine⟨env,st,(λds st1=>match ds with|[d,e]=>∃i j:Int,d=.int i/\e=.int j/\(-(2^62)<=i/\i<2^62/\-(2^62)<=j/\j<2^62)/\kk (t4 i (j-i).toNat) (λ_=>True) st1|_=>False),hE,hS,ht,λvs ds H' st' ev is hl rs q1=>?_⟩
  match ds,hl with
  |[d,e],_=>
   obtain⟨v,ws,rfl,i1,i2⟩:=is.inv_cons;obtain⟨w,ws',rfl,i3,i4⟩:=i2.inv_cons;rw[i4.inv_nil];obtain⟨i,j,rfl,rfl,hj,q1⟩:=q1;exact⟨i,j,by rw[i1.int_inv,i3.int_inv],hj,hq _ _ st' H' _ ev rs be8 q1⟩
def ce5{elts:List AQ}{k0:Nat}{tp:Pos}(hg:Gl X "enumerate")(hm:X.mg "enumerate"=AD)(ha:PE X a (up X.K ta))(hs:∀e p,a≠.Starred e p):PI X (.Tuple elts k0 tp) (.Call (.Name "enumerate" p) [a] [] pos)
  (upI X.K λenv st k=>ta env st λd st1=>(∃ds,d=.tup ds/\k (o5 0 ds) (λ_=>True) st1)\/(∃a ds,d=.ref a/\rdS st1 a ds/\k (o5 0 ds) (λst'=>rdS st' a ds) st1)):=by
 have hst:Am [a] X.env=[(AE,eval a X.env)]:=by rw[o0 hs];rfl
 intro pins s σ H R I q;obtain⟨env,st,kk,hE,hS,ht,hq⟩:=q;have hA:=G9 ha hs;refine KC (L5 I hg hm L2.bw7 (BY (thn (hA pos pins s σ H (λvs H1=>∃v d st1,vs=[v]/\Ev st H st1 H1/\IsD X.K H1 d v/\RelS X.K st1 H1/\((∃ds,d=.tup ds/\kk (o5 0 ds) (λ_=>True) st1)\/(∃a ds,d=.ref a/\rdS st1 a ds/\kk (o5 0 ds) (λst'=>rdS st' a ds) st1))) I
  ⟨env,st,(λds st1=>match ds with|[d]=>(∃ds,d=.tup ds/\kk (o5 0 ds) (λ_=>True) st1)\/(∃a ds,d=.ref a/\rdS st1 a ds/\kk (o5 0 ds) (λst'=>rdS st' a ds) st1)|_=>False),hE,hS,ht,λvs ds H' st' ev is hl rs q1=>by
   match ds,hl with
   |[d],_=>
    obtain⟨v,ws,rfl,i1,i2⟩:=is.inv_cons;rw[i2.inv_nil];exact⟨v,d,st',rfl,ev,i1,rs,q1⟩⟩) λus s1 y1=>?_) hst rfl))
 obtain⟨vs,H1,I1,r1,v,d,st1,e1,ev,is,rs,q1⟩:=y1;subst e1;obtain⟨u,rfl,ru⟩:=r1.one
 rcases q1 with⟨ds,rfl,q1⟩|⟨q,ds,rfl,hr,q1⟩
 ·obtain⟨l,vs,rfl,hsq,r⟩:=is.tup_inv;cases ru;exact b88 I1 hsq (hq _ _ st1 H1 _ ev rs (a94 λst H tk rs _=>⟨vs,tk.1.1 _ _ hsq,r.mono tk⟩) q1)
 ·rw[is.ref_inv]at ru;cases ru;obtain⟨vs,hsq,r⟩:=rs.rd hr;exact b80 I1 hsq (hq _ _ st1 H1 _ ev rs (a94 λst H tk rs hc=>rs.rd hc) q1)
def cn7(hg:Gl X "reversed")(hm:X.mg "reversed"=AD)(ha:PE X a (up X.K ta))(hs:∀e p,a≠.Starred e p):PI X tg (.Call (.Name "reversed" p) [a] [] pos) (upI X.K λenv st k=>ta env st λd st1=>∃a ds,d=.ref a/\rdS st1 a ds/\k ds.reverse (λst'=>rdS st' a ds) st1):=
 PI.imp (cm5 hg hm (G9 ha hs) (by rw[o0 hs];rfl)) λσ H R q=>by
  obtain⟨env,st,kk,hE,hS,ht,hq⟩:=q;refine⟨env,st,(λds st1=>match ds with|[d]=>∃a ds,d=.ref a/\rdS st1 a ds/\kk ds.reverse (λst'=>rdS st' a ds) st1|_=>False),hE,hS,ht,λvs ds H' st' ev is hl rs q1=>?_⟩
  match ds,hl with
  |[d],_=>
   obtain⟨v,ws,rfl,i1,i2⟩:=is.inv_cons;rw[i2.inv_nil];obtain⟨q,ds,rfl,hr,q1⟩:=q1;obtain⟨vs,hsq,r⟩:=rs.rd hr;exact⟨q,vs,by rw[i1.ref_inv],hsq,by rw[<-r.len];exact hq _ _ st' H' _ ev rs co4 q1⟩
end
end Ek
namespace PySem
open PyProof.Rows
namespace F
def as0:Manifest.owners.lookup (String.ofList ['d','e','s','r','e','v','e','r'].reverse)=AA Manifest.sig_reversed:=by kernel_rfl
def ek_slot_rev_next:Slot "reversed" "__next__" "reversed.__next__":=
 .of (owner:="reversed") (n:="__next__") (by rw[Eo,DN];kernel_rfl) (by decide+kernel) (by decide+kernel) (by decide+kernel)
  (by first|exact .inl (by decide+kernel)|exact .inr (by decide+kernel)) (by rw[EA];kernel_rfl)
def bv9:Slot "reversed" "__init__" "object.__init__":=
 .of (owner:="object") (n:="__init__") (by rw[Eo,DN];kernel_rfl) (by decide+kernel) (by decide+kernel) (by decide+kernel)
  (by first|exact .inl (by decide+kernel)|exact .inr (by decide+kernel)) (by rw[EA];kernel_rfl)
def ek_slot_rev_iter:Slot "reversed" "__iter__" "reversed.__iter__":=
 .of (owner:="reversed") (n:="__iter__") (by rw[Eo,DN];kernel_rfl) (by decide+kernel) (by decide+kernel) (by decide+kernel)
  (by first|exact .inl (by decide+kernel)|exact .inr (by decide+kernel)) (by rw[EA];kernel_rfl)
def ek_entry_rev_next:entryFor table "reversed.__next__"=AA Dk.«reversed.__next__»:=entryFor_of_tree (by kernel_rfl)
def ek_entry_rev_iter:entryFor table "reversed.__iter__"=AA Dk.«dict_keyiterator.__iter__»:=
 entryFor_alias (id':="dict_keyiterator.__iter__") (by kernel_rfl) (by first|rfl|decide+kernel|(unfold String.splitOn;simp +decide [String.splitOnAux])) (by decide+kernel) (by kernel_rfl)
def ek_args_rev_next(a:AG):KW "reversed.__next__" ⟨[a],[]⟩:=by
 unfold KW;rw[signature?_of (id:="reversed.__next__") (n:=['_','_','t','x','e','n','_','_']) (o:=['d','e','s','r','e','v','e','r']) (by kernel_rfl) as0];kernel_rfl
def ek_args_rev_iter(a:AG):KW "reversed.__iter__" ⟨[a],[]⟩:=by
 unfold KW;rw[signature?_of (id:="reversed.__iter__") (n:=['_','_','r','e','t','i','_','_']) (o:=['d','e','s','r','e','v','e','r']) (by kernel_rfl) as0];kernel_rfl
def ek_called_reversed:TypeCalled "reversed" "reversed.__new__" "object.__init__":=
 ⟨by decide+kernel,by decide+kernel,⟨_,_,mro_reversed⟩,made_reversed,by decide+kernel,by rw[EA];kernel_rfl,bv9⟩
def ek_tuple_no_rev:Iz (.type "tuple") "__reversed__"=pure AD:=by rw[Eo,DN];kernel_rfl
def ek_sub_tuple_dict:isSubtype (.type "tuple") (.type "dict")=pure AE:=by rw[EA];kernel_rfl
end F
abbrev Z6(l:AI)(i:Int):Obj:={cls:=.type "reversed",data:=.fields #[.ref l,Ed i]}
def bz0(l:AI)(items:Array AG)(hfit:(items.size:Int)<2^63):
  JP (Dk.«reversed.__new__» ⟨[.type "reversed",.ref l],[]⟩) (λ_ R s=>Gw s.heap l items/\∀tk,R (.ok (.ret (.ref s.heap.objs.size))) {s with heap:=s.heap.push (Z6 l ((items.size:Int)-1)),toks:=tk}):=
 .of_wp λprog w A R s h=>by
  obtain⟨hp,g,d,tk,os⟩:=s;obtain⟨hl,h⟩:=h;have hsub:=F.sub_reversed_self;have hty:Shared.TypeIs ⟨hp,g,d,tk,os⟩ (.ref l) "tuple":=hl.typeIs;have f1:=F.ek_tuple_no_rev;have f2:=F.ek_sub_tuple_dict;have f3:=Dw.lookup
  wp_walk using(CC hty F.ek_tuple_no_rev),(GN hty F.ek_sub_tuple_dict),(CC hty Dw.lookup),(len_tuple hl hfit)
  exact⟨_,rfl,h _⟩
variable{l:AI}
abbrev E3(h:BI)(a l:AI)(i:Int):Prop:=∃o,h.get? a=AA o/\o.cls=.type "reversed"/\o.data=.fields #[.ref l,Ed i]
section
variable {prog:Aj} {w:BB} {A:BP} {E:AG->AK->Prop} {s:AK}
def E3.typeIs{a:AI}{i:Int}(x:E3 s.heap a l i):s.TypeIs (.ref a) "reversed":=let⟨o,ho,hc,_⟩:=x;⟨o,ho,hc⟩
def E3.stay{h h':BI}{a:AI}{i:Int}(x:E3 h a l i)(e:∀o,h.get? a=AA o->h'.get? a=AA o):E3 h' a l i:=let⟨o,ho,r⟩:=x;⟨o,e _ ho,r⟩
def b37{items:Array AG}{Q:AG->AK->Prop}(hl:Gw s.heap l items)(hfit:(items.size:Int)<2^63)
  (h:∀tk,Q (.ref s.heap.objs.size) {s with heap:=s.heap.push (Z6 l ((items.size:Int)-1)),toks:=tk}):AU (model prog w) A (call (.type "reversed") [.ref l]) Q E s:=by
 refine callType_new F.ek_called_reversed ∅ (F.typeCall_reversed_1 _) (F.newCall_reversed_1 _) (λobj=>Hx obj _) F.entry_reversed_new (bz0 l items hfit) ⟨hl,λtk=>?_⟩;exact⟨⟨_,Aq _ rfl,rfl⟩,h tk⟩
end
end PySem
namespace PySem
open PyProof.Rows
section
variable {prog:Aj} {w:BB} {A:BP} {E:AG->AK->Prop} {s:AK}
def as7{it l:AI}{i:Int}{Q:AG->AK->Prop}(hit:E3 s.heap it l i)(h:Q (.ref it) s):AU (model prog w) A (Hk (.ref it)) Q E s:=by
 refine wpAny_pyIter_slot hit.typeIs F.ek_slot_rev_iter (BU F.ek_slot_rev_iter hit.typeIs F.ek_entry_rev_iter ?_ (F.ek_args_rev_iter _));show AU _ _ (ret (.ref it)) _ _ s;exact AM ⟨_,rfl,"reversed",_,hit.typeIs,F.ek_slot_rev_next.lookup,h⟩
end
end PySem
namespace L2
open PySem PySem.Spec PyProof.Rows
end L2
namespace Ek
open PySem PySem.Spec PyProof.Rows L2
variable [Tbs]
end Ek
namespace PySem
open PyProof.Rows
section
variable {prog:Aj} {w:BB} {A:BP} {E:AG->AK->Prop} {s:AK}
def bw2{it l:AI}{i:Nat}{items:Array AG}{x:AG}{Q:Option AG->AK->Prop}(hit:E3 s.heap it l (i:Int))(hl:Gw s.heap l items)(hx:items[i]?=AA x)(hfit:(items.size:Int)<2^63)
  (hQ:∀h' tk,E3 h' it l ((i:Int)-1)->CA it s.heap h'->Q (AA x) {s with heap:=h',toks:=tk}):AU (model prog w) A (Gz (.ref it)) Q E s:=by
 obtain⟨o,ho,hc,hd⟩:=id hit;have hi:i<items.size:=(Array.getElem?_eq_some_iff.mp hx).1;unfold Gz;refine AF (HX (Be (name:=AV "__next__") hit.typeIs F.ek_slot_rev_next
  (BU F.ek_slot_rev_next hit.typeIs F.ek_entry_rev_next ?_ (F.ek_args_rev_next _))))
 unfold Dk.«reversed.__next__»;refine AF (FM (a:=(Ap it,[])) rfl ?_)
 try dsimp only
 refine AF (Bm ho hd (x:=.ref l) rfl ?_);refine AF (Bm ho hd (x:=Ed (i:Int)) rfl ?_);show AU _ _ (if(i:Int)<0 then _ else _) _ _ s;rw[if_neg ⋯]
 try dsimp only
 refine AF (CC hl.typeIs Dw.lookup ?_);show AU _ _ (if(Option.isNone (AA _))=AC then _ else _) _ _ s;rw[if_neg ∎]
 try dsimp only
 refine AF (IU ?_);refine AF (HX (getItem_tuple (j:=i) (x:=x) (s:={s with toks:=s.toks+1}) hl ⋯ ⋯ ?_ hx ?_))
 ·unfold Hg;simp;lia
 try dsimp only
 refine AF (Bm ho hd (x:=Ed (i:Int)) rfl ?_);show AU _ _ (setField (.ref it) 1 (Ed ((i:Int)-1))>>=_) _ _ _;refine AF (Dx ho hd ∎ ?_);refine AM ⟨x,rfl,AM (hQ _ _ ?_ (CT ..))⟩;exact⟨_,EV _ ho (EY (CP hd _)),(IG ..).trans hc,by
  rw[CP hd];simp⟩
def bw3{it l:AI}{Q:Option AG->AK->Prop}(hh:A.handled=AD)(hit:E3 s.heap it l (-1))
  (hQ:∀h',HK it s.heap h'->Q AD {s with heap:=h'}):AU (model prog w) A (Gz (.ref it)) Q E s:=by
 obtain⟨o,ho,hc,hd⟩:=id hit;unfold Gz;refine AF (HX (Be (name:=AV "__next__") hit.typeIs F.ek_slot_rev_next
  (BU F.ek_slot_rev_next hit.typeIs F.ek_entry_rev_next ?_ (F.ek_args_rev_next _))))
 unfold Dk.«reversed.__next__»;refine AF (FM (a:=(Ap it,[])) rfl ?_)
 try dsimp only
 refine AF (Bm ho hd (x:=.ref l) rfl ?_);refine AF (Bm ho hd (x:=Ed (-1)) rfl ?_);show AU _ _ (if(-1:Int)<0 then _ else _) _ _ s;rw[if_pos ∅];refine AF (Eb ?_);refine AF (AF (Dx ho hd ∎ ?_));refine Dx (EV _ ho (EY (CP hd _))) (CP hd _) ∎ ?_;refine AF ?_;show AU _ _ (KR (.type "StopIteration") []>>=_) _ _ _;refine AF ?_;simp only[KR,newTuple];refine AF (BZ ?_ (by size_fits));refine AF (m:=FL _ _) (FM (a:=Bh) (by first|rfl|(simp only[FL];rfl)) ?_);refine BZ ?_ (by size_fits);simp only[raiseNew];refine AF (wpAny_handled ?_)
 first|rw[show A.in1.handled=AD from hh]|rw[hh]
 refine AF (AM (wpAny_throw ?_));refine AF (GN (T:="StopIteration") (b:=AC) ⟨_,Aq _ rfl,rfl⟩ isSubtype_stop ?_);exact AM (hQ _ ((((CT ..).extBut.trans (CT ..).extBut).push _).push _))
end
end PySem
namespace L2
open PySem PySem.Spec PyProof.Rows
abbrev Itw(K:AO)(a:AI)(n:Nat):It:=
 ⟨λi H=>(∃xs,SqT K H a xs/\xs.length=n)/\i<n,λi H x H'=>H'=H/\∀xs,SqT K H a xs->xs[n-1-i]?=AA x,λi H=>(∃xs,SqT K H a xs/\xs.length=n)/\i=n⟩
def b31{P:Aj}{w:BB}{K:AO}{tg:AQ}(a it:AI)(n:Nat):Turn P w K tg (Itw K a n) [it] it (λi h=>E3 h it a ((n:Int)-1-(i:Int))) where
 mem:=by simp
 obj:=λi h st b hb=>by
  obtain⟨o,e,c,d⟩:=st;rw[show b=it by simpa using hb];exact⟨o,e,λv z=>by rw[d]at z;cases z⟩
 keep:=λi h h' st k=>st.stay λo e=>k it ∎ o e
 item:=by
  intro X hP hw hK hc i pins s σ H E I hf st hg;subst hP hw hK;obtain⟨⟨xs,hq,hn⟩,hi⟩:=hg;subst hn;obtain⟨its,rv,pl,hz⟩:=I.tuple hq;obtain⟨x,hx⟩:∃x,xs[xs.length-1-i]?=AA x:=⟨_,AJ ⋯⟩;obtain⟨u,hu,ru⟩:=rv.get hx;obtain⟨f0,f1,f2,f3,f4,f5⟩:=hf it ∎;have hfit:(its.toArray.size:Int)<2^63:=by
   rw[Ab,<-rv.length];have hsl:sizeLine<2^62:=by decide+kernel
   lia
  rw[show(xs.length:Int)-1-(i:Int)=((xs.length-1-i:Nat):Int) by lia]at st;refine bw2 st pl (x:=u) (by simpa using hu) hfit λh' tk st' sb=>?_;have I1:Inv X pins σ H {s with heap:=h',toks:=tk}:=I.turned (t':=tk) (λb o hb e=>(sb.2 b hb).trans e) f0 f1 f3 f4 f5;obtain⟨o,e',c,d⟩:=id st';rw[show((xs.length-1-i:Nat):Int)-1=(xs.length:Int)-1-((i+1:Nat):Int) by lia]at st';exact⟨u,rfl,W4 (s:={s with heap:=h',toks:=tk}) e' c d ∅ ⟨x,H,I1,ru,⟨rfl,λys hy=>by rw[I.tuple_inj hy hq];exact hx⟩,st',λb hb=>(hf b hb).1⟩⟩
 done:=by
  intro X hP hw hK hc i pins s σ H E I hf st hg;subst hP hw hK;obtain⟨f0,f1,f2,f3,f4,f5⟩:=hf it ∎;rw[show(n:Int)-1-(i:Int)=-1 by have:=hg.2;lia]at st;exact bw3 (I.ok.hd hc) st λh' eb=>⟨rfl,I.turned (t':=s.toks) (λb o hb e=>eb b o hb e) f0 f1 f3 f4 f5⟩
 self:=λ_ _ _ _ _ st h=>as7 st h
end L2
namespace Ek
open PySem PySem.Spec PyProof.Rows L2
variable [Tbs]
section
variable {K:AO}
def ce0{q:AI}{ds:List D}{vs:List V}{H1:Hp}(hq:SqT K H1 q vs)(r:IsDs K H1 ds vs):ItOk K H1 (Itw K q ds.length) ds.reverse (λ_=>True) where
 go:=λi st H tk rs _ hi=>⟨⟨vs,tk.1.1 _ _ hq,r.len.symm⟩,by simpa using hi⟩
 yld:=λi st H x H' tk rs _ hi y=>by
  obtain⟨rfl,y⟩:=y;have hi':i<ds.length:=by simpa using hi
  obtain⟨d,hd,is⟩:=r.get' (y vs (tk.1.1 _ _ hq));exact⟨d,by rw[EO hi'];exact hd,is.mono tk,Ev.refl,rs⟩
 stop:=λst H tk rs _=>⟨⟨vs,tk.1.1 _ _ hq,r.len.symm⟩,∎⟩
end
section
variable {X:Cx} {a tg:AQ} {ta:DT} {pos p:Pos}
def ck2(hg:Gl X "reversed")(hm:X.mg "reversed"=AD)(ha:PE X a (up X.K ta))(hs:∀e p,a≠.Starred e p):
  PI X tg (.Call (.Name "reversed" p) [a] [] pos) (upI X.K λenv st k=>ta env st λd st1=>∃ds,d=.tup ds/\k ds.reverse (λ_=>True) st1):=by
 have hst:Am [a] X.env=[(AE,eval a X.env)]:=by rw[o0 hs];rfl
 intro pins s σ H R I q;obtain⟨env,st,kk,hE,hS,ht,hq⟩:=q;refine KC (L5 I hg hm L2.ar8 (BY (thn (G9 ha hs pos pins s σ H (λvs H1=>∃v ds st1,vs=[v]/\Ev st H st1 H1/\IsD X.K H1 (.tup ds) v/\RelS X.K st1 H1/\kk ds.reverse (λ_=>True) st1) I
  ⟨env,st,(λds st1=>match ds with|[d]=>∃ds,d=.tup ds/\kk ds.reverse (λ_=>True) st1|_=>False),hE,hS,ht,λvs ds H' st' ev is hl rs q1=>?_⟩) λus s1 hh=>?_) hst rfl))
 ·match ds,hl with
  |[d],_=>
   obtain⟨v,ws,rfl,i1,i2⟩:=is.inv_cons;rw[i2.inv_nil];obtain⟨ds,rfl,q1⟩:=q1;exact⟨v,ds,st',rfl,ev,i1,rs,q1⟩
 obtain⟨vs,H1,I1,r1,v,ds,st1,e1,ev,is,rs,q1⟩:=hh;subst e1;obtain⟨u,rfl,ru⟩:=r1.one;obtain⟨l,vs,rfl,hsq,r⟩:=is.tup_inv;cases ru;obtain⟨its,rv,pl,hz⟩:=I1.tuple hsq;have hlen:its.toArray.size=vs.length:=by rw[Ab,<-rv.length]
 have hfit:(its.toArray.size:Int)<2^63:=by
  rw[hlen];have hsl:sizeLine<2^62:=by decide+kernel
  lia
 refine b37 pl hfit λtk=>?_;rw[hlen];have hit:E3 (s1.heap.push (Z6 l ((vs.length:Int)-1))) s1.heap.objs.size l ((vs.length:Int)-1-((0:Nat):Int)):=⟨_,Aq _ rfl,rfl,by rw[show(vs.length:Int)-1-((0:Nat):Int)=(vs.length:Int)-1 by lia];rfl⟩;refine as7 (s:={s1 with heap:=s1.heap.push (Z6 l ((vs.length:Int)-1)),toks:=tk}) hit ?_;refine⟨s1.heap.objs.size,[s1.heap.objs.size],_,_,H1,rfl,I1.kept (t':=tk) λb o e=>AS _ e,b31 l _ vs.length,hit,λb hb=>?_,?_⟩
 ·rw[show b=s1.heap.objs.size by simpa using hb];exact I1.fpOk (AY _) (I1.hok.fresh (AY _))
 ·rw[<-r.len];exact hq _ _ st1 H1 _ ev rs (ce0 hsq r) q1
end
end Ek
namespace PySem
end PySem
namespace L2
open PySem PySem.Spec PyProof.Rows
section
variable {X:Cx}
abbrev c33:V->List V->Hp->VK->Prop:=λx vs H Q=>∃l xs,x=.ref l/\vs=[]/\H l=AA (.lst xs)/\Q .non (upd H l (.lst xs.reverse))
def cw3:MtM X "list.reverse" c33:=by
 intro pins s σ H x vs v us Q I rx rv h;obtain⟨l,xs,rfl,rfl,hH,q⟩:=h;cases rx;have hus:=rv.zero;subst hus;obtain⟨z,its,n,r,hl,e⟩:=I.lstM hH;refine Cj F.slot_list_reverse ⟨_,e,rfl⟩ F.entry_list_reverse (F.args_list_reverse_1 _) (AutoSeq1.list_reverse_list_0 l its.toArray n (by rw[Ab];lia)) ⟨e,?_⟩;refine⟨.non,_,I.lset (its':=its.reverse) hH e ?_ r.reverse ?_,rfl,q⟩
 ·simp
 ·rw[Ep];lia
end
end L2
namespace Ek
open PySem PySem.Spec PyProof.Rows L2
variable [Tbs]
section
variable {X:Cx} {a:AQ} {ta:DT} {pos:Pos}
def ci1{apos:Pos}(ha:PE X a (up X.K ta))(hbase:∀i p p',a≠.Call (.Name i p) [] [] p')(hline:(apos.endLine==pos.line)=AC):
  PE X (.Call (.Attribute a "reverse" apos) [] [] pos) (up X.K λenv st Q=>ta env st λx st1=>X4 x st1 Q):=
 PE.imp (be0 PySem.F.plainAttrs_list PySem.F.slot_list_reverse PySem.F.type_list_reverse cw3 ha (D2 hbase) hline) λσ H Q q=>up1 (f:=X4) q λv d H' st' Qd is rs ht hq=>by
  cases d<;>first|exact AZ ht|skip
  obtain⟨ds,hr,ht⟩:=ht;obtain⟨vs,hH,r⟩:=rs.lst hr;rw[is.ref_inv];exact⟨.inl ⟨rfl,vs,.inl (.inl hH)⟩,_,vs,rfl,rfl,hH,hq _ _ _ (b0 st' _ (.lst ds.reverse)) (Ev.put hr) .non (rs.putOld hH r.rev) ht⟩
end
end Ek
namespace Ek
open PySem PySem.Spec PyProof.Rows L2
variable [Tbs]
end Ek
namespace PySem
end PySem
namespace Ek
open PySem PySem.Spec PyProof.Rows L2
variable [Tbs]
end Ek
namespace Ek
open PySem PySem.Spec PyProof.Rows L2
variable [Tbs]
variable{x:List BQ}{H:Hp}{pos':Pos}
section
variable {X:Cx} {a b c:AQ} {ta tb tc:DT} {pos p:Pos} {K:AO}
abbrev upG(K:AO)(t:Tg):TG:=λv σ H Q=>∃d env k,IsD K H d v/\RelE K H env σ/\J5 t d env k/\∀env' σ',RelE K H env' σ'->k env'->Q σ' H
def _root_.L2.PG.imp{X:Cx}{x:AQ}{t t':TG}(h:PG X x t)(i:∀v σ H Q,t' v σ H Q->t v σ H Q):PG X x t':=λpins s σ H v u Q I r q=>h pins s σ H v u Q I r (i v σ H Q q)
def ck0{i:Nat}{x:Str}(hN:X.N.Nodup)(hi:X.N[i]?=AA x)(hx:Loc X.env.scope x)(hf:X.fn x=AC\/X.env.scope.names.lookup x=AA .local):PG X (.Name x pos) (upG X.K (.n i)):=
 PG.imp (a70 hN hi hx hf) λv σ H Q q=>by
  obtain⟨d,env,k,is,hE,ht,hq⟩:=q;exact hq _ _ (hE.set is i) ht
abbrev X1:List Nat->TGs
 |[]=>bu4
 |i::is=>bq9 (an8 i) (X1 is)
theorem bb9{K:AO}{Q:L2.St->Hp->Prop}{k:i9->Prop}:∀(is:List Nat)(ds:List D)(vs:List V)(env:i9)(σ:L2.St),ds.length=is.length->IsDs K H ds vs->RelE K H env σ->k (O1 env is ds)->(∀env' σ',RelE K H env' σ'->k env'->Q σ' H)->X1 is vs σ H Q
 |[],[],vs,env,σ,_,r,hE,ht,hq=>⟨r.inv_nil,hq _ _ hE ht⟩
 |i::is,d::ds,vs,env,σ,hl,r,hE,ht,hq=>by
  obtain⟨v,ws,rfl,h1,h2⟩:=r.inv_cons;exact⟨v,ws,rfl,bb9 is ds ws _ _ (by simpa using hl) h2 (hE.set h1 i) ht hq⟩
 |[],d::ds,vs,env,σ,hl,_,_,_,_=>by simp at hl
 |i::is,[],vs,env,σ,hl,_,_,_,_=>by simp at hl
def cp4{es:List AQ}{k0:Nat}{is:List Nat}(hc:X.calm=AC)(h:PGs X es (X1 is))(hn:(By es X.env).length=is.length)(hst:(By es X.env).findIdx? (·.1)=AD):PG X (.Tuple es k0 pos) (upG X.K (.tup is)):=
 PG.imp (cr5 hc h hn hst) λv σ H Q q=>by
  obtain⟨d,env,k,i1,hE,⟨ds,rfl,hl,ht⟩,hq⟩:=q;obtain⟨q,vs,rfl,hsq,r⟩:=i1.tup_inv;exact⟨q,vs,rfl,hsq,by rw[<-r.len];exact hl,bb9 is ds vs env σ hl r hE ht hq⟩
structure EndsR(K:AO)(st:Sto)(H:Hp)(Fd:DEnds)(F:Ends):Prop where
 nx:∀env σ H' st',Ev st H st' H'->RelE K H' env σ->RelS K st' H'->Fd.nx env st'->F.nx σ H'
 bk:∀env σ H' st',Ev st H st' H'->RelE K H' env σ->RelS K st' H'->Fd.bk env st'->F.bk σ H'
 ct:∀env σ H' st',Ev st H st' H'->RelE K H' env σ->RelS K st' H'->Fd.ct env st'->F.ct σ H'
 rt:u1 K st H Fd.rt F.rt
theorem EndsR.after{st st1:Sto}{H1:Hp}{Fd:DEnds}{F:Ends}(e:EndsR K st H Fd F)(ev:Ev st H st1 H1):EndsR K st1 H1 Fd F:=
 ⟨λenv σ H' st' ev'=>e.nx env σ H' st' (ev.trans ev'),λenv σ H' st' ev'=>e.bk env σ H' st' (ev.trans ev'),λenv σ H' st' ev'=>e.ct env σ H' st' (ev.trans ev'),e.rt.after ev⟩
abbrev upS(K:AO)(t:DS):TS:=λF σ H=>∃env st Fd,RelE K H env σ/\RelS K st H/\t Fd env st/\EndsR K st H Fd F
variable {t u:DS} {s1:BQ} {i7:List BQ}
def cv9:PSs X [] (upS X.K λF env st=>F.nx env st):=PSs.imp cj8 λF σ H⟨env,st,Fd,hE,hS,ht,hq⟩=>hq.nx env σ H st Ev.refl hE hS ht
def ck5(h1:PS X s1 (upS X.K t))(h2:PSs X i7 (upS X.K u)):PSs X (s1::i7) (upS X.K λF env st=>t {F with nx:=u F} env st):=
 PSs.imp (b90 h1 h2) λF σ H⟨env,st,Fd,hE,hS,ht,hq⟩=>⟨env,st,{Fd with nx:=u Fd},hE,hS,ht,λenv' σ' H' st' ev hE' hS' q=>⟨env',st',Fd,hE',hS',q,hq.after ev⟩,hq.bk,hq.ct,hq.rt⟩
def am6{i:Nat}{x:Str}(hN:X.N.Nodup)(hi:X.N[i]?=AA x)(hx:Loc X.env.scope x)(ha:PE X a (up X.K ta))(hs:CO a (AA (.Name x pos')) pos.line X.env=pure AE)(hf:X.fn x=AC\/X.env.scope.names.lookup x=AA .local):
  PS X (.Assign [.Name x pos'] a pos) (upS X.K λF env st=>ta env st λd st1=>F.nx (env.set i (AA d)) st1):=
 PS.imp (cm7 hN hi hx ha hs hf) λF σ H⟨env,st,Fd,hE,hS,ht,hq⟩=>⟨env,st,_,hE,hS,ht,λv d H' st' ev is rs q=>hq.nx _ _ H' st' ev ((hE.mono (ev.tk hS)).set is i) rs q⟩
def cm8{o i v:AQ}{to ti tv:DT}(hv:PE X v (up X.K tv))(ho:PE X o (up X.K to))(hi:PE X i (up X.K ti))
  (hsub:∀w,assign (.Subscript o i pos') X.env w=(do
   let ov <-holding [w] (eval o X.env)
   let iv <-holding [w,ov] (eval i X.env)
   Gj pos'
   holding [w,ov,iv] (JH ov iv w)
   release [w,ov,iv] [])) (hs:Fg [.Subscript o i pos'] v pos.line X.env=pure AE) (hw:swappedStores [.Subscript o i pos'] v X.env=pure AD) :
  PS X (.Assign [.Subscript o i pos'] v pos) (upS X.K λF env st=>tv env st λd st1=>to env st1 λx st2=>ti env st2 λy st3=>∃a j k ds,x=.ref a/\y=.int j/\st3 a=AA (.lst ds)/\ixN ds.length j=AA k/\F.nx env (b0 st3 a (.lst (ds.set k d)))):=
 PS.imp (cn1 hv (cv3 ho hi b60 hsub) hs hw rfl) λF σ H⟨env,st,Fd,hE,hS,ht,hq⟩=>⟨env,st,_,hE,hS,ht,λw d H1 st1 ev1 is1 rs1 q1=>
  ⟨env,st1,_,hE.mono (ev1.tk hS),rs1,q1,λov x H2 st2 ev2 is2 rs2 q2=>⟨env,st2,_,(hE.mono (ev1.tk hS)).mono (ev2.tk rs1),rs2,q2,λiv y H3 st3 ev3 is3 rs3 q3=>by
   obtain⟨q,j,k,ds,rfl,rfl,hr,hk,q3⟩:=q3;obtain⟨vs,hH,r⟩:=rs3.lst hr;have is1':=(is1.mono (ev2.tk rs1)).mono (ev3.tk rs2);refine⟨q,vs,j,k,(is2.mono (ev3.tk rs2)).ref_inv,is3.int_inv,hH,by rw[<-r.len];exact hk,?_⟩;exact hq.nx env σ _ _ (((ev1.trans ev2).trans ev3).trans (Ev.put hr)) ((((hE.mono (ev1.tk hS)).mono (ev2.tk rs1)).mono (ev3.tk rs2)).mono (TK.put hH)) (rs3.putOld hH (r.set is1' k)) q3⟩⟩⟩
def cj3{o v:AQ}{to tv:DT}{f:Str}{C:Str->List Str}(hC:∀c Ca,Ax X.K AN c=AA (AA (.ref Ca))->f∈C c->Cls X.K Ca/\F7 X.K Ca f)(hv:PE X v (up X.K tv))(ho:PE X o (up X.K to))(hs:CO v (AA (.Attribute o f pos')) pos.line X.env=pure AE):
  PS X (.Assign [.Attribute o f pos'] v pos) (upS X.K λF env st=>tv env st λd st1=>to env st1 λx st2=>∃p c fs,x=.ref p/\st2 p=AA (.ins c fs)/\f∈C c/\fs.length<1000/\F.nx env (b0 st2 p (.ins c (j9 f d fs)))):=
 PS.imp (cs5 ho hv hs) λF σ H q=>by
  obtain⟨env,st,Fd,hE,hS,ht,hq⟩:=q;refine⟨env,st,_,hE,hS,ht,λw d H1 st1 ev is rs q1=>?_⟩;refine⟨env,st1,_,hE.mono (ev.tk hS),rs,q1,λy x H2 st2 ev2 is2 rs2 q2=>?_⟩;obtain⟨p,c,fs,rfl,hs2,hf,hl,hn⟩:=q2;obtain⟨Ca,dx,vs,hH,hns,r⟩:=rs2.ins hs2;obtain⟨c1,c2⟩:=hC c Ca hns hf;have is1:=is.mono (ev2.tk rs);have tk:=TK.putI (K:=X.K) (o:=.ins Ca dx (w6 f w vs)) hH;refine⟨p,Ca,dx,vs,is2.ref_inv,hH,c1,c2,by rw[<-r.length];exact hl,?_⟩;refine hq.nx env σ _ _ ((ev.trans ev2).trans (Ev.put hs2)) (((hE.mono (ev.tk hS)).mono (ev2.tk rs)).mono tk) (rs2.putAny (ob:=.ins c (j9 f d fs)) tk ⟨Ca,dx,_,r8,hns,(r.put is1 f).mono tk⟩ (by rw[hH];exact λ_ z=>by cases z)) hn
def c16(ha:PE X a (up X.K ta))(hs:CO a AD pos.line X.env=pure AE):PS X (.Expr a pos) (upS X.K λF env st=>ta env st λ_ st1=>F.nx env st1):=
 PS.imp (cj5 ha hs) λF σ H⟨env,st,Fd,hE,hS,ht,hq⟩=>⟨env,st,_,hE,hS,ht,λv d H' st' ev is rs q=>hq.nx _ _ H' st' ev (hE.mono (ev.tk hS)) rs q⟩
def co8(ha:PE X a (up X.K ta)):PS X (.Return (AA a) pos) (upS X.K λF env st=>ta env st F.rt):=
 PS.imp (cs6 ha) λF σ H⟨env,st,Fd,hE,hS,ht,hq⟩=>⟨env,st,_,hE,hS,ht,hq.rt⟩
def cl0:PS X (.Return AD pos) (upS X.K λF _ st=>F.rt .non st):=PS.imp cl4 λF σ H⟨env,st,Fd,hE,hS,ht,hq⟩=>hq.rt.here .non hS ht
def cd5:PS X (.Pass pos) (upS X.K λF env st=>F.nx env st):=PS.imp ck4 λF σ H⟨env,st,Fd,hE,hS,ht,hq⟩=>hq.nx env σ H st Ev.refl hE hS ht
def cm1:PS X (.Continue pos) (upS X.K λF env st=>F.ct env st):=PS.imp by8 λF σ H⟨env,st,Fd,hE,hS,ht,hq⟩=>hq.ct env σ H st Ev.refl hE hS ht
def c12{tc:DB}{y:List BQ}(hc:PT X c (upB X.K tc))(h1:PSs X x (upS X.K t))(h2:PSs X y (upS X.K u)):PS X (.If c x y pos) (upS X.K λF env st=>tc env st λk st1=>if k=AC then t F env st1 else u F env st1):=
 PS.imp (c21 hc h1 h2) λF σ H⟨env,st,Fd,hE,hS,ht,hq⟩=>⟨env,st,_,hE,hS,ht,λk H' st' ev rs q=>by
  cases k with
  |true=>exact⟨env,st',Fd,hE.mono (ev.tk hS),rs,q,hq.after ev⟩
  |false=>exact⟨env,st',Fd,hE.mono (ev.tk hS),rs,q,hq.after ev⟩⟩
def cc2{tc:DB}(hp:GO (model X.prog X.w) X.A X.env X.xe)(hc:PT X c (upB X.K tc))(h1:PSs X x (upS X.K t)):PS X (.While c x [] pos) (upS X.K λF env st=>∃n,y3 tc t F n env st):=
 PS.imp (b65 hp hc h1) λF σ H⟨env,st,Fd,hE,hS,⟨n,ht⟩,hq⟩=>by
  refine⟨λm σ' H'=>∃env' st',RelE X.K H' env' σ'/\RelS X.K st' H'/\Ev st H st' H'/\y3 tc t Fd m env' st',⟨n,env,st,hE,hS,Ev.refl,ht⟩,?_⟩;rintro m σ1 H1 ⟨env1,st1,hE1,hS1,ev1,w1⟩;cases m with
  |zero=>exact w1.elim
  |succ m=>
   refine⟨env1,st1,_,hE1,hS1,w1,λk H2 st2 ev2 rs2 q2=>?_⟩;cases k with
   |false=>
    simp only[BO,if_false]at q2 ⊢;exact hq.nx env1 σ1 H2 st2 (ev1.trans ev2) (hE1.mono (ev2.tk hS1)) rs2 q2
   |true=>
    simp only[if_true]at q2 ⊢;refine⟨λσ' H'=>∃env' st',RelE X.K H' env' σ'/\RelS X.K st' H'/\Ev st H st' H'/\y3 tc t Fd m env' st',λσ' H' h=>⟨m,Fk _,h⟩,?_⟩;have hq2:=hq.after (ev1.trans ev2);have ev12:=ev1.trans ev2;exact⟨env1,st2,_,hE1.mono (ev2.tk hS1),rs2,q2,λenv' σ' H' st' ev hE' hS' q=>⟨env',st',hE',hS',ev12.trans ev,q⟩,hq2.nx,λenv' σ' H' st' ev hE' hS' q=>⟨env',st',hE',hS',ev12.trans ev,q⟩,hq2.rt⟩
def cw1{tg iter:AQ}{ti:i9->Sto->ItK->Prop}{g:Tg}(hp:GO (model X.prog X.w) X.A X.env X.xe)(hc:X.calm=AC)(hi:PI X tg iter (upI X.K ti))(hg:PG X tg (upG X.K g))(h1:PSs X x (upS X.K t))(hs:∀v,DE iter X.env v=pure v):
  PS X (.For tg iter x [] pos) (upS X.K λF env st=>ti env st λitems chk st1=>t5 chk g t F items env st1):=
 PS.imp (cu2 hp hc hi hg h1 hs) λF σ H⟨env,st,Fd,hE,hS,ht,hq⟩=>by
  refine⟨env,st,_,hE,hS,ht,λitems chk st1 H1 J ev1 rs1 ok q1=>?_⟩;refine⟨λi m σ' H'=>m=items.length-i/\i<=items.length/\∃env' st',RelE X.K H' env' σ'/\RelS X.K st' H'/\Ev st H st' H'/\TK X.K H1 H'/\t5 chk g t Fd (items.drop i) env' st',⟨items.length,∎,BV _,env,st1,hE.mono (ev1.tk hS),rs1,ev1,TK.refl,q1⟩,?_⟩;rintro i m σ2 H2 ⟨rfl,hi,env2,st2,hE2,hS2,ev2,tk2,w2⟩
  by_cases hlt:i<items.length
  ·right
   rw[Dh hlt]at w2;obtain⟨hchk,w2⟩:=w2;refine⟨ok.go i st2 H2 tk2 hS2 hchk hlt,λσ' H'=>i+1<=items.length/\∃env' st',RelE X.K H' env' σ'/\RelS X.K st' H'/\Ev st H st' H'/\TK X.K H1 H'/\t5 chk g t Fd (items.drop (i+1)) env' st',λσ' H' h=>⟨items.length-(i+1),⋯,rfl,h⟩,λv H3 y=>?_⟩;obtain⟨d,hd,is3,ev3,rs3⟩:=ok.yld i st2 H2 v H3 tk2 hS2 hchk hlt y;have ed:d=items[i]:=by rw[AJ hlt]at hd;exact(As hd).symm
   subst ed;refine⟨_,env2,_,is3,hE2.mono (ev3.tk hS2),w2,λenv4 σ4 hE4 q4=>?_⟩;have ev23:=ev2.trans ev3;have hq4:=hq.after ev23;have tk3:TK X.K H1 H3:=tk2.trans (ev3.tk hS2);exact⟨env4,st2,_,hE4,rs3,q4,λenv' σ' H' st' ev hE' hS' q=>⟨hlt,env',st',hE',hS',ev23.trans ev,tk3.trans (ev.tk rs3),q⟩,hq4.nx,λenv' σ' H' st' ev hE' hS' q=>⟨hlt,env',st',hE',hS',ev23.trans ev,tk3.trans (ev.tk rs3),q⟩,hq4.rt⟩
  ·left
   have e:i=items.length:=by lia
   subst e;rw[IH]at w2;exact⟨ok.stop st2 H2 tk2 hS2 w2.1,hq.nx env2 σ2 H2 st2 ev2 hE2 hS2 w2.2⟩
def b84{env:i9}{σ:L2.St}{fr:List Nat}{k:Nat}(r:RelE K H env σ):RelE K H (N8 fr k env) (F8 fr k σ):=by
 refine⟨by simp[N8,F8],λi d h=>?_⟩;unfold N8 at h;unfold F8
 by_cases hi:i<fr.length
 ·rw[Aa (by simpa using hi),Al]at h ⊢;rw[AJ hi]at h ⊢;simp only[Fi,Bs]at h ⊢;cases q:env[fr[i]]? with
  |none=>rw[q]at h;cases h
  |some o=>
   rw[q]at h;have h':o=AA d:=h;subst h';obtain⟨v,hv,is⟩:=r.at' _ d q;exact⟨v,by rw[hv];rfl,is⟩
 ·rw[Af (by simpa using hi),Ct]at h
  split at h<;>cases h
def aw3{ti:i9->Sto->ItK->Prop}{g:Tg}{tc:DB}{fr:List Nat}{k:Nat}{σ:L2.St}{Q:VK}
  (h:up K (λenv st Q=>ti env st λitems chk st1=>items.length<=1000000/\v3 chk g tc ta (λacc st'=>∀p,st' p=AD->Q (.ref p) (b0 st' p (.lst acc))) items [] (N8 fr k env) st1) σ H Q) :
  an2 fr k (upI K ti) (upG K g) (upB K tc) (up K ta) Q σ H:=by
 obtain⟨env,st,Qd,hE,hS,ht,hq⟩:=h;refine⟨env,st,_,hE,hS,ht,λitems chk st1 H1 J ev1 rs1 ok q1 p hp=>?_⟩;obtain⟨hlen,q1⟩:=q1;have hEc:RelE K H1 env σ:=hE.mono (ev1.tk hS);refine⟨λi m σ' H'=>m=items.length-i/\i<=items.length/\∃env' st' acc ys,RelE K H' env' σ'/\RelS K st' H'/\st' p=AD/\H' p=AA (.lst ys)/\IsDs K H' acc ys/\acc.length<=i/\TK K H1 H'/\(∀a o,H a=AA o->st a=AD->a≠p/\(∃o',H' a=AA o'/\TbE o o')/\st' a=AD) /\
  v3 chk g tc ta (λacc st'=>∀p,st' p=AD->Qd (.ref p) (b0 st' p (.lst acc))) (items.drop i) acc env' st',⟨items.length,∎,BV _,N8 fr k env,st1,[],[],(b84 hEc).mono (TK.new hp),rs1.new hp,rs1.free hp,r8,.nil,BV _,TK.new hp,λa o h1 h2=>?_,q1⟩,?_⟩
 ·obtain⟨⟨o',x,t⟩,y⟩:=ev1 a o h1 h2;have ne:a≠p:=u4 x hp;exact⟨ne,⟨o',by rw[i8 ne];exact x,t⟩,y⟩
 rintro i m σ2 H2 ⟨rfl,hi,env2,st2,acc,ys,hE2,hS2,sp2,hp2,ra,hal,tk2,old,w2⟩
 by_cases hlt:i<items.length
 ·right
  rw[Dh hlt]at w2;obtain⟨hchk,w2⟩:=w2;refine⟨ok.go i st2 H2 tk2 hS2 hchk hlt,λσ' H'=>i+1<=items.length/\∃env' st' acc ys,RelE K H' env' σ'/\RelS K st' H'/\st' p=AD/\H' p=AA (.lst ys)/\IsDs K H' acc ys/\acc.length<=i+1/\TK K H1 H'/\(∀a o,H a=AA o->st a=AD->a≠p/\(∃o',H' a=AA o'/\TbE o o')/\st' a=AD) /\
   v3 chk g tc ta (λacc st'=>∀p,st' p=AD->Qd (.ref p) (b0 st' p (.lst acc))) (items.drop (i+1)) acc env' st',λσ' H' h=>⟨items.length-(i+1),⋯,rfl,h⟩,λv H3 y=>?_⟩
  obtain⟨d,hd,is3,ev3,rs3⟩:=ok.yld i st2 H2 v H3 tk2 hS2 hchk hlt y;have ed:d=items[i]:=by rw[AJ hlt]at hd;exact(As hd).symm
  subst ed;refine⟨_,env2,_,is3,hE2.mono (ev3.tk hS2),w2,λenv4 σ4 hE4 q4=>?_⟩;have old3:∀{H':Hp}{st':Sto},Ev st2 H2 st' H'->∀a o,H a=AA o->st a=AD->a≠p/\(∃o',H' a=AA o'/\TbE o o')/\st' a=AD:=λev a o h1 h2=>by
   obtain⟨x,⟨o1,y,t1⟩,z⟩:=old a o h1 h2;obtain⟨⟨o2,y',t2⟩,z'⟩:=ev a o1 y z;exact⟨x,⟨o2,y',t1.trans t2⟩,z'⟩
  refine⟨env4,st2,_,hE4,rs3,q4,λbb H5 st5 ev5 rs5 q5=>?_⟩;have ev25:Ev st2 H2 st5 H5:=ev3.trans ev5;have tk25:TK K H2 H5:=ev25.tk hS2;obtain⟨hp5,sp5⟩:=ev25.get hp2 sp2 (λ_=>nofun);cases bb with
  |false=>
   simp only[BO,if_false]at q5 ⊢;exact⟨hlt,env4,st5,acc,ys,hE4.mono (ev5.tk rs3),rs5,sp5,hp5,ra.mono tk25,⋯,tk2.trans tk25,old3 ev25,q5⟩
  |true=>
   simp only[if_true]at q5 ⊢;refine⟨env4,st5,_,hE4.mono (ev5.tk rs3),rs5,q5,λw e H6 st6 ev6 is6 rs6 q6=>?_⟩;have ev26:Ev st2 H2 st6 H6:=ev25.trans ev6;have tk26:TK K H2 H6:=ev26.tk hS2;obtain⟨hp6,sp6⟩:=ev26.get hp2 sp2 (λ_=>nofun);have ra6:=ra.mono tk26;have hsz:ys.length<sizeLine:=by
    rw[<-ra6.len];have:(1000001:Nat)<=sizeLine:=by decide
    lia
   refine⟨ys,hp6,hsz,hlt,env4,st6,acc++[e],ys++[w],(hE4.mono ((ev5.trans ev6).tk rs3)).mono (TK.put hp6),rs6.stay (TK.put hp6) (λa o h1=>i8 λz=>by rw[z,sp6]at h1;cases h1) (Z5 (by rw[hp6];exact λ_ z=>by cases z)),sp6,r8,(ra6.append (.cons is6 .nil)).mono (TK.put hp6),by simp;lia,(tk2.trans tk26).trans (TK.put hp6),λa o h1 h2=>?_,q6⟩;obtain⟨x,⟨o',y,t⟩,z⟩:=old3 ev26 a o h1 h2;exact⟨x,⟨o',by rw[i8 x];exact y,t⟩,z⟩
 ·left
  have e:i=items.length:=by lia
  subst e;rw[IH]at w2;refine⟨ok.stop st2 H2 tk2 hS2 w2.1,hq _ (.ref p) H2 (b0 st2 p (.lst acc)) (λa o h1 h2=>?_) (.ref p) ⟨λa o h1=>?_,hS2.tb⟩ (w2.2 p sp2)⟩
  ·obtain⟨x,y,z⟩:=old a o h1 h2;exact⟨y,by rw[C9 x];exact z⟩
  ·by_cases ha:a=p
   ·subst ha;rw[c9]at h1;cases h1;exact⟨ys,hp2,ra⟩
   ·rw[C9 ha]at h1;exact hS2.ob a o h1
end
end Ek
namespace Ek
open PySem PySem.Spec PyProof.Rows L2
variable [Tbs]
abbrev c37:Unit->AG->Bool
 |_,.none=>AC
 |_,_=>AE
abbrev an3(prog:Aj)(w:BB):KeyKind prog w Unit where
 is:=c37
 hash:=λ_=>0xFCA86420
 inj:=λ_ _ _ _ _=>rfl
 byValue:=λ_ v h=>by cases v<;>first|rfl|cases h
 pyHash:=λ{A E s k v Q}hv h=>by
  cases v<;>first|cases hv|skip
  exact W.pyHash_slot (T:="NoneType") rfl F.slot_NoneType_hash F.entry_NoneType_hash (F.args_NoneType_hash_1 _) (JX _) (.inl rfl) (AF (AM (AF (IU (AM ⟨_,_,rfl,h⟩)))))
 eqBool:=λ{A E s a b u v Q}hu hv h=>by
  cases u<;>first|cases hu|skip
  cases v<;>first|cases hv|skip
  unfold PySem.eqBool
  try with_reducible refine CZ ?_
  rw[if_pos (by rfl)];exact AF (Eb (AM h))
 «strs»:=λ_ _ _ _ h=>by cases h
section
variable {X:Cx} {a b:AQ} {ta tb:DT} {pos:Pos}
def be3{P:Aj}{w:BB}{h:BI}{a:AI}(d:h.DictOfH (NK.dataKind P w) a []):h.MapOf (an3 P w) a (λ_=>AD):=by
 obtain⟨o,es,ep,h1,h2,h3,h4,_,_⟩:=d;have:es=#[]:=by
  have:es.toList=[]:=by simpa using h4
  simpa using this
 subst this;exact⟨o,#[],ep,h1,h2,h3,λe he=>by simp at he,λk=>rfl⟩
def bh4(ne:Bool):OpR X (Bp (if ne then .NotIn else .In)) (λx y H Q=>∃a,x=.non/\y=.ref a/\H a=AA (.dT [])/\Q (.bl ne) H):=by
 intro pins s σ H x y v u Q I rx ry h;obtain⟨a,rfl,rfl,e,q⟩:=h;cases(show u=Ap a from ry);cases(show v=Bh from rx);obtain⟨z,hd,xs,rel,dd⟩:=L9 I.hok (.inl e);have:xs=[]:=by cases rel;rfl
 subst this;cases ne with
 |true=>exact KJ (knd:=an3 X.prog X.w) (k:=()) (key:=.none) rfl hd (be3 dd) ⟨.bl AC,H,I.tok _,rfl,q⟩
 |false=>exact wpAny_in_of (knd:=an3 X.prog X.w) (k:=()) (key:=.none) rfl hd (be3 dd) ⟨.bl AE,H,I.tok _,rfl,q⟩
end
end Ek
namespace HT
open PySem PySem.Spec PyProof.Rows
section
variable {prog:Aj} {w:BB} {A:BP} {E:AG->AK->Prop} {s:AK}
def getItem_tuple_whole{t sl:AI}{items:Array AG}{vl vu:AG}{lo hi:Option Int}{Q:AG->AK->Prop}(ht:Gw s.heap t items)(hs:s.heap.IsSliceOf sl vl vu .none)(pl:FK vl lo)(pu:FK vu hi)
  (hw:sIx items.size 0 lo=0/\sIx items.size items.size hi=items.size)
  (h:Q (.ref t) s):AU (model prog w) A (DR (.ref t) (.ref sl)) Q E s:=by
 have hj:sIx items.size items.size hi<=items.size:=bf2 _ _ (AY _) hi;obtain⟨os,hos,hcs,hds⟩:=id hs;have hTs:s.TypeIs (.ref sl) "slice":=⟨os,hos,hcs⟩;unfold DR
 try with_reducible refine CZ ?_
 first|refine AF (AM ?_)|skip
 refine AF (GC ht.typeIs ∅ ?_);refine AF (Be (name:=AV "__getitem__") ht.typeIs BM
  (BU BM ht.typeIs Ig ?_ (Iy _ _)))
 show AU _ _ (CM (.ref t)>>=_) _ _ s;refine AF (tupleItemsOf_ ht ?_);refine AF (GD hTs ?_);rw[if_pos ∅];refine AF (ar6 hs pl pu ?_);have hyes:(((sIx items.size 0 lo:Nat):Int)==0&&(1:Int)==1&&(sIx items.size items.size hi-sIx items.size 0 lo)==items.size)=AC:=by
  rw[hw.1,hw.2];simp
 show AU _ _ (if(((sIx items.size 0 lo:Nat):Int)==0&&(1:Int)==1&&(sIx items.size items.size hi-sIx items.size 0 lo)==items.size)=AC then _ else _) _ _ s;rw[if_pos hyes];refine AF ?_;unfold Jm;refine AF (GD ht.typeIs ?_);refine AM ?_;rw[if_pos ∅];exact AF (Eb (AM ⟨_,rfl,AM h⟩))
end
end HT
namespace L2
open PySem PySem.Spec PyProof.Rows
section
variable {X:Cx}
abbrev cx3(K:AO):V->Option Int->Option Int->Hp->VK->Prop:=λx lo hi H Q=>∃a xs,x=.ref a/\SqT K H a xs /\
 (HT.sIx xs.length 0 lo=0/\HT.sIx xs.length xs.length hi=xs.length)/\Q (.ref a) H
def cg1:SlR X (cx3 X.K):=by
 intro pins s σ H x v vl vu lo hi sl Q I rx hs pl pu h;obtain⟨a,xs,rfl,hx,hw,q⟩:=h;cases rx;obtain⟨its,r,ht,hz⟩:=I.tuple hx;have hlen:its.toArray.size=xs.length:=by rw[Ab];exact r.length.symm
 refine⟨"tuple",_,BM.lookup,ht.typeIs,?_⟩;exact HT.getItem_tuple_whole ht hs pl pu (by rw[hlen];exact hw) ⟨.ref a,H,I,rfl,q⟩
end
end L2
namespace Ek
open PySem PySem.Spec PyProof.Rows L2
variable [Tbs]
variable{H:Hp}
mutual
theorem bi6{K:AO}{H:Hp}(kt:Tbs.kt=AE):∀(d:D){v:V},IsD K H d v->NK.lit d.py=AC->HRd H d.py v
 |.int i,v,h,_=>h.int_inv
 |.str x,v,h,_=>h.str_inv
 |.tup ds,v,h,hl=>by
  obtain⟨a,vs,rfl,q,r⟩:=h.tup_invX;exact⟨a,vs,rfl,q.trk kt,ba4 kt ds r hl⟩
 |.non,v,h,hl=>nomatch hl
 |.bl _,v,h,hl=>nomatch hl
 |.ref _,v,h,hl=>nomatch hl
 |.fn _,v,h,hl=>nomatch hl
 |.clo _ _ _ _,v,h,hl=>nomatch hl
 |.ktup _,v,h,hl=>nomatch hl
theorem ba4{K:AO}{H:Hp}(kt:Tbs.kt=AE):∀(ds:List D){vs:List V},IsDs K H ds vs->NK.lits (D.pys ds)=AC->J6 H (D.pys ds) vs
 |[],vs,r,_=>r.inv_nil
 |d::ds,vs,r,hl=>by
  obtain⟨v,ws,rfl,i1,i2⟩:=r.inv_cons;have h':NK.lit d.py=AC/\NK.lits (D.pys ds)=AC:=by
   have:(NK.lit d.py&&NK.lits (D.pys ds))=AC:=hl;simpa using this
  exact⟨v,ws,rfl,bi6 kt d i1 h'.1,ba4 kt ds i2 h'.2⟩
end
def ak4{K:AO}(kt:Tbs.kt=AE){ks:List D}{v:V}(h:IsD K H (.tup ks) v)(hk:D.key (.tup ks)):∃b,v=.ref b/\D8 H (D.tup ks).py b:=by
 obtain⟨a,vs,rfl,_⟩:=h.tup_invX;exact⟨a,rfl,hk.1,hk.2,bi6 kt _ h hk.1⟩
section
variable {X:Cx} {a b o i v:AQ} {ta tb to ti tv:DT} {pos apos pos':Pos}
theorem RelS.dtt{K:AO}{st:Sto}(r:RelS K st H){a:AI}{kvs:List (Ad×D)}(h:st a=AA (.dtt kvs)):∃vs,H a=AA (.dT vs)/\IsPs K H kvs vs/\Tbs.kt=AE:=r.ob a _ h
def cq0{c:List Str}(hk:c≠[]->Tbs.kt=AE):PE X (.Dict [] [] pos) (up X.K λenv st Q=>c≠[]/\∀p,st p=AD->Q (.ref p) (b0 st p (.dtt []))):=
 PE.imp b78 λσ H Q q=>by
  obtain⟨env,st,Qd,hE,hS,ht,hq⟩:=q;exact λp hp=>hq _ (.ref p) _ (b0 st p (.dtt [])) (Ev.newS hp) (.ref p) (hS.putAny (TK.new hp) ⟨[],r8,.nil,hk ht.1⟩ (by rw[hp];exact λ_=>nofun)) (ht.2 p (hS.free hp))
def cr6(hu:X.A.units+200<Bo)(ha:PE X a (up X.K ta))(hb:PE X b (up X.K tb))(hbase:∀i p p',a≠.Call (.Name i p) [] [] p')(hs:∀e p,b≠.Starred e p)(hline:(apos.endLine==pos.line)=AC):
  PE X (.Call (.Attribute a "get" apos) [b] [] pos) (up X.K λenv st Q=>ta env st λx st1=>ar0 x st1/\tb env st1 λy st2=>ap9 x y st2 Q):=
 PE.imp (b93 ⋯ ha hb ⟨D2 hbase,by rw[o0 hs];rfl,hline,by rw[o0 hs];rfl⟩) λσ H Q q=>by
  obtain⟨env,st,Qd,hE,hS,ht,hq⟩:=q;refine⟨env,st,_,hE,hS,ht,λx d H1 st1 ev is rs q1=>?_⟩;obtain⟨hd,q1⟩:=q1;cases d<;>first|exact hd.elim|skip
  rename_i p;obtain⟨kvs,hp⟩:=hd;obtain⟨vs,hH,r,kt⟩:=rs.dtt hp;refine⟨p,is.ref_inv,.inr ⟨vs,.inl hH⟩,env,st1,_,hE.mono (ev.tk hS),rs,q1,λy e H2 st2 ev2 is2 rs2 q2=>?_⟩;cases e<;>first|exact q2.elim|skip
  rename_i ks;obtain⟨kvs2,hp2,hk,q2⟩:=q2;obtain⟨vs2,hH2,r2,_⟩:=rs2.dtt hp2;obtain⟨b,rfl,hb⟩:=ak4 kt is2 hk;refine⟨_,v5.t hH2 hb,?_⟩
  rcases r2.look (D.tup ks).py with⟨l1,l2⟩|⟨d,v,l1,l2,i⟩
  ·rw[l2];rw[l1]at q2;exact hq _ _ _ st2 (ev.trans ev2) .non rs2 q2
  ·rw[l2];rw[l1]at q2;exact hq _ _ _ st2 (ev.trans ev2) i rs2 q2
def TK.putT{K:AO}{p:AI}{u:HO}{xs:List (Ad×V)}(h:H p=AA (.dT xs)):TK K H (upd H p u):=TK.upd' (by rw[h];exact λ_ z=>by cases z) (by rw[h];exact λ_ _ z=>by cases z)
def ba3(hu:X.A.units+200<Bo)(ne:Bool):OpR X (Bp (if ne then .NotIn else .In)) (λx y H Q=>∃a o,y=.ref a/\v5 H a x o/\Q (.bl (ne != o.isSome)) H):=by
 intro pins s σ H x y v u Q I rx ry h;obtain⟨a,o,rfl,g,q⟩:=h;cases(show u=Ap a from ry);cases ne with
 |true=>exact a89 ⋯ I g rx λs' I'=>⟨.bl _,H,I',rfl,by cases h:o.isSome<;>(rw[h]at q;exact q)⟩
 |false=>exact bs3 ⋯ I g rx λs' I'=>⟨.bl _,H,I',rfl,by cases h:o.isSome<;>(rw[h]at q;exact q)⟩
def be6{ne:Bool}{v w:V}{d e:D}{H':Hp}{st':Sto}{Qd:DK}{Q:VK}(i1:IsD X.K H' d v)(i2:IsD X.K H' e w)(rs:RelS X.K st' H')(ht:P1 ne d e st' Qd)(hq:u1 X.K st' H' Qd Q):(∃a o,w=.ref a/\v5 H' a v o/\Q (.bl (ne != o.isSome)) H')\/∃a,v=.non/\w=.ref a/\H' a=AA (.dT [])/\Q (.bl ne) H':=by
 cases d<;>cases e<;>first|exact AZ ht|skip
 ·rename_i a;obtain⟨hp,ht⟩:=ht;obtain⟨vs,hH,r,kt⟩:=rs.dtt hp;have:vs=[]:=Az (by rw[<-r.len];rfl);subst this;exact .inr ⟨_,(by cases i1;rfl),i2.ref_inv,hH,hq.here (.bl _) rs ht⟩
 rename_i ks a;refine .inl ?_;obtain⟨kvs,hp,hk,ht⟩:=ht;obtain⟨vs,hH,r,kt⟩:=rs.dtt hp;obtain⟨b,rfl,hb⟩:=ak4 kt i1 hk;refine⟨_,_,i2.ref_inv,v5.t hH hb,?_⟩
 rcases r.look (D.tup ks).py with⟨l1,l2⟩|⟨d,v,l1,l2,i⟩
 ·rw[l2];rw[l1]at ht;exact hq.here (.bl _) rs ht
 ·rw[l2];rw[l1]at ht;exact hq.here (.bl _) rs ht
def cw5{ne:Bool}{c:De}(ho:c=if ne then .NotIn else .In)(hu:X.A.units+200<Bo)(ha:PE X a (up X.K ta))(hb:PE X b (up X.K tb))(hm:∀es k p,b≠.Set es k p):PE X (.Compare a [c] [b] pos) (up X.K λenv st Q=>ta env st λx st1=>tb env st1 λy st2=>P1 ne x y st2 Q):=by
 subst ho;exact PE.imp (a75 ((ba3 hu ne).or (bh4 ne)) ha hb (Y6 _ b hm)) λσ H Q q=>up2 (f:=P1 ne) q λv w d e H' st' Qd i1 i2 rs ht hq=>be6 i1 i2 rs ht hq
def ct5{ne:Bool}{c:De}(ho:c=if ne then .NotIn else .In)(hu:X.A.units+200<Bo)(ha:PE X a (up X.K ta))(hb:PE X b (up X.K tb))(hm:∀es k p,b≠.Set es k p):
  PT X (.Compare a [c] [b] pos) (upB X.K λenv st Q=>ta env st λx st1=>tb env st1 λy st2=>P1 ne x y st2 λd st'=>∃k,d=.bl k/\Q k st'):=by
 subst ho;refine PT.imp (a65 ((ba3 hu ne).or (bh4 ne)) ha hb (Y6 _ b hm)) λσ H Q q=>?_;obtain⟨env,st,Qd,hE,hS,ht,hq⟩:=q;refine up2 (f:=P1 ne) (Q:=λx H'=>∃k,x=.bl k/\Q k H') ⟨env,st,_,hE,hS,ht,λv d H' st' ev is rs q1=>?_⟩ λv w d e H' st' Qd i1 i2 rs ht hq=>be6 i1 i2 rs ht hq;obtain⟨k,rfl,q1⟩:=q1;exact⟨k,is.bl_inv,hq k H' st' ev rs q1⟩
def cf6(hu:X.A.units+200<Bo)(hv:PE X v (up X.K tv))(ho:PE X o (up X.K to))(hi:PE X i (up X.K ti))(hs:CO v (AA (.Subscript o i pos')) pos.line X.env=pure AE):
  PS X (.Assign [.Subscript o i pos'] v pos) (upS X.K λF env st=>tv env st λd st1=>to env st1 λx st2=>ti env st2 λy st3=>ap2 x y d st3 λst4=>F.nx env st4):=
 PS.imp (a82 ⋯ ho hi hv hs) λF σ H⟨env,st,Fd,hE,hS,ht,hq⟩=>⟨env,st,_,hE,hS,ht,λw d H1 st1 ev1 is1 rs1 q1=>
  ⟨env,st1,_,hE.mono (ev1.tk hS),rs1,q1,λov x H2 st2 ev2 is2 rs2 q2=>⟨env,st2,_,(hE.mono (ev1.tk hS)).mono (ev2.tk rs1),rs2,q2,λiv y H3 st3 ev3 is3 rs3 q3=>by
   cases x<;>cases y<;>first|exact q3.elim|skip
   obtain⟨kvs,hp,hk,hl,q3⟩:=q3;obtain⟨vs,hH,r,kt⟩:=rs3.dtt hp;obtain⟨b,rfl,hb⟩:=ak4 kt is3 hk;have is1':=(is1.mono (ev2.tk rs1)).mono (ev3.tk rs2);refine⟨_,_,(is2.mono (ev3.tk rs2)).ref_inv,J9.t hH hb (by rw[<-r.len];exact hl),?_⟩;exact hq.nx env σ _ _ (((ev1.trans ev2).trans ev3).trans (Ev.put hp)) ((((hE.mono (ev1.tk hS)).mono (ev2.tk rs1)).mono (ev3.tk rs2)).mono (TK.putT hH)) (rs3.putAny (ob:=.dtt (T7 kvs _ d)) (TK.putT hH) ⟨_,r8,(r.put is1' _).mono (TK.putT hH),kt⟩ (by rw[hH];exact λ_ z=>by cases z)) q3⟩⟩⟩
def b25{ds:List D}{lo hi:Option Int}(h:HT.sIx ds.length 0 lo=0/\HT.sIx ds.length ds.length hi=ds.length):r9 ds lo hi=ds:=by
 unfold r9;rw[h.1,h.2];simp
def cs3{lo hi:Option AQ}{tl th:DO}{p2:Pos}(ha:PE X a (up X.K ta))(hl:PO X lo (upO X.K tl))(hh:PO X hi (upO X.K th)):
  PE X (.Subscript a (.Slice lo hi AD p2) pos) (up X.K λenv st Q=>ta env st λx st1=>tl env st1 λl st2=>th env st2 λh st3=>ab9 x l h st3 Q):=
 PE.imp (az2 (bb4.or cg1) ha hl hh) λσ H Q q=>by
  obtain⟨env,st,Qd,hE,hS,ht,hq⟩:=q;refine⟨env,st,_,hE,hS,ht,λv d H1 st1 ev1 is1 rs1 q1=>⟨env,st1,_,hE.mono (ev1.tk hS),rs1,q1,λl H2 st2 ev2 rs2 q2=>⟨env,st2,_,(hE.mono (ev1.tk hS)).mono (ev2.tk rs1),rs2,q2,λh H3 st3 ev3 rs3 q3=>?_⟩⟩⟩;have is3:=(is1.mono (ev2.tk rs1)).mono (ev3.tk rs2);have hq3:=((hq.after ev1).after ev2).after ev3;cases d<;>first|exact AZ q3|skip
  rename_i ds;obtain⟨p,vs,rfl,hs,r⟩:=is3.tup_invX
  by_cases hw:HT.sIx ds.length 0 l=0/\HT.sIx ds.length ds.length h=ds.length
  ·have q4:Qd (.tup (r9 ds l h)) st3:=q3;rw[b25 hw]at q4;exact .inr ⟨p,vs,rfl,hs.sqt,by rw[<-r.len];exact hw,hq3.here (IsD.mk hs r) rs3 q4⟩
  ·exact .inl ⟨p,vs,rfl,hs.sqt,by rw[<-r.len];exact hw,hq3.newT rs3 (an0 r l h) q3⟩
end
end Ek
namespace Ek
open PySem PySem.Spec PyProof.Rows L2
variable [Tbs]
variable{H:Hp}
theorem ay1:∀{bs:List Bool}{its:List AG},f7 (bs.map V.bl) its->∀(i:Nat)v,its[i]?=AA v->∃b,bs[i]?=AA b/\v=.bool b
 |[],its,r,i,v,h=>by cases r;simp at h
 |b::bs,its,r,i,v,h=>by
  cases r with
  |cons r1 r2=>
   cases i with
   |zero=>simp at h;subst h;exact⟨b,rfl,r1⟩
   |succ i=>exact ay1 r2 i v (by simpa using h)
section
variable {X:Cx} {a o i v:AQ} {ta to ti tv:DT} {p pos pos':Pos}
def b22(hc:X.calm=AC):D5 X (.builtin "any") (λxs H Q=>∃(p:AI)(bs:List Bool),xs=[.ref p]/\SqL X.K H p (bs.map V.bl)/\Q (.bl (bs.any id)) H):=by
 intro pins s σ H xs us Q I r h;obtain⟨p,bs,rfl,hq,q⟩:=h;obtain⟨u,rfl,ru⟩:=r.one;cases ru;obtain⟨its,rv,pl,hz⟩:=I.list hq;have hl:=pl.isList;have hsz:its.length=bs.length:=by rw[<-rv.length,AT]
 have hp:p<s.heap.objs.size:=by obtain⟨_,e,_⟩:=hl;exact BD e
 refine call_any_walk (JT hl ⟨s.heap.objs.size,[s.heap.objs.size,p],[s.heap.objs.size],its.toArray.size,_,_,λi=>(bs[i]?).getD AE,rfl,Walks.list (A:=X.A.in1) (I.ok.hd hc) _ p (BS hp) its.toArray,⟨⟨_,Aq _ rfl,rfl,rfl⟩,hl.push _⟩,?_,?_⟩)
 ·intro i v s' Q' E' hP hQ;obtain⟨b,e,rfl⟩:=ay1 rv i v (by simpa using hP);have hQ:Q' ((bs[i]?).getD AE) s':=hQ;rw[e]at hQ;exact CG hQ
 ·intro h' tk hk;rw[Ab,hsz,LSm.range_any bs];exact⟨.bl (bs.any id),H,I.kept (LSm.kept_iter hk),rfl,q⟩
def cb5:BA "any"=AA (.builtin "any"):=by decide+kernel
theorem IsDs.bools{K:AO}:∀{bs:List Bool}{vs:List V},IsDs K H (bs.map D.bl) vs->vs=bs.map V.bl
 |[],vs,r=>r.inv_nil
 |b::bs,vs,r=>by
  obtain⟨v,ws,rfl,i1,i2⟩:=IsDs.inv_cons (by simpa using r);rw[i1.bl_inv,IsDs.bools i2];rfl
def cp9(hc:X.calm=AC)(hg:Gl X "any")(hm:X.mg "any"=AD)(ha:PE X a (up X.K ta))(hs:∀e p,a≠.Starred e p):PE X (.Call (.Name "any" p) [a] [] pos) (up X.K λenv st Q=>ta env st λx st1=>ap7 x st1 Q):=
 ab3 (b22 hc) hg hm cb5 ha hs (λv d H' st' Qd Q is rs ht hq=>by
  cases d<;>first|exact AZ ht|skip
  obtain⟨bs,hr,ht⟩:=ht;obtain⟨vs,hs,r⟩:=rs.rd hr;exact⟨_,bs,by rw[is.ref_inv],by rw[<-r.bools];exact hs,hq.here (.bl _) rs ht⟩) ∅ ∅
def cw6:PE X (.Dict [] [] pos) (up X.K λenv st Q=>∀p,st p=AD->Q (.ref p) (b0 st p (.dct []))):=
 PE.imp b91 λσ H Q q=>by
  obtain⟨env,st,Qd,hE,hS,ht,hq⟩:=q;exact λp hp=>hq _ (.ref p) _ (b0 st p (.dct [])) (Ev.newS hp) (.ref p) (hS.putNewD hp ⟨rfl,.nil⟩) (ht p (hS.free hp))
def IsKs.snoc{K:AO}{kvs:List (Key×D)}{vs:List (Key×V)}{d:D}{v:V}(h:IsKs K H kvs vs)(i:IsD K H d v)(k:Key):IsKs K H (kvs++[(k,d)]) (vs++[(k,v)]):=
 ⟨by simp[h.ks],by simpa using h.ds.append (.cons i .nil)⟩
def TK.putKd{K:AO}{p:AI}{u:HO}{xs:List (Key×V)}(h:H p=AA (.dK xs)):TK K H (upd H p u):=TK.upd' (by rw[h];exact λ_ z=>by cases z) (by rw[h];exact λ_ _ z=>by cases z)
def cj7(hu:X.A.units+200<Bo)(hv:PE X v (up X.K tv))(ho:PE X o (up X.K to))(hi:PE X i (up X.K ti))(hs:CO v (AA (.Subscript o i pos')) pos.line X.env=pure AE):
  PS X (.Assign [.Subscript o i pos'] v pos) (upS X.K λF env st=>tv env st λd st1=>to env st1 λx st2=>ti env st2 λy st3=>ao7 x y d st3 λst4=>F.nx env st4):=
 PS.imp (a82 ⋯ ho hi hv hs) λF σ H⟨env,st,Fd,hE,hS,ht,hq⟩=>⟨env,st,_,hE,hS,ht,λw d H1 st1 ev1 is1 rs1 q1=>
  ⟨env,st1,_,hE.mono (ev1.tk hS),rs1,q1,λov x H2 st2 ev2 is2 rs2 q2=>⟨env,st2,_,(hE.mono (ev1.tk hS)).mono (ev2.tk rs1),rs2,q2,λiv y H3 st3 ev3 is3 rs3 q3=>by
   cases x<;>cases y<;>first|exact q3.elim|skip
   rename_i p j;obtain⟨kvs,hp,hk,hl,q3⟩:=q3;obtain⟨vs,hH,r⟩:=rs3.dct hp;have hvn:p8 vs (.inl j)=AD:=by
    rcases r.look (.inl j)with⟨_,l2⟩|⟨_,_,l1,_⟩
    ·exact l2
    ·rw[hk]at l1;cases l1
   have is1':=(is1.mono (ev2.tk rs1)).mono (ev3.tk rs2);have hlen:kvs.length=vs.length:=by simpa using congrArg Di r.ks
   have g:J9 H3 p iv w (upd H3 p (.dK (vs++[(.inl j,w)]))):=by
    rw[is3.int_inv,<-az1 w hvn];exact J9.k (k:=.inl j) hH (by rw[<-hlen];exact hl)
   refine⟨_,_,(is2.mono (ev3.tk rs2)).ref_inv,g,?_⟩;exact hq.nx env σ _ _ (((ev1.trans ev2).trans ev3).trans (Ev.put hp)) ((((hE.mono (ev1.tk hS)).mono (ev2.tk rs1)).mono (ev3.tk rs2)).mono (TK.putKd hH)) (rs3.putAny (ob:=.dct (kvs++[(.inl j,d)])) (TK.putKd hH) ⟨_,r8,(r.snoc is1' _).mono (TK.putKd hH)⟩ (by rw[hH];exact λ_ z=>by cases z)) q3⟩⟩⟩
end
end Ek
namespace PySem
end PySem
namespace Ek
open PySem PySem.Spec PyProof.Rows L2
variable [Tbs]
end Ek
namespace Ek
open PySem PySem.Spec PyProof.Rows L2
variable [Tbs]
end Ek
namespace Ek
open PySem PySem.Spec PyProof.Rows L2
variable [Tbs]
@[reducible]noncomputable def Fz:HO:=.ext λ_=>True
def ap0:∀vs,Fz≠.lst vs:=λ_=>nofun
def ab4{P:Aj}{w:BB}{H:Hp}{h:BI}{a:AI}{o:Obj}(e:h.get? a=AA o):o7 P w H h a (.frz o Fz):=⟨e,trivial,⟨o,e⟩,λ_ _ _ _=>trivial⟩
section
variable {X:Cx} {pins:List (AI×Obj)} {σ:L2.St} {H H':Hp} {s:AK}
def b10{x:Str}{c:AI}{o:Obj}{v:Option AG}(I:L2.Inv X pins σ H s)(hl:X.env.cells.lookup x=AA c)(hfn:X.fn x=AE)(hab:X.s₀.heap.objs.size<=c)(hn:H c=AD)(ho:s.heap.get? c=AA o)(hd:o.data=.cell v):
  L2.Inv X pins σ (upd H c (.frz o Fz)) s:=by
 have nn:∀{b:AI}{u:HO},H b=AA u->b≠c:=λe=>u4 e hn;refine⟨I.ok,I.os,I.bare,⟨I.base.keep,I.base.slot,λb ob e n hx=>?_,I.base.there,λb xs e=>?_,λb ob u e=>?_,λb ps e=>?_⟩,I.loc,I.cell,?_,λx' c' e=>?_,λp hp=>?_,λb u e=>?_,I.len⟩
 ·rw[i8 (BS (An (BD e) hab))];exact I.base.free b ob e n hx
 ·have:=I.base.tups b xs e;rw[i8 (nn this)];exact this
 ·have:=I.base.frzs b ob u e;rw[i8 (nn this)];exact this
 ·obtain⟨m,q⟩:=I.base.tbls b ps e;exact⟨m,by rw[i8 (nn q)];exact q⟩
 ·rw[i8 (Aw (I.cne x c hl))];exact I.free
 ·by_cases hc:c'=c
  ·subst hc;have:=I.ok.inj x' x c' e hl;subst this;exact .inr ⟨hfn,o,Fz,r8⟩
  ·rw[i8 hc];exact I.freeC x' c' e
 ·obtain⟨e,n,ne,nf,d⟩:=I.pin p hp;refine⟨e,?_,ne,nf,d⟩;rw[i8 λz=>?_]
  ·exact n
  ·rw[z,ho]at e;exact d v (by rw[<-As e];exact hd)
 ·by_cases hb:b=c
  ·subst hb;rw[r8]at e;cases e;exact ab4 ho
  ·rw[i8 hb]at e;exact(I.hok b u e).stay (λ_ _ _ q=>q) (λa r=>by rw[i8 (nn r)];exact r) λa xs r=>by rw[i8 (nn r)];exact r
def a67{K:AO}(e:D9 H H'):TK K H H':=⟨⟨λa xs q=>by
 rcases q with(q|⟨o',q⟩)|q
 ·exact .inl (.inl (e _ _ q))
 ·exact .inl (.inr ⟨o',e _ _ q⟩)
 ·exact .inr q,λa xs q=>e _ _ q⟩,λa o u q _=>e _ _ q⟩
def az7{K:AO}{a:AI}{o:Ob}(z:ObR K H a o):∃u,H a=AA u/\∀ps,u≠.tbl ps:=by
 cases o with
 |lst ds=>obtain⟨vs,w1,_⟩:=z;exact⟨_,w1,λ_=>nofun⟩
 |fro ds=>
  obtain⟨vs,w1|⟨u,w1⟩,_⟩:=z
  ·exact⟨_,w1,λ_=>nofun⟩
  ·exact⟨_,w1,λ_=>nofun⟩
 |dct kvs=>obtain⟨vs,w1,_⟩:=z;exact⟨_,w1,λ_=>nofun⟩
 |dtt kvs=>obtain⟨vs,w1,_⟩:=z;exact⟨_,w1,λ_=>nofun⟩
 |ins c fs=>obtain⟨C,dx,vs,w1,_⟩:=z;exact⟨_,w1,λ_=>nofun⟩
def ca6{K:AO}{st:Sto}(r:RelS K st H)(e:D9 H H'):RelS K st H':=r.stay (a67 e) (λa o h=>by
 obtain⟨u,hu,_⟩:=az7 (r.ob a o h);rw[hu,e _ _ hu]) λa ps h=>e _ _ h
def cl9{st:Sto}(e:D9 H H'):Ev st H st H':=λa o h k=>⟨⟨o,e _ _ h,.inl rfl⟩,k⟩
theorem au3(I:L2.Inv X pins σ H s):∀(xs:List Str),(∀x∈xs,X.fn x=AE/\X.ow x=AC/\∃c,X.env.cells.lookup x=AA c) ->
  ∃H',L2.Inv X pins σ H' s/\D9 H H'/\∀x∈xs,∃c o u,X.env.cells.lookup x=AA c/\H' c=AA (.frz o u)/\(∀vs,u≠.lst vs)/\s.heap.get? c=AA o
 |[],_=>⟨H,I,D9.refl H,λx h=>absurd h AW⟩
 |x::xs,h=>by
  obtain⟨H1,I1,e1,f1⟩:=au3 I xs λy hy=>h y (Ao _ hy);obtain⟨hfn,how,c,hc⟩:=h x Bw;obtain⟨v,o,ho,hd⟩:=I1.cell x c hc
  rcases I1.freeC x c hc with hn|⟨_,o',u,hz⟩
  ·have I2:=b10 I1 hc hfn (I1.ok.cab x c (.inr how) hc) hn ho hd;have e2:D9 H1 (upd H1 c (.frz o Fz)):=λb u q=>by rw[i8 (u4 q hn)];exact q
   refine⟨_,I2,e1.trans e2,λy hy=>?_⟩
   rcases AL.mp hy with rfl|hy
   ·exact⟨c,o,Fz,hc,r8,ap0,ho⟩
   ·obtain⟨c',o',u',a1,a2,a3,a4⟩:=f1 y hy;exact⟨c',o',u',a1,e2 _ _ a2,a3,a4⟩
  ·refine⟨H1,I1,e1,λy hy=>?_⟩
   rcases AL.mp hy with rfl|hy
   ·obtain⟨z1,z2⟩:=I1.hok c _ hz;refine⟨c,o',u,hc,hz,λvs w=>?_,z1⟩;subst w;obtain⟨_,its,n,_,z3⟩:=z2;rw[ho]at z3;cases z3;cases hd
   ·exact f1 y hy
end
def as5{l:List AG}(h:Dp l):l=[]\/∃i s j t v r,l=.int i s::.int j t::v::r/\Dp r:=by
 unfold Dp at h
 split at h
 ·exact .inl rfl
 ·exact .inr ⟨_,_,_,_,_,_,rfl,h⟩
 ·exact h.elim
theorem as1{a b:Int}{s t:Tok}{c:AG}:∀(n:Nat)(l:List AG),l.length<=n->Dp l->Dp (l++[.int a s,.int b t,c])
 |0,l,hn,_=>by
  have:l=[]:=Az ⋯;subst this;exact trivial
 |n+1,l,hn,h=>by
  rcases as5 h with rfl|⟨i,s',j,t',v,r,rfl,hr⟩
  ·exact trivial
  ·simp only[Ac]at hn;exact(as1 n r ⋯ hr:Dp (r++_))
theorem at8{pos:Pos}{cv:AG}{a b:Int}{s t:Tok}{c:AG}:∀(n:Nat)(l:List AG),l.length<=n->Dp l->FT pos (l++[.int a s,.int b t,c])=AA cv->FT pos l=AA cv\/cv=c
 |n,l,hn,h,q=>by
  rcases as5 h with rfl|⟨i,s',j,t',v,r,rfl,hr⟩
  ·have h':(if a==pos.line&&b==pos.col then AA c else AD)=AA cv:=q
   split at h'
   ·exact .inr (As h').symm
   ·cases h'
  ·cases n with
   |zero=>simp at hn
   |succ n=>
    simp only[Ac]at hn;have q':(if i==pos.line&&j==pos.col then AA v else FT pos (r++[.int a s,.int b t,c]))=AA cv:=q;show(if i==pos.line&&j==pos.col then AA v else FT pos r)=AA cv\/cv=c
    split at q'
    ·rename_i hc;rw[if_pos hc];exact .inl q'
    ·rename_i hc;rw[if_neg hc];exact at8 n r ⋯ hr q'
end Ek
namespace Ek
open PySem PySem.Spec PyProof.Rows L2
variable [Tbs]
abbrev G0(name qual:Str)(params:Cm)(fb:DI)(scope:BG)(cl:List (Str×AI))(doc pm cv ct:AG):Ba:=
 {name,qualname:=qual,params,body:=fb,scope,globals:=AN,closure:=cl,defaults:=.none,kwdefaults:=.none,doc:=doc,pyModule:=pm,annotations:=AD,code:=cv,closureTuple:=ct,builtins:=Cg}
abbrev M0(fd:Ba):Obj:={cls:=.type "function",data:=.func fd}
abbrev R9(mg:Str->Option AG)(h:BI):Prop:=∃bm ob,mg "__builtins__"=AA (.ref bm)/\bm≠Cg/\h.get? bm=AA ob/\ob.cls=.type "module"/\ob.dict=AA Cg/\ob.data=.plain
structure LamOk(X:Cx):Prop where
 tab:∃c P,X.env.code=.ref c/\W.CodeHd X.base c P/\P∈Tbs.ps
 bm:R9 X.mg X.base
section
variable {X:Cx} {pins:List (AI×Obj)} {σ:L2.St} {H:Hp} {s:AK} {st:Sto}
structure Made(X:Cx)(pins:List (AI×Obj))(σ:L2.St)(H:Hp)(st:Sto)(f:AI)(fd:Ba)(H':Hp)(s':AK):Prop where
 inv:L2.Inv X pins σ H' s'
 tk:TK X.K H H'
 ev:Ev st H st H'
 rs:RelS X.K st H'
 fn:H' f=AA (.frz (M0 fd) Fz)
 cd:M5 H' fd.code
def az6{fd:Ba}{h':BI}{tk:Nat}(I:L2.Inv X pins σ H s)(rs:RelS X.K st H)(hk:∀b o,s.heap.get? b=AA o->h'.get? b=AA o)(hsz:s.heap.objs.size<=h'.objs.size)(cd:M5 H fd.code):
  Made X pins σ H st h'.objs.size fd (upd H h'.objs.size (.frz (M0 fd) Fz)) {s with heap:=h'.push (M0 fd),toks:=tk}:=by
 have hn:H h'.objs.size=AD:=I.hok.fresh hsz;exact⟨I.laid (λb o e=>AS _ (hk b o e)) hsz (ab4 (Aq _ rfl)),TK.new hn,Ev.new hn,rs.new hn,r8,cd.mono (K:=X.K) (TK.new hn)⟩
def a02{P c':AI}{ps:Array AG}{fd:Ba}{h':BI}{tk:Nat}{i j:Int}{t1 t2:Tok}{q:Str}(I:L2.Inv X pins σ H s)(rs:RelS X.K st H)(hP:H P=AA (.tbl ps))(hT:TabOk H ps)
  (hx:HK P s.heap h') (hc:s.heap.objs.size<=c') (hlt:c'<h'.objs.size) (hr:h'.CodeRec (.ref c') q) (ht:h'.get? P=AA (Gf (ps++#[.int i t1,.int j t2,.ref c']))) (hcd:fd.code=.ref c') :
  ∃H',Made X pins σ H st h'.objs.size fd H' {s with heap:=h'.push (M0 fd),toks:=tk}:=by
 obtain⟨c2,oc,vs,t,e2,hoc,hd,hv⟩:=hr;cases e2;have hPs:s.heap.get? P=AA (Gf ps):=I.hok P _ hP;have hsz:s.heap.objs.size<=h'.objs.size:=Fv (Hw hc hlt);have n1:H c'=AD:=I.hok.fresh hc;have n2:H h'.objs.size=AD:=I.hok.fresh hsz;have cf:c'≠h'.objs.size:=BS hlt;have cP:P≠c':=λz=>by rw[z,n1]at hP;cases hP
 have fP:P≠h'.objs.size:=λz=>by rw[z,n2]at hP;cases hP
 let H':Hp:=upd (upd (upd H c' (.frz oc Fz)) h'.objs.size (.frz (M0 fd) Fz)) P (.tbl (ps++#[.int i t1,.int j t2,.ref c']))
 have gP:H' P=AA (.tbl (ps++#[.int i t1,.int j t2,.ref c'])):=r8;have gf:H' h'.objs.size=AA (.frz (M0 fd) Fz):=by show upd _ _ _ _=_;rw[i8 (Aw fP)];exact r8
 have gc:H' c'=AA (.frz oc Fz):=by show upd _ _ _ _=_;rw[i8 (Aw cP),i8 cf];exact r8
 have ge:∀b,b≠P->b≠h'.objs.size->b≠c'->H' b=H b:=λb b1 b2 b3=>by show upd _ _ _ _=_;rw[i8 b1,i8 b2,i8 b3]
 have go:∀b u,H b=AA u->b≠P->H' b=AA u:=λb u e b1=>by rw[ge b b1 (u4 e n2) (u4 e n1)];exact e
 have nt:∀b u,H b=AA u->(∀ps,u≠.tbl ps)->b≠P:=λb u e n z=>by rw[z,hP]at e;cases e;exact n _ rfl
 have hk:∀b o,b≠P->s.heap.get? b=AA o->(h'.push (M0 fd)).get? b=AA o:=λb o n e=>AS _ (hx b o n e);have TKH:TK X.K H H':=⟨⟨λa xs z=>by
  rcases z with(z|⟨o',z⟩)|z
  ·exact .inl (.inl (go _ _ z (nt _ _ z λ_=>nofun)))
  ·exact .inl (.inr ⟨o',go _ _ z (nt _ _ z λ_=>nofun)⟩)
  ·exact .inr z,λa xs z=>go _ _ z (nt _ _ z λ_=>nofun)⟩,λa o u z _=>go _ _ z (nt _ _ z λ_=>nofun)⟩
 have CF:M5 H' (.ref c'):=⟨c',oc,Fz,vs,q,t,rfl,gc,ap0,hd,hv⟩;refine⟨H',I.un (h':=h'.push (M0 fd)) ⟨λb o e n _ _=>?_,λb o e n _ _=>?_,λb o e n _=>?_,λb o e _=>?_,λb xs e=>?_,λb o u e=>?_,λb qs e=>?_⟩ (λb u e=>?_),TKH,λa o e k=>?_,⟨λa o e=>?_,λP0 hP0=>?_⟩,gf,by rw[hcd];exact CF⟩
 ·exact hk b o (λz=>by rw[z,hP]at n;cases n) e
 ·exact⟨o.slots,hk b o (λz=>by rw[z,hP]at n;cases n) e⟩
 ·have lb:=BD e;rw[ge b (λz=>by rw[z,hP]at n;cases n) (BS (An lb hsz)) (BS (An lb hc))];exact n
 ·by_cases hb:b=P
  ·subst hb;exact⟨_,AS _ ht⟩
  ·exact⟨o,hk b o hb e⟩
 ·exact go _ _ e (nt _ _ e λ_=>nofun)
 ·exact go _ _ e (nt _ _ e λ_=>nofun)
 ·by_cases hb:b=P
  ·subst hb;rw[hP]at e;cases e;exact⟨_,gP⟩
  ·exact⟨#[],by rw[go _ _ e hb];simp⟩
 ·by_cases b1:b=P
  ·subst b1;rw[gP]at e;cases e;exact AS _ ht
  by_cases b2:b=h'.objs.size
  ·subst b2;rw[gf]at e;cases e;exact ab4 (Aq _ rfl)
  by_cases b3:b=c'
  ·subst b3;rw[gc]at e;cases e;exact ab4 (AS _ hoc)
  rw[ge b b1 b2 b3]at e;refine(I.hok b u e).stay (λc v hc' z=>hk c v ?_ z) (λa z=>go _ _ z (nt _ _ z λ_=>nofun)) λa xs z=>go _ _ z (nt _ _ z λ_=>nofun)
  rcases hc' with rfl|hc'
  ·exact b1
  ·exact nt _ _ hc' λ_=>nofun
 ·by_cases ha:a=P
  ·subst ha;rw[hP]at e;cases e;exact⟨⟨_,gP,.inr ⟨_,_,rfl,rfl⟩⟩,k⟩
  ·exact⟨⟨o,go _ _ e ha,.inl rfl⟩,k⟩
 ·have z:=rs.ob a o e;obtain⟨u,hu,hn⟩:=az7 z;have ea:H' a=H a:=by rw[hu];exact go _ _ hu (nt _ _ hu hn)
  cases o with
  |lst ds=>obtain⟨vs,q,w⟩:=z;exact⟨vs,by rw[ea];exact q,w.mono TKH⟩
  |fro ds=>
   obtain⟨vs,q|⟨o',q⟩,w⟩:=z
   ·exact⟨vs,.inl (by rw[ea];exact q),w.mono TKH⟩
   ·exact⟨vs,.inr ⟨o',by rw[ea];exact q⟩,w.mono TKH⟩
  |dct kvs=>obtain⟨vs,q,w⟩:=z;exact⟨vs,by rw[ea];exact q,w.mono TKH⟩
  |dtt kvs=>obtain⟨vs,q,w,t⟩:=z;exact⟨vs,by rw[ea];exact q,w.mono TKH,t⟩
  |ins c fs=>obtain⟨C,dx,vs,q,n,w⟩:=z;exact⟨C,dx,vs,by rw[ea];exact q,n,w.mono TKH⟩
 ·by_cases hb:P0=P
  ·subst hb;refine⟨_,gP,?_,λpos cv hcv=>?_⟩
   ·rw[Ee];exact as1 _ _ (AY _) hT.tr
   ·rw[Ee]at hcv
    rcases at8 _ _ (AY _) hT.tr hcv with z|z
    ·exact(hT.co pos cv z).mono TKH
    ·rw[z];exact CF
  ·obtain⟨qs,e,o⟩:=rs.tb P0 hP0;exact⟨qs,go _ _ e hb,o.tr,λpos cv hcv=>(o.co pos cv hcv).mono TKH⟩
def ch7{name qual:Str}{params:Cm}{fb:DI}{scope:BG}{pos:Pos}{line:Nat}{cl:List (Str×AI)}{Q:AG->AK->Prop}(I:L2.Inv X pins σ H s)(rs:RelS X.K st H)(L:LamOk X)(hcl:HE scope X.env=pure cl)
  (h:∀f doc pm cv ct H' s',Made X pins σ H st f (G0 name qual params fb scope cl doc pm cv ct) H' s'->Q (.ref f) s') :
  AU (model X.prog X.w) X.A (makeFunction name qual params fb scope X.env [] [] [] pos line) Q X.xe s:=by
 obtain⟨c,P,hcode,C,hPs⟩:=L.tab;obtain⟨ps,hP,hT⟩:=rs.tb P hPs;have hPh:s.heap.get? P=AA (Gf ps):=I.hok P _ hP;have hg:s.heap.Ns AN X.mg:=I.mod.glob.keeps I.bk;have hgP:AN≠P:=λz=>by
  obtain⟨o,es,ep,e,hd,_⟩:=hg;rw[z,hPh]at e;cases e;cases hd
 have hB:s.heap.BuiltinsAt X.mg P:=by
  obtain⟨bm,ob,b1,b2,b3,b4,b5,b6⟩:=L.bm;have b3':=I.bk _ _ b3;refine⟨bm,ob,b1,b2,λz=>?_,λz=>?_,b3',b4,b5,b6⟩
  ·obtain⟨o,es,ep,e,hd,_⟩:=hg;rw[<-z,b3']at e;cases e;rw[b6]at hd;cases hd
  ·rw[z,hPh]at b3';cases b3';cases b4
 have C':=C.keeps I.bk;cases hh:FT pos ps.toList with
 |none=>
  cases fb with
  |stmts body=>
   refine W.makeFunction_K (mg:=X.mg) hcl I.ok.glob hg hcode C' hPh hT.tr hh hgP hB λc' ct doc h' tk hx hc hlt hr ht=>?_;obtain⟨H',M⟩:=a02 (fd:=G0 name qual params (.stmts body) scope cl doc ((X.mg "__name__").getD .none) (.ref c') ct) (tk:=tk) I rs hP hT hx hc hlt hr ht rfl;exact h _ _ _ _ _ _ _ M
  |expr body=>
   refine W.kla_makeFunction (mg:=X.mg) hcl I.ok.glob hg hcode C' hPh hT.tr hh hgP hB λc' ct h' tk hx hc hlt hr ht=>?_;obtain⟨H',M⟩:=a02 (fd:=G0 name qual params (.expr body) scope cl .none ((X.mg "__name__").getD .none) (.ref c') ct) (tk:=tk) I rs hP hT hx hc hlt hr ht rfl;exact h _ _ _ _ _ _ _ M
 |some cv=>
  have cd:=hT.co pos cv hh;cases fb with
  |stmts body=>
   refine W.makeFunction_hit (mg:=X.mg) hcl I.ok.glob hg hcode C' hPh hT.tr hh hB λct doc h' tk hk hsz=>?_;exact h _ doc ((X.mg "__name__").getD .none) cv ct _ _ (az6 (fd:=G0 name qual params (.stmts body) scope cl doc ((X.mg "__name__").getD .none) cv ct) (tk:=tk) I rs hk hsz cd)
  |expr body=>
   refine W.kla_makeFunctionHit (mg:=X.mg) hcl I.ok.glob hg hcode C' hPh hT.tr hh hB λct h' tk hk hsz=>?_;exact h _ .none ((X.mg "__name__").getD .none) cv ct _ _ (az6 (fd:=G0 name qual params (.expr body) scope cl .none ((X.mg "__name__").getD .none) cv ct) (tk:=tk) I rs hk hsz cd)
end
end Ek
namespace Ek
open PySem PySem.Spec PyProof.Rows L2
variable [Tbs]
theorem ax5{K:AO}{H:Hp}{env:i9}{σ:L2.St}(hE:RelE K H env σ):∀{cp:List Nat}{cs:List D},K7 env cp=AA cs ->
  ∃us:List V,IsDs K H cs us/\us.length=cp.length/\∀(i:Nat)v,us[i]?=AA v->∃j,cp[i]?=AA j/\σ[j]?=AA (AA v)
 |[],cs,h=>by
  cases h;exact⟨[],.nil,rfl,λi v z=>by simp at z⟩
 |j::cp,cs,h=>by
  unfold K7 at h
  split at h
  ·rename_i d ds h1 h2;cases h;obtain⟨us,r,l,a⟩:=ax5 hE h2;obtain⟨v,hv,is⟩:=hE.at' j d h1;refine⟨v::us,.cons is r,by simp[l],λi w z=>?_⟩;cases i with
   |zero=>simp at z;subst z;exact⟨j,rfl,hv⟩
   |succ i=>exact a i w (by simpa using z)
  ·cases h
structure NestOk(X:Cx)(params:Cm)(fb:DI)(scope:BG)(np:Nat)(N ps:List Str)(cp:List Nat)(b:Ss):Prop where
 sc:FnScC N ps scope
 lp:ps.length=np
 mt:Tbs.mt b scope N fb
 bind:∀(name qual:Str)(cl:List (Str×AI))(doc pm cv ct:AG)(us:List AG),us.length=ps.length->BF (G0 name qual params fb scope cl doc pm cv ct) ⟨us,[]⟩=pure (ps.zip us)
 cap:∀(i j:Nat),cp[i]?=AA j->∃x,X.N[j]?=AA x/\N[np+i]?=AA x/\(x,At)∈scope.names
 fre:∀x,(x,At)∈scope.names->(∃i:Nat,∃j:Nat,cp[i]?=AA j/\X.N[j]?=AA x)/\X.env.scope.names.lookup x=AA .cell/\X.fn x=AE/\X.ow x=AC
section
variable {X:Cx} {pins:List (AI×Obj)} {σ:L2.St} {H:Hp} {s:AK} {st:Sto}
def cm4{name qual:Str}{params:Cm}{fb:DI}{scope:BG}{pos:Pos}{line:Nat}{np:Nat}{N ps:List Str}{cp:List Nat}{b:Ss}{env:i9}{cs:List D}{Q:AG->AK->Prop}
  (I:L2.Inv X pins σ H s) (rs:RelS X.K st H) (hE:RelE X.K H env σ) (L:LamOk X) (S:NestOk X params fb scope np N ps cp b) (hc:K7 env cp=AA cs)
  (h:∀f H' s',L2.Inv X pins σ H' s'->TK X.K H H'->Ev st H st H'->RelS X.K st H'->IsD X.K H' (.clo np N b cs) (.ref f)->Q (.ref f) s') :
  AU (model X.prog X.w) X.A (makeFunction name qual params fb scope X.env [] [] [] pos line) Q X.xe s:=by
 obtain⟨us,ius,lus,aus⟩:=ax5 hE hc
 let fs:List Str:=(scope.names.filter λy=>y.2==.free).map (·.1)
 have mfs:∀x,x∈fs↔(x,At)∈scope.names:=λx=>by
  simp only[fs,Cs,mem_filter,beq_iff_eq];constructor
  ·rintro⟨⟨y,k⟩,⟨h1,h2⟩,rfl⟩;simp only at h2;subst h2;exact h1
  ·intro h1;exact⟨(x,.free),⟨h1,rfl⟩,rfl⟩
 have hcel:∀x,(x,At)∈scope.names->∃c,X.env.cells.lookup x=AA c:=λx hx=>I.ok.has x (.inl (S.fre x hx).2.1);obtain⟨H1,I1,e1,f1⟩:=au3 I fs λx hx=>⟨(S.fre x ((mfs x).mp hx)).2.2.1,(S.fre x ((mfs x).mp hx)).2.2.2,hcel x ((mfs x).mp hx)⟩;have hcl:HE scope X.env=pure (u3 X.env.cells scope.names []):=ah1 λy hy hk=>by
  obtain⟨y,k⟩:=y;simp only at hk;subst hk;obtain⟨c,hc⟩:=hcel y hy;simp only[hc,HJ]
 refine ch7 I1 (ca6 rs e1) L hcl λf doc pm cv ct H2 s2 M=>?_;have tk:TK X.K H H2:=(a67 e1).trans M.tk;have val:∀(j:Nat)x v,X.N[j]?=AA x->σ[j]?=AA (AA v)->(x,At)∈scope.names->∃c o u w,(u3 X.env.cells scope.names []).lookup x=AA c/\H2 c=AA (.frz o u)/\(∀vs,u≠.lst vs)/\o.data=.cell (AA w)/\f8 v w:=λj x v hN hs hx=>by
  obtain⟨m,hn,hl⟩:=I1.loc;obtain⟨w,r,l⟩:=hl j x v hN hs (.inr (.inl (S.fre x hx).2.1));obtain⟨c,o,u,a1,a2,a3,a4⟩:=f1 x ((mfs x).mpr hx)
  rcases l with⟨k1,_⟩|⟨_,c2,l1,o2,l2,l3⟩
  ·have k1':X.env.scope.names.lookup x=AA .local:=k1;rw[(S.fre x hx).2.1]at k1';cases k1'
  ·rw[a1]at l1;cases l1;rw[a4]at l2;cases l2;exact⟨c,o,u,w,Z0 a1 hx,M.tk.2 _ _ _ a2 a3,a3,l3,r⟩
 have un:∀x c,(u3 X.env.cells scope.names []).lookup x=AA c->X.env.cells.lookup x=AA c/\(x,At)∈scope.names:=λx c hx=>K8 hx;refine h f H2 s2 M.inv tk ((cl9 e1).trans M.ev) M.rs (.clo (us:=us) ⟨G0 name qual params fb scope (u3 X.env.cells scope.names []) doc pm cv ct,ps,⟨S.sc,S.lp,S.mt,S.bind name qual _ doc pm cv ct,rfl,rfl,λx hx=>?_,λx c hx=>(un x c hx).2,λx y c hx hy=>I.ok.inj x y c (un x c hx).1 (un y c hy).1⟩,⟨⟨_,_,M.fn,ap0,rfl⟩,M.cd,λx c hx=>?_,λi v hv=>?_⟩⟩ (by rw[ius.len]) (ius.mono tk).at')
 ·obtain⟨c,hc⟩:=hcel x hx;exact⟨c,Z0 hc hx⟩
 ·obtain⟨⟨i,j,hi,hj⟩,_⟩:=S.fre x (un x c hx).2;have hil:i<us.length:=by rw[lus];exact(AR.mp hi).1
  obtain⟨j',hj',hs'⟩:=aus i _ (AJ hil);rw[hi]at hj';cases hj';obtain⟨c',o,u,w,b1,b2,b3,b4,b5⟩:=val j x _ hj hs' (un x c hx).2;have hx':(u3 X.env.cells scope.names []).lookup x=AA c:=hx;rw[b1]at hx';cases hx';exact⟨o,u,w,b2,b3,b4⟩
 ·obtain⟨j,hj,hs⟩:=aus i v hv;obtain⟨x,n1,n2,n3⟩:=S.cap i j hj;obtain⟨c,o,u,w,b1,b2,b3,b4,b5⟩:=val j x v n1 hs n3;exact⟨x,c,o,u,w,n2,b1,b2,b3,b4,b5⟩
def cv4{name:Str}{params:Cm}{body:List BQ}{scope:BG}{pos:Pos}{i np:Nat}{N ps:List Str}{cp:List Nat}{b:Ss}(hN:X.N.Nodup)(hi:X.N[i]?=AA name)(hx:Loc X.env.scope name)(hf:X.fn name=AC\/X.env.scope.names.lookup name=AA .local)
  (h1:params.defaults=[]) (h2:params.kw_defaults=[]) (h3:∀env,annTrees params AD env=[]) (L:LamOk X) (S:NestOk X params (.stmts body) scope np N ps cp b) :
  PS X (.FunctionDef name params body [] AD [] scope AD name pos) (upS X.K λF env st=>∃cs,K7 env cp=AA cs/\F.nx (env.set i (AA (.clo np N b cs))) st):=by
 intro pins s σ H F I q;obtain⟨env,st,Fd,hE,hS,⟨cs,hc,ht⟩,hq⟩:=q;refine W.nestDef_K h1 h2 (h3 _) (cm4 I hS hE L S hc λf H' s' I' tk ev rs is=>?_);refine Y8 I' hN hi hx (v:=.ref f) rfl (λs2 I2=>?_) hf;exact⟨_,H',I2,hq.nx _ _ H' st ev ((hE.mono tk).set is i) rs ht⟩
end
end Ek
namespace Ek
open PySem PySem.Spec PyProof.Rows L2
variable [Tbs]
variable{w:BB}{fd:Ba}{vs:List V}{N:List Str}{H:Hp}
abbrev b67(fb:DI)(env:Env):Code:=match fb with
 |.stmts b=>.func b env
 |.expr e=>.expr e env
def ca4{prog:Aj}{A:BP}{R:Iw->AK->Prop}{s:AK}{a c:AI}{args:Args}{o oc:Obj}{vs:Array AG}{q:Str}{t:Tok}(hroom:A.depth<HB)(ho:s.heap.get? a=AA o)(hd':o.data=.func fd)
  (hco:fd.scope.isCoroutine=AE) (hgen:fd.scope.isGenerator=AE) (hc:fd.code=.ref c) (hoc:s.heap.get? c=AA oc) (hdc:oc.data=.fields vs) (hq:vs[1]?=AA (.str q t))
  (h:AU (model prog w) A.in1 (BF fd args) (λbinds s₁=>
   AU (model prog w) A.in1 (KQ fd.scope fd.globals fd.closure binds (q++".<locals>.") (AA a) fd.code AD fd.builtins)
    (λenv s₂=>s₂.heap.NoLimit/\EH (model prog w) A (b67 fd.body env) R s₂) (λe s'=>R (.error e) s') s₁) (λe s'=>R (.error e) s') s) :
  EH (model prog w) A (.call (.ref a) args) R s:=by
 refine codeAny_of_tree ?_;show AU _ A.in1 (callAny (.ref a) args) _ _ s;simp only[callAny];refine AF (wpAny_load ho ?_);simp only[hd',callFunction,hco,hgen,hc];rw[hc]at h;refine AF (m:=field (.ref c) 1) (Bm hoc hdc hq (AF (AM ?_)));refine AF (Bc h (λbinds s₁ h₁=>AF (Bc h₁ (λenv s₂ h₂=>AF (wpAny_enterFrame h₂.1 hroom
  ?_)) λ_ _ h'=>h')) λ_ _ h'=>h')
 have h3:=h₂.2;cases hb:fd.body with
 |stmts b=>rw[hb]at h3;exact AM (And.intro rfl h3)
 |expr e=>rw[hb]at h3;exact AM (And.intro rfl h3)
theorem at9{x:Str}{u:AG}:∀{ps:List Str}{us:List AG}{i:Nat},ps.Nodup->ps[i]?=AA x->us[i]?=AA u->(ps.zip us).reverse.lookup x=AA u
 |[],_,_,_,h,_=>by simp at h
 |_::_,[],_,_,_,h=>by simp at h
 |p::ps,w::us,i,nd,h1,h2=>by
  rw[EL,DG,List.lookup_append];cases i with
  |zero=>
   simp at h1 h2;subst h1 h2;have:(ps.zip us).reverse.lookup p=AD:=by
    rw[List.lookup_eq_none_iff];intro y hy;have:=(Fl (List.mem_reverse.mp hy)).1;have ne:p≠y.1:=λz=>(BL.mp nd).1 (z▸this);simpa using ne
   rw[this];simp[Co]
  |succ i=>
   rw[at9 (i:=i) (BL.mp nd).2 (by simpa using h1) (by simpa using h2)];rfl
abbrev cxC(P:Aj)(w:BB)(K:AO)(mg:Str->Option AG)(base:BI)(N:List Str)(scope:BG)(cl:List (Str×AI))(q:Str)(f:AI)(cd:AG)(A:BP)(outer:List Env)(s:AK)(H:Hp):Cx where
 prog:=P
 w:=w
 K:=K
 mg:=mg
 base:=base
 A:=A.deeper (newEnv scope s.heap.objs.size AN cl (q++".<locals>.") (AA f) cd AD Cg)
 N:=N
 s₀:=s
 H₀:=H
 env:=newEnv scope s.heap.objs.size AN cl (q++".<locals>.") (AA f) cd AD Cg
 outer:=outer
 stack:=newEnv scope s.heap.objs.size AN cl (q++".<locals>.") (AA f) cd AD Cg::outer
 ex:=[]
 calm:=AC
 fn:=λy=>!(scope.names.any λz=>z.1==y&&z.2==.free)
 pn:=[]
 xe:=λ_ _=>False
def b15{P:Aj}{K:AO}{mg:Str->Option AG}{base:BI}{ps:List Str}{np:Nat}{b:Ss}{q:Str}{f:AI}{A:BP}{outer:List Env}{s:AK}{h1:BI}{tk:Nat}{us:List AG}{us0:List V}
  (cf:CloF fd np N ps b) (cr:CloR H f fd np N us0) (hd:A.handled=AD) (e0:Env0 P w K mg base A outer s H) (hl:vs.length=ps.length) (r:f7 vs us)
  (hns:h1.Ns s.heap.objs.size (λx=>(ps.zip us).reverse.lookup x)) (hk:∀b o,s.heap.get? b=AA o->h1.get? b=AA o) :
  Inv (cxC P w K mg base N fd.scope fd.closure q f fd.code A outer s H) [] (y4 N (vs++us0)) H {s with heap:=h1,toks:=tk}:=by
 have S:=cf.sc;have noA:∀b:AI,b∉(cxC P w K mg base N fd.scope fd.closure q f fd.code A outer s H).ex:=λb z=>absurd (show b∈([]:List AI) from z) ∎;have hpl:ps.length<=N.length:=by have:=congrArg Di S.pre;rw[Bl]at this;lia
 have hful:(vs++us0).length<=N.length:=by
  rw[AX,hl];cases hu:us0.length with
  |zero=>lia
  |succ m=>
   have hm:m<us0.length:=by lia
   obtain⟨x,_,_,_,_,n1,_⟩:=cr.at' m _ (AJ hm);have:=(AR.mp n1).1;have:=cf.np;lia
 have fnF:∀x c,fd.closure.lookup x=AA c->(!(fd.scope.names.any λz=>z.1==x&&z.2==.free))=AE:=λx c h=>by
  have hm:=cf.fre x c h;have:(fd.scope.names.any λz=>z.1==x&&z.2==.free)=AC:=Gb.mpr ⟨(x,.free),hm,∎⟩;rw[this];rfl
 have celH:∀{c:AI}{o:Obj}{u:HO},H c=AA (.frz o u)->h1.get? c=AA o:=λ{c o u}e=>by
  obtain⟨z,_⟩:=e0.hok c _ e;exact hk _ _ z
 refine⟨⟨e0.mod,S.kind,rfl,rfl,AY _,λy z c h1 h2=>cf.inj y z c h1 h2,λy hy=>?_,λy c h hc=>?_,λ_=>hd,Gm e0.frames,.inr ⟨rfl,rfl⟩,λb z=>absurd z (noA b),e0.bs,e0.bsz,λb _ _=>noA b,λb z=>absurd z (noA b),e0.funs,e0.frf⟩,
  rfl,e0.bare,Un.kept hk,⟨_,hns,λi y v h1 h2 h3=>?_⟩,λy c h=>?_,e0.hok.fresh (AY _),λy c h=>?_,λp hp=>absurd (show p ∈ ([]:List (AI × Obj)) from hp) ∎,e0.hok.kept hk,?_⟩
 ·have hy:fd.scope.names.lookup y=AA .cell\/fd.scope.names.lookup y=AA .free:=hy
  rcases hy with hy|hy
  ·exact absurd rfl (S.nocell _ (PySem.mem_of_lookup hy))
  ·exact cf.has y (PySem.mem_of_lookup hy)
 ·have hc':fd.closure.lookup y=AA c:=hc
  rcases h with h|h
  ·have h':(!(fd.scope.names.any λz=>z.1==y&&z.2==.free))=AC:=h;rw[fnF y c hc']at h';cases h'
  ·cases h
 ·have hi:i<(vs++us0).length:=by
   unfold L2.y4 at h2
   by_cases hi:i<(vs++us0).length
   ·exact hi
   ·rw[Af (by simpa using hi)]at h2;rw[Ct]at h2
    split at h2<;>cases h2
  have ha:(vs++us0)[i]?=AA v:=by
   unfold L2.y4 at h2;rw[Aa (by simpa using hi),Al]at h2;cases e:(vs++us0)[i]? with
   |none=>rw[e]at h2;cases h2
   |some a=>rw[e]at h2;cases h2;rfl
  have h1':N[i]?=AA y:=h1
  by_cases hv:i<vs.length
  ·rw[Aa hv]at ha;obtain⟨u,hu,rv⟩:=r.get ha;have hp:ps[i]?=AA y:=by
    rw[<-S.pre,GY ⋯];exact h1'
   have ndP:ps.Nodup:=by rw[<-S.pre];exact S.nd.sublist (Ho _ _)
   exact⟨u,rv,.inl ⟨S.par y (BN hp),at9 ndP hp hu⟩⟩
  ·rw[Af ⋯]at ha;obtain⟨x,c,o',u',ww,n1,n2,n3,n4,n5,n6⟩:=cr.at' _ v ha;have e:np+(i-vs.length)=i:=by have:=cf.np;lia
   rw[e,h1']at n1;cases n1;exact⟨ww,n6,.inr ⟨.inr (S.fre _ (cf.fre y c n2) rfl),c,n2,o',celH n3,n5⟩⟩
 ·obtain⟨o',u',ww,n3,n4,n5⟩:=cr.cl y c h;exact⟨AA ww,o',celH n3,n5⟩
 ·obtain⟨o',u',ww,n3,n4,n5⟩:=cr.cl y c h;exact .inr ⟨fnF y c h,o',u',n3⟩
 ·unfold L2.y4;show _=N.length;rw[AX,AT,EN];lia
abbrev cs1(X:Cx)(fb:DI)(Z:Sg)(b:Ss):Prop:=match fb with
 |.stmts l=>PSs X l (upS X.K (g9 Z b))
 |.expr x=>∃e,b=.cons (.ret e) .nil/\PE X x (up X.K (wpE Z e))
def at4{K:AO}{ds:List D}(r:IsDs K H ds vs):RelE K H (ds.map AA++Ak (N.length-ds.length) AD) (L2.y4 N vs):=by
 refine⟨by simp[L2.y4,r.len],λi x h=>?_⟩;unfold L2.y4
 by_cases hi:i<ds.length
 ·rw[Aa (by simpa using hi),Al,AJ hi]at h;simp only[Fi,Bs]at h;obtain⟨v,hv,is⟩:=r.get (AJ hi);refine⟨v,?_,by rw[<-h];exact is⟩;rw[Aa (by rw[AT,<-r.len];exact hi),Al,hv];rfl
 ·rw[Af (by simpa using hi),Ct]at h
  split at h<;>cases h
def bz8{K:AO}{ds cs:List D}{us:List V}(r:IsDs K H ds vs)(r2:IsDs K H cs us):RelE K H (L6 N ds cs) (L2.y4 N (vs++us)):=at4 (r.append r2)
def cn8{P:Aj}{K:AO}{mg:Str->Option AG}{base:BI}{n np:Nat}{fa:AI}{ps:List Str}{b:Ss}{cs:List D}{Z:Sg}(cf:CloF fd np N ps b)
  (hbody:∀(q:Str)(A:BP)(outer:List Env)(s:AK)(H:Hp),Room n (cxC P w K mg base N fd.scope fd.closure q fa fd.code A outer s H).A->cs1 (cxC P w K mg base N fd.scope fd.closure q fa fd.code A outer s H) fd.body Z b) :
  FnOk P w K mg base CX0 (n+1) fa fd ps (W7 K fa fd np N cs λds st Q=>ds.length=np/\g9 Z b {nx:=λ_ st'=>∃s2,Sub s2 st'/\Q .non s2,rt:=λd st'=>∃s2,Sub s2 st'/\Q d s2} (L6 N ds cs) st):=by
 refine⟨λvs H Q E hsp=>?_,λA outer s H args us vs Q E hr e0 hb r hsp=>?_⟩
 ·obtain⟨us0,ds,st,Qd,cr,ics,is,rs,hs,hq⟩:=hsp;rw[<-is.len,hs.1,cf.np]
 ·obtain⟨us0,ds,st,Qd,cr,ics,is,rs,⟨hlen,hs⟩,hq⟩:=hsp;have S:=cf.sc;have hl:vs.length=ps.length:=by rw[<-is.len,hlen,cf.np]
  have lim:s.heap.NoLimit:=e0.mod.nolimit.keeps λb o e=>(e0.bs b o e).1;obtain⟨o,u,f1,f2,f3⟩:=cr.ex;obtain⟨c,oc,uc,vc,q,t,c1,c2,c3,c4,c5⟩:=cr.cd;obtain⟨ho,_⟩:=e0.hok fa _ f1;obtain⟨hoc,_⟩:=e0.hok c _ c2;have hloc:∀y∈ps.zip us,fd.scope.names.lookup y.1=AA .local:=λ⟨x,v⟩hy=>S.par x (Fl hy).1;refine ca4 hr.depth ho f3 S.co S.gen c1 hoc c4 c5 (hb _ _ _ _ ?_);rw[cf.gl,cf.bl];refine IP S.nocell hloc (λh1 hns hsb=>?_) S.kind;have hk:∀b o,s.heap.get? b=AA o->h1.get? b=AA o:=λb o e=>hsb.extBut b o (BS (BD e)) (AS _ e);refine⟨lim.keeps hk,?_⟩;have I:=b15 (q:=q) (tk:=s.toks+(ps.zip us).length) cf cr hr.hd e0 hl r hns hk;have hB:=hbody q A outer s H (hr.deeper _);have hE:RelE K H (L6 N ds cs) (y4 N (vs++us0)):=bz8 is ics;have fin:∀{σ':L2.St}{H':Hp}{v:V}{u:AG}{s':AK},Inv (cxC P w K mg base N fd.scope fd.closure q fa fd.code A outer s H) [] σ' H' s'->f8 v u->Q v H'->CE outer P w H s Q u s':=
   λ{σ' H' v u s'}J rv q=>⟨v,H',J.os,J.bare,J.base,J.hok,rv,q⟩
  have rt:∀v d H' st',Ev st H st' H'->IsD K H' d v->RelS K st' H'->(∃s2,Sub s2 st'/\Qd d s2)->Q v H':=λv d H' st' ev is' rs'⟨s2,sub,q⟩=>hq v d H' s2 (ev.drop sub) is' (rs'.sub sub) q;cases hfb:fd.body with
  |stmts l=>
   rw[hfb]at hB;refine codeAny_func (Bc (hB [] _ _ H {nx:=λ_ H'=>Q .non H',rt:=Q} I ⟨L6 N ds cs,st,_,hE,rs,hs,λenv σ H' st' ev hE hS q=>rt _ .non H' st' ev .non hS q,λenv σ H' st' ev hE hS q=>q.elim,λenv σ H' st' ev hE hS q=>q.elim,λv e H' st' ev is' rs' q=>rt v e H' st' ev is' rs' q⟩) (λfl s' hs=>?_) λe s' z=>z.elim);cases fl with
   |ret u=>
    obtain⟨v,σ',H',J,rv,q⟩:=hs;exact fin J rv q
   |next=>
    obtain⟨σ',H',J,q⟩:=hs;exact fin (v:=V.non) (u:=Bh) J rfl q
   |brk=>
    obtain⟨_,_,_,q⟩:=hs;exact AZ q
   |cont=>
    obtain⟨_,_,_,q⟩:=hs;exact AZ q
  |expr x=>
   rw[hfb]at hB;obtain⟨e,rfl,hB⟩:=hB;refine W.kla_codeExpr (Bc (hB [] _ _ H Q I ⟨L6 N ds cs,st,_,hE,rs,(show wpE Z e (L6 N ds cs) st _ from hs),λv d H' st' ev is' rs' q=>rt v d H' st' ev is' rs' q⟩) (λu s' hs=>?_) λe s' z=>z.elim);obtain⟨v,H',J,rv,q⟩:=hs;exact fin J rv q
end Ek
namespace Ek
open PySem PySem.Spec PyProof.Rows L2
variable [Tbs]
variable{x:AQ}{C:AQ->Prop}{g m:Str}{sc:BG}
abbrev P7:List Str:=["len","abs","int","sum","list","tuple","isinstance","max","range","enumerate","reversed","str","bool","min","sorted","zip","any","dict"]
abbrev isM(f:Str):Bool:=f.cps.contains 46
structure FOk(X:Cx)(f:Str)(sp:Spec):Prop where
 ex:∃k a fd ps,FnOk X.prog X.w X.K X.mg X.base CX0 k a fd ps (z8 X.K sp)/\Room k X.A/\X.mg f=AA (.ref a)/\Bj X.K (.ref a)=AC/\t6 X.K fd ps []/\Ax X.K AN f=AA (AA (.ref a))
abbrev t9:Str:=⟨#[33]⟩
abbrev x0(x:Str):Str:=⟨#[33]++x.cps⟩
abbrev Y1(p:Cm):Option (List Str):=if p.posonlyargs.isEmpty&&p.vararg.isNone&&p.kwonlyargs.isEmpty&&p.kw_defaults.isEmpty&&p.kwarg.isNone&&p.defaults.isEmpty&&p.args.all (·.annotation.isNone)&&AB (p.args.map (·.arg)).Nodup&&!p.args.isEmpty&&AB (p.args.length<=3)then AA (p.args.map (·.arg))else AD
abbrev ao4(sc:BG)(N:List Str)(scope:BG)(Nl ps:List Str)(np:Nat)(cp:List Nat):Bool:=
 (ps.length==np)&&(scope.kind==.function)&&!scope.isCoroutine&&!scope.isGenerator&&decide Nl.Nodup&&(Nl.take ps.length==ps)&&ps.all (λx=>scope.names.lookup x==AA .local)&&scope.names.all (λy=>!(y.2==.cell))&&
 scope.names.all (λy=>!(y.2==.free)||(scope.names.lookup y.1==AA .free&&sc.names.lookup y.1==AA .cell&&N.contains (x0 y.1)&&(Cz cp.length).any λi=>match cp[i]? with|some j=>N[j]?==AA y.1|none=>AE))&&
 (Cz cp.length).all (λi=>match cp[i]? with|some j=>(match N[j]? with|some x=>(Nl[np+i]?==AA x)&&scope.names.any (λz=>z.1==x&&z.2==.free)|none=>AE)|none=>AE)
abbrev glb(sc:BG)(f:Str):Bool:=sc.names.lookup f==AA .globalImplicit
abbrev ac4(sc:BG)(x:Str):Bool:=match sc.names.lookup x with
 |some .local=>AC|some .cell=>AC|some .free=>AC|_=>AE
abbrev J7(sc:BG)(x:Str):Bool:=match sc.names.lookup x with
 |some .local=>AC|some .cell=>AC|_=>AE
abbrev lcl(sc:BG)(x:Str):Bool:=sc.names.lookup x==AA .local
abbrev okN(x:Str):Bool:=!(x==("__debug__":Str))&&!(x==("__classdict__":Str))
abbrev bk0(x:AQ):Bool:=!([22,26,7].contains x.ctorIdx)
abbrev C5(x:AQ):Bool:=!(x.ctorIdx==5)
abbrev M3(x:AQ):Bool:=!([8,9,10].contains x.ctorIdx)
abbrev aq9(scope sc:BG):BG:=
 {scope with names:=scope.names.map λ(n,k)=>if(k==.free&&sc.kind==.function&&sc.names.lookup n==AA .cell)then(n,.cell)else(n,k)}
abbrev V6(sc scope:BG)(N Nc:List Str)(fr:List Nat)(k:Nat):Bool:=
 (scope.kind==.function)&&scope.names.all (λy=>!(y.2==.cell))&&scope.names.all (λy=>!(y.2==.local)||scope.names.lookup y.1==AA .local)&&
 scope.names.all (λy=>!(y.2==.free)||sc.names.lookup y.1==AA .cell||sc.names.lookup y.1==AA .free)&&scope.names.all (λy=>!(y.2==.free)||!(scope.names.any λz=>z.1==y.1&&z.2==.local))&&
 decide Nc.Nodup&&!(Nc.contains t9)&&(Nc.length==fr.length+k)&&((Cz fr.length).all λi=>match Nc[i]?,fr[i]? with
  |some x,AA j=>(N[j]?==AA x)&&scope.names.any (λz=>z.1==x&&z.2==.free)|_,_=>AE)
def an{a b:Bool}(h:(a&&b)=AC):a=AC/\b=AC:=Bool.and_eq_true_iff.1 h
def nt{b:Bool}(h:(!b)=AC):b=AE:=by cases b<;>first|rfl|cases h
def dE{p:Prop}[Decidable p]{f:p->Bool}{C:Prop}(h:(if h:p then f h else AE)=AC)(H:∀e,f e=AC->C):C:=by
 by_cases e:p
 ·rw[dif_pos e]at h;exact H e h
 ·rw[dif_neg e]at h;cases h
abbrev xBo(x:AQ)(k:KY->List AQ->Pos->Bool):Bool:=if h:x.ctorIdx=0 then Ef x h k else AE
def bs6{k:KY->List AQ->Pos->Bool}(h:xBo x k=AC)(H:∀o l p,k o l p=AC->C (.BoolOp o l p)):C x:=
 dE h λe=>Ef (motive_1:=λx=>∀e,Ef x e k=AC->C x) x e (λo l p _ h=>H o l p h) e
abbrev xBi(x:AQ)(k:AQ->EU->AQ->Pos->Bool):Bool:=if h:x.ctorIdx=2 then FB x h k else AE
def c49{k:AQ->EU->AQ->Pos->Bool}(h:xBi x k=AC)(H:∀a o b p,k a o b p=AC->C (.BinOp a o b p)):C x:=
 dE h λe=>FB (motive_1:=λx=>∀e,FB x e k=AC->C x) x e (λa o b p _ h=>H a o b p h) e
abbrev xU(x:AQ)(k:UnaryOp->AQ->Pos->Bool):Bool:=if h:x.ctorIdx=3 then EQ x h k else AE
def xU_{k:UnaryOp->AQ->Pos->Bool}(h:xU x k=AC)(H:∀o a p,k o a p=AC->C (.UnaryOp o a p)):C x:=
 dE h λe=>EQ (motive_1:=λx=>∀e,EQ x e k=AC->C x) x e (λo a p _ h=>H o a p h) e
abbrev xIf(x:AQ)(k:AQ->AQ->AQ->Pos->Bool):Bool:=if h:x.ctorIdx=5 then FC x h k else AE
def c57{k:AQ->AQ->AQ->Pos->Bool}(h:xIf x k=AC)(H:∀a b c p,k a b c p=AC->C (.IfExp a b c p)):C x:=
 dE h λe=>FC (motive_1:=λx=>∀e,FC x e k=AC->C x) x e (λa b c p _ h=>H a b c p h) e
abbrev xD(x:AQ)(k:List (Option AQ)->List AQ->Pos->Bool):Bool:=if h:x.ctorIdx=6 then FY x h k else AE
def xD_{k:List (Option AQ)->List AQ->Pos->Bool}(h:xD x k=AC)(H:∀a b p,k a b p=AC->C (.Dict a b p)):C x:=
 dE h λe=>FY (motive_1:=λx=>∀e,FY x e k=AC->C x) x e (λa b p _ h=>H a b p h) e
abbrev xLC(x:AQ)(k:AQ->List HY->BG->Pos->Bool):Bool:=if h:x.ctorIdx=8 then ED x h k else AE
def c64{k:AQ->List HY->BG->Pos->Bool}(h:xLC x k=AC)(H:∀a g s p,k a g s p=AC->C (.ListComp a g s p)):C x:=
 dE h λe=>ED (motive_1:=λx=>∀e,ED x e k=AC->C x) x e (λa g s p _ h=>H a g s p h) e
abbrev xCm(x:AQ)(k:AQ->List De->List AQ->Pos->Bool):Bool:=if h:x.ctorIdx=15 then ER x h k else AE
def c70{k:AQ->List De->List AQ->Pos->Bool}(h:xCm x k=AC)(H:∀a o b p,k a o b p=AC->C (.Compare a o b p)):C x:=
 dE h λe=>ER (motive_1:=λx=>∀e,ER x e k=AC->C x) x e (λa o b p _ h=>H a o b p h) e
abbrev xCa(x:AQ)(k:AQ->List AQ->List Go->Pos->Bool):Bool:=if h:x.ctorIdx=16 then FZ x h k else AE
def c47{k:AQ->List AQ->List Go->Pos->Bool}(h:xCa x k=AC)(H:∀f a w p,k f a w p=AC->C (.Call f a w p)):C x:=
 dE h λe=>FZ (motive_1:=λx=>∀e,FZ x e k=AC->C x) x e (λf a w p _ h=>H f a w p h) e
abbrev xK(x:AQ)(k:Const->Nat->Pos->Bool):Bool:=if h:x.ctorIdx=19 then EE x h k else AE
def xK_{k:Const->Nat->Pos->Bool}(h:xK x k=AC)(H:∀c n p,k c n p=AC->C (.Constant c n p)):C x:=
 dE h λe=>EE (motive_1:=λx=>∀e,EE x e k=AC->C x) x e (λc n p _ h=>H c n p h) e
abbrev xA(x:AQ)(k:AQ->Str->Pos->Bool):Bool:=if h:x.ctorIdx=20 then Dq x h k else AE
def xA_{k:AQ->Str->Pos->Bool}(h:xA x k=AC)(H:∀a f p,k a f p=AC->C (.Attribute a f p)):C x:=
 dE h λe=>Dq (motive_1:=λx=>∀e,Dq x e k=AC->C x) x e (λa f p _ h=>H a f p h) e
abbrev xS(x:AQ)(k:AQ->AQ->Pos->Bool):Bool:=if h:x.ctorIdx=21 then Dr x h k else AE
def xS_{k:AQ->AQ->Pos->Bool}(h:xS x k=AC)(H:∀a b p,k a b p=AC->C (.Subscript a b p)):C x:=
 dE h λe=>Dr (motive_1:=λx=>∀e,Dr x e k=AC->C x) x e (λa b p _ h=>H a b p h) e
abbrev xN(x:AQ)(k:Str->Pos->Bool):Bool:=if h:x.ctorIdx=23 then Fa x h k else AE
def xN_{k:Str->Pos->Bool}(h:xN x k=AC)(H:∀y p,k y p=AC->C (.Name y p)):C x:=
 dE h λe=>Fa (motive_1:=λx=>∀e,Fa x e k=AC->C x) x e (λy p _ h=>H y p h) e
abbrev xL(x:AQ)(k:List AQ->Pos->Bool):Bool:=if h:x.ctorIdx=24 then Fb x h k else AE
def xL_{k:List AQ->Pos->Bool}(h:xL x k=AC)(H:∀l p,k l p=AC->C (.List l p)):C x:=
 dE h λe=>Fb (motive_1:=λx=>∀e,Fb x e k=AC->C x) x e (λl p _ h=>H l p h) e
abbrev xT(x:AQ)(k:List AQ->Nat->Pos->Bool):Bool:=if h:x.ctorIdx=25 then FD x h k else AE
def xT_{k:List AQ->Nat->Pos->Bool}(h:xT x k=AC)(H:∀l n p,k l n p=AC->C (.Tuple l n p)):C x:=
 dE h λe=>FD (motive_1:=λx=>∀e,FD x e k=AC->C x) x e (λl n p _ h=>H l n p h) e
abbrev xSl(x:AQ)(k:Option AQ->Option AQ->Option AQ->Pos->Bool):Bool:=if h:x.ctorIdx=26 then FE x h k else AE
def br8{k:Option AQ->Option AQ->Option AQ->Pos->Bool}(h:xSl x k=AC)(H:∀l u s p,k l u s p=AC->C (.Slice l u s p)):C x:=
 dE h λe=>FE (motive_1:=λx=>∀e,FE x e k=AC->C x) x e (λl u s p _ h=>H l u s p h) e
abbrev l1{α:Type}(l:List α)(k:α->Bool):Bool:=DU (motive:=λ_=>Bool) l AE λp r=>r.isEmpty&&k p
def l1_{α:Type}{l:List α}{k:α->Bool}{C:List α->Prop}(h:l1 l k=AC)(H:∀p,k p=AC->C [p]):C l:=
 match l,h with
 |[p],h=>H p h
abbrev l2{α:Type}(l:List α)(k:α->α->Bool):Bool:=DU (motive:=λ_=>Bool) l AE λp r=>l1 r (k p)
def l2_{α:Type}{l:List α}{k:α->α->Bool}{C:List α->Prop}(h:l2 l k=AC)(H:∀p q,k p q=AC->C [p,q]):C l:=
 match l,h with
 |p::r,h=>l1_ (C:=λr=>C (p::r)) h λq h=>H p q h
abbrev lb(l:List AQ)(k:AQ->AQ->Bool)(m:AQ->List AQ->Bool):Bool:=DU (motive:=λ_=>Bool) l AE λp r=>if r.length=1 then l1 r (k p)else AB (2<=r.length)&&m p r
abbrev xKc(x:AQ)(c:Const):Bool:=xK x λd _ _=>d==c
def P2{c:Const}(h:xKc x c=AC)(H:∀n p,C (.Constant c n p)):C x:=
 xK_ h λd n p e=>(beq_iff_eq.1 e)▸H n p
abbrev O9(x:AQ)(g:Str):Bool:=xN x λy _=>y==g
def T4(h:O9 x g=AC)(H:∀p,C (.Name g p)):C x:=
 xN_ h λy p e=>(beq_iff_eq.1 e)▸H p
abbrev xCl(x:AQ)(k:AQ->List AQ->Pos->Bool):Bool:=xCa x λf a w p=>w.isEmpty&&k f a p
def ac1{k:AQ->List AQ->Pos->Bool}(h:xCl x k=AC)(H:∀f a p,k f a p=AC->C (.Call f a [] p)):C x:=
 c47 h λf a w p h=>by
  cases w with
  |nil=>exact H f a p h
  |cons=>exact(AH h).elim
abbrev S7(x:AQ):Bool:=!(xCl x λf a _=>a.isEmpty&&xN f λ_ _=>AC)
abbrev xG(g:Str)(sc:BG)(x:AQ)(k:List AQ->Bool):Bool:=xCl x λf a _=>O9 f g&&(glb sc g&&k a)
def xG_{k:List AQ->Bool}{C:AQ->Prop}(h:xG g sc x k=AC)(H:∀q a p,glb sc g=AC->k a=AC->C (.Call (.Name g q) a [] p)):C x:=
 ac1 h λf a p h=>T4 (C:=λf=>C (.Call f a [] p)) (an h).1 λq=>H q a p (an (an h).2).1 (an (an h).2).2
abbrev xC1(g:Str)(sc:BG)(x:AQ)(k:AQ->Bool):Bool:=xG g sc x λa=>l1 a k
def E8{k:AQ->Bool}{C:AQ->Prop}(h:xC1 g sc x k=AC)(H:∀q a p,glb sc g=AC->k a=AC->C (.Call (.Name g q) [a] [] p)):C x:=
 xG_ h λq a p h1 h=>l1_ (C:=λa=>C (.Call (.Name g q) a [] p)) h λa=>H q a p h1
abbrev xC2(g:Str)(sc:BG)(x:AQ)(k:AQ->AQ->Bool):Bool:=xG g sc x λa=>l2 a k
def aq7{k:AQ->AQ->Bool}{C:AQ->Prop}(h:xC2 g sc x k=AC)(H:∀q a b p,glb sc g=AC->k a b=AC->C (.Call (.Name g q) [a,b] [] p)):C x:=
 xG_ h λq a p h1 h=>l2_ (C:=λa=>C (.Call (.Name g q) a [] p)) h λa b=>H q a b p h1
abbrev xM(m:Str)(x:AQ)(k:AQ->List AQ->Bool):Bool:=xCl x λf a cp=>xA f λo n ap=>(n==m)&&((ap.endLine==cp.line)&&k o a)
def xM_{k:AQ->List AQ->Bool}{C:AQ->Prop}(h:xM m x k=AC)(H:∀o ap a cp,(ap.endLine==cp.line)=AC->k o a=AC->C (.Call (.Attribute o m ap) a [] cp)):C x:=
 ac1 h λf a cp h=>xA_ (C:=λf=>C (.Call f a [] cp)) h λo n ap h=>(beq_iff_eq.1 (an h).1)▸H o ap a cp (an (an h).2).1 (an (an h).2).2
abbrev xM0(m:Str)(x:AQ)(k:AQ->Bool):Bool:=xM m x λo a=>a.isEmpty&&(S7 o&&k o)
def bs0{k:AQ->Bool}(h:xM0 m x k=AC)(H:∀o ap cp,(ap.endLine==cp.line)=AC->S7 o=AC->k o=AC->C (.Call (.Attribute o m ap) [] [] cp)):C x:=
 xM_ h λo ap a cp e h=>by
  cases a with
  |nil=>exact H o ap cp e (an (an h).2).1 (an (an h).2).2
  |cons=>exact(AH h).elim
abbrev xM1(m:Str)(x:AQ)(k j:AQ->Bool):Bool:=xM m x λo a=>l1 a λp=>S7 o&&(k o&&j p)
def X2{k j:AQ->Bool}{C:AQ->Prop}(h:xM1 m x k j=AC)(H:∀o ap p cp,(ap.endLine==cp.line)=AC->S7 o=AC->k o=AC->j p=AC->C (.Call (.Attribute o m ap) [p] [] cp)):C x:=
 xM_ h λo ap a cp e h=>l1_ (C:=λa=>C (.Call (.Attribute o m ap) a [] cp)) h λp h=>H o ap p cp e (an h).1 (an (an h).2).1 (an (an h).2).2
abbrev xCo(x:AQ)(k:De->AQ->AQ->Bool):Bool:=xCm x λa o b _=>l1 o λo=>l1 b λb=>k o a b
def ac6{k:De->AQ->AQ->Bool}{C:AQ->Prop}(h:xCo x k=AC)(H:∀o a b p,k o a b=AC->C (.Compare a [o] [b] p)):C x:=
 c70 h λa o b p h=>l1_ (C:=λo=>C (.Compare a o b p)) h λo h=>l1_ (C:=λb=>C (.Compare a [o] b p)) h λb=>H o a b p
abbrev mTg(ow:Bool)(t:Tg)(sc:BG)(N:List Str)(x:AQ):Bool:=match t with
 |.n i=>xN x λy _=>(N[i]?==AA y)&&J7 sc y&&((ow&&!(N.contains (x0 y)))||lcl sc y)
 |.tup is=>xT x λes _ _=>(is.length==es.length)&&((is.zip es).all λp=>xN p.2 λy _=>(N[p.1]?==AA y)&&J7 sc y&&((ow&&!(N.contains (x0 y)))||lcl sc y))
abbrev mKs:List Str->List (Option AQ)->Bool
 |[],l=>l.isEmpty
 |k::ks,l=>DU (motive:=λ_=>Bool) l AE λx r=>Fq (motive:=λ_=>Bool) x AE λx=>xKc x (.str k)&&mKs ks r
abbrev oE(lo:E)(m:AQ->Bool)(l:Option AQ):Bool:=Fq (motive:=λ_=>Bool) l lo.isNon λl=>!lo.isNon&&m l
abbrev cE(c:E)(m:AQ->Bool)(l:List AQ):Bool:=if l.isEmpty then c.isNon else l1 l λx=>!c.isNon&&(C5 x&&m x)
abbrev bs5(ks:List Str)(vs:Es):Bool:=(ks.length==vs.len)&&(decide ks.Nodup&&(AB (ks.length<=15)&&!ks.isEmpty))
mutual
noncomputable def mE:E->BG->List Str->AQ->Bool
 |.non,_,_,x=>xKc x .none
 |.bl b,_,_,x=>xKc x (.bool b)
 |.int i,_,_,x=>xKc x (.int i)
 |.str y,_,_,x=>xKc x (.str y)
 |.v i,sc,N,x=>xN x λy _=>(N[i]?==AA y)&&(ac4 sc y&&okN y)
 |.tup es,sc,N,x=>xT x λxs _ _=>mEs es sc N xs&&AB (es.len<=1000)
 |.lst es,sc,N,x=>xL x λxs _=>mEs es sc N xs&&AB (es.len<=1000)
 |.bin o a b,sc,N,x=>xBi x λp q r _=>(q==o)&&(mE a sc N p&&mE b sc N r)
 |.neg a,sc,N,x=>xU x λo p _=>(o==.USub)&&mE a sc N p
 |.cmp o a b,sc,N,x=>xCo x λq p r=>(q==o)&&(mE a sc N p&&mE b sc N r)
 |.isN a,sc,N,x=>xCo x λq p r=>(q==.Is)&&(xKc r .none&&mE a sc N p)
 |.notN a,sc,N,x=>xCo x λq p r=>(q==.IsNot)&&(xKc r .none&&mE a sc N p)
 |.and a b,sc,N,x=>xBo x λo l ps=>(o==.And)&&lb l (λp q=>mE a sc N p&&mE b sc N q&&C5 p&&C5 q) (λp r=>mE a sc N p&&mE b sc N (.BoolOp .And r ps)&&C5 p)
 |.or a b,sc,N,x=>xBo x λo l ps=>(o==.Or)&&lb l (λp q=>mE a sc N p&&mE b sc N q&&C5 p&&C5 q) (λp r=>mE a sc N p&&mE b sc N (.BoolOp .Or r ps)&&C5 p)
 |.not a,sc,N,x=>xU x λo p _=>(o==.Not)&&(mE a sc N p&&C5 p)
 |.ite c a b,sc,N,x=>xIf x λp q r _=>(mE c sc N p&&C5 p)&&(mE a sc N q&&mE b sc N r)
 |.ix a b,sc,N,x=>xS x λp q _=>mE a sc N p&&mE b sc N q
 |.sl a lo hi,sc,N,x=>xS x λp s _=>mE a sc N p&&xSl s λl h st _=>st.isNone&&(oE lo (mE lo sc N) l&&oE hi (mE hi sc N) h)
 |.slw a lo hi,sc,N,x=>xS x λp s _=>mE a sc N p&&xSl s λl h st _=>st.isNone&&(oE lo (mE lo sc N) l&&oE hi (mE hi sc N) h)
 |.dsel ks vs k,sc,N,x=>xS x λd q _=>mE k sc N q&&xD d λkeys xs _=>mKs ks keys&&(mEs vs sc N xs&&bs5 ks vs)
 |.gget g k d,sc,N,x=>xM "get" x λo a=>O9 o g&&(glb sc g&&(okN g&&l2 a λp q=>mE k sc N p&&mE d sc N q))
 |.gsel g k,sc,N,x=>xS x λn q _=>O9 n g&&(glb sc g&&(okN g&&mE k sc N q))
 |.len a,sc,N,x=>xC1 "len" sc x (mE a sc N)
 |.abs a,sc,N,x=>xC1 "abs" sc x (mE a sc N)
 |.toInt a,sc,N,x=>xC1 "int" sc x (mE a sc N)
 |.sum a,sc,N,x=>xC1 "sum" sc x (mE a sc N)
 |.list a,sc,N,x=>xC1 "list" sc x (mE a sc N)
 |.tuple a,sc,N,x=>xC1 "tuple" sc x (mE a sc N)
 |.max a b,sc,N,x=>xC2 "max" sc x λp q=>mE a sc N p&&mE b sc N q
 |.call f es,sc,N,x=>xG f sc x λl=>okN f&&(!isM f&&(!l.isEmpty&&mEs es sc N l))
 |.gf f,sc,_,x=>O9 x f&&(glb sc f&&(okN f&&!isM f))
 |.callx c es,sc,N,x=>xCl x λf l _=>xS f (λp q s=>mE c sc N (.Subscript p q s))&&(!l.isEmpty&&mEs es sc N l)
 |.callv i es,sc,N,x=>xCl x λf l _=>xN f (λy _=>(N[i]?==AA y)&&(ac4 sc y&&okN y))&&(!l.isEmpty&&mEs es sc N l)
 |.isT t a,sc,N,x=>xC2 "isinstance" sc x λp g=>O9 g (AV t)&&(glb sc (AV t)&&(L4.contains t&&mE a sc N p))
 |.fld a f,sc,N,x=>xA x λo g _=>(g==f)&&(S7 o&&mE a sc N o)
 |.methd a m es,sc,N,x=>xM m x λo l=>xN o (λy p=>mE a sc N (.Name y p))&&(!l.isEmpty&&(mEs es sc N l&&AB (l.length<29)))
 |.meth a m es,sc,N,x=>xM m x λo l=>xN o (λy p=>mE a sc N (.Name y p))&&(mEs es sc N l&&AB (l.length<29))
 |.make c es,sc,N,x=>xG c sc x λl=>okN c&&mEs es sc N l
 |.app a b,sc,N,x=>xM1 "append" x (mE a sc N) (mE b sc N)
 |.ext a b,sc,N,x=>xM1 "extend" x (mE a sc N) (mE b sc N)
 |.popAt a b,sc,N,x=>xM1 "pop" x (mE a sc N) (mE b sc N)
 |.pop a,sc,N,x=>xM0 "pop" x (mE a sc N)
 |.any a,sc,N,x=>xC1 "any" sc x (mE a sc N)
 |.dnt,sc,N,x=>xD x λl r _=>l.isEmpty&&r.isEmpty
 |.dgt a b,sc,N,x=>xM1 "get" x (mE a sc N) (mE b sc N)
 |.din ne a b,sc,N,x=>xCo x λq p r=>(q==(if ne then Gy else .In))&&(mE a sc N p&&mE b sc N r)
 |.lrev a,sc,N,x=>xM0 "reverse" x (mE a sc N)
 |.gc g,sc,_,x=>O9 x g&&(glb sc g&&okN g)
 |.index a b,sc,N,x=>xM1 "index" x (mE a sc N) (mE b sc N)
 |.comp Nc fr k t it c e,sc,N,x=>xLC x λel g scope _=>l1 g λg=>(g.is_async==0)&&(V6 sc scope N Nc fr k&&(mIt it sc N g.target g.iter&&(mTg AE t (aq9 scope sc) Nc g.target&&(mE e (aq9 scope sc) Nc el&&cE c (mE c (aq9 scope sc) Nc) g.ifs))))
noncomputable def mEs:Es->BG->List Str->List AQ->Bool
 |.nil,_,_,xs=>xs.isEmpty
 |.cons e r,sc,N,xs=>DU (motive:=λ_=>Bool) xs AE λx xs=>mE e sc N x&&mEs r sc N xs
noncomputable def mIt:It->BG->List Str->AQ->AQ->Bool
 |.seq e,sc,N,_,x=>mE e sc N x
 |.rng a,sc,N,_,x=>xC1 "range" sc x (mE a sc N)
 |.rng2 a b,sc,N,_,x=>xC2 "range" sc x λp q=>mE a sc N p&&mE b sc N q
 |.enum e,sc,N,tg,x=>xT tg (λ_ _ _=>AC)&&xC1 "enumerate" sc x (mE e sc N)
 |.revt e,sc,N,_,x=>xC1 "reversed" sc x (mE e sc N)
 |.rev e,sc,N,_,x=>xC1 "reversed" sc x (mE e sc N)
end
structure XOk(Z:Sg)(X:Cx):Prop where
 calm:X.calm=AC
 xe:X.xe=λ_ _=>False
 units:X.A.units+200<Bo
 nd:X.N.Nodup
 blt:∀b∈P7,X.mg b=AD
 fns:∀f,isM f=AE->Z.F f=AC->FOk X f (Z.Phi f)
 nom:∀f fa,Z.F f=AC->Ax X.K AN f=AA (AA (.ref fa))->isM f=AE
 cls:∀f c Ca,Ax X.K AN c=AA (AA (.ref Ca))->f∈Z.C c->Cls X.K Ca/\F7 X.K Ca f
 mth:∀m c Ca,Ax X.K AN c=AA (AA (.ref Ca))->Z.F (c7 c m)=AC->∃k f fd ps,Cls X.K Ca/\Meth X.K Ca m f/\FnOk X.prog X.w X.K X.mg X.base CX0 k f fd ps (z8 X.K (Z.Phi (c7 c m)))/\Room k X.A/\t6 X.K fd ps []
 mthd:∀m c Ca i,Ax X.K AN c=AA (AA (.ref Ca))->Z.F (c7 c m)=AC->B3 Z.C (c7 c m)=AA i->∃k f fd ps tk,Cls X.K Ca/\Meth X.K Ca m f/\FnOk X.prog X.w X.K X.mg X.base CX0 k f fd ps (z8 X.K (Z.Phi (c7 c m)))/\Room k X.A/\t6 X.K fd ps [.int i tk]
 mks:∀c,Z.MF (c7 c "__init__")=AC->∃Ca k f fd ps,Ax X.K AN c=AA (AA (.ref Ca))/\Mk X.K Ca f/\FnOk X.prog X.w X.K X.mg X.base CX0 k f fd ps (z8 X.K (Z.Mk (c7 c "__init__")))/\Room (k+1) X.A/\X.mg c=AA (.ref Ca)/\t6 X.K fd ps []
 tabs:∀g,Z.G g≠[]->GTab X.prog X.w X.K X.mg g (Z.G g)
 cst:∀g i,Z.Kc g=AA i->∃t,X.mg g=AA (.int i t)
 kt:Tbs.kt=(Z.C "!kt").isEmpty
 lam:X.N.contains t9=AC->LamOk X/\∀x,X.N.contains (x0 x)=AC->X.fn x=AE/\X.ow x=AC
 mtE:∀(e:E)(sc:BG)(N:List Str)(x:AQ),mE e sc N x=AC->N.contains t9=AE->Tbs.mt (.cons (.ret e) .nil) sc N (.expr x)
 clo:∀np N b cs fa fd ps,CloF fd np N ps b->∃k,FnOk X.prog X.w X.K X.mg X.base CX0 k fa fd ps (W7 X.K fa fd np N cs (Z.PhiC np N b cs))/\Room k X.A
end Ek
namespace Ek
open PySem PySem.Spec PyProof.Rows L2
variable [Tbs]
variable{x:AQ}{Z:Sg}{X:Cx}{f:Str}{scope:BG}{Nc:List Str}{fr:List Nat}
structure Snd(Z:Sg)(X:Cx)(e:E)(x:AQ):Prop where
 v:PE X x (up X.K (wpE Z e))
 t:C5 x=AC->PT X x (upB X.K (wpT Z e))
 w:∀op vs p,x=.BoolOp op vs p->PW X x (upB X.K (wpT Z e))
 st:∀y p,x≠.Starred y p
 sl:∀l u s p,x≠.Slice l u s p
 se:∀l k p,x≠.Set l k p
def aq4(h:bk0 x=AC):(∀y p,x≠.Starred y p)/\(∀l u s p,x≠.Slice l u s p)/\(∀l k p,x≠.Set l k p):=
 ⟨λ_ _ z=>(by rw[z]at h;cases h),λ_ _ _ _ z=>(by rw[z]at h;cases h),λ_ _ _ z=>(by rw[z]at h;cases h)⟩
def Snd.plain{e:E}(he:PE X x (up X.K (wpE Z e)))(hi:∀whole,Gx x X.env whole=(do let v <-whole;Gj x.pos;holding [v] (truthy v)))(hu:bk0 x=AC)(hb:∀op vs p,x≠.BoolOp op vs p):Snd Z X e x:=
 ⟨he,λ_=>c23 he hi,λop vs p z=>absurd z (hb op vs p),(aq4 hu).1,(aq4 hu).2.1,(aq4 hu).2.2⟩
abbrev cp2(x:AQ):Bool:=[2,4,6,8,16,19,20,21,23,24,25].contains x.ctorIdx
def Snd.pl{e:E}(he:PE X x (up X.K (wpE Z e)))(h:cp2 x=AC):Snd Z X e x:=by
 cases x<;>first|exact(AH h).elim|exact Snd.plain he (λ_=>rfl) rfl (by intros;exact nofun)
def u2(h:glb X.env.scope f=AC):Gl X f:=by
 have:X.env.scope.names.lookup f=AA .globalImplicit:=by simpa[glb]using h
 exact this
def bc0{sc:BG}(h:ac4 sc f=AC):Vis sc f:=by
 unfold ac4 at h
 split at h
 ·exact .inl (by assumption)
 ·exact .inr (.inl (by assumption))
 ·exact .inr (.inr (by assumption))
 ·cases h
def Q8{sc:BG}(h:J7 sc f=AC):Loc sc f:=by
 unfold J7 at h
 split at h
 ·exact .inl (by assumption)
 ·exact .inr (by assumption)
 ·cases h
def E4{x:Str}(h:okN x=AC):(x==("__debug__":Str))=AE/\(x==("__classdict__":Str))=AE:=by
 simpa[okN]using h
def M2{o:AQ}(h:S7 o=AC):∀i p p',o≠.Call (.Name i p) [] [] p':=λ_ _ _ z=>by rw[z]at h;cases h
def XOk.blt'(h:XOk Z X)(b:Str)(hb:P7.contains b=AC:=by decide):X.mg b=AD:=h.blt b (by simpa using hb)
def XOk.pass(h:XOk Z X):GO (model X.prog X.w) X.A X.env X.xe:=by rw[h.xe];exact PassesOwn.never
def ao1{ow:Bool}{t:Tg}(hc:X.calm=AC)(hN:X.N.Nodup)(how:ow=AC->∀y,Loc X.env.scope y->X.N.contains (x0 y)=AE->X.fn y=AC\/X.env.scope.names.lookup y=AA .local)(h:mTg ow t X.env.scope X.N x=AC):PG X x (upG X.K t):=by
 have one:∀(i:Nat)(y:Str)(p:Pos),((X.N[i]?==AA y)&&J7 X.env.scope y&&((ow&&!(X.N.contains (x0 y)))||lcl X.env.scope y))=AC->X.N[i]?=AA y/\Loc X.env.scope y/\(X.fn y=AC\/X.env.scope.names.lookup y=AA .local):=λi y p h=>by
  simp only[Au,beq_iff_eq,Bool.or_eq_true,GK]at h;refine⟨h.1.1,Q8 h.1.2,?_⟩
  rcases h.2 with z|z
  ·exact how z.1 y (Q8 h.1.2) z.2
  ·exact .inr (by simpa[lcl]using z)
 cases t with
 |n i=>
  refine xN_ (C:=λx=>PG X x (upG X.K (.n i))) h λy p h=>?_;obtain⟨a,b,c⟩:=one _ _ p h;exact ck0 hN a b c
 |tup is=>
  refine xT_ (C:=λx=>PG X x (upG X.K (.tup is))) h λes k p h=>?_;obtain⟨hl,ha⟩:=an h;have all:∀(is:List Nat)(es:List AQ),is.length=es.length->((is.zip es).all λp=>xN p.2 λy _=>(X.N[p.1]?==AA y)&&J7 X.env.scope y&&((ow&&!(X.N.contains (x0 y)))||lcl X.env.scope y))=AC->PGs X es (X1 is)/\(By es X.env).length=is.length/\(By es X.env).findIdx? (·.1)=AD:=by
   intro is
   induction is with
   |nil=>
    intro es hl _;cases es with
    |nil=>exact⟨cl6,rfl,rfl⟩
    |cons a b=>cases hl
   |cons i is ih=>
    intro es hl h;cases es with
    |nil=>cases hl
    |cons e es=>
     obtain⟨h1,h2⟩:=an h;obtain⟨g1,g2,g3⟩:=ih es (Er hl) h2;refine xN_ (C:=λe=>PGs X (e::es) (X1 (i::is))/\(By (e::es) X.env).length=(i::is).length/\(By (e::es) X.env).findIdx? (·.1)=AD) h1 λy py h1=>?_;obtain⟨a,b,c⟩:=one i y py h1;refine⟨b89 (a70 hN a b c) g1 rfl,congrArg (·+1) g2,?_⟩;show List.findIdx? _ ((AE,assign (.Name y py) X.env)::By es X.env)=AD;rw[List.findIdx?_cons];simp only[BO,if_false];rw[g3];rfl
  obtain⟨g1,g2,g3⟩:=all is es (beq_iff_eq.1 hl) ha;exact cp4 hc g1 g2 g3
def au8{k:Nat}(h:V6 X.env.scope scope X.N Nc fr k=AC):CompScope X scope Nc fr k:=by
 unfold V6 at h;simp only[Au,beq_iff_eq,decide_eq_true_eq,DZ]at h;obtain⟨⟨⟨⟨⟨⟨⟨⟨h1,h2⟩,h3⟩,h4⟩,h5⟩,h6⟩,_⟩,h7⟩,h8⟩:=h;refine⟨h1,λy hy=>?_,λy hy hl=>?_,λy hy hf=>?_,λy hy hf hm=>?_,h6,h7,λi x hx hi=>?_⟩
 ·simpa using h2 y hy
 ·have:=h3 y hy;rw[hl]at this;simpa using this
 ·have:=h4 y hy;rw[hf]at this;simpa using this
 ·have:=h5 y hy;rw[hf]at this;have:(scope.names.any λz=>z.1==y.1&&z.2==.local)=AE:=by simpa using this
  rw[Fx]at this;exact absurd ∎ (this _ hm)
 ·have:=h8 i (by simpa using hi);rw[hx]at this;cases q:fr[i]? with
  |none=>rw[q]at this;cases this
  |some j=>
   rw[q]at this;simp only[Au,beq_iff_eq,Gb]at this;obtain⟨a,⟨n,kd⟩,hm,e1,e2⟩:=this;simp only at e1 e2;subst e1 e2;exact⟨j,rfl,a,hm⟩
def X8{k:Nat}(h:V6 X.env.scope scope X.N Nc fr k=AC):Nc.contains t9=AE:=by
 unfold V6 at h;simp only[Au,GK]at h;exact h.1.1.2
theorem XOk.comp{k:Nat}(h:XOk Z X)(nl:Nc.contains t9=AE)(S:CompScope X scope Nc fr k)(C:AI)(fp:List AI)(pins:List (AI×Obj))(s:AK)(H:Hp):XOk Z (X.comp scope Nc C fp pins s H) where
 calm:=h.calm
 xe:=rfl
 units:=h.units
 nd:=S.nd
 blt:=h.blt
 fns:=λf hm hf=>let⟨k,a,fd,ps,x⟩:=(h.fns f hm hf).ex;⟨k,a,fd,ps,x⟩
 nom:=λf fa a b=>h.nom f fa a b
 cls:=λf c Ca a b=>h.cls f c Ca a b
 mth:=λm c Ca a b=>h.mth m c Ca a b
 mthd:=λm c Ca i a b d=>h.mthd m c Ca i a b d
 mks:=λc a=>h.mks c a
 tabs:=λg hg=>⟨(h.tabs g hg).ex⟩
 lam:=λz=>by
  have z':Nc.contains t9=AC:=z;rw[nl]at z';cases z'
 cst:=h.cst
 kt:=h.kt
 mtE:=h.mtE
 clo:=λnp N b cs fa fd ps cf=>h.clo np N b cs fa fd ps cf
theorem fmc{α β:Type}{f g:α->Option β}:∀{l:List α},(∀n∈l,f n=g n)->l.filterMap f=l.filterMap g
 |[],_=>rfl
 |a::l,h=>by rw[DD,DD,h a (.head _),fmc λn hn=>h n (.tail _ hn)]
theorem a06:∀(ns:List Str)(us:List AG),ns.Nodup->us.length=ns.length->(ns.filterMap λn=>((ns.zip us).lookup n).map (n,·))=ns.zip us/\∀n∈ns,((ns.zip us).lookup n).isNone=AE
 |[],us,_,_=>⟨rfl,nofun⟩
 |a::ns,u::us,hd,hl=>by
  obtain⟨h1,h2⟩:=a06 ns us (BL.1 hd).2 (Er hl);refine⟨?_,λn hn=>?_⟩
  ·rw[EL,DD,DY,beq_self_eq_true];refine congrArg ((a,u)::·) (JU (fmc λn hn=>?_) h1);rw[DY,beq_false_of_ne λe:n=a=>(BL.1 hd).1 (e▸hn)]
  ·rw[EL,DY];cases e:n==a with
   |true=>rfl
   |false=>exact h2 n ((AL.1 hn).resolve_left λz=>by rw[z,beq_self_eq_true]at e;cases e)
def fz{α β γ:Type}{z:List α}{i:β}{f:α->β->Sem (ForInStep β)}{g:β->Sem γ}(hz:z=[]):(forIn z i f>>=g)=g i:=by subst hz;rfl
def c25(name qual:Str)(l:List Arg)(fb:DI)(scope:BG)(cl:List (Str×AI))(doc pm cv ct:AG)(us:List AG)(h:us.length=(l.map Ds).length)(hd:(l.map Ds).Nodup):BF (G0 name qual ⟨[],l,AD,[],[],AD,[]⟩ fb scope cl doc pm cv ct) ⟨us,[]⟩=pure ((l.map Ds).zip us):=by
 obtain⟨z1,z2⟩:=a06 (l.map Ds) us hd h;have h1:¬(AB (us.length>(l.map Ds).length)&&AC)=AC:=by rw[h];simp
 have h3:(KZ (0-(l.map Ds).length) ([]:List AG))=[]:=List.drop_nil;have h2:¬(!(((l.map Ds).take ((l.map Ds).length-(KZ (0-(l.map Ds).length) ([]:List AG)).length)).filter (λn=>(((l.map Ds).zip us).lookup n).isNone)).isEmpty)=AC:=by
  rw[h3,BH,IV,IW,Gr.2 λn hn=>by rw[z2 n hn];exact AH];exact AH
 unfold BF;refine(if_neg h1).trans ((if_neg h2).trans ((fz ?_).trans ?_))
 ·exact(congrArg _ h3).trans List.zip_nil_right
 ·exact congrArg (pure:List (Str×AG)->Sem _) ((congrArg _ (BJ _)).trans z1)
theorem bu9(env:Env):∀l:List Arg,(l.all λa=>a.annotation.isNone)=AC->annotationsOf (l++[]++[]++[]++[]) env=[]
 |[],_=>rfl
 |⟨_,AD,_⟩::l,h=>bu9 env l h
def b09{p:Cm}{ps:List Str}(h:Y1 p=AA ps):p.defaults=[]/\p.kw_defaults=[]/\(∀env,defaultsOf p env=([],[]))/\(∀env,annTrees p AD env=[]) /\
  ∀(name qual:Str)(fb:DI)(scope:BG)(cl:List (Str×AI))(doc pm cv ct:AG)(us:List AG),us.length=ps.length->BF (G0 name qual p fb scope cl doc pm cv ct) ⟨us,[]⟩=pure (ps.zip us):=by
 obtain⟨po,l,va,ko,kd,ka,df⟩:=p;unfold Y1 at h
 split at h
 ·rename_i hc;cases h;obtain⟨⟨⟨⟨⟨⟨⟨⟨⟨h1,h2⟩,h3⟩,h4⟩,h5⟩,h6⟩,h7⟩,h8⟩,_⟩,_⟩:=by simpa only[Au,List.isEmpty_iff,Option.isNone_iff_eq_none,decide_eq_true_eq]using hc
  subst h1 h2 h3 h4 h5 h6;exact⟨rfl,rfl,λ_=>rfl,λenv=>(BJ _).trans (bu9 env l h7),λ_ _ _ _ _ _ _ _ _ us hl=>c25 _ _ l _ _ _ _ _ _ _ us hl h8⟩
 ·cases h
def cf9{params:Cm}{fb:DI}{np:Nat}{Nl ps:List Str}{cp:List Nat}{b:Ss}(h:ao4 X.env.scope X.N scope Nl ps np cp=AC)(hc:∀x,X.N.contains (x0 x)=AC->X.fn x=AE/\X.ow x=AC)(mt:Tbs.mt b scope Nl fb)
  (bind:∀(name qual:Str)(cl:List (Str×AI))(doc pm cv ct:AG)(us:List AG),us.length=ps.length->BF (G0 name qual params fb scope cl doc pm cv ct) ⟨us,[]⟩=pure (ps.zip us)):NestOk X params fb scope np Nl ps cp b:=by
 unfold ao4 at h;simp only[Au,beq_iff_eq,GK,decide_eq_true_eq,DZ]at h;obtain⟨⟨⟨⟨⟨⟨⟨⟨⟨h1,h2⟩,h3⟩,h4⟩,h5⟩,h6⟩,h7⟩,h8⟩,h9⟩,h10⟩:=h;have key:∀x,(x,At)∈scope.names->scope.names.lookup x=AA .free/\X.env.scope.names.lookup x=AA .cell/\X.N.contains (x0 x)=AC/\∃i:Nat,∃j:Nat,cp[i]?=AA j/\X.N[j]?=AA x:=λx hx=>by
  have:=h9 _ hx;simp only[beq_self_eq_true,Dn,Ew,Au,beq_iff_eq,Gb]at this;obtain⟨⟨⟨a,b⟩,c⟩,i,_,d⟩:=this;refine⟨a,b,c,i,?_⟩
  split at d
  ·rename_i j hj;exact⟨j,hj,by simpa using d⟩
  ·cases d
 refine⟨⟨h2,h3,h4,h5,h6,h7,λy hy=>by simpa using h8 y hy,λy hy hk=>?_⟩,h1,mt,bind,λi j hj=>?_,λx hx=>?_⟩
 ·obtain⟨y,k⟩:=y;simp only at hk;subst hk;exact(key y hy).1
 ·have hi:=(AR.mp hj).1;have:=h10 i (by simpa using hi);rw[hj]at this;simp only at this
  split at this
  ·rename_i x hx;simp only[Au,beq_iff_eq,Gb]at this;obtain⟨a,⟨y,k⟩,hm,e1,e2⟩:=this;simp only at e1 e2;subst e1 e2;exact⟨_,hx,a,hm⟩
  ·cases this
 ·obtain⟨a,b,c,i,j,d1,d2⟩:=key x hx;exact⟨⟨i,j,d1,d2⟩,b,hc x c⟩
end Ek
namespace Ek
open PySem PySem.Spec PyProof.Rows L2
variable [Tbs]
variable{X:Cx}{Z:Sg}{e:E}{l:List AQ}
structure SndA(Z:Sg)(X:Cx)(es:Es)(xs:List AQ):Prop where
 a:PA X xs (upA X.K es.len (t3 Z es))
 pl:∀pos:Pos,(Bq pos (Am xs X.env)).any (·.1)=AE
def bh9{o:KY}{q:AQ}{pos:Pos}{t:DT}(h:PT X q (upB X.K (tst t))):PW X (.BoolOp o [q] pos) (upB X.K (tst t)):=by
 cases o with
 |And=>exact cg4 h
 |Or=>exact cv7 h
def b59:∀(e:E)(sc:BG)(N:List Str)(l:List AQ)(k:Nat)(p:Pos),mE e sc N (.Set l k p)=AE:=by
 intro e sc N l k p;cases e<;>rfl
def ch8{t:String}(h:t∈L4):BA (AV t)=AA (.type t)/\AV t≠"__name__"/\(AV t==("__debug__":Str))=AE/\P7.contains (AV t)=AC:=by
 simp only[L4,AL,AW,or_false]at h
 rcases h with rfl|rfl|rfl|rfl|rfl<;>exact⟨by decide+kernel,∅,∅,∅⟩
def ap4{env:Env}{it:It}{sc:BG}{N:List Str}{tg x:AQ}(h:mIt it sc N tg x=AC):∀v,DE x env v=pure v:=by
 have hx:∀l k p,x≠.Set l k p:=λl k p z=>by
  subst z;cases it with
  |seq e=>exact(AH ((b59 e sc N l k p).symm.trans h)).elim
  |enum e=>exact(AH (an h).2).elim
  |_=>exact(AH h).elim
 intro v;cases x<;>first|rfl|exact absurd rfl (hx _ _ _)
def V4{K:AO}{t t':DT}{σ:L2.St}{H:Hp}{Q:VK}(h:∀env st Q,t env st Q->t' env st Q)(q:up K t σ H Q):up K t' σ H Q:=by
 obtain⟨env,st,Qd,hE,hS,ht,hq⟩:=q;exact⟨env,st,Qd,hE,hS,h _ _ _ ht,hq⟩
def aq1{x:AQ}{P:Prop}(h:¬P)(w:∀env st Q,wpE Z e env st Q->P):PE X x (up X.K (wpE Z e)):=λ_ _ _ _ _ _ q=>by
 obtain⟨env,st,_,_,_,ht,_⟩:=q;exact absurd (w env st _ ht) h
def ab7{lo:E}{l:Option AQ}(h:oE lo (mE lo X.env.scope X.N) l=AC)(H:∀x,mE lo X.env.scope X.N x=AC->Snd Z X lo x):PO X l (upO X.K λenv st k=>(if lo.isNon=AC then λk=>k AD st else λ(k:Option Int->Sto->Prop)=>wpE Z lo env st λd st'=>∃i,d=.int i/\k (AA i) st') k):=by
 cases l with
 |none=>rw[show lo.isNon=AC from h];exact ch4
 |some l=>
  obtain⟨h1,h2⟩:=an h;rw[show lo.isNon=AE from nt h1];exact cm0 (H l h2).v
def bv0{c:E}(h:cE c (mE c X.env.scope X.N) l=AC)(H:∀x,mE c X.env.scope X.N x=AC->Snd Z X c x):PCs X l (upB X.K (if c.isNon=AC then λ_ st Q=>Q AC st else λenv st Q=>wpE Z c env st λd st'=>∃b,d=.bl b/\Q b st')):=by
 cases l with
 |nil=>
  rw[show c.isNon=AC from h];exact λpins' s' σ' H' Q' I'⟨env,st,Qd,hE,hS,ht,hq⟩=>cf8 pins' s' σ' H' Q' I' (hq AC H' st Ev.refl hS ht)
 |cons a l=>
  refine l1_ (C:=λl=>PCs X l _) (show l1 (a::l) (λx=>!c.isNon&&(C5 x&&mE c X.env.scope X.N x))=AC from h) λx h=>?_;obtain⟨h1,h2⟩:=an h;rw[show c.isNon=AE from nt h1];exact cg5 ((H x (an h2).2).t (an h2).1)
def c15{ks:List Str}{vs:Es}(h:bs5 ks vs=AC):ks.length=vs.len/\ks.Nodup/\ks.length<=15/\∀{l:List (Option AQ)},l.length=ks.length->l≠[]:=
 ⟨beq_iff_eq.1 (an h).1,of_decide_eq_true (an (an h).2).1,of_decide_eq_true (an (an (an h).2).2).1,λe z=>by
  subst z;rw[Az e.symm]at h;exact AH (an (an (an h).2).2).2⟩
def mcF{cp:Pos}(hp:(Bq cp (Am l X.env)).any (·.1)=AE)(h:l.length<29):Dz (l.length+0) (Bq cp (Am l X.env)) (EW cp (Cw [] X.env))=AC:=by
 unfold Dz;rw[show(Bq cp (Am l X.env)).all (λx=>!x.1)=AC from by
  rw[DZ];intro w hw;rw[Fx]at hp;simpa using hp w hw]
 exact decide_eq_true (IF h)
def Snd.cm{a:AQ}{o:List De}{b:List AQ}{p:Pos}(he:PE X (.Compare a o b p) (up X.K (wpE Z e)))(ht:PT X (.Compare a o b p) (upB X.K (wpT Z e))):Snd Z X e (.Compare a o b p):=⟨he,λ_=>ht,nofun,nofun,nofun,nofun⟩
def Snd.bo{o:KY}{b:List AQ}{p:Pos}(he:PE X (.BoolOp o b p) (up X.K (wpE Z e)))(hw:PW X (.BoolOp o b p) (upB X.K (wpT Z e))):Snd Z X e (.BoolOp o b p):=⟨he,λ_=>hw.pt,λ_ _ _ _=>hw,nofun,nofun,nofun⟩
def lb_{k:AQ->AQ->Bool}{m:AQ->List AQ->Bool}{C:List AQ->Prop}(h:lb l k m=AC)(H:∀p q,k p q=AC->C [p,q])(J:∀p q r s,m p (q::r::s)=AC->C (p::q::r::s)):C l:=
 match l,h with
 |[p,q],h=>H p q h
 |p::q::r::s,h=>J p q r s h
def XOk.fnx(hX:XOk Z X)(f:Str)(fa:AI)(hF:Z.F f=AC)(hns:Ax X.K AN f=AA (AA (.ref fa))):∃k fd ps,FnOk X.prog X.w X.K X.mg X.base CX0 k fa fd ps (z8 X.K (Z.Phi f))/\Room k X.A/\Bj X.K (.ref fa)=AC/\t6 X.K fd ps []:=by
 obtain⟨k,a,fd,ps,F,hr,hm,hk,hb,hn⟩:=(hX.fns f (hX.nom f fa hF hns) hF).ex;rw[hn]at hns;cases hns;exact⟨k,fd,ps,F,hr,hk,hb⟩
mutual
theorem f6(Z:Sg):∀(e:E)(X:Cx)(x:AQ),XOk Z X->mE e X.env.scope X.N x=AC->Snd Z X e x
 |.non,X,x,hX,h=>P2 h λn p=>Snd.pl (by exact ac3 cw7 λ_=>.non) rfl
 |.bl b,X,x,hX,h=>P2 h λn p=>Snd.pl (by exact ac3 cz1 λ_=>.bl _) rfl
 |.int i,X,x,hX,h=>P2 h λn p=>Snd.pl (by exact ac3 cq2 λ_=>.int _) rfl
 |.str y,X,x,hX,h=>P2 h λn p=>Snd.pl (by exact ac3 bh7 λ_=>.str _) rfl
 |.v i,X,x,hX,h=>xN_ h λy p h=>Snd.pl (by exact cw8 (beq_iff_eq.1 (an h).1) (bc0 (an (an h).2).1) (E4 (an (an h).2).2).1 (E4 (an (an h).2).2).2) rfl
 |.tup es,X,x,hX,h=>xT_ h λl n p h=>Snd.pl (by exact cr3 (D4 Z es X _ hX (an h).1).a (of_decide_eq_true (an h).2)) rfl
 |.lst es,X,x,hX,h=>xL_ h λl p h=>Snd.pl (by exact cw2 (D4 Z es X _ hX (an h).1).a (of_decide_eq_true (an h).2)) rfl
 |.bin o a b,X,x,hX,h=>c49 h λp q r ps h=>by
  cases beq_iff_eq.1 (an h).1;exact Snd.pl (by exact ct3 (f6 Z a X _ hX (an (an h).2).1).v (f6 Z b X _ hX (an (an h).2).2).v) rfl
 |.neg a,X,x,hX,h=>xU_ h λo p ps h=>by
  cases beq_iff_eq.1 (an h).1;exact Snd.plain (by exact cr2 (f6 Z a X _ hX (an h).2).v) (λ_=>rfl) rfl (by intros;exact nofun)
 |.cmp o a b,X,x,hX,h=>ac6 h λq p r ps h=>by
  cases beq_iff_eq.1 (an h).1;have ia:=f6 Z a X _ hX (an (an h).2).1;have ib:=f6 Z b X _ hX (an (an h).2).2;exact Snd.cm (by exact cr7 hX.units ia.v ib.v ib.se) (by unfold wpT;exact co2 hX.units ia.v ib.v ib.se)
 |.isN a,X,x,hX,h=>ac6 h λq p r ps h=>by
  cases beq_iff_eq.1 (an h).1;refine P2 (C:=λr=>Snd Z X (.isN a) (.Compare p [.Is] [r] ps)) (an (an h).2).1 λn pp=>?_;have ia:=f6 Z a X _ hX (an (an h).2).2;exact Snd.cm (by exact cr9 ia.v) (by unfold wpT;exact ct6 ia.v)
 |.notN a,X,x,hX,h=>ac6 h λq p r ps h=>by
  cases beq_iff_eq.1 (an h).1;refine P2 (C:=λr=>Snd Z X (.notN a) (.Compare p [.IsNot] [r] ps)) (an (an h).2).1 λn pp=>?_;have ia:=f6 Z a X _ hX (an (an h).2).2;exact Snd.cm (by exact cl3 ia.v) (by unfold wpT;exact cj1 ia.v)
 |.and a b,X,x,hX,h=>bs6 h λo l ps h=>by
  cases beq_iff_eq.1 (an h).1;refine lb_ (C:=λl=>Snd Z X (.and a b) (.BoolOp .And l ps)) (an h).2 (λp q h=>?_) λp q r i7 h=>?_
  ·have ia:=f6 Z a X _ hX (an (an (an h).1).1).1;have ib:=f6 Z b X _ hX (an (an (an h).1).1).2;exact Snd.bo (by exact bf3 ia.v (bc2 ib.v)) (by unfold wpT;exact bh2 (ia.t (an (an h).1).2) (bh9 (ib.t (an h).2)))
  ·have ia:=f6 Z a X _ hX (an (an h).1).1;have ib:=f6 Z b X _ hX (an (an h).1).2;exact Snd.bo (by exact bf3 ia.v ib.v) (by unfold wpT;exact bh2 (ia.t (an h).2) (ib.w _ _ _ rfl))
 |.or a b,X,x,hX,h=>bs6 h λo l ps h=>by
  cases beq_iff_eq.1 (an h).1;refine lb_ (C:=λl=>Snd Z X (.or a b) (.BoolOp .Or l ps)) (an h).2 (λp q h=>?_) λp q r i7 h=>?_
  ·have ia:=f6 Z a X _ hX (an (an (an h).1).1).1;have ib:=f6 Z b X _ hX (an (an (an h).1).1).2;exact Snd.bo (by exact bm9 ia.v (bc2 ib.v)) (by unfold wpT;exact bq6 (ia.t (an (an h).1).2) (bh9 (ib.t (an h).2)))
  ·have ia:=f6 Z a X _ hX (an (an h).1).1;have ib:=f6 Z b X _ hX (an (an h).1).2;exact Snd.bo (by exact bm9 ia.v ib.v) (by unfold wpT;exact bq6 (ia.t (an h).2) (ib.w _ _ _ rfl))
 |.not a,X,x,hX,h=>xU_ h λo p ps h=>by
  cases beq_iff_eq.1 (an h).1;have ia:=f6 Z a X _ hX (an (an h).2).1;exact⟨by exact co5 ia.v,λ_=>(by unfold wpT;exact cs0 (ia.t (an (an h).2).2)),nofun,nofun,nofun,nofun⟩
 |.ite c a b,X,x,hX,h=>c57 h λp q r ps h=>
  ⟨by exact co9 ((f6 Z c X _ hX (an (an h).1).1).t (an (an h).1).2) (f6 Z a X _ hX (an (an h).2).1).v (f6 Z b X _ hX (an (an h).2).2).v,nofun,nofun,nofun,nofun,nofun⟩
 |.ix a b,X,x,hX,h=>xS_ h λp q ps h=>
  have ib:=f6 Z b X _ hX (an h).2
  Snd.pl (by exact c11 hX.units (f6 Z a X _ hX (an h).1).v ib.v ib.sl) rfl
 |.sl a lo hi,X,x,hX,h=>xS_ h λp s ps h=>br8 (C:=λs=>Snd Z X (.sl a lo hi) (.Subscript p s ps)) (an h).2 λl u st p2 h2=>by
  cases st with
  |some _=>exact(AH h2).elim
  |none=>exact Snd.pl (by exact cy2 (f6 Z a X _ hX (an h).1).v (ab7 (an (an h2).2).1 λx=>f6 Z lo X x hX) (ab7 (an (an h2).2).2 λx=>f6 Z hi X x hX)) rfl
 |.slw a lo hi,X,x,hX,h=>xS_ h λp s ps h=>br8 (C:=λs=>Snd Z X (.slw a lo hi) (.Subscript p s ps)) (an h).2 λl u st p2 h2=>by
  cases st with
  |some _=>exact(AH h2).elim
  |none=>exact Snd.pl (by exact cs3 (f6 Z a X _ hX (an h).1).v (ab7 (an (an h2).2).1 λx=>f6 Z lo X x hX) (ab7 (an (an h2).2).2 λx=>f6 Z hi X x hX)) rfl
 |.dsel ks vs k,X,x,hX,h=>xS_ h λd q ps h=>xD_ (C:=λd=>Snd Z X (.dsel ks vs k) (.Subscript d q ps)) (an h).2 λkeys xs dp h2=>by
  have ik:=f6 Z k X _ hX (an h).1;obtain⟨h4,h5,h6,hne⟩:=c15 (an (an h2).2).2;obtain⟨d,e1,e2,e3⟩:=bq2 Z vs X ks _ _ dp hX (an h2).1 (an (an h2).2).1 h4;exact Snd.pl (by exact ce6 hX.units d e1 e2 (hne e3) e3 ⋯ h5 ik.v ik.sl) rfl
 |.gget g k d,X,x,hX,h=>xM_ h λo ap l cp hl h=>T4 (C:=λo=>Snd Z X (.gget g k d) (.Call (.Attribute o "get" ap) l [] cp)) (an h).1 λnp=>l2_ (C:=λl=>Snd Z X (.gget g k d) (.Call (.Attribute (.Name g np) "get" ap) l [] cp)) (an (an (an h).2).2).2 λp q h2=>
  have ik:=f6 Z k X _ hX (an h2).1;have id:=f6 Z d X _ hX (an h2).2
  Snd.pl (by exact cl8 (hX.tabs g) (u2 (an (an h).2).1) ik.v id.v ik.st id.st hl (E4 (an (an (an h).2).2).1).1) rfl
 |.gsel g k,X,x,hX,h=>xS_ h λn q ps h=>T4 (C:=λn=>Snd Z X (.gsel g k) (.Subscript n q ps)) (an h).1 λnp=>
  have ik:=f6 Z k X _ hX (an (an (an h).2).2).2
  Snd.pl (by exact cg0 (hX.tabs g) (u2 (an (an h).2).1) ik.v ik.sl (E4 (an (an (an h).2).2).1).1) rfl
 |.len a,X,x,hX,h=>E8 h λq p ps h1 h2=>
  have ia:=f6 Z a X _ hX h2
  Snd.pl (by exact co7 (u2 h1) (hX.blt' _) ia.v ia.st) rfl
 |.abs a,X,x,hX,h=>E8 h λq p ps h1 h2=>
  have ia:=f6 Z a X _ hX h2
  Snd.pl (by exact cv2 (u2 h1) (hX.blt' _) ia.v ia.st) rfl
 |.toInt a,X,x,hX,h=>E8 h λq p ps h1 h2=>
  have ia:=f6 Z a X _ hX h2
  Snd.pl (by exact b96 (u2 h1) (hX.blt' _) ia.v ia.st) rfl
 |.sum a,X,x,hX,h=>E8 h λq p ps h1 h2=>
  have ia:=f6 Z a X _ hX h2
  Snd.pl (by exact cw0 hX.calm (u2 h1) (hX.blt' _) ia.v ia.st) rfl
 |.list a,X,x,hX,h=>E8 h λq p ps h1 h2=>
  have ia:=f6 Z a X _ hX h2
  Snd.pl (by exact cl2 (u2 h1) (hX.blt' _) ia.v ia.st) rfl
 |.tuple a,X,x,hX,h=>E8 h λq p ps h1 h2=>
  have ia:=f6 Z a X _ hX h2
  Snd.pl (by exact b66 (u2 h1) (hX.blt' _) ia.v ia.st) rfl
 |.max a b,X,x,hX,h=>aq7 h λq p r ps h1 h2=>
  have ia:=f6 Z a X _ hX (an h2).1;have ib:=f6 Z b X _ hX (an h2).2
  Snd.pl (by exact cr4 hX.calm (u2 h1) (hX.blt' _) ia.v ib.v ia.st ib.st) rfl
 |.call f es,X,x,hX,h=>xG_ h λq l ps h1 h=>by
  cases l with
  |nil=>exact(AH (an (an (an h).2).2).1).elim
  |cons y ys=>cases es with
   |nil=>exact(AH (an (an (an h).2).2).2).elim
   |cons e0 er=>
    have i0:=f6 Z e0 X _ hX (an (an (an (an h).2).2).2).1;have ir:=D4 Z er X _ hX (an (an (an (an h).2).2).2).2;refine Snd.pl ?_ rfl
    by_cases hF:Z.F f=AC
    ·obtain⟨k,a,fd,ps,F,hr,hm,hk,hb,_⟩:=(hX.fns f (nt (an (an h).2).1) hF).ex;exact PE.imp (ci3 F hr (u2 h1) hm hk hb (Q5 i0.v ir.a i0.st) (E4 (an h).1).1 i0.st (ir.pl _)) λ_ _ _=>V4 λ_ _ _ ht=>ht.2
    ·exact aq1 hF λ_ _ _ ht=>ht.1
 |.gf f,X,x,hX,h=>T4 (C:=λx=>Snd Z X (.gf f) x) (an h).1 λp=>by
  refine Snd.pl ?_ rfl
  by_cases hF:Z.F f=AC
  ·obtain⟨k,a,fd,ps,F,hr,hm,hk,hb,hn⟩:=(hX.fns f (nt (an (an (an h).2).2).2) hF).ex;exact PE.imp (c14 (u2 (an (an h).2).1) hm hn (E4 (an (an (an h).2).2).1).1) λ_ _ _=>V4 λ_ _ _ ht=>ht.2
  ·exact aq1 hF λ_ _ _ ht=>ht.1
 |.callx c es,X,x,hX,h=>ac1 h λf l ps h=>by
  refine xS_ (C:=λf=>Snd Z X (.callx c es) (.Call f l [] ps)) (an h).1 λp q sp h1=>?_;cases l with
  |nil=>exact(AH (an (an h).2).1).elim
  |cons y ys=>cases es with
   |nil=>exact(AH (an (an h).2).2).elim
   |cons e0 er=>
    have i0:=f6 Z e0 X _ hX (an (an (an h).2).2).1;have ir:=D4 Z er X _ hX (an (an (an h).2).2).2;refine Snd.pl ?_ rfl;exact b64 (F:=Z.F) (Ph:=Z.Phi) (f6 Z c X _ hX h1).v hX.fnx (Q5 i0.v ir.a i0.st) i0.st (ir.pl _)
 |.gc g,X,x,hX,h=>T4 (C:=λx=>Snd Z X (.gc g) x) (an h).1 λp=>by
  refine Snd.pl ?_ rfl;cases hk:Z.Kc g with
  |none=>exact λ_ _ _ _ _ _⟨env,st,Qd,hE,hS,⟨i,hi,_⟩,hq⟩=>nomatch hk.symm.trans hi
  |some i=>
   obtain⟨t,hm⟩:=hX.cst g i hk;exact PE.imp (a83 (v:=.int i) (u2 (an (an h).2).1) hm ⟨t,rfl⟩ (E4 (an (an h).2).2).1) λσ H Q q=>by
    obtain⟨env,st,Qd,hE,hS,⟨i',hi,ht⟩,hq⟩:=q;cases hk.symm.trans hi;exact hq.here (.int _) hS ht
 |.callv i es,X,x,hX,h=>ac1 h λf l ps h=>by
  refine xN_ (C:=λf=>Snd Z X (.callv i es) (.Call f l [] ps)) (an h).1 λy p h1=>?_;cases l with
  |nil=>exact(AH (an (an h).2).1).elim
  |cons z zs=>cases es with
   |nil=>exact(AH (an (an h).2).2).elim
   |cons e0 er=>
    have i0:=f6 Z e0 X _ hX (an (an (an h).2).2).1;have ir:=D4 Z er X _ hX (an (an (an h).2).2).2;refine Snd.pl ?_ rfl;exact b83 (Z:=Z) (beq_iff_eq.1 (an h1).1) (bc0 (an (an h1).2).1) (E4 (an (an h1).2).2).1 (E4 (an (an h1).2).2).2 hX.fnx hX.clo (Q5 i0.v ir.a i0.st) i0.st (ir.pl _)
 |.isT t a,X,x,hX,h=>aq7 h λq p r ps h1 h2=>T4 (C:=λr=>Snd Z X (.isT t a) (.Call (.Name "isinstance" q) [p,r] [] ps)) (an h2).1 λnp=>by
  have hin:t∈L4:=List.contains_iff_mem.1 (an (an (an h2).2).2).1;obtain⟨b1,b2,b3,b4⟩:=ch8 hin;have ia:=f6 Z a X _ hX (an (an (an h2).2).2).2;exact Snd.pl (by exact cn0 hin (u2 h1) (hX.blt' _) (u2 (an (an h2).2).1) (hX.blt' _ b4) b1 b2 b3 ia.v ia.st) rfl
 |.fld a f,X,x,hX,h=>xA_ h λo g ap h=>by
  cases beq_iff_eq.1 (an h).1;exact Snd.pl (by exact cr1 (C:=Z.C) (λc Ca=>hX.cls _ c Ca) (f6 Z a X _ hX (an (an h).2).2).v (D2 (M2 (an (an h).2).1))) rfl
 |.meth a m es,X,x,hX,h=>xM_ h λo ap l cp hl h=>by
  refine xN_ (C:=λo=>Snd Z X (.meth a m es) (.Call (.Attribute o m ap) l [] cp)) (an h).1 λy py h1=>?_;have ia:=f6 Z a X _ hX h1;have iall:=D4 Z es X _ hX (an (an h).2).1;refine Snd.pl ?_ rfl;cases l with
  |nil=>
   cases es with
   |nil=>exact PE.imp (cb0 (F:=Z.F) (Ph:=Z.Phi) (λc Ca=>hX.mth m c Ca) hl ia.v) λ_ _ _=>V4 λ_ _ _ ht=>(by exact ht)
   |cons _ _=>exact(AH (an (an h).2).1).elim
  |cons z zs=>
   cases es with
   |nil=>exact(AH (an (an h).2).1).elim
   |cons e0 er=>
    exact cg2 (F:=Z.F) (Ph:=Z.Phi) (λc Ca=>hX.mth m c Ca) (mcF (iall.pl cp) (of_decide_eq_true (an (an h).2).2)) hl ia.v iall.a (f6 Z e0 X _ hX (an (an (an h).2).1).1).st ((D4 Z er X _ hX (an (an (an h).2).1).2).pl _)
 |.methd a m es,X,x,hX,h=>xM_ h λo ap l cp hl h=>by
  refine xN_ (C:=λo=>Snd Z X (.methd a m es) (.Call (.Attribute o m ap) l [] cp)) (an h).1 λy py h1=>?_;have ia:=f6 Z a X _ hX h1;have h2:=an (an (an h).2).2;have iall:=D4 Z es X _ hX h2.1;refine Snd.pl ?_ rfl;cases l with
  |nil=>exact(AH (an (an h).2).1).elim
  |cons z zs=>cases es with
   |nil=>exact(AH h2.1).elim
   |cons e0 er=>
    exact cd3 (F:=Z.F) (Ph:=Z.Phi) (C:=Z.C) (λc Ca i=>hX.mthd m c Ca i) (mcF (iall.pl cp) (of_decide_eq_true h2.2)) hl ia.v iall.a (f6 Z e0 X _ hX (an h2.1).1).st ((D4 Z er X _ hX (an h2.1).2).pl _)
 |.make c es,X,x,hX,h=>xG_ h λq l ps h1 h=>by
  have iall:=D4 Z es X _ hX (an h).2;refine Snd.pl ?_ rfl
  by_cases hF:Z.MF (c7 c "__init__")=AC
  ·obtain⟨Ca,k,f,fd,ps,hn,M,Fo,hr,hm,hb⟩:=hX.mks c hF;cases l with
   |nil=>
    cases es with
    |nil=>exact PE.imp (cb9 hn M Fo hr (u2 h1) hm hb (E4 (an h).1).1) λ_ _ _=>V4 λ_ _ _ ht=>(by exact ht.2)
    |cons _ _=>exact(AH (an h).2).elim
   |cons z zs=>
    cases es with
    |nil=>exact(AH (an h).2).elim
    |cons e0 er=>
     exact PE.imp (ci4 hn M Fo hr (u2 h1) hm hb iall.a (E4 (an h).1).1 (f6 Z e0 X _ hX (an (an h).2).1).st ((D4 Z er X _ hX (an (an h).2).2).pl _)) λ_ _ _=>V4 λ_ _ _ ht=>ht.2
  ·exact aq1 hF λ_ _ _ ht=>ht.1
 |.app a b,X,x,hX,h=>X2 h λo ap p cp hl h1 h2 h3=>
  have ib:=f6 Z b X _ hX h3
  Snd.pl (by exact cu0 (f6 Z a X _ hX h2).v ib.v (M2 h1) ib.st hl) rfl
 |.ext a b,X,x,hX,h=>X2 h λo ap p cp hl h1 h2 h3=>
  have ib:=f6 Z b X _ hX h3
  Snd.pl (by exact cx1 (f6 Z a X _ hX h2).v ib.v (M2 h1) ib.st hl) rfl
 |.popAt a b,X,x,hX,h=>X2 h λo ap p cp hl h1 h2 h3=>
  have ib:=f6 Z b X _ hX h3
  Snd.pl (by exact ca5 (f6 Z a X _ hX h2).v ib.v (M2 h1) ib.st hl) rfl
 |.pop a,X,x,hX,h=>bs0 h λo ap cp hl h1 h2=>Snd.pl (by exact ct1 (f6 Z a X _ hX h2).v (M2 h1) hl) rfl
 |.any a,X,x,hX,h=>E8 h λq p ps h1 h2=>
  have ia:=f6 Z a X _ hX h2
  Snd.pl (by exact cp9 hX.calm (u2 h1) (hX.blt' _) ia.v ia.st) rfl
 |.dnt,X,x,hX,h=>xD_ h λl r p h=>by
  cases l with
  |cons=>exact(AH h).elim
  |nil=>cases r with
   |cons=>exact(AH h).elim
   |nil=>exact Snd.pl (by exact cq0 (c:=Z.C "!kt") λhz=>by rw[hX.kt];cases e:Z.C "!kt" with|nil=>exact absurd e hz|cons _ _=>rfl) rfl
 |.dgt a b,X,x,hX,h=>X2 h λo ap p cp hl h1 h2 h3=>
  have ib:=f6 Z b X _ hX h3
  Snd.pl (by exact cr6 hX.units (f6 Z a X _ hX h2).v ib.v (M2 h1) ib.st hl) rfl
 |.din ne a b,X,x,hX,h=>ac6 h λq p r ps h=>by
  have e:=beq_iff_eq.1 (an h).1;have ia:=f6 Z a X _ hX (an (an h).2).1;have ib:=f6 Z b X _ hX (an (an h).2).2;exact Snd.cm (by exact cw5 e hX.units ia.v ib.v ib.se) (by unfold wpT;exact ct5 e hX.units ia.v ib.v ib.se)
 |.lrev a,X,x,hX,h=>bs0 h λo ap cp hl h1 h2=>Snd.pl (by exact ci1 (f6 Z a X _ hX h2).v (M2 h1) hl) rfl
 |.index a b,X,x,hX,h=>X2 h λo ap p cp hl h1 h2 h3=>
  have ib:=f6 Z b X _ hX h3
  Snd.pl (by exact cb2 hX.units (f6 Z a X _ hX h2).v ib.v (M2 h1) ib.st hl) rfl
 |.comp Nc fr k t it c e,X,x,hX,h=>c64 h λel g scope pos h=>by
  refine l1_ (C:=λg=>Snd Z X (.comp Nc fr k t it c e) (.ListComp el g scope pos)) h λg h=>?_;obtain⟨tg,itx,ifs,n⟩:=g;obtain⟨h0,h⟩:=an h;cases(beq_iff_eq.1 h0:n=0);obtain⟨h1,h⟩:=an h;obtain⟨h2,h⟩:=an h;obtain⟨h3,h⟩:=an h;have Sc:=au8 h1;exact Snd.pl (PE.imp (cj6 hX.calm Sc (ao8 Z it X tg itx hX h2)
   (λC fp pins s H=>ao1 (X:=X.comp scope Nc C fp pins s H) (ow:=AE) hX.calm Sc.nd nofun h3)
   (λC fp pins s H=>bv0 (X:=X.comp scope Nc C fp pins s H) (an h).2 λx h=>f6 Z c (X.comp scope Nc C fp pins s H) x (hX.comp (X8 h1) Sc C fp pins s H) h)
   (λC fp pins s H=>(f6 Z e (X.comp scope Nc C fp pins s H) el (hX.comp (X8 h1) Sc C fp pins s H) (an h).1).v) (ap4 h2)) λσ H Q q=>aw3 q) rfl
theorem D4(Z:Sg):∀(es:Es)(X:Cx)(xs:List AQ),XOk Z X->mEs es X.env.scope X.N xs=AC->SndA Z X es xs
 |.nil,X,xs,hX,h=>by
  cases xs with
  |nil=>exact⟨by exact bc9,λ_=>rfl⟩
  |cons=>exact(AH h).elim
 |.cons e r,X,xs,hX,h=>by
  cases xs with
  |nil=>exact(AH h).elim
  |cons x xs=>
   have i0:=f6 Z e X _ hX (an h).1;have ir:=D4 Z r X _ hX (an h).2;refine⟨by exact Q5 i0.v ir.a i0.st,λpos=>?_⟩;rw[o0 i0.st];exact ir.pl pos
theorem bq2(Z:Sg):∀(vs:Es)(X:Cx)(ks:List Str)(keys:List (Option AQ))(xs:List AQ)(dp:Pos),XOk Z X->mKs ks keys=AC->mEs vs X.env.scope X.N xs=AC->ks.length=vs.len ->
  DPs X dp keys xs ks (t3 Z vs)/\keys.all (·.isSome)=AC/\keys.length=xs.length/\keys.length=ks.length
 |.nil,X,ks,keys,xs,dp,hX,h1,h2,h3=>by
  cases xs with
  |cons=>exact(AH h2).elim
  |nil=>cases ks with
   |cons=>cases h3
   |nil=>cases keys with
    |nil=>exact⟨by exact cp5,rfl,rfl,rfl⟩
    |cons=>exact(AH h1).elim
 |.cons e r,X,ks,keys,xs,dp,hX,h1,h2,h3=>by
  cases xs with
  |nil=>exact(AH h2).elim
  |cons x xs=>cases ks with
   |nil=>cases h3
   |cons k ks=>cases keys with
    |nil=>exact(AH h1).elim
    |cons kx keys=>cases kx with
     |none=>exact(AH h1).elim
     |some kx=>
      obtain⟨d,a1,a2,a3⟩:=bq2 Z r X ks keys _ dp hX (an h1).2 (an h2).2 (Er h3);refine P2 (C:=λkx=>DPs X dp (AA kx::keys) (x::xs) (k::ks) (t3 Z (.cons e r))/\_) (an h1).1 λn p=>?_;exact⟨by exact ci9 (f6 Z e X _ hX (an h2).1).v d,a1,congrArg (·+1) a2,congrArg (·+1) a3⟩
theorem ao8(Z:Sg):∀(it:It)(X:Cx)(tg x:AQ),XOk Z X->mIt it X.env.scope X.N tg x=AC->PI X tg x (upI X.K (z5 Z it))
 |.seq e,X,tg,x,hX,h=>by exact cp8 (f6 Z e X x hX h).v
 |.rng a,X,tg,x,hX,h=>E8 (C:=λx=>PI X tg x (upI X.K (z5 Z (.rng a)))) h λq p ps h1 h2=>
  have ia:=f6 Z a X _ hX h2
  (by exact cn3 (u2 h1) (hX.blt' _) ia.v ia.st)
 |.rng2 a b,X,tg,x,hX,h=>aq7 (C:=λx=>PI X tg x (upI X.K (z5 Z (.rng2 a b)))) h λq p r ps h1 h2=>
  have ia:=f6 Z a X _ hX (an h2).1;have ib:=f6 Z b X _ hX (an h2).2
  (by exact ck3 (u2 h1) (hX.blt' _) ia.v ib.v ia.st ib.st)
 |.enum e,X,tg,x,hX,h=>xT_ (C:=λtg=>PI X tg x (upI X.K (z5 Z (.enum e)))) (an h).1 λl n tp _=>E8 (C:=λx=>PI X _ x (upI X.K (z5 Z (.enum e)))) (an h).2 λq p ps h1 h2=>
  have ia:=f6 Z e X _ hX h2
  (by exact ce5 (u2 h1) (hX.blt' _) ia.v ia.st)
 |.revt e,X,tg,x,hX,h=>E8 (C:=λx=>PI X tg x (upI X.K (z5 Z (.revt e)))) h λq p ps h1 h2=>
  have ia:=f6 Z e X _ hX h2
  (by exact ck2 (u2 h1) (hX.blt' _) ia.v ia.st)
 |.rev e,X,tg,x,hX,h=>E8 (C:=λx=>PI X tg x (upI X.K (z5 Z (.rev e)))) h λq p ps h1 h2=>
  have ia:=f6 Z e X _ hX h2
  (by exact cn7 (u2 h1) (hX.blt' _) ia.v ia.st)
end
end Ek
namespace Ek
open PySem PySem.Spec PyProof.Rows L2
variable [Tbs]
variable{x:BQ}{C:BQ->Prop}{e:E}{sc scope:BG}{N:List Str}{el:AQ}{gs:List HY}{p:Pos}{n:Nat}{env:Env}
abbrev sA(x:BQ)(k:List AQ->AQ->Pos->Bool):Bool:=if h:x.ctorIdx=5 then Eg x h k else AE
def sA_{k:List AQ->AQ->Pos->Bool}(h:sA x k=AC)(H:∀l x p,k l x p=AC->C (.Assign l x p)):C x:=
 dE h λe=>Eg (motive_2:=λx=>∀e,Eg x e k=AC->C x) x e (λl x p _ h=>H l x p h) e
abbrev sX(x:BQ)(k:AQ->Pos->Bool):Bool:=if h:x.ctorIdx=24 then Fc x h k else AE
def sX_{k:AQ->Pos->Bool}(h:sX x k=AC)(H:∀x p,k x p=AC->C (.Expr x p)):C x:=
 dE h λe=>Fc (motive_2:=λx=>∀e,Fc x e k=AC->C x) x e (λx p _ h=>H x p h) e
abbrev sI(x:BQ)(k:AQ->List BQ->List BQ->Pos->Bool):Bool:=if h:x.ctorIdx=12 then GU x h k else AE
def sI_{k:AQ->List BQ->List BQ->Pos->Bool}(h:sI x k=AC)(H:∀x a b p,k x a b p=AC->C (.If x a b p)):C x:=
 dE h λe=>GU (motive_2:=λx=>∀e,GU x e k=AC->C x) x e (λx a b p _ h=>H x a b p h) e
abbrev sR(x:BQ)(k:Option AQ->Pos->Bool):Bool:=if h:x.ctorIdx=3 then Eh x h k else AE
def sR_{k:Option AQ->Pos->Bool}(h:sR x k=AC)(H:∀x p,k x p=AC->C (.Return x p)):C x:=
 dE h λe=>Eh (motive_2:=λx=>∀e,Eh x e k=AC->C x) x e (λx p _ h=>H x p h) e
abbrev sF(x:BQ)(k:AQ->AQ->List BQ->List BQ->Pos->Bool):Bool:=if h:x.ctorIdx=9 then Fs x h k else AE
def sF_{k:AQ->AQ->List BQ->List BQ->Pos->Bool}(h:sF x k=AC)(H:∀g x a b p,k g x a b p=AC->C (.For g x a b p)):C x:=
 dE h λe=>Fs (motive_2:=λx=>∀e,Fs x e k=AC->C x) x e (λg x a b p _ h=>H g x a b p h) e
abbrev sW(x:BQ)(k:AQ->List BQ->List BQ->Pos->Bool):Bool:=if h:x.ctorIdx=11 then FF x h k else AE
def sW_{k:AQ->List BQ->List BQ->Pos->Bool}(h:sW x k=AC)(H:∀x a b p,k x a b p=AC->C (.While x a b p)):C x:=
 dE h λe=>FF (motive_2:=λx=>∀e,FF x e k=AC->C x) x e (λx a b p _ h=>H x a b p h) e
abbrev sC(x:BQ)(k:Pos->Bool):Bool:=if h:x.ctorIdx=27 then EF x h k else AE
def sC_{k:Pos->Bool}(h:sC x k=AC)(H:∀p,k p=AC->C (.Continue p)):C x:=
 dE h λe=>EF (motive_2:=λx=>∀e,EF x e k=AC->C x) x e (λp _ h=>H p h) e
abbrev sP(x:BQ)(k:Pos->Bool):Bool:=if h:x.ctorIdx=25 then Fe x h k else AE
def sP_{k:Pos->Bool}(h:sP x k=AC)(H:∀p,k p=AC->C (.Pass p)):C x:=
 dE h λe=>Fe (motive_2:=λx=>∀e,Fe x e k=AC->C x) x e (λp _ h=>H p h) e
abbrev sD(x:BQ)(k:Str->Cm->List BQ->List AQ->Option AQ->List TypeParam->BG->Option BG->Str->Pos->Bool):Bool:=if h:x.ctorIdx=0 then DV x h k else AE
def sD_{k:Str->Cm->List BQ->List AQ->Option AQ->List TypeParam->BG->Option BG->Str->Pos->Bool}(h:sD x k=AC)(H:∀name args body dl rt tp scope ts bind p,k name args body dl rt tp scope ts bind p=AC->C (.FunctionDef name args body dl rt tp scope ts bind p)):C x:=
 dE h λe=>DV (motive_2:=λx=>∀e,DV x e k=AC->C x) x e (λname args body dl rt tp scope ts bind p _ h=>H name args body dl rt tp scope ts bind p h) e
abbrev sA1(s:BQ)(k:AQ->AQ->Bool):Bool:=sA s λl x _=>l1 l λt=>k t x
def X0{s:BQ}{k:AQ->AQ->Bool}{C:BQ->Prop}(h:sA1 s k=AC)(H:∀t x p,k t x=AC->C (.Assign [t] x p)):C s:=
 sA_ h λl x p h=>l1_ (C:=λl=>C (.Assign l x p)) h λt h=>H t x p h
mutual
noncomputable def mS:S->BG->List Str->BQ->Bool
 |.set i e,sc,N,s=>sA1 s λt x=>mE e sc N x&&xN t λy _=>(N[i]?==AA y)&&(J7 sc y&&!(N.contains (x0 y)))
 |.pre _,_,_,_=>AE
 |.iput o i v,sc,N,s=>sA1 s λt x=>(mE v sc N x&&M3 x)&&xS t λp q _=>mE o sc N p&&mE i sc N q
 |.dput o i v,sc,N,s=>sA1 s λt x=>(mE v sc N x&&M3 x)&&xS t λp q _=>mE o sc N p&&mE i sc N q
 |.put o i v,sc,N,s=>sA1 s λt x=>(mE v sc N x&&M3 x)&&xS t λp q _=>mE o sc N p&&mE i sc N q
 |.fldS o f v,sc,N,s=>sA1 s λt x=>(mE v sc N x&&M3 x)&&xA t λp g _=>(g==f)&&mE o sc N p
 |.ex e,sc,N,s=>sX s λx _=>mE e sc N x&&M3 x
 |.iff c a b,sc,N,s=>sI s λx p q _=>(mE c sc N x&&C5 x)&&(mSs a sc N p&&mSs b sc N q)
 |.ret e,sc,N,s=>sR s λx _=>Fq (motive:=λ_=>Bool) x AE (mE e sc N)
 |.retN,_,_,s=>sR s λx _=>x.isNone
 |.for t it b,sc,N,s=>sF s λtg x p q _=>q.isEmpty&&(mTg AC t sc N tg&&(mIt it sc N tg x&&mSs b sc N p))
 |.while c b,sc,N,s=>sW s λx p q _=>q.isEmpty&&((mE c sc N x&&C5 x)&&mSs b sc N p)
 |.cont,_,_,s=>sC s λ_=>AC
 |.dead,_,_,_=>AC
 |.dfn i np Nl cp b,sc,N,s=>sD s λname args body dl rt tp scope ts bind _=>(dl.isEmpty&&rt.isNone&&tp.isEmpty&&ts.isNone)&&(Y1 args).any λps=>(name==bind)&&((N[i]?==AA name)&&(J7 sc name&&(!(N.contains (x0 name))&&(N.contains t9&&(ao4 sc N scope Nl ps np cp&&(!(Nl.contains t9)&&mSs b scope Nl body))))))
 |.pass,_,_,s=>sP s λ_=>AC
noncomputable def mSs:Ss->BG->List Str->List BQ->Bool
 |.nil,_,_,l=>l.isEmpty
 |.cons s r,sc,N,l=>DU (motive:=λ_=>Bool) l AE λx xs=>mS s sc N x&&mSs r sc N xs
end
abbrev mFB(b:Ss)(sc:BG)(N:List Str)(fb:DI):Prop:=N.contains t9=AE/\match fb with
 |.stmts l=>mSs b sc N l=AC
 |.expr x=>∃e,b=.cons (.ret e) .nil/\mE e sc N x=AC
@[reducible]noncomputable def HF(X:Cx):Prop:=∀y,Loc X.env.scope y->X.N.contains (x0 y)=AE->X.fn y=AC\/X.env.scope.names.lookup y=AA .local
def cy3:mE e sc N (.SetComp el gs scope p)=AE:=by cases e<;>rfl
def c19{a b:AQ}:mE e sc N (.DictComp a b gs scope p)=AE:=by cases e<;>rfl
def cy6(h:mE e sc N (.ListComp el gs scope p)=AC):∃Nc fr k t it c e',e=.comp Nc fr k t it c e':=by
 cases e<;>first|exact⟨_,_,_,_,_,_,_,rfl⟩|exact absurd h AH
def P8{x:AQ}{t:Option AQ}(h:M3 x=AC):CO x t n env=pure AE:=by
 cases x<;>first|rfl|cases h
def cl7{x t:AQ}(h:M3 x=AC):Fg [t] x n env=pure AE:=by
 rw[Fg];exact P8 h
def bz2{py:Pos}{y:Str}:∃b,CO (.ListComp el gs scope p) (AA (.Name y py)) n env=pure b:=⟨_,rfl⟩
mutual
theorem c61(Z:Sg)(hm:∀(b:Ss)(sc:BG)(N:List Str)(l:List BQ),mSs b sc N l=AC->N.contains t9=AE->Tbs.mt b sc N (.stmts l)):∀(s:S)(X:Cx)(x:BQ),XOk Z X->HF X->mS s X.env.scope X.N x=AC->PS X x (upS X.K (wpS Z s))
 |.set i e,X,x,hX,hf,h=>X0 (C:=λx=>PS X x (upS X.K (wpS Z (.set i e)))) h λtx v pos h=>xN_ (C:=λtx=>PS X (.Assign [tx] v pos) (upS X.K (wpS Z (.set i e)))) (an h).2 λy py h2=>by
  have h3:=(an h).1;have ie:=f6 Z e X v hX h3;have h1:=beq_iff_eq.1 (an h2).1;have hl:=Q8 (an (an h2).2).1;have hf:=hf y hl (nt (an (an h2).2).2)
  by_cases hc:M3 v=AC
  ·exact am6 hX.nd h1 hl ie.v (P8 hc) hf
  ·cases v with
   |ListComp el gs scope p=>
    obtain⟨b,hb⟩:=bz2 (el:=el) (gs:=gs) (scope:=scope) (p:=p) (py:=py) (y:=y) (n:=pos.line) (env:=X.env);cases b with
    |false=>exact am6 hX.nd h1 hl ie.v hb hf
    |true=>
     obtain⟨Nc,fr,k,t,it,c,e,rfl⟩:=cy6 h3;revert hb;refine l1_ (C:=λgs=>CO (.ListComp el gs scope p) (AA (.Name y py)) pos.line X.env=pure AC->PS X (.Assign [.Name y py] (.ListComp el gs scope p) pos) (upS X.K (wpS Z (.set i (.comp Nc fr k t it c e))))) h3 λg h hb=>?_;obtain⟨tg,itx,ifs,n⟩:=g;obtain⟨h0,h⟩:=an h;cases(beq_iff_eq.1 h0:n=0);obtain⟨g1,h⟩:=an h;obtain⟨g2,h⟩:=an h;obtain⟨g3,h⟩:=an h;have Sc:=au8 g1;exact PS.imp (b11 hX.calm hX.nd h1 hl hf Sc (ao8 Z it X tg itx hX g2)
      (λC fp pins s H=>ao1 (X:=X.comp scope Nc C fp pins s H) (ow:=AE) hX.calm Sc.nd nofun g3)
      (λC fp pins s H=>bv0 (X:=X.comp scope Nc C fp pins s H) (an h).2 λx h=>f6 Z c (X.comp scope Nc C fp pins s H) x (hX.comp (X8 g1) Sc C fp pins s H) h)
      (λC fp pins s H=>(f6 Z e (X.comp scope Nc C fp pins s H) el (hX.comp (X8 g1) Sc C fp pins s H) (an h).1).v) hb (ap4 g2)) λF σ H⟨env,st,Fd,hE,hS,ht',hq⟩=>
      aw3 ⟨env,st,(λd st'=>Fd.nx (env.set i (AA d)) st'),hE,hS,ht',λv d H' st' ev is rs q=>hq.nx _ _ H' st' ev ((hE.mono (ev.tk hS)).set is i) rs q⟩
   |SetComp el gs scope p=>exact(AH (cy3.symm.trans h3)).elim
   |DictComp a b gs scope p=>exact(AH (c19.symm.trans h3)).elim
   |_=>exact absurd rfl hc
 |.pre i,X,x,hX,hf,h=>(AH h).elim
 |.iput o i v,X,x,hX,hf,h=>X0 (C:=λx=>PS X x (upS X.K (wpS Z (.iput o i v)))) h λtx y pos h=>xS_ (C:=λtx=>PS X (.Assign [tx] y pos) (upS X.K (wpS Z (.iput o i v)))) (an h).2 λp q ps h2=>
  (by exact cj7 hX.units (f6 Z v X y hX (an (an h).1).1).v (f6 Z o X p hX (an h2).1).v (f6 Z i X q hX (an h2).2).v (P8 (an (an h).1).2))
 |.dput o i v,X,x,hX,hf,h=>X0 (C:=λx=>PS X x (upS X.K (wpS Z (.dput o i v)))) h λtx y pos h=>xS_ (C:=λtx=>PS X (.Assign [tx] y pos) (upS X.K (wpS Z (.dput o i v)))) (an h).2 λp q ps h2=>
  (by exact cf6 hX.units (f6 Z v X y hX (an (an h).1).1).v (f6 Z o X p hX (an h2).1).v (f6 Z i X q hX (an h2).2).v (P8 (an (an h).1).2))
 |.put o i v,X,x,hX,hf,h=>X0 (C:=λx=>PS X x (upS X.K (wpS Z (.put o i v)))) h λtx y pos h=>xS_ (C:=λtx=>PS X (.Assign [tx] y pos) (upS X.K (wpS Z (.put o i v)))) (an h).2 λp q ps h2=>by
  have iq:=f6 Z i X q hX (an h2).2;refine cm8 (f6 Z v X y hX (an (an h).1).1).v (f6 Z o X p hX (an h2).1).v iq.v (λw=>?_) (cl7 (an (an h).1).2) rfl;cases q<;>first|rfl|exact absurd rfl (iq.sl _ _ _ _)
 |.fldS o f v,X,x,hX,hf,h=>X0 (C:=λx=>PS X x (upS X.K (wpS Z (.fldS o f v)))) h λtx y pos h=>xA_ (C:=λtx=>PS X (.Assign [tx] y pos) (upS X.K (wpS Z (.fldS o f v)))) (an h).2 λp g ps h2=>by
  cases beq_iff_eq.1 (an h2).1;exact cj3 (hX.cls _) (f6 Z v X y hX (an (an h).1).1).v (f6 Z o X p hX (an h2).2).v (P8 (an (an h).1).2)
 |.ex e,X,x,hX,hf,h=>sX_ (C:=λx=>PS X x (upS X.K (wpS Z (.ex e)))) h λx p h=>(by exact c16 (f6 Z e X _ hX (an h).1).v (P8 (an h).2))
 |.iff c a b,X,x,hX,hf,h=>sI_ (C:=λx=>PS X x (upS X.K (wpS Z (.iff c a b)))) h λx p q ps h=>
  (by exact c12 ((f6 Z c X _ hX (an (an h).1).1).t (an (an h).1).2) (M6 Z hm a X _ hX hf (an (an h).2).1) (M6 Z hm b X _ hX hf (an (an h).2).2))
 |.ret e,X,x,hX,hf,h=>sR_ (C:=λx=>PS X x (upS X.K (wpS Z (.ret e)))) h λx p h=>by
  cases x with
  |none=>exact(AH h).elim
  |some x=>exact co8 (f6 Z e X _ hX h).v
 |.retN,X,x,hX,hf,h=>sR_ (C:=λx=>PS X x (upS X.K (wpS Z .retN))) h λx p h=>by
  cases x with
  |some _=>exact(AH h).elim
  |none=>exact cl0
 |.for t it b,X,x,hX,hf,h=>sF_ (C:=λx=>PS X x (upS X.K (wpS Z (.for t it b)))) h λtg x p q ps h=>by
  cases q with
  |cons=>exact(AH h).elim
  |nil=>exact cw1 hX.pass hX.calm (ao8 Z it X _ _ hX (an (an (an h).2).2).1) (ao1 hX.calm hX.nd (λ_=>hf) (an (an h).2).1) (M6 Z hm b X _ hX hf (an (an (an h).2).2).2) (ap4 (an (an (an h).2).2).1)
 |.while c b,X,x,hX,hf,h=>sW_ (C:=λx=>PS X x (upS X.K (wpS Z (.while c b)))) h λx p q ps h=>by
  cases q with
  |cons=>exact(AH h).elim
  |nil=>exact cc2 hX.pass ((f6 Z c X _ hX (an (an (an h).2).1).1).t (an (an (an h).2).1).2) (M6 Z hm b X _ hX hf (an (an h).2).2)
 |.cont,X,x,hX,hf,h=>sC_ (C:=λx=>PS X x (upS X.K (wpS Z .cont))) h λ_ _=>(by exact cm1)
 |.dfn i np Nl cp b,X,x,hX,hf,h=>sD_ (C:=λx=>PS X x (upS X.K (wpS Z (.dfn i np Nl cp b)))) h λname args body dl rt tp scope ts bind p h=>by
  cases hp:Y1 args with
  |none=>rw[hp]at h;exact(AH (an h).2).elim
  |some ps=>
   rw[hp]at h;obtain⟨z,j⟩:=an h;obtain⟨h0,j0⟩:=an (show(_&&_)=AC from j);obtain⟨h1,j1⟩:=an j0;obtain⟨h2,j2⟩:=an j1;obtain⟨h3,j3⟩:=an j2;obtain⟨h4,j4⟩:=an j3;obtain⟨h5,j5⟩:=an j4;clear h j j0 j1 j2 j3 j4;cases beq_iff_eq.1 h0;cases dl with
   |cons=>exact(AH z).elim
   |nil=>cases rt with
    |some=>exact(AH z).elim
    |none=>cases tp with
     |cons=>exact(AH z).elim
     |nil=>cases ts with
      |some=>exact(AH z).elim
      |none=>
       obtain⟨L,hc⟩:=hX.lam h4;obtain⟨a1,a2,a3,a4,a5⟩:=b09 hp;exact cv4 hX.nd (beq_iff_eq.1 h1) (Q8 h2) (hf _ (Q8 h2) (nt h3)) a1 a2 a4 L (cf9 h5 hc (hm b scope Nl body (an j5).2 (nt (an j5).1)) (λname qual cl doc pm cv ct us hl=>a5 name qual _ scope cl doc pm cv ct us hl))
 |.dead,X,x,hX,hf,h=>λ_ _ _ _ _ _⟨_,_,_,_,_,ht,_⟩=>ht.elim
 |.pass,X,x,hX,hf,h=>sP_ (C:=λx=>PS X x (upS X.K (wpS Z .pass))) h λ_ _=>(by exact cd5)
theorem M6(Z:Sg)(hm:∀(b:Ss)(sc:BG)(N:List Str)(l:List BQ),mSs b sc N l=AC->N.contains t9=AE->Tbs.mt b sc N (.stmts l)):∀(l:Ss)(X:Cx)(xs:List BQ),XOk Z X->HF X->mSs l X.env.scope X.N xs=AC->PSs X xs (upS X.K (g9 Z l))
 |.nil,X,xs,hX,hf,h=>by
  cases xs with
  |nil=>exact cv9
  |cons=>exact(AH h).elim
 |.cons s r,X,xs,hX,hf,h=>by
  cases xs with
  |nil=>exact(AH h).elim
  |cons x xs=>
   rw[g9];exact ck5 (c61 Z hm s X _ hX hf (an h).1) (M6 Z hm r X _ hX hf (an h).2)
end
end Ek
namespace Ek
open PySem PySem.Spec PyProof.Rows L2
variable [Tbs]
variable{mg:Str->Option AG}{h:BI}{f c m:Str}{st:BQ}{ps:List Str}{fa a:AI}{od:Option AI}{sl:Array (Option AG)}{dc pm cd ct:AG}{n:Nat}{fd:Ba}{w:BB}{H:Hp}{X:Cx}
abbrev mP(i:Nat)(sc:BG)(N:List Str):BQ->Bool
 |.Assign [.Name y _] (.Dict [] [] _) _=>(N[i]?==AA y)&&J7 sc y
 |_=>AE
abbrev mB:Ss->BG->List Str->List BQ->Bool
 |.cons (.pre i) r,sc,N,s::l=>mP i sc N s&&mB r sc N l
 |b,sc,N,l=>mSs b sc N l
structure Stat0(st:BQ)(d:Def)(ps:List Str):Prop where
 sc:FnScope d.N ps (o6 st)
 np:ps.length=d.np
 body:mB d.body (o6 st) d.N (v6 st)=AC
structure Stat(st:BQ)(d:Def)(ps:List Str)(x f:Str):Prop extends Stat0 st d ps where
 bind:∀(kV doc pm:AG)(an:Option AI)(cdv ct:AG)(us:List AG),us.length=ps.length->BF (Cr x f (z0 st) (v6 st) (o6 st) .none kV doc pm an cdv ct) ⟨us,[]⟩=pure (ps.zip us)
structure FunD(K:AO)(x qual:Str)(st:BQ)(f:AI)(fd:Ba):Prop where
 ex:∃(oc:AG)(od:Option AI)(dV kV doc pm:AG)(an:Option AI)(cdv ct:AG)(osl:Array (Option AG)),
  fd=Cr x qual (z0 st) (v6 st) (o6 st) dV kV doc pm an cdv ct/\K.lookup f=AA ⟨oc,od,.func fd,osl⟩/\Cp K cdv qual=AC
 kp:Bj K (.ref f)=AC
structure DefAt(K:AO)(f:Str)(d:Def)(a:AI)(fd:Ba)(ps:List Str):Prop where
 ex:∃(st:BQ)(x:Str),FunD K x f st a fd/\Stat0 st d ps
 bd:t6 K fd ps []
 lam:d.N.contains t9=AC->∃c P,fd.code=.ref c/\Bx K c P=AC/\P∈Tbs.ps
structure DefOk(K:AO)(mg:Str->Option AG)(f:Str)(d:Def):Prop where
 ex:∃(a:AI)(fd:Ba)(ps:List Str),DefAt K f d a fd ps/\mg f=AA (.ref a)/\Ax K AN f=AA (AA (.ref a))/\∀us:List AG,us.length=ps.length->BF fd ⟨us,[]⟩=pure (ps.zip us)
structure MthOk(K:AO)(mg:Str->Option AG)(df:Option Int)(c m:Str)(d:Def):Prop where
 ex:∃(Ca a:AI)(fd:Ba)(ps:List Str),DefAt K (c7 c m) d a fd ps/\Ax K AN c=AA (AA (.ref Ca))/\mg c=AA (.ref Ca)/\Cls K Ca/\Meth K Ca m a/\(m="__init__"->Mk K Ca a)/\∀i,df=AA i->∃tk,t6 K fd ps [.int i tk]
 nom:Ax K AN (c7 c m)=AA AD
theorem J3:∀{a b a' b':List Nat},(46:Nat)∉a'->(46:Nat)∉b'->a++46::b=a'++46::b'->a=a'/\b=b'
 |[],b,[],b',_,_,h=>⟨rfl,by simpa using h⟩
 |[],b,x::a',b',h1,_,h=>by
  simp only[Ck,CD,Ae]at h;exact absurd (h.1▸Bw) h1
 |x::a,b,[],b',_,h2,h=>by
  simp only[Ck,CD,Ae]at h;exact absurd (h.2▸BE _ Bw) h2
 |x::a,b,y::a',b',h1,h2,h=>by
  simp only[CD,Ae]at h;obtain⟨e,f⟩:=J3 (λz=>h1 (Ao _ z)) h2 h.2;exact⟨by rw[h.1,e],f⟩
def cu9{K:AO}{d:Def}{an:Option AI}{oc kV:AG}(X:K.In h)(G:h.Ns AN mg)(S:Stat st d ps f f)
  (a1:Ax K AN f=AA (AA (.ref fa))) (l1:K.lookup fa=AA ⟨oc,od,.func (Cr f f (z0 st) (v6 st) (o6 st) .none kV dc pm an cd ct),sl⟩) (c1:Cp K cd f=AC) (k1:Bj K (.ref fa)=AC)
  (m1:d.N.contains t9=AC->∃c P,cd=.ref c/\Bx K c P=AC/\P∈Tbs.ps:=by exact λh=>absurd h (by decide+kernel)):DefOk K mg f d:=
 ⟨fa,_,ps,⟨⟨st,f,⟨⟨_,_,_,_,_,_,_,_,_,_,rfl,l1,c1⟩,k1⟩,S.toStat0⟩,.all (S.bind kV dc pm an cd ct),m1⟩,HW X G a1,a1,S.bind kV dc pm an cd ct⟩
def cs8{K:AO}{d:Def}{Ca:AI}{an:Option AI}{oc kV:AG}{df:Option Int}(X:K.In h)(G:h.Ns AN mg)(S:Stat st d ps m (c7 c m))
  (a0:Ax K AN (c7 c m)=AA AD) (a1:Ax K AN c=AA (AA (.ref Ca))) (hc:Cls K Ca) (hm:Meth K Ca m fa) (hi:m="__init__"->Mk K Ca fa)
  (l1:K.lookup fa=AA ⟨oc,od,.func (Cr m (c7 c m) (z0 st) (v6 st) (o6 st) .none kV dc pm an cd ct),sl⟩) (c1:Cp K cd (c7 c m)=AC)
  (m1:d.N.contains t9=AC->∃c P,cd=.ref c/\Bx K c P=AC/\P∈Tbs.ps:=by exact λh=>absurd h (by decide+kernel)) (hdf:df=AD:=by decide+kernel):MthOk K mg df c m d:=
 ⟨⟨Ca,fa,_,ps,⟨⟨st,m,⟨⟨_,_,_,_,_,_,_,_,_,_,rfl,l1,c1⟩,hm.kp⟩,S.toStat0⟩,.all (S.bind kV dc pm an cd ct),m1⟩,a1,HW X G a1,hc,hm,hi,λi h=>by rw[hdf]at h;cases h⟩,a0⟩
def cm2{K:AO}{d:Def}{Ca T:AI}{an td:Option AI}{tsl:Array (Option AG)}{oc kV tc:AG}{df:Option Int}{i:Int}{tk:Tok}(X:K.In h)(G:h.Ns AN mg)(S:Stat0 st d ps)
  (hb:∀(s:AK)(o:Obj)(n:Nat),s.heap.get? T=AA o->o.data=.seq #[.int i tk] n->(∀us:List AG,us.length=ps.length->Fy s (Cr m (c7 c m) (z0 st) (v6 st) (o6 st) (.ref T) kV dc pm an cd ct) ⟨us,[]⟩ (ps.zip us))/\∀us:List AG,us.length+1=ps.length->Fy s (Cr m (c7 c m) (z0 st) (v6 st) (o6 st) (.ref T) kV dc pm an cd ct) ⟨us,[]⟩ (ps.zip (us++[.int i tk])))
  (a0:Ax K AN (c7 c m)=AA AD) (a1:Ax K AN c=AA (AA (.ref Ca))) (hc:Cls K Ca) (hm:Meth K Ca m fa) (hi:m="__init__"->Mk K Ca fa)
  (l1:K.lookup fa=AA ⟨oc,od,.func (Cr m (c7 c m) (z0 st) (v6 st) (o6 st) (.ref T) kV dc pm an cd ct),sl⟩) (c1:Cp K cd (c7 c m)=AC) (t1:K.lookup T=AA ⟨tc,td,.seq #[.int i tk] n,tsl⟩)
  (m1:d.N.contains t9=AC->∃c P,cd=.ref c/\Bx K c P=AC/\P∈Tbs.ps:=by exact λh=>absurd h (by decide+kernel)) (hdf:df=AA i:=by decide+kernel):MthOk K mg df c m d:=
 ⟨⟨Ca,fa,_,ps,⟨⟨st,m,⟨⟨_,_,_,_,_,_,_,_,_,_,rfl,l1,c1⟩,hm.kp⟩,S⟩,λs us hK hl=>by
   rw[BJ]at hl ⊢;exact(hb s _ _ (hK _ _ t1) rfl).1 us hl,m1⟩,a1,HW X G a1,hc,hm,hi,λj h=>by
   rw[hdf]at h;cases h;exact⟨tk,λs us hK hl=>(hb s _ _ (hK _ _ t1) rfl).2 us (by simpa using hl)⟩⟩,a0⟩
def DefAt.binds{K:AO}{d:Def}(D:DefAt K f d a fd ps):t6 K fd ps []:=D.bd
theorem DefAt.kp{K:AO}{d:Def}(D:DefAt K f d a fd ps):Bj K (.ref a)=AC:=by
 obtain⟨st,x,F,S⟩:=D.ex;exact F.kp
structure AllOk(Pr:Aj)(w:BB)(K:AO)(mg:Str->Option AG)(P:i6)(G:Gs):Prop where
 fns:∀f d,P f=AA d->isM f=AE->DefOk K mg f d
 mts:∀f d,P f=AA d->isM f=AC->∃c m,f=c7 c m/\isM c=AE/\isM m=AE/\MthOk K mg (B3 G.cls (c7 c m)) c m d
 cls:∀f c Ca,Ax K AN c=AA (AA (.ref Ca))->f∈G.cls c->Cls K Ca/\F7 K Ca f
 blt:∀b∈P7,mg b=AD
 tabs:∀g,G.tab g≠[]->GTab Pr w K mg g (G.tab g)
 cst:∀g i,G.cst g=AA i->∃t,mg g=AA (.int i t)
 kt:Tbs.kt=(G.cls "!kt").isEmpty
def cc3:isM (c7 c m)=AC:=by
 unfold isM c7;simp
def b58{c' m':Str}(h1:isM c'=AE)(h2:isM m'=AE)(h:c7 c m=c7 c' m'):c=c'/\m=m':=by
 unfold isM at h1 h2;unfold c7 at h;have h':=congrArg (λs:Str=>s.cps.toList) h;simp only[Ee,Bk,List.singleton_append]at h';have e:=J3 (by simpa using h1) (by simpa using h2) h';exact⟨by cases c;cases c';simpa using e.1,by cases m;cases m';simpa using e.2⟩
def AllOk.mth{Pr:Aj}{K:AO}{P:i6}{G:Gs}(h:AllOk Pr w K mg P G){d:Def}(e:P (c7 c m)=AA d):MthOk K mg (B3 G.cls (c7 c m)) c m d:=by
 obtain⟨c',m',e',h1,h2,M⟩:=h.mts _ d e cc3;obtain⟨rfl,rfl⟩:=b58 h1 h2 e';exact M
def b49{K:AO}{d:Def}{ds:List D}{vs:List V}(r:IsDs K H ds vs):RelE K H (aa3 d ds) (L2.y4 d.N vs):=at4 r
def az4{pins:List (AI×Obj)}{σ:L2.St}{s:AK}(I:L2.Inv X pins σ H s)(hfn:∀x,X.fn x=AC)(g k:Str->Bool)(e:AG->AK->Prop):L2.Inv {X with fn:=g,ow:=k,xe:=e} pins σ H s:=
 ⟨⟨I.ok.mod,I.ok.kind,I.ok.glob,I.ok.blt,I.ok.above,I.ok.inj,I.ok.has,λx c _ h=>I.ok.cab x c (.inl (hfn x)) h,I.ok.hd,I.ok.frames,I.ok.stk,I.ok.exf,I.ok.bs,I.ok.bsz,I.ok.noex,I.ok.exfs,I.ok.funs,I.ok.frf⟩,I.os,I.bare,I.base,I.loc,I.cell,I.free,
  λx c h=>.inl ((I.freeC x c h).resolve_right λz=>by rw[hfn x]at z;exact absurd z.1 ∅),I.pin,I.hok,I.len⟩
abbrev Cxa(X:Cx):Cx:={X with fn:=λ_=>AC}
def U9{pins:List (AI×Obj)}{σ:L2.St}{s:AK}(I:L2.Inv (Cxa X) pins σ H s):L2.Inv X pins σ H s:=az4 I (λ_=>rfl) X.fn X.ow X.xe
abbrev P3(X:Cx)(l:List BQ)(t:TS):Prop:=∀(pins:List (AI×Obj))(s:AK)(σ:L2.St)(H:Hp)(D:Ends),Inv (Cxa X) pins σ H s->t D σ H->AU (model X.prog X.w) X.A (execs l X.env) (SP X pins D) X.xe s
def P3.cons{x:BQ}{i7:List BQ}{t u:DS}(h1:PS (Cxa X) x (upS X.K t))(h2:P3 X i7 (upS X.K u)):P3 X (x::i7) (upS X.K λF env st=>t {F with nx:=u F} env st):=by
 intro pins s σ H D I h;obtain⟨env,st,Fd,hE,hS,ht,hq⟩:=h;refine JZ (thn (h1 pins s σ H {D with nx:=λσ' H'=>∃env' st',RelE X.K H' env' σ'/\RelS X.K st' H'/\u Fd env' st'/\EndsR X.K st' H' Fd D} I ⟨env,st,_,hE,hS,ht,⟨λenv' σ' H' st' ev hE' hS' q=>⟨env',st',hE',hS',q,hq.after ev⟩,hq.bk,hq.ct,hq.rt⟩⟩) λf s1 q=>?_);cases f with
 |next=>
  obtain⟨σ',H',I',env',st',e1,e2,e3,e4⟩:=q;exact h2 pins s1 σ' H' D I' ⟨env',st',Fd,e1,e2,e3,e4⟩
 |ret v=>obtain⟨v',σ',H',I',q⟩:=q;exact⟨v',σ',H',U9 I',q⟩
 |brk=>obtain⟨σ',H',I',q⟩:=q;exact⟨σ',H',U9 I',q⟩
 |cont=>obtain⟨σ',H',I',q⟩:=q;exact⟨σ',H',U9 I',q⟩
theorem br5(Z:Sg)(hm:∀(b:Ss)(sc:BG)(N:List Str)(l:List BQ),mSs b sc N l=AC->N.contains t9=AE->Tbs.mt b sc N (.stmts l)){X:Cx}(hX:XOk Z X)(hF:HF X):∀(l:Ss)(xs:List BQ),mB l X.env.scope X.N xs=AC->P3 X xs (upS X.K (g9 Z l))
 |.nil,xs,h=>λpins s σ H D I q=>M6 Z hm .nil X xs hX hF h pins s σ H D (U9 I) q
 |.cons x r,xs,h=>by
  have old:mSs (.cons x r) X.env.scope X.N xs=AC->P3 X xs (upS X.K (g9 Z (.cons x r))):=λh pins s σ H D I q=>M6 Z hm (.cons x r) X xs hX hF h pins s σ H D (U9 I) q;cases x with
  |pre i=>
   cases xs with
   |nil=>exact old h
   |cons s l=>
    have h':(mP i X.env.scope X.N s&&mB r X.env.scope X.N l)=AC:=h;simp only[Au]at h';obtain⟨h1,h2⟩:=h';unfold mP at h1
    split at h1
    ·simp only[Au,beq_iff_eq]at h1;exact P3.cons (t:=λF env st=>∀p,st p=AD->F.nx (env.set i (AA (.ref p))) (b0 st p (.dct []))) (PS.imp (am6 (X:=Cxa X) hX.nd h1.1 (Q8 h1.2) cw6 rfl (.inl rfl)) λF σ H q=>q) (br5 Z hm hX hF r l h2)
    ·cases h1
  |_=>exact old h
abbrev cxF(P:Aj)(w:BB)(K:AO)(mg:Str->Option AG)(base:BI)(N:List Str)(qual:Str)(scope:BG)(f:AI)(cd:AG)(A:BP)(outer:List Env)(s:AK)(H:Hp):Cx:=
 {ab8 CX0 P w K mg base N qual scope f cd A outer s H E0 with fn:=λy=>!(N.contains (x0 y)),ow:=λ_=>AC,xe:=λ_ _=>False}
def cm9{P:Aj}{K:AO}{base:BI}{k:Nat}{f:AI}{x qual:Str}{N:List Str}{sp:Sp}(F:FunD K x qual st f fd)(S:FnScope N ps (o6 st))
  (len:∀vs H Q E,sp vs H Q E->vs.length=ps.length)
  (hbody:∀(A:BP)(outer:List Env)(s:AK)(H:Hp)(vs:List V)(Q:VK)(E:XK),Room k (A.deeper (GQ qual (o6 st) s.heap.objs.size f fd.code))->sp vs H Q E ->
   ∃t,P3 (cxF P w K mg base N qual (o6 st) f fd.code A outer s H) (v6 st) t/\t {nx:=λ_ H'=>Q .non H',rt:=Q} (L2.y4 N vs) H) :
  FnOk P w K mg base CX0 (k+1) f fd ps sp:=by
 obtain⟨oc,od,dV,kV,doc,pm,an,cdv,ct,osl,rfl,lk,hcd⟩:=F.ex;refine⟨len,λA outer s H args us vs Q E hr e0 hb r hsp=>?_⟩;have hl:=len _ _ _ _ hsp;have KX:K.In s.heap:=e0.mod.kin.keeps λb o e=>(e0.bs b o e).1;have lim:s.heap.NoLimit:=e0.mod.nolimit.keeps λb o e=>(e0.bs b o e).1;have hkind:∀y∈ps.zip us,(o6 st).names.lookup y.1=AA .local\/((o6 st).names.lookup y.1=AA .cell/\((Jf (s.heap.objs.size+1) (o6 st).names []).lookup y.1).isSome=AC):=λ⟨n,v⟩hy=>by
  rcases S.par n (Fl hy).1 with q|q
  ·exact .inl q
  ·exact .inr ⟨q,Ix _ _ _ (.inl q)⟩
 refine codeAny_call_function hr.depth (KX _ _ lk) rfl S.co S.gen rfl (W.codeRec_of KX hcd) (hb _ _ _ _ ?_);refine wpAny_newFunctionEnv_cells S.kind hkind λenv he s1 x=>?_;subst he;refine⟨lim.keeps x.toInCall.keep,codeAny_func ?_⟩;obtain⟨t,ht,hq⟩:=hbody A outer s H vs Q E (hr.deeper _) hsp;have I0:Inv (ab8 CX0 P w K mg base N qual (o6 st) f cdv A outer s H E0) [] (L2.y4 N vs) H s1:=b44 S hr.hd e0 hl r x;have I:Inv (Cxa (cxF P w K mg base N qual (o6 st) f cdv A outer s H)) [] (L2.y4 N vs) H s1:=az4 I0 (λ_=>rfl) _ _ _;refine Bc (ht [] s1 (L2.y4 N vs) H _ I hq) (λfl s' hs=>?_) λe s' hs=>AZ hs;have fin:∀{σ':L2.St}{H':Hp}{v:V}{u:AG},Inv (cxF P w K mg base N qual (o6 st) f cdv A outer s H) [] σ' H' s'->f8 v u->Q v H'->CE outer P w H s Q u s':=
  λ{σ' H' v u}J rv q=>⟨v,H',J.os,J.bare,J.base,J.hok,rv,q⟩
 cases fl with
 |ret u=>
  obtain⟨v,σ',H',J,rv,q⟩:=hs;exact fin J rv q
 |next=>
  obtain⟨σ',H',J,q⟩:=hs;exact fin (v:=V.non) (u:=Bh) J rfl q
 |brk=>
  obtain⟨_,_,_,q⟩:=hs;exact AZ q
 |cont=>
  obtain⟨_,_,_,q⟩:=hs;exact AZ q
section
variable {Pr:Aj} {K:AO} {base:BI} {P:i6} {G:Gs}
structure LvOk(Pr:Aj)(w:BB)(K:AO)(mg:Str->Option AG)(base:BI)(P:i6)(G:Gs)(n:Nat):Prop where
 fn:∀m,m<=n->∀(f:Str)(d:Def),P f=AA d->∀(a:AI)(fd:Ba)(ps:List Str),DefAt K f d a fd ps->FnOk Pr w K mg base CX0 m a fd ps (z8 K (sem P G m f))
 clo:∀np N b cs fa fd ps,CloF fd np N ps b->FnOk Pr w K mg base CX0 n fa fd ps (W7 K fa fd np N cs (J8 P G n np N b cs))
@[reducible]noncomputable def Zl(P:i6)(G:Gs)(n:Nat):Sg:=⟨λf=>(P f).isSome,sem P G n,G.tab,G.cls,(v4 P G n).2.1,λf=>(v4 P G n).2.2.1&&(P f).isSome,J8 P G n,G.cst⟩
def bj8(hA:AllOk Pr w K mg P G)(L:LvOk Pr w K mg base P G n)(e1:X.prog=Pr)(e2:X.w=w)(e3:X.K=K)(e4:X.mg=mg)(e5:X.base=base)(hr:Room n X.A)(calm:X.calm=AC)(xe:X.xe=λ_ _=>False)(nd:X.N.Nodup)
  (lam:X.N.contains t9=AC->LamOk X/\∀x,X.N.contains (x0 x)=AC->X.fn x=AE/\X.ow x=AC)
  (mt:∀b sc N fb,mFB b sc N fb->Tbs.mt b sc N fb):XOk (Zl P G n) X where
 calm:=calm
 xe:=xe
 units:=by have:=hr.un;lia
 nd:=nd
 blt:=by rw[e4];exact hA.blt
 fns:=λg hi hg=>by
  obtain⟨dg,hdg⟩:=BX.mp hg;obtain⟨ag,fdg,pg,Dg,mgg,nsg,_⟩:=(hA.fns g dg hdg hi).ex;refine⟨n,ag,fdg,pg,?_,hr,by rw[e4];exact mgg,by rw[e3];exact Dg.kp,by rw[e3];exact Dg.binds,by rw[e3];exact nsg⟩;rw[e1,e2,e3,e4,e5];exact L.fn n (AY _) g dg hdg ag fdg pg Dg
 nom:=λg ga hg hn=>by
  obtain⟨dg,hdg⟩:=BX.mp hg;cases e:isM g with
  |false=>rfl
  |true=>
   obtain⟨c,m,rfl,_,_,M⟩:=hA.mts g dg hdg e;rw[e3,M.nom]at hn;cases hn
 cls:=by rw[e3];exact hA.cls
 mth:=λm c Ca hc hg=>by
  obtain⟨dg,hdg⟩:=BX.mp hg;obtain⟨Ca',ag,fdg,pg,Dg,nsc,mgc,C1,M1,I1,_⟩:=(hA.mth hdg).ex;rw[e3,nsc]at hc;cases hc;refine⟨n,ag,fdg,pg,by rw[e3];exact C1,by rw[e3];exact M1,?_,hr,by rw[e3];exact Dg.binds⟩;rw[e1,e2,e3,e4,e5];exact L.fn n (AY _) _ dg hdg ag fdg pg Dg
 mthd:=λm c Ca i hc hg hi=>by
  obtain⟨dg,hdg⟩:=BX.mp hg;obtain⟨Ca',ag,fdg,pg,Dg,nsc,mgc,C1,M1,I1,D1⟩:=(hA.mth hdg).ex;rw[e3,nsc]at hc;cases hc;obtain⟨tk,hb⟩:=D1 i hi;refine⟨n,ag,fdg,pg,tk,by rw[e3];exact C1,by rw[e3];exact M1,?_,hr,by rw[e3];exact hb⟩;rw[e1,e2,e3,e4,e5];exact L.fn n (AY _) _ dg hdg ag fdg pg Dg
 mks:=λc hg=>by
  simp only[Au]at hg;obtain⟨dg,hdg⟩:=BX.mp hg.2;obtain⟨Ca',ag,fdg,pg,Dg,nsc,mgc,C1,M1,I1,_⟩:=(hA.mth hdg).ex;cases n with
  |zero=>exact absurd hg.1 AH
  |succ m=>
   refine⟨Ca',m,ag,fdg,pg,by rw[e3];exact nsc,by rw[e3];exact I1 rfl,?_,hr,by rw[e4];exact mgc,by rw[e3];exact Dg.binds⟩;rw[e1,e2,e3,e4,e5];exact L.fn m (Hn _) _ dg hdg ag fdg pg Dg
 tabs:=by rw[e1,e2,e3,e4];exact hA.tabs
 cst:=by rw[e4];exact hA.cst
 kt:=hA.kt
 lam:=lam
 mtE:=λe sc N x h1 h2=>mt _ _ _ _ ⟨h2,e,rfl,h1⟩
 clo:=λnp N b cs fa fd ps cf=>⟨n,by rw[e1,e2,e3,e4,e5];exact L.clo np N b cs fa fd ps cf,hr⟩
def cf4:LvOk Pr w K mg base P G 0:=by
 refine⟨λm hm f d hf a fd ps D=>?_,λnp N b cs fa fd ps cf=>?_⟩
 ·obtain rfl:m=0:=by lia
  have no:∀vs H Q E,¬z8 K (sem P G 0 f) vs H Q E:=λvs H Q E h=>by
   obtain⟨ds,s0,Qd,_,_,h,_⟩:=h;exact h
  exact⟨λvs H Q E h=>absurd h (no vs H Q E),λA outer s H args us vs Q E _ _ _ _ h=>absurd h (no vs H Q E)⟩
 ·have no:∀vs H Q E,¬W7 K fa fd np N cs (J8 P G 0 np N b cs) vs H Q E:=λvs H Q E h=>by
   obtain⟨us0,ds,st,Qd,_,_,_,_,h,_⟩:=h;exact h
  exact⟨λvs H Q E h=>absurd h (no vs H Q E),λA outer s H args us vs Q E _ _ _ _ h=>absurd h (no vs H Q E)⟩
def cf5(hA:AllOk Pr w K mg P G)(hb0:R9 mg base)(hK0:K.In base)(mt:∀b sc N fb,mFB b sc N fb↔Tbs.mt b sc N fb)(L:LvOk Pr w K mg base P G n):LvOk Pr w K mg base P G (n+1):=by
 have hmS:∀(b:Ss)(sc:BG)(N:List Str)(l:List BQ),mSs b sc N l=AC->N.contains t9=AE->Tbs.mt b sc N (.stmts l):=λb sc N l h1 h2=>(mt _ _ _ _).mp ⟨h2,h1⟩;refine⟨λm hm f d hf a fd ps D=>?_,λnp N b cs fa fd ps cf=>?_⟩
 ·by_cases hmn:m<=n
  ·exact L.fn m hmn f d hf a fd ps D
  obtain rfl:m=n+1:=by lia
  obtain⟨st,x,F,S⟩:=D.ex;refine cm9 F S.sc (λvs H Q E h=>?_) (λA outer s H vs Q E hr h=>?_)
  ·obtain⟨ds,s0,Qd,is,_,hs,_⟩:=h;obtain⟨d',hd',hl,_⟩:=hs;rw[hf]at hd';cases hd';rw[<-is.len,hl,S.np]
  ·obtain⟨ds,s0,Qd,is,rs,hs,hq⟩:=h;obtain⟨d',hd',hl,hb⟩:=hs;rw[hf]at hd';cases hd';have hX:XOk (Zl P G n) (cxF Pr w K mg base d.N f (o6 st) a fd.code A outer s H):=bj8 hA L rfl rfl rfl rfl rfl hr rfl rfl S.sc.nd (λhl=>by
    obtain⟨c,P',e1,e2,e3⟩:=D.lam hl;refine⟨⟨⟨c,P',e1,Jy hK0 e2,e3⟩,hb0⟩,λx hx=>⟨?_,rfl⟩⟩;show(!(d.N.contains (x0 x)))=AE;have hx':d.N.contains (x0 x)=AC:=hx;rw[hx'];rfl) λb sc N fb=>(mt b sc N fb).mp
   have hF:HF (cxF Pr w K mg base d.N f (o6 st) a fd.code A outer s H):=λy _ hy=>.inl (by
    show(!(d.N.contains (x0 y)))=AC;have hy':d.N.contains (x0 y)=AE:=hy;rw[hy'];rfl)
   refine⟨_,br5 _ hmS hX hF d.body _ S.body,aa3 d ds,s0,_,b49 is,rs,hb,λenv σ H' st' ev hE hS q=>?_,λenv σ H' st' ev hE hS q=>q.elim,λenv σ H' st' ev hE hS q=>q.elim,λv e H' st' ev is' rs' q=>?_⟩
   ·obtain⟨s2,sub,q⟩:=q;exact hq _ .non H' s2 (ev.drop sub) .non (hS.sub sub) q
   ·obtain⟨s2,sub,q⟩:=q;exact hq v e H' s2 (ev.drop sub) is' (rs'.sub sub) q
 ·refine cn8 (Z:=Zl P G n) cf λq A outer s H hr=>?_;obtain⟨hnl,hfb⟩:=(mt _ _ _ _).mpr cf.mt;have hX:XOk (Zl P G n) (cxC Pr w K mg base N fd.scope fd.closure q fa fd.code A outer s H):=bj8 hA L rfl rfl rfl rfl rfl hr rfl rfl cf.sc.nd (λhl=>by
   have hl':N.contains t9=AC:=hl;rw[hnl]at hl';cases hl') λb sc N fb=>(mt b sc N fb).mp
  have hF:HF (cxC Pr w K mg base N fd.scope fd.closure q fa fd.code A outer s H):=λy hy _=>by
   have hy':fd.scope.names.lookup y=AA .local\/fd.scope.names.lookup y=AA .cell:=hy
   rcases hy' with z|z
   ·exact .inr z
   ·exact absurd rfl (cf.sc.nocell _ (PySem.mem_of_lookup z))
  cases hb:fd.body with
  |stmts l=>rw[hb]at hfb;exact M6 _ hmS b _ l hX hF hfb
  |expr x=>
   rw[hb]at hfb;obtain⟨e,rfl,he⟩:=hfb;exact⟨e,rfl,(f6 _ e _ x hX he).v⟩
theorem bi1(hA:AllOk Pr w K mg P G)(hb0:R9 mg base)(hK0:K.In base)(mt:∀b sc N fb,mFB b sc N fb↔Tbs.mt b sc N fb):∀n,LvOk Pr w K mg base P G n
 |0=>cf4
 |n+1=>cf5 hA hb0 hK0 mt (bi1 hA hb0 hK0 mt n)
end
abbrev st0(a:AI)(ns:List Int):Sto:=λb=>if b=a then AA (.fro (ns.map D.int))else AD
theorem au7{K:AO}:∀ns:List Int,IsDs K H (ns.map D.int) (ns.map V.int)
 |[]=>.nil
 |n::r=>.cons (.int n) (au7 r)
abbrev Q4(K:AO):Bool:=K.all λp=>!(p.2.cls==.type "list")
def au4{K:AO}{o:Obj}(h:Q4 K=AC)(e:K.lookup a=AA o):o.cls≠.type "list":=by
 unfold Q4 at h;rw[DZ]at h;have hm:(a,o)∈K:=by
  induction K with
  |nil=>cases e
  |cons p r ih=>
   obtain⟨b,x⟩:=p;rw[DY]at e;cases q:a==b with
   |true=>rw[q]at e;cases e;rw[beq_iff_eq.mp q];exact Bw
   |false=>rw[q]at e;exact Ao _ (ih (λp hp=>h p (Ao _ hp)) e)
 have:=h _ hm;simpa using this
end Ek
namespace Ek
open PySem PySem.Spec PyProof.Rows L2
def b35{P:Aj}{w:BB}{K:AO}{mg mb:Str->Option AG}{k:Nat}{fa a:AI}{fd:Ba}{x:Str}{sp:Sp}{s₁:AK}{vs:List AG}{ns:List Int}{ts:List AI}
  (KX:K.In s₁.heap) (hns:s₁.heap.Ns AN mg) (hb:s₁.heap.Ns Cg mb) (hbb:∀x:Str,x≠"__name__"->mb x=BA x) (hlim:s₁.heap.NoLimit) (hbm:R9 mg s₁.heap) (hg:s₁.gens=#[])
  (ha:s₁.heap.get? a=AA {cls:=.type "list",data:=.seq vs.toArray}) (hi:GE vs ns) (hl:ns.length<=sizeLine) (hr:Room k Gq)
  (hT:∀P∈ts,s₁.heap.get? P=AA (Gf #[])/\isCodeTable s₁.heap P) (hKt:∀P∈ts,K.lookup P=AD) (hKa:K.lookup a=AD)
  (F:∀base:BI,K.In base->base.Ns AN mg->R9 mg base->FnOk P w K mg base CX0 k fa fd [x] sp) (hbind:∀(s:AK)(u:AG),Fy s fd ⟨[u],[]⟩ [(x,u)])
  (hsp:∀H:Hp,(∀P∈ts,H P=AA (.tbl #[]))->SqL K H a (ns.map V.int)->sp [.ref a] H (λv _=>v=.bl AC) λ_ _ _=>False) :
  EH (model P w) Gq (.call (.ref fa) ⟨[.ref a],[]⟩) (λr s'=>r=.ok (.ret (.bool AC))/\OldK s₁.heap s'.heap/\s'.os=s₁.os/\Fu s'.gens) s₁:=by
 have rv:=av2 hi;have naT:a∉ts:=λz=>by
  have:=(hT a z).1;rw[ha]at this;cases this
 let H:Hp:=λb=>if b=a then AA (.frz {cls:=.type "list",data:=.seq vs.toArray} (.lst (ns.map V.int)))else if b∈ts then AA (.tbl #[])else AD
 have Ha:H a=AA (.frz {cls:=.type "list",data:=.seq vs.toArray} (.lst (ns.map V.int))):=if_pos rfl;have Ht:∀P∈ts,H P=AA (.tbl #[]):=λP hP=>by
  have ne:P≠a:=λz=>naT (z▸hP);show(if P=a then _ else if P∈ts then _ else _)=_;rw[if_neg ne,if_pos hP]
 have Hc:∀b u,H b=AA u->b=a\/b∈ts:=λb u e=>by
  by_cases h1:b=a
  ·exact .inl h1
  ·by_cases h2:b∈ts
   ·exact .inr h2
   ·have e':(if b=a then AA (HO.frz {cls:=.type "list",data:=.seq vs.toArray} (.lst (ns.map V.int)))else if b∈ts then AA (.tbl #[])else AD)=AA u:=e;rw[if_neg h1,if_neg h2]at e';cases e'
 have hok:HOk P w H s₁.heap:=λb u e=>by
  rcases Hc b u e with rfl|hb
  ·rw[Ha]at e;cases e;exact⟨ha,by rw[AT];exact hl,vs,_,rv,ha⟩
  ·rw[Ht b hb]at e;cases e;exact(hT b hb).1
 have D2:∀{b:AI}{o:Obj},s₁.heap.get? b=AA o->H b=AD->(G1 s₁.heap H).get? b=AA o:=λe n=>b70 e n;have none_of:∀b o,s₁.heap.get? b=AA o->(∀xs n,o.data≠.seq xs n)->(∀xs,o.data≠.fields xs)->H b=AD:=λb o e n1 n2=>by
  cases q:H b with
  |none=>rfl
  |some u=>
   rcases Hc b u q with rfl|hb
   ·rw[ha]at e;cases e;exact absurd rfl (n1 _ _)
   ·rw[(hT b hb).1]at e;cases e;exact absurd rfl (n2 _)
 have nsK:∀{b:AI}{m:Str->Option AG},s₁.heap.Ns b m->(G1 s₁.heap H).Ns b m:=λ{b m}⟨o,es,ep,e,d,r⟩=>⟨o,es,ep,D2 e (none_of b o e (by rw[d];exact λ_ _=>nofun) (by rw[d];exact λ_=>nofun)),d,r⟩;have hKb:K.In (G1 s₁.heap H):=λb o e=>D2 (KX b o e) (by
  cases q:H b with
  |none=>rfl
  |some u=>
   rcases Hc b u q with rfl|hb
   ·rw[hKa]at e;cases e
   ·rw[hKt b hb]at e;cases e)
 have hBb:R9 mg (G1 s₁.heap H):=by
  obtain⟨bm,ob,b1,b2,b3,b4,b5,b6⟩:=hbm;exact⟨bm,ob,b1,b2,D2 b3 (none_of bm ob b3 (by rw[b6];exact λ_ _=>nofun) (by rw[b6];exact λ_=>nofun)),b4,b5,b6⟩
 have hM:Mod K mg (G1 s₁.heap H):=⟨hKb,nsK hns,⟨mb,nsK hb,hbb⟩,let⟨mc,h1,h2⟩:=hlim;⟨mc,nsK h1,h2⟩⟩;have e0:Env0 P w K mg (G1 s₁.heap H) Gq [] s₁ H:=⟨rfl,hM,λb o e=>cg6 e,Jd (b42 _ _),trivial,λb hb=>absurd (show b∈([]:List AI) from hb) ∎,hok,.of_eq hg⟩;refine GA ((F _ hKb (nsK hns) hBb).run Gq [] s₁ H ⟨[.ref a],[]⟩ [.ref a] [.ref a] _ _ hr e0 (hbind s₁ (.ref a)) (.cons rfl .nil) (hsp H Ht (.inl (.inr ⟨_,Ha⟩)))) λr s' h=>?_;cases r with
 |error e=>exact AZ h
 |ok fl=>
  cases fl with
  |next=>exact AZ h
  |brk=>exact AZ h
  |cont=>exact AZ h
  |ret u=>
   obtain⟨v,H',os,bare,un,hok',r',q⟩:=h;have q':v=.bl AC:=q;subst q';obtain rfl:u=Ft AC:=r';refine⟨rfl,⟨λb o e=>?_,λb o e=>un.there b o e ∎⟩,os,bare⟩;cases q:H b with
   |none=>exact .inl (un.keep b o e q (by intro z;exact absurd (show b∈([]:List AI) from z) ∎) ∎)
   |some u=>
    rcases Hc b u q with rfl|hb
    ·rw[Ha]at q;cases q;have z2:=un.frzs b _ _ Ha;obtain⟨e2,_⟩:=hok' b _ z2;rw[ha]at e;cases e;exact .inl e2
    ·obtain⟨t1,t2⟩:=hT b hb;rw[t1]at e;cases e;obtain⟨more,z⟩:=un.tbls b _ (Ht b hb);have e2:=hok' b _ z;exact .inr (.inl ⟨t2,rfl,#[],more,rfl,e2⟩)
def bx2 [Tbs]{K:AO}{h:BI}{a:AI}{o:Obj}(X:K.In h)(hn:Q4 K=AC)(e:h.get? a=AA o)(hc:o.cls=.type "list"):K.lookup a=AD:=by
 cases q:K.lookup a with
 |none=>rfl
 |some o'=>
  have:=X a o' q;rw[e]at this;cases this;exact absurd hc (au4 hn q)
def cm3{l:W.OpenLaw}{q:Aj}{loose:List Str}{XP:(Str->Option AG)->BI->Prop}{YP:BB->BI->Prop}{d:DefRec}{K:Params->AO}{P:i6}{G:Gs}{n:Nat}{x:Str}{dl:Def}{ts:List AI}
  (hn:l.most=AA 63) (hdf:d.params.defaults=[]) (hdn:d.name="law") (hr:Room n Gq) (hY:∀(w:BB)(h:BI),YP w h->(K w.params).In h/\∀P∈ts,h.get? P=AA (Gf #[])) (hl:P "law"=AA dl)
  (hst:∀st ps,Stat0 st dl ps->ps=[x])
  (F:∀(w:BB)(mg:Str->Option AG)(h:BI),(K w.params).In h->h.Ns AN mg->(letI:Tbs:=⟨ts,mFB,(G.cls "!kt").isEmpty⟩;AllOk l.prog w (K w.params) mg P G)/\Q4 (K w.params)=AC/\Hz (K w.params)=AC/\∀P∈ts,∃c,Bx (K w.params) c P=AC)
  (core:∀(a:AI)(ns:List Int),ns.length<=63->sem P G n "law" [.ref a] (st0 a ns) λd _=>d=.bl AC) :
  W.WalkO q loose XP YP l.row.toRowW d [] (λf vs=>PySem.call f vs):=by
 letI:Tbs:=⟨ts,mFB,(G.cls "!kt").isEmpty⟩
 refine Att.attach_call hn hdf λw s₀ s₁ mg mb fa o pm cd doc a vs ns GG Y ho hd hcd hmg hobj hints hlen hg=>?_;obtain⟨KX,hTs⟩:=hY w _ Y;obtain⟨hA,hNL,hNT,hC⟩:=F w mg _ KX GG.T.g;obtain⟨ad,fd,ps,Df,mf,_,hbd⟩:=(hA.fns "law" dl hl (by decide+kernel)).ex;obtain⟨st,y,Ff,Sf⟩:=Df.ex;have e:=hst st ps Sf;subst e;rw[hdn]at hmg;have ea:fa=ad:=by rw[hmg]at mf;cases mf;rfl
 subst ea;have hKa:(K w.params).lookup a=AD:=bx2 KX hNL hobj rfl;refine b35 (ts:=ts) (sp:=z8 (K w.params) (sem P G n "law")) KX GG.T.g GG.T.b GG.T.builtins GG.T.nolimit GG.T.bmain hg hobj hints (BC hlen ∅) hr (λP hP=>⟨hTs P hP,?_⟩) (λP hP=>?_) hKa (λbase hb hbg hbm=>(bi1 hA hbm hb (λ_ _ _ _=>Iff.rfl) n).fn n (AY _) "law" dl hl fa fd [x] Df) (λs u=>.of_eq (hbd [u] rfl)) (λH hH hS=>?_)
 ·obtain⟨c,hc⟩:=hC P hP;exact((Jy KX hc).tab (hTs P hP)).isCodeTable
 ·cases qq:(K w.params).lookup P with
  |none=>rfl
  |some o'=>
   have z:=KX P o' qq;rw[hTs P hP]at z;cases z;unfold Hz at hNT;rw[DZ]at hNT;exact absurd (hNT _ (W.mem_of_lookupK qq)) AH
 ·refine⟨[.ref a],st0 a ns,_,.cons (.ref a) .nil,⟨λb o e=>?_,λP hP=>⟨#[],hH P hP,trivial,λpos cv z=>by cases z⟩⟩,core a ns hlen,λv d' H' st' ev is rs q=>?_⟩
  ·unfold st0 at e
   split at e
   ·rename_i hb;cases e;subst hb
    rcases hS with hS|⟨ob,its,m,hk,hc,_⟩
    ·exact⟨_,hS,au7 ns⟩
    ·exact absurd hc (au4 hNL hk)
   ·cases e
  ·have q':d'=.bl AC:=q;subst q';cases is;rfl
abbrev cg7(P:AI)(o:Obj):Bool:=match o with
 |⟨.type "code",_,.fields vs,_⟩=>(match(vs[11]?:Option AG)with|some (.ref P')=>P'==P|_=>AE)
 |_=>AE
abbrev ar5(K:AO)(ts:List AI):Bool:=ts.all λP=>match K.find? λp=>cg7 P p.2 with
 |some p=>Bx K p.1 P
 |none=>AE
def cd8{K:AO}{ts:List AI}(h:ar5 K ts=AC):∀P∈ts,∃c,Bx K c P=AC:=λP hP=>by
 unfold ar5 at h;rw[DZ]at h;have:=h P hP
 split at this
 ·exact⟨_,this⟩
 ·cases this
abbrev aa8(K:AO)(cd:AG):Option (AI×AI):=match cd with
 |.ref c=>(match K.lookup c with
  |some ⟨_,_,.fields vs,_⟩=>(match(vs[11]?:Option AG)with|some (.ref P)=>AA (c,P)|_=>AD)
  |_=>AD)
 |_=>AD
def bi7{K:AO}{cd:AG}{c P:AI}{ts:List AI}(h:aa8 K cd=AA (c,P))(h2:Bx K c P=AC)(h3:ts.contains P=AC):∃c P,cd=.ref c/\Bx K c P=AC/\P∈ts:=by
 unfold aa8 at h
 split at h
 ·split at h
  ·split at h
   ·cases h;exact⟨_,_,rfl,h2,by simpa using h3⟩
   ·cases h
  ·cases h
 ·cases h
end Ek
namespace Ek
open PySem L2
def ag0(s:String):AV s=⟨(s.toList.map FG).toArray⟩:=by
 unfold AV;rw[cpsOfBytes_string]
def by7:∀(x y:Char),x.toNat=y.toNat->x=y:=λx y h=>Char.ext (UInt32.toNat_inj.mp h)
theorem at6:∀(a b:List Char),a.map FG=b.map FG->a=b
 |[],[],_=>rfl
 |[],_::_,h=>by simp at h
 |_::_,[],h=>by simp at h
 |x::a,y::b,h=>by
  simp only[Ah,Ae]at h;rw[by7 x y h.1,at6 a b h.2]
def l9{a b:String}:(AV a=AV b)=(a=b):=by
 refine propext ⟨λh=>?_,λh=>by rw[h]⟩;rw[ag0,ag0]at h;simp only[Str.mk.injEq]at h;have h':a.toList.map FG=b.toList.map FG:=by simpa using h
 exact String.toList_inj.mp (at6 _ _ h')
def C6(s:String):(D.str (AV s)).pure=AC:=by
 show Io (AV s)=AC;unfold Io;rw[ag0];simp only[List.all_toArray,List.all_map,DZ];intro c _;have h:=c.valid;simp only[UInt32.isValidChar,Nat.isValidChar]at h;simp only[Function.comp_apply,decide_eq_true_eq];show c.val.toNat<1114112;lia
variable{L:List AI}{st st':Sto}{a b c e v:E}{p:AI}{o u:Ob}{Q:DK}{f g:Str}{np i:Nat}{N:List Str}{es:Es}
abbrev Kp(L:List AI)(st st':Sto):Prop:=∀b o,b∉L->st b=AA o->st' b=AA o
def Kp.refl:Kp L st st:=λ_ _ _ h=>h
def Kp.trans{a b c:Sto}(x:Kp L a b)(y:Kp L b c):Kp L a c:=λd o n h=>y d o n (x d o n h)
def Kp.more{M:List AI}{a b:Sto}(x:Kp L a b)(s:∀d∈L,d∈M):Kp M a b:=λd o n h=>x d o (λz=>n (s d z)) h
def Kp.new(x:Kp L st st')(h:st' p=AD):Kp L st (b0 st' p o):=λd u n e=>by
 have e':=x d u n e;rw[C9 (λz=>by rw[z,h]at e';cases e')];exact e'
def Kp.put(x:Kp L st st')(h:p∈L):Kp L st (b0 st' p o):=λd u n e=>by
 rw[C9 (λz=>n (by rw[z];exact h))];exact x d u n e
def Kp.at'{b:AI}(x:Kp L st st')(h:st b=AA o)(n:b∉L):st' b=AA o:=x b o n h
def j6{a:AI}(h:st a=AA o)(hp:st p=AD):b0 st p u a=AA o:=by
 rw[C9 (λz=>by rw[z,hp]at h;cases h)];exact h
def j7{a:AI}(h:st a=AA o)(hp:st p=AD):a≠p:=λz=>by rw[z,hp]at h;cases h
def c8{a:AI}(h:st a=AA o)(n:a≠p):b0 st p u a=AA o:=by
 rw[C9 n];exact h
def N7{a:AI}:b0 (b0 st a o) a u=b0 st a u:=by
 funext b;unfold b0;split<;>rfl
abbrev p9(st:Sto)(a:AI):Prop:=∃l:List Int,st a=AA (.lst (l.map .int))
def p9.keep{b:AI}(h:p9 st b)(x:Kp L st st')(n:b∉L):p9 st' b:=let⟨l,e⟩:=h;⟨l,x.at' e n⟩
def p9.new{b:AI}(h:p9 st b)(hp:st p=AD):p9 (b0 st p u) b:=let⟨l,e⟩:=h;⟨l,j6 e hp⟩
def p9.ne{b:AI}(h:p9 st b)(hp:st p=AD):b≠p:=let⟨l,e⟩:=h;j7 e hp
abbrev j8(Q:DK):DEnds:={nx:=λ_ st'=>∃s2,Sub s2 st'/\Q .non s2,rt:=λd st'=>∃s2,Sub s2 st'/\Q d s2}
def c0{d:D}(h:Q d st):(j8 Q).rt d st:=⟨st,Sub.refl st,h⟩
def a68{env:i9}(h:Q .non st):(j8 Q).nx env st:=⟨st,Sub.refl st,h⟩
@[reducible]noncomputable def Zg(P:i6)(G:Gs)(n:Nat):Sg:=⟨λf=>(P f).isSome,sem P G n,G.tab,G.cls,(v4 P G n).2.1,λf=>(v4 P G n).2.2.1&&(P f).isSome,J8 P G n,G.cst⟩
def f9{P:i6}{G:Gs}{n:Nat}{fd:Def}{ds:List D}(hP:P f=AA fd)(hl:ds.length=fd.np)(env:i9)(he:aa3 fd ds=env)
  (h:g9 (Zg P G n) fd.body (j8 Q) env st):sem P G (n+1) f ds st Q:=by
 rw[cc6];exact⟨fd,hP,hl,by rw[he];exact h⟩
def L3{P:i6}{G:Gs}{n:Nat}{b:Ss}{cs ds:List D}(hl:ds.length=np)(env:i9)(he:L6 N ds cs=env)
  (h:g9 (Zg P G n) b (j8 Q) env st):J8 P G (n+1) np N b cs ds st Q:=by
 rw[b17];exact⟨hl,by rw[he];exact h⟩
section
variable {Z:Sg} {F:DEnds} {env:i9} 
def bf1{s:S}{r:Ss}:g9 Z (.cons s r) F env st=wpS Z s ⟨g9 Z r F,F.rt,F.bk,F.ct⟩ env st:=rfl
def bn8:g9 Z .nil F env st=F.nx env st:=rfl
def bk5:wpS Z (.set i e) F env st=wpE Z e env st λd st1=>F.nx (env.set i (AA d)) st1:=rfl
def bp9:wpS Z (.pre i) F env st=∀p,st p=AD->F.nx (env.set i (AA (.ref p))) (b0 st p (.dct [])):=rfl
def bc3{o i:E}:wpS Z (.iput o i v) F env st=wpE Z v env st λd st1=>wpE Z o env st1 λx st2=>wpE Z i env st2 λy st3=>ao7 x y d st3 λst4=>F.nx env st4:=rfl
def bd9{o i:E}:wpS Z (.dput o i v) F env st=wpE Z v env st λd st1=>wpE Z o env st1 λx st2=>wpE Z i env st2 λy st3=>ap2 x y d st3 λst4=>F.nx env st4:=rfl
def bm3{o i:E}:wpS Z (.put o i v) F env st=wpE Z v env st λd st1=>wpE Z o env st1 λx st2=>wpE Z i env st2 λy st3=>∃a j k ds,x=.ref a/\y=.int j/\st3 a=AA (.lst ds)/\ixN ds.length j=AA k/\F.nx env (b0 st3 a (.lst (ds.set k d))):=rfl
def bt0:wpS Z (.ex e) F env st=wpE Z e env st λ_ st1=>F.nx env st1:=rfl
def bm4{a b:Ss}:wpS Z (.iff c a b) F env st=wpE Z c env st λd st1=>∃k,d=.bl k/\if k=AC then g9 Z a F env st1 else g9 Z b F env st1:=rfl
def bl0:wpS Z (.ret e) F env st=wpE Z e env st F.rt:=rfl
def be1:wpS Z .retN F env st=F.rt .non st:=rfl
def bp3{t:Tg}{it:It}{b:Ss}:wpS Z (.for t it b) F env st=z5 Z it env st λitems chk st1=>t5 chk t (g9 Z b) F items env st1:=rfl
def bg8:wpS Z .cont F env st=F.ct env st:=rfl
def bh1:wpS Z .pass F env st=F.nx env st:=rfl
def bl1:wpE Z .non env st Q=Q .non st:=rfl
def bu3{b:Bool}:wpE Z (.bl b) env st Q=Q (.bl b) st:=rfl
def ao0{i:Int}:wpE Z (.int i) env st Q=Q (.int i) st:=rfl
def ao5{x:Str}:wpE Z (.str x) env st Q=Q (.str x) st:=rfl
def e_v:wpE Z (.v i) env st Q=∃d,env[i]?=AA (AA d)/\Q d st:=rfl
def bl7:wpE Z (.tup es) env st Q=t3 Z es env st λds st1=>Q (.tup ds) st1:=rfl
def bn0:wpE Z (.lst es) env st Q=t3 Z es env st λds st1=>∀p,st1 p=AD->Q (.ref p) (b0 st1 p (.lst ds)):=rfl
def bo9{o:EU}:wpE Z (.bin o a b) env st Q=wpE Z a env st λx st1=>wpE Z b env st1 λy st2=>A6 o x y st2 Q:=rfl
def bk8:wpE Z (.neg a) env st Q=wpE Z a env st λx st1=>∃i,x=.int i/\Q (.int (-i)) st1:=rfl
def bn2{o:De}:wpE Z (.cmp o a b) env st Q=wpE Z a env st λx st1=>wpE Z b env st1 λy st2=>o9 o x y st2 Q:=rfl
def br0:wpE Z (.isN a) env st Q=wpE Z a env st λx st1=>(x=.non/\Q (.bl AC) st1)\/(x≠.non/\Q (.bl AE) st1):=rfl
def bj9:wpE Z (.notN a) env st Q=wpE Z a env st λx st1=>(x=.non/\Q (.bl AE) st1)\/(x≠.non/\Q (.bl AC) st1):=rfl
def bq8:wpE Z (.and a b) env st Q=wpE Z a env st λx st1=>∃c,x=.bl c/\(if c=AC then wpE Z b env st1 Q else Q (.bl AE) st1):=rfl
def bt7:wpE Z (.or a b) env st Q=wpE Z a env st λx st1=>∃c,x=.bl c/\(if c=AC then Q (.bl AC) st1 else wpE Z b env st1 Q):=rfl
def bn7:wpE Z (.not a) env st Q=wpE Z a env st λx st1=>∃c,x=.bl c/\Q (.bl (!c)) st1:=rfl
def bl4:wpE Z (.ite c a b) env st Q=wpE Z c env st λx st1=>∃k,x=.bl k/\(if k=AC then wpE Z a env st1 Q else wpE Z b env st1 Q):=rfl
def bt2:wpE Z (.ix a b) env st Q=wpE Z a env st λx st1=>wpE Z b env st1 λy st2=>ixR x y st2 Q:=rfl
abbrev bnd(Z:Sg)(e:E)(env:i9)(st:Sto):(Option Int->Sto->Prop)->Prop:=if e.isNon=AC then λk=>k AD st else λk=>wpE Z e env st λd st'=>∃i,d=.int i/\k (AA i) st'
def a74{k:Option Int->Sto->Prop}:bnd Z .non env st k=k AD st:=rfl
def L0{k:Option Int->Sto->Prop}(h:e.isNon=AE):bnd Z e env st k=wpE Z e env st λd st'=>∃i,d=.int i/\k (AA i) st':=by
 unfold bnd;rw[h];rfl
def a87{i:Int}{k:Option Int->Sto->Prop}:bnd Z (.int i) env st k=k (AA i) st:=by
 rw[L0 rfl,ao0];exact propext ⟨λ⟨_,h,q⟩=>by cases h;exact q,λq=>⟨_,rfl,q⟩⟩
def bm5{lo hi:E}:wpE Z (.slw a lo hi) env st Q=wpE Z a env st λx st1=>bnd Z lo env st1 λl st2=>bnd Z hi env st2 λh st3=>ab9 x l h st3 Q:=rfl
def bs8{lo hi:E}:wpE Z (.sl a lo hi) env st Q=wpE Z a env st λx st1=>bnd Z lo env st1 λl st2=>bnd Z hi env st2 λh st3=>slR x l h st3 Q:=rfl
def bh3{ks:List Str}{vs:Es}{k:E}:wpE Z (.dsel ks vs k) env st Q=t3 Z vs env st λds st1=>wpE Z k env st1 λx st2=>∃w d,x=.str w/\o8 (ks.zip ds) w=AA d/\Q d st2:=rfl
def bf0{k:E}:wpE Z (.gsel g k) env st Q=(Z.G g≠[]/\wpE Z k env st λx st1=>∃w d,x=.str w/\o8 (Z.G g) w=AA d/\Q d st1):=rfl
def bn5:wpE Z (.len a) env st Q=wpE Z a env st λx st1=>O8 x st1 Q:=rfl
def bm6:wpE Z (.abs a) env st Q=wpE Z a env st λx st1=>∃i,x=.int i/\Q (.int (if i<0 then -i else i)) st1:=rfl
def a62:wpE Z (.toInt a) env st Q=wpE Z a env st λx st1=>V9 x st1 Q:=rfl
def bp6:wpE Z (.sum a) env st Q=wpE Z a env st λx st1=>ac0 x st1 Q:=rfl
def bg5:wpE Z (.list a) env st Q=wpE Z a env st λx st1=>aa9 x st1 Q:=rfl
def ba7:wpE Z (.tuple a) env st Q=wpE Z a env st λx st1=>Q6 x st1 Q:=rfl
def bq5:wpE Z (.max a b) env st Q=wpE Z a env st λx st1=>wpE Z b env st1 λy st2=>∃i j,x=.int i/\y=.int j/\Q (.int (if j>i then j else i)) st2:=rfl
def bg4:wpE Z (.call f es) env st Q=(Z.F f=AC/\t3 Z es env st λds st1=>Z.Phi f ds st1 Q):=rfl
def bv3:wpE Z (.gf f) env st Q=(Z.F f=AC/\Q (.fn f) st):=rfl
def bb0:wpE Z (.callx c es) env st Q=wpE Z c env st λx st1=>∃f,x=.fn f/\Z.F f=AC/\t3 Z es env st1 λds st2=>Z.Phi f ds st2 Q:=rfl
def bc7{k d:E}:wpE Z (.gget g k d) env st Q=(Z.G g≠[]/\wpE Z k env st λx st1=>wpE Z d env st1 λy st2=>∃w,x=.str w/\Q ((o8 (Z.G g) w).getD y) st2):=rfl
def bl8:wpE Z (.fld a f) env st Q=wpE Z a env st λx st1=>∃p c fs d,x=.ref p/\st1 p=AA (.ins c fs)/\f∈Z.C c/\fs.lookup f=AA d/\Q d st1:=rfl
def bi5{m:Str}:wpE Z (.meth a m es) env st Q=wpE Z a env st λx st1=>∃p c fs,x=.ref p/\st1 p=AA (.ins c fs)/\fs.lookup m=AD/\Z.F (c7 c m)=AC/\t3 Z es env st1 λds st2=>Z.Phi (c7 c m) (.ref p::ds) st2 Q:=rfl
def bg2{c:Str}:wpE Z (.make c es) env st Q=(Z.MF (c7 c "__init__")=AC/\t3 Z es env st λds st1=>∀p,st1 p=AD->Z.Mk (c7 c "__init__") (.ref p::ds) (b0 st1 p (.ins c [])) λv st2=>v=.non/\Q (.ref p) st2):=rfl
def bg0{o:E}:wpS Z (.fldS o f v) F env st=wpE Z v env st λd st1=>wpE Z o env st1 λx st2=>∃p c fs,x=.ref p/\st2 p=AA (.ins c fs)/\f∈Z.C c/\fs.length<1000/\F.nx env (b0 st2 p (.ins c (j9 f d fs))):=rfl
def bj7:wpS Z .dead F env st=False:=rfl
def a59:wpE Z (.callv i es) env st Q=∃x,env[i]?=AA (AA x)/\S6 Z (t3 Z es env) st Q x:=rfl
def bp8{ta:Sto->(List D->Sto->Prop)->Prop}:S6 Z ta st Q (.fn f)=(Z.F f=AC/\ta st λds st1=>Z.Phi f ds st1 Q):=rfl
def bh5{ta:Sto->(List D->Sto->Prop)->Prop}{b:Ss}{cs:List D}:S6 Z ta st Q (.clo np N b cs)=ta st λds st1=>Z.PhiC np N b cs ds st1 Q:=rfl
abbrev T9(env:i9):List Nat->(List D->Prop)->Prop
 |[],k=>k []
 |i::is,k=>∃d,env[i]?=AA (AA d)/\T9 env is λds=>k (d::ds)
def ay8{k:List D->Prop}:T9 env [] k=k []:=rfl
def ai0{is:List Nat}{k:List D->Prop}:T9 env (i::is) k=∃d,env[i]?=AA (AA d)/\T9 env is λds=>k (d::ds):=rfl
theorem ap5:∀{cp:List Nat}{k:List D->Prop},(∃cs,K7 env cp=AA cs/\k cs)=T9 env cp k
 |[],k=>propext ⟨λ⟨_,h,q⟩=>by cases h;exact q,λq=>⟨_,rfl,q⟩⟩
 |i::is,k=>by
  rw[ai0];refine propext ⟨λ⟨cs,h,q⟩=>?_,λ⟨d,hd,q⟩=>?_⟩
  ·unfold K7 at h
   split at h
   ·rename_i d ds h1 h2;cases h;exact⟨d,h1,(ap5 (k:=λds=>k (d::ds)))▸⟨ds,h2,q⟩⟩
   ·cases h
  ·rw[<-ap5]at q;obtain⟨ds,h2,q⟩:=q;exact⟨d::ds,by unfold K7;rw[hd,h2],q⟩
def bl5{cp:List Nat}{b:Ss}:wpS Z (.dfn i np N cp b) F env st=T9 env cp λcs=>F.nx (env.set i (AA (.clo np N b cs))) st:=ap5
def br7:wpE Z (.gc g) env st Q=∃i,Z.Kc g=AA i/\Q (.int i) st:=rfl
def bl6{t:String}:wpE Z (.isT t a) env st Q=wpE Z a env st λx st1=>ab2 t x st1 Q:=rfl
def bo8:wpE Z (.app a b) env st Q=wpE Z a env st λx st1=>C3 x st1/\wpE Z b env st1 λy st2=>U0 x y st2 Q:=rfl
def bp5:wpE Z (.ext a b) env st Q=wpE Z a env st λx st1=>C3 x st1/\wpE Z b env st1 λy st2=>T8 x y st2 Q:=rfl
def ba8:wpE Z (.popAt a b) env st Q=wpE Z a env st λx st1=>C3 x st1/\wpE Z b env st1 λy st2=>an1 x y st2 Q:=rfl
def bl9:wpE Z (.pop a) env st Q=wpE Z a env st λx st1=>X5 x st1 Q:=rfl
def a63{m:Str}:wpE Z (.methd a m es) env st Q=wpE Z a env st λx st1=>∃p c fs i,x=.ref p/\st1 p=AA (.ins c fs)/\fs.lookup m=AD/\Z.F (c7 c m)=AC/\B3 Z.C (c7 c m)=AA i/\t3 Z es env st1 λds st2=>Z.Phi (c7 c m) (.ref p::(ds++[.int i])) st2 Q:=rfl
def br1:wpE Z (.any a) env st Q=wpE Z a env st λx st1=>ap7 x st1 Q:=rfl
def bo6:wpE Z .dnt env st Q=(Z.C "!kt"≠[]/\∀p,st p=AD->Q (.ref p) (b0 st p (.dtt []))):=rfl
def bp0:wpE Z (.dgt a b) env st Q=wpE Z a env st λx st1=>ar0 x st1/\wpE Z b env st1 λy st2=>ap9 x y st2 Q:=rfl
def bk4{ne:Bool}:wpE Z (.din ne a b) env st Q=wpE Z a env st λx st1=>wpE Z b env st1 λy st2=>P1 ne x y st2 Q:=rfl
def bj4:wpE Z (.lrev a) env st Q=wpE Z a env st λx st1=>X4 x st1 Q:=rfl
def bb1:wpE Z (.index a b) env st Q=wpE Z a env st λx st1=>W9 x st1/\wpE Z b env st1 λy st2=>O2 x y st2 Q:=rfl
def bb8{Q:List D->Sto->Prop}:t3 Z .nil env st Q=Q [] st:=rfl
def a97{r:Es}{Q:List D->Sto->Prop}:t3 Z (.cons e r) env st Q=wpE Z e env st λd st1=>t3 Z r env st1 λds st2=>Q (d::ds) st2:=rfl
abbrev D7(Z:Sg)(c:E):DB:=if c.isNon=AC then λ_ st Q=>Q AC st else λenv st Q=>wpE Z c env st λd st'=>∃b,d=.bl b/\Q b st'
def be7{Nc:List Str}{fr:List Nat}{k:Nat}{t:Tg}{it:It}:wpE Z (.comp Nc fr k t it c e) env st Q=z5 Z it env st λitems chk st1=>items.length<=1000000/\v3 chk t (D7 Z c) (λenv st Q=>wpE Z e env st Q) (λacc st'=>∀p,st' p=AD->Q (.ref p) (b0 st' p (.lst acc))) items [] (N8 fr k env) st1:=rfl
variable {k:ItK}
def bq1:z5 Z (.seq e) env st k=wpE Z e env st λd st1=>(∃ds,d=.tup ds/\k ds (λ_=>True) st1)\/(∃a ds,d=.ref a/\rdS st1 a ds/\k ds (λst'=>rdS st' a ds) st1):=rfl
def bl2:z5 Z (.rng a) env st k=wpE Z a env st λd st1=>∃j:Int,d=.int j/\(-(2^62)<=j/\j<2^62)/\k (t4 0 j.toNat) (λ_=>True) st1:=rfl
def bf8:z5 Z (.rng2 a b) env st k=wpE Z a env st λd st1=>wpE Z b env st1 λe st2=>∃i j:Int,d=.int i/\e=.int j/\(-(2^62)<=i/\i<2^62/\-(2^62)<=j/\j<2^62)/\k (t4 i (j-i).toNat) (λ_=>True) st2:=rfl
def bf9:z5 Z (.revt e) env st k=wpE Z e env st λd st1=>∃ds,d=.tup ds/\k ds.reverse (λ_=>True) st1:=rfl
def bi8:z5 Z (.enum e) env st k=wpE Z e env st λd st1=>(∃ds,d=.tup ds/\k (o5 0 ds) (λ_=>True) st1)\/(∃a ds,d=.ref a/\rdS st1 a ds/\k (o5 0 ds) (λst'=>rdS st' a ds) st1):=rfl
def bo1:z5 Z (.rev e) env st k=wpE Z e env st λd st1=>∃a ds,d=.ref a/\rdS st1 a ds/\k ds.reverse (λst'=>rdS st' a ds) st1:=rfl
end
end Ek
namespace Ek
open PySem L2
variable{i:Int}{lo hi:Option Int}{chk:Sto->Prop}{env:i9}
section
variable {st:Sto} {Q:DK} {j:Int} {a p:AI} {ds es xs ys:List D} {x y d:D}
def bs9{a:D}{r:i9}{Q:D->Prop}:(∃d,(AA a::r)[0]?=AA (AA d)/\Q d)=Q a:=propext ⟨λ⟨_,h,q⟩=>by cases h;exact q,λq=>⟨a,rfl,q⟩⟩
def bt5{a:Option D}{r:i9}{i:Nat}{Q:D->Prop}:(∃d,(a::r)[i+1]?=AA (AA d)/\Q d)=∃d,r[i]?=AA (AA d)/\Q d:=by simp only[Gg]
def bt1{a:D}{Q:D->Prop}:(∃d,AA (AA a)=AA (AA d)/\Q d)=Q a:=propext ⟨λ⟨_,h,q⟩=>by cases h;exact q,λq=>⟨a,rfl,q⟩⟩
def bp7{Q:Int->Prop}:(∃d,D.int i=.int d/\Q d)=Q i:=propext ⟨λ⟨_,h,q⟩=>by cases h;exact q,λq=>⟨i,rfl,q⟩⟩
def br3{i:Bool}{Q:Bool->Prop}:(∃d,D.bl i=.bl d/\Q d)=Q i:=propext ⟨λ⟨_,h,q⟩=>by cases h;exact q,λq=>⟨i,rfl,q⟩⟩
def bm1{Q:List D->Prop}:(∃d,D.tup ds=.tup d/\Q d)=Q ds:=propext ⟨λ⟨_,h,q⟩=>by cases h;exact q,λq=>⟨_,rfl,q⟩⟩
def bc8{α:Type}{a:α}{Q:α->Prop}:(∃d,AA a=AA d/\Q d)=Q a:=propext ⟨λ⟨_,h,q⟩=>by cases h;exact q,λq=>⟨a,rfl,q⟩⟩
def bn9{i:Str}{l:List (Str×D)}{Q:D->Prop}:(∃w d,D.str i=.str w/\o8 l w=AA d/\Q d)=(∃d,o8 l i=AA d/\Q d):=propext ⟨λ⟨_,d,h,e,q⟩=>by cases h;exact⟨d,e,q⟩,λ⟨d,e,q⟩=>⟨_,d,rfl,e,q⟩⟩
def bd8{j:Int}{Q:Int->Int->Prop}:(∃a b,D.int i=.int a/\D.int j=.int b/\Q a b)=Q i j:=propext ⟨λ⟨_,_,h,h',q⟩=>by cases h;cases h';exact q,λq=>⟨_,_,rfl,rfl,q⟩⟩
def bi9:A6 .Add (.int i) (.int j) st Q=Q (.int (i+j)) st:=rfl
def be2:A6 .Add (.tup xs) (.tup ys) st Q=(xs.length+ys.length<=sizeLine/\Q (.tup (xs++ys)) st):=rfl
def be9:A6 .Sub (.int i) (.int j) st Q=Q (.int (i-j)) st:=rfl
def bj5:A6 .Mult (.int i) (.int j) st Q=(O5 i j/\Q (.int (i*j)) st):=rfl
def am8:A6 .Mod (.int i) (.int j) st Q=(0<j/\Q (.int (i % j)) st):=rfl
def bi3:A6 .FloorDiv (.int i) (.int j) st Q=(ao3 i j/\Q (.int (i / j)) st):=rfl
def bg7:A6 .Pow (.int i) (.int j) st Q=(ar2 i j/\Q (.int (i^j.toNat)) st):=rfl
def Z7:deq (.int i) (.int j)=AB (i=j):=by
 unfold deq D.py Ar;exact Fn.mpr ∎
def u5{x y:Str}:deq (.str x) (.str y)=AB (x=y):=by
 unfold deq D.py Ar;exact Fn.mpr ∎
abbrev t0:List D->List D->Bool
 |[],[]=>AC
 |x::xs,y::ys=>deq x y&&t0 xs ys
 |_,_=>AE
theorem a58:∀xs ys:List D,Cf (D.pys xs) (D.pys ys)=t0 xs ys
 |[],[]=>rfl
 |[],_::_=>rfl
 |_::_,[]=>rfl
 |x::xs,y::ys=>by show(Ar x.py y.py&&Cf (D.pys xs) (D.pys ys))=_;rw[a58 xs ys];rfl
def w8:deq (.tup xs) (.tup ys)=t0 xs ys:=by
 show Ar (.tuple (D.pys xs)) (.tuple (D.pys ys))=_;rw[Ar,a58]
def O3:l5 (.int i)=0:=rfl
def l8{x:Str}:l5 (.str x)=0:=rfl
def bp2:o9 .Eq (.int i) (.int j) st Q=Q (.bl (AB (i=j))) st:=by
 show(_/\_/\_/\_)=_;rw[Z7];exact propext ⟨λh=>h.2.2.2,λh=>⟨rfl,rfl,by rw[O3,O3];exact BV _,h⟩⟩
def ab1:o9 .NotEq (.int i) (.int j) st Q=Q (.bl (!decide (i=j))) st:=by
 show(_/\_/\_/\_)=_;rw[Z7];exact propext ⟨λh=>h.2.2.2,λh=>⟨rfl,rfl,by rw[O3,O3];exact BV _,h⟩⟩
def aa7{x y:String}:o9 .Eq (.str (AV x)) (.str (AV y)) st Q=Q (.bl (AB (x=y))) st:=by
 show(_/\_/\_/\_)=_;simp only[u5,l9];exact propext ⟨λh=>h.2.2.2,λh=>⟨C6 _,C6 _,by rw[l8,l8];exact BV _,h⟩⟩
def S8{x y:String}:o9 .NotEq (.str (AV x)) (.str (AV y)) st Q=Q (.bl (!decide (x=y))) st:=by
 show(_/\_/\_/\_)=_;simp only[u5,l9];exact propext ⟨λh=>h.2.2.2,λh=>⟨C6 _,C6 _,by rw[l8,l8];exact BV _,h⟩⟩
def ao9:o9 .Eq x y st Q=(x.pure=AC/\y.pure=AC/\DM (l5 x) (l5 y)<=150/\Q (.bl (deq x y)) st):=by cases x<;>cases y<;>rfl
def W3:o9 .NotEq x y st Q=(x.pure=AC/\y.pure=AC/\DM (l5 x) (l5 y)<=150/\Q (.bl (!deq x y)) st):=by cases x<;>cases y<;>rfl
def bo5:o9 .Lt (.int i) (.int j) st Q=Q (.bl (AB (i<j))) st:=rfl
def bq4:o9 .LtE (.int i) (.int j) st Q=Q (.bl (AB (i<=j))) st:=rfl
def bn4:o9 .Gt (.int i) (.int j) st Q=Q (.bl (AB (j<i))) st:=rfl
def bq3:o9 .GtE (.int i) (.int j) st Q=Q (.bl (AB (j<=i))) st:=rfl
def ar3:o9 .In x (.tup ys) st Q=(x.pure=AC/\D.pures ys=AC/\l5 x<=150/\Q (.bl (ys.any λy=>deq y x)) st):=rfl
def ap6{ns:List Int}:o9 .In (.int i) (.ktup ns) st Q=Q (.bl (AB (i∈ns))) st:=rfl
def bm0:o9 .NotIn x (.tup ys) st Q=(x.pure=AC/\D.pures ys=AC/\l5 x<=150/\Q (.bl (!ys.any λy=>deq y x)) st):=rfl
def bs1:ixR (.tup ds) (.int i) st Q=∃d,atI ds i=AA d/\Q d st:=rfl
def c68:ixR (.ref a) (.int i) st Q=((∃ds d,rdS st a ds/\atI ds i=AA d/\Q d st)\/∃kvs d,st a=AA (.dct kvs)/\B0 kvs (.inl i)=AA d/\Q d st):=rfl
def cq1{kvs:List (Key×D)}(h:rdS st a ds)(h':st a=AA (.dct kvs)):False:=by rcases h with h|h<;>rw[h]at h'<;>cases h'
def Z9(h:rdS st a xs)(h':rdS st a ys):xs=ys:=by
 rcases h with h|h<;>rcases h' with h'|h'<;>rw[h]at h'<;>cases h'<;>rfl
def l6(h:rdS st a ds):ixR (.ref a) (.int i) st Q=∃d,atI ds i=AA d/\Q d st:=by
 rw[c68];exact propext ⟨λz=>z.elim (λ⟨es,d,r,q⟩=>by rw[Z9 h r];exact⟨d,q⟩) (λ⟨_,_,e,_⟩=>(cq1 h e).elim),λ⟨d,q⟩=>.inl ⟨ds,d,h,q⟩⟩
def M4:rdS (b0 st p (.lst ds)) p ds:=.inl c9
def bk2:ixR (.ref p) (.int i) (b0 st p (.lst ds)) Q=∃d,atI ds i=AA d/\Q d (b0 st p (.lst ds)):=l6 M4
def ac2{α:Type}{xs:List α}:atI xs 0=xs[0]?:=by
 unfold atI ixN;simp only[Jz,if_true];split
 ·rfl
 ·rename_i h;rw[Bf ⋯];rfl
def B7{α:Type}{xs:List α}{k:Nat}:atI xs (k:Int)=xs[k]?:=by
 unfold atI ixN;rw[if_pos ⋯];split
 ·rw[Cu];rfl
 ·rename_i h;rw[Bf ⋯];rfl
def bt4{α:Type}{xs:List α}:atI xs 1=xs[1]?:=B7 (k:=1)
def bu7{α:Type}{xs:List α}:atI xs 2=xs[2]?:=B7 (k:=2)
def bu2{α:Type}{xs:List α}:atI xs 3=xs[3]?:=B7 (k:=3)
def bn3:ab9 (.tup ds) lo hi st Q=Q (.tup (r9 ds lo hi)) st:=rfl
def br2:slR (.tup ds) lo hi st Q=(¬(HT.sIx ds.length 0 lo=0/\HT.sIx ds.length ds.length hi=ds.length)/\Q (.tup (r9 ds lo hi)) st):=rfl
def ar1(h:rdS st a ds):slR (.ref a) lo hi st Q=∀p,st p=AD->Q (.ref p) (b0 st p (.lst (r9 ds lo hi))):=by
 show(∃ds,rdS st a ds/\_)=_;exact propext ⟨λ⟨es,r,q⟩=>by rw[Z9 h r];exact q,λq=>⟨ds,h,q⟩⟩
def bo3:O8 (.tup ds) st Q=Q (.int ds.length) st:=rfl
def u0(h:rdS st a ds):O8 (.ref a) st Q=Q (.int ds.length) st:=by
 show(∃ds,rdS st a ds/\_)=_;exact propext ⟨λ⟨es,r,q⟩=>by rw[Z9 h r];exact q,λq=>⟨ds,h,q⟩⟩
def bh6:O8 (.ref p) (b0 st p (.lst ds)) Q=Q (.int ds.length) (b0 st p (.lst ds)):=u0 M4
def bp4{b:Bool}:V9 (.bl b) st Q=Q (.int (if b then 1 else 0)) st:=rfl
def bk9:V9 (.int i) st Q=Q (.int i) st:=rfl
def bb6:aa9 (.tup ds) st Q=∀p,st p=AD->Q (.ref p) (b0 st p (.lst ds)):=rfl
def a72:Q6 (.tup ds) st Q=Q (.tup ds) st:=rfl
def ak2(h:rdS st a ds):Q6 (.ref a) st Q=Q (.tup ds) st:=by
 show(∃ds,rdS st a ds/\_)=_;exact propext ⟨λ⟨es,r,q⟩=>by rw[Z9 h r];exact q,λq=>⟨ds,h,q⟩⟩
def ay4:Q6 (.ref p) (b0 st p (.lst ds)) Q=Q (.tup ds) (b0 st p (.lst ds)):=ak2 M4
def cy4(h:rdS st a ds):a73 (.ref a) st Q=Q (.bl AC) st:=by
 show(∃ds,rdS st a ds/\_)=_;exact propext ⟨λ⟨es,r,q⟩=>q,λq=>⟨ds,h,q⟩⟩
def bg1:a73 (.ref p) (b0 st p (.lst ds)) Q=Q (.bl AC) (b0 st p (.lst ds)):=cy4 M4
def c18{ns:List Int}(h:rdS st a (ns.map D.int))(q:Q (.int ns.sum) st):ac0 (.ref a) st Q:=⟨ns,h,q⟩
def y0(h:rdS st a ds):C3 (.ref a) st=True:=propext ⟨λ_=>trivial,λ_=>⟨ds,h⟩⟩
def a92:C3 (.ref p) (b0 st p (.lst ds))=True:=y0 M4
def bf7:W9 (.tup ds) st=True:=rfl
def B2(h:st a=AA (.lst ds)):U0 (.ref a) d st Q=(ds.length<sizeLine/\Q .non (b0 st a (.lst (ds++[d])))):=by
 show(∃ds,st a=AA (.lst ds)/\_)=_;exact propext ⟨λ⟨es,r,q⟩=>by rw[h]at r;cases r;exact q,λq=>⟨ds,h,q⟩⟩
def bo2{b:AI}(h:st a=AA (.lst ds))(h':st b=AA (.lst es)):T8 (.ref a) (.ref b) st Q=(ds.length+es.length<=sizeLine/\Q .non (b0 st a (.lst (ds++es)))):=by
 show(∃ds es,st a=AA (.lst ds)/\st b=AA (.lst es)/\_)=_;exact propext ⟨λ⟨_,_,r,r',q⟩=>by rw[h]at r;rw[h']at r';cases r;cases r';exact q,λq=>⟨ds,es,h,h',q⟩⟩
def ce9{t:Tg}{tb:DS}{F:DEnds}:t5 chk t tb F [] env st=(chk st/\F.nx env st):=by rw[t5]
def b95{t:Tg}{tb:DS}{F:DEnds}:t5 chk t tb F (d::ds) env st=(chk st/\J5 t d env λenv'=>tb {F with nx:=t5 chk t tb F ds,ct:=t5 chk t tb F ds,bk:=F.nx} env' st):=by rw[t5]
def an4{k:Nat}{K:i9->Prop}:J5 (.n k) d env K=K (env.set k (AA d)):=rfl
def bj0{is:List Nat}{K:i9->Prop}:J5 (.tup is) (.tup ds) env K=(ds.length=is.length/\K (O1 env is ds)):=by
 show(∃es,D.tup ds=.tup es/\_)=_;exact propext ⟨λ⟨es,r,q⟩=>by cases r;exact q,λq=>⟨ds,rfl,q⟩⟩
def as2{k:Nat}{is:List Nat}:O1 env (k::is) (d::ds)=O1 (env.set k (AA d)) is ds:=rfl
def at2:O1 env [] []=env:=rfl
def a56{t:Tg}{tc:DB}{te:DT}{R:List D->Sto->Prop}{acc:List D}:v3 chk t tc te R [] acc env st=(chk st/\R acc st):=by rw[v3]
def av5{t:Tg}{tc:DB}{te:DT}{R:List D->Sto->Prop}{acc:List D}:v3 chk t tc te R (d::ds) acc env st=(chk st/\J5 t d env λenv'=>tc env' st λb st1=>if b=AC then te env' st1 λv st2=>v3 chk t tc te R ds (acc++[v]) env' st2 else v3 chk t tc te R ds acc env' st1):=by rw[v3]
def bm7{k:ItK}:((∃es,D.tup ds=.tup es/\k es (λ_=>True) st)\/(∃a es,D.tup ds=.ref a/\rdS st a es/\k es (λst'=>rdS st' a es) st))=k ds (λ_=>True) st:=
 propext ⟨(λh=>by
  rcases h with⟨es,r,q⟩|⟨a,es,r,_⟩
  ·cases r;exact q
  ·cases r),λq=>.inl ⟨ds,rfl,q⟩⟩
def bg6{k:ItK}:((∃es,D.tup ds=.tup es/\k (o5 0 es) (λ_=>True) st)\/(∃a es,D.tup ds=.ref a/\rdS st a es/\k (o5 0 es) (λst'=>rdS st' a es) st))=k (o5 0 ds) (λ_=>True) st:=
 propext ⟨(λh=>by
  rcases h with⟨es,r,q⟩|⟨a,es,r,_⟩
  ·cases r;exact q
  ·cases r),λq=>.inl ⟨ds,rfl,q⟩⟩
end
end Ek
namespace Ek
open PySem L2
theorem C8{chk:Sto->Prop}{t:Tg}{tb:DS}{F:DEnds}(I:List D->i9->Sto->Prop)(h0:∀env st,I [] env st->chk st/\F.nx env st)
  (h1:∀d ds env st,(∀env st,I ds env st->t5 chk t tb F ds env st)->I (d::ds) env st->chk st/\J5 t d env λenv'=>tb {F with nx:=t5 chk t tb F ds,ct:=t5 chk t tb F ds,bk:=F.nx} env' st):∀ds env st,I ds env st->t5 chk t tb F ds env st
 |[],env,st,h=>by rw[ce9];exact h0 env st h
 |d::ds,env,st,h=>by rw[b95];exact h1 d ds env st (C8 I h0 h1 ds) h
theorem G7{chk:Sto->Prop}{t:Tg}{tc:DB}{te:DT}{R:List D->Sto->Prop}(I:List D->List D->i9->Sto->Prop)(h0:∀acc env st,I [] acc env st->chk st/\R acc st)
  (h1:∀d ds acc env st,(∀acc env st,I ds acc env st->v3 chk t tc te R ds acc env st)->I (d::ds) acc env st->chk st/\J5 t d env λenv'=>tc env' st λb st1=>if b=AC then te env' st1 λv st2=>v3 chk t tc te R ds (acc++[v]) env' st2 else v3 chk t tc te R ds acc env' st1):∀ds acc env st,I ds acc env st->v3 chk t tc te R ds acc env st
 |[],acc,env,st,h=>by rw[a56];exact h0 acc env st h
 |d::ds,acc,env,st,h=>by rw[av5];exact h1 d ds acc env st (G7 I h0 h1 ds) h
def a85{Z:Sg}{env:i9}{st:Sto}{K:Bool->Sto->Prop}:D7 Z .non env st K=K AC st:=rfl
def U7{Z:Sg}{c:E}{env:i9}{st:Sto}{K:Bool->Sto->Prop}(h:c.isNon=AE):D7 Z c env st K=wpE Z c env st λd st'=>∃b,d=.bl b/\K b st':=by unfold D7;rw[h];rfl
def aa2{i j:Int}(h:-(2^64)<j/\j<2^64):O5 i j:=.inl (.inr h)
def Q7{i j:Int}(h:-(2^64)<i/\i<2^64):O5 i j:=.inl (.inl h)
def B8{n:Nat}(h:n<=16000000):n<=sizeLine:=BC h ∅
def A7{n:Nat}(h:n<16000000):n<sizeLine:=An h ∅
end Ek
namespace Ek
abbrev Ss.drop:Nat->Ss->Ss
 |0,s=>s
 |_+1,.nil=>.nil
 |k+1,.cons _ r=>Ss.drop k r
def bs4{ds:List D}{R:PySem.Addr->List D->Prop}:(∃a es,D.tup ds=.ref a/\R a es)=False:=propext ⟨λ⟨_,_,h,_⟩=>(by cases h),AZ⟩
def bv1{a:PySem.Addr}{R:List D->Prop}:(∃es,D.ref a=.tup es/\R es)=False:=propext ⟨λ⟨_,h,_⟩=>(by cases h),AZ⟩
def bu8{a:PySem.Addr}{R:PySem.Addr->List D->Prop}:(∃b es,D.ref a=.ref b/\R b es)=∃es,R a es:=propext ⟨λ⟨_,es,h,q⟩=>by cases h;exact⟨es,q⟩,λ⟨es,q⟩=>⟨a,es,rfl,q⟩⟩
end Ek
namespace Ek
open PySem L2
section
variable {Z:Sg} {env:i9} {st:Sto} {k:Option Int->Sto->Prop} {K:Bool->Sto->Prop} {a b:E}
def a93{o:EU}:bnd Z (.bin o a b) env st k=wpE Z (.bin o a b) env st λd st'=>∃i,d=.int i/\k (AA i) st':=L0 rfl
def bn6{j:Nat}:bnd Z (.v j) env st k=wpE Z (.v j) env st λd st'=>∃i,d=.int i/\k (AA i) st':=L0 rfl
def ay5{g:Str}:bnd Z (.gsel g a) env st k=wpE Z (.gsel g a) env st λd st'=>∃i,d=.int i/\k (AA i) st':=L0 rfl
def a86:bnd Z (.len a) env st k=wpE Z (.len a) env st λd st'=>∃i,d=.int i/\k (AA i) st':=L0 rfl
def a61:bnd Z (.neg a) env st k=wpE Z (.neg a) env st λd st'=>∃i,d=.int i/\k (AA i) st':=L0 rfl
def bi0:bnd Z (.ix a b) env st k=wpE Z (.ix a b) env st λd st'=>∃i,d=.int i/\k (AA i) st':=L0 rfl
def a05{f:Str}{es:Es}:bnd Z (.call f es) env st k=wpE Z (.call f es) env st λd st'=>∃i,d=.int i/\k (AA i) st':=L0 rfl
def a90{o:De}:D7 Z (.cmp o a b) env st K=wpE Z (.cmp o a b) env st λd st'=>∃b,d=.bl b/\K b st':=U7 rfl
def a79:D7 Z (.and a b) env st K=wpE Z (.and a b) env st λd st'=>∃b,d=.bl b/\K b st':=U7 rfl
def bb5:D7 Z (.or a b) env st K=wpE Z (.or a b) env st λd st'=>∃b,d=.bl b/\K b st':=U7 rfl
def a81:D7 Z (.not a) env st K=wpE Z (.not a) env st λd st'=>∃b,d=.bl b/\K b st':=U7 rfl
def ax9{f:Str}{es:Es}:D7 Z (.call f es) env st K=wpE Z (.call f es) env st λd st'=>∃b,d=.bl b/\K b st':=U7 rfl
end
def ck9{n d:Nat}:HT.sIx n d AD=d:=rfl
def cp3{n d k:Nat}:HT.sIx n d (AA (k:Int))=min k n:=by
 show(if(k:Int)<0 then((k:Int)+(n:Int)).toNat else min (k:Int).toNat n)=min k n;rw[if_neg ⋯,Cu]
def ct9{ds:List D}{k:Nat}:r9 ds AD (AA (k:Int))=ds.take k:=by
 unfold r9;rw[ck9,cp3,GV,IV]
 by_cases h:k<=ds.length
 ·rw[Gc h]
 ·rw[Nat.min_eq_right ⋯,Cc (AY _),Cc ⋯]
variable{st:Sto}{a:AI}{ds:List D}{Q:DK}
def cy9{es:List D}(h:st a=AA (.lst ds)):T8 (.ref a) (.tup es) st Q=(ds.length+es.length<=sizeLine/\Q .non (b0 st a (.lst (ds++es)))):=by
 show(∃ds,st a=AA (.lst ds)/\_)=_;exact propext ⟨λ⟨_,r,q⟩=>by rw[h]at r;cases r;exact q,λq=>⟨ds,h,q⟩⟩
def c53{t:String}{d:D}{ty:String}(h:tyD d st=AA ty)(q:Q (.bl (ty==t||(ty=="bool"&&t=="int"))) st):ab2 t d st Q:=.inl ⟨ty,h,q⟩
def a98{Z:Sg}{F:DEnds}{env:i9}{c:E}{b:Ss}:wpS Z (.while c b) F env st=∃n,y3 (wpT Z c) (g9 Z b) F n env st:=rfl
def cg8{Z:Sg}{e:E}{env:i9}{K:Bool->Sto->Prop}:wpT Z e env st K=wpE Z e env st λd st'=>∃b,d=.bl b/\K b st':=rfl
def b38{tc:DB}{tb:DS}{F:DEnds}(I:Nat->i9->Sto->Prop)(step:∀m env st(W:i9->Sto->Prop),I m env st->(∀m' env' st',m'<m->I m' env' st'->W env' st')->tc env st λb st1=>if b=AC then tb {F with nx:=W,ct:=W,bk:=F.nx} env st1 else F.nx env st1):∀m env st,I m env st->∃n,y3 tc tb F n env st:=by
 have main:∀k m env st,m<=k->I m env st->y3 tc tb F (k+1) env st:=by
  intro k
  induction k with
  |zero=>
   intro m env st hm hI;rw[y3];exact step m env st _ hI λm' env' st' hlt _=>by lia
  |succ k ih=>
   intro m env st hm hI;rw[y3];exact step m env st _ hI λm' env' st' hlt hI'=>ih m' env' st' ⋯ hI'
 exact λm env st hI=>⟨m+1,main m m env st (AY _) hI⟩
def W8{d:D}(h:st a=AA (.lst (ds++[d]))):X5 (.ref a) st Q=Q d (b0 st a (.lst ds)):=by
 show(∃ds d,st a=AA (.lst (ds++[d]))/\_)=_;refine propext ⟨λ z49=>?_,λq=>⟨ds,d,h,q⟩⟩;obtain⟨es,e,r,q⟩:=z49;rw[h]at r;simp only[Bs,Ob.lst.injEq]at r;obtain⟨r1,r2⟩:=List.append_inj' r rfl;cases r2;rw[r1];exact q
def cy5(h:st a=AA (.lst ds)):X4 (.ref a) st Q=Q .non (b0 st a (.lst ds.reverse)):=by
 show(∃ds,st a=AA (.lst ds)/\_)=_;exact propext ⟨λ⟨_,r,q⟩=>by rw[h]at r;cases r;exact q,λq=>⟨ds,h,q⟩⟩
def bu6{f:Str}{Q:Str->Prop}:(∃g,AA (AA (D.fn f))=AA (AA (.fn g))/\Q g)=Q f:=propext ⟨λ⟨_,h,q⟩=>by cases h;exact q,λq=>⟨f,rfl,q⟩⟩
end Ek
namespace Ek
open PySem L2
variable{x:String}
section
variable {Z:Sg} {F:DEnds} {env:i9} {st:Sto} {Q:DK} {a b c e:D} {l:List D} {A B:Prop} {i:Nat} {s:S} {t u:Ss}
def ab6{n:Nat}{k:Int}(e:k=n)(h:l[n]?=AA a):ixR (.tup l) (.int k) st Q=Q a st:=by
 subst e;exact propext ⟨λ⟨_,h',q⟩=>by rw[B7,h]at h';cases h';exact q,λq=>⟨a,by rw[B7];exact h,q⟩⟩
def bu5:ixR (.tup (a::l)) (.int 0) st Q=Q a st:=ab6 (n:=0) rfl rfl
def br6:ixR (.tup (b::a::l)) (.int 1) st Q=Q a st:=ab6 (n:=1) rfl rfl
def bu0:ixR (.tup (b::c::a::l)) (.int 2) st Q=Q a st:=ab6 (n:=2) rfl rfl
def bu1:ixR (.tup (b::c::e::a::l)) (.int 3) st Q=Q a st:=ab6 (n:=3) rfl rfl
def bt8:(∃k,D.bl AC=.bl k/\if k=AC then A else B)=A:=propext ⟨λ⟨_,h,q⟩=>by cases h;exact q,λq=>⟨_,rfl,q⟩⟩
def bt9:(∃k,D.bl AE=.bl k/\if k=AC then A else B)=B:=propext ⟨λ⟨_,h,q⟩=>by cases h;exact q,λq=>⟨_,rfl,q⟩⟩
def bm2:o9 .Eq (.str (AV x)) (.str (AV x)) st Q=Q (.bl AC) st:=by rw[aa7,decide_eq_true rfl]
def ap3{y:String}(h:AB (x=y)=AE):o9 .Eq (.str (AV x)) (.str (AV y)) st Q=Q (.bl AE) st:=by rw[aa7,h]
def bq0:o9 .NotEq (.str (AV x)) (.str (AV x)) st Q=Q (.bl AE) st:=by rw[S8,decide_eq_true rfl];rfl
def bk7{y:String}(h:AB (x=y)=AE):o9 .NotEq (.str (AV x)) (.str (AV y)) st Q=Q (.bl AC) st:=by rw[S8,h];rfl
def bv2(h:wpS Z s ⟨g9 Z t F,F.rt,F.bk,F.ct⟩ env st):g9 Z (.cons s t) F env st:=h
def sk1{w s:String}(h:env[i]?=AA (AA (.str (AV w))))(e:w≠s)(q:g9 Z t F env st):g9 Z (.cons (.iff (.cmp .Eq (.v i) (.str (AV s))) u .nil) t) F env st:=by
 refine⟨_,h,?_⟩;simp only[ao5];rw[ap3 (decide_eq_false e)];exact⟨_,rfl,q⟩
end
end Ek
namespace Ek
open PySem L2
variable{m:Nat}
inductive Kd where
 |non|one|eith (a b:Kd)|both (a b:Kd)|way (a b:Kd)
 deriving DecidableEq
abbrev Kd.d:Kd->D
 |.non=>.tup [.str "none"]
 |.one=>.tup [.str "one"]
 |.eith a b=>.tup [.str "either",a.d,b.d]
 |.both a b=>.tup [.str "both",a.d,b.d]
 |.way a b=>.tup [.str "way",a.d,b.d]
abbrev Kd.cnt:Kd->Nat
 |.non=>0|.one=>1
 |.eith a b=>a.cnt+b.cnt
 |.both a b=>a.cnt*b.cnt
 |.way a b=>b.cnt^a.cnt
abbrev Kd.nest:Kd->Nat
 |.non=>0|.one=>0
 |.eith a b=>1+max a.nest b.nest
 |.both a b=>1+max a.nest b.nest
 |.way a b=>1+max a.nest b.nest
abbrev Kd.bd(m:Nat):Kd->Prop
 |.non=>True|.one=>1<=m
 |.eith a b=>a.bd m/\b.bd m/\a.cnt+b.cnt<=m
 |.both a b=>a.bd m/\b.bd m/\a.cnt*b.cnt<=m
 |.way a b=>a.bd m/\b.bd m/\b.cnt^a.cnt<=m
def Kd.bd_le:∀{k:Kd},k.bd m->k.cnt<=m
 |.non,_=>BV _
 |.one,h=>h
 |.eith _ _,h=>h.2.2
 |.both _ _,h=>h.2.2
 |.way _ _,h=>h.2.2
theorem Kd.bd_mono{m':Nat}(hm:m<=m'):∀{k:Kd},k.bd m->k.bd m'
 |.non,_=>trivial
 |.one,h=>BC h hm
 |.eith _ _,h=>⟨bd_mono hm h.1,bd_mono hm h.2.1,BC h.2.2 hm⟩
 |.both _ _,h=>⟨bd_mono hm h.1,bd_mono hm h.2.1,BC h.2.2 hm⟩
 |.way _ _,h=>⟨bd_mono hm h.1,bd_mono hm h.2.1,BC h.2.2 hm⟩
def W0{k:Kd}(h:k.bd m):∀a b,k=.eith a b\/k=.both a b\/k=.way a b->a.bd m/\b.bd m:=λa b e=>by
 rcases e with e|e|e<;>(subst e;exact⟨h.1,h.2.1⟩)
abbrev Kd.good:Kd->Prop
 |.non=>False|.one=>True
 |.eith a b=>(a.good/\b.good)\/(a=.non/\b.good)\/(a.good/\b=.non)
 |.both a b=>a.good/\b.good
 |.way a b=>(a.good\/a=.non)/\b.good/\a.cnt<=6
theorem Kd.good_pos:∀{k:Kd},k.good->0<k.cnt
 |.one,_=>Nat.one_pos
 |.eith a b,h=>by
  show 0<a.cnt+b.cnt
  rcases h with h|h|h
  ·have:=good_pos h.1;lia
  ·have:=good_pos h.2;lia
  ·have:=good_pos h.1;lia
 |.both a b,h=>Nat.mul_pos (good_pos h.1) (good_pos h.2)
 |.way a b,h=>pow_pos (good_pos h.2.1)
def F6:∀a b:Kd,deq a.d b.d=AB (a=b):=by
 intro a
 induction a with
 |non=>intro b;cases b<;>simp[Kd.d,w8,t0,u5,l9]
 |one=>intro b;cases b<;>simp[Kd.d,w8,t0,u5,l9]
 |eith a c iha ihc=>intro b;cases b<;>simp[Kd.d,w8,t0,u5,l9,iha,ihc]
 |both a c iha ihc=>intro b;cases b<;>simp[Kd.d,w8,t0,u5,l9,iha,ihc]
 |way a c iha ihc=>intro b;cases b<;>simp[Kd.d,w8,t0,u5,l9,iha,ihc]
def G4{d:D}{r:List D}:D.pures (d::r)=(d.pure&&D.pures r):=rfl
def N4:D.pures []=AC:=rfl
def N6{r:List D}:(D.tup r).pure=D.pures r:=rfl
def cd4{i:Int}:(D.int i).pure=AC:=rfl
theorem A0:∀k:Kd,k.d.pure=AC
 |.non=>by simp only[Kd.d,N6,G4,N4,C6,Av]
 |.one=>by simp only[Kd.d,N6,G4,N4,C6,Av]
 |.eith a b=>by simp only[Kd.d,N6,G4,N4,C6,A0 a,A0 b,Av]
 |.both a b=>by simp only[Kd.d,N6,G4,N4,C6,A0 a,A0 b,Av]
 |.way a b=>by simp only[Kd.d,N6,G4,N4,C6,A0 a,A0 b,Av]
theorem ai5:∀l:List Kd,D.pures (l.map Kd.d)=AC
 |[]=>rfl
 |k::r=>by rw[Ah,G4,A0,ai5 r];rfl
abbrev l7:List D->Nat
 |[]=>0
 |d::r=>max (l5 d) (l7 r)
theorem a08:∀l:List D,CN (D.pys l)=l7 l
 |[]=>rfl
 |d::r=>by show max (Ey d.py) (CN (D.pys r))=_;rw[a08 r];rfl
def o4{l:List D}:l5 (.tup l)=l7 l+1:=by
 show Ey (.tuple (D.pys l))=_;rw[Ey,a08]
theorem u6:∀k:Kd,l5 k.d=k.nest+1
 |.non=>by simp only[Kd.d,o4,l7,l8,Kd.nest];rfl
 |.one=>by simp only[Kd.d,o4,l7,l8,Kd.nest];rfl
 |.eith a b=>by simp only[Kd.d,o4,l7,l8,Kd.nest,u6 a,u6 b,Ka];lia
 |.both a b=>by simp only[Kd.d,o4,l7,l8,Kd.nest,u6 a,u6 b,Ka];lia
 |.way a b=>by simp only[Kd.d,o4,l7,l8,Kd.nest,u6 a,u6 b,Ka];lia
inductive Pg where
 |name (n:Nat)|star|pair (t u:Pg)|first (t:Pg)|second (t:Pg)|left (b:Kd) (t:Pg)|right (a:Kd) (t:Pg)
 |case (t u v:Pg)|way (a:Kd) (t:Pg)|give (t u:Pg)|lets (t u:Pg)|never (k:Kd) (t:Pg)
 deriving DecidableEq
abbrev Pg.d:Pg->D
 |.name n=>.tup [.str "name",.int n]
 |.star=>.tup [.str "star"]
 |.pair t u=>.tup [.str "pair",t.d,u.d]
 |.first t=>.tup [.str "first",t.d]
 |.second t=>.tup [.str "second",t.d]
 |.left b t=>.tup [.str "left",b.d,t.d]
 |.right a t=>.tup [.str "right",a.d,t.d]
 |.case t u v=>.tup [.str "case",t.d,u.d,v.d]
 |.way a t=>.tup [.str "way",a.d,t.d]
 |.give t u=>.tup [.str "give",t.d,u.d]
 |.lets t u=>.tup [.str "let",t.d,u.d]
 |.never k t=>.tup [.str "never",k.d,t.d]
abbrev Pg.kind(Γ:List Kd):Pg->Option Kd
 |.name n=>Γ[n]?
 |.star=>AA .one
 |.pair t u=>match t.kind Γ,u.kind Γ with
  |some a,AA b=>AA (.both a b)
  |_,_=>AD
 |.first t=>match t.kind Γ with
  |some (.both a _)=>AA a
  |_=>AD
 |.second t=>match t.kind Γ with
  |some (.both _ b)=>AA b
  |_=>AD
 |.left b t=>match t.kind Γ with
  |some a=>AA (.eith a b)
  |_=>AD
 |.right a t=>match t.kind Γ with
  |some b=>AA (.eith a b)
  |_=>AD
 |.case t u v=>match t.kind Γ with
  |some (.eith a b)=>match u.kind (a::Γ),v.kind (b::Γ)with
   |some k,AA l=>if k=l then AA k else AD
   |_,_=>AD
  |_=>AD
 |.way a t=>match t.kind (a::Γ)with
  |some b=>AA (.way a b)
  |_=>AD
 |.give t u=>match t.kind Γ,u.kind Γ with
  |some (.way a b),AA c=>if a=c then AA b else AD
  |_,_=>AD
 |.lets t u=>match t.kind Γ with
  |some a=>u.kind (a::Γ)
  |_=>AD
 |.never k t=>match t.kind Γ with
  |some .non=>AA k
  |_=>AD
abbrev Pg.kids:Pg->List Pg
 |.name _=>[]|.star=>[]
 |.pair t u=>[t,u]|.first t=>[t]|.second t=>[t]|.left _ t=>[t]|.right _ t=>[t]
 |.case t u v=>[t,u,v]|.way _ t=>[t]|.give t u=>[t,u]|.lets t u=>[t,u]|.never _ t=>[t]
abbrev Pg.hgt:Pg->Nat
 |.name _=>1|.star=>1
 |.pair t u=>1+max t.hgt u.hgt|.first t=>1+t.hgt|.second t=>1+t.hgt|.left _ t=>1+t.hgt|.right _ t=>1+t.hgt
 |.case t u v=>1+max t.hgt (max u.hgt v.hgt)|.way _ t=>1+t.hgt|.give t u=>1+max t.hgt u.hgt|.lets t u=>1+max t.hgt u.hgt|.never _ t=>1+t.hgt
abbrev Pg.parts:Pg->Nat
 |.name _=>1|.star=>1
 |.pair t u=>1+t.parts+u.parts|.first t=>1+t.parts|.second t=>1+t.parts|.left _ t=>1+t.parts|.right _ t=>1+t.parts
 |.case t u v=>1+t.parts+u.parts+v.parts|.way _ t=>1+t.parts|.give t u=>1+t.parts+u.parts|.lets t u=>1+t.parts+u.parts|.never _ t=>1+t.parts
abbrev Pg.kn(m:Nat):Pg->Prop
 |.name _=>True|.star=>True
 |.pair t u=>t.kn m/\u.kn m|.first t=>t.kn m|.second t=>t.kn m|.left b t=>b.nest<=m/\t.kn m|.right a t=>a.nest<=m/\t.kn m
 |.case t u v=>t.kn m/\u.kn m/\v.kn m|.way a t=>a.nest<=m/\t.kn m|.give t u=>t.kn m/\u.kn m|.lets t u=>t.kn m/\u.kn m|.never k t=>k.nest<=m/\t.kn m
def bc5:∀a b:Pg,deq a.d b.d=AB (a=b):=by
 intro a
 induction a with
 |name n=>intro b;cases b<;>simp[Pg.d,w8,t0,u5,Z7,l9]<;>lia
 |star=>intro b;cases b<;>simp[Pg.d,w8,t0,u5,l9]
 |pair t u iht ihu=>intro b;cases b<;>simp[Pg.d,w8,t0,u5,l9,iht,ihu]
 |give t u iht ihu=>intro b;cases b<;>simp[Pg.d,w8,t0,u5,l9,iht,ihu]
 |lets t u iht ihu=>intro b;cases b<;>simp[Pg.d,w8,t0,u5,l9,iht,ihu]
 |first t iht=>intro b;cases b<;>simp[Pg.d,w8,t0,u5,l9,iht]
 |second t iht=>intro b;cases b<;>simp[Pg.d,w8,t0,u5,l9,iht]
 |left k t iht=>intro b;cases b<;>simp[Pg.d,w8,t0,u5,l9,iht,F6]
 |right k t iht=>intro b;cases b<;>simp[Pg.d,w8,t0,u5,l9,iht,F6]
 |way k t iht=>intro b;cases b<;>simp[Pg.d,w8,t0,u5,l9,iht,F6]
 |never k t iht=>intro b;cases b<;>simp[Pg.d,w8,t0,u5,l9,iht,F6]
 |case t u v iht ihu ihv=>intro b;cases b<;>simp[Pg.d,w8,t0,u5,l9,iht,ihu,ihv]
def Z3(p:Pg):p.d.pure=AC:=by
 induction p<;>simp only[Pg.d,N6,G4,N4,C6,cd4,A0,Av, *]
def bp1(p:Pg)(h:p.kn m):l5 p.d<=p.hgt+m+1:=by
 have mx:∀a b c:Nat,a<=c->b<=c->max a b<=c:=λa b c h h'=>Kb.mpr ⟨h,h'⟩;have l1:∀a b:Nat,a<=max a b:=λa b=>Ip a b;have l2:∀a b:Nat,b<=max a b:=λa b=>IX a b
 induction p with
 |name n=>simp only[Pg.d,o4,l7,l8,O3,Pg.hgt];simp
 |star=>simp only[Pg.d,o4,l7,l8,Pg.hgt];simp
 |pair t u iht ihu=>simp only[Pg.d,o4,l7,l8,Pg.hgt];have:=iht h.1;have:=ihu h.2;have:=l1 t.hgt u.hgt;have:=l2 t.hgt u.hgt;apply Ay;refine mx _ _ _ ⋯ (mx _ _ _ ⋯ (mx _ _ _ ⋯ ⋯))
 |give t u iht ihu=>simp only[Pg.d,o4,l7,l8,Pg.hgt];have:=iht h.1;have:=ihu h.2;have:=l1 t.hgt u.hgt;have:=l2 t.hgt u.hgt;apply Ay;refine mx _ _ _ ⋯ (mx _ _ _ ⋯ (mx _ _ _ ⋯ ⋯))
 |lets t u iht ihu=>simp only[Pg.d,o4,l7,l8,Pg.hgt];have:=iht h.1;have:=ihu h.2;have:=l1 t.hgt u.hgt;have:=l2 t.hgt u.hgt;apply Ay;refine mx _ _ _ ⋯ (mx _ _ _ ⋯ (mx _ _ _ ⋯ ⋯))
 |first t iht=>simp only[Pg.d,o4,l7,l8,Pg.hgt];have:=iht h;apply Ay;refine mx _ _ _ ⋯ (mx _ _ _ ⋯ ⋯)
 |second t iht=>simp only[Pg.d,o4,l7,l8,Pg.hgt];have:=iht h;apply Ay;refine mx _ _ _ ⋯ (mx _ _ _ ⋯ ⋯)
 |left k t iht=>simp only[Pg.d,o4,l7,l8,u6,Pg.hgt];have:=iht h.2;have:=h.1;apply Ay;refine mx _ _ _ ⋯ (mx _ _ _ ⋯ (mx _ _ _ ⋯ ⋯))
 |right k t iht=>simp only[Pg.d,o4,l7,l8,u6,Pg.hgt];have:=iht h.2;have:=h.1;apply Ay;refine mx _ _ _ ⋯ (mx _ _ _ ⋯ (mx _ _ _ ⋯ ⋯))
 |way k t iht=>simp only[Pg.d,o4,l7,l8,u6,Pg.hgt];have:=iht h.2;have:=h.1;apply Ay;refine mx _ _ _ ⋯ (mx _ _ _ ⋯ (mx _ _ _ ⋯ ⋯))
 |never k t iht=>simp only[Pg.d,o4,l7,l8,u6,Pg.hgt];have:=iht h.2;have:=h.1;apply Ay;refine mx _ _ _ ⋯ (mx _ _ _ ⋯ (mx _ _ _ ⋯ ⋯))
 |case t u v iht ihu ihv=>
  simp only[Pg.d,o4,l7,l8,Pg.hgt];have:=iht h.1;have:=ihu h.2.1;have:=ihv h.2.2;have:=l1 t.hgt (max u.hgt v.hgt);have:=l2 t.hgt (max u.hgt v.hgt);have:=l1 u.hgt v.hgt;have:=l2 u.hgt v.hgt;apply Ay;refine mx _ _ _ ⋯ (mx _ _ _ ⋯ (mx _ _ _ ⋯ (mx _ _ _ ⋯ ⋯)))
inductive Kn:List Kd->Pg->Kd->Prop
 |name {Γ n k}:Γ[n]?=AA k->Kn Γ (.name n) k
 |star {Γ}:Kn Γ .star .one
 |pair {Γ t u a b}:Kn Γ t a->Kn Γ u b->Kn Γ (.pair t u) (.both a b)
 |first {Γ t a b}:Kn Γ t (.both a b)->Kn Γ (.first t) a
 |second {Γ t a b}:Kn Γ t (.both a b)->Kn Γ (.second t) b
 |left {Γ t a b}:Kn Γ t a->Kn Γ (.left b t) (.eith a b)
 |right {Γ t a b}:Kn Γ t b->Kn Γ (.right a t) (.eith a b)
 |case {Γ t u v a b c}:Kn Γ t (.eith a b)->Kn (a::Γ) u c->Kn (b::Γ) v c->Kn Γ (.case t u v) c
 |way {Γ t a b}:Kn (a::Γ) t b->Kn Γ (.way a t) (.way a b)
 |give {Γ t u a b}:Kn Γ t (.way a b)->Kn Γ u a->Kn Γ (.give t u) b
 |lets {Γ t u a b}:Kn Γ t a->Kn (a::Γ) u b->Kn Γ (.lets t u) b
 |never {Γ t b}:Kn Γ t .non->Kn Γ (.never b t) b
theorem Kn.kind{Γ:List Kd}{p:Pg}{k:Kd}(h:Kn Γ p k):p.kind Γ=AA k:=by
 induction h with
 |name h=>exact h
 |star=>rfl
 |pair _ _ i j=>unfold Pg.kind;rw[i,j]
 |give _ _ i j=>unfold Pg.kind;rw[i,j];exact if_pos rfl
 |first _ i|second _ i|left _ i|right _ i|way _ i|never _ i=>unfold Pg.kind;rw[i]
 |lets _ _ i j=>unfold Pg.kind;rw[i];exact j
 |case _ _ _ i j l=>unfold Pg.kind;rw[i];show(match Pg.kind _ _,Pg.kind _ _ with|some k,AA l=>if k=l then AA k else AD|_,_=>AD)=_;rw[j,l];exact if_pos rfl
def an9:∀{p:Pg}{Γ:List Kd}{k:Kd},p.kind Γ=AA k->Kn Γ p k:=by
 intro p
 induction p with
 |name n=>exact λh=>.name h
 |star=>intro Γ k h;cases h;exact .star
 |pair t u i j=>
  intro Γ k h;unfold Pg.kind at h;cases e:t.kind Γ with
  |none=>rw[e]at h;cases h
  |some a=>cases f:u.kind Γ with
   |none=>rw[e,f]at h;cases h
   |some b=>rw[e,f]at h;cases h;exact .pair (i e) (j f)
 |first t i=>
  intro Γ k h;unfold Pg.kind at h;cases e:t.kind Γ with
  |none=>rw[e]at h;cases h
  |some a=>rw[e]at h;cases a<;>cases h;exact .first (i e)
 |second t i=>
  intro Γ k h;unfold Pg.kind at h;cases e:t.kind Γ with
  |none=>rw[e]at h;cases h
  |some a=>rw[e]at h;cases a<;>cases h;exact .second (i e)
 |left b t i=>
  intro Γ k h;unfold Pg.kind at h;cases e:t.kind Γ with
  |none=>rw[e]at h;cases h
  |some a=>rw[e]at h;cases h;exact .left (i e)
 |right b t i=>
  intro Γ k h;unfold Pg.kind at h;cases e:t.kind Γ with
  |none=>rw[e]at h;cases h
  |some a=>rw[e]at h;cases h;exact .right (i e)
 |case t u v i j l=>
  intro Γ k h;unfold Pg.kind at h;cases e:t.kind Γ with
  |none=>rw[e]at h;cases h
  |some a=>
   rw[e]at h;cases a<;>first|cases h;done|skip
   rename_i a b;replace h:(match u.kind (a::Γ),v.kind (b::Γ)with|some k,AA l=>if k=l then AA k else AD|_,_=>AD)=AA k:=h;cases f:u.kind (a::Γ)with
   |none=>rw[f]at h;cases h
   |some c=>cases g:v.kind (b::Γ)with
    |none=>rw[f,g]at h;cases h
    |some d=>
     rw[f,g]at h
     by_cases z:c=d
     ·cases(if_pos z).symm.trans h;cases z;exact .case (i e) (j f) (l g)
     ·cases(if_neg z).symm.trans h
 |way a t i=>
  intro Γ k h;unfold Pg.kind at h;cases e:t.kind (a::Γ)with
  |none=>rw[e]at h;cases h
  |some a=>rw[e]at h;cases h;exact .way (i e)
 |give t u i j=>
  intro Γ k h;unfold Pg.kind at h;cases e:t.kind Γ with
  |none=>rw[e]at h;cases h
  |some a=>cases f:u.kind Γ with
   |none=>rw[e,f]at h;cases a<;>cases h
   |some c=>
    rw[e,f]at h;cases a<;>first|cases h;done|skip
    rename_i a b
    by_cases z:a=c
    ·cases(if_pos z).symm.trans h;cases z;exact .give (i e) (j f)
    ·cases(if_neg z).symm.trans h
 |lets t u i j=>
  intro Γ k h;unfold Pg.kind at h;cases e:t.kind Γ with
  |none=>rw[e]at h;cases h
  |some a=>rw[e]at h;exact .lets (i e) (j h)
 |never b t i=>
  intro Γ k h;unfold Pg.kind at h;cases e:t.kind Γ with
  |none=>rw[e]at h;cases h
  |some a=>rw[e]at h;cases a<;>cases h;exact .never (i e)
end Ek
namespace Ek
open PySem
abbrev ag5:Def:=⟨2,["_law_cell","_law_k","_law_number"],
 (.cons (.set 2 (.bin .Mod (.bin .Add (.bin .Add (.bin .Mult (.bin .Mod (.v 0) (.int 2147483629)) (.int 48271)) (.bin .Mult (.int 7919) (.v 1))) (.int 13)) (.int 2147483629)))
 (.cons (.set 2 (.bin .Mod (.bin .Add (.bin .Mult (.v 2) (.bin .Add (.bin .FloorDiv (.v 2) (.int 5)) (.v 1))) (.bin .Mult (.int 16807) (.v 1))) (.int 2147483587)))
 (.cons (.ret (.bin .Mod (.bin .Add (.bin .Mult (.v 2) (.int 69621)) (.bin .FloorDiv (.v 2) (.int 127))) (.int 2147483647)))
 .nil)))⟩
abbrev F0:Def:=⟨1,["_law_script","_law_deck_here","_law_k","_law_cell","_law_number","_law_turn"],
 (.cons (.set 1 (.lst .nil))
 (.cons (.for (.tup [2,3]) (.enum (.sl (.v 0) .non (.int 63)))
   (.cons (.set 4 (.bin .Mod (.abs (.v 3)) (.bin .Pow (.int 2147483647) (.int 60))))
  (.cons (.iff (.cmp .Lt (.v 4) (.bin .Pow (.int 10) (.int 18)))
    (.cons (.ex (.ext (.v 1) (.comp ["_law_number","_law_k","_law_j"] [4,2] 1 (.n 2) (.rng (.int 7)) .non (.call "_law_mixed" (.cons (.v 0) (.cons (.bin .Add (.bin .Mult (.int 7) (.v 1)) (.v 2)) .nil))))))
   (.cons (.set 4 (.int 0))
   .nil))
    .nil)
  (.cons (.for (.n 5) (.rng (.int 60))
    (.cons (.iff (.cmp .Gt (.v 4) (.int 0))
     (.cons (.ex (.app (.v 1) (.bin .Mod (.v 4) (.int 2147483647))))
    (.cons (.set 4 (.bin .FloorDiv (.v 4) (.int 2147483647)))
    .nil))
     .nil)
   .nil))
  .nil))))
 (.cons (.for (.n 2) (.rng2 (.len (.v 1)) (.int 150))
   (.cons (.ex (.app (.v 1) (.call "_law_mixed" (.cons (.sum (.sl (.v 0) .non (.int 63))) (.cons (.v 2) .nil)))))
  .nil))
 (.cons (.ret (.sl (.v 1) .non (.int 900)))
 .nil))))⟩
abbrev ah4:Def:=⟨2,["_law_deck_here","_law_many"],
 (.cons (.iff (.cmp .Eq (.len (.v 0)) (.int 0))
   (.cons (.ret (.int 0))
  .nil)
   .nil)
 (.cons (.ret (.bin .Mod (.popAt (.v 0) (.int 0)) (.v 1)))
 .nil))⟩
abbrev ag2:Def:=⟨2,["_law_number","_law_times","_law_found","_law_turn"],
 (.cons (.set 2 (.int 1))
 (.cons (.for (.n 3) (.rng (.v 1))
   (.cons (.set 2 (.bin .Mult (.v 2) (.v 0)))
  .nil))
 (.cons (.ret (.v 2))
 .nil)))⟩
abbrev X7:Def:=⟨1,["_law_kind_here","_law_one","_law_other"],
 (.cons (.iff (.cmp .Eq (.len (.v 0)) (.int 1))
   (.cons (.ret (.toInt (.cmp .Eq (.ix (.v 0) (.int 0)) (.str "one"))))
  .nil)
   .nil)
 (.cons (.set 1 (.call "_law_count" (.cons (.ix (.v 0) (.int 1)) .nil)))
 (.cons (.set 2 (.call "_law_count" (.cons (.ix (.v 0) (.int 2)) .nil)))
 (.cons (.ret (.dsel ["either","both","way"] (.cons (.bin .Add (.v 1) (.v 2)) (.cons (.bin .Mult (.v 1) (.v 2)) (.cons (.call "_law_power" (.cons (.v 2) (.cons (.v 1) .nil))) .nil))) (.ix (.v 0) (.int 0))))
 .nil))))⟩
abbrev G3:Def:=⟨3,["_law_deck_here","_law_deep","_law_most","_law_way","_law_word","_law_one","_law_other"],
 (.cons (.set 3 (.call "_law_next" (.cons (.v 0) (.cons (.ix (.lst (.cons (.int 1) (.cons (.int 6) .nil))) (.toInt (.cmp .Gt (.v 1) (.int 0)))) .nil))))
 (.cons (.iff (.or (.cmp .Eq (.v 3) (.int 0)) (.cmp .Eq (.v 3) (.int 5)))
   (.cons (.ret (.ix (.lst (.cons (.tup (.cons (.str "one") .nil)) (.cons (.tup (.cons (.str "either") (.cons (.tup (.cons (.str "one") .nil)) (.cons (.tup (.cons (.str "one") .nil)) .nil)))) .nil))) (.toInt (.and (.cmp .Eq (.v 3) (.int 5)) (.cmp .Gt (.v 2) (.int 1))))))
  .nil)
   .nil)
 (.cons (.set 4 (.ix (.lst (.cons (.str "either") (.cons (.str "both") (.cons (.str "way") (.cons (.str "either") .nil))))) (.bin .Sub (.v 3) (.int 1))))
 (.cons (.set 5 (.call "_law_kind" (.cons (.v 0) (.cons (.bin .Sub (.v 1) (.int 1)) (.cons (.v 2) .nil)))))
 (.cons (.set 6 (.call "_law_kind" (.cons (.v 0) (.cons (.bin .Sub (.v 1) (.int 1)) (.cons (.v 2) .nil)))))
 (.cons (.iff (.and (.cmp .NotEq (.v 4) (.str "both")) (.cmp .Eq (.call "_law_next" (.cons (.v 0) (.cons (.int 6) .nil))) (.int 1)))
   (.cons (.set 5 (.tup (.cons (.str "none") .nil)))
  .nil)
   (.cons (.iff (.and (.cmp .Eq (.v 4) (.str "either")) (.cmp .Eq (.call "_law_next" (.cons (.v 0) (.cons (.int 6) .nil))) (.int 1)))
    (.cons (.set 6 (.tup (.cons (.str "none") .nil)))
   .nil)
    .nil)
  .nil))
 (.cons (.iff (.and (.cmp .Eq (.v 4) (.str "way")) (.cmp .Gt (.call "_law_count" (.cons (.v 5) .nil)) (.int 6)))
   (.cons (.set 5 (.tup (.cons (.str "one") .nil)))
  .nil)
   .nil)
 (.cons (.iff (.cmp .Gt (.call "_law_count" (.cons (.tup (.cons (.v 4) (.cons (.v 5) (.cons (.v 6) .nil)))) .nil)) (.v 2))
   (.cons (.ret (.tup (.cons (.str "one") .nil)))
  .nil)
   .nil)
 (.cons (.ret (.tup (.cons (.v 4) (.cons (.v 5) (.cons (.v 6) .nil)))))
 .nil)))))))))⟩
abbrev P5:Def:=⟨2,["_law_kind_here","_law_names_here","_law_word","_law_body"],
 (.cons (.set 2 (.ix (.v 0) (.int 0)))
 (.cons (.iff (.cmp .Eq (.v 2) (.str "none"))
   (.cons (.ret (.tup (.cons (.str "name") (.cons (.index (.v 1) (.v 0)) .nil))))
  .nil)
   .nil)
 (.cons (.iff (.cmp .Eq (.v 2) (.str "one"))
   (.cons (.ret (.tup (.cons (.str "star") .nil)))
  .nil)
   .nil)
 (.cons (.iff (.cmp .Eq (.v 2) (.str "both"))
   (.cons (.ret (.tup (.cons (.str "pair") (.cons (.call "_law_least" (.cons (.ix (.v 0) (.int 1)) (.cons (.v 1) .nil))) (.cons (.call "_law_least" (.cons (.ix (.v 0) (.int 2)) (.cons (.v 1) .nil))) .nil)))))
  .nil)
   .nil)
 (.cons (.iff (.cmp .Eq (.v 2) (.str "way"))
   (.cons (.set 3 (.bin .Add (.tup (.cons (.ix (.v 0) (.int 1)) .nil)) (.v 1)))
  (.cons (.ret (.tup (.cons (.str "way") (.cons (.ix (.v 0) (.int 1)) (.cons (.call "_law_least" (.cons (.ix (.v 0) (.int 2)) (.cons (.v 3) .nil))) .nil)))))
  .nil))
   .nil)
 (.cons (.iff (.cmp .Gt (.call "_law_count" (.cons (.ix (.v 0) (.int 1)) .nil)) (.int 0))
   (.cons (.ret (.tup (.cons (.str "left") (.cons (.ix (.v 0) (.int 2)) (.cons (.call "_law_least" (.cons (.ix (.v 0) (.int 1)) (.cons (.v 1) .nil))) .nil)))))
  .nil)
   .nil)
 (.cons (.ret (.tup (.cons (.str "right") (.cons (.ix (.v 0) (.int 1)) (.cons (.call "_law_least" (.cons (.ix (.v 0) (.int 2)) (.cons (.v 1) .nil))) .nil)))))
 .nil)))))))⟩
abbrev K9:Def:=⟨5,["_law_deck_here","_law_kind_here","_law_names_here","_law_room","_law_deep","_law_word","_law_one","_law_side","_law_body"],
 (.cons (.set 5 (.ix (.v 1) (.int 0)))
 (.cons (.iff (.or (.cmp .Eq (.v 5) (.str "none")) (.cmp .Eq (.v 5) (.str "one")))
   (.cons (.ret (.call "_law_least" (.cons (.v 1) (.cons (.v 2) .nil))))
  .nil)
   .nil)
 (.cons (.iff (.cmp .Eq (.v 5) (.str "both"))
   (.cons (.set 6 (.call "_law_grown" (.cons (.v 0) (.cons (.ix (.v 1) (.int 1)) (.cons (.v 2) (.cons (.v 3) (.cons (.bin .Sub (.v 4) (.int 1)) .nil)))))))
  (.cons (.ret (.tup (.cons (.str "pair") (.cons (.v 6) (.cons (.call "_law_grown" (.cons (.v 0) (.cons (.ix (.v 1) (.int 2)) (.cons (.v 2) (.cons (.v 3) (.cons (.bin .Sub (.v 4) (.int 1)) .nil)))))) .nil)))))
  .nil))
   .nil)
 (.cons (.iff (.cmp .Eq (.v 5) (.str "way"))
   (.cons (.ret (.tup (.cons (.str "way") (.cons (.ix (.v 1) (.int 1)) (.cons (.call "_law_grown" (.cons (.v 0) (.cons (.ix (.v 1) (.int 2)) (.cons (.bin .Add (.tup (.cons (.ix (.v 1) (.int 1)) .nil)) (.v 2)) (.cons (.v 3) (.cons (.bin .Sub (.v 4) (.int 1)) .nil)))))) .nil)))))
  .nil)
   .nil)
 (.cons (.set 7 (.call "_law_next" (.cons (.v 0) (.cons (.int 2) .nil))))
 (.cons (.iff (.cmp .Eq (.call "_law_count" (.cons (.ix (.v 1) (.bin .Add (.int 1) (.v 7))) .nil)) (.int 0))
   (.cons (.set 7 (.bin .Sub (.int 1) (.v 7)))
  .nil)
   .nil)
 (.cons (.set 8 (.call "_law_grown" (.cons (.v 0) (.cons (.ix (.v 1) (.bin .Add (.int 1) (.v 7))) (.cons (.v 2) (.cons (.v 3) (.cons (.bin .Sub (.v 4) (.int 1)) .nil)))))))
 (.cons (.ret (.tup (.cons (.ix (.lst (.cons (.str "left") (.cons (.str "right") .nil))) (.v 7)) (.cons (.ix (.v 1) (.bin .Sub (.int 2) (.v 7))) (.cons (.v 8) .nil)))))
 .nil))))))))⟩
abbrev X9:Def:=⟨1,["_law_kind_here"],
 (.cons (.iff (.cmp .Eq (.len (.v 0)) (.int 1))
   (.cons (.ret (.int 0))
  .nil)
   .nil)
 (.cons (.ret (.bin .Add (.int 1) (.max (.call "_law_nest" (.cons (.ix (.v 0) (.int 1)) .nil)) (.call "_law_nest" (.cons (.ix (.v 0) (.int 2)) .nil)))))
 .nil))⟩
abbrev N0:Def:=⟨5,["_law_deck_here","_law_kind_here","_law_names_here","_law_room","_law_deep","_law_other","_law_way","_law_known","_law_more","_law_one"],
 (.cons (.set 5 (.call "_law_kind" (.cons (.v 0) (.cons (.int 1) (.cons (.int 4) .nil)))))
 (.cons (.iff (.or (.cmp .Gt (.call "_law_count" (.cons (.tup (.cons (.str "both") (.cons (.v 1) (.cons (.v 5) .nil)))) .nil)) (.int 100)) (.cmp .Gt (.call "_law_count" (.cons (.tup (.cons (.str "way") (.cons (.v 5) (.cons (.v 1) .nil)))) .nil)) (.int 100)))
   (.cons (.set 5 (.tup (.cons (.str "one") .nil)))
  .nil)
   .nil)
 (.cons (.set 6 (.call "_law_next" (.cons (.v 0) (.cons (.int 6) .nil))))
 (.cons (.iff (.cmp .Eq (.v 6) (.int 0))
   (.cons (.ret (.tup (.cons (.str "first") (.cons (.call "_law_grown" (.cons (.v 0) (.cons (.tup (.cons (.str "both") (.cons (.v 1) (.cons (.v 5) .nil)))) (.cons (.v 2) (.cons (.v 3) (.cons (.bin .Sub (.v 4) (.int 1)) .nil)))))) .nil))))
  .nil)
   .nil)
 (.cons (.iff (.cmp .Eq (.v 6) (.int 1))
   (.cons (.ret (.tup (.cons (.str "second") (.cons (.call "_law_grown" (.cons (.v 0) (.cons (.tup (.cons (.str "both") (.cons (.v 5) (.cons (.v 1) .nil)))) (.cons (.v 2) (.cons (.v 3) (.cons (.bin .Sub (.v 4) (.int 1)) .nil)))))) .nil))))
  .nil)
   .nil)
 (.cons (.iff (.cmp .Eq (.v 6) (.int 2))
   (.cons (.set 7 (.call "_law_grown" (.cons (.v 0) (.cons (.tup (.cons (.str "way") (.cons (.v 5) (.cons (.v 1) .nil)))) (.cons (.v 2) (.cons (.v 3) (.cons (.bin .Sub (.v 4) (.int 1)) .nil)))))))
  (.cons (.ret (.tup (.cons (.str "give") (.cons (.v 7) (.cons (.call "_law_grown" (.cons (.v 0) (.cons (.v 5) (.cons (.v 2) (.cons (.v 3) (.cons (.bin .Sub (.v 4) (.int 1)) .nil)))))) .nil)))))
  .nil))
   .nil)
 (.cons (.iff (.cmp .Eq (.v 6) (.int 3))
   (.cons (.set 7 (.call "_law_grown" (.cons (.v 0) (.cons (.v 5) (.cons (.v 2) (.cons (.v 3) (.cons (.bin .Sub (.v 4) (.int 1)) .nil)))))))
  (.cons (.ret (.tup (.cons (.str "let") (.cons (.v 7) (.cons (.call "_law_grown" (.cons (.v 0) (.cons (.v 1) (.cons (.bin .Add (.tup (.cons (.v 5) .nil)) (.v 2)) (.cons (.v 3) (.cons (.bin .Sub (.v 4) (.int 1)) .nil)))))) .nil)))))
  .nil))
   .nil)
 (.cons (.iff (.and (.cmp .Eq (.v 6) (.int 4)) (.cmp .In (.tup (.cons (.str "none") .nil)) (.v 2)))
   (.cons (.ret (.tup (.cons (.str "never") (.cons (.v 1) (.cons (.tup (.cons (.str "name") (.cons (.index (.v 2) (.tup (.cons (.str "none") .nil))) .nil))) .nil)))))
  .nil)
   .nil)
 (.cons (.set 8 (.call "_law_kind" (.cons (.v 0) (.cons (.int 1) (.cons (.int 4) .nil)))))
 (.cons (.set 7 (.call "_law_grown" (.cons (.v 0) (.cons (.tup (.cons (.str "either") (.cons (.v 5) (.cons (.v 8) .nil)))) (.cons (.v 2) (.cons (.v 3) (.cons (.bin .Sub (.v 4) (.int 1)) .nil)))))))
 (.cons (.set 9 (.call "_law_grown" (.cons (.v 0) (.cons (.v 1) (.cons (.bin .Add (.tup (.cons (.v 5) .nil)) (.v 2)) (.cons (.v 3) (.cons (.bin .Sub (.v 4) (.int 1)) .nil)))))))
 (.cons (.ret (.tup (.cons (.str "case") (.cons (.v 7) (.cons (.v 9) (.cons (.call "_law_grown" (.cons (.v 0) (.cons (.v 1) (.cons (.bin .Add (.tup (.cons (.v 8) .nil)) (.v 2)) (.cons (.v 3) (.cons (.bin .Sub (.v 4) (.int 1)) .nil)))))) .nil))))))
 .nil))))))))))))⟩
abbrev P6:Def:=⟨5,["_law_deck_here","_law_kind_here","_law_names_here","_law_room","_law_deep","_law_some","_law_way"],
 (.cons (.put (.v 3) (.int 0) (.bin .Sub (.ix (.v 3) (.int 0)) (.int 1)))
 (.cons (.set 5 (.comp ["_law_kind_here","_law_k","_law_name"] [1] 2 (.tup [1,2]) (.enum (.v 2)) (.cmp .Eq (.v 2) (.v 0)) (.v 1)))
 (.cons (.set 6 (.call "_law_next" (.cons (.v 0) (.cons (.int 8) .nil))))
 (.cons (.iff (.and (.cmp .Gt (.len (.v 5)) (.int 0)) (.cmp .Lt (.v 6) (.int 3)))
   (.cons (.ret (.tup (.cons (.str "name") (.cons (.ix (.v 5) (.call "_law_next" (.cons (.v 0) (.cons (.len (.v 5)) .nil)))) .nil))))
  .nil)
   .nil)
 (.cons (.iff (.or (.cmp .LtE (.ix (.v 3) (.int 0)) (.int 0)) (.or (.cmp .LtE (.v 4) (.int 0)) (.cmp .Eq (.v 1) (.tup (.cons (.str "none") .nil)))))
   (.cons (.ret (.call "_law_least" (.cons (.v 1) (.cons (.v 2) .nil))))
  .nil)
   .nil)
 (.cons (.iff (.or (.cmp .Lt (.v 6) (.int 6)) (.cmp .Gt (.call "_law_nest" (.cons (.v 1) .nil)) (.int 4)))
   (.cons (.ret (.call "_law_made" (.cons (.v 0) (.cons (.v 1) (.cons (.v 2) (.cons (.v 3) (.cons (.v 4) .nil)))))))
  .nil)
   .nil)
 (.cons (.ret (.call "_law_asked" (.cons (.v 0) (.cons (.v 1) (.cons (.v 2) (.cons (.v 3) (.cons (.v 4) .nil)))))))
 .nil)))))))⟩
abbrev ag7:Def:=⟨1,["_law_program_here","_law_word"],
 (.cons (.set 1 (.ix (.v 0) (.int 0)))
 (.cons (.iff (.cmp .Eq (.v 1) (.str "name"))
   (.cons (.ret (.tup .nil))
  .nil)
   .nil)
 (.cons (.ret (.sl (.v 0) (.bin .Add (.int 1) (.toInt (.cmp .In (.v 1) (.tup (.cons (.str "left") (.cons (.str "right") (.cons (.str "way") (.cons (.str "never") .nil)))))))) .non))
 .nil)))⟩
abbrev ag4:Def:=⟨1,["_law_program_here"],
 (.cons (.ret (.bin .Add (.int 1) (.sum (.comp ["_law_piece"] [] 1 (.n 0) (.seq (.call "_law_inner" (.cons (.v 0) .nil))) .non (.call "_law_parts" (.cons (.v 0) .nil))))))
 .nil)⟩
abbrev af4:Def:=⟨4,["_law_deck_here","_law_kind_here","_law_names_here","_law_many","_law_found"],
 (.cons (.set 4 (.call "_law_grown" (.cons (.v 0) (.cons (.v 1) (.cons (.v 2) (.cons (.lst (.cons (.v 3) .nil)) (.cons (.int 8) .nil)))))))
 (.cons (.iff (.cmp .Gt (.call "_law_parts" (.cons (.v 4) .nil)) (.int 60))
   (.cons (.ret (.call "_law_least" (.cons (.v 1) (.cons (.v 2) .nil))))
  .nil)
   .nil)
 (.cons (.ret (.v 4))
 .nil)))⟩
abbrev E9:Def:=⟨3,["_law_deck_here","_law_most","_law_lines","_law_names_here","_law_many","_law_k","_law_kind_here"],
 (.cons (.set 3 (.tup .nil))
 (.cons (.set 4 (.int 1))
 (.cons (.for (.n 5) (.rng (.call "_law_next" (.cons (.v 0) (.cons (.bin .Add (.v 1) (.int 1)) .nil))))
   (.cons (.set 6 (.call "_law_kind" (.cons (.v 0) (.cons (.int 2) (.cons (.int 16) .nil)))))
  (.cons (.iff (.cmp .Eq (.call "_law_next" (.cons (.v 0) (.cons (.int 12) .nil))) (.int 1))
    (.cons (.set 6 (.tup (.cons (.str "none") .nil)))
   .nil)
    .nil)
  (.cons (.iff (.cmp .LtE (.bin .Mult (.v 4) (.max (.int 1) (.call "_law_count" (.cons (.v 6) .nil)))) (.v 2))
    (.cons (.set 4 (.bin .Mult (.v 4) (.max (.int 1) (.call "_law_count" (.cons (.v 6) .nil)))))
   (.cons (.set 3 (.bin .Add (.v 3) (.tup (.cons (.v 6) .nil))))
   .nil))
    .nil)
  .nil))))
 (.cons (.ret (.v 3))
 .nil))))⟩
abbrev X6:Def:=⟨3,["whole","parts_of","made","order","done","here","many"],
 (.cons (.set 3 (.call "order_of_few" (.cons (.v 0) (.cons (.v 1) .nil))))
 (.cons (.iff (.isN (.v 3))
   (.cons .dead
  .nil)
   .nil)
 (.cons (.set 4 (.lst .nil))
 (.cons (.for (.tup [5,6]) (.rev (.v 3))
   (.cons (.ex (.app (.v 4) (.callv 2 (.cons (.v 5) (.cons (.ite (.cmp .Gt (.v 6) (.int 0)) (.call "taken" (.cons (.v 4) (.cons (.v 6) .nil))) (.lst .nil)) .nil)))))
  .nil))
 (.cons (.ret (.ix (.v 4) (.int 0)))
 .nil)))))⟩
abbrev ae6:Def:=⟨2,["whole","parts_of","order","ahead","here","parts"],
 (.cons (.set 2 (.lst .nil))
 (.cons (.set 3 (.lst (.cons (.v 0) .nil)))
 (.cons (.while (.cmp .Gt (.len (.v 3)) (.int 0))
   (.cons (.set 4 (.pop (.v 3)))
  (.cons (.set 5 (.callv 1 (.cons (.v 4) .nil)))
  (.cons (.ex (.app (.v 2) (.tup (.cons (.v 4) (.cons (.len (.v 5)) .nil)))))
  (.cons (.ex (.ext (.v 3) (.v 5)))
  (.cons (.iff (.cmp .Gt (.len (.v 2)) (.gc "FEW"))
    (.cons (.ret .non)
   .nil)
    .nil)
  .nil))))))
 (.cons (.ret (.v 2))
 .nil))))⟩
abbrev am0:Def:=⟨2,["done","many","parts","number"],
 (.cons (.set 2 (.lst .nil))
 (.cons (.for (.n 3) (.rng (.v 1))
   (.cons (.ex (.app (.v 2) (.pop (.v 0))))
  .nil))
 (.cons (.ex (.lrev (.v 2)))
 (.cons (.ret (.v 2))
 .nil))))⟩
abbrev ad0:Def:=⟨1,["self"],
 (.cons (.fldS (.v 0) "numbers" .dnt)
 (.cons (.fldS (.v 0) "stored" (.lst .nil))
 (.cons (.fldS (.v 0) "parts" (.lst .nil))
 (.cons (.fldS (.v 0) "waiting" (.lst .nil))
 .nil))))⟩
abbrev af8:Def:=⟨2,["self","one","made","!self","!"],
 (.cons (.dfn 2 2 ["here","numbers","self"] [0]
   (.cons (.ret (.meth (.v 2) "numbered" (.cons (.slw (.v 0) .non (.bin .Sub (.len (.v 0)) (.len (.v 1)))) (.cons (.tuple (.v 1)) .nil))))
  .nil))
 (.cons (.ret (.call "made_of_parts" (.cons (.v 1) (.cons (.gf "tuples_in") (.cons (.v 2) .nil)))))
 .nil))⟩
abbrev U3:Def:=⟨3,["self","kind","deep"],
 (.cons (.iff (.cmp .Eq (.len (.v 1)) (.int 1))
   (.cons (.ret (.meth (.v 0) "numbered" (.cons (.v 1) (.cons (.tup .nil) .nil))))
  .nil)
   .nil)
 (.cons (.iff (.cmp .Eq (.v 2) (.int 0))
   (.cons (.ret (.meth (.v 0) "laid" (.cons (.v 1) .nil)))
  .nil)
   .nil)
 (.cons (.ret (.meth (.v 0) "built" (.cons (.ix (.v 1) (.int 0)) (.cons (.meth (.v 0) "laid_kind" (.cons (.ix (.v 1) (.int 1)) (.cons (.bin .Sub (.v 2) (.int 1)) .nil))) (.cons (.meth (.v 0) "laid_kind" (.cons (.ix (.v 1) (.int 2)) (.cons (.bin .Sub (.v 2) (.int 1)) .nil))) .nil)))))
 .nil)))⟩
abbrev af0:Def:=⟨4,["self","word","first","second"],
 (.cons (.ret (.meth (.v 0) "numbered" (.cons (.tup (.cons (.v 1) .nil)) (.cons (.tup (.cons (.v 2) (.cons (.v 3) .nil))) .nil))))
 .nil)⟩
abbrev ac8:Def:=⟨3,["self","front","numbers","key","number"],
 (.cons (.set 3 (.tup (.cons (.v 1) (.cons (.v 2) .nil))))
 (.cons (.set 4 (.dgt (.fld (.v 0) "numbers") (.v 3)))
 (.cons (.iff (.isN (.v 4))
   (.cons (.set 4 (.len (.fld (.v 0) "stored")))
  (.cons (.dput (.fld (.v 0) "numbers") (.v 3) (.v 4))
  (.cons (.ex (.app (.fld (.v 0) "stored") (.bin .Add (.v 1) (.tuple (.comp ["self","part"] [0] 1 (.n 1) (.seq (.v 2)) .non (.ix (.fld (.v 0) "stored") (.v 1)))))))
  (.cons (.ex (.app (.fld (.v 0) "parts") (.v 2)))
  .nil))))
   .nil)
 (.cons (.ret (.v 4))
 .nil))))⟩
abbrev ae5:Def:=⟨2,["self","kind"],
 (.cons (.ex (.app (.fld (.v 0) "waiting") (.tup (.cons (.v 1) (.cons .non .nil)))))
 (.cons (.ret (.neg (.len (.fld (.v 0) "waiting"))))
 .nil))⟩
abbrev ac9:Def:=⟨2,["self","number","waited"],
 (.cons (.iff (.cmp .GtE (.v 1) (.int 0))
   (.cons (.ret (.v 1))
  .nil)
   .nil)
 (.cons (.set 2 (.ix (.fld (.v 0) "waiting") (.bin .Sub (.neg (.int 1)) (.v 1))))
 (.cons (.iff (.isN (.ix (.v 2) (.int 1)))
   (.cons (.set 2 (.tup (.cons (.ix (.v 2) (.int 0)) (.cons (.methd (.v 0) "laid_kind" (.cons (.ix (.v 2) (.int 0)) .nil)) .nil))))
  (.cons (.put (.fld (.v 0) "waiting") (.bin .Sub (.neg (.int 1)) (.v 1)) (.v 2))
  .nil))
   .nil)
 (.cons (.ret (.ix (.v 2) (.int 1)))
 .nil))))⟩
abbrev ad1:Def:=⟨2,["self","number"],
 (.cons (.ret (.ix (.fld (.v 0) "stored") (.v 1)))
 .nil)⟩
abbrev ad2:Def:=⟨2,["self","number"],
 (.cons (.ret (.ix (.ix (.fld (.v 0) "stored") (.v 1)) (.int 0)))
 .nil)⟩
abbrev ae7:Def:=⟨2,["self","number"],
 (.cons (.ret (.ix (.fld (.v 0) "parts") (.v 1)))
 .nil)⟩
abbrev bw1:Def:=⟨1,["self"],
 (.cons .dead
 .nil)⟩
abbrev ad4:Def:=⟨4,["self","program","inside","number"],
 (.cons (.fldS (.v 0) "program" (.v 1))
 (.cons (.fldS (.v 0) "inside" (.v 2))
 (.cons (.fldS (.v 0) "number" (.v 3))
 (.cons (.fldS (.v 0) "holders" (.int 0))
 (.cons (.fldS (.v 0) "ways" (.int 0))
 (.cons (.fldS (.v 0) "used" .non)
 (.cons (.fldS (.v 0) "kind" .non)
 .nil)))))))⟩
abbrev ag6:Def:=⟨1,["one"],
 (.cons (.ret (.comp ["part"] [] 1 (.n 0) (.seq (.v 0)) (.isT "tuple" (.v 0)) (.v 0)))
 .nil)⟩
abbrev al7:Def:=⟨1,["program"],
 (.cons (.ret (.list (.sl (.v 0) (.gsel "INNER_FROM" (.ix (.v 0) (.int 0))) .non)))
 .nil)⟩
abbrev U5:Def:=⟨2,["program","parts"],
 (.cons (.ret (.bin .Add (.sl (.v 0) .non (.gsel "INNER_FROM" (.ix (.v 0) (.int 0)))) (.tuple (.v 1))))
 .nil)⟩
abbrev af6:Def:=⟨2,["program","number"],
 (.cons (.ret (.ite (.cmp .In (.v 1) (.gget "UNDER_ONE_MORE" (.ix (.v 0) (.int 0)) (.tup .nil))) (.int 1) (.int 0)))
 .nil)⟩
abbrev al2:Def:=⟨2,["program","nodes","made","!nodes","!"],
 (.cons (.dfn 2 2 ["here","inside","nodes","node","part"] [1]
   (.cons (.set 3 (.make "Node" (.cons (.v 0) (.cons (.v 1) (.cons (.len (.v 2)) .nil)))))
  (.cons (.ex (.app (.v 2) (.v 3)))
  (.cons (.for (.n 4) (.seq (.v 1))
    (.cons (.fldS (.v 4) "holders" (.bin .Add (.fld (.v 4) "holders") (.int 1)))
   (.cons (.fldS (.v 3) "ways" (.max (.fld (.v 3) "ways") (.fld (.v 4) "ways")))
   .nil)))
  (.cons (.iff (.cmp .Eq (.ix (.v 0) (.int 0)) (.str "way"))
    (.cons (.fldS (.v 3) "ways" (.bin .Add (.fld (.v 3) "ways") (.int 1)))
   .nil)
    .nil)
  (.cons (.ret (.v 3))
  .nil))))))
 (.cons (.ret (.call "made_of_parts" (.cons (.v 0) (.cons (.gf "inner") (.cons (.v 2) .nil)))))
 .nil))⟩
abbrev bx5:Def:=⟨1,["node","ahead","here","waiting"],
 (.cons (.set 1 (.ite (.isN (.fld (.v 0) "used")) (.lst (.cons (.v 0) .nil)) (.lst .nil)))
 (.cons (.while (.cmp .Gt (.len (.v 1)) (.int 0))
   (.cons (.set 2 (.ix (.v 1) (.neg (.int 1))))
  (.cons (.set 3 (.comp ["part"] [] 1 (.n 0) (.seq (.fld (.v 2) "inside")) (.isN (.fld (.v 0) "used")) (.v 0)))
  (.cons (.iff (.cmp .Gt (.len (.v 3)) (.int 0))
    (.cons (.ex (.ext (.v 1) (.v 3)))
   .nil)
    (.cons (.fldS (.v 2) "used" (.call "used_by_parts" (.cons (.v 2) .nil)))
   (.cons (.ex (.pop (.v 1)))
   .nil)))
  .nil))))
 (.cons (.ret (.fld (.v 0) "used"))
 .nil)))⟩
abbrev bw4:Def:=⟨1,["node","numbers","number","part","less"],
 (.cons (.iff (.cmp .Eq (.ix (.fld (.v 0) "program") (.int 0)) (.str "name"))
   (.cons (.ret (.tup (.cons (.ix (.fld (.v 0) "program") (.int 1)) .nil)))
  .nil)
   .nil)
 (.cons (.set 1 (.lst .nil))
 (.cons (.for (.tup [2,3]) (.enum (.fld (.v 0) "inside"))
   (.cons (.set 4 (.call "names_more" (.cons (.fld (.v 0) "program") (.cons (.v 2) .nil))))
  (.cons (.ex (.ext (.v 1) (.comp ["less","name"] [4] 1 (.n 1) (.seq (.fld (.v 3) "used")) (.cmp .GtE (.v 1) (.v 0)) (.bin .Sub (.v 1) (.v 0)))))
  .nil)))
 (.cons .dead
 .nil))))⟩
abbrev L1:Def:=⟨4,["node","known","named","made","begun","answers","before","here","number","key","answer"],
 (.cons (.set 4 (.lst (.cons (.v 0) .nil)))
 (.cons (.set 5 (.lst (.cons (.lst .nil) .nil)))
 (.cons (.set 6 .dnt)
 (.cons (.while (.bl AC)
   (.cons (.set 7 (.ix (.v 4) (.neg (.int 1))))
  (.cons (.set 8 (.len (.ix (.v 5) (.neg (.int 1)))))
  (.cons (.set 9 (.ite (.cmp .Gt (.fld (.v 7) "holders") (.int 1)) (.call "known_for" (.cons (.v 7) (.cons (.v 1) .nil))) .non))
  (.cons (.iff (.and (.din AC (.v 9) (.v 6)) (.cmp .Lt (.v 8) (.len (.fld (.v 7) "inside"))))
    (.cons (.iff (.cmp .Eq (.call "names_more" (.cons (.fld (.v 7) "program") (.cons (.v 8) .nil))) (.int 1))
     (.cons (.ex (.app (.v 1) (.callv 2 (.cons (.fld (.v 7) "program") (.cons (.ix (.v 5) (.neg (.int 1))) (.cons (.v 8) .nil))))))
    .nil)
     .nil)
   (.cons (.ex (.app (.v 4) (.ix (.fld (.v 7) "inside") (.v 8))))
   (.cons (.ex (.app (.v 5) (.lst .nil)))
   (.cons .cont
   .nil))))
    .nil)
  (.cons (.set 10 (.ite (.din AE (.v 9) (.v 6)) (.ix (.v 6) (.v 9)) (.callv 3 (.cons (.v 7) (.cons (.ix (.v 5) (.neg (.int 1))) (.cons (.v 1) .nil))))))
  (.cons (.iff (.notN (.v 9))
    (.cons (.dput (.v 6) (.v 9) (.v 10))
   .nil)
    .nil)
  (.cons (.ex (.pop (.v 4)))
  (.cons (.ex (.pop (.v 5)))
  (.cons (.iff (.cmp .Eq (.len (.v 4)) (.int 0))
    (.cons (.ret (.v 10))
   .nil)
    .nil)
  (.cons (.iff (.cmp .Eq (.call "names_more" (.cons (.fld (.ix (.v 4) (.neg (.int 1))) "program") (.cons (.len (.ix (.v 5) (.neg (.int 1)))) .nil))) (.int 1))
    (.cons (.ex (.pop (.v 1)))
   .nil)
    .nil)
  (.cons (.ex (.app (.ix (.v 5) (.neg (.int 1))) (.v 10)))
  .nil))))))))))))
 .nil))))⟩
abbrev by4:Def:=⟨2,["node","known","last"],
 (.cons (.set 2 (.bin .Sub (.len (.v 1)) (.int 1)))
 (.cons (.ret (.tup (.cons (.fld (.v 0) "number") (.cons (.tuple (.comp ["known","last","name"] [1,2] 1 (.n 2) (.seq (.call "used_names" (.cons (.v 0) .nil))) (.and (.cmp .GtE (.v 2) (.int 0)) (.cmp .LtE (.v 2) (.v 1))) (.ix (.v 0) (.bin .Sub (.v 1) (.v 2))))) .nil))))
 .nil))⟩
abbrev ah7:Def:=⟨2,["program","names","shelf"],
 (.cons (.set 2 (.make "Shelf" .nil))
 (.cons (.ret (.meth (.v 2) "tuple_at" (.cons (.call "shelved_kind" (.cons (.v 0) (.cons (.call "shelved_names" (.cons (.v 1) (.cons (.v 2) .nil))) (.cons (.v 2) .nil)))) .nil)))
 .nil))⟩
abbrev ad6:Def:=⟨2,["names","shelf"],
 (.cons (.ret (.comp ["shelf","kind"] [1] 1 (.n 1) (.revt (.v 0)) .non (.meth (.v 0) "put_by" (.cons (.v 1) .nil))))
 .nil)⟩
abbrev ae9:Def:=⟨3,["program","known","shelf"],
 (.cons (.ret (.call "kind_of_node" (.cons (.call "noded" (.cons (.v 0) (.cons (.lst .nil) .nil))) (.cons (.v 1) (.cons (.v 2) .nil)))))
 .nil)⟩
abbrev ae2:Def:=⟨3,["node","known","shelf","named","made","!shelf","!"],
 (.cons (.dfn 3 3 ["here","kinds","number","shelf"] [2]
   (.cons (.ret (.call "new_name" (.cons (.v 0) (.cons (.v 1) (.cons (.v 2) (.cons (.v 3) .nil))))))
  .nil))
 (.cons (.dfn 4 3 ["here","kinds","known_here","shelf","kind"] [2]
   (.cons (.set 4 (.call "kind_by_parts" (.cons (.fld (.v 0) "program") (.cons (.v 1) (.cons (.v 2) (.cons (.v 3) .nil))))))
  (.cons (.fldS (.v 0) "kind" (.ite (.or (.isN (.fld (.v 0) "kind")) (.cmp .Eq (.fld (.v 0) "kind") (.v 4))) (.v 4) (.neg (.int 1))))
  (.cons (.ret (.v 4))
  .nil))))
 (.cons (.ret (.call "folded" (.cons (.v 0) (.cons (.v 1) (.cons (.v 3) (.cons (.v 4) .nil))))))
 .nil)))⟩
abbrev ad7:Def:=⟨4,["program","kinds","known","shelf"],
 (.cons (.ret (.callx (.gsel "BY_WORD" (.ix (.v 0) (.int 0))) (.cons (.v 0) (.cons (.v 1) (.cons (.v 2) (.cons (.v 3) .nil))))))
 .nil)⟩
abbrev ag9:Def:=⟨4,["program","kinds","number","shelf"],
 (.cons (.iff (.cmp .Eq (.ix (.v 0) (.int 0)) (.str "way"))
   (.cons (.ret (.methd (.v 3) "laid_kind" (.cons (.ix (.v 0) (.int 1)) .nil)))
  .nil)
   .nil)
 (.cons (.iff (.cmp .Eq (.ix (.v 0) (.int 0)) (.str "let"))
   (.cons (.ret (.ix (.v 1) (.int 0)))
  .nil)
   .nil)
 (.cons (.ret (.ix (.call "halves_of" (.cons (.str "either") (.cons (.ix (.v 1) (.int 0)) (.cons (.v 3) .nil)))) (.bin .Sub (.v 2) (.int 1))))
 .nil)))⟩
abbrev ag1:Def:=⟨3,["word","kind","shelf"],
 (.cons (.iff (.cmp .NotEq (.meth (.v 2) "word_at" (.cons (.v 1) .nil)) (.v 0))
   (.cons .dead
  .nil)
   .nil)
 (.cons (.ret (.meth (.v 2) "within" (.cons (.v 1) .nil)))
 .nil))⟩
abbrev ad9:Def:=⟨4,["program","kinds","known","shelf","number"],
 (.cons (.set 4 (.ix (.v 0) (.int 1)))
 (.cons (.iff (.or (.cmp .Lt (.v 4) (.int 0)) (.cmp .GtE (.v 4) (.len (.v 2))))
   (.cons .dead
  .nil)
   .nil)
 (.cons (.ret (.meth (.v 3) "taken_up" (.cons (.ix (.v 2) (.bin .Sub (.bin .Sub (.len (.v 2)) (.int 1)) (.v 4))) .nil)))
 .nil)))⟩
abbrev ae4:Def:=⟨4,["program","kinds","known","shelf"],
 (.cons (.ret (.meth (.v 3) "numbered" (.cons (.tup (.cons (.str "one") .nil)) (.cons (.tup .nil) .nil))))
 .nil)⟩
abbrev ae8:Def:=⟨4,["program","kinds","known","shelf"],
 (.cons (.ret (.meth (.v 3) "built" (.cons (.str "both") (.cons (.ix (.v 1) (.int 0)) (.cons (.ix (.v 1) (.int 1)) .nil)))))
 .nil)⟩
abbrev ad5:Def:=⟨4,["program","kinds","known","shelf"],
 (.cons (.ret (.ix (.call "halves_of" (.cons (.str "both") (.cons (.ix (.v 1) (.int 0)) (.cons (.v 3) .nil)))) (.int 0)))
 .nil)⟩
abbrev ac7:Def:=⟨4,["program","kinds","known","shelf"],
 (.cons (.ret (.ix (.call "halves_of" (.cons (.str "both") (.cons (.ix (.v 1) (.int 0)) (.cons (.v 3) .nil)))) (.int 1)))
 .nil)⟩
abbrev ae1:Def:=⟨4,["program","kinds","known","shelf"],
 (.cons (.ret (.meth (.v 3) "built" (.cons (.str "either") (.cons (.ix (.v 1) (.int 0)) (.cons (.methd (.v 3) "laid_kind" (.cons (.ix (.v 0) (.int 1)) .nil)) .nil)))))
 .nil)⟩
abbrev ad8:Def:=⟨4,["program","kinds","known","shelf"],
 (.cons (.ret (.meth (.v 3) "built" (.cons (.str "either") (.cons (.methd (.v 3) "laid_kind" (.cons (.ix (.v 0) (.int 1)) .nil)) (.cons (.ix (.v 1) (.int 0)) .nil)))))
 .nil)⟩
abbrev ae0:Def:=⟨4,["program","kinds","known","shelf"],
 (.cons (.iff (.cmp .NotEq (.ix (.v 1) (.int 1)) (.ix (.v 1) (.int 2)))
   (.cons .dead
  .nil)
   .nil)
 (.cons (.ret (.ix (.v 1) (.int 1)))
 .nil))⟩
abbrev af3:Def:=⟨4,["program","kinds","known","shelf"],
 (.cons (.ret (.meth (.v 3) "built" (.cons (.str "way") (.cons (.methd (.v 3) "laid_kind" (.cons (.ix (.v 0) (.int 1)) .nil)) (.cons (.ix (.v 1) (.int 0)) .nil)))))
 .nil)⟩
abbrev ae3:Def:=⟨4,["program","kinds","known","shelf","ends"],
 (.cons (.set 4 (.call "halves_of" (.cons (.str "way") (.cons (.ix (.v 1) (.int 0)) (.cons (.v 3) .nil)))))
 (.cons (.iff (.cmp .NotEq (.ix (.v 4) (.int 0)) (.ix (.v 1) (.int 1)))
   (.cons .dead
  .nil)
   .nil)
 (.cons (.ret (.ix (.v 4) (.int 1)))
 .nil)))⟩
abbrev af2:Def:=⟨4,["program","kinds","known","shelf"],
 (.cons (.ret (.ix (.v 1) (.int 1)))
 .nil)⟩
abbrev ad3:Def:=⟨4,["program","kinds","known","shelf"],
 (.cons (.iff (.cmp .NotEq (.meth (.v 3) "word_at" (.cons (.ix (.v 1) (.int 0)) .nil)) (.str "none"))
   (.cons .dead
  .nil)
   .nil)
 (.cons (.ret (.methd (.v 3) "laid_kind" (.cons (.ix (.v 0) (.int 1)) .nil)))
 .nil))⟩
abbrev aj6:Def:=⟨3,["program","many","least","changed","!least","!many","!"],
 (.cons (.iff (.cmp .Eq (.v 1) (.int 0))
   (.cons (.ret (.v 0))
  .nil)
   .nil)
 (.cons (.dfn 3 2 ["part","under","least","many"] [2,1]
   (.cons (.iff (.and (.cmp .Eq (.ix (.v 0) (.int 0)) (.str "name")) (.and (.cmp .GtE (.ix (.v 0) (.int 1)) (.v 1)) (.cmp .GtE (.bin .Sub (.ix (.v 0) (.int 1)) (.v 1)) (.v 2))))
    (.cons (.ret (.tup (.cons (.str "name") (.cons (.bin .Add (.ix (.v 0) (.int 1)) (.v 3)) .nil))))
   .nil)
    .nil)
  (.cons (.ret .non)
  .nil)))
 (.cons (.ret (.call "with_parts" (.cons (.v 0) (.cons (.v 3) .nil))))
 .nil)))⟩
abbrev aj5:Def:=⟨2,["program","other","copies","changed","!copies","!other","!"],
 (.cons (.pre 2)
 (.cons (.dfn 3 2 ["part","under","copies","other"] [2,1]
   (.cons (.iff (.or (.cmp .NotEq (.ix (.v 0) (.int 0)) (.str "name")) (.cmp .Lt (.ix (.v 0) (.int 1)) (.v 1)))
    (.cons (.ret .non)
   .nil)
    .nil)
  (.cons (.iff (.cmp .Eq (.ix (.v 0) (.int 1)) (.v 1))
    (.cons (.ret (.call "copy_under" (.cons (.v 2) (.cons (.v 3) (.cons (.v 1) .nil)))))
   .nil)
    .nil)
  (.cons (.ret (.tup (.cons (.str "name") (.cons (.bin .Sub (.ix (.v 0) (.int 1)) (.int 1)) .nil))))
  .nil))))
 (.cons (.ret (.call "with_parts" (.cons (.v 0) (.cons (.v 3) .nil))))
 .nil)))⟩
abbrev af7:Def:=⟨3,["copies","program","under"],
 (.cons (.iff (.cmp .NotIn (.v 2) (.v 0))
   (.cons (.iput (.v 0) (.v 2) (.call "lifted" (.cons (.v 1) (.cons (.v 2) (.cons (.int 0) .nil)))))
  .nil)
   .nil)
 (.cons (.ret (.ix (.v 0) (.v 2)))
 .nil))⟩
abbrev af5:Def:=⟨2,["program","changed","parts_of","made","!changed","!"],
 (.cons (.dfn 2 1 ["here","changed"] [1]
   (.cons (.ret (.ite (.notN (.callv 1 (.cons (.ix (.v 0) (.int 0)) (.cons (.ix (.v 0) (.int 1)) .nil)))) (.lst .nil) (.call "inner_under" (.cons (.v 0) .nil))))
  .nil))
 (.cons (.dfn 3 2 ["here","parts","changed","other"] [1]
   (.cons (.set 3 (.ite (.cmp .Eq (.len (.v 1)) (.int 0)) (.callv 2 (.cons (.ix (.v 0) (.int 0)) (.cons (.ix (.v 0) (.int 1)) .nil))) .non))
  (.cons (.iff (.any (.comp ["part"] [] 1 (.n 0) (.seq (.v 1)) .non (.ix (.v 0) (.int 1))))
    (.cons (.set 3 (.call "with_inner" (.cons (.ix (.v 0) (.int 0)) (.cons (.comp ["part"] [] 1 (.n 0) (.seq (.v 1)) .non (.ix (.v 0) (.int 0))) .nil))))
   .nil)
    .nil)
  (.cons (.ret (.ite (.isN (.v 3)) (.tup (.cons (.ix (.v 0) (.int 0)) (.cons (.bl AE) .nil))) (.tup (.cons (.v 3) (.cons (.bl AC) .nil)))))
  .nil))))
 (.cons (.ret (.ix (.call "made_of_parts" (.cons (.tup (.cons (.v 0) (.cons (.int 0) .nil))) (.cons (.v 2) (.cons (.v 3) .nil)))) (.int 0)))
 .nil)))⟩
abbrev af1:Def:=⟨1,["here","part"],
 (.cons (.set 1 (.ix (.v 0) (.int 0)))
 (.cons (.ret (.comp ["here","part","number","one"] [0,1] 2 (.tup [2,3]) (.enum (.call "inner" (.cons (.v 1) .nil))) .non (.tup (.cons (.v 3) (.cons (.bin .Add (.ix (.v 0) (.int 1)) (.call "names_more" (.cons (.v 1) (.cons (.v 2) .nil)))) .nil)))))
 .nil))⟩
abbrev P4:Def:=⟨2,["_law_program_here","_law_depth","_law_word","_law_some","_law_found","_law_k","_law_piece","_law_more"],
 (.cons (.set 2 (.ix (.v 0) (.int 0)))
 (.cons (.iff (.cmp .Eq (.v 2) (.str "name"))
   (.cons (.iff (.cmp .Lt (.ix (.v 0) (.int 1)) (.v 1))
    (.cons (.ret (.tup (.cons (.str "within") (.cons (.ix (.v 0) (.int 1)) .nil))))
   .nil)
    .nil)
  (.cons (.ret (.tup (.cons (.str "without") (.cons (.bin .Sub (.ix (.v 0) (.int 1)) (.v 1)) .nil))))
  .nil))
   .nil)
 (.cons (.set 3 (.call "_law_inner" (.cons (.v 0) .nil)))
 (.cons (.set 4 (.slw (.v 0) .non (.bin .Sub (.len (.v 0)) (.len (.v 3)))))
 (.cons (.for (.tup [5,6]) (.enum (.v 3))
   (.cons (.set 7 (.toInt (.or (.cmp .Eq (.v 2) (.str "way")) (.or (.and (.cmp .Eq (.v 2) (.str "let")) (.cmp .Eq (.v 5) (.int 1))) (.and (.cmp .Eq (.v 2) (.str "case")) (.cmp .Gt (.v 5) (.int 0)))))))
  (.cons (.set 4 (.bin .Add (.v 4) (.tup (.cons (.call "_law_seen" (.cons (.v 6) (.cons (.bin .Add (.v 1) (.v 7)) .nil))) .nil))))
  .nil)))
 (.cons (.ret (.v 4))
 .nil))))))⟩
abbrev U4:Def:=⟨4,["_law_shape","_law_many","_law_least_here","_law_other","_law_found","_law_piece"],
 (.cons (.iff (.cmp .Eq (.ix (.v 0) (.int 0)) (.str "without"))
   (.cons (.iff (.and (.notN (.v 3)) (.cmp .Eq (.ix (.v 0) (.int 1)) (.int 0)))
    (.cons (.ret (.v 3))
   .nil)
    .nil)
  (.cons (.iff (.cmp .GtE (.ix (.v 0) (.int 1)) (.v 2))
    (.cons (.ret (.tup (.cons (.str "without") (.cons (.bin .Add (.ix (.v 0) (.int 1)) (.v 1)) .nil))))
   .nil)
    .nil)
  (.cons (.ret (.v 0))
  .nil)))
   .nil)
 (.cons (.set 4 (.tup .nil))
 (.cons (.for (.n 5) (.seq (.v 0))
   (.cons (.iff (.isT "tuple" (.v 5))
    (.cons (.set 5 (.call "_law_turned" (.cons (.v 5) (.cons (.v 1) (.cons (.v 2) (.cons (.v 3) .nil))))))
   .nil)
    .nil)
  (.cons (.set 4 (.bin .Add (.v 4) (.tup (.cons (.v 5) .nil))))
  .nil)))
 (.cons (.ret (.v 4))
 .nil))))⟩
abbrev Y2:Def:=⟨1,["_law_script","_law_deck_here","_law_names_here","_law_kind_here","_law_program_here","_law_more","_law_least_here","_law_found","_law_due","_law_ahead","_law_other","_law_holder"],
 (.cons (.set 1 (.call "_law_deck" (.cons (.v 0) .nil)))
 (.cons (.set 2 (.call "_law_names" (.cons (.v 1) (.cons (.int 3) (.cons (.int 64) .nil)))))
 (.cons (.set 3 (.call "_law_kind" (.cons (.v 1) (.cons (.int 3) (.cons (.int 16) .nil)))))
 (.cons (.set 4 (.call "_law_program" (.cons (.v 1) (.cons (.v 3) (.cons (.v 2) (.cons (.bin .Add (.int 4) (.call "_law_next" (.cons (.v 1) (.cons (.int 20) .nil)))) .nil))))))
 (.cons (.set 5 (.tuple (.comp ["_law_deck_here","_law_k"] [1] 1 (.n 1) (.rng (.bin .Add (.int 1) (.call "_law_next" (.cons (.v 1) (.cons (.int 3) .nil))))) .non (.call "_law_kind" (.cons (.v 0) (.cons (.int 1) (.cons (.int 4) .nil)))))))
 (.cons (.set 6 (.call "_law_next" (.cons (.v 1) (.cons (.bin .Add (.len (.v 2)) (.int 1)) .nil))))
 (.cons (.set 7 (.call "lifted" (.cons (.v 4) (.cons (.len (.v 5)) (.cons (.v 6) .nil)))))
 (.cons (.set 8 (.call "_law_turned" (.cons (.call "_law_seen" (.cons (.v 4) (.cons (.int 0) .nil))) (.cons (.len (.v 5)) (.cons (.v 6) (.cons .non .nil))))))
 (.cons (.iff (.cmp .NotEq (.call "_law_seen" (.cons (.v 7) (.cons (.int 0) .nil))) (.v 8))
   (.cons (.ret (.bl AE))
  .nil)
   .nil)
 (.cons (.iff (.cmp .NotEq (.call "kind_of" (.cons (.v 7) (.cons (.bin .Add (.bin .Add (.slw (.v 2) .non (.v 6)) (.v 5)) (.slw (.v 2) (.v 6) .non)) .nil))) (.v 3))
   (.cons (.ret (.bl AE))
  .nil)
   .nil)
 (.cons (.iff (.cmp .NotEq (.call "lifted" (.cons (.v 4) (.cons (.int 0) (.cons (.v 6) .nil)))) (.v 4))
   (.cons (.ret (.bl AE))
  .nil)
   .nil)
 (.cons (.set 9 (.call "_law_kind" (.cons (.v 1) (.cons (.int 2) (.cons (.int 9) .nil)))))
 (.cons (.set 10 (.call "_law_program" (.cons (.v 1) (.cons (.v 9) (.cons (.v 2) (.cons (.bin .Add (.int 2) (.call "_law_next" (.cons (.v 1) (.cons (.int 12) .nil)))) .nil))))))
 (.cons (.set 11 (.call "_law_program" (.cons (.v 1) (.cons (.v 3) (.cons (.bin .Add (.tup (.cons (.v 9) .nil)) (.v 2)) (.cons (.bin .Add (.int 4) (.call "_law_next" (.cons (.v 1) (.cons (.int 20) .nil)))) .nil))))))
 (.cons (.set 7 (.call "put_in" (.cons (.v 11) (.cons (.v 10) .nil))))
 (.cons (.set 8 (.call "_law_turned" (.cons (.call "_law_seen" (.cons (.v 11) (.cons (.int 0) .nil))) (.cons (.neg (.int 1)) (.cons (.int 1) (.cons (.call "_law_seen" (.cons (.v 10) (.cons (.int 0) .nil))) .nil))))))
 (.cons (.iff (.cmp .NotEq (.call "_law_seen" (.cons (.v 7) (.cons (.int 0) .nil))) (.v 8))
   (.cons (.ret (.bl AE))
  .nil)
   .nil)
 (.cons (.iff (.cmp .NotEq (.call "kind_of" (.cons (.v 7) (.cons (.v 2) .nil))) (.v 3))
   (.cons (.ret (.bl AE))
  .nil)
   .nil)
 (.cons (.ret (.cmp .Eq (.call "put_in" (.cons (.tup (.cons (.str "name") (.cons (.int 0) .nil))) (.cons (.v 10) .nil))) (.v 10)))
 .nil)))))))))))))))))))⟩
abbrev V2:List (Str×Def):=[(("Shelf.__init__":Str),ad0),(("Shelf.laid":Str),af8),(("Shelf.laid_kind":Str),U3),(("Shelf.built":Str),af0),(("Shelf.numbered":Str),ac8),(("Shelf.put_by":Str),ae5),(("Shelf.taken_up":Str),ac9),(("Shelf.tuple_at":Str),ad1),(("Shelf.word_at":Str),ad2),(("Shelf.within":Str),ae7),(("Shelf.all_laid":Str),bw1),(("Node.__init__":Str),ad4),(("made_of_parts":Str),X6),(("order_of_few":Str),ae6),(("taken":Str),am0),(("tuples_in":Str),ag6),(("inner":Str),al7),(("with_inner":Str),U5),(("names_more":Str),af6),(("noded":Str),al2),(("used_names":Str),bx5),(("used_by_parts":Str),bw4),(("folded":Str),L1),(("known_for":Str),by4),(("kind_of":Str),ah7),(("shelved_names":Str),ad6),(("shelved_kind":Str),ae9),(("kind_of_node":Str),ae2),(("kind_by_parts":Str),ad7),(("new_name":Str),ag9),(("halves_of":Str),ag1),(("kind_of_name":Str),ad9),(("kind_of_star":Str),ae4),(("kind_of_pair":Str),ae8),(("kind_of_first":Str),ad5),(("kind_of_second":Str),ac7),(("kind_of_left":Str),ae1),(("kind_of_right":Str),ad8),(("kind_of_case":Str),ae0),(("kind_of_way":Str),af3),(("kind_of_give":Str),ae3),(("kind_of_let":Str),af2),(("kind_of_never":Str),ad3),(("lifted":Str),aj6),(("put_in":Str),aj5),(("copy_under":Str),af7),(("with_parts":Str),af5),(("inner_under":Str),af1),(("_law_mixed":Str),ag5),(("_law_deck":Str),F0),(("_law_next":Str),ah4),(("_law_power":Str),ag2),(("_law_count":Str),X7),(("_law_kind":Str),G3),(("_law_least":Str),P5),(("_law_made":Str),K9),(("_law_nest":Str),X9),(("_law_asked":Str),N0),(("_law_grown":Str),P6),(("_law_inner":Str),ag7),(("_law_parts":Str),ag4),(("_law_program":Str),af4),(("_law_names":Str),E9),(("_law_seen":Str),P4),(("_law_turned":Str),U4),(("law":Str),Y2)]
abbrev Q0:i6:=λf=>V2.lookup f
abbrev z4:Gs:=⟨λg=>if g="INNER_FROM" then [("name",.int 2),("star",.int 1),("pair",.int 1),("first",.int 1),("second",.int 1),("left",.int 2),("right",.int 2),("case",.int 1),("way",.int 2),("give",.int 1),("let",.int 1),("never",.int 2)]else if g="UNDER_ONE_MORE" then [("case",.ktup [1,2]),("way",.ktup [0]),("let",.ktup [1])]else if g="BY_WORD" then [("name",.fn "kind_of_name"),("star",.fn "kind_of_star"),("pair",.fn "kind_of_pair"),("first",.fn "kind_of_first"),("second",.fn "kind_of_second"),("left",.fn "kind_of_left"),("right",.fn "kind_of_right"),("case",.fn "kind_of_case"),("way",.fn "kind_of_way"),("give",.fn "kind_of_give"),("let",.fn "kind_of_let"),("never",.fn "kind_of_never")]else [],λc=>if c="!kt" then ["n"]else if c="!Shelf.laid_kind" then ["d","d","d","d"]else if c="Shelf" then ["numbers","stored","parts","waiting"]else if c="Node" then ["program","inside","number","holders","ways","used","kind"]else [],λg=>if g="FEW" then AA 2000 else AD⟩
end Ek
namespace Ek
open PySem L2
variable{fd:Ba}{ps:List Str}
@[reducible]noncomputable def bk6(K:AO)(cd:AG)(ts:List AI):Prop:=∃c P,cd=.ref c/\Bx K c P=AC/\P∈ts
abbrev FnA(K:AO)(ts:List AI)(m:Bool)(f:Str)(st:BQ):Prop:=∃(fa:AI)(od an:Option AI)(sl:Array (Option AG))(oc kV dc pm cd ct:AG),
 Ax K AN f=AA (AA (.ref fa))/\K.lookup fa=AA ⟨oc,od,.func (Cr f f (z0 st) (v6 st) (o6 st) .none kV dc pm an cd ct),sl⟩/\Cp K cd f=AC/\Bj K (.ref fa)=AC/\(m=AC->bk6 K cd ts)
section
variable {K:AO} {ts:List AI} {f c m:Str} {st:BQ} {fa Ca:AI} {od an:Option AI} {sl:Array (Option AG)} {oc kV dc pm cd ct:AG} {hc hp:AI}
def fnA(a1:Ax K AN f=AA (AA (.ref fa)))(l1:K.lookup fa=AA ⟨oc,od,.func (Cr f f (z0 st) (v6 st) (o6 st) .none kV dc pm an cd ct),sl⟩)(c1:Cp K cd f=AC)(k1:Bj K (.ref fa)=AC):FnA K ts AE f st:=
 ⟨_,_,_,_,_,_,_,_,_,_,a1,l1,c1,k1,nofun⟩
def fnM(a1:Ax K AN f=AA (AA (.ref fa)))(l1:K.lookup fa=AA ⟨oc,od,.func (Cr f f (z0 st) (v6 st) (o6 st) .none kV dc pm an cd ct),sl⟩)(c1:Cp K cd f=AC)(k1:Bj K (.ref fa)=AC)
  (h1:aa8 K cd=AA (hc,hp)) (h2:Bx K hc hp=AC) (h3:ts.contains hp=AC):FnA K ts AC f st:=
 ⟨_,_,_,_,_,_,_,_,_,_,a1,l1,c1,k1,λ_=>bi7 h1 h2 h3⟩
structure ClA(K:AO)(c:Str)(Ca:AI):Prop where
 a:Ax K AN c=AA (AA (.ref Ca))
 cl:Cls K Ca
 ms:HI K Ca=AC
 kp:Bj K (.ref Ca)=AC
def clA(a1:Ax K AN c=AA (AA (.ref Ca)))(a2:FW K Ca Str.empty=AC)(a3:GL K Ca=AC)(a4:Hm K Ca=AC)(a5:BR K (.ref Ca) "__setattr__"=AA (AA (.builtin "object.__setattr__")))(a6:HI K Ca=AC)(a7:Bj K (.ref Ca)=AC):ClA K c Ca:=⟨a1,⟨a2,a3,a4,a5⟩,a6,a7⟩
abbrev MtA(K:AO)(ts:List AI)(b:Bool)(c:Str)(Ca:AI)(m:Str)(st:BQ):Prop:=∃(fa:AI)(od an:Option AI)(sl:Array (Option AG))(oc kV dc pm cd ct:AG),
 Ax K AN (c7 c m)=AA AD/\Meth K Ca m fa/\K.lookup fa=AA ⟨oc,od,.func (Cr m (c7 c m) (z0 st) (v6 st) (o6 st) .none kV dc pm an cd ct),sl⟩/\Cp K cd (c7 c m)=AC/\(b=AC->bk6 K cd ts)
def mtA(a1:Ax K AN (c7 c m)=AA AD)(a2:BR K (.ref Ca) m=AA (AA (.ref fa)))(a3:HR K (.ref fa)=AC)(a4:Bj K (.ref fa)=AC)
  (l1:K.lookup fa=AA ⟨oc,od,.func (Cr m (c7 c m) (z0 st) (v6 st) (o6 st) .none kV dc pm an cd ct),sl⟩) (c1:Cp K cd (c7 c m)=AC):MtA K ts AE c Ca m st:=⟨_,_,_,_,_,_,_,_,_,_,a1,⟨a2,a3,a4⟩,l1,c1,nofun⟩
def mtM(a1:Ax K AN (c7 c m)=AA AD)(a2:BR K (.ref Ca) m=AA (AA (.ref fa)))(a3:HR K (.ref fa)=AC)(a4:Bj K (.ref fa)=AC)
  (l1:K.lookup fa=AA ⟨oc,od,.func (Cr m (c7 c m) (z0 st) (v6 st) (o6 st) .none kV dc pm an cd ct),sl⟩) (c1:Cp K cd (c7 c m)=AC) (h1:aa8 K cd=AA (hc,hp)) (h2:Bx K hc hp=AC) (h3:ts.contains hp=AC):MtA K ts AC c Ca m st:=
 ⟨_,_,_,_,_,_,_,_,_,_,a1,⟨a2,a3,a4⟩,l1,c1,λ_=>bi7 h1 h2 h3⟩
abbrev MtD(K:AO)(c:Str)(Ca:AI)(m:Str)(st:BQ)(i:Int):Prop:=∃(fa T:AI)(od an td:Option AI)(sl tsl:Array (Option AG))(oc kV dc pm cd ct tc:AG)(tk:Tok)(n:Nat),
 Ax K AN (c7 c m)=AA AD/\Meth K Ca m fa/\K.lookup fa=AA ⟨oc,od,.func (Cr m (c7 c m) (z0 st) (v6 st) (o6 st) (.ref T) kV dc pm an cd ct),sl⟩/\Cp K cd (c7 c m)=AC/\K.lookup T=AA ⟨tc,td,.seq #[.int i tk] n,tsl⟩
def mtD{T:AI}{td:Option AI}{tsl:Array (Option AG)}{tc:AG}{tk:Tok}{n:Nat}{i:Int}(a1:Ax K AN (c7 c m)=AA AD)(a2:BR K (.ref Ca) m=AA (AA (.ref fa)))(a3:HR K (.ref fa)=AC)(a4:Bj K (.ref fa)=AC)
  (l1:K.lookup fa=AA ⟨oc,od,.func (Cr m (c7 c m) (z0 st) (v6 st) (o6 st) (.ref T) kV dc pm an cd ct),sl⟩) (c1:Cp K cd (c7 c m)=AC) (t1:K.lookup T=AA ⟨tc,td,.seq #[.int i tk] n,tsl⟩):MtD K c Ca m st i:=
 ⟨_,_,_,_,_,_,_,_,_,_,_,_,_,_,_,_,a1,⟨a2,a3,a4⟩,l1,c1,t1⟩
end
def bdS{α:Type}{P:List α->Prop}{n:Nat}(h:∀a us,us.length=n->P (a::us)):∀us,us.length=n+1->P us:=λus hl=>by
 cases us with
 |nil=>cases hl
 |cons a us=>exact h a us (Er hl)
def bdZ{α:Type}{P:List α->Prop}(h:P []):∀us,us.length=0->P us:=λus hl=>by
 cases us with
 |nil=>exact h
 |cons=>cases hl
@[reducible]noncomputable def StF(st:BQ)(d:Def)(f:Str):Prop:=Stat st d (d.N.take d.np) f f
@[reducible]noncomputable def StM(st:BQ)(d:Def)(c m:Str):Prop:=Stat st d (d.N.take d.np) m (c7 c m)
section
variable [Tbs] {K:AO} {mg:Str->Option AG} {h:BI} {f c m:Str} {d:Def} {st:BQ} {Ca:AI} {b:Bool} {U:Str->List Str}
def FnA.ok(A:FnA K Tbs.ps b f st)(X:K.In h)(G:h.Ns AN mg)(S:StF st d f:=by exact⟨⟨⟨rfl,rfl,rfl,by decide+kernel,rfl,by decide+kernel,by decide+kernel⟩,rfl,by decide+kernel⟩,λ_ _ _ _ _ _=>by(repeat refine bdS λ_=>?_);exact bdZ rfl⟩)(hb:(d.N.contains t9=AC->b=AC):=by decide+kernel):DefOk K mg f d:=by
 obtain⟨fa,od,an,sl,oc,kV,dc,pm,cd,ct,a1,l1,c1,k1,m1⟩:=A;exact cu9 X G S a1 l1 c1 k1 λz=>m1 (hb z)
def MtA.ok(A:MtA K Tbs.ps b c Ca m st)(C:ClA K c Ca)(X:K.In h)(G:h.Ns AN mg)(S:StM st d c m:=by exact⟨⟨⟨rfl,rfl,rfl,by decide+kernel,rfl,by decide+kernel,by decide+kernel⟩,rfl,by decide+kernel⟩,λ_ _ _ _ _ _=>by(repeat refine bdS λ_=>?_);exact bdZ rfl⟩)(hb:(d.N.contains t9=AC->b=AC):=by decide+kernel)(hdf:B3 U (c7 c m)=AD:=by decide+kernel)(h1:isM c=AE:=by decide+kernel)(h2:isM m=AE:=by decide+kernel)(he:f=c7 c m:=by decide+kernel):∃c m,f=c7 c m/\isM c=AE/\isM m=AE/\MthOk K mg (B3 U (c7 c m)) c m d:=by
 obtain⟨fa,od,an,sl,oc,kV,dc,pm,cd,ct,a1,M,l1,c1,m1⟩:=A;subst he;exact⟨c,m,rfl,h1,h2,cs8 X G S a1 C.a C.cl M (λz=>by subst z;exact⟨C.ms,M.at_,M.fn,C.kp⟩) l1 c1 (λz=>m1 (hb z)) hdf⟩
def MtD.ok{i:Int}(A:MtD K c Ca m st i)(C:ClA K c Ca)(X:K.In h)(G:h.Ns AN mg)(S:Stat0 st d ps)
  (hbn:∀(T:AI)(kV dc pm:AG)(an:Option AI)(cd ct:AG)(tk:Tok)(s:AK)(o:Obj)(n:Nat),s.heap.get? T=AA o->o.data=.seq #[.int i tk] n->(∀us:List AG,us.length=ps.length->Fy s (Cr m (c7 c m) (z0 st) (v6 st) (o6 st) (.ref T) kV dc pm an cd ct) ⟨us,[]⟩ (ps.zip us))/\∀us:List AG,us.length+1=ps.length->Fy s (Cr m (c7 c m) (z0 st) (v6 st) (o6 st) (.ref T) kV dc pm an cd ct) ⟨us,[]⟩ (ps.zip (us++[.int i tk])))
  (hb:(d.N.contains t9=AE):=by decide+kernel) (hdf:B3 U (c7 c m)=AA i:=by decide+kernel) (h1:isM c=AE:=by decide+kernel) (h2:isM m=AE:=by decide+kernel) (hn:m≠"__init__":=by decide+kernel) (he:f=c7 c m:=by decide+kernel):∃c m,f=c7 c m/\isM c=AE/\isM m=AE/\MthOk K mg (B3 U (c7 c m)) c m d:=by
 obtain⟨fa,T,od,an,td,sl,tsl,oc,kV,dc,pm,cd,ct,tc,tk,n,a1,M,l1,c1,t1⟩:=A;subst he;exact⟨c,m,rfl,h1,h2,cm2 X G S (λs o n=>hbn T kV dc pm an cd ct tk s o n) a1 C.a C.cl M (λz=>absurd z hn) l1 c1 t1 (λz=>by rw[hb]at z;cases z) hdf⟩
end
def i5{α β:Type}{P:α->β->Prop}{a:α}{b:β}{l:List (α×β)}(h:P a b)(t:∀f d,(f,d)∈l->P f d):∀f d,(f,d)∈(a,b)::l->P f d:=λf d hx=>(AL.1 hx).elim (λe=>by cases e;exact h) (t f d)
def bk3{α β:Type}{P:α->β->Prop}:∀f d,(f,d)∈([]:List (α×β))->P f d:=nofun
end Ek
namespace Ek
open PySem L2
local macro_rules|`(tactic|rfl')=>do
 let l:=("bk5 bm3 bd9 bc3 bp9 bt0 bm4 bl0 be1 bp3 a98 bg8 bh1 bn8 bl1 bu3 ao0 ao5 e_v bl7 bn0 bo9 bk8 bn2 br0 bj9 bq8 bt7 bn7 bl4 bt2 bs8 bm5 bn3 a74 a87 a93 bn6 ay5 a86 a61 bi0 a05 a85 a90 a79 bb5 a81 ax9 bh3 bf0 bn5 bm6 a62 bp6 bg5 ba7 bq5 bg4 bv3 a59 bp8 bh5 bl5 ay8 ai0 br7 bb0 bc7 bl8 bi5 bg2 bg0 bj7 bl6 bo8 bp5 ba8 bl9 bo6 br1 a63 bp0 bk4 bj4 bb1 be7 bb8 a97 bq1 bl2 bf8 bf9 bi8 bo1 bs9 bt5 bt8 bt9 bt1 bu6 bp7 br3 bm1 bc8 bn9 bd8 bs4 bv1 bu8 or_false false_or bi9 be2 be9 bj5 am8 bi3 bg7 bp2 ab1 bm2 ap3 bq0 bk7 aa7 S8 bo5 bq4 bn4 bq3 ar3 bm0 bs1 bk2 ac2 bt4 bu7 bu2 br2 bo3 bh6 bp4 bk9 bb6 a72 ay4 bg1 a92 bf7 an4 bj0 as2 at2 bm7 bg6 List.set_cons_zero List.set_cons_succ List.getElem?_cons_zero List.getElem?_cons_succ decide_eq_true_eq not_eq_true' decide_eq_false_iff_not if_true if_false true_and and_true false_eq_true Bool.true_eq_false length_cons length_nil String.reduceEq decide_true decide_false Bool.not_true Bool.not_false".splitOn " ").toArray.map fun n=>Lean.mkIdent n.toName
 `(tactic|try simp only[↓bu5,↓br6,↓bu0,↓bu1,$[$l:ident],*])
set_option hygiene false
local macro_rules | `(tactic| ∎)=>`(tactic| ((try dsimp only);(first | refine bv2 ?_ | rw [bf1]);rfl'))
set_option hygiene true
variable{P:i6}{G:Gs}{n:Nat}{st:Sto}{Q:DK}{a:AI}{L:List AI}
structure PB0(P:i6):Prop where
 mixed:P "_law_mixed"=AA ag5
 deck:P "_law_deck"=AA F0
 next:P "_law_next"=AA ah4
 power:P "_law_power"=AA ag2
 count:P "_law_count"=AA X7
 kind:P "_law_kind"=AA G3
structure PB(P:i6):Prop extends PB0 P where
 least:P "_law_least"=AA P5
 made:P "_law_made"=AA K9
 nest:P "_law_nest"=AA X9
 asked:P "_law_asked"=AA N0
 grown:P "_law_grown"=AA P6
 inner:P "_law_inner"=AA ag7
 parts:P "_law_parts"=AA ag4
 program:P "_law_program"=AA af4
 names:P "_law_names"=AA E9
section
variable (B:PB0 P) 
include B
def a07(c k:Int)(q:∀i,Q (.int i) st):sem P G (n+1) "_law_mixed" [.int c,.int k] st Q:=by
 refine f9 B.mixed rfl [AA (.int c),AA (.int k),AD] rfl ?_;unfold ag5;dsimp only;∎;refine⟨∅,aa2 ⟨∅,∅⟩,Q7 ⟨∅,∅⟩,∅,?_⟩;∎;have e0:∀z:Int,0<=z % 2147483629/\z % 2147483629<2147483629:=λz=>⟨Iq _ ∅,IA _ ∅⟩;refine⟨⟨∅,∅⟩,Q7 (by have:=e0 (c % 2147483629*48271+7919*k+13);lia),Q7 ⟨∅,∅⟩,∅,?_⟩;∎;refine⟨aa2 ⟨∅,∅⟩,⟨∅,∅⟩,∅,c0 (q _)⟩
def z9{m:Int}(hm:0<m)(h:p9 st a)(q:∀r st',0<=r->r<m->p9 st' a->Kp [a] st st'->Q (.int r) st'):sem P G (n+1) "_law_next" [.ref a,.int m] st Q:=by
 obtain⟨l,h⟩:=h;refine f9 B.next rfl [AA (.ref a),AA (.int m)] rfl ?_;unfold ah4;dsimp only;∎;rw[u0 (.inl h)];rfl';cases l with
 |nil=>
  rw[if_pos ∎];∎;exact c0 (q 0 st (Jz _) hm ⟨[],h⟩ Kp.refl)
 |cons x l=>
  rw[if_neg (by simp only[Ah,Ac];lia)];∎;rw[y0 (.inl h)];refine⟨trivial,⟨∅,∅⟩,_,0,.int x,h,by simp[ixN],rfl,?_⟩;simp only[am8];refine⟨hm,c0 (q _ _ (Iq _ ⋯) (IA _ hm) ⟨l,?_⟩ (Kp.refl.put ∎))⟩;rw[c9];rfl
def ca7{b:Int}{t:Nat}(hb:0<=b/\b<2^64)(ht:t<2^62)(q:Q (.int (b^t)) st):sem P G (n+1) "_law_power" [.int b,.int t] st Q:=by
 refine f9 B.power rfl [AA (.int b),AA (.int t),AD,AD] rfl ?_;unfold ag2;dsimp only;(iterate 2 ∎);refine⟨⋯,?_⟩;refine C8 (λl env st'=>st'=st/\∃(f:Int)(x:Option D),env=[AA (.int b),AA (.int t),AA (.int f),x]/\f*b^l.length=b^t) ?_ ?_ _ _ _ ⟨rfl,1,AD,rfl,by simp[t4]⟩
 ·rintro env st' ⟨rfl,f,x,rfl,e⟩;refine⟨trivial,?_⟩;∎;have:f=b^t:=by rw[<-e];simp
  rw[this];exact c0 q
 ·rintro d ds env st' ih ⟨rfl,f,x,rfl,e⟩;refine⟨trivial,?_⟩;rfl';∎;refine⟨aa2 ⟨⋯,⋯⟩,ih _ _ ⟨rfl,_,_,rfl,?_⟩⟩;rw[<-e,Ac,Jn,Int.mul_assoc,Int.mul_comm b]
def G6:∀(k:Kd){m n:Nat}{Q:DK},k.nest+2<=n->(∀a b,k=.eith a b\/k=.both a b\/k=.way a b->a.bd m/\b.bd m)->m<2^62->Q (.int k.cnt) st->sem P G n "_law_count" [k.d] st Q:=by
 have leaf:∀(w:String)(n:Nat)(Q:DK),Q (.int (if w="one" then 1 else 0)) st->sem P G (n+1) "_law_count" [.tup [.str w]] st Q:=λw n Q q=>by
  refine f9 B.count rfl [AA (.tup [.str w]),AD,AD] rfl ?_;unfold X7;dsimp only;∎;rw[if_pos ∅];∎;exact c0 q
 have node:∀(w:String)(a b:Kd)(n m:Nat)(Q:DK)(v:Nat),(∀Q:DK,Q (.int a.cnt) st->sem P G n "_law_count" [a.d] st Q)->(∀Q:DK,Q (.int b.cnt) st->sem P G n "_law_count" [b.d] st Q)->a.bd m->b.bd m->m<2^62->0<n ->
   (o8 [("either",.int (a.cnt+b.cnt)),("both",.int (a.cnt*b.cnt)),("way",.int ((b.cnt:Int)^a.cnt))] w=AA (.int v))->Q (.int v) st->sem P G (n+1) "_law_count" [.tup [.str w,a.d,b.d]] st Q:=λw a b n m Q v ha hb ba bb hm hn hl q=>by
  obtain⟨n,rfl⟩:∃k,n=k+1:=⟨n-1,⋯⟩;have la:=Kd.bd_le ba;have lb:=Kd.bd_le bb;refine f9 B.count rfl [AA (.tup [.str w,a.d,b.d]),AD,AD] rfl ?_;unfold X7;dsimp only;∎;rw[if_neg ∅];∎;refine⟨by rw[B.count];rfl,ha _ ?_⟩;∎;refine⟨by rw[B.count];rfl,hb _ ?_⟩;∎;refine⟨aa2 ⟨⋯,⋯⟩,by rw[B.power];rfl,ca7 B ⟨⋯,⋯⟩ ⋯ ?_⟩;rfl';exact⟨_,hl,c0 q⟩
 intro k
 induction k with
 |non=>intro m n Q hn _ _ q;obtain⟨n,rfl⟩:∃k,n=k+1:=⟨n-1,⋯⟩;exact leaf "none" n Q q
 |one=>intro m n Q hn _ _ q;obtain⟨n,rfl⟩:∃k,n=k+1:=⟨n-1,⋯⟩;exact leaf "one" n Q q
 |eith a b iha ihb=>
  intro m n Q hn hs hm q;obtain⟨n,rfl⟩:∃k,n=k+1:=⟨n-1,⋯⟩;have⟨ba,bb⟩:=hs a b (.inl rfl);simp only[Kd.nest]at hn;exact node "either" a b n m Q _ (λQ q=>iha ⋯ (λc d e=>by rcases e with e|e|e<;>(subst e;exact⟨ba.1,ba.2.1⟩)) hm q) (λQ q=>ihb ⋯ (λc d e=>by rcases e with e|e|e<;>(subst e;exact⟨bb.1,bb.2.1⟩)) hm q) ba bb hm ⋯ rfl q
 |both a b iha ihb=>
  intro m n Q hn hs hm q;obtain⟨n,rfl⟩:∃k,n=k+1:=⟨n-1,⋯⟩;have⟨ba,bb⟩:=hs a b (.inr (.inl rfl));simp only[Kd.nest]at hn;exact node "both" a b n m Q _ (λQ q=>iha ⋯ (λc d e=>by rcases e with e|e|e<;>(subst e;exact⟨ba.1,ba.2.1⟩)) hm q) (λQ q=>ihb ⋯ (λc d e=>by rcases e with e|e|e<;>(subst e;exact⟨bb.1,bb.2.1⟩)) hm q) ba bb hm ⋯ rfl q
 |way a b iha ihb=>
  intro m n Q hn hs hm q;obtain⟨n,rfl⟩:∃k,n=k+1:=⟨n-1,⋯⟩;have⟨ba,bb⟩:=hs a b (.inr (.inr rfl));simp only[Kd.nest]at hn;exact node "way" a b n m Q _ (λQ q=>iha ⋯ (λc d e=>by rcases e with e|e|e<;>(subst e;exact⟨ba.1,ba.2.1⟩)) hm q) (λQ q=>ihb ⋯ (λc d e=>by rcases e with e|e|e<;>(subst e;exact⟨bb.1,bb.2.1⟩)) hm q) ba bb hm ⋯ rfl q
end
section
variable (B:PB P) 
include B
def ci2:∀(k:Kd){n:Nat}{Q:DK},k.nest+1<=n->Q (.int k.nest) st->sem P G n "_law_nest" [k.d] st Q:=by
 have leaf:∀(w:String)(n:Nat)(Q:DK),Q (.int 0) st->sem P G (n+1) "_law_nest" [.tup [.str w]] st Q:=λw n Q q=>by
  refine f9 B.nest rfl [AA (.tup [.str w])] rfl ?_;unfold X9;dsimp only;∎;rw[if_pos ∅];∎;exact c0 q
 have node:∀(w:String)(a b:Kd)(n:Nat)(Q:DK),(∀Q:DK,Q (.int a.nest) st->sem P G n "_law_nest" [a.d] st Q)->(∀Q:DK,Q (.int b.nest) st->sem P G n "_law_nest" [b.d] st Q) ->
   Q (.int (1+max a.nest b.nest:Nat)) st->sem P G (n+1) "_law_nest" [.tup [.str w,a.d,b.d]] st Q:=λw a b n Q ha hb q=>by
  refine f9 B.nest rfl [AA (.tup [.str w,a.d,b.d])] rfl ?_;unfold X9;dsimp only;∎;rw[if_neg ∅];∎;refine⟨by rw[B.nest];rfl,ha _ ⟨by rw[B.nest];rfl,hb _ ?_⟩⟩;rfl';refine c0 ?_;have e:(1+if(b.nest:Int)>a.nest then(b.nest:Int)else a.nest)=((1+max a.nest b.nest:Nat):Int):=by split<;>lia
  rw[e];exact q
 intro k
 induction k with
 |non=>intro n Q hn q;obtain⟨n,rfl⟩:∃k,n=k+1:=⟨n-1,⋯⟩;exact leaf "none" n Q q
 |one=>intro n Q hn q;obtain⟨n,rfl⟩:∃k,n=k+1:=⟨n-1,⋯⟩;exact leaf "one" n Q q
 |eith a b iha ihb|both a b iha ihb|way a b iha ihb=>
  intro n Q hn q;obtain⟨n,rfl⟩:∃k,n=k+1:=⟨n-1,⋯⟩;simp only[Kd.nest]at hn;exact node _ a b n Q (λQ q=>iha ⋯ q) (λQ q=>ihb ⋯ q) q
end
section
variable (B:PB0 P) 
include B
def Q3{most:Nat}(h1:1<=most)(h2:most<=100):∀(deep:Nat){n:Nat}{st:Sto}{Q:DK},deep+4<=n->p9 st a->(∀(k:Kd)st',k.good->k.bd most->k.nest<=deep->p9 st' a->Kp [a] st st'->Q k.d st')->sem P G n "_law_kind" [.ref a,.int deep,.int most] st Q:=by
 intro deep
 induction deep with
 |zero=>
  intro n st Q hn I q;obtain⟨n,rfl⟩:∃k,n=k+2:=⟨n-2,⋯⟩;refine f9 B.kind rfl [AA (.ref a),AA (.int (0:Nat)),AA (.int most),AD,AD,AD,AD] rfl ?_;unfold G3;dsimp only;∎;refine⟨by rw[B.next];rfl,λp hp=>⟨.int 1,rfl,z9 B ∅ (I.new hp) λr st1 r0 r1 I1 K1=>?_⟩⟩;have e:r=0:=by lia
  subst e;(iterate 2 ∎);intro p1 hp1;rfl';exact c0 (q .one _ trivial h1 (BV _) (I1.new hp1) (((Kp.refl.new hp).trans K1).new hp1))
 |succ deep ih=>
  intro n st Q hn I q;obtain⟨n,rfl⟩:∃k,n=k+2:=⟨n-2,⋯⟩;refine f9 B.kind rfl [AA (.ref a),AA (.int (deep+1:Nat)),AA (.int most),AD,AD,AD,AD] rfl ?_;unfold G3;dsimp only;∎;have hd:(0:Int)<((deep+1:Nat):Int):=by lia
  simp only[hd,if_true];refine⟨by rw[B.next];rfl,λp hp=>⟨.int 6,rfl,z9 B ∅ (I.new hp) λr st1 r0 r1 I1 K1=>?_⟩⟩;have K1:=(Kp.refl.new hp).trans K1;clear hp;∎
  by_cases e0:r=0
  ·subst e0;simp only[if_true];∎;intro p1 hp1;rfl';exact c0 (q .one _ trivial h1 (BV _) (I1.new hp1) (K1.new hp1))
  simp only[e0,if_false]
  by_cases e5:r=5
  ·subst e5;simp only[if_true];∎;intro p1 hp1
   by_cases hm:(1:Int)<most
   ·rfl';simp only[hm,if_true];rfl';exact c0 (q (.eith .one .one) _ (.inl ⟨trivial,trivial⟩) ⟨h1,h1,by show 1+1<=most;lia⟩ (by show 1+max 0 0<=_;lia) (I1.new hp1) (K1.new hp1))
   ·rfl';simp only[hm,if_false];rfl';exact c0 (q .one _ trivial h1 (BV _) (I1.new hp1) (K1.new hp1))
  simp only[e5,if_false];rfl';∎;intro p1 hp1;have I2:=I1.new (u:=.lst [.str "either",.str "both",.str "way",.str "either"]) hp1;have K2:=K1.new (o:=.lst [.str "either",.str "both",.str "way",.str "either"]) hp1;revert I2 K2;generalize b0 st1 p1 (.lst [.str "either",.str "both",.str "way",.str "either"])=st2;intro I2 K2;obtain⟨w,hw,hws⟩:∃w:String,atI [D.str "either",.str "both",.str "way",.str "either"] (r-1)=AA (.str w)/\(w="either"\/w="both"\/w="way"):=by
   obtain rfl|rfl|rfl|rfl:r=1\/r=2\/r=3\/r=4:=by lia
   ·exact⟨"either",rfl,∎⟩
   ·exact⟨"both",rfl,∎⟩
   ·exact⟨"way",rfl,∎⟩
   ·exact⟨"either",rfl,∎⟩
  rw[hw];rfl';∎;have ed:((deep+1:Nat):Int)-1=(deep:Nat):=by lia
  rw[ed];refine⟨by rw[B.kind];rfl,ih ⋯ I2 λka st3 ga ba na I3 K3=>?_⟩;have K3:=K2.trans K3;∎;rw[ed];refine⟨by rw[B.kind];rfl,ih ⋯ I3 λkb st4 gb bb nb I4 K4=>?_⟩;have K4:=K3.trans K4;∎;have fin:∀(w:String)(ka kb k:Kd)(st5:Sto)(x:Option D),k.d=.tup [.str w,ka.d,kb.d]->(w≠"way"->k.good)->(w="way"->k=.way ka kb/\(ka.good\/ka=.non)/\kb.good)->(∀c d,k=.eith c d\/k=.both c d\/k=.way c d->c=ka/\d=kb)->k≠.non->k≠.one->ka.bd most->kb.bd most->ka.nest<=deep->kb.nest<=deep->p9 st5 a->Kp [a] st st5 ->
    g9 (Zg P G (n+1)) (G3.body.drop 6) (j8 Q) [AA (.ref a),AA (.int (deep+1:Nat)),AA (.int most),AA (.int r),AA (.str w),AA ka.d,AA kb.d] st5:=by
   intro w ka kb k st5 x hk hg hw hc hn0 hn1 ba bb na nb I5 K5;have nk:∀k:Kd,(∀c d,k=.eith c d\/k=.both c d\/k=.way c d->c.nest<=deep/\d.nest<=deep)->k.nest<=deep+1:=λk h=>by
    cases k with
    |non=>exact BV _
    |one=>exact BV _
    |eith c d=>have:=h c d (.inl rfl);simp only[Kd.nest];lia
    |both c d=>have:=h c d (.inr (.inl rfl));simp only[Kd.nest];lia
    |way c d=>have:=h c d (.inr (.inr rfl));simp only[Kd.nest];lia
   have last:∀(ka kb k:Kd),k.d=.tup [.str w,ka.d,kb.d]->k.good->(∀c d,k=.eith c d\/k=.both c d\/k=.way c d->c=ka/\d=kb)->k≠.non->k≠.one->ka.bd most->kb.bd most->ka.nest<=deep->kb.nest<=deep ->
     g9 (Zg P G (n+1)) (G3.body.drop 7) (j8 Q) [AA (.ref a),AA (.int (deep+1:Nat)),AA (.int most),AA (.int r),AA (.str w),AA ka.d,AA kb.d] st5:=by
    intro ka kb k hk hg hc hn0 hn1 ba bb na nb;have nk':=nk k λc d e=>by obtain⟨e1,e2⟩:=hc c d e;subst e1 e2;exact⟨na,nb⟩
    simp only[G3,Ss.drop];∎;rw[<-hk];refine⟨by rw[B.count];rfl,G6 B k (m:=most) ⋯ (λc d e=>by obtain⟨e1,e2⟩:=hc c d e;subst e1 e2;exact⟨ba,bb⟩) ⋯ ?_⟩;rfl'
    by_cases hgt:(most:Int)<k.cnt
    ·simp only[hgt,if_true];∎;exact c0 (q .one _ trivial h1 (BV _) I5 K5)
    ·simp only[hgt,if_false];∎;rw[<-hk];refine c0 (q k _ hg ?_ nk' I5 K5);cases k with
     |non=>exact absurd rfl hn0
     |one=>exact absurd rfl hn1
     |eith c d=>obtain⟨e1,e2⟩:=hc c d (.inl rfl);subst e1 e2;exact⟨ba,bb,by have:=hgt;simp only[Kd.cnt]at this;lia⟩
     |both c d=>obtain⟨e1,e2⟩:=hc c d (.inr (.inl rfl));subst e1 e2;exact⟨ba,bb,by have:=hgt;simp only[Kd.cnt]at this;lia⟩
     |way c d=>obtain⟨e1,e2⟩:=hc c d (.inr (.inr rfl));subst e1 e2;exact⟨ba,bb,by have:=hgt;simp only[Kd.cnt]at this;lia⟩
   by_cases ew:w="way"
   ·obtain⟨rfl,gka,gkb⟩:=hw ew;subst ew;simp only[G3,Ss.drop];∎;refine⟨by rw[B.count];rfl,G6 B ka (m:=most) ⋯ (λc d e=>by rcases e with e|e|e<;>(subst e;exact⟨ba.1,ba.2.1⟩)) ⋯ ?_⟩;rfl'
    by_cases h6:(6:Int)<ka.cnt
    ·simp only[h6,if_true];∎;exact last .one kb (.way .one kb) rfl ⟨.inl trivial,gkb,∅⟩ (λc d e=>by rcases e with e|e|e<;>cases e;exact⟨rfl,rfl⟩) ∎ ∎ h1 bb (BV _) nb
    ·simp only[h6,if_false];exact last ka kb (.way ka kb) rfl ⟨gka,gkb,⋯⟩ hc hn0 hn1 ba bb na nb
   ·simp only[G3,Ss.drop];∎;simp only[ew,if_false];exact last ka kb k hk (hg ew) hc hn0 hn1 ba bb na nb
  rcases hws with rfl|rfl|rfl
  ·rfl';refine⟨by rw[B.next];rfl,z9 B ∅ I4 λr5 st5 _ _ I5 K5=>?_⟩;have K5:=K4.trans K5;rfl'
   by_cases h1:r5=1
   ·simp only[h1,if_true];∎;exact fin "either" .non kb (.eith .non kb) st5 AD rfl (λ_=>.inr (.inl ⟨rfl,gb⟩)) (λh=>absurd h ∅) (λc d e=>by rcases e with e|e|e<;>cases e;exact⟨rfl,rfl⟩) ∎ ∎ trivial bb (BV _) nb I5 K5
   ·simp only[h1,if_false];∎;refine⟨by rw[B.next];rfl,z9 B ∅ I5 λr6 st6 _ _ I6 K6=>?_⟩;have K6:=K5.trans K6;rfl'
    by_cases h1:r6=1
    ·simp only[h1,if_true];∎;exact fin "either" ka .non (.eith ka .non) st6 AD rfl (λ_=>.inr (.inr ⟨ga,rfl⟩)) (λh=>absurd h ∅) (λc d e=>by rcases e with e|e|e<;>cases e;exact⟨rfl,rfl⟩) ∎ ∎ ba trivial na (BV _) I6 K6
    ·simp only[h1,if_false];rfl';exact fin "either" ka kb (.eith ka kb) st6 AD rfl (λ_=>.inl ⟨ga,gb⟩) (λh=>absurd h ∅) (λc d e=>by rcases e with e|e|e<;>cases e;exact⟨rfl,rfl⟩) ∎ ∎ ba bb na nb I6 K6
  ·rfl';∎;exact fin "both" ka kb (.both ka kb) st4 AD rfl (λ_=>⟨ga,gb⟩) (λh=>absurd h ∅) (λc d e=>by rcases e with e|e|e<;>cases e;exact⟨rfl,rfl⟩) ∎ ∎ ba bb na nb I4 K4
  ·rfl';refine⟨by rw[B.next];rfl,z9 B ∅ I4 λr5 st5 _ _ I5 K5=>?_⟩;have K5:=K4.trans K5;rfl'
   by_cases h1:r5=1
   ·simp only[h1,if_true];∎;exact fin "way" .non kb (.way .non kb) st5 AD rfl (λh=>absurd rfl h) (λ_=>⟨rfl,.inr rfl,gb⟩) (λc d e=>by rcases e with e|e|e<;>cases e;exact⟨rfl,rfl⟩) ∎ ∎ trivial bb (BV _) nb I5 K5
   ·simp only[h1,if_false];∎;exact fin "way" ka kb (.way ka kb) st5 AD rfl (λh=>absurd rfl h) (λ_=>⟨rfl,.inl ga,gb⟩) (λc d e=>by rcases e with e|e|e<;>cases e;exact⟨rfl,rfl⟩) ∎ ∎ ba bb na nb I5 K5
end
def aj9{ns:List Int}{lo hi:Option Int}:∃ms:List Int,r9 (ns.map D.int) lo hi=ms.map D.int/\ms.length<=ns.length:=by
 refine⟨(ns.drop (HT.sIx (ns.map D.int).length 0 lo)).take (HT.sIx (ns.map D.int).length (ns.map D.int).length hi-HT.sIx (ns.map D.int).length 0 lo),by unfold r9;rw[Ke,Kf],?_⟩;rw[Bl,CS];lia
def ar9{lo:Int}:(t4 lo n).length=n:=by simp[t4]
def cw9{b:Int}{k:Nat}(h:0<b):0<b^k:=by
 induction k with
 |zero=>rw[Int.pow_zero];decide
 |succ k ih=>rw[Jn];exact Int.mul_pos ih h
def b27(ms:List Int)(i:Nat):o5 i (ms.map D.int)=(ms.zipIdx i).map λp=>D.tup [.int (p.2:Nat),.int p.1]:=by
 induction ms generalizing i with
 |nil=>rfl
 |cons m ms ih=>simp only[Ah,o5,ih,List.zipIdx_cons]
section
variable (B:PB0 P) 
include B
def ci8{ns:List Int}(hn:2<=n)(hl:ns.length<=63)(h:rdS st a (ns.map D.int))(q:∀p st',p9 st' p->Kp [] st st'->Q (.ref p) st'):sem P G n "_law_deck" [.ref a] st Q:=by
 obtain⟨n,rfl⟩:∃m,n=m+2:=⟨n-2,⋯⟩;refine f9 B.deck rfl [AA (.ref a),AD,AD,AD,AD,AD] rfl ?_;unfold F0;∎;intro p hp;have hpa:a≠p:=h.elim (λh=>j7 h hp) (λh=>j7 h hp);∎;have h1:rdS (b0 st p (.lst [])) a (ns.map D.int):=h.elim (λh=>.inl (j6 h hp)) (λh=>.inr (j6 h hp));rw[ar1 h1];obtain⟨ms,em,hms⟩:=aj9 (ns:=ns) (lo:=AD) (hi:=AA 63);rw[em];intro s hs;have hsp:p≠s:=j7 c9 hs;have hsa:s≠a:=λz=>by subst z;exact h1.elim (λh=>absurd rfl (j7 h hs)) (λh=>absurd rfl (j7 h hs))
 rfl';refine⟨_,M4,?_⟩;rw[b27];refine C8 (λl env st'=>∃(js:List (Int×Nat))(dk:List Int)(x2 x3 x4 x5:Option D),l=js.map (λp=>D.tup [.int (p.2:Nat),.int p.1])/\env=[AA (.ref a),AA (.ref p),x2,x3,x4,x5]/\st' p=AA (.lst (dk.map D.int))/\dk.length+67*js.length<=67*63/\rdS st' s (ms.map D.int)/\rdS st' a (ns.map D.int)/\Kp [] st st') ?_ ?_ _ _ _ ?_
 ·rintro env st' ⟨js,dk,x2,x3,x4,x5,el,rfl,hd,hb,hrs,hra,K⟩;refine⟨hrs,?_⟩;∎;rw[u0 (.inl hd)];rfl';simp only[AT];refine⟨⋯,?_⟩;refine C8 (λl env st'=>∃(dk:List Int)(x2 x3 x4 x5:Option D),(∀d∈l,∃i:Int,d=.int i)/\env=[AA (.ref a),AA (.ref p),x2,x3,x4,x5]/\st' p=AA (.lst (dk.map D.int))/\dk.length+l.length<=10000/\rdS st' a (ns.map D.int)/\Kp [] st st') ?_ ?_ _ _ _ ⟨dk,_,_,_,_,λd hd=>by simp only[t4,Cs]at hd;obtain⟨i,_,rfl⟩:=hd;exact⟨_,rfl⟩,rfl,hd,by rw[ar9];lia,hra,K⟩
  ·rintro env st' ⟨dk,x2,x3,x4,x5,el,rfl,hd,hb,hra,K⟩;refine⟨trivial,?_⟩;∎;rw[ar1 (.inl hd)];intro r hr;obtain⟨ks,ek,_⟩:=aj9 (ns:=dk) (lo:=AD) (hi:=AA 900);rw[ek];exact c0 (q r _ ⟨ks,c9⟩ (K.new hr))
  ·rintro d ds env st' ih ⟨dk,x2,x3,x4,x5,el,rfl,hd,hb,hra,K⟩;obtain⟨i,rfl⟩:=el d ∎;simp only[Ac]at hb;refine⟨trivial,?_⟩;rfl';∎;rw[y0 (.inl hd),ar1 hra];obtain⟨ks,ek,_⟩:=aj9 (ns:=ns) (lo:=AD) (hi:=AA 63);rw[ek];refine⟨trivial,by rw[B.mixed];rfl,λr hr=>c18 M4 ?_⟩;rfl';refine a07 B _ _ λm=>?_;rw[B2 (j6 hd hr)];refine⟨A7 (by simp only[AT];lia),?_⟩;have hpr:p≠r:=j7 hd hr;refine ih _ _ ⟨dk++[m],_,_,_,_,λd hd=>el d (by simp[hd]),rfl,by rw[c9,Ag];rfl,by simp only[AX,Ac,BH];lia,?_,?_⟩
   ·exact hra.elim (λh=>.inl (c8 (j6 h hr) hpa)) (λh=>.inr (c8 (j6 h hr) hpa))
   ·intro b o nb e;exact c8 (j6 (K b o nb e) hr) (j7 e hp)
 ·rintro d ds env st' ih ⟨js,dk,x2,x3,x4,x5,el,rfl,hd,hb,hrs,hra,K⟩;refine⟨hrs,?_⟩;cases js with
  |nil=>simp at el
  |cons j js=>
   simp only[Ah,Ae]at el;obtain⟨rfl,rfl⟩:=el;simp only[Ac]at hb;obtain⟨c,k⟩:=j;rfl';∎;refine⟨⟨∅,∅,∅⟩,cw9 ∅,?_⟩;have inn:∀(dk:List Int)(num:Int)(st':Sto),st' p=AA (.lst (dk.map D.int))->dk.length+60+67*js.length<=67*63->rdS st' s (ms.map D.int)->rdS st' a (ns.map D.int)->Kp [] st st' ->
     g9 (Zg P G (n+1)) (match F0.body.drop 1 with|.cons (.for _ _ b) _=>b.drop 2|_=>.nil) ⟨t5 (λst'=>rdS st' s (ms.map D.int)) (.tup [2,3]) (g9 (Zg P G (n+1)) (match F0.body.drop 1 with|.cons (.for _ _ b) _=>b|_=>.nil)) ⟨g9 (Zg P G (n+1)) (F0.body.drop 2) (j8 Q),(j8 Q).rt,(j8 Q).bk,(j8 Q).ct⟩ (js.map (λp=>D.tup [.int (p.2:Nat),.int p.1])),(j8 Q).rt,g9 (Zg P G (n+1)) (F0.body.drop 2) (j8 Q),t5 (λst'=>rdS st' s (ms.map D.int)) (.tup [2,3]) (g9 (Zg P G (n+1)) (match F0.body.drop 1 with|.cons (.for _ _ b) _=>b|_=>.nil)) ⟨g9 (Zg P G (n+1)) (F0.body.drop 2) (j8 Q),(j8 Q).rt,(j8 Q).bk,(j8 Q).ct⟩ (js.map (λp=>D.tup [.int (p.2:Nat),.int p.1]))⟩ [AA (.ref a),AA (.ref p),AA (.int (k:Nat)),AA (.int c),AA (.int num),x5] st':=by
    intro dk num st' hd hb hrs hra K;simp only[F0,Ss.drop];∎;refine⟨∅,?_⟩;refine C8 (λl env st'=>∃(dk:List Int)(num:Int)(x5:Option D),env=[AA (.ref a),AA (.ref p),AA (.int (k:Nat)),AA (.int c),AA (.int num),x5]/\st' p=AA (.lst (dk.map D.int))/\dk.length+l.length+67*js.length<=67*63/\rdS st' s (ms.map D.int)/\rdS st' a (ns.map D.int)/\Kp [] st st') ?_ ?_ _ _ _ ⟨dk,num,_,rfl,hd,by rw[ar9];exact hb,hrs,hra,K⟩
    ·rintro env st' ⟨dk,num,x5,rfl,hd,hb,hrs,hra,K⟩;refine⟨trivial,?_⟩;rfl';exact ih _ _ ⟨js,dk,_,_,_,_,rfl,rfl,hd,by simpa using hb,hrs,hra,K⟩
    ·rintro d ds env st' ih2 ⟨dk,num,x5,rfl,hd,hb,hrs,hra,K⟩;refine⟨trivial,?_⟩;simp only[Ac]at hb;rfl';∎
     by_cases h0:0<num
     ·simp only[h0,if_true];∎;rw[y0 (.inl hd)];refine⟨trivial,∅,?_⟩;rw[B2 hd];refine⟨A7 (by simp only[AT];lia),?_⟩;∎;refine⟨⟨∅,∅⟩,ih2 _ _ ⟨dk++[num % 2147483647],_,_,rfl,by rw[c9,Ag];rfl,by simp only[AX,Ac,BH];lia,?_,?_,?_⟩⟩
      ·exact hrs.elim (λh=>.inl (c8 h hsp.symm)) (λh=>.inr (c8 h hsp.symm))
      ·exact hra.elim (λh=>.inl (c8 h hpa)) (λh=>.inr (c8 h hpa))
      ·intro b o nb e;exact c8 (K b o nb e) (j7 e hp)
     ·simp only[h0,if_false];rfl';exact ih2 _ _ ⟨dk,_,_,rfl,hd,⋯,hrs,hra,K⟩
   ∎;refine⟨⟨∅,∅,∅⟩,?_⟩;generalize(if c<0 then -c else c) % (2147483647:Int)^Int.toNat 60=num
   by_cases h18:num<10^Int.toNat 18
   ·simp only[h18,if_true];∎;rw[y0 (.inl hd)];refine⟨trivial,∅,∅,?_⟩;refine G7 (λl acc env' st''=>st''=st'/\∃(ac:List Int)(x:Option D),(∀d∈l,∃i:Int,d=.int i)/\env'=[AA (.int num),AA (.int (k:Nat)),x]/\acc=ac.map D.int/\ac.length+l.length=7) ?_ ?_ _ _ _ _ ⟨rfl,[],AD,λd hd=>by simp only[t4,Cs]at hd;obtain⟨i,_,rfl⟩:=hd;exact⟨_,rfl⟩,rfl,rfl,∅⟩
    ·rintro acc env' st'' ⟨rfl,ac,x,_,rfl,rfl,hac⟩;refine⟨trivial,λr hr=>?_⟩;simp only[BH]at hac;rw[bo2 (j6 hd hr) c9];refine⟨B8 (by simp only[AT];lia),?_⟩;∎;have hpr:p≠r:=j7 hd hr;refine inn (dk++ac) 0 _ (by rw[c9,Ag]) (by simp only[AX];lia) ?_ ?_ ?_
     ·exact hrs.elim (λh=>.inl (c8 (j6 h hr) hsp.symm)) (λh=>.inr (c8 (j6 h hr) hsp.symm))
     ·exact hra.elim (λh=>.inl (c8 (j6 h hr) hpa)) (λh=>.inr (c8 (j6 h hr) hpa))
     ·intro b o nb e;exact c8 (j6 (K b o nb e) hr) (j7 e hp)
    ·rintro d ds acc env' st'' ihc ⟨rfl,ac,x,hi,rfl,rfl,hac⟩;obtain⟨i,rfl⟩:=hi d ∎;refine⟨trivial,?_⟩;rfl';refine⟨by rw[B.mixed];rfl,Q7 ⟨∅,∅⟩,a07 B _ _ λm=>ihc _ _ _ ⟨rfl,ac++[m],_,λd hd=>hi d (by simp[hd]),rfl,by rw[Ag];rfl,by simp only[AX,Ac,BH]at hac ⊢;lia⟩⟩
   ·simp only[h18,if_false];exact inn dk num st' hd ⋯ hrs hra K
 ·refine⟨ms.zipIdx 0,[],AD,AD,AD,AD,rfl,rfl,j6 c9 hs,by simp only[List.length_zipIdx,BH];lia,M4,?_,(Kp.refl.new hp).new hs⟩;exact h1.elim (λh=>.inl (j6 h hs)) (λh=>.inr (j6 h hs))
end
def at3{α:Type}(l:List α):l=[]\/∃l' c,l=l'++[c]:=by
 rcases List.eq_nil_or_concat l with h|⟨l',c,h⟩
 ·exact .inl h
 ·exact .inr ⟨l',c,by rw[h,List.concat_eq_append]⟩
abbrev E7(P:i6)(G:Gs)(n:Nat):D->Spec
 |.fn f=>sem P G n f
 |.clo np N b cs=>J8 P G n np N b cs
 |_=>λ_ _ _=>False
abbrev Cok(P:i6):D->Prop
 |.fn f=>(P f).isSome=AC
 |.clo _ _ _ _=>True
 |_=>False
def N5{ta:Sto->(List D->Sto->Prop)->Prop}{x:D}(h:Cok P x)(q:ta st λds st1=>E7 P G n x ds st1 Q):S6 (Zg P G n) ta st Q x:=by
 cases x<;>first|exact h.elim|exact⟨h,q⟩|exact q
section
variable {T:Type} (subs:T->List T)
inductive Ord:List T->List T->Prop where
 |nil:Ord [] []
 |cons {S l:List T} {c:T}:Ord (S++subs c) l->Ord (S++[c]) (c::l)
inductive Rn:List T->List T->T->Prop where
 |done (t:T):Rn [] [t] t
 |step {h r:T} {l S:List T}:Rn l (S++[h]) r->Rn (h::l) (S++subs h) r
def be5{S l:List T}(h:Ord subs S l):∀{l' S0:List T}{r:T},Rn subs l' (S0++S) r->Rn subs (l.reverse++l') S0 r:=by
 induction h with
 |nil=>intro l' S0 r q;simpa using q
 |@cons S l c _ ih=>
  intro l' S0 r q;rw[DG,Bk];refine ih ?_;rw[<-Bk];refine .step ?_;rw[Bk];exact q
end
def none_of{st':Sto}{p:AI}(K:Kp [] st st')(h:st' p=AD):st p=AD:=by
 cases z:st p with
 |none=>rfl
 |some u=>rw[K.at' z ∎]at h;cases h
def U8{W:Type}{J:W->Sto->Prop}{st':Sto}{p:AI}{s:W}(K:Kp L st st')(hL:∀a∈L,∃o,st a=AA o)(h:st' p=AD)(Js:J s st')(hJL:∀{s st},J s st->∀a∈L,∃o,st a=AA o):st p=AD:=by
 cases z:st p with
 |none=>rfl
 |some u=>
  by_cases hp:p∈L
  ·obtain⟨o,e⟩:=hJL Js p hp;rw[h]at e;cases e
  ·rw[K.at' z hp]at h;cases h
abbrev am4(st st':Sto)(d:D)(xs:List D):Prop:=d=.tup xs\/∃a,d=.ref a/\st a=AD/\st' a=AA (.lst xs)
theorem Q2{T:Type}(f:T->Nat):∀{l:List T}{c:T},c∈l->f c<=(l.map f).sum
 |a::l,c,h=>by
  rw[Ah,Da]
  rcases AL.mp h with rfl|h
  ·lia
  ·have:=Q2 f h;lia
theorem Z8{T:Type}{size:T->Nat}{subs:T->List T}(hsz:∀t,size t=1+((subs t).map size).sum):∀l:List T,l.length<=(l.map size).sum
 |[]=>by simp
 |a::l=>by have:=hsz a;have:=Z8 hsz l;simp only[Ah,Da,Ac];lia
structure PM(P:i6)(G:Gs):Prop where
 mop:P "made_of_parts"=AA X6
 few:P "order_of_few"=AA ae6
 taken:P "taken"=AA am0
 cst:G.cst "FEW"=AA 2000
section
variable (T0:PM P G) {T:Type} {enc:T->D} {subs:T->List T} {size:T->Nat} {DJ:T->Prop}
include T0
def bb7{W:Type}{J:W->Sto->Prop}{le:W->W->Prop}(lr:∀s,le s s)(lt:∀{s t u},le s t->le t u->le s u)(hJ:∀{s st st' dn},J s st->dn∉L->Kp [dn] st st'->J s st'){s0:W}{μ:W->Nat}{B:Nat}(j0:J s0 st)(hJL:∀{s st},J s st->∀a∈L,∃o,st a=AA o)(hsz:∀t,size t=1+((subs t).map size).sum)(hg:∀t,DJ t->∀c∈subs t,DJ c){F:D}(hF:Cok P F)(t:T)(hs:size t<=2000)(hB:μ s0+1<=B)(hgt:DJ t)
  (hp:∀c st' Q s,DJ c->μ s+1<=B->J s st'->Kp L st st'->(∀d s' st2,am4 st' st2 d ((subs c).map enc)->le s s'->μ s'<=μ s->J s' st2->Kp L st' st2->Q d st2)->E7 P G n F [enc c] st' Q)
  (q:∀a st' l s,st a=AD->Ord subs [t] l->(∀c∈l,DJ c)->st' a=AA (.lst (l.map λc=>.tup [enc c,.int (subs c).length]))->le s0 s->μ s<=μ s0->J s st'->Kp L st st'->l.length<=size t->Q (.ref a) st'):sem P G (n+1) "order_of_few" [enc t,F] st Q:=by
 have inL:∀{p:AI},st p=AD->p∉L:=λ{p}hp z=>by
  obtain⟨o,e⟩:=hJL j0 p z;rw[hp]at e;cases e
 refine f9 T0.few rfl [AA (enc t),AA F,AD,AD,AD,AD] rfl ?_;unfold ae6;∎;intro o ho;∎;intro h hh;have hoh:o≠h:=j7 c9 hh;have hsh:st h=AD:=by
  cases z:st h with
  |none=>rfl
  |some u=>rw[j6 z ho]at hh;cases hh
 have hoL:=inL ho;have hhL:=inL hsh;∎;refine b38 (λm env st'=>∃(sw:W)(dn S:List T)(x y:Option D),env=[AA (enc t),AA F,AA (.ref o),AA (.ref h),x,y]/\st' o=AA (.lst (dn.map λc=>.tup [enc c,.int (subs c).length]))/\st' h=AA (.lst (S.map enc))/\(∀l,Ord subs S l->Ord subs [t] (dn++l))/\(∀c∈dn,DJ c)/\(∀c∈S,DJ c)/\(S.map size).sum=m/\dn.length+m=size t/\le s0 sw/\μ sw<=μ s0/\J sw st'/\Kp L st st') ?_ _ _ _ ⟨s0,[],[t],AD,AD,rfl,j6 c9 hh,c9,λl z=>z,∎,by simpa using hgt,rfl,∎,lr s0,AY _,hJ (hJ j0 hoL (Kp.refl.new ho)) hhL (Kp.refl.new hh),(Kp.refl.new ho).new hh⟩;rintro m env st' _ ⟨sw,dn,S,x,y,rfl,h1,h2,h3,gd,gS,h4,h5,hle,hμ,Js,K⟩ ih;rw[cg8];rfl';rw[u0 (.inl h2)];rfl'
 rcases at3 S with rfl|⟨S,c,rfl⟩
 ·rw[if_neg ∎];∎;refine c0 (q o st' dn sw ho ?_ gd h1 hle hμ Js K ⋯);have:=h3 [] .nil;simpa using this
 ·rw[if_pos (by simp only[Ag,Ah,Dj,AX,AT,Ac,BH];lia)];rw[Ag,Ah,Dj]at h2;simp only[Ag,Ah,Dj,Ei,Da,IB]at h4;have sc:=hsz c;have gc:DJ c:=gS c ∎;have hlen:∀l:List T,l.length<=(l.map size).sum:=λl=>by
   induction l with
   |nil=>simp
   |cons a l ih=>have:=hsz a;simp only[Ah,Da,Ac];lia
  have hl3:=hlen S;have hl4:=hlen (subs c);∎;rw[W8 h2];have h1':b0 st' h (.lst (S.map enc)) o=AA (.lst (dn.map λc=>.tup [enc c,.int (subs c).length])):=c8 h1 hoh;∎;refine N5 hF ?_;rfl';have K1:Kp L st (b0 st' h (.lst (S.map enc))):=λb u nb e=>c8 (K b u nb e) (λz=>by rw[z,hsh]at e;cases e);have J1:J sw (b0 st' h (.lst (S.map enc))):=hJ Js hhL (Kp.refl.put ∎);refine hp c _ _ sw gc ⋯ J1 K1 λd sw2 st2 hd hle2 hμ2 Js2 K2=>?_;have o2:=K2.at' h1' hoL;have s2:=K2.at' (c9 (st:=st') (a:=h) (o:=.lst (S.map enc))) hhL;∎;rw[y0 (.inl o2)];have hlenR:∀{R:DK},R (.int (subs c).length) st2->O8 d st2 R:=λ{R}z=>by
   rcases hd with rfl|⟨a,rfl,_,ha⟩
   ·show R _ st2;simpa using z
   ·rw[u0 (.inl ha)];simpa using z
  refine⟨trivial,hlenR ?_⟩;rw[B2 o2];refine⟨A7 (by simp only[AT];lia),?_⟩;∎;have s3:b0 st2 o (.lst ((dn.map λc=>D.tup [enc c,.int (subs c).length])++[.tup [enc c,.int (subs c).length]])) h=AA (.lst (S.map enc)):=c8 s2 hoh.symm;rw[y0 (.inl s3)];have hext:∀{R:DK},R .non (b0 (b0 st2 o (.lst ((dn.map λc=>D.tup [enc c,.int (subs c).length])++[.tup [enc c,.int (subs c).length]]))) h (.lst (S.map enc++(subs c).map enc)))->T8 (.ref h) d (b0 st2 o (.lst ((dn.map λc=>D.tup [enc c,.int (subs c).length])++[.tup [enc c,.int (subs c).length]]))) R:=λ{R}z=>by
   rcases hd with rfl|⟨a,rfl,han,ha⟩
   ·rw[cy9 s3];exact⟨B8 (by simp only[AT];lia),z⟩
   ·have nao:a≠o:=λz=>by rw[z,h1']at han;cases han
    rw[bo2 s3 (c8 ha nao)];exact⟨B8 (by simp only[AT];lia),z⟩
  refine⟨trivial,hext ?_⟩;∎;rw[u0 (.inl (c8 c9 hoh))];rfl';refine⟨2000,T0.cst,?_⟩;rfl';rw[if_neg (by simp only[AX,AT,Ac,BH];lia)];rfl';refine ih ((S++subs c).map size).sum _ _ (by simp only[Ag,Ei];lia) ⟨sw2,dn++[c],S++subs c,_,_,rfl,?_,?_,?_,?_,?_,rfl,?_,lt hle hle2,⋯,hJ (hJ Js2 hoL (Kp.refl.put ∎)) hhL (Kp.refl.put ∎),?_⟩
  ·rw[Ag];exact c8 c9 hoh
  ·rw[Ag];exact c9
  ·intro l hl;have:=h3 (c::l) (.cons hl);simpa using this
  ·intro z hz
   rcases BK.mp hz with hz|hz
   ·exact gd z hz
   ·simp at hz;rw[hz];exact gc
  ·intro z hz
   rcases BK.mp hz with hz|hz
   ·exact gS z (by simp[hz])
   ·exact hg c gc z hz
  ·simp only[AX,Ac,BH,Ag,Ei];lia
  ·intro b u nb e;have eh:b≠h:=λz=>by rw[z,hsh]at e;cases e
   have eo:b≠o:=λz=>by rw[z,ho]at e;cases e
   exact c8 (c8 (K2.at' (K1 b u nb e) nb) eo) eh
def ax6{dn:AI}{ds xs:List D}{m:Nat}(hm:xs.length=m)(hd:st dn=AA (.lst (ds++xs)))(hb:xs.length<=2000)
  (q:∀a st',st a=AD->a≠dn->st' a=AA (.lst xs)->st' dn=AA (.lst ds)->Kp [dn] st st'->Q (.ref a) st'):sem P G (n+1) "taken" [.ref dn,.int m] st Q:=by
 subst hm;refine f9 T0.taken rfl [AA (.ref dn),AA (.int xs.length),AD,AD] rfl ?_;unfold am0;∎;intro o ho;have hod:dn≠o:=j7 hd ho;∎;refine⟨⟨⋯,⋯⟩,?_⟩;refine C8 (λl env st'=>∃(pre suf:List D)(x:Option D),xs=pre++suf/\l.length=pre.length/\(∀d∈l,∃i,d=.int i)/\env=[AA (.ref dn),AA (.int xs.length),AA (.ref o),x]/\st' dn=AA (.lst (ds++pre))/\st' o=AA (.lst suf.reverse)/\Kp [dn] st st') ?_ ?_ _ _ _ ⟨xs,[],AD,∎,by simp[t4],λd hd=>by simp[t4]at hd;obtain⟨i,_,rfl⟩:=hd;exact⟨_,rfl⟩,rfl,by rw[j6 hd ho],c9,Kp.refl.new ho⟩
 ·rintro env st' ⟨pre,suf,x,e,hl,_,rfl,h1,h2,K⟩;have:pre=[]:=by simpa using hl.symm
  subst this;simp only[Ck]at e;subst e;refine⟨trivial,?_⟩;∎;rw[cy5 h2];∎;refine c0 (q o _ ho (λz=>hod z.symm) ?_ (c8 (by simpa using h1) hod) λb u nb e=>c8 (K b u nb e) (λz=>by rw[z,ho]at e;cases e));rw[c9,HL]
 ·rintro d0 dl env st' ih ⟨pre,suf,x,e,hl,hi,rfl,h1,h2,K⟩;obtain⟨i,rfl⟩:=hi d0 ∎
  rcases at3 pre with rfl|⟨pre,c,rfl⟩
  ·simp at hl
  refine⟨trivial,?_⟩;rfl';∎;rw[y0 (.inl h2),W8 (by rw[h1,Bk]:st' dn=AA (.lst ((ds++pre)++[c])))];have h2':b0 st' dn (.lst (ds++pre)) o=AA (.lst suf.reverse):=c8 h2 hod.symm;rw[B2 h2'];have hle:suf.length<=xs.length:=by rw[e];simp;lia
  refine⟨trivial,A7 (by rw[Ep];lia),?_⟩;rfl';refine ih _ _ ⟨pre,c::suf,_,by rw[e];simp,by simp at hl ⊢;lia,λd hd=>hi d (by simp[hd]),rfl,c8 c9 hod,by rw[c9,DG],λb u nb e=>c8 (c8 (K b u nb e) (λz=>nb (by simp[z]))) (λz=>by rw[z,ho]at e;cases e)⟩
def a69{W:Type}{J:W->Sto->Prop}{le:W->W->Prop}(lr:∀s,le s s)(lt:∀{s t u},le s t->le t u->le s u)(hJ:∀{s st st' dn},J s st->dn∉L->Kp [dn] st st'->J s st')(hsz:∀t,size t=1+((subs t).map size).sum)(hg:∀t,DJ t->∀c∈subs t,DJ c){F M:D}(hF:Cok P F)(hM:Cok P M)(t:T)(hs:size t<=2000)(hgt:DJ t){V:AI->W->T->D->Sto->Prop}(hV:∀{dn s s' k d st st'},V dn s k d st->le s s'->Kp (dn::L) st st'->V dn s' k d st')
  {s0:W} {μ:W->Nat} {B:Nat} (hB:μ s0+size t<=B) (j0:J s0 st) (hJL:∀{s st},J s st->∀a∈L,∃o,st a=AA o)
  (hp:∀c st' Q s,DJ c->μ s+1<=B->J s st'->Kp L st st'->(∀d s' st2,am4 st' st2 d ((subs c).map enc)->le s s'->μ s'<=μ s->J s' st2->Kp L st' st2->Q d st2)->E7 P G n F [enc c] st' Q)
  (hm:∀c dn la st' Q ds s,DJ c->μ s+1<=B->J s st'->Kp L st st'->st dn=AD->la∉L->la≠dn->st la=AD->st' la=AA (.lst ds)->ds.length=(subs c).length->(∀(i:Nat)c' d,(subs c)[i]?=AA c'->ds[i]?=AA d->V dn s c' d st')->(∃xs,st' dn=AA (.lst xs))->(∀d s' st2,V dn s' c d st2->le s s'->μ s'<=μ s+1->J s' st2->Kp L st' st2->Q d st2)->E7 P G (n+1) M [enc c,.ref la] st' Q)
  (q:∀dn d s' st',st dn=AD->V dn s' t d st'->le s0 s'->μ s'<=B->J s' st'->Kp L st st'->Q d st'):sem P G (n+2) "made_of_parts" [enc t,F,M] st Q:=by
 have hL:=hJL j0;refine f9 T0.mop rfl [AA (enc t),AA F,AA M,AD,AD,AD,AD] rfl ?_;unfold X6;∎;refine⟨by rw[T0.few];rfl,bb7 T0 (DJ:=λc=>DJ c/\size c<=2000) (J:=J) (s0:=s0) lr lt hJ (μ:=μ) (B:=B) j0 hJL hsz (λc gc c' hc'=>⟨hg c gc.1 c' hc',BC (Q2 size hc') (by have:=hsz c;have:=gc.2;lia)⟩) hF t hs (by have:=hsz t;lia) ⟨hgt,hs⟩ (λc st' Q s gc=>hp c st' Q s gc.1) λoa st1 l s1 hoa0 hord gl hoa hle1 hμ1 Js1 K1 hl=>?_⟩;∎;refine .inr ⟨nofun,?_⟩;rfl';∎;intro dn hdn;have hod:oa≠dn:=j7 hoa hdn;have hdn0:st dn=AD:=U8 K1 hL hdn Js1 hJL;have hdL:dn∉L:=λz=>by obtain⟨o,e⟩:=hL dn z;rw[hdn0]at e;cases e
 have hoL:oa∉L:=λz=>by obtain⟨o,e⟩:=hL oa z;rw[hoa0]at e;cases e
 ∎;refine⟨_,.inl (j6 hoa hdn),?_⟩;rw[<-IY];have K1':Kp L st (b0 st1 dn (.lst [])):=K1.new hdn;have J1:J s1 (b0 st1 dn (.lst [])):=hJ Js1 hdL (Kp.refl.new hdn);have kdn:∀(u:Ob)(st2:Sto),Kp L st st2->Kp L st (b0 st2 dn u):=λu st2 K b o nb e=>c8 (K b o nb e) (λz=>by rw[z,hdn0]at e;cases e);refine C8 (λll env st'=>∃(s:W)(i7 S:List T)(ds:List D)(x5 x6:Option D),ll=i7.map (λc=>D.tup [enc c,.int (subs c).length])/\(∀c∈i7,DJ c/\size c<=2000)/\Rn subs i7 S t/\env=[AA (enc t),AA F,AA M,AA (.ref oa),AA (.ref dn),x5,x6]/\st' dn=AA (.lst ds)/\ds.length=S.length/\S.length+i7.length<=100000/\(∀(i:Nat)c d,S[i]?=AA c->ds[i]?=AA d->V dn s c d st')/\st' oa=AA (.lst (l.map λc=>.tup [enc c,.int (subs c).length]))/\J s st'/\le s0 s/\μ s+i7.length<=B/\Kp L st st') ?_ ?_ _ _ _ ⟨s1,l.reverse,[],[],AD,AD,rfl,λc hc=>gl c (by simpa using hc),by simpa using be5 subs hord (.done t) (S0:=[]) ,rfl,c9,rfl,by simp;lia,∎,j6 hoa hdn,J1,hle1,by rw[Ep];lia,K1'⟩
 ·rintro env st' ⟨s,i7,S,ds,x5,x6,el,_,hr,rfl,hd,hl',_,hv,hoa',Js,hle,hμ,K⟩;have es:i7=[]:=by simpa using el.symm
  subst es;refine⟨.inl hoa',?_⟩;cases hr;obtain⟨d,rfl⟩:∃d,ds=[d]:=by match ds,hl' with|[d],_=>exact⟨d,rfl⟩
  ∎;rw[l6 (.inl hd)];exact⟨d,rfl,c0 (q dn d s st' hdn0 (hv 0 t d rfl rfl) hle ⋯ Js K)⟩
 ·rintro d0 dl env st' ih ⟨s,i7,S,ds,x5,x6,el,hin,hr,rfl,hd,hl',hb,hv,hoa',Js,hle,hμ,K⟩;refine⟨.inl hoa',?_⟩;cases i7 with
  |nil=>simp at el
  |cons h i7=>
   simp only[Ah,Ae]at el;obtain⟨rfl,rfl⟩:=el;simp only[Ac]at hb hμ;have gh:DJ h:=(hin h ∎).1;cases hr with
   |@step _ _ _ S hr=>
   simp only[AX]at hl' hb;obtain⟨ds,xs,rfl,hlS,hlx⟩:∃ds' xs,ds=ds'++xs/\ds'.length=S.length/\xs.length=(subs h).length:=⟨ds.take S.length,ds.drop S.length,(DQ _ _).symm,by rw[Bl];lia,by rw[CS];lia⟩;have hss:(subs h).length<=2000:=by
    have h1:=(hin h ∎).2;have h2:=hsz h;have h3:=Z8 hsz (subs h);lia
   have vx:∀(i:Nat)c' d,(subs h)[i]?=AA c'->xs[i]?=AA d->V dn s c' d st':=λi c' d e1 e2=>hv (S.length+i) c' d (by rw[Af ⋯];rw[show S.length+i-S.length=i by lia];exact e1) (by rw[Af ⋯,hlS];rw[show S.length+i-S.length=i by lia];exact e2);have vS:∀(i:Nat)c' d,S[i]?=AA c'->ds[i]?=AA d->V dn s c' d st':=λi c' d e1 e2=>hv i c' d (by rw[Aa (AR.mp e1).1];exact e1) (by rw[Aa (AR.mp e2).1];exact e2);have main:∀la st2,la∉L->la≠dn->st la=AD->st2 la=AA (.lst xs)->st2 dn=AA (.lst ds)->Kp [dn] st' st2->E7 P G (n+1) M [enc h,.ref la] st2 λd st3=>U0 (.ref dn) d st3 λ_ st4=>t5 (λst'=>rdS st' oa (l.map λc=>.tup [enc c,.int (subs c).length])) (.tup [5,6]) (g9 (Zg P G (n+1)) (.cons (.ex (.app (.v 4) (.callv 2 (.cons (.v 5) (.cons (.ite (.cmp .Gt (.v 6) (.int 0)) (.call "taken" (.cons (.v 4) (.cons (.v 6) .nil))) (.lst .nil)) .nil))))) .nil)) ⟨g9 (Zg P G (n+1)) (.cons (.ret (.ix (.v 4) (.int 0))) .nil) (j8 Q),(j8 Q).rt,(j8 Q).bk,(j8 Q).ct⟩ (i7.map λc=>D.tup [enc c,.int (subs c).length]) [AA (enc t),AA F,AA M,AA (.ref oa),AA (.ref dn),AA (enc h),AA (.int (subs h).length)] st4:=λla st2 hla hne hl0 hl2 hd2 K2=>by
    have KK:Kp L st st2:=λb u nb e=>K2.at' (K b u nb e) (by simp;exact λz=>by rw[z,hdn0]at e;cases e);refine hm h dn la st2 _ xs s gh ⋯ (hJ Js hdL K2) KK hdn0 hla hne hl0 hl2 hlx (λi c' d e1 e2=>hV (vx i c' d e1 e2) (lr s) (K2.more ∎)) ⟨_,hd2⟩ λd s' st3 vd hle' hμ' Js' K3=>?_;have hd3:=K3.at' hd2 hdL;rw[B2 hd3];refine⟨A7 ⋯,?_⟩;refine ih _ _ ⟨s',i7,S++[h],ds++[d],_,_,rfl,λc hc=>hin c (by simp[hc]),hr,rfl,c9,by simp[hlS],by simp;lia,λi c' d' e1 e2=>?_,c8 (K3.at' (K2.at' hoa' (by simpa using hod)) hoL) hod,hJ Js' hdL (Kp.refl.put ∎),lt hle hle',⋯,kdn _ _ (KK.trans K3)⟩
    by_cases hi:i<S.length
    ·rw[Aa hi]at e1;rw[Aa ⋯]at e2;exact hV (hV (hV (vS i c' d' e1 e2) (lr s) (K2.more ∎)) hle' (K3.more (by intro x hx;simp[hx]))) (lr s') (Kp.refl.put ∎)
    ·rw[Af ⋯]at e1;rw[Af ⋯]at e2;have hi0:i-S.length=0:=by
      have:=(AR.mp e1).1;simp at this;lia
     rw[hi0]at e1;rw[show i-ds.length=0 by lia]at e2;cases e1;cases e2;exact hV vd (lr s') (Kp.refl.put ∎)
   have inL:∀{p:AI},st' p=AD->p∉L:=λ{p}hp z=>by
    obtain⟨o,e⟩:=hJL Js p z;rw[hp]at e;cases e
   rfl';∎;rw[y0 (.inl hd)];refine⟨trivial,N5 hM ?_⟩;rfl'
   by_cases h0:(subs h).length=0
   ·rw[if_neg ⋯];intro la hla;have exs:xs=[]:=Az ⋯;subst exs;exact main la _ (inL hla) (j7 hd hla).symm (U8 K hL hla Js hJL) c9 (j6 (by simpa using hd) hla) (Kp.refl.new hla)
   ·rw[if_pos ⋯];refine⟨by rw[T0.taken];rfl,?_⟩;exact ax6 T0 hlx hd ⋯ λla st2 hla hne hl2 hd2 K2=>main la st2 (inL hla) hne (U8 K hL hla Js hJL) hl2 hd2 K2
end
structure PT0(P:i6)(G:Gs):Prop extends PM P G where
 bu:P "built_up"=AA d_built_up
variable{x r h h' w':Int}{ds fr xs A:List D}{i n m u l:Nat}{P:i6}{G:Gs}{st st':Sto}{Q:DK}{sh dn sa pa wa a b da ca ka la ba aa:AI}{c p o:Pg}{L X R:List AI}{w:String}{Γ ks Δ:List Kd}{f:Nat->Nat->Option Pg}{ws ws':List (Kd×Bool)}{kd' nd kd nm md:D}
mutual
noncomputable def D.lit:D->Bool
 |.int _=>AC
 |.str x=>EM (.str x)
 |.tup ds=>D.lits ds
 |_=>AE
noncomputable def D.lits:List D->Bool
 |[]=>AC
 |d::r=>d.lit&&D.lits r
end
mutual
theorem ai9:∀d:D,d.lit=AC->d.pure=AC
 |.int _,_=>rfl
 |.str _,h=>h
 |.tup ds,h=>by rw[N6];exact at1 ds h
 |.non,h=>nomatch h
 |.bl _,h=>nomatch h
 |.ref _,h=>nomatch h
 |.fn _,h=>nomatch h
theorem at1:∀ds:List D,D.lits ds=AC->D.pures ds=AC
 |[],_=>rfl
 |d::r,h=>by
  have h':d.lit=AC/\D.lits r=AC:=by simpa[D.lits]using h
  rw[G4,ai9 d h'.1,at1 r h'.2];rfl
end
mutual
theorem al3:∀x y:D,x.lit=AC->y.lit=AC->(deq x y=AC↔x=y)
 |.int i,y,hx,hy=>by
  cases y<;>first|(simp[D.lit]at hy;done)|skip
  ·rw[Z7];simp
  ·constructor
   ·intro h;simp[deq,D.py,Ar]at h
   ·intro h;cases h
  ·constructor
   ·intro h;simp[deq,D.py,Ar]at h
   ·intro h;cases h
 |.str x,y,hx,hy=>by
  cases y<;>first|(simp[D.lit]at hy;done)|skip
  ·constructor
   ·intro h;simp[deq,D.py,Ar]at h
   ·intro h;cases h
  ·rw[u5];simp
  ·constructor
   ·intro h;simp[deq,D.py,Ar]at h
   ·intro h;cases h
 |.tup xs,y,hx,hy=>by
  cases y<;>first|(simp[D.lit]at hy;done)|skip
  ·constructor
   ·intro h;simp[deq,D.py,Ar]at h
   ·intro h;cases h
  ·constructor
   ·intro h;simp[deq,D.py,Ar]at h
   ·intro h;cases h
  ·rename_i ys;rw[w8,ax7 xs ys hx hy];simp
 |.non,y,hx,hy=>nomatch hx
 |.bl _,y,hx,hy=>nomatch hx
 |.ref _,y,hx,hy=>nomatch hx
 |.fn _,y,hx,hy=>nomatch hx
theorem ax7:∀xs ys:List D,D.lits xs=AC->D.lits ys=AC->(t0 xs ys=AC↔xs=ys)
 |[],[],_,_=>by simp[t0]
 |[],y::ys,_,_=>by simp[t0]
 |x::xs,[],_,_=>by simp[t0]
 |x::xs,y::ys,hx,hy=>by
  have h1:x.lit=AC/\D.lits xs=AC:=by simpa[D.lits]using hx
  have h2:y.lit=AC/\D.lits ys=AC:=by simpa[D.lits]using hy
  rw[t0,Au,al3 x y h1.1 h2.1,ax7 xs ys h1.2 h2.2,Ae]
end
def cc0{x:D}(hx:x.lit=AC):deq x x=AC:=(al3 x x hx hx).mpr rfl
def Y4:D.lits ds=AC↔∀d∈ds,d.lit=AC:=by
 induction ds with
 |nil=>simp[D.lits]
 |cons d r ih=>simp[D.lits,ih]
def A8(s:String):(D.str (AV s)).lit=AC:=C6 s
def am2:(D.tup ds).lit=D.lits ds:=rfl
def aw2{d:D}{r:List D}:D.lits (d::r)=(d.lit&&D.lits r):=rfl
def b85:D.lits []=AC:=rfl
theorem ai4{α:Type}:∀{l:List α},l.Nodup->∀(i j:Nat)(x:α),l[i]?=AA x->l[j]?=AA x->i=j
 |[],_,i,j,x,h,_=>by simp at h
 |a::l,hn,i,j,x,hi,hj=>by
  have hn':=BL.mp hn;cases i with
  |zero=>
   cases j with
   |zero=>rfl
   |succ j=>
    simp at hi;subst hi;exact absurd (BN (by simpa using hj)) hn'.1
  |succ i=>
   cases j with
   |zero=>
    simp at hj;subst hj;exact absurd (BN (by simpa using hi)) hn'.1
   |succ j=>rw[ai4 hn'.2 i j x (by simpa using hi) (by simpa using hj)]
structure PSh(P:i6)(G:Gs):Prop extends PM P G where
 init:P (c7 "Shelf" "__init__")=AA ad0
 laid:P (c7 "Shelf" "laid")=AA af8
 numb:P (c7 "Shelf" "numbered")=AA ac8
 tup:P (c7 "Shelf" "tuple_at")=AA ad1
 word:P (c7 "Shelf" "word_at")=AA ad2
 wthn:P (c7 "Shelf" "within")=AA ae7
 tin:P "tuples_in"=AA ag6
 cls:G.cls "Shelf"=[("numbers":Str),("stored":Str),("parts":Str),("waiting":Str)]
 kt:G.cls "!kt"≠[]
abbrev z7(ns:List Nat):D:=.tup (ns.map λ(n:Nat)=>D.int (n:Int))
structure It3 where
 fr:List D
 ns:List Nat
 t:D
variable{e:It3}{S':List It3}
abbrev It3.key(e:It3):D:=.tup [.tup e.fr,z7 e.ns]
inductive Lay:D->Prop where
 |mk {fr inn:List D}:(∀d∈fr,∃s:String,d=.str s)->(∀d∈inn,Lay d)->fr.length<=10->inn.length<=1000->Lay (.tup (fr++inn))
structure Wf(S:List It3):Prop where
 wh:∀(i:Nat)(e:It3),S[i]?=AA e->(∀d∈e.fr,∃s:String,d=.str s)/\∃inn,e.t=.tup (e.fr++inn)/\inn.length=e.ns.length/\∀(j n:Nat),e.ns[j]?=AA n->n<i/\∃e',S[n]?=AA e'/\inn[j]?=AA e'.t
 nd:(S.map It3.key).Nodup
structure ShA(sh dn sa pa wa:AI)(S:List It3)(st:Sto):Prop where
 ins:st sh=AA (.ins "Shelf" [(("numbers":Str),D.ref dn),(("stored":Str),D.ref sa),(("parts":Str),D.ref pa),(("waiting":Str),D.ref wa)])
 num:st dn=AA (.dtt (S.mapIdx λi e=>(e.key.py,.int i)))
 sto:st sa=AA (.lst (S.map It3.t))
 par:st pa=AA (.lst (S.map λe=>z7 e.ns))
 wai:∃o,st wa=AA o
 wf:Wf S
 ml:S.length<=1000000
 fl:∀e∈S,e.fr.length<=10/\e.ns.length<=1000
def a95{fr' inn inn':List D}(h1:∀d∈fr,∃s:String,d=.str s)(h2:∀d∈fr',∃s:String,d=.str s)(h3:∀d∈inn,∃l,d=.tup l)(h4:∀d∈inn',∃l,d=.tup l)(h:fr++inn=fr'++inn'):fr=fr'/\inn=inn':=by
 induction fr generalizing fr' with
 |nil=>
  cases fr' with
  |nil=>exact⟨rfl,h⟩
  |cons x fr'=>
   obtain⟨s,rfl⟩:=h2 x ∎;rw[Ck,CD]at h;obtain⟨l,e⟩:=h3 (.str s) (by rw[h];simp);cases e
 |cons x fr ih=>
  cases fr' with
  |nil=>
   obtain⟨s,rfl⟩:=h1 x ∎;rw[Ck,CD]at h;obtain⟨l,e⟩:=h4 (.str s) (by rw[<-h];simp);cases e
  |cons y fr'=>
   rw[CD,CD,Ae]at h;obtain⟨rfl,h⟩:=h;obtain⟨rfl,rfl⟩:=ih (λd hd=>h1 d (by simp[hd])) (λd hd=>h2 d (by simp[hd])) h;exact⟨rfl,rfl⟩
theorem Wf.inn{S:List It3}(w:Wf S)(h:S[i]?=AA e):∃inn,e.t=.tup (e.fr++inn)/\inn.length=e.ns.length/\(∀d∈inn,∃l,d=.tup l)/\∀(j n:Nat),e.ns[j]?=AA n->n<i/\∃e',S[n]?=AA e'/\inn[j]?=AA e'.t:=by
 obtain⟨_,inn,h1,h2,h3⟩:=w.wh i e h;refine⟨inn,h1,h2,λd hd=>?_,h3⟩;obtain⟨j,hj⟩:=EZ.mp hd;have hjl:j<e.ns.length:=by rw[<-h2];exact(AR.mp hj).1
 obtain⟨_,e',he',hi⟩:=h3 j _ (AJ hjl);rw[hj]at hi;obtain⟨_,inn',h1',_⟩:=w.wh _ e' he';cases hi;exact⟨_,h1'⟩
def Wf.inj{S:List It3}(w:Wf S):∀(m:Nat){i j:Nat}{e e':It3},i<=m->S[i]?=AA e->S[j]?=AA e'->e.t=e'.t->i=j:=by
 intro m
 induction m using Nat.strongRecOn with
 |ind m ih=>
 intro i j e e' him hi hj ht;obtain⟨inn,h1,h2,h3,h4⟩:=w.inn hi;obtain⟨inn',h1',h2',h3',h4'⟩:=w.inn hj;rw[h1,h1']at ht;have ht':e.fr++inn=e'.fr++inn':=by injection ht
 obtain⟨ef,ei⟩:=a95 (w.wh i e hi).1 (w.wh j e' hj).1 h3 h3' ht';subst ei;have en:e.ns=e'.ns:=by
  refine Dl λk=>?_
  by_cases hk:k<e.ns.length
  ·have hk':k<e'.ns.length:=by rw[<-h2',h2];exact hk
   obtain⟨l1,f,hf,g1⟩:=h4 k _ (AJ hk);obtain⟨l2,f',hf',g2⟩:=h4' k _ (AJ hk');rw[g1]at g2;have:=ih e.ns[k] ⋯ (AY _) hf hf' (by injection g2);rw[AJ hk,AJ hk',this]
  ·rw[Bf ⋯,Bf (by rw[<-h2',h2];lia)]
 have ek:e.key=e'.key:=by unfold It3.key;rw[ef,en]
 exact ai4 w.nd i j e.key (by rw[Al,hi];rfl) (by rw[Al,hj,ek];rfl)
mutual
theorem aa1:∀d:D,d.lit=AC->NK.lit d.py=AC
 |.int _,_=>rfl
 |.str _,h=>h
 |.tup ds,h=>a76 ds h
 |.non,h=>nomatch h
 |.bl _,h=>nomatch h
 |.ref _,h=>nomatch h
 |.fn _,h=>nomatch h
theorem a76:∀ds:List D,D.lits ds=AC->NK.lits (D.pys ds)=AC
 |[],_=>rfl
 |d::r,h=>by
  have h':d.lit=AC/\D.lits r=AC:=by simpa[D.lits]using h
  show(NK.lit d.py&&NK.lits (D.pys r))=AC;rw[aa1 d h'.1,a76 r h'.2];rfl
end
def bj6{x y:D}(hx:x.lit=AC)(hy:y.lit=AC)(h:x.py=y.py):x=y:=by
 refine(al3 x y hx hy).mp ?_;unfold deq;rw[h];exact(NK.eqv_lit _ _ (aa1 y hy) (aa1 y hy)).mpr rfl
def ba2(h:∀d∈e.fr,∃s:String,d=.str s):e.key.lit=AC:=by
 have h1:D.lits e.fr=AC:=Y4.mpr λd hd=>by obtain⟨s,rfl⟩:=h d hd;exact A8 s
 have h2:(z7 e.ns).lit=AC:=Y4.mpr λd hd=>by
  obtain⟨n,_,rfl⟩:=Cs.mp hd;rfl
 show D.lits [.tup e.fr,z7 e.ns]=AC;rw[aw2,aw2,b85,am2,h1,h2];rfl
def cv5(h:∀d∈e.fr,∃s:String,d=.str s):l5 e.key<=2:=by
 unfold It3.key;rw[o4];have h1:l7 e.fr<=0:=by
  generalize e.fr=l at h
  induction l with
  |nil=>exact AY _
  |cons d l ih=>
   obtain⟨s,rfl⟩:=h d ∎;have:=ih λd hd=>h d (by simp[hd]);show max (l5 (.str s)) (l7 l)<=0;rw[l8];lia
 have h2:∀ns:List Nat,l7 (ns.map λ(n:Nat)=>D.int (n:Int))<=0:=λns=>by
  induction ns with
  |nil=>exact AY _
  |cons n ns ih=>
   show max (l5 (.int n)) (l7 _)<=0;rw[O3];lia
 have h3:=h2 e.ns;show max (l5 (.tup e.fr)) (max (l5 (z7 e.ns)) 0)+1<=2;unfold z7;rw[o4,o4];lia
theorem av0:∀(S:List It3)(k:D)(o:Nat),(∀e∈S,e.key.py≠k.py)->B9 (S.mapIdx λi e=>(e.key.py,D.int ((o+i:Nat):Int))) k.py=AD
 |[],k,o,_=>by simp[B9]
 |e::S,k,o,h=>by
  have:=av0 S k (o+1) λe' he=>h e' (by simp[he]);rw[IZ];unfold B9 at this ⊢;rw[Bi,decide_eq_false (h e ∎)];simp only;simpa[ES,KH 1]using this
theorem aw6:∀(S:List It3)(k:D)(o i:Nat)(e:It3),S[i]?=AA e->e.key.py=k.py->(∀j e',j<i->S[j]?=AA e'->e'.key.py≠k.py)->B9 (S.mapIdx λi e=>(e.key.py,D.int ((o+i:Nat):Int))) k.py=AA (.int ((o+i:Nat):Int))
 |[],k,o,i,e,h,_,_=>by simp at h
 |x::S,k,o,0,e,h,hk,_=>by
  simp at h;subst h;rw[IZ];unfold B9;rw[Bi,decide_eq_true hk];rfl
 |x::S,k,o,i+1,e,h,hk,hj=>by
  have:=aw6 S k (o+1) i e (by simpa using h) hk λj e' hji he'=>hj (j+1) e' ⋯ (by simpa using he');rw[IZ];unfold B9 at this ⊢;rw[Bi,decide_eq_false (hj 0 x ⋯ rfl)];simp only;simpa[ES,KH 1]using this
def b57:∀{a b:List Nat},z7 a=z7 b->a=b:=by
 intro a b h;unfold z7 at h;injection h with h
 induction a generalizing b with
 |nil=>cases b with
  |nil=>rfl
  |cons y b=>simp at h
 |cons x a ih=>cases b with
  |nil=>simp at h
  |cons y b=>
   rw[Ah,Ah,Ae]at h;have hx:x=y:=by have h1:=h.1;injection h1 with h1;lia
   rw[hx,ih h.2]
def cu7{S:List It3}{ns:List Nat}{x y:List D}(hx:x.length=ns.length)(hy:y.length=ns.length)(h1:∀(j n:Nat),ns[j]?=AA n->∃e,S[n]?=AA e/\x[j]?=AA e.t)(h2:∀(j n:Nat),ns[j]?=AA n->∃e,S[n]?=AA e/\y[j]?=AA e.t):x=y:=by
 refine Dl λj=>?_
 by_cases hj:j<ns.length
 ·obtain⟨e,he,g1⟩:=h1 j _ (AJ hj);obtain⟨e',he',g2⟩:=h2 j _ (AJ hj);rw[he]at he';cases he';rw[g1,g2]
 ·rw[Bf ⋯,Bf ⋯]
section
variable (T:PSh P G)
include T
def as9{S:List It3}(A:ShA sh dn sa pa wa S st)(hd:[sh,dn,sa,pa].Nodup){inn:List D}{ns:List Nat}(hfr:∀d∈fr,∃s:String,d=.str s)(hlen:inn.length=ns.length)(hns:∀(j n:Nat),ns[j]?=AA n->∃e,S[n]?=AA e/\inn[j]?=AA e.t)(b1:fr.length<=10)(b2:ns.length<=1000)(b3:S.length<1000000)
  (q:∀m S' st',ShA sh dn sa pa wa S' st'->S <+: S'->S'.length<=S.length+1->S'[m]?=AA ⟨fr,ns,.tup (fr++inn)⟩->Kp [dn,sa,pa] st st'->Q (.int (m:Nat)) st'):sem P G (n+1) (c7 "Shelf" "numbered") [.ref sh,.tup fr,z7 ns] st Q:=by
 obtain⟨E,hE⟩:∃E:It3,E=⟨fr,ns,.tup (fr++inn)⟩:=⟨_,rfl⟩;have hk:E.key=.tup [.tup fr,z7 ns]:=by rw[hE];rfl
 have hlE:=ba2 (e:=E) (by rw[hE];exact hfr);have hdE:=cv5 (e:=E) (by rw[hE];exact hfr);have hkey:D.key (.tup [.tup fr,z7 ns]):=by
  rw[<-hk];exact⟨aa1 _ hlE,BC hdE ∅⟩
 have hlS:∀e∈S,e.key.lit=AC:=λe he=>by
  obtain⟨i,hi⟩:=EZ.mp he;exact ba2 (A.wf.wh i e hi).1
 have hidx:(S.mapIdx λi e=>(e.key.py,D.int i))=S.mapIdx λi e=>(e.key.py,D.int ((0+i:Nat):Int)):=by
  congr 1;funext i e;rw[HG]
 refine f9 T.numb rfl [AA (.ref sh),AA (.tup fr),AA (z7 ns),AD,AD] rfl ?_;unfold ac8;(iterate 2 ∎);refine⟨sh,"Shelf",_,.ref dn,rfl,A.ins,by show _∈G.cls "Shelf";rw[T.cls];simp,rfl,⟨_,A.num⟩,_,A.num,hkey,?_⟩;rw[<-hk]
 by_cases hex:∃(i:Nat)(e:It3),S[i]?=AA e/\e.key=E.key
 ·obtain⟨i,e,hi,he⟩:=hex;have hl:B9 (S.mapIdx λi e=>(e.key.py,D.int i)) E.key.py=AA (.int i):=by
   rw[hidx,aw6 S E.key 0 i e hi (by rw[he]) λj e' hj he' z=>?_,HG];have hz:=bj6 (hlS e' (BN he')) hlE z;have:=ai4 A.wf.nd j i E.key (by rw[Al,he'];exact congrArg AA hz) (by rw[Al,hi];exact congrArg AA he);lia
  rw[hl];∎;refine .inr ⟨nofun,?_⟩;rfl';∎;refine c0 (q i S st A (CH S) ⋯ ?_ Kp.refl);rw[hi];have hk2:e.key=.tup [.tup fr,z7 ns]:=by rw[he,hk]
  unfold It3.key at hk2;injection hk2 with hk2
  simp only[Ae,and_true]at hk2;obtain⟨k1,k2⟩:=hk2;injection k1 with k1
  have k3:e.ns=ns:=b57 k2;obtain⟨inn',h1,h2,_,h4⟩:=A.wf.inn hi;have:inn'=inn:=cu7 h2 (by rw[k3];exact hlen) (λj n hj=>(h4 j n hj).2) (by rw[k3];exact hns);obtain⟨a,b,c⟩:=e;simp only at k1 k3 h1;subst k1;subst k3;subst this;rw[h1]
 ·have hno:∀e∈S,e.key.py≠E.key.py:=λe he z=>hex (by
   obtain⟨i,hi⟩:=EZ.mp he;exact⟨i,e,hi,bj6 (hlS e he) hlE z⟩)
  have hl:B9 (S.mapIdx λi e=>(e.key.py,D.int i)) E.key.py=AD:=by rw[hidx];exact av0 S E.key 0 hno
  rw[hl];∎;refine .inl ⟨rfl,?_⟩;rfl';∎;have hc:∀f∈[("numbers":Str),("stored":Str),("parts":Str),("waiting":Str)],f∈G.cls "Shelf":=λf hf=>by rw[T.cls];exact hf
  refine⟨sh,"Shelf",_,.ref sa,rfl,A.ins,hc _ ∎,rfl,?_⟩;rw[u0 (.inl A.sto),AT];∎;refine⟨sh,"Shelf",_,.ref dn,rfl,A.ins,hc _ ∎,rfl,?_⟩;rw[hk];refine⟨_,A.num,hkey,A7 (by rw[Fj];lia),?_⟩;rw[<-hk];simp only[BL,AL,AW,or_false,not_or]at hd;obtain⟨⟨d1,d2,d3⟩,⟨d4,d5⟩,d6,_⟩:=hd;have hput:T7 (S.mapIdx λi e=>(e.key.py,D.int i)) E.key.py (.int S.length)=(S++[E]).mapIdx λi e=>(e.key.py,D.int i):=by
   unfold T7;rw[if_neg,Hh]
   ·simp
   ·rw[Bool.not_eq_true,Fx];intro x hx;rw[List.mem_mapIdx]at hx;obtain⟨i,hi,rfl⟩:=hx;simpa using hno _ (Ga hi)
  rw[hput];have a1:∀u,b0 st dn u sh=AA (.ins "Shelf" [(("numbers":Str),D.ref dn),(("stored":Str),D.ref sa),(("parts":Str),D.ref pa),(("waiting":Str),D.ref wa)]):=λu=>c8 A.ins d1;∎;have n1:=c8 (u:=.dtt ((S++[E]).mapIdx λi e=>(e.key.py,D.int i))) A.sto (λz=>d4 z.symm);have n2:=c8 (u:=.dtt ((S++[E]).mapIdx λi e=>(e.key.py,D.int i))) A.par (λz=>d5 z.symm);have n0:b0 st dn (.dtt ((S++[E]).mapIdx λi e=>(e.key.py,D.int i))) dn=_:=c9;have a0:=a1 (.dtt ((S++[E]).mapIdx λi e=>(e.key.py,D.int i)));have nw:∃o,b0 st dn (.dtt ((S++[E]).mapIdx λi e=>(e.key.py,D.int i))) wa=AA o:=by
   by_cases z:wa=dn
   ·exact⟨_,by rw[z];exact c9⟩
   ·obtain⟨o,e⟩:=A.wai;exact⟨o,c8 e z⟩
  have K0:Kp [dn,sa,pa] st (b0 st dn (.dtt ((S++[E]).mapIdx λi e=>(e.key.py,D.int i)))):=Kp.refl.put ∎;revert n1 n2 n0 a0 nw K0;generalize b0 st dn (.dtt ((S++[E]).mapIdx λi e=>(e.key.py,D.int i)))=st1;intro n1 n2 n0 a0 nw K0;refine⟨sh,"Shelf",_,.ref sa,rfl,a0,hc _ ∎,rfl,by rw[y0 (.inl n1)];trivial,.inl ⟨_,rfl,by simp only[AT];lia,?_⟩⟩;refine G7 (λl acc env' st'=>st'=st1/\∃(pre suf:List Nat)(x:Option D),ns=pre++suf/\l=suf.map (λ(n:Nat)=>D.int (n:Int))/\acc=inn.take pre.length/\env'=[AA (.ref sh),x]) ?_ ?_ _ _ _ _ ⟨rfl,[],ns,AD,rfl,rfl,∎,rfl⟩
  ·rintro acc env' st' ⟨rfl,pre,suf,x,e,el,rfl,rfl⟩;have:suf=[]:=by simpa using el.symm
   subst this;rw[BJ]at e;subst e;rw[<-hlen,IW];refine⟨trivial,λp hp=>⟨B8 ⋯,?_⟩⟩;have g1:=j6 (u:=.lst inn) n1 hp;rw[B2 g1];refine⟨A7 (by rw[AT];lia),?_⟩;have g2:=c8 (u:=.lst (S.map It3.t++[.tup (fr++inn)])) (j6 (u:=.lst inn) n2 hp) (λz=>d6 z.symm);have g3:=c8 (u:=.lst (S.map It3.t++[.tup (fr++inn)])) (j6 (u:=.lst inn) n0 hp) d4;have g4:=c8 (u:=.lst (S.map It3.t++[.tup (fr++inn)])) (j6 (u:=.lst inn) a0 hp) d2;have g5:b0 (b0 st' p (.lst inn)) sa (.lst (S.map It3.t++[.tup (fr++inn)])) sa=_:=c9;have gw:∃o,b0 (b0 st' p (.lst inn)) sa (.lst (S.map It3.t++[.tup (fr++inn)])) wa=AA o:=by
    by_cases z:wa=sa
    ·exact⟨_,by rw[z];exact c9⟩
    ·obtain⟨o,e⟩:=nw;exact⟨o,c8 (j6 e hp) z⟩
   have K1:Kp [dn,sa,pa] st (b0 (b0 st' p (.lst inn)) sa (.lst (S.map It3.t++[.tup (fr++inn)]))):=(K0.new hp).put ∎;revert g2 g3 g4 g5 gw K1;generalize b0 (b0 st' p (.lst inn)) sa (.lst (S.map It3.t++[.tup (fr++inn)]))=st2;intro g2 g3 g4 g5 gw K1;∎;refine⟨sh,"Shelf",_,.ref pa,rfl,g4,hc _ ∎,rfl,by rw[y0 (.inl g2)];trivial,?_⟩;rw[B2 g2];refine⟨A7 (by rw[AT];lia),?_⟩;rfl';∎;refine c0 (q S.length (S++[E]) _ ⟨c8 g4 d3,c8 g3 d5,?_,?_,?_,⟨λi e hi=>?_,?_⟩,by simp;lia,λe he=>?_⟩ (List.prefix_append S [E]) ∎ (by rw[Af (AY _),Jo,hE];rfl) (K1.put ∎))
   ·rw[Ag,hE];exact c8 g5 d6
   ·rw[c9,Ag,hE];rfl
   ·by_cases z:wa=pa
    ·exact⟨_,by rw[z];exact c9⟩
    ·obtain⟨o,e⟩:=gw;exact⟨o,c8 e z⟩
   ·by_cases hil:i<S.length
    ·rw[Aa hil]at hi;obtain⟨h1,inn',h2,h3,h4⟩:=A.wf.wh i e hi;refine⟨h1,inn',h2,h3,λj n hj=>?_⟩;obtain⟨l1,e',he',g⟩:=h4 j n hj;exact⟨l1,e',by rw[Aa ⋯];exact he',g⟩
    ·rw[Af ⋯]at hi;have hi0:i-S.length=0:=by have:=(AR.mp hi).1;simp at this;lia
     rw[hi0]at hi;simp at hi;subst hi;rw[hE];refine⟨hfr,inn,rfl,hlen,λj n hj=>?_⟩;obtain⟨e',he',g⟩:=hns j n hj;have:=(AR.mp he').1;exact⟨⋯,e',by rw[Aa this];exact he',g⟩
   ·rw[Ag,Dm];refine⟨A.wf.nd,∎,λx hx y hy z=>?_⟩;simp at hy;subst hy;obtain⟨e,he,rfl⟩:=Cs.mp hx;exact hno e he (by rw[z])
   ·rcases BK.mp he with he|he
    ·exact A.fl e he
    ·rw[Bg]at he;subst he;rw[hE];exact⟨b1,b2⟩
  ·rintro d ds acc env' st' ih ⟨rfl,pre,suf,x,e,el,rfl,rfl⟩;refine⟨trivial,?_⟩;cases suf with
   |nil=>simp at el
   |cons m suf=>
    simp only[Ah,Ae]at el;obtain⟨rfl,rfl⟩:=el;obtain⟨e',he',g⟩:=hns pre.length m (by rw[e];simp);rfl';refine⟨sh,"Shelf",_,.ref sa,rfl,a0,hc _ ∎,rfl,?_⟩;rw[l6 (.inl n1)];refine⟨e'.t,by rw[B7,Al,he'];rfl,ih _ _ _ ⟨rfl,pre++[m],suf,_,by rw[e];simp,rfl,?_,rfl⟩⟩;rw[AX,Ac,BH,List.take_add_one,g];rfl
end
abbrev z6:D->Bool
 |.tup _=>AC
 |_=>AE
abbrev U1:D->List D
 |.tup ds=>ds.filter z6
 |_=>[]
mutual
noncomputable def dsz:D->Nat
 |.tup ds=>1+M7 ds
 |_=>1
noncomputable def M7:List D->Nat
 |[]=>0
 |d::r=>(if z6 d then dsz d else 0)+M7 r
end
theorem ax4:∀ds:List D,M7 ds=((ds.filter z6).map dsz).sum
 |[]=>rfl
 |d::r=>by
  rw[M7,ax4 r,List.filter_cons]
  by_cases h:z6 d=AC
  ·rw[if_pos h,if_pos h,Ah,Da]
  ·rw[if_neg h,if_neg h,HG]
def V0(t:D):dsz t=1+((U1 t).map dsz).sum:=by
 cases t<;>first|rfl|skip
 rename_i ds;rw[dsz,ax4];rfl
def al0{d:D}(h:Lay d):z6 d=AC:=by cases h;rfl
def ak0{inn:List D}(h1:∀d∈fr,∃s:String,d=.str s)(h2:∀d∈inn,z6 d=AC):(fr++inn).filter z6=inn:=by
 rw[FH,Gr.mpr (λd hd=>by obtain⟨s,rfl⟩:=h1 d hd;simp[z6]),Ck];exact List.filter_eq_self.mpr h2
def ck7{t c:D}(h:Lay t)(hc:c∈U1 t):Lay c:=by
 cases h with
 |@mk fr inn h1 h2 _ _=>
  rw[U1,ak0 h1 λd hd=>al0 (h2 d hd)]at hc;exact h2 c hc
abbrev Nm(S:List It3)(t d:D):Prop:=∃(m:Nat)(e:It3),d=.int m/\S[m]?=AA e/\e.t=t
def Nm.mono{S:List It3}{t d:D}(h:Nm S t d)(hp:S <+: S'):Nm S' t d:=by
 obtain⟨m,e,rfl,h1,h2⟩:=h;obtain⟨r,rfl⟩:=hp;exact⟨m,e,rfl,by rw[Aa (AR.mp h1).1];exact h1,h2⟩
theorem bb2{S:List It3}:∀{inn ds:List D},ds.length=inn.length->(∀(i:Nat)c' d,inn[i]?=AA c'->ds[i]?=AA d->Nm S c' d)->∃ns:List Nat,ds=ns.map (λ(n:Nat)=>D.int (n:Int))/\inn.length=ns.length/\∀(j n:Nat),ns[j]?=AA n->∃e,S[n]?=AA e/\inn[j]?=AA e.t
 |[],ds,hlen,_=>⟨[],Az (by simpa using hlen),rfl,∎⟩
 |x::inn,[],hlen,_=>by simp at hlen
 |x::inn,d::ds,hlen,hv=>by
  obtain⟨m,e,rfl,g1,g2⟩:=hv 0 x d rfl rfl;obtain⟨ns,i1,i2,i3⟩:=bb2 (inn:=inn) (ds:=ds) (by simpa using hlen) λi c' d' e1 e2=>hv (i+1) c' d' (by simpa using e1) (by simpa using e2);refine⟨m::ns,by rw[i1];rfl,by simp[i2],λj n hj=>?_⟩;cases j with
  |zero=>simp at hj;subst hj;exact⟨e,g1,by rw[g2];rfl⟩
  |succ j=>
   obtain⟨e',a1,a2⟩:=i3 j n (by simpa using hj);exact⟨e',a1,by simpa using a2⟩
section
variable (T:PSh P G)
include T
def cw4(hl:ds.length<=2000)(hs:∀d∈ds,d.lit=AC)(q:∀a st',st a=AD->st' a=AA (.lst (ds.filter z6))->Kp [] st st'->Q (.ref a) st'):sem P G (n+1) "tuples_in" [.tup ds] st Q:=by
 refine f9 T.tin rfl [AA (.tup ds)] rfl ?_;unfold ag6;∎;refine⟨⋯,?_⟩;refine G7 (λl acc env' st'=>st'=st/\∃(pre:List D)(x:Option D),ds=pre++l/\acc=pre.filter z6/\env'=[x]) ?_ ?_ _ _ _ _ ⟨rfl,[],AD,rfl,rfl,rfl⟩
 ·rintro acc env' st' ⟨rfl,pre,x,e,rfl,rfl⟩;rw[BJ]at e;subst e;exact⟨trivial,λp hp=>c0 (q p _ hp c9 (Kp.refl.new hp))⟩
 ·rintro d l acc env' st' ih ⟨rfl,pre,x,e,rfl,rfl⟩;refine⟨trivial,?_⟩;have hd:=hs d (by rw[e];simp);rfl';have go:∀(ty:String),tyD d st'=AA ty->(ty=="tuple"||(ty=="bool"&&"tuple"=="int"))=z6 d->D7 (Zg P G n) (E.isT "tuple" (E.v 0)) [AA d] st' λb st1=>if b=AC then v3 (λx=>True) (Tg.n 0) (D7 (Zg P G n) (E.isT "tuple" (E.v 0))) (λenv st Q=>∃d,env[0]?=AA (AA d)/\Q d st) (λacc st'=>∀(p:AI),st' p=AD->(j8 Q).rt (D.ref p) (b0 st' p (Ob.lst acc))) l (Jp z6 pre++[d]) [AA d] st1 else v3 (λx=>True) (Tg.n 0) (D7 (Zg P G n) (E.isT "tuple" (E.v 0))) (λenv st Q=>∃d,env[0]?=AA (AA d)/\Q d st) (λacc st'=>∀(p:AI),st' p=AD->(j8 Q).rt (D.ref p) (b0 st' p (Ob.lst acc))) l (Jp z6 pre) [AA d] st1:=λty h1 h2=>by
   show wpE (Zg P G n) (E.isT "tuple" (E.v 0)) [AA d] st' λx st1=>∃b,x=.bl b/\_;rfl';refine c53 h1 ?_;rw[h2];refine⟨_,rfl,?_⟩;cases hb:z6 d with
   |true=>
    rw[if_pos rfl];exact ih _ _ _ ⟨rfl,pre++[d],_,by rw[e];simp,by rw[FH];simp[hb],rfl⟩
   |false=>
    rw[if_neg ∅];exact ih _ _ _ ⟨rfl,pre++[d],_,by rw[e];simp,by rw[FH];simp[hb],rfl⟩
  cases d with
  |int i=>exact go "int" rfl rfl
  |str x=>exact go "str" rfl rfl
  |tup ds=>exact go "tuple" rfl rfl
  |_=>cases hd
theorem cd7:∀(m:Nat){t:D},dsz t<=m->Lay t->t.lit=AC:=by
 intro m
 induction m with
 |zero=>intro t h;rw[V0]at h;lia
 |succ m ih=>
  intro t h hl;have hs:=V0 t;cases hl with
  |@mk fr inn h1 h2 _ _=>
   have ht:=ak0 h1 λd hd=>al0 (h2 d hd);rw[am2,Y4];intro d hd
   rcases BK.mp hd with hd|hd
   ·obtain⟨s,rfl⟩:=h1 d hd;exact A8 s
   ·refine ih ?_ (h2 d hd);rw[U1,ht]at hs;have:=Q2 dsz hd;lia
omit T in
theorem ShA.keepL{S:List It3}(A:ShA sh dn sa pa wa S st)(K:Kp L st st')(h:∀x∈L,x∉[sh,dn,sa,pa,wa]):ShA sh dn sa pa wa S st':=
 ⟨K.at' A.ins (λz=>h _ z ∎),K.at' A.num (λz=>h _ z ∎),K.at' A.sto (λz=>h _ z ∎),K.at' A.par (λz=>h _ z ∎),(by obtain⟨o,e⟩:=A.wai;exact⟨o,K.at' e (λz=>h _ z ∎)⟩),A.wf,A.ml,A.fl⟩
omit T in
theorem ShA.keep{S:List It3}(A:ShA sh dn sa pa wa S st)(K:Kp [] st st'):ShA sh dn sa pa wa S st':=A.keepL K ∎
def b62{n:Nat}{S:List It3}(hn:1<=n)(A:ShA sh dn sa pa wa S st)(hd:[sh,dn,sa,pa].Nodup){wo:Ob}(hwo:st wa=AA wo)(hwd:wa∉[dn,sa,pa]){t:D}(ht:Lay t)(hz:dsz t<=2000)(hS:S.length+dsz t<=900000)
  (q:∀d S' st',Nm S' t d->S <+: S'->S'.length<=S.length+dsz t->ShA sh dn sa pa wa S' st'->st' wa=AA wo->Kp [sh,dn,sa,pa,wa] st st'->Q d st'):sem P G (n+3) (c7 "Shelf" "laid") [.ref sh,t] st Q:=by
 refine f9 T.laid rfl [AA (.ref sh),AA t,AD,AD,AD] rfl ?_;unfold af8;(iterate 2 ∎);refine⟨by rw[T.mop];rfl,by rw[T.tin];rfl,?_⟩;obtain⟨n,rfl⟩:∃m,n=m+1:=⟨n-1,⋯⟩;refine a69 T.toPM (n:=n+1) (T:=D) (enc:=λd=>d) (subs:=U1) (size:=dsz) (DJ:=λd=>Lay d/\dsz d<=2000) (W:=List It3) (J:=λS st=>ShA sh dn sa pa wa S st/\st wa=AA wo) (le:=λS S'=>S <+: S') (L:=[sh,dn,sa,pa,wa]) (μ:=λS=>S.length) (B:=S.length+dsz t) (λs=>CH s) (λa b=>a.trans b) ?_ V0 (λc gc c' hc'=>⟨ck7 gc.1 hc',?_⟩) (F:=.fn "tuples_in") (show(P _).isSome=AC by rw[T.tin];rfl) (show Cok P (.clo _ _ _ _) from trivial) t hz ⟨ht,hz⟩ (V:=λ_ S t d _=>Nm S t d) (λv l _=>v.mono l) (AY _) ⟨A,hwo⟩ ?_ ?_ ?_ ?_
 ·rintro S st st' d ⟨A,ho⟩ hdn K;simp only[AL,AW,or_false,not_or]at hdn;obtain⟨h1,h2,h3,h4,h5⟩:=hdn;exact⟨⟨K.at' A.ins (by simp;exact λz=>h1 z.symm),K.at' A.num (by simp;exact λz=>h2 z.symm),K.at' A.sto (by simp;exact λz=>h3 z.symm),K.at' A.par (by simp;exact λz=>h4 z.symm),(by obtain⟨o,e⟩:=A.wai;exact⟨o,K.at' e (by simp;exact λz=>h5 z.symm)⟩),A.wf,A.ml,A.fl⟩,K.at' ho (by simp;exact λz=>h5 z.symm)⟩
 ·have:=V0 c;have:=Q2 dsz hc';have:=gc.2;lia
 ·rintro S st ⟨A,_⟩ a ha;simp only[AL,AW,or_false]at ha
  rcases ha with rfl|rfl|rfl|rfl|rfl
  ·exact⟨_,A.ins⟩
  ·exact⟨_,A.num⟩
  ·exact⟨_,A.sto⟩
  ·exact⟨_,A.par⟩
  ·exact A.wai
 ·rintro c st' Q S' gc _ ⟨A',ho'⟩ K q;have hlit:=cd7 T _ (AY _) gc.1;obtain⟨gl,_⟩:=gc;cases gl with
  |@mk fr inn h1 h2 b1 b2=>
   refine cw4 T (by rw[AX];lia) (Y4.mp (by rw[am2]at hlit;exact hlit)) λa st2 ha hs K2=>q _ _ _ (.inr ⟨a,rfl,ha,?_⟩) (CH _) (AY _) ⟨A'.keep K2,K2.at' ho' ∎⟩ (K2.more ∎);rw[hs,List.map_id'];rfl
 ·rintro c _ la st' Q ds S' gc hμ ⟨A',ho'⟩ K _ hla _ _ hl hlen hv _ q;obtain⟨gl,_⟩:=gc;cases gl with
  |@mk fr inn h1 h2 b1 b2=>
   have hf:=ak0 h1 λd hd=>al0 (h2 d hd);simp only[U1,hf]at hlen hv;obtain⟨ns,hns,hnl,hnn⟩:=bb2 hlen hv;refine L3 rfl [AA (.tup (fr++inn)),AA (.ref la),AA (.ref sh)] rfl ?_;∎;refine⟨sh,"Shelf",_,rfl,A'.ins,rfl,by rw[T.numb];rfl,?_⟩;rw[u0 (.inl hl)];rfl';rw[ak2 (.inl hl)];have hcut:r9 (fr++inn) AD (AA (((fr++inn).length:Int)-(ds.length:Int)))=fr:=by
    rw[AX,hlen,show(((fr.length+inn.length:Nat):Int)-(inn.length:Int))=((fr.length:Nat):Int) by lia,ct9];simp
   rw[hcut,hns];refine as9 T A' hd h1 hnl hnn b1 ⋯ (by have:=A'.ml;lia) λm S2 st2 A2 hp2 hl2 hm2 K2=>c0 (q _ S2 st2 ⟨m,_,rfl,hm2,rfl⟩ hp2 hl2 ⟨A2,K2.at' ho' hwd⟩ (K2.more ∎))
 ·rintro _ d S' st' _ v l hμ ⟨A',ho'⟩ K;exact c0 (q d S' st' v l hμ A' ho' K)
end
abbrev Has(S:List It3)(t:D):Prop:=∃(m:Nat)(e:It3),S[m]?=AA e/\e.t=t
open Classical in
abbrev nb(S:List It3)(t:D):Nat:=if h:Has S t then Classical.choose h else 0
def R8{S:List It3}{t:D}(h:Has S t):∃e,S[nb S t]?=AA e/\e.t=t:=by
 unfold nb;rw[dif_pos h];exact Classical.choose_spec h
def aa6{S:List It3}(w:Wf S){t:D}(h:S[m]?=AA e)(ht:e.t=t):nb S t=m:=by
 obtain⟨e',h1,h2⟩:=R8 (S:=S) (t:=t) ⟨m,e,h,ht⟩;exact w.inj _ (AY _) h1 h (h2.trans ht.symm)
def Has.mono{S:List It3}{t:D}(h:Has S t)(hp:S <+: S'):Has S' t:=by
 obtain⟨m,e,h1,h2⟩:=h;obtain⟨r,rfl⟩:=hp;exact⟨m,e,by rw[Aa (AR.mp h1).1];exact h1,h2⟩
def c29{S:List It3}{t d:D}(w:Wf S)(h:Nm S t d):Has S t/\d=.int (nb S t:Nat):=by
 obtain⟨m,e,rfl,h1,h2⟩:=h;exact⟨⟨m,e,h1,h2⟩,by rw[aa6 w h1 h2]⟩
def bf6{S:List It3}(w:Wf S){inn:List D}(h:Has S (.tup (fr++inn)))(h1:∀d∈fr,∃s:String,d=.str s)(h2:∀d∈inn,∃l,d=.tup l):(∀d∈inn,Has S d)/\∃e,S[nb S (.tup (fr++inn))]?=AA e/\e.ns=inn.map (nb S):=by
 obtain⟨e,he,ht⟩:=R8 h;obtain⟨inn',g1,g2,g3,g4⟩:=w.inn he;have hh:e.fr++inn'=fr++inn:=by rw[g1]at ht;injection ht
 obtain⟨_,rfl⟩:=a95 (w.wh _ e he).1 h1 g3 h2 hh;refine⟨λd hd=>?_,e,he,?_⟩
 ·obtain⟨j,hj⟩:=EZ.mp hd;have hjl:j<e.ns.length:=by rw[<-g2];exact(AR.mp hj).1
  obtain⟨_,e',he',hi⟩:=g4 j _ (AJ hjl);rw[hj]at hi;cases hi;exact⟨_,e',he',rfl⟩
 ·refine Dl λj=>?_
  by_cases hj:j<e.ns.length
  ·obtain⟨_,e',he',hi⟩:=g4 j _ (AJ hj);rw[AJ hj,Al,hi];show AA _=AA (nb S e'.t);rw[aa6 w he' rfl]
  ·rw[Bf ⋯,Bf (by rw[AT];lia)]
def bj1{inn:List D}(he:ds=fr++inn)(h1:∀d∈fr,∃s:String,d=.str s)(h2:∀d∈inn,Lay d)(l1:fr.length<=10)(l2:inn.length<=1000):Lay (.tup ds):=by
 subst he;exact .mk h1 h2 l1 l2
def X3:∀d∈([.str w]:List D),∃s:String,d=.str s:=λd hd=>by simp at hd;subst hd;exact⟨w,rfl⟩
def an5{x y:D}(hx:Lay x)(hy:Lay y):Lay (.tup [.str w,x,y]):=bj1 (fr:=[.str w]) (inn:=[x,y]) rfl X3 (λd hd=>by simp at hd;rcases hd with rfl|rfl<;>assumption) ∎ ∎
def bf5:Lay (.tup [.str w]):=bj1 (fr:=[.str w]) (inn:=[]) rfl X3 (λd hd=>by simp at hd) ∎ ∎
theorem O0:∀k:Kd,Lay k.d
 |.non=>bf5
 |.one=>bf5
 |.eith a b=>an5 (O0 a) (O0 b)
 |.both a b=>an5 (O0 a) (O0 b)
 |.way a b=>an5 (O0 a) (O0 b)
def L8:∀k:Kd,∃l,k.d=.tup l
 |.non=>⟨_,rfl⟩
 |.one=>⟨_,rfl⟩
 |.eith _ _=>⟨_,rfl⟩
 |.both _ _=>⟨_,rfl⟩
 |.way _ _=>⟨_,rfl⟩
def al9(w:String){a b:Kd}(h1:dsz a.d+1<=2^(a.nest+1))(h2:dsz b.d+1<=2^(b.nest+1)):dsz (.tup [.str w,a.d,b.d])+1<=2^(1+max a.nest b.nest+1):=by
 have h3:2^(a.nest+1)<=2^(max a.nest b.nest+1):=BW ∅ ⋯;have h4:2^(b.nest+1)<=2^(max a.nest b.nest+1):=BW ∅ ⋯;have e:2^(1+max a.nest b.nest+1)=2^(max a.nest b.nest+1)*2:=by rw[show 1+max a.nest b.nest+1=(max a.nest b.nest+1)+1 by lia,Ia]
 obtain⟨l1,e1⟩:=L8 a;obtain⟨l2,e2⟩:=L8 b;rw[dsz,M7,M7,M7,M7,e];have t1:z6 a.d=AC:=by rw[e1];rfl
 have t2:z6 b.d=AC:=by rw[e2];rfl
 rw[if_pos t1,if_pos t2,if_neg (by simp[z6])];lia
theorem L7:∀k:Kd,dsz k.d+1<=2^(k.nest+1)
 |.non=>by decide
 |.one=>by decide
 |.eith a b=>al9 _ (L7 a) (L7 b)
 |.both a b=>al9 _ (L7 a) (L7 b)
 |.way a b=>al9 _ (L7 a) (L7 b)
section
variable (T:PSh P G)
include T
def b32{S:List It3}(A:ShA sh dn sa pa wa S st){inn:List D}(h:Has S (.tup (fr++inn)))(h1:∀d∈fr,∃s:String,d=.str s)(h2:∀d∈inn,∃l,d=.tup l)(q:Q (z7 (inn.map (nb S))) st):sem P G (n+1) (c7 "Shelf" "within") [.ref sh,.int (nb S (.tup (fr++inn)):Nat)] st Q:=by
 obtain⟨_,e,he,hn⟩:=bf6 A.wf h h1 h2;refine f9 T.wthn rfl [AA (.ref sh),AA (.int (nb S (.tup (fr++inn)):Nat))] rfl ?_;unfold ae7;∎;refine⟨sh,"Shelf",_,.ref pa,rfl,A.ins,by show _∈G.cls "Shelf";rw[T.cls];simp,rfl,?_⟩;rw[l6 (.inl A.par)];refine⟨z7 e.ns,by rw[B7,Al,he];rfl,c0 ?_⟩;rw[hn];exact q
def b77{S:List It3}(A:ShA sh dn sa pa wa S st){t:D}(h:Has S t)(q:Q t st):sem P G (n+1) (c7 "Shelf" "tuple_at") [.ref sh,.int (nb S t:Nat)] st Q:=by
 obtain⟨e,he,ht⟩:=R8 h;refine f9 T.tup rfl [AA (.ref sh),AA (.int (nb S t:Nat))] rfl ?_;unfold ad1;∎;refine⟨sh,"Shelf",_,.ref sa,rfl,A.ins,by show _∈G.cls "Shelf";rw[T.cls];simp,rfl,?_⟩;rw[l6 (.inl A.sto)];exact⟨t,by rw[B7,Al,he,<-ht];rfl,c0 q⟩
def a57{S:List It3}(A:ShA sh dn sa pa wa S st){d:D}{r:List D}(h:Has S (.tup (d::r)))(q:Q d st):sem P G (n+1) (c7 "Shelf" "word_at") [.ref sh,.int (nb S (.tup (d::r)):Nat)] st Q:=by
 obtain⟨e,he,ht⟩:=R8 h;refine f9 T.word rfl [AA (.ref sh),AA (.int (nb S (.tup (d::r)):Nat))] rfl ?_;unfold ad2;∎;refine⟨sh,"Shelf",_,.ref sa,rfl,A.ins,by show _∈G.cls "Shelf";rw[T.cls];simp,rfl,?_⟩;rw[l6 (.inl A.sto)];refine⟨.tup (d::r),by rw[B7,Al,he,<-ht];rfl,?_⟩;rfl';exact c0 q
def b51(h0:st sh=AD)(q:∀dn sa pa wa st',ShA sh dn sa pa wa [] st'->[sh,dn,sa,pa].Nodup->(∀a∈[sh,dn,sa,pa,wa],st a=AD)->wa∉[dn,sa,pa]->wa≠sh->st' wa=AA (.lst [])->Kp [] st st'->Q .non st'):sem P G (n+1) (c7 "Shelf" "__init__") [.ref sh] (b0 st sh (.ins "Shelf" [])) Q:=by
 refine f9 T.init rfl [AA (.ref sh)] rfl ?_;unfold ad0;have hc:∀f∈([("numbers":Str),("stored":Str),("parts":Str),("waiting":Str)]:List Str),f∈G.cls "Shelf":=λf hf=>by rw[T.cls];exact hf
 ∎;refine⟨T.kt,λdn hdn=>⟨sh,"Shelf",[],rfl,j6 c9 hdn,hc _ ∎,∅,?_⟩⟩;have n1:sh≠dn:=j7 c9 hdn;have d0:st dn=AD:=by rw[C9 n1.symm]at hdn;exact hdn
 have kS:∀{st':Sto}{u:Ob},Kp [] st st'->Kp [] st (b0 st' sh u):=λK b o nb e=>c8 (K b o nb e) (j7 e h0);have a1:b0 (b0 (b0 st sh (.ins "Shelf" [])) dn (.dtt [])) sh (.ins "Shelf" (j9 "numbers" (.ref dn) [])) sh=AA (.ins "Shelf" [(("numbers":Str),D.ref dn)]):=by rw[c9];rfl
 have a2:b0 (b0 (b0 st sh (.ins "Shelf" [])) dn (.dtt [])) sh (.ins "Shelf" (j9 "numbers" (.ref dn) [])) dn=AA (.dtt []):=c8 c9 n1.symm;have K1:Kp [] st (b0 (b0 (b0 st sh (.ins "Shelf" [])) dn (.dtt [])) sh (.ins "Shelf" (j9 "numbers" (.ref dn) []))):=kS ((kS Kp.refl).new hdn);revert a1 a2 K1;generalize b0 (b0 (b0 st sh (.ins "Shelf" [])) dn (.dtt [])) sh (.ins "Shelf" (j9 "numbers" (.ref dn) []))=s1;intro a1 a2 K1;∎;refine λsa hsa=>⟨sh,"Shelf",_,rfl,j6 a1 hsa,hc _ ∎,∎,?_⟩;have n2:sh≠sa:=j7 a1 hsa;have n3:dn≠sa:=j7 a2 hsa;have b1:b0 (b0 s1 sa (.lst [])) sh (.ins "Shelf" (j9 "stored" (.ref sa) [(("numbers":Str),D.ref dn)])) sh=AA (.ins "Shelf" [(("numbers":Str),D.ref dn),(("stored":Str),D.ref sa)]):=by rw[c9];simp[j9,l9]
 have b2:b0 (b0 s1 sa (.lst [])) sh (.ins "Shelf" (j9 "stored" (.ref sa) [(("numbers":Str),D.ref dn)])) dn=AA (.dtt []):=c8 (j6 a2 hsa) n1.symm;have b3:b0 (b0 s1 sa (.lst [])) sh (.ins "Shelf" (j9 "stored" (.ref sa) [(("numbers":Str),D.ref dn)])) sa=AA (.lst []):=c8 c9 n2.symm;have K2:Kp [] st (b0 (b0 s1 sa (.lst [])) sh (.ins "Shelf" (j9 "stored" (.ref sa) [(("numbers":Str),D.ref dn)]))):=kS (K1.new hsa);have s0:st sa=AD:=none_of K1 hsa;revert b1 b2 b3 K2;generalize b0 (b0 s1 sa (.lst [])) sh (.ins "Shelf" (j9 "stored" (.ref sa) [(("numbers":Str),D.ref dn)]))=s2;intro b1 b2 b3 K2;∎;refine λpa hpa=>⟨sh,"Shelf",_,rfl,j6 b1 hpa,hc _ ∎,∎,?_⟩;have n4:sh≠pa:=j7 b1 hpa;have n5:dn≠pa:=j7 b2 hpa;have n6:sa≠pa:=j7 b3 hpa;have c1:b0 (b0 s2 pa (.lst [])) sh (.ins "Shelf" (j9 "parts" (.ref pa) [(("numbers":Str),D.ref dn),(("stored":Str),D.ref sa)])) sh=AA (.ins "Shelf" [(("numbers":Str),D.ref dn),(("stored":Str),D.ref sa),(("parts":Str),D.ref pa)]):=by rw[c9];simp[j9,l9]
 have c2:b0 (b0 s2 pa (.lst [])) sh (.ins "Shelf" (j9 "parts" (.ref pa) [(("numbers":Str),D.ref dn),(("stored":Str),D.ref sa)])) dn=AA (.dtt []):=c8 (j6 b2 hpa) n1.symm;have c3:b0 (b0 s2 pa (.lst [])) sh (.ins "Shelf" (j9 "parts" (.ref pa) [(("numbers":Str),D.ref dn),(("stored":Str),D.ref sa)])) sa=AA (.lst []):=c8 (j6 b3 hpa) n2.symm;have c4:b0 (b0 s2 pa (.lst [])) sh (.ins "Shelf" (j9 "parts" (.ref pa) [(("numbers":Str),D.ref dn),(("stored":Str),D.ref sa)])) pa=AA (.lst []):=c8 c9 n4.symm;have K3:Kp [] st (b0 (b0 s2 pa (.lst [])) sh (.ins "Shelf" (j9 "parts" (.ref pa) [(("numbers":Str),D.ref dn),(("stored":Str),D.ref sa)]))):=kS (K2.new hpa);have p0:st pa=AD:=none_of K2 hpa;revert c1 c2 c3 c4 K3;generalize b0 (b0 s2 pa (.lst [])) sh (.ins "Shelf" (j9 "parts" (.ref pa) [(("numbers":Str),D.ref dn),(("stored":Str),D.ref sa)]))=s3;intro c1 c2 c3 c4 K3;∎;refine λwa hwa=>⟨sh,"Shelf",_,rfl,j6 c1 hwa,hc _ ∎,∎,?_⟩;have n7:sh≠wa:=j7 c1 hwa;rfl';refine a68 (q dn sa pa wa _ ⟨by rw[c9];simp[j9,l9],c8 (j6 c2 hwa) n1.symm,c8 (j6 c3 hwa) n2.symm,c8 (j6 c4 hwa) n4.symm,⟨_,c8 c9 n7.symm⟩,⟨∎,∎⟩,∎,∎⟩ ?_ ?_ ?_ n7.symm (c8 c9 n7.symm) (kS (K3.new hwa)))
 ·simp[n1,n2,n4,n3,n5,n6]
 ·intro a ha;simp only[AL,AW,or_false]at ha
  rcases ha with rfl|rfl|rfl|rfl|rfl
  ·exact h0
  ·exact d0
  ·exact s0
  ·exact p0
  ·exact none_of K3 hwa
 ·simp only[AL,AW,or_false,not_or];exact⟨(j7 c2 hwa).symm,(j7 c3 hwa).symm,(j7 c4 hwa).symm⟩
end
abbrev Rm(r:Int)(st:Sto)(a:AI):Prop:=st a=AA (.lst [.int r])
def Rm.keep(h:Rm r st b)(x:Kp L st st')(n:b∉L):Rm r st' b:=x.at' h n
def Rm.new{p:AI}{u:Ob}(h:Rm r st b)(hp:st p=AD):Rm r (b0 st p u) b:=j6 h hp
abbrev Pg.oc:Nat->Pg->Nat
 |i,.name n=>if n=i then 1 else 0
 |_,.star=>0
 |i,.pair t u=>t.oc i+u.oc i
 |i,.first t=>t.oc i
 |i,.second t=>t.oc i
 |i,.left _ t=>t.oc i
 |i,.right _ t=>t.oc i
 |i,.case t u v=>t.oc i+u.oc (i+1)+v.oc (i+1)
 |i,.way _ t=>t.oc (i+1)
 |i,.give t u=>t.oc i+u.oc i
 |i,.lets t u=>t.oc i+u.oc (i+1)
 |i,.never _ t=>t.oc i
abbrev Pg.nl(m:Nat):List Kd->Pg->Prop
 |_,.name _=>True
 |_,.star=>True
 |Γ,.pair t u=>t.nl m Γ/\u.nl m Γ
 |Γ,.first t=>t.nl m Γ
 |Γ,.second t=>t.nl m Γ
 |Γ,.left _ t=>t.nl m Γ
 |Γ,.right _ t=>t.nl m Γ
 |Γ,.case t u v=>t.nl m Γ/\∀a b,t.kind Γ=AA (.eith a b)->(a.nest<=m/\b.nest<=m)/\u.nl m (a::Γ)/\v.nl m (b::Γ)
 |Γ,.way a t=>t.nl m (a::Γ)
 |Γ,.give t u=>t.nl m Γ/\u.nl m Γ
 |Γ,.lets t u=>t.nl m Γ/\∀a,t.kind Γ=AA a->a.nest<=m/\u.nl m (a::Γ)
 |Γ,.never _ t=>t.nl m Γ
abbrev Cn(e:Int)(deep:Nat)(Γ:List Kd)(p:Pg)(r r':Int):Prop:=
 ((1<=r->-(2*(deep:Int))<=r')/\(e=0->r<=0->r'=r-1)/\r'<=r-1+e)/\(∀(i:Nat)(a:Kd),Γ[i]?=AA a->a≠.non->3*(p.oc i:Int)<=2*(r-r'+e)+1/\(3*(p.oc i:Int)=2*(r-r'+e)+1->(p.parts:Int)=r-r'+e))/\p.nl 6 Γ
section
variable {d:Nat} {b:Kd} {t u v:Pg} {r1 r2 r3:Int}
def Cn.leaf(h:(∀i,p.oc i=0)/\∀Δ,p.nl 6 Δ):Cn 1 d Γ p r r:=⟨⟨λ_=>⋯,λz=>⋯,⋯⟩,λi a _ _=>by rw[h.1 i];lia,h.2 Γ⟩
def Cn.k1(c1:Cn 0 d Γ t r r1)(ho:∀i,p.oc i=t.oc i)(hn:t.nl 6 Γ->p.nl 6 Γ):Cn 1 (d+1) Γ p r r1:=
 ⟨⟨λz=>by have:=c1.1.1 z;lia,λz=>⋯,by have:=c1.1.2.2;lia⟩,λi a h1 h2=>by have:=c1.2.1 i a h1 h2;rw[ho i];lia,hn c1.2.2⟩
def Cn.k1b(c1:Cn 0 d (b::Γ) t r r1)(ho:∀i,p.oc i=t.oc (i+1))(hn:t.nl 6 (b::Γ)->p.nl 6 Γ):Cn 1 (d+1) Γ p r r1:=
 ⟨⟨λz=>by have:=c1.1.1 z;lia,λz=>⋯,by have:=c1.1.2.2;lia⟩,λi a h1 h2=>by have:=c1.2.1 (i+1) a (by simpa using h1) h2;rw[ho i];lia,hn c1.2.2⟩
def Cn.k2(c1:Cn 0 d Γ t r r1)(c2:Cn 0 d Γ u r1 r2)(ho:∀i,p.oc i=t.oc i+u.oc i)(hn:t.nl 6 Γ->u.nl 6 Γ->p.nl 6 Γ):Cn 1 (d+1) Γ p r r2:=
 ⟨⟨λz=>by have:=c1.1.1 z;have:=c2.1.1;have:=c2.1.2.1 rfl;lia,λz=>⋯,by have:=c1.1.2.2;have:=c2.1.2.2;lia⟩,λi a h1 h2=>by have:=c1.2.1 i a h1 h2;have:=c2.2.1 i a h1 h2;rw[ho i];lia,hn c1.2.2 c2.2.2⟩
def Cn.k2b(c1:Cn 0 d Γ t r r1)(c2:Cn 0 d (b::Γ) u r1 r2)(ho:∀i,p.oc i=t.oc i+u.oc (i+1))(hn:t.nl 6 Γ->u.nl 6 (b::Γ)->p.nl 6 Γ):Cn 1 (d+1) Γ p r r2:=
 ⟨⟨λz=>by have:=c1.1.1 z;have:=c2.1.1;have:=c2.1.2.1 rfl;lia,λz=>⋯,by have:=c1.1.2.2;have:=c2.1.2.2;lia⟩,λi a h1 h2=>by have:=c1.2.1 i a h1 h2;have:=c2.2.1 (i+1) a (by simpa using h1) h2;rw[ho i];lia,hn c1.2.2 c2.2.2⟩
def Cn.k3{b':Kd}(c1:Cn 0 d Γ t r r1)(c2:Cn 0 d (b::Γ) u r1 r2)(c3:Cn 0 d (b'::Γ) v r2 r3)(hn:t.nl 6 Γ->u.nl 6 (b::Γ)->v.nl 6 (b'::Γ)->(Pg.case t u v).nl 6 Γ):Cn 1 (d+1) Γ (.case t u v) r r3:=
 ⟨⟨λz=>by have:=c1.1.1 z;have:=c2.1.1;have:=c2.1.2.1 rfl;have:=c3.1.1;have:=c3.1.2.1 rfl;lia,λz=>⋯,by have:=c1.1.2.2;have:=c2.1.2.2;have:=c3.1.2.2;lia⟩,λi a h1 h2=>by have:=c1.2.1 i a h1 h2;have:=c2.2.1 (i+1) a (by simpa using h1) h2;have:=c3.2.1 (i+1) a (by simpa using h1) h2;simp only[Pg.oc,Pg.parts];lia,hn c1.2.2 c2.2.2 c3.2.2⟩
end
def P9{k:Kd}:[k.d]++Γ.map Kd.d=(k::Γ).map Kd.d:=rfl
def T5{a b:Nat}(h:a+b<=1000):a+b<=sizeLine:=B8 ⋯
def Kp.w2(b:AI)(h:Kp [a] st st'):Kp [a,b] st st':=h.more ∎
section
variable (B:PB P) 
include B
def ai7:∀(k:Kd){Γ:List Kd}{n:Nat}{Q:DK},k.good->k.bd 100->k.nest<=6->k.nest+4<=n->Γ.length+k.nest<=999->(∀p:Pg,p.kind Γ=AA k->p.hgt<=k.nest+1->p.parts+1<=2^(k.nest+1)->p.kn 6->((∀i,p.oc i=0)/\∀Δ,p.nl 6 Δ)->Q p.d st)->sem P G n "_law_least" [k.d,.tup (Γ.map Kd.d)] st Q:=by
 intro k
 induction k with
 |non=>intro Γ n Q g;exact g.elim
 |one=>
  intro Γ n Q g bd n6 hn hΓ q;obtain⟨n,rfl⟩:∃k,n=k+1:=⟨n-1,⋯⟩;refine f9 B.least rfl [AA Kd.one.d,AA (.tup (Γ.map Kd.d)),AD,AD] rfl ?_;unfold P5;simp only[Kd.d];(iterate 4 ∎);exact c0 (q .star rfl ∅ ∅ trivial ⟨λ_=>rfl,λ_=>trivial⟩)
 |both a b iha ihb=>
  intro Γ n Q g bd n6 hn hΓ q;obtain⟨n,rfl⟩:∃k,n=k+1:=⟨n-1,⋯⟩;simp only[Kd.nest]at hn hΓ n6;refine f9 B.least rfl [AA (Kd.both a b).d,AA (.tup (Γ.map Kd.d)),AD,AD] rfl ?_;unfold P5;simp only[Kd.d];(iterate 5 ∎);refine⟨by rw[B.least];rfl,iha g.1 bd.1 ⋯ ⋯ ⋯ λp k1 h1 p1 m1 o1=>⟨by rw[B.least];rfl,ihb g.2 bd.2.1 ⋯ ⋯ ⋯ λr k2 h2 p2 m2 o2=>?_⟩⟩;have e1:2^(a.nest+1)<=2^(max a.nest b.nest+1):=BW ∅ ⋯;have e2:2^(b.nest+1)<=2^(max a.nest b.nest+1):=BW ∅ ⋯;have e3:2^(1+max a.nest b.nest+1)=2*2^(max a.nest b.nest+1):=by rw[show 1+max a.nest b.nest+1=(max a.nest b.nest+1)+1 by lia,Ia,GJ]
  exact c0 (q (.pair p r) (by simp only[Pg.kind,k1,k2]) (by simp only[Pg.hgt,Kd.nest];lia) (by simp only[Pg.parts,Kd.nest];lia) ⟨m1,m2⟩ ⟨λi=>by simp only[Pg.oc,o1.1,o2.1],λΔ=>⟨o1.2 Δ,o2.2 Δ⟩⟩)
 |way a b iha ihb=>
  intro Γ n Q g bd n6 hn hΓ q;obtain⟨n,rfl⟩:∃k,n=k+1:=⟨n-1,⋯⟩;simp only[Kd.nest]at hn hΓ n6;refine f9 B.least rfl [AA (Kd.way a b).d,AA (.tup (Γ.map Kd.d)),AD,AD] rfl ?_;unfold P5;simp only[Kd.d];(iterate 6 ∎);refine⟨T5 (by simp only[AT];lia),?_⟩;rw[P9];∎;refine⟨by rw[B.least];rfl,ihb g.2.1 bd.2.1 ⋯ ⋯ (by simp only[Ac];lia) λr k2 h2 p2 m2 o2=>?_⟩;have e2:2^(b.nest+1)<=2^(max a.nest b.nest+1):=BW ∅ ⋯;have e3:2^(1+max a.nest b.nest+1)=2*2^(max a.nest b.nest+1):=by rw[show 1+max a.nest b.nest+1=(max a.nest b.nest+1)+1 by lia,Ia,GJ]
  have e4:0<2^(max a.nest b.nest+1):=pow_pos ∅;exact c0 (q (.way a r) (by simp only[Pg.kind,k2]) (by simp only[Pg.hgt,Kd.nest];lia) (by simp only[Pg.parts,Kd.nest];lia) ⟨⋯,m2⟩ ⟨λi=>by simp only[Pg.oc,o2.1],λΔ=>o2.2 (a::Δ)⟩)
 |eith a b iha ihb=>
  intro Γ n Q g bd n6 hn hΓ q;obtain⟨n,rfl⟩:∃k,n=k+1:=⟨n-1,⋯⟩;simp only[Kd.nest]at hn hΓ n6;refine f9 B.least rfl [AA (Kd.eith a b).d,AA (.tup (Γ.map Kd.d)),AD,AD] rfl ?_;unfold P5;simp only[Kd.d];(iterate 6 ∎);have e1:2^(a.nest+1)<=2^(max a.nest b.nest+1):=BW ∅ ⋯;have e2:2^(b.nest+1)<=2^(max a.nest b.nest+1):=BW ∅ ⋯;have e3:2^(1+max a.nest b.nest+1)=2*2^(max a.nest b.nest+1):=by rw[show 1+max a.nest b.nest+1=(max a.nest b.nest+1)+1 by lia,Ia,GJ]
  have e4:0<2^(max a.nest b.nest+1):=pow_pos ∅;refine⟨by rw[B.count];rfl,G6 B.toPB0 a (m:=100) ⋯ (W0 bd.1) ∅ ?_⟩;rfl'
  by_cases ha:(0:Int)<a.cnt
  ·simp only[ha,if_true];have ga:a.good:=by
    rcases g with g|g|g
    ·exact g.1
    ·rw[g.1]at ha;simp[Kd.cnt]at ha
    ·exact g.1
   ∎;refine⟨by rw[B.least];rfl,iha ga bd.1 ⋯ ⋯ ⋯ λp k1 h1 p1 m1 o1=>?_⟩;exact c0 (q (.left b p) (by simp only[Pg.kind,k1]) (by simp only[Pg.hgt,Kd.nest];lia) (by simp only[Pg.parts,Kd.nest];lia) ⟨⋯,m1⟩ ⟨λi=>by simp only[Pg.oc,o1.1],λΔ=>o1.2 Δ⟩)
  ·simp only[ha,if_false];have gb:b.good:=by
    rcases g with g|g|g
    ·exact g.2
    ·exact g.2
    ·exact absurd (Kd.good_pos g.1) ⋯
   ∎;refine⟨by rw[B.least];rfl,ihb gb bd.2.1 ⋯ ⋯ ⋯ λp k1 h1 p1 m1 o1=>?_⟩;exact c0 (q (.right a p) (by simp only[Pg.kind,k1]) (by simp only[Pg.hgt,Kd.nest];lia) (by simp only[Pg.parts,Kd.nest];lia) ⟨⋯,m1⟩ ⟨λi=>by simp only[Pg.oc,o1.1],λΔ=>o1.2 Δ⟩)
abbrev GSp(e:Int)(P:i6)(G:Gs)(f:Str)(n dp deep:Nat):Prop:=∀{da ra:AI}{k:Kd}{Γ:List Kd}{st:Sto}{Q:DK}{r:Int},da≠ra->p9 st da->Rm r st ra->k.good->k.bd 100->k.nest<=dp->Γ.length+deep<=900 ->
 (∀(p:Pg)st' r',p.kind Γ=AA k->p.hgt<=deep+7->p.kn 6->Cn e deep Γ p r r'->p9 st' da->Rm r' st' ra->Kp [da,ra] st st'->Q p.d st')->sem P G n f [.ref da,k.d,.tup (Γ.map Kd.d),.ref ra,.int deep] st Q
def ck6{deep:Nat}(hn:12<=n)(ih:GSp 0 P G "_law_grown" n 5 deep):GSp 1 P G "_law_made" (n+1) 5 (deep+1):=by
 intro da ra k Γ st Q r0 hne I R g bd n5 hΓ q;have ed:((deep+1:Nat):Int)-1=(deep:Nat):=by lia
 obtain⟨n,rfl⟩:∃m,n=m+1:=⟨n-1,⋯⟩;cases k with
 |non=>exact g.elim
 |one=>
  refine f9 B.made rfl [AA (.ref da),AA Kd.one.d,AA (.tup (Γ.map Kd.d)),AA (.ref ra),AA (.int (deep+1:Nat)),AD,AD,AD,AD] rfl ?_;unfold K9;simp only[Kd.d];(iterate 3 ∎);exact⟨by rw[B.least];rfl,ai7 B .one g bd ∅ (by simp only[Kd.nest];lia) (by simp only[Kd.nest];lia) λp k1 h1 _ m1 o1=>c0 (q p _ _ k1 (by simp only[Kd.nest]at h1;lia) m1 (Cn.leaf o1) I R Kp.refl)⟩
 |both a b=>
  simp only[Kd.nest]at n5;refine f9 B.made rfl [AA (.ref da),AA (Kd.both a b).d,AA (.tup (Γ.map Kd.d)),AA (.ref ra),AA (.int (deep+1:Nat)),AD,AD,AD,AD] rfl ?_;unfold K9;simp only[Kd.d];(iterate 4 ∎);rw[ed];refine⟨by rw[B.grown];rfl,ih hne I R g.1 bd.1 ⋯ ⋯ λp st1 r1 k1 h1 m1 c1 I1 R1 K1=>?_⟩;∎;rw[ed];refine⟨by rw[B.grown];rfl,ih hne I1 R1 g.2 bd.2.1 ⋯ ⋯ λp2 st2 r2 k2 h2 m2 c2 I2 R2 K2=>?_⟩;exact c0 (q (.pair p p2) _ _ (by simp only[Pg.kind,k1,k2]) (by simp only[Pg.hgt];lia) ⟨m1,m2⟩ (c1.k2 c2 (λ_=>rfl) λx y=>⟨x,y⟩) I2 R2 (K1.trans K2))
 |way a b=>
  simp only[Kd.nest]at n5;refine f9 B.made rfl [AA (.ref da),AA (Kd.way a b).d,AA (.tup (Γ.map Kd.d)),AA (.ref ra),AA (.int (deep+1:Nat)),AD,AD,AD,AD] rfl ?_;unfold K9;simp only[Kd.d];(iterate 5 ∎);rw[P9,ed];refine⟨by rw[B.grown];rfl,T5 (by simp only[AT];lia),ih hne I R g.2.1 bd.2.1 ⋯ (by simp only[Ac];lia) λp st1 r1 k1 h1 m1 c1 I1 R1 K1=>?_⟩;exact c0 (q (.way a p) _ _ (by simp only[Pg.kind,k1]) (by simp only[Pg.hgt];lia) ⟨⋯,m1⟩ (c1.k1b (λ_=>rfl) λx=>x) I1 R1 K1)
 |eith a b=>
  simp only[Kd.nest]at n5;refine f9 B.made rfl [AA (.ref da),AA (Kd.eith a b).d,AA (.tup (Γ.map Kd.d)),AA (.ref ra),AA (.int (deep+1:Nat)),AD,AD,AD,AD] rfl ?_;unfold K9;simp only[Kd.d];(iterate 5 ∎);refine⟨by rw[B.next];rfl,z9 B.toPB0 ∅ I λr st1 r0 r1 I1 K1=>?_⟩;have R1:=R.keep K1 (by simp;exact λz=>hne z.symm);have K1:=K1.w2 ra;have fin:∀(s:Int),(s=0/\a.good)\/(s=1/\b.good)->g9 (Zg P G (n+1)) (K9.body.drop 6) (j8 Q) [AA (.ref da),AA (Kd.eith a b).d,AA (.tup (Γ.map Kd.d)),AA (.ref ra),AA (.int (deep+1:Nat)),AA (.str "either"),AD,AA (.int s),AD] st1:=by
   intro s hs;simp only[K9,Ss.drop,Kd.d]
   rcases hs with⟨rfl,ga⟩|⟨rfl,gb⟩
   ·∎;rw[ed];refine⟨by rw[B.grown];rfl,a.d,rfl,ih hne I1 R1 ga bd.1 ⋯ ⋯ λp st2 r2 k2 h2 m2 c2 I2 R2 K2=>?_⟩;∎;intro x hx;rfl';exact⟨b.d,rfl,c0 (q (.left b p) _ _ (by simp only[Pg.kind,k2]) (by simp only[Pg.hgt];lia) ⟨⋯,m2⟩ (c2.k1 (λ_=>rfl) λx=>x) (I2.new hx) (R2.new hx) ((K1.trans K2).new hx))⟩
   ·∎;rw[ed];refine⟨by rw[B.grown];rfl,b.d,rfl,ih hne I1 R1 gb bd.2.1 ⋯ ⋯ λp st2 r2 k2 h2 m2 c2 I2 R2 K2=>?_⟩;∎;intro x hx;rfl';exact⟨a.d,rfl,c0 (q (.right a p) _ _ (by simp only[Pg.kind,k2]) (by simp only[Pg.hgt];lia) ⟨⋯,m2⟩ (c2.k1 (λ_=>rfl) λx=>x) (I2.new hx) (R2.new hx) ((K1.trans K2).new hx))⟩
  have go:∀c:Kd,c.good\/c=.non->(c.cnt:Int)≠0->c.good:=λc h hz=>h.elim id λe=>by subst e;simp[Kd.cnt]at hz
  have ga:a.good\/a=.non:=by rcases g with g|g|g<;>simp[g]
  have gb:b.good\/b=.non:=by rcases g with g|g|g<;>simp[g]
  ∎;obtain rfl|rfl:r=0\/r=1:=by lia
  ·refine⟨by rw[B.count];rfl,a.d,rfl,G6 B.toPB0 a (m:=100) ⋯ (W0 bd.1) ∅ ?_⟩;rfl'
   by_cases hz:(a.cnt:Int)=0
   ·simp only[hz,if_true];∎;exact fin 1 (.inr ⟨rfl,g.elim (λg=>g.2) λg=>g.elim (λg=>g.2) λg=>absurd (Kd.good_pos g.1) ⋯⟩)
   ·simp only[hz,if_false];exact fin 0 (.inl ⟨rfl,go a ga hz⟩)
  ·refine⟨by rw[B.count];rfl,b.d,rfl,G6 B.toPB0 b (m:=100) ⋯ (W0 bd.2.1) ∅ ?_⟩;rfl'
   by_cases hz:(b.cnt:Int)=0
   ·simp only[hz,if_true];∎;exact fin 0 (.inl ⟨rfl,g.elim (λg=>g.1) λg=>g.elim (λg=>absurd (Kd.good_pos g.2) ⋯) λg=>g.1⟩)
   ·simp only[hz,if_false];exact fin 1 (.inr ⟨rfl,go b gb hz⟩)
omit B in
theorem cu5{k:Kd}(h:k∈Γ):∃j:Nat,Γ[j]?=AA k/\∀(i:Nat)c,i<j->Γ[i]?=AA c->c≠k:=by
 induction Γ with
 |nil=>cases h
 |cons c Γ ih=>
  by_cases e:c=k
  ·exact⟨0,by rw[e];rfl,λi c hi=>⋯⟩
  ·obtain⟨j,hj,hb⟩:=ih (by rcases AL.mp h with z|z;exact absurd z.symm e;exact z);refine⟨j+1,hj,λi d hi hd=>?_⟩;cases i with
   |zero=>cases hd;exact e
   |succ i=>exact hb i d ⋯ hd
omit B in
theorem cz8{k:Kd}(h:k∈Γ)(hn:k.nest<=100)(q:∀j:Nat,Γ[j]?=AA k->Q (.int j) st):O2 (.tup (Γ.map Kd.d)) k.d st Q:=by
 obtain⟨j,hj,hb⟩:=cu5 h;refine⟨A0 k,ai5 Γ,by rw[u6];lia,j,k.d,by rw[Al,hj];rfl,by rw[F6];simp,λi e hi he=>?_,q j hj⟩;rw[Al]at he;cases hc:Γ[i]? with
 |none=>rw[hc]at he;cases he
 |some c=>rw[hc]at he;cases he;rw[F6];simp[hb i c hi hc]
omit B in
theorem co6{k:Kd}:((Γ.map Kd.d).any λy=>deq y k.d)=AB (k∈Γ):=by
 induction Γ with
 |nil=>rfl
 |cons c Γ ih=>rw[Ah,EX,ih,F6];simp only[AL,Il];congr 1;exact decide_eq_decide.mpr ⟨IS,IS⟩
omit B in
theorem cb3{d:Nat}{k:Kd}{j:Nat}(h:Γ[j]?=AA .non):Cn 1 d Γ (.never k (.name j)) r r:=
 ⟨⟨λ_=>⋯,λz=>⋯,⋯⟩,λi a h1 h2=>by
  have:j≠i:=λz=>by subst z;rw[h]at h1;cases h1;exact h2 rfl
  simp only[Pg.oc,this,if_false];lia,trivial⟩
def b98{deep:Nat}(hn:12<=n)(ih:GSp 0 P G "_law_grown" n 5 deep):GSp 1 P G "_law_asked" (n+1) 4 (deep+1):=by
 intro da ra k Γ st Q r0 hne I R g bd n5 hΓ q;have ed:((deep+1:Nat):Int)-1=(deep:Nat):=by lia
 obtain⟨n,rfl⟩:∃m,n=m+1:=⟨n-1,⋯⟩;have hra:ra∉[da]:=by simp;exact λz=>hne z.symm
 refine f9 B.asked rfl [AA (.ref da),AA k.d,AA (.tup (Γ.map Kd.d)),AA (.ref ra),AA (.int (deep+1:Nat)),AD,AD,AD,AD,AD] rfl ?_;unfold N0;∎;refine⟨by rw[B.kind];rfl,Q3 B.toPB0 (most:=4) ∅ ∅ 1 ⋯ I λko st1 go bo no I1 K1=>?_⟩;have R1:=R.keep K1 hra;have K1:=K1.w2 ra;have fin:∀ko:Kd,ko.good->ko.bd 4->ko.nest<=1->(Kd.both k ko).bd 100->(Kd.both ko k).bd 100->(Kd.way ko k).bd 100->g9 (Zg P G (n+1)) (N0.body.drop 2) (j8 Q) [AA (.ref da),AA k.d,AA (.tup (Γ.map Kd.d)),AA (.ref ra),AA (.int (deep+1:Nat)),AA ko.d,AD,AD,AD,AD] st1:=by
  intro ko go bo no b1 b2 b3;simp only[N0,Ss.drop];∎;refine⟨by rw[B.next];rfl,z9 B.toPB0 ∅ I1 λr st2 r0 r1 I2 K2=>?_⟩;have R2:=R1.keep K2 hra;have K2:=K1.trans (K2.w2 ra);have bo':=Kd.bd_mono (show 4<=100 by decide) bo;∎
  by_cases h0:r=0
  ·simp only[h0,if_true];∎;rw[ed];refine⟨by rw[B.grown];rfl,ih (k:=.both k ko) hne I2 R2 ⟨g,go⟩ b1 (by simp only[Kd.nest];lia) ⋯ λp st3 r3 k3 h3 m3 c3 I3 R3 K3=>?_⟩;exact c0 (q (.first p) _ _ (by simp only[Pg.kind,k3]) (by simp only[Pg.hgt];lia) m3 (c3.k1 (λ_=>rfl) λx=>x) I3 R3 (K2.trans K3))
  simp only[h0,if_false];∎
  by_cases h1:r=1
  ·simp only[h1,if_true];∎;rw[ed];refine⟨by rw[B.grown];rfl,ih (k:=.both ko k) hne I2 R2 ⟨go,g⟩ b2 (by simp only[Kd.nest];lia) ⋯ λp st3 r3 k3 h3 m3 c3 I3 R3 K3=>?_⟩;exact c0 (q (.second p) _ _ (by simp only[Pg.kind,k3]) (by simp only[Pg.hgt];lia) m3 (c3.k1 (λ_=>rfl) λx=>x) I3 R3 (K2.trans K3))
  simp only[h1,if_false];∎
  by_cases h2:r=2
  ·simp only[h2,if_true];∎;rw[ed];refine⟨by rw[B.grown];rfl,ih (k:=.way ko k) hne I2 R2 ⟨.inl go,g,BC (Kd.bd_le bo) ∅⟩ b3 (by simp only[Kd.nest];lia) ⋯ λp st3 r3 k3 h3 m3 c3 I3 R3 K3=>?_⟩;∎;rw[ed];refine⟨by rw[B.grown];rfl,ih (k:=ko) hne I3 R3 go bo' ⋯ ⋯ λp4 st4 r4 k4 h4 m4 c4 I4 R4 K4=>?_⟩;exact c0 (q (.give p p4) _ _ (by simp only[Pg.kind,k3,k4,if_true]) (by simp only[Pg.hgt];lia) ⟨m3,m4⟩ (c3.k2 c4 (λ_=>rfl) λx y=>⟨x,y⟩) I4 R4 ((K2.trans K3).trans K4))
  simp only[h2,if_false];∎
  by_cases h3:r=3
  ·simp only[h3,if_true];∎;rw[ed];refine⟨by rw[B.grown];rfl,ih (k:=ko) hne I2 R2 go bo' ⋯ ⋯ λp st3 r3 k3 h3 m3 c3 I3 R3 K3=>?_⟩;∎;rw[ed,P9];refine⟨by rw[B.grown];rfl,T5 (by simp only[AT];lia),ih (k:=k) hne I3 R3 g bd ⋯ (by simp only[Ac];lia) λp4 st4 r4 k4 h4 m4 c4 I4 R4 K4=>?_⟩;exact c0 (q (.lets p p4) _ _ (by simp only[Pg.kind,k3,k4]) (by simp only[Pg.hgt];lia) ⟨m3,m4⟩ (c3.k2b c4 (λ_=>rfl) λx y=>⟨x,λa ha=>by rw[k3]at ha;cases ha;exact⟨⋯,y⟩⟩) I4 R4 ((K2.trans K3).trans K4))
  simp only[h3,if_false];have fin2:g9 (Zg P G (n+1)) (N0.body.drop 8) (j8 Q) [AA (.ref da),AA k.d,AA (.tup (Γ.map Kd.d)),AA (.ref ra),AA (.int (deep+1:Nat)),AA ko.d,AA (.int r),AD,AD,AD] st2:=by
   simp only[N0,Ss.drop];∎;refine⟨by rw[B.kind];rfl,Q3 B.toPB0 (most:=4) ∅ ∅ 1 ⋯ I2 λkm st3 gm bm nm I3 K3=>?_⟩;have R3:=R2.keep K3 hra;have K3:=K2.trans (K3.w2 ra);have bm':=Kd.bd_mono (show 4<=100 by decide) bm;have lo:=Kd.bd_le bo;have lm:=Kd.bd_le bm;∎;rw[ed];refine⟨by rw[B.grown];rfl,ih (k:=.eith ko km) hne I3 R3 (.inl ⟨go,gm⟩) ⟨bo',bm',⋯⟩ (by simp only[Kd.nest];lia) ⋯ λp4 st4 r4 k4 h4 m4 c4 I4 R4 K4=>?_⟩;∎;rw[ed,P9];refine⟨by rw[B.grown];rfl,T5 (by simp only[AT];lia),ih (k:=k) hne I4 R4 g bd ⋯ (by simp only[Ac];lia) λp5 st5 r5 k5 h5 m5 c5 I5 R5 K5=>?_⟩;∎;rw[ed,P9];refine⟨by rw[B.grown];rfl,T5 (by simp only[AT];lia),ih (k:=k) hne I5 R5 g bd ⋯ (by simp only[Ac];lia) λp6 st6 r6 k6 h6 m6 c6 I6 R6 K6=>?_⟩;exact c0 (q (.case p4 p5 p6) _ _ (by simp only[Pg.kind,k4,k5,k6,if_true]) (by simp only[Pg.hgt];lia) ⟨m4,m5,m6⟩ (c4.k3 c5 c6 λx y z=>⟨x,λa b ha=>by rw[k4]at ha;cases ha;exact⟨⟨⋯,⋯⟩,y,z⟩⟩) I6 R6 (((K3.trans K4).trans K5).trans K6))
  have hnone:(D.tup [.str "none"])=Kd.non.d:=rfl;∎
  by_cases h4:r=4
  ·simp only[h4,if_true];rw[hnone,co6];refine⟨A0 _,ai5 _,by rw[u6];decide,?_⟩;rfl'
   by_cases hm:Kd.non∈Γ
   ·simp only[hm,if_true];∎;rw[hnone];refine cz8 hm ∅ λj hj=>?_;exact c0 (q (.never k (.name j)) _ _ (by simp only[Pg.kind,hj]) (by simp only[Pg.hgt];lia) ⟨⋯,trivial⟩ (cb3 hj) I2 R2 K2)
   ·simp only[hm,if_false];subst h4;exact fin2
  ·simp only[h4,if_false];exact fin2
 have lk:=Kd.bd_le bd;have bo':=Kd.bd_mono (show 4<=100 by decide) bo;have one:∀k:Kd,k.bd 100->(Kd.both k .one).bd 100/\(Kd.both .one k).bd 100/\(Kd.way .one k).bd 100:=λk h=>by
  have:=Kd.bd_le h;have o:Kd.one.bd 100:=(show 1<=100 by decide);exact⟨⟨h,o,by simpa[Kd.cnt]using this⟩,⟨o,h,by simpa[Kd.cnt]using this⟩,⟨o,h,by simpa[Kd.cnt]using this⟩⟩
 have⟨o1,o2,o3⟩:=one k bd;∎;refine⟨by rw[B.count];rfl,G6 B.toPB0 (.both k ko) (m:=100) (by simp only[Kd.nest];lia) (λc d e=>by rcases e with e|e|e<;>cases e;exact⟨bd,bo'⟩) ∅ ?_⟩;rfl'
 by_cases hb:(100:Int)<(Kd.both k ko).cnt
 ·simp only[hb,if_true];∎;exact fin .one trivial (show 1<=4 by decide) ∅ o1 o2 o3
 ·simp only[hb,if_false];refine⟨by rw[B.count];rfl,G6 B.toPB0 (.way ko k) (m:=100) (by simp only[Kd.nest];lia) (λc d e=>by rcases e with e|e|e<;>cases e;exact⟨bo',bd⟩) ∅ ?_⟩;rfl'
  by_cases hw:(100:Int)<(Kd.way ko k).cnt
  ·simp only[hw,if_true];∎;exact fin .one trivial (show 1<=4 by decide) ∅ o1 o2 o3
  ·simp only[hw,if_false];simp only[Kd.cnt]at hb hw;exact fin ko go bo no ⟨bd,bo',⋯⟩ ⟨bo',bd,by rw[GJ];lia⟩ ⟨bo',bd,⋯⟩
end
abbrev Pg.withKids:Pg->List Pg->Pg
 |.pair a b,l=>match l with|[t,u]=>.pair t u|_=>.pair a b
 |.first a,l=>match l with|[t]=>.first t|_=>.first a
 |.second a,l=>match l with|[t]=>.second t|_=>.second a
 |.left b a,l=>match l with|[t]=>.left b t|_=>.left b a
 |.right b a,l=>match l with|[t]=>.right b t|_=>.right b a
 |.case a b c,l=>match l with|[t,u,v]=>.case t u v|_=>.case a b c
 |.way b a,l=>match l with|[t]=>.way b t|_=>.way b a
 |.give a b,l=>match l with|[t,u]=>.give t u|_=>.give a b
 |.lets a b,l=>match l with|[t,u]=>.lets t u|_=>.lets a b
 |.never b a,l=>match l with|[t]=>.never b t|_=>.never b a
 |.name n,_=>.name n
 |.star,_=>.star
def Pg.with_cases{motive:Pg->List Pg->Prop}(h0:∀n,motive (.name n) [])(h1:motive .star [])(h2:∀a b t u,motive (.pair a b) [t,u])(h3:∀a t,motive (.first a) [t])(h4:∀a t,motive (.second a) [t])
  (h5:∀k a t,motive (.left k a) [t]) (h6:∀k a t,motive (.right k a) [t]) (h7:∀a b c t u v,motive (.case a b c) [t,u,v]) (h8:∀k a t,motive (.way k a) [t]) (h9:∀a b t u,motive (.give a b) [t,u]) (h10:∀a b t u,motive (.lets a b) [t,u]) (h11:∀k a t,motive (.never k a) [t]) :
  ∀(p:Pg)(l:List Pg),l.length=p.kids.length->motive p l:=by
 intro p l h;cases p<;>simp only[Pg.kids,Ac,BH]at h
 case name=>have:l=[]:=Gh.mp h;subst this;exact h0 _
 case star=>have:l=[]:=Gh.mp h;subst this;exact h1
 case pair=>
  obtain⟨a,b,rfl⟩:∃a b,l=[a,b]:=by match l,h with|[a,b],_=>exact⟨a,b,rfl⟩
  exact h2 _ _ _ _
 case give=>
  obtain⟨a,b,rfl⟩:∃a b,l=[a,b]:=by match l,h with|[a,b],_=>exact⟨a,b,rfl⟩
  exact h9 _ _ _ _
 case lets=>
  obtain⟨a,b,rfl⟩:∃a b,l=[a,b]:=by match l,h with|[a,b],_=>exact⟨a,b,rfl⟩
  exact h10 _ _ _ _
 case case=>
  obtain⟨a,b,c,rfl⟩:∃a b c,l=[a,b,c]:=by match l,h with|[a,b,c],_=>exact⟨a,b,c,rfl⟩
  exact h7 _ _ _ _ _ _
 case first=>
  obtain⟨a,rfl⟩:∃a,l=[a]:=by match l,h with|[a],_=>exact⟨a,rfl⟩
  exact h3 _ _
 case second=>
  obtain⟨a,rfl⟩:∃a,l=[a]:=by match l,h with|[a],_=>exact⟨a,rfl⟩
  exact h4 _ _
 case left=>
  obtain⟨a,rfl⟩:∃a,l=[a]:=by match l,h with|[a],_=>exact⟨a,rfl⟩
  exact h5 _ _ _
 case right=>
  obtain⟨a,rfl⟩:∃a,l=[a]:=by match l,h with|[a],_=>exact⟨a,rfl⟩
  exact h6 _ _ _
 case way=>
  obtain⟨a,rfl⟩:∃a,l=[a]:=by match l,h with|[a],_=>exact⟨a,rfl⟩
  exact h8 _ _ _
 case never=>
  obtain⟨a,rfl⟩:∃a,l=[a]:=by match l,h with|[a],_=>exact⟨a,rfl⟩
  exact h11 _ _ _
abbrev c03:List (Str×D):=[("name",.int 2),("star",.int 1),("pair",.int 1),("first",.int 1),("second",.int 1),("left",.int 2),("right",.int 2),("case",.int 1),("way",.int 2),("give",.int 1),("let",.int 1),("never",.int 2)]
def cj0{lo hi:Option Int}:(r9 ds lo hi).length<=ds.length:=by
 unfold r9;rw[Bl,CS];lia
abbrev cz9:List (Str×D):=[("case",.ktup [1,2]),("way",.ktup [0]),("let",.ktup [1])]
abbrev Pg.mp(f:Nat->Nat->Option Pg):Nat->Pg->Pg
 |u,.name n=>(f n u).getD (.name n)
 |_,.star=>.star
 |u,.pair t v=>.pair (t.mp f u) (v.mp f u)
 |u,.first t=>.first (t.mp f u)
 |u,.second t=>.second (t.mp f u)
 |u,.left b t=>.left b (t.mp f u)
 |u,.right b t=>.right b (t.mp f u)
 |u,.case t v w=>.case (t.mp f u) (v.mp f (u+1)) (w.mp f (u+1))
 |u,.way b t=>.way b (t.mp f (u+1))
 |u,.give t v=>.give (t.mp f u) (v.mp f u)
 |u,.lets t v=>.lets (t.mp f u) (v.mp f (u+1))
 |u,.never b t=>.never b (t.mp f u)
abbrev Pg.chd(f:Nat->Nat->Option Pg):Nat->Pg->Bool
 |u,.name n=>(f n u).isSome
 |_,.star=>AE
 |u,.pair t v=>t.chd f u||v.chd f u
 |u,.first t=>t.chd f u
 |u,.second t=>t.chd f u
 |u,.left _ t=>t.chd f u
 |u,.right _ t=>t.chd f u
 |u,.case t v w=>t.chd f u||(v.chd f (u+1)||w.chd f (u+1))
 |u,.way _ t=>t.chd f (u+1)
 |u,.give t v=>t.chd f u||v.chd f u
 |u,.lets t v=>t.chd f u||v.chd f (u+1)
 |u,.never _ t=>t.chd f u
def Pg.mp_same(p:Pg):∀{u:Nat},p.chd f u=AE->p.mp f u=p:=by
 induction p with
 |name n=>intro u h;simp only[Pg.chd]at h;simp only[Pg.mp];cases e:f n u with|none=>rfl|some r=>rw[e]at h;cases h
 |star=>intro u _;rfl
 |pair t v iht ihv=>intro u h;simp only[Pg.chd,Et]at h;simp only[Pg.mp,iht h.1,ihv h.2]
 |give t v iht ihv=>intro u h;simp only[Pg.chd,Et]at h;simp only[Pg.mp,iht h.1,ihv h.2]
 |lets t v iht ihv=>intro u h;simp only[Pg.chd,Et]at h;simp only[Pg.mp,iht h.1,ihv h.2]
 |case t v w iht ihv ihw=>intro u h;simp only[Pg.chd,Et]at h;simp only[Pg.mp,iht h.1,ihv h.2.1,ihw h.2.2]
 |first t iht=>intro u h;simp only[Pg.mp,iht h]
 |second t iht=>intro u h;simp only[Pg.mp,iht h]
 |left b t iht=>intro u h;simp only[Pg.mp,iht h]
 |right b t iht=>intro u h;simp only[Pg.mp,iht h]
 |way b t iht=>intro u h;simp only[Pg.mp,iht h]
 |never b t iht=>intro u h;simp only[Pg.mp,iht h]
abbrev Pg.more:Pg->Nat->Nat
 |.case _ _ _,i=>if i=1\/i=2 then 1 else 0
 |.way _ _,i=>if i=0 then 1 else 0
 |.lets _ _,i=>if i=1 then 1 else 0
 |_,_=>0
abbrev Pg.kidsU(u:Nat)(p:Pg):List (Pg×Nat):=p.kids.mapIdx λi c=>(c,u+p.more i)
def Pg.mp_kids(h:p.kids≠[]):p.mp f u=p.withKids ((p.kidsU u).map λc=>c.1.mp f c.2):=by
 cases p<;>first|rfl|exact absurd rfl h
def Pg.chd_kids(h:p.kids≠[]):p.chd f u=((p.kidsU u).map λc=>c.1.chd f c.2).any id:=by
 cases p<;>first|exact absurd rfl h|(simp[Pg.chd,Pg.kidsU,Pg.kids,Pg.more,HM,FP])
def Pg.parts_U(p:Pg)(u:Nat):p.parts=1+((p.kidsU u).map λc=>c.1.parts).sum:=by
 cases p<;>simp[Pg.parts,Pg.kidsU,Pg.kids,Pg.more,HM,FP]<;>lia
def Pg.hgt_U(p:Pg)(u:Nat):∀c∈p.kidsU u,c.2+c.1.hgt<=u+p.hgt:=by
 cases p<;>simp[Pg.hgt,Pg.kidsU,Pg.kids,Pg.more,HM,FP]<;>lia
def Pg.mp_hgt(hf:∀n u r,f n u=AA r->r.hgt<=m)(hm:1<=m)(p:Pg):∀{u:Nat},(p.mp f u).hgt+1<=p.hgt+m:=by
 induction p with
 |name n=>intro u;simp only[Pg.mp,Pg.hgt];cases e:f n u with|none=>simp only[JE,Pg.hgt];lia|some r=>have:=hf n u r e;simp only[JE];lia
 |star=>intro u;simp only[Pg.mp,Pg.hgt];lia
 |pair t v iht ihv=>intro u;have:=@iht u;have:=@ihv u;simp only[Pg.mp,Pg.hgt];lia
 |give t v iht ihv=>intro u;have:=@iht u;have:=@ihv u;simp only[Pg.mp,Pg.hgt];lia
 |lets t v iht ihv=>intro u;have:=@iht u;have:=@ihv (u+1);simp only[Pg.mp,Pg.hgt];lia
 |case t v w iht ihv ihw=>intro u;have:=@iht u;have:=@ihv (u+1);have:=@ihw (u+1);simp only[Pg.mp,Pg.hgt];lia
 |first t iht=>intro u;have:=@iht u;simp only[Pg.mp,Pg.hgt];lia
 |second t iht=>intro u;have:=@iht u;simp only[Pg.mp,Pg.hgt];lia
 |left b t iht=>intro u;have:=@iht u;simp only[Pg.mp,Pg.hgt];lia
 |right b t iht=>intro u;have:=@iht u;simp only[Pg.mp,Pg.hgt];lia
 |way b t iht=>intro u;have:=@iht (u+1);simp only[Pg.mp,Pg.hgt];lia
 |never b t iht=>intro u;have:=@iht u;simp only[Pg.mp,Pg.hgt];lia
def Pg.mp_kn(hf:∀n u r,f n u=AA r->r.kn m)(p:Pg):∀{u:Nat},p.kn m->(p.mp f u).kn m:=by
 induction p with
 |name n=>intro u _;simp only[Pg.mp];cases e:f n u with|none=>trivial|some r=>exact hf n u r e
 |star=>intro u h;exact h
 |pair t v iht ihv=>exact λh=>⟨iht h.1,ihv h.2⟩
 |give t v iht ihv=>exact λh=>⟨iht h.1,ihv h.2⟩
 |lets t v iht ihv=>exact λh=>⟨iht h.1,ihv h.2⟩
 |case t v w iht ihv ihw=>exact λh=>⟨iht h.1,ihv h.2.1,ihw h.2.2⟩
 |first t iht=>exact λh=>iht h
 |second t iht=>exact λh=>iht h
 |left b t iht=>exact λh=>⟨h.1,iht h.2⟩
 |right b t iht=>exact λh=>⟨h.1,iht h.2⟩
 |way b t iht=>exact λh=>⟨h.1,iht h.2⟩
 |never b t iht=>exact λh=>⟨h.1,iht h.2⟩
abbrev lfF(m l n u:Nat):Option Pg:=if u+l<=n then AA (.name (n+m))else AD
abbrev Pg.lf(m l:Nat)(p:Pg):Pg:=p.mp (lfF m l) 0
abbrev sbF(o:Pg)(n u:Nat):Option Pg:=if n<u then AD else if n=u then AA (o.lf u 0)else AA (.name (n-1))
abbrev Pg.sb(p o:Pg):Pg:=p.mp (sbF o) 0
def bh0{m:Nat}:(p.lf m l).hgt<=p.hgt:=by
 have:=Pg.mp_hgt (f:=lfF m l) (m:=1) (λn u r h=>by unfold lfF at h;split at h<;>cases h;exact AY _) (AY _) p (u:=0);unfold Pg.lf;lia
def an7{k:Nat}(h:p.kn k):(p.lf m l).kn k:=Pg.mp_kn (λn u r h=>by unfold lfF at h;split at h<;>cases h;trivial) p h
def cs9:(p.sb o).hgt<=p.hgt+o.hgt:=by
 have h1:∀q:Pg,1<=q.hgt:=λq=>by cases q<;>simp only[Pg.hgt]<;>lia
 have:=Pg.mp_hgt (f:=sbF o) (m:=o.hgt) (λn u r h=>by
  unfold sbF at h
  split at h
  ·cases h
  ·split at h<;>cases h
   ·exact bh0
   ·exact h1 o) (h1 o) p (u:=0)
 unfold Pg.sb;lia
def bo4{k:Nat}(ho:o.kn k)(h:p.kn k):(p.sb o).kn k:=Pg.mp_kn (λn u r h=>by
 unfold sbF at h
 split at h
 ·cases h
 ·split at h<;>cases h
  ·exact an7 ho
  ·trivial) p h
def az5(p:Pg):∀{u:Nat},(p.mp (lfF m l) u).parts=p.parts:=by
 induction p with
 |name n=>intro u;simp only[Pg.mp,lfF];split<;>rfl
 |star=>intro u;rfl
 |pair t v iht ihv=>intro u;simp only[Pg.mp,Pg.parts,@iht u,@ihv u]
 |give t v iht ihv=>intro u;simp only[Pg.mp,Pg.parts,@iht u,@ihv u]
 |lets t v iht ihv=>intro u;simp only[Pg.mp,Pg.parts,@iht u,@ihv (u+1)]
 |case t v w iht ihv ihw=>intro u;simp only[Pg.mp,Pg.parts,@iht u,@ihv (u+1),@ihw (u+1)]
 |first t iht=>intro u;simp only[Pg.mp,Pg.parts,@iht u]
 |second t iht=>intro u;simp only[Pg.mp,Pg.parts,@iht u]
 |left b t iht=>intro u;simp only[Pg.mp,Pg.parts,@iht u]
 |right b t iht=>intro u;simp only[Pg.mp,Pg.parts,@iht u]
 |way b t iht=>intro u;simp only[Pg.mp,Pg.parts,@iht (u+1)]
 |never b t iht=>intro u;simp only[Pg.mp,Pg.parts,@iht u]
def cc5(p:Pg):∀{u:Nat},(p.mp (sbF o) u).parts+p.oc u=p.parts+p.oc u*o.parts:=by
 induction p with
 |name n=>
  intro u;simp only[Pg.mp,sbF,Pg.oc]
  by_cases h1:n<u
  ·rw[if_pos h1,if_neg ⋯];simp[Pg.parts]
  ·rw[if_neg h1]
   by_cases h2:n=u
   ·rw[if_pos h2,if_pos h2];show(o.mp (lfF u 0) 0).parts+1=1+1*o.parts;rw[az5];lia
   ·rw[if_neg h2,if_neg h2];simp[Pg.parts]
 |star=>intro u;simp[Pg.mp,Pg.parts,Pg.oc]
 |pair t v iht ihv=>intro u;have:=@iht u;have:=@ihv u;simp only[Pg.mp,Pg.parts,Pg.oc,JV];lia
 |give t v iht ihv=>intro u;have:=@iht u;have:=@ihv u;simp only[Pg.mp,Pg.parts,Pg.oc,JV];lia
 |lets t v iht ihv=>intro u;have:=@iht u;have:=@ihv (u+1);simp only[Pg.mp,Pg.parts,Pg.oc,JV];lia
 |case t v w iht ihv ihw=>intro u;have:=@iht u;have:=@ihv (u+1);have:=@ihw (u+1);simp only[Pg.mp,Pg.parts,Pg.oc,JV];lia
 |first t iht=>intro u;have:=@iht u;simp only[Pg.mp,Pg.parts,Pg.oc];lia
 |second t iht=>intro u;have:=@iht u;simp only[Pg.mp,Pg.parts,Pg.oc];lia
 |left b t iht=>intro u;have:=@iht u;simp only[Pg.mp,Pg.parts,Pg.oc];lia
 |right b t iht=>intro u;have:=@iht u;simp only[Pg.mp,Pg.parts,Pg.oc];lia
 |way b t iht=>intro u;have:=@iht (u+1);simp only[Pg.mp,Pg.parts,Pg.oc];lia
 |never b t iht=>intro u;have:=@iht u;simp only[Pg.mp,Pg.parts,Pg.oc];lia
def c08{g h:Nat->Nat->Option Pg}{a b c:Nat->Nat}(ha:∀u,a (u+1)=a u+1)(hb:∀u,b (u+1)=b u+1)(hc:∀u,c (u+1)=c u+1)
  (H:∀n u,((Pg.name n).mp f (a u)).mp g (b u)=(Pg.name n).mp h (c u)) (p:Pg):∀u,(p.mp f (a u)).mp g (b u)=p.mp h (c u):=by
 induction p with
 |name n=>exact H n
 |star=>intro u;rfl
 |pair t v iht ihv=>intro u;simp only[Pg.mp,iht u,ihv u]
 |give t v iht ihv=>intro u;simp only[Pg.mp,iht u,ihv u]
 |lets t v iht ihv=>intro u;simp only[Pg.mp,iht u];rw[<-ha,<-hb,<-hc,ihv]
 |case t v w iht ihv ihw=>intro u;simp only[Pg.mp,iht u];rw[<-ha,<-hb,<-hc,ihv,ihw]
 |first t iht=>intro u;simp only[Pg.mp,iht u]
 |second t iht=>intro u;simp only[Pg.mp,iht u]
 |left b t iht=>intro u;simp only[Pg.mp,iht u]
 |right b t iht=>intro u;simp only[Pg.mp,iht u]
 |way b t iht=>intro u;simp only[Pg.mp];rw[<-ha,<-hb,<-hc,iht]
 |never b t iht=>intro u;simp only[Pg.mp,iht u]
def c17(p:Pg)(u:Nat):p.mp (λ_ _=>AD) u=p:=Pg.mp_same p (by
 induction p generalizing u with
 |name n=>rfl
 |star=>rfl
 |_=>simp only[Pg.chd, *,Bool.or_self])
def Y7:(Pg.name n).mp (lfF m l) u=.name (if u+l<=n then n+m else n):=by
 simp only[Pg.mp,lfF];split<;>rfl
theorem af9:∀(ds:List D)(i:Nat),(o5 i ds).length=ds.length
 |[],_=>rfl
 |_::ds,i=>by show(o5 (i+1) ds).length+1=ds.length+1;rw[af9 ds]
def b87{d:Nat}(h:(∀i,p.oc i=0)/\∀Δ,p.nl 6 Δ):Cn 0 d Γ p r (r-1):=⟨⟨λ_=>⋯,λ_ _=>rfl,⋯⟩,λi a _ _=>by rw[h.1 i];lia,h.2 Γ⟩
def ch6{d:Nat}{j:Nat}:Cn 0 d Γ (.name j) r (r-1):=⟨⟨λ_=>⋯,λ_ _=>rfl,⋯⟩,λi a _ _=>by simp only[Pg.oc,Pg.parts];split<;>lia,trivial⟩
def aj8{d:Nat}{r':Int}(h:¬r-1<=0)(c:Cn 1 d Γ p (r-1) r'):Cn 0 d Γ p r r':=
 ⟨⟨λ_=>c.1.1 ⋯,λ_ z=>⋯,by have:=c.1.2.2;lia⟩,λi a h1 h2=>by have:=c.2.1 i a h1 h2;lia,c.2.2⟩
section
variable (B:PB P) 
include B
def aw1(deep:Nat)(hn:14<=n+2)(hm:0<deep->GSp 1 P G "_law_made" (n+1) 5 deep)(ha:0<deep->GSp 1 P G "_law_asked" (n+1) 4 deep):GSp 0 P G "_law_grown" (n+2) 5 deep:=by
 intro da ra k Γ st Q r hne I R g bd n5 hΓ q;have hra:ra∉[da]:=by simp;exact λz=>hne z.symm
 refine f9 B.grown rfl [AA (.ref da),AA k.d,AA (.tup (Γ.map Kd.d)),AA (.ref ra),AA (.int deep),AD,AD] rfl ?_;unfold P6;∎;rw[l6 (.inl R)];rfl';refine⟨ra,0,0,_,rfl,rfl,R,rfl,?_⟩;have I1:p9 (b0 st ra (.lst [.int (r-1)])) da:=let⟨l,h⟩:=I;⟨l,c8 h hne⟩;have R1:(b0 st ra (.lst [.int (r-1)])) ra=AA (.lst [.int (r-1)]):=c9;have K1:Kp [da,ra] st (b0 st ra (.lst [.int (r-1)])):=Kp.refl.put ∎;show g9 _ _ _ _ (b0 st ra (.lst [.int (r-1)]));revert I1 R1 K1;generalize b0 st ra (.lst [.int (r-1)])=st1;intro I1 R1 K1;∎;refine⟨by rw[af9,AT];lia,?_⟩;refine G7 (λl acc env' st'=>st'=st1/\∃(pre suf:List Kd)(x y:Option D)(acc':List Nat),Γ=pre++suf/\l=o5 pre.length (suf.map Kd.d)/\env'=[AA k.d,x,y]/\acc=acc'.map (λi:Nat=>D.int (i:Int))/\acc'.length<=pre.length/\∀i∈acc',Γ[i]?=AA k) ?_ ?_ _ _ _ _ ⟨rfl,[],Γ,AD,AD,[],rfl,rfl,rfl,rfl,AY _,∎⟩
 ·rintro acc env' st' ⟨rfl,pre,suf,x,y,acc',eΓ,el,rfl,rfl,al,hacc⟩;refine⟨trivial,λsp hsp=>?_⟩;have I2:=I1.new (u:=.lst (acc'.map (λi:Nat=>D.int (i:Int)))) hsp;have R2:=j6 (u:=.lst (acc'.map (λi:Nat=>D.int (i:Int)))) R1 hsp;have K2:=K1.new (o:=.lst (acc'.map (λi:Nat=>D.int (i:Int)))) hsp;have S2:b0 st' sp (.lst (acc'.map (λi:Nat=>D.int (i:Int)))) sp=AA (.lst (acc'.map (λi:Nat=>D.int (i:Int)))):=c9;have nds:sp∉[da]:=by simp;exact λz=>I1.ne hsp z.symm
  revert I2 R2 K2 S2;generalize b0 st' sp (.lst (acc'.map (λi:Nat=>D.int (i:Int))))=st2;intro I2 R2 K2 S2;∎;refine⟨by rw[B.next];rfl,z9 B.toPB0 ∅ I2 λw st3 w0 w1 I3 K3=>?_⟩;have R3:=K3.at' R2 hra;have S3:=K3.at' S2 nds;have K3:=K2.trans (K3.w2 ra);have fin:g9 (Zg P G (n+1)) (P6.body.drop 4) (j8 Q) [AA (.ref da),AA k.d,AA (.tup (Γ.map Kd.d)),AA (.ref ra),AA (.int deep),AA (.ref sp),AA (.int w)] st3:=by
   simp only[P6,Ss.drop];have lst:g9 (Zg P G (n+1)) (.cons (.ret (.call "_law_least" (.cons (.v 1) (.cons (.v 2) .nil)))) .nil) ⟨g9 (Zg P G (n+1)) (P6.body.drop 5) (j8 Q),(j8 Q).rt,(j8 Q).bk,(j8 Q).ct⟩ [AA (.ref da),AA k.d,AA (.tup (Γ.map Kd.d)),AA (.ref ra),AA (.int deep),AA (.ref sp),AA (.int w)] st3:=by
    ∎;exact⟨by rw[B.least];rfl,ai7 B k g bd ⋯ ⋯ ⋯ λp k1 h1 _ m1 o1=>c0 (q p _ (r-1) k1 ⋯ m1 (b87 o1) I3 R3 K3)⟩
   have hnone:(D.tup [.str "none"])=Kd.non.d:=rfl;have kn:k≠.non:=λz=>by subst z;exact g
   ∎;rw[l6 (.inl R3)];rfl'
   by_cases h1:r-1<=0
   ·simp only[h1,if_true];exact lst
   simp only[h1,if_false]
   by_cases h2:(deep:Int)<=0
   ·simp only[h2,if_true];exact lst
   simp only[h2,if_false];rw[hnone,ao9,F6];refine⟨A0 _,A0 _,by rw[u6,u6];exact BC (Ic _ _) ⋯,?_⟩;rfl';simp only[kn,if_false];∎
   by_cases h6:w<6
   ·simp only[h6,if_true];∎;exact⟨by rw[B.made];rfl,hm ⋯ hne I3 R3 g bd n5 hΓ λp st4 r4 k4 h4 m4 c4 I4 R4 K4=>c0 (q p _ r4 k4 h4 m4 (aj8 ⋯ c4) I4 R4 (K3.trans K4))⟩
   simp only[h6,if_false];refine⟨by rw[B.nest];rfl,ci2 B k ⋯ ?_⟩;rfl'
   by_cases h5:(4:Int)<k.nest
   ·simp only[h5,if_true];∎;exact⟨by rw[B.made];rfl,hm ⋯ hne I3 R3 g bd n5 hΓ λp st4 r4 k4 h4 m4 c4 I4 R4 K4=>c0 (q p _ r4 k4 h4 m4 (aj8 ⋯ c4) I4 R4 (K3.trans K4))⟩
   simp only[h5,if_false];∎;exact⟨by rw[B.asked];rfl,ha ⋯ hne I3 R3 g bd ⋯ hΓ λp st4 r4 k4 h4 m4 c4 I4 R4 K4=>c0 (q p _ r4 k4 h4 m4 (aj8 ⋯ c4) I4 R4 (K3.trans K4))⟩
  ∎;rw[u0 (.inl S3)];rfl'
  by_cases hl:(0:Int)<((acc'.map (λi:Nat=>D.int (i:Int))).length:Nat)
  ·simp only[hl,if_true]
   by_cases h3:w<3
   ·simp only[h3,if_true];∎;rw[u0 (.inl S3)];refine⟨by rw[B.next];rfl,z9 B.toPB0 hl I3 λj st4 j0 j1 I4 K4=>?_⟩;have S4:=K4.at' S3 nds;have R4:=K4.at' R3 hra;have K4:=K3.trans (K4.w2 ra);rw[l6 (.inl S4)];obtain⟨j,rfl⟩:=Int.eq_ofNat_of_zero_le j0;rw[AT]at j1;have hj:j<acc'.length:=by lia
    refine⟨.int (acc'[j]:Int),?_,c0 (q (.name acc'[j]) _ (r-1) (hacc _ (Ga hj)) (by simp only[Pg.hgt];lia) trivial ch6 I4 R4 K4)⟩;show atI _ ((j:Nat):Int)=_;rw[B7,Al,AJ hj];rfl
   ·simp only[h3,if_false];exact fin
  ·simp only[hl,if_false];exact fin
 ·rintro d ds acc env' st' ih ⟨rfl,pre,suf,x,y,acc',eΓ,el,rfl,rfl,al,hacc⟩;refine⟨trivial,?_⟩;cases suf with
  |nil=>simp[o5]at el
  |cons c suf=>
   simp only[Ah,o5,Ae]at el;obtain⟨rfl,rfl⟩:=el;have hc:Γ[pre.length]?=AA c:=by rw[eΓ];simp
   rfl';rw[ao9,F6];refine⟨A0 _,A0 _,by rw[u6,u6];exact BC (GB _ _) ⋯,?_⟩;rfl'
   by_cases e:c=k
   ·simp only[e,if_true];refine ih _ _ _ ⟨rfl,pre++[c],suf,_,_,acc'++[pre.length],by rw[eΓ];simp,∎,rfl,∎,by simp;lia,λi hi=>?_⟩
    rcases BK.mp hi with hi|hi
    ·exact hacc i hi
    ·simp only[Bg]at hi;subst hi;rw[hc,e]
   ·simp only[e,if_false];exact ih _ _ _ ⟨rfl,pre++[c],suf,_,_,acc',by rw[eΓ];simp,∎,rfl,rfl,by simp;lia,hacc⟩
theorem aj3:∀(deep:Nat){n:Nat},2*deep+14<=n->GSp 0 P G "_law_grown" n 5 deep
 |0,n,hn=>by
  obtain⟨n,rfl⟩:∃m,n=m+2:=⟨n-2,⋯⟩;exact aw1 B 0 ⋯ (λh=>absurd h ∅) (λh=>absurd h ∅)
 |deep+1,n,hn=>by
  obtain⟨n,rfl⟩:∃m,n=m+2:=⟨n-2,⋯⟩;exact aw1 B (deep+1) ⋯ (λ_=>ck6 B ⋯ (aj3 deep ⋯)) (λ_=>b98 B ⋯ (aj3 deep ⋯))
end
def Kp.fresh{p:AI}{o:Ob}(h:Kp [a,p] (b0 st p o) st')(hp:st p=AD):Kp [a] st st':=λb u n e=>by
 have nb:b≠p:=j7 e hp;exact h b u (by simp at n ⊢;exact⟨n,nb⟩) (by rw[C9 nb];exact e)
def Pg.parts_kids(p:Pg):p.parts=1+(p.kids.map Pg.parts).sum:=by
 cases p<;>simp only[Pg.parts,Pg.kids,Ah,Dj,Da,IB]<;>lia
def Pg.hgt_kids(p:Pg):∀c∈p.kids,c.hgt<p.hgt:=by
 cases p<;>simp only[Pg.hgt,Pg.kids,AL,AW,or_false,false_imp_iff,implies_true,forall_eq_or_imp,forall_eq]<;>lia
def Pg.kn_kids(p:Pg)(h:p.kn m):∀c∈p.kids,c.kn m:=by
 cases p<;>simp only[Pg.kn,Pg.kids,AL,AW,or_false,false_imp_iff,implies_true,forall_eq_or_imp,forall_eq]at h ⊢<;>first|exact h|exact h.2
section
variable (B:PB P) 
include B
def av9(p:Pg)(q:Q (.tup (p.kids.map Pg.d)) st):sem P G (n+1) "_law_inner" [p.d] st Q:=by
 refine f9 B.inner rfl [AA p.d,AD] rfl ?_;unfold ag7;cases p<;>simp only[Pg.d]
 case name=>
  (iterate 3 ∎);exact c0 q
 all_goals
  (iterate 3 ∎);simp only[G4,N4,C6,Av,true_and,EX,List.any_nil,u5,l9,String.reduceEq,decide_true,decide_false,Bool.or_true,JB,JM,Ew,l8,if_true,BO,if_false];exact⟨∅,∅,c0 q⟩
def cb4:∀(h:Nat)(p:Pg){n:Nat}{st:Sto}{Q:DK},p.hgt<=h->h+2<=n->(∀st',Kp [] st st'->Q (.int p.parts) st')->sem P G n "_law_parts" [p.d] st Q:=by
 intro h
 induction h with
 |zero=>intro p n st Q hp;cases p<;>simp only[Pg.hgt]at hp<;>lia
 |succ h ih=>
  intro p n st Q hp hn q;obtain⟨n,rfl⟩:∃m,n=m+2:=⟨n-2,⋯⟩;refine f9 B.parts rfl [AA p.d] rfl ?_;unfold ag4;∎;refine⟨by rw[B.inner];rfl,av9 B p ?_⟩;rfl';refine⟨by rw[AT];cases p<;>simp only[Pg.kids,Ac,BH]<;>decide,?_⟩;refine G7 (λl acc env' st'=>Kp [] st st'/\∃(pre suf:List Pg)(x:Option D),p.kids=pre++suf/\l=suf.map Pg.d/\env'=[x]/\acc=(pre.map λc=>D.int (c.parts:Nat))) ?_ ?_ _ _ _ _ ⟨Kp.refl,[],p.kids,AD,rfl,rfl,rfl,rfl⟩
  ·rintro acc env' st' ⟨K,pre,suf,x,ek,el,rfl,rfl⟩;refine⟨trivial,λa ha=>?_⟩;have es:suf=[]:=by simpa using el.symm
   subst es;have e:(pre.map λc:Pg=>D.int (c.parts:Nat))=(pre.map λc:Pg=>((c.parts:Nat):Int)).map D.int:=by rw[Bv];rfl
   refine⟨_,.inl (by rw[<-e];exact c9),?_⟩;rfl';have e2:(1:Int)+(pre.map λc:Pg=>((c.parts:Nat):Int)).sum=(p.parts:Nat):=by
    rw[Pg.parts_kids p,ek,BJ];generalize pre=l
    induction l with
    |nil=>rfl
    |cons c l ih=>simp only[Ah,Da]at ih ⊢;lia
   rw[e2];exact c0 (q _ (K.new ha))
  ·rintro d ds acc env' st' ihc ⟨K,pre,suf,x,ek,el,rfl,rfl⟩;refine⟨trivial,?_⟩;cases suf with
   |nil=>simp at el
   |cons c suf=>
    simp only[Ah,Ae]at el;obtain⟨rfl,rfl⟩:=el;rfl';have hc:=Pg.hgt_kids p c (by rw[ek];simp);refine⟨by rw[B.parts];rfl,ih c ⋯ ⋯ λst2 K2=>ihc _ _ _ ⟨K.trans K2,pre++[c],suf,_,by rw[ek];simp,rfl,rfl,∎⟩⟩
def by2{k:Kd}{many:Int}(hm:many<=33)(hn:40<=n)(I:p9 st da)(g:k.good)(bd:k.bd 100)(n5:k.nest<=5)(hΓ:Γ.length<=800)(q:∀(p:Pg)st',p.kind Γ=AA k->p.hgt<=15->p.parts<=64->p.kn 6->(k.nest<=4->p.parts<=60/\∀i a,Γ[i]?=AA a->a≠.non->p.parts+59*p.oc i<=2000)->p.nl 6 Γ->p9 st' da->Kp [da] st st'->Q p.d st'):sem P G n "_law_program" [.ref da,k.d,.tup (Γ.map Kd.d),.int many] st Q:=by
 obtain⟨n,rfl⟩:∃m,n=m+1:=⟨n-1,⋯⟩;refine f9 B.program rfl [AA (.ref da),AA k.d,AA (.tup (Γ.map Kd.d)),AA (.int many),AD] rfl ?_;unfold af4;∎;refine⟨by rw[B.grown];rfl,λra hra=>?_⟩;refine aj3 B 8 ⋯ (I.ne hra) (I.new hra) c9 g bd n5 ⋯ λp st1 r1 k1 h1 m1 c1 I1 R1 K1=>?_;have K1:=K1.fresh hra;∎;refine⟨by rw[B.parts];rfl,cb4 B 15 p ⋯ ⋯ λst2 K2=>?_⟩;have I2:=I1.keep K2 ∎;have K2:=K1.trans (K2.more ∎);rfl'
 by_cases hp:(60:Int)<(p.parts:Nat)
 ·simp only[hp,if_true];∎;refine⟨by rw[B.least];rfl,ai7 B k g bd ⋯ ⋯ ⋯ λp3 k3 h3 p3' m3 o3=>c0 (q p3 _ k3 ⋯ ?_ m3 (λhk=>?_) (o3.2 Γ) I2 K2)⟩
  ·have:2^(k.nest+1)<=2^6:=BW ∅ ⋯;lia
  ·have:2^(k.nest+1)<=2^5:=BW ∅ ⋯;exact⟨⋯,λi a _ _=>by rw[o3.1 i];lia⟩
 ·simp only[hp,if_false];∎;exact c0 (q p _ k1 h1 ⋯ m1 (λ_=>⟨⋯,λi a h1 h2=>by
   have:=c1.2.1 i a h1 h2;have:=c1.1.1;have:=c1.1.2.1 rfl;have:=c1.1.2.2;lia⟩) c1.2.2 I2 K2)
def ag3{k:Kd}{many:Int}(hm:many<=33)(hn:40<=n)(I:p9 st da)(g:k.good)(bd:k.bd 100)(n5:k.nest<=5)(hΓ:Γ.length<=800)(q:∀(p:Pg)st',p.kind Γ=AA k->p.hgt<=15->p.parts<=64->p.kn 6->(k.nest<=4->p.parts<=60/\∀i a,Γ[i]?=AA a->a≠.non->p.parts+59*p.oc i<=2000)->p9 st' da->Kp [da] st st'->Q p.d st'):sem P G n "_law_program" [.ref da,k.d,.tup (Γ.map Kd.d),.int many] st Q:=
 by2 B hm hn I g bd n5 hΓ λp st1 k1 h1 p1 m1 c1 _ I1 K1=>q p st1 k1 h1 p1 m1 c1 I1 K1
omit B in
abbrev D6:List Kd->Nat
 |[]=>1
 |k::r=>max 1 k.cnt*D6 r
omit B in
theorem av1:∀(l:List Kd)(k:Kd),D6 (l++[k])=D6 l*max 1 k.cnt
 |[],k=>by simp[D6]
 |c::l,k=>by simp only[CD,D6,av1 l k,Nat.mul_assoc]
def b99{most lines:Nat}(hn:20<=n)(hm:most<=100)(hl:1<=lines)(hl2:lines<=1000)(I:p9 st da)(q:∀(Γ:List Kd)st',Γ.length<=most->(∀k∈Γ,(k.good\/k=.non)/\k.bd 16/\k.nest<=2)->D6 Γ<=lines->p9 st' da->Kp [da] st st'->Q (.tup (Γ.map Kd.d)) st'):sem P G n "_law_names" [.ref da,.int most,.int lines] st Q:=by
 obtain⟨n,rfl⟩:∃m,n=m+2:=⟨n-2,⋯⟩;refine f9 B.names rfl [AA (.ref da),AA (.int most),AA (.int lines),AD,AD,AD,AD] rfl ?_;unfold E9;(iterate 3 ∎);refine⟨by rw[B.next];rfl,z9 B.toPB0 ⋯ I λr st1 r0 r1 I1 K1=>⟨r,rfl,⋯,?_⟩⟩;refine C8 (λl env st'=>p9 st' da/\Kp [da] st st'/\∃(Γ:List Kd)(x y:Option D),env=[AA (.ref da),AA (.int most),AA (.int lines),AA (.tup (Γ.map Kd.d)),AA (.int (D6 Γ:Nat)),x,y]/\Γ.length+l.length<=most/\(∀k∈Γ,(k.good\/k=.non)/\k.bd 16/\k.nest<=2)/\D6 Γ<=lines) ?_ ?_ _ _ _ ⟨I1,K1,[],AD,AD,rfl,by simp[t4];lia,∎,hl⟩
 ·rintro env st' ⟨I2,K2,Γ,x,y,rfl,h1,h2,h3⟩;refine⟨trivial,?_⟩;∎;exact c0 (q Γ _ (by simpa using h1) h2 h3 I2 K2)
 ·rintro d ds env st' ih ⟨I2,K2,Γ,x,y,rfl,h1,h2,h3⟩;refine⟨trivial,?_⟩;rfl';∎;refine⟨by rw[B.kind];rfl,Q3 B.toPB0 (most:=16) ∅ ∅ 2 ⋯ I2 λk st3 g3 b3 n3 I3 K3=>?_⟩;have K3:=K2.trans K3;∎;refine⟨by rw[B.next];rfl,z9 B.toPB0 ∅ I3 λr4 st4 _ _ I4 K4=>?_⟩;have K4:=K3.trans K4;have fin:∀k:Kd,(k.good\/k=.non)->k.bd 16->k.nest<=2->g9 (Zg P G (n+1)) (match E9.body.drop 2 with|.cons (.for _ _ b) _=>b.drop 2|_=>.nil) ⟨t5 (λ_=>True) (.n 5) (g9 (Zg P G (n+1)) (match E9.body.drop 2 with|.cons (.for _ _ b) _=>b|_=>.nil)) ⟨g9 (Zg P G (n+1)) (E9.body.drop 3) (j8 Q),(j8 Q).rt,(j8 Q).bk,(j8 Q).ct⟩ ds,(j8 Q).rt,g9 (Zg P G (n+1)) (E9.body.drop 3) (j8 Q),t5 (λ_=>True) (.n 5) (g9 (Zg P G (n+1)) (match E9.body.drop 2 with|.cons (.for _ _ b) _=>b|_=>.nil)) ⟨g9 (Zg P G (n+1)) (E9.body.drop 3) (j8 Q),(j8 Q).rt,(j8 Q).bk,(j8 Q).ct⟩ ds⟩ [AA (.ref da),AA (.int most),AA (.int lines),AA (.tup (Γ.map Kd.d)),AA (.int (D6 Γ:Nat)),AA d,AA k.d] st4:=by
   intro k hk bk nk;have lk:=Kd.bd_le bk;simp only[E9,Ss.drop];∎;have ex:(if(k.cnt:Int)>1 then(k.cnt:Int)else 1)=((max 1 k.cnt:Nat):Int):=by split<;>lia
   have em:((D6 Γ:Nat):Int)*((max 1 k.cnt:Nat):Int)=((D6 (Γ++[k]):Nat):Int):=by rw[av1];exact(Ij _ _).symm
   refine⟨by rw[B.count];rfl,G6 B.toPB0 k (m:=16) ⋯ (W0 bk) ∅ ?_⟩;rfl';rw[ex,em];refine⟨Q7 ⟨⋯,⋯⟩,?_⟩
   by_cases hle:((D6 (Γ++[k]):Nat):Int)<=(lines:Nat)
   ·simp only[hle,if_true];∎;refine⟨by rw[B.count];rfl,G6 B.toPB0 k (m:=16) ⋯ (W0 bk) ∅ ?_⟩;rfl';rw[ex,em];refine⟨Q7 ⟨⋯,⋯⟩,?_⟩;simp only[Ac]at h1;∎;refine⟨B8 (by simp only[AT];lia),ih _ _ ⟨I4,K4,Γ++[k],_,_,by rw[Ag];rfl,by simp;lia,λc hc=>?_,⋯⟩⟩
    rcases BK.mp hc with hc|hc
    ·exact h2 c hc
    ·simp only[Bg]at hc;subst hc;exact⟨hk,bk,nk⟩
   ·simp only[hle,if_false];simp only[Ac]at h1;exact ih _ _ ⟨I4,K4,Γ,_,_,rfl,⋯,h2,h3⟩
  rfl'
  by_cases e1:r4=1
  ·simp only[e1,if_true];∎;exact fin .non (.inr rfl) trivial (BV _)
  ·simp only[e1,if_false];exact fin k (.inl g3) b3 n3
end
structure PIn(P:i6)(G:Gs):Prop where
 inner:P "inner"=AA al7
 more:P "names_more"=AA af6
 tab:G.tab "INNER_FROM"=c03
 tab2:G.tab "UNDER_ONE_MORE"=cz9
structure PNm(P:i6)(G:Gs):Prop extends PM P G,PIn P G where
 winner:P "with_inner"=AA U5
 lift:P "lifted"=AA aj6
 put:P "put_in"=AA aj5
 copy:P "copy_under"=AA af7
 wparts:P "with_parts"=AA af5
 under:P "inner_under"=AA af1
abbrev B1(c:Pg×Nat):D:=.tup [c.1.d,.int c.2]
abbrev M8(f:Nat->Nat->Option Pg):Pg->Nat->D
 |.name n,u=>match f n u with
  |some r=>r.d
  |none=>.non
 |_,_=>.non
def co0:p.d≠.non:=by cases p<;>exact nofun
def ca2(h:M8 f p u≠.non):p.kids=[]:=by
 cases p<;>first|rfl|exact absurd rfl h
def cc7(h:p.kids=[]):(M8 f p u=.non/\p.mp f u=p/\p.chd f u=AE)\/(M8 f p u=(p.mp f u).d/\p.chd f u=AC):=by
 cases p<;>first|(cases h;done)|skip
 case name n=>
  simp only[M8,Pg.mp,Pg.chd];cases f n u with
  |none=>exact .inl ⟨rfl,rfl,rfl⟩
  |some r=>exact .inr ⟨rfl,rfl⟩
 case star=>exact .inl ⟨rfl,rfl,rfl⟩
section
variable (J:PIn P G) 
include J
def au6(p:Pg)(q:∀a,st a=AD->Q (.ref a) (b0 st a (.lst (p.kids.map Pg.d)))):sem P G (n+1) "inner" [p.d] st Q:=by
 refine f9 J.inner rfl [AA p.d] rfl ?_;unfold al7;cases p<;>simp only[Pg.d]
 all_goals
  ∎;refine⟨by show G.tab "INNER_FROM"≠[];rw[J.tab];exact λz=>(by cases z),?_⟩;simp only[J.tab];refine⟨_,rfl,_,rfl,∅,λa ha=>c0 (q a ha)⟩
def am3(p:Pg)(i:Nat)(q:Q (.int (p.more i:Nat)) st):sem P G (n+1) "names_more" [p.d,.int i] st Q:=by
 refine f9 J.more rfl [AA p.d,AA (.int i)] rfl ?_;unfold af6;cases p<;>simp only[Pg.d]
 all_goals
  ∎;refine⟨by show G.tab "UNDER_ONE_MORE"≠[];rw[J.tab2];exact λz=>(by cases z),?_⟩;simp only[J.tab2];refine⟨_,rfl,?_⟩
 case case=>
  show o9 .In (.int i) (.ktup [1,2]) _ _;rw[ap6];rfl'
  by_cases h:i=1\/i=2
  ·rw[if_pos (by simp;lia)];simp only[Pg.more,if_pos h]at q;exact c0 q
  ·rw[if_neg (by simp;lia)];simp only[Pg.more,if_neg h]at q;exact c0 q
 case way=>
  show o9 .In (.int i) (.ktup [0]) _ _;rw[ap6];rfl'
  by_cases h:i=0
  ·rw[if_pos (by simp;lia)];simp only[Pg.more,if_pos h]at q;exact c0 q
  ·rw[if_neg (by simp;lia)];simp only[Pg.more,if_neg h]at q;exact c0 q
 case lets=>
  show o9 .In (.int i) (.ktup [1]) _ _;rw[ap6];rfl'
  by_cases h:i=1
  ·rw[if_pos (by simp;lia)];simp only[Pg.more,if_pos h]at q;exact c0 q
  ·rw[if_neg (by simp;lia)];simp only[Pg.more,if_neg h]at q;exact c0 q
 all_goals
  show o9 .In (.int i) (.tup []) _ _;rw[ar3];refine⟨rfl,rfl,BV _,?_⟩;rfl';exact c0 q
end
section
variable (J:PNm P G) 
include J
def cc9{l:List Pg}(h:rdS st a (l.map Pg.d))(hl:l.length=p.kids.length)(h0:p.kids≠[])(q:Q (p.withKids l).d st):sem P G (n+1) "with_inner" [p.d,.ref a] st Q:=by
 refine f9 J.winner rfl [AA p.d,AA (.ref a)] rfl ?_;unfold U5;revert h0 h q;refine Pg.with_cases (motive:=λp l=>rdS st a (l.map Pg.d)->p.kids≠[]->Q (p.withKids l).d st->g9 (Zg P G n) U5.body (j8 Q) [AA p.d,AA (.ref a)] st) ?_ ?_ ?_ ?_ ?_ ?_ ?_ ?_ ?_ ?_ ?_ ?_ p l hl
 ·intro k h h0 q;exact absurd rfl h0
 ·intro h h0 q;exact absurd rfl h0
 all_goals
  intros
  rename_i h h0 q;simp only[Pg.d,U5];∎;refine⟨by show G.tab "INNER_FROM"≠[];rw[J.tab];exact λz=>(by cases z),?_⟩;simp only[J.tab];refine⟨_,rfl,_,rfl,∅,?_⟩;rw[ak2 h];rfl';exact⟨B8 (BC (Nat.add_le_add_right cj0 _) (by simp only[Ac,BH,AT];decide)),c0 q⟩
def cb1(p:Pg)(u:Nat)(hn:2<=n)(q:∀a st',st a=AD->st' a=AA (.lst ((p.kidsU u).map B1))->Kp [] st st'->Q (.ref a) st'):sem P G n "inner_under" [B1 (p,u)] st Q:=by
 obtain⟨n,rfl⟩:∃m,n=m+2:=⟨n-2,⋯⟩;refine f9 J.under rfl [AA (B1 (p,u)),AD] rfl ?_;unfold af1 B1;(iterate 2 ∎);refine⟨by rw[J.inner];rfl,au6 J.toPIn p λa ha=>?_⟩;rfl';refine⟨_,.inl c9,by rw[af9,AT];cases p<;>simp only[Pg.kids,Ac,BH]<;>decide,?_⟩;refine G7 (λl acc env' st'=>st'=b0 st a (.lst (p.kids.map Pg.d))/\∃(pre suf:List Pg)(x y:Option D),p.kids=pre++suf/\l=o5 pre.length (suf.map Pg.d)/\env'=[AA (.tup [p.d,.int u]),AA p.d,x,y]/\acc=(pre.mapIdx λi c=>B1 (c,u+p.more i))) ?_ ?_ _ _ _ _ ⟨rfl,[],p.kids,AD,AD,rfl,rfl,rfl,rfl⟩
 ·rintro acc env' st' ⟨rfl,pre,suf,x,y,ek,el,rfl,rfl⟩;refine⟨.inl c9,λb hb=>c0 (q b _ ?_ ?_ ((Kp.refl.new ha).new hb))⟩
  ·exact none_of (Kp.refl.new ha) hb
  ·cases suf with
   |cons c suf=>simp[o5]at el
   |nil=>
    rw[BJ]at ek;rw[c9,<-ek];unfold Pg.kidsU;exact congrArg (λl=>AA (Ob.lst l)) (Dl λi=>by simp only[Al,List.getElem?_mapIdx,Option.map_map];rfl)
 ·rintro d ds acc env' st' ih ⟨rfl,pre,suf,x,y,ek,el,rfl,rfl⟩;refine⟨.inl c9,?_⟩;cases suf with
  |nil=>simp[o5]at el
  |cons c suf=>
   simp only[Ah,o5,Ae]at el;obtain⟨rfl,rfl⟩:=el;rfl';refine⟨by rw[J.more];rfl,am3 J.toPIn p pre.length ?_⟩;rfl';refine ih _ _ _ ⟨rfl,pre++[c],suf,_,_,by rw[ek];simp,∎,rfl,?_⟩;rw[Hh];simp[B1]
end
structure PKd(P:i6)(G:Gs):Prop extends PSh P G where
 lkd:P (c7 "Shelf" "laid_kind")=AA U3
 blt:P (c7 "Shelf" "built")=AA af0
 ptb:P (c7 "Shelf" "put_by")=AA ae5
 tku:P (c7 "Shelf" "taken_up")=AA ac9
 dfl:B3 G.cls (c7 "Shelf" "laid_kind")=AA 3
structure ShD(sh dn sa pa wa:AI):Prop where
 nd:[sh,dn,sa,pa].Nodup
 wd:wa∉[dn,sa,pa]
 ws:wa≠sh
@[reducible]noncomputable def shL(sh dn sa pa wa:AI):List AI:=[sh,dn,sa,pa,wa]
def O7{S:List It3}{t:D}(w:Wf S')(h:Has S t)(hp:S <+: S'):nb S' t=nb S t:=by
 obtain⟨e,h1,h2⟩:=R8 h;obtain⟨l,rfl⟩:=hp;exact aa6 w (by rw[Aa (AR.mp h1).1];exact h1) h2
def ck8:dsz (.tup [.str w])=1:=rfl
def ct4{a b:Kd}:dsz (.tup [.str w,a.d,b.d])=1+(dsz a.d+dsz b.d):=by
 obtain⟨l,e⟩:=L8 a;obtain⟨l',e'⟩:=L8 b;rw[V0,e,e'];show 1+(dsz (.tup l)+(dsz (.tup l')+0))=_;lia
section
variable (T:PKd P G) {S:List It3} {wo:Ob}
include T
def ak7{inn:List D}(A:ShA sh dn sa pa wa S st)(D0:ShD sh dn sa pa wa)(hw:st wa=AA wo)(hi:∀d∈inn,Has S d)(hl:inn.length<=1000)(hS:S.length<900000)
  (q:∀S' st',Has S' (.tup (.str w::inn))->S <+: S'->S'.length<=S.length+1->ShA sh dn sa pa wa S' st'->st' wa=AA wo->Kp (shL sh dn sa pa wa) st st'->Q (.int (nb S' (.tup (.str w::inn)):Nat)) st'):sem P G (n+1) (c7 "Shelf" "numbered") [.ref sh,.tup [.str w],z7 (inn.map (nb S))] st Q:=by
 refine as9 T.toPSh A D0.nd (fr:=[.str w]) (inn:=inn) (ns:=inn.map (nb S)) X3 ∎ (λj m hm=>?_) ∎ (by simpa using hl) ⋯ λm S' st' A' hp hl' hm K=>?_
 ·rw[Al]at hm;cases e:inn[j]? with
  |none=>rw[e]at hm;cases hm
  |some d=>
   rw[e]at hm;cases hm;obtain⟨e',h1,h2⟩:=R8 (hi d (BN e));exact⟨e',h1,by rw[h2]⟩
 ·have hn:=aa6 A'.wf hm (t:=.tup (.str w::inn)) rfl;rw[<-hn];exact q S' st' ⟨m,_,hm,rfl⟩ hp hl' A' (K.at' hw D0.wd) (K.more ∎)
def U6{a b:Kd}(A:ShA sh dn sa pa wa S st)(D0:ShD sh dn sa pa wa)(hw:st wa=AA wo)(ha:Has S a.d)(hb:Has S b.d)(hS:S.length<900000)
  (q:∀S' st',Has S' (.tup [.str w,a.d,b.d])->S <+: S'->S'.length<=S.length+1->ShA sh dn sa pa wa S' st'->st' wa=AA wo->Kp (shL sh dn sa pa wa) st st'->Q (.int (nb S' (.tup [.str w,a.d,b.d]):Nat)) st'):sem P G (n+2) (c7 "Shelf" "built") [.ref sh,.str w,.int (nb S a.d:Nat),.int (nb S b.d:Nat)] st Q:=by
 refine f9 T.blt rfl [AA (.ref sh),AA (.str w),AA (.int (nb S a.d:Nat)),AA (.int (nb S b.d:Nat))] rfl ?_;unfold af0;∎;refine⟨sh,"Shelf",_,rfl,A.ins,rfl,by rw[T.numb];rfl,?_⟩;exact ak7 T (inn:=[a.d,b.d]) A D0 hw (by simp[ha,hb]) ∎ hS λS' st' h1 h2 h3 h4 h5 h6=>c0 (q S' st' h1 h2 h3 h4 h5 h6)
abbrev LdQ(sh dn sa pa wa:AI)(S:List It3)(wo:Ob)(st:Sto)(k:Kd)(Q:DK):Prop:=∀S' st',Has S' k.d->S <+: S'->S'.length<=S.length+dsz k.d->ShA sh dn sa pa wa S' st'->st' wa=AA wo->Kp (shL sh dn sa pa wa) st st'->Q (.int (nb S' k.d:Nat)) st'
def b81:∀(k:Kd)(deep:Nat){n:Nat}{st:Sto}{Q:DK}{S:List It3},deep+8<=n->k.nest<=9->ShA sh dn sa pa wa S st->ShD sh dn sa pa wa->st wa=AA wo->S.length+dsz k.d<=900000->LdQ sh dn sa pa wa S wo st k Q->sem P G n (c7 "Shelf" "laid_kind") [.ref sh,k.d,.int deep] st Q:=by
 intro k;have one:∀(w:String)(k:Kd),k.d=.tup [.str w]->∀(deep:Nat){n:Nat}{st:Sto}{Q:DK}{S:List It3},deep+8<=n->ShA sh dn sa pa wa S st->ShD sh dn sa pa wa->st wa=AA wo->S.length+dsz k.d<=900000->LdQ sh dn sa pa wa S wo st k Q->sem P G n (c7 "Shelf" "laid_kind") [.ref sh,k.d,.int deep] st Q:=by
  intro w k ek deep n st Q S hn A D0 hw hS q;unfold LdQ at q;rw[ek]at hS q ⊢;rw[ck8]at hS q;obtain⟨n,rfl⟩:∃m,n=m+2:=⟨n-2,⋯⟩;refine f9 T.lkd rfl [AA (.ref sh),AA (.tup [.str w]),AA (.int deep)] rfl ?_;unfold U3;∎;rw[if_pos ∅];∎;refine⟨sh,"Shelf",_,rfl,A.ins,rfl,by rw[T.numb];rfl,?_⟩;exact ak7 T (inn:=[]) A D0 hw ∎ ∎ ⋯ λS' st' h1 h2 h3 h4 h5 h6=>c0 (q S' st' h1 h2 h3 h4 h5 h6)
 have two:∀(w:String)(k a b:Kd),k.d=.tup [.str w,a.d,b.d]->1+max a.nest b.nest<=k.nest->k.nest<=9 ->
   (∀(deep:Nat){n:Nat}{st:Sto}{Q:DK}{S:List It3},deep+8<=n->a.nest<=9->ShA sh dn sa pa wa S st->ShD sh dn sa pa wa->st wa=AA wo->S.length+dsz a.d<=900000->LdQ sh dn sa pa wa S wo st a Q->sem P G n (c7 "Shelf" "laid_kind") [.ref sh,a.d,.int deep] st Q) ->
   (∀(deep:Nat){n:Nat}{st:Sto}{Q:DK}{S:List It3},deep+8<=n->b.nest<=9->ShA sh dn sa pa wa S st->ShD sh dn sa pa wa->st wa=AA wo->S.length+dsz b.d<=900000->LdQ sh dn sa pa wa S wo st b Q->sem P G n (c7 "Shelf" "laid_kind") [.ref sh,b.d,.int deep] st Q) ->
   ∀(deep:Nat){n:Nat}{st:Sto}{Q:DK}{S:List It3},deep+8<=n->ShA sh dn sa pa wa S st->ShD sh dn sa pa wa->st wa=AA wo->S.length+dsz k.d<=900000->LdQ sh dn sa pa wa S wo st k Q->sem P G n (c7 "Shelf" "laid_kind") [.ref sh,k.d,.int deep] st Q:=by
  intro w k a b ek hne hk9 iha ihb deep n st Q S hn A D0 hw hS q;have hz:=L7 k;have hz2:2^(k.nest+1)<=2^10:=BW ∅ ⋯;have lk:=O0 k;unfold LdQ at q;rw[ek]at hS q hz lk ⊢;obtain⟨n,rfl⟩:∃m,n=m+3:=⟨n-3,⋯⟩;refine f9 T.lkd rfl [AA (.ref sh),AA (.tup [.str w,a.d,b.d]),AA (.int deep)] rfl ?_;unfold U3;∎;rw[if_neg ∅];∎
  by_cases h0:(deep:Int)=0
  ·simp only[h0,if_true];∎;refine⟨sh,"Shelf",_,rfl,A.ins,rfl,by rw[T.laid];rfl,?_⟩;obtain⟨n,rfl⟩:∃m,n=m+1:=⟨n-1,⋯⟩;refine b62 T.toPSh (n:=n) ⋯ A D0.nd hw D0.wd lk ⋯ ⋯ λd S' st' v h1 h2 h3 h4 h5=>?_;obtain⟨v1,rfl⟩:=c29 h3.wf v;exact c0 (q S' st' v1 h1 h2 h3 h4 h5)
  ·simp only[h0,if_false];obtain⟨deep,rfl⟩:∃m,deep=m+1:=⟨deep-1,⋯⟩;have ed:((deep+1:Nat):Int)-1=(deep:Nat):=by lia
   rw[ct4]at hS q;∎;refine⟨sh,"Shelf",_,rfl,A.ins,rfl,by rw[T.blt];rfl,sh,"Shelf",_,rfl,A.ins,rfl,by rw[T.lkd];rfl,?_⟩;rw[ed];refine iha deep ⋯ ⋯ A D0 hw ⋯ λS1 st1 a1 a2 a3 A1 a5 a6=>?_;rfl';refine⟨sh,"Shelf",_,rfl,A1.ins,rfl,by rw[T.lkd];rfl,?_⟩;refine ihb deep ⋯ ⋯ A1 D0 a5 ⋯ λS2 st2 b1 b2 b3 A2 b5 b6=>?_;rfl';rw[<-O7 A2.wf a1 b2];exact U6 T A2 D0 b5 (a1.mono b2) b1 ⋯ λS3 st3 c1 c2 c3 c4 c5 c6=>c0 (q S3 st3 c1 ((a2.trans b2).trans c2) ⋯ c4 c5 ((a6.trans b6).trans c6))
 induction k with
 |non=>exact λdeep{n st Q S}hn _=>one "none" .non rfl deep hn
 |one=>exact λdeep{n st Q S}hn _=>one "one" .one rfl deep hn
 |eith a b iha ihb=>exact λdeep{n st Q S}hn h9=>two "either" (.eith a b) a b rfl (AY _) h9 iha ihb deep hn
 |both a b iha ihb=>exact λdeep{n st Q S}hn h9=>two "both" (.both a b) a b rfl (AY _) h9 iha ihb deep hn
 |way a b iha ihb=>exact λdeep{n st Q S}hn h9=>two "way" (.way a b) a b rfl (AY _) h9 iha ihb deep hn
end
def S9{k:Kd}(h:k.nest<=6):dsz k.d<=127:=by
 have:=L7 k;have:2^(k.nest+1)<=2^7:=BW ∅ ⋯;lia
abbrev A5(S:List It3)(w:Kd×Bool):D:=.tup [w.1.d,if w.2=AC then .int (nb S w.1.d:Nat)else .non]
structure KA(sh dn sa pa wa:AI)(S:List It3)(ws:List (Kd×Bool))(st:Sto):Prop where
 A:ShA sh dn sa pa wa S st
 D0:ShD sh dn sa pa wa
 W:st wa=AA (.lst (ws.map (A5 S)))
 H:∀w∈ws,w.2=AC->Has S w.1.d
 N:∀w∈ws,w.1.nest<=6
 L:ws.length<=2000
section
variable {S:List It3} 
def ce4(w':Wf S')(hp:S <+: S'){w:Kd×Bool}(h:w.2=AC->Has S w.1.d):A5 S' w=A5 S w:=by
 unfold A5
 by_cases hb:w.2=AC
 ·rw[if_pos hb,if_pos hb,O7 w' (h hb) hp]
 ·rw[if_neg hb,if_neg hb]
def KA.up(k:KA sh dn sa pa wa S ws st)(A':ShA sh dn sa pa wa S' st')(hp:S <+: S')(hw:st' wa=AA (.lst (ws.map (A5 S)))):KA sh dn sa pa wa S' ws st':=
 ⟨A',k.D0,by rw[hw];exact congrArg (λl=>AA (Ob.lst l)) (HZ λw hm=>(ce4 A'.wf hp (k.H w hm)).symm),λw hm hb=>(k.H w hm hb).mono hp,k.N,k.L⟩
theorem KA.keepL(k:KA sh dn sa pa wa S ws st)(K:Kp L st st')(h:∀x∈L,x∉shL sh dn sa pa wa):KA sh dn sa pa wa S ws st':=
 ⟨k.A.keepL K h,k.D0,K.at' k.W (λz=>h wa z ∎),k.H,k.N,k.L⟩
def KA.keep(k:KA sh dn sa pa wa S ws st)(K:Kp [] st st'):KA sh dn sa pa wa S ws st':=k.keepL K ∎
abbrev En(S:List It3)(ws:List (Kd×Bool))(e:Int)(k:Kd):Prop:=(e=(nb S k.d:Nat)/\Has S k.d)\/∃(j:Nat)(b:Bool),e=-((j:Int)+1)/\ws[j]?=AA (k,b)
abbrev WUp(ws ws':List (Kd×Bool)):Prop:=ws'.map (·.1)=ws.map (·.1)
def En.up{e:Int}{k:Kd}(h:En S ws e k)(w':Wf S')(hp:S <+: S')(hw:WUp ws ws'):En S' ws' e k:=by
 rcases h with⟨rfl,h⟩|⟨j,b,rfl,h⟩
 ·exact .inl ⟨by rw[O7 w' h hp],h.mono hp⟩
 ·have e1:(ws'.map (·.1))[j]?=AA k:=by rw[hw,Al,h];rfl
  rw[Al]at e1;cases e2:ws'[j]? with
  |none=>rw[e2]at e1;cases e1
  |some x=>
   rw[e2]at e1;cases e1;exact .inr ⟨j,x.2,rfl,e2⟩
structure KnOk(S:List It3)(ws:List (Kd×Bool))(Γ:List Kd)(kn:List Int):Prop where
 len:kn.length=Γ.length
 at':∀(m:Nat)k,Γ[m]?=AA k->∃e,kn.reverse[m]?=AA e/\En S ws e k
theorem KnOk.up{kn:List Int}(h:KnOk S ws Γ kn)(w':Wf S')(hp:S <+: S')(hw:WUp ws ws'):KnOk S' ws' Γ kn:=
 ⟨h.len,λm k hk=>let⟨e,h1,h2⟩:=h.at' m k hk;⟨e,h1,h2.up w' hp hw⟩⟩
def KnOk.cons{kn:List Int}{k:Kd}{e:Int}(h:KnOk S ws Γ kn)(he:En S ws e k):KnOk S ws (k::Γ) (kn++[e]):=
 ⟨by simp[h.len],λm c hc=>by
  rw[Hb];cases m with
  |zero=>cases hc;exact⟨e,rfl,he⟩
  |succ m=>exact h.at' m c hc⟩
theorem WUp.trans{w1 w2 w3:List (Kd×Bool)}(a:WUp w1 w2)(b:WUp w2 w3):WUp w1 w3:=JU b a
end
section
variable (T:PKd P G) {S:List It3} 
include T
def R7{k:Kd}(hn:11<=n)(k9:k.nest<=9)(K:KA sh dn sa pa wa S ws st)(hS:S.length+dsz k.d<=900000)
  (q:∀S' st',Has S' k.d->S <+: S'->S'.length<=S.length+dsz k.d->KA sh dn sa pa wa S' ws st'->Kp (shL sh dn sa pa wa) st st'->Q (.int (nb S' k.d:Nat)) st'):sem P G n (c7 "Shelf" "laid_kind") [.ref sh,k.d,.int 3] st Q:=
 b81 T k 3 ⋯ k9 K.A K.D0 K.W hS λS' st' h1 h2 h3 h4 h5 h6=>q S' st' h1 h2 h3 (K.up h4 h2 h5) h6
def cc1{k:Kd}(K:KA sh dn sa pa wa S ws st)(k9:k.nest<=6)(hl:ws.length<2000)(q:∀st',KA sh dn sa pa wa S (ws++[(k,AE)]) st'->Kp [wa] st st'->Q (.int (-((ws.length:Int)+1))) st'):sem P G (n+1) (c7 "Shelf" "put_by") [.ref sh,k.d] st Q:=by
 refine f9 T.ptb rfl [AA (.ref sh),AA k.d] rfl ?_;unfold ae5;have hw:(("waiting":Str))∈G.cls "Shelf":=by rw[T.cls];simp
 ∎;refine⟨sh,"Shelf",_,.ref wa,rfl,K.A.ins,hw,rfl,?_⟩;rw[y0 (.inl K.W)];refine⟨trivial,?_⟩;rw[B2 K.W];refine⟨A7 (by simp only[AT];lia),?_⟩;have K1:Kp [wa] st (b0 st wa (.lst (ws.map (A5 S)++[.tup [k.d,.non]]))):=Kp.refl.put ∎;have W1:b0 st wa (.lst (ws.map (A5 S)++[.tup [k.d,.non]])) wa=AA (.lst ((ws++[(k,AE)]).map (A5 S))):=by rw[c9,Ag];rfl
 have A1:ShA sh dn sa pa wa S (b0 st wa (.lst (ws.map (A5 S)++[.tup [k.d,.non]]))):=by
  have d:=K.D0;have w:=d.wd;simp only[AL,AW,or_false,not_or]at w;exact⟨c8 K.A.ins (λz=>d.ws z.symm),c8 K.A.num (λz=>w.1 z.symm),c8 K.A.sto (λz=>w.2.1 z.symm),c8 K.A.par (λz=>w.2.2 z.symm),⟨_,c9⟩,K.A.wf,K.A.ml,K.A.fl⟩
 have KK:KA sh dn sa pa wa S (ws++[(k,AE)]) (b0 st wa (.lst (ws.map (A5 S)++[.tup [k.d,.non]]))):=by
  refine⟨A1,K.D0,W1,λw hm hb=>?_,λw hm=>?_,by simp;lia⟩
  ·rcases BK.mp hm with hm|hm
   ·exact K.H w hm hb
   ·simp at hm;subst hm;cases hb
  ·rcases BK.mp hm with hm|hm
   ·exact K.N w hm
   ·simp at hm;subst hm;exact k9
 ∎;refine⟨sh,"Shelf",_,.ref wa,rfl,A1.ins,hw,rfl,?_⟩;rw[u0 (.inl W1)];rfl';have e:-(((ws++[(k,AE)]).map (A5 S)).length:Int)=-((ws.length:Int)+1):=by simp
 rw[e];exact c0 (q _ KK K1)
def b02{k:Kd}{e:Int}(hn:12<=n)(K:KA sh dn sa pa wa S ws st)(h:En S ws e k)(hS:S.length+128<=900000)
  (q:∀S' ws' st',Has S' k.d->S <+: S'->S'.length<=S.length+128->KA sh dn sa pa wa S' ws' st'->WUp ws ws'->Kp (shL sh dn sa pa wa) st st'->Q (.int (nb S' k.d:Nat)) st'):sem P G n (c7 "Shelf" "taken_up") [.ref sh,.int e] st Q:=by
 obtain⟨n,rfl⟩:∃m,n=m+1:=⟨n-1,⋯⟩;refine f9 T.tku rfl [AA (.ref sh),AA (.int e),AD] rfl ?_;unfold ac9;have hw:(("waiting":Str))∈G.cls "Shelf":=by rw[T.cls];simp
 ∎
 rcases h with⟨rfl,h⟩|⟨j,b,rfl,h⟩
 ·rw[if_pos ⋯];∎;exact c0 (q S ws st h (CH _) ⋯ K rfl Kp.refl)
 rw[if_neg ⋯];∎;refine⟨sh,"Shelf",_,.ref wa,rfl,K.A.ins,hw,rfl,?_⟩;have ej:(-1:Int) - -((j:Int)+1)=(j:Nat):=by lia
 rw[ej,l6 (.inl K.W)];refine⟨A5 S (k,b),by rw[B7,Al,h];rfl,?_⟩;have k9:=K.N _ (BN h);have hj:=(AR.mp h).1;cases b with
 |true=>
  have e1:A5 S (k,AC)=.tup [k.d,.int (nb S k.d:Nat)]:=rfl;have hh:=K.H _ (BN h) rfl;rw[e1];∎;refine .inr ⟨nofun,?_⟩;rfl';∎;exact c0 (q S ws st hh (CH _) ⋯ K rfl Kp.refl)
 |false=>
  have e1:A5 S (k,AE)=.tup [k.d,.non]:=rfl;rw[e1];∎;refine .inl ?_;∎;refine⟨sh,"Shelf",_,3,rfl,K.A.ins,rfl,by rw[T.lkd];rfl,T.dfl,?_⟩;have hz:dsz k.d<=127:=S9 (k:=k) k9;refine R7 T ⋯ (by show k.nest<=9;have:k.nest<=6:=k9;lia) K ⋯ λS' st' h1 h2 h3 K' K2=>?_;rfl';∎;refine⟨sh,"Shelf",_,.ref wa,rfl,K'.A.ins,hw,rfl,?_⟩;rw[ej];refine⟨wa,(j:Nat),j,_,rfl,rfl,K'.W,?_,?_⟩
  ·unfold ixN;rw[if_pos ⋯,if_pos (by simp;lia)];simp
  have wk:wa∉[dn,sa,pa]/\wa≠sh:=⟨K.D0.wd,K.D0.ws⟩;simp only[AL,AW,or_false,not_or]at wk;have A3:∀o,ShA sh dn sa pa wa S' (b0 st' wa o):=λo=>⟨c8 K'.A.ins (λz=>wk.2 z.symm),c8 K'.A.num (λz=>wk.1.1 z.symm),c8 K'.A.sto (λz=>wk.1.2.1 z.symm),c8 K'.A.par (λz=>wk.1.2.2 z.symm),⟨_,c9⟩,K'.A.wf,K'.A.ml,K'.A.fl⟩;have el:(ws.map (A5 S')).set j (.tup [k.d,.int (nb S' k.d:Nat)])=(ws.set j (k,AC)).map (A5 S'):=by rw[JW];rfl
  rw[el];∎;refine c0 (q S' (ws.set j (k,AC)) _ h1 h2 ⋯ ⟨A3 _,K.D0,c9,λw hm hb=>?_,λw hm=>?_,by simpa using K.L⟩ ?_ (K2.put ∎))
  ·rcases GW hm with hm|rfl
   ·exact K'.H w hm hb
   ·exact h1
  ·rcases GW hm with hm|rfl
   ·exact K.N w hm
   ·exact k9
  ·unfold WUp;rw[JW];refine Dl λi=>?_;rw[FR]
   split
   ·rename_i hi;subst hi;rw[Al,h,if_pos (by simpa using hj)];rfl
   ·rfl
end
abbrev Pg.kk(Γ:List Kd):Pg->List Kd->Option Kd
 |.name n,[]=>Γ[n]?
 |.star,[]=>AA .one
 |.pair _ _,[a,b]=>AA (.both a b)
 |.first _,[.both a _]=>AA a
 |.second _,[.both _ b]=>AA b
 |.left b _,[a]=>AA (.eith a b)
 |.right a _,[b]=>AA (.eith a b)
 |.case _ _ _,[.eith _ _,k,l]=>if k=l then AA k else AD
 |.way a _,[b]=>AA (.way a b)
 |.give _ _,[.way a b,c]=>if a=c then AA b else AD
 |.lets _ _,[_,k]=>AA k
 |.never k _,[.non]=>AA k
 |_,_=>AD
abbrev Pg.nw:Pg->List Kd->Nat->Option Kd
 |.way a _,_,_=>AA a
 |.lets _ _,ks,_=>ks.head?
 |.case _ _ _,.eith a b::_,i=>AA (if i=1 then a else b)
 |_,_,_=>AD
abbrev Cxt(p:Pg)(ks:List Kd)(i:Nat)(Γ Δ:List Kd):Prop:=(p.more i=0/\Δ=Γ)\/(p.more i=1/\∃a,p.nw ks i=AA a/\Δ=a::Γ)
def Pg.kind_inv{k:Kd}(h:p.kind Γ=AA k):∃ks:List Kd,ks.length=p.kids.length/\p.kk Γ ks=AA k/\∀(i:Nat)c,p.kids[i]?=AA c->∃a Δ,ks[i]?=AA a/\Cxt p (ks.take i) i Γ Δ/\c.kind Δ=AA a:=by
 cases an9 h
 case name=>exact⟨[],rfl,h,λi c hc=>nomatch hc⟩
 case star=>exact⟨[],rfl,h,λi c hc=>nomatch hc⟩
 case first t b h1=>exact⟨[.both k b],rfl,rfl,λi c hc=>match i,hc with
  |0,hc=>by cases hc;exact⟨_,Γ,rfl,.inl ⟨rfl,rfl⟩,h1.kind⟩
  |i+1,hc=>nomatch hc⟩
 case second t a h1=>exact⟨[.both a k],rfl,rfl,λi c hc=>match i,hc with
  |0,hc=>by cases hc;exact⟨_,Γ,rfl,.inl ⟨rfl,rfl⟩,h1.kind⟩
  |i+1,hc=>nomatch hc⟩
 case left t a b h1=>exact⟨[a],rfl,rfl,λi c hc=>match i,hc with
  |0,hc=>by cases hc;exact⟨_,Γ,rfl,.inl ⟨rfl,rfl⟩,h1.kind⟩
  |i+1,hc=>nomatch hc⟩
 case right t a b h1=>exact⟨[b],rfl,rfl,λi c hc=>match i,hc with
  |0,hc=>by cases hc;exact⟨_,Γ,rfl,.inl ⟨rfl,rfl⟩,h1.kind⟩
  |i+1,hc=>nomatch hc⟩
 case never t h1=>exact⟨[.non],rfl,rfl,λi c hc=>match i,hc with
  |0,hc=>by cases hc;exact⟨_,Γ,rfl,.inl ⟨rfl,rfl⟩,h1.kind⟩
  |i+1,hc=>nomatch hc⟩
 case way t a b h1=>exact⟨[b],rfl,rfl,λi c hc=>match i,hc with
  |0,hc=>by cases hc;exact⟨_,a::Γ,rfl,.inr ⟨rfl,a,rfl,rfl⟩,h1.kind⟩
  |i+1,hc=>nomatch hc⟩
 case pair t u a b h1 h2=>exact⟨[a,b],rfl,rfl,λi c hc=>match i,hc with
  |0,hc=>by cases hc;exact⟨_,Γ,rfl,.inl ⟨rfl,rfl⟩,h1.kind⟩
  |1,hc=>by cases hc;exact⟨_,Γ,rfl,.inl ⟨rfl,rfl⟩,h2.kind⟩
  |i+2,hc=>nomatch hc⟩
 case give t u a h2 h1=>exact⟨[.way a k,a],rfl,if_pos rfl,λi c hc=>match i,hc with
  |0,hc=>by cases hc;exact⟨_,Γ,rfl,.inl ⟨rfl,rfl⟩,h1.kind⟩
  |1,hc=>by cases hc;exact⟨_,Γ,rfl,.inl ⟨rfl,rfl⟩,h2.kind⟩
  |i+2,hc=>nomatch hc⟩
 case lets t u a h1 h2=>exact⟨[a,k],rfl,rfl,λi c hc=>match i,hc with
  |0,hc=>by cases hc;exact⟨_,Γ,rfl,.inl ⟨rfl,rfl⟩,h1.kind⟩
  |1,hc=>by cases hc;exact⟨_,a::Γ,rfl,.inr ⟨rfl,a,rfl,rfl⟩,h2.kind⟩
  |i+2,hc=>nomatch hc⟩
 case case t u v a b h1 h2 h3=>exact⟨[.eith a b,k,k],rfl,if_pos rfl,λi c hc=>match i,hc with
  |0,hc=>by cases hc;exact⟨_,Γ,rfl,.inl ⟨rfl,rfl⟩,h1.kind⟩
  |1,hc=>by cases hc;exact⟨_,a::Γ,rfl,.inr ⟨rfl,a,rfl,rfl⟩,h2.kind⟩
  |2,hc=>by cases hc;exact⟨_,b::Γ,rfl,.inr ⟨rfl,b,rfl,rfl⟩,h3.kind⟩
  |i+3,hc=>nomatch hc⟩
abbrev c10:List (Str×D):=[("name",.fn "kind_of_name"),("star",.fn "kind_of_star"),("pair",.fn "kind_of_pair"),("first",.fn "kind_of_first"),("second",.fn "kind_of_second"),("left",.fn "kind_of_left"),("right",.fn "kind_of_right"),("case",.fn "kind_of_case"),("way",.fn "kind_of_way"),("give",.fn "kind_of_give"),("let",.fn "kind_of_let"),("never",.fn "kind_of_never")]
structure PKo(P:i6)(G:Gs):Prop extends PKd P G,PIn P G where
 kbp:P "kind_by_parts"=AA ad7
 nnm:P "new_name"=AA ag9
 hvs:P "halves_of"=AA ag1
 k0:P "kind_of_name"=AA ad9
 k1:P "kind_of_star"=AA ae4
 k2:P "kind_of_pair"=AA ae8
 k3:P "kind_of_first"=AA ad5
 k4:P "kind_of_second"=AA ac7
 k5:P "kind_of_left"=AA ae1
 k6:P "kind_of_right"=AA ad8
 k7:P "kind_of_case"=AA ae0
 k8:P "kind_of_way"=AA af3
 k9:P "kind_of_give"=AA ae3
 k10:P "kind_of_let"=AA af2
 k11:P "kind_of_never"=AA ad3
 tbw:G.tab "BY_WORD"=c10
abbrev v0(S:List It3)(ks:List Kd):List D:=ks.map λk=>.int (nb S k.d:Nat)
section
variable (T:PKo P G) {S:List It3} 
include T
def Y3{k a b:Kd}(ek:k.d=.tup [.str w,a.d,b.d])(K:KA sh dn sa pa wa S ws st)(h:Has S k.d)(q:Has S a.d->Has S b.d->Q (.tup [.int (nb S a.d:Nat),.int (nb S b.d:Nat)]) st):sem P G (n+2) "halves_of" [.str w,.int (nb S k.d:Nat),.ref sh] st Q:=by
 refine f9 T.hvs rfl [AA (.str w),AA (.int (nb S k.d:Nat)),AA (.ref sh)] rfl ?_;unfold ag1;rw[ek]at h ⊢;have ht:∀d∈[a.d,b.d],∃l,d=.tup l:=λd hd=>by simp at hd;rcases hd with rfl|rfl<;>exact L8 _
 obtain⟨hh,_⟩:=bf6 K.A.wf (fr:=[.str w]) (inn:=[a.d,b.d]) h X3 ht;∎;refine⟨sh,"Shelf",_,rfl,K.A.ins,rfl,by rw[T.word];rfl,a57 T.toPSh K.A h ?_⟩;rw[S8];rfl';∎;refine⟨sh,"Shelf",_,rfl,K.A.ins,rfl,by rw[T.wthn];rfl,b32 T.toPSh K.A (fr:=[.str w]) (inn:=[a.d,b.d]) h X3 ht ?_⟩;exact c0 (q (hh _ ∎) (hh _ ∎))
end
abbrev Pg.told(m:Nat):Pg->Prop
 |.left b _=>b.nest<=m
 |.right b _=>b.nest<=m
 |.way b _=>b.nest<=m
 |.never b _=>b.nest<=m
 |_=>True
def Pg.told_kn(h:p.kn m):p.told m:=by cases p<;>first|trivial|exact h.1
abbrev StQ(sh dn sa pa wa:AI)(S:List It3)(ws:List (Kd×Bool))(st:Sto)(k:Kd)(Q:DK):Prop:=∀S' ws' st',Has S' k.d->S <+: S'->S'.length<=S.length+128->KA sh dn sa pa wa S' ws' st'->WUp ws ws'->Kp (shL sh dn sa pa wa) st st'->Q (.int (nb S' k.d:Nat)) st'
section
variable (T:PKo P G) {S:List It3} 
include T
def b08{a:Kd}(hn:14<=n)(K:KA sh dn sa pa wa S ws st)(ht:p.told 6)(hm:p.more i=1)(hk:p.nw ks i=AA a)(hc:st ca=AA (.lst (v0 S ks)))(hh:∀k∈ks,Has S k.d)(hS:S.length+128<=900000)
  (q:StQ sh dn sa pa wa S ws st a Q):sem P G n "new_name" [p.d,.ref ca,.int i,.ref sh] st Q:=by
 obtain⟨n,rfl⟩:∃m,n=m+3:=⟨n-3,⋯⟩;refine f9 T.nnm rfl [AA p.d,AA (.ref ca),AA (.int i),AA (.ref sh)] rfl ?_;unfold ag9;cases p<;>first|(cases hk;done)|skip
 case case t u v=>
  cases ks with
  |nil=>cases hk
  |cons k0 ks=>
   cases k0<;>first|(cases hk;done)|skip
   rename_i x y;simp only[Pg.d];(iterate 3 ∎);refine⟨by rw[T.hvs];rfl,?_⟩;rw[l6 (.inl hc)];refine⟨.int (nb S (Kd.eith x y).d:Nat),by rw[ac2];rfl,?_⟩;refine Y3 T (w:="either") (k:=.eith x y) rfl K (hh _ ∎) λh1 h2=>?_;rfl';simp only[Pg.more]at hm;have hi:i=1\/i=2:=by
    split at hm
    ·assumption
    ·cases hm
   rcases hi with rfl|rfl
   ·cases hk;exact⟨_,rfl,c0 (q S ws st h1 (CH _) ⋯ K rfl Kp.refl)⟩
   ·cases hk;exact⟨_,rfl,c0 (q S ws st h2 (CH _) ⋯ K rfl Kp.refl)⟩
 case way b t=>
  cases hk;simp only[Pg.d];(iterate 2 ∎);refine⟨sh,"Shelf",_,3,rfl,K.A.ins,rfl,by rw[T.lkd];rfl,T.dfl,?_⟩;have hz:=S9 ht;have ht':a.nest<=6:=ht;exact R7 T.toPKd ⋯ ⋯ K ⋯ λS' st' h1 h2 h3 h4 h5=>c0 (q S' ws st' h1 h2 ⋯ h4 rfl h5)
 case lets t u=>
  cases ks with
  |nil=>cases hk
  |cons k0 ks=>
   cases hk;simp only[Pg.d];(iterate 3 ∎);rw[l6 (.inl hc)];exact⟨.int (nb S a.d:Nat),by rw[ac2];rfl,c0 (q S ws st (hh _ ∎) (CH _) ⋯ K rfl Kp.refl)⟩
def cn4{k:Kd}{kn:List Int}(hn:16<=n)(K:KA sh dn sa pa wa S ws st)(ht:p.told 6)(hk:p.kk Γ ks=AA k)(hc:st ca=AA (.lst (v0 S ks)))(hh:∀k∈ks,Has S k.d)(hka:st ka=AA (.lst (kn.map D.int)))(hkn:KnOk S ws Γ kn)(hca:ca∉shL sh dn sa pa wa)(hS:S.length+128<=900000)
  (q:StQ sh dn sa pa wa S ws st k Q):sem P G n "kind_by_parts" [p.d,.ref ca,.ref ka,.ref sh] st Q:=by
 obtain⟨n,rfl⟩:∃m,n=m+5:=⟨n-5,⋯⟩;have tb:(Zg P G (n+4)).G "BY_WORD"≠[]:=by show G.tab "BY_WORD"≠[];rw[T.tbw];exact λz=>by cases z
 have here:∀{k:Kd},StQ sh dn sa pa wa S ws st k Q->Has S k.d->Q (.int (nb S k.d:Nat)) st:=λq h=>q S ws st h (CH _) ⋯ K rfl Kp.refl;refine f9 T.kbp rfl [AA p.d,AA (.ref ca),AA (.ref ka),AA (.ref sh)] rfl ?_;unfold ad7;cases p<;>simp only[Pg.d]
 all_goals
  ∎;refine⟨tb,?_⟩;simp only[T.tbw];refine⟨_,rfl,?_⟩
 case name m=>
  cases ks with
  |cons _ _=>cases hk
  |nil=>
   refine⟨_,rfl,by rw[T.k0];rfl,?_⟩;refine f9 T.k0 rfl [AA (.tup [.str "name",.int m]),AA (.ref ca),AA (.ref ka),AA (.ref sh),AD] rfl ?_;unfold ad9;have hk:Γ[m]?=AA k:=hk;have hm:=(AR.mp hk).1;obtain⟨e,he,hen⟩:=hkn.at' m k hk;have hl:=hkn.len;(iterate 2 ∎);rw[u0 (.inl hka)];rfl';rw[if_neg ⋯,if_neg (by simp only[AT];lia)];∎;refine⟨sh,"Shelf",_,rfl,K.A.ins,rfl,by rw[T.tku];rfl,?_⟩;rw[u0 (.inl hka)];rfl';rw[l6 (.inl hka)];have ei:(((kn.map D.int).length:Nat):Int)-1-(m:Int)=((kn.length-1-m:Nat):Int):=by rw[AT];lia
   rw[ei];refine⟨.int e,by rw[B7,Al];rw[EO ⋯]at he;rw[he];rfl,?_⟩;exact b02 T.toPKd ⋯ K hen ⋯ λS' ws' st' h1 h2 h3 h4 h5 h6=>c0 (c0 (q S' ws' st' h1 h2 ⋯ h4 h5 h6))
 case star=>
  cases ks with
  |cons _ _=>cases hk
  |nil=>
   cases hk;refine⟨_,rfl,by rw[T.k1];rfl,?_⟩;refine f9 T.k1 rfl [AA (.tup [.str "star"]),AA (.ref ca),AA (.ref ka),AA (.ref sh)] rfl ?_;unfold ae4;∎;refine⟨sh,"Shelf",_,rfl,K.A.ins,rfl,by rw[T.numb];rfl,?_⟩;exact ak7 T.toPKd (w:="one") (inn:=[]) K.A K.D0 K.W ∎ ∎ ⋯ λS' st' h1 h2 h3 h4 h5 h6=>c0 (c0 (q S' ws st' h1 h2 ⋯ (K.up h4 h2 h5) rfl h6))
 case pair t u=>
  match ks,hk with
  |[a,b],hk=>
   cases hk;refine⟨_,rfl,by rw[T.k2];rfl,?_⟩;refine f9 T.k2 rfl [AA (.tup [.str "pair",t.d,u.d]),AA (.ref ca),AA (.ref ka),AA (.ref sh)] rfl ?_;unfold ae8;∎;refine⟨sh,"Shelf",_,rfl,K.A.ins,rfl,by rw[T.blt];rfl,?_⟩;rw[l6 (.inl hc)];refine⟨_,rfl,?_⟩;rw[l6 (.inl hc)];refine⟨_,rfl,?_⟩;exact U6 T.toPKd (w:="both") K.A K.D0 K.W (hh _ ∎) (hh _ ∎) ⋯ λS' st' h1 h2 h3 h4 h5 h6=>c0 (c0 (q S' ws st' h1 h2 ⋯ (K.up h4 h2 h5) rfl h6))
 case first t=>
  match ks,hk with
  |[.both a b],hk=>
   cases hk;refine⟨_,rfl,by rw[T.k3];rfl,?_⟩;refine f9 T.k3 rfl [AA (.tup [.str "first",t.d]),AA (.ref ca),AA (.ref ka),AA (.ref sh)] rfl ?_;unfold ad5;∎;refine⟨by rw[T.hvs];rfl,?_⟩;rw[l6 (.inl hc)];refine⟨_,rfl,Y3 T (w:="both") (k:=.both k b) rfl K (hh _ ∎) λh1 h2=>?_⟩;rfl';exact c0 (c0 (here q h1))
 case second t=>
  match ks,hk with
  |[.both a b],hk=>
   cases hk;refine⟨_,rfl,by rw[T.k4];rfl,?_⟩;refine f9 T.k4 rfl [AA (.tup [.str "second",t.d]),AA (.ref ca),AA (.ref ka),AA (.ref sh)] rfl ?_;unfold ac7;∎;refine⟨by rw[T.hvs];rfl,?_⟩;rw[l6 (.inl hc)];refine⟨_,rfl,Y3 T (w:="both") (k:=.both a k) rfl K (hh _ ∎) λh1 h2=>?_⟩;rfl';exact c0 (c0 (here q h2))
 case case t u v=>
  match ks,hk with
  |[.eith a b,c,d],hk=>
   have hk:(if c=d then AA c else AD)=AA k:=hk
   split at hk
   ·rename_i hcd;cases hk;subst hcd;refine⟨_,rfl,by rw[T.k7];rfl,?_⟩;refine f9 T.k7 rfl [AA (.tup [.str "case",t.d,u.d,v.d]),AA (.ref ca),AA (.ref ka),AA (.ref sh)] rfl ?_;unfold ae0;∎;rw[l6 (.inl hc)];refine⟨_,rfl,?_⟩;rw[l6 (.inl hc)];refine⟨_,rfl,?_⟩;rw[ab1];rfl';∎;rw[l6 (.inl hc)];exact⟨_,rfl,c0 (c0 (here q (hh _ ∎)))⟩
   ·cases hk
 case lets t u=>
  match ks,hk with
  |[a,c],hk=>
   cases hk;refine⟨_,rfl,by rw[T.k10];rfl,?_⟩;refine f9 T.k10 rfl [AA (.tup [.str "let",t.d,u.d]),AA (.ref ca),AA (.ref ka),AA (.ref sh)] rfl ?_;unfold af2;∎;rw[l6 (.inl hc)];exact⟨_,rfl,c0 (c0 (here q (hh _ ∎)))⟩
 case give t u=>
  match ks,hk with
  |[.way a b,c],hk=>
   have hk:(if a=c then AA b else AD)=AA k:=hk
   split at hk
   ·rename_i hcd;cases hk;subst hcd;refine⟨_,rfl,by rw[T.k9];rfl,?_⟩;refine f9 T.k9 rfl [AA (.tup [.str "give",t.d,u.d]),AA (.ref ca),AA (.ref ka),AA (.ref sh),AD] rfl ?_;unfold ae3;∎;refine⟨by rw[T.hvs];rfl,?_⟩;rw[l6 (.inl hc)];refine⟨_,rfl,Y3 T (w:="way") (k:=.way a k) rfl K (hh _ ∎) λh1 h2=>?_⟩;∎;rw[l6 (.inl hc)];refine⟨_,rfl,?_⟩;rw[ab1];rfl';∎;exact c0 (c0 (here q h2))
   ·cases hk
 case left b t=>
  match ks,hk with
  |[a],hk=>
   cases hk;have ht':b.nest<=6:=ht;have hz:=S9 ht';refine⟨_,rfl,by rw[T.k5];rfl,?_⟩;refine f9 T.k5 rfl [AA (.tup [.str "left",b.d,t.d]),AA (.ref ca),AA (.ref ka),AA (.ref sh)] rfl ?_;unfold ae1;∎;refine⟨sh,"Shelf",_,rfl,K.A.ins,rfl,by rw[T.blt];rfl,?_⟩;rw[l6 (.inl hc)];refine⟨_,rfl,sh,"Shelf",_,3,rfl,K.A.ins,rfl,by rw[T.lkd];rfl,T.dfl,?_⟩;refine R7 T.toPKd ⋯ ⋯ K ⋯ λS1 st1 a1 a2 a3 K1 a5=>?_;rfl';rw[<-O7 K1.A.wf (hh a ∎) a2];exact U6 T.toPKd (w:="either") K1.A K1.D0 K1.W ((hh _ ∎).mono a2) a1 ⋯ λS' st' h1 h2 h3 h4 h5 h6=>c0 (c0 (q S' ws st' h1 (a2.trans h2) ⋯ (K1.up h4 h2 h5) rfl (a5.trans h6)))
 case right b t=>
  match ks,hk with
  |[a],hk=>
   cases hk;have ht':b.nest<=6:=ht;have hz:=S9 ht';refine⟨_,rfl,by rw[T.k6];rfl,?_⟩;refine f9 T.k6 rfl [AA (.tup [.str "right",b.d,t.d]),AA (.ref ca),AA (.ref ka),AA (.ref sh)] rfl ?_;unfold ad8;∎;refine⟨sh,"Shelf",_,rfl,K.A.ins,rfl,by rw[T.blt];rfl,sh,"Shelf",_,3,rfl,K.A.ins,rfl,by rw[T.lkd];rfl,T.dfl,?_⟩;refine R7 T.toPKd ⋯ ⋯ K ⋯ λS1 st1 a1 a2 a3 K1 a5=>?_;rfl';rw[l6 (.inl (a5.at' hc hca))];refine⟨.int (nb S a.d:Nat),rfl,?_⟩;rw[<-O7 K1.A.wf (hh a ∎) a2];exact U6 T.toPKd (w:="either") K1.A K1.D0 K1.W a1 ((hh _ ∎).mono a2) ⋯ λS' st' h1 h2 h3 h4 h5 h6=>c0 (c0 (q S' ws st' h1 (a2.trans h2) ⋯ (K1.up h4 h2 h5) rfl (a5.trans h6)))
 case way b t=>
  match ks,hk with
  |[a],hk=>
   cases hk;have ht':b.nest<=6:=ht;have hz:=S9 ht';refine⟨_,rfl,by rw[T.k8];rfl,?_⟩;refine f9 T.k8 rfl [AA (.tup [.str "way",b.d,t.d]),AA (.ref ca),AA (.ref ka),AA (.ref sh)] rfl ?_;unfold af3;∎;refine⟨sh,"Shelf",_,rfl,K.A.ins,rfl,by rw[T.blt];rfl,sh,"Shelf",_,3,rfl,K.A.ins,rfl,by rw[T.lkd];rfl,T.dfl,?_⟩;refine R7 T.toPKd ⋯ ⋯ K ⋯ λS1 st1 a1 a2 a3 K1 a5=>?_;rfl';rw[l6 (.inl (a5.at' hc hca))];refine⟨.int (nb S a.d:Nat),rfl,?_⟩;rw[<-O7 K1.A.wf (hh a ∎) a2];exact U6 T.toPKd (w:="way") K1.A K1.D0 K1.W a1 ((hh _ ∎).mono a2) ⋯ λS' st' h1 h2 h3 h4 h5 h6=>c0 (c0 (q S' ws st' h1 (a2.trans h2) ⋯ (K1.up h4 h2 h5) rfl (a5.trans h6)))
 case never b t=>
  match ks,hk with
  |[.non],hk=>
   cases hk;have ht':k.nest<=6:=ht;have hz:=S9 ht';refine⟨_,rfl,by rw[T.k11];rfl,?_⟩;refine f9 T.k11 rfl [AA (.tup [.str "never",k.d,t.d]),AA (.ref ca),AA (.ref ka),AA (.ref sh)] rfl ?_;unfold ad3;∎;refine⟨sh,"Shelf",_,rfl,K.A.ins,rfl,by rw[T.word];rfl,?_⟩;rw[l6 (.inl hc)];refine⟨.int (nb S (D.tup [.str "none"]):Nat),rfl,a57 T.toPSh K.A (d:=.str "none") (r:=[]) (hh .non ∎) ?_⟩;rw[S8];rfl';∎;refine⟨sh,"Shelf",_,3,rfl,K.A.ins,rfl,by rw[T.lkd];rfl,T.dfl,?_⟩;exact R7 T.toPKd ⋯ ⋯ K ⋯ λS' st' h1 h2 h3 h4 h5=>c0 (c0 (q S' ws st' h1 h2 ⋯ h4 rfl h5))
end
def bl3{f:Str}(h:sem P G n f ds st Q):(v4 P G (n+1)).2.1 f ds st Q:=h
abbrev KpN(L:List AI)(st st':Sto):Prop:=∀b o,b∉L->(∀c fs,o≠.ins c fs)->st b=AA o->st' b=AA o
def cg9{T:Type}{subs:T->List T}{size:T->Nat}(hsz:∀t,size t=1+((subs t).map size).sum){l S:List T}{r:T}(h:Rn subs l S r):(S.map size).sum<=size r:=by
 induction h with
 |done t=>simp
 |@step h r l S _ ih=>
  have:=hsz h;simp only[Ag,Ei,Ah,Dj,Da,IB]at ih ⊢;lia
section
variable (T0:PM P G) {T:Type} {enc:T->D} {subs:T->List T} {size:T->Nat} {DJ:T->Prop}
include T0
def cd6{L:List AI}(hsz:∀t,size t=1+((subs t).map size).sum)(hg:∀t,DJ t->∀c∈subs t,DJ c){F M:D}(hF:Cok P F)(hM:Cok P M)(t:T)(hs:size t<=2000)(hgt:DJ t)(hL:∀a∈L,∃o,st a=AA o){Y:AI->List T->List D->Sto->Prop}(hYL:∀{dn S ds st1},Y dn S ds st1->∀a∈L,∃o,st1 a=AA o)
  (hY0:∀dn st',st dn=AD->Kp [] st st'->Y dn [] [] st') (hYk:∀{dn S ds st1 st2},st dn=AD->Y dn S ds st1->Kp [dn] st1 st2->Y dn S ds st2)
  (hp:∀c st' Q,DJ c->Kp [] st st'->(∀d st2,am4 st' st2 d ((subs c).map enc)->Kp [] st' st2->Q d st2)->E7 P G n F [enc c] st' Q)
  (hm:∀c dn la st' Q S ds xs,DJ c->Kp L st st'->st dn=AD->la∉L->la≠dn->st la=AD->st' la=AA (.lst xs)->xs.length=(subs c).length->ds.length=S.length->Y dn (S++subs c) (ds++xs) st'->st' dn=AA (.lst ds)->(S.map size).sum+size c<=size t->(∀d st2,Y dn (S++[c]) (ds++[d]) st2->KpN L st' st2->Kp L st st2->Q d st2)->E7 P G (n+1) M [enc c,.ref la] st' Q)
  (q:∀dn d st',st dn=AD->Y dn [t] [d] st'->Kp L st st'->Q d st'):sem P G (n+2) "made_of_parts" [enc t,F,M] st Q:=by
 refine f9 T0.mop rfl [AA (enc t),AA F,AA M,AD,AD,AD,AD] rfl ?_;unfold X6;∎;refine⟨by rw[T0.few];rfl,bb7 T0 (DJ:=λc=>DJ c/\size c<=2000) (W:=Unit) (J:=λ_ _=>True) (le:=λ_ _=>True) (L:=[]) (s0:=()) (λ_=>trivial) (λ_ _=>trivial) (λ_ _ _=>trivial) (μ:=λ_=>0) (B:=1) trivial (λ_=>∎) hsz (λc gc c' hc'=>⟨hg c gc.1 c' hc',BC (Q2 size hc') (by have:=hsz c;have:=gc.2;lia)⟩) hF t hs (AY _) ⟨hgt,hs⟩ (λc st' Q _ gc _ _ K k=>hp c st' Q gc.1 K λd st2 h K2=>k d () st2 h trivial (AY _) trivial K2) λoa st1 l _ hoa0 hord gl hoa _ _ _ K1 hl=>?_⟩;∎;refine .inr ⟨nofun,?_⟩;rfl';∎;intro dn hdn;have hod:oa≠dn:=j7 hoa hdn;have hdn0:st dn=AD:=none_of K1 hdn;have hdL:dn∉L:=λz=>by obtain⟨o,e⟩:=hL dn z;rw[hdn0]at e;cases e
 have hoL:oa∉L:=λz=>by obtain⟨o,e⟩:=hL oa z;rw[hoa0]at e;cases e
 ∎;refine⟨_,.inl (j6 hoa hdn),?_⟩;rw[<-IY];have kdn:∀(u:Ob)(st2:Sto),Kp L st st2->Kp L st (b0 st2 dn u):=λu st2 K b o nb e=>c8 (K b o nb e) (λz=>by rw[z,hdn0]at e;cases e);refine C8 (λll env st'=>∃(i7 S:List T)(ds:List D)(x5 x6:Option D),ll=i7.map (λc=>D.tup [enc c,.int (subs c).length])/\(∀c∈i7,DJ c/\size c<=2000)/\Rn subs i7 S t/\env=[AA (enc t),AA F,AA M,AA (.ref oa),AA (.ref dn),x5,x6]/\st' dn=AA (.lst ds)/\ds.length=S.length/\S.length+i7.length<=100000/\Y dn S ds st'/\st' oa=AA (.lst (l.map λc=>.tup [enc c,.int (subs c).length]))/\Kp L st st') ?_ ?_ _ _ _ ⟨l.reverse,[],[],AD,AD,rfl,λc hc=>gl c (by simpa using hc),by simpa using be5 subs hord (.done t) (S0:=[]) ,rfl,c9,rfl,by simp;lia,hY0 dn _ hdn0 (K1.new hdn),j6 hoa hdn,(K1.new hdn).more ∎⟩
 ·rintro env st' ⟨i7,S,ds,x5,x6,el,_,hr,rfl,hd,hl',_,hv,hoa',K⟩;have es:i7=[]:=by simpa using el.symm
  subst es;refine⟨.inl hoa',?_⟩;cases hr;obtain⟨d,rfl⟩:∃d,ds=[d]:=by match ds,hl' with|[d],_=>exact⟨d,rfl⟩
  ∎;rw[l6 (.inl hd)];exact⟨d,rfl,c0 (q dn d st' hdn0 hv K)⟩
 ·rintro d0 dl env st' ih ⟨i7,S,ds,x5,x6,el,hin,hr,rfl,hd,hl',hb,hv,hoa',K⟩;refine⟨.inl hoa',?_⟩;cases i7 with
  |nil=>simp at el
  |cons h i7=>
   simp only[Ah,Ae]at el;obtain⟨rfl,rfl⟩:=el;simp only[Ac]at hb;have gh:DJ h:=(hin h ∎).1;cases hr with
   |@step _ _ _ S hr=>
   simp only[AX]at hl' hb;obtain⟨ds,xs,rfl,hlS,hlx⟩:∃ds' xs,ds=ds'++xs/\ds'.length=S.length/\xs.length=(subs h).length:=⟨ds.take S.length,ds.drop S.length,(DQ _ _).symm,by rw[Bl];lia,by rw[CS];lia⟩;have hss:(subs h).length<=2000:=by
    have h1:=(hin h ∎).2;have h2:=hsz h;have h3:=Z8 hsz (subs h);lia
   have main:∀la st2,la∉L->la≠dn->st la=AD->st2 la=AA (.lst xs)->st2 dn=AA (.lst ds)->Kp [dn] st' st2->E7 P G (n+1) M [enc h,.ref la] st2 λd st3=>U0 (.ref dn) d st3 λ_ st4=>t5 (λst'=>rdS st' oa (l.map λc=>.tup [enc c,.int (subs c).length])) (.tup [5,6]) (g9 (Zg P G (n+1)) (.cons (.ex (.app (.v 4) (.callv 2 (.cons (.v 5) (.cons (.ite (.cmp .Gt (.v 6) (.int 0)) (.call "taken" (.cons (.v 4) (.cons (.v 6) .nil))) (.lst .nil)) .nil))))) .nil)) ⟨g9 (Zg P G (n+1)) (.cons (.ret (.ix (.v 4) (.int 0))) .nil) (j8 Q),(j8 Q).rt,(j8 Q).bk,(j8 Q).ct⟩ (i7.map λc=>D.tup [enc c,.int (subs c).length]) [AA (enc t),AA F,AA M,AA (.ref oa),AA (.ref dn),AA (enc h),AA (.int (subs h).length)] st4:=λla st2 hla hne hl0 hl2 hd2 K2=>by
    have KK:Kp L st st2:=λb u nb e=>K2.at' (K b u nb e) (by simp;exact λz=>by rw[z,hdn0]at e;cases e);refine hm h dn la st2 _ S ds xs gh KK hdn0 hla hne hl0 hl2 hlx hlS (hYk hdn0 hv K2) hd2 (by have:=cg9 hsz hr;simpa using this) λd st3 vd N3 K3=>?_;have hd3:=N3 dn _ hdL (λ_ _ z=>by cases z) hd2;rw[B2 hd3];refine⟨A7 ⋯,?_⟩;exact ih _ _ ⟨i7,S++[h],ds++[d],_,_,rfl,λc hc=>hin c (by simp[hc]),hr,rfl,c9,by simp[hlS],by simp;lia,hYk hdn0 vd (Kp.refl.put ∎),c8 (N3 oa _ hoL (λ_ _ z=>by cases z) (K2.at' hoa' (by simpa using hod))) hod,kdn _ _ K3⟩
   have inL:∀{p:AI},st' p=AD->p∉L/\st p=AD:=λ{p}hp=>by
    by_cases z:p∈L
    ·obtain⟨o,e⟩:=hYL hv p z;rw[hp]at e;cases e
    ·refine⟨z,?_⟩;cases e:st p with
     |none=>rfl
     |some u=>rw[K.at' e z]at hp;cases hp
   rfl';∎;rw[y0 (.inl hd)];refine⟨trivial,N5 hM ?_⟩;rfl'
   by_cases h0:(subs h).length=0
   ·rw[if_neg ⋯];intro la hla;have exs:xs=[]:=Az ⋯;subst exs;exact main la _ (inL hla).1 (j7 hd hla).symm (inL hla).2 c9 (j6 (by simpa using hd) hla) (Kp.refl.new hla)
   ·rw[if_pos ⋯];refine⟨by rw[T0.taken];rfl,?_⟩;exact ax6 T0 hlx hd ⋯ λla st2 hla hne hl2 hd2 K2=>main la st2 (inL hla).1 hne (inL hla).2 hl2 hd2 K2
end
abbrev ndF(p:Pg)(la:AI)(x h w:Int)(kd:D):List (Str×D):=[(("program":Str),p.d),(("inside":Str),.ref la),(("number":Str),.int x),(("holders":Str),.int h),(("ways":Str),.int w),(("used":Str),.non),(("kind":Str),kd)]
abbrev ndO(p:Pg)(la:AI)(x h w:Int)(kd:D):Ob:=.ins "Node" (ndF p la x h w kd)
abbrev C4(d:D):Prop:=d=.non\/∃j:Int,d=.int j
inductive Nd(st0:Sto)(X:List AI)(st:Sto):Int->Pg->AI->List AI->Prop where
 |mk {h:Int} {p:Pg} {a la:AI} {x w:Int} {kd:D} {as:List AI} {fs:List (List AI)}:st a=AA (ndO p la x h w kd)->C4 kd->st la=AA (.lst (as.map D.ref))->la∉X->st0 la=AD->st0 a=AD->as.length=p.kids.length->fs.length=p.kids.length->(∀(i:Nat)c b f,p.kids[i]?=AA c->as[i]?=AA b->fs[i]?=AA f->Nd st0 X st 1 c b f)->Nd st0 X st h p a (a::fs.flatten)
section
variable {st0:Sto} {f:List AI}
def Nd.stay(n:Nd st0 X st h p a f)(hi:∀b∈f,∀o,st b=AA o->st' b=AA o)(hn:KpN X st st'):Nd st0 X st' h p a f:=by
 induction n with
 |@mk h p a la x w kd as fs h1 h2 h3 h4 h5 h6 h7 h8 _ ih=>
  refine .mk (hi a ∎ _ h1) h2 (hn la _ h4 (λ_ _ z=>by cases z) h3) h4 h5 h6 h7 h8 λi c b f e1 e2 e3=>ih i c b f e1 e2 e3 λb' hb o ho=>hi b' (Ao _ ?_) o ho;exact CI.mpr ⟨f,BN e3,hb⟩
theorem Nd.ins(n:Nd st0 X st h p a f):∀b∈f,∃fl,st b=AA (.ins "Node" fl):=by
 induction n with
 |@mk h p a la x w kd as fs h1 h2 h3 h4 h5 h6 h7 h8 hk ih=>
  intro b hb
  rcases AL.mp hb with rfl|hb
  ·exact⟨_,h1⟩
  ·obtain⟨f,hf,hb⟩:=CI.mp hb;obtain⟨i,hi,rfl⟩:=Ea.mp hf;exact ih i p.kids[i] as[i] fs[i] (AJ ⋯) (AJ ⋯) (AJ hi) b hb
def Nd.root(n:Nd st0 X st h p a f):∃la x w kd,st a=AA (ndO p la x h w kd)/\C4 kd/\a∈f/\st0 a=AD:=by
 cases n with
 |mk h1 h2 h3 h4 h5 h6 h7 h8 hk=>exact⟨_,_,_,_,h1,h2,∎,h6⟩
def Nd.upd(n:Nd st0 X st h p a f)(nd:f.Nodup){x w kd}(ha:st a=AA (ndO p la x h w kd))(hk:C4 kd'):Nd st0 X (b0 st a (ndO p la x h' w' kd')) h' p a f:=by
 cases n with
 |@mk _ _ _ la2 x2 w2 kd2 as fs h1 h2 h3 h4 h5 h6 h7 h8 hks=>
  rw[ha]at h1;simp only[ndO,ndF,Bs,Ob.ins.injEq,Ae,II,D.ref.injEq,D.int.injEq,true_and,and_true]at h1;obtain⟨rfl,rfl,rfl,rfl⟩:=h1;have hne:la≠a:=λz=>by rw[z,ha]at h3;cases h3
  have hN:KpN X st (b0 st a (ndO p la x h' w' kd')):=λb o _ ho e=>c8 e (λz=>by rw[z,ha]at e;cases e;exact ho _ _ rfl);refine .mk c9 hk (c8 h3 hne) h4 h5 h6 h7 h8 λi c b f e1 e2 e3=>(hks i c b f e1 e2 e3).stay (λb' hb o ho=>c8 ho (λz=>?_)) hN;subst z;exact(BL.mp nd).1 (CI.mpr ⟨f,BN e3,hb⟩)
end
structure PNo(P:i6)(G:Gs):Prop extends PKo P G where
 nin:P (c7 "Node" "__init__")=AA ad4
 ncl:G.cls "Node"=[("program":Str),("inside":Str),("number":Str),("holders":Str),("ways":Str),("used":Str),("kind":Str)]
 nod:P "noded"=AA al2
 fol:P "folded"=AA L1
 kon:P "kind_of_node"=AA ae2
 ko:P "kind_of"=AA ah7
 shn:P "shelved_names"=AA ad6
 shk:P "shelved_kind"=AA ae9
section
variable (T:PNo P G) 
include T
def cm6{nd:AI}(q:Q .non (b0 st nd (ndO p la x 0 0 .non))):sem P G (n+1) (c7 "Node" "__init__") [.ref nd,p.d,.ref la,.int x] (b0 st nd (.ins "Node" [])) Q:=by
 refine f9 T.nin rfl [AA (.ref nd),AA p.d,AA (.ref la),AA (.int x)] rfl ?_;unfold ad4;have hc:∀f∈([("program":Str),("inside":Str),("number":Str),("holders":Str),("ways":Str),("used":Str),("kind":Str)]:List Str),f∈G.cls "Node":=λf hf=>by rw[T.ncl];exact hf
 ∎;refine⟨nd,"Node",_,rfl,c9,hc _ ∎,∅,?_⟩;rw[N7];∎;refine⟨nd,"Node",_,rfl,c9,hc _ ∎,by simp[j9],?_⟩;rw[N7];∎;refine⟨nd,"Node",_,rfl,c9,hc _ ∎,by simp[j9,l9],?_⟩;rw[N7];∎;refine⟨nd,"Node",_,rfl,c9,hc _ ∎,by simp[j9,l9],?_⟩;rw[N7];∎;refine⟨nd,"Node",_,rfl,c9,hc _ ∎,by simp[j9,l9],?_⟩;rw[N7];∎;refine⟨nd,"Node",_,rfl,c9,hc _ ∎,by simp[j9,l9],?_⟩;rw[N7];∎;refine⟨nd,"Node",_,rfl,c9,hc _ ∎,by simp[j9,l9],?_⟩;rw[N7];rfl';refine a68 ?_;have e:j9 "kind" .non (j9 "used" .non (j9 "ways" (.int 0) (j9 "holders" (.int 0) (j9 "number" (.int x) (j9 "inside" (.ref la) (j9 "program" p.d []))))))=ndF p la x 0 0 .non:=by simp[j9,l9,ndF]
 rw[e];exact q
end
@[reducible]noncomputable def Tre:=Int×Pg×AI×List AI
structure FO(st0:Sto)(X:List AI)(l:List Tre)(st:Sto):Prop where
 nd:∀e∈l,Nd st0 X st e.1 e.2.1 e.2.2.1 e.2.2.2
 dj:(l.map (·.2.2.2)).flatten.Nodup
section
variable {st0:Sto} {l l1 l2:List Tre}
theorem FO.stay(h:FO st0 X l st)(hi:∀b∈(l.map (·.2.2.2)).flatten,∀o,st b=AA o->st' b=AA o)(hn:KpN X st st'):FO st0 X l st':=
 ⟨λe he=>(h.nd e he).stay (λb hb=>hi b (CI.mpr ⟨_,Cs.mpr ⟨e,he,rfl⟩,hb⟩)) hn,h.dj⟩
theorem FO.upd{w:Int}{lb:AI}{f:List AI}(F:FO st0 X (l1++(h,c,b,f)::l2) st)(hb:st b=AA (ndO c lb x h w kd))(hk:C4 kd'):FO st0 X (l1++(h',c,b,f)::l2) (b0 st b (ndO c lb x h' w' kd')):=by
 have n:=F.nd (h,c,b,f) ∎;obtain⟨_,_,_,_,_,_,hbf,_⟩:=n.root;have dj:=F.dj;simp only[Ag,Ah,DL,DH]at dj;have d1:=Dm.mp dj;have d2:=Dm.mp d1.2.1;have hN:KpN X st (b0 st b (ndO c lb x h' w' kd')):=λb' o _ ho e=>c8 e (λz=>by rw[z,hb]at e;cases e;exact ho _ _ rfl);refine⟨λe he=>?_,by simpa using dj⟩
 rcases BK.mp he with h1|h1
 ·refine(F.nd e (by simp[h1])).stay (λb' hb' o ho=>c8 ho (λz=>?_)) hN;exact d1.2.2 b' (CI.mpr ⟨_,Cs.mpr ⟨e,h1,rfl⟩,hb'⟩) b (Db _ hbf) z
 ·rcases AL.mp h1 with rfl|h1
  ·exact n.upd d2.1 hb hk
  ·refine(F.nd e (by simp[h1])).stay (λb' hb' o ho=>c8 ho (λz=>?_)) hN;exact d2.2.2 b hbf b' (CI.mpr ⟨_,Cs.mpr ⟨e,h1,rfl⟩,hb'⟩) z.symm
def Nd.monoX{Y:List AI}{f:List AI}(n:Nd st0 X st h p a f)(hX:∀y∈Y,y∈X):Nd st0 Y st h p a f:=by
 induction n with
 |mk h1 h2 h3 h4 h5 h6 h7 h8 _ ih=>exact .mk h1 h2 h3 (λz=>h4 (hX _ z)) h5 h6 h7 h8 ih
end
def b63{w:Int}:j9 "holders" (.int h') (ndF p la x h w kd)=ndF p la x h' w kd:=by simp[j9,l9,ndF]
def a01{w:Int}:j9 "ways" (.int w') (ndF p la x h w kd)=ndF p la x h w' kd:=by simp[j9,l9,ndF]
def b69{w:Int}:j9 "kind" kd' (ndF p la x h w kd)=ndF p la x h w kd':=by simp[j9,l9,ndF]
section
variable (T:PNo P G) 
include T
def cb8{na:AI}(hn:5<=n)(hp:p.parts<=2000)(hna:st na=AA (.lst []))(hX:∀x∈X,∃o,st x=AA o)
  (q:∀a f st',Nd st X st' 0 p a f->Kp [na] st st'->Q (.ref a) st'):sem P G n "noded" [p.d,.ref na] st Q:=by
 obtain⟨n,rfl⟩:∃m,n=m+5:=⟨n-5,⋯⟩;have hc:∀f∈([("program":Str),("inside":Str),("number":Str),("holders":Str),("ways":Str),("used":Str),("kind":Str)]:List Str),f∈G.cls "Node":=λf hf=>by rw[T.ncl];exact hf
 refine f9 T.nod rfl [AA p.d,AA (.ref na),AD,AD,AD] rfl ?_;unfold al2;(iterate 2 ∎);refine⟨by rw[T.mop];rfl,by rw[T.inner];rfl,?_⟩;refine cd6 T.toPM (n:=n+2) (T:=Pg) (enc:=Pg.d) (subs:=Pg.kids) (size:=Pg.parts) (DJ:=λ_=>True) (L:=[na]) Pg.parts_kids (λ_ _ _ _=>trivial) (F:=.fn "inner") (show(P _).isSome=AC by rw[T.inner];rfl) (show Cok P (.clo _ _ _ _) from trivial) p hp trivial (by simp;exact⟨_,hna⟩)
  (Y:=λdn S ds st'=>∃(l:List Tre)(nl:List D),FO st (dn::na::X) l st'/\l.map (·.2.1)=S/\ds=l.map (λe=>D.ref e.2.2.1)/\(∀e∈l,e.1=0)/\dn∉(l.map (·.2.2.2)).flatten/\st' na=AA (.lst nl)/\nl.length=(S.map Pg.parts).sum) ?_ ?_ ?_ ?_ ?_ ?_
 ·rintro dn S ds st1 ⟨l,nl,_,_,_,_,_,h,_⟩ a ha;simp at ha;subst ha;exact⟨_,h⟩
 ·intro dn st' hdn K;exact⟨[],[],⟨∎,∎⟩,rfl,rfl,∎,∎,K.at' hna ∎,∎⟩
 ·rintro dn S ds st1 st2 hdn ⟨l,nl,F,e1,e2,e3,e4,e5,e6⟩ K;refine⟨l,nl,F.stay (λb hb o ho=>K.at' ho (by simp;exact λz=>e4 (z▸hb))) (λb o hb _ ho=>K.at' ho (by simp at hb ⊢;exact hb.1)),e1,e2,e3,e4,K.at' e5 (by simp;exact λz=>by rw[z,hdn]at hna;cases hna),e6⟩
 ·intro c st' Q _ K k;refine au6 T.toPIn c λa ha=>k _ _ (.inr ⟨a,rfl,ha,c9⟩) (Kp.refl.new ha)
 ·rintro c dn la st' Q S ds xs _ K hdn hlaL hne hl0 hla hlx hlS ⟨l,nl,F,e1,e2,e3,e4,e5,e6⟩ hd hsum k;obtain⟨l1,l2,rfl,m1,m2⟩:∃l1 l2:List Tre,l=l1++l2/\l1.map (·.2.1)=S/\l2.map (·.2.1)=c.kids:=by
   refine⟨l.take S.length,l.drop S.length,(DQ _ _).symm,?_,?_⟩
   ·rw[Ke,e1,IT];rfl
   ·rw[Kf,e1,List.drop_left'];rfl
  rw[Ag]at e2;have hl1:l1.length=S.length:=by rw[<-m1,AT]
  obtain⟨x1,x2⟩:=List.append_inj e2 (by rw[hlS,AT,hl1]);subst x1 x2;have hpc:=Pg.parts_kids c;rw[Ag,Ei]at e6;refine L3 rfl [AA c.d,AA (.ref la),AA (.ref na),AD,AD] rfl ?_;∎;refine⟨by show(AC&&_)=AC;rw[T.nin];rfl,?_⟩;rw[u0 (.inl e5)];intro nd hnd;refine bl3 (n:=n+1) ?_;refine cm6 T ?_;refine⟨rfl,?_⟩;have hndna:na≠nd:=j7 e5 hnd;have hnl:nd≠la:=λz=>by rw[<-z,hnd]at hla;cases hla
  have hnd0:st nd=AD:=by
   cases z:st nd with
   |none=>rfl
   |some u=>
    by_cases hz:nd=na
    ·exact absurd hz.symm hndna
    ·rw[K.at' z (by simpa using hz)]at hnd;cases hnd
  have fr:∀b∈((l1++l2).map (·.2.2.2)).flatten,b≠nd:=λb hb z=>by
   obtain⟨f,hf,hb⟩:=CI.mp hb;obtain⟨e,he,rfl⟩:=Cs.mp hf;obtain⟨fl,h⟩:=(F.nd e he).ins b hb;rw[z,hnd]at h;cases h
  have fna:∀b∈((l1++l2).map (·.2.2.2)).flatten,b≠na:=λb hb z=>by
   obtain⟨f,hf,hb⟩:=CI.mp hb;obtain⟨e,he,rfl⟩:=Cs.mp hf;obtain⟨fl,h⟩:=(F.nd e he).ins b hb;rw[z,e5]at h;cases h
  ∎;have e5':b0 st' nd (ndO c la nl.length 0 0 .non) na=AA (.lst nl):=j6 e5 hnd;rw[y0 (.inl e5'),B2 e5'];refine⟨trivial,A7 ⋯,?_⟩;have N1:KpN [na] st' (b0 (b0 st' nd (ndO c la nl.length 0 0 .non)) na (.lst (nl++[.ref nd]))):=λb o hb _ ho=>c8 (j6 ho hnd) (by simpa using hb);have K1:Kp [na] st (b0 (b0 st' nd (ndO c la nl.length 0 0 .non)) na (.lst (nl++[.ref nd]))):=(K.new hnd).put ∎;have F1:FO st (dn::na::X) (l1++l2) (b0 (b0 st' nd (ndO c la nl.length 0 0 .non)) na (.lst (nl++[.ref nd]))):=F.stay (λb hb o ho=>c8 (j6 ho hnd) (fna b hb)) (λb o hb _ ho=>c8 (j6 ho hnd) (by simp at hb;exact hb.2.1));have d1:(b0 (b0 st' nd (ndO c la nl.length 0 0 .non)) na (.lst (nl++[.ref nd]))) nd=AA (ndO c la nl.length 0 0 .non):=c8 c9 hndna.symm;have na1:(b0 (b0 st' nd (ndO c la nl.length 0 0 .non)) na (.lst (nl++[.ref nd]))) na=AA (.lst (nl++[.ref nd])):=c9;have la1:=N1 la _ hlaL (λ_ _ z=>by cases z) hla;revert N1 K1 F1 d1 na1 la1;generalize b0 (b0 st' nd (ndO c la nl.length 0 0 .non)) na (.lst (nl++[.ref nd]))=s1;intro N1 K1 F1 d1 na1 la1;have e3':∀e∈l1,e.1=0:=λe he=>e3 e (by simp[he]);have e32:∀e∈l2,e.1=0:=λe he=>e3 e (by simp[he]);∎;refine⟨_,.inl la1,?_⟩;refine C8 (λll env s2=>∃(pre suf:List Tre)(w:Int)(x4:Option D),ll=suf.map (λe=>D.ref e.2.2.1)/\(pre++suf).map (·.2)=l2.map (·.2)/\(∀e∈pre,e.1=1)/\(∀e∈suf,e.1=0)/\env=[AA c.d,AA (.ref la),AA (.ref na),AA (.ref nd),x4]/\FO st (dn::na::X) (l1++(pre++suf)) s2/\s2 nd=AA (ndO c la nl.length 0 w .non)/\KpN [na] st' s2/\Kp [na] st s2/\s2 na=AA (.lst (nl++[.ref nd]))) ?_ ?_ _ _ _ ⟨[],l2,0,AD,rfl,rfl,∎,e32,rfl,F1,d1,N1,K1,na1⟩
  ·rintro env s2 ⟨pre,suf,w,x4,el,em,hp1,_,rfl,F2,d2,N2,K2,na2⟩;have es:suf=[]:=by simpa using el.symm
   subst es;rw[BJ]at em F2;refine⟨.inl (N2 la _ hlaL (λ_ _ z=>by cases z) hla),?_⟩;have fin:∀(w:Int)(s3:Sto),FO st (dn::na::X) (l1++pre) s3->s3 nd=AA (ndO c la nl.length 0 w .non)->KpN [na] st' s3->Kp [na] st s3->s3 na=AA (.lst (nl++[.ref nd]))->Q (.ref nd) s3:=by
    intro w s3 F3 d3 N3 K3 na3;have hk:pre.map (·.2.1)=c.kids:=by
     have:=congrArg (FU (λz:Pg×AI×List AI=>z.1)) em;rw[Bv,Bv]at this;rw[<-m2];exact this
    have hf:pre.map (·.2.2.2)=l2.map (·.2.2.2):=by
     have:=congrArg (FU (λz:Pg×AI×List AI=>z.2.2)) em;rw[Bv,Bv]at this;exact this
    have hr:pre.map (λe=>D.ref e.2.2.1)=l2.map (λe=>D.ref e.2.2.1):=by
     have:=congrArg (FU (λz:Pg×AI×List AI=>D.ref z.2.1)) em;rw[Bv,Bv]at this;exact this
    have hla3:s3 la=AA (.lst ((pre.map (·.2.2.1)).map D.ref)):=by
     rw[N3 la _ hlaL (λ_ _ z=>by cases z) hla,Bv,<-hr];rfl
    have hkl:pre.length=c.kids.length:=by rw[<-hk,AT]
    have hf2:((l1++pre).map (·.2.2.2)).flatten=((l1++l2).map (·.2.2.2)).flatten:=by rw[Ag,Ag,hf]
    have hfl:((l1++[((0:Int),c,nd,nd::(pre.map (·.2.2.2)).flatten)]).map (·.2.2.2)).flatten=(l1.map (·.2.2.2)).flatten++nd::(pre.map (·.2.2.2)).flatten:=by simp
    refine k (.ref nd) s3 ⟨l1++[(0,c,nd,nd::(pre.map (·.2.2.2)).flatten)],nl++[.ref nd],⟨λe he=>?_,?_⟩,by rw[Ag,m1];rfl,by rw[Ag];rfl,λe he=>?_,?_,na3,by simp only[AX,Ac,BH,Ag,Ah,Dj,Ei,Da,IB];lia⟩ N3 K3
    ·rcases BK.mp he with he|he
     ·exact F3.nd e (by simp[he])
     ·simp only[Bg]at he;subst he;refine .mk d3 (.inl rfl) hla3 ?_ hl0 hnd0 (by rw[AT,hkl]) (by rw[AT,hkl]) λi c' b' f' x1 x2 x3=>?_
      ·simp only[AL,not_or];refine⟨hne,by simpa using hlaL,λz=>?_⟩;obtain⟨o,h⟩:=hX la z;rw[hl0]at h;cases h
      ·rw[Al]at x2 x3;rw[<-hk,Al]at x1;cases hi:pre[i]? with
       |none=>rw[hi]at x1;cases x1
       |some e=>
        rw[hi]at x1 x2 x3;cases x1;cases x2;cases x3;have hm:=BN hi;have:=F3.nd e (by simp[hm]);rw[hp1 e hm]at this;exact this
    ·rw[hfl];have dj:=F3.dj;rw[Ag,DL]at dj;obtain⟨g1,g2,g3⟩:=Dm.mp dj;have gn:∀x∈((l1++pre).map (·.2.2.2)).flatten,x≠nd:=λx hx=>fr x (by rw[<-hf2];exact hx);rw[Dm];refine⟨g1,BL.mpr ⟨λz=>gn nd (by rw[Ag,DL];exact BE _ z) rfl,g2⟩,λx hx y hy=>?_⟩
     rcases AL.mp hy with rfl|hy
     ·exact gn x (by rw[Ag,DL];exact Db _ hx)
     ·exact g3 x hx y hy
    ·rcases BK.mp he with he|he
     ·exact e3' e he
     ·simp only[Bg]at he;subst he;rfl
    ·rw[hfl];intro z;have hdnd:dn≠nd:=j7 hd hnd
     rcases BK.mp z with z|z
     ·exact e4 (by rw[Ag,DL];exact Db _ z)
     ·rcases AL.mp z with z|z
      ·exact hdnd z
      ·exact e4 (by rw[Ag,DL,<-hf];exact BE _ z)
   obtain⟨w0,r0,hcd⟩:∃(w0:String)(r0:List D),c.d=.tup (.str w0::r0):=by cases c<;>exact⟨_,_,rfl⟩
   rw[hcd];∎
   by_cases hw:w0="way"
   ·simp only[hw,if_true];∎;refine⟨nd,"Node",_,.int w,rfl,d2,hc _ ∎,rfl,?_⟩;rfl';refine⟨nd,"Node",_,rfl,d2,hc _ ∎,by simp[ndF],?_⟩;rw[a01];∎;have hx:∀b∈((l1++pre).map (·.2.2.2)).flatten,b≠nd:=λb hb=>fr b (by
     have hf:pre.map (·.2.2.2)=l2.map (·.2.2.2):=by
      have:=congrArg (FU (λz:Pg×AI×List AI=>z.2.2)) em;rw[Bv,Bv]at this;exact this
     rw[Ag,<-hf,<-Ag];exact hb)
    refine c0 (fin (w+1) _ (F2.stay (λb hb o ho=>c8 ho (hx b hb)) λb o _ ho h=>c8 h (λz=>by rw[z,d2]at h;cases h;exact ho _ _ rfl)) c9 (λb o hb ho h=>c8 (N2 b o hb ho h) (λz=>by rw[z,hnd]at h;cases h)) (λb o hb h=>c8 (K2 b o hb h) (λz=>by rw[z,hnd0]at h;cases h)) (c8 na2 hndna))
   ·simp only[hw,if_false];∎;exact c0 (fin w s2 F2 d2 N2 K2 na2)
  ·rintro d0 dl env s2 ih ⟨pre,suf,w,x4,el,em,hp1,hs0,rfl,F2,d2,N2,K2,na2⟩;refine⟨.inl (N2 la _ hlaL (λ_ _ z=>by cases z) hla),?_⟩;cases suf with
   |nil=>simp at el
   |cons e suf=>
    simp only[Ah,Ae]at el;obtain⟨rfl,rfl⟩:=el;obtain⟨h0,ce,b,f⟩:=e;have hh:h0=0:=hs0 (h0,ce,b,f) ∎;subst hh;have ne:=F2.nd (0,ce,b,f) ∎;obtain⟨lb,xb,wb,kb,hb,hkb,hbf,_⟩:=ne.root;have hbn:b≠nd:=fr b (by
     have hf:(pre++(0,ce,b,f)::suf).map (·.2.2.2)=l2.map (·.2.2.2):=by
      have:=congrArg (FU (λz:Pg×AI×List AI=>z.2.2)) em;rw[Bv,Bv]at this;exact this
     rw[Ag,<-hf,<-Ag];exact CI.mpr ⟨f,Cs.mpr ⟨(0,ce,b,f),∎,rfl⟩,hbf⟩)
    have hbna:b≠na:=λz=>by rw[z,na2]at hb;cases hb
    have hb0:st b=AD:=by
     obtain⟨_,_,_,_,_,_,_,h⟩:=ne.root;exact h
    have hbst:∀o,(∀c fs,o≠.ins c fs)->st' b≠AA o:=λo ho h=>by
     have:=N2 b o (by simpa using hbna) ho h;rw[hb]at this;cases this;exact ho _ _ rfl
    rfl';∎;refine⟨b,"Node",_,.int 0,rfl,hb,hc _ ∎,rfl,?_⟩;rfl';refine⟨b,"Node",_,rfl,hb,hc _ ∎,by simp[ndF],?_⟩;rw[b63];have F3:FO st (dn::na::X) ((l1++pre)++(1,ce,b,f)::suf) (b0 s2 b (ndO ce lb xb 1 wb kb)):=FO.upd (h:=0) (w:=wb) (kd:=kb) (by rw[Bk];exact F2) hb hkb;have d3:(b0 s2 b (ndO ce lb xb 1 wb kb)) nd=AA (ndO c la nl.length 0 w .non):=c8 d2 hbn.symm;have b3:(b0 s2 b (ndO ce lb xb 1 wb kb)) b=AA (ndO ce lb xb 1 wb kb):=c9;have N3:KpN [na] st' (b0 s2 b (ndO ce lb xb 1 wb kb)):=λb' o hb' ho h=>c8 (N2 b' o hb' ho h) (λz=>hbst o ho (z▸h));have K3:Kp [na] st (b0 s2 b (ndO ce lb xb 1 wb kb)):=λb' o hb' h=>c8 (K2 b' o hb' h) (λz=>by rw[z,hb0]at h;cases h);have na3:=c8 (u:=ndO ce lb xb 1 wb kb) na2 hbna.symm;have e01:((0:Int)+1)=1:=by decide
    rw[e01];show g9 _ _ _ _ (b0 s2 b (ndO ce lb xb 1 wb kb));revert F3 d3 b3 N3 K3 na3;generalize b0 s2 b (ndO ce lb xb 1 wb kb)=s3;intro F3 d3 b3 N3 K3 na3;∎;refine⟨nd,"Node",_,.int w,rfl,d3,hc _ ∎,rfl,?_⟩;rfl';refine⟨b,"Node",_,.int wb,rfl,b3,hc _ ∎,rfl,?_⟩;rfl';refine⟨nd,"Node",_,rfl,d3,hc _ ∎,by simp[ndF],?_⟩;rw[a01];rfl';refine ih _ _ ⟨pre++[(1,ce,b,f)],suf,_,_,rfl,by rw[<-em];simp,λe he=>?_,λe he=>hs0 e (by simp[he]),rfl,?_,c9,λb' o hb' ho h=>c8 (N3 b' o hb' ho h) (λz=>by rw[z,hnd]at h;cases h),λb' o hb' h=>c8 (K3 b' o hb' h) (λz=>by rw[z,hnd0]at h;cases h),c8 na3 hndna⟩
    ·rcases BK.mp he with he|he
     ·exact hp1 e he
     ·simp only[Bg]at he;subst he;rfl
    ·have F4:FO st (dn::na::X) (l1++((pre++[(1,ce,b,f)])++suf)) s3:=by simpa using F3
     refine F4.stay (λb' hb' o ho=>c8 ho (fr b' ?_)) λb' o _ ho h=>c8 h (λz=>by rw[z,d3]at h;cases h;exact ho _ _ rfl);have hf:((pre++[((1:Int),ce,b,f)])++suf).map (·.2.2.2)=l2.map (·.2.2.2):=by
      have:=congrArg (FU (λz:Pg×AI×List AI=>z.2.2)) em;rw[Bv,Bv]at this;refine JU ?_ this;simp[Function.comp_def]
     rw[Ag,<-hf,<-Ag];exact hb'
 ·rintro dn d st' hdn ⟨l,nl,F,e1,e2,e3,e4,e5,e6⟩ K
  match l,e1 with
  |[e],e1=>
   have e1:e.2.1=p:=by simpa using e1
   have n:=F.nd e ∎;rw[e3 e ∎,e1]at n;have:d=.ref e.2.2.1:=by simpa using e2
   subst this;exact c0 (q _ _ st' (n.monoX (by intro y hy;simp[hy])) K)
end
structure KpI(R L:List AI)(st st':Sto):Prop where
 n:KpN L st st'
 i:∀b c la x h w kd,st b=AA (ndO c la x h w kd)->C4 kd->∃kd',C4 kd'/\st' b=AA (ndO c la x h w kd')
 e:∀b,st' b=AD->st b=AD
 k:∀b o,b∉L->b∉R->st b=AA o->st' b=AA o
section
variable {M:List AI} {s1 s2 s3:Sto} {p:AI} {o:Ob} {es:List D}
def G5{q:AI}(h:b0 st p o q=AD):st q=AD:=by
 by_cases z:q=p
 ·rw[z,c9]at h;cases h
 ·cases e:st q with
  |none=>rfl
  |some u=>rw[c8 e z]at h;cases h
def KpI.refl:KpI R L st st:=⟨λ_ _ _ _ h=>h,λ_ _ _ _ _ _ kd h k=>⟨kd,k,h⟩,λ_ h=>h,λ_ _ _ _ h=>h⟩
def KpI.trans(a:KpI R L s1 s2)(b:KpI R L s2 s3):KpI R L s1 s3:=⟨λx o n ho h=>b.n x o n ho (a.n x o n ho h),λx c la y h w kd e k=>by
 obtain⟨kd1,k1,e1⟩:=a.i x c la y h w kd e k;exact b.i x c la y h w kd1 e1 k1,λx h=>a.e x (b.e x h),λx o n m h=>b.k x o n m (a.k x o n m h)⟩
def KpI.more(a:KpI R L s1 s2)(s:∀d∈L,d∈M):KpI R M s1 s2:=⟨λx o n ho h=>a.n x o (λz=>n (s x z)) ho h,a.i,a.e,λx o n m h=>a.k x o (λz=>n (s x z)) m h⟩
def KpI.new(a:KpI R L st st')(h:st' p=AD):KpI R L st (b0 st' p o):=a.trans ⟨λx o n ho e=>j6 e h,λx c la y h' w kd e k=>⟨kd,k,j6 e h⟩,λ_ h=>G5 h,λ_ _ _ _ e=>j6 e h⟩
def KpI.put(a:KpI R L st st')(h:p∈L)(hl:st' p=AA (.lst ds)):KpI R L st (b0 st' p o):=a.trans ⟨λx o n ho e=>c8 e (λz=>n (z▸h)),λx c la y h' w kd e k=>⟨kd,k,c8 e (λz=>by rw[z,hl]at e;cases e)⟩,λ_ h=>G5 h,λx o n _ e=>c8 e (λz=>n (z▸h))⟩
def KpI.drop(a:KpI R (p::L) st st')(h:st p=AD):KpI R L st st':=⟨λx o n ho e=>a.n x o (λz=>by rcases AL.mp z with z|z;exact j7 e h z;exact n z) ho e,a.i,a.e,λx o n m e=>a.k x o (λz=>by rcases AL.mp z with z|z;exact j7 e h z;exact n z) m e⟩
theorem KpI.lst(a:KpI R L st st')(h:st p=AA (.lst ds))(n:p∉L):st' p=AA (.lst ds):=a.n p _ n (λ_ _ z=>by cases z) h
def KA.noNode{S:List It3}(K:KA sh dn sa pa wa S ws st){fl:List (Str×D)}(h:st b=AA (.ins "Node" fl)):b∉shL sh dn sa pa wa:=by
 intro z;simp only[AL,AW,or_false]at z
 rcases z with rfl|rfl|rfl|rfl|rfl
 ·have:=K.A.ins;rw[h]at this;simp[l9]at this
 ·have:=K.A.num;rw[h]at this;simp at this
 ·have:=K.A.sto;rw[h]at this;simp at this
 ·have:=K.A.par;rw[h]at this;simp at this
 ·have:=K.W;rw[h]at this;simp at this
def KpI.ofKp{S:List It3}(K:KA sh dn sa pa wa S ws st)(K':KA sh dn sa pa wa S' ws' st')(x:Kp (shL sh dn sa pa wa) st st'):KpI R (shL sh dn sa pa wa) st st':=⟨λb o n _ h=>x b o n h,λb c la y h w kd e k=>⟨kd,k,x b _ (K.noNode e) e⟩,λb hb=>(by
 by_cases z:b∈shL sh dn sa pa wa
 ·simp only[AL,AW,or_false]at z
  rcases z with rfl|rfl|rfl|rfl|rfl
  ·have:=K'.A.ins;rw[hb]at this;cases this
  ·have:=K'.A.num;rw[hb]at this;cases this
  ·have:=K'.A.sto;rw[hb]at this;cases this
  ·have:=K'.A.par;rw[hb]at this;cases this
  ·have:=K'.W;rw[hb]at this;cases this
 ·cases e:st b with
  |none=>rfl
  |some u=>rw[x b u z e]at hb;cases hb),λb o n _ h=>x b o n h⟩
def Nd.kpi{st0:Sto}{p:Pg}{f:List AI}(n:Nd st0 X st h p a f)(K:KpI R L st st')(hL:∀y∈L,y∈X):Nd st0 X st' h p a f:=by
 induction n with
 |@mk h p a la x w kd as fs h1 h2 h3 h4 h5 h6 h7 h8 _ ih=>
  obtain⟨kd',k',e'⟩:=K.i a p la x h w kd h1 h2;exact .mk e' k' (K.lst h3 λz=>h4 (hL _ z)) h4 h5 h6 h7 h8 ih
def Nd.addX{st0:Sto}{p:Pg}{f:List AI}{x:AI}(n:Nd st0 X st h p a f)(hx:st x=AD):Nd st0 (x::X) st h p a f:=by
 induction n with
 |mk h1 h2 h3 h4 h5 h6 h7 h8 _ ih=>exact .mk h1 h2 h3 (λz=>by rcases AL.mp z with z|z;exact j7 h3 hx z;exact h4 z) h5 h6 h7 h8 ih
end
abbrev aq5(P:i6)(G:Gs)(n:Nat)(sh dn sa pa wa:AI)(nm:D):Prop:=∀(st:Sto)(S:List It3)(ws:List (Kd×Bool))(ca:AI)(p:Pg)(i:Nat)(a:Kd)(ks:List Kd)(Q:DK),KA sh dn sa pa wa S ws st->p.told 6->p.more i=1->p.nw ks i=AA a->st ca=AA (.lst (v0 S ks))->(∀k∈ks,Has S k.d)->S.length+128<=900000->StQ sh dn sa pa wa S ws st a Q->E7 P G n nm [p.d,.ref ca,.int i] st Q
abbrev aq6(P:i6)(G:Gs)(n:Nat)(sh dn sa pa wa:AI)(md:D):Prop:=∀(st:Sto)(S:List It3)(ws:List (Kd×Bool))(ca ka b la:AI)(p:Pg)(Γ:List Kd)(k:Kd)(ks:List Kd)(kn:List Int)(x h w:Int)(kd:D)(Q:DK),KA sh dn sa pa wa S ws st->p.told 6->p.kk Γ ks=AA k->st ca=AA (.lst (v0 S ks))->(∀k∈ks,Has S k.d)->st ka=AA (.lst (kn.map D.int))->KnOk S ws Γ kn->ca∉shL sh dn sa pa wa->S.length+128<=900000->st b=AA (ndO p la x h w kd)->C4 kd->(∀S' ws' st' kd',Has S' k.d->S <+: S'->S'.length<=S.length+128->KA sh dn sa pa wa S' ws' st'->WUp ws ws'->Kp (b::shL sh dn sa pa wa) st st'->st' b=AA (ndO p la x h w kd')->C4 kd'->Q (.int (nb S' k.d:Nat)) st')->E7 P G n md [.ref b,.ref ca,.ref ka] st Q
structure FS(sh dn sa pa wa ka ba aa da:AI)(S:List It3)(ws:List (Kd×Bool))(kn:List Int)(B A:List D)(st:Sto):Prop where
 K:KA sh dn sa pa wa S ws st
 k:st ka=AA (.lst (kn.map D.int))
 b:st ba=AA (.lst B)
 a:st aa=AA (.lst A)
 d:st da=AA (.dtt [])
@[reducible]noncomputable def fL(sh dn sa pa wa ka ba aa:AI):List AI:=ka::ba::aa::shL sh dn sa pa wa
abbrev E6:Ss:=match L1.body with
 |.cons _ (.cons _ (.cons _ (.cons (.while _ b) _)))=>b
 |_=>.nil
def G8{α:Type}{xs:List α}{x:α}:atI (xs++[x]) (-1)=AA x:=by
 unfold atI ixN;rw[if_neg ∅,if_pos (by simp only[AX,Ac,BH];lia)];have:(-1+((xs.length:Int)+1)).toNat=xs.length:=by lia
 simp[this]
section
variable (T:PNo P G) {S:List It3} 
include T
def b36(hnm:Cok P nm)(N:aq5 P G (n+1) sh dn sa pa wa nm)(dj:(ka::ba::aa::da::shL sh dn sa pa wa).Nodup){F:DEnds}{kn:List Int}{B:List D}{w:Int}{as:List AI}{x7 x8 x9 x10:Option D}
  (H:FS sh dn sa pa wa ka ba aa da S ws kn (B++[.ref a]) (A++[.ref ca]) st) (hc:st ca=AA (.lst (v0 S ks))) (hh:∀k∈ks,Has S k.d) (ha:st a=AA (ndO p la x h w kd)) (hkd:C4 kd) (h1:h<=1) (hl:st la=AA (.lst (as.map D.ref))) (hi:p.kids[ks.length]?=AA c) (hb:as[ks.length]?=AA b) (ht:p.told 6) (hC:Cxt p ks ks.length Γ Δ) (hkn:KnOk S ws Γ kn) (hS:S.length+128<=900000) (hB:B.length+1<100000) (hA:A.length+1<100000) (hK:kn.length<100000) (hcl:ca∉ka::ba::aa::da::shL sh dn sa pa wa) (hll:la∉ka::ba::aa::da::shL sh dn sa pa wa)
  (q:∀S' ws' st' kn' cb y7 y8 y9 y10,FS sh dn sa pa wa ka ba aa da S' ws' kn' (B++[.ref a]++[.ref b]) (A++[.ref ca]++[.ref cb]) st'->st' cb=AA (.lst [])->st cb=AD->S <+: S'->S'.length<=S.length+128->WUp ws ws'->KnOk S' ws' Δ kn'->kn'.take kn.length=kn->kn'.length=kn.length+p.more ks.length->KpI R (fL sh dn sa pa wa ka ba aa) st st'->F.ct [AA nd,AA (.ref ka),AA nm,AA md,AA (.ref ba),AA (.ref aa),AA (.ref da),y7,y8,y9,y10] st') :
  g9 (Zg P G (n+1)) E6 F [AA nd,AA (.ref ka),AA nm,AA md,AA (.ref ba),AA (.ref aa),AA (.ref da),x7,x8,x9,x10] st:=by
 have hcl':∀f∈([("program":Str),("inside":Str),("number":Str),("holders":Str),("ways":Str),("used":Str),("kind":Str)]:List Str),f∈G.cls "Node":=λf hf=>by rw[T.ncl];exact hf
 unfold E6 L1;simp only;∎;rw[l6 (.inl H.b)];refine⟨_,G8,?_⟩;∎;rw[l6 (.inl H.a)];refine⟨_,G8,?_⟩;rw[u0 (.inl hc)];∎;refine⟨a,"Node",_,.int h,rfl,ha,hcl' _ ∎,rfl,?_⟩;rfl';rw[if_neg ⋯];∎;refine⟨H.d,?_⟩;rfl';refine⟨a,"Node",_,.ref la,rfl,ha,hcl' _ ∎,rfl,?_⟩;rw[u0 (.inl hl)];rfl';have hlen:(v0 S ks).length=ks.length:=by simp[v0]
 have hlt:=(AR.mp hb).1;rw[if_pos (by rw[hlen,AT];lia),hlen];simp only[BL,AL,AW,or_false,not_or]at dj;obtain⟨⟨d1,d2,d3,d4⟩,⟨d5,d6,d7⟩,⟨d8,d9⟩,d10,_⟩:=dj;have hcl0:=hcl;have hll0:=hll;simp only[AL,AW,or_false,not_or]at hcl hll;have i7:∀(F':DEnds)S' ws' st' kn',F'.ct=F.ct->FS sh dn sa pa wa ka ba aa da S' ws' kn' (B++[.ref a]) (A++[.ref ca]) st'->S <+: S'->S'.length<=S.length+128->WUp ws ws'->KnOk S' ws' Δ kn'->kn'.take kn.length=kn->kn'.length=kn.length+p.more ks.length->KpI R (fL sh dn sa pa wa ka ba aa) st st' ->
   g9 (Zg P G (n+1)) (.cons (.ex (.app (.v 4) (.ix (.fld (.v 7) "inside") (.v 8)))) (.cons (.ex (.app (.v 5) (.lst .nil))) (.cons .cont .nil))) F' [AA nd,AA (.ref ka),AA nm,AA md,AA (.ref ba),AA (.ref aa),AA (.ref da),AA (.ref a),AA (.int ks.length),AA .non,x10] st':=by
  intro F' S' ws' st' kn' eF H' e1 e2 e3 e4 e5 e6 e7;obtain⟨kd',_,ha'⟩:=e7.i a p la x h w kd ha hkd;have hl':=e7.lst hl (by simp[hll]);∎;rw[y0 (.inl H'.b)];refine⟨trivial,a,"Node",_,.ref la,rfl,ha',hcl' _ ∎,rfl,?_⟩;rw[l6 (.inl hl')];refine⟨.ref b,by rw[B7,Al,hb];rfl,?_⟩;rw[B2 H'.b];refine⟨A7 (by simp;lia),?_⟩;∎;rw[y0 (.inl (c8 H'.a (Aw d5)))];refine⟨trivial,λcb hcb=>?_⟩;have ncb:=G5 hcb;have cbb:ba≠cb:=j7 H'.b ncb;have cba:aa≠cb:=j7 H'.a ncb;rw[B2 (j6 (c8 H'.a (Aw d5)) hcb)];refine⟨A7 (by simp;lia),?_⟩;∎;rw[eF];have K1:Kp [ba,aa] st' (b0 (b0 (b0 st' ba (.lst (B++[.ref a]++[.ref b]))) cb (.lst [])) aa (.lst (A++[.ref ca]++[.ref cb]))):=((Kp.refl.put ∎).new hcb).put ∎;refine q S' ws' _ kn' cb _ _ _ _ ⟨H'.K.keepL K1 ?_,K1.at' H'.k (by simp[d1,d2]),c8 (c8 c9 cbb) d5,c9,K1.at' H'.d (by simp[Aw d6,Aw d8])⟩ (c8 c9 (Aw cba)) (e7.e _ ncb) e1 e2 e3 e4 e5 e6 (((e7.put ∎ H'.b).new hcb).put ∎ (j6 (c8 H'.a (Aw d5)) hcb));intro y hy;simp only[AL,AW,or_false]at hy ⊢
  rcases hy with rfl|rfl
  ·simp[d7]
  ·simp[d9]
 ∎;refine⟨by rw[T.more];rfl,a,"Node",_,p.d,rfl,ha,hcl' _ ∎,rfl,am3 T.toPIn p ks.length ?_⟩;rfl'
 rcases hC with⟨m0,rfl⟩|⟨m1,a0,hw,rfl⟩
 ·simp only[m0];rw[if_neg ∅];exact i7 _ S ws st kn rfl H (CH _) ⋯ rfl hkn (IW ..) ⋯ KpI.refl
 ·simp only[m1];∎;rw[y0 (.inl H.k)];refine⟨trivial,N5 hnm ?_⟩;rfl';refine⟨a,"Node",_,p.d,rfl,ha,hcl' _ ∎,rfl,?_⟩;rw[l6 (.inl H.a)];refine⟨_,G8,?_⟩;refine N st S ws ca p ks.length a0 ks _ H.K ht m1 hw hc hh hS λS' ws' st' g1 g2 g3 g4 g5 g6=>?_;have hk':=g6.at' H.k (by simp[d4]);rw[B2 hk'];refine⟨A7 (by simp;lia),?_⟩;have ek:kn.map D.int++[D.int (nb S' a0.d:Nat)]=(kn++[((nb S' a0.d:Nat):Int)]).map D.int:=by simp
  rw[ek];have K1:Kp [ka] st' (b0 st' ka (.lst ((kn++[((nb S' a0.d:Nat):Int)]).map D.int))):=Kp.refl.put ∎;refine i7 _ S' ws' _ (kn++[((nb S' a0.d:Nat):Int)]) rfl ⟨g4.keepL K1 (by simp[d4]),c9,c8 (g6.at' H.b (by simp[d7])) (Aw d1),c8 (g6.at' H.a (by simp[d9])) (Aw d2),c8 (g6.at' H.d (by simp[d10])) (Aw d3)⟩ g2 g3 g5 ((hkn.up g4.A.wf g2 g5).cons (.inl ⟨rfl,g1⟩)) ∎ (by simp[m1]) (((KpI.ofKp H.K g4 g6).more (by intro y hy;simp only[AL,AW,or_false]at hy ⊢;simp[hy])).put ∎ hk')
end
def KpI.ofMd{S:List It3}{w:Int}(K:KA sh dn sa pa wa S ws st)(K':KA sh dn sa pa wa S' ws' st')(y:Kp (b::shL sh dn sa pa wa) st st')(hb:st b=AA (ndO c la x h w kd))(hb':st' b=AA (ndO c la x h w kd'))(hk:C4 kd')(hbR:b∈R):KpI R (shL sh dn sa pa wa) st st':=by
 refine⟨λz o n ho e=>y z o (λq=>?_) e,λz c2 la2 x2 h2 w2 kd2 e k=>?_,λz hz=>?_,λz o n m e=>y z o (λq=>by rcases AL.mp q with rfl|q;exact m hbR;exact n q) e⟩
 ·rcases AL.mp q with rfl|q
  ·rw[hb]at e;cases e;exact ho _ _ rfl
  ·exact n q
 ·by_cases q:z=b
  ·subst q;rw[hb]at e;refine⟨kd',hk,?_⟩;rw[hb'];simp only[ndO,ndF,Bs,Ob.ins.injEq,Ae,II,true_and,and_true]at e ⊢;exact⟨e.1,e.2.1,e.2.2.1,e.2.2.2.1,e.2.2.2.2.1⟩
  ·refine⟨kd2,k,y z _ (λt=>?_) e⟩
   rcases AL.mp t with t|t
   ·exact q t
   ·exact K.noNode e t
 ·by_cases q:z∈shL sh dn sa pa wa
  ·exfalso;simp only[AL,AW,or_false]at q
   rcases q with rfl|rfl|rfl|rfl|rfl
   ·have:=K'.A.ins;rw[hz]at this;cases this
   ·have:=K'.A.num;rw[hz]at this;cases this
   ·have:=K'.A.sto;rw[hz]at this;cases this
   ·have:=K'.A.par;rw[hz]at this;cases this
   ·have:=K'.W;rw[hz]at this;cases this
  ·cases e:st z with
   |none=>rfl
   |some u=>
    by_cases t:z=b
    ·subst t;rw[hb']at hz;cases hz
    ·rw[y z u (by simp only[AL,not_or];exact⟨t,by simpa using q⟩) e]at hz;cases hz
def a77(p:Pg)(i:Nat):p.more i=0\/p.more i=1:=by
 cases p<;>first|exact .inl rfl|(simp only[Pg.more];split<;>simp)
abbrev T3:Ss:=match E6 with
 |.cons _ (.cons _ (.cons _ (.cons _ (.cons _ (.cons _ (.cons _ (.cons _ b)))))))=>b
 |_=>.nil
section
variable (T:PNo P G) {S:List It3} 
include T
def a55(hmd:Cok P md)(M:aq6 P G (n+1) sh dn sa pa wa md)(dj:(ka::ba::aa::da::shL sh dn sa pa wa).Nodup){F:DEnds}{kn:List Int}{B:List D}{cb:AI}{w:Int}{as:List AI}{x7 x8 x9 x10:Option D}{k:Kd}
  (H:FS sh dn sa pa wa ka ba aa da S ws kn (B++[.ref b]) (A++[.ref cb]) st) (hc:st cb=AA (.lst (v0 S ks))) (hh:∀k∈ks,Has S k.d) (hb:st b=AA (ndO c la x h w kd)) (hkd:C4 kd) (h1:h<=1) (hl:st la=AA (.lst (as.map D.ref))) (hn:as.length=ks.length) (ht:c.told 6) (hk:c.kk Δ ks=AA k) (hkn:KnOk S ws Δ kn) (hS:S.length+128<=900000) (hcl:cb∉shL sh dn sa pa wa) (hbR:b∈R)
  (q:∀S' ws' st' y7 y8,FS sh dn sa pa wa ka ba aa da S' ws' kn B A st'->Has S' k.d->S <+: S'->S'.length<=S.length+128->WUp ws ws'->KpI R (fL sh dn sa pa wa ka ba aa) st st'->g9 (Zg P G (n+1)) T3 F [AA nd,AA (.ref ka),AA nm,AA md,AA (.ref ba),AA (.ref aa),AA (.ref da),y7,y8,AA .non,AA (.int (nb S' k.d:Nat))] st') :
  g9 (Zg P G (n+1)) E6 F [AA nd,AA (.ref ka),AA nm,AA md,AA (.ref ba),AA (.ref aa),AA (.ref da),x7,x8,x9,x10] st:=by
 have hcl':∀f∈([("program":Str),("inside":Str),("number":Str),("holders":Str),("ways":Str),("used":Str),("kind":Str)]:List Str),f∈G.cls "Node":=λf hf=>by rw[T.ncl];exact hf
 simp only[T3]at q;unfold E6 L1 at q ⊢;simp only at q ⊢;∎;rw[l6 (.inl H.b)];refine⟨_,G8,?_⟩;∎;rw[l6 (.inl H.a)];refine⟨_,G8,?_⟩;rw[u0 (.inl hc)];∎;refine⟨b,"Node",_,.int h,rfl,hb,hcl' _ ∎,rfl,?_⟩;rfl';rw[if_neg ⋯];∎;refine⟨H.d,?_⟩;rfl';refine⟨b,"Node",_,.ref la,rfl,hb,hcl' _ ∎,rfl,?_⟩;rw[u0 (.inl hl)];rfl';have hlen:(v0 S ks).length=ks.length:=by simp[v0]
 rw[if_neg (by rw[hlen,AT];lia),hlen];simp only[BL,AL,AW,or_false,not_or]at dj;obtain⟨⟨d1,d2,d3,d4⟩,⟨d5,d6,d7⟩,⟨d8,d9⟩,d10,_⟩:=dj;∎;refine⟨H.d,?_⟩;rfl';refine N5 hmd ?_;rfl';rw[l6 (.inl H.a)];refine⟨_,G8,?_⟩;refine M st S ws cb ka b la c Δ k ks kn x h w kd _ H.K ht hk hc hh H.k hkn hcl hS hb hkd λS' ws' st' kd' g1 g2 g3 g4 g5 g6 g7 g8=>?_;have nb0:∀{y:AI}{ds:List D},st y=AA (.lst ds)->y≠b:=λe z=>by rw[z,hb]at e;cases e
 have hb1:=g6.at' H.b (by simp only[AL,AW,or_false,not_or];exact⟨nb0 H.b,d7⟩);have ha1:=g6.at' H.a (by simp only[AL,AW,or_false,not_or];exact⟨nb0 H.a,d9⟩);have hk1:=g6.at' H.k (by simp only[AL,AW,or_false,not_or];exact⟨nb0 H.k,d4⟩);have hd1:=g6.at' H.d (by simp only[AL,AW,or_false,not_or];exact⟨λz=>(by have:=H.d;rw[z,hb]at this;cases this),d10⟩);∎;refine .inl ?_;∎;rw[W8 hb1];∎;rw[W8 (c8 ha1 (Aw d5))];have K1:Kp [ba,aa] st' (b0 (b0 st' ba (.lst B)) aa (.lst A)):=(Kp.refl.put ∎).put ∎;refine q S' ws' _ _ _ ⟨g4.keepL K1 ?_,K1.at' hk1 (by simp[d1,d2]),c8 c9 d5,c9,K1.at' hd1 (by simp[Aw d6,Aw d8])⟩ g1 g2 g3 g5 ((((KpI.ofMd H.K g4 g6 hb g7 g8 hbR).more (by intro y hy;simp only[AL,AW,or_false]at hy ⊢;simp[hy])).put ∎ hb1).put ∎ (c8 ha1 (Aw d5)));intro y hy;simp only[AL,AW,or_false]at hy ⊢
 rcases hy with rfl|rfl
 ·simp[d7]
 ·simp[d9]
theorem b76{F:DEnds}{kn:List Int}{y7 y8 y9:Option D}{r:D}(H:FS sh dn sa pa wa ka ba aa da S ws kn [] A st)(q:F.rt r st):g9 (Zg P G (n+1)) T3 F [AA nd,AA (.ref ka),AA nm,AA md,AA (.ref ba),AA (.ref aa),AA (.ref da),y7,y8,y9,AA r] st:=by
 unfold T3 E6 L1;simp only;∎;rw[u0 (.inl H.b)];rfl';rw[if_pos ∅];∎;exact q
def ck1(dj:(ka::ba::aa::da::shL sh dn sa pa wa).Nodup){F:DEnds}{kn kn0:List Int}{B:List D}{w:Int}{y7 y8 y9:Option D}{r:D}{rs:List D}(H:FS sh dn sa pa wa ka ba aa da S ws kn (B++[.ref a]) (A++[.ref ca]) st)(hc:st ca=AA (.lst rs))(hl:rs.length<100000)(ha:st a=AA (ndO p la x h w kd))(hcl:ca∉ka::ba::aa::da::shL sh dn sa pa wa)(k1:kn.take kn0.length=kn0)(k2:kn.length=kn0.length+p.more rs.length)
  (q:∀st',FS sh dn sa pa wa ka ba aa da S ws kn0 (B++[.ref a]) (A++[.ref ca]) st'->st' ca=AA (.lst (rs++[r]))->KpI R (ca::fL sh dn sa pa wa ka ba aa) st st'->F.nx [AA nd,AA (.ref ka),AA nm,AA md,AA (.ref ba),AA (.ref aa),AA (.ref da),y7,y8,y9,AA r] st'):g9 (Zg P G (n+1)) T3 F [AA nd,AA (.ref ka),AA nm,AA md,AA (.ref ba),AA (.ref aa),AA (.ref da),y7,y8,y9,AA r] st:=by
 have hcl':∀f∈([("program":Str),("inside":Str),("number":Str),("holders":Str),("ways":Str),("used":Str),("kind":Str)]:List Str),f∈G.cls "Node":=λf hf=>by rw[T.ncl];exact hf
 simp only[BL,AL,AW,or_false,not_or]at dj hcl;obtain⟨⟨d1,d2,d3,d4⟩,⟨d5,d6,d7⟩,⟨d8,d9⟩,d10,_⟩:=dj;obtain⟨c1,c2,c3,c4,c5⟩:=hcl;unfold T3 E6 L1;simp only;∎;rw[u0 (.inl H.b)];rfl';rw[if_neg (by simp only[AX,Ac,BH];lia)];have i7:∀st',FS sh dn sa pa wa ka ba aa da S ws kn0 (B++[.ref a]) (A++[.ref ca]) st'->st' ca=AA (.lst rs)->KpI R (ca::fL sh dn sa pa wa ka ba aa) st st'->g9 (Zg P G (n+1)) (.cons (.ex (.app (.ix (.v 5) (.neg (.int 1))) (.v 10))) .nil) F [AA nd,AA (.ref ka),AA nm,AA md,AA (.ref ba),AA (.ref aa),AA (.ref da),y7,y8,y9,AA r] st':=by
  intro st' H' hc' KI;∎;rw[l6 (.inl H'.a)];refine⟨_,G8,?_⟩;rw[y0 (.inl hc')];refine⟨trivial,?_⟩;rw[B2 hc'];refine⟨A7 ⋯,?_⟩;have K1:Kp [ca] st' (b0 st' ca (.lst (rs++[r]))):=Kp.refl.put ∎;exact q _ ⟨H'.K.keepL K1 (by simp[c5]),K1.at' H'.k (by simp[Aw c1]),K1.at' H'.b (by simp[Aw c2]),K1.at' H'.a (by simp[Aw c3]),K1.at' H'.d (by simp[Aw c4])⟩ c9 (KI.put ∎ hc')
 ∎;refine⟨by rw[T.more];rfl,?_⟩;rw[l6 (.inl H.b)];refine⟨_,G8,a,"Node",_,p.d,rfl,ha,hcl' _ ∎,rfl,?_⟩;rw[l6 (.inl H.a)];refine⟨_,G8,?_⟩;rw[u0 (.inl hc)];refine am3 T.toPIn p rs.length ?_;rfl';have hm:=a77 p rs.length
 rcases hm with hm|hm
 ·rw[hm]at k2 ⊢;rw[if_neg ∅];have e:kn=kn0:=by rw[Cc ⋯]at k1;exact k1
  subst e;exact i7 st H hc KpI.refl
 ·rw[hm]at k2 ⊢;rw[if_pos ∅];obtain⟨e,rfl⟩:∃e,kn=kn0++[e]:=by
   have h3:(kn.drop kn0.length).length=1:=by rw[CS];lia
   match h4:kn.drop kn0.length,h3 with
   |[e],_=>exact⟨e,by have:=DQ kn0.length kn;rw[k1,h4]at this;exact this.symm⟩
  have hk:=H.k;rw[Ag]at hk;∎;rw[W8 hk];have K1:Kp [ka] st (b0 st ka (.lst (kn0.map D.int))):=Kp.refl.put ∎;exact i7 _ ⟨H.K.keepL K1 (by simp[d4]),c9,K1.at' H.b (by simp[Aw d1]),K1.at' H.a (by simp[Aw d2]),K1.at' H.d (by simp[Aw d3])⟩ (K1.at' hc (by simp[c1])) (KpI.refl.put ∎ hk)
end
def FS.fresh{cb:AI}{S:List It3}{kn:List Int}{B:List D}(H:FS sh dn sa pa wa ka ba aa da S ws kn B A st)(h:st cb=AD):cb∉ka::ba::aa::da::shL sh dn sa pa wa:=by
 intro z;simp only[AL,AW,or_false]at z
 rcases z with rfl|rfl|rfl|rfl|rfl|rfl|rfl|rfl|rfl
 ·have:=H.k;rw[h]at this;cases this
 ·have:=H.b;rw[h]at this;cases this
 ·have:=H.a;rw[h]at this;cases this
 ·have:=H.d;rw[h]at this;cases this
 ·have:=H.K.A.ins;rw[h]at this;cases this
 ·have:=H.K.A.num;rw[h]at this;cases this
 ·have:=H.K.A.sto;rw[h]at this;cases this
 ·have:=H.K.A.par;rw[h]at this;cases this
 ·have:=H.K.W;rw[h]at this;cases this
def wl{Z:Sg}{tb:DS}{F:DEnds}{t:Nat}{env:i9}(h:tb {F with nx:=y3 (wpT Z (.bl AC)) tb F t,ct:=y3 (wpT Z (.bl AC)) tb F t,bk:=F.nx} env st):y3 (wpT Z (.bl AC)) tb F (t+1) env st:=⟨AC,rfl,h⟩
def cj2{S:List It3}(w:Wf S')(hp:S <+: S')(h:∀k∈ks,Has S k.d):v0 S' ks=v0 S ks:=HZ λk hk=>by rw[O7 w (h k hk) hp]
section
variable (T:PNo P G) 
include T
def ca9(hnm:Cok P nm)(N:aq5 P G (n+1) sh dn sa pa wa nm)(hmd:Cok P md)(M:aq6 P G (n+1) sh dn sa pa wa md)(dj:(ka::ba::aa::da::shL sh dn sa pa wa).Nodup){F:DEnds}:∀(z:Nat)(p:Pg),p.parts<=z->p.kn 6->∀{Γ:List Kd}{k:Kd}{h:Int}{st0 st:Sto}{X:List AI}{S:List It3}{ws:List (Kd×Bool)}{kn:List Int}{B A:List D}{a ca:AI}{f:List AI}{x7 x8 x9 x10:Option D}{m:Nat},
  p.kind Γ=AA k->h<=1->Nd st0 X st h p a f->(∀y∈f,y∈R)->(∀y∈ca::da::fL sh dn sa pa wa ka ba aa,y∈X)->FS sh dn sa pa wa ka ba aa da S ws kn (B++[.ref a]) (A++[.ref ca]) st->st ca=AA (.lst [])->KnOk S ws Γ kn->S.length+256*p.parts<=900000->B.length+p.parts<100000->A.length+p.parts<100000->kn.length+p.parts<100000->ca∉ka::ba::aa::da::shL sh dn sa pa wa ->
  (∀S' ws' st' ks y7 y8 y9 y10,FS sh dn sa pa wa ka ba aa da S' ws' kn (B++[.ref a]) (A++[.ref ca]) st'->st' ca=AA (.lst (v0 S' ks))->ks.length=p.kids.length->(∀k∈ks,Has S' k.d)->p.kk Γ ks=AA k->S <+: S'->S'.length+256<=S.length+256*p.parts->WUp ws ws'->KpI R (ca::fL sh dn sa pa wa ka ba aa) st st'->y3 (wpT (Zg P G (n+1)) (.bl AC)) (g9 (Zg P G (n+1)) E6) F m [AA nd,AA (.ref ka),AA nm,AA md,AA (.ref ba),AA (.ref aa),AA (.ref da),y7,y8,y9,y10] st') ->
  y3 (wpT (Zg P G (n+1)) (.bl AC)) (g9 (Zg P G (n+1)) E6) F (m+2*(p.parts-1)) [AA nd,AA (.ref ka),AA nm,AA md,AA (.ref ba),AA (.ref aa),AA (.ref da),x7,x8,x9,x10] st:=by
 intro z
 induction z with
 |zero=>intro p hz;have:=Pg.parts_kids p;lia
 |succ z ih=>
  intro p hz hkn7 Γ k h st0 st X S ws kn B A a ca f x7 x8 x9 x10 m hk h1 nd0 hR hX H hc hkn hS hB hA hK hcl q;obtain⟨ks,kl,hkk,hkid⟩:=Pg.kind_inv hk;have hpk:=Pg.parts_kids p;have inner:∀(j i:Nat),i+j=p.kids.length->∀{S1:List It3}{ws1:List (Kd×Bool)}{st1:Sto}{y7 y8 y9 y10:Option D},FS sh dn sa pa wa ka ba aa da S1 ws1 kn (B++[.ref a]) (A++[.ref ca]) st1->st1 ca=AA (.lst (v0 S1 (ks.take i)))->(∀k∈ks.take i,Has S1 k.d)->S <+: S1->S1.length+256*((p.kids.drop i).map Pg.parts).sum+256<=S.length+256*p.parts->WUp ws ws1->KpI R (ca::fL sh dn sa pa wa ka ba aa) st st1->y3 (wpT (Zg P G (n+1)) (.bl AC)) (g9 (Zg P G (n+1)) E6) F (m+2*((p.kids.drop i).map Pg.parts).sum) [AA nd,AA (.ref ka),AA nm,AA md,AA (.ref ba),AA (.ref aa),AA (.ref da),y7,y8,y9,y10] st1:=by
   intro j
   induction j with
   |zero=>
    intro i hi S1 ws1 st1 y7 y8 y9 y10 H1 hc1 hh1 p1 l1 w1 K1;rw[List.drop_of_length_le ⋯]at l1 ⊢;rw[Cc ⋯]at hc1 hh1;simp only[Dj,IB,Nat.mul_zero,Jq]at l1 ⊢;exact q S1 ws1 st1 ks _ _ _ _ H1 hc1 kl hh1 hkk p1 l1 w1 K1
   |succ j ihj=>
    intro i hi S1 ws1 st1 y7 y8 y9 y10 H1 hc1 hh1 p1 l1 w1 K1;have hil:i<p.kids.length:=by lia
    obtain⟨c,hci⟩:∃c,p.kids[i]?=AA c:=⟨_,AJ hil⟩;obtain⟨a0,Δ,hai,hC,hck⟩:=hkid i c hci;have hdr:p.kids.drop i=c::p.kids.drop (i+1):=by
     rw[Dh hil];rw[AJ hil]at hci;cases hci;rfl
    rw[hdr]at l1 ⊢;simp only[Ah,Da]at l1 ⊢;have cpos:=Pg.parts_kids c;have hcm:c∈p.kids:=BN hci;have hcs:=Q2 Pg.parts hcm;have htl:(ks.take i).length=i:=by rw[Bl];lia
    have n1:=nd0.kpi K1 (λy hy=>hX y (by simp only[AL]at hy ⊢;rcases hy with h|h;exact .inl h;exact .inr (.inr h)));obtain⟨hkX⟩:Nonempty (p.told 6):=⟨Pg.told_kn hkn7⟩;generalize hr:((p.kids.drop (i+1)).map Pg.parts).sum=r at l1 ⊢;rw[show m+2*(c.parts+r)=((m+2*r+1)+2*(c.parts-1))+1 by lia];refine wl ?_;cases n1 with
    |@mk _ _ _ la x w kd as fs e1 e2 e3 e4 e5 e6 e7 e8 e9=>
    obtain⟨b,hbi⟩:∃b,as[i]?=AA b:=⟨_,AJ ⋯⟩;obtain⟨fb,hfi⟩:∃b,fs[i]?=AA b:=⟨_,AJ ⋯⟩;have nb1:=e9 i c b fb hci hbi hfi;have hRb:∀y∈fb,y∈R:=λy hy=>hR y (Ao _ (CI.mpr ⟨fb,BN hfi,hy⟩));have hla:la∉ka::ba::aa::da::shL sh dn sa pa wa:=λz=>e4 (hX _ (by simp only[AL,AW,or_false]at z ⊢;rcases z with z|z|z|z|z|z|z|z|z<;>simp[z]));refine b36 (R:=R) T hnm N dj (ks:=ks.take i) (Γ:=Γ) (Δ:=Δ) H1 hc1 hh1 e1 e2 h1 e3 (by rw[htl];exact hci) (by rw[htl];exact hbi) hkX (by rw[htl];exact hC) (hkn.up H1.K.A.wf p1 w1) ⋯ ⋯ ⋯ ⋯ hcl hla λS2 ws2 st2 kn2 cb v7 v8 v9 v10 H2 hcb hcb0 p2 l2 w2 k2 k3 k4 K2=>?_;rw[htl]at k4;have cbf:=H1.fresh hcb0;have hm01:=a77 p i;have nb2:=(nb1.addX hcb0).kpi K2 (λy hy=>Ao _ (hX y (by simp only[AL]at hy ⊢;exact .inr (.inr hy))));refine ih c ⋯ (Pg.kn_kids p hkn7 c hcm) hck ∅ nb2 hRb (λy hy=>by
     rcases AL.mp hy with rfl|hy
     ·simp
     ·exact Ao _ (hX y (Ao _ hy))) H2 hcb k2 ⋯ (by simp;lia) (by simp;lia) ⋯ cbf λS3 ws3 st3 ks3 u7 u8 u9 u10 H3 hc3 kl3 hh3 hkk3 p3 l3 w3 K3=>?_
    refine wl ?_;have nb3:=nb2.kpi K3 (λy hy=>by
     rcases AL.mp hy with rfl|hy
     ·simp
     ·exact Ao _ (hX y (by simp only[AL]at hy ⊢;exact .inr (.inr hy))))
    cases nb3 with
    |@mk _ _ _ lb xb wb kdb asb fsb b1 b2 b3 b4 b5 b6 b7 b8 b9=>
    refine a55 (R:=R) T hmd M dj H3 hc3 hh3 b1 b2 ∅ b3 ⋯ (Pg.told_kn (Pg.kn_kids p hkn7 c hcm)) hkk3 (k2.up H3.K.A.wf p3 w3) ⋯ (by simp only[AL,AW,or_false,not_or]at cbf ⊢;simp[cbf]) (hRb b (by obtain⟨_,_,_,_,_,_,h,_⟩:=nb1.root;exact h)) λS4 ws4 st4 t7 t8 H4 g1 p4 l4 w4 K4=>?_;have K14:KpI R (ca::fL sh dn sa pa wa ka ba aa) st1 st4:=by
     refine KpI.drop (p:=cb) ?_ hcb0;exact((K2.more (λd hd=>by simp only[AL]at hd ⊢;exact .inr (.inr hd))).trans (K3.more (λd hd=>by simp only[AL]at hd ⊢;rcases hd with h|h;exact .inl h;exact .inr (.inr h)))).trans (K4.more (λd hd=>by simp only[AL]at hd ⊢;exact .inr (.inr hd)))
    have hcaf:ca∉fL sh dn sa pa wa ka ba aa:=by simp only[AL,AW,or_false,not_or]at hcl ⊢;simp[hcl]
    have hcab:ca≠cb:=j7 hc1 hcb0;have hca4:st4 ca=AA (.lst (v0 S1 (ks.take i))):=K4.lst (K3.lst (K2.lst hc1 hcaf) (by simp only[AL,not_or];simp only[AL,not_or]at hcaf;exact⟨hcab,hcaf⟩)) hcaf;obtain⟨kd4,_,ha4⟩:=K14.i a p la x h w kd e1 e2;have hp14:S1 <+: S4:=p2.trans (p3.trans p4);refine ck1 (R:=R) T dj (p:=p) (kn0:=kn) H4 hca4 (by have:=Z8 Pg.parts_kids p.kids;simp only[v0,AT,htl];lia) ha4 hcl k3 (by rw[k4];simp only[v0,AT,htl]) λst5 H5 hc5 K5=>?_;have ek:ks.take (i+1)=ks.take i++[a0]:=by rw[List.take_succ,hai];rfl
    rw[<-hr];refine ihj (i+1) ⋯ H5 ?_ ?_ (p1.trans hp14) (by rw[hr];lia) (w1.trans (w2.trans (w3.trans w4))) (K1.trans (K14.trans K5))
    ·rw[hc5,ek];have:v0 S4 (ks.take i++[a0])=v0 S4 (ks.take i)++[.int (nb S4 a0.d:Nat)]:=by simp[v0]
     rw[this,cj2 H4.K.A.wf hp14 hh1]
    ·rw[ek];intro y hy
     rcases BK.mp hy with hy|hy
     ·exact(hh1 y hy).mono hp14
     ·simp only[Bg]at hy;subst hy;exact g1
  have:=inner p.kids.length 0 ⋯ (y7:=x7) (y8:=x8) (y9:=x9) (y10:=x10) H (by simpa[v0]using hc) ∎ (CH _) (by simp only[GV];lia) rfl KpI.refl;simp only[GV]at this;rw[show p.parts-1=(p.kids.map Pg.parts).sum by lia];exact this
end
def KA.fresh{x:AI}{S:List It3}(K:KA sh dn sa pa wa S ws st)(h:st x=AD):x∉shL sh dn sa pa wa:=by
 intro z;simp only[AL,AW,or_false]at z
 rcases z with rfl|rfl|rfl|rfl|rfl
 ·have:=K.A.ins;rw[h]at this;cases this
 ·have:=K.A.num;rw[h]at this;cases this
 ·have:=K.A.sto;rw[h]at this;cases this
 ·have:=K.A.par;rw[h]at this;cases this
 ·have:=K.W;rw[h]at this;cases this
def ShD.all(h:ShD sh dn sa pa wa):(shL sh dn sa pa wa).Nodup:=by
 have h1:=h.nd;have h2:=h.wd;have h3:=h.ws;simp only[BL,AL,AW,or_false,not_or,Ji,and_true,not_false_eq_true]at h1 h2 ⊢;obtain⟨⟨a1,a2,a3⟩,⟨a4,a5⟩,a6⟩:=h1;obtain⟨b1,b2,b3⟩:=h2;exact⟨⟨a1,a2,a3,Aw h3⟩,⟨a4,a5,Aw b1⟩,⟨a6,Aw b2⟩,Aw b3⟩
section
variable (T:PNo P G) {S:List It3} 
include T
def b50(hnm:Cok P nm)(N:aq5 P G (n+1) sh dn sa pa wa nm)(hmd:Cok P md)(M:aq6 P G (n+1) sh dn sa pa wa md){p:Pg}{k:Kd}{st0:Sto}{f:List AI}{kn:List Int}(hkt:G.cls "!kt"≠[])(hk:p.kind Γ=AA k)(h7:p.kn 6)(nd:Nd st0 X st 0 p a f)(K:KA sh dn sa pa wa S ws st)(hka:st ka=AA (.lst (kn.map D.int)))(hkn:KnOk S ws Γ kn)(hS:S.length+256*p.parts<=900000)(hkl:kn.length<=50000)(hks:ka∉shL sh dn sa pa wa)(hX:∀y∈ka::shL sh dn sa pa wa,y∈X)
  (q:∀S' ws' st',Has S' k.d->KA sh dn sa pa wa S' ws' st'->KpI f (ka::shL sh dn sa pa wa) st st'->Q (.int (nb S' k.d:Nat)) st'):sem P G (n+2) "folded" [.ref a,.ref ka,nm,md] st Q:=by
 refine f9 T.fol rfl [AA (.ref a),AA (.ref ka),AA nm,AA md,AD,AD,AD,AD,AD,AD,AD] rfl ?_;unfold L1;∎;intro ba hba;∎;intro ca hca;intro aa haa;∎;refine⟨hkt,λda hda=>?_⟩;have ba0:st ba=AD:=hba;have ca0:st ca=AD:=G5 hca;have aa0:st aa=AD:=G5 (G5 haa);have da0:st da=AD:=G5 (G5 (G5 hda));have cb:ba≠ca:=j7 c9 hca;have ab:ba≠aa:=j7 (c8 c9 cb) haa;have ac:ca≠aa:=j7 c9 haa;have db:ba≠da:=j7 (c8 (c8 c9 cb) ab) hda;have dc:ca≠da:=j7 (c8 c9 ac) hda;have dA:aa≠da:=j7 c9 hda;have kb:ka≠ba:=j7 hka ba0;have kc:ka≠ca:=j7 hka ca0;have kA:ka≠aa:=j7 hka aa0;have kD:ka≠da:=j7 hka da0;have I4:KpI f (ka::shL sh dn sa pa wa) st (b0 (b0 (b0 (b0 st ba (.lst [.ref a])) ca (.lst [])) aa (.lst [.ref ca])) da (.dtt [])):=((((KpI.refl.new hba).new hca).new haa).new hda);have K4:Kp [] st (b0 (b0 (b0 (b0 st ba (.lst [.ref a])) ca (.lst [])) aa (.lst [.ref ca])) da (.dtt [])):=((((Kp.refl.new hba).new hca).new haa).new hda);have nd4:Nd st0 (da::aa::ca::ba::X) (b0 (b0 (b0 (b0 st ba (.lst [.ref a])) ca (.lst [])) aa (.lst [.ref ca])) da (.dtt [])) 0 p a f:=(((nd.addX ba0).addX ca0).addX aa0 |>.addX da0).kpi I4 (λy hy=>by simp[hX y hy]);have H4:FS sh dn sa pa wa ka ba aa da S ws kn ([]++[.ref a]) ([]++[.ref ca]) (b0 (b0 (b0 (b0 st ba (.lst [.ref a])) ca (.lst [])) aa (.lst [.ref ca])) da (.dtt [])):=⟨K.keep K4,K4.at' hka ∎,c8 (c8 (c8 c9 cb) ab) db,c8 c9 dA,c9⟩;have hc4:(b0 (b0 (b0 (b0 st ba (.lst [.ref a])) ca (.lst [])) aa (.lst [.ref ca])) da (.dtt [])) ca=AA (.lst []):=c8 (c8 c9 ac) dc;have dj:(ka::ba::aa::da::shL sh dn sa pa wa).Nodup:=by
  refine BL.mpr ⟨?_,BL.mpr ⟨?_,BL.mpr ⟨?_,BL.mpr ⟨K.fresh da0,K.D0.all⟩⟩⟩⟩
  ·simp only[AL,not_or];simp only[AL,not_or]at hks;exact⟨kb,kA,kD,hks⟩
  ·have:=K.fresh ba0;simp only[AL,not_or]at this ⊢;exact⟨ab,db,this⟩
  ·have:=K.fresh aa0;simp only[AL,not_or]at this ⊢;exact⟨dA,this⟩
 have hcl:ca∉ka::ba::aa::da::shL sh dn sa pa wa:=by
  have:=K.fresh ca0;simp only[AL,not_or]at this ⊢;exact⟨Aw kc,Aw cb,ac,dc,this⟩
 have hpk:=Pg.parts_kids p;∎;refine⟨1+2*(p.parts-1),?_⟩;revert I4 K4 nd4 H4 hc4;generalize b0 (b0 (b0 (b0 st ba (.lst [.ref a])) ca (.lst [])) aa (.lst [.ref ca])) da (.dtt [])=st4;intro I4 K4 nd4 H4 hc4;show y3 (wpT (Zg P G (n+1)) (.bl AC)) (g9 (Zg P G (n+1)) E6) _ _ _ _;have hX4:∀y∈ca::da::fL sh dn sa pa wa ka ba aa,y∈da::aa::ca::ba::X:=by
  intro y hy
  rcases AL.mp hy with rfl|hy
  ·simp
  rcases AL.mp hy with rfl|hy
  ·simp
  rcases AL.mp hy with rfl|hy
  ·simp[hX y ∎]
  rcases AL.mp hy with rfl|hy
  ·simp
  rcases AL.mp hy with rfl|hy
  ·simp
  ·simp[hX y (Ao _ hy)]
 refine ca9 (R:=f) T hnm N hmd M dj p.parts p (AY _) h7 hk ∅ nd4 (λy hy=>hy) hX4 H4 hc4 hkn hS (by simp;lia) (by simp;lia) ⋯ hcl λS1 ws1 st1 ks y7 y8 y9 y10 H1 hc1 kl hh1 hkk p1 l1 w1 K1=>?_;refine wl ?_;have nd1:=nd4.kpi K1 (λy hy=>hX4 y (by simp only[AL]at hy ⊢;rcases hy with h|h;exact .inl h;exact .inr (.inr h)));have har:a∈f:=by obtain⟨_,_,_,_,_,_,h,_⟩:=nd4.root;exact h
 cases nd1 with
 |@mk _ _ _ lb xb wb kdb asb fsb b1 b2 b3 b4 b5 b6 b7 b8 b9=>
 refine a55 (R:=a::fsb.flatten) T hmd M dj H1 hc1 hh1 b1 b2 ∅ b3 ⋯ (Pg.told_kn h7) hkk (hkn.up H1.K.A.wf p1 w1) ⋯ (by simp only[AL,not_or]at hcl ⊢;exact hcl.2.2.2.2) har λS2 ws2 st2 t7 t8 H2 g1 p2 l2 w2 K2=>?_;refine b76 T H2 (c0 (q S2 ws2 st2 g1 H2.K ?_));refine KpI.drop (p:=ba) (KpI.drop (p:=aa) (KpI.drop (p:=ca) ?_ ca0) aa0) ba0;refine((I4.more λy hy=>?_).trans (K1.more λy hy=>?_)).trans (K2.more λy hy=>?_)
 ·simp only[AL]at hy ⊢;exact .inr (.inr (.inr hy))
 ·simp only[AL]at hy ⊢
  rcases hy with h|h|h|h|h
  ·exact .inl h
  ·exact .inr (.inr (.inr (.inl h)))
  ·exact .inr (.inr (.inl h))
  ·exact .inr (.inl h)
  ·exact .inr (.inr (.inr (.inr h)))
 ·simp only[AL]at hy ⊢
  rcases hy with h|h|h|h
  ·exact .inr (.inr (.inr (.inl h)))
  ·exact .inr (.inr (.inl h))
  ·exact .inr (.inl h)
  ·exact .inr (.inr (.inr (.inr h)))
end
def Nd.fresh{st0:Sto}{f:List AI}(n:Nd st0 X st h p a f):∀b∈f,st0 b=AD:=by
 induction n with
 |@mk h p a la x w kd as fs h1 h2 h3 h4 h5 h6 h7 h8 hk ih=>
  intro b hb
  rcases AL.mp hb with rfl|hb
  ·exact h6
  ·obtain⟨f,hf,hb⟩:=CI.mp hb;obtain⟨i,hi,rfl⟩:=Ea.mp hf;exact ih i p.kids[i] as[i] fs[i] (AJ ⋯) (AJ ⋯) (AJ hi) b hb
section
variable (T:PNo P G) {S:List It3} 
include T
def b52(hn:19<=n){k:Kd}{st0:Sto}{f:List AI}{kn:List Int}(hk:p.kind Γ=AA k)(h7:p.kn 6)(nd:Nd st0 X st 0 p a f)(K:KA sh dn sa pa wa S ws st)(hka:st ka=AA (.lst (kn.map D.int)))(hkn:KnOk S ws Γ kn)(hS:S.length+256*p.parts<=900000)(hkl:kn.length<=50000)(hks:ka∉shL sh dn sa pa wa)(hX:∀y∈ka::shL sh dn sa pa wa,y∈X)
  (q:∀S' ws' st',Has S' k.d->KA sh dn sa pa wa S' ws' st'->KpI f (ka::shL sh dn sa pa wa) st st'->Q (.int (nb S' k.d:Nat)) st'):sem P G n "kind_of_node" [.ref a,.ref ka,.ref sh] st Q:=by
 obtain⟨n,rfl⟩:∃m,n=m+3:=⟨n-3,⋯⟩;have hc:∀f∈([("program":Str),("inside":Str),("number":Str),("holders":Str),("ways":Str),("used":Str),("kind":Str)]:List Str),f∈G.cls "Node":=λf hf=>by rw[T.ncl];exact hf
 refine f9 T.kon rfl [AA (.ref a),AA (.ref ka),AA (.ref sh),AD,AD,AD,AD] rfl ?_;unfold ae2;(iterate 3 ∎);refine⟨by rw[T.fol];rfl,b50 T (show Cok P (.clo _ _ _ _) from trivial) ?_ (show Cok P (.clo _ _ _ _) from trivial) ?_ T.kt hk h7 nd K hka hkn hS hkl hks hX λS' ws' st' h1 h2 h3=>c0 (q S' ws' st' h1 h2 h3)⟩
 ·intro st S ws ca p i a ks Q K ht hm hk hc hh hS q;refine L3 rfl [AA p.d,AA (.ref ca),AA (.int i),AA (.ref sh)] rfl ?_;∎;exact⟨by rw[T.nnm];rfl,b08 T.toPKo ⋯ K ht hm hk hc hh hS λS' ws' st' h1 h2 h3 h4 h5 h6=>c0 (q S' ws' st' h1 h2 h3 h4 h5 h6)⟩
 ·intro st S ws ca ka b la p Γ k ks kn x h w kd Q K ht hk hca hh hka hkn hcl hS hb hkd q;refine L3 rfl [AA (.ref b),AA (.ref ca),AA (.ref ka),AA (.ref sh),AD] rfl ?_;∎;refine⟨by rw[T.kbp];rfl,b,"Node",_,p.d,rfl,hb,hc _ ∎,rfl,?_⟩;refine cn4 T.toPKo ⋯ K ht hk hca hh hka hkn hcl hS λS' ws' st' h1 h2 h3 h4 h5 h6=>?_;have hb':=h6.at' hb (K.noNode hb);have fin:∀kd',C4 kd'->Q (.int (nb S' k.d:Nat)) (b0 st' b (ndO p la x h w kd')):=λkd' hk'=>q S' ws' _ kd' h1 h2 h3 (h4.keepL (Kp.refl.put (L:=[b]) ∎) (by intro y hy;simp only[Bg]at hy;subst hy;exact K.noNode hb)) h5 ((h6.more (by intro y hy;exact Ao _ hy)).put ∎) c9 hk';∎;refine⟨b,"Node",_,kd,rfl,hb',hc _ ∎,rfl,?_⟩;have tail:∀kd',C4 kd'->∃p c fs,D.ref b=D.ref p/\st' p=AA (.ins c fs)/\("kind":Str)∈G.cls c/\fs.length<1000/\g9 (Zg P G n) (.cons (.ret (.v 4)) .nil) (j8 Q) [AA (.ref b),AA (.ref ca),AA (.ref ka),AA (.ref sh),AA (.int (nb S' k.d:Nat))] (b0 st' p (.ins c (j9 "kind" kd' fs))):=λkd' hk'=>⟨b,"Node",_,rfl,hb',hc _ ∎,by simp[ndF],by
   rw[b69];∎;exact c0 (fin kd' hk')⟩
  rcases hkd with rfl|⟨j,rfl⟩
  ·exact .inl ⟨rfl,tail _ (.inr ⟨_,rfl⟩)⟩
  ·refine .inr ⟨nofun,b,"Node",_,.int j,rfl,hb',hc _ ∎,rfl,?_⟩;rfl'
   split
   ·exact tail _ (.inr ⟨_,rfl⟩)
   ·exact tail _ (.inr ⟨_,rfl⟩)
def b48(hn:20<=n){k:Kd}{kn:List Int}(hp:p.parts<=2000)(hk:p.kind Γ=AA k)(h7:p.kn 6)(K:KA sh dn sa pa wa S ws st)(hka:st ka=AA (.lst (kn.map D.int)))(hkn:KnOk S ws Γ kn)(hS:S.length+256*p.parts<=900000)(hkl:kn.length<=50000)(hks:ka∉shL sh dn sa pa wa)
  (q:∀S' ws' st',Has S' k.d->KA sh dn sa pa wa S' ws' st'->Kp (ka::shL sh dn sa pa wa) st st'->Q (.int (nb S' k.d:Nat)) st'):sem P G n "shelved_kind" [p.d,.ref ka,.ref sh] st Q:=by
 obtain⟨n,rfl⟩:∃m,n=m+1:=⟨n-1,⋯⟩;refine f9 T.shk rfl [AA p.d,AA (.ref ka),AA (.ref sh)] rfl ?_;unfold ae9;∎;refine⟨by rw[T.kon];rfl,by rw[T.nod];rfl,?_⟩;rfl';intro na hna;have K0:Kp [] st (b0 st na (.lst [])):=Kp.refl.new hna;have KA0:=K.keep K0;have hx:∀x∈ka::shL sh dn sa pa wa,∃o,b0 st na (.lst []) x=AA o:=by
  intro x hx;simp only[AL,AW,or_false]at hx
  rcases hx with rfl|rfl|rfl|rfl|rfl|rfl
  ·exact⟨_,j6 hka hna⟩
  ·exact⟨_,KA0.A.ins⟩
  ·exact⟨_,KA0.A.num⟩
  ·exact⟨_,KA0.A.sto⟩
  ·exact⟨_,KA0.A.par⟩
  ·exact⟨_,KA0.W⟩
 refine cb8 T (X:=ka::shL sh dn sa pa wa) ⋯ hp c9 hx λa f st' nd K1=>?_;have hnk:ka≠na:=j7 hka hna;refine b52 T ⋯ hk h7 nd (KA0.keepL K1 (by intro y hy;simp only[Bg]at hy;subst hy;exact K.fresh hna)) (K1.at' (j6 hka hna) (by simpa using hnk)) hkn hS hkl hks (λy hy=>hy) λS' ws' st2 h1 h2 h3=>c0 (q S' ws' st2 h1 h2 λb o nb e=>?_);have e1:=j6 (u:=.lst []) e hna;exact h3.k b o nb (λz=>by rw[nd.fresh b z]at e1;cases e1) (K1.at' e1 (by simpa using j7 e hna))
end
def En.app{S:List It3}{l:List (Kd×Bool)}{e:Int}{k:Kd}(h:En S ws e k):En S (ws++l) e k:=by
 rcases h with h|⟨j,b,e,h⟩
 ·exact .inl h
 ·exact .inr ⟨j,b,e,by rw[Aa (AR.mp h).1];exact h⟩
theorem KnOk.app{S:List It3}{l:List (Kd×Bool)}{kn:List Int}(h:KnOk S ws Γ kn):KnOk S (ws++l) Γ kn:=
 ⟨h.len,λm k hk=>let⟨e,h1,h2⟩:=h.at' m k hk;⟨e,h1,h2.app⟩⟩
section
variable (T:PNo P G) {S:List It3}
include T
def b12(hΓ:∀k∈Γ,k.nest<=6)(hl:Γ.length<2000)(K:KA sh dn sa pa wa S [] st)
  (q:∀ws' kn ka st',KA sh dn sa pa wa S ws' st'->st ka=AD->st' ka=AA (.lst (kn.map D.int))->KnOk S ws' Γ kn->kn.length=Γ.length->Kp [wa] st st'->Q (.ref ka) st'):sem P G (n+2) "shelved_names" [.tup (Γ.map Kd.d),.ref sh] st Q:=by
 refine f9 T.shn rfl [AA (.tup (Γ.map Kd.d)),AA (.ref sh)] rfl ?_;unfold ad6;∎;refine⟨by simp;lia,?_⟩;refine G7 (λl acc env' st'=>∃(pre suf:List Kd)(x:Option D)(kn:List Int),Γ.reverse=pre++suf/\l=suf.map Kd.d/\acc=kn.map D.int/\env'=[AA (.ref sh),x]/\KA sh dn sa pa wa S (pre.map λk=>(k,AE)) st'/\KnOk S (pre.map λk=>(k,AE)) pre.reverse kn/\Kp [wa] st st') ?_ ?_ _ _ _ _ ⟨[],Γ.reverse,AD,[],rfl,by rw[IY],rfl,rfl,K,⟨rfl,λm k hk=>(by simp at hk)⟩,Kp.refl⟩
 ·rintro acc env' st' ⟨pre,suf,x,kn,e1,e2,rfl,rfl,K1,k1,K2⟩;have es:suf=[]:=by simpa using e2.symm
  subst es;rw[BJ]at e1;refine⟨trivial,λka hka=>?_⟩;have eg:pre.reverse=Γ:=by rw[<-e1,HL]
  rw[eg]at k1;have hka0:st ka=AD:=by
   cases e:st ka with
   |none=>rfl
   |some o=>
    by_cases z:ka=wa
    ·have:=K1.W;rw[<-z,hka]at this;cases this
    ·rw[K2.at' e (by simpa using z)]at hka;cases hka
  exact c0 (q _ kn ka _ (K1.keep (Kp.refl.new hka)) hka0 c9 k1 k1.len (K2.new hka))
 ·rintro d ds acc env' st' ih ⟨pre,suf,x,kn,e1,e2,rfl,rfl,K1,k1,K2⟩;refine⟨trivial,?_⟩;cases suf with
  |nil=>simp at e2
  |cons k suf=>
   simp only[Ah,Ae]at e2;obtain⟨rfl,rfl⟩:=e2;have hkm:k∈Γ:=by
    have:k∈Γ.reverse:=by rw[e1];simp
    simpa using this
   have hpl:pre.length<2000:=by
    have:=congrArg Di e1;simp at this;lia
   refine⟨.ref sh,rfl,sh,"Shelf",_,rfl,K1.A.ins,rfl,by rw[T.ptb];rfl,k.d,rfl,?_⟩;refine cc1 T.toPKd K1 (hΓ k hkm) (by simpa using hpl) λst2 K3 K4=>?_;refine ih _ _ _ ⟨pre++[k],suf,_,kn++[-(((pre.map λk=>(k,AE)).length:Int)+1)],by rw[e1];simp,rfl,∎,rfl,by simpa using K3,?_,K2.trans K4⟩;rw[Hb,Ag];exact(k1.app).cons (.inr ⟨pre.length,AE,∎,∎⟩)
def av6(hn:24<=n){k:Kd}(hp:p.parts<=2000)(hΓ:∀k∈Γ,k.nest<=6)(hl:Γ.length<2000)(hk:p.kind Γ=AA k)(h7:p.kn 6)(q:∀st',Kp [] st st'->Q k.d st'):sem P G n "kind_of" [p.d,.tup (Γ.map Kd.d)] st Q:=by
 obtain⟨n,rfl⟩:∃m,n=m+3:=⟨n-3,⋯⟩;refine f9 T.ko rfl [AA p.d,AA (.tup (Γ.map Kd.d)),AD] rfl ?_;unfold ah7;∎;refine⟨by show(AC&&_)=AC;rw[T.init];rfl,λsh hsh=>?_⟩;refine bl3 (n:=n+1) ?_;refine b51 T.toPSh hsh λdn sa pa wa s1 A1 hd hfr hw1 hw2 hw3 K1=>⟨rfl,?_⟩;have KA1:KA sh dn sa pa wa [] [] s1:=⟨A1,⟨hd,hw1,hw2⟩,hw3,∎,∎,∎⟩;∎;refine⟨sh,"Shelf",_,rfl,A1.ins,rfl,by rw[T.tup];rfl,by rw[T.shk];rfl,by rw[T.shn];rfl,?_⟩;refine b12 T (n:=n) hΓ hl KA1 λws2 kn ka s2 KA2 hka0 hka hkn hkl K2=>?_;have hks:=KA1.fresh hka0;refine b48 T ⋯ ⋯ hk h7 KA2 hka hkn (by simp;lia) ⋯ hks λS3 ws3 s3 h3 KA3 K3=>?_;refine b77 T.toPSh KA3.A h3 (c0 (q s3 λb o _ e=>?_));have e1:=K1.at' e ∎;have nf:b∉shL sh dn sa pa wa:=λz=>by rw[hfr b z]at e;cases e
 have e2:=K2.at' e1 (by simp only[Bg];exact λz=>nf (by simp[z]));exact K3.at' e2 (by simp only[AL,not_or];exact⟨j7 e1 hka0,by simpa using nf⟩)
end
def mp_kn{Γ':List Kd}(hf:∀(Δ:List Kd)(n:Nat)(k:Kd),(Δ++Γ)[n]?=AA k->((Pg.name n).mp f Δ.length).kind (Δ++Γ')=AA k){Θ:List Kd}{k:Kd}(h:Kn Θ p k):∀Δ,Θ=Δ++Γ->Kn (Δ++Γ') (p.mp f Δ.length) k:=by
 induction h with
 |name h=>intro Δ e;subst e;exact an9 (hf Δ _ _ h)
 |star=>intro Δ e;exact .star
 |pair _ _ i j=>exact λΔ e=>.pair (i Δ e) (j Δ e)
 |first _ i=>exact λΔ e=>.first (i Δ e)
 |second _ i=>exact λΔ e=>.second (i Δ e)
 |left _ i=>exact λΔ e=>.left (i Δ e)
 |right _ i=>exact λΔ e=>.right (i Δ e)
 |case _ _ _ i j l=>exact λΔ e=>.case (i Δ e) (j (_::Δ) (congrArg _ e)) (l (_::Δ) (congrArg _ e))
 |way _ i=>exact λΔ e=>.way (i (_::Δ) (congrArg _ e))
 |give _ _ i j=>exact λΔ e=>.give (i Δ e) (j Δ e)
 |lets _ _ i j=>exact λΔ e=>.lets (i Δ e) (j (_::Δ) (congrArg _ e))
 |never _ i=>exact λΔ e=>.never (i Δ e)
def bb3{Γ':List Kd}(hf:∀(Δ:List Kd)(n:Nat)(k:Kd),(Δ++Γ)[n]?=AA k->((Pg.name n).mp f Δ.length).kind (Δ++Γ')=AA k)(p:Pg){k:Kd}(h:p.kind (Δ++Γ)=AA k):(p.mp f Δ.length).kind (Δ++Γ')=AA k:=(mp_kn hf (an9 h) Δ rfl).kind
def ax3{Γ₁ Γ₂ M:List Kd}{k:Kd}(h:p.kind (Γ₁++Γ₂)=AA k):(p.lf M.length Γ₁.length).kind (Γ₁++(M++Γ₂))=AA k:=by
 refine bb3 (f:=lfF M.length Γ₁.length) (Γ:=Γ₁++Γ₂) (Γ':=Γ₁++(M++Γ₂)) (λΔ n k h=>?_) p (Δ:=[]) h;rw[Y7];simp only[Pg.kind];rw[<-Bk]at h ⊢
 split
 ·rename_i hn;rw[Af (by rw[AX];lia)]at h ⊢;rw[Af (by rw[AX];lia)];rw[<-h]
  congr 1
  rw[AX];lia
 ·rename_i hn;rw[Aa (by rw[AX];lia)]at h ⊢;exact h
def cd0{Γ:List Kd}{a k:Kd}(h:p.kind (a::Γ)=AA k)(ho:o.kind Γ=AA a):(p.sb o).kind Γ=AA k:=by
 refine bb3 (f:=sbF o) (Γ:=a::Γ) (Γ':=Γ) (λΔ n k h=>?_) p (Δ:=[]) h;simp only[Pg.mp,sbF]
 by_cases h1:n<Δ.length
 ·rw[if_pos h1];rw[Aa h1]at h;simp only[Do,Pg.kind];rw[Aa h1];exact h
 ·rw[if_neg h1];rw[Af ⋯]at h
  by_cases h2:n=Δ.length
  ·rw[if_pos h2];rw[h2,Jo]at h;cases h;exact ax3 (Γ₁:=[]) (M:=Δ) (Γ₂:=Γ) ho
  ·rw[if_neg h2];simp only[Hi,Pg.kind];rw[Af ⋯];rw[show n-Δ.length=(n-1-Δ.length)+1 by lia,Gg]at h;exact h
theorem aj1{chk:Sto->Prop}{tc:DB}{te:DT}{R:List D->Sto->Prop}{f:D->D}(Ok:i9->Prop){M:List D}(hset:∀env d,Ok env->Ok (env.set i (AA d)))(htc:∀env K,K AC st->tc env st K)(hte:∀env d K,d∈M->Ok env->K (f d) st->te (env.set i (AA d)) st K)(hc:chk st):
  ∀(ds acc:List D)(env:i9),(∀d∈ds,d∈M)->Ok env->R (acc++ds.map f) st->v3 chk (.n i) tc te R ds acc env st
 |[],acc,env,_,hE,hR=>by rw[a56];exact⟨hc,by simpa using hR⟩
 |d::ds,acc,env,hM,hE,hR=>by
  rw[av5,an4];refine⟨hc,htc _ _ ?_⟩;rw[if_pos rfl];exact hte env d _ (hM d ∎) hE (aj1 Ok hset htc hte hc ds (acc++[f d]) _ (λx hx=>hM x (by simp[hx])) (hset env d hE) (by simpa using hR))
def cv8{T:Type}{l:List T}{g:T->D}(hl:ds.length=l.length)(hv:∀(i:Nat)c d,l[i]?=AA c->ds[i]?=AA d->d=g c):ds=l.map g:=by
 refine Dl λi=>?_;rw[Al]
 by_cases h:i<l.length
 ·rw[AJ h,AJ (show i<ds.length by lia)];exact congrArg AA (hv i _ _ (AJ h) (AJ ⋯))
 ·rw[Bf ⋯,Bf ⋯];rfl
section
variable (J:PNm P G) 
include J
def aw5{C:D}{f:Nat->Nat->Option Pg}{L:List AI}{Jv:Sto->Prop}(hC:Cok P C)(hJ:∀{st st':Sto}{K:List AI},Jv st->(∀a∈L,a∉K)->Kp K st st'->Jv st')(hJL:∀{st},Jv st->∀a∈L,∃o,st a=AA o){p:Pg}(hp:p.parts<=2000)(hm:p.hgt<=m)(hn:6<=n)(j0:Jv st)
  (hc:∀(k:Nat)(c:Pg)(u:Nat)st' Q,n<=k+4->u+c.hgt<=m->Jv st'->Kp L st st'->(∀st2,Jv st2->Kp L st' st2->Q (M8 f c u) st2)->E7 P G k C [c.d,.int u] st' Q)
  (q:∀st',Jv st'->Kp L st st'->Q (p.mp f 0).d st'):sem P G n "with_parts" [p.d,C] st Q:=by
 obtain⟨n,rfl⟩:∃m,n=m+4:=⟨n-4,⋯⟩;have jn:∀{st:Sto}{a:AI}{o:Ob},Jv st->st a=AD->Jv (b0 st a o):=λh ha=>hJ (K:=[]) h ∎ (Kp.refl.new ha);refine f9 J.wparts rfl [AA p.d,AA C,AD,AD,AD,AD] rfl ?_;unfold af5;(iterate 3 ∎);refine⟨by rw[J.mop];rfl,?_⟩;refine a69 J.toPM (n:=n+1) (T:=Pg×Nat) (enc:=B1) (subs:=λc=>c.1.kidsU c.2) (size:=λc=>c.1.parts) (DJ:=λc=>c.2+c.1.hgt<=m) (W:=Unit) (J:=λ_=>Jv) (le:=λ_ _=>True) (L:=L) (λ_=>trivial) (λ_ _=>trivial) (λ{_ _ _ dn}h hd K=>hJ h (λa ha z=>by simp at z;subst z;exact hd ha) K) (λc=>Pg.parts_U c.1 c.2) (λc gc c' hc'=>BC (Pg.hgt_U c.1 c.2 c' hc') gc) (show Cok P (.clo _ _ _ _) from trivial) (show Cok P (.clo _ _ _ _) from trivial) (p,0) hp (by show 0+p.hgt<=m;lia) (V:=λ_ _ c d _=>d=.tup [(c.1.mp f c.2).d,.bl (c.1.chd f c.2)]) (λv _ _=>v) (s0:=()) (μ:=λ_=>0) (B:=2000) (by show 0+p.parts<=2000;lia) j0 hJL ?_ ?_ ?_
 ·rintro⟨c,u⟩ st' Q _ gc _ Js K k;refine L3 rfl [AA (B1 (c,u)),AA C] rfl ?_;∎;refine N5 hC ?_;unfold B1;rfl';refine hc n c u st' _ ⋯ gc Js K λst2 J2 K2=>?_
  by_cases hz:M8 f c u=.non
  ·refine .inl ⟨hz,?_⟩;rfl';refine⟨by rw[J.under];rfl,cb1 J c u ⋯ λa st3 ha h3 K3=>c0 (k _ () _ (.inr ⟨a,rfl,?_,h3⟩) trivial (AY _) (hJ (K:=[]) J2 ∎ K3) (K2.trans (K3.more ∎)))⟩;exact U8 (J:=λ(_:Unit)=>Jv) (s:=()) K2 (hJL Js) ha J2 hJL
  ·refine .inr ⟨hz,?_⟩;rfl';intro a ha;have hk:c.kidsU u=[]:=by unfold Pg.kidsU;rw[ca2 hz];rfl
   refine c0 (k _ () _ (.inr ⟨a,rfl,U8 (J:=λ(_:Unit)=>Jv) (s:=()) K2 (hJL Js) ha J2 hJL,?_⟩) trivial (AY _) (jn J2 ha) (K2.new ha));rw[c9,hk];rfl
 ·rintro⟨c,u⟩ dn la st' Q ds _ gc _ Js K hdn hlaL hne hl0 hla hlen hv hx k;have eds:ds=(c.kidsU u).map λc=>D.tup [(c.1.mp f c.2).d,.bl (c.1.chd f c.2)]:=cv8 hlen hv;refine L3 rfl [AA (B1 (c,u)),AA (.ref la),AA C,AD] rfl ?_;have fin:∀(x:D)(st2:Sto),(x=.non/\c.mp f u=c/\c.chd f u=AE\/x=(c.mp f u).d/\c.chd f u=AC)->Jv st2->Kp L st' st2->g9 (Zg P G (n+1)) (.cons (.ret (.ite (.isN (.v 3)) (.tup (.cons (.ix (.v 0) (.int 0)) (.cons (.bl AE) .nil))) (.tup (.cons (.v 3) (.cons (.bl AC) .nil))))) .nil) (j8 Q) [AA (B1 (c,u)),AA (.ref la),AA C,AA x] st2:=by
   intro x st2 hx2 J2 K2;unfold B1;∎
   rcases hx2 with⟨rfl,e1,e2⟩|⟨rfl,e2⟩
   ·refine .inl ⟨rfl,?_⟩;rfl';exact c0 (k _ () _ (by simp only[e1,e2]) trivial (BV _) J2 K2)
   ·refine .inr ⟨co0,?_⟩;rfl';exact c0 (k _ () _ (by simp only[e2]) trivial (BV _) J2 K2)
  have tst:∀(x:D)(st2:Sto),Jv st2->Kp L st' st2->(c.kids=[]->(x=.non/\c.mp f u=c/\c.chd f u=AE\/x=(c.mp f u).d/\c.chd f u=AC))->(c.kids≠[]->x=.non)->g9 (Zg P G (n+1)) (.cons (.iff (.any (.comp ["part"] [] 1 (.n 0) (.seq (.v 1)) .non (.ix (.v 0) (.int 1))))
    (.cons (.set 3 (.call "with_inner" (.cons (.ix (.v 0) (.int 0)) (.cons (.comp ["part"] [] 1 (.n 0) (.seq (.v 1)) .non (.ix (.v 0) (.int 0))) .nil))))
   .nil)
    .nil)
  (.cons (.ret (.ite (.isN (.v 3)) (.tup (.cons (.ix (.v 0) (.int 0)) (.cons (.bl AE) .nil))) (.tup (.cons (.v 3) (.cons (.bl AC) .nil)))))
  .nil)) (j8 Q) [AA (B1 (c,u)),AA (.ref la),AA C,AA x] st2:=by
   intro x st2 J2 K2 hx0 hx1;have hla2:st2 la=AA (.lst ds):=K2.at' hla hlaL;have hds:ds.length<=3:=by
    rw[hlen];show(c.kidsU u).length<=3;unfold Pg.kidsU;rw[Fj];cases c<;>simp only[Pg.kids,Ac,BH]<;>lia
   ∎;refine⟨_,.inl hla2,⋯,?_⟩
   let sn:D->D:=λd=>match d with|.tup [_,b]=>b|_=>.non
   let fs:D->D:=λd=>match d with|.tup [a,_]=>a|_=>.non
   have e1:ds.map sn=((c.kidsU u).map λc=>c.1.chd f c.2).map D.bl:=by rw[eds,Bv,Bv];rfl
   have e2:ds.map fs=((c.kidsU u).map λc=>c.1.mp f c.2).map Pg.d:=by rw[eds,Bv,Bv];rfl
   have two:∀d∈ds,∃a b,d=.tup [a,b]:=λd hd=>by
    rw[eds]at hd;obtain⟨c',_,rfl⟩:=Cs.mp hd;exact⟨_,_,rfl⟩
   refine aj1 (f:=sn) (λenv=>env.length=1) (λenv d h=>by simpa using h) (λenv K hK=>hK) (λenv d K hd hE hK=>?_) (.inl hla2) ds [] [AD] (λ_ h=>h) rfl ?_
   ·obtain⟨a,b,rfl⟩:=two d hd
    match env,hE with
    |[y],_=>
     rfl';exact hK
   intro fa hfa;rw[Ck,e1];refine⟨_,.inl c9,?_⟩;rfl'
   by_cases h0:c.kids=[]
   ·have hk:c.kidsU u=[]:=by unfold Pg.kidsU;rw[h0];rfl
    rw[hk,if_neg ∎];rfl';exact fin x _ (hx0 h0) (jn J2 hfa) (K2.new hfa)
   ·have hxn:=hx1 h0;subst hxn
    by_cases hany:((c.kidsU u).map λc=>c.1.chd f c.2).any id=AC
    ·rw[if_pos hany];∎;refine⟨by rw[J.winner];rfl,?_⟩;unfold B1;rfl';have hla3:=j6 (u:=.lst (((c.kidsU u).map λc=>c.1.chd f c.2).map D.bl)) hla2 hfa;refine⟨_,.inl hla3,⋯,?_⟩;refine aj1 (f:=fs) (λenv=>env.length=1) (λenv d h=>by simpa using h) (λenv K hK=>hK) (λenv d K hd hE hK=>?_) (.inl hla3) ds [] [AD] (λ_ h=>h) rfl ?_
     ·obtain⟨a,b,rfl⟩:=two d hd
      match env,hE with
      |[y],_=>
       rfl';exact hK
     intro ga hga;rw[Ck,e2];refine cc9 J (p:=c) (l:=(c.kidsU u).map λc=>c.1.mp f c.2) (.inl c9) (by unfold Pg.kidsU;rw[AT,Fj]) h0 ?_;rw[<-Pg.mp_kids h0];rfl';exact fin _ _ (.inr ⟨rfl,(Pg.chd_kids h0).trans hany⟩) (jn (jn J2 hfa) hga) ((K2.new hfa).new hga)
    ·rw[if_neg hany];rfl';have hc0:c.chd f u=AE:=by rw[Pg.chd_kids h0];simpa using hany
     exact fin .non _ (.inl ⟨rfl,Pg.mp_same c hc0,hc0⟩) (jn J2 hfa) (K2.new hfa)
  ∎;rw[u0 (.inl hla)];rfl';have hkl:ds.length=c.kids.length:=by rw[hlen];show(c.kidsU u).length=_;unfold Pg.kidsU;rw[Fj]
  by_cases h0:c.kids=[]
  ·rw[if_pos (by rw[hkl,h0];rfl)];refine N5 hC ?_;unfold B1;rfl';refine hc (n+1) c u st' _ ⋯ gc Js K λst2 J2 K2=>?_;exact tst _ st2 J2 K2 (λ_=>(cc7 h0).elim (λ⟨a,b,d⟩=>.inl ⟨a,b,d⟩) .inr) (λh=>absurd h0 h)
  ·rw[if_neg (by rw[hkl];have:=List.length_pos_iff.mpr h0;lia)];exact tst .non st' Js Kp.refl (λh=>absurd h h0) λ_=>rfl
 ·intro dn d _ st' _ v _ _ Js K;subst v;rfl';exact c0 (q st' Js K)
end
def ak5(p:Pg)(l:Nat):p.lf 0 l=p:=by
 have:=c08 (f:=λ_ _=>AD) (g:=lfF 0 l) (h:=λ_ _=>AD) (a:=id) (b:=id) (c:=id) (λ_=>rfl) (λ_=>rfl) (λ_=>rfl) (λn u=>by
  show(Pg.name n).mp (lfF 0 l) u=.name n;rw[Y7];congr 1;split<;>lia) p 0
 rw[c17]at this;exact this
section
variable (J:PNm P G) 
include J
def ah6(hp:p.parts<=2000)(hn:7<=n)(q:∀st',Kp [] st st'->Q (p.lf m l).d st'):sem P G n "lifted" [p.d,.int m,.int l] st Q:=by
 obtain⟨n,rfl⟩:∃k,n=k+1:=⟨n-1,⋯⟩;refine f9 J.lift rfl [AA p.d,AA (.int m),AA (.int l),AD,AD,AD,AD] rfl ?_;unfold aj6;∎
 by_cases h0:(m:Int)=0
 ·simp only[h0,if_true];∎;obtain rfl:m=0:=by lia
  have:=q st Kp.refl;rw[ak5]at this;exact c0 this
 simp only[h0,if_false];(iterate 2 ∎);refine⟨by rw[J.wparts];rfl,aw5 J (f:=lfF m l) (L:=[]) (Jv:=λ_=>True) (show Cok P (.clo _ _ _ _) from trivial) (λ_ _ _=>trivial) (λ_=>∎) hp (AY _) ⋯ trivial ?_ λst' _ K=>c0 (q st' K)⟩;intro k c u st' Q hk hu _ K kk;obtain⟨k,rfl⟩:∃j,k=j+1:=⟨k-1,⋯⟩;refine L3 rfl [AA c.d,AA (.int u),AA (.int l),AA (.int m)] rfl ?_;replace kk:=kk st' trivial Kp.refl;cases c<;>simp only[Pg.d]
 case name x=>
  ∎;simp only[M8,lfF]at kk
  by_cases h1:(u:Int)<=(x:Int)
  ·simp only[h1,if_true]
   by_cases h2:(l:Int)<=(x:Int)-(u:Int)
   ·simp only[h2,if_true];∎;rw[if_pos ⋯]at kk;exact c0 kk
   ·simp only[h2,if_false];∎;rw[if_neg ⋯]at kk;exact c0 kk
  ·simp only[h1,if_false];∎;rw[if_neg ⋯]at kk;exact c0 kk
 all_goals
  (iterate 2 ∎);exact c0 kk
abbrev U2(o:Pg)(us:List Nat):List (Key×D):=us.map λ(u:Nat)=>(.inl (u:Int),(o.lf u 0).d)
abbrev Cps(o:Pg)(m:Nat)(a:AI)(st:Sto):Prop:=∃us:List Nat,us.Nodup/\(∀u∈us,u<=m)/\st a=AA (.dct (U2 o us))
omit J in
theorem Y5{o:Pg}(u:Nat):∀(us:List Nat),B0 (U2 o us) (.inl (u:Int))=if u∈us then AA (o.lf u 0).d else AD
 |[]=>rfl
 |v::us=>by
  have ih:=Y5 (o:=o) u us;unfold B0 U2 at ih ⊢;rw[Ah,Bi]
  by_cases h:v=u
  ·subst h;simp
  ·have e:AB ((Ej (v:Int):Key)=.inl (u:Int))=AE:=by simp;lia
   simp only[e];rw[ih]
   by_cases h2:u∈us
   ·rw[if_pos h2,if_pos (by simp[h2])]
   ·rw[if_neg h2,if_neg (by simp[h2];lia)]
omit J in
theorem aw7:∀(m:Nat){us:List Nat},us.Nodup->(∀u∈us,u<m)->us.length<=m
 |0,us,_,h=>by
  cases us with
  |nil=>exact AY _
  |cons a us=>exact absurd (h a ∎) ⋯
 |m+1,us,hn,h=>by
  have h1:=aw7 m (hn.erase m) (λu hu=>by
   obtain⟨a,b⟩:=hn.mem_erase_iff.mp hu;have:=h u b;lia)
  have h2:=List.length_erase (a:=m) (l:=us)
  split at h2<;>lia
def cl1(ho:o.parts<=2000)(hn:8<=n)(hu:u<=m)(hm:m<=1000)(C:Cps o m a st)(q:∀st',Cps o m a st'->Kp [a] st st'->Q (o.lf u 0).d st'):sem P G n "copy_under" [.ref a,o.d,.int u] st Q:=by
 obtain⟨n,rfl⟩:∃k,n=k+1:=⟨n-1,⋯⟩;refine f9 J.copy rfl [AA (.ref a),AA o.d,AA (.int u)] rfl ?_;unfold af7;have rd:∀(us:List Nat)(st2:Sto),u∈us->us.Nodup->(∀u∈us,u<=m)->st2 a=AA (.dct (U2 o us))->Kp [a] st st2->g9 (Zg P G n) (.cons (.ret (.ix (.v 0) (.v 2))) .nil) (j8 Q) [AA (.ref a),AA o.d,AA (.int u)] st2:=by
  intro us st2 hu2 h1 h2 h3 K2;∎;refine .inr ⟨_,(o.lf u 0).d,h3,?_,c0 (q st2 ⟨us,h1,h2,h3⟩ K2)⟩;rw[Y5,if_pos hu2]
 obtain⟨us,h1,h2,h3⟩:=C;∎;refine⟨_,h3,?_⟩;rw[Y5];rfl'
 by_cases hu2:u∈us
 ·rw[if_pos hu2];simp only[Ib,Dn,BO,if_false];exact rd us st hu2 h1 h2 h3 Kp.refl
 ·rw[if_neg hu2];simp only[Ib,Bool.not_false,if_true];∎;refine⟨by rw[J.lift];rfl,?_⟩;refine ah6 J (l:=0) ho ⋯ λst2 K2=>?_;have h4:=K2.at' h3 ∎;refine⟨_,h4,by rw[Y5,if_neg hu2],A7 (by unfold U2;rw[AT];have:=aw7 (m+1) h1 (λu hu=>by have:=h2 u hu;lia);lia),?_⟩;refine rd (us++[u]) _ ∎ ?_ ?_ ?_ ((K2.more ∎).put ∎)
  ·rw[Dm];exact⟨h1,∎,by simp;exact λx hx z=>hu2 (z▸hx)⟩
  ·intro x hx
   rcases BK.mp hx with hx|hx
   ·exact h2 x hx
   ·simp at hx;lia
  ·rw[c9];unfold U2;rw[Ag];rfl
def ay7(hp:p.parts<=2000)(ho:o.parts<=2000)(hh:p.hgt<=1000)(hn:14<=n)(q:∀st',Kp [] st st'->Q (p.sb o).d st'):sem P G n "put_in" [p.d,o.d] st Q:=by
 obtain⟨n,rfl⟩:∃k,n=k+1:=⟨n-1,⋯⟩;refine f9 J.put rfl [AA p.d,AA o.d,AD,AD,AD,AD,AD] rfl ?_;unfold aj5;∎;intro cp hcp;(iterate 2 ∎);refine⟨by rw[J.wparts];rfl,aw5 J (f:=sbF o) (L:=[cp]) (Jv:=Cps o 1000 cp) (show Cok P (.clo _ _ _ _) from trivial) ?_ ?_ hp hh ⋯ ⟨[],Ji,∎,c9⟩ ?_ λst' _ K=>c0 (q st' ?_)⟩
 ·rintro st st' K ⟨us,h1,h2,h3⟩ hK K1;exact⟨us,h1,h2,K1.at' h3 (hK cp ∎)⟩
 ·rintro st ⟨us,h1,h2,h3⟩ a ha;simp at ha;subst ha;exact⟨_,h3⟩
 ·intro k c u st' Q hk hu C K kk;obtain⟨k,rfl⟩:∃j,k=j+1:=⟨k-1,⋯⟩;have h1:∀q:Pg,1<=q.hgt:=λq=>by cases q<;>simp only[Pg.hgt]<;>lia
  have:=h1 c;refine L3 rfl [AA c.d,AA (.int u),AA (.ref cp),AA o.d] rfl ?_;have k0:=kk st' C Kp.refl;cases c<;>simp only[Pg.d]
  case name x=>
   simp only[M8,sbF]at kk k0;∎
   by_cases h1:(x:Int)<(u:Int)
   ·simp only[h1,if_true];∎;rw[if_pos ⋯]at k0;exact c0 k0
   ·simp only[h1,if_false];∎
    by_cases h2:(x:Int)=(u:Int)
    ·simp only[h2,if_true];∎;rw[if_neg ⋯,if_pos ⋯]at kk;exact⟨by rw[J.copy];rfl,cl1 J ho ⋯ ⋯ (AY _) C λst2 C2 K2=>c0 (kk st2 C2 K2)⟩
    ·simp only[h2,if_false];∎;rw[if_neg ⋯,if_neg ⋯]at k0;have e:(x:Int)-1=((x-1:Nat):Int):=by lia
     rw[e];exact c0 k0
  all_goals
   (iterate 2 ∎);exact c0 k0
 ·intro b u nb e;refine K b u (by simp;exact λz=>by rw[z,hcp]at e;cases e) ?_;exact j6 e hcp
end
abbrev Pg.sn:Nat->Pg->D
 |u,.name n=>if n<u then .tup [.str "within",.int n]else .tup [.str "without",.int ((n:Int)-u)]
 |_,.star=>.tup [.str "star"]
 |u,.pair t v=>.tup [.str "pair",t.sn u,v.sn u]
 |u,.first t=>.tup [.str "first",t.sn u]
 |u,.second t=>.tup [.str "second",t.sn u]
 |u,.left b t=>.tup [.str "left",b.d,t.sn u]
 |u,.right b t=>.tup [.str "right",b.d,t.sn u]
 |u,.case t v w=>.tup [.str "case",t.sn u,v.sn (u+1),w.sn (u+1)]
 |u,.way b t=>.tup [.str "way",b.d,t.sn (u+1)]
 |u,.give t v=>.tup [.str "give",t.sn u,v.sn u]
 |u,.lets t v=>.tup [.str "let",t.sn u,v.sn (u+1)]
 |u,.never b t=>.tup [.str "never",b.d,t.sn u]
abbrev skL(p:Pg)(u:Nat):Nat->List Pg->List D
 |_,[]=>[]
 |i,c::l=>c.sn (u+p.more i)::skL p u (i+1) l
abbrev Up(w:String)(i:Nat):Prop:=w="way"\/(w="let"/\(i:Int)=1)\/(w="case"/\0<(i:Int))
def cl5(p:Pg):(∃n,p=.name n)\/∃(w:String)(r:List D),w≠"name"/\p.d=.tup (.str (AV w)::(r++p.kids.map Pg.d))/\(∀u,p.sn u=.tup (.str (AV w)::(r++skL p u 0 p.kids)))/\(r.length<=1/\p.kids.length<=3)/\∀i,i<p.kids.length->(Up w i/\p.more i=1)\/(¬Up w i/\p.more i=0):=by
 have n1:∀{k:Nat}{P:Nat->Prop},P 0->(k=1)->∀i,i<k->P i:=λh e i hi=>by
  obtain rfl:i=0:=by lia
  exact h
 have n2:∀{k:Nat}{P:Nat->Prop},P 0->P 1->(k=2)->∀i,i<k->P i:=λh h' e i hi=>by
  rcases(show i=0\/i=1 by lia)with rfl|rfl
  ·exact h
  ·exact h'
 have n3:∀{k:Nat}{P:Nat->Prop},P 0->P 1->P 2->(k=3)->∀i,i<k->P i:=λh h' h'' e i hi=>by
  rcases(show i=0\/i=1\/i=2 by lia)with rfl|rfl|rfl
  ·exact h
  ·exact h'
  ·exact h''
 cases p with
 |name n=>exact .inl ⟨n,rfl⟩
 |star=>exact .inr ⟨"star",[],∅,rfl,λ_=>rfl,⟨Ai rfl,Ai rfl⟩,nofun⟩
 |pair t v=>exact .inr ⟨"pair",[],∅,rfl,λ_=>rfl,⟨Ai rfl,Ai rfl⟩,n2 (.inr ⟨by unfold Up;decide,rfl⟩) (.inr ⟨by unfold Up;decide,rfl⟩) rfl⟩
 |give t v=>exact .inr ⟨"give",[],∅,rfl,λ_=>rfl,⟨Ai rfl,Ai rfl⟩,n2 (.inr ⟨by unfold Up;decide,rfl⟩) (.inr ⟨by unfold Up;decide,rfl⟩) rfl⟩
 |first t=>exact .inr ⟨"first",[],∅,rfl,λ_=>rfl,⟨Ai rfl,Ai rfl⟩,n1 (.inr ⟨by unfold Up;decide,rfl⟩) rfl⟩
 |second t=>exact .inr ⟨"second",[],∅,rfl,λ_=>rfl,⟨Ai rfl,Ai rfl⟩,n1 (.inr ⟨by unfold Up;decide,rfl⟩) rfl⟩
 |left b t=>exact .inr ⟨"left",[b.d],∅,rfl,λ_=>rfl,⟨Ai rfl,Ai rfl⟩,n1 (.inr ⟨by unfold Up;decide,rfl⟩) rfl⟩
 |right b t=>exact .inr ⟨"right",[b.d],∅,rfl,λ_=>rfl,⟨Ai rfl,Ai rfl⟩,n1 (.inr ⟨by unfold Up;decide,rfl⟩) rfl⟩
 |never b t=>exact .inr ⟨"never",[b.d],∅,rfl,λ_=>rfl,⟨Ai rfl,Ai rfl⟩,n1 (.inr ⟨by unfold Up;decide,rfl⟩) rfl⟩
 |way b t=>exact .inr ⟨"way",[b.d],∅,rfl,λ_=>rfl,⟨Ai rfl,Ai rfl⟩,n1 (.inl ⟨by unfold Up;decide,rfl⟩) rfl⟩
 |lets t v=>exact .inr ⟨"let",[],∅,rfl,λ_=>rfl,⟨Ai rfl,Ai rfl⟩,n2 (.inr ⟨by unfold Up;decide,rfl⟩) (.inl ⟨by unfold Up;decide,rfl⟩) rfl⟩
 |case t v w=>exact .inr ⟨"case",[],∅,rfl,λ_=>rfl,⟨Ai rfl,Ai rfl⟩,n3 (.inr ⟨by unfold Up;decide,rfl⟩) (.inl ⟨by unfold Up;decide,rfl⟩) (.inl ⟨by unfold Up;decide,rfl⟩) rfl⟩
def b86{a b:List D}:r9 (a++b) AD (AA (((a++b).length:Int)-(b.length:Int)))=a:=by
 rw[show(((a++b).length:Int)-(b.length:Int))=((a.length:Nat):Int) by rw[AX];lia];unfold r9;rw[HT.sIx_nat,HT.sIx_none,GV,IV,Gc (by rw[AX];lia),List.take_left]
def ifc{c d:Prop}[Decidable c][Decidable d]{A B:Prop}(h:¬(c/\d))(b:B):if c then if d then A else B else B:=by
 by_cases hc:c
 ·rw[if_pos hc,if_neg λhd=>h ⟨hc,hd⟩];exact b
 ·rw[if_neg hc];exact b
abbrev Ss.at':Ss->Nat->Ss
 |.nil,_=>.nil
 |.cons s r,0=>.cons s r
 |.cons _ r,i+1=>r.at' i
abbrev Ss.fb:Ss->Ss
 |.cons (.for _ _ b) _=>b
 |_=>.nil
section
variable (B:PB P) (hs:P "_law_seen"=AA P4)
include B hs
omit B hs in
theorem V1{f:Str}{d:D}{v:Nat}(h:x=(v:Int))(q:sem P G n f [d,.int (v:Int)] st Q):sem P G n f [d,.int x] st Q:=by rw[h];exact q
theorem b23{E:DEnds}{a b:Option D}{z:Option D}{s:Sto}(hm:(Up w i/\m=1)\/(¬Up w i/\m=0))(hz:xs.length+1<=1000)
  (call:∀{R:DK},(∀s',Kp [] s s'->R (c.sn (u+m)) s')->sem P G (n+1) "_law_seen" [c.d,.int ((u+m:Nat):Int)] s R)
  (hE:∀s' z',Kp [] s s'->E.nx [a,AA (.int u),AA (.str (AV w)),b,AA (.tup (xs++[c.sn (u+m)])),AA (.int i),AA c.d,z'] s') :
  g9 (Zg P G (n+1)) (P4.body.at' 4).fb E [a,AA (.int u),AA (.str (AV w)),b,AA (.tup xs),AA (.int i),AA c.d,z] s:=by
 have last:g9 (Zg P G (n+1)) ((P4.body.at' 4).fb.at' 1) E [a,AA (.int u),AA (.str (AV w)),b,AA (.tup xs),AA (.int i),AA c.d,AA (.int m)] s:=by
  change g9 _ (.cons _ _) _ _ _;∎;refine⟨by rw[hs];rfl,?_⟩;rw[show((u:Int)+(m:Int))=((u+m:Nat):Int) by lia];exact call λs' K=>⟨B8 ⋯,hE s' _ K⟩
 change g9 _ (.cons _ _) _ _ _
 rcases hm with⟨h,rfl⟩|⟨h,rfl⟩
 ·rcases h with rfl|⟨rfl,h⟩|⟨rfl,h⟩
  ·∎;exact last
  ·∎;rw[if_pos h];exact last
  ·∎;rw[if_pos h];exact last
 ·unfold Up at h;have h1:¬w="way":=λz=>h (.inl z);have h2:¬(w="let"/\(i:Int)=1):=λz=>h (.inr (.inl z));have h3:¬(w="case"/\0<(i:Int)):=λz=>h (.inr (.inr z));∎;rw[if_neg h1];refine ifc h2 ?_
  by_cases hc:w="case"
  ·rw[if_pos hc,if_neg λz=>h3 ⟨hc,z⟩];exact last
  ·rw[if_neg hc];exact last
def V3:∀(h:Nat)(p:Pg){u n:Nat}{st:Sto}{Q:DK},p.hgt<=h->h+2<=n->u+p.hgt<=1000->(∀st',Kp [] st st'->Q (p.sn u) st')->sem P G n "_law_seen" [p.d,.int u] st Q:=by
 intro h
 induction h with
 |zero=>intro p u n st Q hp;cases p<;>simp only[Pg.hgt]at hp<;>lia
 |succ h ih=>
  intro p u n st Q hp hn hu q;obtain⟨n,rfl⟩:∃m,n=m+2:=⟨n-2,⋯⟩;refine f9 hs rfl [AA p.d,AA (.int u),AD,AD,AD,AD,AD,AD] rfl ?_;unfold P4;have li:∀{Q:DK},Q (.tup (p.kids.map Pg.d)) st->sem P G (n+1) "_law_inner" [p.d] st Q:=λh=>av9 B p h
  rcases cl5 p with⟨m,rfl⟩|⟨w,r,w1,e1,e2,e3,e4⟩
  ·simp only[Pg.d];(iterate 3 ∎);have q0:=q st Kp.refl;simp only[Pg.sn]at q0
   split
   ·rename_i hm;rw[if_pos ⋯]at q0;∎;exact c0 q0
   ·rename_i hm;rw[if_neg ⋯]at q0;∎;exact c0 q0
  ·rw[e2]at q;rw[e1]at li ⊢;∎;refine sk1 rfl w1 ?_;∎;refine⟨by rw[B.inner];rfl,li ?_⟩;∎;rw[show r9 (D.str (AV w)::(r++p.kids.map Pg.d)) AD (AA (((r++p.kids.map Pg.d).length+1:Nat)-((p.kids.map Pg.d).length:Nat):Int))=D.str (AV w)::r from b86 (a:=D.str (AV w)::r)];∎;refine C8 (λl env s=>∃(pre:List D)(suf:List Pg)(x y z:Option D),l=o5 pre.length (suf.map Pg.d)/\pre++skL p u pre.length suf=skL p u 0 p.kids/\pre.length+suf.length=p.kids.length/\(∀c∈suf,c∈p.kids)/\Kp [] st s/\env=[AA (.tup (D.str (AV w)::(r++p.kids.map Pg.d))),AA (.int u),AA (.str (AV w)),AA (.tup (p.kids.map Pg.d)),AA (.tup (D.str (AV w)::(r++pre))),x,y,z]) ?_ ?_ _ _ _ ⟨[],p.kids,AD,AD,AD,rfl,rfl,HG _,λ_ h=>h,Kp.refl,by rw[BJ]⟩
   ·rintro env s ⟨pre,suf,x,y,z,f1,f2,f3,f4,f5,rfl⟩;refine⟨trivial,?_⟩;cases suf with
    |cons=>cases f1
    |nil=>
     ∎;have f2:pre=skL p u 0 p.kids:=(BJ _).symm.trans f2;rw[f2];exact c0 (q _ f5)
   ·rintro d ds env s ihL ⟨pre,suf,x,y,z,f1,f2,f3,f4,f5,rfl⟩;refine⟨trivial,?_⟩;cases suf with
    |nil=>cases f1
    |cons c suf=>
     obtain⟨rfl,rfl⟩:=List.cons.inj f1;rw[Ac]at f3;have hc:=p.hgt_kids c (f4 c (.head _));have hm:=e4 pre.length ⋯;rfl';refine b23 B hs (m:=p.more pre.length) (xs:=D.str (AV w)::(r++pre)) hm (by rw[Ac,AX];lia) (λhR=>ih c ⋯ ⋯ ?_ hR) λs' z' K=>?_
     ·rcases hm with⟨_,e⟩|⟨_,e⟩<;>rw[e]<;>lia
     ·refine ihL _ _ ⟨pre++[c.sn (u+p.more pre.length)],suf,AA (.int pre.length),AA c.d,z',?_,?_,?_,λx hx=>f4 x (.tail _ hx),f5.trans K,?_⟩
      ·rw[AX];rfl
      ·rw[Bk,AX];exact f2
      ·rw[AX];simp only[Ac,BH];lia
      ·rw[CD,Bk]
end
abbrev wo(j:Int):D:=.tup [.str "without",.int j]
abbrev Pg.sg(g:Int->D):Nat->Pg->D
 |u,.name n=>if n<u then .tup [.str "within",.int n]else g ((n:Int)-u)
 |_,.star=>.tup [.str "star"]
 |u,.pair t v=>.tup [.str "pair",t.sg g u,v.sg g u]
 |u,.first t=>.tup [.str "first",t.sg g u]
 |u,.second t=>.tup [.str "second",t.sg g u]
 |u,.left b t=>.tup [.str "left",b.d,t.sg g u]
 |u,.right b t=>.tup [.str "right",b.d,t.sg g u]
 |u,.case t v w=>.tup [.str "case",t.sg g u,v.sg g (u+1),w.sg g (u+1)]
 |u,.way b t=>.tup [.str "way",b.d,t.sg g (u+1)]
 |u,.give t v=>.tup [.str "give",t.sg g u,v.sg g u]
 |u,.lets t v=>.tup [.str "let",t.sg g u,v.sg g (u+1)]
 |u,.never b t=>.tup [.str "never",b.d,t.sg g u]
open Classical in
abbrev tnG(m l:Int)(o:D)(j:Int):D:=if o≠.non/\j=0 then o else if l<=j then wo (j+m)else wo j
section
variable (ht:P "_law_turned"=AA U4)
include ht
abbrev TOk(P:i6)(G:Gs)(n:Nat)(m l:Int)(o d r:D):Prop:=(∃s:String,d=.str s/\r=d)\/(∃i:Int,d=.int i/\r=d)\/∃xs,d=.tup xs/\∀(st:Sto)(Q:DK),Q r st->sem P G n "_law_turned" [d,.int m,.int l,o] st Q
def A9{m l:Int}{o:D}(hw:w≠"without"){prs:List (D×D)}(hp:∀e∈prs,TOk P G n m l o e.1 e.2)(hl:prs.length<=10)(q:Q (.tup (.str w::prs.map (·.2))) st):sem P G (n+1) "_law_turned" [.tup (.str w::prs.map (·.1)),.int m,.int l,o] st Q:=by
 refine f9 ht rfl [AA (.tup (.str w::prs.map (·.1))),AA (.int m),AA (.int l),AA o,AD,AD] rfl ?_;unfold U4;∎;rw[if_neg (by simpa using hw)];(iterate 2 ∎);have hp':∀e∈(D.str w,D.str w)::prs,TOk P G n m l o e.1 e.2:=by
  intro e he
  rcases AL.mp he with rfl|he
  ·exact .inl ⟨w,rfl,rfl⟩
  ·exact hp e he
 refine C8 (λll env st'=>∃(pre suf:List (D×D))(x5:Option D),(D.str w,D.str w)::prs=pre++suf/\ll=suf.map (·.1)/\env=[AA (.tup (.str w::prs.map (·.1))),AA (.int m),AA (.int l),AA o,AA (.tup (pre.map (·.2))),x5]/\st'=st) ?_ ?_ _ _ _ ⟨[],(D.str w,D.str w)::prs,AD,rfl,rfl,rfl,rfl⟩
 ·rintro env st' ⟨pre,suf,x5,e1,e2,rfl,rfl⟩;have es:suf=[]:=by simpa using e2.symm
  subst es;rw[BJ]at e1;subst e1;refine⟨trivial,?_⟩;∎;exact c0 q
 ·rintro d ds env st' ih ⟨pre,suf,x5,e1,e2,rfl,rfl⟩;refine⟨trivial,?_⟩;cases suf with
  |nil=>simp at e2
  |cons e suf=>
   simp only[Ah,Ae]at e2;obtain⟨rfl,rfl⟩:=e2;have hpl:pre.length<=11:=by
    have:=congrArg Di e1;simp at this;lia
   have fin:∀x5:Option D,t5 (λ_=>True) (.n 5) (g9 (Zg P G n) _) _ (suf.map (·.1)) [AA (.tup (.str w::prs.map (·.1))),AA (.int m),AA (.int l),AA o,AA (.tup (pre.map (·.2)++[e.2])),x5] st':=λx5=>ih _ _ ⟨pre++[e],suf,x5,by rw[e1];simp,rfl,∎,rfl⟩
   rcases hp' e (by rw[e1];simp)with⟨s,h1,h2⟩|⟨i,h1,h2⟩|⟨xs,h1,h2⟩
   ·rw[h2]at fin;rw[h1]at fin ⊢;rfl';∎;refine .inl ⟨"str",rfl,AE,rfl,?_⟩
    try rw[if_neg ∅]
    ∎;exact⟨B8 (by simp only[AT];lia),fin _⟩
   ·rw[h2]at fin;rw[h1]at fin ⊢;rfl';∎;refine .inl ⟨"int",rfl,AE,rfl,?_⟩
    try rw[if_neg ∅]
    ∎;exact⟨B8 (by simp only[AT];lia),fin _⟩
   ·rw[h1]at h2 ⊢;rfl';∎;refine .inl ⟨"tuple",rfl,AC,rfl,?_⟩;rw[if_pos rfl];∎;refine⟨by rw[ht];rfl,h2 _ _ ?_⟩;∎;exact⟨B8 (by simp only[AT];lia),fin _⟩
def b74:∀(k:Kd){m l:Int}{o:D}{n:Nat}{st:Sto}{Q:DK},k.nest+2<=n->Q k.d st->sem P G n "_law_turned" [k.d,.int m,.int l,o] st Q:=by
 have two:∀{w:String}{a b:Kd}{m l:Int}{o:D}{n:Nat}{st:Sto}{Q:DK},w≠"without"->(∀(st:Sto)(Q:DK),Q a.d st->sem P G n "_law_turned" [a.d,.int m,.int l,o] st Q)->(∀(st:Sto)(Q:DK),Q b.d st->sem P G n "_law_turned" [b.d,.int m,.int l,o] st Q)->Q (.tup [.str w,a.d,b.d]) st->sem P G (n+1) "_law_turned" [.tup [.str w,a.d,b.d],.int m,.int l,o] st Q:=by
  intro w a b m l o n st Q hw h1 h2 q;refine A9 ht hw (prs:=[(a.d,a.d),(b.d,b.d)]) (λe he=>?_) ∎ q;simp only[AL,AW,or_false]at he
  rcases he with rfl|rfl
  ·obtain⟨xs,ea⟩:=L8 a;exact .inr (.inr ⟨xs,ea,h1⟩)
  ·obtain⟨xs,eb⟩:=L8 b;exact .inr (.inr ⟨xs,eb,h2⟩)
 intro k
 induction k with
 |non=>intro m l o n st Q hn q;obtain⟨n,rfl⟩:∃j,n=j+1:=⟨n-1,⋯⟩;exact A9 ht (w:="none") ∅ (prs:=[]) ∎ ∅ q
 |one=>intro m l o n st Q hn q;obtain⟨n,rfl⟩:∃j,n=j+1:=⟨n-1,⋯⟩;exact A9 ht (w:="one") ∅ (prs:=[]) ∎ ∅ q
 |eith a b iha ihb=>intro m l o n st Q hn q;simp only[Kd.nest]at hn;obtain⟨n,rfl⟩:∃j,n=j+1:=⟨n-1,⋯⟩;exact two ∅ (λst Q h=>iha ⋯ h) (λst Q h=>ihb ⋯ h) q
 |both a b iha ihb=>intro m l o n st Q hn q;simp only[Kd.nest]at hn;obtain⟨n,rfl⟩:∃j,n=j+1:=⟨n-1,⋯⟩;exact two ∅ (λst Q h=>iha ⋯ h) (λst Q h=>ihb ⋯ h) q
 |way a b iha ihb=>intro m l o n st Q hn q;simp only[Kd.nest]at hn;obtain⟨n,rfl⟩:∃j,n=j+1:=⟨n-1,⋯⟩;exact two ∅ (λst Q h=>iha ⋯ h) (λst Q h=>ihb ⋯ h) q
omit ht in
theorem am5(p:Pg)(u:Nat):∃xs,p.sn u=.tup xs:=by
 cases p<;>first|exact⟨_,rfl⟩|(simp only[Pg.sn];split<;>exact⟨_,rfl⟩)
def a91{m l:Int}{o:D}(ho:o=.non\/∃xs,o=.tup xs):∀(h:Nat)(p:Pg){u n:Nat}{st:Sto}{Q:DK},p.hgt<=h->h+12<=n->p.kn 7->Q (p.sg (tnG m l o) u) st->sem P G n "_law_turned" [p.sn u,.int m,.int l,o] st Q:=by
 intro h
 induction h with
 |zero=>intro p u n st Q hp;cases p<;>simp only[Pg.hgt]at hp<;>lia
 |succ h ih=>
  intro p u n st Q hp hn h7 q;obtain⟨n,rfl⟩:∃j,n=j+1:=⟨n-1,⋯⟩;have kid:∀(t:Pg)(v:Nat),t.hgt<=h->t.kn 7->TOk P G n m l o (t.sn v) (t.sg (tnG m l o) v):=λt v h1 h2=>by
   obtain⟨xs,e⟩:=am5 t v;exact .inr (.inr ⟨xs,e,λst Q hq=>ih t h1 ⋯ h2 hq⟩)
  have knd:∀b:Kd,b.nest<=7->TOk P G n m l o b.d b.d:=λb hb=>by
   obtain⟨xs,e⟩:=L8 b;exact .inr (.inr ⟨xs,e,λst Q hq=>b74 ht b ⋯ hq⟩)
  cases p
  case name j=>
   simp only[Pg.sg]at q;simp only[Pg.sn]
   split
   ·rename_i hj;rw[if_pos hj]at q;exact A9 ht (w:="within") ∅ (prs:=[(.int j,.int j)]) (λe he=>by simp only[Bg]at he;subst he;exact .inr (.inl ⟨_,rfl,rfl⟩)) ∎ q
   ·rename_i hj;rw[if_neg hj]at q;refine f9 ht rfl [AA (.tup [.str "without",.int ((j:Int)-u)]),AA (.int m),AA (.int l),AA o,AD,AD] rfl ?_;unfold U4;(iterate 2 ∎);have two:∀{F:DEnds},F.rt=(j8 Q).rt->Q (if l<=(j:Int)-u then wo ((j:Int)-u+m)else wo ((j:Int)-u)) st->g9 (Zg P G n) (.cons (.iff (.cmp .GtE (.ix (.v 0) (.int 1)) (.v 2)) (.cons (.ret (.tup (.cons (.str "without") (.cons (.bin .Add (.ix (.v 0) (.int 1)) (.v 1)) .nil)))) .nil) .nil) (.cons (.ret (.v 0)) .nil)) F [AA (.tup [.str "without",.int ((j:Int)-u)]),AA (.int m),AA (.int l),AA o,AD,AD] st:=by
     intro F eF q;∎
     by_cases hl:l<=(j:Int)-u
     ·rw[if_pos hl]at q;rw[if_pos hl];∎;rw[eF];exact c0 q
     ·rw[if_neg hl]at q;rw[if_neg hl];∎;rw[eF];exact c0 q
    unfold tnG at q
    rcases ho with rfl|⟨xs,rfl⟩
    ·refine .inl ⟨rfl,?_⟩;rw[if_neg ∎]at q;exact two rfl q
    ·refine .inr ⟨nofun,?_⟩;rfl'
     by_cases h0:(j:Int)-u=0
     ·rw[if_pos h0];rw[if_pos ⟨nofun,h0⟩]at q;∎;exact c0 q
     ·rw[if_neg h0];rw[if_neg (λz=>h0 z.2)]at q;exact two rfl q
  case star=>
   exact A9 ht (w:="star") ∅ (prs:=[]) ∎ ∎ q
  case pair t v=>
   simp only[Pg.hgt]at hp;simp only[Pg.kn]at h7;refine A9 ht (w:="pair") ∅ (prs:=[(t.sn u,t.sg (tnG m l o) u),(v.sn u,v.sg (tnG m l o) u)]) (λe he=>?_) ∎ q;simp only[AL,AW,or_false]at he
   rcases he with rfl|rfl
   ·exact kid t _ ⋯ h7.1
   ·exact kid v _ ⋯ h7.2
  case first t=>
   simp only[Pg.hgt]at hp;simp only[Pg.kn]at h7;refine A9 ht (w:="first") ∅ (prs:=[(t.sn u,t.sg (tnG m l o) u)]) (λe he=>?_) ∎ q;simp only[AL,AW,or_false]at he
   rcases he with rfl
   ·exact kid t _ ⋯ h7
  case second t=>
   simp only[Pg.hgt]at hp;simp only[Pg.kn]at h7;refine A9 ht (w:="second") ∅ (prs:=[(t.sn u,t.sg (tnG m l o) u)]) (λe he=>?_) ∎ q;simp only[AL,AW,or_false]at he
   rcases he with rfl
   ·exact kid t _ ⋯ h7
  case left b t=>
   simp only[Pg.hgt]at hp;simp only[Pg.kn]at h7;refine A9 ht (w:="left") ∅ (prs:=[(b.d,b.d),(t.sn u,t.sg (tnG m l o) u)]) (λe he=>?_) ∎ q;simp only[AL,AW,or_false]at he
   rcases he with rfl|rfl
   ·exact knd b h7.1
   ·exact kid t _ ⋯ h7.2
  case right b t=>
   simp only[Pg.hgt]at hp;simp only[Pg.kn]at h7;refine A9 ht (w:="right") ∅ (prs:=[(b.d,b.d),(t.sn u,t.sg (tnG m l o) u)]) (λe he=>?_) ∎ q;simp only[AL,AW,or_false]at he
   rcases he with rfl|rfl
   ·exact knd b h7.1
   ·exact kid t _ ⋯ h7.2
  case case t v w=>
   simp only[Pg.hgt]at hp;simp only[Pg.kn]at h7;refine A9 ht (w:="case") ∅ (prs:=[(t.sn u,t.sg (tnG m l o) u),(v.sn (u+1),v.sg (tnG m l o) (u+1)),(w.sn (u+1),w.sg (tnG m l o) (u+1))]) (λe he=>?_) ∎ q;simp only[AL,AW,or_false]at he
   rcases he with rfl|rfl|rfl
   ·exact kid t _ ⋯ h7.1
   ·exact kid v _ ⋯ h7.2.1
   ·exact kid w _ ⋯ h7.2.2
  case way b t=>
   simp only[Pg.hgt]at hp;simp only[Pg.kn]at h7;refine A9 ht (w:="way") ∅ (prs:=[(b.d,b.d),(t.sn (u+1),t.sg (tnG m l o) (u+1))]) (λe he=>?_) ∎ q;simp only[AL,AW,or_false]at he
   rcases he with rfl|rfl
   ·exact knd b h7.1
   ·exact kid t _ ⋯ h7.2
  case give t v=>
   simp only[Pg.hgt]at hp;simp only[Pg.kn]at h7;refine A9 ht (w:="give") ∅ (prs:=[(t.sn u,t.sg (tnG m l o) u),(v.sn u,v.sg (tnG m l o) u)]) (λe he=>?_) ∎ q;simp only[AL,AW,or_false]at he
   rcases he with rfl|rfl
   ·exact kid t _ ⋯ h7.1
   ·exact kid v _ ⋯ h7.2
  case lets t v=>
   simp only[Pg.hgt]at hp;simp only[Pg.kn]at h7;refine A9 ht (w:="let") ∅ (prs:=[(t.sn u,t.sg (tnG m l o) u),(v.sn (u+1),v.sg (tnG m l o) (u+1))]) (λe he=>?_) ∎ q;simp only[AL,AW,or_false]at he
   rcases he with rfl|rfl
   ·exact kid t _ ⋯ h7.1
   ·exact kid v _ ⋯ h7.2
  case never b t=>
   simp only[Pg.hgt]at hp;simp only[Pg.kn]at h7;refine A9 ht (w:="never") ∅ (prs:=[(b.d,b.d),(t.sn u,t.sg (tnG m l o) u)]) (λe he=>?_) ∎ q;simp only[AL,AW,or_false]at he
   rcases he with rfl|rfl
   ·exact knd b h7.1
   ·exact kid t _ ⋯ h7.2
end
def bk1{g:Int->D}(hf:∀n u,((Pg.name n).mp f u).sn u=(Pg.name n).sg g u)(p:Pg):∀u,(p.mp f u).sn u=p.sg g u:=by
 induction p with
 |name n=>exact hf n
 |star=>intro u;rfl
 |pair t v iht ihv=>intro u;simp only[Pg.mp,Pg.sn,Pg.sg,iht,ihv]
 |give t v iht ihv=>intro u;simp only[Pg.mp,Pg.sn,Pg.sg,iht,ihv]
 |lets t v iht ihv=>intro u;simp only[Pg.mp,Pg.sn,Pg.sg,iht,ihv]
 |case t v w iht ihv ihw=>intro u;simp only[Pg.mp,Pg.sn,Pg.sg,iht,ihv,ihw]
 |first t iht=>intro u;simp only[Pg.mp,Pg.sn,Pg.sg,iht]
 |second t iht=>intro u;simp only[Pg.mp,Pg.sn,Pg.sg,iht]
 |left b t iht=>intro u;simp only[Pg.mp,Pg.sn,Pg.sg,iht]
 |right b t iht=>intro u;simp only[Pg.mp,Pg.sn,Pg.sg,iht]
 |way b t iht=>intro u;simp only[Pg.mp,Pg.sn,Pg.sg,iht]
 |never b t iht=>intro u;simp only[Pg.mp,Pg.sn,Pg.sg,iht]
def c20(p:Pg)(m l:Nat):(p.lf m l).sn 0=p.sg (tnG m l .non) 0:=by
 refine bk1 (λn u=>?_) p 0;have e0:∀j:Int,tnG m l .non j=if(l:Int)<=j then wo (j+m)else wo j:=λj=>by unfold tnG;rw[if_neg (λz=>z.1 rfl)]
 rw[Y7];simp only[Pg.sn,Pg.sg,e0,wo]
 by_cases h1:n<u
 ·have h2:¬u+l<=n:=by lia
  simp only[h1,h2,if_true,if_false]
 ·by_cases h2:u+l<=n
  ·have h3:¬n+m<u:=by lia
   have h4:(l:Int)<=(n:Int)-u:=by lia
   have h5:(((n+m:Nat):Int)-u)=(n:Int)-u+m:=by lia
   simp only[h1,h2,h3,h4,if_true,if_false,h5]
  ·have h4:¬(l:Int)<=(n:Int)-u:=by lia
   simp only[h1,h2,h4,if_false]
def cx7(p:Pg)(u:Nat):∀c,(p.mp (lfF u 0) c).sn (c+u)=p.sn c:=by
 induction p with
 |name n=>
  intro c;rw[Y7];simp only[Pg.sn]
  by_cases h:c+0<=n
  ·rw[if_pos h,if_neg ⋯,if_neg ⋯]
   congr 4
   lia
  ·rw[if_neg h,if_pos ⋯,if_pos ⋯]
 |star=>intro c;rfl
 |pair t v iht ihv=>intro c;simp only[Pg.mp,Pg.sn,iht,ihv]
 |give t v iht ihv=>intro c;simp only[Pg.mp,Pg.sn,iht,ihv]
 |lets t v iht ihv=>intro c;have:=ihv (c+1);rw[FQ]at this;simp only[Pg.mp,Pg.sn,iht,this]
 |case t v w iht ihv ihw=>intro c;have h1:=ihv (c+1);have h2:=ihw (c+1);rw[FQ]at h1 h2;simp only[Pg.mp,Pg.sn,iht,h1,h2]
 |first t iht=>intro c;simp only[Pg.mp,Pg.sn,iht]
 |second t iht=>intro c;simp only[Pg.mp,Pg.sn,iht]
 |left b t iht=>intro c;simp only[Pg.mp,Pg.sn,iht]
 |right b t iht=>intro c;simp only[Pg.mp,Pg.sn,iht]
 |way b t iht=>intro c;have:=iht (c+1);rw[FQ]at this;simp only[Pg.mp,Pg.sn,this]
 |never b t iht=>intro c;simp only[Pg.mp,Pg.sn,iht]
def c24(p o:Pg):(p.sb o).sn 0=p.sg (tnG (-1) 1 (o.sn 0)) 0:=by
 obtain⟨xs,eo⟩:=am5 o 0;have hne:o.sn 0≠.non:=by rw[eo];exact nofun
 refine bk1 (λn u=>?_) p 0;simp only[Pg.mp,sbF,Pg.sg,tnG,wo]
 by_cases h1:n<u
 ·rw[if_pos h1,if_pos h1];simp only[Do,Pg.sn];rw[if_pos h1]
 ·rw[if_neg h1,if_neg h1]
  by_cases h2:n=u
  ·rw[if_pos h2,if_pos ⟨hne,⋯⟩];have:=cx7 o u 0;rw[HG]at this;exact this
  ·rw[if_neg h2,if_neg (λz=>h2 (by have:=z.2;lia)),if_pos ⋯];simp only[Hi,Pg.sn];rw[if_neg ⋯]
   congr 4
   lia
def B6:(D.tup ds).lit=D.lits ds:=rfl
def B4{d:D}{r:List D}:D.lits (d::r)=(d.lit&&D.lits r):=rfl
def B5:D.lits []=AC:=rfl
def b28{i:Int}:(D.int i).lit=AC:=rfl
def E1(k:Kd):k.d.lit=AC:=by
 induction k<;>simp only[Kd.d,B6,B4,B5,A8,Av, *]
def am7(p:Pg):∀u,(p.sn u).lit=AC:=by
 induction p with
 |name n=>intro u;simp only[Pg.sn];split<;>simp only[B6,B4,B5,A8,b28,Av]
 |star=>intro u;simp only[Pg.sn,B6,B4,B5,A8,E1,Av]
 |pair t v iht ihv=>intro u;simp only[Pg.sn,B6,B4,B5,A8,E1,Av,iht,ihv]
 |give t v iht ihv=>intro u;simp only[Pg.sn,B6,B4,B5,A8,E1,Av,iht,ihv]
 |lets t v iht ihv=>intro u;simp only[Pg.sn,B6,B4,B5,A8,E1,Av,iht,ihv]
 |case t v w iht ihv ihw=>intro u;simp only[Pg.sn,B6,B4,B5,A8,E1,Av,iht,ihv,ihw]
 |first t iht=>intro u;simp only[Pg.sn,B6,B4,B5,A8,E1,Av,iht]
 |second t iht=>intro u;simp only[Pg.sn,B6,B4,B5,A8,E1,Av,iht]
 |left b t iht=>intro u;simp only[Pg.sn,B6,B4,B5,A8,E1,Av,iht]
 |right b t iht=>intro u;simp only[Pg.sn,B6,B4,B5,A8,E1,Av,iht]
 |way b t iht=>intro u;simp only[Pg.sn,B6,B4,B5,A8,E1,Av,iht]
 |never b t iht=>intro u;simp only[Pg.sn,B6,B4,B5,A8,E1,Av,iht]
def c09(p:Pg):∀{u:Nat},p.kn m->l5 (p.sn u)<=p.hgt+m+1:=by
 have mx:∀a b c:Nat,a<=c->b<=c->max a b<=c:=λa b c h h'=>Kb.mpr ⟨h,h'⟩;have l1:∀a b:Nat,a<=max a b:=λa b=>Ip a b;have l2:∀a b:Nat,b<=max a b:=λa b=>IX a b
 induction p with
 |name n=>intro u h;simp only[Pg.sn,Pg.hgt];split<;>simp only[o4,l7,l8,O3]<;>simp
 |star=>intro u h;simp only[Pg.sn,o4,l7,l8,Pg.hgt];simp
 |pair t v iht ihv=>intro u h;simp only[Pg.sn,o4,l7,l8,Pg.hgt];have:=iht (u:=u) h.1;have:=ihv (u:=u) h.2;have:=l1 t.hgt v.hgt;have:=l2 t.hgt v.hgt;apply Ay;refine mx _ _ _ ⋯ (mx _ _ _ ⋯ (mx _ _ _ ⋯ ⋯))
 |give t v iht ihv=>intro u h;simp only[Pg.sn,o4,l7,l8,Pg.hgt];have:=iht (u:=u) h.1;have:=ihv (u:=u) h.2;have:=l1 t.hgt v.hgt;have:=l2 t.hgt v.hgt;apply Ay;refine mx _ _ _ ⋯ (mx _ _ _ ⋯ (mx _ _ _ ⋯ ⋯))
 |lets t v iht ihv=>intro u h;simp only[Pg.sn,o4,l7,l8,Pg.hgt];have:=iht (u:=u) h.1;have:=ihv (u:=u+1) h.2;have:=l1 t.hgt v.hgt;have:=l2 t.hgt v.hgt;apply Ay;refine mx _ _ _ ⋯ (mx _ _ _ ⋯ (mx _ _ _ ⋯ ⋯))
 |first t iht=>intro u h;simp only[Pg.sn,o4,l7,l8,Pg.hgt];have:=iht (u:=u) h;apply Ay;refine mx _ _ _ ⋯ (mx _ _ _ ⋯ ⋯)
 |second t iht=>intro u h;simp only[Pg.sn,o4,l7,l8,Pg.hgt];have:=iht (u:=u) h;apply Ay;refine mx _ _ _ ⋯ (mx _ _ _ ⋯ ⋯)
 |left b t iht=>intro u h;simp only[Pg.sn,o4,l7,l8,u6,Pg.hgt];have:=iht (u:=u) h.2;have:=h.1;apply Ay;refine mx _ _ _ ⋯ (mx _ _ _ ⋯ (mx _ _ _ ⋯ ⋯))
 |right b t iht=>intro u h;simp only[Pg.sn,o4,l7,l8,u6,Pg.hgt];have:=iht (u:=u) h.2;have:=h.1;apply Ay;refine mx _ _ _ ⋯ (mx _ _ _ ⋯ (mx _ _ _ ⋯ ⋯))
 |way b t iht=>intro u h;simp only[Pg.sn,o4,l7,l8,u6,Pg.hgt];have:=iht (u:=u+1) h.2;have:=h.1;apply Ay;refine mx _ _ _ ⋯ (mx _ _ _ ⋯ (mx _ _ _ ⋯ ⋯))
 |never b t iht=>intro u h;simp only[Pg.sn,o4,l7,l8,u6,Pg.hgt];have:=iht (u:=u) h.2;have:=h.1;apply Ay;refine mx _ _ _ ⋯ (mx _ _ _ ⋯ (mx _ _ _ ⋯ ⋯))
 |case t v w iht ihv ihw=>intro u h;simp only[Pg.sn,o4,l7,l8,Pg.hgt];have:=iht (u:=u) h.1;have:=ihv (u:=u+1) h.2.1;have:=ihw (u:=u+1) h.2.2;have:=l1 t.hgt (max v.hgt w.hgt);have:=l2 t.hgt (max v.hgt w.hgt);have:=l1 v.hgt w.hgt;have:=l2 v.hgt w.hgt;apply Ay;refine mx _ _ _ ⋯ (mx _ _ _ ⋯ (mx _ _ _ ⋯ (mx _ _ _ ⋯ ⋯)))
def Y9{a b c:Nat}(h:b<=c):DM a b<=c:=BC (GB _ _) h
def ab0(h:p.kn 6):p.kn 7:=by
 induction p with
 |name n=>trivial
 |star=>trivial
 |pair t v iht ihv=>exact⟨iht h.1,ihv h.2⟩
 |give t v iht ihv=>exact⟨iht h.1,ihv h.2⟩
 |lets t v iht ihv=>exact⟨iht h.1,ihv h.2⟩
 |case t v w iht ihv ihw=>exact⟨iht h.1,ihv h.2.1,ihw h.2.2⟩
 |first t iht=>exact iht h
 |second t iht=>exact iht h
 |left b t iht=>exact⟨Dt h.1,iht h.2⟩
 |right b t iht=>exact⟨Dt h.1,iht h.2⟩
 |way b t iht=>exact⟨Dt h.1,iht h.2⟩
 |never b t iht=>exact⟨Dt h.1,iht h.2⟩
def b71(h:l<=xs.length):r9 xs AD (AA (l:Int))=xs.take l:=by
 unfold r9;rw[HT.sIx_none,HT.sIx_nat,GV,IV,Gc h]
def b79(h:l<=xs.length):r9 xs (AA (l:Int)) AD=xs.drop l:=by
 unfold r9;rw[HT.sIx_none,HT.sIx_nat,Gc h,Cc (by rw[CS];lia)]
section
variable (B:PB P) (J:PNm P G) (T:PNo P G) (hs:P "_law_seen"=AA P4) (ht:P "_law_turned"=AA U4) 
include B J T hs ht
def cq9(hlaw:P "law"=AA Y2){ns:List Int}(hn:60<=n)(hl:ns.length<=63)(h:rdS st a (ns.map D.int)):sem P G n "law" [.ref a] st λd _=>d=.bl AC:=by
 obtain⟨n,rfl⟩:∃m,n=m+2:=⟨n-2,⋯⟩;refine f9 hlaw rfl [AA (.ref a),AD,AD,AD,AD,AD,AD,AD,AD,AD,AD,AD] rfl ?_;unfold Y2;∎;refine⟨by rw[B.deck];rfl,ci8 B.toPB0 ⋯ hl h λda st1 I1 _=>?_⟩;∎;refine⟨by rw[B.names];rfl,b99 B (most:=3) (lines:=64) ⋯ ∅ ∅ ∅ I1 λΓ st2 hΓ hk hr I2 _=>?_⟩;∎;refine⟨by rw[B.kind];rfl,Q3 B.toPB0 (most:=16) ∅ ∅ 3 ⋯ I2 λk st3 gk bk nk I3 _=>?_⟩;∎;refine⟨by rw[B.program];rfl,by rw[B.next];rfl,z9 B.toPB0 (m:=20) ∅ I3 λr4 st4 r40 r41 I4 _=>?_⟩;rfl';refine ag3 B ⋯ ⋯ I4 gk (Kd.bd_mono ∅ bk) ⋯ ⋯ λp st5 kp hp pp mp cp I5 _=>?_;obtain⟨pp,_⟩:=cp ⋯;∎;refine⟨by rw[B.next];rfl,z9 B.toPB0 (m:=3) ∅ I5 λr6 st6 r60 r61 I6 _=>?_⟩;rfl';refine⟨⟨⋯,⋯⟩,by simp only[t4,AT,List.length_range];lia,?_⟩;refine G7 (λl acc env' st'=>∃(M:List Kd)(x:Option D),acc=M.map Kd.d/\M.length+l.length=(1+r6).toNat/\env'=[AA (.ref da),x]/\(∀k∈M,k.nest<=1)/\p9 st' da) ?_ ?_ _ _ _ _ ⟨[],AD,rfl,by simp[t4],rfl,∎,I6⟩
 rotate_left
 ·rintro d ds acc env' st' ih ⟨M,x,rfl,e1,rfl,e3,I⟩;refine⟨trivial,?_⟩;refine⟨by rw[B.kind];rfl,_,rfl,Q3 B.toPB0 (most:=4) ∅ ∅ 1 ⋯ I λc s2 g b nn I' _=>?_⟩;refine ih _ _ _ ⟨M++[c],_,∎,by simp at e1 ⊢;lia,rfl,λy hy=>?_,I'⟩
  rcases BK.mp hy with hy|hy
  ·exact e3 y hy
  ·simp only[Bg]at hy;subst hy;exact nn
 rintro acc env' st7 ⟨M,x,rfl,e1,rfl,hM,I7⟩;refine⟨trivial,λpm hpm=>?_⟩;simp only[BH,Jq]at e1;have I8:p9 (b0 st7 pm (.lst (M.map Kd.d))) da:=I7.new hpm;revert I8;generalize b0 st7 pm (.lst (M.map Kd.d))=st8;intro I8;∎;refine⟨by rw[B.next];rfl,z9 B.toPB0 (m:=(Γ.map Kd.d).length+1) ⋯ I8 λl st9 l0 l1 I9 _=>?_⟩;obtain⟨l,rfl⟩:∃j:Nat,l=(j:Int):=⟨l.toNat,⋯⟩;rw[AT]at l1;∎;rw[AT];have p7:p.kn 7:=ab0 mp;have nn:∀p o:Pg,p=o->(!deq p.d o.d)=AE:=λp o e=>by rw[bc5];simp[e]
 have ns:∀(q:Pg)(x:D),q.sn 0=x->q.hgt<=100->q.kn 7->(q.sn 0).pure=AC/\x.pure=AC/\DM (l5 (q.sn 0)) (l5 x)<=150/\(!deq (q.sn 0) x)=AE:=λq x e h1 h2=>by
  subst e;exact⟨ai9 _ (am7 q 0),ai9 _ (am7 q 0),Y9 (BC (c09 q h2) ⋯),by rw[cc0 (am7 q 0)];rfl⟩
 refine⟨by rw[J.lift];rfl,ah6 J (p:=p) (m:=M.length) (l:=l) ⋯ ⋯ λst10 K10=>?_⟩;have I10:=I9.keep K10 ∎;∎;refine⟨by rw[ht];rfl,by rw[hs];rfl,V1 (v:=0) rfl (V3 B hs 15 p hp ⋯ ⋯ λst11 K11=>?_)⟩;have I11:=I10.keep K11 ∎;rfl';rw[AT];refine a91 ht (.inl rfl) 15 p hp ⋯ p7 ?_;∎;have lh:(p.lf M.length l).hgt<=15:=BC bh0 hp;refine⟨by rw[hs];rfl,V1 (v:=0) rfl (V3 B hs 15 (p.lf M.length l) lh ⋯ ⋯ λst12 K12=>?_)⟩;have I12:=I11.keep K12 ∎;obtain⟨n1,n2,n3,n4⟩:=ns (p.lf M.length l) _ (c20 p M.length l) ⋯ (an7 p7);rw[W3,n4];refine⟨n1,n2,n3,?_⟩;rfl';∎;have hl':l<=Γ.length:=by lia
 rw[b71 (by rw[AT];exact hl'),b79 (by rw[AT];exact hl'),<-Ke,<-Kf,<-Ag,<-Ag];have hg:∀y∈Γ.take l++M++Γ.drop l,y.nest<=6:=by
  intro y hy
  rcases BK.mp hy with hy|hy
  ·rcases BK.mp hy with hy|hy
   ·have:=(hk y (List.mem_of_mem_take hy)).2.2;lia
   ·have:=hM y hy;lia
  ·have:=(hk y (List.mem_of_mem_drop hy)).2.2;lia
 have nk:∀q:Kd,q.nest<=7->q.d.pure=AC/\q.d.pure=AC/\DM (l5 q.d) (l5 q.d)<=150/\(!deq q.d q.d)=AE:=λq hq=>⟨A0 q,A0 q,Y9 (by rw[u6];lia),by rw[F6];simp⟩;have tl:(Γ.take l).length=l:=by rw[Bl];lia
 refine⟨by rw[T.ko];rfl,B8 (by simp only[AT,Bl];lia),B8 (by simp only[AT,AX,Bl,CS];lia),?_⟩;refine av6 T ⋯ (by unfold Pg.lf;rw[az5];lia) hg (by simp only[AX,Bl,CS];lia) (k:=k) ?_ (an7 mp) λst13 K13=>?_
 ·have:=ax3 (p:=p) (Γ₁:=Γ.take l) (Γ₂:=Γ.drop l) (M:=M) (k:=k) (by rw[DQ];exact kp);rw[tl]at this;rw[Bk];exact this
 have I13:=I12.keep K13 ∎;obtain⟨n5,n6,n7,n8⟩:=nk k ⋯;rw[W3,n8];refine⟨n5,n6,n7,?_⟩;rfl';∎;refine⟨by rw[J.lift];rfl,ah6 J (p:=p) (m:=0) (l:=l) ⋯ ⋯ λst14 K14=>?_⟩;have I14:=I13.keep K14 ∎;rw[ak5,W3,nn p p rfl];refine⟨Z3 _,Z3 _,Y9 (BC (bp1 p mp) ⋯),?_⟩;rfl';∎;refine⟨by rw[B.kind];rfl,Q3 B.toPB0 (most:=9) ∅ ∅ 2 ⋯ I14 λkb st15 gb bb nb I15 _=>?_⟩;∎;refine⟨by rw[B.program];rfl,by rw[B.next];rfl,z9 B.toPB0 (m:=12) ∅ I15 λr7 st16 r70 r71 I16 _=>?_⟩;rfl';refine ag3 B ⋯ ⋯ I16 gb (Kd.bd_mono ∅ bb) ⋯ ⋯ λo st17 ko ho po mo co I17 _=>?_;obtain⟨po,_⟩:=co ⋯;∎;rw[P9];refine⟨by rw[B.program];rfl,T5 (by simp only[AT];lia),by rw[B.next];rfl,z9 B.toPB0 (m:=20) ∅ I17 λr10 st18 r100 r101 I18 _=>?_⟩;rfl';refine ag3 B (Γ:=kb::Γ) ⋯ ⋯ I18 gk (Kd.bd_mono ∅ bk) ⋯ (by simp only[Ac];lia) λw st19 kw hw pw mw cw I19 _=>?_;obtain⟨pw,cw⟩:=cw ⋯;have cw:=cw 0 kb rfl (λz=>by subst z;exact gb);have hsz:(w.sb o).parts<=2000:=by
  have:=cc5 (o:=o) w (u:=0);unfold Pg.sb;have h2:w.oc 0*o.parts<=w.oc 0*60:=Nat.mul_le_mul_left _ ⋯;lia
 have sh:(w.sb o).hgt<=30:=BC cs9 ⋯;∎;refine⟨by rw[J.put];rfl,ay7 J (p:=w) (o:=o) ⋯ ⋯ ⋯ ⋯ λst20 K20=>?_⟩;∎;refine⟨by rw[ht];rfl,by rw[hs];rfl,V1 (v:=0) rfl (V3 B hs 15 w hw ⋯ ⋯ λst21 K21=>?_)⟩;rfl';refine⟨by rw[hs];rfl,V1 (v:=0) rfl (V3 B hs 15 o ho ⋯ ⋯ λst22 K22=>?_)⟩;rfl';refine a91 ht (.inr (am5 o 0)) 15 w hw ⋯ (ab0 mw) ?_;∎;refine⟨by rw[hs];rfl,V1 (v:=0) rfl (V3 B hs 30 (w.sb o) sh ⋯ ⋯ λst23 K23=>?_)⟩;obtain⟨m1,m2,m3,m4⟩:=ns (w.sb o) _ (c24 w o) ⋯ (bo4 (ab0 mo) (ab0 mw));rw[W3,m4];refine⟨m1,m2,m3,?_⟩;rfl';∎;refine⟨by rw[T.ko];rfl,av6 T ⋯ hsz (λy hy=>by have:=(hk y hy).2.2;lia) ⋯ (k:=k) (cd0 kw ko) (bo4 mo mw) λst24 K24=>?_⟩;rw[W3,n8];refine⟨n5,n6,n7,?_⟩;rfl';∎;refine⟨by rw[J.put];rfl,ay7 J (p:=.name 0) (o:=o) ∅ ⋯ ∅ ⋯ λst25 K25=>?_⟩;rw[show(Pg.name 0).sb o=o from ak5 o 0,ao9,bc5];refine⟨Z3 _,Z3 _,Y9 (BC (bp1 o mo) ⋯),c0 ?_⟩;simp
end
def c59:PB Q0:=⟨⟨rfl,rfl,rfl,rfl,rfl,rfl⟩,rfl,rfl,rfl,rfl,rfl,rfl,rfl,rfl,rfl⟩
def c58:PNm Q0 z4:=by
 repeat' (first|rfl|(intro z;cases z;done)|constructor)
def c69:PNo Q0 z4:=by
 repeat' (first|rfl|(intro z;cases z;done)|constructor)
def b46(a:AI)(ns:List Int)(h:ns.length<=63):sem Q0 z4 80 "law" [.ref a] (st0 a ns) λd _=>d=.bl AC:=
 cq9 c59 c58 c69 rfl rfl rfl ∅ h (.inr (by unfold st0;rw[if_pos rfl]))
end Ek
namespace Ek
open PySem L2
abbrev top(i:Nat):BQ:=PySem.Challenge.pw_evenkinds_k24_lifted_and_put_in.main.body.getD i (.Pass ⟨0,0,0,0⟩)
abbrev mth(i k:Nat):BQ:=match top i with|.ClassDef _ _ _ b _ _ _ _ _ _ _=>b.getD k (.Pass ⟨0,0,0,0⟩)|_=>.Pass ⟨0,0,0,0⟩
def bv8:Stat0 (mth 15 2) U3 ["self","kind","deep"]:=⟨⟨rfl,rfl,rfl,by decide+kernel,rfl,by decide+kernel,by decide+kernel⟩,rfl,by decide+kernel⟩
def cn5{pr:Aj}{w:BB}{K:AO}{h:BI}{mg:Str->Option AG}{ts:List AI}(X:K.In h)(G:h.Ns AN mg){g0:AI}{g1:AI}{g2:AI}{kt0:Tok}{C0:AI}{C1:AI}
  (a0:FnA K ts AE "made_of_parts" (top 7))
  (a1:FnA K ts AE "order_of_few" (top 8))
  (a2:FnA K ts AE "taken" (top 10))
  (a3:FnA K ts AE "tuples_in" (top 14))
  (a4:FnA K ts AE "inner" (top 19))
  (a5:FnA K ts AE "with_inner" (top 20))
  (a6:FnA K ts AE "names_more" (top 21))
  (a7:FnA K ts AC "noded" (top 23))
  (a8:FnA K ts AE "used_names" (top 24))
  (a9:FnA K ts AE "used_by_parts" (top 25))
  (a10:FnA K ts AE "folded" (top 26))
  (a11:FnA K ts AE "known_for" (top 27))
  (a12:FnA K ts AE "kind_of" (top 28))
  (a13:FnA K ts AE "shelved_names" (top 29))
  (a14:FnA K ts AE "shelved_kind" (top 30))
  (a15:FnA K ts AC "kind_of_node" (top 31))
  (a16:FnA K ts AE "kind_by_parts" (top 32))
  (a17:FnA K ts AE "new_name" (top 33))
  (a18:FnA K ts AE "halves_of" (top 34))
  (a19:FnA K ts AE "kind_of_name" (top 35))
  (a20:FnA K ts AE "kind_of_star" (top 36))
  (a21:FnA K ts AE "kind_of_pair" (top 37))
  (a22:FnA K ts AE "kind_of_first" (top 38))
  (a23:FnA K ts AE "kind_of_second" (top 39))
  (a24:FnA K ts AE "kind_of_left" (top 40))
  (a25:FnA K ts AE "kind_of_right" (top 41))
  (a26:FnA K ts AE "kind_of_case" (top 42))
  (a27:FnA K ts AE "kind_of_way" (top 43))
  (a28:FnA K ts AE "kind_of_give" (top 44))
  (a29:FnA K ts AE "kind_of_let" (top 45))
  (a30:FnA K ts AE "kind_of_never" (top 46))
  (a31:FnA K ts AC "lifted" (top 49))
  (a32:FnA K ts AC "put_in" (top 50))
  (a33:FnA K ts AE "copy_under" (top 51))
  (a34:FnA K ts AC "with_parts" (top 52))
  (a35:FnA K ts AE "inner_under" (top 53))
  (a36:FnA K ts AE "_law_mixed" (top 55))
  (a37:FnA K ts AE "_law_deck" (top 56))
  (a38:FnA K ts AE "_law_next" (top 57))
  (a39:FnA K ts AE "_law_power" (top 58))
  (a40:FnA K ts AE "_law_count" (top 59))
  (a41:FnA K ts AE "_law_kind" (top 60))
  (a42:FnA K ts AE "_law_least" (top 61))
  (a43:FnA K ts AE "_law_made" (top 62))
  (a44:FnA K ts AE "_law_nest" (top 63))
  (a45:FnA K ts AE "_law_asked" (top 64))
  (a46:FnA K ts AE "_law_grown" (top 65))
  (a47:FnA K ts AE "_law_inner" (top 66))
  (a48:FnA K ts AE "_law_parts" (top 67))
  (a49:FnA K ts AE "_law_program" (top 68))
  (a50:FnA K ts AE "_law_names" (top 69))
  (a51:FnA K ts AE "_law_seen" (top 70))
  (a52:FnA K ts AE "_law_turned" (top 71))
  (a53:FnA K ts AE "law" (top 72))
  (bb:∀b∈P7,Ax K AN b=AA AD)
  (ga0:Ax K AN "INNER_FROM"=AA (AA (.ref g0))) (gt0:(letI:Tbs:=⟨ts,mFB,(z4.cls "!kt").isEmpty⟩;W2 K g0 (z4.tab "INNER_FROM"))=AC)
  (ga1:Ax K AN "UNDER_ONE_MORE"=AA (AA (.ref g1))) (gt1:(letI:Tbs:=⟨ts,mFB,(z4.cls "!kt").isEmpty⟩;W2 K g1 (z4.tab "UNDER_ONE_MORE"))=AC)
  (ga2:Ax K AN "BY_WORD"=AA (AA (.ref g2))) (gt2:(letI:Tbs:=⟨ts,mFB,(z4.cls "!kt").isEmpty⟩;W2 K g2 (z4.tab "BY_WORD"))=AC)
  (kc0:Ax K AN "FEW"=AA (AA (.int 2000 kt0)))
  (kx0:Ax K AN "!kt"=AA AD)
  (ky0:Ax K AN "!Shelf.laid_kind"=AA AD)
  (ca0:ClA K "Shelf" C0)
  (ca1:ClA K "Node" C1) (cf0_0:BR K (.ref C0) "numbers"=AA AD) (cf0_1:BR K (.ref C0) "stored"=AA AD) (cf0_2:BR K (.ref C0) "parts"=AA AD) (cf0_3:BR K (.ref C0) "waiting"=AA AD) (cf1_0:BR K (.ref C1) "program"=AA AD) (cf1_1:BR K (.ref C1) "inside"=AA AD) (cf1_2:BR K (.ref C1) "number"=AA AD) (cf1_3:BR K (.ref C1) "holders"=AA AD) (cf1_4:BR K (.ref C1) "ways"=AA AD) (cf1_5:BR K (.ref C1) "used"=AA AD) (cf1_6:BR K (.ref C1) "kind"=AA AD)
  (m0:MtA K ts AE "Shelf" C0 "__init__" (mth 15 0))
  (m1:MtA K ts AC "Shelf" C0 "laid" (mth 15 1))
  (m2:MtD K "Shelf" C0 "laid_kind" (mth 15 2) 3)
  (m3:MtA K ts AE "Shelf" C0 "built" (mth 15 3))
  (m4:MtA K ts AE "Shelf" C0 "numbered" (mth 15 4))
  (m5:MtA K ts AE "Shelf" C0 "put_by" (mth 15 5))
  (m6:MtA K ts AE "Shelf" C0 "taken_up" (mth 15 6))
  (m7:MtA K ts AE "Shelf" C0 "tuple_at" (mth 15 7))
  (m8:MtA K ts AE "Shelf" C0 "word_at" (mth 15 8))
  (m9:MtA K ts AE "Shelf" C0 "within" (mth 15 9))
  (m10:MtA K ts AE "Shelf" C0 "all_laid" (mth 15 10))
  (m11:MtA K ts AE "Node" C1 "__init__" (mth 22 0)) (nl:Q4 K=AC) (nt:Hz K=AC) (tso:ar5 K ts=AC) :
  (letI:Tbs:=⟨ts,mFB,(z4.cls "!kt").isEmpty⟩;AllOk pr w K mg Q0 z4)/\Q4 K=AC/\Hz K=AC/\∀P∈ts,∃c,Bx K c P=AC:=by
 letI:Tbs:=⟨ts,mFB,(z4.cls "!kt").isEmpty⟩
 refine⟨⟨λf d hf hi=>?_,λf d hf hi=>?_,λf c Ca hn hf=>?_,λb hb=>W.mg_none_of X G (bb b hb),λg hg=>?_,λg i hg=>?_,rfl⟩,nl,nt,cd8 tso⟩
 ·
  refine(?_:∀f d,(f,d)∈V2->isM f=AE->DefOk K mg f d) f d (PySem.mem_of_lookup hf) hi;unfold V2
  iterate 12 refine i5 (λhi=>absurd hi (by decide+kernel)) ?_
  refine i5 (λ_=>a0.ok X G) ?_;refine i5 (λ_=>a1.ok X G) ?_;refine i5 (λ_=>a2.ok X G) ?_;refine i5 (λ_=>a3.ok X G) ?_;refine i5 (λ_=>a4.ok X G) ?_;refine i5 (λ_=>a5.ok X G) ?_;refine i5 (λ_=>a6.ok X G) ?_;refine i5 (λ_=>a7.ok X G) ?_;refine i5 (λ_=>a8.ok X G) ?_;refine i5 (λ_=>a9.ok X G) ?_;refine i5 (λ_=>a10.ok X G) ?_;refine i5 (λ_=>a11.ok X G) ?_;refine i5 (λ_=>a12.ok X G) ?_;refine i5 (λ_=>a13.ok X G) ?_;refine i5 (λ_=>a14.ok X G) ?_;refine i5 (λ_=>a15.ok X G) ?_;refine i5 (λ_=>a16.ok X G) ?_;refine i5 (λ_=>a17.ok X G) ?_;refine i5 (λ_=>a18.ok X G) ?_;refine i5 (λ_=>a19.ok X G) ?_;refine i5 (λ_=>a20.ok X G) ?_;refine i5 (λ_=>a21.ok X G) ?_;refine i5 (λ_=>a22.ok X G) ?_;refine i5 (λ_=>a23.ok X G) ?_;refine i5 (λ_=>a24.ok X G) ?_;refine i5 (λ_=>a25.ok X G) ?_;refine i5 (λ_=>a26.ok X G) ?_;refine i5 (λ_=>a27.ok X G) ?_;refine i5 (λ_=>a28.ok X G) ?_;refine i5 (λ_=>a29.ok X G) ?_;refine i5 (λ_=>a30.ok X G) ?_;refine i5 (λ_=>a31.ok X G) ?_;refine i5 (λ_=>a32.ok X G) ?_;refine i5 (λ_=>a33.ok X G) ?_;refine i5 (λ_=>a34.ok X G) ?_;refine i5 (λ_=>a35.ok X G) ?_;refine i5 (λ_=>a36.ok X G) ?_;refine i5 (λ_=>a37.ok X G) ?_;refine i5 (λ_=>a38.ok X G) ?_;refine i5 (λ_=>a39.ok X G) ?_;refine i5 (λ_=>a40.ok X G) ?_;refine i5 (λ_=>a41.ok X G) ?_;refine i5 (λ_=>a42.ok X G) ?_;refine i5 (λ_=>a43.ok X G) ?_;refine i5 (λ_=>a44.ok X G) ?_;refine i5 (λ_=>a45.ok X G) ?_;refine i5 (λ_=>a46.ok X G) ?_;refine i5 (λ_=>a47.ok X G) ?_;refine i5 (λ_=>a48.ok X G) ?_;refine i5 (λ_=>a49.ok X G) ?_;refine i5 (λ_=>a50.ok X G) ?_;refine i5 (λ_=>a51.ok X G) ?_;refine i5 (λ_=>a52.ok X G) ?_;refine i5 (λ_=>a53.ok X G) ?_;exact bk3
 ·
  refine(?_:∀f d,(f,d)∈V2->isM f=AC->∃c m,f=c7 c m/\isM c=AE/\isM m=AE/\MthOk K mg (B3 z4.cls (c7 c m)) c m d) f d (PySem.mem_of_lookup hf) hi;unfold V2;refine i5 (λ_=>m0.ok ca0 X G) ?_;refine i5 (λ_=>m1.ok ca0 X G) ?_;refine i5 (λ_=>m2.ok ca0 X G bv8 (λ_ _ _ _ _ _ _ _ _ _ _ hT hS=>⟨bdS λ_=>bdS λ_=>bdS λ_=>bdZ (Gu rfl hT hS rfl rfl),λus hl=>match us,hl with|[_,_],_=>Gu rfl hT hS rfl rfl⟩)) ?_;refine i5 (λ_=>m3.ok ca0 X G) ?_;refine i5 (λ_=>m4.ok ca0 X G) ?_;refine i5 (λ_=>m5.ok ca0 X G) ?_;refine i5 (λ_=>m6.ok ca0 X G) ?_;refine i5 (λ_=>m7.ok ca0 X G) ?_;refine i5 (λ_=>m8.ok ca0 X G) ?_;refine i5 (λ_=>m9.ok ca0 X G) ?_;refine i5 (λ_=>m10.ok ca0 X G) ?_;refine i5 (λ_=>m11.ok ca1 X G) ?_
  iterate 54 refine i5 (λhi=>absurd hi (by decide+kernel)) ?_
  exact bk3
 ·
  unfold z4 at hf;simp only at hf
  by_cases hck:c="!kt"
  ·subst hck;rw[kx0]at hn;cases hn
  rw[if_neg hck]at hf
  by_cases hdk0:c="!Shelf.laid_kind"
  ·subst hdk0;rw[ky0]at hn;cases hn
  rw[if_neg hdk0]at hf
  by_cases hc0:c="Shelf"
  ·subst hc0;rw[ca0.a]at hn;cases hn;rw[if_pos rfl]at hf;simp only[AL,AW,or_false]at hf;refine⟨ca0.cl,?_⟩
   rcases hf with rfl|rfl|rfl|rfl
   ·exact cf0_0
   ·exact cf0_1
   ·exact cf0_2
   ·exact cf0_3
  rw[if_neg hc0]at hf
  by_cases hc1:c="Node"
  ·subst hc1;rw[ca1.a]at hn;cases hn;rw[if_pos rfl]at hf;simp only[AL,AW,or_false]at hf;refine⟨ca1.cl,?_⟩
   rcases hf with rfl|rfl|rfl|rfl|rfl|rfl|rfl
   ·exact cf1_0
   ·exact cf1_1
   ·exact cf1_2
   ·exact cf1_3
   ·exact cf1_4
   ·exact cf1_5
   ·exact cf1_6
  rw[if_neg hc1]at hf;exact absurd hf AW
 ·unfold z4 at hg ⊢;simp only at hg ⊢
  by_cases hg0:g="INNER_FROM"
  ·subst hg0;exact ak6 X G ga0 gt0
  rw[if_neg hg0]at hg
  by_cases hg1:g="UNDER_ONE_MORE"
  ·subst hg1;exact ak6 X G ga1 gt1
  rw[if_neg hg1]at hg
  by_cases hg2:g="BY_WORD"
  ·subst hg2;exact ak6 X G ga2 gt2
  rw[if_neg hg2]at hg;exact absurd rfl hg
 ·unfold z4 at hg;simp only at hg
  by_cases hg0:g="FEW"
  ·subst hg0;rw[if_pos rfl]at hg;cases hg;exact⟨_,HW X G kc0⟩
  rw[if_neg hg0]at hg;cases hg
end Ek
namespace PySem.W.Fast
local macro_rules|`(command|include $x*)=>do return Lean.mkNullNode (← x.mapM fun i=>Lean.MonadRef.withRef .missing `(command|theorem $i:ident:True:=⟨⟩))
include tw4041041268468436519 tw7524048229870473483 tw6038334520504356482 tw7481478747077333648 tw5126243186038639779 tw16417816821695491066 tw12000843527180694470 tw6842997018849813293 tw2255551814544747885 tw2077369321929366823 tw18264728440920987161 tw11837226188668154177 tw6736706089917766066 tw6126736147288026348 tw10310278585676913369 tw8327952471030652668 tw10885350291311254420 tw8704381024494882960 tw17491267445219625852 tw7182058204497078518 tw12440998980832801734 tw8014721364892648089 tw1032731398315592619 tw10220619329965677354 tw6787587474289251829 tw7337483861683542531 tw14710659386457134187 tw10852998896865908297 tw7951767863333648820 tw10287130829375987081 tw12345111660616929909 tw11382894042971034110 tw13310571330869193990 tw7472891464062348173 tw10435415291660032815 tw6299120989616872452 tw16592313819762376605 tw6380820568641898077 tw6657149657201779577 tw8895889612711483552 tw10717380666582668838 tw7900908936245771216 tw12674491302242605825 tw5686779999633211378 tw12931555646836725453 tw7945775457028862219 tw5911082907820949840 tw5599100974202678225 tw6158068137195915541 tw10585957203254221979 tw8590800157679680510 tw13627428157711124575 tw18316966432318304198 tw10781425495925600649 tw8141450378372715537 tw8660851293432037038 tw2010723942973128454 tw9410391972349055902 tw4760425302801694923 tw11734404226784779998 tw13301170880635060912 tw3054097546007295974 tw8930759712350189354 tw10965608069170162029 tw7766471131638958096 tw6266780633765700844 tw66034000265333656 tw7371116667306682664 tw10640629937904572653 tw13623384034195811304 tw15327882843167608707 tw2093492644304373391 tw6476809640697184446 tw1068240345690021019 tw11667320372906487611 tw1998033534854164363 tw14738528786013900918 tw15816923997800777314 tw4695360254839544908 tw17310428091429740219 tw2394480732027947615 tw3169158424529020651 tw113365955264712963 tw207176600070834414 tw16970158779892975279 tw15941608046409945520 tw13748857415886404715 tw12285959218019406802 tw7333118455738835968 tw6484934134487949652 tw11403624207404757418 tw10345577866495362320 tw7320340117018190705 tw7803872064924397143 tw4552911721966460412 tw4773971619127262499 tw12081648706537854933 tw11064623810618280526 tw16222224392352118184 tw3408820655186486936 tw3222260569861041125 tw4576242543676393753 tw16731513057667219868 tw14745578692498348797 tw9459752863681848716 tw18208597323162300386 tw9584765680827469818 tw13092915038986068281 tw16842750236087404205 tw9146497912102778260 tw14587479684813952332 tw6499904462636884883 tw9175144841124825575 tw3081467081838934518 tw7708250321257029399 tw735457878586294682 tw4188461201095975212 tw7939766955649078982 tw8720592357289091193 tw585533865133565902 tw12669548169981557806 tw3197962544192853223 tw12815830936911112952 tw1870394103845653346 tw4950439894786671290 tw1179861883476464628 tw4796296131040957961 tw10291050676618039410 tw17389002010894348316 tw17658617652971944040 tw8445400138813518815 tw17129972850297463714 tw2113761597885267244 tw16910410243602983788 tw4904747527171122824 tw1754514618288027465 tw4307408353070576237 tw8416115475851316352 tw11921028674473719961 tw3010953759902395917 tw2425213749741335473 tw8221539733748470877 tw15336223950349990810 tw4087995278803014480 tw639504794199541136 tw8981674929854104693 tw1292213444021220672 tw13661709663812539740 tw12421818623347194217 tw2171172920401104409 tw9548161927090634987 tw10359260616129998530 tw8570914045486480382 tw9780647049574300977 tw18357515759339024686 tw16783276301378221159 tw13097181679935927460 tw15778936364494494809 tw10758959347881412974 tw776897992061598774 tw7465491284268232758 tw14447964897536535845 tw13537759006907626201 tw2954564432594172215 tw6710991312603705481 tw6662361087430101538 tw7784167533398801863 tw18210629950285559736 tw8280467175033109391 tw10098173600270758028 tw10483159470028524157 tw4806628866868652754 tw18085735907390727995 tw17512335014125844398 tw3375208599170976688 tw1679371298752110703 tw12648221450350287798 tw11678980667898416630 tw16784798605319667824 tw11484845567817803307 tw9585718866240898371 tw12339115463893851060 tw5596372624929980173 tw9356941790316602251 tw502139313790947583 tw17530511196062033005 tw13708439177928191901 tw3851913080733750614 tw11898276113464411940 tw17325996078604761485 tw16545464333436066664 tw12852665777371129400 tw6797558711764374267 tw5409565097049482643 tw17157614921996224043 tw4098690564321029742 tw9348734347380044046 tw17157084450425358094 tw4985015463657464697 tw12291507239752638423 tw1531365043703200149 tw9963262332147429451 tw6839942470497426982 tw6519963551765824034 tw5761651628838921384 tw12312318423428051253 tw9554835876880162449 tw3407977229403045171 tw8820944356230038926 tw14199453763440518901 tw12654984708979869629 tw18327934358413189300 tw1715882317014346470 tw7098538971157123607 tw14055284205531719576 tw7229885881880888805 tw4042748382991673902 tw9367765140469327581 tw1934298218707807985 tw10664344384762023603 tw16725791362290327095 tw12488334163115231883 tw13057923160085597419 tw5907929662742796376 tw9534084235930747894 tw3915416887666705534 tw7487765658243325139 tw15005844789004250831 tw5019351970997655870 tw9916786916471997023 tw1121900741868556945 tw5103235230150212990 tw15270523943440495949 tw14224805206964608732 tw8482785370543686174 tw3598083423608576205 tw11952754163117669011 tw13324184782180853143 tw3798505876839477138 tw5567724372979976470 tw4515222482193583893 tw7813462431824357377 tw11686598159316521989 tw12536362498534088849 tw18073721423119563995 tw17019079360165772511 tw960188545183955935 tw7020200367607833622 tw13149059343811218751 tw3601772120767256628 tw13161075484109727530 tw10305833886306129780 tw5297774181771052313 tw10730366751143770066 tw862908849193344044 tw9378030491670415285 tw11711352983832280878 tw364725813851563603 tw14731562595974125031 tw4135543257670242212 tw3869528933641209624 tw13356818663278216097 tw18258651957675570664 tw10832408398561644378 tw8075483946427710708 tw17196958931504192171 tw17914810614721400697 tw11721926771858602793 tw5905479270940991168 tw12171263446661221941 tw5003146561973865840 tw16860310994248087771 tw16100702265026049267 tw4351198798459000278 tw11654064711567525294 tw12981957164639731969 tw8073916943534075400 tw14728642308116364264 tw2368593973822181327 tw17076846884074471047 tw16804455052571048070 tw3760435175763607007 tw7398654910995298468 tw8275167006767027666 tw4002904748414436007 tw7501745260769398909 tw753524312380311146 tw16578840452153942052 tw4306026970108401544 tw6069209119370656916 tw12818170690508557805 tw9858682187734700241 tw350473390966893902 tw14070531159247708833 tw18136629508824325494 tw5802104187327103757 tw5377470382625169425 tw2042647972922671882 tw1238200567270757223 tw10203202173250099971 tw17032361625583306477 tw11180095244439010900 tw9231163232084118166 tw14138734178629288448 tw16640821119980511061 tw10397829690711780914 tw10674330480323781697 tw14802202968490865406 tw15502385781169832422 tw7676665315682280568
end PySem.W.Fast
open PySem PySem.W PyProof.Rows
set_option maxRecDepth 100000 in
set_option maxHeartbeats 0 in
theorem PySem.Challenge.cw_evenkinds_k24_lifted_and_put_in_holds : PySem.Challenge.rw_evenkinds_k24_lifted_and_put_in.Holds := by
 w_on;o_law;k_head;(case hw=>w_witness2)
 k_fill
 refine Ek.cm3 (l:=PySem.Challenge.rw_evenkinds_k24_lifted_and_put_in) (P:=Ek.Q0) (G:=Ek.z4) (n:=80) (x:="_law_script") (dl:=Ek.Y2) rfl rfl rfl ⟨rfl,∅,∅⟩ (λw h Y=>⟨W.km_in_of Y,W.km_tabs_of Y⟩) rfl ?hst ?F Ek.b46
 case hst=>
  intro st ps S;have e:=S.sc.pre;have e2:=S.np;rw[e2]at e;exact e.symm
 case F=>
  intro w mg h KX G
  refine' Ek.cn5 KX G ?_ ?_ ?_ ?_ ?_ ?_ ?_ ?_ ?_ ?_ ?_ ?_ ?_ ?_ ?_ ?_ ?_ ?_ ?_ ?_ ?_ ?_ ?_ ?_ ?_ ?_ ?_ ?_ ?_ ?_ ?_ ?_ ?_ ?_ ?_ ?_ ?_ ?_ ?_ ?_ ?_ ?_ ?_ ?_ ?_ ?_ ?_ ?_ ?_ ?_ ?_ ?_ ?_ ?_ ?_ ?_ ?_ ?_ ?_ ?_ ?_ ?_ ?_ ?_ ?_ ?_ ?_ ?_ ?_ ?_ ?_ ?_ ?_ ?_ ?_ ?_ ?_ ?_ ?_ ?_ ?_ ?_ ?_ ?_ ?_ ?_ ?_ ?_ ?_ ?_ ?_ ?_
  rotate_left 6
  iterate 7 (refine' Ek.fnA ?a ?b ?c ?d;(case a=>k_is);(case b=>k_is);(case c=>k_is);(case d=>k_is))
  (refine' Ek.fnM ?a ?b ?c ?d ?e ?f ?g;(case a=>k_is);(case b=>k_is);(case c=>k_is);(case d=>k_is);(case e=>rfl);(case f=>kernel_rfl);(case g=>decide))
  iterate 7 (refine' Ek.fnA ?a ?b ?c ?d;(case a=>k_is);(case b=>k_is);(case c=>k_is);(case d=>k_is))
  (refine' Ek.fnM ?a ?b ?c ?d ?e ?f ?g;(case a=>k_is);(case b=>k_is);(case c=>k_is);(case d=>k_is);(case e=>rfl);(case f=>kernel_rfl);(case g=>decide))
  iterate 15 (refine' Ek.fnA ?a ?b ?c ?d;(case a=>k_is);(case b=>k_is);(case c=>k_is);(case d=>k_is))
  iterate 2 (refine' Ek.fnM ?a ?b ?c ?d ?e ?f ?g;(case a=>k_is);(case b=>k_is);(case c=>k_is);(case d=>k_is);(case e=>rfl);(case f=>kernel_rfl);(case g=>decide))
  (refine' Ek.fnA ?a ?b ?c ?d;(case a=>k_is);(case b=>k_is);(case c=>k_is);(case d=>k_is))
  (refine' Ek.fnM ?a ?b ?c ?d ?e ?f ?g;(case a=>k_is);(case b=>k_is);(case c=>k_is);(case d=>k_is);(case e=>rfl);(case f=>kernel_rfl);(case g=>decide))
  iterate 19 (refine' Ek.fnA ?a ?b ?c ?d;(case a=>k_is);(case b=>k_is);(case c=>k_is);(case d=>k_is))
  (intro b hb;simp only[Ek.P7,AL]at hb;(repeat' (rcases hb with rfl|hb))<;>k_is)
  k_is
  rfl
  k_is
  rfl
  k_is
  rfl
  iterate 3 k_is
  iterate 2 (refine' Ek.clA ?a ?b ?c ?d ?e ?f ?g;(case a=>k_is);(case b=>k_is);(case c=>k_is);(case d=>k_is);(case e=>k_is);(case f=>k_is);(case g=>k_is))
  iterate 11 k_is
  (refine' Ek.mtA ?a ?b ?c ?d ?e ?f;(case a=>k_is);(case b=>k_is);(case c=>k_is);(case d=>k_is);(case e=>k_is);(case f=>k_is))
  (refine' Ek.mtM ?a ?b ?c ?d ?e ?f ?g ?h ?i;(case a=>k_is);(case b=>k_is);(case c=>k_is);(case d=>k_is);(case e=>k_is);(case f=>k_is);(case g=>rfl);(case h=>kernel_rfl);(case i=>decide))
  (refine' Ek.mtD ?a ?b ?c ?d ?e ?f ?g;(case a=>k_is);(case b=>k_is);(case c=>k_is);(case d=>k_is);(case e=>k_is);(case f=>k_is);(case g=>k_is))
  iterate 9 (refine' Ek.mtA ?a ?b ?c ?d ?e ?f;(case a=>k_is);(case b=>k_is);(case c=>k_is);(case d=>k_is);(case e=>k_is);(case f=>k_is))
  iterate 3 rfl
#print axioms PySem.Challenge.cw_evenkinds_k24_lifted_and_put_in_holds
