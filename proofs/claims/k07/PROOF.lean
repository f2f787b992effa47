import PyProof.Rows.All
import Wide.All
import OpenK.AllK
import Wide.FinOn
import Lean
import PyProof.EqAt
import PyProof.EqKinds
import PyProof.TupleCall
import PyProof.P3In
import PyProof.DictCompW
import PyProof.Rows.ReprR
import PyProof.ReprLen
import PySem.Challenge.RW_slotwright_k07_drop_and_full
set_option Elab.async false
open PySem.W (Frag nsIn mg_of mg_none_of kia_one findIn emptyDict keepIn instObj kitOne fnOf exmOne isFn KasT lookIn plainGet methodObj hasDictIn plainGet_of takerIn makesIn codeIn methodCall_KW callWith_KW kas_rev kat_nil)
open PySem renaming wpAny_bind->L0,wpAny_pure->L6,mem_of_lookup->LX,wpAny_holding->M6,wpAny_mono->Ma,wpAny_truthy_bool->MJ,sizeLine_eq->MV,wpAny_newObj_type->N0,wpAny_loadPart_at->Na,wpAny_call->Nc,codeAny_mono->Nj,wpAny_Call_Name_kw->Np,wpAny_loadName_local->NA,wpAny_call_entry->NF,wpAny_field->NG,codeAny_builtin->NK,wpAny_standAt->NL,codeAny_call_builtin->NR,wpAny_typeOf->NV,wpAny_passesOwn->O8,tupleKind_room_in1->Oa,pushCells_keeps->Ox,wpAny_isSubtype_exc->Oz,wpAny_Name->OH,codeAny_handlers_suite_as->OK,wpAny_pyIter_list->OP,wpAny_comprehension_free->OU,wpAny_newList->OV,wpAny_attempt->OX,wpAny_callSpecial?_slot->P5,wpAny_pyNext_list_item->Pc,wpAny_execs_nil->Pj,wpAny_specialOf->Pk,codeAny_of_tree->Pn,wpAny_pyNext_list_end->Ps,codeAny_handlers_test->Pt,isSubtype_type->Py,wpAny_setField->Pz,wpAny_nameGoes_keeps->PB,wpAny_loadName_free->PM,wpAny_handleBy_cons->PQ,wpAny_pyIter_tuple->Qb,ks_wpAt_execs_cons->Qc,Within->Qf,wpAny_assign_Name->Qv,wpAny_sequenceKey->Qw,seqIndex_neg->Qx,wpAny_mkText->QA,wpAny_eqBool_int->QN,wpAny_eqBool_str->QO,wpAny_execs_cons->QP,wpAny_lookBehind->QR,pastItsLine_dict->QS,noFill_tuple_add->QT,wpAny_Try_except->QU,seqIndex_of->QY,wpAny_of_eq->R1,call->Rg,wpAny_load->Rn,wpAny_loadPart->Ro,typeIs_int->Rr,call_meets->Rs,numAt_eq->Rt,wpAny_runValue->Ru,frameOf->Sb,intBits_le_64->Se,seq_tuple_add->Sf,evalPart_none->Sh,call_list_seq->Si,nums_intItems->Sj,plainId_quiet->Sk,wpAt_of_wpAny->Sm,wpAny_nsSet1->Sy,concat_meets->Sz
open List renaming length_map->L1,length_append->L7,getElem?_map->Ln,mem_singleton->Lo,mem_append_left->Lq,map_append->Lr,mem_of_getElem?->Lu,size_toArray->Lv,mem_append_right->Lw,mem_cons_of_mem->Lx,mem_cons_self->Ly,mem_cons->Lz,nodup_append->LA,replicate->LB,getElem?_eq_getElem->LC,getElem?_eq_some_iff->LD,length_cons->LF,zip_cons_cons->LK,getElem?_eq_none->LL,append_assoc->LO,mem_append->LP,lookup_cons->LS,map_cons->LV,mem_map->LW,mem_filter->LY,getElem?_append_right->M0,filter_cons->M7,append_nil->M8,filter_sublist->Mc,all_eq_true->Me,getD_eq_getElem?_getD->Mg,mem_map_of_mem->Mh,getElem?_append_left->Mi,getElem?_set_self->Mj,getElem?_set_ne->Ml,take_add_one->Mm,length_take->Mp,Perm->Mq,zip_nil_left->Ms,lookup->Mt,lookup_nil->MB,map_map->MC,take_length->MD,Nodup->ME,take_sublist->MG,replicate_succ->MK,filter_eq_self->ML,drop_eq_getElem_cons->MM,pairwise_iff_getElem->MN,length_filter_le->MO,range->MQ,pairwise_cons->MS,flatten_cons->MX,nodup_cons->Nb,drop_eq_nil_of_le->Nh,filter_eq_nil_iff->Ni,length->Nl,not_mem_nil->No,mem_iff_getElem?->Nr,nil_append->Nu,ext_getElem?->Ny,any_cons->NC,filterMap_cons->ND,mem_range->NE,filter_append->NI,find?_cons->NJ,mem_of_mem_take->NP,sum_cons->O2,Pairwise->O3,foldl_cons->O5,getElem?_replicate->Oc,length_eq_zero_iff->Oe,getElem?_set->Og,take_of_length_le->Oi,pairwise_map->Oj,length_replicate->Ol,length_singleton->Om,length_drop->Op,length_nil->Ov,length_pos_iff->Oy,getElem?_eq_none_iff->OJ,foldl_append->ON,map_take->OT,map_nil->P8,toArray->Pa,of_mem_zip->Pe,length_set->Pf,length_zip->Ph,filter_map->Pi,contains_iff_mem->Po,getElem?_range->PH,all_cons->PR,mem_filterMap->PX,ne_nil_of_mem->Q5,contains_cons->Q7,getElem?_take->Q8,filter_filter->Q9,map_set->Qn,filter_congr->Qu,getElem_inj->QB,le_antisymm->QH,getElem_map->QM,foldl->Re,drop_zero->Rh,map->Rl,nodup_nil->Rm,le_trans->Sa,map_drop->Sc,all_map->Sx,map_id->SK
open PySem.Heap renaming get?_push_of_some->L4,lt_size->Ls,get?_push_size->LG,get?_update_other->Mf,get?_update_of_ne->MI,size_push->MT,get?_update_self->Nq,get?_none_of_le->Nw,get?_push_ne->NN,SameBut->NS,get?_update_ne->O0,size_update->Ot,get?_push_at->Qr,MadeExcOf->Rj,ExtBut->SJ
open PySem.Str renaming ofString->L5,empty->LZ,join->Nx,length_append->OO
open PySem.F renaming slot_list_append->L8,type_list_append->L9,plainAttrs_list->Lm,slot_dict_delitem->OI,args_tuple_add_2->OQ,entry_tuple_add->OZ,slot_tuple_add->P7
open Nat renaming le_refl->Lp,ne_of_lt->LI,lt_of_lt_of_le->LJ,le_trans->LU,lt_irrefl->Mr,zero_le->Mz,le_succ->MU,lt_succ_of_lt->MY,le_of_lt->Nf,lt_succ_self->NU,min_eq_left->O7,lt_or_ge->Of,lt_trichotomy->Oh,not_lt->Oq,le_of_not_lt->P0,eq_zero_or_pos->Q4,lt_or_gt_of_ne->Q6,le_of_eq->Qh,le_of_succ_le->Ql,sub_self->Qo,min_self->Qp,min_eq_right->QF,ne_of_gt->Sq,lt_trans->Sr,le_total->Su
open PySem.Value renaming ref->LH,none->Mv,type->MP,str->MW,bool->Oo,int->OC,builtin->OS,float->Pw,bytes->QV,isStrOf->RO,isInt->SG
open Option renaming map_eq_some_iff->LM,isSome_iff_exists->Mx,map_some->MF,bind_some->MR,isSome_some->NH,isSome_map->OL,getD_none->QE
open Bool renaming false_ne_true->LN,and_eq_true->M9,false_eq_true->Mb,true_xor->My,false_xor->MA,not_eq_true'->NM,eq_iff_iff->O4,or_eq_true->O6,and_eq_true_iff->Pu,or_false->S8,or_true->Sw
open Array renaming length_toList->LQ,getElem?_eq_none->MH,toList_inj->Nn,size_append->NO,getElem?_toList->On,getD->OF,mk->OY,all_toList->P3,mem_toList_iff->Px,toList_append->PJ,find?_toList->PY,toList->So
open PySem.W renaming mg_none_of->Md,boot_heap->Mn,boot_drawn->OG,boot_toks->P4,cellsFrom_some->P6,OpenLaw->Pg,looks_clsIn->PF,callWith_K0->PL,methodCall_KW->PV,kitx_tuple->Q1,callWith_K->Q2,plainOver->Qg,kitx_list->Qj,kitx_dict->Qk,kas_place->Qq,handedIn->QC,kas_sort->QG,kat_cons->QI,BoolBack->QJ,plainGet_of->QX,callWith_KW->QZ,kat_yes->R6,kat_one->R7,kat_no->Ri,WalkO->S9,peek->Sv
open PyProof.Rows renaming slot_tuple_getitem->Mo,sortedS->Nz,risingS->NQ,callWith_type1->OA,listUpdate_at->OW,subscriptTail_builtinR->Pd,ltCps_eq->Pp,FormattedValue_plain->PC,entry_tuple_getitem->PP,sortedAll_old->PU,args_tuple_getitem->Qa,sortedAll_at->Qy,listItems_at->Qz,callWith_builtin1->QD,seqEpoch_at->R0,entry_list_sort->R9,get?_update_seq->Ra,formatField_str->Rb,setObjOf_fresh->Rc,slicePart_none->Rp,Subscript_->Rq,slot_list_sort->Rv,args_list_sort->Rw,size_push'->Rx,joinParts_cons->Ry,JoinedStr_many->Rz,tupleItemsOf_->Sg,joinParts_nil->Sl,plain_sorted->SA,entry_sorted->SC,args_sorted1->SD,StrsAre->SH
open Option.some renaming inj->Mw,injEq->MZ
open PyProof.Rows.F renaming plain_set_update_loop->Nd,entry_set_update_loop->NZ
open Or renaming inl->Ng,inr->Ss
open PySem.W.Fast renaming te14364793385576792824->Nk
open PySem.Builtin.Slice renaming slicePlaces->Nt,sliceAdjust->NW,sliceApplied->OD,slicePartIndex->R3,sliceFields->RK
open Sum renaming inr->Nv,inl->PD
open PySem.Builtin.Tuple renaming tupleExact->NB,tupleItemsOf->OE,tupleIsExact->Rk
open Classical renaming byContradiction->NY
open PySem.Builtin.List renaming listTooLong->O1,listExtendWith->OB,listFitsIndex->Rf
open Int renaming emod_lt_of_pos->O9,emod_nonneg->Ow,zero_add->Pb,emod_eq_of_lt->Qs
open PySem.Builtin.Str renaming occurrences->Ob,glued->Od,tooLong->RL
open List.Nodup renaming length_le_of_subset->Os
open PySem.Builtin.ObjectAttr renaming storeInDict->Ou,storeInOwnDict->Qd,storeTaker?->QK,newKeyGuard->QL,bindTo->RM
open List.Pairwise renaming nil->OM,sublist->Pq
open List.cons renaming inj->OR,injEq->R4
open PySem.Str.mk renaming injEq->P9
open Sum.inr renaming inj->Pv
open PySem.W.Looks renaming here->PZ,of_pure->SE
open Prod renaming ext->Qe
open PySem.Heap.Ns1 renaming of_empty->Qi
open PySem.Heap.SameBut renaming refl->Qm
open List.Sublist renaming refl->Qt,map->SR
open PySem.Builtin.BaseException renaming bexcPut->QW
open PySem.Builtin.Frozenset renaming updateFrom->R5
open PySem.Heap.Ns renaming of_isNs->R8
open PySem.EqNone renaming eq_none_none->RA,eq_none_bool->RB,eq_bool_none->RC,ne_none_none->RF,ne_none_bool->RG,ne_bool_none->RH,eq_none_int->RP,eq_none_str->RQ,eq_int_none->RS,eq_str_none->RU,ne_none_int->RX,ne_none_str->RY,ne_int_none->RZ,ne_str_none->S6
open PySem.EqMixed renaming eq_bool_str->RD,eq_str_bool->RE,ne_bool_str->RI,ne_str_bool->RJ,eq_int_str->RT,eq_str_int->RV,ne_int_str->S0,ne_str_int->S7
open Prod.mk renaming injEq->RN
open PySem.Builtin.Range renaming rangeSize->Sn
open PySem.Heap.IsSliceOf renaming new->SM
open PySem.Within renaming cons->SN
open PySem.Heap.IsCell renaming keeps->SO
open PySem.IsL renaming update->SQ
open PySem.Heap.DictOf renaming new->SS
open List.Perm renaming refl->SU
namespace H0
open PySem PySem.W PyProof.Rows
def topT(tb:String→Option Builtin)(p:Program)(w:World)(n0:Nat)(ann:Option Value):Nat→SharedT→Thread→Option SharedT
 |0,_,_=>none
 |n+1,s,t=>match through t with
  |true=>some s
  |false=>match stepOk n0 ann t with
   |false=>none
   |true=>match stepT (denote tb) p w s t with
    |some (s',t')=>topT tb p w n0 ann n s' t'
    |none=>none
theorem topT_run{tb:String→Option Builtin}{p:Program}{w:World}{n0:Nat}{ann:Option Value}:∀{n:Nat} {s s':SharedT} {t:Thread},topT tb p w n0 ann n s t=some s'→topRun tb p w n0 ann n s.abs t=some s'.abs:=by
 intro n;induction n with
 |zero=>intro s s' t h;cases h
 |succ n ih =>
  intro s s' t h;unfold topT at h;unfold topRun;cases ht:through t with
  |true=>rw[ht] at h;cases h;rfl
  |false =>
   rw[ht] at h;cases hk:stepOk n0 ann t with
   |false=>rw[hk] at h;cases h
   |true =>
    rw[hk] at h;cases hs:stepT (denote tb) p w s t with
    |none=>rw[hs] at h;cases h
    |some r=>obtain⟨s2,t2⟩:=r;rw[hs] at h;dsimp only;rw[stepT_spec hs];exact ih h
def treeOf:List Obj→BT→Nat→BT
 | [],t,_=>t
 |o::r,t,n=>treeOf r (t.ins n o) (n+1)
def looksAt(p:Program)(h0:Heap)(s:Shared):Bool:=staticsOk (importedModules p.main.body) h0 s.heap&&namesBound p s.heap&&gensDone s&&laidKept h0 s.heap
noncomputable def st0(m0:Nat)(w:World)(os:OsState):SharedT:=⟨treeOf (Mn w.params).objs.toList .nil 0,m0,(Mn w.params).life,OY [],OG,P4,os⟩
theorem left_tree{p q:Program}{loose:List Str}{Xt:Shared→Bool}{α:Type}{Yf:Shared→α}{Ya:World→α}{N:Nat}{g0:Bool}{m0:Nat}{ann:Option Value}
  (open_:∀w:World,(fencedOpening treeTable p w N).map (λs=>(s.heap,s.gens,s.drawn,s.toks))=some (Mn w.params,OY [],OG,P4))
  (tree:∀w:World,absHeap (treeOf (Mn w.params).objs.toList .nil 0) m0 (Mn w.params).life=Mn w.params)
  (size:∀w:World,((Mn w.params).isNs mainGlobals,(Mn w.params).objs.size,(Mn w.params).nsMap mainGlobals "__annotations__")=(true,m0,ann))
  (runA:∀(w:World) (os:OsState),(topT treeTable p w m0 ann N (st0 m0 w os) (topStub p)).map (λs=>(looksAt p (Mn w.params) s.abs,(openSeen q loose (importedModules p.main.body) Xt g0 s.abs).1,(openSeen q loose (importedModules p.main.body) Xt g0 s.abs).2.1,(openSeen q loose (importedModules p.main.body) Xt g0 s.abs).2.2.1))=some (true,(openGood q loose).1,(openGood q loose).2.1,(openGood q loose).2.2.1))
  (runB:∀(w:World) (os:OsState),(topT treeTable p w m0 ann N (st0 m0 w os) (topStub p)).map (λs=>(openSeen q loose (importedModules p.main.body) Xt g0 s.abs).2.2.2)=some (openGood q loose).2.2.2)
  (runC:∀(w:World) (os:OsState),(topT treeTable p w m0 ann N (st0 m0 w os) (topStub p)).map (λs=>Yf s.abs)=some (Ya w)) :
  LeftO p q loose Xt Yf Ya N g0:=λw=>by
 obtain⟨⟨h,gs,d,k,os⟩,e,e'⟩:=LM.mp (open_ w);obtain⟨rfl,rfl,rfl,rfl⟩:h=Mn w.params∧gs=OY []∧d=OG∧k=P4:=by simpa using e'
 obtain⟨z1,z2,z3⟩:_∧_∧_:=by simpa only[RN] using size w
 obtain⟨s,r,la⟩:=LM.mp (runA w os);obtain⟨s1,r1,lb⟩:=LM.mp (runB w os);obtain⟨s2,r2,lc⟩:=LM.mp (runC w os);have q1:s=s1:=Mw (r.symm.trans r1);have q2:s=s2:=Mw (r.symm.trans r2);subst q1 q2;obtain⟨l1,a1,a2,a3⟩:_∧_∧_∧_:=by simpa only[RN] using la
 unfold looksAt at l1;have l2:openSeen q loose (importedModules p.main.body) Xt g0 s.abs=openGood q loose:=Qe a1 (Qe a2 (Qe a3 lb));have l3:Yf s.abs=Ya w:=lc;have r2:=topT_run r;have r3:topRun treeTable p w m0 ann N ⟨Mn w.params,OY [],OG,P4,os⟩ (topStub p)=some s.abs:=by
  rw[← r2];show _=topRun treeTable p w m0 ann N ⟨absHeap (treeOf (Mn w.params).objs.toList .nil 0) m0 (Mn w.params).life,OY [],OG,P4,os⟩ (topStub p);rw[tree w]
 have z4:((Mn w.params).isNs mainGlobals&&(OY []:Array GenState).size==0)=true:=by rw[z1];rfl
 have t:topFrom treeTable p w N ⟨Mn w.params,OY [],OG,P4,os⟩=some s.abs:=by
  unfold topFrom;dsimp only;rw[z4,z2,z3,r3];show(match staticsOk (importedModules p.main.body) (Mn w.params) s.abs.heap&&namesBound p s.abs.heap&&gensDone s.abs&&laidKept (Mn w.params) s.abs.heap with|true=>_|false=>_)=_;rw[l1]
 unfold openEnds;rw[e];show(topFrom treeTable p w N _).map _=_;rw[t];exact congrArg some (Qe l2 l3)
def bootSize:Nat:=11
def bootAnn:Option Value:=some (.ref 6)
theorem boot_tree:∀w:World,absHeap (treeOf (Mn w.params).objs.toList .nil 0) bootSize (Mn w.params).life=Mn w.params:=λw=>by kernel_rfl
theorem boot_size:∀w:World,((Mn w.params).isNs mainGlobals,(Mn w.params).objs.size,(Mn w.params).nsMap mainGlobals "__annotations__")=(true,bootSize,bootAnn):=λw=>by kernel_rfl
abbrev ai(i:Nat):Stmt:=PySem.Challenge.pw_slotwright_k07_drop_and_full.main.body.getD i (.Pass ⟨0,0,0,0⟩)
def view0:Program:={PySem.Challenge.pw_slotwright_k07_drop_and_full with main:={PySem.Challenge.pw_slotwright_k07_drop_and_full.main with body:=[ai 0,ai 2,ai 3,ai 4,ai 5,ai 6,ai 7,ai 8,ai 9,ai 10,ai 11,ai 12,ai 13,ai 14,ai 15,ai 16,ai 17,ai 18,ai 19,ai 21,ai 22,ai 23,ai 24,ai 25,ai 26,ai 27,ai 28,ai 30,ai 31,ai 32,ai 33,ai 34,ai 35,ai 37,ai 38,ai 39,ai 40,ai 41,ai 42,ai 43,ai 44,ai 45,ai 46,ai 47,ai 48,ai 49,ai 50,ai 51,ai 52,ai 53,ai 54]}}
set_option maxRecDepth 100000
set_option maxHeartbeats 0
theorem runA(w:World)(os:OsState):(topT treeTable PySem.Challenge.pw_slotwright_k07_drop_and_full w bootSize bootAnn 11526 (st0 bootSize w os) (topStub PySem.Challenge.pw_slotwright_k07_drop_and_full)).map (λs=>(looksAt PySem.Challenge.pw_slotwright_k07_drop_and_full (Mn w.params) s.abs,(openSeen view0 [L5 "Net"] (importedModules PySem.Challenge.pw_slotwright_k07_drop_and_full.main.body) (λs=>xlAt view0 [] s&&recOk (RowW.records (PySem.Challenge.rw_slotwright_k07_drop_and_full.row.toRowW)) s) true s.abs).1,(openSeen view0 [L5 "Net"] (importedModules PySem.Challenge.pw_slotwright_k07_drop_and_full.main.body) (λs=>xlAt view0 [] s&&recOk (RowW.records (PySem.Challenge.rw_slotwright_k07_drop_and_full.row.toRowW)) s) true s.abs).2.1,(openSeen view0 [L5 "Net"] (importedModules PySem.Challenge.pw_slotwright_k07_drop_and_full.main.body) (λs=>xlAt view0 [] s&&recOk (RowW.records (PySem.Challenge.rw_slotwright_k07_drop_and_full.row.toRowW)) s) true s.abs).2.2.1))=some (true,(openGood view0 [L5 "Net"]).1,(openGood view0 [L5 "Net"]).2.1,(openGood view0 [L5 "Net"]).2.2.1):=by rewrite [Nk];kernel_rfl
theorem runB(w:World)(os:OsState):(topT treeTable PySem.Challenge.pw_slotwright_k07_drop_and_full w bootSize bootAnn 11526 (st0 bootSize w os) (topStub PySem.Challenge.pw_slotwright_k07_drop_and_full)).map (λs=>(openSeen view0 [L5 "Net"] (importedModules PySem.Challenge.pw_slotwright_k07_drop_and_full.main.body) (λs=>xlAt view0 [] s&&recOk (RowW.records (PySem.Challenge.rw_slotwright_k07_drop_and_full.row.toRowW)) s) true s.abs).2.2.2)=some (openGood view0 [L5 "Net"]).2.2.2:=by rewrite [Nk];kernel_rfl
local macro_rules | `(tactic| o_head $H)=> `(tactic| (refine holds_open (q:=view0) (loose:=[L5 "Net"]) (Xt:=λs=>xlAt view0 [] s&&recOk (RowW.records (PySem.Challenge.rw_slotwright_k07_drop_and_full.row.toRowW)) s) (XP:=XL view0 []) (Yf:=Hook.obs $H) (Ya:=Hook.val $H) (YP:=Hook.says $H) (N:=11526) ?hl (Hook.of $H) (Hook.keeps $H) (λs e=>xl_of s (Pu.mp e).1) XL.keeps (by rfl) (by rfl) (by rfl) (λs e=>recFacts_of (Pu.mp e).2) (by rfl) (by first|assumption|decide+kernel) (by decide+kernel) ⟨rfl,rfl,rfl,rfl,rfl,by decide+kernel⟩ ?hw ?hc;(case hl=>exact left_tree (m0:=bootSize) (ann:=bootAnn) (boot_open (by kernel_rfl) (by decide+kernel) (λs=>by kernel_rfl)) boot_tree boot_size runA runB (λw os=>by rewrite [Nk];kernel_rfl))))
set_option maxRecDepth 100000
set_option maxHeartbeats 0
open_top hd0 for PySem.Challenge.rw_slotwright_k07_drop_and_full
end H0
set_option linter.all false
set_option maxRecDepth 100000
set_option maxHeartbeats 4000000
set_option synthInstance.maxHeartbeats 4000000
set_option synthInstance.maxSize 100000
namespace L2
open PySem PySem.Spec PyProof.Rows
variable{pins:List (Addr×Obj)}{pos:Pos}{A:Around}{w:World}{K:Frag}{u:Value}{x m:Str}{P:Program}{us:List Value}{a C f dx:Addr}{E Q:Value->Shared->Prop}{e tg:Expr}{base h h':Heap}{cm:Bool}{t' j:Nat}{ps N:List Str}{es:List Expr}{mg mA:Str->Option Value}{outer:List Env}{op:CmpOp}{fd:FuncData}{kw:List (Str×Value)}{ch fp:List Addr}{M:Model}
abbrev Key:=Sum Int Str
def fY:Key->Value->Bool
 | .inl k,v=>SG k v
 | .inr x,v=>RO x v
def zt(w:World):Key->Int
 | .inl k=>hashInt k
 | .inr x=>hashStr w x
theorem dG:∀{k:Key} {v:Value},fY k v=true->(∃i t,k=PD i/\v=OC i t)\/(∃x t,k=Nv x/\v=MW x t)
 | .inl i,v,h=>by
  obtain⟨t,e⟩:=Value.isInt_shape (k:=i) (v:=v) h;exact .inl ⟨i,t,rfl,e⟩
 | .inr x,v,h=>by
  obtain⟨t,e⟩:=Value.isStrOf_shape (x:=x) (v:=v) h;exact .inr ⟨x,t,rfl,e⟩
theorem zv(i:Int)(t:Tok):fY (.inl i) (.int i t)=true:=by simp[fY,SG]
theorem zw(x:Str)(t:Tok):fY (.inr x) (.str x t)=true:=by simp[fY,RO]
theorem zC(a b:Int):decide ((PD a:Key)=PD b)=(a==b):=by
 by_cases e:a=b
 .subst e;simp
 .have h:¬ (PD a:Key)=PD b:=λq=>e (Sum.inl.inj q)
  rw[decide_eq_false h];exact(beq_eq_false_iff_ne.mpr e).symm
theorem zD(a b:Str):decide ((Nv a:Key)=Nv b)=decide (a=b):=by
 by_cases e:a=b
 .subst e;simp
 .have h:¬ (Nv a:Key)=Nv b:=λq=>e (Pv q)
  rw[decide_eq_false h,decide_eq_false e]
theorem zI(a:Int)(b:Str):decide ((PD a:Key)=Nv b)=false:=decide_eq_false (λq=>nomatch q)
theorem zS(a:Str)(b:Int):decide ((Nv a:Key)=PD b)=false:=decide_eq_false (λq=>nomatch q)
def ce(prog:Program)(w:World):PySem.KeyKind prog w Key where
 is:=fY
 hash:=zt w
 inj:=λv a b ha hb=>by
  rcases dG ha with⟨i,t,rfl,rfl⟩|⟨x,t,rfl,rfl⟩
  .rcases dG hb with⟨j,u,rfl,e⟩|⟨y,u,rfl,e⟩
   .injection e with e1 _;rw[e1]
   .exact nomatch e
  .rcases dG hb with⟨j,u,rfl,e⟩|⟨y,u,rfl,e⟩
   .exact nomatch e
   .injection e with e1 _;rw[e1]
 byValue:=λk v h=>by
  rcases dG h with⟨i,t,rfl,rfl⟩|⟨x,t,rfl,rfl⟩<;>rfl
 pyHash:=λhv h=>by
  rcases dG hv with⟨i,t,rfl,rfl⟩|⟨x,t,rfl,rfl⟩
  .exact wpAny_pyHash_int h
  .exact wpAny_pyHash_str h
 eqBool:=λhu hv h=>by
  rcases dG hu with⟨i,t,rfl,rfl⟩|⟨x,t,rfl,rfl⟩
  .rcases dG hv with⟨j,u,rfl,rfl⟩|⟨y,u,rfl,rfl⟩
   .rw[zC] at h;exact QN h
   .rw[zI] at h;exact SeqAt.EqAt.int_str i t y u _ _ _ _ h
  .rcases dG hv with⟨j,u,rfl,rfl⟩|⟨y,u,rfl,rfl⟩
   .rw[zS] at h;exact SeqAt.EqAt.str_int x t j u _ _ _ _ h
   .rw[zD] at h;exact QO h
 «strs»:= λk x t v h=>by
  rcases dG h with⟨i,u,rfl,e⟩|⟨y,u,rfl,e⟩
  .exact nomatch e
  .injection e with e1 _;subst e1;cases v<;>rfl
theorem z_(prog:Program)(w:World)(i:Int)(t:Tok):(ce prog w).is (.inl i) (.int i t)=true:=zv i t
theorem Aa(prog:Program)(w:World)(x:Str)(t:Tok):(ce prog w).is (.inr x) (.str x t)=true:=zw x t
inductive V where
 |non|bl (b:Bool)|int (i:Int)|str (x:Str)|byt (b:Array UInt8)|flt (b:UInt64)|ref (a:Addr)|ty (n:String)
 deriving DecidableEq
variable{v y:V}{vs:List V}
def RelV:V->Value->Prop
 | .non,u=>u=Mv
 | .bl b,u=>u=Oo b
 | .int i,u=>∃t,u=OC i t
 | .str x,u=>∃t,u=MW x t
 | .byt b,u=>∃t,u=QV b t
 | .flt b,u=>∃t,u=Pw b t
 | .ref a,u=>u=LH a
 | .ty n,u=>u=MP n
abbrev Vals:List V->List Value->Prop:=Paired RelV
theorem Vals.length{xs:List V}(r:Vals xs us):xs.length=us.length:=Paired.length r
theorem Vals.get:∀{xs:List V} {us:List Value} {i:Nat} {x:V},Vals xs us->xs[i]? = some x->∃u,us[i]? = some u/\RelV x u
 |_,_,_,_,.nil,e=>by simp at e
 |_,_,0,_,.cons r _,e=>by simp at e;subst e;exact⟨_,rfl,r⟩
 |_,_,i+1,x,.cons _ t,e=>by
  obtain⟨u,h1,h2⟩:=Vals.get (i:=i) (x:=x) t (by simpa using e);exact⟨u,by simpa using h1,h2⟩
theorem Vals.set{x:V}(r:RelV x u):∀{xs:List V} {us:List Value} (i:Nat),Vals xs us->Vals (xs.set i x) (us.set i u)
 |_,_,_,.nil=> .nil
 |_,_,0,.cons _ t=> .cons r t
 |_,_,i+1,.cons q t=> .cons q (Vals.set r i t)
theorem Vals.append:∀{xs ys:List V} {us ws:List Value},Vals xs us->Vals ys ws->Vals (xs++ys) (us++ws)
 |_,_,_,_,.nil,s=>s
 |_,_,_,_,.cons r t,s=> .cons r (Vals.append t s)
theorem Vals.take:∀{xs:List V} {us:List Value} (n:Nat),Vals xs us->Vals (xs.take n) (us.take n)
 |_,_,0,_=> .nil
 |_,_,_+1,.nil=> .nil
 |_,_,n+1,.cons r t=> .cons r (Vals.take n t)
theorem Vals.drop:∀{xs:List V} {us:List Value} (n:Nat),Vals xs us->Vals (xs.drop n) (us.drop n)
 |_,_,0,r=>r
 |_,_,_+1,.nil=> .nil
 |_,_,n+1,.cons _ t=>Vals.drop n t
def bP:Option V->Option Value->Prop
 |some v,some u=>RelV v u
 |none,none=>True
 |_,_=>False
def KV{κ:Type}:List (κ×V)->List (κ×Value)->Prop:=Paired λ(p:κ×V) (q:κ×Value)=>p.1=q.1/\RelV p.2 q.2
def kV:Key->V
 | .inl i=> .int i
 | .inr x=> .str x
inductive HO where
 |lst (xs:List V)
 |tup (xs:List V)
 |dK (kvs:List (Key×V))|dT (kvs:List (List Key×V))
 |set (S:Int->Bool) (n:Nat)
 |ins (C dx:Addr) (fs:List (Str×V))
 |own (x:Addr)
 |xd (fs:List (Str×V))
 |met (f x:Addr)
 |rng (lo hi:Int)
 |frz (o:Obj) (u:HO)
 |tbl (ps:Array Value)
 |ext (φ:Heap->Prop)
variable{o:HO}
abbrev Hp:=Addr->Option HO
variable{H H':Hp}
def upd(H:Hp)(a:Addr)(o:HO):Hp:=λb=>if b=a then some o else H b
theorem zJ:upd H a o a=some o:=by unfold upd;rw[if_pos rfl]
theorem zN{b:Addr}(h:b≠a):upd H a o b=H b:=by unfold upd;rw[if_neg h]
theorem Ac{b:Addr}{u:HO}(h:H a=some o)(h':H b=some u)(d:o≠u):a≠b:=by
 intro e;subst e;rw[h] at h';exact d (Mw h')
theorem bQ{b:Addr}(h:H a=some o)(h':H b=none):a≠b:=by
 intro e;subst e;rw[h] at h';cases h'
section
variable(P:Program)(w:World)
def aC(H:Hp)(h:Heap)(a:Addr):HO->Prop
 | .lst xs=>xs.length<=sizeLine/\∃(its:List Value) (n:Nat),Vals xs its/\h.get? a=some {cls:= .type "list",data:= .seq its.toArray n}
 | .tup xs=>xs.length<=sizeLine/\∃its:List Value,Vals xs its/\IsTup h a its.toArray
 | .dK kvs=>kvs.length<=sizeLine/\(a==sysModules)=false/\∃vs,KV kvs vs/\h.DictOf (ce P w) a vs
 | .dT kvs=>kvs.length<=sizeLine/\(a==sysModules)=false/\∃xs:List (List Key×Addr×Value),
   Paired (λ(p:List Key×V) (q:List Key×Addr×Value)=>p.1=q.1/\H q.2.1=some (.tup (p.1.map kV))/\RelV p.2 q.2.2) kvs xs /\
   ∃o es ep,h.get? a=some o/\o.ExactDict/\o.data= .dict es ep/\es.toList=xs.map (entryOfKey (tupleKind (ce P w)))/\(xs.map (·.1)).Nodup
 | .set S n=>h.SetOf (intKind P w) a S n
 | .ins C dx fs=>H dx=some (.own a)/\fs.length<=1000/\dx≠a/\h.get? a=some (instObj C dx) /\
   ∃mA,h.Ns1 dx mA/\(∀f,bP (fs.lookup f) (mA f))/\Qf mA (fs.map (·.1))
 | .own _=>∃o,h.get? a=some o
 | .xd fs=>∃mA,h.Ns1 a mA/\∀f,bP (fs.lookup f) (mA f)
 | .rng lo hi=>∃t u v,h.get? a=some {cls:= .type "range",data:= .fields #[.int lo t,.int hi u,.int 1 v]}
 | .frz o u=>h.get? a=some o/\aC H h a u
 | .tbl ps=>h.get? a=some {cls:= .none,data:= .fields ps}
 | .met f x=>h.get? a=some (methodObj (.ref f) (.ref x))
 | .ext φ=>φ h/\(∃o,h.get? a=some o)/\∀h1 h2:Heap,φ h1->(∀o,h1.get? a=some o->h2.get? a=some o)->φ h2
def HOk(H:Hp)(h:Heap):Prop:=∀a o,H a=some o->aC P w H h a o
end
section
theorem aC.lt(x:aC P w H h a o):a < h.objs.size:=by
 cases o with
 |lst xs=>obtain⟨_,_,_,_,e⟩:=x;exact Ls e
 |tup xs=>obtain⟨_,_,_,p⟩:=x;exact p.lt
 |dK kvs=>obtain⟨_,_,_,_,o,_,_,e,_⟩:=x;exact Ls e
 |dT kvs=>obtain⟨_,_,_,_,o,_,_,e,_⟩:=x;exact Ls e
 |set S n=>obtain⟨o,_,_,_,e,_⟩:=x;exact Ls e
 |ins C dx fs=>obtain⟨_,_,_,e,_⟩:=x;exact Ls e
 |own y=>obtain⟨_,e⟩:=x;exact Ls e
 |xd fs=>obtain⟨_,⟨_,_,_,e,_⟩,_⟩:=x;exact Ls e
 |rng lo hi=>obtain⟨_,_,_,e⟩:=x;exact Ls e
 |frz ob u=>obtain⟨e,_⟩:=x;exact Ls e
 |tbl ps=>exact Ls (show h.get? a=some _ from x)
 |met f y=>exact Ls (show h.get? a=some _ from x)
 |ext φ=>obtain⟨_,⟨_,e⟩,_⟩:=x;exact Ls e
theorem Paired.mapP{α β:Type}{F G:α->β->Prop}:∀{l₁:List α} {l₂:List β},Paired F l₁ l₂->(∀a b,F a b->G a b)->Paired G l₁ l₂
 |_,_,.nil,_=> .nil
 |_,_,.cons r t,f=> .cons (f _ _ r) (Paired.mapP t f)
theorem aC.stay(x:aC P w H h a o)(k:∀b u,(b=a\/H b=some (.own a))->h.get? b=some u->h'.get? b=some u)
  (ho:∀b,H b=some (.own a)->H' b=some (.own a))(ht:∀b xs,H b=some (.tup xs)->H' b=some (.tup xs)):aC P w H' h' a o:=by
 induction o with
 |lst xs=>obtain⟨z,its,n,r,e⟩:=x;exact⟨z,its,n,r,k _ _ (.inl rfl) e⟩
 |tup xs=>obtain⟨z,its,r,ob,e,c⟩:=x;exact⟨z,its,r,ob,k _ _ (.inl rfl) e,c⟩
 |dK kvs=>obtain⟨z,y,vs,r,ob,es,ep,e,c⟩:=x;exact⟨z,y,vs,r,ob,es,ep,k _ _ (.inl rfl) e,c⟩
 |dT kvs =>
  obtain⟨z,y,xs,r,ob,es,ep,e,c⟩:=x;exact⟨z,y,xs,Paired.mapP r λp q z=>⟨z.1,ht _ _ z.2.1,z.2.2⟩,ob,es,ep,k _ _ (.inl rfl) e,c⟩
 |set S n=>obtain⟨ob,es,ep,t,e,c⟩:=x;exact⟨ob,es,ep,t,k _ _ (.inl rfl) e,c⟩
 |ins C dx fs =>
  obtain⟨d,z,ne,e,mA,⟨od,es,ep,e2,c⟩,r⟩:=x;exact⟨ho _ d,z,ne,k _ _ (.inl rfl) e,mA,⟨od,es,ep,k _ _ (.inr d) e2,c⟩,r⟩
 |own y=>obtain⟨ob,e⟩:=x;exact⟨ob,k _ _ (.inl rfl) e⟩
 |xd fs=>obtain⟨mA,⟨od,es,ep,e,c⟩,r⟩:=x;exact⟨mA,⟨od,es,ep,k _ _ (.inl rfl) e,c⟩,r⟩
 |rng lo hi=>obtain⟨t,u,v,e⟩:=x;exact⟨t,u,v,k _ _ (.inl rfl) e⟩
 |frz ob u ih=>obtain⟨e,q⟩:=x;exact⟨k _ _ (.inl rfl) e,ih q⟩
 |tbl ps =>
  have e:h.get? a=some {cls:= .none,data:= .fields ps}:=x;show h'.get? a=some {cls:= .none,data:= .fields ps};exact k a _ (.inl rfl) e
 |met f y =>
  have e:h.get? a=some (methodObj (.ref f) (.ref y)):=x;show h'.get? a=some (methodObj (.ref f) (.ref y));exact k a _ (.inl rfl) e
 |ext φ=>obtain⟨p,⟨o,e⟩,st⟩:=x;exact⟨st _ _ p λo q=>k _ _ (.inl rfl) q,⟨o,k _ _ (.inl rfl) e⟩,st⟩
theorem HOk.lt(x:HOk P w H h)(e:H a=some o):a < h.objs.size:=(x a o e).lt
theorem HOk.fresh(x:HOk P w H h)(e:h.objs.size<=a):H a=none:=by
 cases q:H a with
 |none=>rfl
 |some u=>exact absurd (LJ (x.lt q) e) (Mr _)
theorem HOk.kept(x:HOk P w H h)(k:∀b u,h.get? b=some u->h'.get? b=some u):HOk P w H h':=λa o e =>
 (x a o e).stay (λb u _ q=>k b u q) (λ_ q=>q) λ_ _ q=>q
theorem HOk.laid(x:HOk P w H h)(k:∀b u,h.get? b=some u->h'.get? b=some u)(hp:h.objs.size<=a)(new:aC P w (upd H a o) h' a o):HOk P w (upd H a o) h':=λb u e=>by
 have hn:=x.fresh hp;by_cases hb:b=a
 .subst hb;rw[zJ] at e;cases e;exact new
 .rw[zN hb] at e;exact(x b u e).stay (λc v _ q=>k c v q) (λc q=>by rw[zN (bQ q hn)];exact q) λc xs q=>by rw[zN (bQ q hn)];exact q
end
def Rd(H:Hp)(a:Addr)(u:HO):Prop:=H a=some u\/∃o,H a=some (.frz o u)
theorem Rd.ok{u:HO}(r:Rd H a u)(x:HOk P w H h):aC P w H h a u:=by
 rcases r with r|⟨o,r⟩
 .exact x a u r
 .obtain⟨_,q⟩:=x a _ r;exact q
def Mut:Option HO->Prop
 |some (.lst _)=>True
 |some (.dK _)=>True
 |some (.dT _)=>True
 |some (.set _ _)=>True
 |some (.ins _ _ _)=>True
 |some (.ext _)=>True
 |_=>False
section
variable{x e:Addr}{o':HO}
theorem HOk.write(ok:HOk P w H h)(mu:Mut (H x))(he:e=x\/H e=some (.own x))(k:∀b u,b≠e->h.get? b=some u->h'.get? b=some u)(heo:∃u,h'.get? e=some u)
  (new:aC P w (upd H x o') h' x o'):HOk P w (upd H x o') h':=λb u q=>by
 have nown:∀c y,H c=some (.own y)->c≠x:=λc y r z=>by subst z;rw[r] at mu;exact mu
 have ntup:∀c xs,H c=some (.tup xs)->c≠x:=λc xs r z=>by subst z;rw[r] at mu;exact mu
 by_cases hb:b=x
 .subst hb;rw[zJ] at q;cases q;exact new
 .rw[zN hb] at q;by_cases hbe:b=e
  .have q':H b=some (.own x):=by
    rcases he with z|z
    .exact absurd (hbe.trans z) hb
    .rw[hbe];exact z
   rw[q] at q';cases q';obtain⟨v,hv⟩:=heo;exact⟨v,by rw[hbe];exact hv⟩
  .refine(ok b u q).stay (λc v hc r=>k c v ?_ r) (λc r=>by rw[zN (nown c b r)];exact r) λc xs r=>by rw[zN (ntup c xs r)];exact r
   rcases hc with rfl|hc
   .exact hbe
   .rintro rfl;rcases he with z|z
    .exact nown c b hc z
    .rw[hc] at z;cases z;exact hb rfl
end
structure Un(fs ex:List Addr)(H H':Hp)(h h':Heap):Prop where
 keep:∀b o,h.get? b=some o->H b=none->b∉fs->b∉ex->h'.get? b=some o
 slot:∀b o,h.get? b=some o->H b=none->b∈fs->b∉ex->∃sl,h'.get? b=some {o with slots:=sl}
 free:∀b o,h.get? b=some o->H b=none->b∉ex->H' b=none
 there:∀b o,h.get? b=some o->b∉ex->∃o',h'.get? b=some o'
 tups:∀b xs,H b=some (.tup xs)->H' b=some (.tup xs)
 frzs:∀b o u,H b=some (.frz o u)->H' b=some (.frz o u)
 tbls:∀b ps,H b=some (.tbl ps)->∃more,H' b=some (.tbl (ps++more))
section
variable{fs fs' ex ex':List Addr}{H1 H2:Hp}{h1 h2:Heap}{x e:Addr}
theorem Un.any(u:Un fs ex H H1 h h1){b:Addr}{ob:Obj}(q:h.get? b=some ob)(n:H b=none)(hx:b∉ex):∃sl,h1.get? b=some {ob with slots:=sl}:=by
 by_cases hb:b∈fs
 .exact u.slot b ob q n hb hx
 .exact⟨ob.slots,u.keep b ob q n hb hx⟩
theorem Un.kept(k:∀b u,h.get? b=some u->h'.get? b=some u):Un fs ex H H h h' :=
 ⟨λb ob q _ _ _=>k b ob q,λb ob q _ _ _=>⟨ob.slots,k b ob q⟩,λ_ _ _ n _=>n,λb ob q _=>⟨ob,k b ob q⟩,λ_ _ q=>q,λ_ _ _ q=>q,λ_ ps q=>⟨#[],by rw[q];simp⟩⟩
theorem Un.refl:Un fs ex H H h h:=Un.kept λ_ _ q=>q
theorem Un.laid(k:∀b u,h.get? b=some u->h'.get? b=some u)(hp:h.objs.size<=a)(hn:H a=none):Un fs ex H (upd H a o) h h' where
 keep:=λb u q _ _ _=>k b u q
 slot:=λb u q _ _ _=>⟨u.slots,k b u q⟩
 free:=λb u q n _=>by rw[zN (LI (LJ (Ls q) hp))];exact n
 there:=λb u q _=>⟨u,k b u q⟩
 tups:=λb xs q=>by rw[zN (bQ q hn)];exact q
 frzs:=λb u xs q=>by rw[zN (bQ q hn)];exact q
 tbls:=λb ps q=>⟨#[],by rw[zN (bQ q hn),q];simp⟩
theorem Un.write(mu:Mut (H x))(he:e=x\/H e=some (.own x))(k:∀b u,b≠e->h.get? b=some u->h'.get? b=some u)(heo:∃u,h'.get? e=some u):Un fs ex H (upd H x o) h h':=by
 have hx:∀b,H b=none->b≠x:=λb n z=>by subst z;rw[n] at mu;exact mu
 have hb:∀b,H b=none->b≠e:=λb n z=>by
  subst z;rcases he with r|r
  .exact hx b n r
  .rw[n] at r;cases r
 have hm:∀b u,H b=some u->¬ Mut (some u)->b≠x:=λb u q nm z=>by subst z;rw[q] at mu;exact nm mu
 refine⟨λb u q n _ _=>k b u (hb b n) q,λb u q n _ _=>⟨u.slots,k b u (hb b n) q⟩,λb u q n _=>by rw[zN (hx b n)];exact n,λb u q _=>?_,
  λb xs q=>by rw[zN (hm b _ q λz=>z)];exact q,λb u xs q=>by rw[zN (hm b _ q λz=>z)];exact q,λb ps q=>⟨#[],by rw[zN (hm b _ q λz=>z),q];simp⟩⟩
 by_cases hbe:b=e
 .subst hbe;exact heo
 .exact⟨u,k b u hbe q⟩
end
def trk(h:Heap)(H:Hp):List Addr:=(MQ h.objs.size).filter λa=>(H a).isSome
def eR(h:Heap)(H:Hp):Heap:=PySem.W.hideAll h (trk h H)
theorem Ad(h:Heap)(H:Hp):(eR h H).objs.size=h.objs.size:=PySem.W.hideAll_size _ _
theorem Ae{b:Addr}{o:Obj}(e:h.get? b=some o)(n:H b=none):(eR h H).get? b=some o :=
 PySem.W.hideAll_get _ e λhm=>by
  have q:(H b).isSome=true:=(LY.mp hm).2;rw[n] at q;simp at q
theorem Af{b:Addr}{o:Obj}(e:(eR h H).get? b=some o):h.get? b=some o/\H b=none:=by
 have e':h.get? b=some o:=PySem.W.of_hideAll (trk h H) e;refine⟨e',?_⟩;cases q:H b with
 |none=>rfl
 |some x =>
  have hm:b∈trk h H:=LY.mpr ⟨NE.mpr (Ls e'),by simp[q]⟩;have z:(eR h H).get? b=none:=PySem.W.hideAll_none (trk h H) hm;rw[z] at e;cases e
def Ag(g h:Heap)(L:Addr):List (Addr×Obj):=(MQ h.objs.size).filterMap λa=>if a=L\/(g.get? a).isSome=true then none else(h.get? a).map λo=>(a,o)
def rest(g h:Heap)(L d:Addr):List (Addr×Obj):=(Ag g h L).filter λp=>decide (p.1≠d)
structure Mod(K:Frag)(mg:Str->Option Value)(base:Heap):Prop where
 kin:K.In base
 glob:base.Ns mainGlobals mg
 blt:∃mb,base.Ns builtinsNs mb/\∀x:Str,x≠"__name__"->mb x=bootBuiltins x
 nolimit:base.NoLimit
structure Cx where
 prog:Program
 w:World
 K:Frag
 mg:Str->Option Value
 base:Heap
 A:Around
 N:List Str
 s₀:Shared
 H₀:Hp
 env:Env
 outer:List Env
 stack:List Env
 ex:List Addr
 fn:Str->Bool
 calm:Bool
 pn:List (Addr×Obj)
 xe:Value->Shared->Prop
variable{X:Cx}
def frs(l:List Env):List Addr:=l.filterMap (·.frame)
abbrev Cx.fs(X:Cx):List Addr:=frs X.outer
def Vis(sc:Scope)(x:Str):Prop:=sc.names.lookup x=some .local\/sc.names.lookup x=some .cell\/sc.names.lookup x=some .free
def Loc(sc:Scope)(x:Str):Prop:=sc.names.lookup x=some .local\/sc.names.lookup x=some .cell
def Look(env:Env)(h:Heap)(m:Str->Option Value)(x:Str)(u:Value):Prop :=
 (env.kindOf x=some .local/\m x=some u)\/((env.kindOf x=some .cell\/env.kindOf x=some .free)/\∃c,env.cells.lookup x=some c/\h.IsCell c (some u))
structure Cx.Ok(X:Cx):Prop where
 mod:Mod X.K X.mg X.base
 kind:X.env.scope.kind= .function
 glob:X.env.globals=mainGlobals
 blt:X.env.builtins=builtinsNs
 above:X.s₀.heap.objs.size<=X.env.locals
 inj:∀x y c,X.env.cells.lookup x=some c->X.env.cells.lookup y=some c->x=y
 has:∀x,(X.env.kindOf x=some .cell\/X.env.kindOf x=some .free)->∃c,X.env.cells.lookup x=some c
 cab:∀x c,X.fn x=true->X.env.cells.lookup x=some c->X.s₀.heap.objs.size<=c
 hd:X.calm=true->X.A.handled=none
 frames:X.A.frames=some X.stack
 stk:X.stack=X.outer\/(X.stack=X.env::X.outer/\X.env.frame=some X.env.locals)
 exf:∀b∈X.ex,b≠X.env.locals/\∀x c,X.env.cells.lookup x=some c->c≠b
 bs:∀b o,X.base.get? b=some o->X.s₀.heap.get? b=some o/\X.H₀ b=none
 bsz:X.base.objs.size<=X.s₀.heap.objs.size
 noex:∀b o,X.base.get? b=some o->b∉X.ex
 exfs:∀b∈X.ex,b∉X.fs
 funs:X.s₀.heap.FunFrames X.base X.outer
 frf:∀b∈X.fs,X.H₀ b=none
structure Inv(X:Cx)(pins:List (Addr×Obj))(σ:List (Option V))(H:Hp)(s:Shared):Prop where
 ok:X.Ok
 os:s.os=X.s₀.os
 bare:AllBare s.gens
 base:Un X.fs X.ex X.H₀ H X.s₀.heap s.heap
 loc:∃m,s.heap.Ns X.env.locals m/\∀(i:Nat) (x:Str) (v:V),X.N[i]? = some x->σ[i]? = some (some v)->Vis X.env.scope x->∃u,RelV v u/\Look X.env s.heap m x u
 cell:∀x c,X.env.cells.lookup x=some c->∃v,s.heap.IsCell c v
 free:H X.env.locals=none
 freeC:∀x c,X.env.cells.lookup x=some c->H c=none
 pin:∀p∈X.pn++pins,s.heap.get? p.1=some p.2/\H p.1=none/\p.1≠X.env.locals/\p.1∉X.fs/\∀v,p.2.data≠ .cell v
 hok:HOk X.prog X.w H s.heap
 len:σ.length=X.N.length
section
variable{σ:List (Option V)}{s:Shared}
theorem Cx.Ok.nofr(ok:X.Ok){b:Addr}{o:Obj}(e:X.base.get? b=some o):b∉X.fs:=λhb=>by
 have:=(ok.funs.mem hb).1;rw[e] at this;cases this
theorem Inv.bs(I:Inv X pins σ H s):∀b o,X.base.get? b=some o->s.heap.get? b=some o/\H b=none:=λb o e =>
 ⟨I.base.keep b o (I.ok.bs b o e).1 (I.ok.bs b o e).2 (I.ok.nofr e) (I.ok.noex b o e),I.base.free b o (I.ok.bs b o e).1 (I.ok.bs b o e).2 (I.ok.noex b o e)⟩
theorem Inv.bk(I:Inv X pins σ H s):∀b o,X.base.get? b=some o->s.heap.get? b=some o:=λb o e=>(I.bs b o e).1
theorem Inv.mod(I:Inv X pins σ H s):Mod X.K X.mg X.base:=I.ok.mod
theorem Inv.kIn(I:Inv X pins σ H s):X.K.In s.heap:=I.ok.mod.kin.keeps I.bk
theorem Inv.nolimit(I:Inv X pins σ H s):s.heap.NoLimit:=I.ok.mod.nolimit.keeps I.bk
theorem Inv.lt(I:Inv X pins σ H s):X.env.locals < s.heap.objs.size:=let ⟨_,hn,_⟩:=I.loc;hn.lt
theorem Inv.sz(I:Inv X pins σ H s):X.s₀.heap.objs.size<=s.heap.objs.size:=LU I.ok.above (Nf I.lt)
theorem Inv.nofs(I:Inv X pins σ H s)(h:s.heap.objs.size<=a):a∉X.fs:=λhb=>by
 obtain⟨_,o,ho,_⟩:=I.ok.funs.mem hb;exact absurd (LJ (Ls ho) (LU I.sz h)) (Mr _)
theorem Inv.cne(I:Inv X pins σ H s):∀x c,X.env.cells.lookup x=some c->c≠X.env.locals:=λx c e z=>by
 obtain⟨v,o,ho,hd⟩:=I.cell x c e;obtain⟨m,⟨o',es,ep,ho',hd',_⟩,_⟩:=I.loc;rw[z,ho'] at ho;cases ho;rw[hd'] at hd;cases hd
theorem Inv.funs(I:Inv X pins σ H s):s.heap.FunFrames X.base X.outer:=by
 have all:∀(l:List Env),(∀b∈frs l,b∈X.fs)->X.s₀.heap.FunFrames X.base l->s.heap.FunFrames X.base l:=by
  intro l;induction l with
  |nil=>intro _ _;trivial
  |cons env r ih =>
   intro hs hl;obtain⟨hk,⟨L,o,hf,hn,ho,hd⟩,hr⟩:=hl;have hL:L∈X.fs:=hs L (by unfold frs;rw[ND,hf];exact Ly);obtain⟨sl,e⟩:=I.base.slot L o ho (I.ok.frf L hL) hL λz=>I.ok.exfs L z hL
   exact⟨hk,⟨L,_,hf,hn,e,hd⟩,ih (λb hb=>hs b (by unfold frs;rw[ND,hf];exact Lx _ hb)) hr⟩
 exact all X.outer (λ_ hb=>hb) I.ok.funs
theorem Inv.stack(I:Inv X pins σ H s):s.heap.FunFrames X.base X.stack:=by
 rcases I.ok.stk with e|⟨e,hf⟩
 .rw[e];exact I.funs
 .rw[e];obtain⟨m,hn,_⟩:=I.loc;refine .cons (by rw[I.ok.kind];decide) hf hn ?_ I.funs;exact Nw (LU I.ok.bsz I.ok.above)
theorem Inv.stkSub(I:Inv X pins σ H s):∀b∈frs X.stack,b∈X.env.locals::X.fs:=λb hb=>by
 rcases I.ok.stk with e|⟨e,hf⟩
 .rw[e] at hb;exact Lx _ hb
 .rw[e] at hb;unfold frs at hb;rw[ND,hf] at hb;exact hb
theorem Inv.stkFree(I:Inv X pins σ H s):∀b∈frs X.stack,H b=none:=λb hb=>by
 rcases Lz.mp (I.stkSub b hb) with e|hb
 .rw[e];exact I.free
 .obtain⟨_,o,ho,_⟩:=I.ok.funs.mem hb;exact I.base.free b o ho (I.ok.frf b hb) λz=>I.ok.exfs b z hb
theorem Inv.step{g':Array GenState}{d':Drawn}(I:Inv X pins σ H s)
  (hch:∀b∈ch,(b∈X.ex\/X.s₀.heap.objs.size<=b)/\b≠X.env.locals/\(∀x c,X.env.cells.lookup x=some c->c≠b)/\∀p∈X.pn++pins,p.1≠b)
  (keep:∀b o,b≠X.env.locals->b∉X.fs->b∉ch->s.heap.get? b=some o->H b=none->h'.get? b=some o)
  (slot:∀b o,b≠X.env.locals->b∈X.fs->b∉ch->s.heap.get? b=some o->H b=none->∃sl,h'.get? b=some {o with slots:=sl})(free:∀b o,b∉ch->s.heap.get? b=some o->H b=none->H' b=none)
  (there:∀b o,b∉ch->s.heap.get? b=some o->∃o',h'.get? b=some o')
  (tups:∀b xs,H b=some (.tup xs)->H' b=some (.tup xs))(frzs:∀b o u,H b=some (.frz o u)->H' b=some (.frz o u))(tbls:∀b ps,H b=some (.tbl ps)->∃more,H' b=some (.tbl (ps++more)))
  (ns:∀m,s.heap.Ns X.env.locals m->h'.Ns X.env.locals m)(hok:HOk X.prog X.w H' h')(hg:AllBare g') :
  Inv X pins σ H' {s with heap:=h',gens:=g',drawn:=d',toks:=t'}:=by
 have neL:∀b o,X.s₀.heap.get? b=some o->b≠X.env.locals:=λb o e=>LI (LJ (Ls e) I.ok.above)
 have neC:∀b o,X.s₀.heap.get? b=some o->b∉X.ex->b∉ch:=λb o e hx hb=>by
  rcases(hch b hb).1 with z|z
  .exact hx z
  .exact absurd (LJ (Ls e) z) (Mr _)
 have cellK:∀x c,X.env.cells.lookup x=some c->∀v,s.heap.IsCell c v->h'.IsCell c v:=λx c e v ⟨o,ho,hd⟩=>by
  have nch:c∉ch:=λz=>(hch c z).2.2.1 x c e rfl
  by_cases hc:c∈X.fs
  .obtain⟨sl,q⟩:=slot c o (I.cne x c e) hc nch ho (I.freeC x c e);exact⟨_,q,hd⟩
  .exact⟨o,keep c o (I.cne x c e) hc nch ho (I.freeC x c e),hd⟩
 refine⟨I.ok,I.os,hg,⟨λb o e n hb hx=>?_,λb o e n hb hx=>?_,λb o e n hx=>?_,λb o e hx=>?_,λb xs e=>tups b xs (I.base.tups b xs e),λb o xs e=>frzs b o xs (I.base.frzs b o xs e),λb ps e=>?_⟩,?_,λx c e=>?_,?_,λx c e=>?_,λp hp=>?_,hok,I.len⟩
 .exact keep b o (neL b o e) hb (neC b o e hx) (I.base.keep b o e n hb hx) (I.base.free b o e n hx)
 .obtain⟨sl,e1⟩:=I.base.slot b o e n hb hx;obtain⟨sl',e2⟩:=slot b _ (neL b o e) hb (neC b o e hx) e1 (I.base.free b o e n hx);exact⟨sl',e2⟩
 .obtain⟨o',e1⟩:=I.base.there b o e hx;exact free b o' (neC b o e hx) e1 (I.base.free b o e n hx)
 .obtain⟨o',e1⟩:=I.base.there b o e hx;exact there b o' (neC b o e hx) e1
 .obtain⟨m1,e1⟩:=I.base.tbls b ps e;obtain⟨m2,e2⟩:=tbls b _ e1;exact⟨m1++m2,by rw[e2,Array.append_assoc]⟩
 .obtain⟨m,hn,hl⟩:=I.loc;refine⟨m,ns m hn,λi x v e1 e2 e3=>?_⟩;obtain⟨u,r,l⟩:=hl i x v e1 e2 e3;refine⟨u,r,?_⟩;rcases l with l|⟨k,c,e,z⟩
  .exact .inl l
  .exact .inr ⟨k,c,e,cellK x c e _ z⟩
 .obtain⟨v,z⟩:=I.cell x c e;exact⟨v,cellK x c e v z⟩
 .obtain⟨m,⟨o,_,_,ho,_⟩,_⟩:=I.loc;exact free _ o (λz=>(hch _ z).2.1 rfl) ho I.free
 .obtain⟨v,o,ho,hd⟩:=I.cell x c e;exact free c o (λz=>(hch c z).2.2.1 x c e rfl) ho (I.freeC x c e)
 .obtain⟨e,n,ne,nf,d⟩:=I.pin p hp;have nch:p.1∉ch:=λz=>(hch p.1 z).2.2.2 p hp rfl
  exact⟨keep p.1 p.2 ne nf nch e n,free p.1 p.2 nch e n,ne,nf,d⟩
theorem Inv.un(I:Inv X pins σ H s)(u:Un X.fs [] H H' s.heap h')(hok:HOk X.prog X.w H' h'):Inv X pins σ H' {s with heap:=h',toks:=t'}:=by
 obtain⟨m,⟨o,es,ep,ho,r⟩,_⟩:=id I.loc;obtain⟨sl,hL⟩:=u.any ho I.free (by simp);exact I.step (g':=s.gens) (d':=s.drawn) (ch:=[]) (λ_ z=>nomatch z) (λb o _ hb _ e n=>u.keep b o e n hb (by simp)) (λb o _ hb _ e n=>u.slot b o e n hb (by simp)) (λb o _ e n=>u.free b o e n (by simp)) (λb o _ e=>u.there b o e (by simp)) u.tups u.frzs u.tbls (λm' hm=>by
  obtain⟨o',es',ep',ho',r'⟩:=hm;rw[ho] at ho';cases ho';exact⟨_,es',ep',hL,r'⟩) hok I.bare
theorem Inv.call{g':Array GenState}{d':Drawn}(I:Inv X pins σ H s)(u:Un (frs X.stack) ch H H' s.heap h')(hok:HOk X.prog X.w H' h')(hg:AllBare g')
  (hch:∀b∈ch,(b∈X.ex\/X.s₀.heap.objs.size<=b)/\b≠X.env.locals/\(∀x c,X.env.cells.lookup x=some c->c≠b)/\∀p∈X.pn++pins,p.1≠b) :
  Inv X pins σ H' {s with heap:=h',gens:=g',drawn:=d',toks:=t'}:=by
 obtain⟨m,⟨o,es,ep,ho,r⟩,_⟩:=id I.loc;obtain⟨sl,hL⟩:=u.any ho I.free λz=>(hch _ z).2.1 rfl
 exact I.step (ch:=ch) hch (λb o hL hb hc e n=>u.keep b o e n (λz=>(Lz.mp (I.stkSub b z)).elim hL hb) hc) (λb o _ _ hc e n=>u.any e n hc) (λb o hc e n=>u.free b o e n hc) (λb o hc e=>u.there b o e hc) u.tups u.frzs u.tbls (λm' hm=>by
  obtain⟨o',es',ep',ho',r'⟩:=hm;rw[ho] at ho';cases ho';exact⟨_,es',ep',hL,r'⟩) hok hg
theorem Inv.turned{it:Addr}(I:Inv X pins σ H s)(k:∀b o,b≠it->s.heap.get? b=some o->h'.get? b=some o)(hn:H it=none)(hL:it≠X.env.locals)
  (h1:it∈X.ex\/X.s₀.heap.objs.size<=it)(h2:∀x c,X.env.cells.lookup x=some c->c≠it)(h3:∀p∈X.pn++pins,p.1≠it):Inv X pins σ H {s with heap:=h',toks:=t'}:=by
 have nit:∀b u,H b=some u->b≠it:=λb u e z=>by rw[z,hn] at e;cases e
 refine I.step (g':=s.gens) (d':=s.drawn) (ch:=[it]) (λb hb=>?_) (λb o _ _ hc e _=>k b o (λz=>hc (by simp[z])) e) (λb o _ _ hc e _=>⟨o.slots,k b o (λz=>hc (by simp[z])) e⟩) (λ_ _ _ _ n=>n)
  (λb o hc e=>⟨o,k b o (λz=>hc (by simp[z])) e⟩) (λ_ _ e=>e) (λ_ _ _ e=>e) (λb ps e=>⟨#[],by rw[e];simp⟩) (λm hm=>?_) (λb u e=>?_) I.bare
 .have e:b=it:=by simpa using hb
  subst e;exact⟨h1,hL,h2,h3⟩
 .obtain⟨o,es,ep,ho,r⟩:=hm;exact⟨o,es,ep,k _ o (Ne.symm hL) ho,r⟩
 .refine(I.hok b u e).stay (λc v hc q=>k c v ?_ q) (λ_ q=>q) λ_ _ q=>q
  rcases hc with z|z
  .rw[z];exact nit b u e
  .exact nit c _ z
theorem Inv.tok(I:Inv X pins σ H s)(t:Nat):Inv X pins σ H {s with toks:=t}:=I.un (h':=s.heap) (t':=t) Un.refl I.hok
theorem Inv.kept(I:Inv X pins σ H s)(k:∀b u,s.heap.get? b=some u->h'.get? b=some u):Inv X pins σ H {s with heap:=h',toks:=t'}:=I.un (Un.kept k) (I.hok.kept k)
theorem Inv.laid(I:Inv X pins σ H s)(k:∀b u,s.heap.get? b=some u->h'.get? b=some u)(hp:s.heap.objs.size<=a)(new:aC X.prog X.w (upd H a o) h' a o) :
  Inv X pins σ (upd H a o) {s with heap:=h',toks:=t'}:=I.un (Un.laid k hp (I.hok.fresh hp)) (I.hok.laid k hp new)
theorem Inv.write{x e:Addr}(I:Inv X pins σ H s)(mu:Mut (H x))(he:e=x\/H e=some (.own x))(k:∀b u,b≠e->s.heap.get? b=some u->h'.get? b=some u)(heo:∃u,h'.get? e=some u)
  (new:aC X.prog X.w (upd H x o) h' x o):Inv X pins σ (upd H x o) {s with heap:=h',toks:=t'}:=I.un (Un.write mu he k heo) (I.hok.write mu he k heo new)
theorem Inv.weak{σ':List (Option V)}(I:Inv X pins σ H s)(hl:σ'.length=σ.length)(w:∀(i:Nat) v,σ'[i]? = some (some v)->σ[i]? = some (some v)):Inv X pins σ' H s :=
 ⟨I.ok,I.os,I.bare,I.base,let ⟨m,hn,hl'⟩:=I.loc;⟨m,hn,λi x v e1 e2 e3=>hl' i x v e1 (w i v e2) e3⟩,I.cell,I.free,I.freeC,I.pin,I.hok,hl.trans I.len⟩
theorem Inv.pins_of{pins':List (Addr×Obj)}(I:Inv X pins σ H s)(h:∀p∈pins',s.heap.get? p.1=some p.2/\H p.1=none/\p.1≠X.env.locals/\p.1∉X.fs/\∀v,p.2.data≠ .cell v):Inv X pins' σ H s :=
 ⟨I.ok,I.os,I.bare,I.base,I.loc,I.cell,I.free,I.freeC,λp hp=>(LP.mp hp).elim (λz=>I.pin p (Lq _ z)) (h p),I.hok,I.len⟩
theorem qF(hN:N.Nodup){i:Nat}(a:N[i]? = some x)(b:N[j]? = some x):i=j:=by
 obtain⟨h1,e1⟩:=LD.mp a;obtain⟨h2,e2⟩:=LD.mp b;exact(QB hN).mp (e1.trans e2.symm)
theorem qH{i:Nat}{Q:Unit->Shared->Prop}(I:Inv X pins σ H s)(hN:X.N.Nodup)(hi:X.N[i]? = some x)(hx:Loc X.env.scope x)(r:RelV v u)
  (h:∀s',Inv X pins (σ.set i (some v)) H s'->(∃a,NS a s.heap s'.heap/\(a=X.env.locals\/X.env.cells.lookup x=some a))->Q () s')(hf:X.fn x=true\/X.env.scope.names.lookup x=some .local:=by first|exact .inl rfl|exact .inr rfl|assumption):wpAny M A (storeName X.env x u) Q E s:=by
 obtain⟨m,hn,hl⟩:=id I.loc;have hcls:(X.env.scope.kind== .class||(X.env.scope.kind== .module&&X.env.locals !=X.env.globals))=false:=by rw[I.ok.kind];rfl
 have hiσ:i < σ.length:=by rw[I.len];exact(LD.mp hi).1
 have cne:=I.cne;have tracked:∀{a:Addr} {h':Heap},(∃o,s.heap.get? a=some o/\H a=none)->NS a s.heap h'->HOk X.prog X.w H h':=λ{a h'} ha hs b ob e=>by
  obtain⟨_,_,hfree⟩:=ha;refine(I.hok b ob e).stay (λc w' hc q=>(hs.2 c ?_).trans q) (λ_ q=>q) λ_ _ q=>q
  rintro rfl;rcases hc with rfl|hc
  .rw[hfree] at e;cases e
  .rw[hfree] at hc;cases hc
 rcases hx with hk|hk
 .refine wpAny_storeName_local hk hn (λh' hn' hs=>?_) hcls;obtain⟨oL,_,_,hoL,_⟩:=id hn;refine h _ ⟨I.ok,I.os,I.bare,⟨λb o e n hb hx=>?_,λb o e n hb hx=>?_,I.base.free,λb o e hx=>?_,I.base.tups,I.base.frzs,I.base.tbls⟩,⟨_,hn',λj y v' e1 e2 e3=>?_⟩,λy c e=>?_,I.free,I.freeC,λp hp=>?_,tracked ⟨oL,hoL,I.free⟩ hs,by simpa using I.len⟩ ⟨_,hs,.inl rfl⟩
  .exact(hs.2 b (LI (LJ (Ls e) I.ok.above))).trans (I.base.keep b o e n hb hx)
  .obtain⟨sl,e1⟩:=I.base.slot b o e n hb hx;exact⟨sl,(hs.2 b (LI (LJ (Ls e) I.ok.above))).trans e1⟩
  .obtain⟨o',e1⟩:=I.base.there b o e hx;exact⟨o',(hs.2 b (LI (LJ (Ls e) I.ok.above))).trans e1⟩
  .by_cases hj:j=i
   .subst hj;rw[hi] at e1;cases e1;rw[Mj hiσ] at e2;cases e2;exact⟨u,r,.inl ⟨hk,by simp⟩⟩
   .rw[Ml (Ne.symm hj)] at e2;obtain⟨u',r',q⟩:=hl j y v' e1 e2 e3;refine⟨u',r',?_⟩;rcases q with⟨k,e⟩|⟨k,c,e,z⟩
    .refine .inl ⟨k,?_⟩;have:y≠x:=λe=>hj (qF hN e1 (e▸hi))
     simp[this,e]
    .exact .inr ⟨k,c,e,z.sameBut hs (cne y c e)⟩
  .obtain⟨w',z⟩:=I.cell y c e;exact⟨w',z.sameBut hs (cne y c e)⟩
  .obtain⟨e,n,ne,nf,d⟩:=I.pin p hp;exact⟨(hs.2 p.1 ne).trans e,n,ne,nf,d⟩
 .have hfn:X.fn x=true:=by
   rcases hf with z|z
   .exact z
   .rw[z] at hk;cases hk
  obtain⟨c,hc⟩:=I.ok.has x (.inl hk);obtain⟨w',z⟩:=I.cell x c hc;refine wpAny_storeName_cell I.ok.kind hk hc z (λh' hc' hs=>?_);obtain⟨oc,hoc,hocd⟩:=id z;refine h {s with heap:=h'} ⟨I.ok,I.os,I.bare,⟨λb o e n hb hx=>?_,λb o e n hb hx=>?_,I.base.free,λb o e hx=>?_,I.base.tups,I.base.frzs,I.base.tbls⟩,⟨m,hn.sameBut hs (Ne.symm (cne x c hc)),λj y v' e1 e2 e3=>?_⟩,λy c' e=>?_,I.free,I.freeC,λp hp=>?_,tracked ⟨oc,hoc,I.freeC x c hc⟩ hs,by simpa using I.len⟩ ⟨c,hs,.inr hc⟩
  .exact(hs.2 b (LI (LJ (Ls e) (I.ok.cab x c hfn hc)))).trans (I.base.keep b o e n hb hx)
  .obtain⟨sl,e1⟩:=I.base.slot b o e n hb hx;exact⟨sl,(hs.2 b (LI (LJ (Ls e) (I.ok.cab x c hfn hc)))).trans e1⟩
  .obtain⟨o',e1⟩:=I.base.there b o e hx;exact⟨o',(hs.2 b (LI (LJ (Ls e) (I.ok.cab x c hfn hc)))).trans e1⟩
  .by_cases hj:j=i
   .subst hj;rw[hi] at e1;cases e1;rw[Mj hiσ] at e2;cases e2;exact⟨u,r,.inr ⟨.inl hk,c,hc,hc'⟩⟩
   .rw[Ml (Ne.symm hj)] at e2;obtain⟨u',r',q⟩:=hl j y v' e1 e2 e3;refine⟨u',r',?_⟩;rcases q with q|⟨k,c',e,z'⟩
    .exact .inl q
    .refine .inr ⟨k,c',e,z'.sameBut hs ?_⟩;rintro rfl;exact hj (qF hN e1 (I.ok.inj _ _ _ e hc▸hi))
  .by_cases hcc:c'=c
   .subst hcc;exact⟨_,hc'⟩
   .obtain⟨w2,z2⟩:=I.cell y c' e;exact⟨w2,z2.sameBut hs hcc⟩
  .obtain⟨e,n,ne,nf,d⟩:=I.pin p hp;refine⟨(hs.2 p.1 ?_).trans e,n,ne,nf,d⟩;intro q;rw[q,hoc] at e;have q':oc=p.2:=Mw e;exact d w' (by rw[<- q'];exact hocd)
theorem jW{i:Nat}{Q:Unit->Shared->Prop}(I:Inv X pins σ H s)(hN:X.N.Nodup)(hi:X.N[i]? = some x)(hx:Loc X.env.scope x)(r:RelV v u)
  (h:∀s',Inv X pins (σ.set i (some v)) H s'->Q () s')(hf:X.fn x=true\/X.env.scope.names.lookup x=some .local:=by first|exact .inl rfl|exact .inr rfl|assumption):wpAny M A (storeName X.env x u) Q E s :=
 qH I hN hi hx r (λs' I' _=>h s' I') hf
theorem Inv.call'{s':Shared}(I:Inv X pins σ H s)(ho:s'.os=s.os)(u:Un (frs X.stack) ch H H' s.heap s'.heap)(hok:HOk X.prog X.w H' s'.heap)(hg:AllBare s'.gens)
  (hch:∀b∈ch,(b∈X.ex\/X.s₀.heap.objs.size<=b)/\b≠X.env.locals/\(∀x c,X.env.cells.lookup x=some c->c≠b)/\∀p∈X.pn++pins,p.1≠b):Inv X pins σ H' s':=by
 obtain⟨h',g',d',t',o'⟩:=s';have e:o'=s.os:=ho;subst e;exact I.call (g':=g') (t':=t') (d':=d') u hok hg hch
end
abbrev XK:=Value->Option Addr->Hp->Prop
abbrev St:=List (Option V)
variable{σ:St}
abbrev VK:=V->Hp->Prop
abbrev TE:=St->Hp->VK->Prop
variable{ta te tb:TE}
abbrev TT:=St->Hp->(Bool->Hp->Prop)->Prop
abbrev TA:=St->Hp->(List V->Hp->Prop)->Prop
structure Ends where
 nx:St->Hp->Prop
 rt:VK
 bk:St->Hp->Prop:=λ_ _=>False
 ct:St->Hp->Prop:=λ_ _=>False
abbrev TS:=Ends->St->Hp->Prop
def EP(X:Cx)(pins:List (Addr×Obj))(σ:St)(Q:VK)(u:Value)(s':Shared):Prop:=∃v H',Inv X pins σ H' s'/\RelV v u/\Q v H'
def TP(X:Cx)(pins:List (Addr×Obj))(σ:St)(Q:Bool->Hp->Prop)(b:Bool)(s':Shared):Prop:=∃H',Inv X pins σ H' s'/\Q b H'
def AP(X:Cx)(pins:List (Addr×Obj))(σ:St)(Q:List V->Hp->Prop)(us:List Value)(s':Shared):Prop:=∃vs H',Inv X pins σ H' s'/\Vals vs us/\Q vs H'
def SP(X:Cx)(pins:List (Addr×Obj))(D:Ends)(f:Flow)(s':Shared):Prop :=
 match f with
 | .next=>∃ σ' H',Inv X pins σ' H' s'/\D.nx σ' H'
 | .brk=>∃ σ' H',Inv X pins σ' H' s'/\D.bk σ' H'
 | .cont=>∃ σ' H',Inv X pins σ' H' s'/\D.ct σ' H'
 | .ret u=>∃v σ' H',Inv X pins σ' H' s'/\RelV v u/\D.rt v H'
def PE(X:Cx)(e:Expr)(t:TE):Prop :=
 ∀(pins:List (Addr×Obj)) (s:Shared) (σ:St) (H:Hp) (Q:VK),Inv X pins σ H s->t σ H Q->wpAny (model X.prog X.w) X.A (eval e X.env) (EP X pins σ Q) X.xe s
def PT(X:Cx)(e:Expr)(t:TT):Prop :=
 ∀(pins:List (Addr×Obj)) (s:Shared) (σ:St) (H:Hp) (Q:Bool->Hp->Prop),Inv X pins σ H s->t σ H Q->wpAny (model X.prog X.w) X.A (isTrue e X.env (eval e X.env)) (TP X pins σ Q) X.xe s
def PW(X:Cx)(e:Expr)(t:TT):Prop :=
 ∀(whole:Sem Value) (pins:List (Addr×Obj)) (s:Shared) (σ:St) (H:Hp) (Q:Bool->Hp->Prop),Inv X pins σ H s->t σ H Q->wpAny (model X.prog X.w) X.A (isTrue e X.env whole) (TP X pins σ Q) X.xe s
theorem PW.pt{t:TT}(h:PW X e t):PT X e t:=h _
def PA(X:Cx)(es:List Expr)(t:TA):Prop :=
 ∀(pos:Pos) (pins:List (Addr×Obj)) (s:Shared) (σ:St) (H:Hp) (Q:List V->Hp->Prop),Inv X pins σ H s->t σ H Q->wpAny (model X.prog X.w) X.A (spliced (backTo pos (starEach es X.env))) (AP X pins σ Q) X.xe s
def PS(X:Cx)(st:Stmt)(t:TS):Prop :=
 ∀(pins:List (Addr×Obj)) (s:Shared) (σ:St) (H:Hp) (D:Ends),Inv X pins σ H s->t D σ H->wpAny (model X.prog X.w) X.A (exec st X.env) (SP X pins D) X.xe s
def PSs(X:Cx)(st:List Stmt)(t:TS):Prop :=
 ∀(pins:List (Addr×Obj)) (s:Shared) (σ:St) (H:Hp) (D:Ends),Inv X pins σ H s->t D σ H->wpAny (model X.prog X.w) X.A (execs st X.env) (SP X pins D) X.xe s
theorem thn{α:Type}{t:Sem α}{Q Q':α->Shared->Prop}{s:Shared}(h:wpAny M A t Q E s)(hQ:∀a s,Q a s->Q' a s):wpAny M A t Q' E s:=Ma h hQ λ_ _ x=>x
section
def aH(i:Nat):TE:=λσ H Q=>∃v,σ[i]? = some (some v)/\Q v H
def tC(v:V):TE:=λ_ H Q=>Q v H
theorem Ah{i:Nat}(hN:X.N[i]? = some x)(hv:Vis X.env.scope x)(hd:(x==("__debug__":Str))=false:=by decide)(hcd:(x==("__classdict__":Str))=false:=by decide):PE X (.Name x pos) (aH i):=by
 intro pins s σ H Q I h;obtain⟨v,e,h⟩:=h;obtain⟨m,hn,hl⟩:=I.loc;obtain⟨u,r,l⟩:=hl i x v hN e hv;have fin:EP X pins σ Q u s:=⟨v,H,I,r,h⟩;rcases l with⟨hk,hm⟩|⟨hk,c,hc,hcell⟩
 .exact OH (NA I.ok.kind hk hn hm fin) hd
 .rcases hk with hk|hk
  .exact OH (wpAny_loadName_cell I.ok.kind hk hc hcell fin) hd
  .exact OH (PM I.ok.kind hk hc hcell fin hcd) hd
theorem qI{i j pos}:PE X (.Constant (.int i) j pos) (tC (.int i)):=λ_ _ _ H _ I h=>wpAny_Constant_int ⟨.int i,H,I.tok _,⟨_,rfl⟩,h⟩
theorem Ai{b j pos}:PE X (.Constant (.bool b) j pos) (tC (.bl b)):=λ_ _ _ H _ I h=>Constant_bool ⟨.bl b,H,I,rfl,h⟩
theorem Aj{x j pos}:PE X (.Constant (.str x) j pos) (tC (.str x)):=λ_ _ _ H _ I h=>Calls.Constant_str ⟨.str x,H,I.tok _,⟨_,rfl⟩,h⟩
def Gl(X:Cx)(x:Str):Prop:=X.env.kindOf x=some .globalImplicit
theorem eS{s:Shared}(I:Inv X pins σ H s)(hg:Gl X x)(hm:X.mg x=some u)(h:Q u s)
  (hd:(x==("__debug__":Str))=false:=by decide):wpAny (model X.prog X.w) X.A (eval (.Name x pos) X.env) Q E s :=
 Calls.Name_function_global I.ok.kind hg (Calls.loadGlobal_global (by rw[I.ok.glob];exact I.mod.glob.keeps I.bk) hm h) hd
theorem jX{s:Shared}(I:Inv X pins σ H s)(hg:Gl X x)(hm:X.mg x=none)(hv:bootBuiltins x=some u)(h:Q u s)
  (hn:x≠"__name__":=by decide)(hd:(x==("__debug__":Str))=false:=by decide):wpAny (model X.prog X.w) X.A (eval (.Name x pos) X.env) Q E s:=by
 obtain⟨mb,h1,h2⟩:=I.mod.blt;exact Calls.Name_function_global I.ok.kind hg (Calls.loadGlobal_builtin (by rw[I.ok.glob];exact I.mod.glob.keeps I.bk) hm (by rw[I.ok.blt];exact h1.keeps I.bk) ((h2 x hn).trans hv) h) hd
theorem Ak(hg:Gl X x)(hm:X.mg x=some u)(r:RelV v u)(hd:(x==("__debug__":Str))=false:=by decide):PE X (.Name x pos) (tC v) :=
 λ_ _ _ H _ I h=>eS I hg hm ⟨v,H,I,r,h⟩ hd
theorem Al(hg:Gl X x)(hm:X.mg x=none)(hv:bootBuiltins x=some u)(r:RelV v u)(hn:x≠"__name__":=by decide)(hd:(x==("__debug__":Str))=false:=by decide):PE X (.Name x pos) (tC v) :=
 λ_ _ _ H _ I h=>jX I hg hm hv ⟨v,H,I,r,h⟩ hn hd
variable{a b:Expr}
def tB(t:TE):TT:=λσ H Q=>t σ H λx H1=>∃c,x= .bl c/\Q c H1
theorem Am{t:TE}(h:PE X e t)(he:∀whole,isTrue e X.env whole=(do let v<-whole;standAt e.pos;holding [v] (truthy v)):=by intro _;rfl):PT X e (tB t):=by
 intro pins s σ H Q I hw;refine isTrue_plain (thn (h pins s σ H _ I hw) λv s1 ⟨x,H1,I1,r1,q1⟩=>?_) (he _);obtain⟨d,rfl,q⟩:=q1;cases r1;exact MJ ⟨H1,I1,q⟩
variable{tA tB':TT}{rest:List Expr}
def mM(t u:TT):TT:=λσ H Q=>t σ H λc H1=>if c=true then u σ H1 Q else Q false H1
def tOr(t u:TT):TT:=λσ H Q=>t σ H λc H1=>if c=true then Q true H1 else u σ H1 Q
def mO(t:TT):TT:=λσ H Q=>t σ H λc H1=>Q (!c) H1
theorem An(ha:PT X a tA):PW X (.BoolOp .And [a] pos) tA:=by
 intro wh pins s σ H Q I h;refine isTrue_and (thn (ha pins s σ H Q I h) λc s1 e=>?_);cases c with
 |true=>exact isTrue_and_nil e
 |false=>exact e
theorem Ao(ha:PT X a tA):PW X (.BoolOp .Or [a] pos) tA:=by
 intro wh pins s σ H Q I h;refine isTrue_or (thn (ha pins s σ H Q I h) λc s1 e=>?_);cases c with
 |false=>exact isTrue_or_nil e
 |true=>exact e
theorem Ap(ha:PT X a tA)(hb:PW X (.BoolOp .And (b::rest) pos) tB'):PW X (.BoolOp .And (a::b::rest) pos) (mM tA tB'):=by
 intro wh pins s σ H Q I h;refine isTrue_and (thn (ha pins s σ H _ I h) λc s1 ⟨H1,I1,q1⟩=>?_);cases c with
 |true=>exact hb wh pins s1 σ H1 Q I1 q1
 |false=>exact⟨H1,I1,q1⟩
theorem Aq(ha:PT X a tA)(hb:PW X (.BoolOp .Or (b::rest) pos) tB'):PW X (.BoolOp .Or (a::b::rest) pos) (tOr tA tB'):=by
 intro wh pins s σ H Q I h;refine isTrue_or (thn (ha pins s σ H _ I h) λc s1 ⟨H1,I1,q1⟩=>?_);cases c with
 |true=>exact⟨H1,I1,q1⟩
 |false=>exact hb wh pins s1 σ H1 Q I1 q1
theorem Ar(ha:PT X a tA):PT X (.UnaryOp .Not a pos) (mO tA):=by
 intro pins s σ H Q I h;exact isTrue_not (ha pins s σ H (λc H1=>Q (!c) H1) I h)
def mP(ta tb:TE):TE:=λσ H Q=>ta σ H λx H1=>∃c,x= .bl c/\if c=true then tb σ H1 Q else Q (.bl false) H1
def mQ(ta:TE):TE:=λσ H Q=>ta σ H λx H1=>∃c,x= .bl c/\Q (.bl (!c)) H1
theorem As{op}{t:TE}(h:PE X a t):PE X (.BoolOp op [a] pos) t:=λpins s σ H Q I hw=>BoolOp_one (h pins s σ H Q I hw)
theorem At(ha:PE X a ta)(hb:PE X (.BoolOp .And (b::rest) pos) tb):PE X (.BoolOp .And (a::b::rest) pos) (mP ta tb):=by
 intro pins s σ H Q I h;refine BoolOp_and (thn (ha pins s σ H _ I h) λv s1 ⟨x,H1,I1,r1,q1⟩=>?_);obtain⟨c,rfl,q1⟩:=q1;cases r1;refine MJ ?_;cases c with
 |true=>exact hb pins s1 σ H1 Q I1 q1
 |false=>exact⟨.bl false,H1,I1,rfl,q1⟩
theorem Au(ha:PE X a ta):PE X (.UnaryOp .Not a pos) (mQ ta):=by
 intro pins s σ H Q I h;refine UnaryOp_ (thn (ha pins s σ H _ I h) λv s1 ⟨x,H1,I1,r1,q1⟩=>?_);obtain⟨c,rfl,q1⟩:=q1;cases r1;exact not_of (MJ ⟨.bl (!c),H1,I1,rfl,q1⟩)
end
def SqL(K:Frag)(H:Hp)(a:Addr)(xs:List V):Prop :=
 Rd H a (.lst xs) \/
  ∃(o:Obj) (its:Array Value) (n:Nat),K.lookup a=some o/\o.cls= .type "list"/\o.dict=none/\o.data= .seq its n/\its.size<=sizeLine/\Vals xs its.toList
def SqT(K:Frag)(H:Hp)(a:Addr)(xs:List V):Prop :=
 Rd H a (.tup xs) \/
  ∃(o:Obj) (its:Array Value) (n:Nat),K.lookup a=some o/\o.cls= .type "tuple"/\o.data= .seq its n/\its.size<=sizeLine/\Vals xs its.toList
def Av:Value->Option V
 | .none=>some .non
 | .bool b=>some (.bl b)
 | .int i _=>some (.int i)
 | .str x _=>some (.str x)
 | .bytes b _=>some (.byt b)
 | .float b _=>some (.flt b)
 | .ref a=>some (.ref a)
 | .type n=>some (.ty n)
 |_=>none
theorem RelV.abs{x:V}(r:RelV x u):Av u=some x:=by
 cases x with
 |non=>cases r;rfl
 |bl _=>cases r;rfl
 |int _=>obtain⟨t,rfl⟩:=r;rfl
 |str _=>obtain⟨t,rfl⟩:=r;rfl
 |byt _=>obtain⟨t,rfl⟩:=r;rfl
 |flt _=>obtain⟨t,rfl⟩:=r;rfl
 |ref _=>cases r;rfl
 |ty _=>cases r;rfl
theorem RelV.inj{x:V}(r:RelV x u)(q:RelV y u):x=y:=Mw (r.abs.symm.trans q.abs)
theorem Vals.inj:∀{xs ys:List V} {us:List Value},Vals xs us->Vals ys us->xs=ys
 |_,_,_,.nil,.nil=>rfl
 |_,_,_,.cons r t,.cons r' t'=>by rw[r.inj r',Vals.inj t t']
section
variable{s:Shared}{xs ys:List V}
theorem SqL.of(h:H a=some (.lst xs)):SqL K H a xs:= .inl (.inl h)
theorem SqT.of(h:H a=some (.tup xs)):SqT K H a xs:= .inl (.inl h)
theorem Inv.list(I:Inv X pins σ H s)(h:SqL X.K H a xs):∃its:List Value,Vals xs its/\PlainL s.heap a its.toArray/\xs.length<=sizeLine:=by
 rcases h with h|⟨o,its,n,hk,hc,hd,hs,hz,r⟩
 .obtain⟨z,its,n,r,e⟩:=h.ok I.hok;exact⟨its,r,⟨_,n,e,rfl,rfl,rfl⟩,z⟩
 .refine⟨its.toList,r,⟨o,n,I.kIn a o hk,hc,hd,by simpa using hs⟩,?_⟩;have e:=r.length;simp only[LQ] at e;omega
theorem Inv.tuple(I:Inv X pins σ H s)(h:SqT X.K H a xs):∃its:List Value,Vals xs its/\IsTup s.heap a its.toArray/\xs.length<=sizeLine:=by
 rcases h with h|⟨o,its,n,hk,hc,hs,hz,r⟩
 .obtain⟨z,its,r,p⟩:=h.ok I.hok;exact⟨its,r,p,z⟩
 .refine⟨its.toList,r,⟨o,I.kIn a o hk,hc,n,by simpa using hs⟩,?_⟩;have e:=r.length;simp only[LQ] at e;omega
theorem Inv.list_inj(I:Inv X pins σ H s)(h:SqL X.K H a xs)(h':SqL X.K H a ys):xs=ys:=by
 obtain⟨its,r,⟨o,n,e,_,_,d⟩,_⟩:=I.list h;obtain⟨its',r',⟨o',n',e',_,_,d'⟩,_⟩:=I.list h';rw[e] at e';cases e';rw[d] at d';injection d' with d1 _;have:its=its':=by simpa using congrArg So d1
 subst this;exact r.inj r'
theorem Inv.tuple_inj(I:Inv X pins σ H s)(h:SqT X.K H a xs)(h':SqT X.K H a ys):xs=ys:=by
 obtain⟨its,r,⟨o,e,_,n,d⟩,_⟩:=I.tuple h;obtain⟨its',r',⟨o',e',_,n',d'⟩,_⟩:=I.tuple h';rw[e] at e';cases e';rw[d] at d';injection d' with d1 _;have:its=its':=by simpa using congrArg So d1
 subst this;exact r.inj r'
end
abbrev Cx.wish(X:Cx)(E:Value->Shared->Prop):Cx:={X with xe:=E}
abbrev Cx.nox(X:Cx):Cx:=X.wish λ_ _=>False
theorem Cx.Ok.wish(ok:X.Ok)(E:Value->Shared->Prop):(X.wish E).Ok :=
 ⟨ok.mod,ok.kind,ok.glob,ok.blt,ok.above,ok.inj,ok.has,ok.cab,ok.hd,ok.frames,ok.stk,ok.exf,ok.bs,ok.bsz,ok.noex,ok.exfs,ok.funs,ok.frf⟩
theorem Cx.Ok.unwish(ok:(X.wish E).Ok):X.Ok :=
 ⟨ok.mod,ok.kind,ok.glob,ok.blt,ok.above,ok.inj,ok.has,ok.cab,ok.hd,ok.frames,ok.stk,ok.exf,ok.bs,ok.bsz,ok.noex,ok.exfs,ok.funs,ok.frf⟩
section
variable{s:Shared}
theorem Inv.wish(I:Inv X pins σ H s)(E:Value->Shared->Prop):Inv (X.wish E) pins σ H s:=⟨I.ok.wish E,I.os,I.bare,I.base,I.loc,I.cell,I.free,I.freeC,I.pin,I.hok,I.len⟩
theorem Inv.unwish(I:Inv (X.wish E) pins σ H s):Inv X pins σ H s:=⟨I.ok.unwish,I.os,I.bare,I.base,I.loc,I.cell,I.free,I.freeC,I.pin,I.hok,I.len⟩
theorem SP.unwish{D:Ends}{f:Flow}{s':Shared}(h:SP (X.wish E) pins D f s'):SP X pins D f s':=by
 cases f with
 |next=>obtain⟨σ',H',I,q⟩:=h;exact⟨σ',H',I.unwish,q⟩
 |brk=>obtain⟨σ',H',I,q⟩:=h;exact⟨σ',H',I.unwish,q⟩
 |cont=>obtain⟨σ',H',I,q⟩:=h;exact⟨σ',H',I.unwish,q⟩
 |ret u=>obtain⟨v,σ',H',I,r,q⟩:=h;exact⟨v,σ',H',I.unwish,r,q⟩
theorem PSs.nox{st:List Stmt}{t:TS}(h:PSs X.nox st t):PSs X st t:=λpins s σ H D I hw =>
 Ma (h pins s σ H D (I.wish _) hw) (λ_ _ q=>q.unwish) λ_ _ z=>False.elim z
end
section
variable{st:Stmt}{rest:List Stmt}{t u:TS}
def mR:TS:=λD σ H=>D.nx σ H
def dH(t u:TS):TS:=λD σ H=>t {D with nx:=u D} σ H
theorem mS:PSs X [] mR:=λ_ _ σ H _ I h=>Pj ⟨σ,H,I,h⟩
theorem Aw(h1:PS X st t)(h2:PSs X rest u):PSs X (st::rest) (dH t u):=by
 intro pins s σ H D I h;refine QP (thn (h1 pins s σ H {D with nx:=u D} I h) λf s1 q=>?_);cases f with
 |next =>
  obtain⟨σ',H',I',q⟩:=q;exact h2 pins s1 σ' H' D I' q
 |ret v=>exact q
 |brk=>exact q
 |cont=>exact q
theorem Ax(h1:PS X st t):PSs X [st] t:=by
 intro pins s σ H D I h;refine QP (thn (h1 pins s σ H D I h) λf s1 q=>?_);cases f with
 |next=>exact Pj q
 |ret v=>exact q
 |brk=>exact q
 |cont=>exact q
theorem Inv.quiet{s:Shared}(I:Inv X pins σ H s):interactive X.env=false:=by simp[interactive,I.ok.kind]
def mT(te:TE):TS:=λD σ H=>te σ H λ_ H1=>D.nx σ H1
theorem Ay(he:PE X e te)(hs:swapsWith e none pos.line X.env=pure false:=by rfl):PS X (.Expr e pos) (mT te):=by
 intro pins s σ H D I h;exact wpAny_Expr_any (thn (he pins s σ H _ I h) λv s1 ⟨x,H1,I1,r1,q1⟩=>⟨σ,H1,I1,q1⟩) I.quiet hs
def fZ(te:TE):TS:=λD σ H=>te σ H D.rt
theorem Az(he:PE X e te):PS X (.Return (some e) pos) (fZ te):=by
 intro pins s σ H D I h;exact wpAny_Return_some (thn (he pins s σ H _ I h) λv s1 ⟨x,H1,I1,r1,q1⟩=>⟨x,σ,H1,I1,r1,q1⟩)
def jY(c:TT)(t u:TS):TS:=λD σ H=>c σ H λb H1=>if b=true then t D σ H1 else u D σ H1
theorem AA{c:Expr}{a b:List Stmt}{tc:TT}(hc:PT X c tc)(ha:PSs X a t)(hb:PSs X b u):PS X (.If c a b pos) (jY tc t u):=by
 intro pins s σ H D I h;refine wpAny_If (thn (hc pins s σ H _ I h) λd s1 ⟨H1,I1,q1⟩=>?_);cases d with
 |true=>exact ha pins s1 σ H1 D I1 q1
 |false=>exact hb pins s1 σ H1 D I1 q1
def mU:TS:=λ_ _ _=>False
theorem AB:PS X st mU:=λ_ _ _ _ _ _ h=>h.elim
end
abbrev TG:=V->St->Hp->(St->Hp->Prop)->Prop
abbrev TGs:=List V->St->Hp->(St->Hp->Prop)->Prop
def PG(X:Cx)(target:Expr)(t:TG):Prop :=
 ∀(pins:List (Addr×Obj)) (s:Shared) (σ:St) (H:Hp) (v:V) (u:Value) (Q:St->Hp->Prop),Inv X pins σ H s->RelV v u->t v σ H Q ->
  wpAny (model X.prog X.w) X.A (assign target X.env u) (λ_ s'=>∃ σ' H',Inv X pins σ' H' s'/\Q σ' H') X.xe s
def PGs(X:Cx)(ts:List Expr)(t:TGs):Prop :=
 ∀(pins:List (Addr×Obj)) (s:Shared) (σ:St) (H:Hp) (vs:List V) (us:List Value) (Q:St->Hp->Prop),Inv X pins σ H s->Vals vs us->t vs σ H Q ->
  wpAny (model X.prog X.w) X.A (assignInOrder ((assignEach ts X.env).map (·.2)) us) (λ_ s'=>∃ σ' H',Inv X pins σ' H' s'/\Q σ' H') X.xe s
abbrev jZ:=V->V->V->Hp->(Hp->Prop)->Prop
def mV(X:Cx)(t:jZ):Prop :=
 ∀(pins:List (Addr×Obj)) (s:Shared) (σ:St) (H:Hp) (o i v:V) (ov iv u:Value) (Q:Hp->Prop),Inv X pins σ H s->RelV o ov->RelV i iv->RelV v u->t o i v H Q ->
  wpAny (model X.prog X.w) X.A (setItem ov iv u) (λ_ s'=>∃H',Inv X pins σ H' s'/\Q H') X.xe s
section
def cT(i:Nat):TG:=λv σ H Q=>Q (σ.set i (some v)) H
theorem AC{i:Nat}(hN:X.N.Nodup)(hi:X.N[i]? = some x)(hx:Loc X.env.scope x)(hf:X.fn x=true\/X.env.scope.names.lookup x=some .local:=by first|exact .inl rfl|exact .inr rfl|assumption):PG X (.Name x pos) (cT i):=by
 intro pins s σ H v u Q I r h;exact Qv (jW I hN hi hx r (λs' I'=>⟨_,H,I',h⟩) hf)
def mW:TGs:=λvs σ H Q=>vs=[]/\Q σ H
def mX(t:TG)(u:TGs):TGs:=λvs σ H Q=>∃v r,vs=v::r/\t v σ H λσ' H'=>u r σ' H' Q
theorem AD:PGs X [] mW:=by
 intro pins s σ H vs us Q I r h;obtain⟨e,h⟩:=h;subst e;cases r;exact assignInOrder_nil ⟨σ,H,I,h⟩
theorem AE{t:TG}{u:TGs}(h1:PG X e t)(h2:PGs X es u)
  (hs:(assignEach (e::es) X.env).map (·.2)=assign e X.env::(assignEach es X.env).map (·.2):=by rfl):PGs X (e::es) (mX t u):=by
 intro pins s σ H vs us Q I r h;obtain⟨v,vr,e1,h⟩:=h;subst e1;cases r with
 |cons r rr =>
  rw[hs];refine assignInOrder_cons (thn (h1 pins s σ H _ _ _ I r h) λ_ s1 ⟨σ1,H1,I1,q1⟩=>?_);exact h2 pins s1 σ1 H1 _ _ Q I1 rr q1
def j0(K:Frag)(n:Nat)(t:TGs):TG:=λv σ H Q=>∃a xs,v= .ref a/\SqT K H a xs/\xs.length=n/\t xs σ H Q
theorem qJ{k:Nat}{t:TGs}{n:Nat}(hc:X.calm=true)(h:PGs X es t)
  (hn:(assignEach es X.env).length=n:=by rfl)(hst:(assignEach es X.env).findIdx? (·.1)=none:=by rfl):PG X (.Tuple es k pos) (j0 X.K n t):=by
 intro pins s σ H v u Q I r hw;obtain⟨a,xs,e1,hq,hl,hw⟩:=hw;subst e1;cases r;obtain⟨its,rv,ht,hz⟩:=I.tuple hq;refine assign_Tuple_tuple (I.ok.hd hc) ht (by simp[hn,<- hl,rv.length]) hst λh' hx=>?_
 have I1:Inv X pins σ H {s with heap:=h'}:=I.kept (t':=s.toks) λb o e=>hx b o (LI (Ls e)) e
 exact h pins _ σ H xs _ Q I1 (by simpa using rv) hw
def fw(to ti:TE)(t:jZ):TG:=λv σ H Q=>to σ H λo H1=>ti σ H1 λi H2=>t o i v H2 λH3=>Q σ H3
theorem AF{o i:Expr}{to ti:TE}{t:jZ}(ho:PE X o to)(hi:PE X i ti)(hs:mV X t)
  (ha:∀v,assign (.Subscript o i pos) X.env v=(do
   let ov<-holding [v] (eval o X.env)
   let iv<-holding [v,ov] (eval i X.env)
   standAt pos
   holding [v,ov,iv] (setItem ov iv v)
   release [v,ov,iv] []):=by intro _;rfl):PG X (.Subscript o i pos) (fw to ti t):=by
 intro pins s σ H v u Q I r h;rw[ha];refine L0 (M6 (thn (ho pins s σ H _ I h) λov s1 ⟨x,H1,I1,r1,q1⟩=>?_));refine L0 (M6 (thn (hi pins s1 σ H1 _ I1 q1) λiv s2 ⟨y,H2,I2,r2,q2⟩=>?_));refine L0 (NL (L0 (M6 (thn (hs pins s2 σ H2 x y v ov iv u _ I2 r1 r2 r q2) λ_ s3 ⟨H3,I3,q3⟩=>?_))));exact wpAny_release ⟨σ,H3,I3,q3⟩
def bF(te:TE)(g:TG):TS:=λD σ H=>te σ H λx H1=>g x σ H1 D.nx
theorem AG{g:TG}(he:PE X e te)(hg:PG X tg g)(hs:swapsWithSole [tg] e pos.line X.env=pure false:=by rfl)(hw:swappedStores [tg] e X.env=pure none:=by rfl)
  (h1:(assignEach [tg] X.env).map (·.2)=[assign tg X.env]:=by rfl):PS X (.Assign [tg] e pos) (bF te g):=by
 intro pins s σ H D I h;refine wpAny_Assign_stores (thn (he pins s σ H _ I h) λv s1 ⟨x,H1,I1,r1,q1⟩=>?_) hs hw;rw[h1];exact thn (hg pins s1 σ H1 x v _ I1 r1 q1) λ_ s2 q=>q
theorem AH{i:Nat}{pos':Pos}(hN:X.N.Nodup)(hi:X.N[i]? = some x)(hx:Loc X.env.scope x)(he:PE X e te)(hs:swapsWith e (some (.Name x pos')) pos.line X.env=pure false:=by rfl)(hf:X.fn x=true\/X.env.scope.names.lookup x=some .local:=by first|exact .inl rfl|exact .inr rfl|assumption) :
  PS X (.Assign [.Name x pos'] e pos) (bF te (cT i)):=by
 intro pins s σ H D I h;refine wpAny_Assign_Name (thn (he pins s σ H _ I h) λv s1 ⟨y,H1,I1,r1,q1⟩=>?_) hs;exact jW I1 hN hi hx r1 (λs2 I2=>⟨_,H1,I2,q1⟩) hf
end
section
end
structure It where
 go:Nat->Hp->Prop
 yld:Nat->Hp->V->Hp->Prop
 stop:Nat->Hp->Prop
def dJ(X:Cx)(pins:List (Addr×Obj))(H:Hp)(b:Addr):Prop :=
 H b=none/\b≠X.env.locals/\b∉X.fs/\(b∈X.ex\/X.s₀.heap.objs.size<=b)/\(∀x c,X.env.cells.lookup x=some c->c≠b)/\∀p∈X.pn++pins,p.1≠b
theorem Inv.fpOk{s:Shared}{b:Addr}(I:Inv X pins σ H s)(hb:s.heap.objs.size<=b)(hn:H' b=none):dJ X pins H' b:=by
 refine⟨hn,Sq (LJ I.lt hb),I.nofs hb,.inr (LU I.sz hb),λx c e z=>?_,λp hp z=>?_⟩
 .obtain⟨v,q⟩:=I.cell x c e;exact absurd (LJ q.lt (by rw[z];exact hb)) (Mr _)
 .exact absurd (LJ (Ls (I.pin p hp).1) (by rw[z];exact hb)) (Mr _)
structure Turn(P:Program)(w:World)(K:Frag)(tg:Expr)(J:It)(fp:List Addr)(it:Addr)(tn:Nat->Heap->Prop):Prop where
 mem:it∈fp
 obj:∀i h,tn i h->∀b∈fp,∃o,h.get? b=some o/\∀v,o.data≠ .cell v
 keep:∀i h h',tn i h->(∀b∈fp,∀o,h.get? b=some o->h'.get? b=some o)->tn i h'
 item:∀(X:Cx),X.prog=P->X.w=w->X.K=K->X.calm=true->∀(i:Nat) (pins:List (Addr×Obj)) (s:Shared) (σ:St) (H:Hp) (E:Value->Shared->Prop),Inv X pins σ H s->(∀b∈fp,dJ X pins H b)->tn i s.heap->J.go i H ->
  wpAny (model P w) X.A (pyNext (.ref it)) (λr s1=>∃u,r=some u /\
   wpAny (model P w) X.A (letOwnedTupleGo tg (.ref it) u) (λ_ s2=>∃x H',Inv X pins σ H' s2/\RelV x u/\J.yld i H x H'/\tn (i+1) s2.heap/\∀b∈fp,H' b=none) E s1) E s
 done:∀(X:Cx),X.prog=P->X.w=w->X.K=K->X.calm=true->∀(i:Nat) (pins:List (Addr×Obj)) (s:Shared) (σ:St) (H:Hp) (E:Value->Shared->Prop),Inv X pins σ H s->(∀b∈fp,dJ X pins H b)->tn i s.heap->J.stop i H ->
  wpAny (model P w) X.A (pyNext (.ref it)) (λr s1=>r=none/\Inv X pins σ H s1) E s
 self:∀(A:Around) (i:Nat) (s:Shared) (Q:Value->Shared->Prop) (E:Value->Shared->Prop),tn i s.heap->Q (.ref it) s->wpAny (model P w) A (pyIter (.ref it)) Q E s
abbrev TI:=St->Hp->(It->Hp->Prop)->Prop
def PIE(X:Cx)(pins:List (Addr×Obj))(σ:St)(tg:Expr)(R:It->Hp->Prop)(itv:Value)(s2:Shared):Prop :=
 ∃(it:Addr) (fp:List Addr) (tn:Nat->Heap->Prop) (J:It) (H':Hp),itv= .ref it/\Inv X pins σ H' s2/\Turn X.prog X.w X.K tg J fp it tn/\tn 0 s2.heap/\(∀b∈fp,dJ X pins H' b)/\R J H'
def PI(X:Cx)(tg iter:Expr)(wi:TI):Prop :=
 ∀(pins:List (Addr×Obj)) (s:Shared) (σ:St) (H:Hp) (R:It->Hp->Prop),Inv X pins σ H s->wi σ H R ->
  wpAny (model X.prog X.w) X.A (eval iter X.env) (λv s1=>wpAny (model X.prog X.w) X.A (pyIter v) (PIE X pins σ tg R) X.xe s1) X.xe s
theorem j1{s:Shared}{it:Addr}{o:Obj}{n:String}{vs:Array Value}{Q:Unit->Shared->Prop}(ho:s.heap.get? it=some o)(hc:o.cls= .type n)(hd:o.data= .fields vs)
  (hn:["enumerate","zip","dict_itemiterator","dict_reverseitemiterator","odict_iterator","itertools.zip_longest","itertools.pairwise"].contains n=false)(hQ:Q () s):wpAny M A (letOwnedTupleGo tg (.ref it) u) Q E s:=by
 unfold letOwnedTupleGo;cases tg<;>first
  |exact L6 hQ
  | (cases u<;>first
    |exact L6 hQ
    | (refine L0 (Rn ho ?_)
       rw[hc,hd];show wpAny M A (if (["enumerate","zip","dict_itemiterator","dict_reverseitemiterator","odict_iterator","itertools.zip_longest","itertools.pairwise"].contains n&&vs[0]? == some (rawInt _))=true then _ else _) Q E s;rw[if_neg (by intro h;rw[hn,Bool.false_and] at h;cases h)];exact L6 hQ))
def Itl(K:Frag)(a:Addr):It :=
 ⟨λi H=>∃xs x,SqL K H a xs/\xs[i]? = some x,λi H x H'=>H'=H/\∀xs,SqL K H a xs->xs[i]? = some x,λi H=>∃xs,SqL K H a xs/\xs.length<=i⟩
def Itt(K:Frag)(a:Addr):It :=
 ⟨λi H=>∃xs x,SqT K H a xs/\xs[i]? = some x,λi H x H'=>H'=H/\∀xs,SqT K H a xs->xs[i]? = some x,λi H=>∃xs,SqT K H a xs/\xs.length<=i⟩
def Itr(lo:Int)(n:Nat):It:=⟨λi _=>i < n,λi H x H'=>H'=H/\x= .int (lo+i),λi _=>n<=i⟩
theorem AI(a it:Addr):Turn P w K tg (Itl K a) [it] it (λi h=>h.IsListIter it a i) where
 mem:=by simp
 obj:=λi h st b hb=>by
  have e:b=it:=by simpa using hb
  subst e;obtain⟨o,e,c,d⟩:=st;exact⟨o,e,λv z=>by rw[d] at z;cases z⟩
 keep:=λi h h' st k=>st.at λo e=>k it (by simp) o e
 item:=by
  intro X hP hw hK hc i pins s σ H E I hf st hg;subst hP hw hK;obtain⟨xs,x,hq,hx⟩:=hg;obtain⟨its,rv,p,hz⟩:=I.list hq;obtain⟨u,hu,ru⟩:=rv.get hx;obtain⟨f0,f1,f2,f3,f4,f5⟩:=hf it (by simp);refine Pc st p.isList (x:=u) (by simpa using hu) λh' st' sb=>?_
  have I1:Inv X pins σ H {s with heap:=h'}:=I.turned (t':=s.toks) (λb o hb e=>(sb.2 b hb).trans e) f0 f1 f3 f4 f5;obtain⟨o,e,c,d⟩:=id st';exact⟨u,rfl,j1 (s:={s with heap:=h'}) e c d (by decide) ⟨x,H,I1,ru,⟨rfl,λys hy=>by rw[I.list_inj hy hq];exact hx⟩,st',λb hb=>(hf b hb).1⟩⟩
 done:=by
  intro X hP hw hK hc i pins s σ H E I hf st hg;subst hP hw hK;obtain⟨xs,hq,hx⟩:=hg;obtain⟨its,rv,p,hz⟩:=I.list hq;obtain⟨f0,f1,f2,f3,f4,f5⟩:=hf it (by simp);have hl:=rv.length;exact Ps (I.ok.hd hc) st p.isList (by simp;omega) λh' eb=>⟨rfl,I.turned (t':=s.toks) (λb o hb e=>eb b o hb e) f0 f1 f3 f4 f5⟩
 self:=λ_ _ _ _ _ st h=>wpAny_pyIter_listiter st h
theorem AJ(a it:Addr):Turn P w K tg (Itt K a) [it] it (λi h=>h.IsTupleIter it a i) where
 mem:=by simp
 obj:=λi h st b hb=>by
  have e:b=it:=by simpa using hb
  subst e;obtain⟨o,e,c,d⟩:=st;exact⟨o,e,λv z=>by rw[d] at z;cases z⟩
 keep:=λi h h' st k=>st.at λo e=>k it (by simp) o e
 item:=by
  intro X hP hw hK hc i pins s σ H E I hf st hg;subst hP hw hK;obtain⟨xs,x,hq,hx⟩:=hg;obtain⟨its,rv,p,hz⟩:=I.tuple hq;obtain⟨u,hu,ru⟩:=rv.get hx;obtain⟨f0,f1,f2,f3,f4,f5⟩:=hf it (by simp);refine wpAny_pyNext_tuple_item st (show s.heap.IsTuple a its.toArray from p) (x:=u) (by simpa using hu) λh' st' sb=>?_
  have I1:Inv X pins σ H {s with heap:=h'}:=I.turned (t':=s.toks) (λb o hb e=>(sb.2 b hb).trans e) f0 f1 f3 f4 f5;obtain⟨o,e,c,d⟩:=id st';exact⟨u,rfl,j1 (s:={s with heap:=h'}) e c d (by decide) ⟨x,H,I1,ru,⟨rfl,λys hy=>by rw[I.tuple_inj hy hq];exact hx⟩,st',λb hb=>(hf b hb).1⟩⟩
 done:=by
  intro X hP hw hK hc i pins s σ H E I hf st hg;subst hP hw hK;obtain⟨xs,hq,hx⟩:=hg;obtain⟨its,rv,p,hz⟩:=I.tuple hq;obtain⟨f0,f1,f2,f3,f4,f5⟩:=hf it (by simp);have hl:=rv.length;exact wpAny_pyNext_tuple_end (I.ok.hd hc) st (show s.heap.IsTuple a its.toArray from p) (by simp;omega) λh' eb=>⟨rfl,I.turned (t':=s.toks) (λb o hb e=>eb b o hb e) f0 f1 f3 f4 f5⟩
 self:=λ_ _ _ _ _ st h=>wpAny_pyIter_tupleiter st h
theorem AK(it:Addr)(lo:Int)(n:Nat):Turn P w K tg (Itr lo n) [it] it (λi h=>IsRangeIter h it (lo+(i:Nat)*1) ((n:Int) - (i:Nat)) 1) where
 mem:=by simp
 obj:=λi h st b hb=>by
  have e:b=it:=by simpa using hb
  subst e;exact⟨_,st,λv z=>by
   have z':Data.fields _=Data.cell v:=z;cases z'⟩
 keep:=λi h h' st k=>k it (by simp) _ st
 item:=by
  intro X hP hw hK hc i pins s σ H E I hf st hg;subst hP hw hK;obtain⟨f0,f1,f2,f3,f4,f5⟩:=hf it (by simp);have W:=Walks.range (prog:=X.prog) (w:=X.w) (I.ok.hd hc) it lo 1 n;refine W.item i s _ _ hg st λv h' tk hv st' kk=>?_
  obtain⟨t,rfl⟩:=hv;have I1:Inv X pins σ H {s with heap:=h',toks:=tk}:=I.turned (λb o hb e=>kk b o (by simpa using hb) e) f0 f1 f3 f4 f5;refine⟨_,rfl,j1 (s:={s with heap:=h',toks:=tk}) (n:="range_iterator") st' rfl rfl (by decide) ⟨.int (lo+i),H,I1,⟨t,?_⟩,⟨rfl,rfl⟩,st',λb hb=>(hf b hb).1⟩⟩;rw[Int.mul_one]
 done:=by
  intro X hP hw hK hc i pins s σ H E I hf st hg;subst hP hw hK;obtain⟨f0,f1,f2,f3,f4,f5⟩:=hf it (by simp);exact wpAny_pyNext_range_end (I.ok.hd hc) st (by have:n<=i:=hg;omega) λh' eb=>⟨rfl,I.turned (t':=s.toks) (λb o hb e=>eb b o hb e) f0 f1 f3 f4 f5⟩
 self:=λ_ _ _ _ _ st h=>wpAny_pyIter_rangeiter st h
section
theorem AL{s:Shared}{R:It->Hp->Prop}{lo hi:Int}{t u v:Tok}{tk:Nat}(I:Inv X pins σ H s)(h1: -(2^62)<=lo)(h2:lo < 2^62)(h3: -(2^62)<=hi)(h4:hi < 2^62)
  (q:R (Itr lo (hi - lo).toNat) H):wpAny (model X.prog X.w) X.A (pyIter (.ref s.heap.objs.size)) (PIE X pins σ tg R) E {s with heap:=s.heap.push {cls:= .type "range",data:= .fields #[.int lo t,.int hi u,.int 1 v]},toks:=tk}:=by
 refine wpAny_pyIter_range (IsRange.new ..) (small_one h1 h2 h3 h4) ?_;have I1:Inv X pins σ H {s with heap:=s.heap.push {cls:= .type "range",data:= .fields #[.int lo t,.int hi u,.int 1 v]},toks:=tk}:=I.kept λb o e=>L4 _ e
 refine⟨(s.heap.push {cls:= .type "range",data:= .fields #[.int lo t,.int hi u,.int 1 v]}).objs.size,[(s.heap.push {cls:= .type "range",data:= .fields #[.int lo t,.int hi u,.int 1 v]}).objs.size],_,_,H,rfl,
  I1.kept (t':=tk) λb o e=>L4 _ e,AK _ lo (hi - lo).toNat,?_,λb hb=>?_,q⟩
 .have e1:lo+((0:Nat):Int)*1=lo:=by simp
  have e2:(((hi - lo).toNat:Nat):Int) - ((0:Nat):Int)=Sn lo hi 1:=by rw[rangeSize_one];split<;>omega
  show IsRangeIter _ _ (lo+((0:Nat):Int)*1) ((((hi - lo).toNat:Nat):Int) - ((0:Nat):Int)) 1;rw[e1,e2];exact LG _ rfl
 .have e:b=(s.heap.push {cls:= .type "range",data:= .fields #[.int lo t,.int hi u,.int 1 v]}).objs.size:=by simpa using hb
  subst e;exact I1.fpOk (Lp _) (I1.hok.fresh (Lp _))
def mY(ta:TA):TI:=λσ H R=>ta σ H λvs H1=>∃j:Int,vs=[.int j]/\ -(2^62)<=j/\j < 2^62/\R (Itr 0 j.toNat) H1
theorem AM{a:Expr}{ta:TA}{p:Pos}(hg:Gl X "range")(hm:X.mg "range"=none)(ha:PA X [a] ta)(hs:starEach [a] X.env=[(false,eval a X.env)]:=by rfl):PI X tg (.Call (.Name "range" p) [a] [] pos) (mY ta):=by
 intro pins s σ H R I h;refine Call_ (jX I hg hm boot_range (OA (thn (ha pos pins s σ H _ I h) λus s1 ⟨vs,H1,I1,r1,q1⟩=>?_) hs rfl));obtain⟨j,e,q1,q2,q⟩:=q1;subst e;cases r1 with
 |cons r rr =>
  cases rr;obtain⟨t,rfl⟩:=r;exact call_range_1 (AL I1 (by omega) (by omega) q1 q2 (by simpa using q))
def mZ(wi:TI)(g:TG)(tb:TS):TS:=λD σ H=>wi σ H λJ H1=>∃W:Nat->Nat->St->Hp->Prop,(∃m,W 0 m σ H1)/\∀i m σ H,W i m σ H ->
 (J.stop i H/\D.nx σ H)\/(J.go i H/\∃N:St->Hp->Prop,(∀ σ' H',N σ' H'->∃m',m' < m/\W (i+1) m' σ' H')/\∀x H',J.yld i H x H'->g x σ H' λσ2 H2=>tb {D with nx:=N,ct:=N,bk:=D.nx} σ2 H2)
def eT(fp:List Addr)(h:Heap):List (Addr×Obj):=fp.filterMap λb=>(h.get? b).map λo=>(b,o)
theorem j2{b:Addr}{o:Obj}(hb:b∈fp)(e:h.get? b=some o):(b,o)∈eT fp h:=PX.mpr ⟨b,hb,by rw[e];rfl⟩
theorem qK{p:Addr×Obj}(hp:p∈eT fp h):p.1∈fp/\h.get? p.1=some p.2:=by
 obtain⟨b,hb,e⟩:=PX.mp hp;cases q:h.get? b with
 |none=>rw[q] at e;cases e
 |some o =>
  rw[q] at e;have e':(b,o)=p:=Mw e;subst e';exact⟨hb,q⟩
theorem Inv.pinned{s:Shared}(I:Inv X pins σ H s)(hf:∀b∈fp,dJ X pins H b)(ho:∀b∈fp,∃o,s.heap.get? b=some o/\∀v,o.data≠ .cell v):Inv X (pins++eT fp s.heap) σ H s :=
 I.pins_of λp hp=>(LP.mp hp).elim (λz=>I.pin p (Lw _ z)) λz=>by
  obtain⟨hb,e⟩:=qK z;obtain⟨f0,f1,f2,_⟩:=hf p.1 hb;obtain⟨o,e',d⟩:=ho p.1 hb;rw[e] at e';cases e';exact⟨e,f0,f1,f2,d⟩
theorem Inv.unpinned{pl:List (Addr×Obj)}{s:Shared}(I:Inv X (pins++pl) σ H s):Inv X pins σ H s:=I.pins_of λp hp=>I.pin p (Lw _ (Lq _ hp))
theorem AN{iter:Expr}{body:List Stmt}{wi:TI}{g:TG}{tb:TS}(hp:PassesOwn (model X.prog X.w) X.A X.env X.xe)(hc:X.calm=true)(hi:PI X tg iter wi)(hg:PG X tg g)(hb:PSs X body tb)
  (hs:∀x,foldedSetIterable iter X.env x=pure x:=by intro _;rfl):PS X (.For tg iter body [] pos) (mZ wi g tb):=by
 intro pins s σ H D I h;refine wpAny_For (thn (hi pins s σ H _ I h) λv s1 h1=>thn h1 λitv s2 h2=>?_) hs;obtain⟨it,fp,tn,J,H2,e,I2,T,st2,f2,W,⟨m0,w0⟩,turn⟩:=h2;subst e;have stat:∀{H':Hp},(∀b∈fp,H' b=none)->∀b∈fp,dJ X pins H' b:=λhn b hb=>⟨hn b hb,(f2 b hb).2⟩
 refine codeAny_forLoop_any (λn s'=>∃i σ' H',Inv X pins σ' H' s'/\tn i s'.heap/\(∀b∈fp,H' b=none)/\W i n σ' H') ?_ m0 ⟨0,σ,H2,I2,st2,λb hb=>(f2 b hb).1,w0⟩;rintro n s3 ⟨i,σ3,H3,I3,st3,fr3,w3⟩;rcases turn i n σ3 H3 w3 with⟨stop,qn⟩|⟨go,N,hN,step⟩
 .refine O8 hp (thn (T.done X rfl rfl rfl hc i pins s3 σ3 H3 X.xe I3 (stat fr3) st3 stop) λr s4 ⟨hr,I4⟩=>?_);subst hr;exact Pj ⟨σ3,H3,I4,qn⟩
 .refine O8 hp (thn (T.item X rfl rfl rfl hc i pins s3 σ3 H3 X.xe I3 (stat fr3) st3 go) λr s4 ⟨u,hr,h4⟩=>?_);subst hr;refine O8 hp (thn h4 λ_ s5 ⟨x,H5,I5,r5,y5,st5,fr5⟩=>?_);have I5':=I5.pinned (stat fr5) (T.obj _ _ st5);refine O8 hp (thn (hg _ s5 σ3 H5 x u _ I5' r5 (step x H5 y5)) λ_ s6 ⟨σ6,H6,I6,q6⟩=>?_);refine O8 hp (thn (hb _ s6 σ6 H6 _ I6 q6) λf s7 q7=>?_);have again:∀{σ7:St} {H7:Hp},Inv X (pins++eT fp s5.heap) σ7 H7 s7->N σ7 H7->∃m,m < n/\∃i σ' H',Inv X pins σ' H' s7/\tn i s7.heap/\(∀b∈fp,H' b=none)/\W i m σ' H':=λ{σ7 H7} I7 n7=>by
   obtain⟨m',hm,w7⟩:=hN σ7 H7 n7;refine⟨m',hm,i+1,σ7,H7,I7.unpinned,T.keep _ _ _ st5 λb hb o e=>(I7.pin (b,o) (Lw _ (Lw _ (j2 hb e)))).1,λb hb=>?_,w7⟩;obtain⟨o,e,d⟩:=T.obj _ _ st5 b hb;exact(I7.pin (b,o) (Lw _ (Lw _ (j2 hb e)))).2.1
  cases f with
  |next=>obtain⟨σ7,H7,I7,n7⟩:=q7;exact again I7 n7
  |cont=>obtain⟨σ7,H7,I7,n7⟩:=q7;exact again I7 n7
  |brk=>obtain⟨σ7,H7,I7,q7⟩:=q7;exact⟨σ7,H7,I7.unpinned,q7⟩
  |ret v=>obtain⟨x7,σ7,H7,I7,r7,q7⟩:=q7;exact⟨x7,σ7,H7,I7.unpinned,r7,q7⟩
end
abbrev R2:=V->V->Hp->VK->Prop
variable{r r':R2}
def OpR(X:Cx)(f:Value->Value->Sem Value)(r:R2):Prop :=
 ∀(pins:List (Addr×Obj)) (s:Shared) (σ:St) (H:Hp) (x y:V) (v u:Value) (Q:VK),Inv X pins σ H s->RelV x v->RelV y u->r x y H Q ->
  wpAny (model X.prog X.w) X.A (f v u) (EP X pins σ Q) X.xe s
def UnR(X:Cx)(f:Value->Sem Value)(r:V->Hp->VK->Prop):Prop :=
 ∀(pins:List (Addr×Obj)) (s:Shared) (σ:St) (H:Hp) (x:V) (v:Value) (Q:VK),Inv X pins σ H s->RelV x v->r x H Q ->
  wpAny (model X.prog X.w) X.A (f v) (EP X pins σ Q) X.xe s
def ag(X:Cx)(f:Value)(r:List V->Hp->VK->Prop):Prop :=
 ∀(pins:List (Addr×Obj)) (s:Shared) (σ:St) (H:Hp) (xs:List V) (us:List Value) (Q:VK),Inv X pins σ H s->Vals xs us->r xs H Q ->
  wpAny (model X.prog X.w) X.A (call f us) (EP X pins σ Q) X.xe s
def tOp(r:R2)(ta tb:TE):TE:=λσ H Q=>ta σ H λx H1=>tb σ H1 λy H2=>r x y H2 Q
def tUn(r:V->Hp->VK->Prop)(ta:TE):TE:=λσ H Q=>ta σ H λx H1=>r x H1 Q
def rI(C:Int->Int->Prop)(g:Int->Int->V):R2:=λx y H Q=>∃i j,x= .int i/\y= .int j/\C i j/\Q (g i j) H
def rI0(g:Int->Int->V):R2:=λx y H Q=>∃i j,x= .int i/\y= .int j/\Q (g i j) H
def rU(g:Int->V):V->Hp->VK->Prop:=λx H Q=>∃i,x= .int i/\Q (g i) H
section
variable{a b c:Expr}{tc:TE}
theorem m5(ha:PE X a ta)(hb:PE X b tb){s:Shared}{R:V->V->Hp->Prop}(I:Inv X pins σ H s)
  (h:ta σ H λx H1=>tb σ H1 λy H2=>R x y H2){f:Value->Value->Sem Value}
  (hf:∀v u s2 x y H2,Inv X pins σ H2 s2->RelV x v->RelV y u->R x y H2->wpAny (model X.prog X.w) X.A (f v u) Q X.xe s2) :
  wpAny (model X.prog X.w) X.A (eval a X.env) (λv s₁=>wpAny (model X.prog X.w) X.A (eval b X.env) (λu s₂=>wpAny (model X.prog X.w) X.A (f v u) Q X.xe s₂) X.xe s₁) X.xe s:=by
 refine thn (ha pins s σ H _ I h) λv s1 ⟨x,H1,I1,r1,q1⟩=>?_
 refine thn (hb pins s1 σ H1 _ I1 q1) λu s2 ⟨y,H2,I2,r2,q2⟩=>?_
 exact hf v u s2 x y H2 I2 r1 r2 q2
theorem AO{op:Operator}(ho:OpR X (binaryOp op) r)(ha:PE X a ta)(hb:PE X b tb):PE X (.BinOp a op b pos) (tOp r ta tb):=by
 intro pins s σ H Q I h;exact wpAny_BinOp (m5 ha hb I h λv u s2 x y H2 I2 rx ry q=>ho pins s2 σ H2 x y v u Q I2 rx ry q)
theorem AQ{op:UnaryOp}{r:V->Hp->VK->Prop}(ho:UnR X (unaryOp op) r)(ha:PE X a ta):PE X (.UnaryOp op a pos) (tUn r ta):=by
 intro pins s σ H Q I h;exact UnaryOp_ (thn (ha pins s σ H _ I h) λv s1 ⟨x,H1,I1,r1,q1⟩=>ho pins s1 σ H1 x v Q I1 r1 q1)
theorem opI{f:Value->Value->Sem Value}{C:Int->Int->Prop}{g:Int->Int->Int}
  (rule:∀(i j:Int) (t u:Tok) (s:Shared) (Q:Value->Shared->Prop) (E:Value->Shared->Prop),C i j->Q (.int (g i j) s.toks) {s with toks:=s.toks+1}->wpAny (model X.prog X.w) X.A (f (.int i t) (.int j u)) Q E s) :
  OpR X f (rI C λi j=> .int (g i j)):=by
 intro pins s σ H x y v u Q I rx ry h;obtain⟨i,j,rfl,rfl,hc,q⟩:=h;obtain⟨t,rfl⟩:=rx;obtain⟨t',rfl⟩:=ry;exact rule i j t t' s _ _ hc ⟨.int (g i j),H,I.tok _,⟨_,rfl⟩,q⟩
theorem qL{f:Value->Value->Sem Value}{g:Int->Int->Int}
  (rule:∀(i j:Int) (t u:Tok) (s:Shared) (Q:Value->Shared->Prop) (E:Value->Shared->Prop),Q (.int (g i j) s.toks) {s with toks:=s.toks+1}->wpAny (model X.prog X.w) X.A (f (.int i t) (.int j u)) Q E s) :
  OpR X f (rI0 λi j=> .int (g i j)):=by
 intro pins s σ H x y v u Q I rx ry h;obtain⟨i,j,rfl,rfl,q⟩:=h;obtain⟨t,rfl⟩:=rx;obtain⟨t',rfl⟩:=ry;exact rule i j t t' s _ _ ⟨.int (g i j),H,I.tok _,⟨_,rfl⟩,q⟩
theorem j3{f:Value->Value->Sem Value}{g:Int->Int->Bool}
  (rule:∀(i j:Int) (t u:Tok) (s:Shared) (Q:Value->Shared->Prop) (E:Value->Shared->Prop),Q (.bool (g i j)) s->wpAny (model X.prog X.w) X.A (f (.int i t) (.int j u)) Q E s) :
  OpR X f (rI0 λi j=> .bl (g i j)):=by
 intro pins s σ H x y v u Q I rx ry h;obtain⟨i,j,rfl,rfl,q⟩:=h;obtain⟨t,rfl⟩:=rx;obtain⟨t',rfl⟩:=ry;exact rule i j t t' s _ _ ⟨.bl (g i j),H,I,rfl,q⟩
def j4(i j:Int):Prop:=0<=j/\j<=1000000/\i.natAbs < 2^64
def dL(i j:Int):Prop:=(-(2^64) < i/\i < 2^64)\/(-(2^64) < j/\j < 2^64)
theorem dL.ok{i j:Int}(h:dL i j):IntMulOk i j:=by
 rcases h with⟨h1,h2⟩|⟨h1,h2⟩
 .exact .of_left (Se h1 h2)
 .exact .of_right (Se h1 h2)
theorem j5:OpR X (binaryOp .Add) (rI0 λi j=> .int (i+j)):=qL λ_ _ _ _ _ _ _ q=>add_int q
theorem eU:OpR X (binaryOp .Sub) (rI0 λi j=> .int (i - j)):=qL λ_ _ _ _ _ _ _ q=>sub_int q
theorem qM:OpR X (binaryOp .Mult) (rI dL λi j=> .int (i*j)):=opI λ_ _ _ _ _ _ _ hc q=>mul_int q hc.ok
theorem dM:OpR X (binaryOp .Mod) (rI (λ_ j=>0 < j) λi j=> .int (i % j)):=opI λi j _ _ _ _ _ hc q=>by
 have h1:(0:Int) < j:=hc;exact mod_int' (by omega) (by rw[Int.fmod_eq_emod_of_nonneg i (by omega)];exact q)
theorem qN:OpR X (binaryOp .Pow) (rI j4 λi j=> .int (i^j.toNat)):=opI λ_ _ _ _ _ _ _ hc q=>pow_int_small hc.1 hc.2.1 hc.2.2 q
theorem unI{f:Value->Sem Value}{g:Int->Int}
  (rule:∀(i:Int) (t:Tok) (s:Shared) (Q:Value->Shared->Prop) (E:Value->Shared->Prop),Q (.int (g i) s.toks) {s with toks:=s.toks+1}->wpAny (model X.prog X.w) X.A (f (.int i t)) Q E s) :
  UnR X f (rU λi=> .int (g i)):=by
 intro pins s σ H x v Q I rx h;obtain⟨i,rfl,q⟩:=h;obtain⟨t,rfl⟩:=rx;exact rule i t s _ _ ⟨.int (g i),H,I.tok _,⟨_,rfl⟩,q⟩
theorem iM:UnR X (unaryOp .USub) (rU λi=> .int (-i)):=unI λ_ _ _ _ _ q=>neg_int q
end
def qO:V->V->Bool
 | .non,.non=>true | .non,.int _=>true | .int _,.non=>true | .non,.bl _=>true | .bl _,.non=>true | .non,.str _=>true | .str _,.non=>true
 | .int _,.int _=>true | .bl _,.bl _=>true | .str _,.str _=>true | .byt _,.byt _=>true
 | .int _,.str _=>true | .str _,.int _=>true | .bl _,.str _=>true | .str _,.bl _=>true
 |_,_=>false
def rEq:R2:=λx y H Q=>qO x y=true/\Q (.bl (decide (x=y))) H
def rNe:R2:=λx y H Q=>qO x y=true/\Q (.bl (!decide (x=y))) H
theorem qP{i j:Int}:decide (V.int i=V.int j)=(i==j):=by
 rw[O4];simp
theorem qQ{i j:Bool}:decide (V.bl i=V.bl j)=(i==j):=by
 rw[O4];simp
theorem qR{i j:Str}:decide (V.str i=V.str j)=(i==j):=by
 rw[O4];simp
theorem qT{i j:Array UInt8}:decide (V.byt i=V.byt j)=(i.toList==j.toList):=by
 rw[O4];cases i;cases j;simp
section
variable{a b c:Expr}{tc:TE}
theorem aJ{s:Shared}{Q:VK}{k k':Bool}(I:Inv X pins σ H s)(q:Q (.bl k) H)(e:k=k'):EP X pins σ Q (.bool k') s:=by
 subst e;exact⟨.bl k,H,I,rfl,q⟩
theorem qU:OpR X (compareOp .Eq) rEq:=by
 intro pins s σ H x y v u Q I rx ry h;obtain⟨hs,q⟩:=h;cases x with
 |non =>
  cases rx;cases y with
  |non=>cases ry;exact RA (aJ I q (by simp))
  |bl j=>cases ry;exact RB (aJ I q (by simp))
  |int j=>obtain⟨t',rfl⟩:=ry;exact RP (aJ I q (by simp))
  |str j=>obtain⟨t',rfl⟩:=ry;exact RQ (aJ I q (by simp))
  |_=>exact absurd (show false=true from hs) LN
 |bl i =>
  cases rx;cases y with
  |non=>cases ry;exact RC (aJ I q (by simp))
  |bl j=>cases ry;exact eq_bool (aJ I q qQ)
  |str j=>obtain⟨t',rfl⟩:=ry;exact RD (aJ I q (by simp))
  |_=>exact absurd (show false=true from hs) LN
 |int i =>
  obtain⟨t,rfl⟩:=rx;cases y with
  |non=>cases ry;exact RS (aJ I q (by simp))
  |int j=>obtain⟨t',rfl⟩:=ry;exact eq_int (aJ I q qP)
  |str j=>obtain⟨t',rfl⟩:=ry;exact RT (aJ I q (by simp))
  |_=>exact absurd (show false=true from hs) LN
 |str i =>
  obtain⟨t,rfl⟩:=rx;cases y with
  |non=>cases ry;exact RU (aJ I q (by simp))
  |bl j=>cases ry;exact RE (aJ I q (by simp))
  |int j=>obtain⟨t',rfl⟩:=ry;exact RV (aJ I q (by simp))
  |str j=>obtain⟨t',rfl⟩:=ry;exact eq_str (aJ I q qR)
  |_=>exact absurd (show false=true from hs) LN
 |byt i =>
  obtain⟨t,rfl⟩:=rx;cases y with
  |byt j=>obtain⟨t',rfl⟩:=ry;exact PySem.W.eq_bytes (aJ I q qT)
  |_=>exact absurd (show false=true from hs) LN
 |_=>cases y<;>exact absurd (show false=true from hs) LN
theorem AR:OpR X (compareOp .NotEq) rNe:=by
 intro pins s σ H x y v u Q I rx ry h;obtain⟨hs,q⟩:=h;cases x with
 |non =>
  cases rx;cases y with
  |non=>cases ry;exact RF (aJ I q (by simp))
  |bl j=>cases ry;exact RG (aJ I q (by simp))
  |int j=>obtain⟨t',rfl⟩:=ry;exact RX (aJ I q (by simp))
  |str j=>obtain⟨t',rfl⟩:=ry;exact RY (aJ I q (by simp))
  |_=>exact absurd (show false=true from hs) LN
 |bl i =>
  cases rx;cases y with
  |non=>cases ry;exact RH (aJ I q (by simp))
  |bl j=>cases ry;exact ne_bool (aJ I q (congrArg not qQ))
  |str j=>obtain⟨t',rfl⟩:=ry;exact RI (aJ I q (by simp))
  |_=>exact absurd (show false=true from hs) LN
 |int i =>
  obtain⟨t,rfl⟩:=rx;cases y with
  |non=>cases ry;exact RZ (aJ I q (by simp))
  |int j=>obtain⟨t',rfl⟩:=ry;exact ne_int (aJ I q (congrArg not qP))
  |str j=>obtain⟨t',rfl⟩:=ry;exact S0 (aJ I q (by simp))
  |_=>exact absurd (show false=true from hs) LN
 |str i =>
  obtain⟨t,rfl⟩:=rx;cases y with
  |non=>cases ry;exact S6 (aJ I q (by simp))
  |bl j=>cases ry;exact RJ (aJ I q (by simp))
  |int j=>obtain⟨t',rfl⟩:=ry;exact S7 (aJ I q (by simp))
  |str j=>obtain⟨t',rfl⟩:=ry;exact ne_str (aJ I q (congrArg not qR))
  |_=>exact absurd (show false=true from hs) LN
 |byt i =>
  obtain⟨t,rfl⟩:=rx;cases y with
  |byt j=>obtain⟨t',rfl⟩:=ry;exact PySem.W.ne_bytes (aJ I q (congrArg not qT))
  |_=>exact absurd (show false=true from hs) LN
 |_=>cases y<;>exact absurd (show false=true from hs) LN
theorem g8:OpR X (compareOp .Lt) (rI0 λi j=> .bl (decide (i < j))):=j3 λ_ _ _ _ _ _ _ q=>lt_int q
theorem db:OpR X (compareOp .LtE) (rI0 λi j=> .bl (decide (i<=j))):=j3 λ_ _ _ _ _ _ _ q=>le_int q
theorem AS:OpR X (compareOp .Gt) (rI0 λi j=> .bl (decide (j < i))):=j3 λ_ _ _ _ _ _ _ q=>gt_int q
theorem iN:OpR X (compareOp .GtE) (rI0 λi j=> .bl (decide (j<=i))):=j3 λ_ _ _ _ _ _ _ q=>ge_int q
theorem AT:OpR X (compareOp .In) (λx y H Q=>∃i j,x= .str i/\y= .str j/\Q (.bl (!(Ob j i 0 j.length 1).isEmpty)) H):=by
 intro pins s σ H x y v u Q I rx ry h;obtain⟨i,j,rfl,rfl,q⟩:=h;obtain⟨t,rfl⟩:=rx;obtain⟨t',rfl⟩:=ry;exact in_str (aJ I q rfl)
theorem OpR.or{f:Value->Value->Sem Value}(h:OpR X f r)(h':OpR X f r'):OpR X f (λx y H Q=>r x y H Q\/r' x y H Q):=by
 intro pins s σ H x y v u Q I rx ry q;rcases q with q|q
 .exact h pins s σ H x y v u Q I rx ry q
 .exact h' pins s σ H x y v u Q I rx ry q
theorem aD(b:Expr)(h:op≠ .In:=by decide)(h2:op≠ .NotIn:=by decide):behindInMarks op b=false:=by
 have e1:(op==CmpOp.In)=false:=by cases op<;>first|rfl|exact absurd rfl h
 have e2:(op==CmpOp.NotIn)=false:=by cases op<;>first|rfl|exact absurd rfl h2
 cases b<;>simp[behindInMarks,e1,e2]
theorem AU(ho:OpR X (compareOp op) r)(ha:PE X a ta)(hb:PE X b tb)(hm:behindInMarks op b=false):PE X (.Compare a [op] [b] pos) (tOp r ta tb):=by
 intro pins s σ H Q I h;exact wpAny_Compare1 (m5 ha hb I h λv u s2 x y H2 I2 rx ry q=>ho pins s2 σ H2 x y v u Q I2 rx ry q) hm
def f_(t:TE):TT:=λσ H Q=>t σ H λx H'=>∃k,x= .bl k/\Q k H'
theorem AV(ho:OpR X (compareOp op) r)(ha:PE X a ta)(hb:PE X b tb)(hm:behindInMarks op b=false):PT X (.Compare a [op] [b] pos) (f_ (tOp r ta tb)):=by
 intro pins s σ H Q I h;refine wpAny_isTrue_Compare1 (thn (ha pins s σ H _ I h) λv s1 ⟨x,H1,I1,r1,q1⟩=>thn (hb pins s1 σ H1 _ I1 q1) λu s2 ⟨y,H2,I2,r2,q2⟩ =>
  thn (ho pins s2 σ H2 x y v u _ I2 r1 r2 q2) λc s3 ⟨z,H3,I3,r3,k,e,q3⟩=>?_) hm
 subst e;cases r3;exact MJ ⟨H3,I3,q3⟩
def iO(r r':R2)(ta tb tc:TE):TE:=λσ H Q=>ta σ H λx H1=>tb σ H1 λy H2=>r x y H2 λz H3=>∃k,z= .bl k /\
 (if k=true then tc σ H3 λw' H4=>r' y w' H4 Q else Q (.bl false) H3)
theorem AW{op':CmpOp}(ho:OpR X (compareOp op) r)(ho':OpR X (compareOp op') r')(ha:PE X a ta)(hb:PE X b tb)(hc:PE X c tc)
  (hm:lastMarks [op,op'] [b,c]=false:=by with_unfolding_all rfl):PE X (.Compare a [op,op'] [b,c] pos) (iO r r' ta tb tc):=by
 intro pins s σ H Q I h;refine Compare_chain (thn (ha pins s σ H _ I h) λv s1 ⟨x,H1,I1,r1,q1⟩=>chain_link (thn (hb pins s1 σ H1 _ I1 q1) λu s2 ⟨y,H2,I2,r2,q2⟩ =>
  thn (ho pins s2 σ H2 x y v u _ I2 r1 r2 q2) λd s3 ⟨z,H3,I3,r3,k,e,q3⟩=>?_)) hm
 subst e;cases r3;refine MJ ?_;cases k with
 |false=>exact ite_ff ⟨.bl false,H3,I3,rfl,q3⟩
 |true=>exact ite_tt (chain_last (thn (hc pins s3 σ H3 _ I3 q3) λw' s4 ⟨z',H4,I4,r4,q4⟩=>ho' pins s4 σ H4 y z' u w' Q I4 r2 r4 q4))
theorem AX{op':CmpOp}(ho:OpR X (compareOp op) r)(ho':OpR X (compareOp op') r')(ha:PE X a ta)(hb:PE X b tb)(hc:PE X c tc)
  (hm:lastMarks [op,op'] [b,c]=false:=by with_unfolding_all rfl):PT X (.Compare a [op,op'] [b,c] pos) (f_ (iO r r' ta tb tc)):=by
 intro pins s σ H Q I h;refine isTrue_chain (thn (ha pins s σ H _ I h) λv s1 ⟨x,H1,I1,r1,q1⟩=>test_link (thn (hb pins s1 σ H1 _ I1 q1) λu s2 ⟨y,H2,I2,r2,q2⟩ =>
  thn (ho pins s2 σ H2 x y v u _ I2 r1 r2 q2) λd s3 ⟨z,H3,I3,r3,k,e,q3⟩=>?_)) hm
 subst e;cases r3;refine MJ ?_;cases k with
 |false =>
  obtain⟨k',e',q'⟩:=q3;cases e';exact ite_ff ⟨H3,I3,q'⟩
 |true =>
  refine ite_tt (test_last (thn (hc pins s3 σ H3 _ I3 q3) λw' s4 ⟨z',H4,I4,r4,q4⟩=>thn (ho' pins s4 σ H4 y z' u w' _ I4 r2 r4 q4) λd' s5 ⟨z2,H5,I5,r5,k2,e2,q5⟩=>?_));subst e2;cases r5;exact MJ ⟨H5,I5,q5⟩
theorem g9:(sizeLine:Nat) < 2^63:=by rw[MV];decide
theorem AY:OpR X (binaryOp .Add) (λx y H Q=>∃i j,x= .str i/\y= .str j/\i.length+j.length<=sizeLine/\Q (.str (i++j)) H):=by
 intro pins s σ H x y v u Q I rx ry h;obtain⟨i,j,rfl,rfl,hz,q⟩:=h;obtain⟨t,rfl⟩:=rx;obtain⟨t',rfl⟩:=ry;exact add_str (λt' tk=>⟨.str (i++j),H,I.tok _,⟨_,rfl⟩,q⟩) hz
theorem vals1{x:V}(r:Vals [x] us):∃u,us=[u]/\RelV x u:=by
 cases r with
 |cons r1 r2=>cases r2;exact⟨_,rfl,r1⟩
theorem vals2{x:V}(r:Vals [x,y] us):∃u w',us=[u,w']/\RelV x u/\RelV y w':=by
 cases r with
 |cons r1 r2 =>
  cases r2 with
  |cons r3 r4=>cases r4;exact⟨_,_,rfl,r1,r3⟩
theorem AZ:ag X (.builtin "abs") (λxs H Q=>∃i,xs=[.int i]/\Q (.int (if i < 0 then -i else i)) H):=by
 intro pins s σ H xs us Q I r h;obtain⟨i,rfl,q⟩:=h;obtain⟨u,rfl,t,rfl⟩:=vals1 r;exact call_abs_int λu tk=>⟨.int (if i < 0 then -i else i),H,I.tok _,⟨_,rfl⟩,q⟩
theorem A0(hc:X.calm=true):ag X (.builtin "max") (λxs H Q=>∃i j,xs=[.int i,.int j]/\Q (.int (if j > i then j else i)) H):=by
 intro pins s σ H xs us Q I r h;obtain⟨i,j,rfl,q⟩:=h;obtain⟨u,w',rfl,⟨t,rfl⟩,⟨t',rfl⟩⟩:=vals2 r;refine max_two_ints (I.ok.hd hc) λh' tk k=>⟨_,H,I.kept k,?_,q⟩
 by_cases hj:j > i
 .rw[if_pos hj,if_pos hj];exact⟨_,rfl⟩
 .rw[if_neg hj,if_neg hj];exact⟨_,rfl⟩
theorem A1(hc:X.calm=true):ag X (.builtin "min") (λxs H Q=>∃i j,xs=[.int i,.int j]/\Q (.int (if j < i then j else i)) H):=by
 intro pins s σ H xs us Q I r h;obtain⟨i,j,rfl,q⟩:=h;obtain⟨u,w',rfl,⟨t,rfl⟩,⟨t',rfl⟩⟩:=vals2 r;refine min_two_ints (I.ok.hd hc) λh' tk k=>⟨_,H,I.kept k,?_,q⟩
 by_cases hj:j < i
 .rw[if_pos hj,if_pos hj];exact⟨_,rfl⟩
 .rw[if_neg hj,if_neg hj];exact⟨_,rfl⟩
end
structure gb(h:Heap)(x dx C:Addr)(mA:Str->Option Value):Prop where
 obj:h.get? x=some (instObj C dx)
 ns:h.Ns1 dx mA
 ne:dx≠x
theorem m6(n:h.Ns1 dx mA):∃od,h.get? dx=some od/\∀name,lookIn name od=some (mA name):=by
 obtain⟨o,es,ep,ho,hd,hk,_,hm⟩:=n;refine⟨o,ho,λname=>?_⟩;have e:=hm name;unfold nsFind findBy at e;rw[<- PY] at e;unfold lookIn;rw[hd];dsimp only;split
 .rename_i y q;rw[q] at e;exact congrArg some e
 .rename_i q;rw[q] at e;have a:es.toList.any (·.refKey)=false:=by
   rw[List.any_eq_false];intro y hy;obtain⟨z,t,hkey⟩:=hk y (Px.mp hy);simp[DictEntry.refKey,hkey]
  have a':¬ es.toList.any (·.refKey)=true:=by rw[a];exact LN
  rw[if_neg a'];exact congrArg some e
theorem gb.look{x:Addr}(I:gb h x dx C mA):∃od,PySem.W.InstAt h x (instObj C dx) C (some od)/\∀name,lookIn name od=some (mA name) :=
 let ⟨od,ho,hl⟩:=m6 I.ns
 ⟨od,⟨I.obj,rfl,rfl,ho⟩,hl⟩
section
variable{prog:Program}{s:Shared}{x:Addr}{name:Str}{v:Value}
theorem A4{expr:Bool}(X:K.In s.heap)(I:gb s.heap x dx C mA)(hg:plainGet K C name=true)(hh:hasDictIn K C=true)
  (ha:findIn K (.ref C) name=some none)(hv:mA name=some v)(hv':QC v=true)(h:Q v {s with toks:=s.toks+1}) :
  wpAny (model prog w) A (getAttr (.ref x) name expr) Q E s:=by
 obtain⟨od,J,hl⟩:=I.look;exact PySem.W.get_value X J (QX hg).1 (PySem.W.findObj_own hh ha rfl (by rw[hl,hv])) hv' h
theorem A5{pl:Sem Bool}{Q:Value×List Value->Shared->Prop}(X:K.In s.heap)(I:gb s.heap x dx C mA)(hg:plainGet K C name=true)
  (hf:findIn K (.ref C) name=some (some (.ref f)))(ht:isFn K (.ref f)=true)(hv:mA name=none)(h:Q (.ref f,[.ref x]) s) :
  wpAny (model prog w) A (getMethod (.ref x) name pl) Q E s:=by
 obtain⟨od,J,hl⟩:=I.look;exact PySem.W.method_fn X J (QX hg).1 (QX hg).2 hf (beq_iff_eq.mp ht) (by show(lookIn name od).map (·.isSome)=some false;rw[hl,hv];rfl) h
theorem m7{ns:List Str}{Q:Unit->Shared->Prop}(X:K.In s.heap)(I:gb s.heap x dx C mA)
  (hs:findIn K (.ref C) "__setattr__"=some (some (.builtin "object.__setattr__")))(hp:Qg K C=true)(ht:takerIn K C name=some none)(hh:hasDictIn K C=true)
  (hw:Qf mA ns)(hsz:ns.length<=sizeLine)
  (h:∀h',gb h' x dx C (λy=>if y=name then some v else mA y)->NS dx s.heap h'->Q () {s with heap:=h',toks:=s.toks+2}) :
  wpAny (model prog w) A (setAttr (.ref x) name v) Q E s:=by
 obtain⟨od,J,hl⟩:=I.look;refine PySem.W.set_plain X J hs (PySem.W.osa_open (s:={s with toks:=s.toks+1}) (r:=none) X J hp ht λb=>?_);obtain⟨cd,hc,hd'⟩:=PySem.W.any_some hh;have hx:s.heap.get? x=some ⟨.ref C,some dx,.plain, #[]⟩:=I.obj;refine L0 (L6 (L0 (L0 (Ro hx (L0 (PZ (s:={s with toks:=s.toks+1}) (PF X hc) ?_))))));rw[hd'];refine L6 (a:=some dx) (L0 (L6 (L0 ?_)));refine Sy (s:={s with toks:=s.toks+1}) I.ns λh' hn2 hs2=>?_
 obtain⟨oD,esD,epD,hoD,hdD,hcD⟩:=hn2.count (SN name v hw);refine L0 (QR hoD (by rw[hdD];exact QS (LU hcD (by rw[LF];omega))) ?_);exact L6 (h _ ⟨(hs2.2 _ (Ne.symm I.ne)).trans I.obj,hn2,I.ne⟩ hs2)
theorem A6{R:Result->Shared->Prop}{vs:List Value}(X:K.In s.heap)(hm:makesIn K C=true)
  (hi:findIn K (.ref C) "__init__"=some (some (.ref f)))(hf:PySem.W.typeIn K (.ref f)=some (.type "function"))
  (h:codeAny (model prog w) (A.under (.builtin "type.__call__" ⟨.ref C::vs,kw⟩)) (.call (.ref f) ⟨.ref (s.heap.objs.size+1)::vs,kw⟩) (PySem.W.InitBack (s.heap.objs.size+1) R)
   {s with heap:=(s.heap.push emptyDict).push (instObj C s.heap.objs.size)}) :
  codeAny (model prog w) A (.call (.ref C) ⟨vs,kw⟩) R s:=by
 obtain⟨hh,g,d,t,os⟩:=s;exact PySem.W.make_core (PySem.W.makes_of X hm) (PySem.W.looks_findIn X hi) (λself=>PySem.W.bind_fn X self hf) (.inl rfl) h
end
def bG(f:Str)(v:V):List (Str×V)->List (Str×V)
 | []=>[(f,v)]
 | (g,x)::r=>if g=f then(g,v)::r else(g,x)::bG f v r
theorem qV(f g:Str)(v:V):∀fs:List (Str×V),(bG f v fs).lookup g=if g=f then some v else fs.lookup g
 | []=>by
  show Mt g [(f,v)]=_;by_cases h:g=f
  .have hb:(g==f)=true:=beq_iff_eq.mpr h;simp only[Mt,hb,if_pos h]
  .have hb:(g==f)=false:=beq_eq_false_iff_ne.mpr h;simp only[Mt,hb,if_neg h]
 | (k,x)::r=>by
  have ih:=qV f g v r;rw[show bG f v ((k,x)::r)=(if k=f then(k,v)::r else(k,x)::bG f v r) from rfl];by_cases hk:k=f
  .rw[if_pos hk];by_cases h:g=k
   .have hb:(g==k)=true:=beq_iff_eq.mpr h;simp only[Mt,hb,if_pos (h.trans hk)]
   .have hb:(g==k)=false:=beq_eq_false_iff_ne.mpr h;simp only[Mt,hb,if_neg (λe:g=f=>h (e.trans hk.symm))]
  .rw[if_neg hk];by_cases h:g=k
   .have hb:(g==k)=true:=beq_iff_eq.mpr h;simp only[Mt,hb,if_neg (λe:g=f=>hk (h.symm.trans e))]
   .have hb:(g==k)=false:=beq_eq_false_iff_ne.mpr h;simp only[Mt,hb];exact ih
theorem m9(f:Str)(v:V):∀fs:List (Str×V),f∈(bG f v fs).map (·.1)/\∀g,g∈fs.map (·.1)->g∈(bG f v fs).map (·.1)
 | []=>⟨by simp[bG],λg h=>by simp at h⟩
 | (k,x)::r=>by
  obtain⟨i1,i2⟩:=m9 f v r;rw[show bG f v ((k,x)::r)=(if k=f then(k,v)::r else(k,x)::bG f v r) from rfl];by_cases hk:k=f
  .rw[if_pos hk];subst hk;exact⟨by simp,λg h=>by simpa using h⟩
  .rw[if_neg hk];refine⟨?_,λg h=>?_⟩
   .rw[LV];exact Lx _ i1
   .rw[LV] at h ⊢;rcases Lz.mp h with e|e
    .exact Lz.mpr (.inl e)
    .exact Lx _ (i2 g e)
theorem qW(f:Str)(v:V):∀fs:List (Str×V),(bG f v fs).length<=fs.length+1
 | []=>by simp[bG]
 | (k,x)::r=>by
  have ih:=qW f v r;rw[show bG f v ((k,x)::r)=(if k=f then(k,v)::r else(k,x)::bG f v r) from rfl];by_cases hk:k=f
  .rw[if_pos hk,LF,LF];omega
  .rw[if_neg hk,LF,LF];omega
theorem bP.some_of{o:Option Value}(r:bP (some v) o):∃u,o=some u/\RelV v u:=by
 cases o with
 |none=>exact(show False from r).elim
 |some u=>exact⟨u,rfl,r⟩
theorem bP.none_of{o:Option Value}(r:bP none o):o=none:=by
 cases o with
 |none=>rfl
 |some u=>exact(show False from r).elim
theorem qX(r:RelV v u):QC u=true:=by
 cases v with
 |non=>cases (show u=Mv from r);rfl
 |bl b=>cases (show u=Oo b from r);rfl
 |int i=>obtain⟨t,e⟩:=(show ∃t,u=OC i t from r);cases e;rfl
 |str x=>obtain⟨t,e⟩:=(show ∃t,u=MW x t from r);cases e;rfl
 |byt b=>obtain⟨t,e⟩:=(show ∃t,u=QV b t from r);cases e;rfl
 |flt b=>obtain⟨t,e⟩:=(show ∃t,u=Pw b t from r);cases e;rfl
 |ref a=>cases (show u=LH a from r);rfl
 |ty n=>cases (show u=MP n from r);rfl
section
variable{fs fs':List (Str×V)}
theorem iP(hok:HOk P w H h)(e:H a=some (.ins C dx fs)):∃mA,gb h a dx C mA/\(∀f,bP (fs.lookup f) (mA f))/\Qf mA (fs.map (·.1))/\fs.length<=1000/\H dx=some (.own a):=by
 obtain⟨d,z,ne,ob,mA,n,r,q⟩:=(show aC P w H h a (.ins C dx fs) from hok a _ e);exact⟨mA,⟨ob,n,ne⟩,r,q,z,d⟩
end
structure Cls(K:Frag)(C:Addr):Prop where
 pg:plainGet K C LZ=true
 hd:hasDictIn K C=true
 po:Qg K C=true
 sa:findIn K (.ref C) "__setattr__"=some (some (.builtin "object.__setattr__"))
theorem Cls.get(c:Cls K C)(f:Str):plainGet K C f=true:=c.pg
def cB(K:Frag)(C:Addr)(f:Str):Prop:=findIn K (.ref C) f=some none
theorem cB.taker{f:Str}(n:cB K C f):takerIn K C f=some none:=by
 unfold takerIn;rw[show findIn K (.ref C) f=some none from n];rfl
structure Meth(K:Frag)(C:Addr)(m:Str)(f:Addr):Prop where
 at_:findIn K (.ref C) m=some (some (.ref f))
 fn:isFn K (.ref f)=true
 kp:keepIn K (.ref f)=true
section
variable{s:Shared}{fs:List (Str×V)}{f:Str}
theorem A7{b:Bool}(I:Inv X pins σ H s)(e:H a=some (.ins C dx fs))(c:Cls X.K C)(n:cB X.K C f)(l:fs.lookup f=some v)
  (h:∀u s',Inv X pins σ H s'->RelV v u->Q u s'):wpAny (model X.prog X.w) A (getAttr (.ref a) f b) Q E s:=by
 obtain⟨mA,O,r,_,_,_⟩:=iP I.hok e;obtain⟨u,hu,ru⟩:=bP.some_of (v:=v) (o:=mA f) (by rw[<- l];exact r f);exact A4 I.kIn O (c.get f) c.hd n hu (qX ru) (h u _ (I.tok _) ru)
theorem m_{g:Addr}{pl:Sem Bool}{Q:Value×List Value->Shared->Prop}(I:Inv X pins σ H s)(e:H a=some (.ins C dx fs))(c:Cls X.K C)(k:Meth X.K C m g)(l:fs.lookup m=none)
  (h:Q (.ref g,[.ref a]) s):wpAny (model X.prog X.w) A (getMethod (.ref a) m pl) Q E s:=by
 obtain⟨mA,O,r,_,_,_⟩:=iP I.hok e;have hn:mA m=none:=bP.none_of (by rw[<- l];exact r m);exact A5 I.kIn O (c.get m) k.at_ k.fn hn h
theorem A8{Q:Unit->Shared->Prop}(I:Inv X pins σ H s)(e:H a=some (.ins C dx fs))(c:Cls X.K C)(n:cB X.K C f)(hl:fs.length < 1000)(ry:RelV y u)
  (h:∀s',Inv X pins σ (upd H a (.ins C dx (bG f y fs))) s'->Q () s'):wpAny (model X.prog X.w) A (setAttr (.ref a) f u) Q E s:=by
 obtain⟨mA,O,r,wi,_,ho⟩:=iP I.hok e;have hz:(fs.map (·.1)).length<=sizeLine:=by rw[L1,MV];omega
 refine m7 I.kIn O c.sa c.po n.taker c.hd wi hz λh' O' sb=>h _ ?_
 have hd:∃o,h'.get? dx=some o:=let ⟨o,_,_,e',_⟩:=O'.ns;⟨o,e'⟩;refine I.write (x:=a) (e:=dx) (by rw[e];exact True.intro) (.inr ho) (λb q hb z=>(sb.2 b hb).trans z) hd ?_;refine⟨by rw[zN O.ne];exact ho,?_,O.ne,O'.obj,_,O'.ns,λg=>?_,λg hg=>?_⟩
 .have:=qW f y fs;omega
 .show bP ((bG f y fs).lookup g) (if g=f then some u else mA g);rw[qV];by_cases q:g=f
  .rw[if_pos q,if_pos q];exact ry
  .rw[if_neg q,if_neg q];exact r g
 .by_cases q:g=f
  .rw[q];exact(m9 f y fs).1
  .refine(m9 f y fs).2 g (wi g λz=>hg ?_);show(if g=f then some u else mA g)=none;rw[if_neg q];exact z
theorem Inv.made(I:Inv X pins σ H s):Inv X pins σ (upd (upd H s.heap.objs.size (.own (s.heap.objs.size+1))) (s.heap.objs.size+1) (.ins C s.heap.objs.size []))
  {s with heap:=(s.heap.push emptyDict).push (instObj C s.heap.objs.size)}:=by
 have e1:(s.heap.push emptyDict).get? s.heap.objs.size=some emptyDict:=LG s.heap rfl;have e2:((s.heap.push emptyDict).push (instObj C s.heap.objs.size)).get? (s.heap.objs.size+1)=some (instObj C s.heap.objs.size):=by
  have:=LG (s.heap.push emptyDict) (o:=instObj C s.heap.objs.size) rfl;rwa [MT] at this
 have e3:(s.heap.push emptyDict).Ns s.heap.objs.size (λ_=>none):=⟨emptyDict, #[],_,e1,rfl,(λe he=>absurd he (by simp)),λ_=>rfl⟩;have I1:=I.laid (a:=s.heap.objs.size) (o:= .own (s.heap.objs.size+1)) (h':=s.heap.push emptyDict) (t':=s.toks) (λb u q=>L4 _ q) (Lp _) ⟨_,e1⟩;refine I1.laid (a:=s.heap.objs.size+1) (o:= .ins C s.heap.objs.size []) (t':=s.toks) (λb u q=>L4 _ q) (Qh (MT _ _)) ?_;have ne:s.heap.objs.size≠s.heap.objs.size+1:=LI (NU _);refine⟨by rw[zN ne,zJ],Mz _,ne,e2,λ_=>none,(Qi e3).at λo q=>L4 _ q,λ_=>True.intro,λy hy=>absurd rfl hy⟩
theorem qY{prog:Program}{env:Env}(hb:attributeBase e f env (eval e env)=eval e env)
  (h:wpAny (model prog w) A (eval e env) (λo s₁=>wpAny (model prog w) A (getAttr o f true) Q E s₁) E s):wpAny (model prog w) A (eval (.Attribute e f pos) env) Q E s :=
 Attribute_any_ h (by rw[arm_eval_Attribute,hb])
end
def j6(K:Frag)(ta:TE)(f:Str):TE:=λσ H Q=>ta σ H λx H1=>∃a C dx fs v,x= .ref a/\H1 a=some (.ins C dx fs)/\Cls K C/\cB K C f/\fs.lookup f=some v/\Q v H1
def j7(K:Frag)(ta tv:TE)(f:Str):TS:=λD σ H=>tv σ H λy H1=>ta σ H1 λx H2=>∃a C dx fs,x= .ref a/\H2 a=some (.ins C dx fs)/\Cls K C/\cB K C f/\fs.length < 1000 /\
 D.nx σ (upd H2 a (.ins C dx (bG f y fs)))
section
variable{o value:Expr}{f:Str}{pos' tpos:Pos}{tv:TE}
theorem A9(he:PE X e ta)(hb:attributeBase e f X.env (eval e X.env)=eval e X.env):PE X (.Attribute e f pos) (j6 X.K ta f):=by
 intro pins s σ H Q I h;refine qY hb (thn (he pins s σ H _ I h) λu s1 ⟨x,H1,I1,rx,a,C,dx,fs,v,ex,ea,c,n,l,q⟩=>?_);subst ex;obtain rfl:u=LH a:=rx;exact A7 I1 ea c n l λu' s2 I2 ru=>⟨v,H1,I2,ru,q⟩
theorem A_(ha:PE X o ta)(hv:PE X value tv)(hs:swapsWith value (some (.Attribute o f pos')) pos.line X.env=pure false):PS X (.Assign [.Attribute o f pos'] value pos) (j7 X.K ta tv f):=by
 intro pins s σ H D I h;refine plainObj_wpAny_Assign_Attribute (thn (hv pins s σ H _ I h) λu s1 ⟨y,H1,I1,ry,q⟩=>thn (ha pins s1 σ H1 _ I1 q) λov s2 ⟨x,H2,I2,rx,a,C,dx,fs,ex,ea,c,n,l,q2⟩=>?_) hs;subst ex;obtain rfl:ov=LH a:=rx;exact A8 I2 ea c n l ry λs3 I3=>⟨σ,_,I3,q2⟩
end
section
variable{s:Shared}{c:Value}{b:Bool}
inductive bX(K:Frag)(H:Hp):V->Value->Prop where
 |non:bX K H .non (.type "NoneType")
 |bl (x:Bool):bX K H (.bl x) (.type "bool")
 |int (i:Int):bX K H (.int i) (.type "int")
 |str (x:Str):bX K H (.str x) (.type "str")
 |flt (x:UInt64):bX K H (.flt x) (.type "float")
 |lst {a:Addr} {xs:List V} (e:H a=some (.lst xs)):bX K H (.ref a) (.type "list")
 |frz {a:Addr} {o:Obj} {xs:List V} (e:H a=some (.frz o (.lst xs))):bX K H (.ref a) (.type "list")
 |tup {a:Addr} {xs:List V} (e:H a=some (.tup xs)):bX K H (.ref a) (.type "tuple")
 |dK {a:Addr} {kvs:List (Key×V)} (e:H a=some (.dK kvs)):bX K H (.ref a) (.type "dict")
 |dT {a:Addr} {kvs:List (List Key×V)} (e:H a=some (.dT kvs)):bX K H (.ref a) (.type "dict")
 |ins {a C dx:Addr} {fs:List (Str×V)} (e:H a=some (.ins C dx fs)) (cl:Cls K C) (ha:findIn K (.ref C) "__class__"=some (some (.builtin "object.__class__")))
   (hn:PySem.W.specialIn K (.builtin "object.__class__") "__get__"=some (some (.builtin "getset_descriptor.__get__"))) (htk:PySem.W.takesIn K (.builtin "object.__class__")=some true)
   (hm:PySem.W.mroIn K C (.type "object")=some true):bX K H (.ref a) (.ref C)
theorem Ba{x:V}{t:Value}(I:Inv X pins σ H s)(rx:RelV x u)(ty:bX X.K H x t)(e:kitOne X.K t c=some b)(h:∀tk,Q (.bool b) {s with toks:=tk}) :
  wpAny (model X.prog X.w) A (call (.builtin "isinstance") [u,c]) Q E s:=by
 cases ty with
 |non=>cases (show u=Mv from rx);exact kia_one PySem.W.kitx_none I.kIn True.intro e (λz=>nomatch z) h
 |bl y=>cases (show u=Oo y from rx);exact kia_one PySem.W.kitx_bool I.kIn True.intro e (λz=>nomatch z) h
 |int i=>obtain⟨t,q⟩:=(show ∃t,u=OC i t from rx);cases q;exact kia_one PySem.W.kitx_int I.kIn True.intro e (λz=>nomatch z) h
 |str y=>obtain⟨t,q⟩:=(show ∃t,u=MW y t from rx);cases q;exact kia_one PySem.W.kitx_str I.kIn True.intro e (λz=>nomatch z) h
 |flt y=>obtain⟨t,q⟩:=(show ∃t,u=Pw y t from rx);cases q;exact kia_one PySem.W.kitx_float I.kIn True.intro e (λz=>nomatch z) h
 |@lst a xs ea =>
  cases (show u=LH a from rx);obtain⟨_,_,n,_,h1⟩:=(show aC X.prog X.w H s.heap a (.lst xs) from I.hok a _ ea);exact kia_one Qj I.kIn ⟨_,h1,rfl⟩ e (λz=>nomatch z) h
 |@frz a ob xs ea =>
  cases (show u=LH a from rx);obtain⟨_,_,_,n,_,h1⟩:=(show aC X.prog X.w H s.heap a (.frz ob (.lst xs)) from I.hok a _ ea);exact kia_one Qj I.kIn ⟨_,h1,rfl⟩ e (λz=>nomatch z) h
 |@tup a xs ea =>
  cases (show u=LH a from rx);obtain⟨_,_,_,p⟩:=(show aC X.prog X.w H s.heap a (.tup xs) from I.hok a _ ea);obtain⟨o,h1,h2,_⟩:=p;exact kia_one Q1 I.kIn ⟨o,h1,h2⟩ e (λz=>nomatch z) h
 |@dK a kvs ea =>
  cases (show u=LH a from rx);obtain⟨_,_,vs,_,p⟩:=(show aC X.prog X.w H s.heap a (.dK kvs) from I.hok a _ ea);obtain⟨o,es,ep,h1,h2,_⟩:=p;exact kia_one Qk I.kIn ⟨o,h1,h2.1⟩ e (λz=>nomatch z) h
 |@dT a kvs ea =>
  cases (show u=LH a from rx);obtain⟨_,_,xs,_,o,es,ep,h1,h2,_⟩:=(show aC X.prog X.w H s.heap a (.dT kvs) from I.hok a _ ea);exact kia_one Qk I.kIn ⟨o,h1,h2.1⟩ e (λz=>nomatch z) h
 |@ins a C dx fs ea cl ha hn htk hm =>
  cases (show u=LH a from rx);obtain⟨mA,O,_⟩:=iP I.hok ea;obtain⟨od,J,_⟩:=O.look;exact kia_one (PySem.W.kitx_own (cl.get _) cl.hd ha hn htk hm) I.kIn J e (λz=>nomatch z) h
end
structure au(cm:Bool)(k:Nat)(A:Around):Prop where
 hd:cm=true->A.handled=none
 dp:A.depth+3*k+5 < recursionLimit
 un:A.units+16*k+200 < cLine
 gd:A.guards=some []
abbrev bh(k:Nat)(A:Around):Prop:=au true k A
theorem au.mono{k:Nat}(r:au cm k A)(h:j<=k):au cm j A:=⟨r.hd,by have:=r.dp;omega,by have:=r.un;omega,r.gd⟩
theorem au.deeper{k:Nat}(r:au cm (k+1) A)(env:Env):au cm k (A.deeper env) :=
 ⟨r.hd,by have:=r.dp;show A.depth+1+3*k+5 < _;omega,by have:=r.un;show A.units+3+16*k+200 < _;omega,r.gd⟩
theorem au.in1{k:Nat}(r:au cm (k+1) A):au cm k A.in1 :=
 ⟨r.hd,by have:=r.dp;show A.depth+3*k+5 < _;omega,by have:=r.un;show A.units+1+16*k+200 < _;omega,r.gd⟩
theorem Bb:(A.under (.builtin "type.__call__" ⟨.ref C::us,kw⟩)).depth=A.depth+1:=by
 first|rfl|simp[Around.under,Code.weight,Code.isCreation,Code.isGuard,Code.isCaller,Code.frames,Code.isFrame,guardIds]
theorem Bc:(A.under (.builtin "type.__call__" ⟨.ref C::us,kw⟩)).units=A.units+1:=by
 first|rfl|simp[Around.under,Code.cUnits,Code.frames,Code.isFrame]
theorem Bd:(A.under (.builtin "type.__call__" ⟨.ref C::us,kw⟩)).guards=A.guards:=by
 first|rfl|simp[Around.under,Code.guards,Code.isGuard,guardIds,pushGuards]
theorem au.make{k:Nat}(r:au cm (k+1) A)(C:Addr)(us:List Value)(kw:List (Str×Value)):au cm k (A.under (.builtin "type.__call__" ⟨.ref C::us,kw⟩)) :=
 ⟨r.hd,by have:=r.dp;rw[Bb];omega,by have:=r.un;rw[Bc];omega,by rw[Bd];exact r.gd⟩
theorem au.depth{k:Nat}(r:au cm k A):A.depth < recursionLimit:=by have:=r.dp;omega
theorem au.units{k:Nat}(r:au cm k A):A.units+64 < cLine:=by have:=r.un;omega
def cg:TA:=λ_ H Q=>Q [] H
def cU(ta:TE)(tr:TA):TA:=λσ H Q=>ta σ H λx H1=>tr σ H1 λxs H2=>Q (x::xs) H2
section
variable{t:TA}
theorem qZ:PA X [] cg:=λ_ _ _ _ H Q I h=>Calls.spliced_nil ⟨[],H,I,.nil,h⟩
theorem q0(ha:PE X e te)(hr:PA X es t)(hs:starEach (e::es) X.env=(false,eval e X.env)::starEach es X.env:=by rfl):PA X (e::es) (cU te t):=by
 intro pos pins s σ H Q I h;rw[hs];show wpAny _ _ (spliced ((false,eval e X.env)::backTo pos (starEach es X.env))) _ _ s;refine Calls.spliced_cons (thn (ha pins s σ H _ I h) λu s1 ⟨x,H1,I1,r1,q1⟩=>?_);exact thn (hr pos pins s1 σ H1 _ I1 q1) λus s2 ⟨xs,H2,I2,r2,q2⟩=>⟨x::xs,H2,I2,.cons r1 r2,q2⟩
def nb(t:TA):TE:=λσ H Q=>t σ H λxs H1=>xs.length<=sizeLine/\∀p,H1 p=none->Q (.ref p) (upd H1 p (.tup xs))
def j8(t:TA):TE:=λσ H Q=>t σ H λxs H1=>xs.length<=sizeLine/\∀p,H1 p=none->Q (.ref p) (upd H1 p (.lst xs))
theorem Be{x1}(h:PA X es t):PE X (.Tuple es x1 pos) (nb t):=by
 intro pins s σ H Q I hq;refine wpAny_Tuple_spliced (thn (h pos pins s σ H _ I hq) λus s1 ⟨xs,H1,I1,r,z,q⟩=>⟨by rw[<- r.length];exact z,?_⟩);have hf:H1 s1.heap.objs.size=none:=I1.hok.fresh (Lp _);refine⟨.ref s1.heap.objs.size,upd H1 s1.heap.objs.size (.tup xs),I1.laid (t':=s1.toks) (λb u e=>L4 _ e) (Lp _) ?_,rfl,q _ hf⟩;exact⟨z,us,r,⟨_,LG _ rfl,rfl,_,rfl⟩⟩
theorem Bf(h:PA X es t):PE X (.List es pos) (j8 t):=by
 intro pins s σ H Q I hq;refine wpAny_List_spliced (thn (h pos pins s σ H _ I hq) λus s1 ⟨xs,H1,I1,r,z,q⟩=>⟨by rw[<- r.length];exact z,?_⟩);have hf:H1 s1.heap.objs.size=none:=I1.hok.fresh (Lp _);refine⟨.ref s1.heap.objs.size,upd H1 s1.heap.objs.size (.lst xs),I1.laid (t':=s1.toks) (λb u e=>L4 _ e) (Lp _) ?_,rfl,q _ hf⟩;exact⟨z,us,0,r,LG _ rfl⟩
end
abbrev Sp:=List V->Hp->VK->XK->Prop
variable{sp:Sp}
abbrev CXT:=List Env->Hp->Shared->XK->Value->Shared->Prop
variable{CX:CXT}
structure dN(P:Program)(w:World)(K:Frag)(mg:Str->Option Value)(base:Heap)(A:Around)(outer:List Env)(s:Shared)(H:Hp):Prop where
 frames:A.frames=some outer
 mod:Mod K mg base
 bs:∀b o,base.get? b=some o->s.heap.get? b=some o/\H b=none
 bsz:base.objs.size<=s.heap.objs.size
 funs:s.heap.FunFrames base outer
 frf:∀b∈frs outer,H b=none
 hok:HOk P w H s.heap
 bare:AllBare s.gens
def CE(outer:List Env)(P:Program)(w:World)(H:Hp)(s:Shared)(Q:VK)(u:Value)(s':Shared):Prop :=
 ∃v H',s'.os=s.os/\AllBare s'.gens/\Un (frs outer) [] H H' s.heap s'.heap/\HOk P w H' s'.heap/\RelV v u/\Q v H'
def CR(CX:CXT)(outer:List Env)(P:Program)(w:World)(H:Hp)(s:Shared)(Q:VK)(E:XK)(r:Result)(s':Shared):Prop :=
 match r with
 | .ok (.ret u)=>CE outer P w H s Q u s'
 | .ok _=>False
 | .error e=>CX outer H s E e s'
structure aa(P:Program)(w:World)(K:Frag)(mg:Str->Option Value)(base:Heap)(CX:CXT)(k:Nat)(f:Addr)(fd:FuncData)(ps:List Str)(sp:Sp)(cm:Bool:=true):Prop where
 len:∀vs H Q E,sp vs H Q E->vs.length=ps.length
 run:∀(A:Around) (outer:List Env) (s:Shared) (H:Hp) (args:Args) (us:List Value) (vs:List V) (Q:VK) (E:XK),au cm k A->dN P w K mg base A outer s H->BindsTo s fd args (ps.zip us)->Vals vs us->sp vs H Q E ->
  codeAny (model P w) A (.call (.ref f) args) (CR CX outer P w H s Q E) s
theorem aa.mono{k:Nat}(F:aa P w K mg base CX j f fd ps sp)(h:j<=k) :
  aa P w K mg base CX k f fd ps sp:=⟨F.len,λA outer s H args us vs Q E hr=>F.run A outer s H args us vs Q E (hr.mono h)⟩
theorem aa.imp{k:Nat}{sp':Sp}(F:aa P w K mg base CX k f fd ps sp)
  (h:∀vs H Q E,sp' vs H Q E->sp vs H Q E):aa P w K mg base CX k f fd ps sp' :=
 ⟨λvs H Q E q=>F.len vs H Q E (h _ _ _ _ q),λA outer s H args us vs Q E hr he hb hv hs=>F.run A outer s H args us vs Q E hr he hb hv (h _ _ _ _ hs)⟩
theorem dN.make{s:Shared}(e:dN P w K mg base A outer s H)(C:Addr)(us:List Value)(kw:List (Str×Value)) :
  dN P w K mg base (A.under (.builtin "type.__call__" ⟨.ref C::us,kw⟩)) outer s H:=⟨by first|exact e.frames | (simpa [Around.under,Code.envs,Code.isFrame,pushEnvs] using e.frames),e.mod,e.bs,e.bsz,e.funs,e.frf,e.hok,e.bare⟩
theorem dN.in1{s:Shared}(e:dN P w K mg base A outer s H) :
  dN P w K mg base A.in1 outer s H:=⟨e.frames,e.mod,e.bs,e.bsz,e.funs,e.frf,e.hok,e.bare⟩
section
variable{s s':Shared}
theorem Inv.env0(I:Inv X pins σ H s):dN X.prog X.w X.K X.mg X.base X.A X.stack s H :=
 ⟨I.ok.frames,I.ok.mod,I.bs,LU I.ok.bsz I.sz,I.stack,I.stkFree,I.hok,I.bare⟩
theorem Inv.after{Q:VK}(I:Inv X pins σ H s)(h:CE X.stack X.prog X.w H s Q u s'):EP X pins σ Q u s':=by
 obtain⟨v,H',os,bare,un,hok,r,q⟩:=h;obtain⟨hh,g,d,t,os'⟩:=s';obtain rfl:os'=s.os:=os;exact⟨v,H',I.call (h':=hh) (g':=g) (d':=d) (t':=t) (ch:=[]) un hok bare (λb z=>absurd z (by simp)),r,q⟩
end
def g_(sp:Sp)(dvs:List V)(E:XK)(t:TA):TE:=λσ H Q=>t σ H λvs H1=>sp (vs++dvs) H1 Q E
def Binds(K:Frag)(fd:FuncData)(ps:List Str)(ds:List Value):Prop :=
 ∀(s:Shared) (us:List Value),K.In s.heap->(us++ds).length=ps.length->BindsTo s fd ⟨us,[]⟩ (ps.zip (us++ds))
theorem Binds.all(h:∀us:List Value,us.length=ps.length->bindArgs fd ⟨us,[]⟩=pure (ps.zip us)):Binds K fd ps []:=λs us _ hl=>by
 rw[M8] at hl ⊢;exact .of_eq (h us hl)
def cV(CX:CXT)(X:Cx)(E:XK):Prop:=∀(pins:List (Addr×Obj)) (σ:St) (H:Hp) (s:Shared) (e:Value) (s':Shared),Inv X pins σ H s->CX X.stack H s E e s'->X.xe e s'
section
variable{k:Nat}{dvs:List V}{ds:List Value}{E:XK}{p apos:Pos}{o:Expr}{t:TA}
theorem Bg{s:Shared}{Q:VK}(F:aa X.prog X.w X.K X.mg X.base CX k f fd ps sp)(hr:bh k X.A)(hb:Binds X.K fd ps ds)(hd:Vals dvs ds)(hx:cV CX X E)
  (I:Inv X pins σ H s)(r:Vals vs us)(h:sp (vs++dvs) H Q E):wpAny (model X.prog X.w) X.A (call (.ref f) us) (EP X pins σ Q) X.xe s:=by
 have r2:Vals (vs++dvs) (us++ds):=r.append hd;have hl:(us++ds).length=ps.length:=by rw[<- r2.length];exact F.len _ _ _ _ h
 refine Nc (Nj (F.run X.A X.stack s H ⟨us,[]⟩ (us++ds) (vs++dvs) Q E hr I.env0 (hb s us I.kIn hl) r2 h) λr s' hq=>?_);cases r with
 |error e=>exact hx pins σ H s e s' I hq
 |ok fl =>
  cases fl with
  |ret u=>exact I.after hq
  |next=>exact False.elim hq
  |brk=>exact False.elim hq
  |cont=>exact False.elim hq
theorem Bh(F:aa X.prog X.w X.K X.mg X.base CX k f fd ps sp)(hr:bh k X.A)(hg:Gl X x)(hm:X.mg x=some (.ref f))(hk:keepIn X.K (.ref f)=true)(hb:Binds X.K fd ps ds)(hd:Vals dvs ds)(hx:cV CX X E)
  (ha:PA X (e::es) t)(hdb:(x==("__debug__":Str))=false:=by decide)(he:starEach (e::es) X.env=(false,eval e X.env)::starEach es X.env:=by rfl)(hpl:(backTo pos (starEach es X.env)).any (·.1)=false:=by rfl) :
  PE X (.Call (.Name x p) (e::es) [] pos) (g_ sp dvs E t):=by
 intro pins s σ H Q I h;refine Np (eS I hg hm ?_ hdb);refine Q2 (h₀:=X.base) I.ok.mod.kin hk (thn (ha pos pins s σ H _ I h) λus s1 ⟨vs,H1,I1,r,q⟩=>⟨I1.kIn,?_⟩) he hpl;exact Bg F hr hb hd hx I1 r q
structure Mk(K:Frag)(C f:Addr):Prop where
 makes:makesIn K C=true
 init:findIn K (.ref C) "__init__"=some (some (.ref f))
 fn:isFn K (.ref f)=true
 kp:keepIn K (.ref C)=true
end
def PK(X:Cx)(kws:List Keyword)(t:TA):Prop :=
 ∀(pos:Pos) (pins:List (Addr×Obj)) (s:Shared) (σ:St) (H:Hp) (Q:List V->Hp->Prop),Inv X pins σ H s->t σ H Q->wpAny (model X.prog X.w) X.A (evalAll ((backToKw pos (keywordEach kws X.env)).map (·.2))) (AP X pins σ Q) X.xe s
section
variable{k:Nat}{ks:List Str}{E:XK}{p apos kpos:Pos}{o:Expr}{kws:List Keyword}{t tk:TA}{nm:Option Str}
theorem Bi:PK X [] cg:=λ_ _ _ _ H Q I h=>wpAny_evalAll_nil ⟨[],H,I,.nil,h⟩
theorem Bj(ha:PE X e te)(hr:PK X kws t):PK X (⟨nm,e,kpos⟩::kws) (cU te t):=by
 intro pos pins s σ H Q I h;show wpAny _ _ (evalAll ((do let v<-eval e X.env;standAt pos;pure v)::(backToKw pos (keywordEach kws X.env)).map (·.2))) _ _ s;refine wpAny_evalAll_cons (L0 (thn (ha pins s σ H _ I h) λu s1 ⟨x,H1,I1,r1,q1⟩=>L0 (NL (L6 ?_))));exact thn (hr pos pins s1 σ H1 _ I1 q1) λus s2 ⟨xs,H2,I2,r2,q2⟩=>⟨x::xs,H2,I2,.cons r1 r2,q2⟩
structure dc(K:Frag)(fd:FuncData)(ps ks:List Str)(g:List Value->List Value->List Value)(gV:List V->List V->List V):Prop where
 to:∀(s:Shared) (us ws:List Value),K.In s.heap->(g us ws).length=ps.length->BindsTo s fd ⟨us,ks.zip ws⟩ (ps.zip (g us ws))
 rel:∀{vs:List V} {us:List Value} {zs:List V} {ws:List Value},Vals vs us->Vals zs ws->Vals (gV vs zs) (g us ws)
variable{g:List Value->List Value->List Value}{gV:List V->List V->List V}
theorem q_{s:Shared}{Q:VK}{ws:List Value}{zs:List V}(F:aa X.prog X.w X.K X.mg X.base CX k f fd ps sp)(hr:bh k X.A)(hb:dc X.K fd ps ks g gV)(hx:cV CX X E)
  (I:Inv X pins σ H s)(r:Vals vs us)(rz:Vals zs ws)(h:sp (gV vs zs) H Q E):wpAny (model X.prog X.w) X.A (call (.ref f) us (ks.zip ws)) (EP X pins σ Q) X.xe s:=by
 have r2:=hb.rel r rz;have hl:(g us ws).length=ps.length:=by rw[<- r2.length];exact F.len _ _ _ _ h
 refine Nc (Nj (F.run X.A X.stack s H ⟨us,ks.zip ws⟩ (g us ws) (gV vs zs) Q E hr I.env0 (hb.to s us ws I.kIn hl) r2 h) λr s' hq=>?_);cases r with
 |error e=>exact hx pins σ H s e s' I hq
 |ok fl =>
  cases fl with
  |ret u=>exact I.after hq
  |next=>exact False.elim hq
  |brk=>exact False.elim hq
  |cont=>exact False.elim hq
end
structure zP(N P:List Str)(sc:Scope):Prop where
 kind:sc.kind= .function
 co:sc.isCoroutine=false
 gen:sc.isGenerator=false
 nd:N.Nodup
 pre:N.take P.length=P
 par:∀x∈P,sc.names.lookup x=some .local\/sc.names.lookup x=some .cell
 nofree:∀y∈sc.names,y.2≠ .free
theorem rb{kindOf:Str->Option NameKind}{x:Str}:∀{binds:List (Str×Value)} {m:Str->Option Value},(∀v,(x,v)∉binds)->bindL kindOf binds m x=m x
 | [],_,_=>rfl
 | (n,v)::r,m,h=>by
  unfold bindL;rw[rb λw hw=>h w (Lx _ hw)];split
  .have:x≠n:=by rintro rfl;exact h v Ly
   simp[this]
  .rfl
theorem rd{kindOf:Str->Option NameKind}{x:Str}:∀{binds:List (Str×Value)} {m:Str->Option Value},(∀v,(x,v)∉binds)->bindC kindOf binds m x=m x
 | [],_,_=>rfl
 | (n,v)::r,m,h=>by
  unfold bindC;rw[rd λw hw=>h w (Lx _ hw)];split
  .rfl
  .have:x≠n:=by rintro rfl;exact h v Ly
   simp[this]
theorem rf{kindOf:Str->Option NameKind}{x:Str}{v:Value}:∀{P:List Str} {vs:List Value} {i:Nat} {m:Str->Option Value},P.Nodup->P[i]? = some x->vs[i]? = some v->kindOf x=some .local ->
  bindL kindOf (P.zip vs) m x=some v
 | [],_,_,_,_,h,_,_=>by simp at h
 |_::_,[],_,_,_,_,h,_=>by simp at h
 |p::P,w::vs,0,m,nd,h1,h2,hk=>by
  simp at h1 h2;subst h1;subst h2;show bindL kindOf ((p,w)::P.zip vs) m p=_;unfold bindL;rw[rb λv hv=>(Nb.mp nd).1 (Pe hv).1,if_pos hk];simp
 |p::P,w::vs,i+1,m,nd,h1,h2,hk=>by
  show bindL kindOf ((p,w)::P.zip vs) m x=_;unfold bindL;exact rf (i:=i) (Nb.mp nd).2 (by simpa using h1) (by simpa using h2) hk
theorem rg{kindOf:Str->Option NameKind}{x:Str}{v:Value}:∀{P:List Str} {vs:List Value} {i:Nat} {m:Str->Option Value},P.Nodup->P[i]? = some x->vs[i]? = some v->kindOf x≠some .local ->
  bindC kindOf (P.zip vs) m x=some v
 | [],_,_,_,_,h,_,_=>by simp at h
 |_::_,[],_,_,_,_,h,_=>by simp at h
 |p::P,w::vs,0,m,nd,h1,h2,hk=>by
  simp at h1 h2;subst h1;subst h2;show bindC kindOf ((p,w)::P.zip vs) m p=_;unfold bindC;rw[rd λv hv=>(Nb.mp nd).1 (Pe hv).1,if_neg hk];simp
 |p::P,w::vs,i+1,m,nd,h1,h2,hk=>by
  show bindC kindOf ((p,w)::P.zip vs) m x=_;unfold bindC;exact rg (i:=i) (Nb.mp nd).2 (by simpa using h1) (by simpa using h2) hk
def start(N:List Str)(vs:List V):St:=vs.map some++LB (N.length - vs.length) none
def bR(CX:CXT)(P:Program)(w:World)(K:Frag)(mg:Str->Option Value)(base:Heap)(N:List Str)(qual:Str)(scope:Scope)(f:Addr)(cd:Value)(A:Around)(outer:List Env)(s:Shared)(H:Hp)(E:XK)(cm:Bool:=true):Cx where
 prog:=P
 w:=w
 K:=K
 mg:=mg
 base:=base
 A:=A.deeper (envOfC qual scope s.heap.objs.size f cd)
 N:=N
 s₀:=s
 H₀:=H
 env:=envOfC qual scope s.heap.objs.size f cd
 outer:=outer
 stack:=envOfC qual scope s.heap.objs.size f cd::outer
 ex:=[]
 calm:=cm
 fn:=λ_=>true
 pn:=[]
 xe:=λe s'=>wpAny (model P w) (A.deeper (envOfC qual scope s.heap.objs.size f cd)) (leaving (envOfC qual scope s.heap.objs.size f cd) e) (λ_ s''=>CX outer H s E e s'') (λe' s''=>CX outer H s E e' s'') s'
theorem rh{sc:Scope}{n:Nat}(h:sc.names.lookup x=some .cell):∃c,(cellsFrom n sc.names []).lookup x=some c:=by
 have q:=P6 sc.names n [] (.inl h);exact Mx.mp q
theorem Bk{qual:Str}{scope:Scope}{cd:Value}{s s1:Shared}{E:XK}
  (S:zP N ps scope)(hd:cm=true->A.handled=none)(e0:dN P w K mg base A outer s H)(hl:vs.length=ps.length)(r:Vals vs us)
  (x:InCallC s s.heap.objs.size (bindL (envOfC qual scope s.heap.objs.size f cd).kindOf (ps.zip us) λ_=>none) (cellsFrom (s.heap.objs.size+1) scope.names []) (bindC (envOfC qual scope s.heap.objs.size f cd).kindOf (ps.zip us) λ_=>none) s1) :
  Inv (bR CX P w K mg base N qual scope f cd A outer s H E cm) [] (start N vs) H s1:=by
 have hpl:ps.length<=N.length:=by have:=congrArg Nl S.pre;rw[Mp] at this;omega
 obtain⟨h1,tk,rfl,hk⟩:=x.done;have noA:∀b:Addr,b∉(bR CX P w K mg base N qual scope f cd A outer s H E cm).ex:=λb z=>absurd (show b∈([]:List Addr) from z) (by simp)
 refine⟨⟨e0.mod,S.kind,rfl,rfl,Lp _,λy z c h1 h2=>?_,λy hy=>?_,λy c _ h=>?_,hd,Around.frames_deeper e0.frames,.inr ⟨rfl,rfl⟩,λb z=>absurd z (noA b),e0.bs,e0.bsz,λb _ _=>noA b,λb z=>absurd z (noA b),e0.funs,e0.frf⟩,
  rfl,e0.bare,Un.kept hk,⟨_,x.toInCall.ns,λi y v h1 h2 h3=>?_⟩,λy c h=>⟨_,x.cell y c h⟩,e0.hok.fresh (Lp _),λy c h=>?_,λp hp=>absurd (show p∈([]:List (Addr×Obj)) from hp) (by simp),e0.hok.kept hk,?_⟩
 .exact name_of_addr x.apart (LX h1) (LX h2)
 .have hy:scope.names.lookup y=some .cell\/scope.names.lookup y=some .free:=hy;rcases hy with hy|hy
  .exact rh hy
  .exact absurd rfl (S.nofree _ (LX hy))
 .exact Nf (x.above y c (LX h))
 .have hi:i < vs.length:=by
   unfold start at h2;by_cases hi:i < vs.length
   .exact hi
   .rw[M0 (by simpa using hi)] at h2;rw[Oc] at h2;split at h2<;>cases h2
  have ha:vs[i]? = some v:=by
   unfold start at h2;rw[Mi (by simpa using hi),Ln] at h2;cases e:vs[i]? with
   |none=>rw[e] at h2;cases h2
   |some a=>rw[e] at h2;cases h2;rfl
  obtain⟨u,hu,rv⟩:=r.get ha;have hp:ps[i]? = some y:=by
   rw[<- S.pre,List.getElem?_take_of_lt (by omega)];exact h1
  have ndP:ps.Nodup:=by rw[<- S.pre];exact S.nd.sublist (MG _ _)
  refine⟨u,rv,?_⟩;rcases S.par y (Lu hp) with k|k
  .exact .inl ⟨k,rf ndP hp hu k⟩
  .obtain⟨c,e⟩:=rh (n:=s.heap.objs.size+1) k;refine .inr ⟨.inl k,c,e,?_⟩;have q:=x.cell y c e;rw[rg ndP hp hu (by show scope.names.lookup y≠_;rw[k];decide)] at q;exact q
 .exact e0.hok.fresh (Nf (x.above y c (LX h)))
 .unfold start;show _=N.length;rw[L7,L1,Ol];omega
theorem nc{k:Nat}{name qual:Str}{params:Arguments}{body:List Stmt}{scope:Scope}{dV kV doc pm cdv ct oc:Value}{an od:Option Addr}
  {osl:Array (Option Value)}(lk:K.lookup f=some ⟨oc,od,.func (fnOf name qual params body scope dV kV doc pm an cdv ct),osl⟩)(hcd:codeIn K cdv qual=true)(S:zP N ps scope)
  (len:∀vs H Q E,sp vs H Q E->vs.length=ps.length)
  (hbody:∀(A:Around) (outer:List Env) (s:Shared) (H:Hp) (vs:List V) (Q:VK) (E:XK),au cm k (A.deeper (envOfC qual scope s.heap.objs.size f cdv))->sp vs H Q E ->
   ∃t,PSs (bR CX P w K mg base N qual scope f cdv A outer s H E cm) body t/\t {nx:=λ_ H'=>Q .non H',rt:=Q} (start N vs) H) :
  aa P w K mg base CX (k+1) f (fnOf name qual params body scope dV kV doc pm an cdv ct) ps sp cm:=by
 refine⟨len,λA outer s H args us vs Q E hr e0 hb r hsp=>?_⟩;have hl:=len _ _ _ _ hsp;have KX:K.In s.heap:=e0.mod.kin.keeps λb o e=>(e0.bs b o e).1
 have lim:s.heap.NoLimit:=e0.mod.nolimit.keeps λb o e=>(e0.bs b o e).1
 have hkind:∀y∈ps.zip us,scope.names.lookup y.1=some .local\/(scope.names.lookup y.1=some .cell/\((cellsFrom (s.heap.objs.size+1) scope.names []).lookup y.1).isSome=true):=λ⟨n,v⟩ hy=>by
  rcases S.par n (Pe hy).1 with q|q
  .exact .inl q
  .exact .inr ⟨q,P6 _ _ _ (.inl q)⟩
 refine codeAny_call_function hr.depth (KX _ _ lk) rfl S.co S.gen rfl (PySem.W.codeRec_of KX hcd) (hb _ _ _ _ ?_);refine wpAny_newFunctionEnv_cells S.kind hkind λenv he s1 x=>?_
 subst he;refine⟨lim.keeps x.toInCall.keep,codeAny_func ?_⟩;obtain⟨t,ht,hq⟩:=hbody A outer s H vs Q E (hr.deeper _) hsp;have I:Inv (bR CX P w K mg base N qual scope f cdv A outer s H E cm) [] (start N vs) H s1:=Bk S hr.hd e0 hl r x;refine Ma (ht [] s1 (start N vs) H _ I hq) (λfl s' hs=>?_) λe s' hs=>hs
 have fin:∀{σ':St} {H':Hp} {v:V} {u:Value},Inv (bR CX P w K mg base N qual scope f cdv A outer s H E cm) [] σ' H' s'->RelV v u->Q v H'->CE outer P w H s Q u s' :=
  λ{σ' H' v u} J rv q=>⟨v,H',J.os,J.bare,J.base,J.hok,rv,q⟩
 cases fl with
 |ret u =>
  obtain⟨v,σ',H',J,rv,q⟩:=hs;exact fin J rv q
 |next =>
  obtain⟨σ',H',J,q⟩:=hs;exact fin (v:=V.non) (u:=Mv) J rfl q
 |brk =>
  obtain⟨_,_,_,q⟩:=hs;exact False.elim q
 |cont =>
  obtain⟨_,_,_,q⟩:=hs;exact False.elim q
section
variable{p:Pos}{t:TA}{id T:String}{r:List V->Hp->VK->Prop}
def tCB(r:List V->Hp->VK->Prop)(t:TA):TE:=λσ H Q=>t σ H λvs H1=>r vs H1 Q
theorem Bl(hc:ag X (.builtin id) r)(hg:Gl X x)(hm:X.mg x=none)(hv:bootBuiltins x=some (.builtin id))(ha:PA X (e::es) t)(hn:x≠"__name__":=by decide)(hdb:(x==("__debug__":Str))=false:=by decide)
  (he:starEach (e::es) X.env=(false,eval e X.env)::starEach es X.env:=by rfl)(hpl:(backTo pos (starEach es X.env)).any (·.1)=false:=by rfl):PE X (.Call (.Name x p) (e::es) [] pos) (tCB r t):=by
 intro pins s σ H Q I h;refine Np (jX I hg hm hv ?_ hn hdb);exact QD (thn (ha pos pins s σ H _ I h) λus s1 ⟨vs,H1,I1,r1,q1⟩=>hc pins s1 σ H1 vs us Q I1 r1 q1) he hpl
theorem Bm(hc:ag X (.type T) r)(hg:Gl X x)(hm:X.mg x=none)(hv:bootBuiltins x=some (.type T))(ha:PA X (e::es) t)(hn:x≠"__name__":=by decide)(hdb:(x==("__debug__":Str))=false:=by decide)
  (he:starEach (e::es) X.env=(false,eval e X.env)::starEach es X.env:=by rfl)(hpl:(backTo pos (starEach es X.env)).any (·.1)=false:=by rfl):PE X (.Call (.Name x p) (e::es) [] pos) (tCB r t):=by
 intro pins s σ H Q I h;refine Np (jX I hg hm hv ?_ hn hdb);exact OA (thn (ha pos pins s σ H _ I h) λus s1 ⟨vs,H1,I1,r1,q1⟩=>hc pins s1 σ H1 vs us Q I1 r1 q1) he hpl
end
end L2
namespace HT
open PySem PyProof.Rows
section
open PySem.SeqAt
open PySem.AutoSeq1 (wpAny_loadPart')
open PySem.MeetsSeq PySem.MeetsSeq2 PySem.MeetsSeq3
end
section
variable{prog:Program}{w:World}{A:Around}{E:Value->Shared->Prop}{s:Shared}
theorem Bn{t b:Addr}{vs ws:List Value}{Q:Value->Shared->Prop}(ht:IsTup s.heap t vs.toArray)(hb:IsTup s.heap b ws.toArray)(hv:vs≠[])
  (h1:ws=[]->Q (.ref t) s)(h2:ws≠[]->Q (.ref s.heap.objs.size) {s with heap:=s.heap.push {cls:= .type "tuple",data:= .seq (vs++ws).toArray}})
  (hsz:vs.length+ws.length<=sizeLine):wpAny (model prog w) A (binaryOp .Add (.ref t) (.ref b)) Q E s:=by
 obtain⟨⟨cls,dd,data,sl⟩,ho,hc,n,hd⟩:=id ht;obtain⟨⟨cls2,dd2,data2,sl2⟩,ho2,hc2,n2,hd2⟩:=id hb;simp only at hc hd hc2 hd2;subst hc hd hc2 hd2;have e:vs.toArray++ws.toArray=(vs++ws).toArray:=by simp
 by_cases hw:ws=[]
 .exact Sz ⟨_,ho,rfl⟩ ⟨_,ho2,rfl⟩ QT Sf P7 OZ (OQ _ _)
   (tuple_addW1 t b vs.toArray ws.toArray n n2 dd dd2 sl sl2 (by simpa using hv) (by simp[hw])) ⟨ho,ho2,h1 hw⟩
 .refine Sz ⟨_,ho,rfl⟩ ⟨_,ho2,rfl⟩ QT Sf P7 OZ (OQ _ _)
   (tuple_addW2 t b vs.toArray ws.toArray n n2 dd dd2 sl sl2 (by simpa using hv) (by simpa using hw) (by rw[Lv,Lv];exact hsz)) ⟨ho,ho2,?_⟩
  rw[e];exact h2 hw
def sIx(n d:Nat):Option Int->Nat
 |none=>d
 |some v=>if v < 0 then(v+(n:Int)).toNat else min v.toNat n
theorem rj(n d:Nat):sIx n d none=d:=rfl
theorem cC(n d k:Nat):sIx n d (some (k:Int))=min k n:=by
 show(if (k:Int) < 0 then((k:Int)+(n:Int)).toNat else min (k:Int).toNat n)=min k n;rw[if_neg (by omega),Int.toNat_natCast]
theorem Bo(n d:Nat)(hd:d<=n)(o:Option Int):sIx n d o<=n:=by
 cases o with
 |none=>exact hd
 |some v =>
  show(if v < 0 then(v+(n:Int)).toNat else min v.toNat n)<=n;by_cases hv:v < 0
  .rw[if_pos hv];omega
  .rw[if_neg hv];exact Nat.min_le_right _ _
theorem rk(v:Int)(n d:Nat):(if v < 0 then max (v+(n:Int)) 0 else min v (n:Int))=((sIx n d (some v):Nat):Int):=by
 show(if v < 0 then max (v+(n:Int)) 0 else min v (n:Int))=(((if v < 0 then(v+(n:Int)).toNat else min v.toNat n):Nat):Int);by_cases hv:v < 0
 .simp only[if_pos hv];omega
 .simp only[if_neg hv];omega
theorem Bp(lo hi:Option Int)(n:Nat):NW lo hi 1 (n:Int)=(((sIx n 0 lo:Nat):Int),((sIx n n hi:Nat):Int)):=by
 have h1:¬ ((1:Int) < 0):=by omega
 unfold NW;simp only[h1,if_false];refine Qe ?_ ?_
 .cases lo with
  |none=>rfl
  |some v=>exact rk v n 0
 .cases hi with
  |none=>rfl
  |some v=>exact rk v n n
theorem Bq(i j:Nat):Nt (i:Int) (j:Int) 1=j - i:=by
 unfold Nt;have h1:(1:Int) > 0:=by omega
 simp only[h1,if_true,Int.ediv_one];split<;>omega
theorem rl{v:Value}{o:Option Int}{Q:Option Int->Shared->Prop}(p:IsPart v o)(h:Q o s):wpAny (model prog w) A (R3 v) Q E s:=by
 cases p with
 |none=>exact Rp h
 |int i t=>exact slicePart_int h
theorem rn{sl:Addr}{vl vu:Value}{lo hi:Option Int}{n:Nat}{Q:Int×Int×Nat->Shared->Prop}(hs:s.heap.IsSliceOf sl vl vu .none)(pl:IsPart vl lo)(pu:IsPart vu hi)
  (h:Q (((sIx n 0 lo:Nat):Int),1,sIx n n hi - sIx n 0 lo) s):wpAny (model prog w) A (OD (.ref sl) (pure (n:Int))) Q E s:=by
 obtain⟨os,hos,hcs,hds⟩:=id hs;unfold OD RK;refine L0 (L0 (NG hos hds (x:=vl) rfl (L0 (NG hos hds (x:=vu) rfl (L0 (NG hos hds (x:= .none) rfl (L6 ?_)))))));refine L0 (Rp ?_);show wpAny _ _ (if ((1:Int)==0)=true then _ else _) _ _ s;rw[if_neg (by decide)];refine L0 (rl pl (L0 (rl pu (L0 (L6 ?_)))));show wpAny _ _ (match NW lo hi 1 (n:Int) with | (lo,hi)=>pure (lo,(1:Int),Nt lo hi 1)) _ _ s;rw[Bp lo hi n];show wpAny _ _ (pure (((sIx n 0 lo:Nat):Int),(1:Int),Nt ((sIx n 0 lo:Nat):Int) ((sIx n n hi:Nat):Int) 1)) _ _ s;rw[Bq];exact L6 h
theorem Br(xs:Array Value)(i k:Nat):((MQ k).filterMap λ(m:Nat)=>xs[((i:Int)+(m:Int)*1).toNat]?).toArray=((xs.toList.drop i).take k).toArray:=by
 have e:(λ(m:Nat)=>xs[((i:Int)+(m:Int)*1).toNat]?)=λm=>xs[i+m]? := by
  funext m;have:((i:Int)+(m:Int)*1).toNat=i+m:=by omega
  rw[this]
 rw[e];have:=pick_run xs i k;rw[List.filterMap_map] at this;have e2:((λx=>xs[x]?)∘λx=>i+x)=λm=>xs[i+m]? := rfl
 rw[e2] at this;rw[this]
theorem Bs{t sl:Addr}{items:Array Value}{vl vu:Value}{lo hi:Option Int}{Q:Value->Shared->Prop}(ht:IsTup s.heap t items)(hs:s.heap.IsSliceOf sl vl vu .none)(pl:IsPart vl lo)(pu:IsPart vu hi)
  (hw:¬ (sIx items.size 0 lo=0/\sIx items.size items.size hi=items.size))
  (h:Q (.ref s.heap.objs.size) {s with heap:=s.heap.push {cls:= .type "tuple",data:= .seq ((items.toList.drop (sIx items.size 0 lo)).take (sIx items.size items.size hi - sIx items.size 0 lo)).toArray}})
  (hsz:items.size<=sizeLine):wpAny (model prog w) A (getItem (.ref t) (.ref sl)) Q E s:=by
 have htake:sizeOk (.seq ((items.toList.drop (sIx items.size 0 lo)).take (sIx items.size items.size hi - sIx items.size 0 lo)).toArray):=by
  show((items.toList.drop (sIx items.size 0 lo)).take (sIx items.size items.size hi - sIx items.size 0 lo)).toArray.size<=sizeLine;rw[Lv,Mp,Op,LQ];omega
 have hj:sIx items.size items.size hi<=items.size:=Bo _ _ (Lp _) hi;obtain⟨os,hos,hcs,hds⟩:=id hs;have hTs:s.TypeIs (.ref sl) "slice":=⟨os,hos,hcs⟩;unfold getItem;try with_reducible refine M6 ?_
 first|refine L0 (L6 ?_)|skip
 refine L0 (Qw ht.typeIs (by decide) ?_);refine L0 (P5 (name:=L5 "__getitem__") ht.typeIs Mo
  (NF Mo ht.typeIs PP ?_ (Qa _ _)))
 show wpAny _ _ (OE (.ref t) >>= _) _ _ s;refine L0 (Sg ht ?_);refine L0 (NV hTs ?_);rw[if_pos (by decide)];refine L0 (rn hs pl pu ?_);have hno:¬ ((((sIx items.size 0 lo:Nat):Int)==0&&(1:Int)==1&&(sIx items.size items.size hi - sIx items.size 0 lo)==items.size)=true):=by
  intro q;rw[M9,M9] at q;have q1:((sIx items.size 0 lo:Nat):Int)=0:=eq_of_beq q.1.1;have q2:sIx items.size items.size hi - sIx items.size 0 lo=items.size:=eq_of_beq q.2;exact hw ⟨by omega,by omega⟩
 show wpAny _ _ (if (((sIx items.size 0 lo:Nat):Int)==0&&(1:Int)==1&&(sIx items.size items.size hi - sIx items.size 0 lo)==items.size)=true then _ else _) _ _ s;rw[if_neg hno,Br];first
  |exact L0 (m:=NB _) (N0 (L6 ⟨_,rfl,L6 h⟩) htake)
  |exact L0 (m:=NB _) (N0 (L0 (L6 (L6 ⟨_,rfl,L6 h⟩))) htake)
  |exact L0 (L0 (m:=NB _) (N0 (L6 (L6 ⟨_,rfl,L6 h⟩)) htake))
  |exact L0 (L0 (m:=NB _) (N0 (L6 ⟨_,rfl,L6 h⟩) htake))
end
end HT
namespace L2
open PySem PySem.Spec PyProof.Rows
variable{pins:List (Addr×Obj)}{H H':Hp}{X:Cx}{u:Value}{σ:St}{y x:V}{pos:Pos}{A:Around}{E Q:Value->Shared->Prop}{a:Addr}{xs:List V}{w:World}{α:Type}{its:List Value}{e:Expr}{t':Nat}{o:Option V}{P:Program}{T:String}
abbrev TO:=St->Hp->(Option Int->Hp->Prop)->Prop
def PO(X:Cx)(e:Option Expr)(t:TO):Prop :=
 ∀(pins:List (Addr×Obj)) (s:Shared) (σ:St) (H:Hp) (Q:Option Int->Hp->Prop),Inv X pins σ H s->t σ H Q ->
  wpAny (model X.prog X.w) X.A (evalPart e X.env) (λu s'=>∃o H',Inv X pins σ H' s'/\IsPart u o/\Q o H') X.xe s
def nh:TO:=λ_ H Q=>Q none H
def ni(t:TE):TO:=λσ H Q=>t σ H λx H1=>∃i,x= .int i/\Q (some i) H1
section
variable{te:TE}{lo hi:Option Expr}{tl th:TO}{p2:Pos}
theorem Bt:PO X none nh:=by
 intro pins s σ H Q I h;rw[Sh];exact L6 ⟨none,H,I,.none,h⟩
theorem Bu(h:PE X e te):PO X (some e) (ni te):=by
 intro pins s σ H Q I hw;rw[evalPart_some];refine thn (h pins s σ H _ I hw) λu s1 ⟨x,H1,I1,r1,q1⟩=>?_
 obtain⟨i,rfl,q⟩:=q1;obtain⟨t,rfl⟩:=r1;exact⟨some i,H1,I1,.int i t,q⟩
def SlR(X:Cx)(r:V->Option Int->Option Int->Hp->VK->Prop):Prop :=
 ∀(pins:List (Addr×Obj)) (s:Shared) (σ:St) (H:Hp) (x:V) (v vl vu:Value) (lo hi:Option Int) (sl:Addr) (Q:VK),Inv X pins σ H s->RelV x v->s.heap.IsSliceOf sl vl vu .none->IsPart vl lo->IsPart vu hi->r x lo hi H Q ->
  ∃T id,typeLookup (.type T) "__getitem__"=pure (some (.builtin id))/\s.TypeIs v T/\wpAny (model X.prog X.w) X.A (getItem v (.ref sl)) (EP X pins σ Q) X.xe s
theorem SlR.or{r r':V->Option Int->Option Int->Hp->VK->Prop}(h:SlR X r)(h':SlR X r'):SlR X (λx lo hi H Q=>r x lo hi H Q\/r' x lo hi H Q):=by
 intro pins s σ H x v vl vu lo hi sl Q I rx hs pl pu q;rcases q with q|q
 .exact h pins s σ H x v vl vu lo hi sl Q I rx hs pl pu q
 .exact h' pins s σ H x v vl vu lo hi sl Q I rx hs pl pu q
def tSl(r:V->Option Int->Option Int->Hp->VK->Prop)(te:TE)(tl th:TO):TE:=λσ H Q=>te σ H λx H1=>tl σ H1 λl H2=>th σ H2 λu H3=>r x l u H3 Q
theorem Bv{r:V->Option Int->Option Int->Hp->VK->Prop}(hr:SlR X r)(he:PE X e te)(hl:PO X lo tl)(hu:PO X hi th):PE X (.Subscript e (.Slice lo hi none p2) pos) (tSl r te tl th):=by
 intro pins s σ H Q I h;refine Rq (thn (he pins s σ H _ I h) λv s1 ⟨x,H1,I1,r1,q1⟩=>?_);refine wpAny_Slice (thn (hl pins s1 σ H1 _ I1 q1) λvl s2 ⟨l,H2,I2,pl,q2⟩=>thn (hu pins s2 σ H2 _ I2 q2) λvu s3 ⟨u,H3,I3,pu,q3⟩=>?_);rw[Sh];refine L6 ?_;have I4:Inv X pins σ H3 {s3 with heap:=s3.heap.push {cls:= .type "slice",data:= .fields #[vl,vu,.none]}}:=I3.kept (t':=s3.toks) λb ob q=>L4 _ q
 obtain⟨T,id,hT,ht,hg⟩:=hr pins {s3 with heap:=s3.heap.push {cls:= .type "slice",data:= .fields #[vl,vu,.none]}} σ H3 x v vl vu l u s3.heap.objs.size Q I4 r1 (SM ..) pl pu q3;show wpAny (model X.prog X.w) X.A (subscriptTail e (.Slice lo hi none p2) v (.ref s3.heap.objs.size)) (EP X pins σ Q) X.xe {s3 with heap:=s3.heap.push {cls:= .type "slice",data:= .fields #[vl,vu,.none]}};exact tail_any (ops:=[.ref s3.heap.objs.size,v]) ht hT hg (by with_unfolding_all rfl)
def cD(xs:List V)(lo hi:Option Int):List V:=(xs.drop (HT.sIx xs.length 0 lo)).take (HT.sIx xs.length xs.length hi - HT.sIx xs.length 0 lo)
theorem rp(xs:List V)(lo hi:Option Int):(cD xs lo hi).length<=xs.length:=by
 unfold cD;rw[Mp,Op];omega
def rq(K:Frag):V->Option Int->Option Int->Hp->VK->Prop:=λx lo hi H Q=>∃a xs,x= .ref a/\SqT K H a xs /\
 ¬ (HT.sIx xs.length 0 lo=0/\HT.sIx xs.length xs.length hi=xs.length)/\∀p,H p=none->Q (.ref p) (upd H p (.tup (cD xs lo hi)))
theorem rA:SlR X (rq X.K):=by
 intro pins s σ H x v vl vu lo hi sl Q I rx hs pl pu h;obtain⟨a,xs,rfl,hx,hw,q⟩:=h;cases rx;obtain⟨its,r,ht,hz⟩:=I.tuple hx;have hlen:its.toArray.size=xs.length:=by rw[Lv];exact r.length.symm
 refine⟨"tuple",_,Mo.lookup,ht.typeIs,?_⟩;refine HT.Bs ht hs pl pu (by rw[hlen];exact hw) ?_ (by rw[hlen];exact hz);rw[hlen];refine⟨.ref s.heap.objs.size,_,I.laid (t':=s.toks) (o:= .tup (cD xs lo hi)) (λb ob q=>L4 _ q) (Lp _) ?_,rfl,q _ (I.hok.fresh (Lp _))⟩;exact⟨LU (rp xs lo hi) hz,_,(r.drop (HT.sIx xs.length 0 lo)).take (HT.sIx xs.length xs.length hi - HT.sIx xs.length 0 lo),IsTup.new _ _⟩
def rB(K:Frag):R2:=λx y H Q=>∃a b xs ys,x= .ref a/\y= .ref b/\SqT K H a xs/\SqT K H b ys/\xs≠[]/\xs.length+ys.length<=sizeLine /\
 (ys=[]->Q (.ref a) H)/\(ys≠[]->∀p,H p=none->Q (.ref p) (upd H p (.tup (xs++ys))))
theorem Vals.nil_iff{us:List Value}(r:Vals xs us):us=[]↔xs=[]:=by
 cases r with
 |nil=>simp
 |cons _ _=>simp
theorem Bw:OpR X (binaryOp .Add) (rB X.K):=by
 intro pins s σ H x y v u Q I rx ry h;obtain⟨a,b,xs,ys,rfl,rfl,ha,hb,hx,hz,q1,q2⟩:=h;cases rx;cases ry;obtain⟨its,r1,p1,_⟩:=I.tuple ha;obtain⟨its2,r2,p2,_⟩:=I.tuple hb;refine HT.Bn p1 p2 (λz=>hx (r1.nil_iff.mp z)) (λz=>⟨.ref a,H,I,rfl,q1 (r2.nil_iff.mp z)⟩) (λz=>?_) (by rw[<- r1.length,<- r2.length];exact hz);refine⟨.ref s.heap.objs.size,_,I.laid (t':=s.toks) (o:= .tup (xs++ys)) (λb ob q=>L4 _ q) (Lp _) ?_,rfl,q2 (λw=>z (r2.nil_iff.mpr w)) _ (I.hok.fresh (Lp _))⟩;exact⟨by rw[L7];exact hz,_,r1.append r2,IsTup.new _ _⟩
end
def ixN(n:Nat)(i:Int):Option Nat:=if 0<=i then(if i < n then some i.toNat else none) else if -(n:Int)<=i then some (i+n).toNat else none
def atI(xs:List α)(i:Int):Option α:=(ixN xs.length i).bind λj=>xs[j]?
theorem rC{n:Nat}{i:Int}{j:Nat}(h:ixN n i=some j):seqIndex? i n=some j/\j < n/\ -(n:Int)<=i/\i < n:=by
 unfold ixN at h;by_cases h0:0<=i
 .rw[if_pos h0] at h;by_cases h1:i < n
  .rw[if_pos h1] at h;have e:i.toNat=j:=Mw h;exact⟨by rw[QY h0 h1,e],by omega,by omega,h1⟩
  .rw[if_neg h1] at h;cases h
 .rw[if_neg h0] at h;by_cases h1: -(n:Int)<=i
  .rw[if_pos h1] at h;have e:(i+n).toNat=j:=Mw h;exact⟨by rw[Qx (by omega) h1,e],by omega,h1,by omega⟩
  .rw[if_neg h1] at h;cases h
theorem nj{xs:List α}{i:Int}{v:α}(h:atI xs i=some v):∃j,seqIndex? i xs.length=some j/\xs[j]? = some v/\j < xs.length/\ -(xs.length:Int)<=i/\i < xs.length:=by
 unfold atI at h;cases e:ixN xs.length i with
 |none=>rw[e] at h;cases h
 |some j =>
  rw[e] at h;obtain⟨h1,h2,h3,h4⟩:=rC e;exact⟨j,h1,h,h2,h3,h4⟩
theorem eV{xs:List α}{j:Nat}{v:α}(h:xs[j]? = some v):atI xs (j:Int)=some v:=by
 have hj:j < xs.length:=(LD.mp h).1;have e:ixN xs.length (j:Int)=some j:=by
  unfold ixN;rw[if_pos (by omega),if_pos (by omega)];simp
 unfold atI;rw[e];exact h
theorem rD(xs:List α)(v:α):atI (xs++[v]) (-1)=some v:=by
 have hl:(xs++[v]).length=xs.length+1:=by simp
 have e:ixN (xs++[v]).length (-1)=some xs.length:=by
  unfold ixN;rw[hl,if_neg (by decide),if_pos (by omega)];congr 1
  omega
 unfold atI;rw[e];show(xs++[v])[xs.length]? = some v;simp
def nq(b:Expr):Prop:=∀o i,subscripted b false o i=operate [o,i] (getItem o i)
def IxR(X:Cx)(r:R2):Prop :=
 ∀(value slice:Expr) (pins:List (Addr×Obj)) (s:Shared) (σ:St) (H:Hp) (x y:V) (v u:Value) (Q:VK),Inv X pins σ H s->RelV x v->RelV y u->r x y H Q ->
  subscripted slice false v u=operate [v,u] (getItem v u)->wpAny (model X.prog X.w) X.A (subscriptTail value slice v u) (EP X pins σ Q) X.xe s
def MtR(X:Cx)(id:String)(r:V->List V->Hp->VK->Prop):Prop :=
 ∀(pins:List (Addr×Obj)) (s:Shared) (σ:St) (H:Hp) (x:V) (xs:List V) (v:Value) (us:List Value) (Q:VK),Inv X pins σ H s->RelV x v->Vals xs us->r x xs H Q ->
  wpAny (model X.prog X.w) X.A (call (.builtin id) (v::us)) (EP X pins σ Q) X.xe s
section
variable{a b:Expr}{ta tb:TE}
theorem IxR.or{r r':R2}(h:IxR X r)(h':IxR X r'):IxR X (λx y H Q=>r x y H Q\/r' x y H Q):=by
 intro value slice pins s σ H x y v u Q I rx ry q hs;rcases q with q|q
 .exact h value slice pins s σ H x y v u Q I rx ry q hs
 .exact h' value slice pins s σ H x y v u Q I rx ry q hs
theorem Bx{r:R2}(hr:IxR X r)(ha:PE X a ta)(hb:PE X b tb)(hs:nq b):PE X (.Subscript a b pos) (tOp r ta tb):=by
 intro pins s σ H Q I h;exact Rq (m5 ha hb I h λv u s2 x y H2 I2 rx ry q=>hr a b pins s2 σ H2 x y v u Q I2 rx ry q (hs _ _))
def de(K:Frag):R2:=λx y H Q=>∃p xs i v,x= .ref p/\y= .int i/\SqL K H p xs/\atI xs i=some v/\Q v H
def rE(K:Frag):R2:=λx y H Q=>∃p xs i v,x= .ref p/\y= .int i/\SqT K H p xs/\atI xs i=some v/\Q v H
def rF:R2:=λx y H Q=>∃z i c,x= .str z/\y= .int i/\z.length<=sizeLine/\atI z.cps.toList i=some c/\Q (.str ⟨#[c]⟩) H
theorem rG:IxR X (de X.K):=by
 intro value slice pins s σ H x y v u Q I rx ry h hs;obtain⟨p,xs,i,z,rfl,rfl,hq,he,q⟩:=h;cases rx;obtain⟨t,rfl⟩:=ry;obtain⟨its,r,pl,hz⟩:=I.list hq;obtain⟨j,h1,h2,h3,h4,h5⟩:=nj he;obtain⟨w,ew,rw'⟩:=r.get h2;have hl:=r.length;have hn:=g9;have fin:EP X pins σ Q w s:=⟨z,H,I,rw',q⟩;by_cases h0:0<=i
 .have hj:i.toNat=j:=by
   rw[QY h0 h5] at h1;exact Mw h1
  exact item_listR pl.isList h0 (by omega) (by rw[hj];simpa using ew) fin hs
 .have hj:(i+(its.toArray.size:Int)).toNat=j:=by
   rw[Qx (by omega) h4] at h1;rw[Lv,<- hl];exact Mw h1
  exact Pd (x:=w) pl.isList.typeIs slot_list_getitem.lookup
   (wpAny_getItem_list_neg (Q:=λr s'=>r=w/\EP X pins σ Q r s') pl.isList (by omega) (by rw[Lv]<;>omega) (by omega) (by rw[hj];simpa using ew) ⟨rfl,fin⟩) hs
theorem By:IxR X (rE X.K):=by
 intro value slice pins s σ H x y v u Q I rx ry h hs;obtain⟨p,xs,i,z,rfl,rfl,hq,he,q⟩:=h;cases rx;obtain⟨t,rfl⟩:=ry;obtain⟨its,r,pl,hz⟩:=I.tuple hq;obtain⟨j,h1,h2,h3,h4,h5⟩:=nj he;obtain⟨w,ew,rw'⟩:=r.get h2;have hl:=r.length;have hn:=g9;have fin:EP X pins σ Q w s:=⟨z,H,I,rw',q⟩;exact Pd (x:=w) pl.typeIs slot_tuple_getitem.lookup
  (getItem_tuple (j:=j) (Q:=λr s'=>r=w/\EP X pins σ Q r s') pl (by omega) (by omega) (by rw[Lv,<- hl];exact h1) (by simpa using ew) ⟨rfl,fin⟩) hs
theorem Bz:IxR X rF:=by
 intro value slice pins s σ H x y v u Q I rx ry h hs;obtain⟨z,i,c,rfl,rfl,hz,he,q⟩:=h;obtain⟨t,rfl⟩:=rx;obtain⟨t',rfl⟩:=ry;obtain⟨j,h1,h2,h3,h4,h5⟩:=nj he;have hl:z.cps.toList.length=z.length:=by simp[Str.length]
 rw[hl] at h1 h4 h5;have hn:=g9;exact tail_any (typeIs_str s z t) slot_str_getitem.lookup (getItem_str (c:=c) (by
  have e1:decide (i < -(2^63:Int))=false:=decide_eq_false (by omega);have e2:decide (i ≥ 2^63)=false:=decide_eq_false (by omega);rw[e1,e2,S8]) (by rw[h1];simpa using h2) ⟨.str ⟨#[c]⟩,H,I.tok _,⟨_,rfl⟩,q⟩) hs
def rIx(K:Frag):R2:=λx y H Q=>de K x y H Q\/rE K x y H Q\/rF x y H Q
theorem BA:IxR X (rIx X.K):=rG.or (By.or Bz)
theorem BB(its:List Value)(n j:Nat)(u:Value):Obj.mapSeq (·.setIfInBounds j u) {cls:= .type "list",data:= .seq its.toArray n}={cls:= .type "list",data:= .seq (its.set j u).toArray n}:=by
 simp[Obj.mapSeq]
theorem Inv.lst{s:Shared}{p:Addr}(I:Inv X pins σ H s)(h:H p=some (.lst xs)) :
  ∃(its:List Value) (n:Nat),Vals xs its/\s.heap.get? p=some {cls:= .type "list",data:= .seq its.toArray n}/\xs.length<=sizeLine:=by
 obtain⟨z,its,n,r,e⟩:=I.hok p _ h;exact⟨its,n,r,e,z⟩
theorem Inv.lstUpd{s:Shared}{p:Addr}{ys:List V}{its':List Value}{n n':Nat}{f:Obj->Obj}(I:Inv X pins σ H s)(h:H p=some (.lst xs))
  (ho:s.heap.get? p=some {cls:= .type "list",data:= .seq its.toArray n})(hf:f {cls:= .type "list",data:= .seq its.toArray n}={cls:= .type "list",data:= .seq its'.toArray n'})(r:Vals ys its')(hz:ys.length<=sizeLine)(t:Nat) :
  Inv X pins σ (upd H p (.lst ys)) {s with heap:=s.heap.update p f,toks:=t}:=by
 have e:(s.heap.update p f).get? p=some {cls:= .type "list",data:= .seq its'.toArray n'}:=by
  rw[Nq f ho (by rw[hf]<;>rfl),hf]
 refine I.write (x:=p) (e:=p) (by rw[h];trivial) (.inl rfl) (λb u hb q=>(Mf _ _ (Ne.symm hb)).trans q) ⟨_,e⟩ ?_;exact⟨hz,its',n',r,e⟩
def gc:V->V->V->Hp->(Hp->Prop)->Prop:=λo i v H Q=>∃p xs k j,o= .ref p/\i= .int k/\H p=some (.lst xs)/\ixN xs.length k=some j/\Q (upd H p (.lst (xs.set j v)))
theorem set_list:mV X gc:=by
 intro pins s σ H o i v ov iv u Q I ro ri rv h;obtain⟨p,xs,k,j,rfl,rfl,hp,hj,q⟩:=h;cases ro;obtain⟨t,rfl⟩:=ri;obtain⟨its,n,r,ho,hz⟩:=I.lst hp;obtain⟨h1,h2,h3,h4⟩:=rC hj;have hl:=r.length;have hn:=g9;have I':Inv X pins σ (upd H p (.lst (xs.set j v))) {s with heap:=s.heap.update p (Obj.mapSeq (·.setIfInBounds j u))} :=
  I.lstUpd hp ho (BB its n j u) (r.set rv j) (by rw[Pf];exact hz) s.toks
 by_cases h0:0<=k
 .have hk:k.toNat=j:=by
   rw[QY h0 h4] at h1;exact Mw h1
  exact PySem.W.ki_setAt ho h0 (by omega) (by rw[Lv,<- hl];exact h4) (by rw[hk];exact⟨_,I',q⟩)
 .have hk:(k+(its.toArray.size:Int)).toNat=j:=by
   rw[Qx (by omega) h3] at h1;rw[Lv,<- hl];exact Mw h1
  exact PySem.W.ki_setBack ho (by omega) (by rw[Lv,<- hl];exact h3) (by omega) (by rw[hk];exact⟨_,I',q⟩)
theorem BC(lo hi:Option Int)(n:Nat):(sliceBounds lo hi none n).1=((HT.sIx n 0 lo:Nat):Int)/\(sliceBounds lo hi none n).2.1=((HT.sIx n n hi:Nat):Int)/\(sliceBounds lo hi none n).2.2=1:=by
 refine⟨?_,?_,rfl⟩
 .cases lo with
  |none=>simp[sliceBounds,HT.sIx]
  |some i =>
   simp only[sliceBounds,HT.sIx,QE,show(1:Int) > 0 by decide,if_true];by_cases h:i < 0
   .simp only[h,if_true]<;>omega
   .simp only[h,if_false]<;>omega
 .cases hi with
  |none=>simp[sliceBounds,HT.sIx]
  |some i =>
   simp only[sliceBounds,HT.sIx,QE,show(1:Int) > 0 by decide,if_true];by_cases h:i < 0
   .simp only[h,if_true]<;>omega
   .simp only[h,if_false]<;>omega
theorem BD(its:List Value)(lo hi:Option Int):slicePick its.toArray lo hi none=((its.drop (HT.sIx its.length 0 lo)).take (HT.sIx its.length its.length hi - HT.sIx its.length 0 lo)).toArray:=by
 obtain⟨h1,h2,h3⟩:=BC lo hi its.toArray.size;unfold slicePick;rw[h1,h2,h3];simp only[sliceRange_one,pick_run,Lv]<;>rfl
def nr(K:Frag):V->Option Int->Option Int->Hp->VK->Prop:=λx lo hi H Q=>∃a xs,x= .ref a/\SqL K H a xs/\∀p,H p=none->Q (.ref p) (upd H p (.lst (cD xs lo hi)))
theorem rH:SlR X (nr X.K):=by
 intro pins s σ H x v vl vu lo hi sl Q I rx hs pl pu h;obtain⟨a,xs,rfl,hx,q⟩:=h;cases rx;obtain⟨its,r,ht,hz⟩:=I.list hx;have hlen:=r.length;refine⟨"list",_,slot_list_getitem.lookup,ht.isList.typeIs,?_⟩;refine wpAny_getItem_list_slice ht.isList hs pl pu .none (by simp) ?_ (by rw[Lv]<;>omega);rw[BD,<- hlen];refine⟨.ref s.heap.objs.size,_,I.laid (t':=s.toks) (o:= .lst (cD xs lo hi)) (λb ob q=>L4 _ q) (Lp _) ?_,rfl,q _ (I.hok.fresh (Lp _))⟩;exact⟨LU (rp xs lo hi) hz,_,0,(r.drop (HT.sIx xs.length 0 lo)).take (HT.sIx xs.length xs.length hi - HT.sIx xs.length 0 lo),LG _ rfl⟩
def dO:V->Bool
 | .non=>true
 | .bl _=>true
 | .int _=>true
 | .str _=>true
 |_=>false
def eqV:V->V->Bool
 | .non,.non=>true
 | .bl a,.bl b=>a==b
 | .bl a,.int b=>(if a then 1 else 0)==b
 | .int a,.bl b=>a==(if b then 1 else 0)
 | .int a,.int b=>a==b
 | .str a,.str b=>a==b
 |_,_=>false
theorem BE{s:Shared}{v:Value}(ry:RelV y u)(rx:RelV x v)(fy:dO y=true)(fx:dO x=true):SeqAt.EqAt A s u v (eqV y x):=by
 cases y with
 |non =>
  cases ry;cases x with
  |non=>cases rx;exact SeqAt.EqAt.same _
  |bl b=>cases rx;exact SeqAt.EqAt.none_bool b
  |int b=>obtain⟨t,rfl⟩:=rx;exact SeqAt.EqAt.none_int b t
  |str b=>obtain⟨t,rfl⟩:=rx;exact SeqAt.EqAt.none_str b t
  |_=>exact absurd (show false=true from fx) LN
 |bl a =>
  cases ry;cases x with
  |non=>cases rx;exact SeqAt.EqAt.bool_none a
  |bl b=>cases rx;exact SeqAt.EqAt.bool_bool a b
  |int b=>obtain⟨t,rfl⟩:=rx;exact SeqAt.EqAt.bool_int a b t
  |str b=>obtain⟨t,rfl⟩:=rx;exact SeqAt.EqAt.bool_str a b t
  |_=>exact absurd (show false=true from fx) LN
 |int a =>
  obtain⟨t',rfl⟩:=ry;cases x with
  |non=>cases rx;exact SeqAt.EqAt.int_none a t'
  |bl b=>cases rx;exact SeqAt.EqAt.int_bool a t' b
  |int b=>obtain⟨t,rfl⟩:=rx;exact SeqAt.EqAt.int_int a t' b t
  |str b=>obtain⟨t,rfl⟩:=rx;exact SeqAt.EqAt.int_str a t' b t
  |_=>exact absurd (show false=true from fx) LN
 |str a =>
  obtain⟨t',rfl⟩:=ry;cases x with
  |non=>cases rx;exact SeqAt.EqAt.str_none a t'
  |bl b=>cases rx;exact SeqAt.EqAt.str_bool a t' b
  |int b=>obtain⟨t,rfl⟩:=rx;exact SeqAt.EqAt.str_int a t' b t
  |str b=>obtain⟨t,rfl⟩:=rx;exact SeqAt.EqAt.str_str a t' b t
  |_=>exact absurd (show false=true from fx) LN
 |_=>exact absurd (show false=true from fy) LN
def eqU(x:V)(u:Value):Bool:=match u with
 | .none=>eqV .non x
 | .bool b=>eqV (.bl b) x
 | .int i _=>eqV (.int i) x
 | .str z _=>eqV (.str z) x
 |_=>false
theorem rJ(r:RelV y u)(f:dO y=true):eqU x u=eqV y x:=by
 cases y with
 |non=>cases r;rfl
 |bl b=>cases r;rfl
 |int i=>obtain⟨t,rfl⟩:=r;rfl
 |str z=>obtain⟨t,rfl⟩:=r;rfl
 |_=>exact absurd (show false=true from f) LN
theorem iQ{x:V}:∀{xs:List V} {us:List Value},Vals xs us->xs.all dO=true->us.any (eqU x)=xs.any λy=>eqV y x
 |_,_,.nil,_=>rfl
 |y::xs,u::us,.cons r t,f=>by
  rw[PR,M9] at f;rw[NC,NC,rJ r f.1,iQ t f.2]
theorem iR{A:Around}{s:Shared}{x:V}{v:Value}(rx:RelV x v)(fx:dO x=true):∀{xs:List V} {us:List Value},Vals xs us->xs.all dO=true->∀u∈us,SeqAt.EqAt A s u v (eqU x u)
 |_,_,.nil,_=>λu hu=>by cases hu
 |y::xs,u::us,.cons r t,f=>λu' hu=>by
  rw[PR,M9] at f;rcases Lz.mp hu with rfl|hu
  .rw[rJ r f.1];exact BE r rx f.1 fx
  .exact iR rx fx t f.2 u' hu
def inV(x:V)(xs:List V):Bool:=xs.any λy=>eqV y x
def rIn(K:Frag)(neg:Bool):R2:=λx y H Q=>∃p xs,y= .ref p/\(SqL K H p xs\/SqT K H p xs)/\dO x=true/\xs.all dO=true/\Q (.bl (if neg then !inV x xs else inV x xs)) H
theorem BF:OpR X (compareOp .In) (rIn X.K false):=by
 intro pins s σ H x y v u Q I rx ry h;obtain⟨p,xs,rfl,hq,fx,fs,q⟩:=h;cases ry;rcases hq with hq|hq
 .obtain⟨its,r,pl,hz⟩:=I.list hq;refine SeqAt.in_listAt (eqU x) pl.isList (λw hw=>iR rx fx r fs w (by simpa using hw)) ⟨.bl _,H,I,rfl,?_⟩;rw[show its.toArray.any (eqU x)=its.any (eqU x) by simp,iQ r fs];exact q
 .obtain⟨its,r,pl,hz⟩:=I.tuple hq;refine SeqAt.in_tupleAt (eqU x) pl (λw hw=>iR rx fx r fs w (by simpa using hw)) ⟨.bl _,H,I,rfl,?_⟩;rw[show its.toArray.any (eqU x)=its.any (eqU x) by simp,iQ r fs];exact q
theorem BG:OpR X (compareOp .NotIn) (rIn X.K true):=by
 intro pins s σ H x y v u Q I rx ry h;obtain⟨p,xs,rfl,hq,fx,fs,q⟩:=h;cases ry;rcases hq with hq|hq
 .obtain⟨its,r,pl,hz⟩:=I.list hq;refine SeqAt.notIn_listAt (eqU x) pl.isList (λw hw=>iR rx fx r fs w (by simpa using hw)) ⟨.bl _,H,I,rfl,?_⟩;rw[show its.toArray.any (eqU x)=its.any (eqU x) by simp,iQ r fs];exact q
 .obtain⟨its,r,pl,hz⟩:=I.tuple hq;refine SeqAt.notIn_tupleAt (eqU x) pl (λw hw=>iR rx fx r fs w (by simpa using hw)) ⟨.bl _,H,I,rfl,?_⟩;rw[show its.toArray.any (eqU x)=its.any (eqU x) by simp,iQ r fs];exact q
theorem rK:ag X (.builtin "len") (λxs H Q=>∃p ys,xs=[.ref p]/\(SqL X.K H p ys\/SqT X.K H p ys)/\Q (.int ys.length) H):=by
 intro pins s σ H xs us Q I r h;obtain⟨p,ys,rfl,hq,q⟩:=h;obtain⟨u,rfl,rx⟩:=vals1 r;cases rx;have hn:=g9;rcases hq with hq|hq
 .obtain⟨its,r',pl,hz⟩:=I.list hq;have hlen:=r'.length;exact Calls.call_len_list pl.isList (by simp only[Lv]<;>omega) ⟨.int ys.length,H,I.tok _,⟨s.toks+1,by rw[Lv,hlen]⟩,q⟩
 .obtain⟨its,r',pl,hz⟩:=I.tuple hq;have hlen:=r'.length;exact len_tuple pl (by simp only[Lv]<;>omega) ⟨.int ys.length,H,I.tok _,⟨s.toks+1,by rw[Lv,hlen]⟩,q⟩
theorem BH:ag X (.builtin "len") (λxs H Q=>∃z,xs=[.str z]/\z.length<=sizeLine/\Q (.int z.length) H):=by
 intro pins s σ H xs us Q I r h;obtain⟨z,rfl,hz,q⟩:=h;obtain⟨u,rfl,t,rfl⟩:=vals1 r;have hn:=g9;exact len_str (by omega) ⟨.int z.length,H,I.tok _,⟨_,rfl⟩,q⟩
theorem ag.or{f:Value}{r r':List V->Hp->VK->Prop}(h:ag X f r)(h':ag X f r'):ag X f (λxs H Q=>r xs H Q\/r' xs H Q):=by
 intro pins s σ H xs us Q I rs q;rcases q with q|q
 .exact h pins s σ H xs us Q I rs q
 .exact h' pins s σ H xs us Q I rs q
theorem BI:ag X (.type "list") (λxs H Q=>∃p ys,xs=[.ref p]/\(SqL X.K H p ys\/SqT X.K H p ys)/\∀l,H l=none->Q (.ref l) (upd H l (.lst ys))):=by
 intro pins s σ H xs us Q I r h;obtain⟨p,ys,rfl,hq,q⟩:=h;obtain⟨u,rfl,rx⟩:=vals1 r;cases rx;have fin:∀(its:List Value),Vals ys its->ys.length<=sizeLine->∀(h':Heap) (c':Nat),(∀b o',s.heap.get? b=some o'->h'.get? b=some o') ->
   h'.get? s.heap.objs.size=some {cls:= .type "list",dict:=none,data:= .seq its.toArray c',slots:= #[]}->EP X pins σ Q (.ref s.heap.objs.size) {s with heap:=h'}:=λits r' hz h' c' kp e =>
  ⟨.ref s.heap.objs.size,_,I.laid (t':=s.toks) kp (Lp _) (show aC X.prog X.w _ h' _ (.lst ys) from ⟨hz,its,c',r',e⟩),rfl,q _ (I.hok.fresh (Lp _))⟩
 rcases hq with hq|hq
 .obtain⟨its,r',pl,hz⟩:=I.list hq;have hlen:=r'.length;obtain⟨o,ho,hc,n,hd⟩:=pl.isList;exact Si p (.inl rfl) ho hc hd (λh' c' kp e=>fin its r' hz h' c' kp e) (by simp only[Lv]<;>omega)
 .obtain⟨its,r',pl,hz⟩:=I.tuple hq;have hlen:=r'.length;obtain⟨o,ho,hc,n,hd⟩:=pl;exact Si p (.inr rfl) ho hc hd (λh' c' kp e=>fin its r' hz h' c' kp e) (by simp only[Lv]<;>omega)
theorem BJ:ag X (.type "tuple") (λxs H Q=>∃p ys,xs=[.ref p]/\((SqL X.K H p ys/\∀l,H l=none->Q (.ref l) (upd H l (.tup ys)))\/(SqT X.K H p ys/\Q (.ref p) H))):=by
 intro pins s σ H xs us Q I r h;obtain⟨p,ys,rfl,h⟩:=h;obtain⟨u,rfl,rx⟩:=vals1 r;cases rx;rcases h with⟨hq,q⟩|⟨hq,q⟩
 .obtain⟨its,r',pl,hz⟩:=I.list hq;have hlen:=r'.length;refine call_tuple_list pl.isList (λh' kp=>?_) (by simp only[Lv]<;>omega);have I1:Inv X pins σ H {s with heap:=h'}:=I.kept (t':=s.toks) kp;have I2:Inv X pins σ (upd H h'.objs.size (.tup ys)) {s with heap:=h'.push {cls:= .type "tuple",data:= .seq its.toArray}} :=
   I1.laid (t':=s.toks) (λb o e=>L4 _ e) (Lp _) (show aC X.prog X.w _ _ _ (.tup ys) from ⟨hz,its,r',IsTup.new _ _⟩)
  exact⟨.ref h'.objs.size,_,I2,rfl,q _ (I1.hok.fresh (Lp _))⟩
 .obtain⟨its,r',pl,hz⟩:=I.tuple hq;exact call_tuple_same pl ⟨.ref p,H,I,rfl,q⟩
def tyV(K:Frag)(T:String)(x:V)(H:Hp):Prop:=match x with
 | .str _=>T="str"
 | .int _=>T="int"
 | .ref p=>(T="list"/\∃xs,SqL K H p xs)\/(T="tuple"/\∃o,K.lookup p=some o/\o.cls= .type "tuple"/\o.dict=none) \/
   (T="dict"/\((∃kvs,H p=some (.dK kvs))\/∃kvs,H p=some (.dT kvs)))\/(T="set"/\∃S n,H p=some (.set S n))
 |_=>False
theorem BK{s:Shared}{v:Value}(I:Inv X pins σ H s)(r:RelV x v)(ty:tyV X.K T x H) :
  s.TypeIs v T/\∀a,v= .ref a->∃ob,s.heap.get? a=some ob/\ob.dict=none:=by
 cases x with
 |str z =>
  obtain⟨t,rfl⟩:=r;cases (show T="str" from ty);exact⟨typeIs_str s z t,λ_ e=>nomatch e⟩
 |int i =>
  obtain⟨t,rfl⟩:=r;cases (show T="int" from ty);exact⟨Rr s i t,λ_ e=>nomatch e⟩
 |ref p =>
  cases r;rcases ty with⟨rfl,xs,hq⟩|⟨rfl,o,hk,hc,hd⟩|⟨rfl,hk⟩|⟨rfl,S,n,hk⟩
  .obtain⟨its,_,pl,_⟩:=I.list hq;refine⟨pl.isList.typeIs,λa e=>?_⟩;cases e;obtain⟨o,n,e,c,hd,_⟩:=pl;exact⟨o,e,hd⟩
  .refine⟨⟨o,I.kIn p o hk,hc⟩,λa e=>?_⟩;cases e;exact⟨o,I.kIn _ o hk,hd⟩
  .have z:∃o,s.heap.get? p=some o/\o.ExactDict:=by
    rcases hk with⟨kvs,hk⟩|⟨kvs,hk⟩
    .obtain⟨_,_,_,_,o,_,_,e,ex,_⟩:=I.hok p _ hk;exact⟨o,e,ex⟩
    .obtain⟨_,_,_,_,o,_,_,e,ex,_⟩:=I.hok p _ hk;exact⟨o,e,ex⟩
   obtain⟨o,e,ex⟩:=z;refine⟨⟨o,e,ex.1⟩,λa e2=>?_⟩;cases e2;exact⟨o,e,ex.2.1⟩
  .obtain⟨o,_,_,_,e,ex,_⟩:=I.hok p _ hk;refine⟨⟨o,e,ex.1⟩,λa e2=>?_⟩;cases e2;exact⟨o,e,ex.2.1⟩
 |_=>exact False.elim ty
def tBM(K:Frag)(T:String)(r:V->List V->Hp->VK->Prop)(to:TE)(t:TA):TE:=λσ H Q=>to σ H λx H1=>tyV K T x H1/\t σ H1 λxs H2=>r x xs H2 Q
variable{o:Expr}{es:List Expr}{to:TE}{t:TA}{name:Str}{apos cpos:Pos}{id:String}{r:V->List V->Hp->VK->Prop}
theorem BL(pa:PlainAttrs T)(slot:Slot T name id)(hty:typeOf (.builtin id)=pure (.type "method_descriptor"))(hm:MtR X id r)(ho:PE X o to)(ha:PA X (e::es) t)
  (hbase:attributeBase o name X.env (eval o X.env)=eval o X.env:=by rfl)
  (hfew:((backTo cpos (starEach (e::es) X.env)).all (λx=> !x.1)&&(backToKw cpos (keywordEach [] X.env)).all (λx=>x.1.isSome)
   && decide ((e::es).length+([]:List Keyword).length+(if ([]:List Keyword).isEmpty then 0 else 1) < 30))=true:=by rfl)
  (hline:(apos.endLine==cpos.line)=true:=by rfl) (hs:starEach (e::es) X.env=(false,eval e X.env)::starEach es X.env:=by rfl) (hplain:(backTo cpos (starEach es X.env)).any (·.1)=false:=by rfl) :
  PE X (.Call (.Attribute o name apos) (e::es) [] cpos) (tBM X.K T r to t):=by
 intro pins s σ H Q I h;refine wpAny_Call_method_late hbase hfew hline rfl (thn (ho pins s σ H _ I h) λv s1 ⟨x,H1,I1,r1,ty,q1⟩=>?_);obtain⟨h1,h2⟩:=BK I1 r1 ty;refine⟨T,id,pa,slot,hty,h1,h2,?_⟩;have hA:=ha cpos pins s1 σ H1 _ I1 q1;rw[hs] at hA ⊢;refine Calls.callWith_builtin (by show(false||(backTo cpos (starEach es X.env)).any (·.1))=false;rw[hplain]<;>rfl) (Calls.evalArgs_plain ?_);exact thn hA λus s2 ⟨vs,H2,I2,r2,q2⟩=>hm pins s2 σ H2 x vs v us Q I2 r1 r2 q2
end
def MtM(X:Cx)(id:String)(r:V->List V->Hp->VK->Prop):Prop :=
 ∀(pins:List (Addr×Obj)) (s:Shared) (σ:St) (H:Hp) (x:V) (xs:List V) (v:Value) (us:List Value) (Q:VK),Inv X pins σ H s->RelV x v->Vals xs us->r x xs H Q ->
  wpAny (model X.prog X.w) X.A (call (.builtin id) (v::us)) (EP X pins σ Q) X.xe s
theorem Vals.one:∀{x:V} {us:List Value},Vals [x] us->∃u,us=[u]/\RelV x u
 |_,_,.cons r .nil=>⟨_,rfl,r⟩
theorem Vals.rep{us:List Value}(h:Vals xs us):∀k:Nat,Vals (LB k xs).flatten (LB k us).flatten
 |0=> .nil
 |k+1=>by
  rw[MK,MK,MX,MX];exact Vals.append h (Vals.rep h k)
theorem foldl_rep(its:List Value):∀(k:Nat) (acc:List Value),
  Re (λx1 x2=>x1++x2) acc.toArray (LB k its.toArray)=(acc++(LB k its).flatten).toArray
 |0,acc=>by simp
 |k+1,acc=>by
  have e:acc.toArray++its.toArray=(acc++its).toArray:=by simp
  have e2:(acc++its)++(LB k its).flatten=acc++(LB (k+1) its).flatten:=by
   rw[MK,MX,LO]
  rw[<- e2,<- foldl_rep its k (acc++its),<- e,MK,O5]
section
variable{s:Shared}{l b:Addr}{ys zs:List V}
theorem Inv.lset{its':List Value}{n:Nat}{f:Array Value->Array Value}(I:Inv X pins σ H s)(hH:H l=some (.lst xs))
  (e:s.heap.get? l=some {cls:= .type "list",data:= .seq its.toArray n})(hf:f its.toArray=its'.toArray)(hv:Vals ys its')(hz:ys.length<=sizeLine) :
  Inv X pins σ (upd H l (.lst ys)) {s with heap:=s.heap.update l (Obj.mapSeq f),toks:=t'}:=by
 have q:=SQ e f;rw[hf] at q;refine I.write (x:=l) (e:=l) (by rw[hH];exact trivial) (.inl rfl) (λb' u hb hu=>(Mf s.heap (Obj.mapSeq f) (Ne.symm hb)).trans hu) ⟨_,q⟩ ?_;exact⟨hz,its',_,hv,q⟩
theorem Inv.lnew(I:Inv X pins σ H s)(hv:Vals ys its)(hz:ys.length<=sizeLine) :
  Inv X pins σ (upd H s.heap.objs.size (.lst ys)) {s with heap:=s.heap.push {cls:= .type "list",data:= .seq its.toArray},toks:=t'} :=
 I.laid (λ_ _ q=>L4 _ q) (Lp _) ⟨hz,its,0,hv,LG _ rfl⟩
theorem Inv.fresh(I:Inv X pins σ H s):H s.heap.objs.size=none:=I.hok.fresh (Lp _)
theorem Inv.lstM(I:Inv X pins σ H s)(hH:H l=some (.lst xs)):xs.length<=sizeLine/\∃(its:List Value) (n:Nat),Vals xs its/\xs.length=its.length/\s.heap.get? l=some {cls:= .type "list",data:= .seq its.toArray n}:=by
 obtain⟨z,its,n,r,e⟩:=I.hok l _ hH;exact⟨z,its,n,r,r.length,e⟩
theorem BM{n:Nat}(h:n<=sizeLine):O1 n=false:=by
 unfold O1;exact decide_eq_false (by omega)
end
section
def rL:V->List V->Hp->VK->Prop:=λx vs H Q=>∃l xs y,x= .ref l/\vs=[y]/\H l=some (.lst xs)/\xs.length < sizeLine/\Q .non (upd H l (.lst (xs++[y])))
theorem zR:MtM X "list.append" rL:=by
 intro pins s σ H x vs v us Q I rx rv h;obtain⟨l,xs,y,rfl,rfl,hH,hz,q⟩:=h;cases rx;obtain⟨u,rfl,ru⟩:=rv.one;obtain⟨z,its,n,r,hl,e⟩:=I.lstM hH;refine Rs F.slot_list_append ⟨_,e,rfl⟩ F.entry_list_append (F.args_list_append_2 _ _) (PySem.list_append l its.toArray n u (by rw[Lv];omega)) ⟨e,?_⟩;refine⟨.non,_,I.lset (its':=its++[u]) hH e (by simp) (r.append (.cons ru .nil)) ?_,rfl,q⟩;rw[L7,Om];omega
def rM:R2:=λx y H Q=>∃l b xs zs,x= .ref l/\y= .ref b/\H l=some (.lst xs)/\H b=some (.lst zs)/\xs.length+zs.length<=sizeLine/\∀p,H p=none->Q (.ref p) (upd H p (.lst (xs++zs)))
theorem BN:OpR X (binaryOp .Add) rM:=by
 intro pins s σ H x y v u Q I rx ry h;obtain⟨l,b,xs,zs,rfl,rfl,hH,hB,hz,q⟩:=h;cases rx;cases ry;obtain⟨z,its,n,r,hl,e⟩:=I.lstM hH;obtain⟨z2,its2,n2,r2,hl2,e2⟩:=I.lstM hB;refine PySem.P.add_list e e2 ?_ (by rw[Lv,Lv];omega);have ea:its.toArray++its2.toArray=(its++its2).toArray:=by simp
 rw[ea];exact⟨.ref _,_,I.lnew (t':=s.toks) (r.append r2) (by rw[L7];omega),rfl,q _ I.fresh⟩
def rN:R2:=λx y H Q=>∃l k xs,x= .ref l/\y= .int k/\H l=some (.lst xs)/\ -(2^63)<=k/\k < 2^63/\xs.length*k.toNat<=sizeLine /\
 ∀p,H p=none->Q (.ref p) (upd H p (.lst (LB k.toNat xs).flatten))
theorem len_rep(xs:List α)(k:Nat):(LB k xs).flatten.length=k*xs.length:=by
 induction k with
 |zero=>simp
 |succ k ih=>rw[MK,MX,L7,ih,Nat.succ_mul,Nat.add_comm]
theorem BO:OpR X (binaryOp .Mult) rN:=by
 intro pins s σ H x y v u Q I rx ry h;obtain⟨l,k,xs,rfl,rfl,hH,h1,h2,hz,q⟩:=h;cases rx;obtain⟨t,rfl⟩:=ry;obtain⟨z,its,n,r,hl,e⟩:=I.lstM hH;have hlen:its.toArray.size*k.toNat<=sizeLine:=by rw[Lv,<- hl];exact hz
 have hcap:¬ its.toArray.size*k.toNat > (2^63 - 1) / 8:=by
  have:(sizeLine:Nat)<=(2^63 - 1) / 8:=by decide
  omega
 have hfit:¬ (!Rf k)=true:=by
  rw[fitsIndex_both h1 h2];exact LN
 have hlong:¬ O1 (its.toArray.size*k.toNat)=true:=by
  rw[BM hlen];exact LN
 have hnew:Re (λx1 x2=>x1++x2) #[] (LB (if its.toArray.isEmpty=true then 0 else k.toNat) its.toArray)=(LB k.toNat its).flatten.toArray:=by
  have f0:∀m:Nat,Re (λx1 x2=>x1++x2) #[] (LB m its.toArray)=(LB m its).flatten.toArray:=λm=>by
   have:=foldl_rep its m [];rw[Nu] at this;exact this
  rw[f0];cases its with
  |nil=>simp
  |cons a r'=>rw[if_neg (by simp)]
 refine wpAny_binaryOp_repeat_ref (T:="list") (U:="int") (by decide) ⟨_,e,rfl⟩ (λs'=>Rr s' k t) noFill_list_mul F.fills_int_mul F.slot_int_rmul repeat_list F.slot_int_index.lookup
  (Rs F.slot_int_rmul (Rr s k t) F.entry_int_rmul (F.args_int_rmul_2 _ _) (int___rmul___int_list k t l its.toArray n)
   ⟨e,rfl,⟨_,e,rfl⟩,Rs F.slot_list_mul ⟨_,e,rfl⟩ F.entry_list_mul (F.args_list_mul_2 _ _) (AutoListH.list___mul___list_int_3 l its.toArray n k t hfit hcap hlong) ⟨e,?_⟩⟩)
 rw[hnew];exact⟨.ref _,_,I.lnew (t':=s.toks) (r.rep k.toNat) (by rw[len_rep,Nat.mul_comm];exact hz),rfl,q _ I.fresh⟩
end
section
variable{prog:Program}{s:Shared}
end
section
end
section
variable{κ:Type}[DecidableEq κ]
def bH(kvs:List (κ×V))(k:κ):Option V:=(kvs.find? λkv=>decide (kv.1=k)).map (·.2)
def putK(kvs:List (κ×V))(k:κ)(v:V):List (κ×V) :=
 if (kvs.any λkv=>decide (kv.1=k))=true then kvs.map (λkv=>if kv.1=k then(kv.1,v) else kv) else kvs++[(k,v)]
def gf(kvs:List (κ×V))(k:κ):List (κ×V):=kvs.filter λkv=>decide (kv.1≠k)
theorem j9{p:κ×V}{r:List (κ×V)}{k:κ}(e:p.1=k):bH (p::r) k=some p.2:=by simp[bH,NJ,e]
theorem j_{p:κ×V}{r:List (κ×V)}{k:κ}(e:¬ p.1=k):bH (p::r) k=bH r k:=by simp[bH,NJ,e]
theorem rO(k:κ):∀kvs:List (κ×V),(kvs.any λkv=>decide (kv.1=k))=(bH kvs k).isSome
 | []=>rfl
 |p::r=>by
  rw[NC];by_cases e:p.1=k
  .simp only[j9 e,decide_eq_true e,Bool.true_or,NH]
  .rw[j_ e,decide_eq_false e,Bool.false_or];exact rO k r
theorem rP(kvs:List (κ×V))(k:κ)(v:V):(putK kvs k v).length<=kvs.length+1:=by
 unfold putK;split
 .rw[L1];omega
 .rw[L7,LF,Ov];omega
theorem bP.isSome_eq{u:Option Value}(r:bP o u):o.isSome=u.isSome:=by
 cases o with
 |none=>cases u with
  |none=>rfl
  |some _=>exact(show False from r).elim
 |some _=>cases u with
  |none=>exact(show False from r).elim
  |some _=>rfl
theorem KV.val{kvs:List (κ×V)}{vs:List (κ×Value)}(r:KV kvs vs)(k:κ):bP (bH kvs k) (valueAt vs k):=by
 unfold KV at r;induction r with
 |nil=>exact True.intro
 |@cons p q ps qs h t ih =>
  obtain⟨h1,h2⟩:=h;by_cases e:p.1=k
  .have e':q.1=k:=h1.symm.trans e;have b:valueAt (q::qs) k=some q.2:=by simp[valueAt,NJ,e']
   rw[j9 e,b];exact h2
  .have e':¬ q.1=k:=λz=>e (h1.trans z)
   have b:valueAt (q::qs) k=valueAt qs k:=by simp[valueAt,NJ,e']
   rw[j_ e,b];exact ih
theorem KV.any{kvs:List (κ×V)}{vs:List (κ×Value)}(r:KV kvs vs)(k:κ):(kvs.any λkv=>decide (kv.1=k))=vs.any λkv=>decide (kv.1=k):=by
 unfold KV at r;induction r with
 |nil=>rfl
 |cons h t ih=>rw[NC,NC,ih,h.1]
theorem KV.repl{kvs:List (κ×V)}{vs:List (κ×Value)}(r:KV kvs vs)(k:κ)(ry:RelV y u) :
  KV (kvs.map λkv=>if kv.1=k then(kv.1,y) else kv) (vs.map λkv=>if kv.1=k then(kv.1,u) else kv):=by
 unfold KV at r ⊢;induction r with
 |nil=>exact .nil
 |@cons p q ps qs h t ih =>
  rw[LV,LV];refine .cons ?_ ih;obtain⟨h1,h2⟩:=h;by_cases e:p.1=k
  .rw[if_pos e,if_pos (h1.symm.trans e)];exact⟨h1,ry⟩
  .rw[if_neg e,if_neg (λz=>e (h1.trans z))];exact⟨h1,h2⟩
theorem KV.put{kvs:List (κ×V)}{vs:List (κ×Value)}(r:KV kvs vs)(k:κ)(ry:RelV y u):KV (putK kvs k y) (stored vs k u):=by
 unfold putK stored;rw[r.any k];by_cases e:(vs.any λkv=>decide (kv.1=k))=true
 .rw[if_pos e,if_pos e];exact r.repl k ry
 .rw[if_neg e,if_neg e];exact Paired.snoc r ⟨rfl,ry⟩
theorem KV.drop{kvs:List (κ×V)}{vs:List (κ×Value)}(r:KV kvs vs)(k:κ):KV (gf kvs k) (without vs k):=by
 unfold KV at r ⊢;unfold gf without;induction r with
 |nil=>exact .nil
 |@cons p q ps qs h t ih =>
  obtain⟨h1,h2⟩:=h;rw[M7,M7];by_cases e:p.1=k
  .have a:¬ decide (p.1≠k)=true:=by simp[e]
   have b:¬ decide (q.1≠k)=true:=by simp[h1.symm.trans e]
   rw[if_neg a,if_neg b];exact ih
  .have e':¬ q.1=k:=λz=>e (h1.trans z)
   have a:decide (p.1≠k)=true:=by simp[e]
   have b:decide (q.1≠k)=true:=by simp[e']
   rw[if_pos a,if_pos b];exact .cons ⟨h1,h2⟩ ih
theorem KV.length{kvs:List (κ×V)}{vs:List (κ×Value)}(r:KV kvs vs):kvs.length=vs.length:=Paired.length r
theorem BP(kvs:List (κ×V))(k:κ):(gf kvs k).length<=kvs.length:=MO _ _
end
theorem hG{k:Key}(r:RelV (kV k) u):(ce P w).is k u=true:=by
 cases k with
 |inl i=>obtain⟨t,e⟩:=(show ∃t,u=OC i t from r);subst e;exact z_ P w i t
 |inr x=>obtain⟨t,e⟩:=(show ∃t,u=MW x t from r);subst e;exact Aa P w x t
theorem rQ{P:Program}{w:World}:∀{ks:List Key} {us:List Value},Vals (ks.map kV) us->ItemsAre (ce P w) ks us
 | [],_,r=>by rw[P8] at r;cases r;exact .nil
 |k::ks,_,r=>by
  rw[LV] at r;cases r with
  |cons h t=>exact .cons (hG h) (rQ t)
abbrev KT(H:Hp):List (List Key×V)->List (List Key×Addr×Value)->Prop:=Paired λp q=>p.1=q.1/\H q.2.1=some (.tup (p.1.map kV))/\RelV p.2 q.2.2
theorem KT.val{kvs:List (List Key×V)}{xs:List (List Key×Addr×Value)}(r:KT H kvs xs)(k:List Key):bP (bH kvs k) ((atKey xs k).map (·.2)):=by
 induction r with
 |nil=>exact True.intro
 |@cons p q ps qs h t ih =>
  obtain⟨h1,_,h2⟩:=h;by_cases e:p.1=k
  .have e':q.1=k:=h1.symm.trans e;have b:atKey (q::qs) k=some q.2:=by simp[atKey,NJ,e']
   rw[j9 e,b];exact h2
  .have e':¬ q.1=k:=λz=>e (h1.trans z)
   have b:atKey (q::qs) k=atKey qs k:=by simp[atKey,NJ,e']
   rw[j_ e,b];exact ih
theorem KT.repl{kvs:List (List Key×V)}{xs:List (List Key×Addr×Value)}(r:KT H kvs xs)(k:List Key)(ry:RelV y u) :
  KT H (kvs.map λkv=>if kv.1=k then(kv.1,y) else kv) (xs.map (putAt k u)):=by
 induction r with
 |nil=>exact .nil
 |@cons p q ps qs h t ih =>
  rw[LV,LV];refine .cons ?_ ih;obtain⟨h1,h2,h3⟩:=h;unfold putAt;by_cases e:p.1=k
  .rw[if_pos e,if_pos (h1.symm.trans e)];exact⟨h1,h2,ry⟩
  .rw[if_neg e,if_neg (λz=>e (h1.trans z))];exact⟨h1,h2,h3⟩
theorem KT.put{kvs:List (List Key×V)}{xs:List (List Key×Addr×Value)}(r:KT H kvs xs)(k:List Key){b:Addr}(hb:H b=some (.tup (k.map kV)))(ry:RelV y u) :
  KT H (putK kvs k y) (storedH xs k b u):=by
 have e:(kvs.any λkv=>decide (kv.1=k))=(atKey xs k).isSome:=by
  rw[rO,(r.val k).isSome_eq,OL]
 unfold putK storedH;rw[e];by_cases q:(atKey xs k).isSome=true
 .rw[if_pos q,if_pos q];exact r.repl k ry
 .rw[if_neg q,if_neg q];exact Paired.snoc r ⟨rfl,hb,ry⟩
theorem KT.keeps{kvs:List (List Key×V)}{xs:List (List Key×Addr×Value)}(r:KT H kvs xs)(ht:∀b ys,H b=some (.tup ys)->H' b=some (.tup ys)):KT H' kvs xs :=
 Paired.mapP r λ_ _ z=>⟨z.1,ht _ _ z.2.1,z.2.2⟩
section
variable{h:Heap}
theorem rR{u:HO}(ok:HOk P w H h)(e:Rd H a u):aC P w H h a u:=e.ok ok
theorem gg{kvs:List (Key×V)}(ok:HOk P w H h)(e:Rd H a (.dK kvs)):kvs.length<=sizeLine/\(a==sysModules)=false/\∃vs,KV kvs vs/\h.DictOf (ce P w) a vs :=
 show aC P w H h a (.dK kvs) from rR ok e
theorem rS{kvs:List (Key×V)}(ok:HOk P w H h)(e:H a=some (.dK kvs)):kvs.length<=sizeLine/\(a==sysModules)=false/\∃vs,KV kvs vs/\h.DictOf (ce P w) a vs:=gg ok (.inl e)
theorem iS{ks:List Key}(ok:HOk P w H h)(e:H a=some (.tup (ks.map kV))):(tupleKind (ce P w)).is h ks a:=by
 obtain⟨_,its,r,o,h1,h2,n,h3⟩:=(show aC P w H h a (.tup (ks.map kV)) from ok a _ e);exact⟨o,its.toArray,n,h1,h2,h3,by simpa using rQ r⟩
theorem iT{kvs:List (List Key×V)}(ok:HOk P w H h)(e:Rd H a (.dT kvs)):kvs.length<=sizeLine/\(a==sysModules)=false /\
  ∃xs,KT H kvs xs/\h.DictOfH (tupleKind (ce P w)) a xs:=by
 obtain⟨z,y,xs,r,o,es,ep,h1,h2,h3,h4,h5⟩:=(show aC P w H h a (.dT kvs) from rR ok e);refine⟨z,y,xs,r,o,es,ep,h1,h2,h3,h4,λx hx=>?_,h5⟩;have all:∀{l:List (List Key×V)} {m:List (List Key×Addr×Value)},KT H l m->∀x∈m,(tupleKind (ce P w)).is h x.1 x.2.1:=by
  intro l m q;induction q with
  |nil=>intro x hx;exact nomatch hx
  |@cons p q ps qs hq t ih =>
   intro x hx;rcases Lz.mp hx with e|hx
   .subst e;exact iS ok (by rw[<- hq.1];exact hq.2.1)
   .exact ih x hx
 exact all r x hx
theorem BQ{kvs:List (List Key×V)}(ok:HOk P w H h)(e:H a=some (.dT kvs)):kvs.length<=sizeLine/\(a==sysModules)=false /\
  ∃xs,KT H kvs xs/\h.DictOfH (tupleKind (ce P w)) a xs:=iT ok (.inl e)
end
def cW(H:Hp)(a:Addr)(y:V)(r:Option V):Prop :=
 (∃kvs k,Rd H a (.dK kvs)/\y=kV k/\r=bH kvs k)\/∃kvs k b,Rd H a (.dT kvs)/\y= .ref b/\H b=some (.tup (k.map kV))/\r=bH kvs k
def iU(H:Hp)(a:Addr)(y v:V)(H':Hp):Prop :=
 (∃kvs k,H a=some (.dK kvs)/\y=kV k/\kvs.length < sizeLine/\H'=upd H a (.dK (putK kvs k v))) \/
 ∃kvs k b,H a=some (.dT kvs)/\y= .ref b/\H b=some (.tup (k.map kV))/\kvs.length < sizeLine/\H'=upd H a (.dT (putK kvs k v))
theorem iU.k{H:Hp}{a:Addr}{kvs:List (Key×V)}{k:Key}{v:V}(e:H a=some (.dK kvs))(hl:kvs.length < sizeLine):iU H a (kV k) v (upd H a (.dK (putK kvs k v))):= .inl ⟨kvs,k,e,rfl,hl,rfl⟩
section
variable{s:Shared}{v:V}{r:Value}
theorem Inv.big(I:Inv X pins σ H s):sysModules < s.heap.objs.size:=by
 have h:mainGlobals < s.heap.objs.size:=(I.mod.glob.keeps I.bk).lt;exact Sr (by decide) h
theorem BR(hu:A.units+1 < cLine)(I:Inv X pins σ H s)(g:cW H a y (some v))(ry:RelV y u)(h:∀w' s',Inv X pins σ H s'->RelV v w'->Q w' s') :
  wpAny (model X.prog X.w) A (getItem (.ref a) u) Q E s:=by
 rcases g with⟨kvs,k,e,ey,l⟩|⟨kvs,k,b,e,ey,eb,l⟩
 .subst ey;obtain⟨z,hd,vs,rel,dd⟩:=gg I.hok e;obtain⟨w',hw,rw'⟩:=bP.some_of (v:=v) (o:=valueAt vs k) (by rw[l];exact rel.val k);exact wpAny_getItem_of (hG ry) dd.mapOf hw (h w' _ (I.tok _) rw')
 .subst ey;cases (show u=LH b from ry);obtain⟨z,hd,xs,rel,dd⟩:=iT I.hok e;obtain⟨w',hw,rw'⟩:=bP.some_of (v:=v) (o:=(atKey xs k).map (·.2)) (by rw[l];exact rel.val k);obtain⟨p,hp,hp2⟩:=LM.mp hw;refine wpAny_getItem_heap (Oa hu) (iS I.hok eb) dd hp ?_;rw[hp2];exact h w' _ (I.tok _) rw'
theorem BS(hu:A.units+1 < cLine)(I:Inv X pins σ H s)(g:cW H a y o)(ry:RelV y u)(h:∀s',Inv X pins σ H s'->Q (.bool o.isSome) s') :
  wpAny (model X.prog X.w) A (compareOp .In u (.ref a)) Q E s:=by
 rcases g with⟨kvs,k,e,ey,l⟩|⟨kvs,k,b,e,ey,eb,l⟩
 .subst ey;obtain⟨z,hd,vs,rel,dd⟩:=gg I.hok e;refine wpAny_in_of (hG ry) hd dd.mapOf ?_;rw[<- (rel.val k).isSome_eq,<- l];exact h _ (I.tok _)
 .subst ey;cases (show u=LH b from ry);obtain⟨z,hd,xs,rel,dd⟩:=iT I.hok e;refine wpAny_in_heap (Oa hu) (iS I.hok eb) hd dd ?_;have q:=(rel.val k).isSome_eq;rw[OL] at q;rw[<- q,<- l];exact h _ (I.tok _)
theorem BU(hu:A.units+1 < cLine)(I:Inv X pins σ H s)(g:cW H a y o)(ry:RelV y u)(h:∀s',Inv X pins σ H s'->Q (.bool (!o.isSome)) s') :
  wpAny (model X.prog X.w) A (compareOp .NotIn u (.ref a)) Q E s:=by
 rcases g with⟨kvs,k,e,ey,l⟩|⟨kvs,k,b,e,ey,eb,l⟩
 .subst ey;obtain⟨z,hd,vs,rel,dd⟩:=gg I.hok e;refine wpAny_notIn_of (hG ry) hd dd.mapOf ?_;rw[<- (rel.val k).isSome_eq,<- l];exact h _ (I.tok _)
 .subst ey;cases (show u=LH b from ry);obtain⟨z,hd,xs,rel,dd⟩:=iT I.hok e;refine wpAny_notIn_heap (Oa hu) (iS I.hok eb) hd dd ?_;have q:=(rel.val k).isSome_eq;rw[OL] at q;rw[<- q,<- l];exact h _ (I.tok _)
theorem nt{h':Heap}{ob:HO}(I:Inv X pins σ H s)(mu:Mut (H a))(hs:NS a s.heap h')(he:∃q,h'.get? a=some q)(new:aC X.prog X.w (upd H a ob) h' a ob) :
  Inv X pins σ (upd H a ob) {s with heap:=h',toks:=t'} :=
 I.write (x:=a) (e:=a) mu (.inl rfl) (λb q hb z=>(hs.2 b hb).trans z) he new
theorem rT{h':Heap}{kvs:List (Key×V)}{vs:List (Key×Value)}(z:kvs.length<=sizeLine)(hd:(a==sysModules)=false)(rel:KV kvs vs)(dd:h'.DictOf (ce P w) a vs) :
  aC P w H' h' a (.dK kvs):=⟨z,hd,vs,rel,dd⟩
theorem BV{Q:Unit->Shared->Prop}(hu:A.units+1 < cLine)(I:Inv X pins σ H s)(g:iU H a y v H')(ry:RelV y u)(rv:RelV v r)(h:∀s',Inv X pins σ H' s'->Q () s') :
  wpAny (model X.prog X.w) A (setItem (.ref a) u r) Q E s:=by
 rcases g with⟨kvs,k,e,ey,l,eH⟩|⟨kvs,k,b,e,ey,eb,l,eH⟩
 .subst ey eH;obtain⟨z,hd,vs,rel,dd⟩:=rS I.hok e;have hz:vs.length<=sizeLine:=by rw[<- rel.length];exact z
  have hl:(putK kvs k v).length<=sizeLine:=by have:=rP kvs k v;omega
  refine wpAny_setItem_pairs (hsz:=hz) (hG ry) dd λh' dd' hs=>h _ ?_
  have he:∃q,h'.get? a=some q:=let ⟨q,_,_,hq,_⟩:=dd';⟨q,hq⟩;exact nt I (by rw[e];exact True.intro) hs he (rT hl hd (rel.put k rv) dd')
 .subst ey eH;cases (show u=LH b from ry);obtain⟨z,hd,xs,rel,dd⟩:=BQ I.hok e;have hz:xs.length<=sizeLine:=by rw[<- Paired.length rel];exact z
  have hl:(putK kvs k v).length<=sizeLine:=by have:=rP kvs k v;omega
  refine wpAny_setItem_heap (hsz:=hz) (Oa hu) (iS I.hok eb) dd λh' dd' hs=>h _ ?_
  obtain⟨q,es,ep,hq,h2,h3,h4,_,h5⟩:=dd';refine nt I (by rw[e];exact True.intro) hs ⟨q,hq⟩ ⟨hl,hd,_,(rel.put k eb rv).keeps λc ys ec=>?_,q,es,ep,hq,h2,h3,h4,h5⟩;rw[zN (Ac ec e (λz=>nomatch z))];exact ec
end
section
variable{s:Shared}{kvs:List (Key×V)}{k:Key}
theorem BW{Q:Unit->Shared->Prop}(I:Inv X pins σ H s)(e:H a=some (.dK kvs))(ry:RelV (kV k) u)(l:(bH kvs k).isSome=true)(h:∀s',Inv X pins σ (upd H a (.dK (gf kvs k))) s'->Q () s') :
  wpAny (model X.prog X.w) A (delItem (.ref a) u) Q E s:=by
 obtain⟨z,hd,vs,rel,dd⟩:=rS I.hok e;refine wpAny_delItem_slot dd.typeIs (by decide) OI
  (call_meetsIn OI dd.typeIs PySem.F.entry_dict_delitem (PySem.F.args_dict_delitem_2 _ _) (meets_dict_delitem_pairs (ce X.prog X.w) a (hG ry)) ⟨vs,dd,by rw[<- rel.length];exact z,by rw[<- (rel.val k).isSome_eq];exact l,λh' dd' hs=>h _ ?_⟩)
 have he:∃q,h'.get? a=some q:=let ⟨q,_,_,hq,_⟩:=dd';⟨q,hq⟩;exact nt I (by rw[e];exact True.intro) hs he (rT (LU (BP kvs k) z) hd (rel.drop k) dd')
theorem BX(I:Inv X pins σ H s)(e:Rd H a (.dK kvs))(h:∀t s',Inv X pins σ H s'->Q (.int kvs.length t) s'):wpAny (model X.prog X.w) A (call (.builtin "len") [.ref a]) Q E s:=by
 obtain⟨z,hd,vs,rel,dd⟩:=gg I.hok e;refine call_len_dict hd dd (by rw[<- rel.length];rw[MV] at z;omega) ?_;rw[<- rel.length];exact h _ _ (I.tok _)
end
def nu(i:Expr):Prop:=∀ov iv,subscripted i false ov iv=operate [ov,iv] (getItem ov iv)
theorem BY{prog:Program}{s:Shared}{env:Env}{value slice:Expr}{id:String}
  (hl:typeLookup (.type T) "__getitem__"=pure (some (.builtin id)))(hs:nu slice)
  (h:wpAny (model prog w) A (eval value env) (λo s₁=>wpAny (model prog w) A (eval slice env) (λi s₂=>s₂.TypeIs o T/\wpAny (model prog w) A (getItem o i) Q E s₂) E s₁) E s) :
  wpAny (model prog w) A (eval (.Subscript value slice pos) env) Q E s:=by
 refine Rq (Ma h (λo s₁ h₁=>Ma h₁ (λi s₂ h₂=>?_) λ_ _ x=>x) λ_ _ x=>x);obtain⟨hT,h₂⟩:=h₂;unfold subscriptTail;refine L0 ?_;rw[getitemInPython_of_ne hT.not_modules];refine L0 (Pk hT hl ?_);have fin:wpAny (model prog w) A (subscripted slice false o i) (λr s₃=>wpAny (model prog w) A (letTemporaryGo value o r >>= λ_=>pure r) Q E s₃) E s₂:=by
  rw[hs o i];exact wpAny_operating (Ma h₂ (λr s₃ h₃=>L0 (wpAny_letTemporaryGo (L6 h₃))) λ_ _ x=>x)
 first
  |exact L6 (L0 fin)
  |exact L0 (L6 (L0 fin))
  |exact L0 fin
theorem BZ{s:Shared}(I:Inv X pins σ H s)(g:cW H a y o):s.TypeIs (.ref a) "dict":=by
 rcases g with⟨kvs,k,e,_,_⟩|⟨kvs,k,b,e,_,_,_⟩
 .obtain⟨_,_,vs,_,dd⟩:=gg I.hok e;exact dd.typeIs
 .obtain⟨_,_,xs,_,dd⟩:=iT I.hok e;exact dd.typeIs
def nv(td ty:TE):TE:=λσ H Q=>td σ H λx H1=>ty σ H1 λy H2=>∃a v,x= .ref a/\cW H2 a y (some v)/\Q v H2
def ny(td ty tv:TE):TS:=λD σ H=>tv σ H λv H1=>td σ H1 λx H2=>ty σ H2 λy H3=>∃a H4,x= .ref a/\iU H3 a y v H4/\D.nx σ H4
def nz(td ty:TE):TS:=λD σ H=>td σ H λx H1=>ty σ H1 λy H2=>∃a kvs k,x= .ref a/\H2 a=some (.dK kvs)/\y=kV k/\(bH kvs k).isSome=true/\D.nx σ (upd H2 a (.dK (gf kvs k)))
section
variable{o i value:Expr}{pos' tpos:Pos}{td ty tv:TE}
theorem B0(hu:X.A.units+1 < cLine)(ho:PE X o td)(hi:PE X i ty)(hs:nu i):PE X (.Subscript o i pos) (nv td ty):=by
 intro pins s σ H Q I h;refine BY PySem.F.slot_dict_getitem.lookup hs (thn (ho pins s σ H _ I h) λu s1 ⟨x,H1,I1,rx,q1⟩=>thn (hi pins s1 σ H1 _ I1 q1) λiv s2 ⟨y,H2,I2,ry,a,v,ex,g,q2⟩=>?_);subst ex;obtain rfl:u=LH a:=rx;exact⟨BZ I2 g,BR hu I2 g ry λw' s3 I3 rw'=>⟨v,H2,I3,rw',q2⟩⟩
theorem B1(hu:X.A.units+1 < cLine)(ho:PE X o td)(hi:PE X i ty)(hv:PE X value tv)(hs:swapsWith value (some (.Subscript o i pos')) pos.line X.env=pure false) :
  PS X (.Assign [.Subscript o i pos'] value pos) (ny td ty tv):=by
 intro pins s σ H D I h;refine wpAny_Assign_Subscript (thn (hv pins s σ H _ I h) λr s1 ⟨v,H1,I1,rv,q1⟩=>thn (ho pins s1 σ H1 _ I1 q1) λu s2 ⟨x,H2,I2,rx,q2⟩=>thn (hi pins s2 σ H2 _ I2 q2) λiv s3 ⟨y,H3,I3,ry,a,H4,ex,g,q3⟩=>?_) hs;subst ex;obtain rfl:u=LH a:=rx;exact BV hu I3 g ry rv λs4 I4=>⟨σ,H4,I4,q3⟩
theorem B2(ho:PE X o td)(hi:PE X i ty):PS X (.Delete [.Subscript o i tpos] pos) (nz td ty):=by
 intro pins s σ H D I h;refine wpAny_Delete (wpAny_deleteEach_cons (wpAny_delete_Subscript (thn (ho pins s σ H _ I h) λu s1 ⟨x,H1,I1,rx,q1⟩=>thn (hi pins s1 σ H1 _ I1 q1) λiv s2 ⟨y,H2,I2,ry,a,kvs,k,ex,e,ey,l,q2⟩=>?_)));subst ex ey;obtain rfl:u=LH a:=rx;exact BW I2 e ry l λs3 I3=>wpAny_deleteEach_nil ⟨σ,_,I3,q2⟩
end
theorem B3(h:Heap)(hb:sysModules < h.objs.size):aC P w H (h.push {cls:= .type "dict",data:= .dict #[]}) h.objs.size (.dK []) :=
 ⟨Mz _,beq_eq_false_iff_ne.mpr (Ne.symm (LI hb)),[],.nil,SS h⟩
def nA:TE:=λ_ H Q=>∀p,H p=none->Q (.ref p) (upd H p (.dK []))
section
theorem B9:PE X (.Dict [] [] pos) nA:=λpins s σ H Q I h =>
 wpAny_Dict_empty ⟨.ref s.heap.objs.size,_,I.laid (a:=s.heap.objs.size) (o:= .dK []) (t':=s.toks) (λ_ _ q=>L4 _ q) (Lp _) (B3 s.heap I.big),rfl,h _ (I.hok.fresh (Lp _))⟩
end
structure M1(X:Cx)(o:Expr)(m:Str)(apos:Pos)(e:Expr)(cpos:Pos):Prop where
 base:attributeBase o m X.env (eval o X.env)=eval o X.env
 few:((backTo cpos (starEach [e] X.env)).all (λx=> !x.1)&&(backToKw cpos (keywordEach [] X.env)).all (λx=>x.1.isSome)
  && decide (([e]:List Expr).length+([]:List Keyword).length+(if ([]:List Keyword).isEmpty then 0 else 1) < 30))=true
 line:(apos.endLine==cpos.line)=true
 trees:backTo cpos (starEach [e] X.env)=[(false,eval e X.env)]
structure M2(X:Cx)(o:Expr)(m:Str)(apos:Pos)(e f:Expr)(cpos:Pos):Prop where
 base:attributeBase o m X.env (eval o X.env)=eval o X.env
 few:((backTo cpos (starEach [e,f] X.env)).all (λx=> !x.1)&&(backToKw cpos (keywordEach [] X.env)).all (λx=>x.1.isSome)
  && decide (([e,f]:List Expr).length+([]:List Keyword).length+(if ([]:List Keyword).isEmpty then 0 else 1) < 30))=true
 line:(apos.endLine==cpos.line)=true
 trees:backTo cpos (starEach [e,f] X.env)=[(false,eval e X.env),(false,eval f X.env)]
section
variable{s:Shared}{d:V}{r:Value}
end
section
variable{o f:Expr}{apos cpos:Pos}{td ty tx:TE}
end
section
variable{s:Shared}{kvs:List (Key×V)}
end
section
variable{s:Shared}
end
end L2
namespace Att
open PySem PySem.W PySem.Calls PyProof.Rows
theorem B_{P:Params}{h:Heap}:∀(ns:List Int) (vs:List Value),WellAll P h vs (ns.map WData.int)->IntsAre vs ns:=by
 intro ns;induction ns with
 |nil =>
  intro vs w;rw[P8] at w;cases w;exact .nil
 |cons n ns ih =>
  intro vs w;rw[LV] at w;cases w with
  |cons a b =>
   cases a;exact .cons _ _ (ih _ b)
theorem Ca{l:OpenLaw}{n:Nat}(hn:l.most=some n){P:Params}{h:Heap}{args:List WData}{vals:List Value}
  (hpre:l.row.toRowW.claim.pre args=true)(hwl:WellAll P h vals args) :
  ∃a vs ns,vals=[LH a]/\args=[WData.list (ns.map WData.int)]/\h.get? a=some {cls:= .type "list",data:= .seq vs.toArray}/\IntsAre vs ns/\ns.length<=n:=by
 have hsh:WShape.hasAll [] args [.list .int]=true:=(pre_splitW hpre).1;have hc:l.pre.holds [] {args:=args}=true:=(pre_splitW hpre).2;obtain⟨d,r,rfl,h1,h2⟩:=hasAllW_cons hsh;obtain rfl:=hasAllW_nil h2;obtain⟨xs,rfl,h3⟩:=hasW_list h1;obtain⟨ns,rfl⟩:=items_int h3;have hlen:ns.length<=n:=by
  unfold OpenLaw.pre at hc;have h4:(WTm.not (.lt (.lit (.int (n:Int))) (.len (.arg 0)))).holds [] {args:=[.list (ns.map .int)]}=true:=by
   have h4:=(holds_andW hc).1;rw[hn] at h4;exact h4
  have h5:=condW_of h4 (w_not (w_lt w_lit (w_len_list (w_arg rfl))));rw[L1] at h5;refine P0 λq=>?_
  have q':(n:Int) < ((ns.length:Nat):Int):=by omega
  first
   | (rw[decide_eq_true q'] at h5;exact absurd h5 (by decide))
   | (simp at h5;omega)
 cases hwl with
 |cons w1 w2 =>
  cases w2;cases w1 with
  |list ho hall=>exact⟨_,_,ns,rfl,rfl,ho,B_ ns _ hall,hlen⟩
theorem Cb(l:OpenLaw)(args:List WData):l.row.toRowW.claim.post args (.bool true) args=true :=
 postW_of (r:=l.row.toRowW) (X:=(true==true))
  (show WShape.has [] (.bool true) .bool=true by first|rfl|decide|simp[WShape.has,WShape.arms,WShape.armsAll])
  (show(WTm.eq .res (.lit (.bool true))).value [] {args:=args,res:=some (.bool true),after:=args}=some (.bool (true==true)) from w_eq_bool (w_res rfl) w_lit) rfl
theorem Cc{l:OpenLaw}{n:Nat}{q:Program}{loose:List Str}{XP:(Str->Option Value)->Heap->Prop}{YP:World->Heap->Prop}{d:DefRec}
  (hn:l.most=some n)(hdf:d.params.defaults=[])
  (call:∀(w:World) (s₀ s₁:Shared) (mg mb:Str->Option Value) (fa:Addr) (o:Obj) (pm cd doc:Value) (a:Addr) (vs:List Value) (ns:List Int),
   Ground q loose [] XP w s₀ mg mb s₁.heap->YP w s₁.heap ->
   s₁.heap.get? fa=some o->o.data= .func (docDef d.name d.params d.body d.scope pm cd doc)->s₁.heap.CodeRec cd d.name->mg d.name=some (.ref fa) ->
   s₁.heap.get? a=some {cls:= .type "list",data:= .seq vs.toArray}->IntsAre vs ns->ns.length<=n->s₁.gens= #[] ->
   codeAny (model l.prog w) callerA (.call (.ref fa) ⟨[.ref a],[]⟩) (λr s'=>r= .ok (.ret (.bool true))/\OldK s₁.heap s'.heap/\s'.os=s₁.os/\AllBare s'.gens) s₁) :
  WalkO q loose XP YP l.row.toRowW d [] (λf vs=>Rg f vs):=by
 intro w s₀ s₁ mg mb G Y fa o pm cd doc dV kV ho hd hcd hD hmg hg args vals as hpre hlay hrd hwl hlo;obtain rfl:dV= .none:=Dflts.none hD hdf;obtain rfl:kV= .none:=Dflts.noKw hD;obtain⟨a,vs,ns,rfl,rfl,hobj,hints,hlen⟩:=Ca hn hpre hwl;refine enter_call (Nj (call w s₀ s₁ mg mb fa o pm cd doc a vs ns G Y ho (fd_plain hd) hcd hmg hobj hints hlen hg) λr s' hq=>?_);obtain⟨rfl,h2,h3,h4⟩:=hq;exact⟨.inl ⟨.bool true,.bool true,[],rfl,λ_=>rfl,.bool true,Cb l _,λ_=>⟨OM,λ_ hm=>(nomatch hm)⟩⟩,h2,h3,h4⟩
section
variable{prog:Program}{w:World}{A:Around}{E:Value->Shared->Prop}{s:Shared}{K:Frag}
end
end Att
namespace L2
open PySem PySem.Spec PyProof.Rows
variable{x qual first y:Str}{ns ho ga ns' ps N S wh:List Str}{scope:Scope}{X:Cx}{K:Frag}{H:Hp}{iter tg elt e:Expr}{pos pos':Pos}{pins:List (Addr×Obj)}{sp:Sp}{st:Stmt}{cm:Bool}{ifs es:List Expr}{te:TE}{wi:TI}{w:World}{prog P:Program}{r:R2}{fd:FuncData}{op:CmpOp}{sl lo:Int}{A:Around}{env:Env}{h j:Nat}{CX:CXT}{mg:Str->Option Value}{f a:Addr}{σ:St}{tc:TT}{fp:List Addr}{xs:List V}{ds:List PyData}{gs:TGs}{E:Value->Shared->Prop}{T:String}
theorem rV:∀{vs:List Value} {ns:List Int},IntsAre vs ns->Vals (ns.map V.int) vs
 |_,_,.nil=> .nil
 |_,_,.cons n t h=> .cons ⟨t,rfl⟩ (rV h)
def Only(H:Hp):Prop:=∀b,H b=none\/∃o xs,H b=some (.frz o (.lst xs))
theorem Cd{mb:Str->Option Value}{k:Nat}{fa:Addr}{s₁:Shared}{vs:List Value}{ns:List Int}
  (KX:K.In s₁.heap)(hns:s₁.heap.Ns mainGlobals mg)(hb:s₁.heap.Ns builtinsNs mb)(hbb:∀x:Str,x≠"__name__"->mb x=bootBuiltins x)(hlim:s₁.heap.NoLimit)(hg:s₁.gens= #[])
  (ha:s₁.heap.get? a=some {cls:= .type "list",data:= .seq vs.toArray})(hi:IntsAre vs ns)(hl:ns.length<=sizeLine)(hr:bh k callerA)
  (F:∀base:Heap,K.In base->base.Ns mainGlobals mg->aa P w K mg base CX k fa fd [x] sp)(hbind:∀(s:Shared) (u:Value),BindsTo s fd ⟨[u],[]⟩ [(x,u)])
  (hsp:∀H:Hp,Only H->SqL K H a (ns.map V.int)->sp [.ref a] H (λv _=>v= .bl true) λ_ _ _=>False)
  (hCX:∀H e s',CX [] H s₁ (λ_ _ _=>False) e s'->False) :
  codeAny (model P w) callerA (.call (.ref fa) ⟨[.ref a],[]⟩) (λr s'=>r= .ok (.ret (.bool true))/\OldK s₁.heap s'.heap/\s'.os=s₁.os/\AllBare s'.gens) s₁:=by
 have rv:=rV hi;have lenV:=hi.length;have core:∀H:Hp,Only H->SqL K H a (ns.map V.int)->HOk P w H s₁.heap->(∀b,H b≠none->b=a)->(H a≠none->K.lookup a=none) ->
   codeAny (model P w) callerA (.call (.ref fa) ⟨[.ref a],[]⟩) (λr s'=>r= .ok (.ret (.bool true))/\OldK s₁.heap s'.heap/\s'.os=s₁.os/\AllBare s'.gens) s₁:=by
  intro H hO hS hok hA hK;have base_of:∀{b:Addr} {o:Obj},s₁.heap.get? b=some o->H b=none->(eR s₁.heap H).get? b=some o:=λe n=>Ae e n
  have noA:∀{b:Addr} {o:Obj} {es:Array DictEntry} {ep:Nat},s₁.heap.get? b=some o->o.data= .dict es ep->H b=none:=λ{b o es ep} e d=>by
   cases q:H b with
   |none=>rfl
   |some u =>
    have e':b=a:=hA b (by rw[q];simp);subst e';rw[ha] at e;cases e;have d':Data.seq vs.toArray _=Data.dict es ep:=d;cases d'
  have nsK:∀{b:Addr} {m:Str->Option Value},s₁.heap.Ns b m->(eR s₁.heap H).Ns b m:=λ{b m} ⟨o,es,ep,e,d,r⟩=>⟨o,es,ep,base_of e (noA e d),d,r⟩
  have hKb:K.In (eR s₁.heap H):=λb o e=>base_of (KX b o e) (by
   cases q:H b with
   |none=>rfl
   |some u =>
    have e':b=a:=hA b (by rw[q];simp);subst e';rw[hK (by rw[q];simp)] at e;cases e)
  have hM:Mod K mg (eR s₁.heap H):=⟨hKb,nsK hns,⟨mb,nsK hb,hbb⟩,let ⟨mc,h1,h2⟩:=hlim;⟨mc,nsK h1,h2⟩⟩;have e0:dN P w K mg (eR s₁.heap H) callerA [] s₁ H:=⟨rfl,hM,λb o e=>Af e,Qh (Ad _ _),trivial,λb hb=>absurd (show b∈([]:List Addr) from hb) (by simp),hok,.of_eq hg⟩;refine Nj ((F _ hKb (nsK hns)).run callerA [] s₁ H ⟨[.ref a],[]⟩ [.ref a] [.ref a] _ _ hr e0 (hbind s₁ (.ref a)) (.cons rfl .nil) (hsp H hO hS)) λr s' h=>?_
  cases r with
  |error e=>exact(hCX H e s' h).elim
  |ok fl =>
   cases fl with
   |next=>exact False.elim h
   |brk=>exact False.elim h
   |cont=>exact False.elim h
   |ret u =>
    obtain⟨v,H',os,bare,un,hok',r',q⟩:=h;have q':v= .bl true:=q;subst q';obtain rfl:u=Oo true:=r';refine⟨rfl,OldK.of_keep λb o e=>?_,os,bare⟩;cases q:H b with
    |none=>exact un.keep b o e q (by intro z;exact absurd (show b∈([]:List Addr) from z) (by simp)) (by simp)
    |some u =>
     rcases hO b with z|⟨ob,xs,z⟩
     .rw[q] at z;cases z
     .have z2:=un.frzs b ob _ z;obtain⟨e1,_⟩:=hok b _ z;obtain⟨e2,_⟩:=hok' b _ z2;rw[e] at e1;cases e1;exact e2
 cases hk:K.lookup a with
 |some o =>
  have e:=KX a o hk;rw[ha] at e;cases e;refine core (λ_=>none) (λ_=> .inl rfl) (.inr ⟨_,vs.toArray,_,hk,rfl,rfl,rfl,by rw[Lv,lenV];exact hl,by simpa using rv⟩) (λb u z=>by have z':(none:Option HO)=some u:=z;cases z') (λb z=>absurd rfl z) λz=>absurd rfl z
 |none =>
  refine core (λb=>if b=a then some (.frz {cls:= .type "list",data:= .seq vs.toArray} (.lst (ns.map V.int))) else none) (λb=>?_) (.inl (.inr ⟨{cls:= .type "list",data:= .seq vs.toArray},if_pos rfl⟩)) (λb u z=>?_) (λb z=>?_) λ_=>hk
  .by_cases hb:b=a
   .exact .inr ⟨_,_,if_pos hb⟩
   .exact .inl (if_neg hb)
  .by_cases hb:b=a
   .have z':=(if_pos hb).symm.trans z;cases z';subst hb;exact⟨ha,by rw[L1];exact hl,vs,_,rv,ha⟩
   .have z':=(if_neg hb).symm.trans z;cases z'
  .by_cases hb:b=a
   .exact hb
   .exact absurd (if_neg hb) z
theorem Ce{l:Pg}{n k:Nat}{q:Program}{loose:List Str}{XP:(Str->Option Value)->Heap->Prop}{YP:World->Heap->Prop}{d:DefRec}{K:Params->Frag}{CX:World->CXT}{sp:World->Sp}
  (hn:l.most=some n)(hn2:n<=sizeLine)(hdf:d.params.defaults=[])(hr:bh k callerA)
  (hY:∀(w:World) (h:Heap),YP w h->(K w.params).In h)
  (F:∀(w:World) (mg:Str->Option Value) (fa:Addr) (h:Heap),(K w.params).In h->h.Ns mainGlobals mg->mg d.name=some (.ref fa) ->
   ∃fd:FuncData,(∀(s:Shared) (u:Value),BindsTo s fd ⟨[u],[]⟩ [(x,u)]) /\
    ∀base:Heap,(K w.params).In base->base.Ns mainGlobals mg->aa l.prog w (K w.params) mg base (CX w) k fa fd [x] (sp w))
  (hsp:∀(w:World) (H:Hp) (a:Addr) (ns:List Int),ns.length<=n->Only H->SqL (K w.params) H a (ns.map V.int)->sp w [.ref a] H (λv _=>v= .bl true) λ_ _ _=>False)
  (hCX:∀(w:World) (H:Hp) (s:Shared) (e:Value) (s':Shared),CX w [] H s (λ_ _ _=>False) e s'->False) :
  S9 q loose XP YP l.row.toRowW d [] (λf vs=>Rg f vs):=by
 refine Att.Cc hn hdf λw s₀ s₁ mg mb fa o pm cd doc a vs ns G Y ho hd hcd hmg hobj hints hlen hg=>?_
 have KX:=hY w _ Y;obtain⟨fd,hb,hF⟩:=F w mg fa _ KX G.T.g hmg;exact Cd KX G.T.g G.T.b G.T.builtins G.T.nolimit hg hobj hints (LU hlen hn2) hr hF hb (λH hO hS=>hsp w H a ns hlen hO hS) λH e s'=>hCX w H s₁ e s'
def inClass(s:Stmt)(j:Nat):Stmt:=match s with
 | .ClassDef _ _ _ body _ _ _ _ _ _ _=>body.getD j (.Pass ⟨0,0,0,0⟩)
 |_=> .Pass ⟨0,0,0,0⟩
def iV(s:Stmt):Arguments:=match s with
 | .FunctionDef _ a _ _ _ _ _ _ _ _=>a
 |_=>{posonlyargs:=[],args:=[],vararg:=none,kwonlyargs:=[],kw_defaults:=[],kwarg:=none,defaults:=[]}
def bY(s:Stmt):List Stmt:=match s with
 | .FunctionDef _ _ b _ _ _ _ _ _ _=>b
 |_=>[]
def zz(s:Stmt):Scope:=match s with
 | .FunctionDef _ _ _ _ _ _ sc _ _ _=>sc
 |_=>{kind:= .function,names:=[],isGenerator:=false,isCoroutine:=false}
abbrev CX0:CXT:=λ_ _ _ _ _ _=>False
abbrev E0:XK:=λ_ _ _=>False
theorem hJ:cV CX0 X E0:=λ_ _ _ _ _ _ _ h=>h.elim
structure Fun(K:Frag)(x qual:Str)(st:Stmt)(f:Addr)(fd:FuncData):Prop where
 ex:∃(oc:Value) (od:Option Addr) (kV:Value×Value) (doc pm:Value) (an:Option Addr) (cdv ct:Value) (osl:Array (Option Value)),
  fd=fnOf x qual (iV st) (bY st) (zz st) kV.1 kV.2 doc pm an cdv ct/\K.lookup f=some ⟨oc,od,.func fd,osl⟩/\codeIn K cdv qual=true
 kp:keepIn K (.ref f)=true
section
variable{base:Heap}
theorem Fun.ok{k:Nat}(F:Fun K x qual st f fd)(S:zP N ps (zz st))(len:∀vs H Q E,sp vs H Q E->vs.length=ps.length)
  (hbody:∀(cdv:Value) (A:Around) (outer:List Env) (s:Shared) (H:Hp) (vs:List V) (Q:VK) (E:XK),bh k (A.deeper (envOfC qual (zz st) s.heap.objs.size f cdv))->sp vs H Q E ->
   ∃t,PSs (bR CX0 P w K mg base N qual (zz st) f cdv A outer s H E).nox (bY st) t/\t {nx:=λ_ H'=>Q .non H',rt:=Q} (start N vs) H):aa P w K mg base CX0 (k+1) f fd ps sp:=by
 obtain⟨oc,od,kV,doc,pm,an,cdv,ct,osl,rfl,lk,hcd⟩:=F.ex;refine nc lk hcd S len λA outer s H vs Q E hr hsp=>?_
 obtain⟨t,h,q⟩:=hbody cdv A outer s H vs Q E hr hsp;exact⟨t,h.nox,q⟩
theorem Fun.binds(F:Fun K x qual st f fd)
  (h:∀(kV doc pm:Value) (an:Option Addr) (cdv ct:Value) (us:List Value),us.length=ps.length->bindArgs (fnOf x qual (iV st) (bY st) (zz st) .none kV doc pm an cdv ct) ⟨us,[]⟩=pure (ps.zip us))(hd:fd.defaults= .none:=by rfl):Binds K fd ps []:=by
 obtain⟨oc,od,kV,doc,pm,an,cdv,ct,osl,rfl,lk,hcd⟩:=F.ex;have e:kV.1= .none:=hd;rw[e];exact .all (h kV.2 doc pm an cdv ct)
theorem am{oc:Value}{od an:Option Addr}{osl:Array (Option Value)}{dV kV doc pm cdv ct:Value}(l:K.lookup f=some ⟨oc,od,.func (fnOf x qual (iV st) (bY st) (zz st) dV kV doc pm an cdv ct),osl⟩)
  (c:codeIn K cdv qual=true)(k:keepIn K (.ref f)=true):Fun K x qual st f (fnOf x qual (iV st) (bY st) (zz st) dV kV doc pm an cdv ct):=⟨⟨oc,od,(dV,kV),doc,pm,an,cdv,ct,osl,rfl,l,c⟩,k⟩
end
theorem bI{k:Nat}(hr:au cm k A):A.units+1 < cLine:=Nat.lt_of_le_of_lt (Nat.add_le_add_left (by decide:1<=64) _) hr.units
section
end
theorem Cf{A B:Prop}(h:A):if true=true then A else B:=by
 rw[if_pos rfl];exact h
theorem ka{c A B:Prop}[Decidable c](h1:c->A)(h2:¬ c->B):if c then A else B:=by
 by_cases h:c
 .rw[if_pos h];exact h1 h
 .rw[if_neg h];exact h2 h
def dP(H H':Hp):Prop:=∀b o,H b=some o->H' b=some o
section
theorem Cg:ag X (.builtin "len") (λxs H Q=>∃a kvs,xs=[V.ref a]/\H a=some (.dK kvs)/\Q (.int kvs.length) H):=by
 intro pins s σ H xs us Q I r h;obtain⟨a,kvs,rfl,ha,q⟩:=h;obtain⟨u,rfl,ru⟩:=vals1 r;cases ru;exact BX I (.inl ha) λt s' I'=>⟨.int kvs.length,H,I',⟨t,rfl⟩,q⟩
end
section
variable{κ:Type}[DecidableEq κ]
end
def bw(env:Env):List (Str×NameKind)->List (Str×Addr)->List (Str×Addr)
 | [],acc=>acc
 | (n,k)::r,acc=>if k== .free then bw env r ((n,(env.cells.lookup n).getD 0)::acc) else bw env r acc
theorem nB{env:Env}(f:Str×NameKind->List (Str×Addr)->Sem (ForInStep (List (Str×Addr))))
  (hf:∀n k cs,f (n,k) cs=if k== .free then(do let a<-cellOf env n;pure (.yield ((n,a)::cs))) else pure (.yield cs)) :
  ∀(names:List (Str×NameKind)) (acc:List (Str×Addr)),(∀x∈names,x.2= .free->(env.cells.lookup x.1).isSome=true)->forIn names acc f=(pure (bw env names acc):Sem _)
 | [],acc,_=>rfl
 | (n,k)::r,acc,h=>by
  have hr:∀x∈r,x.2= .free->(env.cells.lookup x.1).isSome=true:=λx hx=>h x (Lx _ hx)
  rw[List.forIn_cons,hf];unfold bw;cases hk:k==NameKind.free with
  |true =>
   obtain⟨c,hc⟩:=Mx.mp (h (n,k) Ly (by simpa using hk));have e:cellOf env n=pure c:=by unfold cellOf;rw[hc]
   simp only[if_true];rw[e,pure_bind,pure_bind,hc];exact nB f hf r _ hr
  |false =>
   simp only[Mb,if_false];rw[pure_bind];exact nB f hf r _ hr
theorem rW(h:∀x∈scope.names,x.2= .free->(env.cells.lookup x.1).isSome=true):closureFor scope env=pure (bw env scope.names []):=by
 simp only[closureFor];rw[nB (env:=env) _ (λn k cs=>by
  cases hk:k==NameKind.free<;>simp[hk]) _ _ h]
 rfl
theorem hU{env:Env}:∀{names:List (Str×NameKind)} {acc:List (Str×Addr)} {n:Str} {c:Addr},(n,c)∈bw env names acc->(n,c)∈acc\/((n,.free)∈names/\c=(env.cells.lookup n).getD 0)
 | [],_,_,_,h=> .inl h
 | (x,k)::r,acc,n,c,h=>by
  unfold bw at h;cases hk:k==NameKind.free with
  |true =>
   rw[hk] at h;simp only[if_true] at h;have ek:k= .free:=by simpa using hk
   subst ek;rcases hU h with h|h
   .rcases Lz.mp h with e|h
    .cases e;exact .inr ⟨Ly,rfl⟩
    .exact .inl h
   .exact .inr ⟨Lx _ h.1,h.2⟩
  |false =>
   rw[hk] at h;simp only[Mb,if_false] at h;rcases hU h with h|h
   .exact .inl h
   .exact .inr ⟨Lx _ h.1,h.2⟩
theorem nC{env:Env}:∀{names:List (Str×NameKind)} {acc:List (Str×Addr)} {p:Str×Addr},p∈acc->p∈bw env names acc
 | [],_,_,h=>h
 | (x,k)::r,acc,p,h=>by
  unfold bw;split
  .exact nC (Lx _ h)
  .exact nC h
theorem nD{env:Env}:∀{names:List (Str×NameKind)} {acc:List (Str×Addr)} {n:Str},(n,.free)∈names->(n,(env.cells.lookup n).getD 0)∈bw env names acc
 | (x,k)::r,acc,n,h=>by
  unfold bw;rcases Lz.mp h with e|h
  .cases e;exact nC Ly
  .split<;>exact nD h
theorem nE:∀{names:List (Str×NameKind)} {m:Nat} {acc:List (Str×Addr)} {n:Str} {c:Addr},(n,c)∈cellsFrom m names acc->(n,c)∈acc\/((n,.cell)∈names/\m<=c)
 | [],_,_,_,_,h=> .inl h
 | (x,k)::r,m,acc,n,c,h=>by
  unfold cellsFrom at h;cases hk:k==NameKind.cell with
  |true =>
   rw[hk] at h;simp only[if_true] at h;have ek:k= .cell:=by simpa using hk
   subst ek;rcases nE h with h|h
   .rcases Lz.mp h with e|h
    .cases e;exact .inr ⟨Ly,Lp _⟩
    .exact .inl h
   .exact .inr ⟨Lx _ h.1,Ql h.2⟩
  |false =>
   rw[hk] at h;simp only[Mb,if_false] at h;rcases nE h with h|h
   .exact .inl h
   .exact .inr ⟨Lx _ h.1,h.2⟩
theorem iW:∀{names:List (Str×NameKind)} {m:Nat} {acc:List (Str×Addr)} {p:Str×Addr},p∈acc->p∈cellsFrom m names acc
 | [],_,_,_,h=>h
 | (x,k)::r,m,acc,p,h=>by
  unfold cellsFrom;split
  .exact iW (Lx _ h)
  .exact iW h
theorem rX:∀{names:List (Str×NameKind)} {m:Nat} {acc:List (Str×Addr)} {n:Str},(n,.cell)∈names->∃c,(n,c)∈cellsFrom m names acc
 | (x,k)::r,m,acc,n,h=>by
  unfold cellsFrom;rcases Lz.mp h with e|h
  .cases e;exact⟨m,iW Ly⟩
  .split<;>exact rX h
theorem iX{α:Type}:∀{l:List (Str×α)} {n:Str} {c:α},(n,c)∈l->∃c',l.lookup n=some c'/\(n,c')∈l
 | (k,v)::r,n,c,h=>by
  rw[LS];cases hb:n==k with
  |true=>exact⟨v,rfl,by rw[beq_iff_eq.mp hb];exact Ly⟩
  |false =>
   rcases Lz.mp h with e|h
   .cases e;simp at hb
   .obtain⟨c',e,m⟩:=iX h;exact⟨c',e,Lx _ m⟩
theorem kc{α:Type}:∀{l:List (Str×α)} {n:Str} {a b:α},(l.map (·.1)).Nodup->(n,a)∈l->(n,b)∈l->a=b
 |x::r,n,a,b,nd,h,h'=>by
  rw[LV,Nb] at nd;have no:∀c,(n,c)∈r->n≠x.1:=λc hc e=>nd.1 (by rw[<- e];exact Mh (f:=(·.1)) hc)
  rcases Lz.mp h with e|h<;>rcases Lz.mp h' with e' |h'
  .rw[<- e] at e';cases e';rfl
  .exact absurd (by rw[<- e]) (no b h')
  .exact absurd (by rw[<- e']) (no a h)
  .exact kc nd.2 h h'
theorem rY{α:Type}{l:List (Str×α)}{n:Str}{a:α}(nd:(l.map (·.1)).Nodup)(h:(n,a)∈l):l.lookup n=some a:=by
 obtain⟨c,e,m⟩:=iX h;rw[e,kc nd h m]
theorem nF:∀{names:List (Str×NameKind)} {m:Nat} {acc:List (Str×Addr)},(∀p∈acc,p.2 < m)->(∀n n' c,(n,c)∈acc->(n',c)∈acc->n=n') ->
  ∀n n' c,(n,c)∈cellsFrom m names acc->(n',c)∈cellsFrom m names acc->n=n'
 | [],_,_,_,h,n,n',c,a,b=>h n n' c a b
 | (x,k)::r,m,acc,lt,h,n,n',c,a,b=>by
  unfold cellsFrom at a b;cases hk:k==NameKind.cell with
  |true =>
   rw[hk] at a b;simp only[if_true] at a b;refine nF (m:=m+1) (acc:=(x,m)::acc) (λp hp=>?_) (λn n' c a b=>?_) n n' c a b
   .rcases Lz.mp hp with rfl|hp
    .exact NU _
    .exact MY (lt p hp)
   .rcases Lz.mp a with e|a<;>rcases Lz.mp b with e' |b
    .cases e;cases e';rfl
    .cases e;exact absurd (lt _ b) (Mr _)
    .cases e';exact absurd (lt _ a) (Mr _)
    .exact h n n' c a b
  |false =>
   rw[hk] at a b;simp only[Mb,if_false] at a b;exact nF lt h n n' c a b
theorem nG:∀(names:List (Str×NameKind)) (h:Heap) (acc:List (Str×Addr)) (n:Str) (c:Addr),(n,c)∈cellsFrom h.objs.size names acc->(n,c)∈acc\/(pushCells h names).IsCell c none
 | [],_,_,_,_,h=> .inl h
 | (x,k)::r,h,acc,n,c,hm=>by
  unfold cellsFrom at hm;unfold pushCells;cases hk:k==NameKind.cell with
  |true =>
   rw[hk] at hm;simp only[if_true] at hm ⊢;rw[show h.objs.size+1=(h.push {cls:= .type "cell",data:= .cell none}).objs.size from (MT ..).symm] at hm;rcases nG r _ _ n c hm with h1|h1
   .rcases Lz.mp h1 with e|h1
    .cases e;exact .inr (SO ⟨_,LG _ rfl,rfl⟩ (Ox r _))
    .exact .inl h1
   .exact .inr h1
  |false =>
   rw[hk] at hm;simp only[Mb,if_false] at hm ⊢;exact nG r h acc n c hm
def fz(scope:Scope)(C:Addr)(env:Env):Env:=compEnvC scope (cellsFrom (C+1) scope.names (bw env scope.names [])) C env
theorem Ci{M:Model}{s:Shared}{globals:Addr}{cl:List (Str×Addr)}{Q:Env->Shared->Prop}
  (h:Q (newEnv scope s.heap.objs.size globals (cellsFrom (s.heap.objs.size+1) scope.names cl) qual none .none (some env) builtinsNs) {s with heap:=pushCells (s.heap.push {cls:= .type "dict",data:= .dict #[]}) scope.names}) :
  wpAny M A (newFunctionEnv scope globals cl [] qual none .none (some env)) Q E s:=by
 simp only[newFunctionEnv,NH,if_true];refine L0 (wpAny_alloc ?_);refine L0 (wpAny_layCells _ (λname kind cells=>by cases hkc:kind==NameKind.cell<;>simp[hkc]) _ _ _ _ ?_);rw[show({s with heap:=s.heap.push {cls:= .type "dict",data:= .dict #[]}}:Shared).heap.objs.size=s.heap.objs.size+1 from MT ..];rw[List.forIn_nil];exact L0 (L6 (L6 h))
def av(X:Cx)(N:List Str)(scope:Scope)(C:Addr)(s:Shared)(H:Hp)(ex:List Addr):Cx where
 prog:=X.prog
 w:=X.w
 K:=X.K
 mg:=X.mg
 base:=X.base
 A:=X.A
 N:=N
 s₀:=s
 H₀:=H
 env:=fz scope C X.env
 outer:=X.stack
 stack:=X.stack
 ex:=ex
 fn:=λx=>scope.names.lookup x==some .cell
 calm:=X.calm
 pn:=[]
 xe:=λ_ _=>False
structure fA(X:Cx)(scope:Scope):Prop where
 kind:scope.kind= .function
 nd:(scope.names.map (·.1)).Nodup
 free:∀x∈scope.names,x.2= .free->(X.env.kindOf x.1=some .cell\/X.env.kindOf x.1=some .free)
def freeOk(sc:Scope)(scope:Scope):Bool:=scope.names.all λx=>x.2 != .free||(sc.names.lookup x.1==some .cell||sc.names.lookup x.1==some .free)
theorem fA.of(k:scope.kind= .function)(nd:(scope.names.map (·.1)).Nodup)(f:freeOk X.env.scope scope=true):fA X scope:=⟨k,nd,λx hx e=>by
 have q:=Me.mp f x hx;rw[e] at q;show X.env.scope.names.lookup x.1=_\/X.env.scope.names.lookup x.1=_;simpa using q⟩
theorem kh{env:Env}:∀{names:List (Str×NameKind)} {x:Str} {k:NameKind},
  (names.map λ(n,k)=>if (k==NameKind.free&&env.scope.kind== .function&&env.kindOf n==some .cell) then(n,NameKind.cell) else(n,k)).lookup x=some k ->
  (∃k',names.lookup x=some k'/\(k'=k\/(k'= .free/\k= .cell/\env.kindOf x=some .cell)))
 | [],_,_,h=>by simp at h
 | (n,k0)::r,x,k,h=>by
  rw[LV,LS] at h;rw[LS];have hn:(if (k0==NameKind.free&&env.scope.kind== .function&&env.kindOf n==some .cell)=true then(n,NameKind.cell) else(n,k0)).1=n:=by split<;>rfl
  dsimp only at h;rw[hn] at h;cases hx:x==n with
  |false =>
   rw[hx] at h;exact kh h
  |true =>
   rw[hx] at h;simp only[MZ] at h;refine⟨k0,rfl,?_⟩;have ex:x=n:=beq_iff_eq.mp hx;subst ex;by_cases hc:(k0==NameKind.free&&env.scope.kind== .function&&env.kindOf x==some .cell)=true
   .rw[if_pos hc] at h;simp only[M9,beq_iff_eq] at hc;exact .inr ⟨hc.1.1,h.symm,hc.2⟩
   .rw[if_neg hc] at h;exact .inl h
def dh(σ:St)(fr:List Nat):St:=fr.map λj=>(σ[j]?).join
theorem Cj{s s3:Shared}{own free:List Str}{fr:List Nat}{ex:List Addr}(S:fA X scope)
  (I:Inv X pins σ H s)(hex:∀b∈ex,dJ X pins H b)(hob:∀b∈ex,∃o,s.heap.get? b=some o)(hfr:fr.map (λj=>X.N[j]?)=free.map some)(hff:∀x∈free,scope.names.lookup x=some .free)
  (hs3:∀b o,s.heap.get? b=some o->s3.heap.get? b=some o)(hsz:s.heap.objs.size<=s3.heap.objs.size)(ho:s3.os=s.os)(hg:s3.gens=s.gens) :
  Inv (av X (own++free) scope s3.heap.objs.size s H ex) [] (own.map (λ_=>none)++dh σ fr) H {s3 with heap:=pushCells (s3.heap.push {cls:= .type "dict",data:= .dict #[]}) scope.names}:=by
 have hsome:∀x∈scope.names,x.2= .free->∃c,X.env.cells.lookup x.1=some c:=λx hx e=>I.ok.has x.1 (S.free x hx e)
 have keep:∀b o,s3.heap.get? b=some o->(pushCells (s3.heap.push {cls:= .type "dict",data:= .dict #[]}) scope.names).get? b=some o:=λb o e=>Ox _ _ b o (L4 _ e)
 have hkeep:∀b o,s.heap.get? b=some o->(pushCells (s3.heap.push {cls:= .type "dict",data:= .dict #[]}) scope.names).get? b=some o:=λb o e=>keep b o (hs3 b o e)
 have cells:∀n c,(n,c)∈(fz scope s3.heap.objs.size X.env).cells->((n,NameKind.free)∈scope.names/\X.env.cells.lookup n=some c)\/((n,NameKind.cell)∈scope.names/\s3.heap.objs.size+1<=c/\(pushCells (s3.heap.push {cls:= .type "dict",data:= .dict #[]}) scope.names).IsCell c none):=λn c h=>by
  have h':(n,c)∈cellsFrom (s3.heap.objs.size+1) scope.names (bw X.env scope.names []):=h;have hc:=nE h';have e:=nG scope.names (s3.heap.push {cls:= .type "dict",data:= .dict #[]}) (bw X.env scope.names []) n c (by rw[MT];exact h');have fromClos:(n,c)∈bw X.env scope.names []->(n,NameKind.free)∈scope.names/\X.env.cells.lookup n=some c:=λhm=>by
   rcases hU hm with h|⟨hn,rfl⟩
   .exact absurd h (by simp)
   .obtain⟨c',ec⟩:=hsome _ hn rfl;rw[ec];exact⟨hn,rfl⟩
  rcases hc with hc|hc
  .exact .inl (fromClos hc)
  .rcases e with e|e
   .exact .inl (fromClos e)
   .exact .inr ⟨hc.1,hc.2,e⟩
 have cell_lt:∀n c,X.env.cells.lookup n=some c->c < s.heap.objs.size:=λn c e=>by
  obtain⟨v,o,ho,_⟩:=I.cell n c e;exact Ls ho
 have apart:∀n n' c,(n,c)∈(fz scope s3.heap.objs.size X.env).cells->(n',c)∈(fz scope s3.heap.objs.size X.env).cells->n=n':=λn n' c a b=>by
  refine nF (acc:=bw X.env scope.names []) (m:=s3.heap.objs.size+1) (λp hp=>?_) (λn n' c a b=>?_) n n' c a b
  .obtain⟨n,c⟩:=p;rcases hU hp with h|⟨hn,e⟩
   .exact absurd h (by simp)
   .obtain⟨c',ec⟩:=hsome _ hn rfl;rw[ec] at e;cases e;exact MY (LJ (cell_lt n _ ec) hsz)
  .rcases hU a with h|⟨hn,e⟩
   .exact absurd h (by simp)
   .rcases hU b with h|⟨hn',e'⟩
    .exact absurd h (by simp)
    .obtain⟨c1,e1⟩:=hsome _ hn rfl;obtain⟨c2,e2⟩:=hsome _ hn' rfl;have e1':X.env.cells.lookup n=some c1:=e1;have e2':X.env.cells.lookup n'=some c2:=e2;rw[e1'] at e;rw[e2'] at e';exact I.ok.inj n n' c (by rw[e1',e];rfl) (by rw[e2',e'];rfl)
 have vis:∀x,((fz scope s3.heap.objs.size X.env).kindOf x=some .cell\/(fz scope s3.heap.objs.size X.env).kindOf x=some .free)->(x,NameKind.cell)∈scope.names\/(x,NameKind.free)∈scope.names:=λx h=>by
  rcases h with h|h
  .obtain⟨k',e,q⟩:=kh h;rcases q with q|q
   .exact .inl (by rw[<- q];exact LX e)
   .exact .inr (by rw[<- q.1];exact LX e)
  .obtain⟨k',e,q⟩:=kh h;rcases q with q|q
   .exact .inr (by rw[<- q];exact LX e)
   .exact .inr (by rw[<- q.1];exact LX e)
 have fsub:∀b∈frs X.stack,b=X.env.locals\/b∈X.fs:=λb hb=>by
  have:=I.stkSub b hb;simpa using this
 have fresh:∀b,s.heap.objs.size<=b->s.heap.get? b=none:=λb hb=>by
  cases e:s.heap.get? b with
  |none=>rfl
  |some o=>exact absurd (Ls e) (Oq.mpr hb)
 have exlt:∀b∈ex,b < s.heap.objs.size:=λb hb=>by obtain⟨o,e⟩:=hob b hb;exact Ls e
 refine⟨⟨I.ok.mod,S.kind,I.ok.glob,I.ok.blt,hsz,λx y c a b=>apart x y c (LX a) (LX b),λx hx=>?_,λx c hx hc=>?_,I.ok.hd,I.ok.frames,.inl rfl,λb hb=>?_,I.bs,?_,λb o e hb=>?_,λb hb hf=>?_,I.stack,I.stkFree⟩,
  ho,?_,Un.kept hkeep,?_,λx c hc=>?_,I.hok.fresh hsz,λx c hc=>?_,λp hp=>absurd hp (by simp[av]),I.hok.kept hkeep,?_⟩
 .rcases vis x hx with h|h
  .obtain⟨c,hc⟩:=rX (m:=s3.heap.objs.size+1) (acc:=bw X.env scope.names []) h;obtain⟨c',e,_⟩:=iX hc;exact⟨c',e⟩
  .obtain⟨c',e,_⟩:=iX (iW (names:=scope.names) (m:=s3.heap.objs.size+1) (nD (env:=X.env) (acc:=[]) h));exact⟨c',e⟩
 .have hx':scope.names.lookup x=some .cell:=by simpa [av] using hx
  rcases cells x c (LX hc) with h|h
  .have:=kc S.nd h.1 (LX hx');cases this
  .show s.heap.objs.size<=c;omega
 .refine⟨LI (LJ (exlt b hb) hsz),λx c hc=>?_⟩;rcases cells x c (LX hc) with h|h
  .exact(hex b hb).2.2.2.2.1 x c h.2
  .have:=exlt b hb;intro e;have e':Nat.lt c s.heap.objs.size:=by rw[e];exact this
   exact absurd (LJ e' hsz) (Oq.mpr (Ql h.2.1))
 .exact LU I.ok.bsz I.sz
 .have hb':b∈ex:=hb;rcases(hex b hb').2.2.2.1 with h|h
  .exact I.ok.noex b o e h
  .exact absurd (Ls (I.ok.bs b o e).1) (Oq.mpr h)
 .have hb':b∈ex:=hb;rcases fsub b hf with h|h
  .exact(hex b hb').2.1 h
  .exact(hex b hb').2.2.1 h
 .show AllBare s3.gens;rw[hg];exact I.bare
 .
  refine⟨_,(Heap.Ns.new s3.heap (.type "dict")).keeps (Ox _ _),λi x v hi hv vx=>?_⟩;have hN:(own++free)[i]? = some x:=hi;have hio:own.length<=i:=by
   rcases Of i own.length with h|h
   .rw[Mi (by simpa using h),Ln,LC h] at hv;cases hv
   .exact h
  rw[M0 hio] at hN;rw[M0 (by simpa using hio)] at hv;simp only[L1] at hv;unfold dh at hv;rw[Ln] at hv;have hx2:=hff x (Lu hN);have hmem:(x,NameKind.free)∈scope.names:=LX hx2;cases ej:fr[i - own.length]? with
  |none=>rw[ej] at hv;cases hv
  |some j =>
   rw[ej] at hv;simp only[MF,MZ] at hv;have hj:X.N[j]? = some x:=by
    have q:=congrArg (λl=>l[i - own.length]?) hfr;simp only[Ln,ej,hN,MF,MZ] at q;exact q
   have hσ:σ[j]? = some (some v):=by
    cases e:σ[j]? with
    |none=>rw[e] at hv;cases hv
    |some w=>rw[e] at hv;simp at hv;rw[hv]
   obtain⟨m,hm,hl⟩:=I.loc;have kx:=S.free _ hmem rfl;obtain⟨u,ru,lk⟩:=hl j x v hj hσ (by rcases kx with k|k;exact .inr (.inl k);exact .inr (.inr k));refine⟨u,ru,?_⟩;rcases lk with⟨k,_⟩|⟨_,c,hc,hcell⟩
   .rcases kx with q|q<;>(have q':X.env.kindOf x=_:=q;rw[k] at q';cases q')
   .obtain⟨c',e',m'⟩:=iX (iW (names:=scope.names) (m:=s3.heap.objs.size+1) (nD (env:=X.env) (acc:=[]) hmem));have hcc:c'=c:=by
     rcases cells x c' m' with h|h
     .rw[h.2] at hc;cases hc;rfl
     .have:=kc S.nd h.1 hmem;cases this
    subst hcc;refine .inr ⟨?_,c',e',hcell.keeps hkeep⟩;rcases vx with q|q|q
    .obtain⟨k',ek,qq⟩:=kh (env:=X.env) (names:=scope.names) q;rw[hx2] at ek;cases ek;rcases qq with qq|qq
     .cases qq
     .cases qq.2.1
    .exact .inl q
    .exact .inr q
 .rcases cells x c (LX hc) with h|h
  .obtain⟨v,hv⟩:=I.cell x c h.2;exact⟨v,hv.keeps hkeep⟩
  .exact⟨_,h.2.2⟩
 .rcases cells x c (LX hc) with h|h
  .exact I.freeC x c h.2
  .exact I.hok.fresh (by omega)
 .show _=(own++free).length;have q:=congrArg Nl hfr;simp only[L1] at q;simp[dh,q]
def PTs(X:Cx)(ifs:List Expr)(t:TT):Prop :=
 ∀(pins:List (Addr×Obj)) (s:Shared) (σ:St) (H:Hp) (Q:Bool->Hp->Prop),Inv X pins σ H s->t σ H Q ->
  wpAny (model X.prog X.w) X.A (forIn ifs true λc r=>if r=true then do let ok<-isTrue c X.env (eval c X.env);pure (ForInStep.yield ok) else pure (ForInStep.yield r)) (TP X pins σ Q) X.xe s
def nH:TT:=λ_ H Q=>Q true H
theorem Ck:PTs X [] nH:=λpins s σ H Q I h=>wpAny_tests_nil ⟨H,I,h⟩
theorem Cl{c:Expr}{t:TT}(h:PT X c t):PTs X [c] t:=λpins s σ H Q I q=>wpAny_tests_one (h pins s σ H Q I q)
theorem Cm{R:Result->Shared->Prop}{s:Shared}{target:Expr}{it acc:Value}(I:Nat->Shared->Prop)
  (turn:∀n s,I n s->wpAny (model prog w) A (pyNext it) (λr s₁=>match r with
   |none=>R (.ok .next) s₁
   |some v=>wpAny (model prog w) A (letOwnedTupleGo target it v) (λ_ s₁'=>wpAny (model prog w) A (assign target env v) (λ_ s₂ =>
     wpAny (model prog w) A (forIn ifs true λc r=>if r=true then do let ok<-isTrue c env (eval c env);pure (ForInStep.yield ok) else pure (ForInStep.yield r)) (λok s₃ =>
      if ok=true then wpAny (model prog w) A (eval elt env) (λx s₄ =>
       wpAny (model prog w) A (call (.builtin "list.append") [acc,x]) (λ_ s₅=>∃m,m < n/\I m s₅) (notedBy (model prog w) A env λe s'=>R (.error e) s') s₄) (notedBy (model prog w) A env λe s'=>R (.error e) s') s₃
      else ∃m,m < n/\I m s₃) (notedBy (model prog w) A env λe s'=>R (.error e) s') s₂) (notedBy (model prog w) A env λe s'=>R (.error e) s') s₁') (notedBy (model prog w) A env λe s'=>R (.error e) s') s₁) (notedBy (model prog w) A env λe s'=>R (.error e) s') s)
  (n:Nat) (h:I n s) :
  codeAny (model prog w) A (.compLoop (.ListComp elt [⟨target,iter,ifs,0⟩] scope pos) 0 it acc env) R s:=by
 refine codeAny_loop rfl I (λn s hI=>?_) n h;show wpAny _ A ((compTurn (.ListComp elt [⟨target,iter,ifs,0⟩] scope pos) 0 it acc env).onRaise (λx=>do noteFrame x env;theTreesLotGoes x)) _ _ s;refine wpAny_noted ?_;rw[compTurn_list];refine L0 (NL (L0 (Ma (turn n s hI) (λr s₁ h₁=>?_) λ_ _ h'=>h')));cases r with
 |none=>exact L6 h₁
 |some v =>
  refine L0 (Ma h₁ (λ_ s₁' h₁'=>?_) λ_ _ h'=>h');refine L0 (Ma h₁' (λ_ s₂ h₂=>L0 (Ma h₂ (λok s₃ h₃=>?_) λ_ _ h'=>h')) λ_ _ h'=>h');cases ok with
  |false=>exact L6 ⟨rfl,h₃⟩
  |true =>
   exact L0 (L0 (Ma h₃ (λx s₄ h₄=>L0 (Ma h₄ (λ_ s₅ h₅=>L6 (L6 ⟨rfl,h₅⟩)) λ_ _ h'=>h')) λ_ _ h'=>h'))
def Sub(σ σ2:St):Prop:=σ.length=σ2.length/\∀(i:Nat) v,σ[i]? = some (some v)->σ2[i]? = some (some v)
abbrev lobj(its:List Value)(n:Nat):Obj:={cls:= .type "list",data:= .seq its.toArray n}
section
variable{own free:List Str}{fr:List Nat}
def nI(J:It)(g:TG)(tc:TT)(te:TE)(σb:St)(Fin:List V->Hp->Prop)(W:Nat->Nat->List V->Hp->Prop):Prop :=
 ∀i m ys H,W i m ys H->(J.stop i H/\Fin ys H)\/(J.go i H/\ys.length < sizeLine/\∃N:List V->Hp->Prop,(∀ys' H',N ys' H'->∃m',m' < m/\W (i+1) m' ys' H')/\∀x H',J.yld i H x H'->g x σb H' λσ2 H3=>Sub σb σ2/\tc σ2 H3 λb H4 =>
  if b=true then te σ2 H4 λv H5=>N (ys++[v]) H5 else N ys H4)
theorem rZ{H2:Hp}{s2:Shared}{J:It}{it:Addr}{tn:Nat->Heap->Prop}{g:TG}{Fin:List V->Hp->Prop}{W:Nat->Nat->List V->Hp->Prop}{m0:Nat}
  {RR:Value->Addr->Result->Shared->Prop}
  (S:fA X scope)(hc:X.calm=true)(hfr:fr.map (λj=>X.N[j]?)=free.map some)(hff:∀x∈free,scope.names.lookup x=some .free)
  (hg:∀C s H ex,PG (av X (own++free) scope C s H ex) tg g)(ht:∀C s H ex,PTs (av X (own++free) scope C s H ex) ifs tc)(he:∀C s H ex,PE (av X (own++free) scope C s H ex) elt te)
  (I2:Inv X pins σ H2 s2)(T:Turn X.prog X.w X.K tg J fp it tn)(st2:tn 0 s2.heap)(f2:∀b∈fp,dJ X pins H2 b)
  (w0:W 0 m0 [] H2)(turn:nI J g tc te (own.map (λ_=>none)++dh σ fr) Fin W)
  (hRR:∀D C its n ys H' s',Inv (av X (own++free) scope C s2 H2 fp) [(D,lobj its n)] (own.map (λ_=>none)++dh σ fr) H' s'->Vals ys its->ys.length<=sizeLine->Fin ys H'->s2.heap.objs.size<=D->RR (.ref D) C (.ok .next) s') :
  wpAny (model X.prog X.w) X.A (newList []) (λacc s₃=>wpAny (model X.prog X.w) X.A (newFunctionEnv scope X.env.globals (bw X.env scope.names []) [] X.env.qual none .none (some X.env)) (λcenv s₄ =>
   codeAny (model X.prog X.w) X.A (.compStart (.ListComp elt [⟨tg,iter,ifs,0⟩] scope pos) 0 (.ref it) acc {cenv with scope:=relabel scope X.env}) (RR acc cenv.locals) s₄) E s₃) E s2:=by
 refine N0 (Ci ?_);have hob:∀b∈fp,∃o,s2.heap.get? b=some o:=λb hb=>by obtain⟨o,e,_⟩:=T.obj _ _ st2 b hb;exact⟨o,e⟩
 have fplt:∀b∈fp,b < s2.heap.objs.size:=λb hb=>by obtain⟨o,e⟩:=hob b hb;exact Ls e
 generalize hs3:({s2 with heap:=s2.heap.push {cls:= .type "list",dict:=none,data:= .seq ([]:List Value).toArray}}:Shared)=s3
 have hh3:s3.heap=s2.heap.push (lobj [] 0):=by rw[<- hs3]
 have hC:s3.heap.objs.size=s2.heap.objs.size+1:=by rw[hh3,MT]
 have keep3:∀b o,s2.heap.get? b=some o->s3.heap.get? b=some o:=λb o e=>by rw[hh3];exact L4 _ e
 have I3:=Cj (own:=own) (ex:=fp) (s3:=s3) S I2 f2 hob hfr hff keep3 (by rw[hC];exact MU _) (by rw[<- hs3]) (by rw[<- hs3]);generalize hs4:({s3 with heap:=pushCells (s3.heap.push {cls:= .type "dict",data:= .dict #[]}) scope.names}:Shared)=s4 at I3
 have keep4:∀b o,s3.heap.get? b=some o->s4.heap.get? b=some o:=λb o e=>by rw[<- hs4];exact Ox _ _ b o (L4 _ e)
 have hD4:s4.heap.get? s2.heap.objs.size=some (lobj [] 0):=keep4 _ _ (by rw[hh3];exact LG _ rfl);have nf:s2.heap.objs.size∉frs X.stack:=λhb=>by
  obtain⟨_,o,e,_⟩:=I2.stack.mem hb;exact absurd (Ls e) (Mr _)
 have hDC:s2.heap.objs.size≠s3.heap.objs.size:=by rw[hC];exact LI (NU _)
 have cellD:∀{P:List (Addr×Obj)} {σ' H' s'} {its:List Value} {n:Nat},Inv (av X (own++free) scope s3.heap.objs.size s2 H2 fp) P σ' H' s'->s'.heap.get? s2.heap.objs.size=some (lobj its n)->∀x c,(fz scope s3.heap.objs.size X.env).cells.lookup x=some c->c≠s2.heap.objs.size:=λI e x c hc z=>by
  obtain⟨v,o,eo,ed⟩:=I.cell x c hc;rw[z,e] at eo;cases eo;cases ed
 have pinD:∀{σ' H' s'} {its:List Value} {n:Nat},Inv (av X (own++free) scope s3.heap.objs.size s2 H2 fp) [] σ' H' s'->s'.heap.get? s2.heap.objs.size=some (lobj its n)->H' s2.heap.objs.size=none ->
   Inv (av X (own++free) scope s3.heap.objs.size s2 H2 fp) [(s2.heap.objs.size,lobj its n)] σ' H' s':=λ{σ' H' s' its n} I e hn=>I.pins_of λp hp=>by
  have hp':p=(s2.heap.objs.size,lobj its n):=Lo.mp hp;subst hp';exact⟨e,hn,hDC,nf,λv=>by intro z;cases z⟩
 have I4:=pinD I3 hD4 (I2.hok.fresh (Lp _));have fpOk:∀{σ' H' s'} {its:List Value} {n:Nat},Inv (av X (own++free) scope s3.heap.objs.size s2 H2 fp) [(s2.heap.objs.size,lobj its n)] σ' H' s'->(∀b∈fp,H' b=none)->∀b∈fp,dJ (av X (own++free) scope s3.heap.objs.size s2 H2 fp) [(s2.heap.objs.size,lobj its n)] H' b:=λ{σ' H' s' its n} I hn b hb=>by
  refine⟨hn b hb,(I.ok.exf b hb).1,I.ok.exfs b hb,.inl hb,(I.ok.exf b hb).2,λp hp=>?_⟩;have hp':p=(s2.heap.objs.size,lobj its n):=Lo.mp hp;subst hp';exact Ne.symm (LI (fplt b hb))
 have stn4:tn 0 s4.heap:=T.keep _ _ _ st2 λb hb o e=>keep4 b o (keep3 b o e)
 have loop:∀s',s'=s4->codeAny (model X.prog X.w) X.A (.compLoop (.ListComp elt [⟨tg,iter,ifs,0⟩] scope pos) 0 (.ref it) (.ref s2.heap.objs.size) (fz scope s3.heap.objs.size X.env)) (RR (.ref s2.heap.objs.size) s3.heap.objs.size) s':=by
  rintro s' rfl;refine Cm (λk s'=>∃i ys its n H',Inv (av X (own++free) scope s3.heap.objs.size s2 H2 fp) [(s2.heap.objs.size,lobj its n)] (own.map (λ_=>none)++dh σ fr) H' s'/\tn i s'.heap/\(∀b∈fp,H' b=none)/\Vals ys its/\ys.length<=sizeLine/\W i k ys H') ?_ m0
   ⟨0,[],[],0,H2,I4,stn4,λb hb=>(f2 b hb).1,.nil,Mz _,w0⟩
  rintro k s5 ⟨i,ys,its,n,H5,I5,st5,fr5,r5,len5,w5⟩;rcases turn i k ys H5 w5 with⟨stop,fin⟩|⟨go,hlt,N,hN,step⟩
  .refine Ma (T.done (av X (own++free) scope s3.heap.objs.size s2 H2 fp) rfl rfl rfl hc i _ s5 _ H5 (λ_ _=>False) I5 (fpOk I5 fr5) st5 stop) (λr s6 ⟨hr,I6⟩=>?_) λ_ _ f=>f.elim
   subst hr;exact hRR _ _ its n ys H5 s6 I6 r5 len5 fin (Lp _)
  .refine Ma (T.item (av X (own++free) scope s3.heap.objs.size s2 H2 fp) rfl rfl rfl hc i _ s5 _ H5 (λ_ _=>False) I5 (fpOk I5 fr5) st5 go) (λr s6 ⟨u,hr,h6⟩=>?_) λ_ _ f=>f.elim
   subst hr;refine Ma h6 (λ_ s7 ⟨x,H7,I7,r7,y7,st7,fr7⟩=>?_) λ_ _ f=>f.elim
   have I7':=I7.pinned (fpOk I7 fr7) (T.obj _ _ st7);refine Ma (hg _ _ _ _ _ s7 _ H7 x u _ I7' r7 (step x H7 y7)) (λ_ s8 ⟨σ8,H8,I8,sub8,q8⟩=>?_) λ_ _ f=>f.elim
   refine Ma (ht _ _ _ _ _ s8 σ8 H8 _ I8 q8) (λb s9 ⟨H9,I9,q9⟩=>?_) λ_ _ f=>f.elim
   have back:∀{H' s'},Inv (av X (own++free) scope s3.heap.objs.size s2 H2 fp) ([(s2.heap.objs.size,lobj its n)]++eT fp s7.heap) σ8 H' s'->tn (i+1) s'.heap/\(∀b∈fp,H' b=none):=λ{H' s'} I=>by
    refine⟨T.keep _ _ _ st7 λb hb o e=>(I.pin (b,o) (Lw _ (Lw _ (j2 hb e)))).1,λb hb=>?_⟩;obtain⟨o,e,d⟩:=T.obj _ _ st7 b hb;exact(I.pin (b,o) (Lw _ (Lw _ (j2 hb e)))).2.1
   cases b with
   |false =>
    obtain⟨m',hm,w9⟩:=hN _ _ q9;obtain⟨st9,fr9⟩:=back I9;exact⟨m',hm,i+1,ys,its,n,H9,I9.unpinned.weak sub8.1 sub8.2,st9,fr9,r5,len5,w9⟩
   |true =>
    refine Ma (he _ _ _ _ _ s9 σ8 H9 _ I9 q9) (λv s10 ⟨y,H10,I10,r10,q10⟩=>?_) λ_ _ f=>f.elim
    obtain⟨m',hm,w10⟩:=hN _ _ q10;obtain⟨st10,fr10⟩:=back I10;have pD:=I10.pin (s2.heap.objs.size,lobj its n) (Lw _ (Lq _ Ly));refine append_at (hsz:=by rw[Lv,<- r5.length];exact len5) pD.1 λh' hsb hnew=>?_
    have J0:Inv (av X (own++free) scope s3.heap.objs.size s2 H2 fp) (eT fp s7.heap) σ8 H10 s10:=I10.pins_of λp hp=>I10.pin p (by
     have hp':p∈eT fp s7.heap:=by simpa [av] using hp
     exact Lw _ (Lw _ hp'))
    have J1:Inv (av X (own++free) scope s3.heap.objs.size s2 H2 fp) (eT fp s7.heap) σ8 H10 {s10 with heap:=h'}:=J0.turned (it:=s2.heap.objs.size) (t':=s10.toks) (λb o hb e=>hsb.extBut b o hb e) pD.2.1 hDC (.inr (Lp _)) (cellD J0 pD.1) (λp hp=>by
     have hp':p∈eT fp s7.heap:=by simpa [av] using hp
     exact LI (fplt _ (qK hp').1))
    have J2:Inv (av X (own++free) scope s3.heap.objs.size s2 H2 fp) [] σ8 H10 {s10 with heap:=h'}:=J1.pins_of λp hp=>absurd hp (by simp[av])
    have st11:tn (i+1) h':=T.keep _ _ _ st10 λb hb o e=>hsb.extBut b o (LI (fplt b hb)) e
    have e11:h'.get? s2.heap.objs.size=some (lobj (its++[v]) (n+1)):=by rw[hnew,List.push_toArray]
    refine⟨m',hm,i+1,ys++[y],its++[v],n+1,H10,(pinD J2 e11 pD.2.1).weak sub8.1 sub8.2,st11,fr10,r5.append (.cons r10 .nil),?_,w10⟩;rw[L7,Om];exact hlt
 refine codeAny_compStart_list (loop _ rfl) (T.self X.A 0 _ _ _ stn4 (loop _ rfl))
theorem r8{σ':St}{H2 H':Hp}{s2 s':Shared}{C D:Addr}{its:List Value}{n:Nat}{ys:List V}{h'':Heap}
  (I2:Inv X pins σ H2 s2)(f2:∀b∈fp,dJ X pins H2 b)(I:Inv (av X N scope C s2 H2 fp) [(D,lobj its n)] σ' H' s')(r:Vals ys its)(hz:ys.length<=sizeLine)(hD:s2.heap.objs.size<=D)(hs:NS C s'.heap h'') :
  Inv X pins σ (upd H' D (.lst ys)) {s' with heap:=h''}/\H' D=none:=by
 have pD:=I.pin (D,lobj its n) (Lw _ Ly);have hCs:s2.heap.objs.size<=C:=I.ok.above;have hDC:D≠C:=pD.2.2.1;have u:Un (frs X.stack) fp H2 H' s2.heap s'.heap:=I.base;have lt2:∀b o,s2.heap.get? b=some o->b≠C/\b≠D:=λb o e=>by
  have:=Ls e;exact⟨LI (LJ this hCs),LI (LJ this hD)⟩
 have tD:∀b o,H2 b=some o->b≠D:=λb o e z=>by
  have:=I2.hok.lt e;rw[z] at this;exact absurd this (Oq.mpr hD)
 have hC':∀b o,H' b=some o->b≠C:=λb o e z=>by
  have:=I.free;rw[show(av X N scope C s2 H2 fp).env.locals=C from rfl,<- z,e] at this;cases this
 have hok1:HOk X.prog X.w H' h'':=λa o e=>(I.hok a o e).stay (λb ob hb eb=>by
   rcases hb with hb|hb
   .rw[hb];rw[hb] at eb;exact hs.extBut _ _ (hC' a o e) eb
   .exact hs.extBut _ _ (hC' b _ hb) eb) (λ_ h=>h) (λ_ _ h=>h)
 have oD:h''.get? D=some (lobj its n):=hs.extBut _ _ hDC pD.1;have hok:HOk X.prog X.w (upd H' D (.lst ys)) h'':=λa o e=>by
  by_cases ha:a=D
  .subst ha;rw[zJ] at e;cases e;exact⟨hz,its,n,r,oD⟩
  .rw[zN ha] at e;refine(hok1 a o e).stay (λb ob _ eb=>eb) (λb h=>?_) (λb xs h=>?_)
   .rw[zN (λz=>by rw[z,pD.2.1] at h;cases h)];exact h
   .rw[zN (λz=>by rw[z,pD.2.1] at h;cases h)];exact h
 have u2:Un (frs X.stack) fp H2 (upd H' D (.lst ys)) s2.heap h'' :=
  {keep:=λb o e hn hf hx=>hs.extBut b o (lt2 b o e).1 (u.keep b o e hn hf hx)
   slot:=λb o e hn hf hx=>by
    obtain⟨sl,q⟩:=u.slot b o e hn hf hx;exact⟨sl,hs.extBut b _ (lt2 b o e).1 q⟩
   free:=λb o e hn hx=>by rw[zN (lt2 b o e).2];exact u.free b o e hn hx
   there:=λb o e hx=>by
    obtain⟨o',q⟩:=u.there b o e hx;exact⟨o',hs.extBut b _ (lt2 b o e).1 q⟩
   tups:=λb xs e=>by rw[zN (tD b _ e)];exact u.tups b xs e
   frzs:=λb o v e=>by rw[zN (tD b _ e)];exact u.frzs b o v e
   tbls:=λb ps e=>by rw[zN (tD b _ e)];exact u.tbls b ps e}
 refine⟨I2.call' (s':={s' with heap:=h''}) (ch:=fp) I.os u2 hok I.bare λb hb=>?_,pD.2.1⟩;have q:=f2 b hb;exact⟨q.2.2.2.1,q.2.1,q.2.2.2.2.1,q.2.2.2.2.2⟩
def iY(own:List Str)(fr:List Nat)(wi:TI)(g:TG)(tc:TT)(te:TE):TE:=λσ H Q=>wi σ H λJ H1=>∃W:Nat->Nat->List V->Hp->Prop,(∃m,W 0 m [] H1) /\
 nI J g tc te (own.map (λ_=>none)++dh σ fr) (λys H'=>∀p,H' p=none->Q (.ref p) (upd H' p (.lst ys))) W
theorem Cn{g:TG}(own free:List Str)(fr:List Nat)(S:fA X scope)(hc:X.calm=true)(hfr:fr.map (λj=>X.N[j]?)=free.map some)(hff:∀x∈free,scope.names.lookup x=some .free)
  (hi:PI X tg iter wi)
  (hg:∀C s H ex,PG (av X (own++free) scope C s H ex) tg g)(ht:∀C s H ex,PTs (av X (own++free) scope C s H ex) ifs tc)(he:∀C s H ex,PE (av X (own++free) scope C s H ex) elt te)
  (hs:∀x,foldedSetIterable iter X.env x=pure x:=by intro _;rfl) :
  PE X (.ListComp elt [⟨tg,iter,ifs,0⟩] scope pos) (iY own fr wi g tc te):=by
 intro pins s σ H Q I h;have hcl:closureFor scope X.env=pure (bw X.env scope.names []):=rW λx hx e=>by
  obtain⟨c,hc⟩:=I.ok.has x.1 (S.free x hx e);rw[hc];rfl
 rw[eval_ListComp];refine OU (use:=none) rfl hs hcl S.kind (λx hx e=>by have:=rY S.nd (show(x.1,x.2)∈scope.names from hx);rw[this,e]) (thn (hi pins s σ H _ I h) λv s1 h1=>thn h1 λitv s2 h2=>?_);obtain⟨it,fp,tn,J,H2,e,I2,T,st2,f2,W,⟨m0,w0⟩,turn⟩:=h2;subst e;refine rZ (RR:=λacc C=>compPost (model X.prog X.w) X.A X.xe none (EP X pins σ Q) acc C) S hc hfr hff hg ht he I2 T st2 f2 w0 turn ?_;intro D C its n ys H' s' I' r hz fin hD;obtain⟨m,hm,_⟩:=I'.loc;refine⟨m,hm,λh'' hsb=>?_⟩;obtain⟨J',hn⟩:=r8 I2 f2 I' r hz hD hsb;exact⟨.ref D,_,J',rfl,fin D hn⟩
theorem Co{g:TG}{i:Nat}{spos:Pos}(own free:List Str)(fr:List Nat)(hN:X.N.Nodup)(hx:X.N[i]? = some x)(hl:X.env.scope.names.lookup x=some .local)
  (S:fA X scope)(hc:X.calm=true)(hfr:fr.map (λj=>X.N[j]?)=free.map some)(hff:∀x∈free,scope.names.lookup x=some .free)
  (hi:PI X tg iter wi)
  (hg:∀C s H ex,PG (av X (own++free) scope C s H ex) tg g)(ht:∀C s H ex,PTs (av X (own++free) scope C s H ex) ifs tc)(he:∀C s H ex,PE (av X (own++free) scope C s H ex) elt te)
  (hsw:swapsWith (.ListComp elt [⟨tg,iter,ifs,0⟩] scope pos) (some (.Name x pos')) spos.line X.env=pure true:=by rfl)
  (hs:∀x,foldedSetIterable iter X.env x=pure x:=by intro _;rfl) :
  PS X (.Assign [.Name x pos'] (.ListComp elt [⟨tg,iter,ifs,0⟩] scope pos) spos) (bF (iY own fr wi g tc te) (cT i)):=by
 intro pins s σ H D0 I h;have hcl:closureFor scope X.env=pure (bw X.env scope.names []):=rW λx hx e=>by
  obtain⟨c,hc⟩:=I.ok.has x.1 (S.free x hx e);rw[hc];rfl
 rw[exec_Assign_Name_used _ _ _ _ hsw];refine L0 (NL (L0 ?_));show wpAny _ X.A (do let _<-comprehension (.ListComp elt [⟨tg,iter,ifs,0⟩] scope pos) scope X.env _ (newList []) false (eval iter X.env) (some (assign (.Name x pos') X.env))) _ _ s;refine L0 (thn (OU (use:=some (assign (.Name x pos') X.env)) (Q:=λ_ s'=>SP X pins D0 .next s') rfl hs hcl S.kind (λx hx e=>by have:=rY S.nd (show(x.1,x.2)∈scope.names from hx);rw[this,e])
  (thn (hi pins s σ H _ I h) λv s1 h1=>thn h1 λitv s2 h2=>?_)) (λ_ s' hq=>L6 (L6 hq)))
 obtain⟨it,fp,tn,J,H2,e,I2,T,st2,f2,W,⟨m0,w0⟩,turn⟩:=h2;subst e;refine rZ (RR:=λacc C=>compPost (model X.prog X.w) X.A X.xe (some (assign (.Name x pos') X.env)) (λ_ s'=>SP X pins D0 .next s') acc C) S hc hfr hff hg ht he I2 T st2 f2 w0 turn ?_;intro D C its n ys H' s' I' r hz fin hD;obtain⟨m,hm,_⟩:=I'.loc;obtain⟨J',hn⟩:=r8 I2 f2 I' r hz hD (Qm C s'.heap);show wpAny _ _ (assign (.Name x pos') X.env (.ref D)) _ _ _;have hCx:(av X (own++free) scope C s2 H2 fp).env.locals=C:=rfl;have hCl:C≠X.env.locals:=by
  have:=I2.lt;have h2:s2.heap.objs.size<=C:=I'.ok.above;exact Ne.symm (LI (LJ this h2))
 refine Qv (qH (s:={s' with heap:=s'.heap}) J' hN hx (.inl hl) (show RelV (.ref D) (.ref D) from rfl) (λs3 I3 ⟨a,sb,ha⟩=>?_) (.inr hl));have haC:C≠a:=by
  rcases ha with rfl|ha
  .exact hCl
  .intro z;obtain⟨v,o,eo,_⟩:=I2.cell x a ha;have h2:s2.heap.objs.size<=C:=I'.ok.above;have:=Ls eo;rw[<- z] at this;exact absurd this (Oq.mpr h2)
 have nsC:s3.heap.Ns C m:=hm.sameBut sb haC;refine⟨m,nsC,λh'' hsb=>?_⟩;refine⟨_,_,?_,fin D hn⟩;have hC2:s2.heap.objs.size<=C:=I'.ok.above;have hCn:(upd H' D (.lst ys)) C=none:=by
  rw[zN (λz=>?_)]
  .exact I'.free
  .exact(I'.pin (D,lobj its n) (Lw _ Ly)).2.2.1 z.symm
 have:=I3.turned (it:=C) (h':=h'') (t':=s3.toks) (λb o hb e=>hsb.extBut b o hb e) hCn hCl (.inr (LU I2.sz hC2)) (λy c hc z=>by
   obtain⟨v,o,eo,_⟩:=I2.cell y c hc;have:=Ls eo;rw[z] at this;exact absurd this (Oq.mpr hC2)) (λp hp z=>by
   have:=Ls (I2.pin p hp).1;rw[z] at this;exact absurd this (Oq.mpr hC2))
 exact this
end
def ci(lo:Int)(n:Nat):List Int:=(MQ n).map λ(i:Nat)=>lo+(i:Int)
theorem r9{n i:Nat}(h:i < n):(ci lo n)[i]? = some (lo+i):=by
 unfold ci;rw[Ln,PH h];rfl
theorem hV(lo:Int)(n:Nat):(ci lo n).length=n:=by simp[ci]
section
def gk(i j:Int):Prop:=0 < j/\j < 2^250
theorem ki:OpR X (binaryOp .FloorDiv) (rI gk λi j=> .int (i / j)):=opI λi j t u s Q E h q=>by
 have e:i.fdiv j=i / j:=Int.fdiv_eq_ediv_of_nonneg i (Int.le_of_lt h.1);rw[<- e] at q;refine floordiv_int (by have:=h.1;omega) q (Ng (PyProof.noPylong_of_log2 ?_));have h2:=h.2;have hn:j.natAbs < 2^250:=by have:=h.1;omega
 exact Sr (Nat.log2_lt (by have:=h.1;omega) |>.mpr hn) (by decide)
theorem kj:∀{ns:List Int} {us:List Value},Vals (ns.map V.int) us->IntsAre us ns
 | [],_,.nil=> .nil
 |_::_,_,.cons ⟨t,rfl⟩ r=> .cons _ _ (kj r)
theorem Cp(hc:X.calm=true):ag X (.builtin "max") (λxs H Q=>∃p ns,xs=[.ref p]/\SqL X.K H p (ns.map V.int)/\ns≠[]/\∀M∈ns,(∀a∈ns,a<=M)->Q (.int M) H):=by
 intro pins s σ H xs us Q I r h;obtain⟨p,ns,rfl,hl,hne,q⟩:=h;obtain⟨u,rfl,rx⟩:=vals1 r;cases rx;obtain⟨its,r',pl,hz⟩:=I.list hl;have hi:=kj r';obtain⟨ys,e⟩:=hi.allInts.items;have hns:ns=ys.toList.map (·.1):=by rw[<- hi.numsOf,<- Sj,<- e]
 have hsz:0 < ys.size:=by
  rcases Q4 ys.size with h0|h0
  .have:ys.toList=[]:=by simpa using h0
   rw[this] at hns;exact absurd hns hne
  .exact h0
 have hl':=pl.isList;rw[e] at hl';refine max_intList (I.ok.hd hc) hl' hsz λv h' tk hv hk=>?_
 obtain⟨t,rfl⟩:=intItems_at hv;obtain⟨h1,h2⟩:=argBest_gt (numAt ys) (ys.size - 1);refine⟨.int _,H,I.kept hk,⟨t,rfl⟩,q _ ?_ λa ha=>?_⟩
 .rw[hns,Rt];exact getD_mem (by rw[L1,LQ];omega)
 .rw[hns] at ha;obtain⟨j,hj,rfl⟩:=mem_getD ha;rw[L1,LQ] at hj;rw[<- Rt];exact h2 j (by omega)
theorem Cq(hc:X.calm=true):ag X (.builtin "min") (λxs H Q=>∃p ns,xs=[.ref p]/\SqL X.K H p (ns.map V.int)/\ns≠[]/\∀M∈ns,(∀a∈ns,M<=a)->Q (.int M) H):=by
 intro pins s σ H xs us Q I r h;obtain⟨p,ns,rfl,hl,hne,q⟩:=h;obtain⟨u,rfl,rx⟩:=vals1 r;cases rx;obtain⟨its,r',pl,hz⟩:=I.list hl;have hi:=kj r';obtain⟨ys,e⟩:=hi.allInts.items;have hns:ns=ys.toList.map (·.1):=by rw[<- hi.numsOf,<- Sj,<- e]
 have hsz:0 < ys.size:=by
  rcases Q4 ys.size with h0|h0
  .have:ys.toList=[]:=by simpa using h0
   rw[this] at hns;exact absurd hns hne
  .exact h0
 have hl':=pl.isList;rw[e] at hl';refine min_intList (I.ok.hd hc) hl' hsz λv h' tk hv hk=>?_
 obtain⟨t,rfl⟩:=intItems_at hv;obtain⟨h1,h2⟩:=argBest_lt (numAt ys) (ys.size - 1);refine⟨.int _,H,I.kept hk,⟨t,rfl⟩,q _ ?_ λa ha=>?_⟩
 .rw[hns,Rt];exact getD_mem (by rw[L1,LQ];omega)
 .rw[hns] at ha;obtain⟨j,hj,rfl⟩:=mem_getD ha;rw[L1,LQ] at hj;rw[<- Rt];exact h2 j (by omega)
theorem Cr:ag X (.builtin "isinstance") (λxs H Q=>∃x c t b,xs=[x,c]/\bX X.K H x t/\(∀u,RelV c u->kitOne X.K t u=some b)/\Q (.bl b) H):=by
 intro pins s σ H xs us Q I r h;obtain⟨x,c,t,b,rfl,ty,e,q⟩:=h;obtain⟨u,v,rfl,ru,rv⟩:=vals2 r;exact Ba I ru ty (e v rv) λtk=>⟨.bl b,H,I.tok tk,rfl,q⟩
end
theorem Cs{s:Shared}{l:Addr}{items:Array Value}{Q:Value->Shared->Prop}(hl:s.heap.IsList l items)
  (h:∀s₂:Shared,s₂={s with heap:=s.heap.push {cls:= .type "list_iterator",data:= .fields #[.ref l,.int 0 0]}}->(s₂.heap.IsListIter s.heap.objs.size l 0/\s₂.heap.IsList l items)->l≠s.heap.objs.size->Q (.ref s.heap.objs.size) s₂) :
  wpAny (model prog w) A (pyIter (.ref l)) Q E s:=by
 have hlt:l < s.heap.objs.size:=by obtain⟨_,e,_⟩:=hl;exact Ls e
 exact OP hl (h _ rfl ⟨⟨_,LG _ rfl,rfl,rfl⟩,hl.push _⟩ (LI hlt))
structure Has(P:Program)(w:World)(K:Frag)(mg:Str->Option Value)(base:Heap)(CX:CXT)(x:Str)(k:Nat)(ps:List Str)(sp:Sp):Prop where
 ex:∃f fd,aa P w K mg base CX k f fd ps sp/\Binds K fd ps []/\keepIn K (.ref f)=true/\mg x=some (.ref f)
section
variable{k:Nat}{E:XK}{p:Pos}{t:TA}
theorem Cu(h:Has X.prog X.w X.K X.mg X.base CX x j ps sp)(hr:bh k X.A)(ha:PA X (e::es) t)(hj:j<=k:=by decide)(hg:Gl X x:=by rfl)(hx:cV CX X E:=by exact hJ)(hdb:(x==("__debug__":Str))=false:=by decide)
  (he:starEach (e::es) X.env=(false,eval e X.env)::starEach es X.env:=by rfl)(hpl:(backTo pos (starEach es X.env)).any (·.1)=false:=by rfl):PE X (.Call (.Name x p) (e::es) [] pos) (g_ sp [] E t):=by
 obtain⟨f,fd,F,b,kp,m⟩:=h.ex;exact Bh (F.mono hj) hr hg m kp b .nil hx ha hdb he hpl
end
theorem aG:bootBuiltins "len"=some (.builtin "len"):=by decide+kernel
theorem Cv:bootBuiltins "abs"=some (.builtin "abs"):=by decide+kernel
theorem Cw:bootBuiltins "max"=some (.builtin "max"):=by decide+kernel
theorem nJ:bootBuiltins "min"=some (.builtin "min"):=by decide+kernel
theorem Cy:bootBuiltins "all"=some (.builtin "all"):=by decide+kernel
theorem gl:bootBuiltins "sorted"=some (.builtin "sorted"):=by decide+kernel
theorem zQ:bootBuiltins "isinstance"=some (.builtin "isinstance"):=by decide+kernel
theorem r_:bootBuiltins "list"=some (.type "list"):=by decide+kernel
theorem dQ:bootBuiltins "tuple"=some (.type "tuple"):=by decide+kernel
theorem Cz:bootBuiltins "int"=some (.type "int"):=by decide+kernel
theorem CA:bootBuiltins "bool"=some (.type "bool"):=by decide+kernel
theorem sd:bootBuiltins "str"=some (.type "str"):=by decide+kernel
theorem se:bootBuiltins "set"=some (.type "set"):=by decide+kernel
structure Blt(mg:Str->Option Value):Prop where
 len:mg "len"=none
 abs:mg "abs"=none
 max:mg "max"=none
 min:mg "min"=none
 all:mg "all"=none
 any:mg "any"=none
 sum:mg "sum"=none
 sorted:mg "sorted"=none
 isinstance:mg "isinstance"=none
 list:mg "list"=none
 tuple:mg "tuple"=none
 int:mg "int"=none
 bool:mg "bool"=none
 str:mg "str"=none
 set:mg "set"=none
 dict:mg "dict"=none
 zip:mg "zip"=none
 range:mg "range"=none
 enumerate:mg "enumerate"=none
 reversed:mg "reversed"=none
 repr:mg "repr"=none
theorem sf{vs:List V}:start N vs=vs.map some++LB (N.length - vs.length) none:=rfl
def km(a:Addr)(H H':Hp):Prop:=∀b,b≠a->H' b=H b
def intOf:Expr->Option Int
 | .Constant (.int i) _ _=>some i
 |_=>none
theorem CB{i:Int}(h:intOf e=some i):∃k pos,e= .Constant (.int i) k pos:=by
 unfold intOf at h;split at h
 .cases h;exact⟨_,_,rfl⟩
 .cases h
def nK(ks:List Int):TA:=λ_ H Q=>Q (ks.map V.int) H
theorem sh{X:Cx}:∀(ks:List Int) {es:List Expr},es.map intOf=ks.map some->PA X es (nK ks)
 | [],[],_=>qZ
 |k::ks,e::es,h=>by
  simp only[LV,R4] at h;obtain⟨n,p,rfl⟩:=CB h.1;have ih:=sh (X:=X) ks h.2;intro pos pins s σ H Q I q;exact q0 (X:=X) qI ih rfl pos pins s σ H Q I q
 | [],_::_,h=>by simp at h
 |_::_,[],h=>by simp at h
mutual
def Dat(K:Frag)(H:Hp):PyData->V->Prop
 | .none,v=>v= .non
 | .bool b,v=>v= .bl b
 | .int i,v=>v= .int i
 | .str x,v=>v= .str x
 | .list ds,v=>∃a xs,v= .ref a/\SqL K H a xs/\bx K H ds xs
 | .tuple ds,v=>∃a xs,v= .ref a/\SqT K H a xs/\bx K H ds xs
 | .dict _,_=>False
def bx(K:Frag)(H:Hp):List PyData->List V->Prop
 | [],xs=>xs=[]
 |d::ds,xs=>∃x r,xs=x::r/\Dat K H d x/\bx K H ds r
end
theorem bx.nil:bx K H [] []:=by unfold bx;rfl
theorem bx.cons{d:PyData}{x:V}(a:Dat K H d x)(b:bx K H ds xs):bx K H (d::ds) (x::xs):=by unfold bx;exact⟨x,xs,rfl,a,b⟩
theorem Dat.i{K:Frag}{H:Hp}{i:Int}:Dat K H (.int i) (.int i):=by unfold Dat;rfl
theorem Dat.s:Dat K H (.str x) (.str x):=by unfold Dat;rfl
theorem Dat.b{x:Bool}:Dat K H (.bool x) (.bl x):=by unfold Dat;rfl
theorem Dat.n:Dat K H .none .non:=by unfold Dat;rfl
theorem Dat.tup(h:SqT K H a xs)(b:bx K H ds xs):Dat K H (.tuple ds) (.ref a):=by unfold Dat;exact⟨a,xs,rfl,h,b⟩
theorem Dat.lst(h:SqL K H a xs)(b:bx K H ds xs):Dat K H (.list ds) (.ref a):=by unfold Dat;exact⟨a,xs,rfl,h,b⟩
section
variable{s:Shared}
mutual
theorem Dat.reads(I:Inv X pins σ H s):∀{d:PyData} {v:V} {u:Value},Dat X.K H d v->RelV v u->∃as,Reads s.heap u d as
 | .none,v,u,h,r=>by unfold Dat at h;subst h;cases r;exact⟨_,.none⟩
 | .bool b,v,u,h,r=>by unfold Dat at h;subst h;cases r;exact⟨_,.bool b⟩
 | .int i,v,u,h,r=>by unfold Dat at h;subst h;obtain⟨t,rfl⟩:=r;exact⟨_,.int i t⟩
 | .str x,v,u,h,r=>by unfold Dat at h;subst h;obtain⟨t,rfl⟩:=r;exact⟨_,.str x t⟩
 | .list ds,v,u,h,r=>by
  unfold Dat at h;obtain⟨a,xs,rfl,hl,hd⟩:=h;cases r;obtain⟨its,r',pl,hz⟩:=I.list hl;obtain⟨as,q⟩:=bx.reads I hd r';obtain⟨o,ho,hc,n,hdt⟩:=pl.isList;exact⟨_,.list ho hc hdt (by simpa using q)⟩
 | .tuple ds,v,u,h,r=>by
  unfold Dat at h;obtain⟨a,xs,rfl,hl,hd⟩:=h;cases r;obtain⟨its,r',pl,hz⟩:=I.tuple hl;obtain⟨as,q⟩:=bx.reads I hd r';obtain⟨o,ho,hc,n,hdt⟩:=pl;exact⟨_,.tuple ho hc hdt (by simpa using q)⟩
 | .dict _,v,u,h,r=>by unfold Dat at h;exact h.elim
theorem bx.reads(I:Inv X pins σ H s):∀{ds:List PyData} {xs:List V} {us:List Value},bx X.K H ds xs->Vals xs us->∃as,ReadsAll s.heap us ds as
 | [],xs,us,h,r=>by unfold bx at h;subst h;cases r;exact⟨_,.nil⟩
 |d::ds,xs,us,h,r=>by
  unfold bx at h;obtain⟨x,rs,rfl,h1,h2⟩:=h;cases r with
  |cons ru rr =>
   obtain⟨as,q⟩:=Dat.reads I h1 ru;obtain⟨bs,q2⟩:=bx.reads I h2 rr;exact⟨_,.cons q q2⟩
end
end
structure cX(d:PyData):Prop where
 lay:d.canLay0=true
 deep:d.depth<=60
section
variable{k:Nat}
theorem CC(hr:au cm k X.A):OpR X (compareOp .Eq) (λx y H Q=>∃d d',Dat X.K H d x/\Dat X.K H d' y/\cX d/\cX d'/\Q (.bl (PyData.eqv d d')) H):=by
 intro pins s σ H x y v u Q I rx ry h;obtain⟨d,d',h1,h2,o1,o2,q⟩:=h;obtain⟨as,r1⟩:=h1.reads I rx;obtain⟨bs,r2⟩:=h2.reads I ry;refine SeqAt.compareEq_reads r1 r2 o1.lay o2.lay ?_ ⟨.bl _,H,I,rfl,q⟩;have:=hr.units;have:=o1.deep;omega
theorem CD(hr:au cm k X.A):OpR X (compareOp .NotEq) (λx y H Q=>∃d d',Dat X.K H d x/\Dat X.K H d' y/\cX d/\cX d'/\Q (.bl (!PyData.eqv d d')) H):=by
 intro pins s σ H x y v u Q I rx ry h;obtain⟨d,d',h1,h2,o1,o2,q⟩:=h;obtain⟨as,r1⟩:=h1.reads I rx;obtain⟨bs,r2⟩:=h2.reads I ry;refine SeqAt.compareNe_reads r1 r2 o1.lay o2.lay ?_ ⟨.bl _,H,I,rfl,q⟩;have:=hr.units;have:=o1.deep;omega
end
theorem CF(i j:List PyData):PyData.eqv (.list i) (.list j)=PyData.eqvAll i j:=by unfold PyData.eqv;rfl
theorem all_range(bs:List Bool):(MQ bs.length).all (λi=>bs.getD i true)=bs.all id:=by
 rw[O4,Me,Me];constructor
 .intro h x hx;obtain⟨i,hi,e⟩:=List.mem_iff_getElem.mp hx;have:=h i (NE.mpr hi);rw[Mg,LC hi] at this;rw[<- e];exact this
 .intro h i hi;have hi':=NE.mp hi;rw[Mg,LC hi'];exact h _ (List.getElem_mem hi')
theorem si:∀{bs:List Bool} {us:List Value},Vals (bs.map V.bl) us->us=bs.map Oo
 | [],_,.nil=>rfl
 |_::_,_,.cons r t=>by cases r;rw[si t];rfl
section
theorem CG(hc:X.calm=true):ag X (.builtin "all") (λxs H Q=>∃(p:Addr) (bs:List Bool),xs=[.ref p]/\SqL X.K H p (bs.map V.bl)/\Q (.bl (bs.all id)) H):=by
 intro pins s σ H xs us Q I r h;obtain⟨p,bs,rfl,hl,q⟩:=h;obtain⟨u,rfl,rx⟩:=vals1 r;cases rx;obtain⟨its,r',pl,hz⟩:=I.list hl;have e:=si r';subst e;refine call_all_walk (Cs pl.isList λs₂ e2 st hne=>?_);subst e2;refine⟨_,_,_,_,_,_,λi=>bs.getD i true,rfl,Walks.list (A:=X.A.in1) (I.ok.hd hc) s.heap.objs.size p hne _,st,λi v s3 Q3 E3 hP hQ=>?_,λh' tk hk=>?_⟩
 .have hP':(bs.map Oo)[i]? = some v:=by simpa using hP
  rw[Ln] at hP';cases eb:bs[i]? with
  |none=>rw[eb] at hP';cases hP'
  |some b =>
   rw[eb] at hP';cases hP';refine MJ ?_;dsimp only at hQ;rw[Mg,eb] at hQ;exact hQ
 .rw[Lv,L1,all_range];refine⟨.bl _,H,I.kept (λb o e=>hk b o (λz=>?_) (L4 _ e)),rfl,q⟩;rw[Lo] at z;exact absurd (z▸Ls e) (Mr _)
end
structure WE(X:Cx)(e:Expr)(t:TE):Prop where out:PE X e t
structure WT(X:Cx)(e:Expr)(t:TT):Prop where out:PT X e t
structure WW(X:Cx)(e:Expr)(t:TT):Prop where out:PW X e t
structure WA(X:Cx)(es:List Expr)(t:TA):Prop where out:PA X es t
structure WS(X:Cx)(s:Stmt)(t:TS):Prop where out:PS X s t
structure WSs(X:Cx)(s:List Stmt)(t:TS):Prop where out:PSs X s t
structure WG(X:Cx)(e:Expr)(t:TG):Prop where out:PG X e t
structure WGs(X:Cx)(e:List Expr)(t:TGs):Prop where out:PGs X e t
structure WI(X:Cx)(tg e:Expr)(t:TI):Prop where out:PI X tg e t
structure WTs(X:Cx)(e:List Expr)(t:TT):Prop where out:PTs X e t
structure WK(X:Cx)(e:List Keyword)(t:TA):Prop where out:PK X e t
structure WO(X:Cx)(e:Option Expr)(t:TO):Prop where out:PO X e t
section
variable{a b c o:Expr}{rest:List Expr}{ta tb tc to:TE}{t u:TT}{p apos cpos p2:Pos}{tA:TA}
theorem qv(i:Nat)(hN:X.N[i]? = some x:=by rfl)(hv:Vis X.env.scope x:=by first|exact Ng rfl|exact Ss (Ng rfl)|exact Ss (Ss rfl))(hd:(x==("__debug__":Str))=false:=by decide)
  (hcd:(x==("__classdict__":Str))=false:=by decide):WE X (.Name x pos) (aH i):=⟨Ah hN hv hd hcd⟩
theorem zq{i j pos}:WE X (.Constant (.int i) j pos) (tC (.int i)):=⟨qI⟩
theorem gm{b j pos}:WE X (.Constant (.bool b) j pos) (tC (.bl b)):=⟨Ai⟩
theorem zO{x j pos}:WE X (.Constant (.str x) j pos) (tC (.str x)):=⟨Aj⟩
theorem aR{v:V}{u:Value}(hg:Gl X x)(hm:X.mg x=some u)(r:RelV v u)(hd:(x==("__debug__":Str))=false:=by decide):WE X (.Name x pos) (tC v):=⟨Ak hg hm r hd⟩
theorem nL{v:V}{u:Value}(hg:Gl X x)(hm:X.mg x=none)(hv:bootBuiltins x=some u)(r:RelV v u)(hn:x≠"__name__":=by decide)(hd:(x==("__debug__":Str))=false:=by decide):WE X (.Name x pos) (tC v):=⟨Al hg hm hv r hn hd⟩
theorem af{op:Operator}(ho:OpR X (binaryOp op) r)(ha:WE X a ta)(hb:WE X b tb):WE X (.BinOp a op b pos) (tOp r ta tb):=⟨AO ho ha.out hb.out⟩
theorem iZ{op:UnaryOp}{r:V->Hp->VK->Prop}(ho:UnR X (unaryOp op) r)(ha:WE X a ta):WE X (.UnaryOp op a pos) (tUn r ta):=⟨AQ ho ha.out⟩
theorem nM(ho:OpR X (compareOp op) r)(ha:WE X a ta)(hb:WE X b tb)(hm:behindInMarks op b=false):WE X (.Compare a [op] [b] pos) (tOp r ta tb):=⟨AU ho ha.out hb.out hm⟩
theorem zF(ho:OpR X (compareOp op) r)(ha:WE X a ta)(hb:WE X b tb)(hm:behindInMarks op b=false):WT X (.Compare a [op] [b] pos) (f_ (tOp r ta tb)):=⟨AV ho ha.out hb.out hm⟩
theorem CH{op':CmpOp}{r':R2}(ho:OpR X (compareOp op) r)(ho':OpR X (compareOp op') r')(ha:WE X a ta)(hb:WE X b tb)(hc:WE X c tc)(hm:lastMarks [op,op'] [b,c]=false:=by with_unfolding_all rfl):WE X (.Compare a [op,op'] [b,c] pos) (iO r r' ta tb tc):=⟨AW ho ho' ha.out hb.out hc.out hm⟩
theorem ko{op':CmpOp}{r':R2}(ho:OpR X (compareOp op) r)(ho':OpR X (compareOp op') r')(ha:WE X a ta)(hb:WE X b tb)(hc:WE X c tc)(hm:lastMarks [op,op'] [b,c]=false:=by with_unfolding_all rfl):WT X (.Compare a [op,op'] [b,c] pos) (f_ (iO r r' ta tb tc)):=⟨AX ho ho' ha.out hb.out hc.out hm⟩
theorem aZ{t:TE}(h:WE X e t)(he:∀whole,isTrue e X.env whole=(do let v<-whole;standAt e.pos;holding [v] (truthy v)):=by intro _;rfl):WT X e (tB t):=⟨Am h.out he⟩
theorem kq(ha:WT X a t):WW X (.BoolOp .And [a] pos) t:=⟨An ha.out⟩
theorem dR(ha:WT X a t):WW X (.BoolOp .Or [a] pos) t:=⟨Ao ha.out⟩
theorem kt(ha:WT X a t)(hb:WW X (.BoolOp .And (b::rest) pos) u):WW X (.BoolOp .And (a::b::rest) pos) (mM t u):=⟨Ap ha.out hb.out⟩
theorem dS(ha:WT X a t)(hb:WW X (.BoolOp .Or (b::rest) pos) u):WW X (.BoolOp .Or (a::b::rest) pos) (tOr t u):=⟨Aq ha.out hb.out⟩
theorem WW.qt(h:WW X e t):WT X e t:=⟨h.out.pt⟩
theorem fB(ha:WT X a t):WT X (.UnaryOp .Not a pos) (mO t):=⟨Ar ha.out⟩
theorem nN{op}{t:TE}(h:WE X a t):WE X (.BoolOp op [a] pos) t:=⟨As h.out⟩
theorem nO(ha:WE X a ta)(hb:WE X (.BoolOp .And (b::rest) pos) tb):WE X (.BoolOp .And (a::b::rest) pos) (mP ta tb):=⟨At ha.out hb.out⟩
theorem CI(ha:WE X a ta):WE X (.UnaryOp .Not a pos) (mQ ta):=⟨Au ha.out⟩
theorem cE:WA X [] cg:=⟨qZ⟩
theorem zA(ha:WE X e te)(hr:WA X es tA)(hs:starEach (e::es) X.env=(false,eval e X.env)::starEach es X.env:=by rfl):WA X (e::es) (cU te tA):=⟨q0 ha.out hr.out hs⟩
theorem sj(ks:List Int)(h:es.map intOf=ks.map some):WA X es (nK ks):=⟨sh ks h⟩
theorem cY{x1}(h:WA X es tA):WE X (.Tuple es x1 pos) (nb tA):=⟨Be h.out⟩
theorem bz(h:WA X es tA):WE X (.List es pos) (j8 tA):=⟨Bf h.out⟩
theorem cZ(hr:IxR X r)(ha:WE X a ta)(hb:WE X b tb)(hs:nq b):WE X (.Subscript a b pos) (tOp r ta tb):=⟨Bx hr ha.out hb.out hs⟩
theorem i0:WO X none nh:=⟨Bt⟩
theorem gn(h:WE X e te):WO X (some e) (ni te):=⟨Bu h.out⟩
theorem hW{lo hi:Option Expr}{tl th:TO}{r:V->Option Int->Option Int->Hp->VK->Prop}(hr:SlR X r)(he:WE X e te)(hl:WO X lo tl)(hu:WO X hi th):WE X (.Subscript e (.Slice lo hi none p2) pos) (tSl r te tl th):=⟨Bv hr he.out hl.out hu.out⟩
theorem zu{id:String}{r:List V->Hp->VK->Prop}(hc:ag X (.builtin id) r)(hg:Gl X x)(hm:X.mg x=none)(hv:bootBuiltins x=some (.builtin id))(ha:WA X (e::es) tA)(hn:x≠"__name__":=by decide)(hdb:(x==("__debug__":Str))=false:=by decide)
  (he:starEach (e::es) X.env=(false,eval e X.env)::starEach es X.env:=by rfl)(hpl:(backTo pos (starEach es X.env)).any (·.1)=false:=by rfl):WE X (.Call (.Name x p) (e::es) [] pos) (tCB r tA):=⟨Bl hc hg hm hv ha.out hn hdb he hpl⟩
theorem bZ{r:List V->Hp->VK->Prop}(hc:ag X (.type T) r)(hg:Gl X x)(hm:X.mg x=none)(hv:bootBuiltins x=some (.type T))(ha:WA X (e::es) tA)(hn:x≠"__name__":=by decide)(hdb:(x==("__debug__":Str))=false:=by decide)
  (he:starEach (e::es) X.env=(false,eval e X.env)::starEach es X.env:=by rfl)(hpl:(backTo pos (starEach es X.env)).any (·.1)=false:=by rfl):WE X (.Call (.Name x p) (e::es) [] pos) (tCB r tA):=⟨Bm hc hg hm hv ha.out hn hdb he hpl⟩
theorem zE{k:Nat}{E:XK}(h:Has X.prog X.w X.K X.mg X.base CX x j ps sp)(hr:bh k X.A)(ha:WA X (e::es) tA)(hj:j<=k:=by decide)(hg:Gl X x:=by rfl)(hx:cV CX X E:=by exact hJ)(hdb:(x==("__debug__":Str))=false:=by decide)
  (he:starEach (e::es) X.env=(false,eval e X.env)::starEach es X.env:=by rfl)(hpl:(backTo pos (starEach es X.env)).any (·.1)=false:=by rfl):WE X (.Call (.Name x p) (e::es) [] pos) (g_ sp [] E tA):=⟨Cu h hr ha.out hj hg hx hdb he hpl⟩
theorem aF:WK X [] cg:=⟨Bi⟩
theorem sr{nm:Option Str}{kpos:Pos}{kws:List Keyword}{tk:TA}(ha:WE X e te)(hr:WK X kws tk):WK X (⟨nm,e,kpos⟩::kws) (cU te tk):=⟨Bj ha.out hr.out⟩
structure h_(P:Program)(w:World)(K:Frag)(mg:Str->Option Value)(base:Heap)(CX:CXT)(x:Str)(k:Nat)(ps:List Str)(sp:Sp)(ks:List Str)(gV:List V->List V->List V):Prop where
 ex:∃f fd g,aa P w K mg base CX k f fd ps sp/\dc K fd ps ks g gV/\keepIn K (.ref f)=true/\mg x=some (.ref f)
theorem CJ{f:Str}(he:WE X e ta)(hb:attributeBase e f X.env (eval e X.env)=eval e X.env):WE X (.Attribute e f pos) (j6 X.K ta f):=⟨A9 he.out hb⟩
theorem CK{name:Str}{id:String}{r:V->List V->Hp->VK->Prop}(pa:PlainAttrs T)(slot:Slot T name id)(hty:typeOf (.builtin id)=pure (.type "method_descriptor"))(hm:MtR X id r)(ho:WE X o to)(ha:WA X (e::es) tA)
  (hbase:attributeBase o name X.env (eval o X.env)=eval o X.env:=by rfl)
  (hfew:((backTo cpos (starEach (e::es) X.env)).all (λx=> !x.1)&&(backToKw cpos (keywordEach [] X.env)).all (λx=>x.1.isSome)&&decide ((e::es).length+([]:List Keyword).length+(if ([]:List Keyword).isEmpty then 0 else 1) < 30))=true:=by rfl)
  (hline:(apos.endLine==cpos.line)=true:=by rfl)(hs:starEach (e::es) X.env=(false,eval e X.env)::starEach es X.env:=by rfl)(hplain:(backTo cpos (starEach es X.env)).any (·.1)=false:=by rfl) :
  WE X (.Call (.Attribute o name apos) (e::es) [] cpos) (tBM X.K T r to tA):=⟨BL pa slot hty hm ho.out ha.out hbase hfew hline hs hplain⟩
variable{sts:List Stmt}{ts us:TS}
theorem zH:WSs X [] mR:=⟨mS⟩
theorem zf(h1:WS X st ts)(h2:WSs X sts us):WSs X (st::sts) (dH ts us):=⟨Aw h1.out h2.out⟩
theorem zg(h1:WS X st ts):WSs X [st] ts:=⟨Ax h1.out⟩
theorem dU:WS X st mU:=⟨AB⟩
theorem zB(he:WE X e te)(hs:swapsWith e none pos.line X.env=pure false:=by rfl):WS X (.Expr e pos) (mT te):=⟨Ay he.out hs⟩
theorem ao(he:WE X e te):WS X (.Return (some e) pos) (fZ te):=⟨Az he.out⟩
theorem zX{ba bb:List Stmt}(hc:WT X c t)(ha:WSs X ba ts)(hb:WSs X bb us):WS X (.If c ba bb pos) (jY t ts us):=⟨AA hc.out ha.out hb.out⟩
theorem b6{body:List Stmt}{g:TG}(hp:PassesOwn (model X.prog X.w) X.A X.env X.xe)(hc:X.calm=true)(hi:WI X tg iter wi)(hg:WG X tg g)(hb:WSs X body ts)
  (hs:∀x,foldedSetIterable iter X.env x=pure x:=by intro _;rfl):WS X (.For tg iter body [] pos) (mZ wi g ts):=⟨AN hp hc hi.out hg.out hb.out hs⟩
theorem bJ{i:Nat}(hN:X.N.Nodup)(hi:X.N[i]? = some x)(hx:Loc X.env.scope x)(hf:X.fn x=true\/X.env.scope.names.lookup x=some .local:=by first|exact .inl rfl|exact .inr rfl|assumption):WG X (.Name x pos) (cT i):=⟨AC hN hi hx hf⟩
theorem su:WGs X [] mW:=⟨AD⟩
theorem gp{g:TG}(h1:WG X e g)(h2:WGs X es gs)(hs:(assignEach (e::es) X.env).map (·.2)=assign e X.env::(assignEach es X.env).map (·.2):=by rfl):WGs X (e::es) (mX g gs):=⟨AE h1.out h2.out hs⟩
theorem CL{k:Nat}{n:Nat}(hc:X.calm=true)(h:WGs X es gs)(hn:(assignEach es X.env).length=n:=by rfl)(hst:(assignEach es X.env).findIdx? (·.1)=none:=by rfl):WG X (.Tuple es k pos) (j0 X.K n gs):=⟨qJ hc h.out hn hst⟩
theorem ku{i:Expr}{ti:TE}{tS:jZ}(ho:WE X o to)(hi:WE X i ti)(hs:mV X tS)
  (ha:∀v,assign (.Subscript o i pos) X.env v=(do
    let ov<-holding [v] (eval o X.env)
    let iv<-holding [v,ov] (eval i X.env)
    standAt pos
    holding [v,ov,iv] (setItem ov iv v)
    release [v,ov,iv] []):=by intro _;rfl):WG X (.Subscript o i pos) (fw to ti tS):=⟨AF ho.out hi.out hs ha⟩
theorem i4{g:TG}(he:WE X e te)(hg:WG X tg g)(hs:swapsWithSole [tg] e pos.line X.env=pure false:=by rfl)(hw:swappedStores [tg] e X.env=pure none:=by rfl)(h1:(assignEach [tg] X.env).map (·.2)=[assign tg X.env]:=by rfl):WS X (.Assign [tg] e pos) (bF te g):=⟨AG he.out hg.out hs hw h1⟩
theorem ky{i:Nat}(hN:X.N.Nodup)(hi:X.N[i]? = some x)(hx:Loc X.env.scope x)(he:WE X e te)(hs:swapsWith e (some (.Name x pos')) pos.line X.env=pure false:=by rfl)
  (hf:X.fn x=true\/X.env.scope.names.lookup x=some .local:=by first|exact .inl rfl|exact .inr rfl|assumption):WS X (.Assign [.Name x pos'] e pos) (bF te (cT i)):=⟨AH hN hi hx he.out hs hf⟩
theorem CM{value:Expr}{tv:TE}{f:Str}(ha:WE X o ta)(hv:WE X value tv)(hs:swapsWith value (some (.Attribute o f pos')) pos.line X.env=pure false):WS X (.Assign [.Attribute o f pos'] value pos) (j7 X.K ta tv f):=⟨A_ ha.out hv.out hs⟩
theorem dW(hg:Gl X "range")(hm:X.mg "range"=none)(ha:WA X [a] tA)(hs:starEach [a] X.env=[(false,eval a X.env)]:=by rfl):WI X tg (.Call (.Name "range" p) [a] [] pos) (mY tA):=⟨AM hg hm ha.out hs⟩
theorem gq:WTs X [] nH:=⟨Ck⟩
theorem dX(h:WT X c t):WTs X [c] t:=⟨Cl h.out⟩
theorem fC{g:TG}{tc:TT}(own free:List Str)(fr:List Nat)(S:fA X scope)(hc:X.calm=true)(hfr:fr.map (λj=>X.N[j]?)=free.map some)(hff:∀x∈free,scope.names.lookup x=some .free)
  (hi:WI X tg iter wi)(hg:∀C s H ex,WG (av X (own++free) scope C s H ex) tg g)(ht:∀C s H ex,WTs (av X (own++free) scope C s H ex) ifs tc)(he:∀C s H ex,WE (av X (own++free) scope C s H ex) elt te)
  (hs:∀x,foldedSetIterable iter X.env x=pure x:=by intro _;rfl):WE X (.ListComp elt [⟨tg,iter,ifs,0⟩] scope pos) (iY own fr wi g tc te) :=
 ⟨Cn own free fr S hc hfr hff hi.out (λC s H ex=>(hg C s H ex).out) (λC s H ex=>(ht C s H ex).out) (λC s H ex=>(he C s H ex).out) hs⟩
theorem eW{g:TG}{tc:TT}{i:Nat}{spos:Pos}(own free:List Str)(fr:List Nat)(hN:X.N.Nodup)(hx:X.N[i]? = some x)(hl:X.env.scope.names.lookup x=some .local)
  (S:fA X scope)(hc:X.calm=true)(hfr:fr.map (λj=>X.N[j]?)=free.map some)(hff:∀x∈free,scope.names.lookup x=some .free)
  (hi:WI X tg iter wi)(hg:∀C s H ex,WG (av X (own++free) scope C s H ex) tg g)(ht:∀C s H ex,WTs (av X (own++free) scope C s H ex) ifs tc)(he:∀C s H ex,WE (av X (own++free) scope C s H ex) elt te)
  (hsw:swapsWith (.ListComp elt [⟨tg,iter,ifs,0⟩] scope pos) (some (.Name x pos')) spos.line X.env=pure true:=by rfl)
  (hs:∀x,foldedSetIterable iter X.env x=pure x:=by intro _;rfl):WS X (.Assign [.Name x pos'] (.ListComp elt [⟨tg,iter,ifs,0⟩] scope pos) spos) (bF (iY own fr wi g tc te) (cT i)) :=
 ⟨Co own free fr hN hx hl S hc hfr hff hi.out (λC s H ex=>(hg C s H ex).out) (λC s H ex=>(ht C s H ex).out) (λC s H ex=>(he C s H ex).out) hsw hs⟩
end
section
variable(K:Frag)
theorem dk(h:X.K=K:=by rfl):IxR X (de K):=h▸rG
theorem CN(h:X.K=K:=by rfl):SlR X (nr K):=h▸rH
theorem CO(h:X.K=K:=by rfl):OpR X (compareOp .In) (rIn K false):=h▸BF
theorem CP(h:X.K=K:=by rfl):OpR X (compareOp .NotIn) (rIn K true):=h▸BG
theorem CQ(h:X.K=K:=by rfl):ag X (.builtin "len") (λxs H Q=>∃p ys,xs=[.ref p]/\(SqL K H p ys\/SqT K H p ys)/\Q (.int ys.length) H):=h▸rK
theorem sv(h:X.K=K:=by rfl):ag X (.type "list") (λxs H Q=>∃p ys,xs=[.ref p]/\(SqL K H p ys\/SqT K H p ys)/\∀l,H l=none->Q (.ref l) (upd H l (.lst ys))):=h▸BI
theorem CS(h:X.K=K:=by rfl):ag X (.type "tuple") (λxs H Q=>∃p ys,xs=[.ref p]/\((SqL K H p ys/\∀l,H l=none->Q (.ref l) (upd H l (.tup ys)))\/(SqT K H p ys/\Q (.ref p) H))):=h▸BJ
theorem CT(hc:X.calm=true)(h:X.K=K:=by rfl):ag X (.builtin "max") (λxs H Q=>∃p ns,xs=[.ref p]/\SqL K H p (ns.map V.int)/\ns≠[]/\∀M∈ns,(∀a∈ns,a<=M)->Q (.int M) H):=h▸Cp hc
theorem CU(hc:X.calm=true)(h:X.K=K:=by rfl):ag X (.builtin "min") (λxs H Q=>∃p ns,xs=[.ref p]/\SqL K H p (ns.map V.int)/\ns≠[]/\∀M∈ns,(∀a∈ns,M<=a)->Q (.int M) H):=h▸Cq hc
theorem CV(hc:X.calm=true)(h:X.K=K:=by rfl):ag X (.builtin "all") (λxs H Q=>∃(p:Addr) (bs:List Bool),xs=[.ref p]/\SqL K H p (bs.map V.bl)/\Q (.bl (bs.all id)) H):=h▸CG hc
theorem CW(h:X.K=K:=by rfl):ag X (.builtin "isinstance") (λxs H Q=>∃x c t b,xs=[x,c]/\bX K H x t/\(∀u,RelV c u->kitOne K t u=some b)/\Q (.bl b) H):=h▸Cr
theorem CY{k:Nat}(hr:au cm k X.A)(h:X.K=K:=by rfl):OpR X (compareOp .Eq) (λx y H Q=>∃d d',Dat K H d x/\Dat K H d' y/\cX d/\cX d'/\Q (.bl (PyData.eqv d d')) H):=h▸CC hr
theorem CZ{k:Nat}(hr:au cm k X.A)(h:X.K=K:=by rfl):OpR X (compareOp .NotEq) (λx y H Q=>∃d d',Dat K H d x/\Dat K H d' y/\cX d/\cX d'/\Q (.bl (!PyData.eqv d d')) H):=h▸CD hr
variable{a o:Expr}{ta to:TE}{tA:TA}{apos cpos:Pos}
theorem C1{k:Nat}{n:Nat}(hc:X.calm=true)(hg:WGs X es gs)(h:X.K=K:=by rfl)(hn:(assignEach es X.env).length=n:=by rfl)(hst:(assignEach es X.env).findIdx? (·.1)=none:=by rfl):WG X (.Tuple es k pos) (j0 K n gs):=h▸CL hc hg hn hst
theorem aN{f:Str}(he:WE X e ta)(h:X.K=K:=by rfl)(hb:attributeBase e f X.env (eval e X.env)=eval e X.env:=by rfl):WE X (.Attribute e f pos) (j6 K ta f):=h▸CJ he hb
theorem sw{value:Expr}{tv:TE}{f:Str}(ha:WE X o ta)(hv:WE X value tv)(h:X.K=K:=by rfl)(hs:swapsWith value (some (.Attribute o f pos')) pos.line X.env=pure false:=by rfl):WS X (.Assign [.Attribute o f pos'] value pos) (j7 K ta tv f):=h▸CM ha hv hs
theorem aK{name:Str}{id:String}{r:V->List V->Hp->VK->Prop}(pa:PlainAttrs T)(slot:Slot T name id)(hty:typeOf (.builtin id)=pure (.type "method_descriptor"))(hm:MtR X id r)(ho:WE X o to)(ha:WA X (e::es) tA)(h:X.K=K:=by rfl)
  (hbase:attributeBase o name X.env (eval o X.env)=eval o X.env:=by rfl)
  (hfew:((backTo cpos (starEach (e::es) X.env)).all (λx=> !x.1)&&(backToKw cpos (keywordEach [] X.env)).all (λx=>x.1.isSome)&&decide ((e::es).length+([]:List Keyword).length+(if ([]:List Keyword).isEmpty then 0 else 1) < 30))=true:=by rfl)
  (hline:(apos.endLine==cpos.line)=true:=by rfl)(hs:starEach (e::es) X.env=(false,eval e X.env)::starEach es X.env:=by rfl)(hplain:(backTo cpos (starEach es X.env)).any (·.1)=false:=by rfl) :
  WE X (.Call (.Attribute o name apos) (e::es) [] cpos) (tBM K T r to tA):=h▸CK pa slot hty hm ho ha hbase hfew hline hs hplain
end
theorem C2{α:Type}{l:List α}(h:l.length=2):∃a b,l=[a,b]:=match l,h with | [a,b],_=>⟨a,b,rfl⟩
def gr:Value->Option Int
 | .int i _=>some i
 |_=>none
theorem eX{u:Value}{i:Int}(h:gr u=some i):RelV (.int i) u:=by
 cases u<;>simp[gr] at h
 subst h;exact⟨_,rfl⟩
section
variable{base:Heap}
theorem Fun.okq{k:Nat}(F:Fun K x qual st f fd)(S:zP N ps (zz st))(len:∀vs H Q E,sp vs H Q E->vs.length=ps.length)
  (hbody:∀(cdv:Value) (A:Around) (outer:List Env) (s:Shared) (H:Hp) (vs:List V) (Q:VK) (E:XK),bh k (A.deeper (envOfC qual (zz st) s.heap.objs.size f cdv))->sp vs H Q E ->
   ∃t,WSs (bR CX0 P w K mg base N qual (zz st) f cdv A outer s H E).nox (bY st) t/\t {nx:=λ_ H'=>Q .non H',rt:=Q} (start N vs) H):aa P w K mg base CX0 (k+1) f fd ps sp :=
 F.ok S len λcdv A outer s H vs Q E hr h=>by
  obtain⟨t,ht,q⟩:=hbody cdv A outer s H vs Q E hr h;exact⟨t,ht.out,q⟩
end
section
end
theorem C3(h:x.cps.toList=y.cps.toList):x=y:=by
 cases x;cases y;simp only[P9];exact Nn.mp h
theorem kz:∀{ys:List Str} {us:List Value},Vals (ys.map V.str) us->StrsAre us ys
 | [],_,.nil=> .nil
 |_::_,_,.cons ⟨t,rfl⟩ r=> .cons _ _ (kz r)
theorem sy(sep:Str):∀(rest:List Str) (x:Str),(⟨rest.foldl (λacc p=>acc++sep.cps++p.cps) x.cps⟩:Str)=Nx sep (x::rest)
 | [],x=>rfl
 |y::r,x=>by
  have ih:=sy sep r ⟨x.cps++sep.cps++y.cps⟩;show(⟨r.foldl (λacc p=>acc++sep.cps++p.cps) (x.cps++sep.cps++y.cps)⟩:Str)=x++sep++Nx sep (y::r);rw[ih];cases r with
  |nil=>rfl
  |cons z r' =>
   show(⟨x.cps++sep.cps++y.cps⟩:Str)++sep++Nx sep (z::r')=x++sep++(y++sep++Nx sep (z::r'));apply C3;have e:∀a b:Str,(a++b).cps.toList=a.cps.toList++b.cps.toList:=λa b=>by
    show(a.cps++b.cps).toList=_;simp
   simp only[e,PJ,LO]
theorem sA(sep:Str):∀parts,Od sep parts=Nx sep parts
 | []=>rfl
 |x::r=>sy sep r x
def i5(ys:List Str):Nat:=(ys.map (·.length)).sum+ys.length
section
variable(K:Frag)
theorem C4(h:X.K=K:=by rfl):MtR X "str.join" (λx xs H Q=>∃sep p ys,x= .str sep/\xs=[.ref p]/\(SqL K H p (ys.map V.str)\/SqT K H p (ys.map V.str))/\sep.length<=16/\i5 ys<=1048576/\Q (.str (Nx sep ys)) H):=by
 subst h;intro pins s σ H x xs v us Q I rx r h;obtain⟨sep,p,ys,rfl,rfl,hl,h1,h2,q⟩:=h;obtain⟨t,rfl⟩:=rx;obtain⟨u,rfl,ru⟩:=vals1 r;cases ru;rcases hl with hl|hl
 .obtain⟨its,r',pl,hz⟩:=I.list hl;refine join_listW pl.isList (by simpa using kz r') h1 h2 λt' k=>⟨.str _,H,I.tok k,⟨t',?_⟩,q⟩
  show MW (Od sep ys) t'=_;rw[sA]
 .obtain⟨its,r',pl,hz⟩:=I.tuple hl;refine join_tupleW pl (by simpa using kz r') h1 h2 λt' k=>⟨.str _,H,I.tok k,⟨t',?_⟩,q⟩
  show MW (Od sep ys) t'=_;rw[sA]
end
section
theorem C5:OpR X (binaryOp .Mult) (λx y H Q=>∃c n,x= .str ⟨#[c]⟩/\y= .int n/\0<=n/\n<=1000/\∀z:Str,z.cps.toList=LB n.toNat c->Q (.str z) H):=by
 intro pins s σ H x y v u Q I rx ry h;obtain⟨c,n,rfl,rfl,h0,h1,q⟩:=h;obtain⟨t,rfl⟩:=rx;obtain⟨t',rfl⟩:=ry;refine SB.mul ⟨?_,?_,?_⟩ λt' k=>⟨.str _,H,I.tok k,⟨t',rfl⟩,q _ (mul_one_list c n)⟩
 .rw[decide_eq_false (by omega),decide_eq_false (by omega)];rfl
 .intro a _;have e:(⟨#[c]⟩:Str).length=1:=rfl;rw[e];have:1<=(2^63 - 1) / n:=Int.le_ediv_of_mul_le (by omega) (by omega);omega
 .intro a _;have e:(⟨#[c]⟩:Str).length=1:=rfl;rw[e];unfold RL;simp only[Nat.one_mul,decide_eq_false_iff_not];have:n.toNat<=1000:=by omega
  first
   |omega
   | (intro z;have:=LJ z this;revert this;decide)
end
theorem sB:∀ys:List Str,(Nx LZ ys).cps.toList=(ys.map λy=>y.cps.toList).flatten
 | []=>rfl
 | [y]=>by simp[Nx]
 |y::z::r=>by
  have ih:=sB (z::r);show((y++LZ++Nx LZ (z::r):Str)).cps.toList=_;have e:∀a b:Str,(a++b).cps.toList=a.cps.toList++b.cps.toList:=λa b=>by
   show(a.cps++b.cps).toList=_;simp
  rw[e,e,ih];simp[LZ]
theorem C6(h:x.cps.toList=y.cps.toList):x=y:=by
 cases x;cases y;simp only[P9];exact Nn.mp h
def i6(H:Hp)(a l:Addr):Prop:=∃(ns:List Int) (i b c:Int),H a=some (.lst [.ref l,.int i,.int b,.int c])/\H l=some (.lst (ns.map V.int))/\0<=i/\0<=b/\a≠l
def nP:Sp:=λvs H Q _=>∃(a l:Addr) (many:Int),vs=[.ref a,.int many]/\i6 H a l/\0 < many/\many < 2^250/\∀v H',0<=v->v < many->i6 H' a l->km a H H'->Q (.int v) H'
def nQ(K:Frag):Sp:=λvs H Q _=>∃(a:Addr) (ns:List Int),vs=[.ref a]/\SqL K H a (ns.map V.int)/\∀(r l:Addr) (H':Hp),H r=none->H l=none->i6 H' r l->dP H H'->Q (.ref r) H'
theorem sC(x:Str):∀xs:List Str,inV (.str x) (xs.map V.str)=decide (x∈xs)
 | []=>by simp[inV]
 |y::r=>by
  have ih:=sC x r;unfold inV at ih ⊢;rw[LV,NC,ih];show((y==x)||decide (x∈r))=decide (x∈y::r);by_cases h:y=x
  .subst h;simp
  .have h':¬ x=y:=λe=>h e.symm
   simp[h,h']
structure Nm(x:Str):Prop where
 l1:1<=x.cps.toList.length
 l8:x.cps.toList.length<=8
 az:∀c∈x.cps.toList,97<=c/\c<=122
structure LR where
 a:Addr
 sa:Addr
 ea:Addr
 nm:Str
 S:List Str
 E:List Str
 w:Int
section
variable{κ:Addr->Nat}{H':Hp}{s l na la:Addr}{ls:List LR}
end
variable{ls ls':List LR}
def c4(one:Str)(bd:List Str)(r:LR):Bool:= !decide (r.nm∈bd)&&(decide (one∈r.S)||decide (r.S.length < 6))
def dY(two:Str)(r:LR):Bool:=decide (two∈r.E)||decide (r.E.length < 6)
def aV(x:Str)(S:List Str):List Str:=if x∈S then S else S++[x]
inductive i7(one two:Str)(bd:List Str)(ns:List Str)(ls:List LR)(x:Str):List Str->List LR->Prop
 |new (pa ps pe:Addr) (w:Int):x∉ns->Nm x->ls.length < 14->0<=w->w < 4->i7 one two bd ns ls x (ns++[x]) (ls++[⟨pa,ps,pe,x,[one],[two],w⟩])
 |old (i:Nat) (r:LR):ls[i]? = some r->r.nm=x->c4 one bd r=true->dY two r=true->i7 one two bd ns ls x ns (ls.set i {r with S:=aV one r.S,E:=aV two r.E})
theorem fD:y∈aV x S↔y∈S\/y=x:=by
 unfold aV;split
 .exact⟨.inl,λh=>h.elim id (λe=>by rw[e];assumption)⟩
 .rw[LP,Lo]
theorem sD(h:S.Nodup):(aV x S).Nodup:=by
 unfold aV;split
 .exact h
 .rename_i c;exact LA.mpr ⟨h,by simp,λa ha b hb e=>by rw[Lo.mp hb] at e;exact c (e▸ha)⟩
theorem sE:(aV x S).length<=S.length+1:=by
 unfold aV;split
 .omega
 .rw[L7];exact Lp _
theorem sF(h:x∈S\/S.length < 6)(h6:S.length<=6):(aV x S).length<=6:=by
 unfold aV;split
 .omega
 .rw[L7];rcases h with h|h
  .contradiction
  .show S.length+1<=6;omega
def wide(r:LR):Nat:=max r.S.length r.E.length
def dZ(ls:List LR):Nat:=(ls.map wide).sum
structure C7(ho ga:List Str)(r:LR):Prop where
 sn:r.S.Nodup
 en:r.E.Nodup
 s0:r.S≠[]
 e0:r.E≠[]
 s6:r.S.length<=6
 e6:r.E.length<=6
 ss:∀x∈r.S,x∈ho++ga
 es:∀x∈r.E,x∈ho++ga
 w0:0<=r.w
 w3:r.w<=3
structure aW(ho ga ns:List Str)(ls:List LR)(h c:Nat):Prop where
 nd:(ho++ga++ls.map LR.nm).Nodup
 sub:∀x∈ho++ga++ls.map LR.nm,x∈ns
 nms:∀x∈ns,Nm x
 nsd:ns.Nodup
 ends:∀r∈ls,C7 ho ga r
 len:ls.length<=14
 hops:dZ ls<=h
 cnt:ns.length<=c+ls.length
def sig(ls:List LR):List (Str×Int):=ls.map λr=>(r.nm,r.w)
def bt(ns:List Str)(ls ls':List LR):Prop:=(∀r∈ls,∃r'∈ls',r'.nm=r.nm/\r'.w=r.w/\(∀x∈r.S,x∈r'.S)/\(∀x∈r.E,x∈r'.E))/\∃ext,sig ls'=sig ls++ext/\∀p∈ext,p.1∉ns
theorem bt.refl(ns:List Str)(ls:List LR):bt ns ls ls:=⟨λr h=>⟨r,h,rfl,rfl,λ_ h=>h,λ_ h=>h⟩,[],by rw[M8],λp hp=>by cases hp⟩
theorem bt.trans{a b c:List LR}(x:bt ns a b)(n:∀y∈ns,y∈ns')(y:bt ns' b c):bt ns a c:=⟨λr h=>by
 obtain⟨r1,h1,e1,e2,e3,e4⟩:=x.1 r h;obtain⟨r2,h2,f1,f2,f3,f4⟩:=y.1 r1 h1;exact⟨r2,h2,f1.trans e1,f2.trans e2,λz hz=>f3 z (e3 z hz),λz hz=>f4 z (e4 z hz)⟩,by
 obtain⟨u,hu,hu'⟩:=x.2;obtain⟨v,hv,hv'⟩:=y.2;exact⟨u++v,by rw[hv,hu,LO],λp hp=>(LP.mp hp).elim (hu' p) λz q=>hv' p z (n _ q)⟩⟩
def Joins(ls:List LR)(one x two:Str):Prop:=∃r∈ls,r.nm=x/\one∈r.S/\two∈r.E
theorem Joins.grow{one two:Str}(h:Joins ls one x two){ns0:List Str}(g:bt ns0 ls ls'):Joins ls' one x two:=by
 obtain⟨r,hr,e,h1,h2⟩:=h;obtain⟨r',hr',f1,f2,f3,f4⟩:=g.1 r hr;exact⟨r',hr',f1.trans e,f3 _ h1,f4 _ h2⟩
theorem sum_set:∀{ls:List LR} {i:Nat} {r r':LR},ls[i]? = some r->wide r'<=wide r+1->dZ (ls.set i r')<=dZ ls+1
 | [],_,_,_,h,_=>by simp at h
 |a::t,0,r,r',h,hw=>by
  cases h;unfold dZ;rw[List.set_cons_zero,LV,LV,O2,O2];omega
 |a::t,i+1,r,r',h,hw=>by
  have ih:=sum_set (ls:=t) (i:=i) (by simpa using h) hw;unfold dZ at ih ⊢;rw[List.set_cons_succ,LV,LV,O2,O2];omega
theorem sG{i:Nat}{q r':LR}(h:q∈ls.set i r'):q∈ls\/q=r':=List.mem_or_eq_of_mem_set h
theorem C8{c:Nat}{one two:Str}{bd:List Str}(N:aW ho ga ns ls h c)(h1:one∈ho++ga)(h2:two∈ho++ga)(hb:∀y∈bd,y∈ns)(R:i7 one two bd ns ls x ns' ls') :
  aW ho ga ns' ls' (h+1) c/\bt ns ls ls'/\Joins ls' one x two/\x∉bd/\(∀y∈ns,y∈ns')/\x∉ho++ga/\x∈ns':=by
 cases R with
 |new pa ps pe w hx nm hl w0 w4 =>
  refine⟨⟨?_,?_,?_,?_,?_,?_,?_,?_⟩,?_,?_,λz=>hx (hb x z),λy hy=>Lq _ hy,λz=>hx (N.sub x (Lq _ z)),by simp⟩
  .rw[Lr,<- LO];refine LA.mpr ⟨N.nd,by simp,λa ha b hb e=>?_⟩;rw[show b=x by simpa using hb] at e;exact hx (e▸N.sub a ha)
  .intro y hy;rw[Lr,<- LO] at hy;rcases LP.mp hy with hy|hy
   .exact Lq _ (N.sub y hy)
   .exact Lw _ (by simpa using hy)
  .intro y hy;rcases LP.mp hy with hy|hy
   .exact N.nms y hy
   .rw[Lo.mp hy];exact nm
  .exact LA.mpr ⟨N.nsd,by simp,λa ha b hb e=>by rw[Lo.mp hb] at e;exact hx (e▸ha)⟩
  .intro r hr;rcases LP.mp hr with hr|hr
   .exact N.ends r hr
   .rw[Lo.mp hr];exact⟨by simp,by simp,by simp,by simp,by simp,by simp,λy hy=>by rw[Lo.mp hy];exact h1,λy hy=>by rw[Lo.mp hy];exact h2,w0,by show w<=3;omega⟩
  .rw[L7];exact hl
  .unfold dZ;rw[Lr,List.sum_append];have:=N.hops;unfold dZ at this;show _+(1+0)<=h+1;omega
  .rw[L7,L7];have:=N.cnt;show ns.length+1<=c+(ls.length+1);omega
  .exact⟨λr hr=>⟨r,Lq _ hr,rfl,rfl,λ_ h=>h,λ_ h=>h⟩,[(x,w)],by unfold sig;rw[Lr];rfl,λp hp=>by rw[Lo.mp hp];exact hx⟩
  .exact⟨_,Lw _ (Lo.mpr rfl),rfl,by simp,by simp⟩
 |old i r hi hn f1 f2 =>
  have hm:r∈ls:=Lu hi;have hlt:i < ls.length:=by
   by_cases h:i < ls.length
   .exact h
   .rw[LL (by omega)] at hi;cases hi
  have em:(ls.set i {r with S:=aV one r.S,E:=aV two r.E}).map LR.nm=ls.map LR.nm:=by
   rw[Qn];apply Ny;intro j;rw[Og];split
   .rename_i e;subst e;rw[L1,if_pos hlt,Ln,hi];rfl
   .rfl
  have E:=N.ends r hm;unfold c4 at f1;unfold dY at f2;simp only[M9,O6,decide_eq_true_eq,NM,decide_eq_false_iff_not] at f1 f2;have hnew:{r with S:=aV one r.S,E:=aV two r.E}∈ls.set i {r with S:=aV one r.S,E:=aV two r.E}:=Lu (i:=i) (by rw[Og,if_pos rfl,if_pos hlt]);have hx:x∈ls.map LR.nm:=by rw[<- hn];exact LW.mpr ⟨r,hm,rfl⟩
  refine⟨⟨by rw[em];exact N.nd,by rw[em];exact N.sub,N.nms,N.nsd,λq hq=>?_,by rw[Pf];exact N.len,?_,by rw[Pf];exact N.cnt⟩,?_,?_,by rw[<- hn];exact f1.1,λy hy=>hy,λz=>?_,N.sub x (Lw _ hx)⟩
  .rcases sG hq with hq|rfl
   .exact N.ends q hq
   .exact⟨sD E.sn,sD E.en,Q5 (fD.mpr (.inr rfl)),Q5 (fD.mpr (.inr rfl)),sF f1.2 E.s6,sF f2 E.e6,
     λy hy=>(fD.mp hy).elim (E.ss y) (λe=>e▸h1),λy hy=>(fD.mp hy).elim (E.es y) (λe=>e▸h2),E.w0,E.w3⟩
  .have:=sum_set (r':={r with S:=aV one r.S,E:=aV two r.E}) hi (by
    unfold wide;have a:=sE (x:=one) (S:=r.S);have b:=sE (x:=two) (S:=r.E);show max (aV one r.S).length (aV two r.E).length<=_;omega)
   have:=N.hops;omega
  .refine⟨λq hq=>?_,[],?_,λp hp=>by cases hp⟩;rotate_left
   .rw[M8];unfold sig;rw[Qn];apply Ny;intro j;rw[Og];split
    .rename_i e;subst e;rw[L1,if_pos hlt,Ln,hi];rfl
    .rfl
   by_cases e:q=r
   .subst e;exact⟨_,hnew,rfl,rfl,λy hy=>fD.mpr (.inl hy),λy hy=>fD.mpr (.inl hy)⟩
   .obtain⟨j,hj⟩:=Nr.mp hq;have hji:i≠j:=λz=>by subst z;rw[hi] at hj;cases hj;exact e rfl
    exact⟨q,Lu (i:=j) (by rw[Og,if_neg hji];exact hj),rfl,rfl,λ_ h=>h,λ_ h=>h⟩
  .exact⟨_,hnew,hn,fD.mpr (.inr rfl),fD.mpr (.inr rfl)⟩
  .exact(LA.mp N.nd).2.2 x z x hx rfl
def beside(ho ga bd:List Str):Nat:=(bd.filter λx=> !decide (x∈ho++ga)).length
theorem sH(ho ga a b:List Str):beside ho ga (a++b)=beside ho ga a+beside ho ga b:=by unfold beside;rw[NI,L7]
theorem sI:∀{ls:List LR},(∀r∈ls,1<=wide r)->ls.length+5*(ls.filter λr=>decide (6<=wide r)).length<=dZ ls
 | [],_=>by simp[dZ]
 |r::t,h=>by
  have ih:=sI (ls:=t) λq hq=>h q (Lx _ hq)
  have h1:=h r Ly;unfold dZ at ih ⊢;rw[LV,O2,M7,LF];split
  .rename_i c;have:=of_decide_eq_true c;rw[LF];omega
  .omega
theorem split_len{α:Type}(p q:α->Bool):∀{ls:List α},(∀r∈ls,p r=true\/q r=true)->ls.length<=(ls.filter p).length+(ls.filter q).length
 | [],_=>by simp
 |r::t,h=>by
  have ih:=split_len p q (ls:=t) λx hx=>h x (Lx _ hx)
  have h1:=h r Ly;rw[M7,M7,LF];split<;>split
  .rw[LF,LF];omega
  .rw[LF];omega
  .rw[LF];omega
  .rename_i a b;rcases h1 with h1|h1
   .exact absurd h1 a
   .exact absurd h1 b
theorem C9{c:Nat}(N:aW ho ga ns ls h c)(hh:h<=47)(one two:Str){bd:List Str}(hb:beside ho ga bd<=5)(hl:ls.length=14):∃r∈ls,c4 one bd r=true/\dY two r=true:=by
 apply NY;intro no;have all:∀r∈ls,decide (r.nm∈bd)=true\/decide (6<=wide r)=true:=λr hr=>by
  apply NY;intro z;apply no;have z1:¬ r.nm∈bd:=λy=>z (.inl (decide_eq_true y))
  have z2:¬ 6<=wide r:=λy=>z (.inr (decide_eq_true y))
  unfold wide at z2;refine⟨r,hr,?_,?_⟩
  .unfold c4;simp only[M9,O6,decide_eq_true_eq,NM,decide_eq_false_iff_not];exact⟨z1,.inr (by omega)⟩
  .unfold dY;simp only[O6,decide_eq_true_eq];exact .inr (by omega)
 have a:=split_len _ _ all;have b:=sI (ls:=ls) λr hr=>by
  have E:=(N.ends r hr).s0;have:=Oy.mpr E;unfold wide;omega
 have hs:=N.hops;have nd2:(ls.map LR.nm).Nodup:=(LA.mp N.nd).2.1;have d:(ls.filter λr=>decide (r.nm∈bd)).length<=beside ho ga bd:=by
  have nd3:((ls.filter λr=>decide (r.nm∈bd)).map LR.nm).Nodup:=nd2.sublist (SR _ Mc);have:=Os (l₂:=bd.filter λx=> !decide (x∈ho++ga)) nd3 (λx hx=>by
   obtain⟨r,hr,rfl⟩:=LW.mp hx;obtain⟨m1,m2⟩:=LY.mp hr;refine LY.mpr ⟨of_decide_eq_true m2,?_⟩;rw[decide_eq_false]
   .rfl
   .exact λz=>(LA.mp N.nd).2.2 _ z _ (LW.mpr ⟨r,m1,rfl⟩) rfl)
  rw[L1] at this;exact this
 omega
structure Way(ho ga ns:List Str)(ls:List LR)(bd:List Str)(first:Str)(k m:Nat)(wh:List Str):Prop where
 len:wh.length=2*k+1
 hd:wh[0]? = some first
 nd:wh.Nodup
 jn:∀i x y z,wh[2*i]? = some x->wh[2*i+1]? = some y->wh[2*i+2]? = some z->Joins ls x y z
 ln:∀i y,wh[2*i+1]? = some y->y∉ho++ga/\y∉bd
 gt:∀i x,2*i+2 < m->wh[2*i+2]? = some x->x∈ga/\x∉bd
 nn:∀i x,wh[2*i]? = some x->x∈ho++ga
 sub:∀y∈wh,y∈ns
 bs:beside ho ga wh<=k
theorem Way.one{bd:List Str}(h:first∈ho++ga)(hn:first∈ns):Way ho ga ns ls bd first 0 1 [first] where
 len:=rfl
 hd:=rfl
 nd:=by simp
 jn:=λi x y z _ e _=>by rw[LL (by show 1<=_;omega)] at e;cases e
 ln:=λi y e=>by rw[LL (by show 1<=_;omega)] at e;cases e
 gt:=λi y hm e=>by omega
 nn:=λi x e=>by
  have:i=0:=NY λz=>by rw[LL (by show 1<=_;omega)] at e;cases e
  subst this;cases e;exact h
 sub:=λy hy=>by rw[Lo.mp hy];exact hn
 bs:=by unfold beside;rw[M7,if_neg (by rw[decide_eq_true h];decide)];exact Lp _
theorem Way.grow{bd:List Str}{k m:Nat}(W:Way ho ga ns ls bd first k m wh){ns0:List Str}(g:bt ns0 ls ls')(n:∀y∈ns,y∈ns'):Way ho ga ns' ls' bd first k m wh :=
 ⟨W.len,W.hd,W.nd,λi x y z a b c=>(W.jn i x y z a b c).grow g,W.ln,W.gt,W.nn,λy hy=>n y (W.sub y hy),W.bs⟩
theorem Way.step{bd:List Str}{k:Nat}(W:Way ho ga ns ls bd first k (2*k+1) wh){one two:Str}(h1:wh[2*k]? = some one)(j:Joins ls one x two)(xg:x∉ho++ga)(xb:x∉bd)(xw:x∉wh)(xn:x∈ns)
  (tw:two∉wh)(tg:two∈ho++ga)(tn:two∈ns):Way ho ga ns ls bd first (k+1) (2*k+2) (wh++[x,two])/\(two∈ga->two∉bd->Way ho ga ns ls bd first (k+1) (2*k+3) (wh++[x,two])):=by
 have hl:=W.len;have L:∀i,i < 2*k+1->(wh++[x,two])[i]? = wh[i]? := λi hi=>Mi (by omega)
 have X:(wh++[x,two])[2*k+1]? = some x:=by rw[M0 (by omega),hl,Qo];rfl
 have T:(wh++[x,two])[2*k+2]? = some two:=by rw[M0 (by omega),hl,show 2*k+2 - (2*k+1)=1 by omega];rfl
 have O:∀i,2*k+3<=i->(wh++[x,two])[i]? = none:=λi hi=>LL (by rw[L7,hl];exact hi)
 have xt:x≠two:=λe=>xg (e▸tg)
 have base:∀m,(∀i y,2*i+2 < m->(wh++[x,two])[2*i+2]? = some y->y∈ga/\y∉bd)->Way ho ga ns ls bd first (k+1) m (wh++[x,two]):=λm hm=>by
  refine⟨by rw[L7,hl];show 2*k+1+2=_;omega,by rw[L 0 (by omega)];exact W.hd,LA.mpr ⟨W.nd,by simp[xt],λa ha b hb e=>?_⟩,λi a b c ea eb ec=>?_,λi y e=>?_,hm,λi y e=>?_,λy hy=>?_,?_⟩
  .subst e;rcases Lz.mp hb with e|hb
   .exact xw (e▸ha)
   .exact tw (Lo.mp hb▸ha)
  .rcases Oh i k with hi|hi|hi
   .rw[L _ (by omega)] at ea eb ec;exact W.jn i a b c ea eb ec
   .subst hi;rw[L _ (by omega),h1] at ea;rw[X] at eb;rw[T] at ec;cases ea;cases eb;cases ec;exact j
   .rw[O _ (by omega)] at eb;cases eb
  .rcases Oh i k with hi|hi|hi
   .rw[L _ (by omega)] at e;exact W.ln i y e
   .subst hi;rw[X] at e;cases e;exact⟨xg,xb⟩
   .rw[O _ (by omega)] at e;cases e
  .rcases Oh i (k+1) with hi|hi|hi
   .rw[L _ (by omega)] at e;exact W.nn i y e
   .subst hi;rw[show 2*(k+1)=2*k+2 by omega,T] at e;cases e;exact tg
   .rw[O _ (by omega)] at e;cases e
  .rcases LP.mp hy with hy|hy
   .exact W.sub y hy
   .rcases Lz.mp hy with e|hy
    .exact e▸xn
    .exact Lo.mp hy▸tn
  .rw[sH];have:=W.bs;have e:beside ho ga [x,two]=1:=by
    unfold beside;rw[M7,if_pos (by rw[decide_eq_false xg];rfl),M7,if_neg (by rw[decide_eq_true tg];decide)];rfl
   omega
 refine⟨base _ λi y hi e=>?_,λg b=>base _ λi y hi e=>?_⟩
 .rw[L _ (by omega)] at e;exact W.gt i y (by omega) e
 .by_cases c:i=k
  .subst c;rw[T] at e;cases e;exact⟨g,b⟩
  .rw[L _ (by omega)] at e;exact W.gt i y (by omega) e
theorem Way.mem{bd:List Str}{k m:Nat}(W:Way ho ga ns ls bd first k m wh)(hy:y∈wh)(hm:2*k+1<=m):y=first\/y∉ho++ga\/y∈ga:=by
 obtain⟨j,hj⟩:=Nr.mp hy;have hlt:j < 2*k+1:=by
  by_cases h:j < 2*k+1
  .exact h
  .rw[LL (by rw[W.len];omega)] at hj;cases hj
 rcases Nat.mod_two_eq_zero_or_one j with e|e
 .by_cases z:j=0
  .subst z;rw[W.hd] at hj;cases hj;exact .inl rfl
  .obtain⟨i,rfl⟩:∃i,j=2*i+2:=⟨j / 2 - 1,by omega⟩;exact .inr (.inr (W.gt i y (by omega) hj).1)
 .obtain⟨i,rfl⟩:∃i,j=2*i+1:=⟨j / 2,by omega⟩;exact .inr (.inl (W.ln i y hj).1)
theorem sJ{x:Str}:∀{l:List Str},l.Nodup->l.length<=(l.filter λy=> !decide (y=x)).length+1
 | [],_=>by simp
 |y::t,h=>by
  obtain⟨h1,h2⟩:=Nb.mp h;rw[M7,LF];by_cases e:y=x
  .subst e;rw[if_neg (by simp),ML.mpr (λz hz=>by
    rw[decide_eq_false]
    .rfl
    .exact λq=>h1 (q▸hz))]
   exact Lp _
  .rw[if_pos (by rw[decide_eq_false e];rfl),LF];have:=sJ (x:=x) h2;omega
theorem aW.nd2{c:Nat}(N:aW ho ga ns ls h c)(a:x∈ho)(b:x∈ga):False :=
 (LA.mp (LA.mp N.nd).1).2.2 x a x b rfl
theorem aW.more{h' c:Nat}(N:aW ho ga ns ls h c)(l:h<=h'):aW ho ga ns ls h' c:=⟨N.nd,N.sub,N.nms,N.nsd,N.ends,N.len,LU N.hops l,N.cnt⟩
def d_(ls:List LR)(way:List Str)(lo sl:Int):Int:=ls.foldl (λm r=>if r.nm∈way then m+lo+r.w+sl else m) 0
def ib(ls:List LR)(ways:List (List Str))(lo sl:Int):Int:=ways.foldl (λm way=>if d_ ls way lo sl > m then d_ ls way lo sl else m) 0
structure RW where
 nm:Str
 ways:List (List Str)
 e:Int
 lo:Int
 re:Int
 lst:Int
def inner(w:List Str):List Str:=(w.drop 1).take (w.length - 2)
theorem C_{w:List Str}(h:x∈inner w):x∈w:=List.mem_of_mem_drop (NP h)
theorem Da(w:List Str):(inner w).length<=w.length:=by unfold inner;rw[Mp,Op];omega
theorem Db(ho ga w:List Str):beside ho ga (inner w)<=beside ho ga w:=by
 unfold beside inner;exact(((MG _ _).trans (List.drop_sublist _ _)).filter _).length_le
theorem aW.named{c:Nat}(N:aW ho ga ns ls h c)(hx:x∉ns)(nm:Nm x):aW ho ga (ns++[x]) ls h (c+1) where
 nd:=N.nd
 sub:=λy hy=>Lq _ (N.sub y hy)
 nms:=λy hy=>(LP.mp hy).elim (N.nms y) λz=>Lo.mp z▸nm
 nsd:=LA.mpr ⟨N.nsd,by simp,λa ha b hb e=>by rw[Lo.mp hb] at e;exact hx (e▸ha)⟩
 ends:=N.ends
 len:=N.len
 hops:=N.hops
 cnt:=by rw[L7];have:=N.cnt;show ns.length+1<=_;omega
def nR:List Int:=[12,8,20,24,10,30,15,40,60,12,120]
structure fF(ho ga ns:List Str)(ls:List LR)(sl:Int)(r:RW):Prop where
 nmn:r.nm∈ns
 nmo:r.nm∉ho++ga++ls.map LR.nm
 way:∃first last w1 k1,first∈ho/\last∈ho/\first≠last/\1<=k1/\k1<=3/\Way ho ga ns ls [] first k1 (2*k1) w1/\w1[2*k1]? = some last/\(r.ways=[w1]\/∃w2 k2,r.ways=[w1,w2]/\1<=k2/\k2<=3/\Way ho ga ns ls (inner w1) first k2 (2*k2) w2/\w2[2*k2]? = some last)
 ev:r.e∈nR
 l1:1<=r.lo
 l4:r.lo<=4
 le:r.lo+sl<=r.e
 r0:0<=r.re
 re:r.re < r.e
 lst:∃spare,r.lst=ib ls r.ways r.lo sl+spare/\spare∈[0,1,2,r.e / 2,3,r.e - 1,6]
theorem sK(ls:List LR):ls.map LR.nm=(sig ls).map Prod.fst:=by unfold sig;rw[MC];rfl
theorem sL(ls:List LR)(way:List Str)(lo sl:Int):d_ ls way lo sl=(sig ls).foldl (λm r=>if r.1∈way then m+lo+r.2+sl else m) 0:=by
 unfold d_ sig;rw[List.foldl_map]
theorem sM{way:List Str}{lo sl:Int}:∀{ext:List (Str×Int)} (m:Int),(∀p∈ext,p.1∉way)->ext.foldl (λm r=>if r.1∈way then m+lo+r.2+sl else m) m=m
 | [],_,_=>rfl
 |p::t,m,h=>by
  rw[O5,if_neg (h p Ly)];exact sM m λq hq=>h q (Lx _ hq)
theorem Dc{way:List Str}(g:bt ns ls ls')(h:∀y∈way,y∈ns):d_ ls' way lo sl=d_ ls way lo sl:=by
 obtain⟨_,ext,e,hn⟩:=g;rw[sL,sL,e,ON];exact sM _ λp hp z=>hn p hp (h _ z)
theorem Dd(g:bt ns ls ls'):∀{ways:List (List Str)},(∀way∈ways,∀y∈way,y∈ns)->ib ls' ways lo sl=ib ls ways lo sl:=by
 intro ways;unfold ib;generalize (0:Int)=m
 induction ways generalizing m with
 |nil=>intro _;rfl
 |cons w t ih =>
  intro h;rw[O5,O5,Dc g (h w Ly)];exact ih _ λv hv=>h v (Lx _ hv)
theorem fF.sub{r:RW}(R:fF ho ga ns ls sl r):∀way∈r.ways,∀y∈way,y∈ns:=by
 obtain⟨first,last,w1,k1,_,_,_,_,_,Y,_,h⟩:=R.way;intro way hw;rcases h with e|⟨w2,k2,e,_,_,Y2,_⟩
 .rw[e] at hw;rw[Lo.mp hw];exact Y.sub
 .rw[e] at hw;rcases Lz.mp hw with rfl|hw
  .exact Y.sub
  .rw[Lo.mp hw];exact Y2.sub
theorem fF.grow{r:RW}(R:fF ho ga ns ls sl r)(g:bt ns ls ls')(n:∀y∈ns,y∈ns'):fF ho ga ns' ls' sl r where
 nmn:=n _ R.nmn
 nmo:=λz=>by
  obtain⟨_,ext,e,hn⟩:=g;rw[sK,e,Lr,<- sK,<- LO] at z;rcases LP.mp z with z|z
  .exact R.nmo z
  .obtain⟨p,hp,ep⟩:=LW.mp z;exact hn p hp (ep▸R.nmn)
 way:=by
  obtain⟨first,last,w1,k1,a1,a2,a3,a4,a5,Y,a6,h⟩:=R.way;refine⟨first,last,w1,k1,a1,a2,a3,a4,a5,Y.grow g n,a6,?_⟩;rcases h with e|⟨w2,k2,e,b1,b2,Y2,b3⟩
  .exact .inl e
  .exact .inr ⟨w2,k2,e,b1,b2,Y2.grow g n,b3⟩
 ev:=R.ev
 l1:=R.l1
 l4:=R.l4
 le:=R.le
 r0:=R.r0
 re:=R.re
 lst:=by
  obtain⟨sp,e,h⟩:=R.lst;exact⟨sp,by rw[Dd g R.sub];exact e,h⟩
theorem De{xs:List Str}{i:Nat}(nd:xs.Nodup)(h1:xs[i]? = some x)(h2:xs[j]? = some x):i=j:=by
 have hi:i < xs.length:=by
  by_cases h:i < xs.length
  .exact h
  .rw[LL (by omega)] at h1;cases h1
 exact(List.getElem?_inj hi nd).mp (h1.trans h2.symm)
def cF(σ:List Str)(v:Str):List Str:=if σ.any (·== v)=true then σ else σ++[v]
def bA(val:Nat->Str)(i:Nat):List Str:=((MQ i).map val).foldl cF []
theorem Df(val:Nat->Str):bA val 0=[]:=rfl
theorem nS(val:Nat->Str)(i:Nat):bA val (i+1)=cF (bA val i) (val i):=by
 unfold bA;rw[List.range_succ,Lr,ON];rfl
theorem sN(σ:List Str)(v:Str):(cF σ v).length=if σ.any (·== v)=true then σ.length else σ.length+1:=by
 unfold cF;split<;>simp
theorem sO(val:Nat->Str):∀i,(bA val i).length<=i
 |0=>by rw[Df];exact Lp _
 |i+1=>by
  rw[nS,sN];have ih:=sO val i;split<;>omega
theorem Dg(σ:List Str)(v k:Str):(cF σ v).any (·== k)=(σ.any (·== k)||decide (k=v)):=by
 unfold cF;by_cases h:σ.any (·== v)=true
 .rw[if_pos h];by_cases e:k=v
  .subst e;rw[h];simp
  .simp[e]
 .rw[if_neg h,List.any_append];by_cases e:k=v
  .subst e;simp
  .have hb:(v==k)=false:=by simpa [beq_iff_eq] using (λh':v=k=>e h'.symm)
   simp[hb,e]
theorem sP{σ:List Str}{v:Str}:σ.any (·== v)=true↔v∈σ:=by
 rw[List.any_eq_true];exact⟨λ⟨x,hx,e⟩=>by rw[beq_iff_eq] at e;exact e▸hx,λh=>⟨v,h,by simp⟩⟩
theorem nT:∀(ys acc:List Str),acc.Nodup->((ys.foldl cF acc).length=acc.length+ys.length↔(acc++ys).Nodup)/\(ys.foldl cF acc).length<=acc.length+ys.length
 | [],acc,h=>by simp[h]
 |y::t,acc,h=>by
  rw[O5];by_cases c:y∈acc
  .have e:cF acc y=acc:=by unfold cF;rw[if_pos (sP.mpr c)]
   rw[e];obtain⟨_,ih⟩:=nT t acc h;refine⟨⟨λz=>?_,λz=>?_⟩,?_⟩
   .rw[LF] at z;omega
   .exact absurd rfl ((LA.mp z).2.2 y c y Ly)
   .rw[LF];omega
  .have e:cF acc y=acc++[y]:=by unfold cF;rw[if_neg (λz=>c (sP.mp z))]
   have h':(acc++[y]).Nodup:=LA.mpr ⟨h,by simp,λa ha b hb q=>by rw[Lo.mp hb] at q;exact c (q▸ha)⟩;obtain⟨ih1,ih2⟩:=nT t (acc++[y]) h';rw[e];rw[L7,LO] at ih1;rw[L7] at ih2;rw[LF];have l1:([y]:List Str).length=1:=rfl;rw[l1] at ih1 ih2;refine⟨⟨λz=>ih1.mp (by omega),λz=>?_⟩,by omega⟩;have:=ih1.mpr z;omega
def ic(ys:List Str):Nat:=(ys.foldl cF []).length
theorem Dh{ys:List Str}(h:ys.Nodup):ic ys=ys.length:=by
 have:=(nT ys [] (by simp)).1.mpr (by simpa using h);unfold ic;simpa using this
theorem Di(ys:List Str):bA (λi=>ys.getD i LZ) ys.length=ys.foldl cF []:=by
 unfold bA;congr 1
 apply Ny;intro i;rw[Ln];by_cases h:i < ys.length
 .rw[PH h,LC h];show some (ys.getD i LZ)=_;rw[Mg,LC h];rfl
 .rw[LL (by rw[List.length_range];omega),LL (by omega)];rfl
theorem StrsAre.str_at:∀{vs:List Value} {ns:List Str},StrsAre vs ns->∀(i:Nat) (v:Value),vs[i]? = some v->∃t,v= .str (ns.getD i LZ) t
 |_,_,.nil,i,v,h=>by simp at h
 |_,_,.cons n t hr,0,v,h=>by simp at h;exact⟨t,by rw[<- h];rfl⟩
 |_,_,.cons n t hr,i+1,v,h=>by
  simp only[List.getElem?_cons_succ] at h;obtain⟨t',e⟩:=StrsAre.str_at hr i v h;exact⟨t',by rw[e];rfl⟩
section
variable{R:Result->Shared->Prop}{I:Addr}{wr:List Addr}{G:Array GenState->Array GenState->Prop}{n:Nat}{P:Nat->Value->Prop}{St:Nat->Shared->Prop}
theorem Dj(W:WalksS prog w A.in1 I fp wr G n P St)(S:Addr)(hSf:S∉fp)
  (val:Nat->Str)(hval:∀i v,P i v->∃t,v= .str (val i) t)(hb:n+1 < scanBound) :
  ∀(k i:Nat) (s:Shared),n - i=k->i<=n->St i s ->
   s.heap.SetOf (strKind prog w) S (λk'=>(bA val i).any (·== k')) (bA val i).length ->
   (∀s',Moved (S::wr) G s s'->s'.heap.SetOf (strKind prog w) S (λk'=>(bA val n).any (·== k')) (bA val n).length->R (.ok (.ret .none)) s') ->
   codeAny (model prog w) A (.builtin "set.update.loop" ⟨[.ref S,.ref I],[]⟩) R s:=by
 have hSw:S∉wr:=λh=>hSf (W.sub _ h)
 have hsub:∀b∈wr,b∈S::wr:=λb hb=>Lx _ hb
 intro k;induction k with
 |zero =>
  intro i s hk hi hst hS hR;have hin:i=n:=by omega
  subst hin;refine NK NZ ?_;rw[Around.under_plainId Nd _];show wpAny _ A.in1 (pyNext (.ref I) >>= _) _ _ s;refine L0 (W.done s _ _ hst λs' hm=>?_);show wpAny _ A.in1 (ret Mv) _ _ s';exact L6 (hR s' (hm.mono hsub) (by
   obtain⟨o,es,ep,t,ho,rest⟩:=hS;exact⟨o,es,ep,t,hm.heap S _ hSw ho,rest⟩))
 |succ k ih =>
  intro i s hk hi hst hS hR;have hlt:i < n:=by omega
  refine NK NZ ?_;rw[Around.under_plainId Nd _];show wpAny _ A.in1 (pyNext (.ref I) >>= _) _ _ s;refine L0 (W.item i s _ _ hlt hst λv s' hP hst' hm=>?_);obtain⟨t,rfl⟩:=hval i v hP;have hS':s'.heap.SetOf (strKind prog w) S (λk'=>(bA val i).any (·== k')) (bA val i).length:=by
   obtain⟨o,es,ep,tb,ho,rest⟩:=hS;exact⟨o,es,ep,tb,hm.heap S _ hSw ho,rest⟩
  show wpAny _ A.in1 (holding [MW (val i) t] (setAdd S (.str (val i) t)) >>= _) _ _ s';refine L0 (M6 ?_);unfold setAdd;refine M6 ?_;refine L0 ((strKind prog w).pyHash (k:=val i) (strKind_is _ _ _ _) ?_);have hroom:(bA val i).length+1 < scanBound:=by have:=sO val i;omega
  refine wpAny_setAddHashed_of (knd:=strKind prog w) (s:={s' with toks:=s'.toks+1}) (strKind_is _ _ _ _) rfl hS' hroom λh' hsb hS2=>?_
  have hSi:h'.SetOf (strKind prog w) S (λk'=>(bA val (i+1)).any (·== k')) (bA val (i+1)).length :=
   SetOf_congr hS2 (λk'=>by rw[nS,Dg]) (by rw[nS,sN])
  refine L6 ⟨Sk Nd _,ih (i+1) _ (by omega) hlt (W.frame _ s' _ _ hst' (MU _) λb hb o e=>?_) hSi λs'' hm'' hS''=>?_⟩
  .rw[hsb.2 b (λh:b=S=>hSf (by rw[<- h];exact hb))];exact e
  .refine hR s'' (Moved.trans W.gtrans ((hm.mono hsub).then_heap (MU _) λb o hb e=>?_) hm'') hS'';rw[hsb.2 b (λh:b=S=>hb (by rw[h];exact Ly))];exact e
end
end L2
namespace PySem
open PyProof.Rows
theorem Dk:isSubtype (.type "tuple") (.type "set")=pure false:=by rw[Py];kernel_rfl
theorem Dl:isSubtype (.type "tuple") (.type "frozenset")=pure false:=by rw[Py];kernel_rfl
section
variable{prog:Program}{w:World}{A:Around}{E:Value->Shared->Prop}{s:Shared}
set_option maxHeartbeats 3200000 in
theorem Dm{l:Addr}{items:Array Value}{ns:List Str}{Q:Value->Shared->Prop}
  (hh:A.handled=none)(hl:s.heap.IsTuple l items)(hi:SH items.toList ns)(hb:items.size+1 < scanBound)
  (h:∀(h':Heap) (tk:Nat),h'.SetOf (strKind prog w) s.heap.objs.size (λk'=>(L2.bA (λi=>ns.getD i LZ) items.size).any (·== k')) (L2.bA (λi=>ns.getD i LZ) items.size).length ->
   (∀b o,b < s.heap.objs.size->s.heap.get? b=some o->h'.get? b=some o)->Q (.ref s.heap.objs.size) {s with heap:=h',toks:=tk}) :
  wpAny (model prog w) A (call (.type "set") [.ref l]) Q E s:=by
 obtain⟨c,tl,hmro⟩:=F.called_set.mro;have hmade:=F.called_set.made;have hsub:=F.called_set.sub;refine Nc (Pn ?_);show wpAny _ _ (callAny (.type "set") _) _ _ _;refine L6 ⟨Code.quiet_builtin _ (by decide+kernel),NK F.entry_type_call ?_⟩;rw[Around.under_plain (weight_type_call_type "set" [.ref l] []) rfl];have h1:=F.called_set.notType;have h2:=F.called_set.canCreate;have hct:=F.typeCall_set_1 (.ref l);repeat (any_goals (first|assumption|wp_step))
 refine Nj (code_set_new_1 (.ref l) (E:=E) (Q₁:=λobj s₁=>∃led:Bool,obj= .ref s.heap.objs.size/\s₁={s with heap:=s.heap.push {cls:= .type "set",dict:=none,data:= .set #[] 0 (.fresh 0 0 led)}}) λled=>⟨led,rfl,rfl⟩) λr s₁ hr=>?_
 cases r with
 |error e=>exact hr
 |ok fl =>
  cases fl with
  |ret obj =>
   obtain⟨led,rfl,rfl⟩:=hr;have hS:(s.heap.push {cls:= .type "set",dict:=none,data:= .set #[] 0 (.fresh 0 0 led)}).get? s.heap.objs.size=some {cls:= .type "set",dict:=none,data:= .set #[] 0 (.fresh 0 0 led)}:=LG _ rfl;have hT:Shared.TypeIs {s with heap:=s.heap.push {cls:= .type "set",dict:=none,data:= .set #[] 0 (.fresh 0 0 led)}} (.ref s.heap.objs.size) "set":=⟨_,hS,rfl⟩;have hli:=F.called_set.init.lookup;have hbi:=F.called_set.init.bind (.ref s.heap.objs.size);repeat (any_goals (first|assumption|wp_step))
   refine Nj (NR (R:=wants (λr s₂=>r= .none/\∃h' tk,s₂={s with heap:=h',toks:=tk} /\
     h'.SetOf (strKind prog w) s.heap.objs.size (λk'=>(L2.bA (λi=>ns.getD i LZ) items.size).any (·== k')) (L2.bA (λi=>ns.getD i LZ) items.size).length /\
     (∀b o,b < s.heap.objs.size->s.heap.get? b=some o->h'.get? b=some o)) E) F.called_set.init.plain F.entry_set_init (check_set_init_1 hT ?_)) λr₂ s₂ hr₂=>?_
   .have hl1:(s.heap.push {cls:= .type "set",dict:=none,data:= .set #[] 0 (.fresh 0 0 led)}).IsTuple l items:=hl.push _;obtain⟨ol,hol,hcl,nl,hdl⟩:=id hl;obtain⟨ocls,odict,odata,oslots⟩:=ol;simp only at hcl hdl;subst hcl;subst hdl;have hol':(s.heap.push {cls:= .type "set",dict:=none,data:= .set #[] 0 (.fresh 0 0 led)}).get? l=some {cls:= .type "tuple",dict:=odict,data:= .seq items nl,slots:=oslots}:=L4 _ hol;have hsls:=Dk;have hslf:=Dl;have hne:(MP "tuple"==MP "dict")=false:=by decide
    unfold Builtin.«set.__init__» noKeywords R5;generalize hPI:pyIter=PI
    wp_walk
    subst hPI;refine Qb hl1 ?_;refine L0 (Ru ?_);have hlS:l < s.heap.objs.size:=Ls hol;have hh3:A.in1.in1.in1.handled=none:=by simp[hh]
    have hneI:l≠(s.heap.push {cls:= .type "set",dict:=none,data:= .set #[] 0 (.fresh 0 0 led)}).objs.size:=by
     rw[MT];exact LI (MY hlS)
    have hSf:s.heap.objs.size∉[(s.heap.push {cls:= .type "set",dict:=none,data:= .set #[] 0 (.fresh 0 0 led)}).objs.size,l]:=by
     rw[MT];simp only[Lz,Lo,No,or_false,not_or];exact⟨LI (NU _),Sq hlS⟩
    have hval:∀(i:Nat) (v:Value),items[i]? = some v->∃t,v= .str ((λi=>ns.getD i LZ) i) t:=λi v hv =>
     L2.StrsAre.str_at hi i v (by rw[On];exact hv)
    refine L2.Dj ((Walks.tuple hh3 _ l hneI items).toS) s.heap.objs.size
     hSf (λi=>ns.getD i LZ) hval hb (items.size - 0) 0 _ (by omega) (Mz _)
     ⟨⟨_,LG _ rfl,rfl,rfl⟩,(hl1.push _)⟩ ?hS0 ?hR
    case hS0 =>
     have hget:((s.heap.push {cls:= .type "set",dict:=none,data:= .set #[] 0 (.fresh 0 0 led)}).push {cls:= .type "tuple_iterator",data:= .fields #[.ref l,.int 0 0]}).get? s.heap.objs.size
       = some {cls:= .type "set",dict:=none,data:= .set #[] 0 (.fresh 0 0 led)}:=L4 _ hS
     exact PyProof.Rows.SetOf_congr ((Rc (knd:=strKind prog w) led).setOf hget (by unfold scanBound;omega)) (λ_=>rfl) rfl
    case hR =>
     intro s' hm hS';obtain⟨h',g',d',tk',os'⟩:=s';have eg:g'=s.gens:=hm.gens;have ed:d'=s.drawn:=hm.drawn;have eo:os'=s.os:=hm.os;subst eg;subst ed;subst eo;show wpAny _ _ _ _ _ _;refine L6 ?_;show wpAny _ _ (ret Mv) _ _ _;refine L6 ⟨rfl,h',tk',rfl,hS',λb o hb e=>?_⟩;have hb1:b≠s.heap.objs.size:=LI hb;have hb2:b≠(s.heap.push {cls:= .type "set",dict:=none,data:= .set #[] 0 (.fresh 0 0 led)}).objs.size:=by
      rw[MT];exact LI (MY hb)
     exact hm.heap b o (by simp only[Lz,Lo,No,or_false,not_or];exact⟨hb1,hb2⟩) (L4 _ (L4 _ e))
   .cases r₂ with
    |error e=>exact hr₂
    |ok fl₂ =>
     cases fl₂ with
     |ret r =>
      obtain⟨rfl,h',tk,rfl,hS',hk'⟩:=hr₂;repeat (any_goals (first|assumption|wp_step))
      exact h _ _ hS' hk'
     |_=>exact hr₂.elim
  |_=>exact hr.elim
end
end PySem
namespace L2
open PySem PySem.Spec PyProof.Rows
variable{K:Frag}{X:Cx}{pos np cpos apos pos' hpos p2:Pos}{H F' F:Hp}{w:World}{prog P:Program}{C a f Ch fI l:Addr}{A:Around}{pins:List (Addr×Obj)}{scope:Scope}{x qual name lab nm fld z q:Str}{E:Value->Shared->Prop}{ps ks ns N sn hs:List Str}{xs csV vs zs:List V}{base h h':Heap}{σ:St}{ta te tv:TE}{newId T:String}{es ifs:List Expr}{j m nrem:Nat}{sp:Sp}{fd:FuncData}{mg:Str->Option Value}{α β:Type}{neg cm hdct ab:Bool}{tg iter e2 elt e1:Expr}{tk:TA}{env:Env}{CX:CXT}{params:Arguments}{S fr:List Nat}{dx dd:Option Addr}{wi:TI}{tc:TT}{outer:List Env}{o:HO}{kws:List Keyword}{col:Option Bool}{gV:List V->List V->List V}{us bm csU bmB ws:List Value}{ox:Obj}{tb:(St->XK)->TS}{body suite:List Stmt}{th:TS}{k0 k3 k5:Option Value}{M:Model}{gs:TGs}{st b₀:Stmt}{lo hi:Option Int}{v:Value}{os:OsState}{cd:ClassData}{y:V}
def ie(P:Program)(w:World)(a:Addr)(ys:List Str):HO:= .ext λh=>∃S,h.SetOf (strKind P w) a S (ic ys)
section
variable(K:Frag)
theorem Dn(hc:X.calm=true)(h:X.K=K:=by rfl):ag X (.type "set") (λxs H Q=>∃p ys,xs=[.ref p]/\SqT K H p (ys.map V.str)/\ys.length<=100/\∀a,H a=none->Q (.ref a) (upd H a (ie X.prog X.w a ys))):=by
 subst h;intro pins s σ H xs us Q I r h;obtain⟨p,ys,rfl,hl,hz,q⟩:=h;obtain⟨u,rfl,rx⟩:=vals1 r;cases rx;obtain⟨its,r',pl,_⟩:=I.tuple hl;have hlen:its.toArray.size=ys.length:=by rw[Lv,<- r'.length,L1]
 refine Dm (I.ok.hd hc) (show s.heap.IsTuple p its.toArray from pl) (by simpa using kz r') (by rw[hlen];unfold scanBound;omega) λh' tk hS hk=>?_
 rw[hlen,Di] at hS;have hk':∀b u,s.heap.get? b=some u->h'.get? b=some u:=λb u e=>hk b u (Ls e) e
 refine⟨.ref s.heap.objs.size,_,I.laid (o:=ie X.prog X.w s.heap.objs.size ys) hk' (Lp _) ?_,rfl,q _ (I.hok.fresh (Lp _))⟩;refine⟨⟨_,hS⟩,?_,λh1 h2 ⟨S,o,es,ep,t,e,r⟩ k=>⟨S,o,es,ep,t,k o e,r⟩⟩;obtain⟨o,_,_,_,e,_⟩:=hS;exact⟨o,e⟩
theorem Do:ag X (.builtin "len") (λxs H Q=>∃a ys,xs=[.ref a]/\H a=some (ie X.prog X.w a ys)/\Q (.int (ic ys:Nat)) H):=by
 intro pins s σ H xs us Q I r h;obtain⟨a,ys,rfl,ha,q⟩:=h;obtain⟨u,rfl,rx⟩:=vals1 r;cases rx;obtain⟨⟨S,o,es,ep,t,ho,hex,hd,_,_,hsb,hf,hn⟩,_,_⟩:=(show aC X.prog X.w H s.heap a (ie X.prog X.w a ys) from I.hok a _ ha);have hb:(es.size:Int) < 2^63:=by unfold scanBound at hsb;omega
 refine call_len_set ho hex hd hf hb ⟨.int _,H,I.tok _,⟨_,rfl⟩,?_⟩;rw[hn];exact q
end
def Its(x:Str):It:=⟨λi _=>i < x.cps.size,λi H v H'=>H'=H/\∃c,x.cps.toList[i]? = some c/\v= .str ⟨#[c]⟩,λi _=>x.cps.size<=i⟩
theorem Dp(it:Addr)(x:Str)(t:Tok):Turn P w K tg (Its x) [it] it (λi h=>h.IsStrIter it "str_ascii_iterator" x t i) where
 mem:=by simp
 obj:=λi h st b hb=>by
  have e:b=it:=by simpa using hb
  subst e;obtain⟨o,e,c,d⟩:=st;exact⟨o,e,λv z=>by rw[d] at z;cases z⟩
 keep:=λi h h' st k=>let ⟨o,ho,r⟩:=st;⟨o,k it (by simp) o ho,r⟩
 item:=by
  intro X hP hw hK hc i pins s σ H E I hf st hg;subst hP hw hK;obtain⟨f0,f1,f2,f3,f4,f5⟩:=hf it (by simp);have W:=Walks.strAscii (prog:=X.prog) (w:=X.w) (I.ok.hd hc) it x t;refine W.item i s _ _ hg st λv h' tk hv st' kk=>?_
  obtain⟨c,u,hcu,rfl⟩:=hv;have I1:Inv X pins σ H {s with heap:=h',toks:=tk}:=I.turned (λb o hb e=>kk b o (by simpa using hb) e) f0 f1 f3 f4 f5;obtain⟨o,e,c',d⟩:=id st';exact⟨_,rfl,j1 (s:={s with heap:=h',toks:=tk}) e c' d (by decide) ⟨.str ⟨#[c]⟩,H,I1,⟨u,rfl⟩,⟨rfl,c,by rw[On];exact hcu,rfl⟩,st',λb hb=>(hf b hb).1⟩⟩
 done:=by
  intro X hP hw hK hc i pins s σ H E I hf st hg;subst hP hw hK;obtain⟨f0,f1,f2,f3,f4,f5⟩:=hf it (by simp);exact wpAny_pyNext_ascii_end (I.ok.hd hc) st (MH hg) λh' eb=>⟨rfl,I.turned (t':=s.toks) (λb o hb e=>eb b o hb e) f0 f1 f3 f4 f5⟩
 self:=λ_ _ _ _ _ st h=>wpAny_pyIter_striter_ascii st h
section
end
section
variable{k:Nat}{E:XK}{p:Pos}{e:Expr}{t:TA}{g:List Value->List Value->List Value}
theorem Dq{s:Shared}{Q:VK}(M:Mk X.K C f)(F:aa X.prog X.w X.K X.mg X.base CX k f fd ps sp)(hr:bh (k+1) X.A)(hb:dc X.K fd ps ks g gV)
  (hx:cV CX X E)(I:Inv X pins σ H s)(r:Vals vs us)(rz:Vals zs ws)
  (h:∀x dx,H x=none->H dx=none->dx≠x->sp (gV (.ref x::vs) zs) (upd (upd H dx (.own x)) x (.ins C dx [])) (λv H2=>v= .non/\Q (.ref x) H2) E) :
  wpAny (model X.prog X.w) X.A (call (.ref C) us (ks.zip ws)) (EP X pins σ Q) X.xe s:=by
 have hq:=h (s.heap.objs.size+1) s.heap.objs.size (I.hok.fresh (MU _)) (I.hok.fresh (Lp _)) (LI (NU _));have I2:=Inv.made (C:=C) I;have r2:Vals (gV (V.ref (s.heap.objs.size+1)::vs) zs) (g (LH (s.heap.objs.size+1)::us) ws):=hb.rel (.cons rfl r) rz;have hl:(g (LH (s.heap.objs.size+1)::us) ws).length=ps.length:=by rw[<- r2.length];exact F.len _ _ _ _ hq
 refine Nc (A6 (f:=f) I.kIn M.makes M.init (beq_iff_eq.mp M.fn) (Nj (F.run _ X.stack _ _ ⟨LH (s.heap.objs.size+1)::us,ks.zip ws⟩ _ _ _ E (hr.make C us (ks.zip ws))
  (I2.env0.make C us (ks.zip ws)) (hb.to _ (LH (s.heap.objs.size+1)::us) ws I2.kIn hl) r2 hq) λr s' hq'=>?_))
 cases r with
 |error e=>exact hx pins σ _ _ e s' I2 hq'
 |ok fl =>
  cases fl with
  |ret u =>
   obtain⟨v,H',I3,rv,ev,q3⟩:=I2.after hq';subst ev;exact⟨rv,⟨V.ref (s.heap.objs.size+1),H',I3,rfl,q3⟩⟩
  |next=>exact False.elim hq'
  |brk=>exact False.elim hq'
  |cont=>exact False.elim hq'
end
section
end
inductive D where
 |non|bl (b:Bool)|int (i:Int)|str (x:Str)|ty (n:String)
 |cls (c:Str)|scr (ns:List Int)|cell (k:Nat)
 |tup (ds:List D)|lst (ds:List D)
 |dct (ks:List Key) (vs:List D)|dtt (ks:List (List Key)) (vs:List D)
 |obj (c:Str) (ns:List Str) (vs:List D)
 |exc (c:Str)
inductive Ct where
 |lst (ds:List D)|dct (ks:List Key) (vs:List D)|dtt (ks:List (List Key)) (vs:List D)
 |ins (c:Str) (ns:List Str) (vs:List D)|draw
 |fdct (o:Obj) (ks:List Key) (vs:List D)|fdtt (o:Obj) (ks:List (List Key)) (vs:List D)
 |lam (k0:Nat) (x:Str) (ln cl:Nat) (q:Str)
def Dr(ln cl:Nat)(c':Addr):Array Value:= #[rawInt ln,rawInt cl,.ref c']
def Ds(c':Addr)(qual:Str):HO:= .ext λh=>h.CodeRec (.ref c') qual
def clsOf(K:Frag)(c:Str):Option Addr:=match nsIn K mainGlobals c with
 |some (some (.ref C))=>some C
 |_=>none
def cN(a C:Addr)(dx:Option Addr):HO:= .ext λh=>∃ox,h.get? a=some ox/\ox.cls= .ref C/\ox.dict=dx/\PySem.W.notCls ox=true
structure Wd where
 b:Nat->Option Addr
 F:Hp
variable{fl W':Wd}
structure Wd.le(W W':Wd):Prop where
 b:∀k a,W.b k=some a->W'.b k=some a
 F:dP W.F W'.F
theorem Wd.le.refl(W:Wd):W.le W:=⟨λ_ _ h=>h,λ_ _ h=>h⟩
theorem Wd.le.trans{W W'':Wd}(a:W.le W')(b:W'.le W''):W.le W'':=⟨λk x h=>b.b k x (a.b k x h),λk x h=>b.F k x (a.F k x h)⟩
abbrev Mu:=Nat->Option Ct
variable{μ μ':Mu}{Pm:Mu->Prop}
abbrev aj:=List (Option D)
variable{ρ ρb:aj}
def zY(μ:Mu)(k:Nat)(c:Ct):Mu:=λj=>if j=k then some c else μ j
def ef(μ:Mu)(k:Nat):Mu:=λj=>if j=k then none else μ j
theorem zy{k:Nat}{c:Ct}:zY μ k c k=some c:=if_pos rfl
theorem zr{k:Nat}{c:Ct}(h:j≠k):zY μ k c j=μ j:=if_neg h
theorem eY{k:Nat}{c c':Ct}:zY (zY μ k c) k c'=zY μ k c':=by funext j;unfold zY;split<;>rfl
theorem kB{k:Nat}{c:Ct}(h:μ k=none):ef (zY μ k c) k=μ:=by
 funext j;unfold zY ef;by_cases e:j=k
 .subst e;rw[if_pos rfl,h]
 .show(if j=k then none else if j=k then some c else μ j)=μ j;rw[if_neg e,if_neg e]
def MLe(μ μ':Mu):Prop:=∀k c,μ k=some c->μ' k=some c
theorem MLe.refl(μ:Mu):MLe μ μ:=λ_ _ h=>h
theorem MLe.zY{k:Nat}{c:Ct}(h:μ k=none):MLe μ (L2.zY μ k c):=λj d e=>by
 rw[zr (λz=>by subst z;rw[h] at e;cases e)];exact e
theorem i8{p:Addr}(h:H p=none):dP H (upd H p o):=λb u q=>by rw[zN (bQ q h)];exact q
theorem Rd.sm(s:dP F F')(h:Rd F a o):Rd F' a o:=by
 rcases h with h|⟨u,h⟩
 .exact .inl (s _ _ h)
 .exact .inr ⟨u,s _ _ h⟩
theorem SqL.sm(s:dP F F')(h:SqL K F a xs):SqL K F' a xs:=h.imp (Rd.sm s) id
theorem SqT.sm(s:dP F F')(h:SqT K F a xs):SqT K F' a xs:=h.imp (Rd.sm s) id
def aS(c:Str):Bool:= !c.cps.contains 58
def bB(b z:Str):Str:=⟨b.cps++ #[58]++z.cps⟩
def XAt(K:Frag)(W:Wd)(lab:Str)(C:Addr)(dx:Option Addr):Prop:=(clsOf K lab=some C/\dx=none/\aS lab=true)\/∃b z d,lab=bB b z/\aS b=true/\clsOf K b=some C/\dx=some d/\W.F d=some (.xd [("name",.str z)])
theorem XAt.mono{W:Wd}(h:W.le W')(x:XAt K W lab C dx):XAt K W' lab C dx:=x.imp id λ⟨b,z,d,e,c,k,f,g⟩=>⟨b,z,d,e,c,k,f,h.F _ _ g⟩
theorem i9(b z:Str):aS (bB b z)=false:=by
 unfold aS bB;simp
theorem XAt.plain{W:Wd}(x:XAt K W lab C dx)(h:aS lab=true):clsOf K lab=some C/\dx=none:=by
 rcases x with x|⟨b,z,d,e,_⟩
 .exact⟨x.1,x.2.1⟩
 .rw[e,i9] at h;cases h
theorem kC{b b' z':Str}(h:bB b z=bB b' z')(hb:aS b=true)(hb':aS b'=true):b=b'/\z=z':=by
 have key:∀(l l' r r':List Nat),l++58::r=l'++58::r'->58∉l->58∉l'->l=l'/\r=r':=by
  intro l;induction l with
  |nil =>
   intro l' r r' e _ n';cases l' with
   |nil=>exact⟨rfl,(OR e).2⟩
   |cons a l'=>exact absurd (by rw[<- (OR e).1];exact Ly) n'
  |cons a l ih =>
   intro l' r r' e n n';cases l' with
   |nil=>exact absurd (by rw[(OR e).1];exact Ly) n
   |cons a' l' =>
    obtain⟨e1,e2⟩:=OR e;obtain⟨q1,q2⟩:=ih l' r r' e2 (λz=>n (Lx _ z)) (λz=>n' (Lx _ z));exact⟨by rw[e1,q1],q2⟩
 have e:=congrArg (λs:Str=>s.cps.toList) h;simp only[bB,PJ,LO,List.cons_append,Nu] at e;have n1:∀{c:Str},aS c=true->58∉c.cps.toList:=λ{c} q z=>by
  unfold aS at q;rw[Px] at z;simp[z] at q
 obtain⟨q1,q2⟩:=key _ _ _ _ e (n1 hb) (n1 hb');cases b;cases z;cases b';cases z';exact⟨congrArg Str.mk (Nn.mp q1),congrArg Str.mk (Nn.mp q2)⟩
mutual
def Rep(K:Frag)(W:Wd):D->V->Prop
 | .non,v=>v= .non
 | .bl b,v=>v= .bl b
 | .int i,v=>v= .int i
 | .str x,v=>v= .str x
 | .ty n,v=>v= .ty n
 | .cls c,v=>∃C,clsOf K c=some C/\v= .ref C
 | .scr ns,v=>∃a,v= .ref a/\SqL K W.F a (ns.map V.int)
 | .cell k,v=>∃a,v= .ref a/\W.b k=some a
 | .tup ds,v=>∃a xs,v= .ref a/\SqT K W.F a xs/\zG K W ds xs
 | .lst ds,v=>∃a xs,v= .ref a/\W.F a=some (.lst xs)/\zG K W ds xs
 | .dct ks vs,v=>∃a xs,v= .ref a/\W.F a=some (.dK (ks.zip xs))/\ks.length=xs.length/\zG K W vs xs
 | .dtt ks vs,v=>∃a xs,v= .ref a/\W.F a=some (.dT (ks.zip xs))/\ks.length=xs.length/\zG K W vs xs
 | .obj c ns vs,v=>∃C a dx xs,clsOf K c=some C/\v= .ref a/\W.F a=some (.ins C dx (ns.zip xs))/\ns.length=xs.length/\zG K W vs xs
 | .exc c,v=>∃C a dx,v= .ref a/\W.F a=some (cN a C dx)/\XAt K W c C dx
def zG(K:Frag)(W:Wd):List D->List V->Prop
 | [],xs=>xs=[]
 |d::ds,xs=>∃x r,xs=x::r/\Rep K W d x/\zG K W ds r
end
section
variable{W:Wd}
mutual
theorem Rep.mono(h:W.le W'):∀{d:D} {x:V},Rep K W d x->Rep K W' d x
 | .non,_,r=>by unfold Rep at *; exact r
 | .bl _,_,r=>by unfold Rep at *; exact r
 | .int _,_,r=>by unfold Rep at *; exact r
 | .str _,_,r=>by unfold Rep at *; exact r
 | .ty _,_,r=>by unfold Rep at *; exact r
 | .cls _,_,r=>by unfold Rep at *; exact r
 | .scr _,_,r=>by unfold Rep at *; obtain⟨a,e,q⟩:=r;exact⟨a,e,q.sm h.F⟩
 | .cell _,_,r=>by unfold Rep at *; obtain⟨a,e,q⟩:=r;exact⟨a,e,h.b _ _ q⟩
 | .tup _,_,r=>by unfold Rep at *; obtain⟨a,xs,e,q,z⟩:=r;exact⟨a,xs,e,q.sm h.F,zG.mono h z⟩
 | .lst _,_,r=>by unfold Rep at *; obtain⟨a,xs,e,q,z⟩:=r;exact⟨a,xs,e,h.F _ _ q,zG.mono h z⟩
 | .dct _ _,_,r=>by unfold Rep at *; obtain⟨a,xs,e,q,l,z⟩:=r;exact⟨a,xs,e,h.F _ _ q,l,zG.mono h z⟩
 | .dtt _ _,_,r=>by unfold Rep at *; obtain⟨a,xs,e,q,l,z⟩:=r;exact⟨a,xs,e,h.F _ _ q,l,zG.mono h z⟩
 | .obj _ _ _,_,r=>by unfold Rep at *; obtain⟨C,a,dx,xs,hc,e,q,l,z⟩:=r;exact⟨C,a,dx,xs,hc,e,h.F _ _ q,l,zG.mono h z⟩
 | .exc _,_,r=>by unfold Rep at *; obtain⟨C,a,dx,e,q,x⟩:=r;exact⟨C,a,dx,e,h.F _ _ q,x.mono h⟩
theorem zG.mono(h:W.le W'):∀{ds:List D} {xs:List V},zG K W ds xs->zG K W' ds xs
 | [],_,r=>by unfold zG at *; exact r
 |_::_,_,r=>by unfold zG at *; obtain⟨x,t,e,q,z⟩:=r;exact⟨x,t,e,Rep.mono h q,zG.mono h z⟩
end
theorem zG.nil:zG K W [] []:=by unfold zG;rfl
theorem zG.cons{d:D}{ds:List D}{x:V}(a:Rep K W d x)(b:zG K W ds xs):zG K W (d::ds) (x::xs):=by unfold zG;exact⟨x,xs,rfl,a,b⟩
theorem zG.nil'(h:zG K W [] xs):xs=[]:=by unfold zG at h;exact h
theorem zG.uncons{d:D}{ds:List D}(h:zG K W (d::ds) xs):∃x r,xs=x::r/\Rep K W d x/\zG K W ds r:=by unfold zG at h;exact h
theorem zG.length:∀{ds:List D} {xs:List V},zG K W ds xs->xs.length=ds.length
 | [],_,h=>by rw[h.nil'];rfl
 |_::_,_,h=>by obtain⟨x,r,rfl,_,q⟩:=h.uncons;rw[LF,LF,q.length]
theorem zG.get:∀{ds:List D} {xs:List V} {i:Nat} {d:D},zG K W ds xs->ds[i]? = some d->∃x,xs[i]? = some x/\Rep K W d x
 | [],_,_,_,_,e=>by simp at e
 |_::_,_,0,_,h,e=>by obtain⟨x,r,rfl,q,_⟩:=h.uncons;simp at e;subst e;exact⟨x,rfl,q⟩
 |_::_,_,i+1,d,h,e=>by obtain⟨x,r,rfl,_,q⟩:=h.uncons;simpa using q.get (i:=i) (d:=d) (by simpa using e)
theorem zG.append:∀{ds es:List D} {xs ys:List V},zG K W ds xs->zG K W es ys->zG K W (ds++es) (xs++ys)
 | [],_,_,_,h,g=>by rw[h.nil'];exact g
 |_::_,_,_,_,h,g=>by obtain⟨x,r,rfl,q,z⟩:=h.uncons;exact .cons q (z.append g)
theorem zG.take:∀{ds:List D} {xs:List V} (n:Nat),zG K W ds xs->zG K W (ds.take n) (xs.take n)
 |_,_,0,_=>by simp[zG.nil]
 | [],_,_+1,h=>by rw[h.nil'];exact .nil
 |_::_,_,n+1,h=>by obtain⟨x,r,rfl,q,z⟩:=h.uncons;exact .cons q (z.take n)
theorem zG.drop:∀{ds:List D} {xs:List V} (n:Nat),zG K W ds xs->zG K W (ds.drop n) (xs.drop n)
 |_,_,0,h=>h
 | [],_,_+1,h=>by rw[h.nil'];exact .nil
 |_::_,_,n+1,h=>by obtain⟨x,r,rfl,q,z⟩:=h.uncons;exact z.drop n
theorem zG.ints:∀{ns:List Int} {xs:List V},zG K W (ns.map D.int) xs->xs=ns.map V.int
 | [],_,h=>h.nil'
 |_::_,_,h=>by obtain⟨x,r,rfl,q,z⟩:=h.uncons;unfold Rep at q;rw[q,z.ints];rfl
theorem zG.strs:∀{ns:List Str} {xs:List V},zG K W (ns.map D.str) xs->xs=ns.map V.str
 | [],_,h=>h.nil'
 |_::_,_,h=>by obtain⟨x,r,rfl,q,z⟩:=h.uncons;unfold Rep at q;rw[q,z.strs];rfl
theorem zG.bls:∀{ns:List Bool} {xs:List V},zG K W (ns.map D.bl) xs->xs=ns.map V.bl
 | [],_,h=>h.nil'
 |_::_,_,h=>by obtain⟨x,r,rfl,q,z⟩:=h.uncons;unfold Rep at q;rw[q,z.bls];rfl
theorem Rep.i{i:Int}:Rep K W (.int i) (.int i):=by unfold Rep;rfl
theorem Rep.s:Rep K W (.str x) (.str x):=by unfold Rep;rfl
theorem Rep.b{x:Bool}:Rep K W (.bl x) (.bl x):=by unfold Rep;rfl
theorem Rep.n:Rep K W .non .non:=by unfold Rep;rfl
theorem Rep.g{c:Str}(h:clsOf K c=some C):Rep K W (.cls c) (.ref C):=by unfold Rep;exact⟨C,h,rfl⟩
theorem Rep.t{x:String}:Rep K W (.ty x) (.ty x):=by unfold Rep;rfl
theorem Rep.i'{i:Int}{x:V}(h:Rep K W (.int i) x):x= .int i:=by unfold Rep at h;exact h
theorem Rep.s'{i:Str}{x:V}(h:Rep K W (.str i) x):x= .str i:=by unfold Rep at h;exact h
theorem Rep.b'{i:Bool}{x:V}(h:Rep K W (.bl i) x):x= .bl i:=by unfold Rep at h;exact h
theorem Rep.n'{x:V}(h:Rep K W .non x):x= .non:=by unfold Rep at h;exact h
theorem Rep.cell'{k:Nat}{x:V}(h:Rep K W (.cell k) x):∃a,x= .ref a/\W.b k=some a:=by unfold Rep at h;exact h
theorem Rep.lst'{ds:List D}{x:V}(h:Rep K W (.lst ds) x):∃a xs,x= .ref a/\W.F a=some (.lst xs)/\zG K W ds xs:=by unfold Rep at h;exact h
theorem Rep.tup'{ds:List D}{x:V}(h:Rep K W (.tup ds) x):∃a xs,x= .ref a/\SqT K W.F a xs/\zG K W ds xs:=by unfold Rep at h;exact h
theorem Rep.lst{ds:List D}(h:W.F a=some (.lst xs))(r:zG K W ds xs):Rep K W (.lst ds) (.ref a):=by unfold Rep;exact⟨a,xs,rfl,h,r⟩
theorem Rep.tup{ds:List D}(h:SqT K W.F a xs)(r:zG K W ds xs):Rep K W (.tup ds) (.ref a):=by unfold Rep;exact⟨a,xs,rfl,h,r⟩
end
def Ctn(K:Frag)(W:Wd)(c:Ct)(o:Option HO):Prop:=match c with
 | .lst ds=>∃xs,o=some (.lst xs)/\zG K W ds xs
 | .dct ks vs=>∃xs,o=some (.dK (ks.zip xs))/\ks.length=xs.length/\zG K W vs xs
 | .dtt ks vs=>∃xs,o=some (.dT (ks.zip xs))/\ks.length=xs.length/\zG K W vs xs
 | .fdct ob ks vs=>∃xs,o=some (.frz ob (.dK (ks.zip xs)))/\ks.length=xs.length/\zG K W vs xs
 | .fdtt ob ks vs=>∃xs,o=some (.frz ob (.dT (ks.zip xs)))/\ks.length=xs.length/\zG K W vs xs
 | .ins c ns vs=>∃C dx xs,clsOf K c=some C/\o=some (.ins C dx (ns.zip xs))/\ns.length=xs.length/\zG K W vs xs
 | .draw=>∃(l:Addr) (ns:List Int) (i b c:Int),o=some (.lst [.ref l,.int i,.int b,.int c])/\W.F l=some (.lst (ns.map V.int))/\0<=i/\0<=b
 | .lam k0 x ln cl q=>∃(c P:Addr) (ps:Array Value),PySem.W.tabIn K x=some (c,P)/\W.b k0=some P/\o=some (.tbl ps)/\(ps= #[]\/∃c',ps=Dr ln cl c'/\W.F c'=some (Ds c' q))
theorem Ctn.mono{W:Wd}{c:Ct}{o:Option HO}(h:W.le W')(r:Ctn K W c o):Ctn K W' c o:=by
 cases c with
 |lst ds=>obtain⟨xs,e,q⟩:=r;exact⟨xs,e,q.mono h⟩
 |dct ks vs=>obtain⟨xs,e,l,q⟩:=r;exact⟨xs,e,l,q.mono h⟩
 |dtt ks vs=>obtain⟨xs,e,l,q⟩:=r;exact⟨xs,e,l,q.mono h⟩
 |fdct ob ks vs=>obtain⟨xs,e,l,q⟩:=r;exact⟨xs,e,l,q.mono h⟩
 |fdtt ob ks vs=>obtain⟨xs,e,l,q⟩:=r;exact⟨xs,e,l,q.mono h⟩
 |ins C ns vs=>obtain⟨C',dx,xs,hc,e,l,q⟩:=r;exact⟨C',dx,xs,hc,e,l,q.mono h⟩
 |draw=>obtain⟨l,ns,i,b,c,e,q,z⟩:=r;exact⟨l,ns,i,b,c,e,h.F _ _ q,z⟩
 |lam k0 x ln cl q=>obtain⟨c,P,ps,e1,e2,e3,e4⟩:=r;exact⟨c,P,ps,e1,h.b _ _ e2,e3,e4.imp id λ⟨c',e5,e6⟩=>⟨c',e5,h.F _ _ e6⟩⟩
theorem Ctn.some{W:Wd}{c:Ct}{o:Option HO}(r:Ctn K W c o):∃u,o=some u:=by
 cases c with
 |lst ds=>obtain⟨xs,e,q⟩:=r;exact⟨_,e⟩
 |dct ks vs=>obtain⟨xs,e,l,q⟩:=r;exact⟨_,e⟩
 |dtt ks vs=>obtain⟨xs,e,l,q⟩:=r;exact⟨_,e⟩
 |fdct ob ks vs=>obtain⟨xs,e,l,q⟩:=r;exact⟨_,e⟩
 |fdtt ob ks vs=>obtain⟨xs,e,l,q⟩:=r;exact⟨_,e⟩
 |ins C ns vs=>obtain⟨C',dx,xs,hc,e,l,q⟩:=r;exact⟨_,e⟩
 |draw=>obtain⟨l,ns,i,b,c,e,q,z⟩:=r;exact⟨_,e⟩
 |lam k0 x ln cl q=>obtain⟨c,P,ps,e1,e2,e3,e4⟩:=r;exact⟨_,e3⟩
structure Rel(K:Frag)(fl:Wd)(W:Wd)(μ:Mu)(H:Hp):Prop where
 sub:dP W.F H
 fin:∃n,∀k,n<=k->W.b k=none
 cel:∀k c,μ k=some c->∃a,W.b k=some a/\W.F a=none/\Ctn K W c (H a)
 inj:∀k k' c c' a,μ k=some c->μ k'=some c'->W.b k=some a->W.b k'=some a->k=k'
 up:fl.le W
def aw(K:Frag)(W:Wd)(ρ:aj)(σ:St):Prop:=ρ.length=σ.length/\∀(i:Nat) d,ρ[i]? = some (some d)->∃x,σ[i]? = some (some x)/\Rep K W d x
section
variable{W:Wd}
theorem Rel.floor{fl':Wd}(r:Rel K fl W μ H)(h:fl'.le W):Rel K fl' W μ H:=⟨r.sub,r.fin,r.cel,r.inj,h⟩
theorem aw.mono(h:W.le W')(r:aw K W ρ σ):aw K W' ρ σ:=⟨r.1,λi d e=>by obtain⟨x,e',q⟩:=r.2 i d e;exact⟨x,e',q.mono h⟩⟩
theorem aw.set{i:Nat}{d:D}{x:V}(r:aw K W ρ σ)(q:Rep K W d x):aw K W (ρ.set i (some d)) (σ.set i (some x)):=⟨by simp[r.1],λj d' e=>by
 by_cases hj:i=j
 .subst hj;by_cases hl:i < ρ.length
  .rw[Mj hl] at e;cases e;exact⟨x,Mj (r.1▸hl),q⟩
  .rw[LL (by simp;omega)] at e;cases e
 .rw[Ml hj] at e;rw[Ml hj];exact r.2 j d' e⟩
theorem Rel.less(r:Rel K fl W μ' H)(h:MLe μ μ'):Rel K fl W μ H:=⟨r.sub,r.fin,λk c e=>r.cel k c (h k c e),λk k' c c' a e e'=>r.inj k k' c c' a (h _ _ e) (h _ _ e'),r.up⟩
theorem Rel.newF{p:Addr}(r:Rel K fl W μ H)(hp:H p=none):Rel K fl ⟨W.b,upd W.F p o⟩ μ (upd H p o)/\W.le ⟨W.b,upd W.F p o⟩:=by
 have hF:W.F p=none:=by
  cases e:W.F p with
  |none=>rfl
  |some u=>rw[r.sub _ _ e] at hp;cases hp
 have le:W.le ⟨W.b,upd W.F p o⟩:=⟨λ_ _ h=>h,i8 hF⟩;refine⟨⟨λb u e=>?_,r.fin,λk c e=>?_,r.inj,r.up.trans le⟩,le⟩
 .by_cases hb:b=p
  .subst hb;have e':(upd W.F b o) b=some u:=e;rw[zJ] at e' ⊢; exact e'
  .have e':(upd W.F p o) b=some u:=e;rw[zN hb] at e' ⊢; exact r.sub _ _ e'
 .obtain⟨a,e1,e2,q⟩:=r.cel k c e;obtain⟨u,eu⟩:=q.some;have ha:a≠p:=bQ eu hp;exact⟨a,e1,by show upd W.F p o a=none;rw[zN ha];exact e2,by rw[zN ha];exact q.mono le⟩
theorem Rel.newC{p:Addr}{c:Ct}(r:Rel K fl W μ H)(hp:H p=none)(hc:Ctn K W c (some o)):∃(k:Nat) (W':Wd),μ k=none/\W.le W'/\Rel K fl W' (zY μ k c) (upd H p o)/\W'.b k=some p:=by
 obtain⟨n,hn⟩:=r.fin;have hF:W.F p=none:=by
  cases e:W.F p with
  |none=>rfl
  |some u=>rw[r.sub _ _ e] at hp;cases hp
 have hk:μ n=none:=by
  cases e:μ n with
  |none=>rfl
  |some c=>obtain⟨a,e1,_⟩:=r.cel n c e;rw[hn n (Lp _)] at e1;cases e1
 have le:W.le ⟨λj=>if j=n then some p else W.b j,W.F⟩:=⟨λk a e=>by
  show(if k=n then some p else W.b k)=some a;rw[if_neg (λz=>by rw[z,hn n (Lp _)] at e;cases e)];exact e,λ_ _ h=>h⟩
 refine⟨n,⟨λj=>if j=n then some p else W.b j,W.F⟩,hk,le,⟨λb u e=>?_,⟨n+1,λk hk=>?_⟩,λk c' e=>?_,λk k' c1 c2 a e e' q q'=>?_,r.up.trans le⟩,if_pos rfl⟩
 .have:b≠p:=λz=>by
   have e':W.F b=some u:=e;rw[z,hF] at e';cases e'
  rw[zN this];exact r.sub _ _ e
 .show(if k=n then some p else W.b k)=none;rw[if_neg (by omega)];exact hn k (by omega)
 .by_cases ek:k=n
  .subst ek;rw[zy] at e;cases e;exact⟨p,if_pos rfl,hF,by rw[zJ];exact hc.mono le⟩
  .rw[zr ek] at e;obtain⟨a,e1,e2,q⟩:=r.cel k c' e;obtain⟨u,eu⟩:=q.some;have ha:a≠p:=bQ eu hp;exact⟨a,by show(if k=n then some p else W.b k)=some a;rw[if_neg ek];exact e1,e2,by rw[zN ha];exact q.mono le⟩
 .have key:∀k c,zY μ n c k=some c->True:=λ_ _ _=>trivial
  have at':∀{j:Nat} {cj:Ct},zY μ n c j=some cj->j≠n->(∃a',W.b j=some a'/\a'≠p):=λ{j cj} ej hj=>by
   rw[zr hj] at ej;obtain⟨a',e1,e2,q⟩:=r.cel j cj ej;obtain⟨u,eu⟩:=q.some;exact⟨a',e1,bQ eu hp⟩
  have q1:(if k=n then some p else W.b k)=some a:=q;have q2:(if k'=n then some p else W.b k')=some a:=q';by_cases ek:k=n
  .by_cases ek':k'=n
   .rw[ek,ek']
   .rw[if_pos ek] at q1;rw[if_neg ek'] at q2;obtain⟨a',f1,f2⟩:=at' e' ek';rw[f1] at q2;cases q1;cases q2;exact absurd rfl f2
  .by_cases ek':k'=n
   .rw[if_neg ek] at q1;rw[if_pos ek'] at q2;obtain⟨a',f1,f2⟩:=at' e ek;rw[f1] at q1;cases q2;cases q1;exact absurd rfl f2
   .rw[if_neg ek] at q1;rw[if_neg ek'] at q2;rw[zr ek] at e;rw[zr ek'] at e';exact r.inj k k' _ _ a e e' q1 q2
theorem Rel.setC{k:Nat}{c c':Ct}(r:Rel K fl W μ H)(hk:μ k=some c)(ha:W.b k=some a)(hc:Ctn K W c' (some o)):Rel K fl W (zY μ k c') (upd H a o):=by
 obtain⟨a',e1,e2,_⟩:=r.cel k c hk;rw[ha] at e1;cases e1;refine⟨λb u e=>?_,r.fin,λj d e=>?_,λj j' d d' x e e'=>?_,r.up⟩
 .rw[zN (λz=>by rw[z,e2] at e;cases e)];exact r.sub _ _ e
 .by_cases ek:j=k
  .subst ek;rw[zy] at e;cases e;exact⟨a,ha,e2,by rw[zJ];exact hc⟩
  .rw[zr ek] at e;obtain⟨x,f1,f2,q⟩:=r.cel j d e;have hx:x≠a:=λz=>ek (r.inj j k _ _ a e hk (z▸f1) ha)
   exact⟨x,f1,f2,by rw[zN hx];exact q⟩
 .have g:∀{j d},zY μ k c' j=some d->∃d,μ j=some d:=λ{j d} e=>by
   by_cases ek:j=k
   .subst ek;exact⟨_,hk⟩
   .rw[zr ek] at e;exact⟨_,e⟩
  obtain⟨d1,f1⟩:=g e;obtain⟨d2,f2⟩:=g e';exact r.inj j j' _ _ x f1 f2
theorem Rel.freeze{k:Nat}{c:Ct}(r:Rel K fl W μ H)(hk:μ k=some c)(ha:W.b k=some a)(ho:H a=some o):Rel K fl ⟨W.b,upd W.F a o⟩ (ef μ k) H/\W.le ⟨W.b,upd W.F a o⟩:=by
 obtain⟨a',e1,e2,_⟩:=r.cel k c hk;rw[ha] at e1;cases e1;have le:W.le ⟨W.b,upd W.F a o⟩:=⟨λ_ _ h=>h,i8 e2⟩;have g:∀{j d},ef μ k j=some d->j≠k/\μ j=some d:=λ{j d} e=>by
  unfold ef at e;by_cases ek:j=k
  .rw[if_pos ek] at e;cases e
  .rw[if_neg ek] at e;exact⟨ek,e⟩
 refine⟨⟨λb u e=>?_,r.fin,λj d e=>?_,λj j' d d' x e e'=>r.inj j j' _ _ x (g e).2 (g e').2,r.up.trans le⟩,le⟩
 .by_cases hb:b=a
  .subst hb;have e':(upd W.F b o) b=some u:=e;rw[zJ] at e';cases e';exact ho
  .have e':(upd W.F a o) b=some u:=e;rw[zN hb] at e';exact r.sub _ _ e'
 .obtain⟨hj,ej⟩:=g e;obtain⟨x,f1,f2,q⟩:=r.cel j d ej;have hx:x≠a:=λz=>hj (r.inj j k _ _ a ej hk (z▸f1) ha)
  exact⟨x,f1,by show upd W.F a o x=none;rw[zN hx];exact f2,q.mono le⟩
end
abbrev DK:=D->Mu->Prop
variable{Q:DK}
abbrev DE:=aj->Mu->DK->Prop
variable{wa we wb wo wv:DE}
abbrev DT:=aj->Mu->(Bool->Mu->Prop)->Prop
variable{wc:DT}
abbrev DA:=aj->Mu->(List D->Mu->Prop)->Prop
variable{wA wk:DA}
structure cp where
 nx:aj->Mu->Prop
 rt:DK
 bk:aj->Mu->Prop:=λ_ _=>False
 ct:aj->Mu->Prop:=λ_ _=>False
variable{D':cp}
abbrev DS:=cp->aj->Mu->Prop
abbrev DG:=D->aj->Mu->(aj->Mu->Prop)->Prop
variable{dg:DG}
abbrev DGs:=List D->aj->Mu->(aj->Mu->Prop)->Prop
variable{dgs:DGs}
abbrev DR2:=D->D->Mu->DK->Prop
abbrev DR1:=D->Mu->DK->Prop
abbrev DRs:=List D->Mu->DK->Prop
abbrev DO:=aj->Mu->(Option Int->Mu->Prop)->Prop
abbrev DI:=aj->Mu->(List D->(Mu->Prop)->Mu->Prop)->Prop
variable{di:DI}
abbrev DSp:=List D->Mu->DK->Prop
section
variable(K:Frag)(fl:Wd)
abbrev KV'(W:Wd)(Q:DK)(Q':VK):Prop:=∀W' d μ' x H',W.le W'->Rel K fl W' μ' H'->Rep K W' d x->Q d μ'->Q' x H'
class ac(t:TE)(w:DE):Prop where
 run:∀{W ρ μ σ H Q Q'},Rel K fl W μ H->aw K W ρ σ->w ρ μ Q->KV' K fl W Q Q'->t σ H Q'
class cG(t:TT)(w:DT):Prop where
 run:∀{W ρ μ σ H} {Q:Bool->Mu->Prop} {Q':Bool->Hp->Prop},Rel K fl W μ H->aw K W ρ σ->w ρ μ Q->(∀W' b μ' H',W.le W'->Rel K fl W' μ' H'->Q b μ'->Q' b H')->t σ H Q'
class a7(t:TA)(w:DA):Prop where
 run:∀{W ρ μ σ H} {Q:List D->Mu->Prop} {Q':List V->Hp->Prop},Rel K fl W μ H->aw K W ρ σ->w ρ μ Q->(∀W' ds μ' xs H',W.le W'->Rel K fl W' μ' H'->zG K W' ds xs->Q ds μ'->Q' xs H')->t σ H Q'
structure dm(W:Wd)(D':cp)(D:Ends):Prop where
 nx:∀W' ρ μ σ H,W.le W'->Rel K fl W' μ H->aw K W' ρ σ->D'.nx ρ μ->D.nx σ H
 bk:∀W' ρ μ σ H,W.le W'->Rel K fl W' μ H->aw K W' ρ σ->D'.bk ρ μ->D.bk σ H
 ct:∀W' ρ μ σ H,W.le W'->Rel K fl W' μ H->aw K W' ρ σ->D'.ct ρ μ->D.ct σ H
 rt:∀W' d μ x H,W.le W'->Rel K fl W' μ H->Rep K W' d x->D'.rt d μ->D.rt x H
class aP(t:TS)(w:DS):Prop where
 run:∀{W ρ μ σ H D' D},Rel K fl W μ H->aw K W ρ σ->w D' ρ μ->dm K fl W D' D->t D σ H
class fG(g:TG)(dg:DG)(S:outParam (List Nat)):Prop where
 run:∀{W ρ μ σ H d x} {Q:aj->Mu->Prop} {Q':St->Hp->Prop},Rel K fl W μ H->aw K W ρ σ->Rep K W d x->dg d ρ μ Q ->
  (∀W' ρ' μ' σ' H',W.le W'->Rel K fl W' μ' H'->aw K W' ρ' σ'->σ'.length=σ.length->(∀i,i∉S->σ'[i]? = σ[i]?)->Q ρ' μ'->Q' σ' H')->g x σ H Q'
class i_(g:TGs)(dg:DGs)(S:outParam (List Nat)):Prop where
 run:∀{W ρ μ σ H ds xs} {Q:aj->Mu->Prop} {Q':St->Hp->Prop},Rel K fl W μ H->aw K W ρ σ->zG K W ds xs->dg ds ρ μ Q ->
  (∀W' ρ' μ' σ' H',W.le W'->Rel K fl W' μ' H'->aw K W' ρ' σ'->σ'.length=σ.length->(∀i,i∉S->σ'[i]? = σ[i]?)->Q ρ' μ'->Q' σ' H')->g xs σ H Q'
class a8(r:R2)(q:DR2):Prop where
 run:∀{W μ H d e x y Q Q'},Rel K fl W μ H->Rep K W d x->Rep K W e y->q d e μ Q->KV' K fl W Q Q'->r x y H Q'
class sQ(r:V->Hp->VK->Prop)(q:DR1):Prop where
 run:∀{W μ H d x Q Q'},Rel K fl W μ H->Rep K W d x->q d μ Q->KV' K fl W Q Q'->r x H Q'
class bu(r:List V->Hp->VK->Prop)(q:DRs):Prop where
 run:∀{W μ H ds xs Q Q'},Rel K fl W μ H->zG K W ds xs->q ds μ Q->KV' K fl W Q Q'->r xs H Q'
class kD(t:TO)(w:DO):Prop where
 run:∀{W ρ μ σ H} {Q:Option Int->Mu->Prop} {Q':Option Int->Hp->Prop},Rel K fl W μ H->aw K W ρ σ->w ρ μ Q->(∀W' b μ' H',W.le W'->Rel K fl W' μ' H'->Q b μ'->Q' b H')->t σ H Q'
def ItR(W:Wd)(J:It)(ds:List D)(Pm:Mu->Prop):Prop:=∀W1 μ H,W.le W1->Rel K fl W1 μ H->Pm μ->∀i:Nat,(∀d,ds[i]? = some d->J.go i H/\∀x H',J.yld i H x H'->∃W2,W1.le W2/\Rel K fl W2 μ H'/\Rep K W2 d x)/\(ds.length<=i->J.stop i H)
class kE(t:TI)(w:DI):Prop where
 run:∀{W ρ μ σ H} {Q:List D->(Mu->Prop)->Mu->Prop} {Q':It->Hp->Prop},Rel K fl W μ H->aw K W ρ σ->w ρ μ Q->(∀W' J ds Pm μ' H',W.le W'->Rel K fl W' μ' H'->ItR K fl W' J ds Pm->Q ds Pm μ'->Q' J H')->t σ H Q'
end
variable{dsp:DSp}
def zc(i:Nat):DE:=λρ μ Q=>match ρ[i]? with
 |some (some d)=>Q d μ
 |_=>False
def dC(d:D):DE:=λ_ μ Q=>Q d μ
section
instance{i:Nat}:ac K fl (aH i) (zc i):=⟨λ{W ρ μ σ H Q Q'} r e h k=>by
 unfold zc at h;split at h
 .rename_i d hd;obtain⟨x,ex,q⟩:=e.2 i d hd;exact⟨x,ex,k W d μ x H (.refl W) r q h⟩
 .exact h.elim⟩
instance{i:Int}:ac K fl (tC (.int i)) (dC (.int i)):=⟨λ{W ρ μ σ H Q Q'} r e h k=>k W _ μ _ H (.refl W) r .i h⟩
instance{i:Str}:ac K fl (tC (.str i)) (dC (.str i)):=⟨λ{W ρ μ σ H Q Q'} r e h k=>k W _ μ _ H (.refl W) r .s h⟩
instance{i:Bool}:ac K fl (tC (.bl i)) (dC (.bl i)):=⟨λ{W ρ μ σ H Q Q'} r e h k=>k W _ μ _ H (.refl W) r .b h⟩
instance{i:String}:ac K fl (tC (.ty i)) (dC (.ty i)):=⟨λ{W ρ μ σ H Q Q'} r e h k=>k W _ μ _ H (.refl W) r .t h⟩
class ah(K:Frag)(c:Str)(C:Addr):Prop where
 at_:clsOf K c=some C
 cf:aS c=true:=by decide+kernel
instance{c:Str}[i:ah K c C]:ac K fl (tC (.ref C)) (dC (.cls c)):=⟨λ{W ρ μ σ H Q Q'} r e h k=>k W _ μ _ H (.refl W) r (.g i.at_) h⟩
end
def dOp(q:DR2)(wa wb:DE):DE:=λρ μ Q=>wa ρ μ λd μ1=>wb ρ μ1 λe μ2=>q d e μ2 Q
def dUn(q:DR1)(wa:DE):DE:=λρ μ Q=>wa ρ μ λd μ1=>q d μ1 Q
def zL(w:DE):DT:=λρ μ Q=>w ρ μ λd μ1=>match d with
 | .bl b=>Q b μ1
 |_=>False
def ja(t u:DT):DT:=λρ μ Q=>t ρ μ λc μ1=>if c=true then u ρ μ1 Q else Q false μ1
def dOr(t u:DT):DT:=λρ μ Q=>t ρ μ λc μ1=>if c=true then Q true μ1 else u ρ μ1 Q
def eZ(t:DT):DT:=λρ μ Q=>t ρ μ λc μ1=>Q (!c) μ1
def kF(ta tb:DE):DE:=λρ μ Q=>zL ta ρ μ λc μ1=>if c=true then tb ρ μ1 Q else Q (.bl false) μ1
def IM(ta tb:DE):DE:=λρ μ Q=>zL ta ρ μ λc μ1=>if c=true then Q (.bl true) μ1 else tb ρ μ1 Q
def sR(ta:DE):DE:=λρ μ Q=>zL ta ρ μ λc μ1=>Q (.bl (!c)) μ1
def dIf(t:DT)(ta tb:DE):DE:=λρ μ Q=>t ρ μ λc μ1=>if c=true then ta ρ μ1 Q else tb ρ μ1 Q
def gu(q q':DR2)(wa wb wc:DE):DE:=λρ μ Q=>wa ρ μ λd μ1=>wb ρ μ1 λe μ2=>q d e μ2 λz μ3=>match z with
 | .bl k=>if k=true then wc ρ μ3 λf μ4=>q' e f μ4 Q else Q (.bl false) μ3
 |_=>False
section
variable{r r':R2}{q q':DR2}{tb tc:TE}{wc:DE}{t u:TT}{v w:DT}
instance[a:ac K fl ta wa][b:ac K fl tb wb][o:a8 K fl r q]:ac K fl (tOp r ta tb) (dOp q wa wb):=⟨λr e h k =>
 a.run r e h λW1 d μ1 x H1 le1 r1 q1 h1=>b.run r1 (e.mono le1) h1 λW2 d' μ2 y H2 le2 r2 q2 h2=>o.run r2 (q1.mono le2) q2 h2 λW3 d3 μ3 z H3 le3 r3 q3 h3=>k W3 d3 μ3 z H3 (le1.trans (le2.trans le3)) r3 q3 h3⟩
instance{r:V->Hp->VK->Prop}{q:DR1}[a:ac K fl ta wa][o:sQ K fl r q]:ac K fl (tUn r ta) (dUn q wa):=⟨λr e h k =>
 a.run r e h λW1 d μ1 x H1 le1 r1 q1 h1=>o.run r1 q1 h1 λW3 d3 μ3 z H3 le3 r3 q3 h3=>k W3 d3 μ3 z H3 (le1.trans le3) r3 q3 h3⟩
theorem kG[a:ac K fl ta wa]{W ρ μ σ H}{Q:Bool->Mu->Prop}{Q':Bool->Hp->Prop}(r:Rel K fl W μ H)(e:aw K W ρ σ)(h:zL wa ρ μ Q)(k:∀W' b μ' H',W.le W'->Rel K fl W' μ' H'->Q b μ'->Q' b H'):ta σ H λx H'=>∃k,x= .bl k/\Q' k H' :=
 a.run r e h λW1 d μ1 x H1 le1 r1 q1 h1=>by
  cases d<;>first|exact h1.elim|skip
  rename_i b;exact⟨b,q1.b',k W1 b μ1 H1 le1 r1 h1⟩
instance[a:ac K fl ta wa]:cG K fl (f_ ta) (zL wa):=⟨λr e h k=>kG r e h k⟩
instance[a:ac K fl ta wa]:cG K fl (tB ta) (zL wa):=⟨λr e h k=>kG r e h k⟩
instance[a:cG K fl t v][b:cG K fl u w]:cG K fl (mM t u) (ja v w):=⟨λr e h k=>a.run r e h λW1 c μ1 H1 le1 r1 h1=>by
 cases c with
 |true=>exact b.run r1 (e.mono le1) h1 λW2 c2 μ2 H2 le2 r2 h2=>k W2 c2 μ2 H2 (le1.trans le2) r2 h2
 |false=>exact k W1 false μ1 H1 le1 r1 h1⟩
instance[a:cG K fl t v][b:cG K fl u w]:cG K fl (tOr t u) (dOr v w):=⟨λr e h k=>a.run r e h λW1 c μ1 H1 le1 r1 h1=>by
 cases c with
 |false=>exact b.run r1 (e.mono le1) h1 λW2 c2 μ2 H2 le2 r2 h2=>k W2 c2 μ2 H2 (le1.trans le2) r2 h2
 |true=>exact k W1 true μ1 H1 le1 r1 h1⟩
instance[a:cG K fl t v]:cG K fl (mO t) (eZ v):=⟨λr e h k=>a.run r e h λW1 c μ1 H1 le1 r1 h1=>k W1 (!c) μ1 H1 le1 r1 h1⟩
instance[a:ac K fl ta wa][b:ac K fl tb wb]:ac K fl (mP ta tb) (kF wa wb):=⟨λr e h k=>kG r e h λW1 c μ1 H1 le1 r1 h1=>by
 cases c with
 |true=>exact b.run r1 (e.mono le1) h1 λW2 c2 μ2 x H2 le2 r2 q2 h2=>k W2 c2 μ2 x H2 (le1.trans le2) r2 q2 h2
 |false=>exact k W1 (.bl false) μ1 _ H1 le1 r1 .b h1⟩
instance[a:ac K fl ta wa]:ac K fl (mQ ta) (sR wa):=⟨λr e h k=>kG r e h λW1 c μ1 H1 le1 r1 h1=>k W1 (.bl (!c)) μ1 _ H1 le1 r1 .b h1⟩
instance[a:ac K fl ta wa][b:ac K fl tb wb][c:ac K fl tc wc][o:a8 K fl r q][o':a8 K fl r' q']:ac K fl (iO r r' ta tb tc) (gu q q' wa wb wc):=⟨λr e h k =>
 a.run r e h λW1 d μ1 x H1 le1 r1 q1 h1=>b.run r1 (e.mono le1) h1 λW2 d' μ2 y H2 le2 r2 q2 h2=>o.run r2 (q1.mono le2) q2 h2 λW3 d3 μ3 z H3 le3 r3 q3 h3=>by
  cases d3<;>first|exact h3.elim|skip
  rename_i kk;refine⟨kk,q3.b',?_⟩;cases kk with
  |false=>exact k W3 (.bl false) μ3 _ H3 (le1.trans (le2.trans le3)) r3 .b h3
  |true=>exact c.run r3 (e.mono (le1.trans (le2.trans le3))) h3 λW4 d4 μ4 x4 H4 le4 r4 q4 h4=>o'.run r4 (q2.mono (le3.trans le4)) q4 h4 λW5 d5 μ5 x5 H5 le5 r5 q5 h5=>k W5 d5 μ5 x5 H5 (le1.trans (le2.trans (le3.trans (le4.trans le5)))) r5 q5 h5⟩
end
def zj:DA:=λ_ μ Q=>Q [] μ
def za(wa:DE)(wr:DA):DA:=λρ μ Q=>wa ρ μ λd μ1=>wr ρ μ1 λds μ2=>Q (d::ds) μ2
def dTup(w:DA):DE:=λρ μ Q=>w ρ μ λds μ1=>ds.length<=sizeLine/\Q (.tup ds) μ1
def c5(w:DA):DE:=λρ μ Q=>w ρ μ λds μ1=>ds.length<=sizeLine/\Q (.lst ds) μ1
def cO(w:DA):DE:=λρ μ Q=>w ρ μ λds μ1=>ds.length<=sizeLine/\∀k,μ1 k=none->Q (.cell k) (zY μ1 k (.lst ds))
def nU(ks:List Int):DA:=λ_ μ Q=>Q (ks.map D.int) μ
def nV(t:TE):TE:=t
section
variable{t:TA}{w:DA}
instance:a7 K fl cg zj:=⟨λ{W ρ μ σ H Q Q'} r e h k=>k W [] μ [] H (.refl W) r .nil h⟩
instance[a:ac K fl ta wa][b:a7 K fl t w]:a7 K fl (cU ta t) (za wa w):=⟨λr e h k =>
 a.run r e h λW1 d μ1 x H1 le1 r1 q1 h1=>b.run r1 (e.mono le1) h1 λW2 ds μ2 xs H2 le2 r2 q2 h2=>k W2 (d::ds) μ2 (x::xs) H2 (le1.trans le2) r2 (.cons (q1.mono le2) q2) h2⟩
theorem zG.of_ints{W:Wd}:∀ns:List Int,zG K W (ns.map D.int) (ns.map V.int)
 | []=> .nil
 |_::r=> .cons .i (zG.of_ints r)
theorem zG.of_strs{W:Wd}:∀ns:List Str,zG K W (ns.map D.str) (ns.map V.str)
 | []=> .nil
 |_::r=> .cons .s (zG.of_strs r)
instance{ks:List Int}:a7 K fl (nK ks) (nU ks):=⟨λ{W ρ μ σ H Q Q'} r e h k=>k W _ μ _ H (.refl W) r (.of_ints ks) h⟩
instance[a:a7 K fl t w]:ac K fl (nb t) (dTup w):=⟨λr e h k=>a.run r e h λW1 ds μ1 xs H1 le1 r1 q1 h1=>⟨by rw[q1.length];exact h1.1,λp hp=>by
 obtain⟨r2,le2⟩:=r1.newF (o:= .tup xs) hp;exact k _ _ _ _ _ (le1.trans le2) r2 (.tup (SqT.of zJ) (q1.mono le2)) h1.2⟩⟩
instance[a:a7 K fl t w]:ac K fl (j8 t) (c5 w):=⟨λr e h k=>a.run r e h λW1 ds μ1 xs H1 le1 r1 q1 h1=>⟨by rw[q1.length];exact h1.1,λp hp=>by
 obtain⟨r2,le2⟩:=r1.newF (o:= .lst xs) hp;exact k _ _ _ _ _ (le1.trans le2) r2 (.lst zJ (q1.mono le2)) h1.2⟩⟩
theorem Dt{W W1:Wd}{μ1:Mu}{H1:Hp}{p:Addr}{ds:List D}{Q':VK}(le1:W.le W1)(r1:Rel K fl W1 μ1 H1)(q1:zG K W1 ds xs)(hp:H1 p=none)(k:KV' K fl W Q Q')(h:∀k,μ1 k=none->Q (.cell k) (zY μ1 k (.lst ds))):Q' (.ref p) (upd H1 p (.lst xs)):=by
 obtain⟨c,W2,hk,le2,r2,e2⟩:=r1.newC (o:= .lst xs) (c:= .lst ds) hp ⟨xs,rfl,q1⟩;exact k W2 (.cell c) _ _ _ (le1.trans le2) r2 (by unfold Rep;exact⟨p,rfl,e2⟩) (h c hk)
instance[a:a7 K fl t w]:ac K fl (nV (j8 t)) (cO w):=⟨λr e h k=>a.run r e h λW1 ds μ1 xs H1 le1 r1 q1 h1=>⟨by rw[q1.length];exact h1.1,λp hp=>Dt le1 r1 q1 hp k h1.2⟩⟩
end
def zZ:DS:=λD ρ μ=>D.nx ρ μ
def zK(t u:DS):DS:=λD ρ μ=>t {D with nx:=u D} ρ μ
def IN:DS:=λD ρ μ=>D.bk ρ μ
def IP:DS:=λD ρ μ=>D.ct ρ μ
def zT(w:DE):DS:=λD ρ μ=>w ρ μ λ_ μ1=>D.nx ρ μ1
def ax(w:DE):DS:=λD ρ μ=>w ρ μ D.rt
def IQ:DS:=λD _ μ=>D.rt .non μ
def ad(c:DT)(t u:DS):DS:=λD ρ μ=>c ρ μ λb μ1=>if b=true then t D ρ μ1 else u D ρ μ1
def dq:DS:=λ_ _ _=>False
def zx(i:Nat):DG:=λd ρ μ Q=>Q (ρ.set i (some d)) μ
def nW:DGs:=λds ρ μ Q=>ds=[]/\Q ρ μ
def e7(g:DG)(gs:DGs):DGs:=λds ρ μ Q=>match ds with
 |d::r=>g d ρ μ λρ' μ'=>gs r ρ' μ' Q
 | []=>False
def nX(n:Nat)(gs:DGs):DG:=λd ρ μ Q=>match d with
 | .tup ds=>ds.length=n/\gs ds ρ μ Q
 |_=>False
def ae(w:DE)(g:DG):DS:=λD ρ μ=>w ρ μ λd μ1=>g d ρ μ1 D.nx
def dPar(i j:Nat)(w:DA):DS:=λD ρ μ=>w ρ μ λds μ1=>match ds with
 | [d,e]=>D.nx ((ρ.set i (some d)).set j (some e)) μ1
 |_=>False
def IR(i:Nat)(w:DE)(q:DR2):DS:=λD ρ μ=>zc i ρ μ λx _=>w ρ μ λy μ1=>q x y μ1 λz μ2=>D.nx (ρ.set i (some z)) μ2
def sS(i:Nat)(t:TS):TS:=t
theorem nY{sts:List Stmt}{t:TS}(i:Nat)(h:WSs X sts t):WSs X sts (sS i t):=h
theorem sT{e:Expr}{t:TE}(h:WE X e t):WE X e (nV t):=h
def fH(μ:Mu)(d:D)(Q:DK):Prop:=match d with
 | .cell k=>match μ k with
  |some (.lst ds)=>Q (.lst ds) (ef μ k)
  |some (.dct ks vs)=>Q (.dct ks vs) (ef μ k)
  |some (.dtt ks vs)=>Q (.dtt ks vs) (ef μ k)
  |some (.ins C ns vs)=>Q (.obj C ns vs) (ef μ k)
  |_=>False
 |_=>False
def jb(i:Nat)(w:DS):DS:=λD ρ μ=>match ρ[i]? with
 |some (some d)=>fH μ d λd' μ'=>w D (ρ.set i (some d')) μ'
 |_=>False
section
variable{t u:TS}{v w:DS}
theorem dm.mono{W:Wd}{D:Ends}(le:W.le W')(h:dm K fl W D' D):dm K fl W' D' D :=
 ⟨λW2 ρ μ σ H l=>h.nx W2 ρ μ σ H (le.trans l),λW2 ρ μ σ H l=>h.bk W2 ρ μ σ H (le.trans l),λW2 ρ μ σ H l=>h.ct W2 ρ μ σ H (le.trans l),λW2 ρ μ σ H l=>h.rt W2 ρ μ σ H (le.trans l)⟩
instance:aP K fl mR zZ:=⟨λ{W ρ μ σ H D' D} r e h k=>k.nx W ρ μ σ H (.refl W) r e h⟩
instance:aP K fl mU dq:=⟨λr e h k=>h.elim⟩
instance[a:aP K fl t v][b:aP K fl u w]:aP K fl (dH t u) (zK v w):=⟨λr e h k=>a.run r e h ⟨λW1 ρ1 μ1 σ1 H1 le1 r1 e1 h1=>b.run r1 e1 h1 (k.mono le1),k.bk,k.ct,k.rt⟩⟩
instance[a:ac K fl ta wa]:aP K fl (mT ta) (zT wa):=⟨λr e h k=>a.run r e h λW1 d μ1 x H1 le1 r1 q1 h1=>k.nx W1 _ μ1 _ H1 le1 r1 (e.mono le1) h1⟩
instance[a:ac K fl ta wa]:aP K fl (fZ ta) (ax wa):=⟨λr e h k=>a.run r e h λW1 d μ1 x H1 le1 r1 q1 h1=>k.rt W1 d μ1 x H1 le1 r1 q1 h1⟩
instance{c:TT}[a:cG K fl c wc][x:aP K fl t v][y:aP K fl u w]:aP K fl (jY c t u) (ad wc v w):=⟨λr e h k=>a.run r e h λW1 b μ1 H1 le1 r1 h1=>by
 cases b with
 |true=>exact x.run r1 (e.mono le1) h1 (k.mono le1)
 |false=>exact y.run r1 (e.mono le1) h1 (k.mono le1)⟩
instance{i:Nat}:fG K fl (cT i) (zx i) [i]:=⟨λ{W ρ μ σ H d x Q Q'} r e q h k=>k W _ μ _ H (.refl W) r (e.set q) (by simp) (λj hj=>by rw[Ml (λz=>hj (by simp[z]))]) h⟩
instance:i_ K fl mW nW []:=⟨λ{W ρ μ σ H ds xs Q Q'} r e q h k=>by obtain⟨rfl,h⟩:=h;exact⟨q.nil',k W _ μ _ H (.refl W) r e rfl (λ_ _=>rfl) h⟩⟩
instance{g:TG}{S':List Nat}[a:fG K fl g dg S][b:i_ K fl gs dgs S']:i_ K fl (mX g gs) (e7 dg dgs) (S++S'):=⟨λ{W ρ μ σ H ds xs Q Q'} r e q h k=>by
 cases ds with
 |nil=>exact h.elim
 |cons d ds =>
  obtain⟨x,xs,rfl,q1,q2⟩:=q.uncons;exact⟨x,xs,rfl,a.run r e q1 h λW1 ρ1 μ1 σ1 H1 le1 r1 e1 l1 s1 h1=>b.run r1 e1 (q2.mono le1) h1 λW2 ρ2 μ2 σ2 H2 le2 r2 e2 l2 s2 h2=>k W2 ρ2 μ2 σ2 H2 (le1.trans le2) r2 e2 (l2.trans l1) (λi hi=>by rw[s2 i (λz=>hi (Lw _ z)),s1 i (λz=>hi (Lq _ z))]) h2⟩⟩
instance{n:Nat}[b:i_ K fl gs dgs S]:fG K fl (j0 K n gs) (nX n dgs) S:=⟨λ{W ρ μ σ H d x Q Q'} r e q h k=>by
 cases d<;>first|exact h.elim|skip
 obtain⟨a,xs,rfl,hs,q1⟩:=q.tup';exact⟨a,xs,rfl,hs.sm r.sub,by rw[q1.length];exact h.1,b.run r e q1 h.2 k⟩⟩
instance{g:TG}[a:ac K fl ta wa][b:fG K fl g dg S]:aP K fl (bF ta g) (ae wa dg):=⟨λr e h k=>a.run r e h λW1 d μ1 x H1 le1 r1 q1 h1=>b.run r1 (e.mono le1) q1 h1 λW2 ρ2 μ2 σ2 H2 le2 r2 e2 _ _ h2=>k.nx W2 ρ2 μ2 σ2 H2 (le1.trans le2) r2 e2 h2⟩
theorem Du{W:Wd}{d:D}{x:V}(r:Rel K fl W μ H)(q:Rep K W d x)(h:fH μ d Q):∃W' d' μ',W.le W'/\Rel K fl W' μ' H/\Rep K W' d' x/\Q d' μ':=by
 unfold fH at h;split at h
 .rename_i k;obtain⟨a,rfl,hb⟩:=q.cell';split at h
  .rename_i ds hk;obtain⟨a',e1,e2,xs,e3,q3⟩:=r.cel k _ hk;rw[hb] at e1;cases e1;obtain⟨r2,le2⟩:=r.freeze hk hb e3;exact⟨_,_,_,le2,r2,.lst zJ (q3.mono le2),h⟩
  .rename_i ks vs hk;obtain⟨a',e1,e2,xs,e3,l3,q3⟩:=r.cel k _ hk;rw[hb] at e1;cases e1;obtain⟨r2,le2⟩:=r.freeze hk hb e3;exact⟨_,_,_,le2,r2,by unfold Rep;exact⟨a,xs,rfl,zJ,l3,q3.mono le2⟩,h⟩
  .rename_i ks vs hk;obtain⟨a',e1,e2,xs,e3,l3,q3⟩:=r.cel k _ hk;rw[hb] at e1;cases e1;obtain⟨r2,le2⟩:=r.freeze hk hb e3;exact⟨_,_,_,le2,r2,by unfold Rep;exact⟨a,xs,rfl,zJ,l3,q3.mono le2⟩,h⟩
  .rename_i C ns vs hk;obtain⟨a',e1,e2,C',dx,xs,hc,e3,l3,q3⟩:=r.cel k _ hk;rw[hb] at e1;cases e1;obtain⟨r2,le2⟩:=r.freeze hk hb e3;exact⟨_,_,_,le2,r2,by unfold Rep;exact⟨C',a,dx,xs,hc,rfl,zJ,l3,q3.mono le2⟩,h⟩
  .exact h.elim
 .exact h.elim
theorem aw.set_left{W:Wd}{i:Nat}{d:D}{x:V}(r:aw K W ρ σ)(hx:σ[i]? = some (some x))(q:Rep K W d x):aw K W (ρ.set i (some d)) σ:=⟨by simp[r.1],λj d' e=>by
 by_cases hj:i=j
 .subst hj;by_cases hl:i < ρ.length
  .rw[Mj hl] at e;cases e;exact⟨x,hx,q⟩
  .rw[LL (by simp;omega)] at e;cases e
 .rw[Ml hj] at e;exact r.2 j d' e⟩
instance{i:Nat}[a:aP K fl t v]:aP K fl (sS i t) (jb i v):=⟨λ{W ρ μ σ H D' D} r e h k=>by
 unfold jb at h;split at h
 .rename_i d hd;obtain⟨x,ex,qx⟩:=e.2 i d hd;obtain⟨W',d',μ',le,r',q',h'⟩:=Du r qx h;exact a.run r' ((e.mono le).set_left ex q') h' (k.mono le)
 .exact h.elim⟩
end
def gv(g:DG)(wb:DS)(D:cp)(Pm:Mu->Prop):List L2.D->aj->Mu->Prop
 | [],ρ,μ=>Pm μ/\D.nx ρ μ
 |d::r,ρ,μ=>Pm μ/\g d ρ μ λρ2 μ2=>wb {D with nx:=gv g wb D Pm r,ct:=gv g wb D Pm r,bk:=D.nx} ρ2 μ2
def bS(wi:DI)(g:DG)(wb:DS):DS:=λD ρ μ=>wi ρ μ λds Pm μ1=>gv g wb D Pm ds ρ μ1
section
variable{tb:TS}{wb:DS}
instance{g:TG}[a:kE K fl wi di][b:fG K fl g dg S][c:aP K fl tb wb]:aP K fl (mZ wi g tb) (bS di dg wb):=⟨λ{W ρ μ σ H D' D} r e h k =>
 a.run r e h λW1 J ds Pm μ1 H1 le1 r1 it1 h1=>by
  refine⟨λi m σ H=>∃W2 ρ2 μ2,W1.le W2/\Rel K fl W2 μ2 H/\aw K W2 ρ2 σ/\m=ds.length - i/\gv dg wb D' Pm (ds.drop i) ρ2 μ2,⟨_,W1,ρ,μ1,.refl _,r1,e.mono le1,rfl,h1⟩,?_⟩;rintro i m σ2 H2 ⟨W2,ρ2,μ2,le2,r2,e2,rfl,h2⟩;have hPm:Pm μ2:=by
   cases hdr:ds.drop i with
   |nil=>rw[hdr] at h2;exact h2.1
   |cons _ _=>rw[hdr] at h2;exact h2.1
  obtain⟨go,stop⟩:=it1 W2 μ2 H2 le2 r2 hPm i;by_cases hi:i < ds.length
  .refine .inr ?_;have hd:ds[i]? = some ds[i]:=LC hi;obtain⟨g1,g2⟩:=go _ hd;rw[MM hi] at h2;obtain⟨_,h2⟩:=h2;refine⟨g1,λσ' H'=>∃W3 ρ3 μ3,W1.le W3/\Rel K fl W3 μ3 H'/\aw K W3 ρ3 σ'/\gv dg wb D' Pm (ds.drop (i+1)) ρ3 μ3,λσ' H' ⟨W3,ρ3,μ3,l3,r3,e3,h3⟩=>⟨ds.length - (i+1),by omega,W3,ρ3,μ3,l3,r3,e3,rfl,h3⟩,λx H' y=>?_⟩;obtain⟨W3,le3,r3,q3⟩:=g2 x H' y;refine b.run r3 (e2.mono le3) q3 h2 λW4 ρ4 μ4 σ4 H4 le4 r4 e4 _ _ h4=>c.run r4 e4 h4 ⟨λW5 ρ5 μ5 σ5 H5 le5 r5 e5 h5=>?_,λW5 ρ5 μ5 σ5 H5 le5 r5 e5 h5=>?_,λW5 ρ5 μ5 σ5 H5 le5 r5 e5 h5=>?_,λW5 d5 μ5 x5 H5 le5 r5 e5 h5=>?_⟩
   .exact⟨W5,ρ5,μ5,le2.trans (le3.trans (le4.trans le5)),r5,e5,h5⟩
   .exact k.nx W5 ρ5 μ5 σ5 H5 (le1.trans (le2.trans (le3.trans (le4.trans le5)))) r5 e5 h5
   .exact⟨W5,ρ5,μ5,le2.trans (le3.trans (le4.trans le5)),r5,e5,h5⟩
   .exact k.rt W5 d5 μ5 x5 H5 (le1.trans (le2.trans (le3.trans (le4.trans le5)))) r5 e5 h5
  .rw[Nh (by omega)] at h2;exact .inl ⟨stop (by omega),k.nx W2 ρ2 μ2 σ2 H2 (le1.trans le2) r2 e2 h2.2⟩⟩
end
def fJ(ρ:aj)(fr:List Nat):aj:=fr.map λj=>(ρ[j]?).join
def b7(g:DG)(wc:DT)(we:DE)(ρb:aj)(Pm:Mu->Prop)(Fin:List D->Mu->Prop):List D->List D->Mu->Prop
 | [],ys,μ=>Pm μ/\Fin ys μ
 |d::r,ys,μ=>Pm μ/\ys.length < sizeLine/\g d ρb μ λρ2 μ2=>wc ρ2 μ2 λb μ3=>if b=true then we ρ2 μ3 λv μ4=>b7 g wc we ρb Pm Fin r (ys++[v]) μ4 else b7 g wc we ρb Pm Fin r ys μ3
def cP:DT:=λ_ μ Q=>Q true μ
instance:cG K fl nH cP:=⟨λ{W ρ μ σ H Q Q'} r e h k=>k W _ μ H (.refl W) r h⟩
def bK(own:List Str)(fr:List Nat)(S:List Nat)(wi:DI)(g:DG)(wc:DT)(we:DE):DE:=λρ μ Q=>(S.all λi=>decide (i < own.length))=true/\wi ρ μ λds Pm μ1 =>
 b7 g wc we (LB own.length none++fJ ρ fr) Pm (λys μ2=>Q (.lst ys) μ2) ds [] μ1
def IS(own:List Str)(fr:List Nat)(S:List Nat)(wi:DI)(g:DG)(wc:DT)(we:DE):DE:=λρ μ Q=>(S.all λi=>decide (i < own.length))=true/\wi ρ μ λds Pm μ1 =>
 b7 g wc we (LB own.length none++fJ ρ fr) Pm (λys μ2=>∀k,μ2 k=none->Q (.cell k) (zY μ2 k (.lst ys))) ds [] μ1
section
variable{g:TG}
theorem aw.comp{W:Wd}(e:aw K W ρ σ)(own:List Str)(fr:List Nat):aw K W (LB own.length none++fJ ρ fr) (own.map (λ_=>none)++dh σ fr):=by
 refine⟨by simp[fJ,dh],λi d h=>?_⟩;by_cases hi:i < own.length
 .rw[Mi (by simp;exact hi),Oc] at h;rw[if_pos hi] at h;cases h
 .rw[M0 (by simp;omega)] at h;rw[M0 (by simp;omega)];simp only[Ol,fJ,Ln] at h;simp only[L1,dh,Ln];cases hj:fr[i - own.length]? with
  |none=>rw[hj] at h;cases h
  |some j =>
   rw[hj] at h;simp only[MF,MZ] at h ⊢;cases hd:ρ[j]? with
   |none=>rw[hd] at h;cases h
   |some o =>
    rw[hd] at h;obtain⟨x,hx,q⟩:=e.2 j d (by rw[hd];simpa using h);exact⟨x,by rw[hx];rfl,q⟩
theorem Dv(own:List Str)(fr:List Nat)[b:fG K fl g dg S][c:cG K fl tc wc][v:ac K fl te we]{W1:Wd}{μ1:Mu}{H1:Hp}{J:It}{ds:List D}{Fin:List D->Mu->Prop}{Fin':List V->Hp->Prop}(e:aw K W1 ρ σ)(r1:Rel K fl W1 μ1 H1)(it1:ItR K fl W1 J ds Pm)
  (hS:(S.all λi=>decide (i < own.length))=true)(h:b7 dg wc we (LB own.length none++fJ ρ fr) Pm Fin ds [] μ1)
  (hF:∀W2 ys μ2 xs H2,W1.le W2->Rel K fl W2 μ2 H2->zG K W2 ys xs->Fin ys μ2->Fin' xs H2) :
  ∃W:Nat->Nat->List V->Hp->Prop,(∃m,W 0 m [] H1)/\nI J g tc te (own.map (λ_=>none)++dh σ fr) Fin' W:=by
 refine⟨λi m xs H=>∃W2 ys μ2,W1.le W2/\Rel K fl W2 μ2 H/\zG K W2 ys xs/\m=ds.length - i/\b7 dg wc we (LB own.length none++fJ ρ fr) Pm Fin (ds.drop i) ys μ2,⟨_,W1,[],μ1,.refl _,r1,.nil,rfl,h⟩,?_⟩;rintro i m xs H2 ⟨W2,ys,μ2,le2,r2,q2,rfl,h2⟩;have hPm:Pm μ2:=by
  cases hdr:ds.drop i with
  |nil=>rw[hdr] at h2;exact h2.1
  |cons _ _=>rw[hdr] at h2;exact h2.1
 obtain⟨go,stop⟩:=it1 W2 μ2 H2 le2 r2 hPm i;by_cases hi:i < ds.length
 .refine .inr ?_;have hd:ds[i]? = some ds[i]:=LC hi;obtain⟨g1,g2⟩:=go _ hd;rw[MM hi] at h2;obtain⟨_,hz,h2⟩:=h2;refine⟨g1,by rw[q2.length];exact hz,λxs' H'=>∃W3 ys3 μ3,W1.le W3/\Rel K fl W3 μ3 H'/\zG K W3 ys3 xs'/\b7 dg wc we (LB own.length none++fJ ρ fr) Pm Fin (ds.drop (i+1)) ys3 μ3,λxs' H' ⟨W3,ρ3,μ3,l3,r3,e3,h3⟩=>⟨ds.length - (i+1),by omega,W3,ρ3,μ3,l3,r3,e3,rfl,h3⟩,λx H' y=>?_⟩;obtain⟨W3,le3,r3,q3⟩:=g2 x H' y;refine b.run r3 (((e.comp own fr).mono le2).mono le3) q3 h2 λW4 ρ4 μ4 σ4 H4 le4 r4 e4 l4 s4 h4=>⟨⟨l4.symm,λj v hj=>?_⟩,?_⟩
  .by_cases hjS:j∈S
   .have:j < own.length:=of_decide_eq_true (Me.mp hS j hjS);rw[Mi (by simp;exact this),Ln,LC this] at hj;cases hj
   .rw[s4 j hjS];exact hj
  .refine c.run r4 e4 h4 λW5 bb μ5 H5 le5 r5 h5=>?_
   cases bb with
   |true=>exact v.run r5 (e4.mono le5) h5 λW6 d6 μ6 x6 H6 le6 r6 q6 h6=>⟨W6,_,μ6,le2.trans (le3.trans (le4.trans (le5.trans le6))),r6,(q2.mono (le3.trans (le4.trans (le5.trans le6)))).append (.cons q6 .nil),h6⟩
   |false=>exact⟨W5,ys,μ5,le2.trans (le3.trans (le4.trans le5)),r5,q2.mono (le3.trans (le4.trans le5)),h5⟩
 .rw[Nh (by omega)] at h2;exact .inl ⟨stop (by omega),hF W2 ys μ2 xs H2 le2 r2 q2 h2.2⟩
instance{own:List Str}[a:kE K fl wi di][b:fG K fl g dg S][c:cG K fl tc wc][v:ac K fl te we]:ac K fl (iY own fr wi g tc te) (bK own fr S di dg wc we):=⟨λ{W ρ μ σ H Q Q'} r e h k =>
 a.run r e h.2 λW1 J ds Pm μ1 H1 le1 r1 it1 h1=>Dv own fr (e.mono le1) r1 it1 h.1 h1 λW2 ys μ2 xs H2 le2 r2 q2 h2 p hp=>by
  obtain⟨r3,le3⟩:=r2.newF (o:= .lst xs) hp;exact k _ _ _ _ _ (le1.trans (le2.trans le3)) r3 (.lst zJ (q2.mono le3)) h2⟩
end
def lift(K:Frag)(dsp:DSp):Sp:=λvs H Q _=>∃fl W μ ds Q0,Rel K fl W μ H/\zG K W ds vs/\dsp ds μ Q0/\KV' K fl W Q0 Q
def dCall(dsp:DSp)(w:DA):DE:=λρ μ Q=>w ρ μ λds μ1=>dsp ds μ1 Q
instance{E:XK}{t:TA}{w:DA}[a:a7 K fl t w]:ac K fl (g_ (lift K dsp) [] E t) (dCall dsp w):=⟨λ{W ρ μ σ H Q Q'} r e h k =>
 a.run r e h λW1 ds μ1 xs H1 le1 r1 q1 h1=>⟨fl,W1,μ1,ds,Q,r1,by rw[M8];exact q1,h1,λW2 d μ2 x H2 le2=>k W2 d μ2 x H2 (le1.trans le2)⟩⟩
def jc(N:List Str)(ds:List D):aj:=ds.map some++LB (N.length - ds.length) none
theorem aw.start{W:Wd}{ds:List D}(h:zG K W ds vs):aw K W (jc N ds) (start N vs):=by
 refine⟨by simp[jc,sf,h.length],λi d e=>?_⟩;unfold jc at e;rw[sf];by_cases hi:i < ds.length
 .rw[Mi (by simp;exact hi),Ln,LC hi] at e;simp only[MF,MZ] at e;obtain⟨x,hx,q⟩:=h.get (i:=i) (d:=d) (by rw[LC hi,e]);exact⟨x,by rw[Mi (by simp[h.length];exact hi),Ln,hx];rfl,q⟩
 .rw[M0 (by simp;omega),Oc] at e;split at e<;>cases e
section
end
section
end
def aA(μ:Mu):D->Option (List D)
 | .lst ds=>some ds
 | .cell k=>match μ k with
  |some (.lst ds)=>some ds
  |_=>none
 |_=>none
def bC(μ:Mu):D->Option (List D)
 | .tup ds=>some ds
 |d=>aA μ d
section
variable{W:Wd}{d:D}{x:V}{ds:List D}
theorem dr(r:Rel K fl W μ H)(q:Rep K W d x)(h:aA μ d=some ds):∃a xs,x= .ref a/\H a=some (.lst xs)/\zG K W ds xs:=by
 unfold aA at h;split at h
 .cases h;obtain⟨a,xs,rfl,e,z⟩:=q.lst';exact⟨a,xs,rfl,r.sub _ _ e,z⟩
 .rename_i k;obtain⟨a,rfl,hb⟩:=q.cell';split at h
  .rename_i ds' hk;cases h;obtain⟨a',e1,e2,xs,e3,q3⟩:=r.cel k _ hk;rw[hb] at e1;cases e1;exact⟨a,xs,rfl,e3,q3⟩
  .cases h
 .cases h
theorem ig(r:Rel K fl W μ H)(q:Rep K W d x)(h:bC μ d=some ds):∃a xs,x= .ref a/\(SqL K H a xs\/SqT K H a xs)/\zG K W ds xs:=by
 unfold bC at h;split at h
 .cases h;obtain⟨a,xs,rfl,e,z⟩:=q.tup';exact⟨a,xs,rfl,.inr (e.sm r.sub),z⟩
 .obtain⟨a,xs,rfl,e,z⟩:=dr r q h;exact⟨a,xs,rfl,.inl (SqL.of e),z⟩
end
section
end
def Dw:R2:=λx y H Q=>∃i j,x= .str i/\y= .str j/\i.length+j.length<=sizeLine/\Q (.str (i++j)) H
def Dx:R2:=rI0 λi j=> .int (i+j)
def sU(K:Frag):R2:=λx y H Q=>Dx x y H Q\/Dw x y H Q\/rM x y H Q\/rB K x y H Q
theorem a9(K:Frag)(h:X.K=K:=by rfl):OpR X (binaryOp .Add) (sU K):=h▸j5.or (AY.or (BN.or Bw))
def aI:DR2:=λd e μ Q=>match d,e with
 | .int i,.int j=>Q (.int (i+j)) μ
 | .str a,.str b=>a.length+b.length<=sizeLine/\Q (.str (a++b)) μ
 | .tup a,.tup b=>a≠[]/\a.length+b.length<=sizeLine/\Q (.tup (a++b)) μ
 |d,e=>∃a b,aA μ d=some a/\aA μ e=some b/\a.length+b.length<=sizeLine/\Q (.lst (a++b)) μ
instance:a8 K fl (sU K) aI:=⟨λ{W μ H d e x y Q Q'} r q1 q2 h k=>by
 unfold aI at h;split at h
 .rw[q1.i',q2.i'];exact .inl ⟨_,_,rfl,rfl,k _ _ _ _ _ (.refl _) r .i h⟩
 .rw[q1.s',q2.s'];exact .inr (.inl ⟨_,_,rfl,rfl,h.1,k _ _ _ _ _ (.refl _) r .s h.2⟩)
 .rename_i a b;obtain⟨p,xs,rfl,s1,z1⟩:=q1.tup';obtain⟨p',ys,rfl,s2,z2⟩:=q2.tup';obtain⟨hn,hz,h⟩:=h;refine .inr (.inr (.inr ⟨p,p',xs,ys,rfl,rfl,s1.sm r.sub,s2.sm r.sub,λz=>?_,by rw[z1.length,z2.length];exact hz,λz=>?_,λ_ q hq=>?_⟩))
  .have:=z1.length;rw[z] at this;exact hn (Oe.mp this.symm)
  .have:=z2.length;rw[z] at this;have e:b=[]:=Oe.mp this.symm;subst e;rw[M8] at h;exact k _ _ _ _ _ (.refl _) r q1 h
  .obtain⟨r2,le2⟩:=r.newF (o:= .tup (xs++ys)) hq;exact k _ _ _ _ _ le2 r2 (.tup (SqT.of zJ) ((z1.mono le2).append (z2.mono le2))) h
 .obtain⟨a,b,e1,e2,hz,h⟩:=h;obtain⟨p,xs,rfl,s1,z1⟩:=dr r q1 e1;obtain⟨p',ys,rfl,s2,z2⟩:=dr r q2 e2;refine .inr (.inr (.inl ⟨p,p',xs,ys,rfl,rfl,s1,s2,by rw[z1.length,z2.length];exact hz,λq hq=>?_⟩));obtain⟨r2,le2⟩:=r.newF (o:= .lst (xs++ys)) hq;exact k _ _ _ _ _ le2 r2 (.lst zJ ((z1.mono le2).append (z2.mono le2))) h⟩
def dI(C:Int->Int->Prop)(g:Int->Int->D):DR2:=λd e μ Q=>match d,e with
 | .int i,.int j=>C i j/\Q (g i j) μ
 |_,_=>False
def dI0(g:Int->Int->D):DR2:=λd e μ Q=>match d,e with
 | .int i,.int j=>Q (g i j) μ
 |_,_=>False
section
theorem sV{C:Int->Int->Prop}{g:Int->Int->V}{g':Int->Int->D}(hg:∀W i j,Rep K W (g' i j) (g i j)):a8 K fl (rI C g) (dI C g'):=⟨λ{W μ H d e x y Q Q'} r q1 q2 h k=>by
 unfold dI at h;split at h
 .rw[q1.i',q2.i'];exact⟨_,_,rfl,rfl,h.1,k _ _ _ _ _ (.refl _) r (hg _ _ _) h.2⟩
 .exact h.elim⟩
theorem jd{g:Int->Int->V}{g':Int->Int->D}(hg:∀W i j,Rep K W (g' i j) (g i j)):a8 K fl (rI0 g) (dI0 g'):=⟨λ{W μ H d e x y Q Q'} r q1 q2 h k=>by
 unfold dI0 at h;split at h
 .rw[q1.i',q2.i'];exact⟨_,_,rfl,rfl,k _ _ _ _ _ (.refl _) r (hg _ _ _) h⟩
 .exact h.elim⟩
end
def eh:DR2:=dI0 λi j=> .int (i - j)
def nZ:DR2:=dI gk λi j=> .int (i / j)
def gw:DR2:=dI (λ_ j=>0 < j) λi j=> .int (i % j)
def IT:DR2:=dI j4 λi j=> .int (i^j.toNat)
def dLt:DR2:=dI0 λi j=> .bl (decide (i < j))
def dLe:DR2:=dI0 λi j=> .bl (decide (i<=j))
def dGt:DR2:=dI0 λi j=> .bl (decide (j < i))
def dGe:DR2:=dI0 λi j=> .bl (decide (j<=i))
def fK:DR1:=λd μ Q=>match d with
 | .int i=>Q (.int (-i)) μ
 |_=>False
section
instance:a8 K fl (rI0 λi j=> .int (i - j)) eh:=jd λ_ _ _=> .i
instance:a8 K fl (rI gk λi j=> .int (i / j)) nZ:=sV λ_ _ _=> .i
instance:a8 K fl (rI (λ_ j=>0 < j) λi j=> .int (i % j)) gw:=sV λ_ _ _=> .i
instance:a8 K fl (rI0 λi j=> .bl (decide (i < j))) dLt:=jd λ_ _ _=> .b
instance:a8 K fl (rI0 λi j=> .bl (decide (i<=j))) dLe:=jd λ_ _ _=> .b
instance:a8 K fl (rI0 λi j=> .bl (decide (j < i))) dGt:=jd λ_ _ _=> .b
instance:a8 K fl (rI0 λi j=> .bl (decide (j<=i))) dGe:=jd λ_ _ _=> .b
instance:sQ K fl (rU λi=> .int (-i)) fK:=⟨λ{W μ H d x Q Q'} r q h k=>by
 unfold fK at h;split at h
 .rw[q.i'];exact⟨_,rfl,k _ _ _ _ _ (.refl _) r .i h⟩
 .exact h.elim⟩
end
def Dy:R2:=rI dL λi j=> .int (i*j)
def kH:R2:=λx y H Q=>Dy x y H Q\/rN x y H Q
theorem Dz:OpR X (binaryOp .Mult) kH:=qM.or BO
def je:DR2:=λd e μ Q=>match d,e with
 | .int i,.int j=>dL i j/\Q (.int (i*j)) μ
 |d,.int j=>∃a,aA μ d=some a/\ -(2^63)<=j/\j < 2^63/\a.length*j.toNat<=sizeLine/\Q (.lst (LB j.toNat a).flatten) μ
 |_,_=>False
theorem zG.rep{W:Wd}{ds:List D}(h:zG K W ds xs):∀n:Nat,zG K W (LB n ds).flatten (LB n xs).flatten
 |0=> .nil
 |n+1=>by rw[MK,MK,MX,MX];exact h.append (zG.rep h n)
instance:a8 K fl kH je:=⟨λ{W μ H d e x y Q Q'} r q1 q2 h k=>by
 unfold je at h;split at h
 .rw[q1.i',q2.i'];exact .inl ⟨_,_,rfl,rfl,h.1,k _ _ _ _ _ (.refl _) r .i h.2⟩
 .rename_i j _;obtain⟨a,e1,h1,h2,hz,h⟩:=h;obtain⟨p,xs,rfl,s1,z1⟩:=dr r q1 e1;rw[q2.i'];refine .inr ⟨p,_,xs,rfl,rfl,s1,h1,h2,by rw[z1.length];exact hz,λq hq=>?_⟩;obtain⟨r2,le2⟩:=r.newF (o:= .lst (LB j.toNat xs).flatten) hq;exact k _ _ _ _ _ le2 r2 (.lst zJ ((z1.mono le2).rep _)) h
 .exact h.elim⟩
def DB:DR2:=λd e μ Q=>match d,e with
 | .int i,.int j=>Q (.int (i+j)) μ
 | .cell k,e=>∃a b,μ k=some (.lst a)/\aA μ e=some b/\a.length+b.length<=sizeLine/\Q (.cell k) (zY μ k (.lst (a++b)))
 |_,_=>False
def IU:DR2:=dI0 λi j=> .int (i - j)
def IV:DR2:=dI dL λi j=> .int (i*j)
theorem zG.atI{W:Wd}{ds:List D}{i:Int}{d:D}(h:zG K W ds xs)(e:L2.atI ds i=some d):∃x,L2.atI xs i=some x/\Rep K W d x:=by
 unfold L2.atI at *;rw[h.length];cases hn:ixN ds.length i with
 |none=>rw[hn] at e;cases e
 |some j =>
  rw[hn] at e;exact h.get e
def dIx:DR2:=λd e μ Q=>match d,e with
 | .str z,.int i=>z.length<=sizeLine/\(match L2.atI z.cps.toList i with
  |some c=>Q (.str ⟨#[c]⟩) μ
  |none=>False)
 |d,.int i=>match bC μ d with
  |some ds=>match L2.atI ds i with
   |some v=>Q v μ
   |none=>False
  |none=>False
 |_,_=>False
instance:a8 K fl (rIx K) dIx:=⟨λ{W μ H d e x y Q Q'} r q1 q2 h k=>by
 unfold dIx at h;split at h
 .rename_i z i;obtain⟨hz,h⟩:=h;split at h
  .rename_i c hc;rw[q1.s',q2.i'];exact .inr (.inr ⟨z,i,c,rfl,rfl,hz,hc,k _ _ _ _ _ (.refl _) r .s h⟩)
  .exact h.elim
 .rename_i i _;split at h
  .rename_i ds hds;obtain⟨p,xs,rfl,s1,z1⟩:=ig r q1 hds;split at h
   .rename_i v hv;obtain⟨w,ew,qw⟩:=z1.atI hv;rw[q2.i'];rcases s1 with s1|s1
    .exact .inl ⟨p,xs,i,w,rfl,rfl,s1,ew,k _ _ _ _ _ (.refl _) r qw h⟩
    .exact .inr (.inl ⟨p,xs,i,w,rfl,rfl,s1,ew,k _ _ _ _ _ (.refl _) r qw h⟩)
   .exact h.elim
  .exact h.elim
 .exact h.elim⟩
theorem DC(K:Frag)(h:X.K=K:=by rfl):IxR X (rIx K):=h▸BA
def bT:DO:=λ_ μ Q=>Q none μ
def bD(w:DE):DO:=λρ μ Q=>w ρ μ λd μ1=>match d with
 | .int i=>Q (some i) μ1
 |_=>False
abbrev DSl:=D->Option Int->Option Int->Mu->DK->Prop
class n3(K:Frag)(fl:Wd)(r:V->Option Int->Option Int->Hp->VK->Prop)(q:DSl):Prop where
 run:∀{W μ H d x lo hi Q Q'},Rel K fl W μ H->Rep K W d x->q d lo hi μ Q->KV' K fl W Q Q'->r x lo hi H Q'
def dSl(q:DSl)(we:DE)(wl wh:DO):DE:=λρ μ Q=>we ρ μ λd μ1=>wl ρ μ1 λl μ2=>wh ρ μ2 λu μ3=>q d l u μ3 Q
section
variable{tl th:TO}{wl wh:DO}
instance:kD K fl nh bT:=⟨λ{W ρ μ σ H Q Q'} r e h k=>k W _ μ H (.refl W) r h⟩
instance[a:ac K fl te we]:kD K fl (ni te) (bD we):=⟨λr e h k=>a.run r e h λW1 d μ1 x H1 le1 r1 q1 h1=>by
 cases d<;>first|exact h1.elim|skip
 exact⟨_,q1.i',k W1 _ μ1 H1 le1 r1 h1⟩⟩
instance{r:V->Option Int->Option Int->Hp->VK->Prop}{q:DSl}[a:ac K fl te we][b:kD K fl tl wl][c:kD K fl th wh][o:n3 K fl r q]:ac K fl (tSl r te tl th) (dSl q we wl wh):=⟨λr e h k =>
 a.run r e h λW1 d μ1 x H1 le1 r1 q1 h1=>b.run r1 (e.mono le1) h1 λW2 l μ2 H2 le2 r2 h2=>c.run r2 (e.mono (le1.trans le2)) h2 λW3 u μ3 H3 le3 r3 h3=>o.run r3 (q1.mono (le2.trans le3)) h3 λW4 d4 μ4 x4 H4 le4 r4 q4 h4=>k W4 d4 μ4 x4 H4 (le1.trans (le2.trans (le3.trans le4))) r4 q4 h4⟩
end
def cutD(xs:List α)(lo hi:Option Int):List α:=(xs.drop (HT.sIx xs.length 0 lo)).take (HT.sIx xs.length xs.length hi - HT.sIx xs.length 0 lo)
theorem zG.cut{W:Wd}{ds:List D}(h:zG K W ds xs)(lo hi:Option Int):zG K W (cutD ds lo hi) (cD xs lo hi):=by
 unfold cutD cD;rw[h.length];exact(h.drop _).take _
def sW(K:Frag):V->Option Int->Option Int->Hp->VK->Prop:=λx lo hi H Q=>nr K x lo hi H Q\/rq K x lo hi H Q
theorem kI(K:Frag)(h:X.K=K:=by rfl):SlR X (sW K):=h▸rH.or rA
def aO:DSl:=λd lo hi μ Q=>match d with
 | .tup ds=>¬ (HT.sIx ds.length 0 lo=0/\HT.sIx ds.length ds.length hi=ds.length)/\Q (.tup (cutD ds lo hi)) μ
 |d=>match aA μ d with
  |some ds=>Q (.lst (cutD ds lo hi)) μ
  |none=>False
instance:n3 K fl (sW K) aO:=⟨λ{W μ H d x lo hi Q Q'} r q1 h k=>by
 unfold aO at h;split at h
 .obtain⟨p,xs,rfl,s1,z1⟩:=q1.tup';refine .inr ⟨p,xs,rfl,s1.sm r.sub,by rw[z1.length];exact h.1,λq hq=>?_⟩;obtain⟨r2,le2⟩:=r.newF (o:= .tup (cD xs lo hi)) hq;exact k _ _ _ _ _ le2 r2 (.tup (SqT.of zJ) ((z1.mono le2).cut _ _)) h.2
 .split at h
  .rename_i ds hds;obtain⟨p,xs,rfl,s1,z1⟩:=dr r q1 hds;refine .inl ⟨p,xs,rfl,SqL.of s1,λq hq=>?_⟩;obtain⟨r2,le2⟩:=r.newF (o:= .lst (cD xs lo hi)) hq;exact k _ _ _ _ _ le2 r2 (.lst zJ ((z1.mono le2).cut _ _)) h
  .exact h.elim⟩
mutual
def toPy:D->Option PyData
 | .non=>some .none
 | .bl b=>some (.bool b)
 | .int i=>some (.int i)
 | .str x=>some (.str x)
 | .tup ds=>(bE ds).map .tuple
 | .lst ds=>(bE ds).map .list
 |_=>none
def bE:List D->Option (List PyData)
 | []=>some []
 |d::ds=>match toPy d,bE ds with
  |some p,some ps=>some (p::ps)
  |_,_=>none
end
def e8(μ:Mu):D->Option PyData
 | .cell k=>match μ k with
  |some (.lst ds)=>(bE ds).map .list
  |_=>none
 |d=>toPy d
section
variable{W:Wd}
mutual
theorem sX(s:dP W.F H):∀{d:D} {p:PyData} {x:V},toPy d=some p->Rep K W d x->Dat K H p x
 | .non,_,_,e,q=>by unfold toPy at e;cases e;rw[q.n'];exact .n
 | .bl _,_,_,e,q=>by unfold toPy at e;cases e;rw[q.b'];exact .b
 | .int _,_,_,e,q=>by unfold toPy at e;cases e;rw[q.i'];exact .i
 | .str _,_,_,e,q=>by unfold toPy at e;cases e;rw[q.s'];exact .s
 | .tup ds,_,_,e,q=>by
  unfold toPy at e;obtain⟨a,xs,rfl,h,z⟩:=q.tup';cases e1:bE ds with
  |none=>rw[e1] at e;cases e
  |some ps=>rw[e1] at e;cases e;exact .tup (h.sm s) (kJ s e1 z)
 | .lst ds,_,_,e,q=>by
  unfold toPy at e;obtain⟨a,xs,rfl,h,z⟩:=q.lst';cases e1:bE ds with
  |none=>rw[e1] at e;cases e
  |some ps=>rw[e1] at e;cases e;exact .lst (SqL.of (s _ _ h)) (kJ s e1 z)
 | .ty _,_,_,e,_=>by unfold toPy at e;cases e
 | .cls _,_,_,e,_=>by unfold toPy at e;cases e
 | .scr _,_,_,e,_=>by unfold toPy at e;cases e
 | .cell _,_,_,e,_=>by unfold toPy at e;cases e
 | .dct _ _,_,_,e,_=>by unfold toPy at e;cases e
 | .dtt _ _,_,_,e,_=>by unfold toPy at e;cases e
 | .obj _ _ _,_,_,e,_=>by unfold toPy at e;cases e
theorem kJ(s:dP W.F H):∀{ds:List D} {ps:List PyData} {xs:List V},bE ds=some ps->zG K W ds xs->bx K H ps xs
 | [],_,_,e,q=>by unfold bE at e;cases e;rw[q.nil'];exact .nil
 |d::ds,_,_,e,q=>by
  unfold bE at e;obtain⟨x,r,rfl,q1,q2⟩:=q.uncons;cases e1:toPy d with
  |none=>rw[e1] at e;cases e
  |some p =>
   cases e2:bE ds with
   |none=>rw[e1,e2] at e;cases e
   |some ps=>rw[e1,e2] at e;cases e;exact .cons (sX s e1 q1) (kJ s e2 q2)
end
theorem kK{d:D}{p:PyData}{x:V}(r:Rel K fl W μ H)(e:e8 μ d=some p)(q:Rep K W d x):Dat K H p x:=by
 unfold e8 at e;split at e
 .rename_i k;obtain⟨a,rfl,hb⟩:=q.cell';split at e
  .rename_i ds hk;obtain⟨a',e1,e2,xs,e3,q3⟩:=r.cel k _ hk;rw[hb] at e1;cases e1;cases e4:bE ds with
   |none=>rw[e4] at e;cases e
   |some ps=>rw[e4] at e;cases e;exact .lst (SqL.of e3) (kJ r.sub e4 q3)
  .cases e
 .exact sX r.sub e q
end
def sY(K:Frag)(neg:Bool):R2:=λx y H Q=>∃d d',Dat K H d x/\Dat K H d' y/\cX d/\cX d'/\Q (.bl (if neg then !PyData.eqv d d' else PyData.eqv d d')) H
def sZ(K:Frag):R2:=λx y H Q=>rEq x y H Q\/sY K false x y H Q
def s_(K:Frag):R2:=λx y H Q=>rNe x y H Q\/sY K true x y H Q
theorem du(K:Frag){k:Nat}(hr:au cm k X.A)(h:X.K=K:=by rfl):OpR X (compareOp .Eq) (sZ K):=qU.or (CY K hr h)
theorem eA(K:Frag){k:Nat}(hr:au cm k X.A)(h:X.K=K:=by rfl):OpR X (compareOp .NotEq) (s_ K):=AR.or (CZ K hr h)
def dv(neg:Bool):DR2:=λd e μ Q=>match d,e with
 | .int i,.int j=>Q (.bl (neg ^^ decide (i=j))) μ
 | .str i,.str j=>Q (.bl (neg ^^ decide (i=j))) μ
 | .bl i,.bl j=>Q (.bl (neg ^^ decide (i=j))) μ
 |d,e=>match e8 μ d,e8 μ e with
  |some p,some q=>cX p/\cX q/\Q (.bl (neg ^^ PyData.eqv p q)) μ
  |_,_=>False
def dEq:DR2:=dv false
def dNe:DR2:=dv true
theorem tj(i j:Int):decide (V.int i=V.int j)=decide (i=j):=by by_cases h:i=j<;>simp[h]
theorem tm(i j:Str):decide (V.str i=V.str j)=decide (i=j):=by by_cases h:i=j<;>simp[h]
theorem tq(i j:Bool):decide (V.bl i=V.bl j)=decide (i=j):=by by_cases h:i=j<;>simp[h]
instance:a8 K fl (sZ K) dEq:=⟨λ{W μ H d e x y Q Q'} r q1 q2 h k=>by
 unfold dEq dv at h;simp only[MA] at h;split at h
 .rw[q1.i',q2.i'];exact .inl ⟨rfl,k _ _ _ _ _ (.refl _) r (by rw[tj];exact .b) h⟩
 .rw[q1.s',q2.s'];exact .inl ⟨rfl,k _ _ _ _ _ (.refl _) r (by rw[tm];exact .b) h⟩
 .rw[q1.b',q2.b'];exact .inl ⟨rfl,k _ _ _ _ _ (.refl _) r (by rw[tq];exact .b) h⟩
 .split at h
  .rename_i p q e1 e2;exact .inr ⟨p,q,kK r e1 q1,kK r e2 q2,h.1,h.2.1,k _ _ _ _ _ (.refl _) r .b h.2.2⟩
  .exact h.elim⟩
instance:a8 K fl (s_ K) dNe:=⟨λ{W μ H d e x y Q Q'} r q1 q2 h k=>by
 unfold dNe dv at h;simp only[My] at h;split at h
 .rw[q1.i',q2.i'];exact .inl ⟨rfl,k _ _ _ _ _ (.refl _) r (by rw[tj];exact .b) h⟩
 .rw[q1.s',q2.s'];exact .inl ⟨rfl,k _ _ _ _ _ (.refl _) r (by rw[tm];exact .b) h⟩
 .rw[q1.b',q2.b'];exact .inl ⟨rfl,k _ _ _ _ _ (.refl _) r (by rw[tq];exact .b) h⟩
 .split at h
  .rename_i p q e1 e2;exact .inr ⟨p,q,kK r e1 q1,kK r e2 q2,h.1,h.2.1,k _ _ _ _ _ (.refl _) r .b h.2.2⟩
  .exact h.elim⟩
def dy:D->Bool
 | .non=>true
 |_=>false
def dIs:DR2:=λd e μ Q=>match e with
 | .non=>Q (.bl (dy d)) μ
 |_=>False
def DD:DR2:=λd e μ Q=>match e with
 | .non=>Q (.bl (!dy d)) μ
 |_=>False
def ii:D->Option V
 | .non=>some .non
 | .bl b=>some (.bl b)
 | .int i=>some (.int i)
 | .str x=>some (.str x)
 |_=>none
def fL:List D->Option (List V)
 | []=>some []
 |d::ds=>match ii d,fL ds with
  |some x,some xs=>some (x::xs)
  |_,_=>none
theorem tu{W:Wd}{d:D}{x v:V}(e:ii d=some v)(q:Rep K W d x):x=v/\dO v=true:=by
 cases d<;>simp only[ii,MZ,reduceCtorEq] at e
 .rw[<- e];exact⟨q.n',rfl⟩
 .rw[<- e];exact⟨q.b',rfl⟩
 .rw[<- e];exact⟨q.i',rfl⟩
 .rw[<- e];exact⟨q.s',rfl⟩
theorem tz{K:Frag}{W:Wd}:∀{ds:List D} {xs vs:List V},fL ds=some vs->zG K W ds xs->xs=vs/\vs.all dO=true
 | [],_,_,e,q=>by unfold fL at e;cases e;exact⟨q.nil',rfl⟩
 |d::ds,_,_,e,q=>by
  unfold fL at e;obtain⟨x,r,rfl,q1,q2⟩:=q.uncons;cases e1:ii d with
  |none=>rw[e1] at e;cases e
  |some v =>
   cases e2:fL ds with
   |none=>rw[e1,e2] at e;cases e
   |some vs =>
    rw[e1,e2] at e;cases e;obtain⟨a,b⟩:=tu e1 q1;obtain⟨c,f⟩:=tz e2 q2;exact⟨by rw[a,c],by rw[PR,b,f];rfl⟩
def bi(neg:Bool):DR2:=λd e μ Q=>match bC μ e with
 |some ds=>match ii d,fL ds with
  |some v,some vs=>Q (.bl (if neg then !inV v vs else inV v vs)) μ
  |_,_=>False
 |none=>False
instance:a8 K fl (rIn K neg) (bi neg):=⟨λ{W μ H d e x y Q Q'} r q1 q2 h k=>by
 unfold bi at h;split at h
 .rename_i ds hds;obtain⟨p,xs,rfl,s1,z1⟩:=ig r q2 hds;split at h
  .rename_i v vs e1 e2;obtain⟨a,b⟩:=tu e1 q1;obtain⟨c,f⟩:=tz e2 z1;subst a c;exact⟨p,_,rfl,s1,b,f,k _ _ _ _ _ (.refl _) r .b h⟩
  .exact h.elim
 .exact h.elim⟩
def dCB(q:DRs)(w:DA):DE:=λρ μ Q=>w ρ μ λds μ1=>q ds μ1 Q
instance{r:List V->Hp->VK->Prop}{q:DRs}{t:TA}{w:DA}[a:a7 K fl t w][o:bu K fl r q]:ac K fl (tCB r t) (dCB q w):=⟨λr e h k =>
 a.run r e h λW1 ds μ1 xs H1 le1 r1 q1 h1=>o.run r1 q1 h1 λW2 d μ2 x H2 le2=>k W2 d μ2 x H2 (le1.trans le2)⟩
section
variable(K:Frag)
def DF:List V->Hp->VK->Prop:=λxs H Q=>∃p ys,xs=[.ref p]/\(SqL K H p ys\/SqT K H p ys)/\Q (.int ys.length) H
def DH:List V->Hp->VK->Prop:=λxs H Q=>∃z,xs=[.str z]/\z.length<=sizeLine/\Q (.int z.length) H
def tE:List V->Hp->VK->Prop:=λxs H Q=>DF K xs H Q\/DH xs H Q
theorem bj(h:X.K=K:=by rfl):ag X (.builtin "len") (tE K):=h▸rK.or BH
def DL:List V->Hp->VK->Prop:=λxs H Q=>∃i j,xs=[.int i,.int j]/\Q (.int (if j > i then j else i)) H
def DN:List V->Hp->VK->Prop:=λxs H Q=>∃p ns,xs=[.ref p]/\SqL K H p (ns.map V.int)/\ns≠[]/\∀M∈ns,(∀a∈ns,a<=M)->Q (.int M) H
def tF:List V->Hp->VK->Prop:=λxs H Q=>DL xs H Q\/DN K xs H Q
def DP:List V->Hp->VK->Prop:=λxs H Q=>∃i j,xs=[.int i,.int j]/\Q (.int (if j < i then j else i)) H
def DQ:List V->Hp->VK->Prop:=λxs H Q=>∃p ns,xs=[.ref p]/\SqL K H p (ns.map V.int)/\ns≠[]/\∀M∈ns,(∀a∈ns,M<=a)->Q (.int M) H
def tG:List V->Hp->VK->Prop:=λxs H Q=>DP xs H Q\/DQ K xs H Q
theorem DR(hc:X.calm=true:=by rfl)(h:X.K=K:=by rfl):ag X (.builtin "max") (tF K):=(A0 hc).or (CT K hc h)
theorem n4(hc:X.calm=true:=by rfl)(h:X.K=K:=by rfl):ag X (.builtin "min") (tG K):=(A1 hc).or (CU K hc h)
def tH:List V->Hp->VK->Prop:=λxs H Q=>∃(p:Addr) (bs:List Bool),xs=[.ref p]/\SqL K H p (bs.map V.bl)/\Q (.bl (bs.all id)) H
def n6:List V->Hp->VK->Prop:=λxs H Q=>∃x c t b,xs=[x,c]/\bX K H x t/\(∀u,RelV c u->kitOne K t u=some b)/\Q (.bl b) H
def tI:List V->Hp->VK->Prop:=λxs H Q=>∃p ys,xs=[.ref p]/\(SqL K H p ys\/SqT K H p ys)/\∀l,H l=none->Q (.ref l) (upd H l (.lst ys))
def tJ:List V->Hp->VK->Prop:=λxs H Q=>∃p ys,xs=[.ref p]/\((SqL K H p ys/\∀l,H l=none->Q (.ref l) (upd H l (.tup ys)))\/(SqT K H p ys/\Q (.ref p) H))
theorem DU(hc:X.calm=true:=by rfl)(h:X.K=K:=by rfl):ag X (.builtin "all") (tH K):=CV K hc h
theorem DV(h:X.K=K:=by rfl):ag X (.builtin "isinstance") (n6 K):=CW K h
theorem DW(h:X.K=K:=by rfl):ag X (.type "list") (tI K):=sv K h
theorem eB(h:X.K=K:=by rfl):ag X (.type "tuple") (tJ K):=CS K h
end
def aQ:DRs:=λds μ Q=>match ds with
 | [.str z]=>z.length<=sizeLine/\Q (.int z.length) μ
 | [d]=>match bC μ d with
  |some es=>Q (.int es.length) μ
  |none=>False
 |_=>False
def DY:DRs:=λds μ Q=>match ds with
 | [.int i]=>Q (.int (if i < 0 then -i else i)) μ
 |_=>False
def intsOf:List D->Option (List Int)
 | []=>some []
 | .int i::r=>match intsOf r with
  |some l=>some (i::l)
  |none=>none
 |_=>none
def bL:List D->Option (List Bool)
 | []=>some []
 | .bl i::r=>match bL r with
  |some l=>some (i::l)
  |none=>none
 |_=>none
theorem tK:∀{ds:List D} {ns:List Int},intsOf ds=some ns->ds=ns.map D.int
 | [],_,h=>by cases h;rfl
 |d::r,ns,h=>by
  cases d<;>simp only[intsOf,reduceCtorEq] at h
  cases e:intsOf r with
  |none=>rw[e] at h;cases h
  |some l=>rw[e] at h;cases h;rw[tK e];rfl
theorem tL:∀{ds:List D} {ns:List Bool},bL ds=some ns->ds=ns.map D.bl
 | [],_,h=>by cases h;rfl
 |d::r,ns,h=>by
  cases d<;>simp only[bL,reduceCtorEq] at h
  cases e:bL r with
  |none=>rw[e] at h;cases h
  |some l=>rw[e] at h;cases h;rw[tL e];rfl
theorem DZ:∀ns:List Bool,bL (ns.map D.bl)=some ns
 | []=>rfl
 |_::r=>by rw[LV,bL,DZ r]
def ij:DRs:=λds μ Q=>match ds with
 | [.int i,.int j]=>Q (.int (if j > i then j else i)) μ
 | [d]=>match (aA μ d).bind intsOf with
  |some ns=>ns≠[]/\∀M∈ns,(∀a∈ns,a<=M)->Q (.int M) μ
  |none=>False
 |_=>False
def fM:DRs:=λds μ Q=>match ds with
 | [.int i,.int j]=>Q (.int (if j < i then j else i)) μ
 | [d]=>match (aA μ d).bind intsOf with
  |some ns=>ns≠[]/\∀M∈ns,(∀a∈ns,M<=a)->Q (.int M) μ
  |none=>False
 |_=>False
def tM:DRs:=λds μ Q=>match ds with
 | [d]=>match (aA μ d).bind intsOf with
  |some ns=>Q (.int ns.sum) μ
  |none=>False
 |_=>False
def jf:DRs:=λds μ Q=>match ds with
 | [d]=>match (aA μ d).bind bL with
  |some bs=>Q (.bl (bs.all id)) μ
  |none=>False
 |_=>False
def tN:DRs:=λds μ Q=>match ds with
 | [d]=>match (aA μ d).bind bL with
  |some bs=>Q (.bl (bs.any id)) μ
  |none=>False
 |_=>False
def jg:DRs:=λds μ Q=>match ds with
 | [d]=>match bC μ d with
  |some es=>Q (.lst es) μ
  |none=>False
 |_=>False
def tO:DRs:=λds μ Q=>match ds with
 | [d]=>match bC μ d with
  |some es=>∀k,μ k=none->Q (.cell k) (zY μ k (.lst es))
  |none=>False
 |_=>False
def b8:DRs:=λds μ Q=>match ds with
 | [d]=>match bC μ d with
  |some es=>Q (.tup es) μ
  |none=>False
 |_=>False
def tyD(μ:Mu):D->Option String
 | .non=>some "NoneType"
 | .bl _=>some "bool"
 | .int _=>some "int"
 | .str _=>some "str"
 | .lst _=>some "list"
 | .cell k=>match μ k with
  |some (.lst _)=>some "list"
  |some (.dct _ _)=>some "dict"
  |some (.dtt _ _)=>some "dict"
  |_=>none
 | .dct _ _=>some "dict"
 | .dtt _ _=>some "dict"
 |_=>none
def bo:List String:=["int","bool","str","list","tuple","dict"]
def cH(t T:String):Bool:=t==T||(t=="bool"&&T=="int")
def jh:DRs:=λds μ Q=>match ds with
 | [d,.ty T]=>match tyD μ d with
  |some t=>T∈bo/\Q (.bl (cH t T)) μ
  |none=>False
 |_=>False
section
variable{W:Wd}
theorem zG.one{d:D}(h:zG K W [d] xs):∃x,xs=[x]/\Rep K W d x:=by
 obtain⟨x,r,rfl,q,z⟩:=h.uncons;rw[z.nil'];exact⟨x,rfl,q⟩
theorem zG.two{d e:D}(h:zG K W [d,e] xs):∃x y,xs=[x,y]/\Rep K W d x/\Rep K W e y:=by
 obtain⟨x,r,rfl,q,z⟩:=h.uncons;obtain⟨y,rfl,q2⟩:=z.one;exact⟨x,y,rfl,q,q2⟩
instance:bu K fl (tE K) aQ:=⟨λ{W μ H ds xs Q Q'} r z h k=>by
 unfold aQ at h;split at h
 .obtain⟨x,rfl,q⟩:=z.one;rw[q.s'];exact .inr ⟨_,rfl,h.1,k _ _ _ _ _ (.refl _) r .i h.2⟩
 .obtain⟨x,rfl,q⟩:=z.one;split at h
  .rename_i es he;obtain⟨p,ys,rfl,s1,z1⟩:=ig r q he;exact .inl ⟨p,ys,rfl,s1,k _ _ _ _ _ (.refl _) r (by rw[z1.length];exact .i) h⟩
  .exact h.elim
 .exact h.elim⟩
theorem tP{d:D}{x:V}{ns:List Int}(r:Rel K fl W μ H)(q:Rep K W d x)(h:(aA μ d).bind intsOf=some ns):∃a,x= .ref a/\SqL K H a (ns.map V.int):=by
 cases e:aA μ d with
 |none=>rw[e] at h;cases h
 |some ds =>
  rw[e] at h;obtain⟨a,xs,rfl,e1,z⟩:=dr r q e;have:=tK h;subst this;rw[z.ints] at e1;exact⟨a,rfl,SqL.of e1⟩
theorem D1{d:D}{x:V}{ns:List Bool}(r:Rel K fl W μ H)(q:Rep K W d x)(h:(aA μ d).bind bL=some ns):∃a,x= .ref a/\SqL K H a (ns.map V.bl):=by
 cases e:aA μ d with
 |none=>rw[e] at h;cases h
 |some ds =>
  rw[e] at h;obtain⟨a,xs,rfl,e1,z⟩:=dr r q e;have:=tL h;subst this;rw[z.bls] at e1;exact⟨a,rfl,SqL.of e1⟩
instance:bu K fl (tF K) ij:=⟨λ{W μ H ds xs Q Q'} r z h k=>by
 unfold ij at h;split at h
 .obtain⟨x,y,rfl,q1,q2⟩:=z.two;rw[q1.i',q2.i'];exact .inl ⟨_,_,rfl,k _ _ _ _ _ (.refl _) r .i h⟩
 .obtain⟨x,rfl,q⟩:=z.one;split at h
  .rename_i ns hn;obtain⟨a,rfl,s⟩:=tP r q hn;exact .inr ⟨a,ns,rfl,s,h.1,λM hM hb=>k _ _ _ _ _ (.refl _) r .i (h.2 M hM hb)⟩
  .exact h.elim
 .exact h.elim⟩
instance:bu K fl (tG K) fM:=⟨λ{W μ H ds xs Q Q'} r z h k=>by
 unfold fM at h;split at h
 .obtain⟨x,y,rfl,q1,q2⟩:=z.two;rw[q1.i',q2.i'];exact .inl ⟨_,_,rfl,k _ _ _ _ _ (.refl _) r .i h⟩
 .obtain⟨x,rfl,q⟩:=z.one;split at h
  .rename_i ns hn;obtain⟨a,rfl,s⟩:=tP r q hn;exact .inr ⟨a,ns,rfl,s,h.1,λM hM hb=>k _ _ _ _ _ (.refl _) r .i (h.2 M hM hb)⟩
  .exact h.elim
 .exact h.elim⟩
instance:bu K fl (tH K) jf:=⟨λ{W μ H ds xs Q Q'} r z h k=>by
 unfold jf at h;split at h
 .obtain⟨x,rfl,q⟩:=z.one;split at h
  .rename_i ns hn;obtain⟨a,rfl,s⟩:=D1 r q hn;exact⟨a,ns,rfl,s,k _ _ _ _ _ (.refl _) r .b h⟩
  .exact h.elim
 .exact h.elim⟩
instance:bu K fl (tI K) jg:=⟨λ{W μ H ds xs Q Q'} r z h k=>by
 unfold jg at h;split at h
 .obtain⟨x,rfl,q⟩:=z.one;split at h
  .rename_i es he;obtain⟨p,ys,rfl,s1,z1⟩:=ig r q he;refine⟨p,ys,rfl,s1,λl hl=>?_⟩;obtain⟨r2,le2⟩:=r.newF (o:= .lst ys) hl;exact k _ _ _ _ _ le2 r2 (.lst zJ (z1.mono le2)) h
  .exact h.elim
 .exact h.elim⟩
instance:bu K fl (tJ K) b8:=⟨λ{W μ H ds xs Q Q'} r z h k=>by
 unfold b8 at h;split at h
 .obtain⟨x,rfl,q⟩:=z.one;split at h
  .rename_i es he;unfold bC at he;split at he
   .cases he;obtain⟨p,ys,rfl,t,z2⟩:=q.tup';exact⟨p,ys,rfl,.inr ⟨t.sm r.sub,k _ _ _ _ _ (.refl _) r q h⟩⟩
   .obtain⟨p,ys,rfl,t,z2⟩:=dr r q he;refine⟨p,ys,rfl,.inl ⟨SqL.of t,λl hl=>?_⟩⟩;obtain⟨r2,le2⟩:=r.newF (o:= .tup ys) hl;exact k _ _ _ _ _ le2 r2 (.tup (SqT.of zJ) (z2.mono le2)) h
  .exact h.elim
 .exact h.elim⟩
theorem tQ{d:D}{x:V}{t:String}(r:Rel K fl W μ H)(q:Rep K W d x)(h:tyD μ d=some t):bX K H x (.type t):=by
 unfold tyD at h;split at h<;>try cases h
 .rw[q.n'];exact .non
 .rw[q.b'];exact .bl _
 .rw[q.i'];exact .int _
 .rw[q.s'];exact .str _
 .obtain⟨a,xs,rfl,e,z⟩:=q.lst';exact .lst (r.sub _ _ e)
 .rename_i k;obtain⟨a,rfl,hb⟩:=q.cell';split at h<;>try cases h
  .rename_i ds hk;obtain⟨a',e1,e2,xs,e3,q3⟩:=r.cel k _ hk;rw[hb] at e1;cases e1;exact .lst e3
  .rename_i ks vs hk;obtain⟨a',e1,e2,xs,e3,l3,q3⟩:=r.cel k _ hk;rw[hb] at e1;cases e1;exact .dK e3
  .rename_i ks vs hk;obtain⟨a',e1,e2,xs,e3,l3,q3⟩:=r.cel k _ hk;rw[hb] at e1;cases e1;exact .dT e3
 .unfold Rep at q;obtain⟨a,xs,rfl,e,_⟩:=q;exact .dK (r.sub _ _ e)
 .unfold Rep at q;obtain⟨a,xs,rfl,e,_⟩:=q;exact .dT (r.sub _ _ e)
theorem D2{d:D}{t:String}(h:tyD μ d=some t):t∈["NoneType","bool","int","str","list","dict"]:=by
 unfold tyD at h;split at h<;>(try cases h)<;>(try decide)
 split at h<;>(try cases h)<;>decide
theorem D3{t:String}(h:t∈["NoneType","bool","int","str","list","dict"])(h':T∈bo):kitOne K (.type t) (.type T)=some (cH t T):=by
 simp only[bo,Lz,No,or_false] at h h';rcases h with rfl|rfl|rfl|rfl|rfl|rfl<;>rcases h' with rfl|rfl|rfl|rfl|rfl|rfl<;>rfl
instance:bu K fl (n6 K) jh:=⟨λ{W μ H ds xs Q Q'} r z h k=>by
 unfold jh at h;split at h
 .rename_i d T;obtain⟨x,y,rfl,q1,q2⟩:=z.two;split at h
  .rename_i t ht;unfold Rep at q2;subst q2;exact⟨x,.ty T,.type t,cH t T,rfl,tQ r q1 ht,λu hu=>by cases hu;exact D3 (D2 ht) h.1,k _ _ _ _ _ (.refl _) r .b h.2⟩
  .exact h.elim
 .exact h.elim⟩
end
def tR(K:Frag)(tl:TE):TI:=λσ H R=>tl σ H λx H1=>(∃a,x= .ref a/\(∃xs,SqL K H1 a xs)/\R (Itl K a) H1)\/(∃a,x= .ref a/\(∃xs,SqT K H1 a xs)/\R (Itt K a) H1)\/∃y,x= .str y/\y.cps.all (· < 128)=true/\R (Its y) H1
theorem a_{l:Expr}{tl:TE}(K:Frag)(hl:WE X l tl)(h:X.K=K:=by rfl):WI X tg l (tR K tl):=⟨by
 subst h;intro pins s σ H R I h;refine thn (hl.out pins s σ H _ I h) λv s1 ⟨x,H1,I1,r1,q1⟩=>?_
 rcases q1 with⟨a,e,⟨xs,hq⟩,q⟩|⟨a,e,⟨xs,hq⟩,q⟩|⟨y,e,ha,q⟩
 .subst e;cases r1;obtain⟨its,rv,p,hz⟩:=I1.list hq;refine OP p.isList ?_;refine⟨s1.heap.objs.size,[s1.heap.objs.size],_,_,H1,rfl,I1.kept (t':=s1.toks) λb o e=>L4 _ e,AI a _,⟨_,LG _ rfl,rfl,rfl⟩,λb hb=>?_,q⟩;have e:b=s1.heap.objs.size:=by simpa using hb
  subst e;exact I1.fpOk (Lp _) (I1.hok.fresh (Lp _))
 .subst e;cases r1;obtain⟨its,rv,p,hz⟩:=I1.tuple hq;refine Qb (show s1.heap.IsTuple a its.toArray from p) ?_;refine⟨s1.heap.objs.size,[s1.heap.objs.size],_,_,H1,rfl,I1.kept (t':=s1.toks) λb o e=>L4 _ e,AJ a _,⟨_,LG _ rfl,rfl,rfl⟩,λb hb=>?_,q⟩;have e:b=s1.heap.objs.size:=by simpa using hb
  subst e;exact I1.fpOk (Lp _) (I1.hok.fresh (Lp _))
 .subst e;obtain⟨t,rfl⟩:=r1;refine wpAny_pyIter_ascii ha ?_;refine⟨s1.heap.objs.size,[s1.heap.objs.size],_,_,H1,rfl,I1.kept (t':=s1.toks) λb o e=>L4 _ e,Dp _ y t,⟨_,LG _ rfl,rfl,rfl⟩,λb hb=>?_,q⟩;have e:b=s1.heap.objs.size:=by simpa using hb
  subst e;exact I1.fpOk (Lp _) (I1.hok.fresh (Lp _))⟩
def kL:D->Option (List D)
 | .lst ds=>some ds
 | .tup ds=>some ds
 | .str y=>if y.cps.all (· < 128)=true then some (y.cps.toList.map λc=> .str ⟨#[c]⟩) else none
 |_=>none
def fN(μ:Mu)(d:D)(Q:List D->(Mu->Prop)->Prop):Prop:=match d with
 | .cell k=>match μ k with
  |some (.lst ds)=>Q ds λμ'=>μ' k=some (.lst ds)
  |_=>False
 |d=>match kL d with
  |some ds=>Q ds λ_=>True
  |none=>False
def aX(w:DE):DI:=λρ μ Q=>w ρ μ λd μ1=>fN μ1 d λds Pm=>Q ds Pm μ1
def c6(w:DA):DI:=λρ μ Q=>w ρ μ λds μ1=>match ds with
 | [.int j]=> -(2^62)<=j/\j < 2^62/\Q ((ci 0 j.toNat).map D.int) (λ_=>True) μ1
 |_=>False
def D4(w:DA):DI:=λρ μ Q=>w ρ μ λds μ1=>match ds with
 | [.int i,.int j]=>(-(2^62)<=i/\i < 2^62/\ -(2^62)<=j/\j < 2^62)/\Q ((ci i (j - i).toNat).map D.int) (λ_=>True) μ1
 |_=>False
section
variable{ta:TA}{wa:DA}
theorem D5(W:Wd)(lo:Int)(n:Nat)(Pm:Mu->Prop):ItR K fl W (Itr lo n) ((ci lo n).map D.int) Pm:=λW1 μ H le r _ i=>by
 constructor
 .intro d hd;rw[Ln] at hd;by_cases hi:i < n
  .rw[r9 hi] at hd;cases hd;refine⟨hi,λx H' y=>?_⟩;obtain⟨e,y⟩:=y;subst e y;exact⟨W1,.refl _,r,.i⟩
  .rw[LL (by rw[hV];omega)] at hd;cases hd
 .intro h;rw[L1,hV] at h;exact h
theorem D6{W:Wd}{p:Addr}{ds:List D}(z1:zG K W ds xs)(hp:∀W1 μ H,W.le W1->Rel K fl W1 μ H->Pm μ->H p=some (.lst xs)):ItR K fl W (Itl K p) ds Pm:=λW2 μ2 H2 le2 r2 pm i=>by
 have s2:=hp W2 μ2 H2 le2 r2 pm;constructor
 .intro d hd;obtain⟨x,ex,qx⟩:=z1.get hd;refine⟨⟨xs,x,SqL.of s2,ex⟩,λy H' hy=>?_⟩;obtain⟨e',y'⟩:=hy;have ey:=y' xs (SqL.of s2);rw[ex] at ey;cases ey;exact⟨W2,.refl _,e'▸r2,qx.mono le2⟩
 .intro hl;exact⟨xs,SqL.of s2,by rw[z1.length];exact hl⟩
theorem tU{W:Wd}{k:Nat}{ds:List D}(r:Rel K fl W μ H)(hb:W.b k=some a)(hk:μ k=some (.lst ds)):∃xs,H a=some (.lst xs)/\zG K W ds xs:=by
 obtain⟨a',e1,e2,xs,e3,q3⟩:=r.cel k _ hk;rw[hb] at e1;cases e1;exact⟨xs,e3,q3⟩
theorem D7{W:Wd}{k:Nat}{ds:List D}(hb:W.b k=some a):ItR K fl W (Itl K a) ds (λμ'=>μ' k=some (.lst ds)):=λW2 μ2 H2 le2 r2 pm i=>by
 obtain⟨xs,s2,z1⟩:=tU r2 (le2.b _ _ hb) pm;constructor
 .intro d hd;obtain⟨x,ex,qx⟩:=z1.get hd;refine⟨⟨xs,x,SqL.of s2,ex⟩,λy H' hy=>?_⟩;obtain⟨e',y'⟩:=hy;have ey:=y' xs (SqL.of s2);rw[ex] at ey;cases ey;exact⟨W2,.refl _,e'▸r2,qx⟩
 .intro hl;exact⟨xs,SqL.of s2,by rw[z1.length];exact hl⟩
instance[a:ac K fl te we]:kE K fl (tR K te) (aX we):=⟨λ{W ρ μ σ H Q Q'} r e h k=>a.run r e h λW1 d μ1 x H1 le1 r1 q1 h1=>by
 unfold fN at h1;split at h1
 .rename_i c;obtain⟨p,rfl,hb⟩:=q1.cell';split at h1
  .rename_i ds hk;obtain⟨xs,s1,z1⟩:=tU r1 hb hk;exact .inl ⟨p,rfl,⟨xs,SqL.of s1⟩,k W1 _ ds _ μ1 H1 le1 r1 (D7 hb) h1⟩
  .exact h1.elim
 .cases hd:kL d with
  |none=>rw[hd] at h1;exact h1.elim
  |some ds =>
   rw[hd] at h1;have h1:Q ds (λ_=>True) μ1:=h1;unfold kL at hd;split at hd
   .cases hd;obtain⟨p,xs,rfl,s1,z1⟩:=q1.lst';exact .inl ⟨p,rfl,⟨xs,SqL.of (r1.sub _ _ s1)⟩,k W1 _ ds _ μ1 H1 le1 r1 (D6 z1 λW2 μ2 H2 le2 r2 _=>r2.sub _ _ (le2.F _ _ s1)) h1⟩
   .cases hd;obtain⟨p,xs,rfl,s1,z1⟩:=q1.tup';refine .inr (.inl ⟨p,rfl,⟨xs,s1.sm r1.sub⟩,k W1 _ ds _ μ1 H1 le1 r1 (λW2 μ2 H2 le2 r2 _ i=>?_) h1⟩);have s2:SqT K H2 p xs:=(s1.sm le2.F).sm r2.sub;constructor
    .intro d hd;obtain⟨x,ex,qx⟩:=z1.get hd;refine⟨⟨xs,x,s2,ex⟩,λy H' hy=>?_⟩;obtain⟨e',y'⟩:=hy;have ey:=y' xs s2;rw[ex] at ey;cases ey;exact⟨W2,.refl _,e'▸r2,qx.mono le2⟩
    .intro hl;exact⟨xs,s2,by rw[z1.length];exact hl⟩
   .rename_i y _;split at hd
    .rename_i ha;cases hd;rw[q1.s'];refine .inr (.inr ⟨y,rfl,ha,k W1 _ _ _ μ1 H1 le1 r1 (λW2 μ2 H2 le2 r2 _ i=>?_) h1⟩);constructor
     .intro d hd;rw[Ln] at hd;cases hc:y.cps.toList[i]? with
      |none=>rw[hc] at hd;cases hd
      |some c =>
       rw[hc] at hd;cases hd;have hi:i < y.cps.size:=by have:=(LD.mp hc).1;rwa [LQ] at this
       refine⟨hi,λx H' hy=>?_⟩;obtain⟨e',c',hc',rfl⟩:=hy;rw[hc] at hc';cases hc';exact⟨W2,.refl _,e'▸r2,.s⟩
     .intro hl;rw[L1,LQ] at hl;exact hl
    .cases hd
   .cases hd⟩
instance[a:a7 K fl ta wa]:kE K fl (mY ta) (c6 wa):=⟨λ{W ρ μ σ H Q Q'} r e h k=>a.run r e h λW1 ds μ1 xs H1 le1 r1 q1 h1=>by
 split at h1
 .obtain⟨x,rfl,q⟩:=q1.one;rw[q.i'];exact⟨_,rfl,h1.1,h1.2.1,k W1 _ _ _ μ1 H1 le1 r1 (D5 _ _ _ _) h1.2.2⟩
 .exact h1.elim⟩
end
abbrev DM:=D->List D->Mu->DK->Prop
class ji(K:Frag)(fl:Wd)(T:String)(r:V->List V->Hp->VK->Prop)(q:DM):Prop where
 run:∀{W μ H d x ds xs Q Q'},Rel K fl W μ H->Rep K W d x->zG K W ds xs->q d ds μ Q->KV' K fl W Q Q'->r x xs H Q'
def tyM(T:String)(μ:Mu)(d:D):Prop:=tyD μ d=some T
def dBM(T:String)(q:DM)(wo:DE)(w:DA):DE:=λρ μ Q=>wo ρ μ λd μ1=>tyM T μ1 d/\w ρ μ1 λds μ2=>q d ds μ2 Q
def IW(T:String)(q:DM)(wo:DE):DE:=λρ μ Q=>wo ρ μ λd μ1=>tyM T μ1 d/\q d [] μ1 Q
theorem D8{W:Wd}{d:D}{x:V}(hT:T="list"\/T="str"\/T="dict")(r:Rel K fl W μ H)(q:Rep K W d x)(h:tyM T μ d):tyV K T x H:=by
 have ty:=tQ r q h;cases ty with
 |non=>rcases hT with h|h|h<;>exact absurd h (by decide)
 |bl=>rcases hT with h|h|h<;>exact absurd h (by decide)
 |int=>rcases hT with h|h|h<;>exact absurd h (by decide)
 |str=>rfl
 |flt=>rcases hT with h|h|h<;>exact absurd h (by decide)
 |lst e=>exact .inl ⟨rfl,_,SqL.of e⟩
 |frz e=>exact .inl ⟨rfl,_,.inl (.inr ⟨_,e⟩)⟩
 |tup=>rcases hT with h|h|h<;>exact absurd h (by decide)
 |dK e=>exact .inr (.inr (.inl ⟨rfl,.inl ⟨_,e⟩⟩))
 |dT e=>exact .inr (.inr (.inl ⟨rfl,.inr ⟨_,e⟩⟩))
section
variable{to:TE}{t:TA}{w:DA}{r:V->List V->Hp->VK->Prop}{q:DM}
theorem tV(hT:T="list"\/T="str"\/T="dict")[a:ac K fl to wo][b:a7 K fl t w][o:ji K fl T r q]:ac K fl (tBM K T r to t) (dBM T q wo w):=⟨λr e h k=>a.run r e h λW1 d μ1 x H1 le1 r1 q1 h1 =>
 ⟨D8 hT r1 q1 h1.1,b.run r1 (e.mono le1) h1.2 λW2 ds μ2 xs H2 le2 r2 q2 h2=>o.run r2 (q1.mono le2) q2 h2 λW3 d3 μ3 x3 H3 le3=>k W3 d3 μ3 x3 H3 (le1.trans (le2.trans le3))⟩⟩
instance[a:ac K fl to wo][b:a7 K fl t w][o:ji K fl "list" r q]:ac K fl (tBM K "list" r to t) (dBM "list" q wo w):=tV (.inl rfl)
instance[a:ac K fl to wo][b:a7 K fl t w][o:ji K fl "str" r q]:ac K fl (tBM K "str" r to t) (dBM "str" q wo w):=tV (.inr (.inl rfl))
end
def cq(μ:Mu)(d:D)(Q:Nat->List D->Prop):Prop:=match d with
 | .cell k=>match μ k with
  |some (.lst ds)=>Q k ds
  |_=>False
 |_=>False
theorem D9{W:Wd}{d:D}{x:V}{Q:Nat->List D->Prop}(r:Rel K fl W μ H)(q:Rep K W d x)(h:cq μ d Q):∃k ds a xs,x= .ref a/\W.b k=some a/\μ k=some (.lst ds)/\H a=some (.lst xs)/\zG K W ds xs/\Q k ds:=by
 unfold cq at h;split at h
 .rename_i k;obtain⟨a,rfl,hb⟩:=q.cell';split at h
  .rename_i ds hk;obtain⟨a',e1,e2,xs,e3,q3⟩:=r.cel k _ hk;rw[hb] at e1;cases e1;exact⟨k,ds,a,xs,rfl,hb,hk,e3,q3,h⟩
  .exact h.elim
 .exact h.elim
def zW:DM:=λd es μ Q=>match es with
 | [e]=>cq μ d λk ds=>ds.length < sizeLine/\Q .non (zY μ k (.lst (ds++[e])))
 |_=>False
def tW:DM:=λd es μ Q=>match es with
 | []=>cq μ d λk ds=>match ds[ds.length - 1]? with
  |some y=>Q y (zY μ k (.lst ds.dropLast))
  |none=>False
 | [.int i]=>cq μ d λk ds=> -(2^63)<=i/\i < 2^63/\match ixN ds.length i with
  |some j=>match ds[j]? with
   |some y=>Q y (zY μ k (.lst (ds.eraseIdx j)))
   |none=>False
  |none=>False
 |_=>False
def D_:D->D->D->Mu->(Mu->Prop)->Prop:=λd i v μ Q=>match i with
 | .int i=>cq μ d λk ds=>match ixN ds.length i with
  |some j=>Q (zY μ k (.lst (ds.set j v)))
  |none=>False
 |_=>False
def IX(wo wi:DE)(q:D->D->D->Mu->(Mu->Prop)->Prop):DG:=λv ρ μ Q=>wo ρ μ λd μ1=>wi ρ μ1 λi μ2=>q d i v μ2 λμ3=>Q ρ μ3
section
instance:ji K fl "list" rL zW:=⟨λ{W μ H d x ds xs Q Q'} r q z h k=>by
 unfold zW at h;split at h
 .obtain⟨y,rfl,qy⟩:=z.one;obtain⟨c,es,a,ys,rfl,hb,hk,ha,z2,hz,h⟩:=D9 r q h;exact⟨a,ys,y,rfl,rfl,ha,by rw[z2.length];exact hz,k _ _ _ _ _ (.refl _) (r.setC (c':= .lst _) hk hb ⟨_,rfl,z2.append (.cons qy .nil)⟩) .n h⟩
 .exact h.elim⟩
end
theorem Ea{W:Wd}{k:Nat}(r:Rel K fl W μ H)(hk:μ k=some .draw)(ha:W.b k=some a):∃l,i6 H a l/\W.F a=none/\(∃ns:List Int,W.F l=some (.lst (ns.map V.int))) /\
  ∀H',i6 H' a l->km a H H'->Rel K fl W μ H':=by
 obtain⟨a',e1,e2,l,ns,i,b,c,e3,e4,hi,hb⟩:=r.cel k _ hk;rw[ha] at e1;cases e1;have hal:a≠l:=λz=>by rw[<- z,e2] at e4;cases e4
 refine⟨l,⟨ns,i,b,c,e3,r.sub _ _ e4,hi,hb,hal⟩,e2,⟨ns,e4⟩,λH' d o=>⟨λx u e=>?_,r.fin,λj ct e=>?_,r.inj,r.up⟩⟩
 .rw[o x (λz=>by rw[z,e2] at e;cases e)];exact r.sub _ _ e
 .by_cases hj:j=k
  .subst hj;rw[hk] at e;cases e;obtain⟨ns',i',b',c',f1,f2,f3,f4,f5⟩:=d;exact⟨a,ha,e2,l,ns,i',b',c',f1,e4,f3,f4⟩
  .obtain⟨x,f1,f2,q⟩:=r.cel j ct e;have hx:x≠a:=λz=>hj (r.inj j k _ _ a e hk (z▸f1) ha)
   exact⟨x,f1,f2,by rw[o x hx];exact q⟩
class n9(K:Frag)(fl:Wd)(sp:Sp)(dsp:DSp):Prop where
 run:∀{W μ H ds vs Q Q'} (E:XK),Rel K fl W μ H->zG K W ds vs->dsp ds μ Q->KV' K fl W Q Q'->sp vs H Q' E
instance{E:XK}{t:TA}{w:DA}[a:a7 K fl t w][o:n9 K fl sp dsp]:ac K fl (g_ sp [] E t) (dCall dsp w):=⟨λ{W ρ μ σ H Q Q'} r e h k =>
 a.run r e h λW1 ds μ1 xs H1 le1 r1 q1 h1=>o.run E r1 (by rw[M8];exact q1) h1 λW2 d μ2 x H2 le2=>k W2 d μ2 x H2 (le1.trans le2)⟩
def bc:DSp:=λds μ Q=>match ds with
 | [.cell k,.int many]=>μ k=some .draw/\0 < many/\many < 2^250/\∀v,0<=v->v < many->Q (.int v) μ
 |_=>False
instance:n9 K fl nP bc:=⟨λ{W μ H ds vs Q Q'} E r z h k=>by
 unfold bc at h;split at h
 .rename_i c many;obtain⟨x,y,rfl,q1,q2⟩:=z.two;obtain⟨a,rfl,hb⟩:=q1.cell';rw[q2.i'];obtain⟨hk,h1,h2,h⟩:=h;obtain⟨l,d,_,_,fin⟩:=Ea r hk hb;exact⟨a,l,many,rfl,d,h1,h2,λv H' l1 l2 d' o=>k W _ μ _ H' (.refl _) (fin H' d' o) .i (h v l1 l2)⟩
 .exact h.elim⟩
def kM:DSp:=λds μ Q=>match ds with
 | [.scr _]=>∀k,μ k=none->Q (.cell k) (zY μ k .draw)
 |_=>False
section
variable{W:Wd}{H':Hp}
theorem Rel.same(r:Rel K fl W μ H)(s:dP H H'):Rel K fl W μ H':=⟨λb o e=>s _ _ (r.sub _ _ e),r.fin,λk c e=>by
 obtain⟨a,e1,e2,q⟩:=r.cel k c e;obtain⟨u,eu⟩:=q.some;exact⟨a,e1,e2,by rw[s _ _ eu,<- eu];exact q⟩,r.inj,r.up⟩
theorem Rel.newAt{p:Addr}(r:Rel K fl W μ H)(hp:H p=none):W.F p=none/\∀k c,μ k=some c->W.b k≠some p:=by
 constructor
 .cases e:W.F p with
  |none=>rfl
  |some u=>rw[r.sub _ _ e] at hp;cases hp
 .intro k c e h;obtain⟨a,e1,_,q⟩:=r.cel k c e;obtain⟨u,eu⟩:=q.some;rw[h] at e1;cases e1;rw[hp] at eu;cases eu
theorem Rel.adoptF{p:Addr}(r:Rel K fl W μ H)(hp:H p=some o)(hF:W.F p=none)(hc:∀k c,μ k=some c->W.b k≠some p):Rel K fl ⟨W.b,upd W.F p o⟩ μ H/\W.le ⟨W.b,upd W.F p o⟩:=by
 have le:W.le ⟨W.b,upd W.F p o⟩:=⟨λ_ _ h=>h,i8 hF⟩;refine⟨⟨λb u e=>?_,r.fin,λk c e=>?_,r.inj,r.up.trans le⟩,le⟩
 .have e':(upd W.F p o) b=some u:=e;by_cases hb:b=p
  .subst hb;rw[zJ] at e';cases e';exact hp
  .rw[zN hb] at e';exact r.sub _ _ e'
 .obtain⟨a,e1,e2,q⟩:=r.cel k c e;have ha:a≠p:=λz=>hc k c e (z▸e1)
  exact⟨a,e1,by show upd W.F p o a=none;rw[zN ha];exact e2,q.mono le⟩
theorem Rel.adoptC{p:Addr}{c:Ct}(r:Rel K fl W μ H)(hF:W.F p=none)(hc:∀k c,μ k=some c->W.b k≠some p)(hq:Ctn K W c (H p)):∃(k:Nat) (W':Wd),μ k=none/\W.le W'/\Rel K fl W' (zY μ k c) H/\W'.b k=some p:=by
 obtain⟨n,hn⟩:=r.fin;have hk:μ n=none:=by
  cases e:μ n with
  |none=>rfl
  |some c=>obtain⟨a,e1,_⟩:=r.cel n c e;rw[hn n (Lp _)] at e1;cases e1
 have le:W.le ⟨λj=>if j=n then some p else W.b j,W.F⟩:=⟨λk a e=>by
  show(if k=n then some p else W.b k)=some a;rw[if_neg (λz=>by rw[z,hn n (Lp _)] at e;cases e)];exact e,λ_ _ h=>h⟩
 refine⟨n,⟨λj=>if j=n then some p else W.b j,W.F⟩,hk,le,⟨r.sub,⟨n+1,λk hk=>?_⟩,λk c' e=>?_,λk k' c1 c2 a e e' q q'=>?_,r.up.trans le⟩,if_pos rfl⟩
 .show(if k=n then some p else W.b k)=none;rw[if_neg (by omega)];exact hn k (by omega)
 .by_cases ek:k=n
  .subst ek;rw[zy] at e;cases e;exact⟨p,if_pos rfl,hF,hq.mono le⟩
  .rw[zr ek] at e;obtain⟨a,e1,e2,q⟩:=r.cel k c' e;exact⟨a,by show(if k=n then some p else W.b k)=some a;rw[if_neg ek];exact e1,e2,q.mono le⟩
 .have q1:(if k=n then some p else W.b k)=some a:=q;have q2:(if k'=n then some p else W.b k')=some a:=q';by_cases ek:k=n
  .by_cases ek':k'=n
   .rw[ek,ek']
   .rw[if_pos ek] at q1;rw[if_neg ek'] at q2;rw[zr ek'] at e';cases q1;exact absurd q2 (hc _ _ e')
  .by_cases ek':k'=n
   .rw[if_neg ek] at q1;rw[if_pos ek'] at q2;rw[zr ek] at e;cases q2;exact absurd q1 (hc _ _ e)
   .rw[if_neg ek] at q1;rw[if_neg ek'] at q2;rw[zr ek] at e;rw[zr ek'] at e';exact r.inj k k' _ _ a e e' q1 q2
end
instance:n9 K fl (nQ K) kM:=⟨λ{W μ H ds vs Q Q'} E r z h k=>by
 unfold kM at h;split at h
 .rename_i ns;obtain⟨x,rfl,q⟩:=z.one;unfold Rep at q;obtain⟨a,rfl,hs⟩:=q;refine⟨a,ns,rfl,hs.sm r.sub,λp l H' hp hl d sm=>?_⟩;obtain⟨ns',i,b,c,e1,e2,hi,hb,hne⟩:=d;have r1:=r.same sm;obtain⟨f1,g1⟩:=r.newAt hl;obtain⟨r2,le2⟩:=r1.adoptF e2 f1 g1;obtain⟨f2,g2⟩:=r.newAt hp;have f2':(upd W.F l (.lst (ns'.map V.int))) p=none:=by rw[zN hne];exact f2
  obtain⟨j,W3,hj,le3,r3,e3⟩:=r2.adoptC (c:= .draw) (p:=p) f2' g2 ⟨l,ns',i,b,c,e1,zJ,hi,hb⟩;exact k W3 _ _ _ _ (le2.trans le3) r3 (by unfold Rep;exact⟨p,rfl,e3⟩) (h j hj)
 .exact h.elim⟩
def tX:DSp:=λds μ Q=>∃ns,ds=[.scr ns]/\ns.length<=63/\∀ μ',Q (.bl true) μ'
def kN(K:Frag):Sp:=λvs H Q _=>∃(a:Addr) (ns:List Int),vs=[.ref a]/\SqL K H a (ns.map V.int)/\ns.length<=63/\∀H',Q (.bl true) H'
theorem Eb(vs:List V)(H:Hp)(Q:VK)(E:XK)(h:kN K vs H Q E):lift K tX vs H Q E:=by
 obtain⟨a,ns,rfl,hs,hl,q⟩:=h;refine⟨⟨λ_=>none,λ_=>none⟩,⟨λ_=>none,λb=>if b=a then H a else none⟩,λ_=>none,[.scr ns],λd _=>d= .bl true,⟨λb o e=>?_,⟨0,λ_ _=>rfl⟩,λk c e=>(by cases e),λk k' c c' x e=>(by cases e),⟨λ_ _ e=>(by cases e),λ_ _ e=>(by cases e)⟩⟩,.cons ?_ .nil,⟨ns,rfl,hl,λ_=>rfl⟩,λW' d μ' x H' _ _ r e=>?_⟩
 .have e':(if b=a then H a else none)=some o:=e;by_cases hb:b=a
  .rw[if_pos hb] at e';rw[hb];exact e'
  .rw[if_neg hb] at e';cases e'
 .unfold Rep;refine⟨a,rfl,?_⟩;rcases hs with h|h
  .refine .inl ?_;rcases h with h|⟨o,h⟩
   .exact .inl (by show(if a=a then H a else none)=_;rw[if_pos rfl];exact h)
   .exact .inr ⟨o,by show(if a=a then H a else none)=_;rw[if_pos rfl];exact h⟩
  .exact .inr h
 .subst e;rw[r.b'];exact q H'
theorem fO{s:Stmt}{t:TE}{g:TG}(h:WS X s (bF t g)):WS X s (bF (nV t) g):=h
theorem fP(K:Frag){k:Nat}(hr:au cm k X.A)(h:X.K=K:=by rfl):OpR X (compareOp .In) (rIn K false):=CO K h
theorem gx(K:Frag){k:Nat}(hr:au cm k X.A)(h:X.K=K:=by rfl):OpR X (compareOp .NotIn) (rIn K true):=CP K h
def ends(Q:DK):cp:={nx:=λ_ μ'=>∃ μ'',MLe μ'' μ'/\Q .non μ'',rt:=λd μ'=>∃ μ'',MLe μ'' μ'/\Q d μ''}
def aB(w:DS)(N:List Str)(n:Nat):DSp:=λds μ Q=>ds.length=n/\w (ends Q) (jc N ds) μ
section
theorem Fun.okB{k n:Nat}(dw:DS)(F:Fun K x qual st f fd)(S:zP N ps (zz st))(len:ps.length=n)
  (hbody:∀(cdv:Value) (A:Around) (outer:List Env) (s:Shared) (H:Hp) (E:XK),bh k (A.deeper (envOfC qual (zz st) s.heap.objs.size f cdv)) ->
   ∃t,WSs (bR CX0 P w K mg base N qual (zz st) f cdv A outer s H E).nox (bY st) t/\∀fl,aP K fl t dw):aa P w K mg base CX0 (k+1) f fd ps (lift K (aB dw N n)):=by
 refine F.okq S (λvs H Q E h=>?_) (λcdv A outer s H vs Q E hr h=>?_)
 .obtain⟨_,W,μ,ds,Q0,_,r,h,_⟩:=h;rw[r.length,h.1,len]
 .obtain⟨fl,W,μ,ds,Q0,rel,r,h,k⟩:=h;obtain⟨t,ht,sm⟩:=hbody cdv A outer s H E hr;refine⟨t,ht,(sm W).run (rel.floor (.refl W)) (.start r) h.2 ⟨λW' ρ μ σ H le rr ee hh=>?_,λ_ _ _ _ _ _ _ _ hh=>hh.elim,λ_ _ _ _ _ _ _ _ hh=>hh.elim,λW' d μ x H le rr ee hh=>?_⟩⟩
  .obtain⟨μ'',l,hh⟩:=hh;exact k W' .non μ'' _ H le ((rr.floor (rel.up.trans le)).less l) .n hh
  .obtain⟨μ'',l,hh⟩:=hh;exact k W' d μ'' x H le ((rr.floor (rel.up.trans le)).less l) ee hh
end
theorem Ec{dsp':DSp}(h:∀ds μ Q,dsp ds μ Q->dsp' ds μ Q){Q:VK}{E:XK}(q:lift K dsp vs H Q E):lift K dsp' vs H Q E:=by
 obtain⟨fl,W,μ,ds,Q0,a,b,c,d⟩:=q;exact⟨fl,W,μ,ds,Q0,a,b,h _ _ _ c,d⟩
section
variable{g:DG}{wb:DS}{ds:List D}{Fin:List D->Mu->Prop}{ys:List D}
theorem cu(I:Nat->aj->Mu->Prop)(h0:I 0 ρ μ)
  (step:∀i d ρ μ,ds[i]? = some d->I i ρ μ->∀N:aj->Mu->Prop,(∀ ρ' μ',I (i+1) ρ' μ'->N ρ' μ')->g d ρ μ λρ2 μ2=>wb {D' with nx:=N,ct:=N,bk:=D'.nx} ρ2 μ2)
  (fin:∀ ρ μ,I ds.length ρ μ->D'.nx ρ μ)(hP:∀i ρ μ,I i ρ μ->Pm μ:=by exact λ_ _ _ _=>trivial):gv g wb D' Pm ds ρ μ:=by
 have key:∀(n i:Nat) ρ μ,i+n=ds.length->I i ρ μ->gv g wb D' Pm (ds.drop i) ρ μ:=by
  intro n;induction n with
  |zero =>
   intro i ρ μ hi hI;rw[Nh (by omega)];have:i=ds.length:=by omega
   subst this;exact⟨hP _ _ _ hI,fin ρ μ hI⟩
  |succ n ih =>
   intro i ρ μ hi hI;rw[MM (by omega)];exact⟨hP _ _ _ hI,step i _ ρ μ (LC (by omega)) hI _ λρ' μ' h=>ih (i+1) ρ' μ' (by omega) h⟩
 exact key ds.length 0 ρ μ (by omega) h0
theorem n_(I:Nat->List D->Mu->Prop)(h0:I 0 ys μ)
  (step:∀i d ys μ,ds[i]? = some d->I i ys μ->ys.length < sizeLine/\∀N:List D->Mu->Prop,(∀ys' μ',I (i+1) ys' μ'->N ys' μ')->g d ρb μ λρ2 μ2=>wc ρ2 μ2 λb μ3=>if b=true then we ρ2 μ3 λv μ4=>N (ys++[v]) μ4 else N ys μ3)
  (fin:∀ys μ,I ds.length ys μ->Fin ys μ)(hP:∀i ys μ,I i ys μ->Pm μ:=by exact λ_ _ _ _=>trivial):b7 g wc we ρb Pm Fin ds ys μ:=by
 have key:∀(n i:Nat) ys μ,i+n=ds.length->I i ys μ->b7 g wc we ρb Pm Fin (ds.drop i) ys μ:=by
  intro n;induction n with
  |zero =>
   intro i ys μ hi hI;rw[Nh (by omega)];have:i=ds.length:=by omega
   subst this;exact⟨hP _ _ _ hI,fin ys μ hI⟩
  |succ n ih =>
   intro i ys μ hi hI;rw[MM (by omega)];obtain⟨hz,st⟩:=step i _ ys μ (LC (by omega)) hI;exact⟨hP _ _ _ hI,hz,st (λys' μ'=>b7 g wc we ρb Pm Fin (ds.drop (i+1)) ys' μ') λys' μ' h=>ih (i+1) ys' μ' (by omega) h⟩
 exact key ds.length 0 ys μ (by omega) h0
theorem Ee(f:D->D)(hl:ds.length<=sizeLine)(step:∀d∈ds,∀Q:DK,Q (f d) μ->g d ρb μ λρ2 μ2=>we ρ2 μ2 Q)(fin:Fin (ds.map f) μ)(hP:Pm μ:=by exact trivial):b7 g cP we ρb Pm Fin ds [] μ:=by
 refine n_ (λi ys μ'=>μ'=μ/\ys=(ds.take i).map f) ⟨rfl,rfl⟩ (λi d ys μ' hd hI=>?_) (λys μ' hI=>?_) (λi ys μ' h=>h.1▸hP)
 .obtain⟨rfl,rfl⟩:=hI;have hi:=(LD.mp hd).1;refine⟨by rw[L1,Mp];omega,λN hN=>?_⟩;refine step d (Lu hd) (λv μ4=>N ((ds.take i).map f++[v]) μ4) (hN _ _ ⟨rfl,?_⟩);rw[Mm,hd];simp
 .obtain⟨rfl,rfl⟩:=hI;rw[MD];exact fin
end
theorem fQ{lo:Int}{n i:Nat}{d:D}(h:((ci lo n).map D.int)[i]? = some d):i < n/\d= .int (lo+i):=by
 rw[Ln] at h;by_cases hi:i < n
 .rw[r9 hi] at h;cases h;exact⟨hi,rfl⟩
 .rw[LL (by rw[hV];omega)] at h;cases h
theorem jj(lo:Int)(n:Nat):((ci lo n).map D.int).length=n:=by rw[L1,hV]
theorem Ef{i j:Int}:dEq (.int i) (.int j) μ Q=Q (.bl (decide (i=j))) μ:=by simp[dEq,dv]
theorem IY{i j:Str}:dEq (.str i) (.str j) μ Q=Q (.bl (decide (i=j))) μ:=by simp[dEq,dv]
theorem IZ{i j:Str}:dNe (.str i) (.str j) μ Q=Q (.bl (!decide (i=j))) μ:=by simp[dNe,dv]
theorem ik{ds:List D}:aA μ (.lst ds)=some ds:=rfl
theorem Eg{k:Nat}{ds:List D}(h:μ k=some (.lst ds)):bC μ (.cell k)=some ds:=by simp[bC,aA,h]
def Pl:Nat->D->Prop
 |_,.non=>True
 |_,.bl _=>True
 |_,.int _=>True
 |_,.str x=>PyData.strOk x=true
 |n+1,.tup ds=>∀d∈ds,Pl n d
 |n+1,.lst ds=>∀d∈ds,Pl n d
 |_,_=>False
theorem Pl.pys{n:Nat}(ih:∀d,Pl n d->∃p,toPy d=some p/\p.canLay0=true/\p.depth<=n):∀ds:List D,(∀d∈ds,Pl n d)->∃ps,bE ds=some ps/\PyData.canLayAll0 ps=true/\PyData.depthAll ps<=n
 | [],_=>⟨[],by unfold bE;rfl,by unfold PyData.canLayAll0;rfl,by unfold PyData.depthAll;omega⟩
 |d::ds,h=>by
  obtain⟨p,e,c,b⟩:=ih d (h d Ly);obtain⟨ps,e',c',b'⟩:=Pl.pys ih ds λx hx=>h x (Lx _ hx)
  refine⟨p::ps,by unfold bE;rw[e,e'],by unfold PyData.canLayAll0;rw[c,c'];rfl,?_⟩;unfold PyData.depthAll;omega
theorem Pl.py:∀(n:Nat) (d:D),Pl n d->∃p,toPy d=some p/\p.canLay0=true/\p.depth<=n:=by
 intro n;induction n with
 |zero =>
  intro d h;cases d<;>first|exact h.elim|skip
  .exact⟨_,by unfold toPy;rfl,by simp[PyData.canLay0],by simp[PyData.depth]⟩
  .exact⟨_,by unfold toPy;rfl,by simp[PyData.canLay0],by simp[PyData.depth]⟩
  .exact⟨_,by unfold toPy;rfl,by simp[PyData.canLay0],by simp[PyData.depth]⟩
  .exact⟨_,by unfold toPy;rfl,by rw[PyData.canLay0];exact h,by simp[PyData.depth]⟩
 |succ n ih =>
  intro d h;cases d<;>first|exact h.elim|skip
  .exact⟨_,by unfold toPy;rfl,by simp[PyData.canLay0],by simp[PyData.depth]⟩
  .exact⟨_,by unfold toPy;rfl,by simp[PyData.canLay0],by simp[PyData.depth]⟩
  .exact⟨_,by unfold toPy;rfl,by simp[PyData.canLay0],by simp[PyData.depth]⟩
  .exact⟨_,by unfold toPy;rfl,by rw[PyData.canLay0];exact h,by simp[PyData.depth]⟩
  .rename_i ds;obtain⟨ps,e,c,b⟩:=Pl.pys ih ds h;exact⟨.tuple ps,by unfold toPy;rw[e];rfl,by rw[PyData.canLay0];exact c,by rw[PyData.depth];omega⟩
  .rename_i ds;obtain⟨ps,e,c,b⟩:=Pl.pys ih ds h;exact⟨.list ps,by unfold toPy;rw[e];rfl,by rw[PyData.canLay0];exact c,by rw[PyData.depth];omega⟩
theorem tY{d:D}{p:PyData}(h:toPy d=some p):e8 μ d=some p:=by
 cases d<;>first|exact h | (unfold toPy at h;cases h)
section
end
theorem gy(xs:List α)(n:Nat):cutD xs none (some (n:Int))=xs.take n:=by
 unfold cutD;rw[HT.rj,HT.cC,Rh,Nat.sub_zero];rcases Su n xs.length with h|h
 .rw[O7 h]
 .rw[QF h,MD,Oi h]
theorem jk(xs:List α)(n:Nat):cutD xs (some (n:Int)) none=xs.drop n:=by
 unfold cutD;rw[HT.rj,HT.cC];rcases Su n xs.length with h|h
 .rw[O7 h,Oi (by rw[Op];omega)]
 .rw[QF h,Qo,List.take_zero,Nh h]
section
variable{s:Shared}
end
def lsM(μ:Mu)(d:D)(Q:List D->(Mu->Prop)->Prop):Prop:=match d with
 | .cell k=>match μ k with
  |some (.lst ds)=>Q ds λμ'=>μ' k=some (.lst ds)
  |_=>False
 | .lst ds=>Q ds λ_=>True
 |_=>False
def pairD(p:D×D):D:= .tup [p.1,p.2]
def Eh(w:DA):DI:=λρ μ Q=>w ρ μ λes μ1=>match es with
 | [d,e]=>lsM μ1 d λds P1=>lsM μ1 e λes P2=>Q ((ds.zip es).map pairD) (λμ'=>P1 μ'/\P2 μ') μ1
 |_=>False
section
theorem Ei{ds:List D}{i:Int}:dIx (.tup ds) (.int i) μ Q=match atI ds i with
  |some v=>Q v μ
  |none=>False:=rfl
theorem Ej{ds:List D}{i:Int}:dIx (.lst ds) (.int i) μ Q=match atI ds i with
  |some v=>Q v μ
  |none=>False:=rfl
theorem tZ{a:α}{r:List α}:atI (a::r) 0=some a:=eV (j:=0) rfl
theorem t3{a b:α}{r:List α}:atI (a::b::r) 1=some b:=eV (j:=1) rfl
theorem Ek{a b c:α}{r:List α}:atI (a::b::c::r) 2=some c:=eV (j:=2) rfl
theorem El{a b c d:α}{r:List α}:atI (a::b::c::d::r) 3=some d:=eV (j:=3) rfl
theorem Em{a b c d e:α}{r:List α}:atI (a::b::c::d::e::r) 4=some e:=eV (j:=4) rfl
theorem I0{a:α}:atI [a] (-1)=some a:=rfl
theorem I_{a b:α}:atI [a,b] (-1)=some b:=rfl
theorem Ja{a b c:α}:atI [a,b,c] (-1)=some c:=rfl
theorem Jb{a b c d:α}:atI [a,b,c,d] (-1)=some d:=rfl
theorem Jc{a b c d e:α}:atI [a,b,c,d,e] (-1)=some e:=rfl
theorem t4{f:α->β}{xs:List α}{i:Int}:atI (xs.map f) i=(atI xs i).map f:=by
 unfold atI;rw[L1];cases ixN xs.length i with
 |none=>rfl
 |some j=>simp[Ln]
theorem En{xs:List α}{i:Int}{v:α}(hi:i=j)(h:xs[j]? = some v):atI xs i=some v:=by subst hi;exact eV h
theorem kO{xs:List α}{i:Int}(h0:0<=i)(h1:i < xs.length):∃v,atI xs i=some v/\xs[i.toNat]? = some v:=by
 have hi:i.toNat < xs.length:=by omega
 exact⟨xs[i.toNat],En (by omega) (LC hi),LC hi⟩
theorem Eo{xs:List α}:atI xs (-1)=xs.getLast? := by
 rcases List.eq_nil_or_concat xs with rfl|⟨ys,v,rfl⟩
 .rfl
 .rw[List.concat_eq_append,rD];simp
end
theorem fR{s1 u:DS}(R:aj->Mu->Prop)(h1:∀N:aj->Mu->Prop,(∀ ρ' μ',R ρ' μ'->N ρ' μ')->s1 {D' with nx:=N} ρ μ)(h2:∀ ρ' μ',R ρ' μ'->u D' ρ' μ'):zK s1 u D' ρ μ:=h1 _ h2
def blK(Q:Bool->Mu->Prop):DK:=λd μ=>match d with
 | .bl b=>Q b μ
 |_=>False
def t5(Q:Int->Mu->Prop):DK:=λd μ=>match d with
 | .int b=>Q b μ
 |_=>False
def chK(q':DR2)(e:D)(wc:DE)(ρ:aj)(Q:DK):DK:=λz μ3=>match z with
 | .bl k=>if k=true then wc ρ μ3 λf μ4=>q' e f μ4 Q else Q (.bl false) μ3
 |_=>False
def cellK(c:Option Ct)(Q:List D->Prop):Prop:=match c with
 |some (.lst ds)=>Q ds
 |_=>False
def ay(o:Option α)(Q:α->Prop):Prop:=match o with
 |some a=>Q a
 |none=>False
def jl(o:Option α)(f:α->β):Option β:=match o with
 |some a=>some (f a)
 |none=>none
theorem Jd{a:α}{f:α->β}:jl (some a) f=some (f a):=rfl
def il(c:Option Ct)(Q:DK)(μ:Mu):Prop:=match c with
 |some (.lst ds)=>Q (.lst ds) μ
 |some (.dct ks vs)=>Q (.dct ks vs) μ
 |some (.dtt ks vs)=>Q (.dtt ks vs) μ
 |some (.ins C ns vs)=>Q (.obj C ns vs) μ
 |_=>False
def tyC(T:String)(c:Option Ct):Prop:=match c with
 |some (.lst _)=>"list"=T
 |some (.dct _ _)=>"dict"=T
 |some (.dtt _ _)=>"dict"=T
 |_=>False
section
variable{w wc:DE}{k:Nat}{d e:D}{ds es:List D}{i j:Int}{q q':DR2}
theorem Je{b:Bool}{R:Bool->Mu->Prop}:blK R (.bl b) μ=R b μ:=rfl
theorem Jf{R:Int->Mu->Prop}:t5 R (.int i) μ=R i μ:=rfl
theorem Jg{b:Bool}:chK q' e wc ρ Q (.bl b) μ=if b=true then wc ρ μ λf μ4=>q' e f μ4 Q else Q (.bl false) μ:=rfl
theorem Jh{R:List D->Prop}:cellK (some (.lst ds)) R=R ds:=rfl
theorem t6{a:α}{R:α->Prop}:ay (some a) R=R a:=rfl
theorem Ji:il (some (.lst ds)) Q μ=Q (.lst ds) μ:=rfl
theorem Jj{ks:List Key}:il (some (.dct ks ds)) Q μ=Q (.dct ks ds) μ:=rfl
theorem Jk{ks:List (List Key)}:il (some (.dtt ks ds)) Q μ=Q (.dtt ks ds) μ:=rfl
theorem Jl{C:Str}:il (some (.ins C ns ds)) Q μ=Q (.obj C ns ds) μ:=rfl
theorem Jm:tyC "list" (some (.lst ds))=True:=eq_true rfl
theorem Jn{R:Bool->Mu->Prop}:zL w ρ μ R=w ρ μ (blK R):=rfl
theorem Jo:gu q q' wa wb wc ρ μ Q=wa ρ μ λd μ1=>wb ρ μ1 λe μ2=>q d e μ2 (chK q' e wc ρ Q):=rfl
theorem Jp{R:Option Int->Mu->Prop}:bD w ρ μ R=w ρ μ (t5 λi=>R (some i)):=rfl
theorem Jq{g:DG}{gs:DGs}{R:aj->Mu->Prop}:e7 g gs (d::ds) ρ μ R=g d ρ μ λρ' μ'=>gs ds ρ' μ' R:=rfl
theorem Jr{n:Nat}{gs:DGs}{R:aj->Mu->Prop}:nX n gs (.tup ds) ρ μ R=(ds.length=n/\gs ds ρ μ R):=rfl
def t7(i j:Nat)(D0:cp)(ρ:aj):List D->Mu->Prop:=λds μ1=>match ds with
 | [d,e]=>D0.nx ((ρ.set i (some d)).set j (some e)) μ1
 |_=>False
theorem Js{i j:Nat}:dPar i j wA D' ρ μ=wA ρ μ (t7 i j D' ρ):=rfl
theorem Jt{i j:Nat}:t7 i j D' ρ [d,e] μ=D'.nx ((ρ.set i (some d)).set j (some e)) μ:=rfl
theorem Ju:fH μ (.cell k) Q=il (μ k) Q (ef μ k):=by
 unfold fH il;cases h:μ k with
 |none=>simp[h]
 |some c=>cases c<;>simp[h]
theorem Jv{g:Int->Int->D}:dI0 g (.int i) (.int j) μ Q=Q (g i j) μ:=rfl
theorem e_i{C:Int->Int->Prop}{g:Int->Int->D}:dI C g (.int i) (.int j) μ Q=(C i j/\Q (g i j) μ):=rfl
theorem Jw:fK (.int i) μ Q=Q (.int (-i)) μ:=rfl
theorem Ep:aI (.int i) (.int j) μ Q=Q (.int (i+j)) μ:=rfl
theorem Jx{a b:Str}:aI (.str a) (.str b) μ Q=(a.length+b.length<=sizeLine/\Q (.str (a++b)) μ):=rfl
theorem Er:aI (.tup ds) (.tup es) μ Q=(ds≠[]/\ds.length+es.length<=sizeLine/\Q (.tup (ds++es)) μ):=rfl
theorem Jy:aI (.lst ds) (.lst es) μ Q=(ds.length+es.length<=sizeLine/\Q (.lst (ds++es)) μ):=by
 show(∃a b,aA μ (.lst ds)=some a/\aA μ (.lst es)=some b/\a.length+b.length<=sizeLine/\Q (.lst (a++b)) μ)=_;simp only[ik,MZ];refine propext ⟨λ⟨a,b,e1,e2,h⟩=>by subst e1 e2;exact h,λh=>⟨_,_,rfl,rfl,h⟩⟩
theorem Es(μ:Mu)(k:Nat)(R:List D->Prop):(∃a,aA μ (.cell k)=some a/\R a)=cellK (μ k) R:=by
 unfold aA cellK;cases h:μ k with
 |none=>simp[h]
 |some c=>cases c<;>simp[h]
theorem Jz:aI (.lst ds) (.cell k) μ Q=cellK (μ k) λes=>ds.length+es.length<=sizeLine/\Q (.lst (ds++es)) μ:=by
 rw[<- Es];show(∃a b,aA μ (.lst ds)=some a/\aA μ (.cell k)=some b/\a.length+b.length<=sizeLine/\Q (.lst (a++b)) μ)=_;refine propext ⟨λ⟨a,b,e1,e2,h⟩=>by cases e1;exact⟨_,e2,h⟩,λ⟨b,e2,h⟩=>⟨_,_,rfl,e2,h⟩⟩
theorem JA:je (.int i) (.int j) μ Q=(dL i j/\Q (.int (i*j)) μ):=rfl
theorem JC:DB (.int i) (.int j) μ Q=Q (.int (i+j)) μ:=rfl
theorem Et:dIx (.tup ds) (.int i) μ Q=ay (atI ds i) λv=>Q v μ:=by
 rw[Ei];cases atI ds i<;>rfl
theorem Eu:dIx (.lst ds) (.int i) μ Q=ay (atI ds i) λv=>Q v μ:=by
 rw[Ej];cases atI ds i<;>rfl
theorem JE:dIx (.cell k) (.int i) μ Q=cellK (μ k) λds=>ay (atI ds i) λv=>Q v μ:=by
 show(match bC μ (.cell k) with|some ds=>(match L2.atI ds i with|some v=>Q v μ|none=>False)|none=>False)=_;unfold cellK bC aA ay;cases h:μ k with
 |none=>simp[h]
 |some c =>
  cases c<;>simp[h]
  rename_i ds;cases atI ds i<;>simp
theorem JF:dIx (.str z) (.int i) μ Q=(z.length<=sizeLine/\ay (L2.atI z.cps.toList i) λc=>Q (.str ⟨#[c]⟩) μ):=by
 show(z.length<=sizeLine/\(match L2.atI z.cps.toList i with|some c=>Q (.str ⟨#[c]⟩) μ|none=>False))=_;cases L2.atI z.cps.toList i<;>rfl
theorem eD:aO (.tup ds) lo hi μ Q=(¬ (HT.sIx ds.length 0 lo=0/\HT.sIx ds.length ds.length hi=ds.length)/\Q (.tup (cutD ds lo hi)) μ):=rfl
theorem JG:aO (.lst ds) lo hi μ Q=Q (.lst (cutD ds lo hi)) μ:=rfl
theorem JH:aQ [.str z] μ Q=(z.length<=sizeLine/\Q (.int z.length) μ):=rfl
theorem JI:aQ [.lst ds] μ Q=Q (.int ds.length) μ:=rfl
theorem JK:aQ [.tup ds] μ Q=Q (.int ds.length) μ:=rfl
theorem JL:aQ [.cell k] μ Q=cellK (μ k) λds=>Q (.int ds.length) μ:=by
 show(match bC μ (.cell k) with|some es=>Q (.int es.length) μ|none=>False)=_;unfold cellK bC aA;cases h:μ k with
 |none=>simp[h]
 |some c=>cases c<;>simp[h]
theorem JM:jg [.lst ds] μ Q=Q (.lst ds) μ:=rfl
theorem JN:jg [.tup ds] μ Q=Q (.lst ds) μ:=rfl
theorem JO:tO [.lst ds] μ Q=∀k,μ k=none->Q (.cell k) (zY μ k (.lst ds)):=rfl
theorem JP:tO [.tup ds] μ Q=∀k,μ k=none->Q (.cell k) (zY μ k (.lst ds)):=rfl
theorem Ew:b8 [.lst ds] μ Q=Q (.tup ds) μ:=rfl
theorem JQ:b8 [.tup ds] μ Q=Q (.tup ds) μ:=rfl
theorem JR:b8 [.cell k] μ Q=cellK (μ k) λds=>Q (.tup ds) μ:=by
 show(match bC μ (.cell k) with|some es=>Q (.tup es) μ|none=>False)=_;unfold cellK bC aA;cases h:μ k with
 |none=>simp[h]
 |some c=>cases c<;>simp[h]
theorem JS:DY [.int i] μ Q=Q (.int (if i < 0 then -i else i)) μ:=rfl
theorem JT:ij [.int i,.int j] μ Q=Q (.int (if j > i then j else i)) μ:=rfl
theorem JU:fM [.int i,.int j] μ Q=Q (.int (if j < i then j else i)) μ:=rfl
theorem JV:ij [.lst ds] μ Q=ay (intsOf ds) λns=>ns≠[]/\∀M∈ns,(∀a∈ns,a<=M)->Q (.int M) μ:=by
 unfold ij ay;simp only[ik,MR];cases intsOf ds<;>rfl
theorem JW:fM [.lst ds] μ Q=ay (intsOf ds) λns=>ns≠[]/\∀M∈ns,(∀a∈ns,M<=a)->Q (.int M) μ:=by
 unfold fM ay;simp only[ik,MR];cases intsOf ds<;>rfl
theorem JX:tM [.lst ds] μ Q=ay (intsOf ds) λns=>Q (.int ns.sum) μ:=by
 unfold tM ay;simp only[ik,MR];cases intsOf ds<;>rfl
theorem JY:jf [.lst ds] μ Q=ay (bL ds) λns=>Q (.bl (ns.all id)) μ:=by
 unfold jf ay;simp only[ik,MR];cases bL ds<;>rfl
theorem JZ:tN [.lst ds] μ Q=ay (bL ds) λns=>Q (.bl (ns.any id)) μ:=by
 unfold tN ay;simp only[ik,MR];cases bL ds<;>rfl
theorem J3:intsOf []=some []:=rfl
theorem J4:intsOf (.int i::ds)=jl (intsOf ds) (λl=>i::l):=by
 unfold jl;simp only[intsOf];cases intsOf ds<;>rfl
theorem J6:bL []=some []:=rfl
theorem J7{b:Bool}:bL (.bl b::ds)=jl (bL ds) (λl=>b::l):=by
 unfold jl;simp only[bL];cases bL ds<;>rfl
theorem J8{R:List D->(Mu->Prop)->Prop}:fN μ (.lst ds) R=R ds λ_=>True:=rfl
theorem J9{R:List D->(Mu->Prop)->Prop}:fN μ (.tup ds) R=R ds λ_=>True:=rfl
theorem J_{R:List D->(Mu->Prop)->Prop}:fN μ (.cell k) R=cellK (μ k) λds=>R ds λμ'=>μ' k=some (.lst ds):=by
 first
  | (unfold fN cellK
     cases h:μ k with
     |none=>simp[h]
     |some c=>cases c<;>simp[h])
  | (unfold lsM cellK
     cases h:μ k with
     |none=>simp[h]
     |some c=>cases c<;>simp[h])
theorem Ka{R:List D->(Mu->Prop)->Prop}:lsM μ (.lst ds) R=R ds λ_=>True:=rfl
def t8(R:List D->(Mu->Prop)->Mu->Prop):List D->Mu->Prop:=λds μ1=>match ds with
 | [.int j]=> -(2^62)<=j/\j < 2^62/\R ((ci 0 j.toNat).map D.int) (λ_=>True) μ1
 |_=>False
def t9(R:List D->(Mu->Prop)->Mu->Prop):List D->Mu->Prop:=λds μ1=>match ds with
 | [.int i,.int j]=>(-(2^62)<=i/\i < 2^62/\ -(2^62)<=j/\j < 2^62)/\R ((ci i (j - i).toNat).map D.int) (λ_=>True) μ1
 |_=>False
theorem Kb{R:List D->(Mu->Prop)->Mu->Prop}:c6 wA ρ μ R=wA ρ μ (t8 R):=rfl
theorem Kc{R:List D->(Mu->Prop)->Mu->Prop}:t8 R [.int j] μ=(-(2^62)<=j/\j < 2^62/\R ((ci 0 j.toNat).map D.int) (λ_=>True) μ):=rfl
theorem Kd{R:List D->(Mu->Prop)->Mu->Prop}:D4 wA ρ μ R=wA ρ μ (t9 R):=rfl
theorem Ke{R:List D->(Mu->Prop)->Mu->Prop}:t9 R [.int i,.int j] μ=((-(2^62)<=i/\i < 2^62/\ -(2^62)<=j/\j < 2^62)/\R ((ci i (j - i).toNat).map D.int) (λ_=>True) μ):=rfl
def t_(R:List D->(Mu->Prop)->Mu->Prop):List D->Mu->Prop:=λes μ1=>match es with
 | [d,e]=>lsM μ1 d λds P1=>lsM μ1 e λes P2=>R ((ds.zip es).map pairD) (λμ'=>P1 μ'/\P2 μ') μ1
 |_=>False
theorem Kf{R:List D->(Mu->Prop)->Mu->Prop}:Eh wA ρ μ R=wA ρ μ (t_ R):=rfl
theorem Kg{R:List D->(Mu->Prop)->Mu->Prop}:t_ R [d,e] μ=lsM μ d λds P1=>lsM μ e λes P2=>R ((ds.zip es).map pairD) (λμ'=>P1 μ'/\P2 μ') μ:=rfl
theorem Kh{many:Int}:bc [.cell k,.int many] μ Q=(μ k=some .draw/\0 < many/\many < 2^250/\∀v,0<=v->v < many->Q (.int v) μ):=rfl
theorem Ki{ns:List Int}:kM [.scr ns] μ Q=∀k,μ k=none->Q (.cell k) (zY μ k .draw):=rfl
theorem Kj:tyM T μ (.cell k)=tyC T (μ k):=by
 unfold tyM tyD tyC;cases h:μ k with
 |none=>simp[h]
 |some c=>cases c<;>simp[h]
theorem Kk:tyM "list" μ (.lst ds)=True:=eq_true rfl
theorem Kl:tyM "str" μ (.str z)=True:=eq_true rfl
theorem Km{R:Nat->List D->Prop}:cq μ (.cell k) R=cellK (μ k) (R k):=by
 unfold cq cellK;cases h:μ k with
 |none=>simp[h]
 |some c=>cases c<;>simp[h]
theorem Kn:zW d [e] μ Q=cq μ d λk ds=>ds.length < sizeLine/\Q .non (zY μ k (.lst (ds++[e]))):=rfl
theorem Ko:tW d [] μ Q=cq μ d λk ds=>ay ds[ds.length - 1]? λy=>Q y (zY μ k (.lst ds.dropLast)):=by
 refine congrArg (cq μ d) (funext λk=>funext λds=>?_);cases ds[ds.length - 1]? <;> rfl
theorem Kp:tW d [.int i] μ Q=cq μ d λk ds=> -(2^63)<=i/\i < 2^63/\ay (ixN ds.length i) λj=>ay ds[j]? λy=>Q y (zY μ k (.lst (ds.eraseIdx j))):=by
 refine congrArg (cq μ d) (funext λk=>funext λds=>?_);refine congrArg (And _) (congrArg (And _) ?_);unfold ay;cases ixN ds.length i with
 |none=>rfl
 |some j =>
  generalize ds.eraseIdx j=ee
  simp only;cases ds[j]? <;> rfl
theorem Kq{R:Mu->Prop}:D_ d (.int i) e μ R=cq μ d λk ds=>ay (ixN ds.length i) λj=>R (zY μ k (.lst (ds.set j e))):=by
 refine congrArg (cq μ d) (funext λk=>funext λds=>?_);cases ixN ds.length i<;>rfl
theorem Kr:dIs d .non μ Q=Q (.bl (dy d)) μ:=rfl
theorem Kt:DD d .non μ Q=Q (.bl (!dy d)) μ:=rfl
theorem Ey{x:Int}:jh [(.int x),.ty "int"] μ Q=Q (.bl true) μ:=by show("int"∈bo/\Q (.bl (cH "int" "int")) μ)=_;rw[show("int"∈bo)=True from eq_true (by decide),true_and];rfl
theorem Ez{x:Int}:jh [(.int x),.ty "bool"] μ Q=Q (.bl false) μ:=by show("bool"∈bo/\Q (.bl (cH "int" "bool")) μ)=_;rw[show("bool"∈bo)=True from eq_true (by decide),true_and];rfl
end
def ua(ds:List D):List D:=((MQ ds.length).zip ds).map λp=> .tup [.int p.1,p.2]
def ub(R:List D->(Mu->Prop)->Mu->Prop):List D->Mu->Prop:=λes μ1=>match es with
 | [d]=>lsM μ1 d λds P1=>R (ua ds) P1 μ1
 |_=>False
def Ku(w:DA):DI:=λρ μ Q=>w ρ μ (ub Q)
theorem Kv{d:D}{R:List D->(Mu->Prop)->Mu->Prop}:ub R [d] μ=lsM μ d λds P1=>R (ua ds) P1 μ:=rfl
section
variable(K:Frag)
def uc:List V->Hp->VK->Prop:=λxs H Q=>∃a ys c b,xs=[.ref a,c]/\SqT K H a ys/\(∀u,RelV c u->kitOne K (.type "tuple") u=some b)/\Q (.bl b) H
def ud:List V->Hp->VK->Prop:=λxs H Q=>n6 K xs H Q\/uc K xs H Q
theorem EA(h:X.K=K:=by rfl):ag X (.builtin "isinstance") (uc K):=by
 subst h;intro pins s σ H xs us Q I r h;obtain⟨a,ys,c,b,rfl,hq,hk,q⟩:=h;obtain⟨u,w,rfl,ra,rc⟩:=vals2 r;cases ra;obtain⟨its,rv,p,hz⟩:=I.tuple hq;obtain⟨o,h1,h2,_⟩:=p;exact kia_one Q1 I.kIn ⟨o,h1,h2⟩ (hk w rc) (λz=>nomatch z) λtk=>⟨.bl b,H,I.tok _,rfl,q⟩
theorem ue(h:X.K=K:=by rfl):ag X (.builtin "isinstance") (ud K):=(DV K h).or (EA K h)
end
def c7:DRs:=λds μ Q=>match ds with
 | [.tup _,.ty T]=>T∈bo/\Q (.bl (cH "tuple" T)) μ
 |ds=>jh ds μ Q
theorem EB(h':T∈bo):kitOne K (.type "tuple") (.type T)=some (cH "tuple" T):=by
 simp only[bo,Lz,No,or_false] at h';rcases h' with rfl|rfl|rfl|rfl|rfl|rfl<;>rfl
instance:bu K fl (ud K) c7:=⟨λ{W μ H ds xs Q Q'} r z h k=>by
 unfold c7 at h;split at h
 .rename_i es T;obtain⟨x,y,rfl,q1,q2⟩:=z.two;obtain⟨a,ys,rfl,hs,_⟩:=q1.tup';unfold Rep at q2;subst q2;exact .inr ⟨a,ys,.ty T,cH "tuple" T,rfl,hs.sm r.sub,λu hu=>by cases hu;exact EB h.1,k _ _ _ _ _ (.refl _) r .b h.2⟩
 .exact .inl (bu.run (K:=K) r z h k)⟩
inductive Src where
 |p (i:Nat)|k (i:Nat)|c (i:Nat)
variable{pat:List Src}
def pick(d:α)(cs us ws:List α):Src->α
 | .p i=>us.getD i d
 | .k i=>ws.getD i d
 | .c i=>cs.getD i d
def sel(n m:Nat)(pat:List Src)(d:α)(cs us ws:List α):List α:=bif (us.length==n&&ws.length==m) then pat.map (pick d cs us ws) else[]
theorem Vals.getD(h:Vals vs us)(i:Nat):RelV (vs.getD i .non) (us.getD i .none):=by
 rw[Mg,Mg];cases e:vs[i]? with
 |none =>
  have:us[i]? = none:=by
   rw[OJ] at e ⊢;rw[<- h.length];exact e
  rw[this];rfl
 |some v =>
  obtain⟨u,hu,rv⟩:=h.get e;rw[hu];exact rv
theorem Vals.mapS{f:Src->V}{g:Src->Value}(h:∀x,RelV (f x) (g x)):∀pat:List Src,Vals (pat.map f) (pat.map g)
 | []=> .nil
 |x::r=> .cons (h x) (Vals.mapS h r)
theorem EC{n:Nat}(hc:Vals csV csU)(h1:Vals vs us)(h2:Vals zs ws):Vals (sel n m pat .non csV vs zs) (sel n m pat .none csU us ws):=by
 unfold sel;rw[h1.length,h2.length];cases (us.length==n&&ws.length==m) with
 |false=>exact .nil
 |true =>
  refine Vals.mapS (λx=>?_) pat;cases x with
  |p i=>exact h1.getD i
  |k i=>exact h2.getD i
  |c i=>exact hc.getD i
section
variable{W:Wd}
theorem zG.getD{ds:List D}(h:zG K W ds xs)(i:Nat):Rep K W (ds.getD i .non) (xs.getD i .non):=by
 rw[Mg,Mg];cases e:ds[i]? with
 |none =>
  have:xs[i]? = none:=by
   rw[OJ] at e ⊢;rw[h.length];exact e
  rw[this];exact .n
 |some v =>
  obtain⟨u,hu,rv⟩:=h.get e;rw[hu];exact rv
theorem zG.mapS{f:Src->D}{g:Src->V}(h:∀x,Rep K W (f x) (g x)):∀pat:List Src,zG K W (pat.map f) (pat.map g)
 | []=> .nil
 |x::r=> .cons (h x) (zG.mapS h r)
theorem kP{n:Nat}{csD ds es:List D}(hc:zG K W csD csV)(h1:zG K W ds vs)(h2:zG K W es zs):zG K W (sel n m pat .non csD ds es) (sel n m pat .non csV vs zs):=by
 unfold sel;rw[h1.length,h2.length];cases (ds.length==n&&es.length==m) with
 |false=>exact .nil
 |true =>
  refine zG.mapS (λx=>?_) pat;cases x with
  |p i=>exact h1.getD i
  |k i=>exact h2.getD i
  |c i=>exact hc.getD i
end
theorem ED{n:Nat}(hc:Vals csV csU)(hp:ps.length≠0)
  (h:∀(S:Setting) (us ws:List Value),us.length=n->ws.length=m->Sv K S (bindArgs fd ⟨us,ks.zip ws⟩)=some (ps.zip (sel n m pat .none csU us ws))):dc K fd ps ks (sel n m pat .none csU) (sel n m pat .non csV) where
 to:=λs us ws hK hl=>by
  by_cases c:us.length=n/\ws.length=m
  .exact PySem.W.kp_binds hK λS=>h S us ws c.1 c.2
  .have:(us.length==n&&ws.length==m)=false:=by
    rw[Bool.and_eq_false_iff];by_cases c1:us.length=n
    .exact .inr (by rw[beq_eq_false_iff_ne];exact λz=>c ⟨c1,z⟩)
    .exact .inl (by rw[beq_eq_false_iff_ne];exact c1)
   unfold sel at hl;rw[this] at hl;exact absurd hl.symm hp
 rel:=λr rz=>EC hc r rz
class gz(K:Frag)(ds:List D)(xs:List V):Prop where
 run:∀W,zG K W ds xs
instance:gz K [] []:=⟨λ_=> .nil⟩
instance{i:Int}{ds:List D}[a:gz K ds xs]:gz K (.int i::ds) (.int i::xs):=⟨λW=> .cons .i (a.run W)⟩
def Kw(dsp:DSp)(n m:Nat)(pat:List Src)(cs:List D)(w wk:DA):DE:=λρ μ Q=>w ρ μ λds μ1=>wk ρ μ1 λes μ2=>dsp (sel n m pat .non cs ds es) μ2 Q
theorem oa:∀{us:List Value} {ns:List Str},StrsAre us ns->Vals (ns.map V.str) us
 |_,_,.nil=> .nil
 |_,_,.cons n t h=> .cons ⟨t,rfl⟩ (oa h)
theorem uf:∀{us:List Value} {ns:List Int},IntsAre us ns->Vals (ns.map V.int) us
 |_,_,.nil=> .nil
 |_,_,.cons n t h=> .cons ⟨t,rfl⟩ (uf h)
theorem og:∀{ns:List Str} {us:List Value},Vals (ns.map V.str) us->StrsAre us ns
 | [],_,h=>by cases h;exact .nil
 |y::r,_,h=>by
  cases h with
  |cons a b=>obtain⟨t,rfl⟩:=a;exact .cons y t (og b)
section
variable(K:Frag)
def ug:List V->Hp->VK->Prop:=λxs H Q=>∃p ns,xs=[.ref p]/\SqL K H p (ns.map V.int)/\ns.length < 64/\∀ns' l,Mq ns' ns->O3 (·<= ·) ns'->H l=none->Q (.ref l) (upd H l (.lst (ns'.map V.int)))
def uh:List V->Hp->VK->Prop:=λxs H Q=>∃p ns,xs=[.ref p]/\SqL K H p (ns.map V.str)/\ns.length < 64/\∀ns' l,Mq ns' ns->sortedS ns'=true->H l=none->Q (.ref l) (upd H l (.lst (ns'.map V.str)))
theorem EF(h:X.K=K:=by rfl):ag X (.builtin "sorted") (ug K):=by
 subst h;intro pins s σ H xs us Q I r h;obtain⟨p,ns,rfl,hl,hz,q⟩:=h;obtain⟨u,rfl,rx⟩:=vals1 r;cases rx;obtain⟨its,r',pl,hz'⟩:=I.list hl;have hi:=kj r';refine sorted_ints pl.isList hi (by rw[<- r'.length,L1];exact hz) λout ns' h1 h2 h3=>?_
 obtain⟨e,he⟩:=Qy s.heap its out;have hf:H (s.heap.objs.size+1)=none:=I.hok.fresh (MU _);refine⟨.ref (s.heap.objs.size+1),_,I.laid (a:=s.heap.objs.size+1) (o:= .lst (ns'.map V.int)) (t':=s.toks) (λb o e=>PU e) (MU _) ?_,rfl,q ns' _ h2 h3 hf⟩;refine⟨by rw[L1,h2.length_eq];exact LU (Nf hz) (by decide),out.toList,e,uf h1,?_⟩;rw[he]
theorem EG(h:X.K=K:=by rfl):ag X (.builtin "sorted") (uh K):=by
 subst h;intro pins s σ H xs us Q I r h;obtain⟨p,ns,rfl,hl,hz,q⟩:=h;obtain⟨u,rfl,rx⟩:=vals1 r;cases rx;obtain⟨its,r',pl,hz'⟩:=I.list hl;have hi:=og r';refine sorted_strs pl.isList hi (by rw[<- r'.length,L1];exact hz) λout ns' h1 h2 h3=>?_
 obtain⟨e,he⟩:=Qy s.heap its out;have hf:H (s.heap.objs.size+1)=none:=I.hok.fresh (MU _);refine⟨.ref (s.heap.objs.size+1),_,I.laid (a:=s.heap.objs.size+1) (o:= .lst (ns'.map V.str)) (t':=s.toks) (λb o e=>PU e) (MU _) ?_,rfl,q ns' _ h2 h3 hf⟩;refine⟨by rw[L1,h2.length_eq];exact LU (Nf hz) (by decide),out.toList,e,oa h1,?_⟩;rw[he]
def kQ:List V->Hp->VK->Prop:=λxs H Q=>ug K xs H Q\/uh K xs H Q
theorem EH(h:X.K=K:=by rfl):ag X (.builtin "sorted") (kQ K):=(EF K h).or (EG K h)
end
def kR:DRs:=λds μ Q=>match ds with
 | [d]=>(∃ns,aA μ d=some (ns.map D.int)/\ns.length < 64/\∀ns',Mq ns' ns->O3 (·<= ·) ns'->Q (.lst (ns'.map D.int)) μ) \/
   (∃ns,aA μ d=some (ns.map D.str)/\ns.length < 64/\∀ns',Mq ns' ns->sortedS ns'=true->Q (.lst (ns'.map D.str)) μ)
 |_=>False
instance:bu K fl (kQ K) kR:=⟨λ{W μ H ds xs Q Q'} r z h k=>by
 unfold kR at h;split at h
 .obtain⟨x,rfl,q⟩:=z.one;rcases h with⟨ns,hl,hz,h⟩|⟨ns,hl,hz,h⟩
  .obtain⟨a,xs,rfl,e1,z1⟩:=dr r q hl;rw[z1.ints] at e1;refine .inl ⟨a,ns,rfl,SqL.of e1,hz,λns' l h1 h2 hl=>?_⟩;obtain⟨r2,le2⟩:=r.newF (o:= .lst (ns'.map V.int)) hl;exact k _ _ _ _ _ le2 r2 (.lst zJ (.of_ints ns')) (h ns' h1 h2)
  .obtain⟨a,xs,rfl,e1,z1⟩:=dr r q hl;rw[z1.strs] at e1;refine .inr ⟨a,ns,rfl,SqL.of e1,hz,λns' l h1 h2 hl=>?_⟩;obtain⟨r2,le2⟩:=r.newF (o:= .lst (ns'.map V.str)) hl;exact k _ _ _ _ _ le2 r2 (.lst zJ (.of_strs ns')) (h ns' h1 h2)
 .exact h.elim⟩
theorem Kx:dy .non=true:=rfl
theorem Ky{i:Int}:dy (.int i)=false:=rfl
theorem Kz{i:Str}:dy (.str i)=false:=rfl
theorem KA{i:Bool}:dy (.bl i)=false:=rfl
theorem KB{i:List D}:dy (.lst i)=false:=rfl
theorem KC{i:List D}:dy (.tup i)=false:=rfl
theorem KD{i:Nat}:dy (.cell i)=false:=rfl
section
theorem KE{x:Int}:c7 [(.int x),.ty "int"] μ Q=Q (.bl true) μ:=Ey (x:=x)
theorem KF{x:Int}:c7 [(.int x),.ty "bool"] μ Q=Q (.bl false) μ:=Ez (x:=x)
theorem KG{x:List D}:c7 [.tup x,.ty "int"] μ Q=Q (.bl false) μ:=by show("int"∈bo/\Q (.bl (cH "tuple" "int")) μ)=_;rw[show("int"∈bo)=True from eq_true (by decide),true_and];rfl
theorem KH{x:List D}:c7 [.tup x,.ty "bool"] μ Q=Q (.bl false) μ:=by show("bool"∈bo/\Q (.bl (cH "tuple" "bool")) μ)=_;rw[show("bool"∈bo)=True from eq_true (by decide),true_and];rfl
theorem KI{x:List D}:c7 [.tup x,.ty "str"] μ Q=Q (.bl false) μ:=by show("str"∈bo/\Q (.bl (cH "tuple" "str")) μ)=_;rw[show("str"∈bo)=True from eq_true (by decide),true_and];rfl
theorem KJ{x:List D}:c7 [.tup x,.ty "list"] μ Q=Q (.bl false) μ:=by show("list"∈bo/\Q (.bl (cH "tuple" "list")) μ)=_;rw[show("list"∈bo)=True from eq_true (by decide),true_and];rfl
theorem KK{x:List D}:c7 [.tup x,.ty "tuple"] μ Q=Q (.bl true) μ:=by show("tuple"∈bo/\Q (.bl (cH "tuple" "tuple")) μ)=_;rw[show("tuple"∈bo)=True from eq_true (by decide),true_and];rfl
theorem KL{x:List D}:c7 [.tup x,.ty "dict"] μ Q=Q (.bl false) μ:=by show("dict"∈bo/\Q (.bl (cH "tuple" "dict")) μ)=_;rw[show("dict"∈bo)=True from eq_true (by decide),true_and];rfl
end
theorem stp{s u:DS}(h:∀N:aj->Mu->Prop,(∀ ρ' μ',u D' ρ' μ'->N ρ' μ')->s {D' with nx:=N} ρ μ):zK s u D' ρ μ:=h _ λ_ _ z=>z
section
variable{g:DG}{Fin:List D->Mu->Prop}{d:D}{r ys:List D}
end
abbrev Tab:=List (Str×List Str)
def gA(tab:Tab)(c f:Str):Bool:=tab.any λp=>p.1==c&&p.2.contains f
class TabOk(K:Frag)(tab:Tab):Prop where
 run:∀c f C,gA tab c f=true->clsOf K c=some C->Cls K C/\cB K C f
def jm(tab:Tab)(f c:Str)(ns:List Str)(vs:List D)(R:D->Prop):Prop:=gA tab c f=true/\ay ((ns.zip vs).lookup f) R
def e9(c:Option Ct)(R:Str->List Str->List D->Prop):Prop:=match c with
 |some (.ins c ns vs)=>R c ns vs
 |_=>False
def e_(μ:Mu)(d:D)(R:Str->List Str->List D->Prop):Prop:=match d with
 | .obj c ns vs=>R c ns vs
 | .cell k=>e9 (μ k) R
 |_=>False
theorem KM{c:Str}{vs:List D}{R:Str->List Str->List D->Prop}:e9 (some (.ins c ns vs)) R=R c ns vs:=rfl
theorem EI{o:Option Ct}{R:Str->List Str->List D->Prop}(h:e9 o R):∃c ns vs,o=some (.ins c ns vs)/\R c ns vs:=by
 unfold e9 at h;split at h
 .exact⟨_,_,_,rfl,h⟩
 .exact h.elim
theorem KN{c:Str}{vs:List D}{R:Str->List Str->List D->Prop}:e_ μ (.obj c ns vs) R=R c ns vs:=rfl
theorem KO{k:Nat}{R:Str->List Str->List D->Prop}:e_ μ (.cell k) R=e9 (μ k) R:=rfl
def EJ(tab:Tab)(f:Str)(Q:DK):DK:=λd μ=>e_ μ d λc ns vs=>jm tab f c ns vs λv=>Q v μ
def aL(tab:Tab)(w:DE)(f:Str):DE:=λρ μ Q=>w ρ μ (EJ tab f Q)
section
variable{W:Wd}
theorem kS{d:D}{x:V}{R:Str->List Str->List D->Prop}(r:Rel K fl W μ H)(q:Rep K W d x)(h:e_ μ d R):∃c C a dx ns vs xs,clsOf K c=some C/\x= .ref a/\H a=some (.ins C dx (ns.zip xs))/\ns.length=xs.length/\zG K W vs xs/\R c ns vs:=by
 unfold e_ at h;split at h
 .rename_i c ns vs;unfold Rep at q;obtain⟨C,a,dx,xs,hc,rfl,e,l,z⟩:=q;exact⟨c,C,a,dx,ns,vs,xs,hc,rfl,r.sub _ _ e,l,z,h⟩
 .rename_i k;obtain⟨a,rfl,hb⟩:=q.cell';unfold e9 at h;split at h
  .rename_i c ns vs hk;obtain⟨a',e1,e2,C,dx,xs,hc,e3,l3,q3⟩:=r.cel k _ hk;rw[hb] at e1;cases e1;exact⟨c,C,a,dx,ns,vs,xs,hc,rfl,e3,l3,q3,h⟩
  .exact h.elim
 .exact h.elim
theorem zG.lookup{f:Str}:∀{ns:List Str} {vs:List D} {xs:List V} {v:D},zG K W vs xs->(ns.zip vs).lookup f=some v->∃x,(ns.zip xs).lookup f=some x/\Rep K W v x
 | [],_,_,_,_,h=>by simp at h
 |_::_,[],_,_,_,h=>by simp at h
 |n::ns,d::vs,xs,v,r,h=>by
  obtain⟨x,xs,rfl,q,z⟩:=r.uncons;simp only[LK,LS] at h ⊢;cases e:(f==n) with
  |true=>rw[e] at h;cases h;exact⟨x,rfl,q⟩
  |false=>rw[e] at h;exact zG.lookup z h
theorem zG.lookup_none{f:Str}:∀{ns:List Str} {vs:List D} {xs:List V},zG K W vs xs->(ns.zip vs).lookup f=none->(ns.zip xs).lookup f=none
 | [],_,_,_,_=>by simp
 |_::_,[],_,r,_=>by rw[r.nil'];simp
 |n::ns,d::vs,xs,r,h=>by
  obtain⟨x,xs,rfl,q,z⟩:=r.uncons;simp only[LK,LS] at h ⊢;cases e:(f==n) with
  |true=>rw[e] at h;cases h
  |false=>rw[e] at h;exact zG.lookup_none z h
instance{tab:Tab}{f:Str}[t:TabOk K tab][a:ac K fl ta wa]:ac K fl (j6 K ta f) (aL tab wa f):=⟨λ{W ρ μ σ H Q Q'} r e h k=>a.run r e h λW1 d μ1 x H1 le1 r1 q1 h1=>by
 obtain⟨c,C,a,dx,ns,vs,xs,hc,rfl,ea,l,z,hi,hl⟩:=kS r1 q1 h1;unfold ay at hl;split at hl
 .rename_i v hv;obtain⟨x,hx,q⟩:=z.lookup hv;obtain⟨c1,c2⟩:=t.run c f C hi hc;exact⟨a,C,dx,_,x,rfl,ea,c1,c2,hx,k _ _ _ _ _ le1 r1 q hl⟩
 .exact hl.elim⟩
end
def putN(f:Str):List Str->List Str
 | []=>[f]
 |g::r=>if g=f then g::r else g::putN f r
def putD(f:Str)(v:D):List Str->List D->List D
 |g::r,x::xs=>if g=f then v::xs else x::putD f v r xs
 |_,_=>[v]
def gB(tab:Tab)(f:Str)(v:D)(c:Str)(ns:List Str)(vs:List D)(R:List Str->List D->Prop):Prop:=gA tab c f=true/\ns.length < 1000/\R (putN f ns) (putD f v ns vs)
def kT(tab:Tab)(wo w:DE)(f:Str):DS:=λD ρ μ=>w ρ μ λv μ1=>wo ρ μ1 λd μ2=>match d with
 | .cell k=>e9 (μ2 k) λc ns vs=>gB tab f v c ns vs λns' vs'=>D.nx ρ (zY μ2 k (.ins c ns' vs'))
 |_=>False
def ui(tab:Tab)(f:Str)(v:D)(D0:cp)(ρ:aj):DK:=λd μ2=>match d with
 | .cell k=>e9 (μ2 k) λc ns vs=>gB tab f v c ns vs λns' vs'=>D0.nx ρ (zY μ2 k (.ins c ns' vs'))
 |_=>False
theorem KP{tab:Tab}{w:DE}{f:Str}{D0:cp}:kT tab wo w f D0 ρ μ=w ρ μ λv μ1=>wo ρ μ1 (ui tab f v D0 ρ):=rfl
theorem KQ{tab:Tab}{f:Str}{v:D}{D0:cp}{k:Nat}:ui tab f v D0 ρ (.cell k) μ=e9 (μ k) λc ns vs=>gB tab f v c ns vs λns' vs'=>D0.nx ρ (zY μ k (.ins c ns' vs')):=rfl
section
variable{W:Wd}
theorem uj{f:Str}{y:V}:∀{ns:List Str} {xs:List V},ns.length=xs.length->∃xs',bG f y (ns.zip xs)=(putN f ns).zip xs'/\(putN f ns).length=xs'.length/\∀{vs:List D} {v:D},zG K W vs xs->Rep K W v y->zG K W (putD f v ns vs) xs'
 | [],[],_=>⟨[y],rfl,rfl,λ{vs v} r q=>by
   cases vs with
   |nil=>exact .cons q .nil
   |cons d vs=>obtain⟨x,r',e,_⟩:=r.uncons;cases e⟩
 | [],_::_,h=>by simp at h
 |_::_,[],h=>by simp at h
 |n::ns,x::xs,h=>by
  obtain⟨xs',e1,e2,e3⟩:=uj (f:=f) (y:=y) (ns:=ns) (xs:=xs) (by simpa using h);by_cases hn:n=f
  .refine⟨y::xs,?_,?_,λ{vs v} r q=>?_⟩
   .simp[bG,putN,hn]
   .simp only[putN,if_pos hn];simpa using h
   .cases vs with
    |nil=>have:=r.nil';cases this
    |cons d vs =>
     obtain⟨x',r',e,q1,z⟩:=r.uncons;cases e;simp only[putD,if_pos hn];exact .cons q z
  .refine⟨x::xs',?_,?_,λ{vs v} r q=>?_⟩
   .simp only[LK,bG,putN,if_neg hn,e1]
   .simp only[putN,if_neg hn,LF,e2]
   .cases vs with
    |nil=>have:=r.nil';cases this
    |cons d vs =>
     obtain⟨x',r',e,q1,z⟩:=r.uncons;cases e;simp only[putD,if_neg hn];exact .cons q1 (e3 z q)
instance{tab:Tab}{f:Str}[t:TabOk K tab][a:ac K fl ta wa][b:ac K fl tv wv]:aP K fl (j7 K ta tv f) (kT tab wa wv f):=⟨λ{W ρ μ σ H D' D} r e h k=>b.run r e h λW1 v μ1 y H1 le1 r1 qv h1=>a.run r1 (e.mono le1) h1 λW2 d μ2 x H2 le2 r2 q2 h2=>by
 cases d<;>first|exact h2.elim|skip
 rename_i kk;obtain⟨a,rfl,hb⟩:=q2.cell';obtain⟨c,ns,vs,hk,h2⟩:=EI (o:=μ2 kk) h2;obtain⟨a',e1,e2,C,dx,xs,hc,e3,l3,q3⟩:=r2.cel kk _ hk;rw[hb] at e1;cases e1;obtain⟨hi,hz,h2⟩:=h2;obtain⟨c1,c2⟩:=t.run c f C hi hc;obtain⟨xs',p1,p2,p3⟩:=uj (K:=K) (W:=W2) (f:=f) (y:=y) l3;refine⟨a,C,dx,_,rfl,e3,c1,c2,by rw[Ph,<- l3,Qp];exact hz,?_⟩;rw[p1];exact k.nx W2 ρ _ σ _ (le1.trans le2) (r2.setC (c':= .ins c (putN f ns) (putD f v ns vs)) hk hb ⟨C,dx,xs',hc,rfl,p2,p3 q3 (qv.mono le2)⟩) (e.mono (le1.trans le2)) h2⟩
end
structure bp(P:Program)(w:World)(K:Frag)(mg:Str->Option Value)(base:Heap)(CX:CXT)(c m:Str)(k:Nat)(ps:List Str)(sp:Sp)(ks:List Str)(gV:List V->List V->List V):Prop where
 ex:∃C f fd g,clsOf K c=some C/\Cls K C/\Meth K C m f/\aa P w K mg base CX k f fd ps sp/\dc K fd ps ks g gV
def oh(K:Frag)(c m:Str)(sp:Sp)(gV:List V->List V->List V)(E:XK)(ta:TE)(t tk:TA):TE:=λσ H Q=>ta σ H λx H1=>∃C a dx fs,clsOf K c=some C/\x= .ref a/\H1 a=some (.ins C dx fs)/\fs.lookup m=none /\
 t σ H1 λvs H2=>tk σ H2 λzs H3=>sp (gV (x::vs) zs) H3 Q E
section
variable{k:Nat}{E:XK}{c m:Str}{e o:Expr}{t:TA}
theorem cI{pl:Sem Bool}(K:Frag)(hh:bp X.prog X.w X.K X.mg X.base CX c m j ps sp ks gV)(hr:bh k X.A)(he:WE X o ta)(ha:WA X (e::es) t)(hkw:WK X kws tk)(hK:X.K=K:=by rfl)(hj:j<=k:=by decide)(hx:cV CX X E:=by exact hJ)
  (hall:(backToKw pos (keywordEach kws X.env)).all (·.1.isSome)=true:=by rfl)(hks:(backToKw pos (keywordEach kws X.env)).filterMap (·.1)=ks:=by rfl)
  (hst:starEach (e::es) X.env=(false,eval e X.env)::starEach es X.env:=by rfl)
  (hpl:((backTo pos (starEach (e::es) X.env)).any (·.1)||(backToKw pos (keywordEach kws X.env)).any (·.1.isNone))=false:=by rfl)
  (ht:eval (.Call (.Attribute o m apos) (e::es) kws pos) X.env=(do
   let ov<-eval o X.env
   standAt apos.atName
   let (f,first)<-holding [ov] (getMethod ov m pl)
   callWith pos f first (backTo pos (starEach (e::es) X.env)) (backToKw pos (keywordEach kws X.env))):=by rfl) :
  WE X (.Call (.Attribute o m apos) (e::es) kws pos) (oh K c m sp gV E ta t tk):=⟨by
 subst hK;obtain⟨C0,f,fd,g,hc0,hcl,hm,F,hb⟩:=hh.ex;intro pins s σ H Q I h;refine PV (pl:=pl) (thn (he.out pins s σ H _ I h) λu s1 ⟨x,H1,I1,rx,C,a,dx,fs,hc,ex,ea,l,q⟩=>?_) ht;rw[hc0] at hc;cases hc;subst ex;obtain rfl:u=LH a:=rx;refine m_ I1 ea hcl hm l ?_;refine QZ (first:=[.ref a]) (h₀:=X.base) I.ok.mod.kin hm.kp hall (thn (ha.out pos pins s1 σ H1 _ I1 q) λus s2 ⟨vs,H2,I2,r,q2⟩=>?_) hpl hst;refine thn (hkw.out pos pins s2 σ H2 _ I2 q2) λws s3 ⟨zs,H3,I3,rz,q3⟩=>⟨I3.kIn,?_⟩
 rw[hks];exact q_ (us:= .ref a::us) (vs:= .ref a::vs) (F.mono hj) hr hb hx I3 (.cons rfl r) rz q3⟩
theorem gC{pl:Sem Bool}(K:Frag)(hh:bp X.prog X.w X.K X.mg X.base CX c m j ps sp [] gV)(hr:bh k X.A)(he:WE X o ta)(hK:X.K=K:=by rfl)(hj:j<=k:=by decide)(hx:cV CX X E:=by exact hJ)
  (ht:eval (.Call (.Attribute o m apos) [] [] pos) X.env=(do
   let ov<-eval o X.env
   standAt apos.atName
   let (f,first)<-holding [ov] (getMethod ov m pl)
   callWith pos f first (backTo pos (starEach [] X.env)) (backToKw pos (keywordEach [] X.env))):=by rfl) :
  WE X (.Call (.Attribute o m apos) [] [] pos) (oh K c m sp gV E ta cg cg):=⟨by
 subst hK;obtain⟨C0,f,fd,g,hc0,hcl,hm,F,hb⟩:=hh.ex;intro pins s σ H Q I h;refine PV (pl:=pl) (thn (he.out pins s σ H _ I h) λu s1 ⟨x,H1,I1,rx,C,a,dx,fs,hc,ex,ea,l,q⟩=>?_) ht;rw[hc0] at hc;cases hc;subst ex;obtain rfl:u=LH a:=rx;refine m_ I1 ea hcl hm l ?_;exact PL (first:=[.ref a]) I1.kIn hm.kp (q_ (us:=[.ref a]) (vs:=[.ref a]) (ws:=[]) (zs:=[]) (F.mono hj) hr hb hx I1 (.cons rfl .nil) .nil q)⟩
end
def bq(c m:Str)(dsp:DSp)(n j:Nat)(pat:List Src)(cs:List D)(wo:DE)(w wk:DA):DE:=λρ μ Q=>wo ρ μ λd μ1=>(e_ μ1 d λc' ns vs=>c'=c/\(ns.zip vs).lookup m=none)/\w ρ μ1 λds μ2=>wk ρ μ2 λes μ3=>dsp (sel n j pat .non cs (d::ds) es) μ3 Q
instance{c m:Str}{n:Nat}{csD:List D}{E:XK}{t:TA}{w:DA}[o:ac K fl ta wa][a:a7 K fl t w][b:a7 K fl tk wk][cr:gz K csD csV]:ac K fl (oh K c m (lift K dsp) (sel n j pat .non csV) E ta t tk) (bq c m dsp n j pat csD wa w wk):=⟨λ{W ρ μ σ H Q Q'} r e h k =>
 o.run r e h λW1 d μ1 x H1 le1 r1 q1 h1=>by
  obtain⟨c',C,p,dx,ns,vs,xs,hc,rfl,ea,l,z,rfl,hl⟩:=kS r1 q1 h1.1;refine⟨C,p,dx,_,hc,rfl,ea,z.lookup_none hl,a.run r1 (e.mono le1) h1.2 λW2 ds μ2 xs H2 le2 r2 q2 h2=>b.run r2 (e.mono (le1.trans le2)) h2 λW3 es μ3 ys H3 le3 r3 q3 h3=>?_⟩;exact⟨fl,W3,μ3,_,Q,r3,kP (cr.run W3) (.cons (q1.mono (le2.trans le3)) (q2.mono le3)) q3,h3,λW4 d4 μ4 x4 H4 le4=>k W4 d4 μ4 x4 H4 (le1.trans (le2.trans (le3.trans le4)))⟩⟩
structure oi(P:Program)(w:World)(K:Frag)(mg:Str->Option Value)(base:Heap)(CX:CXT)(c:Str)(k:Nat)(ps:List Str)(sp:Sp)(ks:List Str)(gV:List V->List V->List V):Prop where
 ex:∃C f fd g,clsOf K c=some C/\Mk K C f/\aa P w K mg base CX k f fd ps sp/\dc K fd ps ks g gV/\mg c=some (.ref C)
def uk(K:Frag)(c:Str)(sp:Sp)(gV:List V->List V->List V)(E:XK)(t tk:TA):TE:=λσ H Q=>t σ H λvs H1=>tk σ H1 λzs H2=>∀C x dx,clsOf K c=some C->H2 x=none->H2 dx=none->dx≠x ->
 sp (gV (.ref x::vs) zs) (upd (upd H2 dx (.own x)) x (.ins C dx [])) (λv H3=>v= .non/\Q (.ref x) H3) E
section
variable{k:Nat}{E:XK}{c:Str}{p:Pos}{e:Expr}{t:TA}
theorem EK(K:Frag)(h:oi X.prog X.w X.K X.mg X.base CX c j ps sp [] gV)(hr:bh k X.A)(hK:X.K=K:=by rfl)(hj:j+1<=k:=by decide)(hg:Gl X c:=by rfl)(hx:cV CX X E:=by exact hJ)
  (hdb:(c==("__debug__":Str))=false:=by decide):WE X (.Call (.Name c p) [] [] pos) (uk K c sp gV E cg cg):=⟨by
 subst hK;obtain⟨C,f,fd,g,hc,M,F,b,m⟩:=h.ex;intro pins s σ H Q I h;refine Np (eS I hg m ?_ hdb);exact PL I.kIn M.kp (Dq (us:=[]) (vs:=[]) (ws:=[]) (zs:=[]) M F (hr.mono hj) b hx I .nil .nil λx dx h1 h2 h3=>h C x dx hc h1 h2 h3)⟩
end
def ul(c:Str)(dsp:DSp)(n j:Nat)(pat:List Src)(cs:List D)(w wk:DA):DE:=λρ μ Q=>w ρ μ λds μ1=>wk ρ μ1 λes μ2=>∀k,μ2 k=none->dsp (sel n j pat .non cs (.cell k::ds) es) (zY μ2 k (.ins c [] [])) λd μ3=>d= .non/\Q (.cell k) μ3
def EL(c:Str)(dsp:DSp)(n j:Nat)(pat:List Src)(cs:List D)(w wk:DA):DE:=λρ μ Q=>w ρ μ λds μ1=>wk ρ μ1 λes μ2=>∀k,μ2 k=none->dsp (sel n j pat .non cs (.cell k::ds) es) (zY μ2 k (.ins c [] [])) λd μ3=>d= .non/\fH μ3 (.cell k) Q
section
variable{c:Str}{n:Nat}{csD:List D}{E:XK}{t:TA}{w:DA}
theorem EM{W:Wd}{x dx:Addr}(r:Rel K fl W μ H)(hc:clsOf K c=some C)(h1:H x=none)(h2:H dx=none)(h3:dx≠x):∃(k:Nat) (W':Wd),μ k=none/\W.le W'/\Rel K fl W' (zY μ k (.ins c [] [])) (upd (upd H dx (.own x)) x (.ins C dx []))/\W'.b k=some x:=by
 have r1:Rel K fl W μ (upd H dx (.own x)):=r.same (i8 h2);have hx:upd H dx (.own x) x=none:=by rw[zN (Ne.symm h3)];exact h1
 exact r1.newC (o:= .ins C dx []) (c:= .ins c [] []) hx ⟨C,dx,[],hc,rfl,rfl,.nil⟩
instance[a:a7 K fl t w][b:a7 K fl tk wk][cr:gz K csD csV]:ac K fl (uk K c (lift K dsp) (sel n j pat .non csV) E t tk) (ul c dsp n j pat csD w wk):=⟨λ{W ρ μ σ H Q Q'} r e h k =>
 a.run r e h λW1 ds μ1 xs H1 le1 r1 q1 h1=>b.run r1 (e.mono le1) h1 λW2 es μ2 ys H2 le2 r2 q2 h2 C x dx hc g1 g2 g3=>by
  obtain⟨kk,W3,hk,le3,r3,e3⟩:=EM r2 hc g1 g2 g3;refine⟨fl,W3,_,_,_,r3,kP (cr.run W3) (.cons (by unfold Rep;exact⟨x,rfl,e3⟩) (q1.mono (le2.trans le3))) (q2.mono le3),h2 kk hk,λW4 d4 μ4 x4 H4 le4 r4 q4 h4=>?_⟩;obtain⟨rfl,h4⟩:=h4;exact⟨q4.n',k W4 (.cell kk) μ4 _ H4 (le1.trans (le2.trans (le3.trans le4))) r4 (by unfold Rep;exact⟨x,rfl,le4.b _ _ e3⟩) h4⟩⟩
end
theorem zU{c:Str}(h:nsIn K mainGlobals c=some (some (.ref C))):clsOf K c=some C:=by unfold clsOf;rw[h]
theorem EO:TabOk K []:=⟨λ_ _ _ h=>by simp[gA] at h⟩
theorem EQ{c:Str}{fs:List Str}{tab:Tab}(hc:clsOf K c=some C)(cl:Cls K C)(hf:∀f∈fs,cB K C f)(t:TabOk K tab):TabOk K ((c,fs)::tab):=⟨λc' f C' hi h=>by
 simp only[gA,NC,O6,M9] at hi;rcases hi with⟨h1,h2⟩|h1
 .have e:=eq_of_beq h1;subst e;rw[hc] at h;cases h;exact⟨cl,hf f (Po.mp h2)⟩
 .exact t.run c' f C' h1 h⟩
def um(K:Frag):V->List V->Hp->VK->Prop:=λx xs H Q=>∃sep p ys,x= .str sep/\xs=[.ref p]/\(SqL K H p (ys.map V.str)\/SqT K H p (ys.map V.str))/\sep.length<=16/\i5 ys<=1048576/\Q (.str (Nx sep ys)) H
theorem ER(K:Frag)(h:X.K=K:=by rfl):MtR X "str.join" (um K):=C4 K h
def oj:DM:=λd es μ Q=>match d,es with
 | .str sep,[e]=>∃ys,bC μ e=some (ys.map D.str)/\sep.length<=16/\i5 ys<=1048576/\Q (.str (Nx sep ys)) μ
 |_,_=>False
instance:ji K fl "str" (um K) oj:=⟨λ{W μ H d x ds xs Q Q'} r q z h k=>by
 unfold oj at h;split at h
 .obtain⟨y,rfl,qy⟩:=z.one;obtain⟨ys,hl,h1,h2,h⟩:=h;obtain⟨a,vs,rfl,e1,z1⟩:=ig r qy hl;rw[z1.strs] at e1;rw[q.s'];exact⟨_,a,ys,rfl,rfl,e1,h1,h2,k _ _ _ _ _ (.refl _) r .s h⟩
 .exact h.elim⟩
def ES:R2:=λx y H Q=>∃c n,x= .str ⟨#[c]⟩/\y= .int n/\0<=n/\n<=1000/\∀z:Str,z.cps.toList=LB n.toNat c->Q (.str z) H
def uo:R2:=λx y H Q=>kH x y H Q\/ES x y H Q
theorem uq:OpR X (binaryOp .Mult) uo:=Dz.or C5
def gD:DR2:=λd e μ Q=>match d,e with
 | .str z,.int n=>∃c,z=⟨#[c]⟩/\0<=n/\n<=1000/\∀y:Str,y.cps.toList=LB n.toNat c->Q (.str y) μ
 |d,e=>je d e μ Q
instance:a8 K fl uo gD:=⟨λ{W μ H d e x y Q Q'} r q1 q2 h k=>by
 unfold gD at h;split at h
 .obtain⟨c,rfl,h1,h2,h⟩:=h;rw[q1.s',q2.i'];exact .inr ⟨c,_,rfl,rfl,h1,h2,λz hz=>k _ _ _ _ _ (.refl _) r .s (h z hz)⟩
 .exact .inl (a8.run (K:=K) (r:=kH) (q:=je) r q1 q2 h k)⟩
section
variable{i j:Int}{ds:List D}
theorem KR:gD (.int i) (.int j) μ Q=(dL i j/\Q (.int (i*j)) μ):=rfl
theorem KS{c:Nat}:gD (.str ⟨#[c]⟩) (.int j) μ Q=(0<=j/\j<=1000/\∀y:Str,y.cps.toList=LB j.toNat c->Q (.str y) μ):=by
 show(∃c',(⟨#[c]⟩:Str)=⟨#[c']⟩/\0<=j/\j<=1000/\∀y:Str,y.cps.toList=LB j.toNat c'->Q (.str y) μ)=_;refine propext ⟨λ⟨c',e,h⟩=>?_,λh=>⟨c,rfl,h⟩⟩;have:c=c':=by
  have:=congrArg (λs:Str=>s.cps.toList) e;simpa using this
 subst this;exact h
end
theorem jo{g:DG}{ds:List D}{Fin:List D->Mu->Prop}{ys:List D}(I:Nat->List D->Mu->Prop)(h0:I 0 ys μ)
  (step:∀i d ys μ,ds[i]? = some d->I i ys μ->ys.length < sizeLine/\∀N:List D->Mu->Prop,(∀ys' μ',I (i+1) ys' μ'->N ys' μ')->g d ρb μ λρ2 μ2=>we ρ2 μ2 λv μ4=>N (ys++[v]) μ4)
  (fin:∀ys μ,I ds.length ys μ->Fin ys μ)(hP:∀i ys μ,I i ys μ->Pm μ:=by exact λ_ _ _ _=>trivial):b7 g cP we ρb Pm Fin ds ys μ :=
 n_ I h0 (λi d ys μ hd hI=>⟨(step i d ys μ hd hI).1,λN hN=>(step i d ys μ hd hI).2 N hN⟩) fin hP
theorem c8{g:DG}{Fin:List D->Mu->Prop}(xs:List α)(f:α->D)(p:α->Bool)(f':α->D)(hl:xs.length<=sizeLine)
  (step:∀x∈xs,∀(Y:DK) (Z:Mu->Prop),(p x=true->Y (f' x) μ)->(p x=false->Z μ)->g (f x) ρb μ λρ2 μ2=>wc ρ2 μ2 λb μ3=>if b=true then we ρ2 μ3 Y else Z μ3)
  (fin:Fin ((xs.filter p).map f') μ)(hP:Pm μ:=by exact trivial):b7 g wc we ρb Pm Fin (xs.map f) [] μ:=by
 refine n_ (λi ys μ'=>μ'=μ/\ys=((xs.take i).filter p).map f') ⟨rfl,by simp⟩ (λi d ys μ' hd hI=>?_) (λys μ' hI=>?_) (λi ys μ' h=>h.1▸hP)
 .obtain⟨rfl,rfl⟩:=hI;rw[Ln] at hd;cases hx:xs[i]? with
  |none=>rw[hx] at hd;cases hd
  |some x =>
   rw[hx] at hd;cases hd;have hi:=(LD.mp hx).1;refine⟨?_,λN hN=>?_⟩
   .have:=MO p (xs.take i);rw[L1];rw[Mp] at this;omega
   .refine step x (Lu hx) (λv μ4=>N (((xs.take i).filter p).map f'++[v]) μ4) (λμ3=>N (((xs.take i).filter p).map f') μ3) (λhp=>hN _ _ ⟨rfl,?_⟩) (λhp=>hN _ _ ⟨rfl,?_⟩)
    .rw[Mm,hx];simp[hp]
    .rw[Mm,hx];simp[hp]
 .obtain⟨rfl,rfl⟩:=hI;rw[L1,MD];exact fin
theorem ur:∀xs:List Str,fL (xs.map D.str)=some (xs.map V.str)
 | []=>rfl
 |x::r=>by rw[LV,fL,ur r];rfl
theorem om{xs:List Str}{e:D}(h:bC μ e=some (xs.map D.str)):bi neg (.str x) e μ Q=Q (.bl (neg ^^ decide (x∈xs))) μ:=by
 have h2:ii (.str x)=some (.str x):=rfl;unfold bi;simp only[h,h2,ur,sC];cases neg<;>simp
theorem dz{xs:List Str}{k:Nat}(h:μ k=some (.lst (xs.map D.str))):bi neg (.str x) (.cell k) μ Q=Q (.bl (neg ^^ decide (x∈xs))) μ:=om (Eg h)
theorem kU{xs:List Str}:bi neg (.str x) (.lst (xs.map D.str)) μ Q=Q (.bl (neg ^^ decide (x∈xs))) μ:=om rfl
theorem kW{xs:List Str}:bi neg (.str x) (.tup (xs.map D.str)) μ Q=Q (.bl (neg ^^ decide (x∈xs))) μ:=om rfl
def ut:R2:=λx y H Q=>∃i j,x= .str i/\y= .str j/\Q (.bl (!(Ob j i 0 j.length 1).isEmpty)) H
theorem ET:OpR X (compareOp .In) ut:=AT
def im(signs x:Str):Bool:= !(Ob signs x 0 signs.length 1).isEmpty
def kX:DR2:=λd e μ Q=>match d,e with
 | .str i,.str j=>Q (.bl (im j i)) μ
 |_,_=>False
instance:a8 K fl ut kX:=⟨λ{W μ H d e x y Q Q'} r q1 q2 h k=>by
 unfold kX at h;split at h
 .rw[q1.s',q2.s'];exact⟨_,_,rfl,rfl,k _ _ _ _ _ (.refl _) r .b h⟩
 .exact h.elim⟩
theorem KU{i j:Str}:kX (.str i) (.str j) μ Q=Q (.bl (im j i)) μ:=rfl
def uu(P:Program)(w:World)(K:Frag):List V->Hp->VK->Prop:=λxs H Q=>∃p ys,xs=[.ref p]/\SqT K H p (ys.map V.str)/\ys.length<=100/\∀a,H a=none->Q (.ref a) (upd H a (ie P w a ys))
def uv(P:Program)(w:World):List V->Hp->VK->Prop:=λxs H Q=>∃a ys,xs=[.ref a]/\H a=some (ie P w a ys)/\Q (.int (ic ys:Nat)) H
theorem uw(K:Frag)(h:X.K=K:=by rfl)(hP:X.prog=P:=by rfl)(hw:X.w=w:=by rfl)(hc:X.calm=true:=by rfl):ag X (.type "set") (uu P w K):=by subst hP hw;exact Dn K hc h
theorem ux(hP:X.prog=P:=by rfl)(hw:X.w=w:=by rfl):ag X (.builtin "len") (uv P w):=by subst hP hw;exact Do
def on(w:DE):DE:=λρ μ Q=>w ρ μ λd μ1=>match d with
 | .tup ds=>∃ys,ds=ys.map D.str/\ys.length<=100/\Q (.int (ic ys:Nat)) μ1
 |_=>False
instance[a:ac K fl te we]:ac K fl (tCB (uv P w) (cU (tCB (uu P w K) (cU te cg)) cg)) (on we):=⟨λ{W ρ μ σ H Q Q'} r e h k=>a.run r e h λW1 d μ1 x H1 le1 r1 q1 h1=>by
 cases d<;>first|exact h1.elim|skip
 obtain⟨ys,rfl,hl,h1⟩:=h1;obtain⟨p,xs,rfl,s1,z1⟩:=q1.tup';rw[z1.strs] at s1;refine⟨p,ys,rfl,s1.sm r1.sub,hl,λb hb=>⟨b,ys,rfl,zJ,?_⟩⟩;exact k W1 _ μ1 _ _ le1 (r1.same (i8 hb)) .i h1⟩
def KW(c:Str):DRs:=λds μ Q=>match ds with
 | [.str _,.cls c']=>c'=c/\Q (.bl false) μ
 | [.int _,.cls c']=>c'=c/\Q (.bl false) μ
 | [d,.cls c']=>c'=c/\e_ μ d λc2 _ _=>c2=c/\Q (.bl true) μ
 |_=>False
section
variable{c:Str}
end
def SI:Nat->D->Prop
 |_,.int _=>True
 |_,.str x=>PyData.strOk x=true
 |n+1,.tup ds=>∀d∈ds,SI n d
 |n+1,.lst ds=>∀d∈ds,SI n d
 |_,_=>False
theorem SI.pl:∀{n:Nat} {d:D},SI n d->Pl n d:=by
 intro n;induction n with
 |zero=>intro d h;cases d<;>first|exact h.elim|exact h
 |succ n ih=>intro d h;cases d<;>first|exact h.elim|exact h|exact λx hx=>ih (h x hx)
theorem SI.eqvs{n:Nat}(ih:∀d e p q,SI n d->SI n e->toPy d=some p->toPy e=some q->(PyData.eqv p q=true↔d=e)):∀(ds es:List D) (ps qs:List PyData),(∀d∈ds,SI n d)->(∀d∈es,SI n d)->bE ds=some ps->bE es=some qs->(PyData.eqvAll ps qs=true↔ds=es)
 | [],[],ps,qs,_,_,h1,h2=>by
  unfold bE at h1 h2;cases h1;cases h2;simp[PyData.eqvAll]
 | [],e::es,ps,qs,_,_,h1,h2=>by
  unfold bE at h1 h2;split at h2
  .cases h1;cases h2;simp[PyData.eqvAll]
  .cases h2
 |d::ds,[],ps,qs,_,_,h1,h2=>by
  unfold bE at h1 h2;split at h1
  .cases h1;cases h2;simp[PyData.eqvAll]
  .cases h1
 |d::ds,e::es,ps,qs,s1,s2,h1,h2=>by
  unfold bE at h1 h2;split at h1
  .rename_i p ps' e1 e2;split at h2
   .rename_i q qs' e3 e4;cases h1;cases h2;have a:=ih d e p q (s1 d Ly) (s2 e Ly) e1 e3;have b:=SI.eqvs ih ds es ps' qs' (λx hx=>s1 x (Lx _ hx)) (λx hx=>s2 x (Lx _ hx)) e2 e4;unfold PyData.eqvAll;rw[M9,a,b,R4]
   .cases h2
  .cases h1
theorem SI.eqv:∀(n:Nat) (d e:D) (p q:PyData),SI n d->SI n e->toPy d=some p->toPy e=some q->(PyData.eqv p q=true↔d=e):=by
 intro n;induction n with
 |zero =>
  intro d e p q h1 h2 t1 t2;cases d<;>first|exact h1.elim|skip
  all_goals cases e<;>first|exact h2.elim|skip
  all_goals (unfold toPy at t1 t2;cases t1;cases t2;simp[PyData.eqv])
 |succ n ih =>
  intro d e p q h1 h2 t1 t2;cases d<;>first|exact h1.elim|skip
  all_goals cases e<;>first|exact h2.elim|skip
  all_goals unfold toPy at t1 t2
  all_goals first
   | (cases t1;cases t2;simp[PyData.eqv];done)
   | (cases t1
      obtain⟨qs,e2,rfl⟩:=LM.mp t2;simp[PyData.eqv];done)
   | (cases t2
      obtain⟨ps,e1,rfl⟩:=LM.mp t1;simp[PyData.eqv];done)
   | (obtain ⟨ps, e1, rfl⟩ := LM.mp t1
      obtain⟨qs,e2,rfl⟩:=LM.mp t2;first
       | (simp[PyData.eqv];done)
       | (unfold PyData.eqv
          rw[SI.eqvs ih _ _ ps qs h1 h2 e1 e2];simp))
theorem EU{d e:D}{n:Nat}(h1:SI n d)(h2:SI n e)(hn:n<=60)(q:∀b:Bool,(b=true↔d=e)->Q (.bl (neg ^^ b)) μ):dv neg d e μ Q:=by
 obtain⟨p,t1,c1,b1⟩:=Pl.py n d h1.pl;obtain⟨p',t2,c2,b2⟩:=Pl.py n e h2.pl;unfold dv;split
 .exact q _ (by simp)
 .exact q _ (by simp)
 .exact q _ (by simp)
 .rw[tY t1,tY t2];exact⟨⟨c1,by omega⟩,⟨c2,by omega⟩,q _ (SI.eqv n d e p p' h1 h2 t1 t2)⟩
theorem uy{d e:D}{n:Nat}(h1:SI n d)(h2:SI n e)(hn:n<=60)(q:∀b:Bool,(b=true↔d=e)->Q (.bl (!b)) μ):dNe d e μ Q:=EU h1 h2 hn λb hb=>by rw[My];exact q b hb
theorem jp{d:D}{n:Nat}(h1:SI n d)(hn:n<=60)(q:Q (.bl false) μ):dNe d d μ Q:=uy h1 h1 hn λb hb=>by rw[hb.mpr rfl];exact q
def EV(c:Str)(dsp:DSp)(n j:Nat)(pat:List Src)(cs ds es:List D)(μ:Mu)(Q:DK):Prop:=∀k,μ k=none->dsp (sel n j pat .non cs (.cell k::ds) es) (zY μ k (.ins c [] [])) λd μ3=>d= .non/\fH μ3 (.cell k) Q
theorem KY{c:Str}{n:Nat}{cs:List D}{w:DA}:EL c dsp n j pat cs w wk ρ μ Q=w ρ μ λds μ1=>wk ρ μ1 λes μ2=>EV c dsp n j pat cs ds es μ2 Q:=rfl
theorem EW{a b c d e f:D}:aO (.tup [a,b,c,d,e,f]) none (some 2) μ Q=Q (.tup [a,b]) μ:=by
 rw[eD];simp only[show cutD [a,b,c,d,e,f] none (some 2)=[a,b] from gy _ 2,eq_iff_iff,and_iff_right_iff_imp];intro _ ⟨_,h⟩;have h3:HT.sIx 6 6 (some 2)=2:=HT.cC 6 6 2;have h2:HT.sIx 6 6 (some 2)=6:=h;rw[h3] at h2;omega
theorem EX{a b c d e f:D}:aO (.tup [a,b,c,d,e,f]) none (some 3) μ Q=Q (.tup [a,b,c]) μ:=by
 rw[eD];simp only[show cutD [a,b,c,d,e,f] none (some 3)=[a,b,c] from gy _ 3,eq_iff_iff,and_iff_right_iff_imp];intro _ ⟨_,h⟩;have h3:HT.sIx 6 6 (some 3)=3:=HT.cC 6 6 3;have h2:HT.sIx 6 6 (some 3)=6:=h;rw[h3] at h2;omega
theorem EY{a b c d e f:D}:aO (.tup [a,b,c,d,e,f]) none (some 4) μ Q=Q (.tup [a,b,c,d]) μ:=by
 rw[eD];simp only[show cutD [a,b,c,d,e,f] none (some 4)=[a,b,c,d] from gy _ 4,eq_iff_iff,and_iff_right_iff_imp];intro _ ⟨_,h⟩;have h3:HT.sIx 6 6 (some 4)=4:=HT.cC 6 6 4;have h2:HT.sIx 6 6 (some 4)=6:=h;rw[h3] at h2;omega
theorem EZ{a b c d e f:D}:aO (.tup [a,b,c,d,e,f]) none (some 5) μ Q=Q (.tup [a,b,c,d,e]) μ:=by
 rw[eD];simp only[show cutD [a,b,c,d,e,f] none (some 5)=[a,b,c,d,e] from gy _ 5,eq_iff_iff,and_iff_right_iff_imp];intro _ ⟨_,h⟩;have h3:HT.sIx 6 6 (some 5)=5:=HT.cC 6 6 5;have h2:HT.sIx 6 6 (some 5)=6:=h;rw[h3] at h2;omega
theorem E1{a b c d e f:D}:aO (.tup [a,b,c,d,e,f]) (some 1) none μ Q=Q (.tup [b,c,d,e,f]) μ:=by
 rw[eD];simp only[show cutD [a,b,c,d,e,f] (some 1) none=[b,c,d,e,f] from jk _ 1,eq_iff_iff,and_iff_right_iff_imp];intro _ ⟨h,_⟩;have h3:HT.sIx 6 0 (some 1)=1:=HT.cC 6 0 1;have h2:HT.sIx 6 0 (some 1)=0:=h;rw[h3] at h2;omega
theorem E2{a b c d e f:D}:aO (.tup [a,b,c,d,e,f]) (some 2) none μ Q=Q (.tup [c,d,e,f]) μ:=by
 rw[eD];simp only[show cutD [a,b,c,d,e,f] (some 2) none=[c,d,e,f] from jk _ 2,eq_iff_iff,and_iff_right_iff_imp];intro _ ⟨h,_⟩;have h3:HT.sIx 6 0 (some 2)=2:=HT.cC 6 0 2;have h2:HT.sIx 6 0 (some 2)=0:=h;rw[h3] at h2;omega
theorem E4{a b c d e f:D}:aO (.tup [a,b,c,d,e,f]) (some 4) none μ Q=Q (.tup [e,f]) μ:=by
 rw[eD];simp only[show cutD [a,b,c,d,e,f] (some 4) none=[e,f] from jk _ 4,eq_iff_iff,and_iff_right_iff_imp];intro _ ⟨h,_⟩;have h3:HT.sIx 6 0 (some 4)=4:=HT.cC 6 0 4;have h2:HT.sIx 6 0 (some 4)=0:=h;rw[h3] at h2;omega
theorem E5{a b c d e f:D}:aO (.tup [a,b,c,d,e,f]) (some 5) none μ Q=Q (.tup [f]) μ:=by
 rw[eD];simp only[show cutD [a,b,c,d,e,f] (some 5) none=[f] from jk _ 5,eq_iff_iff,and_iff_right_iff_imp];intro _ ⟨h,_⟩;have h3:HT.sIx 6 0 (some 5)=5:=HT.cC 6 0 5;have h2:HT.sIx 6 0 (some 5)=0:=h;rw[h3] at h2;omega
theorem E6{a b c d e f:α}{r:List α}:atI (a::b::c::d::e::f::r) 5=some f:=eV (j:=5) rfl
def Ev(w:DE)(ρ:aj)(μ:Mu)(d:D):Prop:=∀Q:DK,Q d μ->w ρ μ Q
def Evs(w:DA)(ρ:aj)(μ:Mu)(ds:List D):Prop:=∀Q:List D->Mu->Prop,Q ds μ->w ρ μ Q
def EvO(q:DR2)(d e:D)(μ:Mu)(v:D):Prop:=∀Q:DK,Q v μ->q d e μ Q
def EvB(q:DRs)(ds:List D)(μ:Mu)(v:D):Prop:=∀Q:DK,Q v μ->q ds μ Q
section
variable{w:DE}{wr:DA}{d e v:D}{ds es:List D}{i:Nat}{q:DR2}
theorem E7(h:ρ[i]? = some (some d)):Ev (zc i) ρ μ d:=λQ z=>by unfold zc;rw[h];exact z
theorem E8:Ev (dC d) ρ μ d:=λQ z=>z
theorem E9(h1:Ev wa ρ μ d)(h2:Ev wb ρ μ e)(h3:EvO q d e μ v):Ev (dOp q wa wb) ρ μ v:=λQ z=>h1 _ (h2 _ (h3 _ z))
theorem E_:Evs zj ρ μ []:=λQ z=>z
theorem Fa(h1:Ev wa ρ μ d)(h2:Evs wr ρ μ ds):Evs (za wa wr) ρ μ (d::ds):=λQ z=>h1 _ (h2 _ z)
theorem Fb(h:Evs wr ρ μ ds)(hl:ds.length<=1000):Ev (dTup wr) ρ μ (.tup ds):=λQ z=>h _ ⟨LU hl (by decide),z⟩
theorem Fc(h:Evs wr ρ μ ds)(hl:ds.length<=1000):Ev (c5 wr) ρ μ (.lst ds):=λQ z=>h _ ⟨LU hl (by decide),z⟩
theorem Fd{q:DRs}(h:Evs wr ρ μ ds)(h3:EvB q ds μ v):Ev (dCB q wr) ρ μ v:=λQ z=>h _ (h3 _ z)
theorem io{j:Int}(h:atI ds j=some v):EvO dIx (.tup ds) (.int j) μ v:=λQ z=>by rw[Et,h];exact z
theorem uz{j:Int}(h:atI ds j=some v):EvO dIx (.lst ds) (.int j) μ v:=λQ z=>by rw[Eu,h];exact z
theorem Fe(h1:ds≠[])(hl:ds.length+es.length<=1000):EvO aI (.tup ds) (.tup es) μ (.tup (ds++es)):=λQ z=>by
 rw[Er];exact⟨h1,LU hl (by decide),z⟩
theorem Ff{a b:Int}:EvO aI (.int a) (.int b) μ (.int (a+b)):=λQ z=>by rw[Ep];exact z
theorem Fg{a b:Int}:EvO dEq (.int a) (.int b) μ (.bl (decide (a=b))):=λQ z=>by rw[Ef];exact z
theorem Fh:EvB b8 [.lst ds] μ (.tup ds):=λQ z=>by rw[Ew];exact z
theorem jq{n:Nat}{m:Int}(h:Ev w ρ μ (.tup ds))(hm:m=n)(hl:n < ds.length):Ev (dSl aO w bT (bD (dC (.int m)))) ρ μ (.tup (ds.take n)):=λQ z=>h _ (by
 subst hm;show aO (.tup ds) none (some (n:Int)) μ Q;rw[eD,gy];refine⟨λ⟨_,h2⟩=>?_,z⟩;rw[HT.cC] at h2;omega)
theorem jr{n:Nat}{m:Int}(h:Ev w ρ μ (.tup ds))(hm:m=n)(h0:0 < n)(hl:n < ds.length):Ev (dSl aO w (bD (dC (.int m))) bT) ρ μ (.tup (ds.drop n)):=λQ z=>h _ (by
 subst hm;show aO (.tup ds) (some (n:Int)) none μ Q;rw[eD,jk];refine⟨λ⟨h2,_⟩=>?_,z⟩;rw[HT.cC] at h2;omega)
theorem Fi(h:Ev w ρ μ (.tup ds))(hl:1 < ds.length):Ev (dSl aO w bT (bD (dC (.int 1)))) ρ μ (.tup (ds.take 1)):=jq h rfl hl
theorem Fj(h:Ev w ρ μ (.tup ds))(hl:2 < ds.length):Ev (dSl aO w bT (bD (dC (.int 2)))) ρ μ (.tup (ds.take 2)):=jq h rfl hl
theorem Fk(h:Ev w ρ μ (.tup ds))(hl:3 < ds.length):Ev (dSl aO w bT (bD (dC (.int 3)))) ρ μ (.tup (ds.take 3)):=jq h rfl hl
theorem Fl(h:Ev w ρ μ (.tup ds))(hl:4 < ds.length):Ev (dSl aO w bT (bD (dC (.int 4)))) ρ μ (.tup (ds.take 4)):=jq h rfl hl
theorem Fm(h:Ev w ρ μ (.tup ds))(hl:5 < ds.length):Ev (dSl aO w bT (bD (dC (.int 5)))) ρ μ (.tup (ds.take 5)):=jq h rfl hl
theorem Fn(h:Ev w ρ μ (.tup ds))(hl:1 < ds.length):Ev (dSl aO w (bD (dC (.int 1))) bT) ρ μ (.tup (ds.drop 1)):=jr h rfl (by decide) hl
theorem Fo(h:Ev w ρ μ (.tup ds))(hl:2 < ds.length):Ev (dSl aO w (bD (dC (.int 2))) bT) ρ μ (.tup (ds.drop 2)):=jr h rfl (by decide) hl
theorem Fp(h:Ev w ρ μ (.tup ds))(hl:3 < ds.length):Ev (dSl aO w (bD (dC (.int 3))) bT) ρ μ (.tup (ds.drop 3)):=jr h rfl (by decide) hl
theorem Fq(h:Ev w ρ μ (.tup ds))(hl:4 < ds.length):Ev (dSl aO w (bD (dC (.int 4))) bT) ρ μ (.tup (ds.drop 4)):=jr h rfl (by decide) hl
theorem Fr(h:Ev w ρ μ (.tup ds))(hl:5 < ds.length):Ev (dSl aO w (bD (dC (.int 5))) bT) ρ μ (.tup (ds.drop 5)):=jr h rfl (by decide) hl
end
def oo:Value->Option Str
 | .str x _=>some x
 |_=>none
theorem Fs{u:Value}(h:oo u=some x):RelV (.str x) u:=by
 cases u<;>simp[oo] at h
 subst h;exact⟨_,rfl⟩
instance decKey(k:Key)(ks:List Key):Decidable (k∈ks):=@List.instDecidableMemOfLawfulBEq Key instBEqOfDecidableEq inferInstance k ks
def eE:D->Option Key
 | .int i=>some (.inl i)
 | .str x=>some (.inr x)
 |_=>none
def bM:List Key->List D->Key->Option D
 |k::ks,v::vs,q=>if k=q then some v else bM ks vs q
 |_,_,_=>none
def gE(ks:List Key)(k:Key):List Key:=if k∈ks then ks else ks++[k]
def ip(ks:List Key)(vs:List D)(k:Key)(v:D):List D:=if k∈ks then List.zipWith (λk' v'=>if k'=k then v else v') ks vs else vs++[v]
def fb(c:Option Ct)(R:List Key->List D->Prop):Prop:=match c with
 |some (.dct ks vs)=>R ks vs
 |_=>False
def gF(μ:Mu)(d:D)(R:List Key->List D->Prop):Prop:=match d with
 | .cell k=>fb (μ k) R
 | .dct ks vs=>R ks vs
 |_=>False
def kY(c:Option Ct)(R:List Key->List D->Prop):Prop:=match c with
 |some (.dct ks vs)=>R ks vs
 |some (.fdct _ ks vs)=>R ks vs
 |_=>False
def gG(μ:Mu)(d:D)(R:List Key->List D->Prop):Prop:=match d with
 | .cell k=>kY (μ k) R
 | .dct ks vs=>R ks vs
 |_=>False
theorem fe{ks:List Key}{vs:List D}{R:List Key->List D->Prop}:kY (some (.dct ks vs)) R=R ks vs:=rfl
theorem fh{k:Nat}{R:List Key->List D->Prop}:gG μ (.cell k) R=kY (μ k) R:=rfl
theorem cW.kr{kvs:List (Key×V)}{k:Key}(e:Rd H a (.dK kvs)):cW H a (kV k) (bH kvs k):= .inl ⟨kvs,k,e,rfl,rfl⟩
theorem cJ{ks:List Key}{vs:List D}{R:List Key->List D->Prop}:fb (some (.dct ks vs)) R=R ks vs:=rfl
theorem gH{k:Nat}{R:List Key->List D->Prop}:gF μ (.cell k) R=fb (μ k) R:=rfl
theorem b9:eE (.str x)=some (.inr x):=rfl
def js:DE:=λ_ μ Q=>∀k,μ k=none->Q (.cell k) (zY μ k (.dct [] []))
def iq(wo wi:DE):DE:=λρ μ Q=>wo ρ μ λd μ1=>wi ρ μ1 λe μ2=>gG μ2 d λks vs=>ay (eE e) λk=>ay (bM ks vs k) λv=>Q v μ2
def dA(wo wi wv:DE):DS:=λD' ρ μ=>wv ρ μ λv μ1=>wo ρ μ1 λd μ2=>wi ρ μ2 λe μ3=>ay (match d with | .cell c=>some c|_=>none) λc=>fb (μ3 c) λks vs=>ay (eE e) λk=>ks.length<=1000/\D'.nx ρ (zY μ3 c (.dct (gE ks k) (ip ks vs k v)))
def eF:DRs:=λds μ Q=>match ds with
 | [d]=>gF μ d λks _=>Q (.int ks.length) μ
 |_=>False
section
variable{W:Wd}
theorem kZ{k:Key}:∀{ks:List Key} {vs:List D} {xs:List V},ks.length=xs.length->zG K W vs xs->(∀v,bM ks vs k=some v->∃y,bH (ks.zip xs) k=some y/\Rep K W v y)/\(bM ks vs k=none->bH (ks.zip xs) k=none)
 | [],vs,xs,_,_=>⟨λv h=>by cases vs<;>simp[bM] at h,λ_=>rfl⟩
 |q::ks,[],xs,h,r=>by rw[r.nil'] at h;simp at h
 |q::ks,d::vs,xs,h,r=>by
  obtain⟨x,t,rfl,q1,q2⟩:=r.uncons;have ih:=kZ (k:=k) (ks:=ks) (vs:=vs) (xs:=t) (by simpa using h) q2;by_cases e:q=k
  .have hv:bH ((q::ks).zip (x::t)) k=some x:=by rw[LK];exact j9 (p:=(q,x)) e
   rw[hv];exact⟨λv hl=>by rw[bM,if_pos e] at hl;cases hl;exact⟨x,rfl,q1⟩,λhl=>by rw[bM,if_pos e] at hl;cases hl⟩
  .have hv:bH ((q::ks).zip (x::t)) k=bH (ks.zip t) k:=by rw[LK];exact j_ (p:=(q,x)) e
   rw[hv,bM,if_neg e];exact ih
theorem uA{k:Key}:∀{ks:List Key} {vs:List D},ks.length=vs.length->(bM ks vs k).isSome=decide (k∈ks)
 | [],vs,_=>by simp[bM]
 |q::ks,[],h=>by simp at h
 |q::ks,d::vs,h=>by
  have ih:=uA (k:=k) (ks:=ks) (vs:=vs) (by simpa using h);by_cases e:q=k
  .simp[bM,e]
  .have e':¬ k=q:=λz=>e z.symm
   simp[bM,e,e',ih]
theorem uB{k:Key}{ks:List Key}{vs:List D}(h:ks.length=xs.length)(r:zG K W vs xs):(bH (ks.zip xs) k).isSome=decide (k∈ks):=by
 have hl:ks.length=vs.length:=by rw[h,r.length]
 rw[<- uA hl];obtain⟨a,b⟩:=kZ (k:=k) h r;cases e:bM ks vs k with
 |none=>rw[b e];rfl
 |some v=>obtain⟨y,ey,_⟩:=a v e;rw[ey];rfl
theorem uC{k:Key}:∀{ks:List Key} {xs:List V},ks.length=xs.length->((ks.zip xs).any λkv=>decide (kv.1=k))=decide (k∈ks)
 | [],_,_=>by simp
 |q::ks,[],h=>by simp at h
 |q::ks,x::xs,h=>by
  have ih:=uC (k:=k) (ks:=ks) (xs:=xs) (by simpa using h);rw[LK,NC,ih];by_cases e:q=k
  .simp[e]
  .have e':¬ k=q:=λz=>e z.symm
   simp[e,e']
theorem Ft{k:Key}{v:D}{ks:List Key}{vs:List D}(h:ks.length=xs.length)(r:zG K W vs xs)(q:Rep K W v y):∃xs',putK (ks.zip xs) k y=(gE ks k).zip xs'/\(gE ks k).length=xs'.length/\zG K W (ip ks vs k v) xs':=by
 unfold putK gE ip;rw[uC h];by_cases m:k∈ks
 .rw[if_pos (decide_eq_true m),if_pos m,if_pos m];clear m;induction ks generalizing vs xs with
  |nil=>exact⟨[],rfl,rfl,by simp[zG.nil]⟩
  |cons a ks ih =>
   cases xs with
   |nil=>simp at h
   |cons x xs =>
    cases vs with
    |nil=>rw[r.nil'] at h;simp at h
    |cons d vs =>
     obtain⟨x',t,e,q1,q2⟩:=r.uncons;cases e;obtain⟨xs',e1,e2,e3⟩:=ih (by simpa using h) q2;refine⟨(if a=k then y else x)::xs',?_,by simp[e2],?_⟩
     .rw[LK,LV,e1];by_cases e:a=k
      .simp[e]
      .simp[e]
     .rw[List.zipWith_cons_cons];refine .cons ?_ e3;by_cases e:a=k
      .simp only[if_pos e];exact q
      .simp only[if_neg e];exact q1
 .rw[if_neg (by simpa using m),if_neg m,if_neg m];refine⟨xs++[y],?_,by simp[h],r.append (.cons q .nil)⟩;rw[List.zip_append h];rfl
theorem uD{d:D}{x:V}{R:List Key->List D->Prop}(r:Rel K fl W μ H)(q:Rep K W d x)(h:gF μ d R):∃a ks vs xs,x= .ref a/\H a=some (.dK (ks.zip xs))/\ks.length=xs.length/\zG K W vs xs/\R ks vs:=by
 unfold gF at h;split at h
 .rename_i k;obtain⟨a,rfl,hb⟩:=q.cell';unfold fb at h;split at h
  .rename_i ks vs hk;obtain⟨a',e1,e2,xs,e3,l,z⟩:=r.cel k _ hk;rw[hb] at e1;cases e1;exact⟨a,ks,vs,xs,rfl,e3,l,z,h⟩
  .exact h.elim
 .unfold Rep at q;obtain⟨a,xs,rfl,e,l,z⟩:=q;exact⟨a,_,_,xs,rfl,r.sub _ _ e,l,z,h⟩
 .exact h.elim
theorem oq{d:D}{x:V}{R:List Key->List D->Prop}(r:Rel K fl W μ H)(q:Rep K W d x)(h:gG μ d R):∃a ks vs xs,x= .ref a/\Rd H a (.dK (ks.zip xs))/\ks.length=xs.length/\zG K W vs xs/\R ks vs:=by
 unfold gG at h;split at h
 .rename_i k;obtain⟨a,rfl,hb⟩:=q.cell';unfold kY at h;split at h
  .rename_i ks vs hk;obtain⟨a',e1,e2,xs,e3,l,z⟩:=r.cel k _ hk;rw[hb] at e1;cases e1;exact⟨a,ks,vs,xs,rfl,.inl e3,l,z,h⟩
  .rename_i ob ks vs hk;obtain⟨a',e1,e2,xs,e3,l,z⟩:=r.cel k _ hk;rw[hb] at e1;cases e1;exact⟨a,ks,vs,xs,rfl,.inr ⟨ob,e3⟩,l,z,h⟩
  .exact h.elim
 .unfold Rep at q;obtain⟨a,xs,rfl,e,l,z⟩:=q;exact⟨a,_,_,xs,rfl,.inl (r.sub _ _ e),l,z,h⟩
 .exact h.elim
theorem jt{e:D}{k:Key}(q:Rep K W e y)(h:eE e=some k):y=kV k:=by
 unfold eE at h;split at h<;>cases h
 .rw[q.i'];rfl
 .rw[q.s'];rfl
theorem fi{o:Option α}{R:α->Prop}(h:ay o R):∃a,o=some a/\R a:=by
 cases o with
 |none=>exact h.elim
 |some a=>exact⟨a,rfl,h⟩
instance:ac K fl nA js:=⟨λ{W ρ μ σ H Q Q'} r e h k p hp=>by
 obtain⟨c,W',hc,le,r',eb⟩:=r.newC (o:= .dK []) (c:= .dct [] []) hp ⟨[],rfl,rfl,.nil⟩;exact k W' (.cell c) _ _ _ le r' (by unfold Rep;exact⟨p,rfl,eb⟩) (h c hc)⟩
instance{tb:TE}[a:ac K fl ta wa][b:ac K fl tb wb]:ac K fl (nv ta tb) (iq wa wb):=⟨λ{W ρ μ σ H Q Q'} r e h k=>a.run r e h λW1 d μ1 x H1 le1 r1 q1 h1=>b.run r1 (e.mono le1) h1 λW2 d2 μ2 y H2 le2 r2 q2 h2=>by
 obtain⟨p,ks,vs,xs,rfl,ea,l,z,h3⟩:=oq r2 (q1.mono le2) h2;obtain⟨kk,ek,h3⟩:=fi h3;obtain⟨v,ev,h3⟩:=fi h3;obtain⟨y',ey,qy⟩:=(kZ (k:=kk) l z).1 v ev;rw[jt q2 ek];exact⟨p,y',rfl,ey▸cW.kr ea,k W2 v μ2 y' H2 (le1.trans le2) r2 qy h3⟩⟩
instance{tb:TE}[a:ac K fl ta wa][b:ac K fl tb wb][c:ac K fl tv wv]:aP K fl (ny ta tb tv) (dA wa wb wv):=⟨λ{W ρ μ σ H D' D} r e h k=>c.run r e h λW1 v μ1 x H1 le1 r1 q1 h1=>a.run r1 (e.mono le1) h1 λW2 d2 μ2 y H2 le2 r2 q2 h2=>b.run r2 (e.mono (le1.trans le2)) h2 λW3 d3 μ3 z3 H3 le3 r3 q3 h3=>by
 have hz:(1001:Nat)<=sizeLine:=by decide
 obtain⟨cc,ec,h4⟩:=fi h3;have ed:d2= .cell cc:=by
  cases d2<;>simp at ec
  subst ec;rfl
 subst ed;obtain⟨p,rfl,hb⟩:=(q2.mono le3).cell';unfold fb at h4;split at h4
 .rename_i ks vs hk;obtain⟨a',e1,e2,xs,e3,l,z⟩:=r3.cel cc _ hk;rw[hb] at e1;cases e1;obtain⟨kk,ek,hl,h5⟩:=fi h4;rw[jt q3 ek];obtain⟨xs',p1,p2,p3⟩:=Ft (k:=kk) l z (q1.mono (le2.trans le3));refine⟨p,_,rfl,iU.k e3 (by rw[Ph,<- l,Qp];omega),?_⟩;rw[p1];exact k.nx W3 ρ _ σ _ (le1.trans (le2.trans le3)) (r3.setC (c':= .dct (gE ks kk) (ip ks vs kk v)) hk hb ⟨xs',rfl,p2,p3⟩) (e.mono (le1.trans (le2.trans le3))) h5
 .exact h4.elim⟩
end
section
variable{o i e value:Expr}{td ty:TE}
theorem uE:WE X (.Dict [] [] pos) nA:=⟨B9⟩
theorem k6(hu:X.A.units+1 < cLine)(ho:WE X o td)(hi:WE X i ty)(hs:nu i:=by exact λ_ _=>rfl):WE X (.Subscript o i pos) (nv td ty):=⟨B0 hu ho.out hi.out hs⟩
theorem ir(hu:X.A.units+1 < cLine)(ho:WE X o td)(hi:WE X i ty)(hv:WE X value tv)(hs:swapsWith value (some (.Subscript o i pos')) pos.line X.env=pure false:=by rfl):WS X (.Assign [.Subscript o i pos'] value pos) (ny td ty tv):=⟨B1 hu ho.out hi.out hv.out hs⟩
def uF:R2:=λy x H Q=>∃a o,x= .ref a/\cW H a y o/\Q (.bl o.isSome) H
def uG:R2:=λy x H Q=>∃a o,x= .ref a/\cW H a y o/\Q (.bl (!o.isSome)) H
theorem k8(hu:X.A.units+1 < cLine):OpR X (compareOp .In) uF:=by
 intro pins s σ H x y v u Q I rx ry h;obtain⟨a,o,rfl,g,q⟩:=h;cases ry;exact BS hu I g rx λs3 I3=>⟨.bl o.isSome,H,I3,rfl,q⟩
theorem ju(hu:X.A.units+1 < cLine):OpR X (compareOp .NotIn) uG:=by
 intro pins s σ H x y v u Q I rx ry h;obtain⟨a,o,rfl,g,q⟩:=h;cases ry;exact BU hu I g rx λs3 I3=>⟨.bl (!o.isSome),H,I3,rfl,q⟩
def uH:List V->Hp->VK->Prop:=λxs H Q=>∃a kvs,xs=[V.ref a]/\H a=some (.dK kvs)/\Q (.int kvs.length) H
theorem gI:ag X (.builtin "len") uH:=Cg
end
def c9(neg:Bool):DR2:=λe d μ Q=>gG μ d λks vs=>ay (eE e) λk=>Q (.bl (neg ^^ decide (k∈ks))) μ
theorem fS{e d:D}:c9 neg e d μ Q=gG μ d λks vs=>ay (eE e) λk=>Q (.bl (neg ^^ decide (k∈ks))) μ:=rfl
theorem ot{wi:DE}:iq wo wi ρ μ Q=wo ρ μ λd μ1=>wi ρ μ1 λe μ2=>gG μ2 d λks vs=>ay (eE e) λk=>ay (bM ks vs k) λv=>Q v μ2:=rfl
theorem iu{d:D}:eF [d] μ Q=gF μ d λks _=>Q (.int ks.length) μ:=rfl
section
instance:a8 K fl uF (c9 false):=⟨λ{W μ H d e x y Q Q'} r q1 q2 h k=>by
 obtain⟨p,ks,vs,xs,rfl,ea,l,z,h3⟩:=oq r q2 h;obtain⟨kk,ek,h3⟩:=fi h3;rw[jt q1 ek];refine⟨p,_,rfl,cW.kr ea,?_⟩;rw[uB l z];exact k W _ μ _ H (.refl _) r .b (by simpa using h3)⟩
instance:a8 K fl uG (c9 true):=⟨λ{W μ H d e x y Q Q'} r q1 q2 h k=>by
 obtain⟨p,ks,vs,xs,rfl,ea,l,z,h3⟩:=oq r q2 h;obtain⟨kk,ek,h3⟩:=fi h3;rw[jt q1 ek];refine⟨p,_,rfl,cW.kr ea,?_⟩;rw[uB l z];exact k W _ μ _ H (.refl _) r .b (by simpa using h3)⟩
instance:bu K fl uH eF:=⟨λ{W μ H ds xs Q Q'} r z h k=>by
 unfold eF at h;split at h
 .obtain⟨y,rfl,qy⟩:=z.one;obtain⟨p,ks,vs,xs,rfl,ea,l,z,h3⟩:=uD r qy h;refine⟨p,_,rfl,ea,?_⟩;rw[Ph,<- l,Qp];exact k W _ μ _ H (.refl _) r .i h3
 .exact h.elim⟩
end
section
variable{s:Shared}
theorem uI{ss:List Str}{Q:Value->Shared->Prop}
  (hc:∀R:List Value->Shared->Prop,(∀(h':Heap) (tk:Nat) (vs:List Value),(∀b o,s.heap.get? b=some o->h'.get? b=some o)->StrsAre vs ss->R vs {s with heap:=h',toks:=tk})->wpAny (model prog w) A.in1 (collect v) R E s)(h64:ss.length < 64)
  (h:∀(h1 h2:Heap) (tk:Nat) (out:Array Value) (ss':List Str) (e:Nat),(∀b o,s.heap.get? b=some o->h1.get? b=some o)->(∀b o,h1.get? b=some o->h2.get? b=some o)->h2.get? h1.objs.size=some (seqObj "list" out e)->StrsAre out.toList ss'->ss'.Perm ss->sortedS ss'=true->Q (.ref h1.objs.size) {s with heap:=h2,toks:=tk}) :
  wpAny (model prog w) A (call (.builtin "sorted") [v]) Q E s:=by
 refine Calls.call_function_entry kind_sorted SA SC (SD _) ?_;unfold Builtin.«sorted»;refine L0 (m:=checkCount "sorted" 1 1 _) (L6 ?_);refine L0 (hc _ λh' tk vs hk hS=>?_);have hl:vs.length=ss.length:=by
  clear h hc h64;induction hS with
  |nil=>rfl
  |cons _ _ _ ih=>simp[ih]
 refine L0 (OV ?_ (by rw[hl];exact LU (Nf h64) (by decide)));have hoL:(h'.push (seqObj "list" vs.toArray 0)).get? h'.objs.size=some (seqObj "list" vs.toArray 0):=LG _ rfl;refine L0 (M6 (NF Rv ⟨_,hoL,rfl⟩ R9 (list_sort_treeK strKind_oneLt hoL hS.keysOf (λv₁ v₂ rest e=>keyKind_strs (by rw[<- e];exact hS)) (by rw[hl];exact h64) λst' a1 a2=>⟨_,rfl,?_⟩) (Rw _)));obtain⟨ss',h1,h2,h3⟩:=sorted_out_str hS a1 a2;obtain⟨e,he⟩:=sortedHeap_at (out:=(arrOf st').map (·.2)) hoL;refine L6 ⟨_,rfl,h h' _ tk _ ss' e hk (λb o q'=>?_) he h1 h2 h3⟩;have hlt:=Ls q';rw[sortedHeap_old (LI hlt) (by rw[Rx];exact MY hlt),NN _ _ _ (LI hlt)];exact q'
end
section
variable(K:Frag)
def uJ:List V->Hp->VK->Prop:=λxs H Q=>∃p ns,xs=[.ref p]/\SqT K H p (ns.map V.str)/\ns.length < 64/\∀ns' l,Mq ns' ns->sortedS ns'=true->H l=none->Q (.ref l) (upd H l (.lst (ns'.map V.str)))
def uK:List V->Hp->VK->Prop:=λxs H Q=>∃p kvs ns,xs=[.ref p]/\H p=some (.dK kvs)/\kvs.map (·.1)=ns.map Nv/\ns.length < 64/\∀ns' l,Mq ns' ns->sortedS ns'=true->H l=none->Q (.ref l) (upd H l (.lst (ns'.map V.str)))
theorem uL{s:Shared}{h2:Heap}{tk:Nat}{ss':List Str}{out:Array Value}{e:Nat}{Q:VK}(I:Inv X pins σ H s)(hz:ns.length < 64)(hk:∀b o,s.heap.get? b=some o->h2.get? b=some o)(he:h2.get? s.heap.objs.size=some (seqObj "list" out e))(g1:StrsAre out.toList ss')(g2:ss'.Perm ns)(g3:sortedS ss'=true)(q:H s.heap.objs.size=none->Q (.ref s.heap.objs.size) (upd H s.heap.objs.size (.lst (ss'.map V.str)))):EP X pins σ Q (.ref s.heap.objs.size) {s with heap:=h2,toks:=tk}:=by
 have hf:H s.heap.objs.size=none:=I.hok.fresh (Lp _);refine⟨.ref s.heap.objs.size,_,I.laid (a:=s.heap.objs.size) (o:= .lst (ss'.map V.str)) (t':=tk) hk (Lp _) ?_,rfl,q hf⟩;refine⟨by rw[L1,g2.length_eq];exact LU (Nf hz) (by decide),out.toList,e,oa g1,?_⟩;rw[he]
theorem k9:∀{kvs:List (Key×V)} {vs:List (Key×Value)} {ns:List Str} {acc:Array Value},ItemsOf (λi v=>∃k x,vs[i]? = some (k,x)/\(ce P w).is k v=true) acc vs.length->KV kvs vs->kvs.map (·.1)=ns.map Nv->StrsAre acc.toList ns:=by
 intro kvs vs ns acc hacc rel hn;have hk:vs.map (·.1)=ns.map Nv:=by
  rw[<- hn];clear hn hacc;induction rel with
  |nil=>rfl
  |cons a _ ih=>simp only[LV,ih,a.1]
 have hl:vs.length=ns.length:=by
  have:=congrArg Nl hk;simpa using this
 have hat:∀(i:Nat) (v:Value),acc.toList[i]? = some v->∃y t,ns[i]? = some y/\v= .str y t:=λi v hv=>by
  obtain⟨k,x,hx,hi⟩:=hacc.2 i v (by rw[<- On];exact hv);have h1:(vs.map (·.1))[i]? = some k:=by rw[Ln,hx];rfl
  rw[hk,Ln] at h1;obtain⟨y,hy,rfl⟩:=LM.mp h1;have:fY (.inr y) v=true:=hi;obtain⟨t,rfl⟩:∃t,v= .str y t:=by
   rcases dG this with⟨i,t,e,_⟩|⟨x',t,e,rfl⟩
   .cases e
   .cases e;exact⟨t,rfl⟩
  exact⟨y,t,hy,rfl⟩
 have hsz:acc.toList.length=ns.length:=by rw[LQ,hacc.1,hl]
 clear hacc rel hn hk hl;generalize acc.toList=l at hat hsz
 induction l generalizing ns with
 |nil=>cases ns with
  |nil=>exact .nil
  |cons y r=>simp at hsz
 |cons v l ih=>cases ns with
  |nil=>simp at hsz
  |cons y r =>
   obtain⟨y',t,e1,rfl⟩:=hat 0 v rfl;cases e1;exact .cons y t (ih (λi v hv=>hat (i+1) v (by simpa using hv)) (by simpa using hsz))
theorem Fu(h:X.K=K:=by rfl):ag X (.builtin "sorted") (uJ K):=by
 subst h;intro pins s σ H xs us Q I r h;obtain⟨p,ns,rfl,hl,hz,q⟩:=h;obtain⟨u,rfl,rx⟩:=vals1 r;cases rx;obtain⟨its,r',⟨o,ho,hcl,n,hd⟩,hz'⟩:=I.tuple hl;refine uI (ss:=ns) (λR hR=>?_) hz λh1 h2 tk out ss' e k1 k2 he g1 g2 g3=>?_
 .refine wpAny_collect_seq p (.inr rfl) ho hcl hd (λh' hk=>?_) (by rw[Lv,<- r'.length,L1];exact LU (Nf hz) (by decide));have:=hR h' s.toks its hk (og r');simpa using this
 .exact uL (I.kept (t':=tk) k1) hz k2 he g1 g2 g3 (q ss' h1.objs.size g2 g3)
theorem Fv(hc:X.calm=true:=by rfl):ag X (.builtin "sorted") uK:=by
 intro pins s σ H xs us Q I r h;obtain⟨p,kvs,ns,rfl,hp,hn,hz,q⟩:=h;obtain⟨u,rfl,rx⟩:=vals1 r;cases rx;obtain⟨z,hd,vs,rel,dd⟩:=gg I.hok (.inl hp);obtain⟨ep,dd⟩:=dd.dictAt;have hlen:vs.length=ns.length:=by
  have e1:=Paired.length rel;have e2:=congrArg Nl hn;simp only[L1] at e2;omega
 refine uI (ss:=ns) (λR hR=>?_) hz λh1 h2 tk out ss' e k1 k2 he g1 g2 g3=>?_
 .refine PySem.W.kdu_collect (PySem.W.kdl_dict hd) (by first|exact I.ok.hd hc|exact(I.ok.hd hc)) dd (by rw[hlen];exact LU (Nf hz) (by decide)) λh' tk acc hk hacc=>?_
  refine hR h' tk acc.toList hk ?_;exact k9 hacc rel hn
 .exact uL (I.kept (t':=tk) k1) hz k2 he g1 g2 g3 (q ss' h1.objs.size g2 g3)
def k_:List V->Hp->VK->Prop:=λxs H Q=>(kQ K xs H Q\/uJ K xs H Q)\/uK xs H Q
theorem gJ(h:X.K=K:=by rfl)(hc:X.calm=true:=by rfl):ag X (.builtin "sorted") (k_ K):=((EH K h).or (Fu K h)).or (Fv hc)
end
def dB:DRs:=λds μ Q=>kR ds μ Q\/match ds with
 | [.tup es]=>∃ns,es=ns.map D.str/\ns.length < 64/\∀ns',Mq ns' ns->sortedS ns'=true->Q (.lst (ns'.map D.str)) μ
 | [d]=>gF μ d λks _=>∃ns,ks=ns.map Nv/\ns.length < 64/\∀ns',Mq ns' ns->sortedS ns'=true->Q (.lst (ns'.map D.str)) μ
 |_=>False
instance:bu K fl (k_ K) dB:=⟨λ{W μ H ds xs Q Q'} r z h k=>by
 have fin:∀ns':List Str,Q (.lst (ns'.map D.str)) μ->∀l,H l=none->Q' (.ref l) (upd H l (.lst (ns'.map V.str))):=λns' hq l hl=>by
  obtain⟨r2,le⟩:=r.newF (o:= .lst (ns'.map V.str)) hl;exact k _ _ _ _ _ le r2 (.lst zJ (zG.of_strs ns')) hq
 rcases h with h|h
 .exact .inl (.inl (bu.run (K:=K) (r:=kQ K) (q:=kR) r z h k))
 .split at h
  .obtain⟨ns,rfl,hz,h⟩:=h;obtain⟨y,rfl,qy⟩:=z.one;obtain⟨p,xs,rfl,s1,z1⟩:=qy.tup';rw[z1.strs] at s1;exact .inl (.inr ⟨p,ns,rfl,s1.sm r.sub,hz,λns' l g1 g2 hl=>fin ns' (h ns' g1 g2) l hl⟩)
  .obtain⟨y,rfl,qy⟩:=z.one;obtain⟨p,ks,vs,xs,rfl,ea,l,z1,h3⟩:=uD r qy h;obtain⟨ns,rfl,hz,h⟩:=h3;refine .inr ⟨p,_,ns,rfl,ea,?_,hz,λns' l g1 g2 hl=>fin ns' (h ns' g1 g2) l hl⟩;rw[List.map_fst_zip];omega
  .exact h.elim⟩
theorem uM(hz:ns.length < 64)(h:∀ns',Mq ns' ns->sortedS ns'=true->Q (.lst (ns'.map D.str)) μ):dB [.tup (ns.map D.str)] μ Q:= .inr ⟨ns,rfl,hz,h⟩
theorem uN{k:Nat}{vs:List D}(hk:μ k=some (.dct (ns.map Nv) vs))(hz:ns.length < 64)(h:∀ns',Mq ns' ns->sortedS ns'=true->Q (.lst (ns'.map D.str)) μ):dB [.cell k] μ Q:= .inr (by
 show gF μ (.cell k) _;rw[gH,hk,cJ];exact⟨ns,rfl,hz,h⟩)
section
variable{u u':HO}
end
section
variable{s:Shared}{u u':HO}
end
section
variable{tl:TE}{w:DE}
end
section
variable{s:Shared}
end
section
variable{e ke:Expr}{lo hi:Option Expr}{tl th tk:TO}
end
section
variable{k:Nat}(K:Frag)
end
theorem Fw{g:DG}{Fin:List D->Mu->Prop}(xs:List α)(f:α->D)(hl:xs.length<=1000)(step:∀x∈xs,∀Q:DK,Q (.bl true) μ->g (f x) ρb μ λρ2 μ2=>we ρ2 μ2 Q)(fin:∀bs:List Bool,bs.all id=true->Fin (bs.map D.bl) μ)(hP:Pm μ):b7 g cP we ρb Pm Fin (xs.map f) [] μ:=by
 have hz:(1000:Nat)<=sizeLine:=by decide
 refine jo (λi ys μ'=>μ'=μ/\ys=(LB i true).map D.bl) ⟨rfl,rfl⟩ ?_ ?_ (λi ys μ' h=>h.1▸hP)
 .rintro i d ys μ' hd ⟨rfl,rfl⟩;rw[Ln] at hd;cases hx:xs[i]? with
  |none=>rw[hx] at hd;cases hd
  |some x =>
   rw[hx] at hd;cases hd;have hi:=(LD.mp hx).1;refine⟨by rw[L1,Ol];omega,λN hN=>step x (Lu hx) (λv μ4=>N _ μ4) (hN _ _ ⟨rfl,?_⟩)⟩;rw[List.replicate_succ',Lr];rfl
 .rintro ys μ' ⟨rfl,rfl⟩;exact fin _ (by simp)
section
variable{k:Nat}{ds:List Value}{dvs:List V}{E:XK}
theorem Fx{s:Shared}{Q:VK}(F:aa X.prog X.w X.K X.mg X.base CX k f fd ps sp)(hr:bh (k+1) X.A)(hb:Binds X.K fd ps ds)(hd:Vals dvs ds)(hx:cV CX X E)
  (I:Inv X pins σ H s)(r:Vals vs us)(h:sp (vs++dvs) H Q E):wpAny (model X.prog X.w) X.A.in1 (call (.ref f) us) (EP X pins σ Q) X.xe s:=by
 have r2:Vals (vs++dvs) (us++ds):=r.append hd;have hl:(us++ds).length=ps.length:=by rw[<- r2.length];exact F.len _ _ _ _ h
 refine Nc (Nj (F.run X.A.in1 X.stack s H ⟨us,[]⟩ (us++ds) (vs++dvs) Q E hr.in1 I.env0.in1 (hb s us I.kIn hl) r2 h) λr s' hq=>?_);cases r with
 |error e=>exact hx pins σ H s e s' I hq
 |ok fl =>
  cases fl with
  |ret u=>exact I.after hq
  |next=>exact False.elim hq
  |brk=>exact False.elim hq
  |cont=>exact False.elim hq
end
structure ou(P:Program)(w:World)(K:Frag)(mg:Str->Option Value)(base:Heap)(CX:CXT)(c:Str)(k:Nat)(ps:List Str)(sp:Sp):Prop where
 ex:∃C f fd,clsOf K c=some C/\aa P w K mg base CX k f fd ps sp/\Binds K fd ps []/\findIn K (.ref C) "__len__"=some (some (.ref f))/\isFn K (.ref f)=true
def uO(K:Frag)(c:Str)(sp:Sp)(E:XK):List V->Hp->VK->Prop:=λxs H Q=>∃C a dx fs,clsOf K c=some C/\xs=[.ref a]/\H a=some (.ins C dx fs)/\sp [.ref a] H (λv H'=>∃n:Int,v= .int n/\0<=n/\n < 2^63/\Q (.int n) H') E
theorem Fy(K:Frag){c:Str}{k:Nat}{E:XK}(h:ou X.prog X.w X.K X.mg X.base CX c j ps sp)(hr:bh k X.A)(hK:X.K=K:=by rfl)(hj:j+1<=k:=by decide)(hx:cV CX X E:=by exact hJ):ag X (.builtin "len") (uO K c sp E):=by
 subst hK;obtain⟨C,f,fd,hC,F,b,hs,hf⟩:=h.ex;intro pins s σ H xs us Q I r q;obtain⟨C',a,dx,fs,hC',rfl,ea,q⟩:=q;rw[hC] at hC';cases hC';obtain⟨u,rfl,ru⟩:=vals1 r;cases ru;obtain⟨mA,O,_,_,_,_⟩:=iP I.hok ea;obtain⟨od,ia,_⟩:=O.look;have call:=Fx (us:=[.ref a]) (vs:=[.ref a]) (ds:=[]) (dvs:=[]) F (hr.mono hj) b .nil hx I (.cons rfl .nil) q;refine Calls.call_function_entry kind_len plain_len entry_len (args_len1 _) ?_;unfold Builtin.«len»;refine L0 (m:=oneArg "len" _) (L6 ?_);refine L0 (m:=callSpecial? (.ref a) (L5 "__len__")) (PySem.W.special_fn I.kIn ia hs (beq_iff_eq.mp hf) (Ma call (λr s' hr=>?_) λ_ _ y=>y));obtain⟨v,H',I',rv,n,rfl,h0,h1,hq⟩:=hr;obtain⟨t,rfl⟩:=rv;refine L0 (M6 (L6 ?_));refine L0 (wpAny_letGo ?_);show wpAny _ _ (if n < 0 then _ else _) _ _ _;rw[if_neg (by omega)];show wpAny _ _ (if n ≥ 2^63 then _ else _) _ _ _;rw[if_neg (by omega)];exact L0 (wpAny_mkInt (L6 ⟨_,rfl,⟨.int n,H',I'.tok _,⟨_,rfl⟩,hq⟩⟩))
def lh(c:Str)(dsp:DSp):DRs:=λds μ Q=>match ds with
 | [d]=>(e_ μ d λc' _ _=>c'=c)/\dsp [d] μ λv μ'=>∃n:Int,v= .int n/\0<=n/\n < 2^63/\Q (.int n) μ'
 |_=>False
instance{c:Str}{E:XK}:bu K fl (uO K c (lift K dsp) E) (lh c dsp):=⟨λ{W μ H ds xs Q Q'} r z h k=>by
 unfold lh at h;split at h
 .rename_i d;obtain⟨h1,h2⟩:=h;obtain⟨y,rfl,qy⟩:=z.one;obtain⟨c2,C,a,dx,ns,vs,xs,hC,rfl,ea,l,z1,rfl⟩:=kS r qy h1;refine⟨C,a,dx,_,hC,rfl,ea,fl,W,μ,[d],_,r,.cons qy .nil,h2,λW2 d2 μ2 x2 H2 le2 r2 q2 hh=>?_⟩;obtain⟨n,rfl,h0,h1',hq⟩:=hh;exact⟨n,q2.i',h0,h1',k W2 _ μ2 _ H2 le2 r2 .i hq⟩
 .exact h.elim⟩
section
variable{s:Shared}
theorem uP{it l:Addr}{its:Array Value}(hne:l≠it):∀(n i:Nat) (s:Shared) (Q:List Value->Shared->Prop),s.heap.IsListIter it l i->s.heap.IsList l its->i+n<=its.size ->
  (∀h',h'.IsListIter it l (i+n)->NS it s.heap h'->Q ((its.toList.drop i).take n) {s with heap:=h'})->wpAny (model prog w) A (draw (.ref it) n) Q E s
 |0,i,s,Q,hi,_,_,hq=>by
  show wpAny _ _ (pure []) Q E s;exact L6 (by simpa using hq s.heap hi (Qm ..))
 |n+1,i,s,Q,hi,hl,hle,hq=>by
  have hlt:i < its.size:=by omega
  show wpAny _ _ (pyNext (.ref it) >>= _) Q E s;refine L0 (Pc hi hl (x:=its[i]) (by simp[hlt]) λh1 hi1 sb1=>L0 (M6 (uP (its:=its) hne n (i+1) _ _ hi1 ?_ (by omega) λh2 hi2 sb2=>L6 ?_)))
  .obtain⟨o,e,r⟩:=hl;exact⟨o,sb1.extBut l o hne e,r⟩
  have hd:its.toList.drop i=its[i]::its.toList.drop (i+1):=by simp[MM,hlt]
  have z:=hq h2 (by rw[show i+(n+1)=i+1+n by omega];exact hi2) (sb1.trans sb2);rw[hd,List.take_succ_cons] at z;exact z
theorem Fz{its:Array Value}{Q:List Value->Shared->Prop}(hh:A.handled=none)(hl:s.heap.IsList l its)
  (hq:∀h',SJ s.heap.objs.size s.heap h'->Q its.toList {s with heap:=h'}):wpAny (model prog w) A (unpackItems (.ref l) its.size none) Q E s:=by
 have hlt:l≠s.heap.objs.size:=by obtain⟨o,ho,_⟩:=hl;exact LI (Ls ho)
 have hl1:(s.heap.push {cls:= .type "list_iterator",data:= .fields #[.ref l,.int 0 0]}).IsList l its:=by obtain⟨o,e,r⟩:=hl;exact⟨o,L4 _ e,r⟩
 unfold unpackItems;refine L0 ?_;unfold notIterableAtAll;refine L0 (Pk hl.typeIs PySem.F.slot_list_iter.lookup (L6 ?_));simp only[Mb,if_false];refine L0 (M6 (OP hl (L0 (M6 (uP hlt its.size 0 _ _ ⟨_,LG _ rfl,rfl,rfl⟩ hl1 (by omega) λh1 hi1 sb1=>?_)))));rw[show List.take its.size (List.drop 0 its.toList)=its.toList by rw[Rh];exact Oi (by simp),if_neg (by simp)];have hl2:h1.IsList l its:=by obtain⟨o,e,r⟩:=hl1;exact⟨o,sb1.extBut l o hlt e,r⟩
 refine L0 (M6 (Ps hh hi1 hl2 (by simp) λh2 he2=>?_));simp only[Option.isSome_none,Mb,if_false];refine L6 (hq h2 λb o hb e=>he2 b o hb (sb1.extBut b o hb (L4 _ e)))
theorem FA{x1}{its:Array Value}{Q:Unit->Shared->Prop}(hh:A.handled=none)(hl:s.heap.IsList l its)
  (hn:(assignEach es env).length=its.size)(hst:(assignEach es env).findIdx? (·.1)=none)
  (h:∀h',SJ s.heap.objs.size s.heap h'->wpAny (model prog w) A (assignInOrder ((assignEach es env).map (·.2)) its.toList) Q E {s with heap:=h'}) :
  wpAny (model prog w) A (assign (.Tuple es x1 pos) env (.ref l)) Q E s:=by
 rw[assign_Tuple];refine L0 (NL ?_);unfold unpack;rw[hn,hst];exact L0 (M6 (Fz hh hl h))
end
def gSq(K:Frag)(n:Nat)(t:TGs):TG:=λv σ H Q=>∃a xs,v= .ref a/\(SqT K H a xs\/SqL K H a xs)/\xs.length=n/\t xs σ H Q
theorem FB{k:Nat}{n:Nat}(hc:X.calm=true)(hg:WGs X es gs)(hK:X.K=K:=by rfl)(hn:(assignEach es X.env).length=n:=by rfl)(hst:(assignEach es X.env).findIdx? (·.1)=none:=by rfl):WG X (.Tuple es k pos) (gSq K n gs):=⟨by
 subst hK;intro pins s σ H v u Q I r hw;obtain⟨a,xs,e1,hq,hl,hw⟩:=hw;rcases hq with hq|hq
 .exact qJ hc hg.out hn hst pins s σ H v u Q I r ⟨a,xs,e1,hq,hl,hw⟩
 .subst e1;cases r;obtain⟨its,rv,ht,hz⟩:=I.list hq;refine FA (I.ok.hd hc) ht.isList (by simp[hn,<- hl,rv.length]) hst λh' hx=>?_
  have I1:Inv X pins σ H {s with heap:=h'}:=I.kept (t':=s.toks) λb o e=>hx b o (LI (Ls e)) e
  exact hg.out pins _ σ H xs _ Q I1 (by simpa using rv) hw⟩
def ow(n:Nat)(gs:DGs):DG:=λd ρ μ Q=>ay (bC μ d) λds=>ds.length=n/\gs ds ρ μ Q
instance{n:Nat}[b:i_ K fl gs dgs S]:fG K fl (gSq K n gs) (ow n dgs) S:=⟨λ{W ρ μ σ H d x Q Q'} r e q h k=>by
 obtain⟨ds,hd,hl,h⟩:=fi h;obtain⟨a,xs,rfl,hs,z⟩:=ig r q hd;exact⟨a,xs,rfl,hs.symm,by rw[z.length];exact hl,b.run r e z h k⟩⟩
theorem FC{n:Nat}{gs:DGs}{ds:List D}{R:aj->Mu->Prop}:ow n gs (.lst ds) ρ μ R=(ds.length=n/\gs ds ρ μ R):=rfl
theorem FD{k:Nat}{ds es:List D}{e:D}{n:Nat}(hk:μ k=some (.lst ds))(he:aA μ e=some es)(h1:∀d∈ds,SI n d)(h2:∀d∈es,SI n d)(hn:n<=59)(q:∀b:Bool,(b=true↔ds=es)->Q (.bl (neg ^^ b)) μ):dv neg (.cell k) e μ Q:=by
 obtain⟨ps,t1,c1,b1⟩:=Pl.pys (Pl.py n) ds λx hx=>(h1 x hx).pl
 obtain⟨qs,t2,c2,b2⟩:=Pl.pys (Pl.py n) es λx hx=>(h2 x hx).pl
 have e1:e8 μ (.cell k)=some (.list ps):=by simp[e8,hk,t1]
 have e2:e8 μ e=some (.list qs):=by
  cases e with
  |lst xs =>
   have he:some xs=some es:=he;cases he;show toPy (.lst es)=_;unfold toPy;rw[t2];rfl
  |cell kk =>
   simp only[aA] at he;cases hkk:μ kk with
   |none=>rw[hkk] at he;cases he
   |some c =>
    rw[hkk] at he;cases c<;>simp at he
    subst he;simp[e8,hkk,t2]
  |_=>simp[aA] at he
 unfold dv;simp only[e1,e2];refine⟨⟨by rw[PyData.canLay0];exact c1,by rw[PyData.depth];omega⟩,⟨by rw[PyData.canLay0];exact c2,by rw[PyData.depth];omega⟩,q _ ?_⟩;rw[CF];exact SI.eqvs (SI.eqv n) ds es ps qs h1 h2 t1 t2
theorem FE{k:Nat}{ds:List D}{e:D}{n:Nat}(hk:μ k=some (.lst ds))(he:aA μ e=some ds)(h1:∀d∈ds,SI n d)(hn:n<=59)(q:Q (.bl true) μ):dEq (.cell k) e μ Q:=FD hk he h1 h1 hn λb hb=>by rw[hb.mpr rfl];exact q
section
variable{s:Shared}{v:V}{u r:Value}
end
section
variable{kx vx:Expr}{own free:List Str}
end
section
variable{kx vx:Expr}{g:TG}{tk:TE}{o0:HO}
end
section
variable{tk:TE}{wk:DE}{g:TG}
end
def two(a b:Int):Nat:=((b - a+1) / 2).toNat
section
end
def uQ:List V->Hp->VK->Prop:=λxs H Q=>∃i:Int,xs=[.int i]/\i.natAbs.log2 < 1920/\Q (.str (L5 (toString i))) H
theorem uR:ag X (.type "str") uQ:=by
 intro pins s σ H xs us Q I r q;obtain⟨i,rfl,hi,q⟩:=q;obtain⟨u,rfl,ru⟩:=vals1 r;obtain⟨t,rfl⟩:=ru;exact P.str_of_int hi ⟨.str _,H,I.tok _,⟨_,rfl⟩,q⟩
def jv:DRs:=λds μ Q=>match ds with
 | [.int i]=>i.natAbs.log2 < 1920/\Q (.str (L5 (toString i))) μ
 |_=>False
instance:bu K fl uQ jv:=⟨λ{W μ H ds xs Q Q'} r z h k=>by
 unfold jv at h;split at h
 .obtain⟨y,rfl,qy⟩:=z.one;rw[qy.i'];exact⟨_,rfl,h.1,k _ _ _ _ _ (.refl _) r .s h.2⟩
 .exact h.elim⟩
theorem FF{i:Int}:jv [.int i] μ Q=(i.natAbs.log2 < 1920/\Q (.str (L5 (toString i))) μ):=rfl
section
variable{k:Nat}{ds:List Value}{dvs:List V}{E:XK}
end
section
open PySem.Builtin PySem.Builtin.Str
end
section
variable{s:Shared}{b b1 b2:Bool}
end
section
variable{R:List D->(Mu->Prop)->Mu->Prop}{d e:D}{ds:List D}{Q:List D->(Mu->Prop)->Prop}
end
section
variable{s:Shared}
end
def cK{α:Type}:List Key->List α->Key->List α
 |k::ks,v::vs,q=>if k=q then cK ks vs q else v::cK ks vs q
 |_,_,_=>[]
def fT(ks:List Key)(k:Key):List Key:=ks.filter λj=>decide (j≠k)
theorem uS{K:Frag}{W:Wd}{k:Key}:∀{ks:List Key} {vs:List D} {xs:List V},ks.length=xs.length->zG K W vs xs->gf (ks.zip xs) k=(fT ks k).zip (cK ks xs k)/\(fT ks k).length=(cK ks xs k).length/\zG K W (cK ks vs k) (cK ks xs k)
 | [],vs,xs,h,r=>by
  have:xs=[]:=by cases xs with
   |nil=>rfl
   |cons _ _=>cases h
  subst this;refine⟨rfl,rfl,?_⟩;cases vs<;>exact .nil
 |q::ks,[],xs,h,r=>by rw[r.nil'] at h;simp at h
 |q::ks,d::vs,xs,h,r=>by
  obtain⟨x,t,rfl,q1,q2⟩:=r.uncons;obtain⟨i1,i2,i3⟩:=uS (k:=k) (ks:=ks) (vs:=vs) (xs:=t) (by simpa using h) q2;unfold gf fT at *;rw[LK,M7,M7];by_cases e:q=k
  .subst e;simp only[ne_eq,not_true_eq_false,decide_false,Mb,if_false,cK,if_true];exact⟨i1,i2,i3⟩
  .simp only[ne_eq,e,not_false_eq_true,decide_true,if_true,cK,if_false];exact⟨by rw[i1,LK],by rw[LF,LF,i2],.cons q1 i3⟩
theorem uT{o i:Expr}{tpos:Pos}{td ty:TE}(ho:WE X o td)(hi:WE X i ty):WS X (.Delete [.Subscript o i tpos] pos) (nz td ty):=⟨B2 ho.out hi.out⟩
def lj(wo wi:DE):DS:=λD' ρ μ=>wo ρ μ λd μ1=>wi ρ μ1 λe μ2=>ay (match d with | .cell c=>some c|_=>none) λc=>fb (μ2 c) λks vs=>ay (eE e) λk=>(bM ks vs k).isSome=true/\D'.nx ρ (zY μ2 c (.dct (fT ks k) (cK ks vs k)))
instance{tb:TE}[a:ac K fl ta wa][b:ac K fl tb wb]:aP K fl (nz ta tb) (lj wa wb):=⟨λ{W ρ μ σ H D' D} r e h k=>a.run r e h λW2 d2 μ2 y H2 le2 r2 q2 h2=>b.run r2 (e.mono le2) h2 λW3 d3 μ3 z3 H3 le3 r3 q3 h3=>by
 obtain⟨c,ec,h4⟩:=fi h3;have ed:d2= .cell c:=by
  cases d2<;>simp at ec
  subst ec;rfl
 subst ed;obtain⟨p,rfl,hb⟩:=(q2.mono le3).cell';unfold fb at h4;split at h4
 .rename_i ks vs hk;obtain⟨a',f1,f2,xs,f3,l,z⟩:=r3.cel c _ hk;rw[hb] at f1;cases f1;obtain⟨kk,ek,hs,h8⟩:=fi h4;obtain⟨v,hv⟩:=Mx.mp hs;obtain⟨y,ey,qy⟩:=(kZ (k:=kk) l z).1 v hv;obtain⟨i1,i2,i3⟩:=uS (k:=kk) l z;refine⟨p,_,kk,rfl,f3,jt q3 ek,by rw[ey];rfl,?_⟩;rw[i1];exact k.nx _ _ _ _ _ (le2.trans le3) (r3.setC (c':= .dct (fT ks kk) (cK ks vs kk)) hk hb ⟨_,rfl,i2,i3⟩) (e.mono (le2.trans le3)) h8
 .exact h4.elim⟩
theorem oy{wi:DE}:lj wo wi D' ρ μ=wo ρ μ λd μ1=>wi ρ μ1 λe μ2=>ay (match d with | .cell c=>some c|_=>none) λc=>fb (μ2 c) λks vs=>ay (eE e) λk=>(bM ks vs k).isSome=true/\D'.nx ρ (zY μ2 c (.dct (fT ks k) (cK ks vs k))):=rfl
section
variable{s:Shared}{b:Bool}
end
abbrev gN(p:Array Nat)(i:Nat):Nat:=p.getD i 0
theorem gK(p:Array Nat)(i:Nat):gN p i=(p[i]?).getD 0:=by
 show p.getD i 0=_;by_cases h:i < p.size<;>simp[OF,h]
def okW{α:Type}(n:Nat)(lt:Nat->Nat->Bool):KasT α->(α->Prop)->Prop
 | .ret a,P=>P a
 | .ask i j k,P=>i < n/\j < n/\i≠j/\okW n lt (k (lt i j)) P
section
variable{n:Nat}{lt:Nat->Nat->Bool}
theorem iw{α β:Type}{f:α->KasT β}{P:β->Prop}:∀(t:KasT α),okW n lt t (λa=>okW n lt (f a) P)->okW n lt (t.bind f) P
 | .ret a,h=>h
 | .ask i j k,h=>⟨h.1,h.2.1,h.2.2.1,iw (k (lt i j)) h.2.2.2⟩
theorem eG{α:Type}{P Q:α->Prop}(q:∀a,P a->Q a):∀(t:KasT α),okW n lt t P->okW n lt t Q
 | .ret a,h=>q a h
 | .ask i j k,h=>⟨h.1,h.2.1,h.2.2.1,eG q (k (lt i j)) h.2.2.2⟩
theorem uU{α:Type}{cmp:Nat->Nat->(Bool->Shared->Prop)->Shared->Prop}{I:Shared->Prop}{Q:α->Shared->Prop}{P:α->Prop}
  (hc:∀i j C s,i < n->j < n->i≠j->I s->(∀s',I s'->C (lt i j) s')->cmp i j C s)(q:∀a s,P a->I s->Q a s):∀(t:KasT α) (s:Shared),okW n lt t P->I s->t.kasWp cmp Q s
 | .ret a,s,h,hi=>q a s h hi
 | .ask i j k,s,h,hi=>hc i j _ s h.1 h.2.1 h.2.2.1 hi λs' hi'=>uU hc q (k (lt i j)) s' h.2.2.2 hi'
def Srt(lt:Nat->Nat->Bool)(p:Array Nat)(m:Nat):Prop:=∀i j,i < j->j < m->lt (gN p j) (gN p i)=false
def Dsc(lt:Nat->Nat->Bool)(p:Array Nat)(m:Nat):Prop:=∀i j,i < j->j < m->lt (gN p i) (gN p j)=false
def PN(n:Nat)(p:Array Nat):Prop:=p.toList.Perm (MQ n)
theorem PN.sz{p:Array Nat}(h:PN n p):p.size=n:=by
 have:=h.length_eq;simpa using this
theorem PN.lp{p:Array Nat}(h:PN n p){i:Nat}(hi:i < n):gN p i < n:=by
 have hs:=h.sz;have hi':i < p.size:=by omega
 have e:gN p i=p[i]:=by show p.getD i 0=_;simp[OF,hi']
 rw[e];have m:p[i]∈p.toList:=by simp
 exact NE.mp (h.mem_iff.mp m)
theorem PN.ne{p:Array Nat}(h:PN n p){i:Nat}(hi:i < n)(hj:j < n)(d:i≠j):gN p i≠gN p j:=by
 have hs:=h.sz;have hi':i < p.size:=by omega
 have hj':j < p.size:=by omega
 have e:gN p i=p.toList[i]:=by show p.getD i 0=_;simp[OF,hi']
 have e2:gN p j=p.toList[j]:=by show p.getD j 0=_;simp[OF,hj']
 have nd:p.toList.Nodup:=h.nodup_iff.mpr List.nodup_range;rw[e,e2];intro q;have hl:p.toList.length=p.size:=by simp
 rcases Q6 d with z|z
 .exact(MN.mp nd) i j (by omega) (by omega) z q
 .exact(MN.mp nd) j i (by omega) (by omega) z q.symm
theorem PN.rev{p:Array Nat}(h:PN n p)(i j:Nat):PN n (kas_rev p i j):=(mirror_perm p i j _).toList.trans h
theorem PN.bub{p:Array Nat}(h:PN n p)(k d:Nat):PN n (bubble p k d):=(bubble_perm p k d).toList.trans h
theorem ix{p:Array Nat}{i:Nat}(hj:j<=p.size)(k:Nat):gN (kas_rev p i j) k=if i<=k/\k < j then gN p (i+j - 1 - k) else gN p k:=by
 rw[gK,gK,gK];show((mirror p i j ((j - i) / 2))[k]?).getD 0=_;rw[getElem?_mirror_all hj];split<;>rfl
theorem uV{p:Array Nat}{k l:Nat}(hk:k < p.size)(hl:l<=k)(m:Nat):gN (bubble p k (k - l)) m=if m=l then gN p k else if l < m/\m<=k then gN p (m - 1) else gN p m:=by
 rw[gK,gK,gK,gK,getElem?_bubble hk _ (by omega)];have e:k - (k - l)=l:=by omega
 rw[e];split
 .rfl
 .split<;>rfl
structure Ord(lt:Nat->Nat->Bool):Prop where
 as:∀a b,lt a b=true->lt b a=false
 tr:∀a b c,lt b a=false->lt c b=false->lt c a=false
variable(O:Ord lt)
include O
theorem oz{p:Array Nat}(hp:PN n p):∀(f m:Nat),1<=m->m+f<=n->Srt lt p m->okW n lt (PySem.W.kas_asc p f m) (λr=>m<=r/\r<=m+f/\Srt lt p r/\(r < m+f->lt (gN p r) (gN p (r - 1))=true))
 |0,m,_,_,hs=>⟨Lp _,Lp _,hs,λh=>absurd h (Mr _)⟩
 |f+1,m,h1,h2,hs=>by
  refine⟨hp.lp (by omega),hp.lp (by omega),hp.ne (by omega) (by omega) (by omega),?_⟩;show okW n lt (if lt (gN p m) (gN p (m - 1))=true then _ else _) _;by_cases hc:lt (gN p m) (gN p (m - 1))=true
  .rw[if_pos hc];exact⟨Lp _,by omega,hs,λ_=>hc⟩
  .rw[if_neg hc];have hc':lt (gN p m) (gN p (m - 1))=false:=by simpa using hc
   refine eG (λr h=>⟨by omega,by omega,h.2.2.1,λhr=>h.2.2.2 (by omega)⟩) _ (oz hp f (m+1) (by omega) (by omega) λi j hij hj=>?_);by_cases e:j=m
   .subst e;by_cases e2:i=j - 1
    .rw[e2];exact hc'
    .exact O.tr _ _ _ (hs i (j - 1) (by omega) (by omega)) hc'
   .exact hs i j hij (by omega)
def Flat(lt:Nat->Nat->Bool)(p:Array Nat)(a b:Nat):Prop:=∀i j,a<=i->i < b->a<=j->j < b->lt (gN p i) (gN p j)=false
theorem uW{p:Array Nat}{a b:Nat}(hd:Dsc lt p m)(hf:Flat lt p a b)(hb:b<=m)(hm:m<=p.size):Dsc lt (kas_rev p a b) m:=by
 intro i j hij hj;rw[ix (by omega),ix (by omega)];by_cases hi':a<=i/\i < b
 .rw[if_pos hi'];by_cases hj':a<=j/\j < b
  .rw[if_pos hj'];exact hf _ _ (by omega) (by omega) (by omega) (by omega)
  .rw[if_neg hj'];exact hd _ _ (by omega) hj
 .rw[if_neg hi'];by_cases hj':a<=j/\j < b
  .rw[if_pos hj'];exact hd _ _ (by omega) (by omega)
  .rw[if_neg hj'];exact hd _ _ hij hj
theorem lm : ∀(f : Nat) (p : Array Nat) (m q : Nat), PN n p -> 1 <= m -> m + f <= n -> q < m -> Dsc lt p m -> Flat lt p (m - (q + 1)) m -> okW n lt (PySem.W.kas_desc f p m q)
   (λr=>PN n r.1/\m<=r.2.1/\r.2.1<=n/\r.2.2 < r.2.1/\Dsc lt r.1 r.2.1/\Flat lt r.1 (r.2.1 - (r.2.2+1)) r.2.1)
 |0,p,m,q,hp,h1,h2,hq,hd,hf=>⟨hp,Lp _,by show m<=n;omega,hq,hd,hf⟩
 |f+1,p,m,q,hp,h1,h2,hq,hd,hf=>by
  have hz:=hp.sz;have irr:∀a,lt a a=false:=λa=>by
   by_cases h:lt a a=true
   .have:=O.as _ _ h;rw[this] at h;cases h
   .simpa using h
  refine⟨hp.lp (by omega),hp.lp (by omega),hp.ne (by omega) (by omega) (by omega),?_⟩;show okW n lt (if lt (gN p m) (gN p (m - 1))=true then _ else _) _;by_cases hc:lt (gN p m) (gN p (m - 1))=true
  .rw[if_pos hc];have hc1:=O.as _ _ hc;have hd1:Dsc lt p (m+1):=λi j hij hj=>by
    by_cases e:j=m
    .subst e;by_cases e2:i=j - 1
     .rw[e2];exact hc1
     .exact O.tr _ _ _ hc1 (hd i (j - 1) (by omega) (by omega))
    .exact hd i j hij (by omega)
   have fl:∀p',Flat lt p' (m+1 - (0+1)) (m+1):=λp' i j a1 a2 a3 a4=>by
    have:i=j:=by omega
    rw[this];exact irr _
   by_cases hq0:q > 0
   .rw[if_pos hq0];refine eG (λr h=>⟨h.1,by omega,h.2.2.1,h.2.2.2.1,h.2.2.2.2⟩) _ (lm f _ (m+1) 0 (hp.rev _ _) (by omega) (by omega) (by omega) (uW O hd1 hf (by omega) (by omega)) (fl _))
   .rw[if_neg hq0];exact eG (λr h=>⟨h.1,by omega,h.2.2.1,h.2.2.2.1,h.2.2.2.2⟩) _ (lm f _ (m+1) 0 hp (by omega) (by omega) (by omega) hd1 (fl _))
  .rw[if_neg hc];have hc':lt (gN p m) (gN p (m - 1))=false:=by simpa using hc
   refine⟨hp.lp (by omega),hp.lp (by omega),hp.ne (by omega) (by omega) (by omega),?_⟩;show okW n lt (if lt (gN p (m - 1)) (gN p m)=true then _ else _) _;by_cases hb:lt (gN p (m - 1)) (gN p m)=true
   .rw[if_pos hb];exact⟨hp,Lp _,by show m<=n;omega,hq,hd,hf⟩
   .rw[if_neg hb];have hb':lt (gN p (m - 1)) (gN p m)=false:=by simpa using hb
    refine eG (λr h=>⟨h.1,by omega,h.2.2.1,h.2.2.2.1,h.2.2.2.2⟩) _ (lm f p (m+1) (q+1) hp (by omega) (by omega) (by omega) (λi j hij hj=>?_) (λi j a1 a2 a3 a4=>?_))
    .by_cases e:j=m
     .subst e;by_cases e2:i=j - 1
      .rw[e2];exact hb'
      .exact O.tr _ _ _ hb' (hd i (j - 1) (by omega) (by omega))
     .exact hd i j hij (by omega)
    .by_cases ei:i=m
     .subst ei;by_cases ej:j=i
      .rw[ej];exact irr _
      .exact O.tr _ _ _ (hf (i - 1) j (by omega) (by omega) (by omega) (by omega)) hc'
     .by_cases ej:j=m
      .subst ej;exact O.tr _ _ _ hb' (hf i (j - 1) (by omega) (by omega) (by omega) (by omega))
      .exact hf i j (by omega) (by omega) (by omega) (by omega)
theorem uX{p:Array Nat}(hp:PN nrem p)(h1:1<=m)(hm:m<=nrem)(hd:Dsc lt p m):okW nrem lt (PySem.W.kas_tail3 m nrem p) (λr=>PN nrem r.2/\1<=r.1/\r.1<=nrem/\Srt lt r.2 r.1):=by
 refine iw _ (eG (λr h=>?_) _ (oz O (hp.rev 0 m) (nrem - m) m h1 (by omega) λi j hij hj=>?_))
 .exact⟨hp.rev 0 m,by omega,by omega,h.2.2.1⟩
 .have hz:=hp.sz;rw[ix (by omega),ix (by omega),if_pos ⟨Mz _,hj⟩,if_pos ⟨Mz _,by omega⟩];exact hd _ _ (by omega) (by omega)
theorem uY{p:Array Nat}(hp:PN nrem p)(h1:1<=m)(hm:m+1<=nrem)(hd:Dsc lt p (m+1)):okW nrem lt (PySem.W.kas_descPart m nrem p) (λr=>PN nrem r.2/\1<=r.1/\r.1<=nrem/\Srt lt r.2 r.1):=by
 have irr:∀a,lt a a=false:=λa=>by
  by_cases h:lt a a=true
  .have:=O.as _ _ h;rw[this] at h;cases h
  .simpa using h
 refine iw _ (eG (λr h=>?_) _ (lm O (nrem - (m+1)) p (m+1) 0 hp (by omega) (by omega) (by omega) hd λi j a1 a2 a3 a4=>?_))
 .obtain⟨p',m',q'⟩:=r;obtain⟨hp',b1,b2,b3,b4,b5⟩:=h;dsimp only at hp' b1 b2 b3 b4 b5 ⊢;have hz:=hp'.sz;split
  .exact uX O (hp'.rev _ _) (by omega) b2 (uW O b4 b5 (Lp _) (by omega))
  .exact uX O hp' (by omega) b2 b4
 .have:i=j:=by omega
  rw[this];exact irr _
theorem FG{p:Array Nat}(hp:PN nrem p)(h1:1<=nrem):okW nrem lt (PySem.W.kas_count nrem p) (λr=>PN nrem r.2/\1<=r.1/\r.1<=nrem/\Srt lt r.2 r.1):=by
 have hz:=hp.sz;refine iw _ (eG (λm h=>?_) _ (oz O hp (nrem - 1) 1 (Lp _) (by omega) λi j hij hj=>by omega));obtain⟨b1,b2,b3,b4⟩:=h;by_cases e:m=nrem
 .rw[if_pos (by simp[e])];exact⟨hp,b1,by show m<=nrem;omega,b3⟩
 .rw[if_neg (by simp[e])];have hl:=b4 (by omega);have hl':=O.as _ _ hl;by_cases hm:m > 1
  .rw[if_pos hm];refine⟨hp.lp (by omega),hp.lp (by omega),hp.ne (by omega) (by omega) (by omega),?_⟩;show okW nrem lt (if lt (gN p 0) (gN p (m - 1))=true then _ else _) _;by_cases hc:lt (gN p 0) (gN p (m - 1))=true
   .rw[if_pos hc];exact⟨hp,b1,by show m<=nrem;omega,b3⟩
   .rw[if_neg hc];have hc':lt (gN p 0) (gN p (m - 1))=false:=by simpa using hc
    have irr:∀a,lt a a=false:=λa=>by
     by_cases h:lt a a=true
     .have:=O.as _ _ h;rw[this] at h;cases h
     .simpa using h
    have up:∀i,i < m->lt (gN p i) (gN p (m - 1))=false:=λi hi=>by
     by_cases e0:i=0
     .rw[e0];exact hc'
     .exact O.tr _ _ _ hc' (b3 0 i (by omega) hi)
    have dn:∀i,i < m->lt (gN p (m - 1)) (gN p i)=false:=λi hi=>by
     by_cases e0:i=m - 1
     .rw[e0];exact irr _
     .exact b3 i (m - 1) (by omega) (by omega)
    refine uY O (hp.rev 0 m) b1 (by omega) λi j hij hj=>?_
    rw[ix (by omega),ix (by omega),if_pos ⟨Mz _,by omega⟩];by_cases ej:j < m
    .rw[if_pos ⟨Mz _,ej⟩];exact O.tr _ _ _ (dn _ (by omega)) (up _ (by omega))
    .have ej':j=m:=by omega
     rw[if_neg (by omega),ej'];exact O.tr _ _ _ hl' (up _ (by omega))
  .rw[if_neg hm];have e1:m=1:=by omega
   subst e1;refine uY O hp (Lp _) (by omega) λi j hij hj=>?_
   have ei:i=0:=by omega
   have ej:j=1:=by omega
   subst ei;subst ej;exact hl'
theorem oA{p:Array Nat}{k:Nat}(hp:PN n p)(hk:k < n)(hs:Srt lt p k):∀(f l r:Nat),r<=k->l<=r->r - l<=f->(∀i,i < l->lt (gN p k) (gN p i)=false)->(∀i,r<=i->i < k->lt (gN p i) (gN p k)=false) ->
  okW n lt (Qq p k f l r) (λx=>x<=k/\(∀i,i < x->lt (gN p k) (gN p i)=false)/\(∀i,x<=i->i < k->lt (gN p i) (gN p k)=false))
 |0,l,r,h1,h2,h3,a,b=>⟨by omega,a,λi h=>b i (by omega)⟩
 |f+1,l,r,h1,h2,h3,a,b=>by
  unfold Qq;by_cases e:l ≥ r
  .rw[if_pos e];exact⟨by omega,a,λi h=>b i (by omega)⟩
  .rw[if_neg e];refine⟨hp.lp hk,hp.lp (by omega),hp.ne hk (by omega) (by omega),?_⟩;show okW n lt (if lt (gN p k) (gN p ((l+r) / 2))=true then _ else _) _;by_cases hc:lt (gN p k) (gN p ((l+r) / 2))=true
   .rw[if_pos hc];refine oA hp hk hs f l _ (by omega) (by omega) (by omega) a λi hi hik=>?_
    by_cases ei:i=(l+r) / 2
    .rw[ei];exact O.as _ _ hc
    .exact O.tr _ _ _ (O.as _ _ hc) (hs _ _ (by omega) hik)
   .rw[if_neg hc];have hc':lt (gN p k) (gN p ((l+r) / 2))=false:=by simpa using hc
    refine oA hp hk hs f _ r h1 (by omega) (by omega) (λi hi=>?_) b;by_cases ei:i=(l+r) / 2
    .rw[ei];exact hc'
    .exact O.tr _ _ _ (hs i _ (by omega) (by omega)) hc'
theorem uZ:∀(f:Nat) (p:Array Nat) (k:Nat),PN n p->k+f=n->Srt lt p k->okW n lt (PySem.W.kas_bin f p k) (λr=>PN n r/\Srt lt r n)
 |0,p,k,hp,h,hs=>⟨hp,by rw[<- h];exact hs⟩
 |f+1,p,k,hp,h,hs=>by
  have hz:=hp.sz;refine iw _ (eG (λl hl=>?_) _ (oA O hp (by omega) hs k 0 k (Lp _) (Mz _) (by omega) (λi hi=>by omega) (λi a b=>by omega)));obtain⟨c1,c2,c3⟩:=hl;refine uZ f _ (k+1) (hp.bub _ _) (by omega) λi j hij hj=>?_
  rw[uV (by omega) c1,uV (by omega) c1];by_cases ej:j=l
  .rw[if_pos ej,if_neg (by omega),if_neg (by omega)];exact c2 i (by omega)
  .rw[if_neg ej];by_cases ei:i=l
   .rw[if_pos ei,if_pos ⟨by omega,by omega⟩];exact c3 _ (by omega) (by omega)
   .rw[if_neg ei];by_cases hj':l < j/\j<=k
    .rw[if_pos hj'];by_cases hi':l < i/\i<=k
     .rw[if_pos hi'];exact hs _ _ (by omega) (by omega)
     .rw[if_neg hi'];exact hs _ _ (by omega) (by omega)
    .rw[if_neg hj',if_neg (by omega)];exact hs _ _ hij (by omega)
theorem FH(h1:1<=n):okW n lt (QG n) (λr=>PN n r/\Srt lt r n):=by
 refine iw _ (eG (λr h=>?_) _ (FG O (p:=Pa (MQ n)) (SU _) h1));obtain⟨hp,b1,b2,b3⟩:=h;by_cases e:r.1 < n
 .rw[if_pos e];have em:max r.1 1=r.1:=by omega
  rw[em];exact uZ O _ _ _ hp (by omega) b3
 .rw[if_neg e];have en:r.1=n:=by omega
  exact⟨hp,by rw[<- en];exact b3⟩
end
def Kept(h0 h:Heap):Prop:=∀b o,h0.get? b=some o->h.get? b=some o
structure u3(prog:Program)(w:World)(h0:Heap)(s:Shared)(vs:List Value)(κ:SortKind)(lt:Nat->Nat->Bool):Prop where
 kind:∀(A:Around) (h':Heap),Kept h0 h'->2<=vs.length->∀(Q:SortKind->Shared->Prop) (E:Value->Shared->Prop),Q κ {s with heap:=h'}->wpAny (model prog w) A (keyKind' vs.toArray) Q E {s with heap:=h'}
 ask:∀(A:Around) (h':Heap),Kept h0 h'->∀i j,i < vs.length->j < vs.length->i≠j->∀(C:Bool->Shared->Prop),C (lt i j) {s with heap:=h'}->wpAny (model prog w) A (keyLt' κ (vs.getD i .none) (vs.getD j .none)) C (λ_ _=>False) {s with heap:=h'}
section
variable{s:Shared}{κ:SortKind}{lt:Nat->Nat->Bool}{h0:Heap}
theorem FI{vs:List Value}{n:Nat}{P:PySem.Fin->Shared->Prop}(ho:s.heap.get? a=some (seqObj "list" vs.toArray n))
  (k0:Kept h0 s.heap)(ha0:h0.get? a=none)(O:Ord lt)(sq:u3 prog w h0 s vs κ lt)(h64:vs.length < 64)
  (h:∀(p:Array Nat),PN vs.length p->Srt lt p vs.length->P (.done (.ret .none)) {s with heap:=sortedHeap s.heap a vs (p.toList.map λi=>vs.getD i .none).toArray}) :
  wpAny (model prog w) A (Builtin.«list.sort» ⟨[.ref a],[]⟩) P E s:=by
 rw[list_sort_plain];have ha:a < s.heap.objs.size:=Ls ho;refine L0 (Qz ho rfl ?_);refine L0 (OW ho rfl ?_ (by rw[Lv,MV];omega) (Mz _));obtain⟨e1,ho1⟩:∃e1,(s.heap.update a (Obj.mapSeq λ_=>(#[]:Array Value))).get? a=some (seqObj "list" #[] e1):=⟨_,Ra ho (λ_=> #[])⟩;refine L0 (R0 ho1 rfl ?_);refine L0 (wpAny_newTuple ?_ (by show vs.length<=_;rw[MV];omega));refine L0 (OV ?_ (Mz _));refine M6 ?_;have ho6:(((s.heap.update a (Obj.mapSeq λ_=>(#[]:Array Value))).push (seqObj "tuple" vs.toArray 0)).push (seqObj "list" #[] 0)).get? a=some (seqObj "list" #[] e1):=by
  rw[NN _ _ _ (by rw[Rx,Ot];exact LI (MY ha)),NN _ _ _ (by rw[Ot];exact LI ha)];exact ho1
 have kk:Kept h0 (((s.heap.update a (Obj.mapSeq λ_=>(#[]:Array Value))).push (seqObj "tuple" vs.toArray 0)).push (seqObj "list" #[] 0)):=λb o e=>by
  refine L4 _ (L4 _ ?_);have hb:b≠a:=λq=>by rw[q,ha0] at e;cases e
  rw[O0 _ _ _ _ hb];exact k0 b o e
 show wpAny (model prog w) A _ P E {s with heap:=((s.heap.update a (Obj.mapSeq λ_=>(#[]:Array Value))).push (seqObj "tuple" vs.toArray 0)).push (seqObj "list" #[] 0)};dsimp only;have hsz:vs.toArray.size=vs.length:=by simp
 by_cases h2:vs.toArray.size < 2
 .rw[if_pos h2,if_pos h2];refine L0 (L6 ?_);rw[StateT.run_pure];refine L0 (L6 ?_);dsimp only;have eo:(arrOf (SortSt.mk' general' (vs.toArray.zip vs.toArray) #[] 7 none)).map (·.2)=vs.toArray:=by
   apply Nn.mp;show((vs.toArray.zip vs.toArray).map (·.2)).toList=vs.toArray.toList;simp;match vs,hsz,h2 with
   | [],_,_=>rfl
   | [_],_,_=>rfl
   |_::_::r,_,h2=>simp at h2;omega
  refine L0 (R0 ho6 rfl ?_);refine L0 (OW ho6 rfl ?_ (Mz _) (by rw[eo,Lv,MV];omega));rw[eo];simp only[bne_self_eq_false,Mb,if_false];have hl2:vs.length < 2:=by rw[hsz] at h2;exact h2
  have q:=h (MQ vs.length).toArray (by show Mq _ _;rw[List.toList_toArray]) (λi j hij hj=>by
   exfalso;omega)
  have ev:((MQ vs.length).toArray.toList.map λi=>vs.getD i .none).toArray=vs.toArray:=by
   match vs,hl2 with
   | [],_=>rfl
   | [_],_=>rfl
  rw[ev] at q;exact L6 q
 .rw[if_neg h2,if_neg h2];have hl2:2<=vs.length:=by rw[hsz] at h2;omega
  refine L0 (sq.kind A _ kk hl2 _ _ ?_);have ask:(QG vs.length).kasWp (PySem.W.kas_ask prog w A κ vs) (λp s'=>s'={s with heap:=((s.heap.update a (Obj.mapSeq λ_=>(#[]:Array Value))).push (seqObj "tuple" vs.toArray 0)).push (seqObj "list" #[] 0)}/\PN vs.length p/\Srt lt p vs.length)
    {s with heap:=((s.heap.update a (Obj.mapSeq λ_=>(#[]:Array Value))).push (seqObj "tuple" vs.toArray 0)).push (seqObj "list" #[] 0)} :=
   uU (I:=λs'=>s'={s with heap:=((s.heap.update a (Obj.mapSeq λ_=>(#[]:Array Value))).push (seqObj "tuple" vs.toArray 0)).push (seqObj "list" #[] 0)})
    (λi j C s' hi hj hne e hC=>by subst e;exact sq.ask A _ kk i j hi hj hne C (hC _ rfl)) (λp s' hp e=>⟨e,hp.1,hp.2⟩) _ _ (FH O (n:=vs.length) (by omega)) rfl
  refine L0 (Ma (PySem.W.kat_run (Q:=λst' s'=>∃p:Array Nat,arrOf st'=p.map (PySem.W.kas_item (vs.toArray.zip vs.toArray))/\failedOf st'=none/\(s'={s with heap:=((s.heap.update a (Obj.mapSeq λ_=>(#[]:Array Value))).push (seqObj "tuple" vs.toArray 0)).push (seqObj "list" #[] 0)}/\PN vs.length p/\Srt lt p vs.length))
   rfl hl2 h64 (λp' st' s' a1 a2 a3 a4=>⟨p',a2,a3,a4⟩) ask) ?_ λ_ _ e=>e)
  rintro⟨⟨⟩,st'⟩ s' ⟨p,har,hf,rfl,hp,hs⟩;dsimp only;have hout:=PySem.W.kat_snds rfl har;have hz2:(Pa (p.toList.map λi=>vs.getD i Mv)).size=vs.length:=by rw[Lv,L1,LQ,hp.sz]
  rw[hout];refine L0 (R0 ho6 rfl ?_);refine L0 (OW ho6 rfl ?_ (Mz _) (by rw[hz2,MV];omega));rw[hf];simp only[bne_self_eq_false,Mb,if_false];exact L6 (h p hp hs)
theorem FJ{vs:List Value}{Q:List Value->Shared->Prop}(hl:IsTup s.heap l vs.toArray)
  (h:Q vs {s with heap:=(s.heap.push (seqObj "list" #[] 0)).update s.heap.objs.size (Obj.mapSeq (·++ vs.toArray))})(hsz:vs.length<=sizeLine) :
  wpAny (model prog w) A (collect (.ref l)) Q E s:=by
 obtain⟨o,ho,hc,n,hd⟩:=id hl;unfold collect;refine L0 (Ru (NK entry_proto_collect' ?_));show wpAny _ _ (do again (.builtin "list.__iadd__" ⟨[<- newList [],.ref l],[]⟩)) _ _ s;refine L0 (OV (L6 ⟨Code.quiet_builtin _ (by decide+kernel),NK entry_list_iadd' ?_⟩) (Mz _));show wpAny _ _ (OB (.ref s.heap.objs.size) (.ref l) (.ref s.heap.objs.size)) _ _ {s with heap:=s.heap.push (seqObj "list" #[] 0)};unfold OB;have ho':(s.heap.push (seqObj "list" #[] 0)).get? l=some o:=L4 _ ho;refine L0 (NV (T:="tuple") ⟨o,ho',hc⟩ ?_);have ht:(MP "tuple"==MP "tuple")=true:=by rfl
 rw[if_pos (by rw[ht];simp)];refine L0 (Qz ho' hd ?_);refine L0 (Qz (xs:= #[]) (n:=0) (LG _ rfl) rfl ?_);rw[if_neg (by simp)];refine L0 (OW (xs:= #[]) (n:=0) (LG _ rfl) rfl ?_ (Mz _) (by show(#[]++vs.toArray).size<=sizeLine+1;simp only[NO,Lv,Ov];omega));refine L6 ?_;show wpAny (model prog w) A (do
   let o<-load s.heap.objs.size
   match o.data with
   | .seq xs _=>pure xs.toList
   |_=>unsupported "internal:collect") Q E {s with heap:=(s.heap.push (seqObj "list" #[] 0)).update s.heap.objs.size (Obj.mapSeq (·++ vs.toArray))}
 refine L0 (Rn (Ra (LG _ rfl) _) ?_);show wpAny _ _ (pure ((#[]:Array Value)++vs.toArray).toList) Q E _;rw[show((#[]:Array Value)++vs.toArray).toList=vs by simp];exact L6 h
theorem FK{vs:List Value}{Q:Value->Shared->Prop}(hl:s.heap.IsList l vs.toArray\/IsTup s.heap l vs.toArray)(O:Ord lt)(sq:u3 prog w s.heap s vs κ lt)(h64:vs.length < 64)
  (h:∀(p:Array Nat),PN vs.length p->Srt lt p vs.length->Q (.ref (s.heap.objs.size+1)) {s with heap:=sortedAll s.heap vs (p.toList.map λi=>vs.getD i .none).toArray}) :
  wpAny (model prog w) A (call (.builtin "sorted") [.ref l]) Q E s:=by
 refine Calls.call_function_entry kind_sorted SA SC (SD _) ?_;unfold Builtin.«sorted»;refine L0 (m:=checkCount "sorted" 1 1 _) (L6 ?_);have g:∀{A':Around} {E':Value->Shared->Prop} (R:List Value->Shared->Prop),R vs {s with heap:=(s.heap.push (seqObj "list" #[] 0)).update s.heap.objs.size (Obj.mapSeq (·++ vs.toArray))}->wpAny (model prog w) A' (collect (.ref l)) R E' s :=
  λR r=>hl.elim (λq=>collect_list q r (by rw[MV];omega)) λq=>FJ q r (by rw[MV];omega)
 refine L0 (g _ ?_);refine L0 (OV ?_ (by rw[MV];omega));have hsz:((s.heap.push (seqObj "list" #[] 0)).update s.heap.objs.size (Obj.mapSeq (·++ vs.toArray))).objs.size=s.heap.objs.size+1:=by
  rw[Ot,Rx]
 have hoL:(((s.heap.push (seqObj "list" #[] 0)).update s.heap.objs.size (Obj.mapSeq (·++ vs.toArray))).push (seqObj "list" vs.toArray 0)).get? (s.heap.objs.size+1)=some (seqObj "list" vs.toArray 0):=by
  rw[<- hsz];exact LG _ rfl
 have keep:Kept s.heap (((s.heap.push (seqObj "list" #[] 0)).update s.heap.objs.size (Obj.mapSeq (·++ vs.toArray))).push (seqObj "list" vs.toArray 0)):=λb o q=>by
  have hlt:b < s.heap.objs.size:=Ls q;rw[NN _ _ _ (by rw[hsz];exact LI (MY hlt)),O0 _ _ _ _ (LI hlt),NN _ _ _ (LI hlt)];exact q
 show wpAny _ _ _ _ _ {s with heap:=((s.heap.push (seqObj "list" #[] 0)).update s.heap.objs.size (Obj.mapSeq (·++ vs.toArray))).push (seqObj "list" vs.toArray 0)};rw[hsz];refine L0 (M6 (NF Rv ⟨_,hoL,rfl⟩ R9
  (FI (s:={s with heap:=((s.heap.push (seqObj "list" #[] 0)).update s.heap.objs.size (Obj.mapSeq (·++ vs.toArray))).push (seqObj "list" vs.toArray 0)}) (h0:=s.heap) (κ:=κ) (lt:=lt) hoL keep (Nw (MU _)) O ⟨sq.kind,sq.ask⟩ h64 λp a1 a2=>⟨_,rfl,?_⟩) (Rw _)))
 exact L6 ⟨_,rfl,h p a1 a2⟩
end
def sLt(a b:Str):Bool:=decide (a.cps.toList < b.cps.toList)
theorem FL{a b:Str}(h:sLt a b=true):sLt b a=false:=by
 unfold sLt at *; rw[decide_eq_true_eq] at h;rw[decide_eq_false_iff_not];exact List.lt_asymm h
theorem FM{a b c:Str}(h:sLt b a=false)(h':sLt c b=false):sLt c a=false:=by
 unfold sLt at *; rw[decide_eq_false_iff_not] at *;exact Sa (show a.cps.toList<=b.cps.toList from h) h'
theorem FN{a b:Str}(h:sLt a b=false)(h':sLt b a=false):a=b:=by
 unfold sLt at *; rw[decide_eq_false_iff_not] at *;have e:a.cps.toList=b.cps.toList:=QH (show a.cps.toList<=b.cps.toList from h') h;cases a;cases b;simp only[P9];exact Nn.mp e
def vLt:List V->List V->Option Bool
 | [],[]=>some false
 | [],_::_=>some true
 |_::_,[]=>some false
 | .str a::xs,.str b::ys=>if a=b then vLt xs ys else some (sLt a b)
 | .int a::xs,.int b::ys=>if a=b then vLt xs ys else some (decide (a < b))
 |_::_,_::_=>none
theorem oB:∀{x y:List V},vLt x y=some true->vLt y x=some false
 | [],[],h=>by simp[vLt] at h
 | [],_::_,h=>rfl
 |_::_,[],h=>by simp[vLt] at h
 |u::x,v::y,h=>by
  cases u<;>cases v<;>first | (simp[vLt] at h;done)|skip
  case int a b =>
   unfold vLt at h ⊢;by_cases e:a=b
   .rw[if_pos e] at h;rw[if_pos e.symm];exact oB h
   .rw[if_neg e] at h;rw[if_neg λz=>e z.symm];have:a < b:=by simpa using h
    simp;omega
  case str a b =>
   unfold vLt at h ⊢;by_cases e:a=b
   .rw[if_pos e] at h;rw[if_pos e.symm];exact oB h
   .rw[if_neg e] at h;rw[if_neg λz=>e z.symm];rw[FL (by simpa using h)]
theorem oC:∀{x y z:List V},vLt y x=some false->vLt z y=some false->vLt z x=some false
 | [],y,z,h,h'=>by
  cases z with
  |nil =>
   rfl
  |cons _ _=>rfl
 |u::x,[],z,h,h'=>by simp[vLt] at h
 |u::x,v::y,[],h,h'=>by simp[vLt] at h'
 |u::x,v::y,t::z,h,h'=>by
  cases u<;>cases v<;>first | (simp[vLt] at h;done)|skip
  case int a b =>
   cases t<;>first | (simp[vLt] at h';done)|skip
   rename_i c;unfold vLt at h h' ⊢;by_cases e:b=a
   .rw[if_pos e] at h;subst e;by_cases e2:c=b
    .rw[if_pos e2] at h' ⊢; exact oC h h'
    .rw[if_neg e2] at h' ⊢; exact h'
   .rw[if_neg e] at h;have h1:¬ b < a:=by simpa using h
    by_cases e2:c=b
    .subst e2;rw[if_neg e];exact h
    .rw[if_neg e2] at h';have h2:¬ c < b:=by simpa using h'
     rw[if_neg (by omega)];simp;omega
  case str a b =>
   cases t<;>first | (simp[vLt] at h';done)|skip
   rename_i c;unfold vLt at h h' ⊢;by_cases e:b=a
   .rw[if_pos e] at h;subst e;by_cases e2:c=b
    .rw[if_pos e2] at h' ⊢; exact oC h h'
    .rw[if_neg e2] at h' ⊢; exact h'
   .rw[if_neg e] at h;have h1:sLt b a=false:=by simpa using h
    by_cases e2:c=b
    .subst e2;rw[if_neg e];exact h
    .rw[if_neg e2] at h';have h2:sLt c b=false:=by simpa using h'
     have h3:=FM h1 h2;have e3:c≠a:=λz=>by
      subst z;exact e (FN h1 h2)
     rw[if_neg e3,h3]
def vAt(rs:List (List V))(i j:Nat):Bool:=vLt (rs.getD i []) (rs.getD j [])==some true
theorem FO{rs:List (List V)}(h:∀i j,i≠j->(vLt (rs.getD i []) (rs.getD j [])).isSome):Ord (vAt rs) where
 as:=λa b e=>by
  have e':vLt (rs.getD a []) (rs.getD b [])=some true:=by simpa [vAt] using e
  show(_==_)=false;rw[oB e'];rfl
 tr:=λa b c e e'=>by
  by_cases hab:a=b
  .subst hab;exact e'
  .by_cases hbc:b=c
   .subst hbc;exact e
   .have f:∀{i j},i≠j->vAt rs i j=false->vLt (rs.getD i []) (rs.getD j [])=some false:=λ{i j} hij q=>by
     have s:=h i j hij;have q':(vLt (rs.getD i []) (rs.getD j [])==some true)=false:=q;cases z:vLt (rs.getD i []) (rs.getD j []) with
     |none=>rw[z] at s;cases s
     |some b=>cases b with
      |true=>rw[z] at q';exact absurd q' (by decide)
      |false=>rfl
    have r:=oC (f (λz=>hab z.symm) e) (f (λz=>hbc z.symm) e');show(_==_)=false;rw[r];rfl
section
variable{s:Shared}
theorem oE{Q:Bool->Shared->Prop}{c:Bool}:∀{xs ys:List V} {us ws:List Value} {i:Nat} {fin:Bool},Vals xs us->Vals ys ws->fin=decide (xs.length < ys.length)->vLt xs ys=some c->Q c s ->
  PySem.W.KatLex prog w A true fin Q (us.zip ws) i s
 | [],[],_,_,i,fin,.nil,.nil,hf,h,q=>by
  simp[vLt] at h;subst h;subst hf;exact kat_nil q
 | [],_::_,_,_,i,fin,.nil,.cons _ _,hf,h,q=>by
  simp[vLt] at h;subst h;subst hf;exact kat_nil (by simpa using q)
 |_::_,[],_,_,i,fin,.cons _ _,.nil,hf,h,q=>by
  simp[vLt] at h;subst h;subst hf;exact kat_nil (by simpa using q)
 |u::x,v::y,_,_,i,fin,.cons a ta,.cons b tb,hf,h,q=>by
  cases u<;>cases v<;>first | (simp[vLt] at h;done)|skip
  case int m n =>
   obtain⟨t,rfl⟩:=a;obtain⟨t',rfl⟩:=b;unfold vLt at h;refine QI (QN ?_);by_cases e:m=n
   .rw[if_pos e] at h;rw[show(m==n)=true by simpa using e];exact R6 (oE ta tb (by rw[hf];simp) h q)
   .rw[if_neg e] at h;rw[show(m==n)=false by simpa using e];have hc:decide (m < n)=c:=by simpa using h
    refine Ri ?_;cases i with
    |zero=>exact oneLt_int (by rw[hc];exact q)
    |succ i=>exact R7 _ _ (lt_int (show QJ Q (.bool _) s from by show Q _ s;rw[hc];exact q))
  case str m n =>
   obtain⟨t,rfl⟩:=a;obtain⟨t',rfl⟩:=b;unfold vLt at h;refine QI (QO ?_);by_cases e:m=n
   .rw[if_pos e] at h;rw[show decide (m=n)=true by simpa using e];exact R6 (oE ta tb (by rw[hf];simp) h q)
   .rw[if_neg e] at h;rw[show decide (m=n)=false by simpa using e];have hc:decide (m.cps.toList < n.cps.toList)=c:=by simpa [sLt] using h
    refine Ri ?_;cases i with
    |zero=>exact oneLt_str (by rw[hc];exact q)
    |succ i=>exact R7 _ _ (lt_str (show QJ Q (.bool _) s from by show Q _ s;rw[hc];exact q))
end
def Fst(rs:List (List V)):Prop:=(∀r∈rs,∃x t,r= .str x::t)\/(∀r∈rs,∃x t,r= .int x::t)
def jw(K:Frag)(H:Hp):List Addr->List (List V)->Prop:=Paired λa ys=>SqT K H a ys
section
variable{s:Shared}
theorem u4{h':Heap}(k:Kept s.heap h')(I:Inv X pins σ H s){T:String}:∀{as:List Addr} {rs:List (List V)},jw X.K H as rs->(∀r∈rs,∃x t,r=x::t/\∀u,RelV x u->(typeOf u=(pure (.type T):Sem Value))) ->
  ∃fs,PySem.W.KatTups h' (as.map LH) fs/\fs.length=as.length/\∀v∈fs,typeOf v=(pure (.type T):Sem Value)
 |_,_,.nil,_=>⟨[],.nil,rfl,λ_ h=>by cases h⟩
 |a::as,ys::rs,.cons q t,f=>by
  obtain⟨x,r,rfl,hx⟩:=f _ (.head _);obtain⟨its,v,⟨o,ho,hc,n,hd⟩,_⟩:=I.tuple q;obtain⟨fs,h1,h2,h3⟩:=u4 k I t λr hr=>f r (.tail _ hr)
  cases v with
  |cons a1 a2 =>
   rename_i u us;refine⟨u::fs,.cons (k _ _ ho) hc hd (by simp) h1,by simp[h2],λv hv=>?_⟩;rcases Lz.mp hv with rfl|hv
   .exact hx _ a1
   .exact h3 _ hv
theorem u5{as:List Addr}{rs:List (List V)}{i:Nat}:jw X.K H as rs->i < as.length->∃a ys,as[i]? = some a/\rs.getD i []=ys/\SqT X.K H a ys:=λr hi=>by
 induction r generalizing i with
 |nil=>simp at hi
 |cons q t ih =>
  cases i with
  |zero=>exact⟨_,_,rfl,rfl,q⟩
  |succ i =>
   obtain⟨a,ys,e,e2,z⟩:=ih (i:=i) (by simpa using hi);exact⟨a,ys,by simpa using e,by simpa using e2,z⟩
end
section
variable(K:Frag)
def lq:List V->Hp->VK->Prop:=λxs H Q=>∃p as rs,xs=[.ref p]/\(SqL K H p (as.map V.ref)\/SqT K H p (as.map V.ref))/\jw K H as rs/\as.length < 64/\Fst rs/\(∀i j,i≠j->(vLt (rs.getD i []) (rs.getD j [])).isSome) /\
 ∀(q:Array Nat) l,PN as.length q->Srt (vAt rs) q as.length->H l=none->Q (.ref l) (upd H l (.lst (q.toList.map λi=>V.ref (as.getD i 0))))
theorem oF:∀{as:List Addr} {us:List Value},Vals (as.map V.ref) us->us=as.map LH
 | [],_,h=>by cases h;rfl
 |a::as,_,h=>by
  cases h with
  |cons a1 a2=>rw[show _=LH a from a1,oF a2];rfl
theorem u6:∀(as:List Addr),Vals (as.map V.ref) (as.map LH)
 | []=> .nil
 |a::as=> .cons rfl (u6 as)
theorem FP(h:X.K=K:=by rfl):ag X (.builtin "sorted") (lq K):=by
 subst h;intro pins s σ H xs us Q I r h;obtain⟨p,as,rs,rfl,hl,hr,hz,hF,hS,q⟩:=h;obtain⟨u,rfl,rx⟩:=vals1 r;cases rx;have hv:s.heap.IsList p (as.map LH).toArray\/IsTup s.heap p (as.map LH).toArray:=by
  rcases hl with hl|hl
  .obtain⟨its,r',pl,_⟩:=I.list hl;rw[oF r'] at pl;exact .inl pl.isList
  .obtain⟨its,r',pl,_⟩:=I.tuple hl;rw[oF r'] at pl;exact .inr pl
 have hlen:(as.map LH).length=as.length:=L1 ..;have tT:∃T:String,(MP T !=MP "tuple")=true/\(MP T==MP T)=true/\∀r∈rs,∃x t,r=x::t/\∀u,RelV x u->(typeOf u=(pure (.type T):Sem Value)):=by
  rcases hF with hF|hF
  .refine⟨"str",by decide,by decide,λr hr=>?_⟩;obtain⟨x,t,rfl⟩:=hF r hr;exact⟨_,t,rfl,λu hu=>by obtain⟨t,rfl⟩:=hu;rfl⟩
  .refine⟨"int",by decide,by decide,λr hr=>?_⟩;obtain⟨x,t,rfl⟩:=hF r hr;exact⟨_,t,rfl,λu hu=>by obtain⟨t,rfl⟩:=hu;rfl⟩
 obtain⟨T,hT1,hT2,hT3⟩:=tT;refine FK (κ:=tuples' true) (lt:=vAt rs) hv (FO hS) ⟨λA h' k h2 Q E hq=>?_,λA h' k i j hi hj hij C hC=>?_⟩ (by rw[hlen];exact hz) λp' h1 h2=>?_
 .obtain⟨fs,f1,f2,f3⟩:=u4 k I hr hT3;refine PySem.W.kat_kind f1 (by rw[f2];rw[hlen] at h2;omega) (λv hv=>SE (f3 v hv)) hT2 ?_;rw[hT1];exact hq
 .rw[hlen] at hi hj;obtain⟨a,ys,e1,e2,z⟩:=u5 hr hi;obtain⟨b,zs,e3,e4,z'⟩:=u5 hr hj;obtain⟨its,v,⟨o,ho,hc,n,hd⟩,_⟩:=I.tuple z;obtain⟨its',v',⟨o',ho',hc',n',hd'⟩,_⟩:=I.tuple z';rw[show(as.map LH).getD i .none= .ref a by simp[e1],show(as.map LH).getD j .none= .ref b by simp[e3]];refine PySem.W.kat_lt (s:={s with heap:=h'}) (k _ _ ho) hd (k _ _ ho') hd' ?_;have hs:=hS i j hij;have hval:vLt ys zs=some (vAt rs i j):=by
   unfold vAt;rw[e2,e4] at hs ⊢;cases w:vLt ys zs with
   |none=>rw[w] at hs;cases hs
   |some b=>cases b<;>rfl
  exact oE (xs:=ys) (ys:=zs) (by simpa using v) (by simpa using v') (by simp[v.length,v'.length]) hval hC
 .rw[hlen] at h1 h2;obtain⟨e,he⟩:=Qy s.heap (as.map LH) (p'.toList.map λi=>(as.map LH).getD i .none).toArray;have hf:H (s.heap.objs.size+1)=none:=I.hok.fresh (MU _);have hout:(p'.toList.map λi=>(as.map LH).getD i .none)=(p'.toList.map λi=>as.getD i 0).map LH:=by
   rw[MC];refine List.map_congr_left λi hi=>?_
   have hi':i < as.length:=NE.mp (h1.mem_iff.mp hi);simp[hi']
  refine⟨.ref (s.heap.objs.size+1),_,I.laid (a:=s.heap.objs.size+1) (o:= .lst (p'.toList.map λi=>V.ref (as.getD i 0))) (t':=s.toks) (λb o e=>PU e) (MU _) ?_,rfl,q p' _ h1 h2 hf⟩;refine⟨by rw[L1,LQ,h1.sz];exact LU (Nf hz) (by decide),(p'.toList.map λi=>as.getD i 0).map LH,e,?_,?_⟩
  .have:=u6 (p'.toList.map λi=>as.getD i 0);rw[MC] at this;exact this
  .rw[he,hout]
end
def cv:List D->List D->Option Bool
 | [],[]=>some false
 | [],_::_=>some true
 |_::_,[]=>some false
 | .str a::xs,.str b::ys=>if a=b then cv xs ys else some (sLt a b)
 | .int a::xs,.int b::ys=>if a=b then cv xs ys else some (decide (a < b))
 |_::_,_::_=>none
section
variable{W:Wd}
theorem lr{c:Bool}:∀{ds es:List D} {xs ys:List V},zG K W ds xs->zG K W es ys->cv ds es=some c->vLt xs ys=some c
 | [],[],_,_,a,b,h=>by rw[a.nil',b.nil'];simp[cv] at h;subst h;rfl
 | [],_::_,_,_,a,b,h=>by obtain⟨y,r,rfl,_⟩:=b.uncons;rw[a.nil'];simp[cv] at h;subst h;rfl
 |_::_,[],_,_,a,b,h=>by obtain⟨y,r,rfl,_⟩:=a.uncons;rw[b.nil'];simp[cv] at h;subst h;rfl
 |d::ds,e::es,_,_,a,b,h=>by
  obtain⟨x,xs,rfl,qx,a'⟩:=a.uncons;obtain⟨y,ys,rfl,qy,b'⟩:=b.uncons;cases d<;>cases e<;>first | (simp[cv] at h;done)|skip
  case int m n =>
   rw[qx.i',qy.i'];unfold cv at h;unfold vLt;by_cases z:m=n
   .rw[if_pos z] at h ⊢; exact lr a' b' h
   .rw[if_neg z] at h ⊢; exact h
  case str m n =>
   rw[qx.s',qy.s'];unfold cv at h;unfold vLt;by_cases z:m=n
   .rw[if_pos z] at h ⊢; exact lr a' b' h
   .rw[if_neg z] at h ⊢; exact h
theorem u7:∀{rows:List (List D)} {xs:List V},zG K W (rows.map D.tup) xs->∃as rs,xs=as.map V.ref/\jw K W.F as rs/\Paired (λds ys=>zG K W ds ys) rows rs
 | [],_,h=>⟨[],[],by rw[h.nil'];rfl,.nil,.nil⟩
 |_::_,_,h=>by
  obtain⟨x,r,rfl,q,z⟩:=h.uncons;obtain⟨a,ys,rfl,e,q⟩:=q.tup';obtain⟨as,rs,rfl,h1,h2⟩:=u7 z;exact⟨a::as,ys::rs,rfl,.cons e h1,.cons q h2⟩
theorem FQ{i:Nat}:∀{rows:List (List D)} {as:List Addr} {rs:List (List V)},jw K W.F as rs->Paired (λds ys=>zG K W ds ys) rows rs->i < as.length ->
  ∃a,as.getD i 0=a/\SqT K W.F a (rs.getD i [])/\zG K W (rows.getD i []) (rs.getD i []):=λ{rows as rs} h g hi=>by
 induction h generalizing i rows with
 |nil=>simp at hi
 |cons q t ih =>
  cases g with
  |cons g1 g2 =>
   cases i with
   |zero=>exact⟨_,rfl,q,g1⟩
   |succ i=>obtain⟨a,e1,e2,e3⟩:=ih g2 (i:=i) (by simpa using hi);exact⟨a,by simpa using e1,by simpa using e2,by simpa using e3⟩
theorem lu:∀{rows:List (List D)} {rs:List (List V)},Paired (λds ys=>zG K W ds ys) rows rs->∀i,zG K W (rows.getD i []) (rs.getD i []):=λ{rows rs} g=>by
 induction g with
 |nil=>intro i;simp[zG.nil]
 |cons g1 _ ih =>
  intro i;cases i with
  |zero=>exact g1
  |succ i=>simpa using ih i
end
def oG(rs:List (List D)):Prop:=(∀r∈rs,∃x t,r= .str x::t)\/(∀r∈rs,∃x t,r= .int x::t)
theorem FR{W:Wd}:∀{rows:List (List D)} {rs:List (List V)},Paired (λds ys=>zG K W ds ys) rows rs->oG rows->Fst rs:=λ{rows rs} g h=>by
 rcases h with h|h
 .refine .inl ?_;induction g with
  |nil=>intro r hr;cases hr
  |cons g1 _ ih =>
   intro r hr;rcases Lz.mp hr with rfl|hr
   .obtain⟨x,t,rfl⟩:=h _ (.head _);obtain⟨y,s,rfl,q,_⟩:=g1.uncons;exact⟨x,s,by rw[q.s']⟩
   .exact ih (λr hr=>h r (.tail _ hr)) r hr
 .refine .inr ?_;induction g with
  |nil=>intro r hr;cases hr
  |cons g1 _ ih =>
   intro r hr;rcases Lz.mp hr with rfl|hr
   .obtain⟨x,t,rfl⟩:=h _ (.head _);obtain⟨y,s,rfl,q,_⟩:=g1.uncons;exact⟨x,s,by rw[q.i']⟩
   .exact ih (λr hr=>h r (.tail _ hr)) r hr
def rLe(a b:List D):Prop:=cv b a≠some true
def lv:DRs:=λds μ Q=>match ds with
 | [d]=>∃rows:List (List D),(aA μ d=some (rows.map D.tup)\/d= .tup (rows.map D.tup))/\rows.length < 64/\oG rows/\(∀i j,i≠j->(cv (rows.getD i []) (rows.getD j [])).isSome) /\
   ∀rows',Mq rows' rows->O3 rLe rows'->Q (.lst (rows'.map D.tup)) μ
 |_=>False
instance:bu K fl (lq K) lv:=⟨λ{W μ H ds xs Q Q'} r z h k=>by
 unfold lv at h;split at h
 .obtain⟨x,rfl,q⟩:=z.one;obtain⟨rows,hl,hz,hF,hS,h⟩:=h;have hx:∃p xs,x= .ref p/\(SqL K H p xs\/SqT K H p xs)/\zG K W (rows.map D.tup) xs:=by
   rcases hl with hl|rfl
   .obtain⟨a,xs,rfl,e1,z1⟩:=dr r q hl;exact⟨a,xs,rfl,.inl (SqL.of e1),z1⟩
   .obtain⟨a,xs,rfl,e1,z1⟩:=q.tup';exact⟨a,xs,rfl,.inr (e1.sm r.sub),z1⟩
  obtain⟨p,xs,rfl,hp,z1⟩:=hx;obtain⟨as,rs,rfl,g1,g2⟩:=u7 z1;have la:as.length=rows.length:=by have a:=Paired.length g1;have b:=Paired.length g2;omega
  have iSm:∀{o:Option Bool},o.isSome->∃c,o=some c:=λ{o} h=>by cases o with
   |none=>cases h
   |some c=>exact⟨c,rfl⟩
  refine⟨p,as,rs,rfl,hp,Paired.mapP g1 λa ys e=>e.sm r.sub,by omega,FR g2 hF,λi j hij=>?_,λqq l h1 h2 hl=>?_⟩
  .obtain⟨c,hc⟩:=iSm (hS i j hij);rw[lr (lu g2 i) (lu g2 j) hc];rfl
  .have mem:∀i∈qq.toList,i < as.length:=λi hi=>NE.mp (h1.mem_iff.mp hi)
   obtain⟨r2,le2⟩:=r.newF (o:= .lst (qq.toList.map λi=>V.ref (as.getD i 0))) hl;refine k _ (.lst ((qq.toList.map λi=>rows.getD i []).map D.tup)) _ _ _ le2 r2 (.lst zJ ?_) (h _ ?_ ?_)
   .have go:∀l:List Nat,(∀i∈l,i < as.length)->zG K W ((l.map λi=>rows.getD i []).map D.tup) (l.map λi=>V.ref (as.getD i 0)):=λl=>by
     induction l with
     |nil=>intro _;exact .nil
     |cons i l ih =>
      intro hm;obtain⟨a,e1,e2,e3⟩:=FQ g1 g2 (hm i (.head _));refine .cons ?_ (ih λj hj=>hm j (.tail _ hj));dsimp only;rw[e1];exact .tup e2 e3
    exact(go _ mem).mono le2
   .have e:rows=(MQ as.length).map λi=>rows.getD i []:=by
     apply Ny;intro i;rw[la];by_cases hi:i < rows.length
     .simp[hi]
     .simp[hi,P0 hi]
    have h1':Mq (qq.toList.map λi=>rows.getD i []) ((MQ as.length).map λi=>rows.getD i []):=h1.map _;rw[<- e] at h1';exact h1'
   .rw[Oj,MN];intro i j hi hj hij;have hn:qq.toList.length=as.length:=by rw[LQ,h1.sz]
    have gi:gN qq i=qq.toList[i]:=(by
     have z:i < qq.size:=(by simpa using hi);show qq.getD i 0=_;simp[OF,z])
    have gj:gN qq j=qq.toList[j]:=(by
     have z:j < qq.size:=(by simpa using hj);show qq.getD j 0=_;simp[OF,z])
    have:=h2 i j hij (by omega);rw[gi,gj] at this;intro hd;unfold vAt at this;rw[lr (lu g2 _) (lu g2 _) hd] at this;exact absurd this (by decide)
 .exact h.elim⟩
def u8(K:Frag):List V->Hp->VK->Prop:=λxs H Q=>k_ K xs H Q\/lq K xs H Q
theorem FS(K:Frag)(h:X.K=K:=by rfl)(hc:X.calm=true:=by rfl):ag X (.builtin "sorted") (u8 K):=(gJ K h hc).or (FP K h)
def oH:DRs:=λds μ Q=>dB ds μ Q\/lv ds μ Q
instance:bu K fl (u8 K) oH:=⟨λ{W μ H ds xs Q Q'} r z h k=>by
 rcases h with h|h
 .exact .inl (bu.run (K:=K) (r:=k_ K) (q:=dB) r z h k)
 .exact .inr (bu.run (K:=K) (r:=lq K) (q:=lv) r z h k)⟩
theorem FT{rows:List (List D)}{d:D}(hl:aA μ d=some (rows.map D.tup)\/d= .tup (rows.map D.tup))(hz:rows.length < 64)(hF:oG rows)(hS:∀i j,i≠j->(cv (rows.getD i []) (rows.getD j [])).isSome)(h:∀rows',Mq rows' rows->O3 rLe rows'->Q (.lst (rows'.map D.tup)) μ):oH [d] μ Q:= .inr ⟨rows,hl,hz,hF,hS,h⟩
section
variable{W:Wd}
end
section
variable{t:TA}{w:DA}{g:TG}
end
section
variable{R:Result->Shared->Prop}{I:Addr}{fp wr:List Addr}{n:Nat}{P:Nat->Value->Prop}{St:Nat->Heap->Prop}{h0:Heap}
end
section
variable{s:Shared}
end
section
variable(K:Frag)
end
abbrev EmT:=St->Hp->List V->(List V->Hp->Prop)->Prop
section
variable{Y:Cx}{gens:List Comprehension}{D:Addr}{d:Nat}{g:TG}{tem:EmT}{J:It}{fp:List Addr}{it:Addr}{tn:Nat->Heap->Prop}{P:List (Addr×Obj)}{Fin:List V->Hp->Prop}{W:Nat->Nat->List V->Hp->Prop}{m0:Nat}{R:Result->Shared->Prop}{s:Shared}{ys:List V}{its:List Value}{n:Nat}
end
section
variable{rest:List Comprehension}{own free:List Str}
end
abbrev DEm:=aj->Mu->List D->(List D->Mu->Prop)->Prop
section
variable{g:TG}{B:List Nat}{n:Nat}{tem:EmT}{em:DEm}
end
theorem aC.there(x:aC P w H h a o):∃u,h.get? a=some u:=by
 cases o with
 |lst xs=>obtain⟨_,_,_,_,e⟩:=x;exact⟨_,e⟩
 |tup xs=>obtain⟨_,_,_,o,e,_⟩:=x;exact⟨_,e⟩
 |dK kvs=>obtain⟨_,_,_,_,o,_,_,e,_⟩:=x;exact⟨_,e⟩
 |dT kvs=>obtain⟨_,_,_,_,o,_,_,e,_⟩:=x;exact⟨_,e⟩
 |set S n=>obtain⟨o,_,_,_,e,_⟩:=x;exact⟨_,e⟩
 |ins C dx fs=>obtain⟨_,_,_,e,_⟩:=x;exact⟨_,e⟩
 |own y=>obtain⟨_,e⟩:=x;exact⟨_,e⟩
 |xd fs=>obtain⟨_,⟨_,_,_,e,_⟩,_⟩:=x;exact⟨_,e⟩
 |rng lo hi=>obtain⟨_,_,_,e⟩:=x;exact⟨_,e⟩
 |frz ob u=>obtain⟨e,_⟩:=x;exact⟨_,e⟩
 |tbl ps=>exact⟨_,(show h.get? a=some _ from x)⟩
 |met f y=>exact⟨_,(show h.get? a=some _ from x)⟩
 |ext φ=>obtain⟨_,⟨_,e⟩,_⟩:=x;exact⟨_,e⟩
theorem HOk.keptT(x:HOk P w H h)(k:∀b u,H b≠none->h.get? b=some u->h'.get? b=some u):HOk P w H h':=λa o e =>
 (x a o e).stay (λb u hb q=>k b u (hb.elim (λz=>by rw[z,e];simp) λz=>by rw[z];simp) q) (λ_ q=>q) λ_ _ q=>q
theorem FU{s:Shared}{L e:Addr}{oe:Obj}{vs:Array Value}{hd:Value}{Q:Unit->Shared->Prop}
  (hfr:A.frames=some (env::outer))(hL:env.frame=some L)(ff:s.heap.FunFrames base (env::outer))(he:s.heap.get? e=some oe)(hv:oe.data= .fields vs)(h1:vs[1]? = some hd)
  (hhd:hd= .none\/∃T oT ts f3,hd= .ref T/\T≠e/\s.heap.get? T=some oT/\oT.data= .fields ts/\ts[3]? = some f3/\(f3==rawInt L)=false)
  (k:∀(h':Heap) (tb:Addr),h'.get? e=some (Obj.mapFields (λx=>x.setIfInBounds 1 (.ref tb)) oe)->tb≠e->(∃ts,h'.get? tb=some {cls:= .type "traceback",data:= .fields ts}/\ts[3]? = some (rawInt L))->s.heap.get? tb=none ->
   (∀b o,b∉frs (env::outer)->b≠e->hd≠ .ref b->s.heap.get? b=some o->h'.get? b=some o)->(∀b o,b∈frs (env::outer)->s.heap.get? b=some o->∃sl,h'.get? b=some {o with slots:=sl})->Q () {s with heap:=h'}) :
  wpAny M A (noteFrame (.ref e) env) Q E s:=by
 have nfe:e∉frs (env::outer):=λz=>by
  obtain⟨_,o,ho,nf⟩:=ff.mem (b:=e) z;rw[he] at ho;cases ho;exact nf vs hv
 have main:∀(g:Heap),g.objs.size=s.heap.objs.size->g.FunFrames base (env::outer)->g.get? e=some oe->(∀b o,b≠e->hd≠ .ref b->s.heap.get? b=some o->g.get? b=some o) ->
   (∀b o,b∈frs (env::outer)->s.heap.get? b=some o->g.get? b=some o)->(∀b,s.heap.get? b=none->g.get? b=none) ->
   ∀hn,wpAny M A (do
    let a<-Sb env
    let pl<-entryPlaceOf L hn
    let b<-EntryCells.newEntry hd a Mv (rawInt L) Mv pl
    setField (.ref e) 1 b) Q E {s with heap:=g}:=λg sz fg eg kg kf ng hn=>by
  refine L0 (wpAny_frameOf_fun hfr fg hL λh2 so=>?_);refine L0 (wpAny_entryPlaceOf λpl hp=>?_);unfold EntryCells.newEntry newFields;obtain⟨so1,so2,so3⟩:=so;have e2:h2.get? e=some oe:=by rw[so2 e nfe];exact eg
  have hsz0:sizeOk (Data.fields ([hd,LH L,Mv,rawInt L,Mv]++if pl.isEmpty=true then LB 6 Mv else pl).toArray):=by
   rcases hp with rfl|⟨_,_,_,_,_,_,_,rfl⟩
   .show 11<=sizeLine+2;decide
   .show 11<=sizeLine+2;decide
  refine L0 (N0 ?_ hsz0);have hvs:1 < vs.size:=by
   rcases Of 1 vs.size with z|z
   .exact z
   .rw[MH z] at h1;cases h1
  have htb:h2.objs.size=s.heap.objs.size:=so1.trans sz;have hne:h2.objs.size≠e:=λz=>absurd (Ls e2) (by rw[z];exact Mr _)
  refine Pz (L4 _ e2) hv hvs ?_;refine k _ h2.objs.size ?_ hne ⟨([hd,LH L,Mv,rawInt L,Mv]++if pl.isEmpty=true then LB 6 Mv else pl).toArray,?_,?_⟩ (Nw (Qh htb.symm)) (λb o hb h1 h2' q=>?_) (λb o hb q=>?_)
  .exact Nq _ (L4 _ e2) (by
    obtain⟨c,d,dt,sl⟩:=oe;have hv':dt= .fields vs:=hv;subst hv';rfl)
  .rw[Mf _ _ (Ne.symm hne)];exact LG _ rfl
  .rfl
  .rw[Mf _ _ (Ne.symm h1)];exact L4 _ (by rw[so2 b hb];exact kg b o h1 h2' q)
  .have hbe:b≠e:=λz=>nfe (z▸hb)
   obtain⟨sl,q2⟩:=so3 b o (kf b o hb q);exact⟨sl,by rw[Mf _ _ (Ne.symm hbe)];exact L4 _ q2⟩
 unfold noteFrame;rw[hL];refine L0 (NG he hv h1 ?_);rcases hhd with rfl|⟨T,oT,ts,f3,rfl,hTe,hT,hTd,h3,hf3⟩
 .exact main s.heap rfl ff he (λb o _ _ q=>q) (λb o _ q=>q) (λb q=>q) _
 .refine(show wpAny M A (do
    let h3<-field (.ref T) 3
    if (h3==rawInt L)=true then pure () else do
     let _<-setField (.ref T) 3 .none
     (do
      let a<-Sb env
      let pl<-entryPlaceOf L true
      let b<-EntryCells.newEntry (.ref T) a Mv (rawInt L) Mv pl
      setField (.ref e) 1 b)) Q E s from ?_)
  refine L0 (NG hT hTd h3 ?_);rw[if_neg (by rw[hf3];decide)];have hsz:3 < ts.size:=by
   rcases Of 3 ts.size with z|z
   .exact z
   .rw[MH z] at h3;cases h3
  have nfT:T∉frs (env::outer):=λz=>by
   obtain⟨_,o,ho,nf⟩:=ff.mem (b:=T) z;rw[hT] at ho;cases ho;exact nf ts hTd
  refine L0 (Pz hT hTd hsz ?_);refine main _ (Ot _ _ _) ?_ (by rw[Mf _ _ hTe];exact he) (λb o _ hb q=>?_) (λb o hb q=>?_) (λb q=>?_) _
  .refine ff.of_keeps λb o q nf=>⟨o,?_,rfl⟩
   refine MI _ (λz=>?_) q;subst z;rw[hT] at q;cases q;exact nf ts hTd
  .exact MI _ (λz=>hb (by rw[z])) q
  .exact MI _ (λz=>nfT (z▸hb)) q
  .rw[Mf _ _ (λz=>by subst z;rw[hT] at q;cases q)];exact q
def Fly(g:Heap)(H:Hp)(h:Heap)(e C:Addr)(dx:Option Addr)(f3:Value):Prop :=
 ∃oe vs T oT ts,h.get? e=some oe/\oe.cls= .ref C/\oe.dict=dx/\oe.data= .fields vs/\vs[1]? = some (.ref T)/\T≠e/\h.get? T=some oT/\oT.data= .fields ts/\ts[3]? = some f3/\H e=none/\H T=none/\g.get? e=none/\g.get? T=none
def Made(g:Heap)(H:Hp)(h:Heap)(e C:Addr)(dx:Option Addr):Prop :=
 ∃oe vs,h.get? e=some oe/\oe.cls= .ref C/\oe.dict=dx/\oe.data= .fields vs/\vs[1]? = some .none/\H e=none/\g.get? e=none
structure cL(g:Heap)(H:Hp)(fs:List Addr)(h h':Heap):Prop where
 keep:∀b o,h.get? b=some o->b∉fs->(H b≠none\/g.get? b≠none)->h'.get? b=some o
 slot:∀b o,h.get? b=some o->b∈fs->∃sl,h'.get? b=some {o with slots:=sl}
theorem cL.trans{g:Heap}{fs:List Addr}{h1 h2:Heap}(a:cL g H fs h h1)(b:cL g H fs h1 h2):cL g H fs h h2:=⟨λc o e n t=>b.keep c o (a.keep c o e n t) n t,λc o e n=>by
 obtain⟨sl,e1⟩:=a.slot c o e n;obtain⟨sl2,e2⟩:=b.slot c _ e1 n;exact⟨sl2,e2⟩⟩
theorem cL.hok{g:Heap}{fs:List Addr}(k:cL g H fs h h')(hf:∀b∈fs,H b=none)(x:HOk P w H h):HOk P w H h' :=
 x.keptT λb u hb q=>k.keep b u q (λz=>hb (hf b z)) (.inl hb)
theorem u_{f:Array Value->Array Value}{o:Obj}{vs:Array Value}(h:o.data= .fields vs):(Obj.mapFields f o).cls=o.cls/\(Obj.mapFields f o).dict=o.dict/\(Obj.mapFields f o).data= .fields (f vs)/\(Obj.mapFields f o).isFreed=false:=by
 obtain⟨c,d,dt,sl⟩:=o;have h':dt= .fields vs:=h;subst h';exact⟨rfl,rfl,rfl,rfl⟩
theorem va{vs:Array Value}{i:Nat}{x y:Value}(h:vs[i]? = some y):(vs.setIfInBounds i x)[i]? = some x:=by
 have hi:i < vs.size:=by
  rcases Of i vs.size with z|z
  .exact z
  .rw[MH z] at h;cases h
 rw[Array.getElem?_setIfInBounds_self_of_lt hi]
section
variable{s:Shared}{g:Heap}{L e:Addr}{f3:Value}
theorem vb{oe:Obj}{vs:Array Value}{hd:Value}{Q:Unit->Shared->Prop}(hfr:A.frames=some (env::outer))(hL:env.frame=some L)(ff:s.heap.FunFrames base (env::outer))(hok:HOk P w H s.heap)(hg:∀b,s.heap.get? b=none->g.get? b=none)
  (he:s.heap.get? e=some oe)(hc:oe.cls= .ref C)(hd':oe.dict=dx)(hv:oe.data= .fields vs)(h1:vs[1]? = some hd)(hHe:H e=none)(hge:g.get? e=none)
  (hhd:hd= .none\/∃T oT ts f3,hd= .ref T/\T≠e/\s.heap.get? T=some oT/\oT.data= .fields ts/\ts[3]? = some f3/\(f3==rawInt L)=false/\H T=none/\g.get? T=none)
  (k:∀h',Fly g H h' e C dx (rawInt L)->cL g H (frs (env::outer)) s.heap h'->Q () {s with heap:=h'}):wpAny M A (noteFrame (.ref e) env) Q E s:=by
 refine FU hfr hL ff he hv h1 (hhd.imp_right λ⟨T,oT,ts,f3,a,b,c,d,f,f',_,_⟩=>⟨T,oT,ts,f3,a,b,c,d,f,f'⟩) λh' tb e1 ne ⟨ts',t1,t2⟩ tn kp sl=>?_
 obtain⟨m1,m2,m3,_⟩:=u_ (f:=λx=>x.setIfInBounds 1 (.ref tb)) hv;have hT:H tb=none:=by
  cases r:H tb with
  |none=>rfl
  |some o=>obtain⟨u,hu⟩:=(hok tb o r).there;rw[tn] at hu;cases hu
 refine k h' ⟨_,_,tb,_,ts',e1,m1.trans hc,m2.trans hd',m3,va h1,ne,t1,rfl,t2,hHe,hT,hge,hg tb tn⟩ ⟨λb o q hb hn=>kp b o hb (λz=>?_) (λz=>?_) q,λb o q hb=>sl b o hb q⟩
 .subst z;rcases hn with n|n
  .exact n hHe
  .exact n hge
 .rcases hhd with h0|⟨T,oT,ts,f3,h0,_,_,_,_,_,n1,n2⟩
  .rw[h0] at z;cases z
  .rw[h0] at z;cases z;rcases hn with n|n
   .exact n n1
   .exact n n2
theorem oJ{Q:Unit->Shared->Prop}(hfr:A.frames=some (env::outer))(hL:env.frame=some L)(ff:s.heap.FunFrames base (env::outer))(hok:HOk P w H s.heap)(hg:∀b,s.heap.get? b=none->g.get? b=none)(F:Fly g H s.heap e C dx .none)
  (k:∀h',Fly g H h' e C dx (rawInt L)->cL g H (frs (env::outer)) s.heap h'->Q () {s with heap:=h'}):wpAny M A (noteFrame (.ref e) env) Q E s:=by
 obtain⟨oe,vs,T,oT,ts,h1,h2,h3,h4,h5,h6,h7,h8,h9,h10,h11,h12,h13⟩:=F;exact vb (P:=P) (w:=w) hfr hL ff hok hg h1 h2 h3 h4 h5 h10 h12 (.inr ⟨T,oT,ts,_,rfl,h6,h7,h8,h9,rfl,h11,h13⟩) k
theorem iy{Q:Unit->Shared->Prop}{l:List Env}(ff:s.heap.FunFrames base l)(F:Fly g H s.heap e C dx f3)
  (k:∀h',Fly g H h' e C dx .none->cL g H (frs l) s.heap h'->(∀b,s.heap.get? b=none->h'.get? b=none)->h'.FunFrames base l->Q () {s with heap:=h'}):wpAny M A (setFlight (.ref e) none) Q E s:=by
 obtain⟨oe,vs,T,oT,ts,h1,h2,h3,h4,h5,h6,h7,h8,h9,h10,h11,h12,h13⟩:=F;have hsz:3 < ts.size:=by
  rcases Of 3 ts.size with z|z
  .exact z
  .rw[MH z] at h9;cases h9
 obtain⟨m1,m2,m3,m4⟩:=u_ (f:=λx=>x.setIfInBounds 3 .none) h8;refine wpAny_setFlight_none h1 h4 h5 h7 h8 hsz (k _ ⟨oe,vs,T,_,_,?_,h2,h3,h4,h5,h6,Nq _ h7 m4,m3,va h9,h10,h11,h12,h13⟩ ⟨λb o q hb hn=>?_,λb o q hb=>?_⟩ (λb q=>?_) ?_)
 .rw[Mf _ _ h6];exact h1
 .refine MI _ (λz=>?_) q;subst z;rcases hn with n|n
  .exact n h11
  .exact n h13
 .obtain⟨_,o2,ho2,nf⟩:=ff.mem (b:=b) hb;refine⟨o.slots,MI _ (λz=>?_) q⟩;subst z;rw[h7] at ho2;cases ho2;exact nf ts h8
 .rw[Mf _ _ (λz=>by subst z;rw[h7] at q;cases q)];exact q
 .refine ff.of_keeps λb o q nf=>⟨o,MI _ (λz=>?_) q,rfl⟩
  subst z;rw[h7] at q;cases q;exact nf ts h8
theorem cL.ff{l:List Env}{h h':Heap}(k:cL g H (frs l) h h')(ff:h.FunFrames base l):h'.FunFrames base l:=by
 have all:∀l':List Env,(∀b∈frs l',b∈frs l)->h.FunFrames base l'->h'.FunFrames base l':=by
  intro l';induction l' with
  |nil=>intro _ _;trivial
  |cons env r ih =>
   intro hs hl;obtain⟨hk,⟨L,o,hf,hn,ho,hd⟩,hr⟩:=hl;have hL:L∈frs l:=hs L (by unfold frs;rw[ND,hf];exact Ly);obtain⟨sl,e⟩:=k.slot L o ho hL;exact⟨hk,⟨L,_,hf,hn,e,hd⟩,ih (λb hb=>hs b (by unfold frs;rw[ND,hf];exact Lx _ hb)) hr⟩
 exact all l (λ_ h=>h) ff
theorem FV{Q:Unit->Shared->Prop}(hfr:A.frames=some (env::outer))(hL:env.frame=some L)(ff:s.heap.FunFrames base (env::outer))(hok:HOk P w H s.heap)(hg:∀b,s.heap.get? b=none->g.get? b=none)(F:Fly g H s.heap e C dx .none)
  (k:∀h',Fly g H h' e C dx .none->cL g H (frs (env::outer)) s.heap h'->Q () {s with heap:=h'}):wpAny M A (leaving env (.ref e)) Q E s:=by
 unfold leaving;refine L0 (oJ (P:=P) (w:=w) hfr hL ff hok hg F λh1 F1 S1=>?_);exact iy (S1.ff ff) F1 λh2 F2 S2 _ _=>k h2 F2 (S1.trans S2)
theorem FW{Q:Unit->Shared->Prop}(hfr:A.frames=some (env::outer))(hL:env.frame=some L)(ff:s.heap.FunFrames base (env::outer))(hok:HOk P w H s.heap)(hg:∀b,s.heap.get? b=none->g.get? b=none)(F:Made g H s.heap e C dx)
  (k:∀h',Fly g H h' e C dx .none->cL g H (frs (env::outer)) s.heap h'->Q () {s with heap:=h'}):wpAny M A (leaving env (.ref e)) Q E s:=by
 obtain⟨oe,vs,h1,h2,h3,h4,h5,h6,h7⟩:=F;unfold leaving;refine L0 (vb (P:=P) (w:=w) hfr hL ff hok hg h1 h2 h3 h4 h5 h6 h7 (.inl rfl) λh1 F1 S1=>?_);exact iy (S1.ff ff) F1 λh2 F2 S2 _ _=>k h2 F2 (S1.trans S2)
end
theorem FX{s:Shared}{K:W.Frag}{x D:Addr}{odo:Option Obj}{Q:Option Value->Shared->Prop}(KX:K.In s.heap)(J:W.InstAt s.heap x ox D odo)
  (hga:W.findIn K (.ref D) "__getattribute__"=some (some (.builtin "BaseException.__getattribute__")))(hgh:W.findIn K (.ref D) "__getattr__"=some none)
  (hb:W.mroIn K D (.type "BaseException")=some true)(ho:W.mroIn K D (.type "object")=some true)
  (hf:W.findObj K D odo "__class__"=some (.bind (.builtin "getset_descriptor.__get__") (.builtin "object.__class__")))
  (q:Q (some (.ref D)) {s with toks:=s.toks+1}):wpAny (model prog w) A (getAttr? (.ref x) "__class__") Q E s:=by
 unfold getAttr?;refine L0 (QA ?_);unfold getAttrBy?;refine L0 (OX ?_);unfold getAttrBy;refine M6 (L0 (J.type.at ?_));refine L0 ((W.looks_findIn KX hga).at ?_);refine(show wpAny (model prog w) A (getAttrByItsOwn (.ref x) (.str "__class__" s.toks) (.ref D) (.builtin "BaseException.__getattribute__") false false) _ _ _ from ?_);unfold getAttrByItsOwn;refine L0 ((W.looks_findIn KX hgh).at ?_);refine L0 (OX (M6 ?_));refine(show wpAny (model prog w) A (boundAndCalled (.builtin "BaseException.__getattribute__") (.ref x) (.str "__class__" s.toks)) _ _ _ from ?_);unfold boundAndCalled;rw[F.excAttr_ValueError.ga.bind];refine L0 (L6 ?_);refine Nc (NR (by decide+kernel) F.entry_bexc_ga ?_);have hck:∀{A:Around} {Q:Unit->Shared->Prop} {E:Value->Shared->Prop} {tk:Nat},Q () {s with toks:=tk}->wpAny (model prog w) A (checkBuiltinCall "BaseException.__getattribute__" ⟨[.ref x,.str "__class__" s.toks],[]⟩) Q E {s with toks:=tk}:=by
  intro A Q E tk hq;refine(show wpAny (model prog w) A (isInstance (.ref x) (.type "BaseException") >>= _) _ _ _ from ?_);refine L0 ?_;unfold isInstance;refine L0 (J.type.at ((W.looks_mroIn KX hb).at ?_));have e:(match Manifest.signature? "BaseException.__getattribute__" with
   |some sig=>Bind.checkArgs "BaseException.__getattribute__" sig ⟨[.ref x,.str "__class__" s.toks],[]⟩
   |none=>pure ())=pure ():=F.args_bexc_ga (.ref x) (.str "__class__" s.toks)
  refine(show wpAny (model prog w) A (match Manifest.signature? "BaseException.__getattribute__" with
   |some sig=>Bind.checkArgs "BaseException.__getattribute__" sig ⟨[.ref x,.str "__class__" s.toks],[]⟩
   |none=>pure ()) _ _ _ from ?_)
  rw[e];exact L6 hq
 refine hck ?_;unfold Builtin.«object.__getattribute__»;refine L0 (show wpAny _ _ (pure (LH x,[MW "__class__" s.toks])) _ _ _ from L6 ?_);refine L0 (show wpAny _ _ (pure ("__class__":Str)) _ _ _ from L6 ?_);refine L0 (J.type.at (L0 ((W.looks_find KX J hf).at ?_)));unfold RM;refine(show wpAny (model prog w) A.in1 (holding [OS "object.__class__"] (call (OS "getset_descriptor.__get__") [OS "object.__class__",.ref x,.ref D]) >>= λv=>ret v) _ _ _ from ?_);refine L0 (M6 (Nc (W.class_get KX J ho ?_)));refine(show wpAny (model prog w) A.in1 (pure _) _ _ _ from L6 ?_);refine(show wpAny (model prog w) A (handedOut (LH D)) _ _ _ from ?_);rw[W.handedOut_of rfl];exact L6 (L6 q)
structure eI(K:W.Frag)(D:Addr):Prop where
 ga:W.findIn K (.ref D) "__getattribute__"=some (some (.builtin "BaseException.__getattribute__"))
 gh:W.findIn K (.ref D) "__getattr__"=some none
 hb:W.mroIn K D (.type "BaseException")=some true
 ho:W.mroIn K D (.type "object")=some true
 fc:W.findIn K (.ref D) "__class__"=some (some (.builtin "object.__class__"))
 sp:W.specialIn K (.builtin "object.__class__") "__get__"=some (some (.builtin "getset_descriptor.__get__"))
 tk:W.takesIn K (.builtin "object.__class__")=some true
 hk:W.kitCls K (.ref D) (.ref D)=some true
theorem eI.cls{K:W.Frag}{D:Addr}(c:eI K D):∃cd,W.clsIn K D=some cd:=by
 have h:=c.hk;unfold W.kitCls at h;cases e:W.clsIn K D with
 |some cd=>exact⟨cd,rfl⟩
 |none=>simp[e] at h
theorem eI.find{K:W.Frag}{D:Addr}(c:eI K D)(od:Option Obj):W.findObj K D od "__class__"=some (.bind (.builtin "getset_descriptor.__get__") (.builtin "object.__class__")):=by
 obtain⟨cd,e⟩:=c.cls;unfold W.findObj;rw[e];simp only[MR];rw[show W.findIn K (LH D) (L5 "__class__")=_ from c.fc];simp only[MR];rw[show W.specialIn K (.builtin "object.__class__") (L5 "__get__")=_ from c.sp];simp only[MR];rw[c.tk];rfl
theorem eI.kit{K:W.Frag}{x D:Addr}{od:Option Obj}(c:eI K D):W.KitX K (.ref x) (.ref D) (λh=>W.InstAt h x ox D od) where
 ty:=λM h KX J=>J.type
 it:=λM h KX J=>(W.kit_cls KX c.hk).2.1
 ne:=λh tp dd its n sl KX hh=>by
  obtain⟨cd,e⟩:=c.cls;unfold W.clsIn at e;split at e
  .rename_i q;have:=KX _ _ q;refine beq_eq_false_iff_ne.mpr λz=>?_
   cases z;rw[hh] at this;cases this
  .cases e
 ca:=λKX J q=>FX KX J c.ga c.gh c.hb c.ho (c.find od) q
theorem FY{K:W.Frag}(KX:K.In h)(e:W.excIn K C bmB newId=true) :
  ∃bm N nm q bs hdct sn sub ab col dd k0 k1 k2 k3 k5 mN,h.get? C=some (excClassObj nm q C N bs bm hdct sn sub ab col dd k0 k1 k2 k3 k5 newId)/\h.Ns N mN/\mN "__init__"=none/\OwnTail h bmB bm:=by
 unfold W.excIn at e;split at e
 .rename_i dict cd sl hl;split at e
  .rename_i C' bm k0 k1 k2 k3 n k5 hm hs;simp only[M9,beq_iff_eq,NM] at e;obtain⟨⟨⟨⟨⟨e1,e2⟩,e3⟩,e4⟩,e5⟩,e6⟩:=e;subst e1;subst e2;obtain⟨nm,bs,mro,ns,qn,hdct,sn,sub,ab,col,hdel⟩:=cd;have hm':mro= .ref C'::bm:=hm;have e3':hdel=false:=e3;subst hm';subst e3';have hsl:sl= #[k0,k1,k2,k3,some (.builtin n),k5]:=by
    have:=congrArg Pa hs;simpa using this
   subst hsl;refine⟨bm,ns,nm,qn,bs,hdct,sn,sub,ab,col,dict,k0,k1,k2,k3,k5,h.nsMap ns,KX _ _ hl,?_,W.nsMap_none_of_in KX e5 e6,W.tail_of_in KX e4⟩;have:=W.isNs_of_in KX e5;exact R8 this
  .cases e
 .cases e
def CX1(P:Program)(w:World):CXT:=λouter H s E e s'=>∃a C dx H',e= .ref a/\s'.os=s.os/\AllBare s'.gens/\Un (frs outer) [] H H' s.heap s'.heap/\HOk P w H' s'.heap/\Fly s.heap H' s'.heap a C dx .none/\E (.ref C) dx H'
theorem Fly.old{g g':Heap}{e:Addr}{f3:Value}(F:Fly g H h e C dx f3)(k:∀b,g.get? b=none->g'.get? b=none):Fly g' H h e C dx f3:=by
 obtain⟨oe,vs,T,oT,ts,h1,h2,h3,h4,h5,h6,h7,h8,h9,h10,h11,h12,h13⟩:=F;exact⟨oe,vs,T,oT,ts,h1,h2,h3,h4,h5,h6,h7,h8,h9,h10,h11,k _ h12,k _ h13⟩
structure Fr0(X:Cx)(pins:List (Addr×Obj))(g:Heap):Prop where
 loc:g.get? X.env.locals≠none
 cell:∀x c,X.env.cells.lookup x=some c->g.get? c≠none
 pin:∀p∈X.pn++pins,g.get? p.1≠none
 old:∀b o,X.s₀.heap.get? b=some o->g.get? b≠none
section
variable{s:Shared}{g:Heap}
theorem Inv.fr0(I:Inv X pins σ H s)(hx:∀b∈X.ex,∃o,(b,o)∈X.pn):Fr0 X pins s.heap where
 loc:=by obtain⟨m,⟨o,es,ep,ho,_⟩,_⟩:=I.loc;rw[ho];simp
 cell:=λx c e=>by obtain⟨v,o,ho,_⟩:=I.cell x c e;rw[ho];simp
 pin:=λp hp=>by rw[(I.pin p hp).1];simp
 old:=λb o e=>by
  by_cases hb:b∈X.ex
  .obtain⟨o',ho⟩:=hx b hb;rw[(I.pin (b,o') (Lq _ ho)).1];simp
  .obtain⟨o',e'⟩:=I.base.there b o e hb;rw[e'];simp
theorem Fr0.none(F0:Fr0 X pins g):∀b,g.get? b=none->X.s₀.heap.get? b=none:=λb q=>by
 cases r:X.s₀.heap.get? b with
 |none=>rfl
 |some o=>exact absurd q (F0.old b o r)
theorem Inv.noted{t':Nat}(I:Inv X pins σ H s)(F0:Fr0 X pins g)(S:cL g H (frs X.stack) s.heap h'):Inv X pins σ H {s with heap:=h',toks:=t'}:=by
 have kp:∀b o,s.heap.get? b=some o->b∉frs X.stack->g.get? b≠none->h'.get? b=some o:=λb o e n hg=>S.keep b o e n (.inr hg)
 have sl:∀b o,s.heap.get? b=some o->g.get? b≠none->∃sl,h'.get? b=some {o with slots:=sl}:=λb o e hg=>by
  by_cases hb:b∈frs X.stack
  .exact S.slot b o e hb
  .exact⟨o.slots,kp b o e hb hg⟩
 have cellK:∀x c,X.env.cells.lookup x=some c->∀v,s.heap.IsCell c v->h'.IsCell c v:=λx c e v ⟨o,ho,hd⟩=>by
  obtain⟨sl,q⟩:=sl c o ho (F0.cell x c e);exact⟨_,q,hd⟩
 have neL:∀b o,X.s₀.heap.get? b=some o->b≠X.env.locals:=λb o e=>LI (LJ (Ls e) I.ok.above)
 have nst:∀b,b≠X.env.locals->b∉X.fs->b∉frs X.stack:=λb h1 h2 z=>(Lz.mp (I.stkSub b z)).elim h1 h2
 refine⟨I.ok,I.os,I.bare,⟨λb o e n hb hx=>kp b o (I.base.keep b o e n hb hx) (nst b (neL b o e) hb) (F0.old b o e),λb o e n hb hx=>?_,I.base.free,λb o e hx=>?_,I.base.tups,I.base.frzs,I.base.tbls⟩,?_,λx c e=>?_,I.free,I.freeC,λp hp=>?_,S.hok I.stkFree I.hok,I.len⟩
 .obtain⟨sl1,e1⟩:=I.base.slot b o e n hb hx;obtain⟨sl2,e2⟩:=sl b _ e1 (F0.old b o e);exact⟨sl2,e2⟩
 .obtain⟨o1,e1⟩:=I.base.there b o e hx;obtain⟨sl2,e2⟩:=sl b _ e1 (F0.old b o e);exact⟨_,e2⟩
 .obtain⟨m,⟨o,es,ep,ho,r⟩,hl⟩:=I.loc;obtain⟨sl2,e2⟩:=sl _ o ho F0.loc;refine⟨m,⟨_,es,ep,e2,r⟩,λi x v e1 e2 e3=>?_⟩;obtain⟨u,r,l⟩:=hl i x v e1 e2 e3;refine⟨u,r,?_⟩;rcases l with l|⟨k,c,e,z⟩
  .exact .inl l
  .exact .inr ⟨k,c,e,cellK x c e _ z⟩
 .obtain⟨v,z⟩:=I.cell x c e;exact⟨v,cellK x c e v z⟩
 .obtain⟨e,n,ne,nf,d⟩:=I.pin p hp;exact⟨kp p.1 p.2 e (nst _ ne nf) (F0.pin p hp),n,ne,nf,d⟩
theorem Inv.track(I:Inv X pins σ H s)(F0:Fr0 X pins g)(hg:g.get? a=none)(hn:H a=none)(new:aC X.prog X.w (upd H a o) s.heap a o):Inv X pins σ (upd H a o) s:=by
 have ne:∀b,g.get? b≠none->b≠a:=λb h z=>h (z▸hg)
 refine⟨I.ok,I.os,I.bare,⟨I.base.keep,I.base.slot,λb o e n hx=>by rw[zN (ne b (F0.old b o e))];exact I.base.free b o e n hx,I.base.there,λb xs e=>by rw[zN (bQ (I.base.tups b xs e) hn)];exact I.base.tups b xs e,λb o u e=>by rw[zN (bQ (I.base.frzs b o u e) hn)];exact I.base.frzs b o u e,λb ps e=>?_⟩,I.loc,I.cell,?_,λx c e=>?_,λp hp=>?_,λb u e=>?_,I.len⟩
 .obtain⟨m,e1⟩:=I.base.tbls b ps e;exact⟨m,by rw[zN (bQ e1 hn)];exact e1⟩
 .rw[zN (ne _ F0.loc)];exact I.free
 .rw[zN (ne _ (F0.cell x c e))];exact I.freeC x c e
 .obtain⟨e,n,q⟩:=I.pin p hp;exact⟨e,by rw[zN (ne _ (F0.pin p hp))];exact n,q⟩
 .by_cases hb:b=a
  .subst hb;rw[zJ] at e;cases e;exact new
  .rw[zN hb] at e;exact(I.hok b u e).stay (λc v _ q=>q) (λc q=>by rw[zN (bQ q hn)];exact q) λc xs q=>by rw[zN (bQ q hn)];exact q
theorem Inv.unset{i:Nat}{v:Option Value}{m:Str->Option Value}{t':Nat}(I:Inv X pins σ H s)(hN:X.N.Nodup)(hi:X.N[i]? = some x)(hx:X.env.scope.names.lookup x=some .local)
  (hm:∀(i:Nat) (y:Str) (w:V),X.N[i]? = some y->σ[i]? = some (some w)->Vis X.env.scope y->∃u,RelV w u/\Look X.env s.heap m y u)
  (hn:h'.Ns X.env.locals λy=>if y=x then v else m y)(sb:NS X.env.locals s.heap h'):Inv X pins (σ.set i none) H {s with heap:=h',toks:=t'}:=by
 have kp:∀b o,b≠X.env.locals->s.heap.get? b=some o->h'.get? b=some o:=λb o n e=>(sb.2 b n).trans e
 have neL:∀b o,X.s₀.heap.get? b=some o->b≠X.env.locals:=λb o e=>LI (LJ (Ls e) I.ok.above)
 have cellK:∀x c,X.env.cells.lookup x=some c->∀v,s.heap.IsCell c v->h'.IsCell c v:=λx c e v ⟨o,ho,hd⟩=>⟨o,kp c o (I.cne x c e) ho,hd⟩
 refine⟨I.ok,I.os,I.bare,⟨λb o e n hb hx=>kp b o (neL b o e) (I.base.keep b o e n hb hx),λb o e n hb hx=>?_,I.base.free,λb o e hx=>?_,I.base.tups,I.base.frzs,I.base.tbls⟩,⟨_,hn,λj y w e1 e2 e3=>?_⟩,λx c e=>?_,I.free,I.freeC,λp hp=>?_,λb u e=>?_,by simp[I.len]⟩
 .obtain⟨sl1,e1⟩:=I.base.slot b o e n hb hx;exact⟨sl1,kp b _ (neL b o e) e1⟩
 .obtain⟨o1,e1⟩:=I.base.there b o e hx;exact⟨o1,kp b _ (neL b o e) e1⟩
 .have hij:i≠j:=λz=>by
   subst z;by_cases hl:i < σ.length
   .rw[Mj hl] at e2;cases e2
   .rw[LL (by simp;omega)] at e2;cases e2
  rw[Ml hij] at e2;obtain⟨u,r,l⟩:=hm j y w e1 e2 e3;refine⟨u,r,?_⟩;have hyx:y≠x:=λz=>by
   subst z;obtain⟨a1,b1⟩:=LD.mp hi;obtain⟨a2,b2⟩:=LD.mp e1;exact hij ((QB hN).mp (b1.trans b2.symm))
  rcases l with⟨k,l⟩|⟨k,c,e,z⟩
  .exact .inl ⟨k,by show(if y=x then v else m y)=_;rw[if_neg hyx];exact l⟩
  .exact .inr ⟨k,c,e,cellK y c e _ z⟩
 .obtain⟨v,z⟩:=I.cell x c e;exact⟨v,cellK x c e v z⟩
 .obtain⟨e,n,ne,nf,d⟩:=I.pin p hp;exact⟨kp p.1 p.2 ne e,n,ne,nf,d⟩
 .refine(I.hok b u e).stay (λc w hc q=>kp c w (λz=>?_) q) (λ_ q=>q) λ_ _ q=>q
  have hf:=I.free;rw[<- z] at hf;rcases hc with rfl|hc
  .rw[hf] at e;cases e
  .rw[hf] at hc;cases hc
end
structure XOk(X:Cx)(E:St->XK):Prop where
 ex:∀b∈X.ex,∃o,(b,o)∈X.pn
 fly:∀{pins σ H s g e C dx},Inv X pins σ H s->Fr0 X pins g->(∀b,s.heap.get? b=none->g.get? b=none)->Fly g H s.heap e C dx .none->E σ (.ref C) dx H->X.xe (.ref e) s
structure XMk(X:Cx)(E:St->XK):Prop where
 ex:∀b∈X.ex,∃o,(b,o)∈X.pn
 made:∀{pins σ H s g e C dx},Inv X pins σ H s->Fr0 X pins g->(∀b,s.heap.get? b=none->g.get? b=none)->Made g H s.heap e C dx->E σ (.ref C) dx H->X.xe (.ref e) s
theorem XOk.pass{E:St->XK}(x:XOk X E){pins σ H s e s'}(I:Inv X pins σ H s)(h:CX1 X.prog X.w X.stack H s (E σ) e s'):X.xe e s':=by
 obtain⟨a,C,dx,H',rfl,os,bare,un,hok,fl,hE⟩:=h;have I':=I.call' (ch:=[]) os un hok bare (λb z=>absurd z (by simp));exact x.fly I' (I.fr0 x.ex) (λb q=>by
  cases r:s.heap.get? b with
  |none=>rfl
  |some o=>obtain⟨o',e⟩:=un.there b o r (by simp);rw[q] at e;cases e) fl hE
section
variable{cd:Value}{s:Shared}{E:XK}
theorem cQ:XOk (bR (CX1 P w) P w K mg base N qual scope f cd A outer s H E cm) (λ_=>E):=⟨(λ_ z=>nomatch z),λ{pins σ H1 s1 g e C dx} I F0 hg F hE=>by
 refine FV (P:=P) (w:=w) (outer:=outer) I.ok.frames rfl I.stack I.hok hg F λh' F' S=>?_
 have I1:=I.noted (t':=s1.toks) F0 S;exact⟨e,C,dx,H1,rfl,I1.os,I1.bare,I1.base,I1.hok,F'.old F0.none,hE⟩⟩
theorem c_:XMk (bR (CX1 P w) P w K mg base N qual scope f cd A outer s H E cm) (λ_=>E):=⟨(λ_ z=>nomatch z),λ{pins σ H1 s1 g e C dx} I F0 hg F hE=>by
 refine FW (P:=P) (w:=w) (outer:=outer) I.ok.frames rfl I.stack I.hok hg F λh' F' S=>?_
 have I1:=I.noted (t':=s1.toks) F0 S;exact⟨e,C,dx,H1,rfl,I1.os,I1.bare,I1.base,I1.hok,F'.old F0.none,hE⟩⟩
end
abbrev bmV:List Value:=[.type "ValueError",.type "Exception",.type "BaseException",.type "object"]
abbrev newV:String:="ValueError.__new__"
def oK(C:Addr)(E:St->XK)(t:TA):TS:=λ_ σ H=>t σ H λvs H1=>vs.length<=sizeLine/\E σ (.ref C) none H1
section
variable{E:St->XK}{a:Expr}{as:List Expr}{t:TA}
theorem FZ(xm:XMk X E)(hc:X.calm=true)(hg:Gl X x)(hm:X.mg x=some (.ref C))(hC:W.excIn X.K C bmV newV=true)(ha:PA X (a::as) t)(hdb:(x==("__debug__":Str))=false:=by decide)
  (hst:∃y r,backTo cpos (starEach (a::as) X.env)=(false,y)::r:=by exact⟨_,_,rfl⟩)(hpl:(backTo cpos (starEach (a::as) X.env)).any (·.1)=false:=by rfl) :
  PS X (.Raise (some (.Call (.Name x np) (a::as) [] cpos)) none pos) (oK C E t):=by
 intro pins s σ H D I h;obtain⟨bm,N,nm,q,bs,hdct,sn,sub,ab,col,dd,k0,k1,k2,k3,k5,mN,o1,o2,o3,o4⟩:=FY I.ok.mod.kin hC;have hb:bm.contains (MP "BaseException")=true:=o4.hasType (by decide+kernel);refine wpAny_Raise_call_subT F.excBase_ValueError (nm:=nm) (q:=q) (C:=C) (N:=N) (bs:=bs) (bm:=bm) (hdct:=hdct) (sn:=sn) (sub:=sub) (ab:=ab) (col:=col) (dd:=dd) (k0:=k0) (k1:=k1) (k2:=k2) (k3:=k3) (k5:=k5) (mN:=mN) hb (I.ok.hd hc) hpl o3 (eS I hg hm ⟨rfl,?_⟩ hdb);obtain⟨y,r,hst⟩:=hst;rw[hst];refine Calls.evalArgs_plain ?_;rw[<- hst];refine thn (ha cpos pins s σ H _ I h) λus s2 ⟨vs,H2,I2,rv,hl,hE⟩=>⟨rfl,by show us.length<=_;rw[<- rv.length];exact hl,I2.bk _ _ o1,?_,o4.keeps I2.bk,λh' e mk=>?_⟩
 .obtain⟨o,es,ep,ho,r⟩:=o2;exact⟨o,es,ep,I2.bk _ _ ho,r⟩
 .obtain⟨kp,nw,tt,he,_,_⟩:=mk;have hHe:H2 e=none:=by
   cases r:H2 e with
   |none=>rfl
   |some o=>obtain⟨u,hu⟩:=(I2.hok e o r).there;rw[nw] at hu;cases hu
  refine xm.made (I2.kept (t':=s2.toks) kp) (I2.fr0 xm.ex) (λb z=>?_) ⟨_,_,he,rfl,rfl,rfl,rfl,hHe,nw⟩ hE;cases r:s2.heap.get? b with
  |none=>rfl
  |some o=>have e1:=kp b o r;rw[show h'.get? b=none from z] at e1;cases e1
end
section
variable{E:St->XK}{k:Nat}{c m:Str}{p:Pos}{e o:Expr}{t:TA}{g:List Value->List Value->List Value}
theorem vc{s:Shared}{Q:VK}(F:aa X.prog X.w X.K X.mg X.base (CX1 X.prog X.w) k f fd ps sp)(hr:bh k X.A)(hb:dc X.K fd ps ks g gV)(hx:XOk X E)
  (I:Inv X pins σ H s)(r:Vals vs us)(rz:Vals zs ws)(h:sp (gV vs zs) H Q (E σ)):wpAny (model X.prog X.w) X.A (call (.ref f) us (ks.zip ws)) (EP X pins σ Q) X.xe s:=by
 have r2:=hb.rel r rz;have hl:(g us ws).length=ps.length:=by rw[<- r2.length];exact F.len _ _ _ _ h
 refine Nc (Nj (F.run X.A X.stack s H ⟨us,ks.zip ws⟩ (g us ws) (gV vs zs) Q (E σ) hr I.env0 (hb.to s us ws I.kIn hl) r2 h) λr s' hq=>?_);cases r with
 |error e=>exact hx.pass I hq
 |ok fl =>
  cases fl with
  |ret u=>exact I.after hq
  |next=>exact False.elim hq
  |brk=>exact False.elim hq
  |cont=>exact False.elim hq
def vd(sp:Sp)(gV:List V->List V->List V)(E:St->XK)(t tk:TA):TE:=λσ H Q=>t σ H λvs H1=>tk σ H1 λzs H2=>sp (gV vs zs) H2 Q (E σ)
theorem jx(h:h_ X.prog X.w X.K X.mg X.base (CX1 X.prog X.w) x j ps sp ks gV)(hr:bh k X.A)(hx:XOk X E)(ha:WA X (e::es) t)(hkw:WK X kws tk)(hj:j<=k:=by decide)(hg:Gl X x:=by rfl)
  (hall:(backToKw pos (keywordEach kws X.env)).all (·.1.isSome)=true:=by rfl)(hks:(backToKw pos (keywordEach kws X.env)).filterMap (·.1)=ks:=by rfl)
  (hdb:(x==("__debug__":Str))=false:=by decide)(he:starEach (e::es) X.env=(false,eval e X.env)::starEach es X.env:=by rfl)
  (hpl:((backTo pos (starEach (e::es) X.env)).any (·.1)||(backToKw pos (keywordEach kws X.env)).any (·.1.isNone))=false:=by rfl):WE X (.Call (.Name x p) (e::es) kws pos) (vd sp gV E t tk):=⟨by
 obtain⟨f,fd,g,F,b,kp,m⟩:=h.ex;intro pins s σ H Q I h;refine Np (eS I hg m ?_ hdb);refine QZ (h₀:=X.base) I.ok.mod.kin kp hall (thn (ha.out pos pins s σ H _ I h) λus s1 ⟨vs,H1,I1,r,q⟩=>?_) hpl he;refine thn (hkw.out pos pins s1 σ H1 _ I1 q) λws s2 ⟨zs,H2,I2,rz,q2⟩=>⟨I2.kIn,?_⟩
 rw[hks];exact vc (F.mono hj) hr b hx I2 r rz q2⟩
def ve(K:Frag)(c m:Str)(sp:Sp)(gV:List V->List V->List V)(E:St->XK)(ta:TE)(t tk:TA):TE:=λσ H Q=>ta σ H λx H1=>∃C a dx fs,clsOf K c=some C/\x= .ref a/\H1 a=some (.ins C dx fs)/\fs.lookup m=none /\
 t σ H1 λvs H2=>tk σ H2 λzs H3=>sp (gV (x::vs) zs) H3 Q (E σ)
theorem cw{pl:Sem Bool}(K:Frag)(hh:bp X.prog X.w X.K X.mg X.base (CX1 X.prog X.w) c m j ps sp ks gV)(hr:bh k X.A)(hx:XOk X E)(he:WE X o ta)(ha:WA X (e::es) t)(hkw:WK X kws tk)(hK:X.K=K:=by rfl)(hj:j<=k:=by decide)
  (hall:(backToKw pos (keywordEach kws X.env)).all (·.1.isSome)=true:=by rfl)(hks:(backToKw pos (keywordEach kws X.env)).filterMap (·.1)=ks:=by rfl)
  (hst:starEach (e::es) X.env=(false,eval e X.env)::starEach es X.env:=by rfl)
  (hpl:((backTo pos (starEach (e::es) X.env)).any (·.1)||(backToKw pos (keywordEach kws X.env)).any (·.1.isNone))=false:=by rfl)
  (ht:eval (.Call (.Attribute o m apos) (e::es) kws pos) X.env=(do
   let ov<-eval o X.env
   standAt apos.atName
   let (f,first)<-holding [ov] (getMethod ov m pl)
   callWith pos f first (backTo pos (starEach (e::es) X.env)) (backToKw pos (keywordEach kws X.env))):=by rfl) :
  WE X (.Call (.Attribute o m apos) (e::es) kws pos) (ve K c m sp gV E ta t tk):=⟨by
 subst hK;obtain⟨C0,f,fd,g,hc0,hcl,hm,F,hb⟩:=hh.ex;intro pins s σ H Q I h;refine PV (pl:=pl) (thn (he.out pins s σ H _ I h) λu s1 ⟨x,H1,I1,rx,C,a,dx,fs,hc,ex,ea,l,q⟩=>?_) ht;rw[hc0] at hc;cases hc;subst ex;obtain rfl:u=LH a:=rx;refine m_ I1 ea hcl hm l ?_;refine QZ (first:=[.ref a]) (h₀:=X.base) I.ok.mod.kin hm.kp hall (thn (ha.out pos pins s1 σ H1 _ I1 q) λus s2 ⟨vs,H2,I2,r,q2⟩=>?_) hpl hst;refine thn (hkw.out pos pins s2 σ H2 _ I2 q2) λws s3 ⟨zs,H3,I3,rz,q3⟩=>⟨I3.kIn,?_⟩
 rw[hks];exact vc (us:= .ref a::us) (vs:= .ref a::vs) (F.mono hj) hr hb hx I3 (.cons rfl r) rz q3⟩
end
abbrev Cx.tr(X:Cx)(xe:Value->Shared->Prop)(pn:List (Addr×Obj)):Cx:={X with xe:=xe,pn:=pn}
abbrev Cx.hand(X:Cx)(e:Addr):Cx:={X with A:=X.A.mark (some (.ref e)),calm:=false,xe:=λ_ _=>False}
section
variable{pn:List (Addr×Obj)}{s:Shared}{xe:Value->Shared->Prop}{e:Addr}{g:Heap}
theorem Cx.Ok.tr(ok:X.Ok):(X.tr xe pn).Ok:=⟨ok.mod,ok.kind,ok.glob,ok.blt,ok.above,ok.inj,ok.has,ok.cab,ok.hd,ok.frames,ok.stk,ok.exf,ok.bs,ok.bsz,ok.noex,ok.exfs,ok.funs,ok.frf⟩
theorem Cx.Ok.untr(ok:(X.tr xe pn).Ok):X.Ok:=⟨ok.mod,ok.kind,ok.glob,ok.blt,ok.above,ok.inj,ok.has,ok.cab,ok.hd,ok.frames,ok.stk,ok.exf,ok.bs,ok.bsz,ok.noex,ok.exfs,ok.funs,ok.frf⟩
theorem Inv.tr(I:Inv X pins σ H s):Inv (X.tr xe (X.pn++pins)) [] σ H s:=⟨I.ok.tr,I.os,I.bare,I.base,I.loc,I.cell,I.free,I.freeC,λp hp=>I.pin p (by simpa using hp),I.hok,I.len⟩
theorem Inv.untr{pins':List (Addr×Obj)}(I:Inv (X.tr xe (X.pn++pins)) pins' σ H s):Inv X pins σ H s:=⟨I.ok.untr,I.os,I.bare,I.base,I.loc,I.cell,I.free,I.freeC,λp hp=>I.pin p (Lq _ hp),I.hok,I.len⟩
theorem Fr0.untr{pins':List (Addr×Obj)}(F:Fr0 (X.tr xe (X.pn++pins)) pins' g):Fr0 X pins g:=⟨F.loc,F.cell,λp hp=>F.pin p (Lq _ hp),F.old⟩
theorem SP.untr{D:Ends}{f:Flow}{s':Shared}(h:SP (X.tr xe (X.pn++pins)) [] D f s'):SP X pins D f s':=by
 cases f with
 |next=>obtain⟨σ',H',I,q⟩:=h;exact⟨σ',H',I.untr,q⟩
 |brk=>obtain⟨σ',H',I,q⟩:=h;exact⟨σ',H',I.untr,q⟩
 |cont=>obtain⟨σ',H',I,q⟩:=h;exact⟨σ',H',I.untr,q⟩
 |ret u=>obtain⟨v,σ',H',I,r,q⟩:=h;exact⟨v,σ',H',I.untr,r,q⟩
theorem Inv.hand(I:Inv X pins σ H s):Inv (X.hand e) pins σ H s:=⟨⟨I.ok.mod,I.ok.kind,I.ok.glob,I.ok.blt,I.ok.above,I.ok.inj,I.ok.has,I.ok.cab,λz=>(nomatch z),I.ok.frames,I.ok.stk,I.ok.exf,I.ok.bs,I.ok.bsz,I.ok.noex,I.ok.exfs,I.ok.funs,I.ok.frf⟩,I.os,I.bare,I.base,I.loc,I.cell,I.free,I.freeC,I.pin,I.hok,I.len⟩
theorem Inv.unhand(ok:X.Ok)(I:Inv (X.hand e) pins σ H s):Inv X pins σ H s:=⟨ok,I.os,I.bare,I.base,I.loc,I.cell,I.free,I.freeC,I.pin,I.hok,I.len⟩
end
def iz(D:Ends)(i:Nat):Ends:={nx:=λσ' H'=>D.nx (σ'.set i none) H',rt:=D.rt,bk:=λσ' H'=>D.bk (σ'.set i none) H',ct:=λσ' H'=>D.ct (σ'.set i none) H'}
def jy(K:Frag)(Ch:Addr)(i:Nat)(th:TS)(D:Ends):St->XK:=λσ c dx H=>∃C,c= .ref C/\W.exmOne K (.ref C) (.ref Ch)=some true/\∀a,H a=none->th (iz D i) (σ.set i (some (.ref a))) (upd H a (cN a C dx))
def oM(K:Frag)(Ch:Addr)(i:Nat)(tb:(St->XK)->TS)(th:TS):TS:=λD σ0 H0=>tb (jy K Ch i th D) D σ0 H0
section
variable{i:Nat}{n:Str}
theorem F5(hx:X.ex=[])(hs:X.stack=X.env::X.outer)(hL:X.env.frame=some X.env.locals)(hN:X.N.Nodup)(hi:X.N[i]? = some n)(hn:X.env.scope.names.lookup n=some .local)(hg:Gl X x)(hm:X.mg x=some (.ref Ch))
  (hb:∀E xe pn,XOk (X.tr xe pn) E->PSs (X.tr xe pn) body (tb E))(hh:∀a,PSs (X.hand a) (b₀::suite) th)(hdb:(x==("__debug__":Str))=false:=by decide) :
  PS X (.Try body [.ExceptHandler (some (.Name x np)) (some n) (b₀::suite) hpos] [] [] pos) (oM X.K Ch i tb th):=by
 intro pins s σ0 H0 D I h;have ok:=I.ok;refine QU ?_;have xo:XOk (X.tr (λe s1=>∃ σ H g a C dx,e= .ref a/\Inv X pins σ H s1/\Fr0 X pins g/\(∀b,s1.heap.get? b=none->g.get? b=none)/\Fly g H s1.heap a C dx .none/\jy X.K Ch i th D σ (.ref C) dx H) (X.pn++pins)) (jy X.K Ch i th D) :=
  ⟨(λb z=>by rw[show(X.tr _ _).ex=X.ex from rfl,hx] at z;cases z),λ{pins' σ H s g e C dx} I F0 hg F hE=>⟨σ,H,g,e,C,dx,rfl,I.untr,F0.untr,hg,F,hE⟩⟩
 refine Ma (hb _ _ _ xo [] s σ0 H0 D I.tr h) (λf s1 hf=>?_) (λe s1 he=>?_)
 .have hf':=SP.untr hf;cases f with
  |next=>obtain⟨σ',H',I',q⟩:=hf';exact mS pins s1 σ' H' D I' q
  |brk=>exact hf'
  |cont=>exact hf'
  |ret u=>exact hf'
 .obtain⟨σ,H,g,a,C,dx,rfl,I1,F0,hg1,F,C',eC,hex,hE⟩:=he;cases eC;have hfr:X.A.frames=some (X.env::X.outer):=by rw[<- hs];exact I1.ok.frames
  have ff:s1.heap.FunFrames X.base (X.env::X.outer):=by rw[<- hs];exact I1.stack
  have fE:frs (X.env::X.outer)=frs X.stack:=by rw[hs]
  refine oJ (P:=X.prog) (w:=X.w) hfr hL ff I1.hok hg1 F λh2 F2 S2=>?_
  rw[fE] at S2;have I2:=I1.noted (t':=s1.toks) F0 S2;have ff2:h2.FunFrames X.base (X.env::X.outer):=by rw[<- hs];exact I2.stack
  refine iy ff2 F2 λh3 F3 S3 _ _=>?_
  rw[fE] at S3;have I3:=I2.noted (t':=s1.toks) F0 S3;have ff3:h3.FunFrames X.base (X.env::X.outer):=by rw[<- hs];exact I3.stack
  refine PQ (Pt ?_) (λz=>nomatch z);refine eS (X:=X.hand a) I3.hand hg hm ?_ hdb;have ty:W.Looks (model X.prog X.w) h3 (typeOf (.ref a)) (.ref C):=by
   obtain⟨oe,vs,T,oT,ts,e1,e2,e3,e4,_⟩:=F3;exact e2▸(W.Looks.ld e1).andThen .now
  refine(W.exm_one I3.kIn ty hex).at ?_;refine OK ?_;refine iy ff3 F3 λh4 F4 S4 _ _=>?_
  rw[fE] at S4;have I4:=I3.noted (t':=s1.toks) F0 S4;obtain⟨oe,vs,T,oT,ts,e1,e2,e3,e4,_,_,_,_,_,hHa,_,hga,_⟩:=F4;have I5:Inv X pins σ (upd H a (cN a C dx)) _:=I4.track (o:=cN a C dx) F0 hga hHa ⟨⟨oe,e1,e2,e3,by unfold W.notCls;rw[e4]⟩,⟨oe,e1⟩,λh1 h2 ⟨ox,q1,q2⟩ k=>⟨ox,k _ q1,q2⟩⟩;refine jW I5 hN hi (.inl hn) (show RelV (.ref a) (.ref a) from rfl) (λs6 I6=>?_) (.inr hn);refine Ma (hh a pins s6 _ _ _ I6.hand (hE a hHa)) (λf s7 hf=>?_) (λ_ _ z=>z.elim);have fin:∀{σ7:St} {H7:Hp} {Q:Unit->Shared->Prop},Inv (X.hand a) pins σ7 H7 s7->(∀s8,Inv X pins (σ7.set i none) H7 s8->Q () s8)->wpAny (model X.prog X.w) X.A (do
    bindName X.env n Mv
    unbindBehindTheSuite X.env n hpos) Q X.xe s7:=λ{σ7 H7 Q} I7 k=>by
   have I7':=I7.unhand ok;obtain⟨m,hns,hl⟩:=I7'.loc;refine PB hn hns (by rw[ok.kind];rfl) λh8 v n8 sb=>k _ (I7'.unset (t':=s7.toks+1) hN hi hn hl n8 sb)
  cases f with
  |next=>obtain⟨σ7,H7,I7,q⟩:=hf;exact fin I7 λs8 I8=>⟨_,_,I8,q⟩
  |brk=>obtain⟨σ7,H7,I7,q⟩:=hf;exact fin I7 λs8 I8=>⟨_,_,I8,q⟩
  |cont=>obtain⟨σ7,H7,I7,q⟩:=hf;exact fin I7 λs8 I8=>⟨_,_,I8,q⟩
  |ret u=>obtain⟨v,σ7,H7,I7,r,q⟩:=hf;exact fin I7 λs8 I8=>⟨v,_,_,I8,r,q⟩
end
theorem au.hand{k:Nat}(r:au cm k A)(v:Option Value):au false k (A.mark v):=⟨λz=>(nomatch z),r.dp,r.un,r.gd⟩
theorem au.lax{k:Nat}(r:au cm k A):au false k A:=⟨λz=>(nomatch z),r.dp,r.un,r.gd⟩
structure lx(P:Program)(w:World)(K:Frag)(mg:Str->Option Value)(base:Heap)(x:Str)(k:Nat)(ps:List Str)(sp:Sp):Prop where
 ex:∃f fd,aa P w K mg base CX0 k f fd ps sp false/\Binds K fd ps []/\keepIn K (.ref f)=true/\mg x=some (.ref f)
section
variable{k:Nat}{p:Pos}{e:Expr}{t:TA}
theorem F6{s:Shared}{Q:VK}(F:aa X.prog X.w X.K X.mg X.base CX0 j f fd ps sp false)(hr:au cm k X.A)(hj:j<=k)(hb:Binds X.K fd ps [])
  (I:Inv X pins σ H s)(r:Vals vs us)(h:sp (vs++[]) H Q E0):wpAny (model X.prog X.w) X.A (call (.ref f) us) (EP X pins σ Q) X.xe s:=by
 have r2:Vals (vs++[]) (us++[]):=r.append .nil;have hl:(us++[]).length=ps.length:=by rw[<- r2.length];exact F.len _ _ _ _ h
 refine Nc (Nj (F.run X.A X.stack s H ⟨us,[]⟩ (us++[]) (vs++[]) Q E0 (hr.lax.mono hj) I.env0 (hb s us I.kIn hl) r2 h) λr s' hq=>?_);cases r with
 |error e=>exact False.elim hq
 |ok fl =>
  cases fl with
  |ret u=>exact I.after hq
  |next=>exact False.elim hq
  |brk=>exact False.elim hq
  |cont=>exact False.elim hq
theorem ly(h:lx X.prog X.w X.K X.mg X.base x j ps sp)(hr:au cm k X.A)(ha:WA X (e::es) t)(hj:j<=k:=by decide)(hg:Gl X x:=by rfl)(hdb:(x==("__debug__":Str))=false:=by decide)
  (he:starEach (e::es) X.env=(false,eval e X.env)::starEach es X.env:=by rfl)(hpl:(backTo pos (starEach es X.env)).any (·.1)=false:=by rfl) :
  WE X (.Call (.Name x p) (e::es) [] pos) (g_ sp [] E0 t):=⟨by
 obtain⟨f,fd,F,b,kp,m⟩:=h.ex;intro pins s σ H Q I h;refine Np (eS I hg m ?_ hdb);refine Q2 (h₀:=X.base) I.ok.mod.kin kp (thn (ha.out pos pins s σ H _ I h) λus s1 ⟨vs,H1,I1,r,q⟩=>⟨I1.kIn,?_⟩) he hpl;exact F6 F hr hj b I1 r q⟩
end
section
theorem Fun.okU{k n:Nat}(dw:DS)(F:Fun K x qual st f fd)(S:zP N ps (zz st))(len:ps.length=n)
  (hbody:∀(cdv:Value) (A:Around) (outer:List Env) (s:Shared) (H:Hp) (E:XK),au false k (A.deeper (envOfC qual (zz st) s.heap.objs.size f cdv)) ->
   ∃t,WSs (bR CX0 P w K mg base N qual (zz st) f cdv A outer s H E false).nox (bY st) t/\∀fl,aP K fl t dw):aa P w K mg base CX0 (k+1) f fd ps (lift K (aB dw N n)) false:=by
 obtain⟨oc,od,kV,doc,pm,an,cdv,ct,osl,rfl,lk,hcd⟩:=F.ex;refine nc lk hcd S (λvs H Q E h=>?_) λA outer s H vs Q E hr h=>?_
 .obtain⟨_,W,μ,ds,Q0,_,r,h,_⟩:=h;rw[r.length,h.1,len]
 .obtain⟨fl,W,μ,ds,Q0,rel,r,h,k⟩:=h;obtain⟨t,ht,sm⟩:=hbody cdv A outer s H E hr;refine⟨t,ht.out.nox,(sm W).run (rel.floor (.refl W)) (.start r) h.2 ⟨λW' ρ μ σ H le rr ee hh=>?_,λ_ _ _ _ _ _ _ _ hh=>hh.elim,λ_ _ _ _ _ _ _ _ hh=>hh.elim,λW' d μ x H le rr ee hh=>?_⟩⟩
  .obtain⟨μ'',l,hh⟩:=hh;exact k W' .non μ'' _ H le ((rr.floor (rel.up.trans le)).less l) .n hh
  .obtain⟨μ'',l,hh⟩:=hh;exact k W' d μ'' x H le ((rr.floor (rel.up.trans le)).less l) ee hh
end
def oN(K:Frag)(D:Addr):Bool :=
 W.findIn K (.ref D) "__getattribute__"==some (some (.builtin "BaseException.__getattribute__"))&&W.findIn K (.ref D) "__getattr__"==some none&&W.mroIn K D (.type "BaseException")==some true&&W.mroIn K D (.type "object")==some true &&
 W.findIn K (.ref D) "__class__"==some (some (.builtin "object.__class__"))&&W.specialIn K (.builtin "object.__class__") "__get__"==some (some (.builtin "getset_descriptor.__get__"))&&W.takesIn K (.builtin "object.__class__")==some true&&W.kitCls K (.ref D) (.ref D)==some true
theorem eI.of{D:Addr}(h:oN K D=true):eI K D:=by
 unfold oN at h;simp only[M9,beq_iff_eq] at h;obtain⟨⟨⟨⟨⟨⟨⟨h1,h2⟩,h3⟩,h4⟩,h5⟩,h6⟩,h7⟩,h8⟩:=h;exact⟨h1,h2,h3,h4,h5,h6,h7,h8⟩
def lz(K:Frag)(es ps ks hs:List Str):Bool:=es.all λc=>match clsOf K c with
 |none=>false
 |some C=>aS c&&oN K C&&(!ps.contains c||W.excIn K C bmV newV)&&W.kitOne K (.ref C) (.type "ValueError")==some true &&
  (ks.all λk=>match clsOf K k with
   |none=>false
   |some D=>W.kitOne K (.ref C) (.ref D)==some (c==k)) &&
  hs.all λk=>match clsOf K k with
   |none=>false
   |some D=>W.exmOne K (.ref C) (.ref D)==some true
class cR(K:Frag)(es:List Str)(ps:outParam (List Str))(ks:List Str)(hs:outParam (List Str)):Prop where
 ok:lz K es ps ks hs=true
section
variable{es:List Str}{c k:Str}{D:Addr}
theorem cR.row(t:cR K es ps ks hs)(hc:c∈es)(h:clsOf K c=some C):(aS c=true/\eI K C)/\(c∈ps->W.excIn K C bmV newV=true)/\W.kitOne K (.ref C) (.type "ValueError")=some true /\
  (∀k∈ks,∀D,clsOf K k=some D->W.kitOne K (.ref C) (.ref D)=some (c==k))/\∀k∈hs,∀D,clsOf K k=some D->W.exmOne K (.ref C) (.ref D)=some true:=by
 have e:=t.ok;unfold lz at e;have e:=Me.mp e c hc;rw[h] at e;simp only[M9,beq_iff_eq,Me,O6,NM] at e;obtain⟨⟨⟨⟨⟨e0,e1⟩,e2⟩,e3⟩,e4⟩,e5⟩:=e;refine⟨⟨e0,.of e1⟩,λhp=>e2.resolve_left (by rw[Po.mpr hp];simp),e3,λk hk D hD=>?_,λk hk D hD=>?_⟩
 .have:=e4 k hk;rw[hD] at this;simpa using this
 .have:=e5 k hk;rw[hD] at this;simpa using this
theorem cR.cf(t:cR K es ps ks hs)(hc:c∈es):aS c=true:=by
 have e:=t.ok;unfold lz at e;have e:=Me.mp e c hc;cases h:clsOf K c with
 |none=>rw[h] at e;cases e
 |some C=>exact(t.row hc h).1.1
theorem cR.exc(t:cR K es ps ks hs)(i:ah K c C)(hc:c∈es)(hp:c∈ps):W.excIn K C bmV newV=true:=(t.row hc i.at_).2.1 hp
end
def vf(es ks:List Str):DRs:=λds μ Q=>match ds with
 | [.exc c,.cls k]=>c∈es/\k∈ks/\Q (.bl (c==k)) μ
 | [.exc c,.ty n]=>c∈es/\n="ValueError"/\Q (.bl true) μ
 |_=>False
abbrev DX:=Str->Mu->Prop
abbrev DXE:=aj->DX
variable{Ex:DXE}
abbrev bf:=List D->Mu->DK->DX->Prop
class XR(K:Frag)(fl:Wd)(Ex:DXE)(E:St->XK):Prop where
 run:∀{W ρ μ σ H c C dx},Rel K fl W μ H->aw K W ρ σ->Ex ρ c μ->XAt K W c C dx->E σ (.ref C) dx H
def aM(K:Frag)(dsp:bf):Sp:=λvs H Q E=>∃fl W μ ds Q0 X0,Rel K fl W μ H/\zG K W ds vs/\dsp ds μ Q0 X0/\KV' K fl W Q0 Q/\∀W' c C μ' H' dx,W.le W'->Rel K fl W' μ' H'->X0 c μ'->XAt K W' c C dx->E (.ref C) dx H'
def fU(c:Str)(Ex:DXE)(w:DA):DS:=λ_ ρ μ=>w ρ μ λds μ1=>ds.length<=sizeLine/\Ex ρ c μ1
def iA(dsp:bf)(Ex:DXE)(n m:Nat)(pat:List Src)(cs:List D)(w wk:DA):DE:=λρ μ Q=>w ρ μ λds μ1=>wk ρ μ1 λes μ2=>dsp (sel n m pat .non cs ds es) μ2 Q (Ex ρ)
def b_(c m:Str)(dsp:bf)(Ex:DXE)(n j:Nat)(pat:List Src)(cs:List D)(wo:DE)(w wk:DA):DE:=λρ μ Q=>wo ρ μ λd μ1=>(e_ μ1 d λc' ns vs=>c'=c/\(ns.zip vs).lookup m=none)/\w ρ μ1 λds μ2=>wk ρ μ2 λes μ3=>dsp (sel n j pat .non cs (d::ds) es) μ3 Q (Ex ρ)
def iB(D:cp)(i:Nat):cp:={nx:=λρ μ=>D.nx (ρ.set i none) μ,rt:=D.rt,bk:=λρ μ=>D.bk (ρ.set i none) μ,ct:=λρ μ=>D.ct (ρ.set i none) μ}
def KZ(es:List Str)(i:Nat)(wb:DXE->DS)(wh:DS):DS:=λD ρ μ=>wb (λρ' c μ'=>c∈es/\wh (iB D i) (ρ'.set i (some (.exc c))) μ') D ρ μ
section
variable{E:St->XK}{t:TA}{w:DA}{n:Nat}{csD:List D}{c:Str}{dsp:bf}
instance[x:XR K fl Ex E][i:ah K c C][a:a7 K fl t w]:aP K fl (oK C E t) (fU c Ex w):=⟨λ{W ρ μ σ H D' D} r e h k=>a.run r e h λW1 ds μ1 xs H1 le1 r1 q1 h1=>⟨by rw[q1.length];exact h1.1,x.run r1 (e.mono le1) h1.2 (.inl ⟨i.at_,rfl,i.cf⟩)⟩⟩
instance[x:XR K fl Ex E][a:a7 K fl t w][b:a7 K fl tk wk][cr:gz K csD csV]:ac K fl (vd (aM K dsp) (sel n m pat .non csV) E t tk) (iA dsp Ex n m pat csD w wk):=⟨λ{W ρ μ σ H Q Q'} r e h k =>
 a.run r e h λW1 ds μ1 xs H1 le1 r1 q1 h1=>b.run r1 (e.mono le1) h1 λW2 es μ2 ys H2 le2 r2 q2 h2=>⟨fl,W2,μ2,_,Q,_,r2,kP (cr.run W2) (q1.mono le2) q2,h2,λW3 d μ3 x H3 le3=>k W3 d μ3 x H3 (le1.trans (le2.trans le3)),
  λW3 c C μ3 H3 dx3 le3 r3 h3 hc=>x.run r3 (e.mono (le1.trans (le2.trans le3))) h3 hc⟩⟩
instance{mt:Str}[x:XR K fl Ex E][o:ac K fl ta wa][a:a7 K fl t w][b:a7 K fl tk wk][cr:gz K csD csV]:ac K fl (ve K c mt (aM K dsp) (sel n j pat .non csV) E ta t tk) (b_ c mt dsp Ex n j pat csD wa w wk):=⟨λ{W ρ μ σ H Q Q'} r e h k =>
 o.run r e h λW1 d μ1 xx H1 le1 r1 q1 h1=>by
  obtain⟨c',C,p,dx,ns,vs,xs,hc,rfl,ea,l,z,rfl,hl⟩:=kS r1 q1 h1.1;refine⟨C,p,dx,_,hc,rfl,ea,z.lookup_none hl,a.run r1 (e.mono le1) h1.2 λW2 ds μ2 xs H2 le2 r2 q2 h2=>b.run r2 (e.mono (le1.trans le2)) h2 λW3 es μ3 ys H3 le3 r3 q3 h3=>?_⟩;exact⟨fl,W3,μ3,_,Q,_,r3,kP (cr.run W3) (.cons (q1.mono (le2.trans le3)) (q2.mono le3)) q3,h3,λW4 d4 μ4 x4 H4 le4=>k W4 d4 μ4 x4 H4 (le1.trans (le2.trans (le3.trans le4))),
   λW4 c C μ4 H4 dx4 le4 r4 h4 hc=>x.run r4 (e.mono (le1.trans (le2.trans (le3.trans le4)))) h4 hc⟩⟩
theorem aw.unset{W:Wd}{i:Nat}(e:aw K W ρ σ):aw K W (ρ.set i none) (σ.set i none):=⟨by simp[e.1],λj d h=>by
 by_cases hj:i=j
 .subst hj;by_cases hl:i < ρ.length
  .rw[Mj hl] at h;cases h
  .rw[LL (by simp;omega)] at h;cases h
 .rw[Ml hj] at h ⊢;exact e.2 j d h⟩
theorem dm.iz{W:Wd}{D:Ends}{i:Nat}(k:dm K fl W D' D):dm K fl W (iB D' i) (iz D i) :=
 ⟨λW' ρ μ σ H le r e h=>k.nx W' _ μ _ H le r e.unset h,λW' ρ μ σ H le r e h=>k.bk W' _ μ _ H le r e.unset h,λW' ρ μ σ H le r e h=>k.ct W' _ μ _ H le r e.unset h,k.rt⟩
theorem dm.lower{W:Wd}{fl':Wd}{D:Ends}(k:dm K fl W D' D)(h:fl.le W):dm K fl' W D' D :=
 ⟨λW' ρ μ σ H le r e hh=>k.nx W' _ μ _ H le (r.floor (h.trans le)) e hh,λW' ρ μ σ H le r e hh=>k.bk W' _ μ _ H le (r.floor (h.trans le)) e hh,λW' ρ μ σ H le r e hh=>k.ct W' _ μ _ H le (r.floor (h.trans le)) e hh,λW' d μ x H le r e hh=>k.rt W' d μ x H le (r.floor (h.trans le)) e hh⟩
end
class jz(K:Frag)(es:List Str)(Ch:Addr):Prop where
 run:∀c∈es,∀C,clsOf K c=some C->W.exmOne K (.ref C) (.ref Ch)=some true
 cf:∀c∈es,aS c=true
theorem cR.hd{es:List Str}{h:Str}(t:cR K es ps ks hs)(i:ah K h Ch)(hh:h∈hs):jz K es Ch:=⟨λc hc C hC=>(t.row hc hC).2.2.2.2 h hh Ch i.at_,λc hc=>t.cf hc⟩
structure XP(K:Frag)(fl:Wd) where
 Ex:DXE
 E:St->XK
 ok:XR K fl Ex E
instance(p:XP K fl):XR K fl p.Ex p.E:=p.ok
def cx(w:DXE->DS)(N:List Str)(n:Nat):bf:=λds μ Q X0=>ds.length=n/\w (λ_ c μ'=>∃ μ'',MLe μ'' μ'/\X0 c μ'') (ends Q) (jc N ds) μ
section
theorem Fun.okX{k n:Nat}(dw:DXE->DS)(F:Fun K x qual st f fd)(S:zP N ps (zz st))(len:ps.length=n)
  (hbody:∀(cdv:Value) (A:Around) (outer:List Env) (s:Shared) (H:Hp) (E:XK),bh k (A.deeper (envOfC qual (zz st) s.heap.objs.size f cdv)) ->
   ∃t,WSs (bR (CX1 P w) P w K mg base N qual (zz st) f cdv A outer s H E) (bY st) t/\∀fl Ex,XR K fl Ex (λ_=>E)->aP K fl t (dw Ex)):aa P w K mg base (CX1 P w) (k+1) f fd ps (aM K (cx dw N n)):=by
 obtain⟨oc,od,kV,doc,pm,an,cdv,ct,osl,rfl,lk,hcd⟩:=F.ex;refine nc lk hcd S (λvs H Q E h=>?_) λA outer s H vs Q E hr h=>?_
 .obtain⟨_,W,μ,ds,Q0,X0,_,r,h,_⟩:=h;rw[r.length,h.1,len]
 .obtain⟨fl,W,μ,ds,Q0,X0,rel,r,h,k,kx⟩:=h;obtain⟨t,ht,sm⟩:=hbody cdv A outer s H E hr;refine⟨t,ht.out,(sm W _ ⟨λ{W1 ρ1 μ1 σ1 H1 c C dx} r1 e1 ⟨μ'',l,h1⟩ hC=>kx W1 c C μ'' H1 dx r1.up ((r1.floor (rel.up.trans r1.up)).less l) h1 hC⟩).run (rel.floor (.refl W)) (.start r) h.2 ⟨λW' ρ μ σ H le rr ee hh=>?_,λ_ _ _ _ _ _ _ _ hh=>hh.elim,λ_ _ _ _ _ _ _ _ hh=>hh.elim,λW' d μ x H le rr ee hh=>?_⟩⟩
  .obtain⟨μ'',l,hh⟩:=hh;exact k W' .non μ'' _ H le ((rr.floor (rel.up.trans le)).less l) .n hh
  .obtain⟨μ'',l,hh⟩:=hh;exact k W' d μ'' x H le ((rr.floor (rel.up.trans le)).less l) ee hh
end
section
variable{E:St->XK}
theorem gL{a:Expr}{as:List Expr}{t:TA}(xm:XMk X E)(hm:X.mg x=some (.ref C))(hC:W.excIn X.K C bmV newV=true)(ha:WA X (a::as) t)(hc:X.calm=true:=by rfl)(hg:Gl X x:=by rfl)(hdb:(x==("__debug__":Str))=false:=by decide)
  (hst:∃y r,backTo cpos (starEach (a::as) X.env)=(false,y)::r:=by exact⟨_,_,rfl⟩)(hpl:(backTo cpos (starEach (a::as) X.env)).any (·.1)=false:=by rfl) :
  WS X (.Raise (some (.Call (.Name x np) (a::as) [] cpos)) none pos) (oK C E t):=⟨FZ xm hc hg hm hC ha.out hdb hst hpl⟩
theorem vg{i:Nat}{n:Str}(K:Frag)(hN:X.N.Nodup)(hm:X.mg x=some (.ref Ch))
  (hb:∀E xe pn,XOk (X.tr xe pn) E->WSs (X.tr xe pn) body (tb E))(hh:∀a,WSs (X.hand a) (b₀::suite) th)(hK:X.K=K:=by rfl)(hx:X.ex=[]:=by rfl)(hs:X.stack=X.env::X.outer:=by rfl)(hL:X.env.frame=some X.env.locals:=by rfl)(hi:X.N[i]? = some n:=by rfl)(hn:X.env.scope.names.lookup n=some .local:=by rfl)(hg:Gl X x:=by rfl)(hdb:(x==("__debug__":Str))=false:=by decide) :
  WS X (.Try body [.ExceptHandler (some (.Name x np)) (some n) (b₀::suite) hpos] [] [] pos) (oM K Ch i tb th):=hK▸⟨F5 hx hs hL hN hi hn hg hm (λE xe pn xo=>(hb E xe pn xo).out) (λa=>(hh a).out) hdb⟩
end
theorem F7:bootBuiltins "ValueError"=some (.type "ValueError"):=by decide+kernel
section
end
section
variable{cd:Value}{s:Shared}{E:XK}
theorem vh:PassesOwn (model (bR (CX1 P w) P w K mg base N qual scope f cd A outer s H E cm).prog (bR (CX1 P w) P w K mg base N qual scope f cd A outer s H E cm).w) (bR (CX1 P w) P w K mg base N qual scope f cd A outer s H E cm).A (bR (CX1 P w) P w K mg base N qual scope f cd A outer s H E cm).env (bR (CX1 P w) P w K mg base N qual scope f cd A outer s H E cm).xe:= .leaving
end
section
end
theorem K0{es:List Str}{c k:Str}:vf es ks [.exc c,.cls k] μ Q=(c∈es/\k∈ks/\Q (.bl (c==k)) μ):=rfl
theorem K1{es:List Str}{c:Str}{n:String}:vf es ks [.exc c,.ty n] μ Q=(c∈es/\n="ValueError"/\Q (.bl true) μ):=rfl
def vi:DR2:=λd e μ Q=>match d,e with
 | .int _,.bl _=>Q (.bl false) μ
 | .bl a,.bl b=>Q (.bl (a==b)) μ
 |_,_=>False
theorem K2{i:Int}{b:Bool}:vi (.int i) (.bl b) μ Q=Q (.bl false) μ:=rfl
theorem K3{a b:Bool}:vi (.bl a) (.bl b) μ Q=Q (.bl (a==b)) μ:=rfl
section
variable{E:St->XK}{k:Nat}{c:Str}{p:Pos}{e:Expr}{t:TA}{g:List Value->List Value->List Value}
end
def K4(c:Str)(dsp:bf)(Ex:DXE)(n j:Nat)(pat:List Src)(cs:List D)(w wk:DA):DE:=λρ μ Q=>w ρ μ λds μ1=>wk ρ μ1 λes μ2=>∀k,μ2 k=none->dsp (sel n j pat .non cs (.cell k::ds) es) (zY μ2 k (.ins c [] [])) (λd μ3=>d= .non/\Q (.cell k) μ3) (λx μ3=>∃ μ4,MLe μ4 μ3/\Ex ρ x μ4)
def K5(c:Str)(dsp:bf)(Ex:DXE)(n j:Nat)(pat:List Src)(cs:List D)(w wk:DA):DE:=λρ μ Q=>w ρ μ λds μ1=>wk ρ μ1 λes μ2=>∀k,μ2 k=none->dsp (sel n j pat .non cs (.cell k::ds) es) (zY μ2 k (.ins c [] [])) (λd μ3=>d= .non/\fH μ3 (.cell k) Q) (λx μ3=>∃ μ4,MLe μ4 μ3/\Ex ρ x μ4)
section
variable{E:St->XK}{c:Str}{dsp:bf}{n:Nat}{csD:List D}{t:TA}{w:DA}
end
def vj:DR2:=λd e μ Q=>match d,e with
 | .int i,.bl b=>Q (.int (i*if b=true then 1 else 0)) μ
 |d,e=>gD d e μ Q
theorem K6{i:Int}{b:Bool}:vj (.int i) (.bl b) μ Q=Q (.int (i*if b=true then 1 else 0)) μ:=rfl
theorem K7{i j:Int}:vj (.int i) (.int j) μ Q=(dL i j/\Q (.int (i*j)) μ):=rfl
abbrev TJ:=St->Hp->Str->(Str->Hp->Prop)->Prop
def vk:TJ:=λ_ H acc R=>R acc H
def vm(te:TE)(r:TJ):TJ:=λσ H acc R=>te σ H λv H1=>∃y,v= .str y/\(acc++y).length<=sizeLine/\r σ H1 (acc++y) R
def vn(te:TE):TE:=λσ H Q=>te σ H λv H1=>∃y,v= .str y/\y.length<=sizeLine/\Q (.str y) H1
def vo(l:TJ):TE:=λσ H Q=>l σ H LZ λout H1=>out.length<=sizeLine/\Q (.str out) H1
structure WJ(X:Cx)(es:List Expr)(t:TJ):Prop where
 out:∀(pins:List (Addr×Obj)) (s:Shared) (σ:St) (H:Hp) (acc:Str) (Q:VK),Inv X pins σ H s->t σ H acc (λout H1=>out.length<=sizeLine/\Q (.str out) H1)->wpAny (model X.prog X.w) X.A (joinParts acc (evalEach es X.env)) (EP X pins σ Q) X.xe s
section
variable{e:Expr}{t:TJ}
theorem F8:WJ X [] vk:=⟨λpins s σ H acc Q I h=>Sl ⟨.str acc,H,I.tok _,⟨_,rfl⟩,h.2⟩ h.1⟩
theorem vp(a:WE X e te)(b:WJ X es t):WJ X (e::es) (vm te t):=⟨λpins s σ H acc Q I h=>Ry (thn (a.out pins s σ H _ I h) λv s1 ⟨x,H1,I1,r,y,e,hz,q⟩=>by
 subst e;obtain⟨u,rfl⟩:=r;exact⟨hz,b.out pins s1 σ H1 _ _ I1 q⟩)⟩
theorem F9(a:WE X e te):WE X (.FormattedValue e (-1) none pos) (vn te):=⟨λpins s σ H Q I h=>PC (thn (a.out pins s σ H _ I h) λv s1 ⟨x,H1,I1,r,y,e,hz,q⟩=>by
 subst e;obtain⟨u,rfl⟩:=r;exact Rb (λt' tk=>⟨.str y,H1,I1.tok tk,⟨_,rfl⟩,q⟩) hz)⟩
theorem F_(a:WJ X (e::e2::es) t):WE X (.JoinedStr (e::e2::es) pos) (vo t):=⟨λpins s σ H Q I h=>Rz (a.out pins s σ H _ _ I h)⟩
end
abbrev DJ:=aj->Mu->Str->(Str->Mu->Prop)->Prop
def vq:DJ:=λ_ μ acc R=>R acc μ
def oO(w:DE)(r:DJ):DJ:=λρ μ acc R=>w ρ μ λd μ1=>match d with
 | .str y=>(acc++y).length<=sizeLine/\r ρ μ1 (acc++y) R
 |_=>False
def vt(w:DE):DE:=λρ μ Q=>w ρ μ λd μ1=>match d with
 | .str y=>y.length<=sizeLine/\Q (.str y) μ1
 |_=>False
def vv(l:DJ):DE:=λρ μ Q=>l ρ μ LZ λout μ1=>out.length<=sizeLine/\Q (.str out) μ1
class lA(K:Frag)(fl:Wd)(t:TJ)(w:DJ):Prop where
 run:∀{W ρ μ σ H acc} {R:Str->Mu->Prop} {R':Str->Hp->Prop},Rel K fl W μ H->aw K W ρ σ->w ρ μ acc R->(∀W' out μ' H',W.le W'->Rel K fl W' μ' H'->R out μ'->R' out H')->t σ H acc R'
section
variable{t:TJ}{w:DJ}
instance:lA K fl vk vq:=⟨λ{W ρ μ σ H acc R R'} r e h k=>k W acc μ H (.refl W) r h⟩
instance[a:ac K fl te we][b:lA K fl t w]:lA K fl (vm te t) (oO we w):=⟨λr e h k=>a.run r e h λW1 d μ1 x H1 le1 r1 q1 h1=>by
 cases d<;>first|exact h1.elim|skip
 rename_i y;exact⟨y,q1.s',h1.1,b.run r1 (e.mono le1) h1.2 λW2 out μ2 H2 le2=>k W2 out μ2 H2 (le1.trans le2)⟩⟩
instance[a:ac K fl te we]:ac K fl (vn te) (vt we):=⟨λr e h k=>a.run r e h λW1 d μ1 x H1 le1 r1 q1 h1=>by
 cases d<;>first|exact h1.elim|skip
 rename_i y;exact⟨y,q1.s',h1.1,k W1 (.str y) μ1 _ H1 le1 r1 .s h1.2⟩⟩
instance[b:lA K fl t w]:ac K fl (vo t) (vv w):=⟨λr e h k=>b.run r e h λW1 out μ1 H1 le1 r1 h1=>⟨h1.1,k W1 (.str out) μ1 _ H1 le1 r1 .s h1.2⟩⟩
end
section
variable{own free:List Str}
end
section
end
section
variable{te:(St->XK)->TE}{we:DXE->DE}{g:TG}{E:St->XK}
end
section
variable{g:Array GenState}{d:Drawn}{t:Nat}
variable{N:Addr}{bs:List Value}{sub:List Value}{k1 k2:Option Value}{B initId:String}
theorem Ga(F:ExcBaseFacts B newId initId bmB)(T:OwnTail h bmB bm){mN:Str->Option Value}{rest:List Value}{oI:Obj}{Q:Fin->Shared->Prop}
  (hC:h.get? C=some (excClassObj nm q C N bs bm hdct sn sub ab col dd k0 k1 k2 k3 k5 newId))(hn:h.Ns N mN)(hi:mN "__init__"=some (.ref fI))
  (hfI:h.get? fI=some oI)(hfc:oI.cls= .type "function")
  (hq:∀h' e,Rj h h' e (.ref C) rest ->
   wpAny (model prog w) A (call (.ref fI) (.ref e::rest)) (λr s'=>r= .none/\Q (.done (.ret (.ref e))) s') E ⟨h',g,d,t,os⟩) (hrest:rest.length<=sizeLine) :
  wpAny (model prog w) A (Builtin.«type.__call__» ⟨.ref C::rest,[]⟩) Q E ⟨h,g,d,t,os⟩:=by
 repeat (first|with_reducible refine Na hC ?_|with_reducible refine wpAny_madeBy_exc hC ?_|wp_step)
 refine codeAny_call_builtin_code (Code.quiet_builtin _ F.quiet) (wpAny_check_new_subT F T hC ?_);refine codeAny_exc_new_subT F T hC ?_ hrest;show wpAny _ _ _ _ _ _;have hC₁:=L4 {cls:= .ref C,data:= .fields #[.ref h.objs.size,.none,.none,.none,.bool false,.none]}
  (L4 {cls:= .type "tuple",data:= .seq rest.toArray} hC)
 have hfI₁:=L4 {cls:= .ref C,data:= .fields #[.ref h.objs.size,.none,.none,.none,.bool false,.none]}
  (L4 {cls:= .type "tuple",data:= .seq rest.toArray} hfI)
 have hn₁:((h.push {cls:= .type "tuple",data:= .seq rest.toArray}).push {cls:= .ref C,data:= .fields #[.ref h.objs.size,.none,.none,.none,.bool false,.none]}).Ns N mN :=
  let ⟨o,es,ep,e,r⟩:=hn;⟨o,es,ep,L4 _ (L4 _ e),r⟩
 have hget:((h.push {cls:= .type "tuple",data:= .seq rest.toArray}).push
   {cls:= .ref C,data:= .fields #[.ref h.objs.size,.none,.none,.none,.bool false,.none]}).get? (h.objs.size+1)=some
   {cls:= .ref C,data:= .fields #[.ref h.objs.size,.none,.none,.none,.bool false,.none]}:=by heap_get
 have hcC:(LH C::bm).contains (.ref C)=true:=by simp
 have T₁:=T.keeps (h':=(h.push {cls:= .type "tuple",data:= .seq rest.toArray}).push {cls:= .ref C,data:= .fields #[.ref h.objs.size,.none,.none,.none,.bool false,.none]})
  λb o e=>L4 _ (L4 _ e)
 unfold isInstance;repeat (first|with_reducible refine Na hget ?_ | (with_reducible refine Oz hC₁ ?_;rw[hcC])|wp_step)
 show wpAny _ _ (typeLookup (.ref C) _) _ _ _;refine wpAny_typeLookup_tail hC₁ hn₁ T₁ F.mroIs F.init.lookup ?_;rw[hi];refine M6 (L0 ?_);unfold bindSpecial;refine L0 (NV (T:="function") ⟨_,hfI₁,hfc⟩ ?_);rw[if_pos (by decide)];refine L6 (L0 (Ma (hq _ (h.objs.size+1) ⟨λb o hb=>L4 _ (L4 _ hb),Nw (MU _),h.objs.size,hget,Nw (Lp _),?_⟩) (λr s' hr=>?_) λ_ _ x=>x))
 .exact L4 _ (Qr rfl rfl)
 .obtain⟨rfl,hQ⟩:=hr;wp_walk
  exact hQ
theorem Gb(F:ExcBaseFacts B newId initId bmB)(T:OwnTail h bmB bm){mN:Str->Option Value}{rest:List Value}{oI:Obj}{Q:Value->Shared->Prop}
  (hC:h.get? C=some (excClassObj nm q C N bs bm hdct sn sub ab col dd k0 k1 k2 k3 k5 newId))(hn:h.Ns N mN)(hi:mN "__init__"=some (.ref fI))
  (hfI:h.get? fI=some oI)(hfc:oI.cls= .type "function")
  (hq:∀h' e,Rj h h' e (.ref C) rest ->
   wpAny (model prog w) (A.under (.builtin "type.__call__" ⟨.ref C::rest,[]⟩)) (call (.ref fI) (.ref e::rest)) (λr s'=>r= .none/\Q (.ref e) s') E ⟨h',g,d,t,os⟩) (hrest:rest.length<=sizeLine) :
  wpAny (model prog w) A (call (.ref C) rest) Q E ⟨h,g,d,t,os⟩:=by
 have f1:=tc_lookup;have f2:=tc_bind (.ref C);have hT:(⟨h,g,d,t,os⟩:Shared).TypeIs (.ref C) "type":=⟨_,hC,rfl⟩;refine Nc (Pn ?_);show wpAny _ _ (callAny (.ref C) _) _ _ _;repeat (any_goals (first|assumption|with_reducible refine Na hC ?_|wp_step))
 refine⟨rfl,?_⟩;refine codeAny_call_builtin_at (Code.quiet_builtin _ (by decide+kernel)) entry_typeCall (wpAny_check_type_call_sub hC (Ga (hrest:=hrest) F T hC hn hi hfI hfc λh' e hm=>?_));exact hq h' e hm
end
section
variable{N:Addr}{bs:List Value}{sub:List Value}{k1 k2:Option Value}
theorem Gc{s:Shared}{x:Sem Value}{Q:Flow->Shared->Prop}(hbase:bm.contains (.type "BaseException")=true)(hh:A.handled=none)
  (h:wpAny M A x (λv s₁=>∃e t od sl,v= .ref e/\s₁.heap.get? C=some (excClassObj nm q C N bs bm hdct sn sub ab col dd k0 k1 k2 k3 k5 newId) /\
   s₁.heap.get? e=some {cls:= .ref C,dict:=od,data:= .fields #[.ref t,.none,.none,.none,.bool false,.none],slots:=sl}/\E (.ref e) s₁) E s) :
  wpAny M A (raiseStmt env (some x) none) Q E s:=by
 have hcB:(LH C::bm).contains (.type "BaseException")=true:=by rw[Q7,hbase,Sw]
 unfold raiseStmt;refine L0 (Ma h (λv s₁ h₁=>?_) λ_ _ x=>x);obtain⟨e,t,od,sl,rfl,hC,he,hE⟩:=h₁;obtain⟨hp,g,d,tk,os⟩:=s₁;repeat (first|with_reducible refine Na he ?_|with_reducible refine Na hC ?_ | (with_reducible refine Oz hC ?_;rw[hcB])|wp_step)
 exact wpAny_raiseNew_none hh hE
end
theorem vw:Slot "wrapper_descriptor" "__get__" "wrapper_descriptor.__get__":= .of (owner:="wrapper_descriptor") (n:="__get__") (by rw[typeLookup_type,builtinLookup_eq_fast];kernel_rfl) (by decide+kernel) (by decide+kernel) (by decide+kernel)
 (by first|exact .inl (by decide+kernel)|exact .inr (by decide+kernel)) (by rw[Py];kernel_rfl)
theorem Gd:entryFor table "wrapper_descriptor.__get__"=some Builtin.«wrapper_descriptor.__get__»:= entryFor_of_tree (by kernel_rfl)
theorem Ge(a b c:Value):argsOk "wrapper_descriptor.__get__" ⟨[a,b,c],[]⟩:=by unfold argsOk;kernel_rfl
theorem Gf:typeOf (.builtin "ValueError.__init__")=pure (.type "wrapper_descriptor"):=by kernel_rfl
theorem vy:".".intercalate ("ValueError.__init__".cutAt '.').dropLast="ValueError":=by decide+kernel
section
variable{g:Array GenState}{d:Drawn}{t:Nat}
theorem Gg{so D x:Addr}{l₀ l:List Value}{K:W.Frag}{tk:Tok}{Q:Fin->Shared->Prop}
  (hso:h.get? so=some {cls:= .type "super",dict:=none,data:= .fields #[.ref D,.ref x,.ref C],slots:= #[]})(hno:W.Looks (model prog w) h (opaqueClassAbove (.ref C)) none)
  (hC:W.Looks (model prog w) h (mroOf (.ref C)) l₀)(hl:(l₀.dropWhile (· != .ref D)).drop 1=l)(X:K.In h)(hx:W.Looks (model prog w) h (typeOf (.ref x)) (.ref C))(hv:W.Looks (model prog w) h (isSubtype (.ref C) (.type "ValueError")) true)
  (hf:W.alongIn K name l=some (some (.builtin "ValueError.__init__")))(hxC:x≠C)(hn:(name==("__class__":Str))=false)
  (hq:Q (.done (.ret (.ref h.objs.size))) ⟨h.push {cls:= .type "method-wrapper",data:= .fields #[.builtin "ValueError.__init__",.ref x]},g,d,t,os⟩) :
  wpAny (model prog w) A (Builtin.«super.__getattribute__» ⟨[.ref so,.str name tk],[]⟩) Q E ⟨h,g,d,t,os⟩:=by
 have hlk:=vw.lookup;have hne:(LH x==LH C)=false:=by simp[hxC]
 have hTf:(⟨h,g,d,t,os⟩:Shared).TypeIs (.builtin "ValueError.__init__") "wrapper_descriptor":=Gf;have hdt:({cls:= .type "super",dict:=none,data:= .fields #[.ref D,.ref x,.ref C],slots:= #[]}:Obj).data= .fields #[.ref D,.ref x,.ref C]:=rfl;have f0:(#[.ref D,.ref x,.ref C]:Array Value)[0]? = some (.ref D):=rfl;have f1:(#[.ref D,.ref x,.ref C]:Array Value)[1]? = some (.ref x):=rfl;have f2:(#[.ref D,.ref x,.ref C]:Array Value)[2]? = some (.ref C):=rfl;have hov:=vy;unfold Builtin.«super.__getattribute__»;repeat (first
  | (with_reducible refine NG hso hdt f0 ?_) | (with_reducible refine NG hso hdt f1 ?_) | (with_reducible refine NG hso hdt f2 ?_)
  | (with_reducible refine ks_wpAny_notOpaque hno ?_)
  | (with_reducible refine W.Looks.at hC ?_;rw[hl])
  | (with_reducible refine W.Looks.at hx ?_)
  | (rw[vy];with_reducible refine W.Looks.at hv ?_)
  | (refine ks_forIn_along X (λ_ _=>rfl) rfl ?_ hf)
  | (with_reducible refine NV hTf ?_)
  | (with_reducible refine NF vw hTf Gd ?_ (Ge _ _ _))
  | (with_reducible refine⟨_,rfl,?_⟩)
  | (simp only[hn,hne,S8,Mb,if_false])
  |wp_step
  |dsimp only)
 all_goals exact hq
end
def iC:List Value->Bool
 | .ref _::r=>iC r
 |l=>l==bmV
theorem vz(self:Value):∀{l:List Value},iC l=true->refuseLoop self "__setattr__" l=pure ()
 | .ref c::r,e=>by rw[refuseLoop_ref];exact vz self e
 | [],e=>nomatch (show([]:List Value)=bmV from beq_iff_eq.mp e)
 | .type n::r,e=>by rw[show MP n::r=bmV from beq_iff_eq.mp e];kernel_rfl
 | .none::r,e=>nomatch (show Mv::r=bmV from beq_iff_eq.mp e)
 | .bool b::r,e=>nomatch (show Oo b::r=bmV from beq_iff_eq.mp e)
 | .int i t::r,e=>nomatch (show OC i t::r=bmV from beq_iff_eq.mp e)
 | .float i t::r,e=>nomatch (show Pw i t::r=bmV from beq_iff_eq.mp e)
 | .str i t::r,e=>nomatch (show MW i t::r=bmV from beq_iff_eq.mp e)
 | .builtin i::r,e=>nomatch (show OS i::r=bmV from beq_iff_eq.mp e)
 | .bytes i t::r,e=>nomatch (show QV i t::r=bmV from beq_iff_eq.mp e)
 | .ellipsis::r,e=>nomatch (show Value.ellipsis::r=bmV from beq_iff_eq.mp e)
section
variable{s:Shared}{K:W.Frag}{x:Addr}
theorem Gh{R:Result->Shared->Prop}{tk:Tok}(X:K.In s.heap)(I:W.InstAt s.heap x ox C none)(hc:W.clsIn K C=some cd)(hp:iC cd.mro=true)(ho:W.mroIn K C (.type "object")=some true)(ht:W.takerIn K C name=some none)
  (h:∀b,wpAny (model prog w) A.in1 (Qd (.ref x) (.ref C) (.str name tk) name v b)
   (λfin s'=>match fin with | .done f=>R (.ok f) s' | .again c'=>c'.quiet=true/\codeAny (model prog w) A c' R s') (λe s'=>R (.error e) s') s) :
  codeAny (model prog w) A (.call (.builtin "object.__setattr__") ⟨[.ref x,.str name tk,v],[]⟩) R s:=by
 have SF:=PySem.F.store_object;have sub:W.Looks (model prog w) s.heap (isInstance (.ref x) (.type "object")) true:=I.type.andThen (W.looks_mroIn X ho);refine NR SF.slot.plain SF.entry (@W.check_slot (model prog w) _ _ s "object.__setattr__" "object" "__setattr__" (.ref x) [.str name tk,v] [] _ SF.kind SF.split sub (SF.args (.ref x) (.str name tk) v) ?_);obtain⟨attr,ha,hr⟩:=Option.bind_eq_some_iff.mp ht;have hm:W.Looks (model prog w) s.heap (mroOf (.ref C)) cd.mro:=(W.looks_clsIn X hc).andThen .now;have L3:W.Looks (model prog w) s.heap (QK attr) none:=by
  cases attr with
  |none=>exact .now
  |some a =>
   obtain⟨b,hb,hq⟩:=LM.mp hr;refine(W.looks_takesIn X hb).andThen ?_;cases b
   .exact .now
   .cases hq
 rw[W.osa_eq,refuse_eq];refine L0 (L0 (I.type.here (L0 (hm.here ?_))));rw[vz _ hp];refine L6 (L0 (I.type.here (L0 ((W.looks_findIn X ha).here (L0 (L3.here ?_))))));exact h _
theorem Gi{Q:Unit->Shared->Prop}(X:K.In s.heap)(I:W.InstAt s.heap x ox C none)(hc:W.clsIn K C=some cd)(hd:cd.hasDict=true)(hp:iC cd.mro=true)(ho:W.mroIn K C (.type "object")=some true)(ht:W.takerIn K C name=some none)
  (hs:W.findIn K (.ref C) "__setattr__"=some (some (.builtin "object.__setattr__")))
  (hq:∀(h':Heap) (tk':Nat),h'.get? x=some {ox with dict:=some s.heap.objs.size}->h'.Ns1 s.heap.objs.size (λy=>if y=name then some v else none) ->
   (∀b o,b≠x->s.heap.get? b=some o->h'.get? b=some o)->Q () {s with heap:=h',toks:=tk'}) :
  wpAny (model prog w) A (setAttr (.ref x) name v) Q E s:=by
 refine W.set_plain X I hs (Gh (s:={s with toks:=s.toks+1}) X I hc hp ho ht λb=>?_);obtain⟨hx,hxc,hno,hdn⟩:=id I;obtain⟨hh,g,d,t,os⟩:=s;obtain⟨oc,od,odt,osl⟩:=ox;have hdn':od=none:=by cases od with|none=>rfl|some _=>exact hdn.elim
 subst hdn';have hxc':oc= .ref C:=hxc;subst hxc';have hx₁:(hh.push {cls:= .type "dict",data:= .dict #[]}).get? x=some ⟨.ref C,none,odt,osl⟩:=L4 _ hx;have hxs:x≠hh.objs.size:=LI (Ls hx);have hgd:((hh.push {cls:= .type "dict",data:= .dict #[]}).update x λo=>{o with dict:=some hh.objs.size}).get? hh.objs.size=some {cls:= .type "dict",data:= .dict #[]} :=
  (O0 _ _ _ _ hxs.symm).trans (Qr rfl rfl)
 have hnd:((hh.push {cls:= .type "dict",data:= .dict #[]}).update x λo=>{o with dict:=some hh.objs.size}).Ns hh.objs.size (λ_=>none) :=
  ⟨_, #[],_,hgd,rfl,λe he=>absurd he (by simp),λ_=>rfl⟩
 refine L0 (L6 (L0 (L0 (Ro hx (L0 (PZ (s:=⟨hh,g,d,t+1,os⟩) (PF X hc) ?_))))));rw[hd];rw[if_neg (by decide)];dsimp only;rw[if_neg (by simp[typeHasDict])];have go:∀{QQ:Option Addr->Shared->Prop} {EE:Value->Shared->Prop},(QQ (some hh.objs.size) ⟨(hh.push {cls:= .type "dict",data:= .dict #[]}).update x λo=>{o with dict:=some hh.objs.size},g,d,t+1,os⟩) ->
   wpAny (model prog w) A.in1 (do
    let d<-alloc {cls:=MP "dict",data:=Data.dict #[]}
    update x λo=>{cls:=o.cls,dict:=some d,data:=o.data,slots:=o.slots}
    dictMade (.ref C) x d) QQ EE ⟨hh,g,d,t+1,os⟩:=λh=>L0 (wpAny_alloc (L0 (wpAny_update hx₁ (L6 h))))
 split
 .rename_i c;exact absurd hno (by unfold W.notCls;simp)
 .refine go ?_;show wpAny _ _ (Ou hh.objs.size (.str name _) name v) _ _ _;unfold Ou QL;refine L0 (L6 (L0 (Sy (Qi hnd) λh' hn' hs=>?_)));obtain⟨oD,esD,epD,hoD,hdD,hcD⟩:=hn'.count (Within.cons name v Within.nil);refine L0 (QR hoD (by rw[hdD];exact QS (LU hcD (by rw[LF,Ov,MV];omega))) ?_);refine L6 (hq h' (t+1+1) ((hs.2 x hxs).trans (Nq _ hx₁ ?_)) hn' λb o hbx hb=>(hs.2 b (LI (Ls hb))).trans ((O0 _ _ _ _ hbx).trans (L4 _ hb)));have hfr:=(Heap.get?_some_iff.mp hx).2;cases odt<;>first|rfl|exact hfr
end
section
variable{g:Array GenState}{d:Drawn}{t:Nat}
theorem Gj{so D x:Addr}{l₀ l:List Value}{K:W.Frag}{pl:Sem Bool}{Q:Value×List Value->Shared->Prop}
  (hso:h.get? so=some {cls:= .type "super",dict:=none,data:= .fields #[.ref D,.ref x,.ref C],slots:= #[]})(hno:W.Looks (model prog w) h (opaqueClassAbove (.ref C)) none)
  (hC:W.Looks (model prog w) h (mroOf (.ref C)) l₀)(hl:(l₀.dropWhile (· != .ref D)).drop 1=l)(X:K.In h)(hx:W.Looks (model prog w) h (typeOf (.ref x)) (.ref C))(hv:W.Looks (model prog w) h (isSubtype (.ref C) (.type "ValueError")) true)
  (hf:W.alongIn K name l=some (some (.builtin "ValueError.__init__")))(hxC:x≠C)(hn:(name==("__class__":Str))=false)
  (hq:Q (.ref h.objs.size,[]) ⟨h.push {cls:= .type "method-wrapper",data:= .fields #[.builtin "ValueError.__init__",.ref x]},g,d,t+1,os⟩) :
  wpAny (model prog w) A (getMethod (.ref so) name pl) Q E ⟨h,g,d,t,os⟩:=by
 have hlk:=F.ks_slot_super_ga.lookup;have hcan:=F.ks_canon_super_ga;have hT:∀t',(⟨h,g,d,t',os⟩:Shared).TypeIs (.ref so) "super":=λ_=>⟨_,hso,rfl⟩
 unfold getMethod;refine L0 (Pk (hT _) hlk ?_);show wpAny _ _ (if (Manifest.canonical "super.__getattribute__" !="object.__getattribute__")=true then _ else _) _ _ _;rw[if_pos hcan];unfold getAttr getAttrBy;refine L0 (L0 (QA (M6 (L0 (NV (hT _) (L0 (R1 hlk ?_)))))));show wpAny _ _ (getAttrByItsOwn (.ref so) (.str name t) (.type "super") (.builtin "super.__getattribute__") true false) _ _ _;unfold getAttrByItsOwn hookBefore callGetattribute boundAndCalled;refine L0 (R1 (show(if onTheHeap (.type "super") then typeLookup (.type "super") "__getattr__" else pure none)=pure none from rfl) ?_);refine L0 (OX (M6 ?_));show wpAny _ _ (bindSpecial (.builtin "super.__getattribute__") (.ref so) >>= _) _ _ _;refine L0 (R1 (F.ks_slot_super_ga.bind _) ?_);refine Ma (Q:=λv s'=>v= .ref h.objs.size/\s'=⟨h.push {cls:= .type "method-wrapper",data:= .fields #[.builtin "ValueError.__init__",.ref x]},g,d,t+1,os⟩) (E:=λ_ _=>False)
  (NF F.ks_slot_super_ga (hT _) F.ks_entry_super_ga (Gg hso hno hC hl X hx hv hf hxC hn ⟨_,rfl,rfl,rfl⟩) (F.ks_gaArgs_super _ _)) (λv s' hv=>?_) λ_ _ z=>z.elim
 obtain⟨rfl,rfl⟩:=hv;exact L6 (L6 hq)
theorem Gk{N x:Addr}{bs:List Value}{sub:List Value}{k1 k2:Option Value}{a:Value}{Q:Unit->Shared->Prop}
  (hC:h.get? C=some (excClassObj nm q C N bs bm hdct sn sub ab col dd k0 k1 k2 k3 k5 newId))(T:OwnTail h bmV bm)(he:h.get? x=some ox)(hcls:ox.cls= .ref C)(hq:Q () ⟨h,g,d,t,os⟩) :
  wpAny M A (checkBoundCall "ValueError.__init__" ⟨[.ref x,a],[]⟩) Q E ⟨h,g,d,t,os⟩:=by
 have F:=F.excBase_ValueError;have hcB:(LH C::bm).contains (.type "ValueError")=true:=by rw[Q7,T.hasType F.hasB,Sw]
 have hshort:=F.noStar;simp only[checkBoundCall,F.initKind,F.initRow];repeat (first | (with_reducible refine Na he ?_;rw[hcls])|with_reducible refine Na hC ?_ | (with_reducible refine Oz hC ?_;rw[hcB])|wp_step)
 exact hq
theorem Gm{qn:Str}{N:Addr}{bs:List Value}{sub:List Value}{k1 k2:Option Value}{q x:Addr}{t0:Addr}{a:Value}{vs:Array Value}{Q:Value->Shared->Prop}(hC:h.get? C=some (excClassObj nm qn C N bs bm hdct sn sub ab col dd k0 k1 k2 k3 k5 newId))(T:OwnTail h bmV bm)(hxc:ox.cls= .ref C)(hq:h.get? q=some {cls:= .type "method-wrapper",data:= .fields #[.builtin "ValueError.__init__",.ref x]})
  (hx:h.get? x=some ox)(hd:ox.data= .fields vs)(h0:vs[0]? = some (.ref t0))
  (k:Q .none ⟨(h.push {cls:= .type "tuple",data:= .seq #[a]}).update x (Obj.mapFields λy=>y.setIfInBounds 0 (.ref h.objs.size)),g,d,t,os⟩) :
  wpAny (model prog w) A (call (.ref q) [a]) Q E ⟨h,g,d,t,os⟩:=by
 refine Nc (Pn ?_);show wpAny _ A.in1 (callAny (.ref q) ⟨[a],[]⟩) _ _ _;unfold callAny;refine L0 (Rn hq ?_);show wpAny _ _ (checkBoundCall "ValueError.__init__" ⟨[.ref x,a],[]⟩ >>= λ_=>again (.builtin "ValueError.__init__" ⟨[.ref x,a],[]⟩)) _ _ _;refine L0 (Gk hC T hx hxc (L6 ⟨Sk (by decide+kernel) _,NK F.excBase_ValueError.initEntry ?_⟩));rw[Around.under_plainId (by decide+kernel) _];have hsz:0 < vs.size:=by
  rcases Of 0 vs.size with z|z
  .exact z
  .rw[MH z] at h0;cases h0
 have hxp:(h.push {cls:= .type "tuple",data:= .seq #[a]}).get? x=some ox:=L4 _ hx;unfold Builtin.«BaseException.__init__»;dsimp only;rw[if_neg (by decide)];refine L0 (N0 ?_ (by size_fits));unfold QW;refine L0 (L0 (NG hxp hd h0 (L0 (Pz hxp hd hsz ?_))));wp_walk
 exact k
end
theorem Gn{s:Shared}{q:Addr}{fs:Array Value}{arg:Expr}{Q:Value->Shared->Prop}
  (h:wpAny M A (eval arg env) (λv s₁=>s₁.heap.get? q=some {cls:= .type "method-wrapper",data:= .fields fs}/\wpAny M A (call (.ref q) [v]) Q E s₁) E s)
  (he:starEach [arg] env=[(false,eval arg env)]:=by rfl):wpAny M A (callWith pos (.ref q) [] (backTo pos (starEach [arg] env)) []) Q E s:=by
 refine W.callWith_of (P:=λh=>h.get? q=some {cls:= .type "method-wrapper",data:= .fields fs}) (by rw[he];rfl) (λh ho=>⟨.machine,.inr (.inl rfl),(W.Looks.ld (part:=none) ho).andThen .now⟩) ?_;rw[he];refine Calls.evalArgs_plain ?_;show wpAny _ _ (spliced ((false,eval arg env)::backTo pos [])) _ _ s;exact Calls.spliced_cons (Ma h (λv s₁ h₁=>L6 h₁) λ_ _ z=>z)
def fText(x z:Str):List Expr->Str->Option Str
 | [],acc=>some acc
 | .Constant (.str y) _ _::r,acc=>if (acc++y).length<=sizeLine then fText x z r (acc++y) else none
 | .FormattedValue (.Name n _) (-1) none _::r,acc=>if n=x/\(n==("__debug__":Str))=false/\(acc++z).length<=sizeLine/\z.length<=sizeLine then fText x z r (acc++z) else none
 |_::_,_=>none
section
variable{m:Str->Option Value}{out:Str}{tk:Tok}{Q:Value->Shared->Prop}
theorem oP(hk:env.scope.kind= .function)(hl:env.kindOf x=some .local)(hv:m x=some (.str z tk)):∀{es:List Expr} {acc:Str} {s:Shared},s.heap.Ns env.locals m->fText x z es acc=some out->out.length<=sizeLine->(∀t1 t2,Q (.str out t1) {s with toks:=t2}) ->
  wpAny (model prog w) A (joinParts acc (evalEach es env)) Q E s
 | [],acc,s,hn,e,hz,h=>by
  cases e;exact Sl (h _ _) hz
 |e::r,acc,s,hn,hf,hz,h=>by
  refine(show wpAny (model prog w) A (joinParts acc (eval e env::evalEach r env)) Q E s from Ry ?_);unfold fText at hf;split at hf
  .rename_i he;cases he
  .rename_i y k p r' acc' he;cases he;split at hf
   .rename_i hle;exact Calls.Constant_str ⟨hle,oP hk hl hv (s:={s with toks:=s.toks+1}) hn hf hz λt1 t2=>h t1 t2⟩
   .cases hf
  .rename_i n p1 p2 r' acc' he;cases he;split at hf
   .rename_i hc;obtain⟨hx,hd,hle,hzl⟩:=hc;rw[hx] at hd;rw[hx];refine PC (OH (NA hk hl hn hv (Rb (λt' tk'=>⟨hle,oP hk hl hv (s:={s with toks:=tk'}) hn hf hz λt1 t2=>h t1 t2⟩) hzl)) hd)
   .cases hf
  .cases hf
theorem Go{s:Shared}(hk:env.scope.kind= .function)(hl:env.kindOf x=some .local)(hv:m x=some (.str z tk))(hn:s.heap.Ns env.locals m)(hf:fText x z (e1::e2::es) LZ=some out)(hz:out.length<=sizeLine)
  (h:∀t1 t2,Q (.str out t1) {s with toks:=t2}):wpAny (model prog w) A (eval (.JoinedStr (e1::e2::es) pos) env) Q E s:=Rz (oP hk hl hv hn hf hz h)
end
abbrev lB(e1 e2:Expr)(es:List Expr)(x:Str)(p0 p1 p2 p3 p4 p5 p6 p7 p8 p9:Pos):List Stmt :=
 [.Expr (.Call (.Attribute (.Call (.Name "super" p0) [] [] p1) "__init__" p2) [.JoinedStr (e1::e2::es) p3] [] p4) p5,.Assign [.Attribute (.Name "self" p6) x p7] (.Name x p8) p9]
abbrev fj(C t:Addr):Obj:={cls:= .ref C,data:= .fields #[.ref t,.none,.none,.none,.bool false,.none]}
theorem Gp{o:Expr}{e:Expr}(hl:apos.endLine=pos.line)(he:starEach [e] env=[(false,eval e env)]:=by rfl):eval (.Call (.Attribute o name apos) [e] [] pos) env=(do
  let ov<-attributeBase o name env (eval o env)
  standAt apos.atName
  let (f,first)<-holding [ov] (getMethod ov name (do return (<- importBound o env).getD true))
  callWith pos f first (backTo pos (starEach [e] env)) []):=by
 have hpos:methodCallPos true o env apos pos=pure pos:=by unfold methodCallPos;simp[hl]
 have hform:methodCallForm ([e].length+([]:List Keyword).length) (backTo pos (starEach [e] env)) (backToKw pos (keywordEach [] env))=true:=by rw[he];rfl
 rw[arm_eval_Call];unfold methodCall calleeOf;rw[hform,hpos];simp only[if_true,pure_bind];rfl
section
variable{s:Shared}{K:W.Frag}{mb:Str->Option Value}{out:Str}{tk:Tok}{p0 p1 p3 p4 p5 p6 p7 p8 p9:Pos}{Q:Value->Shared->Prop}
 {cda cc e t:Addr}{od cdd cld an:Option Addr}{oc ccl cl dV kV doc pm ct:Value}{osl ccs csl:Array (Option Value)}{vs:Array Value}{file:Str}{tf:Tok}{ar:Arg}
 {qn:Str}{N:Addr}{bs:List Value}{sub:List Value}{k1 k2:Option Value}
theorem Gq(X:K.In s.heap)(hg:s.heap.Ns mainGlobals mg)(hsup:mg "super"=none)(hb:s.heap.Ns builtinsNs mb)(hbs:mb "super"=some (.type "super"))(hlim:s.heap.NoLimit)(hroom:A.depth < recursionLimit)
  (lk:K.lookup fI=some ⟨oc,od,.func (W.ksFn "__init__" qual params (lB e1 e2 es x p0 p1 p2 p3 p4 p5 p6 p7 p8 p9) scope dV kV doc pm an (.ref cda) ct cc),osl⟩)(hcd:W.codeIn K (.ref cda) qual=true)
  (hcda:K.lookup cda=some ⟨ccl,cdd,.fields vs,ccs⟩)(hvs:vs[2]? = some (.str file tf))(hfile:((prog.main.file:Str)==file)=true)(htop:(prog.main.scope.names.lookup ("super":Str)).isSome=false)
  (hcc:K.lookup cc=some ⟨cl,cld,.cell (some (.ref C)),csl⟩)(hC:W.clsIn K C=some cd)(hhd:cd.hasDict=true)(hpe:iC cd.mro=true)(hself:W.mroIn K C (.ref C)=some true)(hobj:W.mroIn K C (.type "object")=some true)(hve:W.mroIn K C (.type "ValueError")=some true)
  (hop:W.nsIn K cStatics "thirdparty.any"=some none)(hal:W.ks_superIn K C C "__init__"=some (some (.builtin "ValueError.__init__")))(htk:W.takerIn K C x=some none)(hsa:W.findIn K (.ref C) "__setattr__"=some (some (.builtin "object.__setattr__")))
  (hcls:s.heap.get? C=some (excClassObj nm qn C N bs bm hdct sn sub ab col dd k0 k1 k2 k3 k5 newId))(hT:OwnTail s.heap bmV bm)(hce:C≠e)
  (hbind:BindsTo s (W.ksFn "__init__" qual params (lB e1 e2 es x p0 p1 p2 p3 p4 p5 p6 p7 p8 p9) scope dV kV doc pm an (.ref cda) ct cc) ⟨[.ref e,.str z tk],[]⟩ [("self",.ref e),(x,.str z tk)])(hp:(params.posonlyargs++params.args).head? = some ar)(har:ar.arg="self")
  (hks:scope.names.lookup ("super":Str)=some .globalImplicit)(hkc:scope.names.lookup ("__class__":Str)=some .free)(hsl:scope.names.lookup ("self":Str)=some .local)(hxl:scope.names.lookup x=some .local)(hxs:x≠"self")(hxd:(x==("__debug__":Str))=false)
  (hcell:∀y∈scope.names,y.2≠ .cell)(hk:scope.kind= .function)(hco:scope.isCoroutine=false)(hgen:scope.isGenerator=false)
  (hf:fText x z (e1::e2::es) LZ=some out)(hz:out.length<=sizeLine)
  (hx:s.heap.get? e=some (fj C t))(hln:p2.endLine=p4.line)(hKe:K.lookup e=none)
  (q:∀(h':Heap) (tk':Nat) (t2 dx:Addr),h'.get? e=some {fj C t2 with dict:=some dx}->h'.Ns1 dx (λy=>if y=x then some (.str z tk) else none)->s.heap.get? dx=none->(∀b o,b≠e->s.heap.get? b=some o->h'.get? b=some o)->Q .none {s with heap:=h',toks:=tk'}) :
  wpAny (model prog w) A (call (.ref fI) [.ref e,.str z tk]) Q E s:=by
 obtain⟨sk,sns,sg,sco,smo⟩:=scope;obtain rfl:sk= .function:=hk;obtain rfl:sg=false:=hgen;obtain rfl:sco=false:=hco;refine Nc (ks_codeAny_call_defAt hroom (X _ _ lk) rfl hlim (W.codeRec_of X hcd) rfl hbind hcell (λy hy=>?_) (λh1 hns1 kp1=>?_))
 .rcases Lz.mp hy with rfl|hy
  .exact hsl
  .rw[Lo.mp hy];exact hxl
 have hm1:∀v,([("self",LH e),(x,v)]:List (Str×Value)).reverse.lookup ("self":Str)=some (.ref e):=λv=>by
  simp[LS,beq_eq_false_iff_ne.mpr (Ne.symm hxs)]
 have hm2:∀v,([("self",LH e),(x,v)]:List (Str×Value)).reverse.lookup x=some v:=λv=>by simp[LS]
 have X1:K.In h1:=X.keeps kp1;have ksup:∀{Q':Value->Shared->Prop} {E':Value->Shared->Prop} {A':Around} {s':Shared},(∀b o,h1.get? b=some o->s'.heap.get? b=some o)->Q' (.type "super") s'->wpAny (model prog w) A' (loadName (W.ksEnv qual ⟨.function,sns,false,false,smo⟩ s.heap.objs.size fI (.ref cda) cc) "super") Q' E' s':=λk hq =>
  W.ks_loadName_global rfl hks (Calls.loadGlobal_builtin ((hg.keeps kp1).keeps k) hsup ((hb.keeps kp1).keeps k) hbs hq)
 obtain⟨oD,hD1,hD2⟩:∃oD,h1.get? C=some oD/\oD.data= .cls cd:=by
  unfold W.clsIn at hC;split at hC
  .rename_i c d cd' sl ho;cases hC;exact⟨_,X1 _ _ ho,rfl⟩
  .cases hC
 have I1:W.InstAt h1 e (fj C t) C none:=⟨kp1 _ _ hx,rfl,rfl,trivial⟩;refine Qc (ks_wpAt_Expr_any (ks_wpAt_MethodCall (he:=Gp hln) (ks_wpAt_super_base (env:=W.ksEnv qual ⟨.function,sns,false,false,smo⟩ s.heap.objs.size fI (.ref cda) cc) hks hkc (by decide+kernel) rfl (X1 _ _ lk) rfl hp rfl (X1 _ _ hcda) rfl hvs hfile htop ?_)));refine ksup (λ_ _ z=>z) ⟨rfl,?_⟩;refine PM rfl hkc rfl ⟨_,X1 _ _ hcc,rfl⟩ ?_;rw[har];refine NA rfl hsl hns1 (hm1 _) ?_;refine ks_wpAny_isType_cls hD1 hD2 ⟨rfl,?_⟩;refine ks_wpAny_call_super hD1 hD2 I1.at_ rfl (λc h=>nomatch h) (W.looks_mroIn X1 hself) (λh2 e2' k2=>?_);have X2:K.In h2:=X1.keeps k2;have I2:W.InstAt h2 e (fj C t) C none:=⟨k2 _ _ I1.at_,rfl,rfl,trivial⟩;unfold W.ks_superIn at hal;rw[hC] at hal;refine Gj e2' (W.looks_opaque X2 hop) (l₀:=cd.mro) (λA Q E s k q=>L0 ((W.looks_clsIn X2 hC) A _ E s k (L6 q))) rfl X2 I2.type (W.looks_mroIn X2 hve) hal (Ne.symm hce) (by decide+kernel) ?_;have hq3:(h2.push {cls:= .type "method-wrapper",data:= .fields #[.builtin "ValueError.__init__",.ref e]}).get? h2.objs.size=some {cls:= .type "method-wrapper",data:= .fields #[.builtin "ValueError.__init__",.ref e]}:=LG h2 rfl;have k3:∀b o,h2.get? b=some o->(h2.push {cls:= .type "method-wrapper",data:= .fields #[.builtin "ValueError.__init__",.ref e]}).get? b=some o:=λb o q=>L4 _ q
 generalize (h2.push {cls:= .type "method-wrapper",data:= .fields #[.builtin "ValueError.__init__",.ref e]})=h3 at hq3 k3 ⊢
 have k13:∀b o,h1.get? b=some o->h3.get? b=some o:=λb o q=>k3 b o (k2 b o q)
 refine Gn (Go rfl hxl (hm2 _) (hns1.keeps k13) hf hz λt1 t2=>⟨hq3,?_⟩);refine Gm (k13 _ _ (kp1 _ _ hcls)) ((hT.keeps kp1).keeps k13) (ox:=fj C t) rfl hq3 (k13 _ _ I1.at_) rfl rfl ?_;have hsz3:h3.objs.size≠e:=λz=>absurd (Ls (k13 _ _ I1.at_)) (by rw[z];exact Mr _)
 have he4:((h3.push {cls:= .type "tuple",data:= .seq #[MW out t1]}).update e (Obj.mapFields λy=>y.setIfInBounds 0 (.ref h3.objs.size))).get? e=some (fj C h3.objs.size):=Nq _ (L4 _ (k13 _ _ I1.at_)) rfl;have k4:∀b o,b≠e->h3.get? b=some o->((h3.push {cls:= .type "tuple",data:= .seq #[MW out t1]}).update e (Obj.mapFields λy=>y.setIfInBounds 0 (.ref h3.objs.size))).get? b=some o:=λb o hb q=>(Mf _ _ (Ne.symm hb)).trans (L4 _ q)
 generalize ((h3.push {cls:= .type "tuple",data:= .seq #[MW out t1]}).update e (Obj.mapFields λy=>y.setIfInBounds 0 (.ref h3.objs.size)))=h4 at he4 k4 ⊢
 have k14:∀b o,b≠e->h1.get? b=some o->h4.get? b=some o:=λb o hb q=>k4 b o hb (k13 b o q)
 have X4:K.In h4:=λa o ho=>k14 a o (λz=>by subst z;rw[hKe] at ho;cases ho) (X1 a o ho)
 have hLe:s.heap.objs.size≠e:=λz=>absurd (Ls hx) (by rw[z];exact Mr _)
 have hns4:h4.Ns s.heap.objs.size (λy=>([("self",LH e),(x,MW z tk)]:List (Str×Value)).reverse.lookup y):=by
  obtain⟨o,es',ep,ho,r⟩:=hns1;exact⟨o,es',ep,k14 _ _ hLe ho,r⟩
 refine Qc (ks_wpAt_Assign_Attr (Sm (OH (NA rfl hxl hns4 (hm2 _) (OH (NA rfl hsl hns4 (hm1 _) ?_))) hxd)));refine Gi X4 (ox:=fj C h3.objs.size) ⟨he4,rfl,rfl,trivial⟩ hC hhd hpe hobj htk hsa (λh5 tk5 o5 n5 k5=>?_);refine Sm (L6 ?_);refine q h5 tk5 h3.objs.size h4.objs.size o5 n5 ?_ λb o hb e'=>k5 b o hb (k14 b o hb (kp1 b o e'))
 cases r:s.heap.get? h4.objs.size with
 |none=>rfl
 |some o=>exact absurd (Ls (k14 _ _ (λz=>absurd (Ls he4) (by rw[<- z];exact Mr _)) (kp1 _ _ r))) (Mr _)
end
theorem Gr{K:W.Frag}{N:Addr}{m:Str->Option Value}{n:Str}(X:K.In h)(G:h.Ns N m)(e:W.nsIn K N n=some (some v)):m n=some v:=by
 obtain⟨o,es,ep,ho,hd,_,hf⟩:=G;unfold W.nsIn at e;split at e
 .rename_i c d es' n' sl q;have:=X _ _ q;rw[ho] at this;cases this;cases hd;split at e
  .rename_i en he;cases e;rw[<- hf];unfold nsFind findBy;rw[<- PY,he];rfl
  .split at e<;>cases e
 .cases e
def lC(K:W.Frag)(C:Addr)(bmB:List Value)(newId:String)(fI:Addr):Bool:=match K.lookup C with
 |some ⟨.type "type",_,.cls cd,sl⟩=>(match cd.mro,sl.toList with
  | .ref C'::bm,[_,_,_,_,some (.builtin n),_]=>C'==C&&n==newId&& !cd.hasDel&&W.tailIn K bmB bm&&W.nsOkIn K cd.ns&&W.nsIn K cd.ns "__init__"==some (some (.ref fI))
  |_,_=>false)
 |_=>false
theorem vA{K:W.Frag}(KX:K.In h)(e:lC K C bmB newId fI=true) :
  ∃bm N nm q bs hdct sn sub ab col dd k0 k1 k2 k3 k5 mN,h.get? C=some (excClassObj nm q C N bs bm hdct sn sub ab col dd k0 k1 k2 k3 k5 newId)/\h.Ns N mN/\mN "__init__"=some (.ref fI)/\OwnTail h bmB bm:=by
 unfold lC at e;split at e
 .rename_i dict cd sl hl;split at e
  .rename_i C' bm k0 k1 k2 k3 n k5 hm hs;simp only[M9,beq_iff_eq,NM] at e;obtain⟨⟨⟨⟨⟨e1,e2⟩,e3⟩,e4⟩,e5⟩,e6⟩:=e;subst e1;subst e2;obtain⟨nm,bs,mro,ns,qn,hdct,sn,sub,ab,col,hdel⟩:=cd;have hm':mro= .ref C'::bm:=hm;have e3':hdel=false:=e3;subst hm';subst e3';have hsl:sl= #[k0,k1,k2,k3,some (.builtin n),k5]:=by
    have:=congrArg Pa hs;simpa using this
   subst hsl;have hN:=R8 (W.isNs_of_in KX e5);exact⟨bm,ns,nm,qn,bs,hdct,sn,sub,ab,col,dict,k0,k1,k2,k3,k5,h.nsMap ns,KX _ _ hl,hN,Gr KX hN e6,W.tail_of_in KX e4⟩
  .cases e
 .cases e
structure dD(P:Program)(w:World)(K:W.Frag)(mg:Str->Option Value)(c fld:Str)(f:Str->Option Str):Prop where
 ex:∃C fI oI,clsOf K c=some C/\mg c=some (.ref C)/\lC K C bmV newV fI=true/\K.lookup fI=some oI/\oI.cls= .type "function"/\W.mroIn K C (.type "BaseException")=some true /\
  ∀{A:Around} {E:Value->Shared->Prop} {s:Shared} {z out:Str} {tk:Tok} {e t:Addr} {Q:Value->Shared->Prop},K.In s.heap->s.heap.Ns mainGlobals mg->(∃mb,s.heap.Ns builtinsNs mb/\∀x:Str,x≠"__name__"->mb x=bootBuiltins x)->s.heap.NoLimit->A.depth < recursionLimit->K.lookup e=none ->
   f z=some out->out.length<=sizeLine->s.heap.get? e=some (fj C t) ->
   (∀(h':Heap) (tk':Nat) (t2 dx:Addr),h'.get? e=some {fj C t2 with dict:=some dx}->h'.Ns1 dx (λy=>if y=fld then some (.str z tk) else none)->s.heap.get? dx=none->(∀b o,b≠e->s.heap.get? b=some o->h'.get? b=some o)->Q .none {s with heap:=h',toks:=tk'}) ->
   wpAny (model P w) A (call (.ref fI) [.ref e,.str z tk]) Q E s
def oQ(K:W.Frag)(c fld:Str)(f:Str->Option Str)(E:St->XK)(t:TE):TS:=λ_ σ H=>t σ H λv H1=>∃z out C,v= .str z/\f z=some out/\out.length<=sizeLine/\clsOf K c=some C/\∀dx,H1 dx=none->E σ (.ref C) (some dx) (upd H1 dx (.xd [(fld,.str z)]))
section
variable{E:St->XK}{k:Nat}{c:Str}{f:Str->Option Str}{a:Expr}{t:TE}
theorem Gs(xm:XMk X E)(hc:X.calm=true)(hI:dD X.prog X.w X.K X.mg c fld f)(hr:bh (k+1) X.A)(hg:Gl X c)(ha:PE X a t)(hdb:(c==("__debug__":Str))=false:=by decide)
  (hst:starEach [a] X.env=[(false,eval a X.env)]:=by rfl) :
  PS X (.Raise (some (.Call (.Name c np) [a] [] cpos)) none pos) (oQ X.K c fld f E t):=by
 intro pins s σ H D I h;obtain⟨C,fI,oI,hC,hm,hin,hfI,hfc,hbase,run⟩:=hI.ex;obtain⟨bm,N,nm,q,bs,hdct,sn,sub,ab,col,dd,k0,k1,k2,k3,k5,mN,o1,o2,o3,o4⟩:=vA I.ok.mod.kin hin;have hb:bm.contains (MP "BaseException")=true:=o4.hasType (by decide+kernel);rw[arm_exec_Raise];simp only[evalOpt,Option.map];refine L0 (NL (Gc (C:=C) (nm:=nm) (q:=q) (N:=N) (bs:=bs) (bm:=bm) (hdct:=hdct) (sn:=sn) (sub:=sub) (ab:=ab) (col:=col) (dd:=dd) (k0:=k0) (k1:=k1) (k2:=k2) (k3:=k3) (k5:=k5) (newId:=newV) hb (I.ok.hd hc) ?_));refine L0 (Ma (wpAny_Call_ofName (eS I hg hm ?_ hdb)) (λv s₃ h₃=>L0 (NL (L6 h₃))) λ_ _ x=>x);refine W.callWith_of (P:=λh=>h.get? C=some (excClassObj nm q C N bs bm hdct sn sub ab col dd k0 k1 k2 k3 k5 newV)) (by rw[hst];rfl) (λh ho=>⟨.machine,.inr (.inl rfl),λA Q E s k q=>by
  obtain⟨hp,g,d,tk,os⟩:=s;exact wpAny_keeperOf_exc (k _ _ ho) q⟩) ?_
 rw[hst];refine Calls.evalArgs_plain ?_;show wpAny _ _ (spliced ((false,eval a X.env)::backTo cpos [])) _ _ s;refine Calls.spliced_cons (thn (ha pins s σ H _ I h) λu s2 ⟨v,H2,I2,rv,z,out,C',e1,hf,hz,hC',hE⟩=>L6 ⟨I2.bk _ _ o1,?_⟩);rw[hC] at hC';cases hC';subst e1;obtain⟨tk,rfl⟩:=rv;have o2':=o2.keeps I2.bk;obtain⟨hp2,g2,d2,tk2,os2⟩:=s2;refine Gb F.excBase_ValueError (o4.keeps I2.bk) (I2.bk _ _ o1) o2' o3 (I2.kIn _ _ hfI) hfc (λh' e mk=>?_) (by simp[MV]);obtain⟨kp,nw,tt,he,_,_⟩:=mk;have hKe:X.K.lookup e=none:=by
  cases r:X.K.lookup e with
  |none=>rfl
  |some o=>have:=I2.kIn _ _ r;rw[nw] at this;cases this
 obtain⟨mb,hb1,hb2⟩:=I.ok.mod.blt;refine run (λa o r=>kp _ _ (I2.kIn a o r)) ((I.ok.mod.glob.keeps I2.bk).keeps kp) ⟨mb,(hb1.keeps I2.bk).keeps kp,hb2⟩ (I2.nolimit.keeps kp) (hr.make C [.str z tk] []).depth hKe hf hz he (λh5 tk5 t2 dx o5 n5 dn k5=>⟨rfl,?_⟩);have kA:∀b o,hp2.get? b=some o->h5.get? b=some o:=λb o r=>k5 b o (λz=>by subst z;rw[nw] at r;cases r) (kp b o r)
 have dn2:hp2.get? dx=none:=by
  cases r:hp2.get? dx with
  |none=>rfl
  |some o=>have:=kp _ _ r;rw[dn] at this;cases this
 have hHe:H2 e=none:=by
  cases r:H2 e with
  |none=>rfl
  |some o=>obtain⟨u,hu⟩:=(I2.hok e o r).there;rw[nw] at hu;cases hu
 have hHd:H2 dx=none:=by
  cases r:H2 dx with
  |none=>rfl
  |some o=>obtain⟨u,hu⟩:=(I2.hok dx o r).there;rw[dn2] at hu;cases hu
 have hne:e≠dx:=λz=>by subst z;rw[he] at dn;cases dn
 have F0:=I2.fr0 xm.ex;have I5:Inv X pins σ (upd H2 dx (.xd [(fld,.str z)])) _:=(I2.kept (t':=tk5) kA).track F0 dn2 hHd ⟨_,n5,λy=>?_⟩
 .refine⟨e,t2,some dx, #[],rfl,kA _ _ (I2.bk _ _ o1),o5,xm.made (g:=hp2) I5 F0 (λb zb=>?_) ⟨_,_,o5,rfl,rfl,rfl,rfl,?_,nw⟩ (hE dx hHd)⟩
  .cases r:hp2.get? b with
   |none=>rfl
   |some o=>have e1:=kA b o r;rw[show h5.get? b=none from zb] at e1;cases e1
  .rw[zN hne];exact hHe
 .by_cases hy:y=fld
  .subst hy;rw[if_pos rfl,LS,beq_self_eq_true];exact⟨_,rfl⟩
  .rw[if_neg hy,LS,beq_eq_false_iff_ne.mpr hy];trivial
end
section
variable{K:W.Frag}{c:Str}{p0 p1 p3 p4 p5 p6 p7 p8 p9:Pos}
 {cda cc:Addr}{od cdd cld an:Option Addr}{oc ccl cl dV kV doc pm ct:Value}{osl ccs csl:Array (Option Value)}{vs:Array Value}{file:Str}{tf:Tok}{ar:Arg}
theorem oR(a:clsOf K c=some C)(hm:mg c=some (.ref C))(_hfi:W.findIn K (.ref C) "__init__"=some (some (.ref fI)))(hin:lC K C bmV newV fI=true)(hfn:oc= .type "function")(hbe:W.mroIn K C (.type "BaseException")=some true)(hsup:mg "super"=none)
  (lk:K.lookup fI=some ⟨oc,od,.func (W.ksFn "__init__" qual params (lB e1 e2 es x p0 p1 p2 p3 p4 p5 p6 p7 p8 p9) scope dV kV doc pm an (.ref cda) ct cc),osl⟩)(hcd:W.codeIn K (.ref cda) qual=true)
  (hcda:K.lookup cda=some ⟨ccl,cdd,.fields vs,ccs⟩)(hvs:vs[2]? = some (.str file tf))(hfile:((P.main.file:Str)==file)=true)(htop:(P.main.scope.names.lookup ("super":Str)).isSome=false)
  (hcc:K.lookup cc=some ⟨cl,cld,.cell (some (.ref C)),csl⟩)(hC:W.clsIn K C=some cd)(hhd:cd.hasDict=true)(hpe:iC cd.mro=true)(hself:W.mroIn K C (.ref C)=some true)(hobj:W.mroIn K C (.type "object")=some true)(hve:W.mroIn K C (.type "ValueError")=some true)
  (hop:W.nsIn K cStatics "thirdparty.any"=some none)(hal:W.ks_superIn K C C "__init__"=some (some (.builtin "ValueError.__init__")))(htk:W.takerIn K C x=some none)(hsa:W.findIn K (.ref C) "__setattr__"=some (some (.builtin "object.__setattr__")))
  (hbind:∀(s:Shared) (u v:Value),BindsTo s (W.ksFn "__init__" qual params (lB e1 e2 es x p0 p1 p2 p3 p4 p5 p6 p7 p8 p9) scope dV kV doc pm an (.ref cda) ct cc) ⟨[u,v],[]⟩ [("self",u),(x,v)])(hp:(params.posonlyargs++params.args).head? = some ar)(har:ar.arg="self")
  (hks:scope.names.lookup ("super":Str)=some .globalImplicit)(hkc:scope.names.lookup ("__class__":Str)=some .free)(hsl:scope.names.lookup ("self":Str)=some .local)(hxl:scope.names.lookup x=some .local)(hxs:x≠"self")(hxd:(x==("__debug__":Str))=false)
  (hcell:∀y∈scope.names,y.2≠ .cell)(hk:scope.kind= .function)(hco:scope.isCoroutine=false)(hgen:scope.isGenerator=false)(hln:p2.endLine=p4.line) :
  dD P w K mg c x (λz=>fText x z (e1::e2::es) LZ):=⟨C,fI,_,a,hm,hin,lk,hfn,hbe,λ{A E s z out tk e t Q} X hg hbl hlim hroom hKe hf hz hx q=>by
 obtain⟨mb,hb,hbs⟩:=hbl;obtain⟨bm,N,nm,qn,bs,hdct,sn,sub,ab,col,dd,k0,k1,k2,k3,k5,mN,o1,o2,o3,o4⟩:=vA X hin;have hce:C≠e:=λh=>by subst h;rw[hx] at o1;cases o1
 exact Gq X hg hsup hb ((hbs _ (by decide+kernel)).trans (by decide+kernel)) hlim hroom lk hcd hcda hvs hfile htop hcc hC hhd hpe hself hobj hve hop hal htk hsa o1 o4 hce (hbind _ _ _) hp har hks hkc hsl hxl hxs hxd hcell hk hco hgen hf hz hx hln hKe q⟩
end
def iD:List Stmt->List Expr
 | .Expr (.Call _ [.JoinedStr l _] _ _) _::_=>l
 |_=>[]
theorem Gu{s:Shared}{K:W.Frag}{x D:Addr}{odo:Option Obj}{expr:Bool}{Q:Value->Shared->Prop}(KX:K.In s.heap)(J:W.InstAt s.heap x ox D odo)
  (hga:W.findIn K (.ref D) "__getattribute__"=some (some (.builtin "BaseException.__getattribute__")))(hgh:W.findIn K (.ref D) "__getattr__"=some none)
  (hb:W.mroIn K D (.type "BaseException")=some true)(hf:W.findObj K D odo name=some (.value v))(hv:W.handedIn v=true)
  (q:Q v {s with toks:=s.toks+1}):wpAny (model prog w) A (getAttr (.ref x) name expr) Q E s:=by
 unfold getAttr;refine L0 (QA ?_);unfold getAttrBy;refine M6 (L0 (J.type.at ?_));refine L0 ((W.looks_findIn KX hga).at ?_);refine(show wpAny (model prog w) A (getAttrByItsOwn (.ref x) (.str name s.toks) (.ref D) (.builtin "BaseException.__getattribute__") true expr) _ _ _ from ?_);unfold getAttrByItsOwn;refine L0 ((W.looks_findIn KX hgh).at ?_);refine L0 (OX (M6 ?_));have e1:callGetattribute (.ref x) (.str name s.toks) (.builtin "BaseException.__getattribute__") expr=boundAndCalled (.builtin "BaseException.__getattribute__") (.ref x) (.str name s.toks):=by
  unfold callGetattribute;rw[show onTheHeap (.builtin "BaseException.__getattribute__")=false from rfl,Bool.and_false];rfl
 rw[e1];unfold boundAndCalled;rw[F.excAttr_ValueError.ga.bind];refine L0 (L6 ?_);refine Nc (NR (by decide+kernel) F.entry_bexc_ga ?_);have hck:∀{A:Around} {Q:Unit->Shared->Prop} {E:Value->Shared->Prop} {tk:Nat},Q () {s with toks:=tk}->wpAny (model prog w) A (checkBuiltinCall "BaseException.__getattribute__" ⟨[.ref x,.str name s.toks],[]⟩) Q E {s with toks:=tk}:=by
  intro A Q E tk hq;refine(show wpAny (model prog w) A (isInstance (.ref x) (.type "BaseException") >>= _) _ _ _ from ?_);refine L0 ?_;unfold isInstance;refine L0 (J.type.at ((W.looks_mroIn KX hb).at ?_));have e:(match Manifest.signature? "BaseException.__getattribute__" with
   |some sig=>Bind.checkArgs "BaseException.__getattribute__" sig ⟨[.ref x,.str name s.toks],[]⟩
   |none=>pure ())=pure ():=F.args_bexc_ga (.ref x) (.str name s.toks)
  refine(show wpAny (model prog w) A (match Manifest.signature? "BaseException.__getattribute__" with
   |some sig=>Bind.checkArgs "BaseException.__getattribute__" sig ⟨[.ref x,.str name s.toks],[]⟩
   |none=>pure ()) _ _ _ from ?_)
  rw[e];exact L6 hq
 refine hck ?_;unfold Builtin.«object.__getattribute__»;refine L0 (show wpAny _ _ (pure (LH x,[MW name s.toks])) _ _ _ from L6 ?_);refine L0 (show wpAny _ _ (pure name) _ _ _ from L6 ?_);refine L0 (J.type.at (L0 ((W.looks_find KX J hf).at ?_)));refine(show wpAny (model prog w) A.in1 (pure _) _ _ _ from L6 ?_);refine(show wpAny (model prog w) A (handedOut v) _ _ _ from ?_);rw[W.handedOut_of hv];exact L6 q
structure lD(K:Frag)(D:Addr):Prop where
 ga:W.findIn K (.ref D) "__getattribute__"=some (some (.builtin "BaseException.__getattribute__"))
 gh:W.findIn K (.ref D) "__getattr__"=some none
 hb:W.mroIn K D (.type "BaseException")=some true
 hd:W.hasDictIn K D=true
 nn:W.findIn K (.ref D) "name"=some none
def iE(K:Frag)(D:Addr):Bool:=W.findIn K (.ref D) "__getattribute__"==some (some (.builtin "BaseException.__getattribute__"))&&W.findIn K (.ref D) "__getattr__"==some none&&W.mroIn K D (.type "BaseException")==some true&&W.hasDictIn K D&&W.findIn K (.ref D) "name"==some none
theorem lD.of{D:Addr}(h:iE K D=true):lD K D:=by
 unfold iE at h;simp only[M9,beq_iff_eq] at h;obtain⟨⟨⟨⟨h1,h2⟩,h3⟩,h4⟩,h5⟩:=h;exact⟨h1,h2,h3,h4,h5⟩
def oS(K:Frag)(te:TE):TE:=λσ H Q=>te σ H λv H1=>∃a C dx z,v= .ref a/\H1 a=some (cN a C (some dx))/\H1 dx=some (.xd [("name",.str z)])/\lD K C/\Q (.str z) H1
section
variable{e:Expr}
theorem Gv(he:PE X e te)(hb:attributeBase e "name" X.env (eval e X.env)=eval e X.env):PE X (.Attribute e "name" pos) (oS X.K te):=by
 intro pins s σ H Q I h;refine qY hb (thn (he pins s σ H _ I h) λu s1 ⟨x,H1,I1,rx,a,C,dx,z,ex,ea,ed,c,q⟩=>?_);subst ex;obtain rfl:u=LH a:=rx;obtain⟨⟨ox,o1,o2,o3,o4⟩,_⟩:=(show aC X.prog X.w H1 s1.heap a (cN a C (some dx)) from I1.hok a _ ea);obtain⟨mA,n1,n2⟩:=(show aC X.prog X.w H1 s1.heap dx (.xd [("name",.str z)]) from I1.hok dx _ ed);obtain⟨od,hod,hlk⟩:=m6 n1;have J:W.InstAt s1.heap a ox C (some od):=⟨o1,o2,o4,by rw[o3];exact hod⟩;obtain⟨u,hu,ru⟩:=bP.some_of (v:= .str z) (o:=mA "name") (by have:=n2 "name";rwa [LS,beq_self_eq_true] at this);exact Gu I1.kIn J c.ga c.gh c.hb (W.findObj_own c.hd c.nn rfl (by rw[hlk,hu])) (qX ru) ⟨.str z,H1,I1.tok _,ru,q⟩
theorem lE(K:Frag)(he:WE X e te)(h:X.K=K:=by rfl)(hb:attributeBase e "name" X.env (eval e X.env)=eval e X.env:=by rfl):WE X (.Attribute e "name" pos) (oS K te):=h▸⟨Gv he.out hb⟩
theorem jA{E:St->XK}{k:Nat}{c:Str}{f:Str->Option Str}{a:Expr}{t:TE}(K:Frag)(xm:XMk X E)(hI:dD X.prog X.w X.K X.mg c fld f)(hr:bh k X.A)(ha:WE X a t)(hK:X.K=K:=by rfl)(hj:1<=k:=by decide)(hc:X.calm=true:=by rfl)(hg:Gl X c:=by rfl)(hdb:(c==("__debug__":Str))=false:=by decide)
  (hst:starEach [a] X.env=[(false,eval a X.env)]:=by rfl):WS X (.Raise (some (.Call (.Name c np) [a] [] cpos)) none pos) (oQ K c fld f E t):=hK▸⟨Gs xm hc hI (k:=0) (hr.mono hj) hg ha.out hdb hst⟩
end
class fk(K:Frag)(c:Str):Prop where
 at_:∃C,clsOf K c=some C
 cf:aS c=true:=by decide+kernel
def dE(c:Str)(f:Str->Option Str)(Ex:DXE)(w:DE):DS:=λ_ ρ μ=>w ρ μ λd μ1=>match d with
 | .str z=>(∃out,f z=some out/\out.length<=sizeLine)/\Ex ρ (bB c z) μ1
 |_=>False
def eJ(es:List Str)(w:DE):DE:=λρ μ Q=>w ρ μ λd μ1=>match d with
 | .exc lab=>∃b z,lab=bB b z/\aS b=true/\b∈es/\Q (.str z) μ1
 |_=>False
def iF(es:List Str)(i:Nat)(wb:DXE->DS)(wh:DS):DS:=λD ρ μ=>wb (λρ' lab μ'=>(lab∈es\/∃b z,lab=bB b z/\aS b=true/\b∈es)/\wh (iB D i) (ρ'.set i (some (.exc lab))) μ') D ρ μ
class ENm(K:Frag)(es:List Str):Prop where
 run:∀b∈es,∀C,clsOf K b=some C->lD K C
section
variable{E:St->XK}{t:TE}{w:DE}{c:Str}{f:Str->Option Str}
instance[x:XR K fl Ex E][i:fk K c][a:ac K fl t w]:aP K fl (oQ K c "name" f E t) (dE c f Ex w):=⟨λ{W ρ μ σ H D' D} r e h k=>a.run r e h λW1 d μ1 v H1 le1 r1 q1 h1=>by
 cases d<;>first|exact h1.elim|skip
 rename_i z;obtain⟨⟨out,hf,hz⟩,hE⟩:=h1;obtain⟨C,hC⟩:=i.at_;refine⟨z,out,C,q1.s',hf,hz,hC,λdx hd=>?_⟩;obtain⟨r2,le2⟩:=r1.newF (o:= .xd [("name",.str z)]) hd;exact x.run r2 ((e.mono le1).mono le2) hE (.inr ⟨c,z,dx,rfl,i.cf,hC,rfl,zJ⟩)⟩
instance{es:List Str}[n:ENm K es][a:ac K fl t w]:ac K fl (oS K t) (eJ es w):=⟨λ{W ρ μ σ H Q Q'} r e h k=>a.run r e h λW1 d μ1 v H1 le1 r1 q1 h1=>by
 cases d<;>first|exact h1.elim|skip
 rename_i lab;obtain⟨b,z,rfl,hb,hes,hQ⟩:=h1;unfold Rep at q1;obtain⟨C,p,dx,rfl,ea,hX⟩:=q1;rcases hX with⟨_,_,h3⟩|⟨b',z',d,h1,h2,h3,h4,h5⟩
 .rw[i9] at h3;cases h3
 .obtain⟨rfl,rfl⟩:=kC h1 hb h2;subst h4;exact⟨p,C,d,z,rfl,r1.sub _ _ ea,r1.sub _ _ h5,n.run b hes C h3,k W1 (.str z) μ1 _ H1 le1 r1 .s hQ⟩⟩
instance{es:List Str}{i:Nat}{wb:DXE->DS}{wh:DS}[hd:jz K es Ch][b:∀fl (p:XP K fl),aP K fl (tb p.E) (wb p.Ex)][a:aP K fl th wh]:aP K fl (oM K Ch i tb th) (iF es i wb wh):=⟨λ{W ρ μ σ H D' D} r e h k=>by
 have xr:XR K W (λρ' lab μ'=>(lab∈es\/∃b z,lab=bB b z/\aS b=true/\b∈es)/\wh (iB D' i) (ρ'.set i (some (.exc lab))) μ') (jy K Ch i th D):=⟨λ{W1 ρ1 μ1 σ1 H1 c C dx} r1 e1 h1 hX=>by
  have hex:exmOne K (.ref C) (.ref Ch)=some true:=by
   rcases h1.1 with hc|⟨b,z,rfl,cb,hb⟩
   .exact hd.run c hc C (hX.plain (hd.cf c hc)).1
   .rcases hX with⟨_,_,h3⟩|⟨b',z',d,g1,g2,g3,_,_⟩
    .rw[i9] at h3;cases h3
    .obtain⟨rfl,rfl⟩:=kC g1 cb g2;exact hd.run b hb C g3
  refine⟨C,rfl,hex,λp hp=>?_⟩;have r1':Rel K fl W1 μ1 H1:=r1.floor (r.up.trans r1.up);obtain⟨r2,le2⟩:=r1'.newF (o:=cN p C dx) hp;refine a.run r2 ((e1.mono le2).set (x:= .ref p) (d:= .exc c) ?_) h1.2 ((k.mono (r1.up.trans le2)).iz);unfold Rep;exact⟨C,p,dx,rfl,zJ,hX.mono le2⟩⟩
 exact(b W ⟨_,jy K Ch i th D,xr⟩).run (r.floor (.refl W)) e h (k.lower r.up)⟩
end
theorem ENm.nil:ENm K []:=⟨λ_ h=>by cases h⟩
theorem ENm.cons{c:Str}{es:List Str}(a:clsOf K c=some C)(h:iE K C=true)(t:ENm K es):ENm K (c::es):=⟨λb hb D hD=>by
 rcases Lz.mp hb with rfl|hb
 .rw[a] at hD;cases hD;exact .of h
 .exact t.run b hb D hD⟩
section
variable{s:Shared}
end
section
variable{s:Shared}
end
section
variable{s:Shared}{P c:Addr}{lp:Pos}{body:Expr}{Q:Value->Shared->Prop}
end
section
variable{s:Shared}
end
section
variable{P c:Addr}{lp kp:Pos}{body:Expr}{e:Expr}{k:Nat}
end
section
variable{W:Wd}{tab:Tab}
end
section
variable{Pr:Program}
end
def fm(K:Frag):List (Addr×Nat×TS)->Ends->St->XK
 | [],_=>λ_ _ _ _=>False
 | (Ch,i,th)::r,D=>λσ c dx H=>∃C,c= .ref C/\((W.exmOne K (.ref C) (.ref Ch)=some true/\∀a,H a=none->th (iz D i) (σ.set i (some (.ref a))) (upd H a (cN a C dx)))\/(W.exmOne K (.ref C) (.ref Ch)=some false/\fm K r D σ c dx H))
def oU(K:Frag)(hs:List (Addr×Nat×TS))(tb:(St->XK)->TS):TS:=λD σ0 H0=>tb (fm K hs D) D σ0 H0
inductive eK(X:Cx):List ExceptHandler->List (Addr×Nat×TS)->Prop
 |nil:eK X [] []
 |cons {x n:Str} {np hpos:Pos} {b₀:Stmt} {suite:List Stmt} {Ch:Addr} {i:Nat} {th:TS} {hs:List ExceptHandler} {ds:List (Addr×Nat×TS)} (hi:X.N[i]? = some n) (hn:X.env.scope.names.lookup n=some .local) (hg:Gl X x) (hm:X.mg x=some (.ref Ch)) (hdb:(x==("__debug__":Str))=false)
   (hh:∀a,PSs (X.hand a) (b₀::suite) th) (r:eK X hs ds):eK X (.ExceptHandler (some (.Name x np)) (some n) (b₀::suite) hpos::hs) ((Ch,i,th)::ds)
section
variable{s:Shared}{g:Heap}{D:Ends}
theorem vB(hs:X.stack=X.env::X.outer)(hN:X.N.Nodup)(I:Inv X pins σ H s)(F0:Fr0 X pins g)(F:Fly g H s.heap a C dx .none):∀{hl:List ExceptHandler} {ds:List (Addr×Nat×TS)},eK X hl ds->fm X.K ds D σ (.ref C) dx H ->
  wpAny (model X.prog X.w) X.A (handleBy (.ref a) X.env hl) (SP X pins D) X.xe s
 |_,_,.nil,h=>h.elim
 |_,_,.cons (x:=x) (n:=n) (Ch:=Ch) (i:=i) (th:=th) hi hn hg hm hdb hh r,⟨C',eC,h⟩=>by
  cases eC;have ok:=I.ok;refine PQ (Pt ?_) (λz=>nomatch z);refine eS (X:=X.hand a) I.hand hg hm ?_ hdb;have ty:W.Looks (model X.prog X.w) s.heap (typeOf (.ref a)) (.ref C):=by
   obtain⟨oe,vs,T,oT,ts,e1,e2,e3,e4,_⟩:=F;exact e2▸(W.Looks.ld e1).andThen .now
  rcases h with⟨hex,hE⟩|⟨hex,hr⟩
  .refine(W.exm_one I.kIn ty hex).at ?_;refine OK ?_;have ff3:s.heap.FunFrames X.base (X.env::X.outer):=by rw[<- hs];exact I.stack
   have fE:frs (X.env::X.outer)=frs X.stack:=by rw[hs]
   refine iy ff3 F λh4 F4 S4 _ _=>?_
   rw[fE] at S4;have I4:=I.noted (t':=s.toks) F0 S4;obtain⟨oe,vs,T,oT,ts,e1,e2,e3,e4,_,_,_,_,_,hHa,_,hga,_⟩:=F4;have I5:Inv X pins σ (upd H a (cN a C dx)) _:=I4.track (o:=cN a C dx) F0 hga hHa ⟨⟨oe,e1,e2,e3,by unfold W.notCls;rw[e4]⟩,⟨oe,e1⟩,λh1 h2 ⟨ox,q1,q2⟩ k=>⟨ox,k _ q1,q2⟩⟩;refine jW I5 hN hi (.inl hn) (show RelV (.ref a) (.ref a) from rfl) (λs6 I6=>?_) (.inr hn);refine Ma (hh a pins s6 _ _ _ I6.hand (hE a hHa)) (λf s7 hf=>?_) (λ_ _ z=>z.elim);have fin:∀{σ7:St} {H7:Hp} {hpos:Pos} {Q:Unit->Shared->Prop},Inv (X.hand a) pins σ7 H7 s7->(∀s8,Inv X pins (σ7.set i none) H7 s8->Q () s8)->wpAny (model X.prog X.w) X.A (do
     bindName X.env n Mv
     unbindBehindTheSuite X.env n hpos) Q X.xe s7:=λ{σ7 H7 hpos Q} I7 k=>by
    have I7':=I7.unhand ok;obtain⟨m,hns,hl⟩:=I7'.loc;refine PB hn hns (by rw[ok.kind];rfl) λh8 v n8 sb=>k _ (I7'.unset (t':=s7.toks+1) hN hi hn hl n8 sb)
   cases f with
   |next=>obtain⟨σ7,H7,I7,q⟩:=hf;exact fin I7 λs8 I8=>⟨_,_,I8,q⟩
   |brk=>obtain⟨σ7,H7,I7,q⟩:=hf;exact fin I7 λs8 I8=>⟨_,_,I8,q⟩
   |cont=>obtain⟨σ7,H7,I7,q⟩:=hf;exact fin I7 λs8 I8=>⟨_,_,I8,q⟩
   |ret u=>obtain⟨v,σ7,H7,I7,r,q⟩:=hf;exact fin I7 λs8 I8=>⟨v,_,_,I8,r,q⟩
  .refine(W.exm_one I.kIn ty hex).at ?_;exact vB hs hN I F0 F r hr
theorem Gw{h₀:ExceptHandler}{hl:List ExceptHandler}{ds:List (Addr×Nat×TS)}(hx:X.ex=[])(hs:X.stack=X.env::X.outer)(hL:X.env.frame=some X.env.locals)(hN:X.N.Nodup)
  (hb:∀E xe pn,XOk (X.tr xe pn) E->PSs (X.tr xe pn) body (tb E))(hh:eK X (h₀::hl) ds):PS X (.Try body (h₀::hl) [] [] pos) (oU X.K ds tb):=by
 intro pins s σ0 H0 D I h;have ok:=I.ok;refine QU ?_;have ref_:∀{ds:List (Addr×Nat×TS)} {hl:List ExceptHandler} {σ c dx H},eK X hl ds->fm X.K ds D σ c dx H->∃C,c= .ref C:=λ{ds hl σ c dx H} o h=>by
  cases o with
  |nil=>exact h.elim
  |cons _ _ _ _ _ _ _=>obtain⟨C,e,_⟩:=h;exact⟨C,e⟩
 have xo:XOk (X.tr (λe s1=>∃ σ H g a C dx,e= .ref a/\Inv X pins σ H s1/\Fr0 X pins g/\(∀b,s1.heap.get? b=none->g.get? b=none)/\Fly g H s1.heap a C dx .none/\fm X.K ds D σ (.ref C) dx H) (X.pn++pins)) (fm X.K ds D) :=
  ⟨(λb z=>by rw[show(X.tr _ _).ex=X.ex from rfl,hx] at z;cases z),λ{pins' σ H s g e C dx} I F0 hg F hE=>⟨σ,H,g,e,C,dx,rfl,I.untr,F0.untr,hg,F,hE⟩⟩
 refine Ma (hb _ _ _ xo [] s σ0 H0 D I.tr h) (λf s1 hf=>?_) (λe s1 he=>?_)
 .have hf':=SP.untr hf;cases f with
  |next=>obtain⟨σ',H',I',q⟩:=hf';exact mS pins s1 σ' H' D I' q
  |brk=>exact hf'
  |cont=>exact hf'
  |ret u=>exact hf'
 .obtain⟨σ,H,g,a,C,dx,rfl,I1,F0,hg1,F,hE⟩:=he;have hfr:X.A.frames=some (X.env::X.outer):=by rw[<- hs];exact I1.ok.frames
  have ff:s1.heap.FunFrames X.base (X.env::X.outer):=by rw[<- hs];exact I1.stack
  have fE:frs (X.env::X.outer)=frs X.stack:=by rw[hs]
  refine oJ (P:=X.prog) (w:=X.w) hfr hL ff I1.hok hg1 F λh2 F2 S2=>?_
  rw[fE] at S2;have I2:=I1.noted (t':=s1.toks) F0 S2;have ff2:h2.FunFrames X.base (X.env::X.outer):=by rw[<- hs];exact I2.stack
  refine iy ff2 F2 λh3 F3 S3 _ _=>?_
  rw[fE] at S3;have I3:=I2.noted (t':=s1.toks) F0 S3;exact vB hs hN I3 F0 F3 hh hE
end
def jB(es:List Str)(lab:Str):Prop:=lab∈es\/∃b z,lab=bB b z/\aS b=true/\b∈es
def iG:List (List Str×List Str×Nat×DS)->cp->DXE
 | [],_=>λ_ _ _=>False
 | (ys,ns,i,wh)::r,D=>λρ lab μ=>(jB ys lab/\wh (iB D i) (ρ.set i (some (.exc lab))) μ)\/(jB ns lab/\iG r D ρ lab μ)
def da(hs:List (List Str×List Str×Nat×DS))(wb:DXE->DS):DS:=λD ρ μ=>wb (iG hs D) D ρ μ
class gM(K:Frag)(ys ns:List Str)(Ch:Addr):Prop where
 y:∀c∈ys,∀C,clsOf K c=some C->exmOne K (.ref C) (.ref Ch)=some true
 n:∀c∈ns,∀C,clsOf K c=some C->exmOne K (.ref C) (.ref Ch)=some false
 cy:∀c∈ys,aS c=true
 cn:∀c∈ns,aS c=true
theorem vC{W:Wd}{es:List Str}{b:Bool}(hl:jB es lab)(hX:XAt K W lab C dx)(hy:∀c∈es,∀C,clsOf K c=some C->exmOne K (.ref C) (.ref Ch)=some b)(cf:∀c∈es,aS c=true):exmOne K (.ref C) (.ref Ch)=some b:=by
 rcases hl with hc|⟨b,z,rfl,cb,hb⟩
 .exact hy _ hc C (hX.plain (cf _ hc)).1
 .rcases hX with⟨_,_,h3⟩|⟨b',z',d,g1,g2,g3,_,_⟩
  .rw[i9] at h3;cases h3
  .obtain⟨rfl,rfl⟩:=kC g1 cb g2;exact hy _ hb C g3
class lF(K:Frag)(fl:Wd)(ds:List (Addr×Nat×TS))(ws:List (List Str×List Str×Nat×DS)):Prop where
 run:∀{W W1:Wd} {D':cp} {D:Ends} {ρ:aj} {μ:Mu} {σ:St} {H:Hp} {lab:Str} {C:Addr} {dx:Option Addr},fl.le W->Rel K W W1 μ H->aw K W1 ρ σ->dm K fl W D' D->iG ws D' ρ lab μ->XAt K W1 lab C dx->fm K ds D σ (.ref C) dx H
section
instance:lF K fl [] []:=⟨λ_ _ _ _ h _=>h.elim⟩
instance{ys:List Str}{i:Nat}{wh:DS}{ds:List (Addr×Nat×TS)}{ws:List (List Str×List Str×Nat×DS)}[hd:gM K ys ns Ch][a:aP K fl th wh][rest:lF K fl ds ws]:lF K fl ((Ch,i,th)::ds) ((ys,ns,i,wh)::ws):=⟨λ{W W1 D' D ρ μ σ H lab C dx} up r1 e1 k h hX=>by
 rcases h with⟨hl,h⟩|⟨hl,h⟩
 .refine⟨C,rfl,.inl ⟨vC hl hX hd.y hd.cy,λp hp=>?_⟩⟩;have r1':Rel K fl W1 μ H:=r1.floor (up.trans r1.up);obtain⟨r2,le2⟩:=r1'.newF (o:=cN p C dx) hp;refine a.run r2 ((e1.mono le2).set (x:= .ref p) (d:= .exc lab) ?_) h ((k.mono (r1.up.trans le2)).iz);unfold Rep;exact⟨C,p,dx,rfl,zJ,hX.mono le2⟩
 .exact⟨C,rfl,.inr ⟨vC hl hX hd.n hd.cn,rest.run up r1 e1 k h hX⟩⟩⟩
instance{hs:List (Addr×Nat×TS)}{ws:List (List Str×List Str×Nat×DS)}{wb:DXE->DS}[b:∀fl (p:XP K fl),aP K fl (tb p.E) (wb p.Ex)][a:lF K fl hs ws]:aP K fl (oU K hs tb) (da ws wb):=⟨λ{W ρ μ σ H D' D} r e h k=>by
 have xr:XR K W (iG ws D') (fm K hs D):=⟨λ{W1 ρ1 μ1 σ1 H1 c C dx} r1 e1 h1 hX=>a.run r.up r1 e1 k h1 hX⟩;exact(b W ⟨_,fm K hs D,xr⟩).run (r.floor (.refl W)) e h (k.lower r.up)⟩
end
section
theorem oV:eK X [] []:= .nil
theorem lG(i:Nat){n:Str}{hs:List ExceptHandler}{ds:List (Addr×Nat×TS)}(hm:X.mg x=some (.ref Ch))(hh:∀a,WSs (X.hand a) (b₀::suite) th)(r:eK X hs ds)(hi:X.N[i]? = some n:=by rfl)(hn:X.env.scope.names.lookup n=some .local:=by rfl)(hg:Gl X x:=by rfl)(hdb:(x==("__debug__":Str))=false:=by decide) :
  eK X (.ExceptHandler (some (.Name x np)) (some n) (b₀::suite) hpos::hs) ((Ch,i,th)::ds):= .cons hi hn hg hm hdb (λa=>(hh a).out) r
theorem oW{h₀:ExceptHandler}{hl:List ExceptHandler}{ds:List (Addr×Nat×TS)}(K:Frag)(hN:X.N.Nodup)(hb:∀E xe pn,XOk (X.tr xe pn) E->WSs (X.tr xe pn) body (tb E))(hh:eK X (h₀::hl) ds)
  (hK:X.K=K:=by rfl)(hx:X.ex=[]:=by rfl)(hs:X.stack=X.env::X.outer:=by rfl)(hL:X.env.frame=some X.env.locals:=by rfl):WS X (.Try body (h₀::hl) [] [] pos) (oU K ds tb):=hK▸⟨Gw hx hs hL hN (λE xe pn xo=>(hb E xe pn xo).out) hh⟩
end
def vD(K:Frag)(ms:List (Str×List Str×List Str)):Bool:=ms.all λm=>match clsOf K m.1 with
 |none=>false
 |some Ch=>(m.2.1.all λc=>aS c&&match clsOf K c with
   |none=>false
   |some C=>exmOne K (.ref C) (.ref Ch)==some true) &&
  m.2.2.all λc=>aS c&&match clsOf K c with
   |none=>false
   |some C=>exmOne K (.ref C) (.ref Ch)==some false
theorem vE{ms:List (Str×List Str×List Str)}{h:Str}{ys:List Str}(t:vD K ms=true)(i:ah K h Ch)(hm:(h,ys,ns)∈ms):gM K ys ns Ch:=by
 have e:=Me.mp t _ hm;simp only[i.at_,M9,Me] at e;obtain⟨e1,e2⟩:=e;exact⟨λc hc C hC=>by simpa [hC] using (e1 c hc).2,λc hc C hC=>by simpa [hC] using (e2 c hc).2,λc hc=>(e1 c hc).1,λc hc=>(e2 c hc).1⟩
section
end
section
end
def vF(K:Frag):List V->Hp->VK->Prop:=λxs H Q=>∃a c C dx b,xs=[.ref a,c]/\H a=some (cN a C dx)/\(∀d,dx=some d->∃z,H d=some (.xd [("name",.str z)]))/\eI K C/\(∀u,RelV c u->W.kitOne K (.ref C) u=some b)/\Q (.bl b) H
theorem bN(K:Frag)(h:X.K=K:=by rfl):ag X (.builtin "isinstance") (vF K):=by
 subst h;intro pins s σ H xs us Q I r h;obtain⟨a,c,C,dx,b,rfl,ea,ed,ec,e,q⟩:=h;obtain⟨u,v,rfl,ru,rv⟩:=vals2 r;obtain⟨⟨ox,e1,e2,e3,e4⟩,_⟩:=(show aC X.prog X.w H s.heap a (cN a C dx) from I.hok a _ ea);cases (show u=LH a from ru);cases dx with
 |none=>exact kia_one (ec.kit (od:=none)) I.kIn (W.InstAt.mk (od:=none) e1 e2 e4 (by rw[e3];trivial)) (e v rv) (λz=>nomatch z) λtk=>⟨.bl b,H,I.tok tk,rfl,q⟩
 |some d =>
  obtain⟨z,ed⟩:=ed d rfl;obtain⟨mA,n1,n2⟩:=(show aC X.prog X.w H s.heap d (.xd [("name",.str z)]) from I.hok d _ ed);obtain⟨od,hod,hlk⟩:=m6 n1;exact kia_one (ec.kit (od:=some od)) I.kIn (W.InstAt.mk (od:=some od) e1 e2 e4 (by rw[e3];exact hod)) (e v rv) (λz=>nomatch z) λtk=>⟨.bl b,H,I.tok tk,rfl,q⟩
def eM(b lab:Str):Prop:=lab=b\/∃z,lab=bB b z
def br(es ks:List Str):DRs:=λds μ Q=>match ds with
 | [.exc lab,.cls k]=>∃c,eM c lab/\c∈es/\k∈ks/\Q (.bl (c==k)) μ
 | [.exc lab,.ty n]=>∃c,eM c lab/\c∈es/\n="ValueError"/\Q (.bl true) μ
 |_=>False
theorem vG{W:Wd}{c:Str}(hl:eM c lab)(cf:aS c=true)(hX:XAt K W lab C dx):clsOf K c=some C/\∀d,dx=some d->∃z,W.F d=some (.xd [("name",.str z)]):=by
 rcases hl with rfl|⟨z,rfl⟩
 .obtain⟨h1,rfl⟩:=hX.plain cf;exact⟨h1,λd e=>nomatch e⟩
 .rcases hX with⟨_,_,h3⟩|⟨b',z',d,g1,g2,g3,g4,g5⟩
  .rw[i9] at h3;cases h3
  .obtain⟨rfl,rfl⟩:=kC g1 cf g2;exact⟨g3,λd' e=>⟨z,by rw[g4] at e;cases e;exact g5⟩⟩
instance{es:List Str}[t:cR K es ps ks hs]:bu K fl (vF K) (br es ks):=⟨λ{W μ H ds xs Q Q'} r z h k=>by
 unfold br at h;split at h
 .obtain⟨x,y,rfl,q1,q2⟩:=z.two;obtain⟨c,hl,hc,hk,h⟩:=h;unfold Rep at q1 q2;obtain⟨C,a,dx,rfl,ea,hX⟩:=q1;obtain⟨hC,hd⟩:=vG hl (t.cf hc) hX;obtain⟨D,hD,rfl⟩:=q2;obtain⟨⟨_,r1⟩,_,_,r4,_⟩:=t.row hc hC;exact⟨a,_,C,dx,_,rfl,r.sub _ _ ea,λd e=>(hd d e).imp λz g=>r.sub _ _ g,r1,λu hu=>by cases hu;exact r4 _ hk D hD,k _ _ _ _ _ (.refl _) r .b h⟩
 .obtain⟨x,y,rfl,q1,q2⟩:=z.two;obtain⟨c,hl,hc,rfl,h⟩:=h;unfold Rep at q1 q2;obtain⟨C,a,dx,rfl,ea,hX⟩:=q1;obtain⟨hC,hd⟩:=vG hl (t.cf hc) hX;subst q2;obtain⟨⟨_,r1⟩,_,r3,_,_⟩:=t.row hc hC;exact⟨a,_,C,dx,true,rfl,r.sub _ _ ea,λd e=>(hd d e).imp λz g=>r.sub _ _ g,r1,λu hu=>by cases hu;exact r3,k _ _ _ _ _ (.refl _) r .b h⟩
 .exact h.elim⟩
open HT in
theorem Gx{prog w A}{s:Shared}{t sl:Addr}{items:Array Value}{vl vu:Value}{Q:Value->Shared->Prop}(ht:IsTup s.heap t items)(hs:s.heap.IsSliceOf sl vl vu .none)(pl:IsPart vl lo)(pu:IsPart vu hi)
  (hw:HT.sIx items.size 0 lo=0/\HT.sIx items.size items.size hi=items.size)
  (h:Q (.ref t) s)
  (hsz:items.size<=sizeLine):wpAny (model prog w) A (getItem (.ref t) (.ref sl)) Q E s:=by
 obtain⟨os,hos,hcs,hds⟩:=id hs;have hTs:s.TypeIs (.ref sl) "slice":=⟨os,hos,hcs⟩;unfold getItem;try with_reducible refine M6 ?_
 first|refine L0 (L6 ?_)|skip
 refine L0 (Qw ht.typeIs (by decide) ?_);refine L0 (P5 (name:=L5 "__getitem__") ht.typeIs Mo
  (NF Mo ht.typeIs PP ?_ (Qa _ _)))
 show wpAny _ _ (OE (.ref t) >>= _) _ _ s;refine L0 (Sg ht ?_);refine L0 (NV hTs ?_);rw[if_pos (by decide)];refine L0 (HT.rn hs pl pu ?_);show wpAny _ _ (if (((HT.sIx items.size 0 lo:Nat):Int)==0&&(1:Int)==1&&(HT.sIx items.size items.size hi - HT.sIx items.size 0 lo)==items.size)=true then _ else _) _ _ s;rw[if_pos (by rw[hw.1,hw.2];simp)];refine L0 ?_;unfold Rk;refine L0 (NV ht.typeIs ?_);refine L6 ?_;rw[if_pos (by decide)];refine L0 (wpAny_rule ?_);exact L6 ⟨_,rfl,L6 h⟩
def oX(K:Frag):V->Option Int->Option Int->Hp->VK->Prop:=λx lo hi H Q=>∃a xs,x= .ref a/\SqT K H a xs /\
 ((HT.sIx xs.length 0 lo=0/\HT.sIx xs.length xs.length hi=xs.length)->Q x H)/\(¬ (HT.sIx xs.length 0 lo=0/\HT.sIx xs.length xs.length hi=xs.length)->∀p,H p=none->Q (.ref p) (upd H p (.tup (cD xs lo hi))))
theorem Gy:SlR X (oX X.K):=by
 intro pins s σ H x v vl vu lo hi sl Q I rx hs pl pu h;obtain⟨a,xs,rfl,hx,q1,q2⟩:=h;by_cases hw:HT.sIx xs.length 0 lo=0/\HT.sIx xs.length xs.length hi=xs.length
 .cases rx;obtain⟨its,r,ht,hz⟩:=I.tuple hx;have hlen:its.toArray.size=xs.length:=by rw[Lv];exact r.length.symm
  refine⟨"tuple",_,Mo.lookup,ht.typeIs,?_⟩;exact Gx ht hs pl pu (by rw[hlen];exact hw) ⟨.ref a,_,I,rfl,q1 hw⟩ (by rw[hlen];exact hz)
 .exact rA pins s σ H _ v vl vu lo hi sl Q I rx hs pl pu ⟨a,xs,rfl,hx,hw,q2 hw⟩
theorem Gz(K:Frag)(h:X.K=K:=by rfl):SlR X (oX K):=h▸Gy
def lH:DSl:=λd lo hi μ Q=>match d with
 | .tup ds=>Q (.tup (cutD ds lo hi)) μ
 |_=>False
theorem GA{ds:List D}:lH (.tup ds) lo hi μ Q=Q (.tup (cutD ds lo hi)) μ:=rfl
instance:n3 K fl (oX K) lH:=⟨λ{W μ H d x lo hi Q Q'} r q1 h k=>by
 unfold lH at h;split at h
 .obtain⟨p,xs,rfl,s1,z1⟩:=q1.tup';refine⟨p,xs,rfl,s1.sm r.sub,λhw=>?_,λ_ q hq=>?_⟩
  .rename_i ds;have e:cutD ds lo hi=ds:=by
    have l:=z1.length;unfold cutD;rw[l] at hw;rw[hw.1,hw.2];simp
   rw[e] at h;exact k _ _ _ _ _ (.refl _) r q1 h
  .obtain⟨r2,le2⟩:=r.newF (o:= .tup (cD xs lo hi)) hq;exact k _ _ _ _ _ le2 r2 (.tup (SqT.of zJ) ((z1.mono le2).cut _ _)) h
 .exact h.elim⟩
theorem aq{Q:List Str}{sc:Scope}(a:sc.kind= .function:=by rfl)(b:sc.isCoroutine=false:=by rfl)(c:sc.isGenerator=false:=by rfl)(d:N.Nodup:=by decide+kernel)(e:N.take Q.length=Q:=by rfl)
  (f:∀x∈Q,sc.names.lookup x=some .local\/sc.names.lookup x=some .cell:=by decide+kernel)(g:∀y∈sc.names,y.2≠ .free:=by decide+kernel):zP N Q sc:=⟨a,b,c,d,e,f,g⟩
section
variable{p:List Value->Prop}
theorem al0(h:p []):∀us,us.length=0->p us:=λus e=>match us,e with | [],_=>h
theorem alS{n:Nat}(h:∀a us,us.length=n->p (a::us)):∀us,us.length=n+1->p us:=λus e=>match us,e with|a::us,e=>h a us (Nat.succ.inj e)
theorem al1(h:∀a,p [a]):∀us,us.length=1->p us:=alS λa=>al0 (h a)
theorem al2(h:∀a b,p [a,b]):∀us,us.length=2->p us:=alS λa=>al1 (p:=λus=>p (a::us)) (h a)
theorem al3(h:∀a b c,p [a,b,c]):∀us,us.length=3->p us:=alS λa=>al2 (p:=λus=>p (a::us)) (h a)
theorem al4(h:∀a b c d,p [a,b,c,d]):∀us,us.length=4->p us:=alS λa=>al3 (p:=λus=>p (a::us)) (h a)
theorem al5(h:∀a b c d e,p [a,b,c,d,e]):∀us,us.length=5->p us:=alS λa=>al4 (p:=λus=>p (a::us)) (h a)
theorem al6(h:∀a b c d e f,p [a,b,c,d,e,f]):∀us,us.length=6->p us:=alS λa=>al5 (p:=λus=>p (a::us)) (h a)
theorem al7(h:∀a b c d e f g,p [a,b,c,d,e,f,g]):∀us,us.length=7->p us:=alS λa=>al6 (p:=λus=>p (a::us)) (h a)
theorem al8(h:∀a b c d e f g i,p [a,b,c,d,e,f,g,i]):∀us,us.length=8->p us:=alS λa=>al7 (p:=λus=>p (a::us)) (h a)
end
section
variable{m c:Str}{fs:List Str}
structure jC(K:Frag)(x:Str)(st:Stmt)(f:Addr)(fd:FuncData):Prop where
 at_:nsIn K mainGlobals x=some (some (.ref f))
 F:Fun K x x st f fd
structure aT(K:Frag)(x:Str)(st:Stmt)(f:Addr)(fd:FuncData):Prop extends jC K x st f fd where
 df:fd.defaults= .none
structure bU(K:Frag)(C:Addr)(x q:Str)(st:Stmt)(f:Addr)(fd:FuncData):Prop where
 at_:findIn K (.ref C) x=some (some (.ref f))
 fn:isFn K (.ref f)=true
 F:Fun K x q st f fd
structure oY(K:Frag)(c:Str)(C:Addr)(fs:List Str):Prop where
 at_:nsIn K mainGlobals c=some (some (.ref C))
 cl:Cls K C
 ms:makesIn K C=true
 kp:keepIn K (.ref C)=true
 na:∀f∈fs,cB K C f
theorem vH{f:Str}(h:findIn K (.ref C) f=some none)(t:∀x∈fs,cB K C x):∀x∈f::fs,cB K C x:=List.forall_mem_cons.mpr ⟨h,t⟩
abbrev aY(K:Frag)(fd:FuncData)(ps ks:List Str)(n m:Nat)(pat:List Src)(cs:List Value):Prop:=∀(S:Setting) (us:List Value),us.length=n->∀ws:List Value,ws.length=m->Sv K S (bindArgs fd ⟨us,ks.zip ws⟩)=some (ps.zip (sel n m pat .none cs us ws))
theorem kbk{n:Nat}(h:aY K fd ps ks n j pat csU)(hc:Vals csV csU)(hp:ps.length≠0:=by decide):dc K fd ps ks (sel n j pat .none csU) (sel n j pat .non csV):=ED hc hp λS us ws a b=>h S us a ws b
variable{k:Nat}{g:List Value->List Value->List Value}
theorem aT.bd(A:aT K x st f fd)(b:∀(kV doc pm:Value) (an:Option Addr) (cdv ct:Value) (us:List Value),us.length=ps.length->bindArgs (fnOf x x (iV st) (bY st) (zz st) .none kV doc pm an cdv ct) ⟨us,[]⟩=pure (ps.zip us):=by intro _ _ _ _ _ _;first|exact al1 λ_=>rfl|exact al2 λ_ _=>rfl|exact al3 λ_ _ _=>rfl|exact al4 λ_ _ _ _=>rfl|exact al5 λ_ _ _ _ _=>rfl|exact al6 λ_ _ _ _ _ _=>rfl|exact al7 λ_ _ _ _ _ _ _=>rfl|exact al8 λ_ _ _ _ _ _ _ _=>rfl):Binds K fd ps []:=A.F.binds b A.df
theorem jC.has(A:jC K x st f fd)(b:Binds K fd ps [])(X:K.In h)(G:h.Ns mainGlobals mg)(ok:aa P w K mg base CX k f fd ps sp):Has P w K mg base CX x k ps sp:=⟨_,_,ok,b,A.F.kp,mg_of X G A.at_⟩
theorem jC.hasK(A:jC K x st f fd)(X:K.In h)(G:h.Ns mainGlobals mg)(ok:aa P w K mg base CX k f fd ps sp)(kb:dc K fd ps ks g gV):h_ P w K mg base CX x k ps sp ks gV:=⟨⟨_,_,_,ok,kb,A.F.kp,mg_of X G A.at_⟩⟩
theorem bU.hasT(A:bU K C m q st f fd)(a:oY K c C fs)(ok:aa P w K mg base CX k f fd ps sp)(kb:dc K fd ps ks g gV):bp P w K mg base CX c m k ps sp ks gV:=⟨⟨C,_,_,_,zU a.at_,a.cl,⟨A.at_,A.fn,A.F.kp⟩,ok,kb⟩⟩
theorem bU.hasM(A:bU K C "__init__" q st f fd)(a:oY K c C fs)(X:K.In h)(G:h.Ns mainGlobals mg)(ok:aa P w K mg base CX k f fd ps sp)(kb:dc K fd ps ks g gV):oi P w K mg base CX c k ps sp ks gV:=⟨⟨C,_,_,_,zU a.at_,⟨a.ms,A.at_,A.fn,a.kp⟩,ok,kb,mg_of X G a.at_⟩⟩
end
section
variable{a b e:Expr}{tb:TE}
theorem qS(i:Nat)(hN:X.N.Nodup)(he:WE X e te)(hi:X.N[i]? = some x:=by rfl)(hx:Loc X.env.scope x:=by first|exact Ng rfl|exact Ss rfl)(hs:swapsWith e (some (.Name x pos')) pos.line X.env=pure false:=by rfl)
  (hf:X.fn x=true\/X.env.scope.names.lookup x=some .local:=by first|exact .inl rfl|exact .inr rfl|assumption):WS X (.Assign [.Name x pos'] e pos) (bF te (cT i)):=ky hN hi hx he hs hf
theorem qG(i:Nat)(hN:X.N.Nodup)(hi:X.N[i]? = some x:=by rfl)(hx:Loc X.env.scope x:=by first|exact Ng rfl|exact Ss rfl)(hf:X.fn x=true\/X.env.scope.names.lookup x=some .local:=by first|exact .inl rfl|exact .inr rfl|assumption):WG X (.Name x pos) (cT i):=bJ hN hi hx hf
theorem qx(K:Frag)(ha:WE X a ta)(hb:WE X b tb)(h:X.K=K:=by rfl)(hs:nq b:=by exact λ_ _=>rfl):WE X (.Subscript a b pos) (tOp (rIx K) ta tb):=cZ (DC K h) ha hb hs
theorem qa1(ha:WE X a ta)(h1:starEach [a] X.env=(false,eval a X.env)::starEach [] X.env:=by rfl):WA X [a] (cU ta cg):=zA ha cE h1
theorem qa2(ha:WE X a ta)(hb:WE X b tb)(h1:starEach [a,b] X.env=(false,eval a X.env)::starEach [b] X.env:=by rfl)(h2:starEach [b] X.env=(false,eval b X.env)::starEach [] X.env:=by rfl):WA X [a,b] (cU ta (cU tb cg)):=zA ha (zA hb cE h2) h1
end
end L2
namespace M
open PySem L2
variable{μ μ':Mu}{ls:List LR}{na la ck cl h:Nat}{ns ns' ho ga zs S E:List Str}{Q:DK}{x lab v j y a kd:Str}{v0 v1 Sd Ed wd:D}{u_MOST_LINES u_MOST_NODES u_MOST_ENDS u_MOST_WIRE:Value}{a_BadNumber a_NoName a_Full f:Addr}{β α:Type}{X0:DX}{mg:Str->Option Value}{fd:FuncData}{r:LR}{D':cp}{K:Frag}{w:World}{u:DS}
def top(i:Nat):Stmt:=PySem.Challenge.pw_slotwright_k07_drop_and_full.main.body.getD i (.Pass ⟨0,0,0,0⟩)
abbrev oZ:Stmt:=top 23
abbrev vI:List Str:=["text","signs","most"]
theorem vJ:zP vI ["text","signs","most"] (zz oZ):=aq
abbrev o6:Stmt:=top 24
abbrev vK:List Str:=["text"]
theorem vL:zP vK ["text"] (zz o6):=aq
abbrev lI:Stmt:=top 25
abbrev o7:List Str:=["text"]
theorem lJ:zP o7 ["text"] (zz lI):=aq
abbrev o8:Stmt:=top 26
abbrev vM:List Str:=["thing"]
theorem vN:zP vM ["thing"] (zz o8):=aq
abbrev lK:Stmt:=top 27
abbrev o9:List Str:=["thing"]
theorem lL:zP o9 ["thing"] (zz lK):=aq
abbrev lM:Stmt:=top 28
abbrev o_:List Str:=["number","least","most"]
theorem lN:zP o_ ["number","least","most"] (zz lM):=aq
abbrev pc:Stmt:=inClass (top 34) 0
abbrev vO:List Str:=["self"]
theorem vP:zP vO ["self"] (zz pc):=aq
abbrev lO:Stmt:=inClass (top 34) 1
abbrev pd:List Str:=["self","name"]
theorem lP:zP pd ["self","name"] (zz lO):=aq
abbrev lQ:Stmt:=inClass (top 34) 2
abbrev pf:List Str:=["self","name"]
theorem lR:zP pf ["self","name"] (zz lQ):=aq
abbrev lS:Stmt:=inClass (top 34) 3
abbrev ph:List Str:=["self","name","senders","ears","wire"]
theorem lT:zP ph ["self","name","senders","ears","wire"] (zz lS):=aq
abbrev pj:Stmt:=inClass (top 34) 4
abbrev vQ:List Str:=["self","name"]
theorem vR:zP vQ ["self","name"] (zz pj):=aq
abbrev pk:Stmt:=inClass (top 34) 5
abbrev vS:List Str:=["self"]
theorem vT:zP vS ["self"] (zz pk):=aq
abbrev lU:Stmt:=inClass (top 34) 6
abbrev pp:List Str:=["self","name"]
theorem lV:zP pp ["self","name"] (zz lU):=aq
abbrev pq:Stmt:=inClass (top 34) 7
abbrev vU:List Str:=["self","name"]
theorem vV:zP vU ["self","name"] (zz pq):=aq
abbrev pr:Stmt:=inClass (top 34) 9
abbrev vW:List Str:=["self"]
theorem vX:zP vW ["self"] (zz pr):=aq
abbrev lW:Stmt:=inClass (top 34) 11
abbrev pv:List Str:=["self","name","kind"]
theorem lX:zP pv ["self","name","kind"] (zz lW):=aq
abbrev lY:Stmt:=inClass (top 34) 12
abbrev pw:List Str:=["self","name"]
theorem lZ:zP pw ["self","name"] (zz lY):=aq
abbrev l0:Stmt:=inClass (top 34) 13
abbrev px:List Str:=["self","ends","text"]
theorem l5:zP px ["self","ends"] (zz l0):=aq
abbrev pz:Stmt:=inClass (top 34) 14
abbrev vY:List Str:=["self","node","name","senders","ears","wire"]
theorem vZ:zP vY ["self","node"] (zz pz):=aq
abbrev l6:Stmt:=top 35
abbrev pA:List Str:=["ends"]
theorem l7:zP pA ["ends"] (zz l6):=aq
abbrev pB:Stmt:=top 37
theorem GB:zP ["_law_script"] ["_law_script"] (zz pB):=aq
abbrev pC:Stmt:=top 38
theorem l9:zP ["_law_s","_law_many","_law_cell","_law_found"] ["_law_s","_law_many"] (zz pC):=aq
abbrev pE:Stmt:=top 39
abbrev v2:List Str:=["_law_s","_law_row_here"]
theorem v6:zP v2 ["_law_s","_law_row_here"] (zz pE):=aq
abbrev pF:Stmt:=top 40
abbrev v7:List Str:=["_law_s","_law_names","_law_letters","_law_turn","_law_size","_law_word","_law_k"]
theorem v8:zP v7 ["_law_s","_law_names"] (zz pF):=aq
abbrev pG:Stmt:=top 41
abbrev v9:List Str:=["_law_s","_law_names","_law_lines","_law_one","_law_two","_law_barred","_law_fit","_law_line"]
theorem v_:zP v9 ["_law_s","_law_names","_law_lines","_law_one","_law_two","_law_barred"] (zz pG):=aq
abbrev pH:Stmt:=top 42
abbrev wf:List Str:=["_law_s","_law_names","_law_lines","_law_gates","_law_first","_law_the_last","_law_barred","_law_free","_law_way_here","_law_k","_law_gate"]
theorem wg:zP wf ["_law_s","_law_names","_law_lines","_law_gates","_law_first","_law_the_last","_law_barred"] (zz pH):=aq
abbrev pI:Stmt:=top 43
abbrev wj:List Str:=["_law_row_here","_law_lines","_law_the_slack","_law_the_most","_law_way_here","_law_sums","_law_line"]
theorem wm:zP wj ["_law_row_here","_law_lines","_law_the_slack"] (zz pI):=aq
abbrev pJ:Stmt:=top 44
abbrev wn:List Str:=["_law_s","_law_names","_law_lines","_law_houses","_law_gates","_law_the_slack","_law_at","_law_first","_law_the_last","_law_ways","_law_the_every","_law_the_long","_law_row_here","_law_spare"]
theorem wp:zP wn ["_law_s","_law_names","_law_lines","_law_houses","_law_gates","_law_the_slack"] (zz pJ):=aq
abbrev pK:Stmt:=top 45
abbrev wq:List Str:=["_law_s","_law_the_most","_law_names","_law_houses","_law_gates","_law_the_slack","_law_lines","_law_rows"]
theorem wt:zP wq ["_law_s","_law_the_most"] (zz pK):=aq
abbrev pL:Stmt:=top 46
abbrev wu:List Str:=["_law_world_here","_law_net_here","_law_name_here","_law_senders","_law_ears","_law_the_wire"]
theorem ww:zP wu ["_law_world_here"] (zz pL):=aq
abbrev pM:Stmt:=top 47
abbrev wx:List Str:=["_law_e","_law_kinds"]
theorem wy:zP wx ["_law_e"] (zz pM):=aq
abbrev pN:Stmt:=top 48
abbrev wz:List Str:=["_law_e","_law_kinds"]
theorem wB:zP wz ["_law_e"] (zz pN):=aq
abbrev pO:Stmt:=top 49
abbrev wC:List Str:=["_law_e","_law_kinds"]
theorem wD:zP wC ["_law_e"] (zz pO):=aq
abbrev pP:Stmt:=top 50
abbrev wE:List Str:=["_law_net_here","_law_name_here","_law_e"]
theorem wF:zP wE ["_law_net_here","_law_name_here"] (zz pP):=aq
abbrev pQ:Stmt:=top 51
abbrev wG:List Str:=["_law_net_here","_law_name_here","_law_got","_law_e"]
theorem wH:zP wG ["_law_net_here","_law_name_here"] (zz pQ):=aq
abbrev pR:Stmt:=top 52
abbrev wI:List Str:=["_law_net_here","_law_names","_law_s","_law_many","_law_got","_law_k","_law_e"]
theorem wJ:zP wI ["_law_net_here","_law_names","_law_s","_law_many"] (zz pR):=aq
abbrev pS:Stmt:=top 53
abbrev wK:List Str:=["_law_s","_law_world_here","_law_net_here","_law_nodes","_law_left","_law_got","_law_ends","_law_k","_law_name_here","_law_lined","_law_e","_law_due"]
theorem wL:zP wK ["_law_s","_law_world_here","_law_net_here"] (zz pS):=aq
abbrev pT:Stmt:=top 54
abbrev pU:List Str:=["_law_script","_law_s","_law_world_here","_law_net_here","_law_lines","_law_turn","_law_all_names","_law_k","_law_name_here","_law_leans","_law_found"]
theorem wM:zP pU ["_law_script"] (zz pT):=aq
abbrev wN:Stmt:=inClass (top 10) 0
abbrev wO:Stmt:=inClass (top 9) 0
abbrev wP:Stmt:=inClass (top 8) 0
section
variable{P:Program}{base:Heap}
theorem GC(F:Fun K "_law_draw" "_law_draw" pC f fd)(B:Blt mg):aa P w K mg base CX0 1 f fd ["_law_s","_law_many"] nP:=by
 refine F.okq l9 (λvs H Q E h=>?_) (λcdv A outer s H vs Q E hr h=>?_)
 .obtain⟨a,l,m,rfl,_⟩:=h;rfl
 obtain⟨a,l,many,rfl,⟨ns,i,b,c,ha,hl,hi,hb,hal⟩,hm,hm2,q⟩:=h;refine⟨_,(zf (zX (zF qU (cZ (dk K) (qv 0) zq (λ_ _=>rfl)) zq (aD _))
  (zf (ky (i:=2) l9.nd rfl (Ng rfl) zq)
  (zf (zX (zF g8 (cZ (dk K) (qv 0) zq (λ_ _=>rfl)) (zu (CQ K) rfl B.len aG (zA (cZ (dk K) (qv 0) zq (λ_ _=>rfl)) cE)) (aD _))
  (zf (ky (i:=2) l9.nd rfl (Ng rfl) (cZ (dk K) (cZ (dk K) (qv 0) zq (λ_ _=>rfl)) (cZ (dk K) (qv 0) zq (λ_ _=>rfl)) (λ_ _=>rfl)))
  (zg (i4 (af j5 (cZ (dk K) (qv 0) zq (λ_ _=>rfl)) zq) (ku (qv 0) zq set_list))))
  zH)
  (zg (zX (WW.qt (dS (zF iN (qv 2) (af qN zq zq) (aD _)) (dR (zF db (qv 2) (iZ iM (af qN zq zq)) (aD _)))))
  (zg (i4 (zu AZ rfl B.abs Cv (zA (qv 2) cE)) (ku (qv 0) zq set_list)))
  (zf (i4 (af dM (af j5 (af j5 (af qM (cZ (dk K) (qv 0) zq (λ_ _=>rfl)) zq) (af dM (qv 2) zq)) zq) zq) (ku (qv 0) zq set_list))
  (zg (ao (af dM (af ki (cZ (dk K) (qv 0) zq (λ_ _=>rfl)) zq) (qv 1)))))))))
  zH)
  (zf (ky (i:=3) l9.nd rfl (Ng rfl) (af dM (cZ (dk K) (qv 0) zq (λ_ _=>rfl)) (qv 1)))
  (zf (i4 (af ki (cZ (dk K) (qv 0) zq (λ_ _=>rfl)) (qv 1)) (ku (qv 0) zq set_list))
  (zg (ao (qv 3)))))),?_⟩
 have fin:∀(H1:Hp) (i1 b1 c1:Int) (x:Option V),H1 a=some (.lst [.ref l,.int i1,.int b1,.int c1])->0<=i1->0<=b1->km a H H1 ->
   (dH (bF (tOp (rI (λ_ j=>0 < j) λi j=> .int (i % j)) (tOp (de K) (aH 0) (tC (.int 2))) (aH 1)) (cT 3))
    (dH (bF (tOp (rI gk λi j=> .int (i / j)) (tOp (de K) (aH 0) (tC (.int 2))) (aH 1)) (fw (aH 0) (tC (.int 2)) gc)) (fZ (aH 3)))) {nx:=λ_ H'=>Q .non H',rt:=Q} [some (.ref a),some (.int many),x,none] H1:=by
  intro H1 i1 b1 c1 x h1 hi1 hb1 o1;refine⟨_,rfl,_,_,_,_,rfl,rfl,SqL.of h1,rfl,_,rfl,_,_,rfl,rfl,hm,?_⟩;refine⟨_,rfl,_,_,_,_,rfl,rfl,SqL.of h1,rfl,_,rfl,_,_,rfl,rfl,⟨hm,hm2⟩,?_⟩;refine⟨_,rfl,_,_,_,_,rfl,rfl,h1,rfl,?_⟩;refine⟨_,rfl,?_⟩;refine q _ _ (Ow _ (by omega)) (O9 _ hm) ⟨ns,i1,b1 / many,c1,zJ,?_,hi1,Int.ediv_nonneg hb1 (by omega),hal⟩ λz hz=>?_
  .rw[zN hal.symm,o1 _ hal.symm];exact hl
  .rw[zN hz];exact o1 z hz
 refine⟨_,rfl,_,_,_,_,rfl,rfl,SqL.of ha,rfl,rfl,_,rfl,?_⟩;refine ka (λc0=>?_) (λc0=>?_)
 .refine⟨_,rfl,_,_,_,_,rfl,rfl,SqL.of ha,rfl,_,rfl,_,_,_,_,rfl,rfl,SqL.of ha,rfl,_,_,rfl,.inl (SqL.of hl),_,_,rfl,rfl,_,rfl,?_⟩;have cellEnd:∀(H1:Hp) (i1 cell:Int),H1 a=some (.lst [.ref l,.int i1,.int b,.int c])->0<=i1->km a H H1 ->
   (jY (tOr (f_ (tOp (rI0 λi j=> .bl (decide (j<=i))) (aH 2) (tOp (rI j4 λi j=> .int (i^j.toNat)) (tC (.int 10)) (tC (.int 18)))))
     (f_ (tOp (rI0 λi j=> .bl (decide (i<=j))) (aH 2) (tUn (rU λi=> .int (-i)) (tOp (rI j4 λi j=> .int (i^j.toNat)) (tC (.int 10)) (tC (.int 18)))))))
    (bF (tCB (λxs H Q=>∃i,xs=[.int i]/\Q (.int (if i < 0 then -i else i)) H) (cU (aH 2) cg)) (fw (aH 0) (tC (.int 2)) gc))
    (dH (bF (tOp (rI (λ_ j=>0 < j) λi j=> .int (i % j)) (tOp (rI0 λi j=> .int (i+j)) (tOp (rI0 λi j=> .int (i+j)) (tOp (rI dL λi j=> .int (i*j)) (tOp (de K) (aH 0) (tC (.int 3))) (tC (.int 48271))) (tOp (rI (λ_ j=>0 < j) λi j=> .int (i % j)) (aH 2) (tC (.int 2147483647)))) (tC (.int 11))) (tC (.int 2147483647))) (fw (aH 0) (tC (.int 3)) gc))
     (fZ (tOp (rI (λ_ j=>0 < j) λi j=> .int (i % j)) (tOp (rI gk λi j=> .int (i / j)) (tOp (de K) (aH 0) (tC (.int 3))) (tC (.int 64))) (aH 1)))))
    {nx:=(dH (bF (tOp (rI (λ_ j=>0 < j) λi j=> .int (i % j)) (tOp (de K) (aH 0) (tC (.int 2))) (aH 1)) (cT 3))
    (dH (bF (tOp (rI gk λi j=> .int (i / j)) (tOp (de K) (aH 0) (tC (.int 2))) (aH 1)) (fw (aH 0) (tC (.int 2)) gc)) (fZ (aH 3)))) {nx:=λ_ H'=>Q .non H',rt:=Q},rt:=Q} [some (.ref a),some (.int many),some (.int cell),none] H1:=by
   intro H1 i1 cell h1 hi1 o1;have big:(bF (tCB (λxs H Q=>∃i,xs=[.int i]/\Q (.int (if i < 0 then -i else i)) H) (cU (aH 2) cg)) (fw (aH 0) (tC (.int 2)) gc))
     {nx:=(dH (bF (tOp (rI (λ_ j=>0 < j) λi j=> .int (i % j)) (tOp (de K) (aH 0) (tC (.int 2))) (aH 1)) (cT 3))
    (dH (bF (tOp (rI gk λi j=> .int (i / j)) (tOp (de K) (aH 0) (tC (.int 2))) (aH 1)) (fw (aH 0) (tC (.int 2)) gc)) (fZ (aH 3)))) {nx:=λ_ H'=>Q .non H',rt:=Q},rt:=Q} [some (.ref a),some (.int many),some (.int cell),none] H1:=by
    refine⟨_,rfl,_,rfl,_,rfl,_,_,_,_,rfl,rfl,h1,rfl,?_⟩;exact fin _ i1 (if cell < 0 then -cell else cell) c _ zJ hi1 (by split<;>omega) λz hz=>by rw[zN hz];exact o1 z hz
   refine⟨_,rfl,_,_,rfl,rfl,⟨by decide,by decide,by decide⟩,_,_,rfl,rfl,_,rfl,?_⟩;refine ka (λc1=>?_) (λc1=>?_)
   .exact Cf big
   .refine⟨_,rfl,_,_,rfl,rfl,⟨by decide,by decide,by decide⟩,_,rfl,_,_,rfl,rfl,_,rfl,?_⟩;refine ka (λc2=>big) (λc2=>?_);refine⟨_,rfl,_,_,_,_,rfl,rfl,SqL.of h1,rfl,_,_,rfl,rfl,.inr ⟨by decide,by decide⟩,_,rfl,_,_,rfl,rfl,(show(0:Int) < 2147483647 by decide),_,_,rfl,rfl,_,_,rfl,rfl,_,_,rfl,rfl,(show(0:Int) < 2147483647 by decide),?_⟩;refine⟨_,rfl,_,_,_,_,rfl,rfl,h1,rfl,?_⟩;refine⟨_,rfl,_,_,_,_,rfl,rfl,SqL.of zJ,rfl,_,_,rfl,rfl,⟨by decide,by decide⟩,_,rfl,_,_,rfl,rfl,hm,?_⟩;refine q _ _ (Ow _ (by omega)) (O9 _ hm) ⟨ns,i1,b,_,zJ,?_,hi1,hb,hal⟩ λz hz=>?_
    .rw[zN hal.symm,o1 _ hal.symm];exact hl
    .rw[zN hz];exact o1 z hz
  refine ka (λc1=>?_) (λc1=>?_)
  .have c1':i < ((ns.map V.int).length:Int):=of_decide_eq_true c1;rw[L1] at c1';have hget:(ns.map V.int)[i.toNat]? = some (.int (ns[i.toNat]'(by omega))):=by rw[Ln,LC (by omega)];rfl
   have hat:=eV hget;rw[show((i.toNat:Nat):Int)=i by omega] at hat;refine⟨_,rfl,_,_,_,_,rfl,rfl,SqL.of ha,rfl,_,rfl,_,_,_,_,rfl,rfl,SqL.of ha,rfl,_,_,_,_,rfl,rfl,SqL.of hl,hat,?_⟩;refine⟨_,rfl,_,_,_,_,rfl,rfl,SqL.of ha,rfl,_,_,rfl,rfl,_,rfl,_,_,_,_,rfl,rfl,ha,rfl,?_⟩;exact cellEnd _ (i+1) _ zJ (by omega) λz hz=>by rw[zN hz]
  .exact cellEnd H i 0 ha hi λz hz=>rfl
 .exact fin H i b c none ha hi hb λz hz=>rfl
theorem GD(F:Fun K "_law_start" "_law_start" pB f fd)(B:Blt mg):aa P w K mg base CX0 1 f fd ["_law_script"] (nQ K):=by
 refine F.okq GB (λvs H Q E h=>?_) (λcdv A outer s H vs Q E hr h=>?_)
 .obtain⟨a,m,rfl,_⟩:=h;rfl
 obtain⟨a,ns,rfl,hS,q⟩:=h;refine⟨_,(zg (ao (bz (zA (bZ (sv K) rfl B.list r_ (zA (hW (CN K) (qv 0) i0 (gn zq)) cE)) (zA zq (zA zq (zA zq cE))))))),?_⟩;refine⟨_,rfl,_,rfl,_,_,rfl,hS,λp1 h1=>?_⟩;refine⟨_,_,rfl,.inl (SqL.of zJ),λp2 h2=>⟨by show 4<=sizeLine;decide,λp3 h3=>?_⟩⟩;have n21:p2≠p1:=λz=>by rw[z,zJ] at h2;cases h2
 have n32:p3≠p2:=λz=>by rw[z,zJ] at h3;cases h3
 rw[zN n32] at h3;have n31:p3≠p1:=λz=>by rw[z,zJ] at h3;cases h3
 rw[zN n31] at h3;rw[zN n21] at h2;have cut:cD (ns.map V.int) none (some 63)=((ns.drop (HT.sIx (ns.map V.int).length 0 none)).take (HT.sIx (ns.map V.int).length (ns.map V.int).length (some 63) - HT.sIx (ns.map V.int).length 0 none)).map V.int:=by
  unfold cD;rw[OT,Sc]
 refine q p3 p2 _ h3 h2 ⟨((ns.drop (HT.sIx (ns.map V.int).length 0 none)).take (HT.sIx (ns.map V.int).length (ns.map V.int).length (some 63) - HT.sIx (ns.map V.int).length 0 none)),0,0,90210,zJ,?_,by decide,by decide,n32⟩ λb o e=>?_
 .rw[zN n32.symm,zJ,cut]
 .rw[zN (bQ e h3),zN (bQ e h2),zN (bQ e h1)];exact e
end
abbrev tab:Tab:=[("Net",["kinds","lines"])]
abbrev bV:List Str:=["kinds","lines"]
theorem wQ:gA tab "Net" "kinds"=true:=by decide+kernel
theorem K8{R:D->Prop}:jm tab "kinds" "Net" bV [v0,v1] R=R v0:=by
 simp only[jm,wQ,true_and,LK,LS,beq_self_eq_true,t6]
theorem K9{w:D}{R:List Str->List D->Prop}:gB tab "kinds" w "Net" [] [] R=R ["kinds"] [w]:=by
 rw[gB,wQ,show putN "kinds" []=(["kinds"]:List Str) from by simp only[putN,if_false],show putD "kinds" w [] []=[w] from by simp only[putD,if_false]];exact propext ⟨λh=>h.2.2,λh=>⟨rfl,by show 0 < 1000;decide,h⟩⟩
theorem wR:gA tab "Net" "lines"=true:=by decide+kernel
theorem K_{R:D->Prop}:jm tab "lines" "Net" bV [v0,v1] R=R v1:=by
 simp only[jm,wR,true_and,LK,LS,show(("lines":Str)=="kinds")=false from by decide+kernel,beq_self_eq_true,t6]
theorem La{w:D}{R:List Str->List D->Prop}:gB tab "lines" w "Net" ["kinds"] [v0] R=R ["kinds","lines"] [v0,w]:=by
 rw[gB,wR,show putN "lines" ["kinds"]=(["kinds","lines"]:List Str) from by simp only[putN,show(("kinds":Str)="lines")=False from eq_false (by decide+kernel),if_false],show putD "lines" w ["kinds"] [v0]=[v0,w] from by simp only[putD,show(("kinds":Str)="lines")=False from eq_false (by decide+kernel),if_false]];exact propext ⟨λh=>h.2.2,λh=>⟨rfl,by show 1 < 1000;decide,h⟩⟩
theorem Lb:Mt ("check_new":Str) (bV.zip [v0,v1])=none:=by
 simp only[LK,Ms,LS,MB,show(("check_new":Str)=="kinds")=false from by decide+kernel,show(("check_new":Str)=="lines")=false from by decide+kernel]
theorem Lc:Mt ("check_nodes":Str) (bV.zip [v0,v1])=none:=by
 simp only[LK,Ms,LS,MB,show(("check_nodes":Str)=="kinds")=false from by decide+kernel,show(("check_nodes":Str)=="lines")=false from by decide+kernel]
theorem Ld:Mt ("check_unused":Str) (bV.zip [v0,v1])=none:=by
 simp only[LK,Ms,LS,MB,show(("check_unused":Str)=="kinds")=false from by decide+kernel,show(("check_unused":Str)=="lines")=false from by decide+kernel]
theorem Le:Mt ("drop":Str) (bV.zip [v0,v1])=none:=by
 simp only[LK,Ms,LS,MB,show(("drop":Str)=="kinds")=false from by decide+kernel,show(("drop":Str)=="lines")=false from by decide+kernel]
theorem Lf:Mt ("ends":Str) (bV.zip [v0,v1])=none:=by
 simp only[LK,Ms,LS,MB,show(("ends":Str)=="kinds")=false from by decide+kernel,show(("ends":Str)=="lines")=false from by decide+kernel]
theorem Lg:Mt ("gate":Str) (bV.zip [v0,v1])=none:=by
 simp only[LK,Ms,LS,MB,show(("gate":Str)=="kinds")=false from by decide+kernel,show(("gate":Str)=="lines")=false from by decide+kernel]
theorem Lh:Mt ("house":Str) (bV.zip [v0,v1])=none:=by
 simp only[LK,Ms,LS,MB,show(("house":Str)=="kinds")=false from by decide+kernel,show(("house":Str)=="lines")=false from by decide+kernel]
theorem Li:Mt ("kind":Str) (bV.zip [v0,v1])=none:=by
 simp only[LK,Ms,LS,MB,show(("kind":Str)=="kinds")=false from by decide+kernel,show(("kind":Str)=="lines")=false from by decide+kernel]
theorem Lj:Mt ("line":Str) (bV.zip [v0,v1])=none:=by
 simp only[LK,Ms,LS,MB,show(("line":Str)=="kinds")=false from by decide+kernel,show(("line":Str)=="lines")=false from by decide+kernel]
theorem Lk:Mt ("names":Str) (bV.zip [v0,v1])=none:=by
 simp only[LK,Ms,LS,MB,show(("names":Str)=="kinds")=false from by decide+kernel,show(("names":Str)=="lines")=false from by decide+kernel]
theorem Ll:Mt ("put_node":Str) (bV.zip [v0,v1])=none:=by
 simp only[LK,Ms,LS,MB,show(("put_node":Str)=="kinds")=false from by decide+kernel,show(("put_node":Str)=="lines")=false from by decide+kernel]
abbrev al:List Str:=["BadEnds","BadName","BadNumber","Full","InUse","NoName","Taken"]
abbrev jD:List Str:=["BadEnds","BadName","BadNumber","Full"]
abbrev aU:List Str:=["Tight","Late","Heavy","NoPlan","NoRoom","NoStep","TooFew","BadPage","BadName","BadNumber","BadWay","BadEnds","BadLine","Taken","NoName","InUse","Full"]
abbrev jE:List Str:=["NetError"]
abbrev gO:List Str:=["InUse","NoName","Taken"]
abbrev l_:List Str:=["InUse"]
abbrev ma:List Str:=["BadEnds","BadName","BadNumber","Full","NoName","Taken"]
abbrev gP:List Str:=["NoName"]
abbrev gQ:List Str:=["BadEnds","BadName","BadNumber","Full","InUse","Taken"]
abbrev GE:List (Str×List Str×List Str):=[("InUse",l_,ma),("NoName",gP,gQ)]
def jF(z:Str):Option Str:=fText "name" z (iD (bY wN)) LZ
def fq(z:Str):Option Str:=fText "name" z (iD (bY wO)) LZ
def jG(z:Str):Option Str:=fText "name" z (iD (bY wP)) LZ
@[reducible] def wS:DS:=(ax (kF (gu dLe dLe (dC (.int 1)) (dCB aQ (za (zc 0) zj)) (zc 2)) (dCB jf (za (bK ["sign"] [1] [0] (aX (zc 0)) (zx 0) cP (dOp kX (zc 0) (zc 1))) zj))))
def pV:DSp:=aB wS vI 3
@[reducible] def wU:DS:=(ax (kF (dCB c7 (za (zc 0) (za (dC (.ty "int")) zj))) (sR (dCB c7 (za (zc 0) (za (dC (.ty "bool")) zj))))))
def jH:DSp:=aB wU vM 1
@[reducible] def wV:DS:=(zK (kT tab (zc 0) js "kinds")
  (kT tab (zc 0) js "lines"))
def md:DSp:=aB wV vO 1
@[reducible] def wW:DS:=(ax (dCB dB (za (aL tab (zc 0) "kinds") zj)))
def eN:DSp:=aB wW vS 1
@[reducible] def wX:DS:=(zK (ad (zL (dOp (c9 true) (zc 1) (aL tab (zc 0) "kinds")))
  dq
  zZ)
  (ax (iq (aL tab (zc 0) "kinds") (zc 1))))
def gR:DSp:=aB wX pp 2
@[reducible] def wY:DS:=(ax (dCB eF (za (aL tab (zc 0) "kinds") zj)))
def jI:DSp:=aB wY vW 1
@[reducible] def wZ:DS:=(bS (aX (zc 1)) (zx 2)
  (ad (dOr (zL (dOp (c9 true) (zc 2) (aL tab (zc 0) "kinds"))) (zL (dOp (c9 false) (zc 2) (aL tab (zc 0) "lines"))))
  dq
  zZ))
def jJ:DSp:=aB wZ px 2
@[reducible] def w6:DS:=(zK (ad (eZ (zL (gu dLe dLe (dC (.int 1)) (dCB aQ (za (zc 0) zj)) (dC (.int 6)))))
  dq
  zZ)
  (ad (zL (dOp dLt (on (zc 0)) (dCB aQ (za (zc 0) zj))))
  dq
  zZ))
def jK:DSp:=aB w6 pA 1
@[reducible] def w8(Ex:DXE):DS:=(zK (ad (eZ (zL (gu dLe dLe (dC (.int 1)) (dCB aQ (za (zc 0) zj)) (dC (.int 6)))))
  (fU "BadEnds" Ex (za (dC (.str "not one to six names")) zj))
  zZ)
  (ad (zL (dOp dLt (on (zc 0)) (dCB aQ (za (zc 0) zj))))
  (fU "BadEnds" Ex (za (dC (.str "a name twice")) zj))
  zZ))
def me:bf:=cx w8 pA 1
@[reducible] def w_:DS:=(zK (ae (dC (.int 0)) (zx 3))
  (zK (bS (aX (dOp dIx (zc 0) (dC (.int 1)))) (zx 4)
  (zK (ae (dC (.int 0)) (zx 5))
  (zK (bS (aX (zc 1)) (zx 6)
  (ad (zL (dOp (bi false) (dOp dIx (zc 6) (dC (.int 0))) (zc 4)))
  (ae (dOp aI (dOp aI (dOp aI (zc 5) (dOp dIx (zc 0) (dC (.int 3)))) (dOp dIx (zc 6) (dC (.int 3)))) (zc 2)) (zx 5))
  zZ))
  (ae (dCB ij (za (zc 3) (za (zc 5) zj))) (zx 3)))))
  (ax (zc 3))))
def mf:DSp:=aB w_ wj 3
@[reducible] def xa:DS:=(zK (ae (cO zj) (zx 1))
  (zK (ad (zL (dCB (br al aU) (za (zc 0) (za (dC (.cls "BadName")) zj))))
  (zT (dBM "list" zW (zc 1) (za (dC (.str "BadName")) zj)))
  zZ)
  (zK (ad (zL (dCB (br al aU) (za (zc 0) (za (dC (.cls "BadNumber")) zj))))
  (zT (dBM "list" zW (zc 1) (za (dC (.str "BadNumber")) zj)))
  zZ)
  (zK (ad (zL (dCB (br al aU) (za (zc 0) (za (dC (.cls "BadWay")) zj))))
  (zT (dBM "list" zW (zc 1) (za (dC (.str "BadWay")) zj)))
  zZ)
  (zK (ad (zL (dCB (br al aU) (za (zc 0) (za (dC (.cls "BadEnds")) zj))))
  (zT (dBM "list" zW (zc 1) (za (dC (.str "BadEnds")) zj)))
  zZ)
  (zK (ad (zL (dCB (br al aU) (za (zc 0) (za (dC (.cls "BadLine")) zj))))
  (zT (dBM "list" zW (zc 1) (za (dC (.str "BadLine")) zj)))
  zZ)
  (zK (ad (zL (dCB (br al aU) (za (zc 0) (za (dC (.cls "Taken")) zj))))
  (zT (dBM "list" zW (zc 1) (za (dC (.str "Taken")) zj)))
  zZ)
  (zK (ad (zL (dCB (br al aU) (za (zc 0) (za (dC (.cls "NoName")) zj))))
  (zT (dBM "list" zW (zc 1) (za (dC (.str "NoName")) zj)))
  zZ)
  (zK (ad (zL (dCB (br al aU) (za (zc 0) (za (dC (.cls "InUse")) zj))))
  (zT (dBM "list" zW (zc 1) (za (dC (.str "InUse")) zj)))
  zZ)
  (zK (ad (zL (dCB (br al aU) (za (zc 0) (za (dC (.cls "Full")) zj))))
  (zT (dBM "list" zW (zc 1) (za (dC (.str "Full")) zj)))
  zZ)
  (jb 1 (ax (zc 1)))))))))))))
def mh:DSp:=aB xa wx 1
@[reducible] def xc:DS:=(zK (ae (cO zj) (zx 1))
  (zK (ad (zL (dCB (br al aU) (za (zc 0) (za (dC (.cls "Tight")) zj))))
  (zT (dBM "list" zW (zc 1) (za (dC (.str "Tight")) zj)))
  zZ)
  (zK (ad (zL (dCB (br al aU) (za (zc 0) (za (dC (.cls "Late")) zj))))
  (zT (dBM "list" zW (zc 1) (za (dC (.str "Late")) zj)))
  zZ)
  (zK (ad (zL (dCB (br al aU) (za (zc 0) (za (dC (.cls "Heavy")) zj))))
  (zT (dBM "list" zW (zc 1) (za (dC (.str "Heavy")) zj)))
  zZ)
  (zK (ad (zL (dCB (br al aU) (za (zc 0) (za (dC (.cls "NoPlan")) zj))))
  (zT (dBM "list" zW (zc 1) (za (dC (.str "NoPlan")) zj)))
  zZ)
  (zK (ad (zL (dCB (br al aU) (za (zc 0) (za (dC (.cls "NoRoom")) zj))))
  (zT (dBM "list" zW (zc 1) (za (dC (.str "NoRoom")) zj)))
  zZ)
  (zK (ad (zL (dCB (br al aU) (za (zc 0) (za (dC (.cls "NoStep")) zj))))
  (zT (dBM "list" zW (zc 1) (za (dC (.str "NoStep")) zj)))
  zZ)
  (zK (ad (zL (dCB (br al aU) (za (zc 0) (za (dC (.cls "TooFew")) zj))))
  (zT (dBM "list" zW (zc 1) (za (dC (.str "TooFew")) zj)))
  zZ)
  (zK (ad (zL (dCB (br al aU) (za (zc 0) (za (dC (.cls "BadPage")) zj))))
  (zT (dBM "list" zW (zc 1) (za (dC (.str "BadPage")) zj)))
  zZ)
  (jb 1 (ax (zc 1))))))))))))
def mi:DSp:=aB xc wz 1
@[reducible] def xf:DS:=(ax (dCall pV (za (zc 0) (za (dC (.str "abcdefghijklmnopqrstuvwxyz")) (za (dC (.int 8)) zj)))))
def iH:DSp:=aB xf vK 1
@[reducible] def xh:DS:=(ad (eZ (zL (dCall jH (za (zc 0) zj))))
  dq
  zZ)
def mj:DSp:=aB xh o9 1
@[reducible] def xi(Ex:DXE):DS:=(ad (eZ (zL (dCall jH (za (zc 0) zj))))
  (fU "BadNumber" Ex (za (dC (.str "not a number")) zj))
  zZ)
def pW:bf:=cx xi o9 1
@[reducible] def xj(Ex:DXE):DS:=(zK (ad (zL (dOp (c9 true) (zc 1) (aL tab (zc 0) "kinds")))
  (dE "NoName" fq Ex (zc 1))
  zZ)
  (ax (iq (aL tab (zc 0) "kinds") (zc 1))))
def iI:bf:=cx xj pp 2
@[reducible] def xp(Ex:DXE):DS:=(zK (ad (zL (dOp (c9 true) (zc 1) (aL tab (zc 0) "lines")))
  (dE "NoName" fq Ex (zc 1))
  zZ)
  (ax (iq (aL tab (zc 0) "lines") (zc 1))))
def ml:bf:=cx xp vU 2
@[reducible] def xq(Ex:DXE):DS:=(bS (aX (zc 1)) (zx 2)
  (ad (dOr (zL (dOp (c9 true) (zc 2) (aL tab (zc 0) "kinds"))) (zL (dOp (c9 false) (zc 2) (aL tab (zc 0) "lines"))))
  (dE "NoName" fq Ex (zc 2))
  zZ))
def mm:bf:=cx xq px 2
@[reducible] def xu(Ex:DXE):DS:=(bS (aX (dCB dB (za (aL tab (zc 0) "lines") zj))) (zx 2)
  (zK (ae (iq (aL tab (zc 0) "lines") (zc 2)) (nX 3 (e7 (zx 3) (e7 (zx 4) (e7 (zx 5) nW)))))
  (ad (dOr (zL (dOp (bi false) (zc 1) (zc 3))) (zL (dOp (bi false) (zc 1) (zc 4))))
  (dE "InUse" jF Ex (zc 2))
  zZ)))
def mn:bf:=cx xu vY 2
@[reducible] def xv:DS:=(ax (dOp dIx (zc 1) (dCall bc (za (zc 0) (za (dCB aQ (za (zc 1) zj)) zj)))))
def jL:DSp:=aB xv v2 2
@[reducible] def xy:DS:=(zK (ae (dC (.str "abcdefghijklmnopqrstuvwxyz")) (zx 2))
  (zK (bS (c6 (za (dC (.int 4)) zj)) (zx 3)
  (zK (ae (dOp aI (dC (.int 1)) (dCall bc (za (zc 0) (za (dC (.int 3)) zj)))) (zx 4))
  (zK (ad (zL (dOp dEq (zc 4) (dC (.int 3))))
  (ae (dOp aI (dC (.int 1)) (dCall bc (za (zc 0) (za (dC (.int 8)) zj)))) (zx 4))
  zZ)
  (zK (ae (dBM "str" oj (dC (.str "")) (za (bK ["_law_k"] [2,0] [0] (c6 (za (zc 4) zj)) (zx 0) cP (dOp dIx (zc 1) (dCall bc (za (zc 2) (za (dC (.int 26)) zj))))) zj)) (zx 5))
  (ad (zL (dOp (bi true) (zc 5) (zc 1)))
  (zK (zT (dBM "list" zW (zc 1) (za (zc 5) zj)))
  (ax (zc 5)))
  zZ)))))
  (zK (bS (c6 (za (dC (.int 104)) zj)) (zx 6)
  (zK (ae (dOp gD (dOp dIx (zc 2) (dOp gw (zc 6) (dC (.int 26)))) (dOp aI (dC (.int 1)) (dOp nZ (zc 6) (dC (.int 26))))) (zx 5))
  (ad (zL (dOp (bi true) (zc 5) (zc 1)))
  (zK (zT (dBM "list" zW (zc 1) (za (zc 5) zj)))
  (ax (zc 5)))
  zZ)))
  (ax (dC (.str "zzzzzzzz"))))))
def cM:DSp:=aB xy v7 2
@[reducible] def xz:DS:=(zK (ae (dOp aI (dCall mh (za (zc 0) zj)) (dCall mi (za (zc 0) zj))) (zx 1))
  (zK (ad (ja (zL (dOp dEq (dCB aQ (za (zc 1) zj)) (dC (.int 1)))) (zL (dCB (br al aU) (za (zc 0) (za (dC (.ty "ValueError")) zj)))))
  (ax (dOp dIx (zc 1) (dC (.int 0))))
  zZ)
  (ax (dC (.str "mixed")))))
def jM:DSp:=aB xz wC 1
@[reducible] def xA:DS:=(ad (eZ (zL (dCall iH (za (zc 0) zj))))
  dq
  zZ)
def mo:DSp:=aB xA o7 1
@[reducible] def xB(Ex:DXE):DS:=(ad (eZ (zL (dCall iH (za (zc 0) zj))))
  (fU "BadName" Ex (za (vv (oO (dC (.str "not a name: ")) (oO (vt (zc 0)) vq))) zj))
  zZ)
def jN:bf:=cx xB o7 1
@[reducible] def xC:DS:=(zK (zT (dCall mj (za (zc 0) zj)))
  (ad (eZ (zL (gu dLe dLe (zc 1) (zc 0) (zc 2))))
  dq
  zZ))
def mq:DSp:=aB xC o_ 3
@[reducible] def xD(Ex:DXE):DS:=(zK (zT (iA pW Ex 1 0 [.p 0] [] (za (zc 0) zj) zj))
  (ad (eZ (zL (gu dLe dLe (zc 1) (zc 0) (zc 2))))
  (fU "BadNumber" Ex (za (dC (.str "not a number within its bounds")) zj))
  zZ))
def pX:bf:=cx xD o_ 3
@[reducible] def xE(Ex:DXE):DS:=(zK (ad (zL (dOp dEq (b_ "Net" "kind" iI Ex 2 0 [.p 0,.p 1] [] (zc 0) (za (zc 1) zj) zj) (dC (.str "line"))))
  (lj (aL tab (zc 0) "lines") (zc 1))
  (zT (b_ "Net" "check_unused" mn Ex 2 0 [.p 0,.p 1] [] (zc 0) (za (zc 1) zj) zj)))
  (lj (aL tab (zc 0) "kinds") (zc 1)))
def gS:bf:=cx xE vQ 2
@[reducible] def xF:DS:=(zK (ae (bK ["_law_line"] [5,3] [0] (aX (zc 2)) (zx 0) (ja (zL (dOp (bi true) (dOp dIx (zc 0) (dC (.int 0))) (zc 1))) (dOr (zL (dOp (bi false) (zc 2) (dOp dIx (zc 0) (dC (.int 1))))) (zL (dOp dLt (dCB aQ (za (dOp dIx (zc 0) (dC (.int 1))) zj)) (dC (.int 6)))))) (zc 0)) (zx 6))
  (zK (ae (bK ["_law_line"] [4] [0] (aX (zc 6)) (zx 0) (dOr (zL (dOp (bi false) (zc 1) (dOp dIx (zc 0) (dC (.int 2))))) (zL (dOp dLt (dCB aQ (za (dOp dIx (zc 0) (dC (.int 2))) zj)) (dC (.int 6))))) (zc 0)) (zx 6))
  (zK (ad (ja (zL (dOp dLt (dCB aQ (za (zc 2) zj)) (dC (.int 14)))) (dOr (zL (dOp dEq (dCB aQ (za (zc 6) zj)) (dC (.int 0)))) (zL (dOp dEq (dCall bc (za (zc 0) (za (dC (.int 3)) zj))) (dC (.int 0))))))
  (zK (zT (dBM "list" zW (zc 2) (za (c5 (za (dCall cM (za (zc 0) (za (zc 1) zj))) (za (cO (za (zc 3) zj)) (za (cO (za (zc 4) zj)) (za (dCall bc (za (zc 0) (za (dC (.int 4)) zj))) zj))))) zj)))
  (ax (dOp dIx (dOp dIx (zc 2) (dUn fK (dC (.int 1)))) (dC (.int 0)))))
  zZ)
  (zK (ae (dCall jL (za (zc 0) (za (zc 6) zj))) (zx 7))
  (zK (ad (zL (dOp (bi true) (zc 3) (dOp dIx (zc 7) (dC (.int 1)))))
  (zT (dBM "list" zW (dOp dIx (zc 7) (dC (.int 1))) (za (zc 3) zj)))
  zZ)
  (zK (ad (zL (dOp (bi true) (zc 4) (dOp dIx (zc 7) (dC (.int 2)))))
  (zT (dBM "list" zW (dOp dIx (zc 7) (dC (.int 2))) (za (zc 4) zj)))
  zZ)
  (ax (dOp dIx (zc 7) (dC (.int 0))))))))))
def jO:DSp:=aB xF v9 6
@[reducible] def xG:DS:=(zK (ae (cO zj) (zx 2))
  (zK (da [(gP,gQ,3,(zT (dBM "list" zW (zc 2) (za (eJ gO (zc 3)) zj))))] (λEx=>(zT (b_ "Net" "kind" iI Ex 2 0 [.p 0,.p 1] [] (zc 0) (za (zc 1) zj) zj))))
  (zK (da [(gP,gQ,3,(zT (dBM "list" zW (zc 2) (za (eJ gO (zc 3)) zj))))] (λEx=>(zT (b_ "Net" "ends" ml Ex 2 0 [.p 0,.p 1] [] (zc 0) (za (zc 1) zj) zj))))
  (jb 2 (ax (zc 2))))))
def jP:DSp:=aB xG wG 2
@[reducible] def xH:DS:=(zK (zT (dCall mo (za (zc 1) zj)))
  (ad (zL (dOp (c9 false) (zc 1) (aL tab (zc 0) "kinds")))
  dq
  zZ))
def jQ:DSp:=aB xH pw 2
@[reducible] def xI(Ex:DXE):DS:=(zK (zT (iA jN Ex 1 0 [.p 0] [] (za (zc 1) zj) zj))
  (ad (zL (dOp (c9 false) (zc 1) (aL tab (zc 0) "kinds")))
  (dE "Taken" jG Ex (zc 1))
  zZ))
def zV:bf:=cx xI pw 2
@[reducible] def xJ:DS:=(zK (ae (bK ["_law_gate"] [6] [0] (aX (zc 3)) (zx 0) (zL (dOp (bi true) (zc 0) (zc 1))) (zc 0)) (zx 7))
  (zK (ae (cO (za (zc 4) zj)) (zx 8))
  (zK (bS (c6 (za (dCB fM (za (dCall bc (za (zc 0) (za (dC (.int 3)) zj))) (za (dCB aQ (za (zc 7) zj)) zj))) zj)) (zx 9)
  (zK (ae (dCall jL (za (zc 0) (za (zc 7) zj))) (zx 10))
  (zK (ae (bK ["_law_other"] [10] [0] (aX (zc 7)) (zx 0) (zL (dOp dNe (zc 0) (zc 1))) (zc 0)) (zx 7))
  (zK (zT (dBM "list" zW (zc 8) (za (dCall jO (za (zc 0) (za (zc 1) (za (zc 2) (za (dOp dIx (zc 8) (dUn fK (dC (.int 1)))) (za (zc 10) (za (dOp aI (zc 6) (zc 8)) zj))))))) zj)))
  (zT (dBM "list" zW (zc 8) (za (zc 10) zj)))))))
  (zK (zT (dBM "list" zW (zc 8) (za (dCall jO (za (zc 0) (za (zc 1) (za (zc 2) (za (dOp dIx (zc 8) (dUn fK (dC (.int 1)))) (za (zc 5) (za (dOp aI (zc 6) (zc 8)) zj))))))) zj)))
  (zK (zT (dBM "list" zW (zc 8) (za (zc 5) zj)))
  (ax (dCB b8 (za (zc 8) zj))))))))
def jR:DSp:=aB xJ wf 7
@[reducible] def xK:DS:=(zK (da [(l_,ma,2,(ax (dTup (za (dC (.str "InUse")) (za (eJ gO (zc 2)) zj))))),
  (gP,gQ,2,(ax (dTup (za (dC (.str "NoName")) (za (eJ gO (zc 2)) zj)))))] (λEx=>(zT (b_ "Net" "drop" gS Ex 2 0 [.p 0,.p 1] [] (zc 0) (za (zc 1) zj) zj))))
  (ax (dTup (za (dC (.str "done")) (za (zc 1) zj)))))
def eO:DSp:=aB xK wE 2
@[reducible] def xL:DS:=(zK (zT (bq "Net" "check_new" jQ 2 0 [.p 0,.p 1] [] (zc 0) (za (zc 1) zj) zj))
  (zK (ad (zL (dOp dGe (dCB eF (za (aL tab (zc 0) "lines") zj)) (dC (.int 16))))
  dq
  zZ)
  (zK (zT (dCall jK (za (zc 2) zj)))
  (zK (zT (dCall jK (za (zc 3) zj)))
  (zK (zT (bq "Net" "check_nodes" jJ 2 0 [.p 0,.p 1] [] (zc 0) (za (zc 2) zj) zj))
  (zK (zT (bq "Net" "check_nodes" jJ 2 0 [.p 0,.p 1] [] (zc 0) (za (zc 3) zj) zj))
  (zK (zT (dCall mq (za (zc 4) (za (dC (.int 0)) (za (dC (.int 30)) zj)))))
  (zK (dA (aL tab (zc 0) "kinds") (zc 1) (dC (.str "line")))
  (dA (aL tab (zc 0) "lines") (zc 1) (dTup (za (dCB b8 (za (dCB dB (za (zc 2) zj)) zj)) (za (dCB b8 (za (dCB dB (za (zc 3) zj)) zj)) (za (zc 4) zj)))))))))))))
def jS:DSp:=aB xL ph 5
@[reducible] def xM(Ex:DXE):DS:=(zK (zT (b_ "Net" "check_new" zV Ex 2 0 [.p 0,.p 1] [] (zc 0) (za (zc 1) zj) zj))
  (zK (ad (zL (dOp dGe (dCB eF (za (aL tab (zc 0) "lines") zj)) (dC (.int 16))))
  (fU "Full" Ex (za (dC (.str "there is no place for one more line")) zj))
  zZ)
  (zK (zT (iA me Ex 1 0 [.p 0] [] (za (zc 2) zj) zj))
  (zK (zT (iA me Ex 1 0 [.p 0] [] (za (zc 3) zj) zj))
  (zK (zT (b_ "Net" "check_nodes" mm Ex 2 0 [.p 0,.p 1] [] (zc 0) (za (zc 2) zj) zj))
  (zK (zT (b_ "Net" "check_nodes" mm Ex 2 0 [.p 0,.p 1] [] (zc 0) (za (zc 3) zj) zj))
  (zK (zT (iA pX Ex 3 0 [.p 0,.p 1,.p 2] [] (za (zc 4) (za (dC (.int 0)) (za (dC (.int 30)) zj))) zj))
  (zK (dA (aL tab (zc 0) "kinds") (zc 1) (dC (.str "line")))
  (dA (aL tab (zc 0) "lines") (zc 1) (dTup (za (dCB b8 (za (dCB dB (za (zc 2) zj)) zj)) (za (dCB b8 (za (dCB dB (za (zc 3) zj)) zj)) (za (zc 4) zj)))))))))))))
def gT:bf:=cx xM ph 5
@[reducible] def xN:DS:=(zK (zT (bq "Net" "check_new" jQ 2 0 [.p 0,.p 1] [] (zc 0) (za (zc 1) zj) zj))
  (zK (ad (zL (dOp dGe (dOp eh (dCB eF (za (aL tab (zc 0) "kinds") zj)) (dCB eF (za (aL tab (zc 0) "lines") zj))) (dC (.int 16))))
  dq
  zZ)
  (dA (aL tab (zc 0) "kinds") (zc 1) (zc 2))))
def jT:DSp:=aB xN pv 3
@[reducible] def xO(Ex:DXE):DS:=(zK (zT (b_ "Net" "check_new" zV Ex 2 0 [.p 0,.p 1] [] (zc 0) (za (zc 1) zj) zj))
  (zK (ad (zL (dOp dGe (dOp eh (dCB eF (za (aL tab (zc 0) "kinds") zj)) (dCB eF (za (aL tab (zc 0) "lines") zj))) (dC (.int 16))))
  (fU "Full" Ex (za (dC (.str "there is no place for one more house or gate")) zj))
  zZ)
  (dA (aL tab (zc 0) "kinds") (zc 1) (zc 2))))
def gU:bf:=cx xO pv 3
@[reducible] def xP:DS:=(zK (ae (dCall bc (za (zc 0) (za (dCB aQ (za (zc 3) zj)) zj))) (zx 6))
  (zK (ae (dOp dIx (zc 3) (zc 6)) (zx 7))
  (zK (ae (dOp dIx (zc 3) (dOp gw (dOp aI (dOp aI (zc 6) (dC (.int 1))) (dCall bc (za (zc 0) (za (dOp eh (dCB aQ (za (zc 3) zj)) (dC (.int 1))) zj)))) (dCB aQ (za (zc 3) zj)))) (zx 8))
  (zK (ae (cO (za (dCall jR (za (zc 0) (za (zc 1) (za (zc 2) (za (zc 4) (za (zc 7) (za (zc 8) (za (c5 zj) zj)))))))) zj)) (zx 9))
  (zK (ad (zL (dOp dEq (dCall bc (za (zc 0) (za (dC (.int 4)) zj))) (dC (.int 1))))
  (zT (dBM "list" zW (zc 9) (za (dCall jR (za (zc 0) (za (zc 1) (za (zc 2) (za (zc 4) (za (zc 7) (za (zc 8) (za (dCB jg (za (dSl aO (dOp dIx (zc 9) (dC (.int 0))) (bD (dC (.int 1))) (bD (dUn fK (dC (.int 1))))) zj)) zj)))))))) zj)))
  zZ)
  (zK (ae (dOp dIx (c5 (nU [12,8,20,24,10,30,15,40,60,12,120])) (dCall bc (za (zc 0) (za (dC (.int 11)) zj)))) (zx 10))
  (zK (ae (dOp aI (dC (.int 1)) (dCall bc (za (zc 0) (za (dCB fM (za (dC (.int 4)) (za (dOp eh (zc 10) (zc 5)) zj))) zj)))) (zx 11))
  (zK (ae (dTup (za (dCall cM (za (zc 0) (za (zc 1) zj))) (za (dCB b8 (za (zc 9) zj)) (za (zc 10) (za (zc 11) (za (dCall bc (za (zc 0) (za (zc 10) zj))) (za (dC (.int 0)) zj))))))) (zx 12))
  (zK (ae (dOp dIx (c5 (za (dC (.int 0)) (za (dC (.int 1)) (za (dC (.int 2)) (za (dOp nZ (zc 10) (dC (.int 2))) (za (dC (.int 3)) (za (dOp eh (zc 10) (dC (.int 1))) (za (dC (.int 6)) zj)))))))) (dCall bc (za (zc 0) (za (dC (.int 7)) zj)))) (zx 13))
  (ax (dOp aI (dSl aO (zc 12) bT (bD (dC (.int 5)))) (dTup (za (dOp aI (dCall mf (za (zc 12) (za (zc 2) (za (zc 5) zj)))) (zc 13)) zj)))))))))))))
def mr:DSp:=aB xP wn 6
@[reducible] def xQ:DS:=(zT (bq "Net" "put_node" jT 3 0 [.p 0,.p 1,.p 2] [] (zc 0) (za (zc 1) (za (dC (.str "house")) zj)) zj))
def mw:DSp:=aB xQ pd 2
@[reducible] def xR(Ex:DXE):DS:=(zT (b_ "Net" "put_node" gU Ex 3 0 [.p 0,.p 1,.p 2] [] (zc 0) (za (zc 1) (za (dC (.str "house")) zj)) zj))
def fV:bf:=cx xR pd 2
@[reducible] def xS:DS:=(zT (bq "Net" "put_node" jT 3 0 [.p 0,.p 1,.p 2] [] (zc 0) (za (zc 1) (za (dC (.str "gate")) zj)) zj))
def mx:DSp:=aB xS pf 2
@[reducible] def xT(Ex:DXE):DS:=(zT (b_ "Net" "put_node" gU Ex 3 0 [.p 0,.p 1,.p 2] [] (zc 0) (za (zc 1) (za (dC (.str "gate")) zj)) zj))
def jU:bf:=cx xT pf 2
@[reducible] def xU:DS:=(zK (ae (cO zj) (zx 2))
  (zK (ae (bK ["_law_k"] [2,0] [0] (c6 (za (dOp aI (dC (.int 2)) (dCall bc (za (zc 0) (za (dC (.int 3)) zj)))) zj)) (zx 0) cP (dCall cM (za (zc 2) (za (zc 1) zj)))) (zx 3))
  (zK (ae (bK ["_law_k"] [2,0] [0] (c6 (za (dCall bc (za (zc 0) (za (dC (.int 4)) zj))) zj)) (zx 0) cP (dCall cM (za (zc 2) (za (zc 1) zj)))) (zx 4))
  (zK (ae (dOp dIx (c5 (nU [0,1,2,0,3,1,5,7])) (dCall bc (za (zc 0) (za (dC (.int 8)) zj)))) (zx 5))
  (zK (ae (cO zj) (zx 6))
  (zK (ae (bK ["_law_k"] [4,3,6,2,0,5] [0] (c6 (za (dOp aI (dC (.int 1)) (dCall bc (za (zc 0) (za (zc 1) zj)))) zj)) (zx 0) cP (dCall mr (za (zc 5) (za (zc 4) (za (zc 3) (za (zc 2) (za (zc 1) (za (zc 6) zj)))))))) (zx 7))
  (ax (dTup (za (zc 3) (za (zc 4) (za (zc 6) (za (zc 7) (za (zc 5) (za (zc 2) zj))))))))))))))
def my:DSp:=aB xU wq 2
@[reducible] def xV:DS:=(zK (ae (ul "Net" md 1 0 [.p 0] [] zj zj) (zx 1))
  (zK (bS (aX (dOp dIx (zc 0) (dC (.int 0)))) (zx 2)
  (zT (bq "Net" "house" mw 2 0 [.p 0,.p 1] [] (zc 1) (za (zc 2) zj) zj)))
  (zK (bS (aX (dOp dIx (zc 0) (dC (.int 1)))) (zx 2)
  (zT (bq "Net" "gate" mx 2 0 [.p 0,.p 1] [] (zc 1) (za (zc 2) zj) zj)))
  (zK (bS (aX (dOp dIx (zc 0) (dC (.int 2)))) (ow 4 (e7 (zx 2) (e7 (zx 3) (e7 (zx 4) (e7 (zx 5) nW)))))
  (zT (bq "Net" "line" jS 4 1 [.p 0,.p 1,.p 2,.p 3,.k 0] [] (zc 1) (za (zc 2) (za (dCB b8 (za (zc 3) zj)) (za (dCB b8 (za (zc 4) zj)) zj))) (za (zc 5) zj))))
  (ax (zc 1))))))
def mz:DSp:=aB xV wu 1
@[reducible] def xW:DS:=(zK (ae (dC (.str "none")) (zx 4))
  (zK (bS (c6 (za (zc 3) zj)) (zx 5)
  (iF al 6 (λEx=>(ad (zL (dOp dEq (dOp gw (zc 5) (dC (.int 2))) (dC (.int 0))))
  (zT (b_ "Net" "house" fV Ex 2 0 [.p 0,.p 1] [] (zc 0) (za (dCall cM (za (zc 2) (za (zc 1) zj))) zj) zj))
  (zT (b_ "Net" "gate" jU Ex 2 0 [.p 0,.p 1] [] (zc 0) (za (dCall cM (za (zc 2) (za (zc 1) zj))) zj) zj))))
  (ae (dOp aI (dOp aI (dOp aI (zc 4) (dC (.str " "))) (dCB jv (za (zc 5) zj))) (dCall jM (za (zc 6) zj))) (zx 4))))
  (ax (zc 4))))
def mB:DSp:=aB xW wI 4
@[reducible] def xX:DS:=(zK (ae (bK ["_law_name_here"] [2] [0] (aX (bq "Net" "names" eN 1 0 [.p 0] [] (zc 2) zj zj)) (zx 0) (zL (dOp dNe (bq "Net" "kind" gR 2 0 [.p 0,.p 1] [] (zc 1) (za (zc 0) zj) zj) (dC (.str "line")))) (zc 0)) (zx 3))
  (zK (ae (bK ["_law_name_here"] [2] [0] (aX (bq "Net" "names" eN 1 0 [.p 0] [] (zc 2) zj zj)) (zx 0) (zL (dOp dEq (bq "Net" "kind" gR 2 0 [.p 0,.p 1] [] (zc 1) (za (zc 0) zj) zj) (dC (.str "line")))) (zc 0)) (zx 4))
  (zK (ae (dCall mB (za (zc 2) (za (dOp dIx (zc 1) (dC (.int 5))) (za (zc 0) (za (dOp eh (dC (.int 17)) (dCB aQ (za (zc 3) zj))) zj))))) (zx 5))
  (zK (ad (zL (dOp dNe (zc 5) (dOp aI (dOp aI (dC (.str "none ")) (dCB jv (za (dOp eh (dC (.int 16)) (dCB aQ (za (zc 3) zj))) zj))) (dC (.str "Full")))))
  (ax (dC (.bl false)))
  zZ)
  (zK (ae (dCB b8 (za (dSl aO (bK ["_law_name_here"] [2] [0] (aX (bq "Net" "names" eN 1 0 [.p 0] [] (zc 2) zj zj)) (zx 0) (zL (dOp dNe (bq "Net" "kind" gR 2 0 [.p 0,.p 1] [] (zc 1) (za (zc 0) zj) zj) (dC (.str "line")))) (zc 0)) bT (bD (dC (.int 6)))) zj)) (zx 6))
  (zK (bS (c6 (za (dOp eh (dC (.int 16)) (dCB aQ (za (zc 4) zj))) zj)) (zx 7)
  (zT (bq "Net" "line" jS 4 1 [.p 0,.p 1,.p 2,.p 3,.k 0] [] (zc 2) (za (dCall cM (za (zc 0) (za (dOp dIx (zc 1) (dC (.int 5))) zj))) (za (zc 6) (za (dSl lH (zc 6) bT (bD (dOp aI (dC (.int 1)) (dOp gw (zc 7) (dC (.int 6)))))) zj))) (za (dOp gw (zc 7) (dC (.int 31))) zj))))
  (zK (ae (cO zj) (zx 5))
  (zK (bS (aX (c5 (za (dCall cM (za (zc 0) (za (dOp dIx (zc 1) (dC (.int 5))) zj))) (za (dC (.str "A")) (za (dOp dIx (zc 6) (dC (.int 0))) (za (dC (.str "")) zj)))))) (zx 8)
  (bS (aX (c5 (za (dC (.bl false)) (za (dC (.bl true)) zj)))) (zx 9)
  (iF al 10 (λEx=>(ad (zL (zc 9))
  (zT (b_ "Net" "line" gT Ex 4 0 [.p 0,.p 1,.p 2,.p 3,.c 0] [.int 1] (zc 2) (za (zc 8) (za (dTup zj) (za (zc 6) zj))) zj))
  (zT (b_ "Net" "house" fV Ex 2 0 [.p 0,.p 1] [] (zc 2) (za (zc 8) zj) zj))))
  (zT (dBM "list" zW (zc 5) (za (dCall jM (za (zc 10) zj)) zj))))))
  (zK (ae (c5 (za (dC (.str "Full")) (za (dC (.str "Full")) (za (dC (.str "BadName")) (za (dC (.str "BadName")) (za (dC (.str "Taken")) (za (dC (.str "Taken")) (za (dC (.str "BadName")) (za (dC (.str "BadName")) zj))))))))) (zx 11))
  (ax (kF (dOp dEq (zc 5) (zc 11)) (dOp dEq (dCB (lh "Net" jI) (za (zc 2) zj)) (dC (.int 32))))))))))))))
def mC:DSp:=aB xX wK 3
@[reducible] def pY:DS:=(zK (ae (dCall kM (za (zc 0) zj)) (zx 1))
  (zK (ae (dCall my (za (zc 1) (za (dC (.int 5)) zj))) (zx 2))
  (zK (ae (dCall mz (za (zc 2) zj)) (zx 3))
  (zK (ae (dCB oH (za (bK ["_law_line"] [] [0] (aX (dOp dIx (zc 2) (dC (.int 2)))) (zx 0) cP (dCB b8 (za (zc 0) zj))) zj)) (zx 4))
  (zK (ae (dCall bc (za (zc 1) (za (dC (.int 9)) zj))) (zx 5))
  (zK (ae (bq "Net" "names" eN 1 0 [.p 0] [] (zc 3) zj zj) (zx 6))
  (zK (bS (c6 (za (dCB aQ (za (zc 6) zj)) zj)) (zx 7)
  (zK (ae (dOp dIx (zc 6) (dOp gw (dOp aI (dOp gD (zc 7) (dC (.int 7))) (zc 5)) (dCB aQ (za (zc 6) zj)))) (zx 8))
  (zK (ae (bK ["_law_line"] [8] [0] (aX (zc 4)) (zx 0) (dOr (zL (dOp (bi false) (zc 1) (dOp dIx (zc 0) (dC (.int 1))))) (zL (dOp (bi false) (zc 1) (dOp dIx (zc 0) (dC (.int 2)))))) (dOp dIx (zc 0) (dC (.int 0)))) (zx 9))
  (zK (ae (dCall eO (za (zc 3) (za (zc 8) zj))) (zx 10))
  (zK (ad (zL (dOp dGt (dCB aQ (za (zc 9) zj)) (dC (.int 0))))
  (ad (dOr (zL (dOp dNe (zc 10) (dTup (za (dC (.str "InUse")) (za (dOp dIx (zc 9) (dC (.int 0))) zj))))) (zL (dOp (bi true) (zc 8) (bq "Net" "names" eN 1 0 [.p 0] [] (zc 3) zj zj))))
  (ax (dC (.bl false)))
  zZ)
  (ad (dOr (ja (zL (dOp dNe (zc 10) (dTup (za (dC (.str "done")) (za (zc 8) zj))))) (zL (dOp (bi false) (zc 8) (bq "Net" "names" eN 1 0 [.p 0] [] (zc 3) zj zj)))) (zL (dOp dNe (dCall eO (za (zc 3) (za (zc 8) zj))) (dTup (za (dC (.str "NoName")) (za (zc 8) zj))))))
  (ax (dC (.bl false)))
  zZ))
  (zK (ad (zL (dOp dNe (dCall jP (za (zc 3) (za (zc 8) zj))) (dSl aO (c5 (za (zc 8) (za (zc 8) zj))) bT (bD (dOp eh (dC (.int 2)) (dCB fM (za (dC (.int 1)) (za (dCB aQ (za (zc 9) zj)) zj))))))))
  (ax (dC (.bl false)))
  zZ)
  (ae (bK ["_law_line"] [8] [0] (aX (zc 4)) (zx 0) (zL (dOp dNe (dOp dIx (zc 0) (dC (.int 0))) (zc 1))) (zc 0)) (zx 4))))))))
  (zK (ad (zL (dOp dNe (bK ["_law_name_here"] [3] [0] (aX (bq "Net" "names" eN 1 0 [.p 0] [] (zc 3) zj zj)) (zx 0) (zL (dOp dEq (bq "Net" "kind" gR 2 0 [.p 0,.p 1] [] (zc 1) (za (zc 0) zj) zj) (dC (.str "line")))) (zc 0)) (bK ["_law_line"] [] [0] (aX (zc 4)) (zx 0) cP (dOp dIx (zc 0) (dC (.int 0))))))
  (ax (dC (.bl false)))
  zZ)
  (ax (dCall mC (za (zc 1) (za (zc 2) (za (zc 3) zj)))))))))))))
local macro_rules | `(tactic| rw_mod_cast [$rs,*])=>do
 let ts:Array (Lean.TSyntax `term):=rs.getElems.map λr=>⟨r.raw[1]⟩
 let ids:Array (Lean.TSyntax `term):=(("zK ae zc dC dOp dUn Jn ja dOr eZ kF IM sR dIf Jo Jg Je Jf zj za nU dTup c5 cO zZ IN IP zT ax IQ ad dq zx nW Jq Jr Js Jt IR jb Ju Ji Jj Jk Jl bS dCall dCB bK IS Kb Kc Kd Ke Kf Kg aX J8 J9 J_ Ka Jh t6 Jd dSl bT Jp eD JG cP IX Kq Km dBM IW Kn Ko Kp Kj Jm Kk Kl Ep Jx Er Jy Jz eh nZ gw IT dLt dGt dLe dGe IU IV Jv e_i Jw JA JC Et Eu JE JF JH JI JK JL JM JN JO JP Ew JQ JR JS JT JU JV JW JX JY JZ J3 J4 J6 J7 DZ Kr Kt Kx Ky Kz KA KB KC KD Nat.reduceAdd Int.cast_ofNat_Int Int.reduceEq decide_true decide_false List.all_cons List.all_nil List.any_cons List.any_nil id_eq Bool.and_true Bool.true_and Bool.or_false KE KF KG KH KI KJ KK KL Ku Kv Kw iA b_ fU KZ iB K0 K1 K2 K3 vv vq oO vt K4 K5 K6 K7 on KU KR KS aL EJ KN KO KM KP KQ bq ul KY E6 K8 K9 K_ La Lb Lc Ld Le Lf Lg Lh Li Lj Lk Ll sel pick List.getD_cons_zero List.getD_cons_succ beq_self_eq_true Bool.and_self cond_true Ef IY IZ Kh Ki jc ends fJ zy tZ t3 Ek El Em I0 I_ Ja Jb Jc List.length_cons List.length_nil List.map_cons List.map_nil List.set_cons_zero List.set_cons_succ List.getElem?_cons_zero List.getElem?_cons_succ List.cons_append List.nil_append List.replicate Option.join_some Option.join_none true_and and_true if_true Bool.true_eq_false Bool.false_eq_true if_false Bool.not_true Bool.not_false".splitOn " ").map λs=>(⟨Lean.mkIdent s.toName⟩:Lean.TSyntax `term)).toArray
 let all:=ids++ts
 `(tactic| simp only[↓EW, ↓EX, ↓EY, ↓EZ, ↓E1, ↓E2, ↓E4, ↓E5, $[$all:term],*])
local macro_rules | `(tactic| walk_at "e")=> `(tactic| rw_mod_cast [])
local macro_rules | `(tactic| walk_at "x")=> `(tactic| repeat' first|exact E8|exact E_|exact E7 rfl|with_reducible apply Fa|with_reducible apply E9|exact io tZ|exact io t3|exact io Ek|exact io El|exact io Em|exact io E6|exact uz tZ|exact uz t3|exact Fg|exact Ff|apply Fe|with_reducible apply Fb|with_reducible apply Fc|with_reducible apply Fd|exact Fh|with_reducible apply Fi|with_reducible apply Fj|with_reducible apply Fk|with_reducible apply Fl|with_reducible apply Fm|with_reducible apply Fn|with_reducible apply Fo|with_reducible apply Fp|with_reducible apply Fq|with_reducible apply Fr | (show _≠[];simp;done) | (show _ < Nl _;simp;done) | (show Nl _<=1000;simp;done) | (show Nl _+Nl _<=1000;simp;done))
def letters:Str:="abcdefghijklmnopqrstuvwxyz"
theorem GF:∀i:_root_.Fin 26,letters.cps.toList[i.val]? = some (97+i.val):=by decide+kernel
theorem xY{v:Int}(h0:0<=v)(h1:v < 26):atI letters.cps.toList v=some (97+v.toNat):=by
 have h:=eV (GF ⟨v.toNat,by omega⟩);rw[show((v.toNat:Nat):Int)=v by omega] at h;exact h
def eP(k:Nat):Str:=⟨(LB (1+k / 26) (97+k % 26)).toArray⟩
def pZ:List Str:=(MQ 104).map eP
theorem GG:pZ.Nodup:=by decide+kernel
theorem GH:∀k:_root_.Fin 104,((eP k.val).cps.toList.length<=8/\1<=(eP k.val).cps.toList.length)/\(eP k.val).cps.toList.all (λc=>decide (97<=c/\c<=122))=true:=by decide+kernel
theorem GI(h:ns.length < 104)(all:∀k,k < 104->eP k∈ns):False:=by
 have hs:pZ ⊆ ns:=λx hx=>by
  obtain⟨k,hk,rfl⟩:=LW.mp hx;exact all k (NE.mp hk)
 have:=Os GG hs;have e:pZ.length=104:=by decide+kernel
 omega
theorem xZ{s:Nat}{ds:List D}(hs:μ s=some .draw)(h0:ds≠[])(hl:ds.length<=1000)(q:∀(i:Nat) d,ds[i]? = some d->Q d μ):jL [.cell s,.lst ds] μ Q:=by
 have hp:0 < ds.length:=Oy.mpr h0;refine⟨rfl,?_⟩;walk_at "e"
 refine⟨hs,by omega,by omega,λv v0 v1=>?_⟩;obtain⟨d,e1,e2⟩:=kO v0 v1;rw_mod_cast [e1];exact⟨_,.refl _,q _ d e2⟩
theorem p_(cs:List Nat):(Nx (L5 "") (cs.map λc=>(⟨#[c]⟩:Str))).cps.toList=cs:=by
 show(Nx LZ (cs.map λc=>(⟨#[c]⟩:Str))).cps.toList=cs;rw[sB,MC];induction cs with
 |nil=>rfl
 |cons c r ih=>rw[LV,MX,ih];rfl
theorem GJ(cs:List Nat):i5 (cs.map λc=>(⟨#[c]⟩:Str))=cs.length+cs.length:=by
 unfold i5;rw[MC,L1];congr 1
 induction cs with
 |nil=>rfl
 |cons c r ih=>rw[LV,O2,ih,LF];show 1+r.length=_;omega
theorem iJ{s:Nat}(hs:μ s=some .draw)(hn:μ na=some (.lst (ns.map D.str)))(hl:ns.length < 100)(q:∀x,Nm x->x∉ns->Q (.str x) (zY μ na (.lst ((ns++[x]).map D.str)))):cM [.cell s,.cell na] μ Q:=by
 have hz:(200:Nat)<=sizeLine:=by decide
 have el:(L5 "abcdefghijklmnopqrstuvwxyz")=letters:=rfl;have ll:letters.length<=sizeLine:=by decide
 refine⟨rfl,stp λN1 h1=>?_⟩;walk_at "e"
 refine h1 _ _ (fR (λρ μ'=>∃x3 x4 x5,ρ=[some (.cell s),some (.cell na),some (.str letters),x3,x4,x5,none]/\μ'=μ) (λN hN=>?_) ?_)
 .walk_at "e"
  refine⟨by decide,by decide,?_⟩;refine cu (λi ρ μ'=>∃x3 x4 x5,ρ=[some (.cell s),some (.cell na),some (.str letters),x3,x4,x5,none]/\μ'=μ) ⟨_,_,_,rfl,rfl⟩ ?_ (λρ μ' h=>hN _ _ h);rintro i d ρ μ' hd ⟨x3,x4,x5,rfl,rfl⟩ M hM;refine stp λM1 g1=>?_
  walk_at "e"
  refine⟨hs,by decide,by decide,λv v0 v1=>g1 _ _ (fR (λρ μ2=>∃x3 x5 size,ρ=[some (.cell s),some (.cell na),some (.str letters),x3,some (.int size),x5,none]/\μ2=μ'/\1<=size/\size<=8) (λN hN=>?_) ?_)⟩
  .walk_at "e"
   split
   .exact⟨hs,by decide,by decide,λv v0 v1=>hN _ _ ⟨_,_,_,rfl,rfl,by omega,by omega⟩⟩
   .exact hN _ _ ⟨_,_,_,rfl,rfl,by omega,by omega⟩
  rintro ρ μ2 ⟨y3,y5,size,rfl,rfl,z1,z8⟩;refine stp λM2 g2=>?_
  walk_at "e"
  refine⟨by decide,by omega,by omega,?_⟩;refine jo (λi ys μ3=>μ3=μ2/\∃cs:List Nat,ys=(cs.map λc=>(⟨#[c]⟩:Str)).map D.str/\cs.length=i/\∀c∈cs,97<=c/\c<=122) ⟨rfl,[],rfl,rfl,λc hc=>by cases hc⟩ ?_ ?_
  .rintro i d ys μ3 hd ⟨rfl,cs,rfl,hc,hcs⟩;obtain⟨hi,rfl⟩:=fQ hd;refine⟨by rw[L1,L1];omega,λN hN=>?_⟩;walk_at "e"
   refine⟨hs,by decide,by decide,λv v0 v1=>?_⟩;rw_mod_cast [xY v0 v1];refine⟨ll,hN _ _ ⟨rfl,cs++[97+v.toNat],by rw[Lr,Lr];rfl,by rw[L7,hc];rfl,λc h=>?_⟩⟩;rcases LP.mp h with h|h
   .exact hcs c h
   .rw[Lo.mp h];omega
  rintro ys μ3 ⟨rfl,cs,rfl,hc,hcs⟩;rw[jj] at hc;refine⟨cs.map λc=>(⟨#[c]⟩:Str),rfl,by decide,by rw[GJ];omega,g2 _ _ ?_⟩;have nm:Nm (Nx (L5 "") (cs.map λc=>(⟨#[c]⟩:Str))):=⟨by rw[p_];omega,by rw[p_];omega,by rw[p_];exact hcs⟩;generalize Nx (L5 "") (cs.map λc=>(⟨#[c]⟩:Str))=x at nm
  rw_mod_cast [dz hn,My];split
  .rename_i c;have c':x∉ns:=by simpa using c
   rw_mod_cast [hn];refine⟨by rw[L1];omega,_,.refl _,?_⟩;have:=q x nm c';rw[Lr] at this;exact this
  .exact hM _ _ ⟨_,_,_,rfl,rfl⟩
 rintro ρ μ' ⟨x3,x4,x5,rfl,rfl⟩;refine stp λM1 g1=>?_
 walk_at "e"
 refine⟨by decide,by decide,?_⟩;refine cu (λi ρ μ2=>∃x5 x6,ρ=[some (.cell s),some (.cell na),some (.str letters),x3,x4,x5,x6]/\μ2=μ'/\∀k,k < i->eP k∈ns) ⟨_,_,rfl,rfl,λk hk=>absurd hk (Nat.not_lt_zero k)⟩ ?_ ?_
 .rintro j d ρ μ2 hd ⟨x5,x6,rfl,rfl,hb⟩ M hM;obtain⟨hj,rfl⟩:=fQ hd;have hj':j < 104:=hj;refine stp λM2 g2=>?_
  have e0:(0:Int)+(j:Int)=j:=by omega
  rw[e0];rw_mod_cast [xY (v:=(j:Int) % 26) (by omega) (by omega)];refine⟨by decide,ll,⟨by decide,by decide⟩,by omega,by omega,λy hy=>g2 _ _ ?_⟩;have ex:y=eP j:=C6 (by
   rw[hy];show LB (1+(j:Int) / 26).toNat (97+((j:Int) % 26).toNat)=LB (1+j / 26) (97+j % 26);congr 1<;>omega)
  subst ex;have nm:Nm (eP j):=by
   obtain⟨⟨h8,h1⟩,ha⟩:=GH ⟨j,hj'⟩;exact⟨h1,h8,λc hc=>of_decide_eq_true (Me.mp ha c hc)⟩
  rw_mod_cast [dz hn,My];split
  .rename_i c;have c':eP j∉ns:=by simpa using c
   rw_mod_cast [hn];refine⟨by rw[L1];omega,_,.refl _,?_⟩;have:=q _ nm c';rw[Lr] at this;exact this
  .rename_i c;have c':eP j∈ns:=by simpa using c
   refine hM _ _ ⟨_,_,rfl,rfl,λk hk=>?_⟩;by_cases e:k=j
   .rw[e];exact c'
   .exact hb k (by omega)
 .rintro ρ μ2 ⟨x5,x6,rfl,rfl,hb⟩;rw[jj] at hb;exact(GI (by omega) hb).elim
def bg(r:LR):D:= .lst [.str r.nm,.cell r.sa,.cell r.ea,.int r.w]
structure WD(μ:Mu)(s na la:Nat)(ns:List Str)(ls:List LR):Prop where
 ds:μ s=some .draw
 dn:μ na=some (.lst (ns.map D.str))
 dl:μ la=some (.lst (ls.map bg))
 nl:na≠la
 rs:∀r∈ls,μ r.sa=some (.lst (r.S.map D.str))/\μ r.ea=some (.lst (r.E.map D.str))
 ap:∀r∈ls,r.sa≠na/\r.sa≠la/\r.ea≠na/\r.ea≠la
 nd:∀(i j:Nat) (r r':LR),ls[i]? = some r->ls[j]? = some r'->(r.sa=r'.sa->i=j)/\(r.ea=r'.ea->i=j)/\r.sa≠r'.ea
def bv(na la:Nat)(μ:Mu)(ls:List LR)(μ':Mu)(ls':List LR):Prop:=∀k c,μ k=some c->k≠na->k≠la->(∀r∈ls,k≠r.sa/\k≠r.ea)->μ' k=some c/\∀r∈ls',k≠r.sa/\k≠r.ea
theorem bv.refl:bv na la μ ls μ ls:=λ_ _ e _ _ h=>⟨e,h⟩
theorem bv.trans{μ1 μ2:Mu}{ls1 ls2:List LR}(a:bv na la μ ls μ1 ls1)(b:bv na la μ1 ls1 μ2 ls2):bv na la μ ls μ2 ls2:=λk c e h1 h2 h3=>by
 obtain⟨e1,n1⟩:=a k c e h1 h2 h3;exact b k c e1 h1 h2 n1
theorem WD.sna{s:Nat}(W:WD μ s na la ns ls):s≠na:=λz=>by have:=W.ds;rw[z,W.dn] at this;cases this
theorem WD.sla{s:Nat}(W:WD μ s na la ns ls):s≠la:=λz=>by have:=W.ds;rw[z,W.dl] at this;cases this
theorem WD.names{s:Nat}(W:WD μ s na la ns ls):WD (zY μ na (.lst (ns'.map D.str))) s na la ns' ls where
 ds:=by rw[zr W.sna];exact W.ds
 dn:=zy
 dl:=by rw[zr (Ne.symm W.nl)];exact W.dl
 nl:=W.nl
 rs:=λr hr=>by
  obtain⟨a1,a2,a3,a4⟩:=W.ap r hr;rw[zr a1,zr a3];exact W.rs r hr
 ap:=W.ap
 nd:=W.nd
theorem bv.names{c:Ct}:bv na la μ ls (zY μ na c) ls:=λk c e h1 h2 h3=>⟨by rw[zr h1];exact e,h3⟩
theorem WD.cell{s k:Nat}{c:Ct}(W:WD μ s na la ns ls)(hk:μ k=none):WD (zY μ k c) s na la ns ls where
 ds:=by rw[zr (λz=>by have:=W.ds;rw[z,hk] at this;cases this)];exact W.ds
 dn:=by rw[zr (λz=>by have:=W.dn;rw[z,hk] at this;cases this)];exact W.dn
 dl:=by rw[zr (λz=>by have:=W.dl;rw[z,hk] at this;cases this)];exact W.dl
 nl:=W.nl
 rs:=λr hr=>by
  obtain⟨a1,a2⟩:=W.rs r hr;rw[zr (λz=>by rw[z,hk] at a1;cases a1),zr (λz=>by rw[z,hk] at a2;cases a2)];exact⟨a1,a2⟩
 ap:=W.ap
 nd:=W.nd
theorem qa(h:r∈ls):∃i:Nat,ls[i]? = some r:=List.getElem?_of_mem h
theorem WD.line{s k1 k2:Nat}{w:Int}{a0:Addr}(W:WD μ s na la ns ls)(h1:μ k1=some (.lst (S.map D.str)))(h2:μ k2=some (.lst (E.map D.str)))(n12:k1≠k2)
  (f1:k1≠na/\k1≠la/\∀r∈ls,k1≠r.sa/\k1≠r.ea)(f2:k2≠na/\k2≠la/\∀r∈ls,k2≠r.sa/\k2≠r.ea):WD (zY μ la (.lst ((ls++[(⟨a0,k1,k2,x,S,E,w⟩:LR)]).map bg))) s na la ns (ls++[(⟨a0,k1,k2,x,S,E,w⟩:LR)]) where
 ds:=by rw[zr W.sla];exact W.ds
 dn:=by rw[zr W.nl];exact W.dn
 dl:=zy
 nl:=W.nl
 rs:=λr hr=>by
  rcases LP.mp hr with hr|hr
  .obtain⟨a1,a2,a3,a4⟩:=W.ap r hr;rw[zr a2,zr a4];exact W.rs r hr
  .rw[Lo.mp hr];exact⟨by rw[zr f1.2.1];exact h1,by rw[zr f2.2.1];exact h2⟩
 ap:=λr hr=>by
  rcases LP.mp hr with hr|hr
  .exact W.ap r hr
  .rw[Lo.mp hr];exact⟨f1.1,f1.2.1,f2.1,f2.2.1⟩
 nd:=λi j r r' hi hj=>by
  have key:∀{i:Nat} {r:LR},(ls++[(⟨a0,k1,k2,x,S,E,w⟩:LR)])[i]? = some r->ls[i]? = some r\/(i=ls.length/\r=⟨a0,k1,k2,x,S,E,w⟩):=λ{i r} h=>by
   by_cases hl:i < ls.length
   .rw[Mi hl] at h;exact .inl h
   .rw[M0 (by omega)] at h;by_cases e:i - ls.length=0
    .rw[e] at h;cases h;exact .inr ⟨by omega,rfl⟩
    .rw[LL (by simp;omega)] at h;cases h
  rcases key hi with a|⟨a,rfl⟩<;>rcases key hj with b|⟨b,rfl⟩
  .exact W.nd i j r r' a b
  .obtain⟨p1,p2⟩:=f1.2.2 r (Lu a);obtain⟨p3,p4⟩:=f2.2.2 r (Lu a);exact⟨λz=>absurd z.symm p1,λz=>absurd z.symm p4,λz=>p3 z.symm⟩
  .obtain⟨p1,p2⟩:=f1.2.2 r' (Lu b);obtain⟨p3,p4⟩:=f2.2.2 r' (Lu b);exact⟨λz=>absurd z p1,λz=>absurd z p4,λz=>p2 z⟩
  .exact⟨λ_=>by omega,λ_=>by omega,n12⟩
theorem m7{i:Nat}{r':LR}(hr:ls[i]? = some r)(h:bg r'=bg r):(ls.set i r').map bg=ls.map bg:=by
 rw[Qn,h];apply Ny;intro j;by_cases e:i=j
 .subst e;rw[Mj (by rw[L1];exact(LD.mp hr).1),Ln,hr];rfl
 .rw[Ml e]
theorem WD.ends{s i:Nat}(W:WD μ s na la ns ls)(hr:ls[i]? = some r)(h1:μ' r.sa=some (.lst (S.map D.str)))(h2:μ' r.ea=some (.lst (E.map D.str)))(ho:∀k,k≠r.sa->k≠r.ea->μ' k=μ k):WD μ' s na la ns (ls.set i {r with S:=S,E:=E}):=by
 have hm:=Lu hr;obtain⟨a1,a2,a3,a4⟩:=W.ap r hm;obtain⟨b1,b2⟩:=W.rs r hm;have key:∀{j:Nat} {q:LR},(ls.set i {r with S:=S,E:=E})[j]? = some q->(j=i/\q={r with S:=S,E:=E})\/(j≠i/\ls[j]? = some q):=λ{j q} h=>by
  by_cases e:i=j
  .subst e;rw[Mj (LD.mp hr).1] at h;cases h;exact .inl ⟨rfl,rfl⟩
  .rw[Ml e] at h;exact .inr ⟨λz=>e z.symm,h⟩
 refine⟨?_,?_,?_,W.nl,?_,?_,?_⟩
 .rw[ho s (λz=>by have:=W.ds;rw[z,b1] at this;cases this) (λz=>by have:=W.ds;rw[z,b2] at this;cases this)];exact W.ds
 .rw[ho na (Ne.symm a1) (Ne.symm a3)];exact W.dn
 .rw[ho la (Ne.symm a2) (Ne.symm a4),m7 (r':={r with S:=S,E:=E}) hr rfl];exact W.dl
 .intro q hq;obtain⟨j,hj⟩:=qa hq;rcases key hj with⟨rfl,rfl⟩|⟨hne,hj'⟩
  .exact⟨h1,h2⟩
  .obtain⟨c1,c2,c3⟩:=W.nd j i q r hj' hr;obtain⟨d1,d2,d3⟩:=W.nd i j r q hr hj';rw[ho q.sa (λz=>hne (c1 z)) c3,ho q.ea (Ne.symm d3) (λz=>hne (c2 z))];exact W.rs q (Lu hj')
 .intro q hq;obtain⟨j,hj⟩:=qa hq;rcases key hj with⟨rfl,rfl⟩|⟨hne,hj'⟩
  .exact⟨a1,a2,a3,a4⟩
  .exact W.ap q (Lu hj')
 .intro j j' q q' hj hj';rcases key hj with⟨rfl,rfl⟩|⟨hne,hj1⟩<;>rcases key hj' with⟨rfl,rfl⟩|⟨hne',hj2⟩
  .exact⟨λ_=>rfl,λ_=>rfl,(W.nd _ _ r r hr hr).2.2⟩
  .exact W.nd _ j' r q' hr hj2
  .exact W.nd j _ q r hj1 hr
  .exact W.nd j j' q q' hj1 hj2
theorem GK{c:DT}{t:DS}{D0:cp}{ρ:aj}(P:Bool->Mu->Prop)(hc:∀R:Bool->Mu->Prop,(∀b μ1,P b μ1->R b μ1)->c ρ μ R)(h:∀b μ1,P b μ1->if b=true then t D0 ρ μ1 else u D0 ρ μ1):ad c t u D0 ρ μ:=hc _ h
theorem x_{s:Nat}{bd:List Str}{one two:Str}(W:WD μ s na la ns ls)(hn:ns.length < 100)(h14:ls.length<=14)(hfit:ls.length=14->∃r∈ls,c4 one bd r=true/\dY two r=true)(h6:∀r∈ls,r.S.length<=6/\r.E.length<=6)
  (q:∀x μ' ns' ls',WD μ' s na la ns' ls'->bv na la μ ls μ' ls'->i7 one two bd ns ls x ns' ls'->Q (.str x) μ'):jO [.cell s,.cell na,.cell la,.str one,.str two,.lst (bd.map D.str)] μ Q:=by
 have hz:(200:Nat)<=sizeLine:=by decide
 refine⟨rfl,stp λN1 h1=>?_⟩;rw_mod_cast [W.dl];refine⟨by decide,c8 ls bg (c4 one bd) bg (by omega) (λr hr Y Z hY hZ=>?_) (h1 _ _ (stp λN2 h2=>?_)) W.dl⟩
 .obtain⟨r1,r2⟩:=W.rs r hr;unfold bg at hY ⊢;rw_mod_cast [kU,dz r1,r1,L1,My,MA];unfold c4 at hY hZ;by_cases c1:r.nm∈bd
  .rw_mod_cast [decide_eq_true c1];exact hZ (by simp[c1])
  .rw_mod_cast [decide_eq_false c1];by_cases c2:one∈r.S
   .rw_mod_cast [decide_eq_true c2];exact hY (by simp[c1,c2])
   .rw_mod_cast [decide_eq_false c2];by_cases c3:r.S.length < 6
    .rw_mod_cast [show decide ((r.S.length:Int) < 6)=true from decide_eq_true (by omega)];exact hY (by simp[c1,c3])
    .rw_mod_cast [show decide ((r.S.length:Int) < 6)=false from decide_eq_false (by omega)];exact hZ (by simp[c2,c3])
 walk_at "e"
 have hl1:(ls.filter (c4 one bd)).length<=ls.length:=MO _ _;refine⟨by decide,c8 (ls.filter (c4 one bd)) bg (dY two) bg (by omega) (λr hr Y Z hY hZ=>?_) (h2 _ _ (stp λN3 h3=>?_)) trivial⟩
 .obtain⟨r1,r2⟩:=W.rs r (LY.mp hr).1;unfold bg at hY ⊢;rw_mod_cast [dz r2,r2,L1,MA];unfold dY at hY hZ;by_cases c2:two∈r.E
  .rw_mod_cast [decide_eq_true c2];exact hY (by simp[c2])
  .rw_mod_cast [decide_eq_false c2];by_cases c3:r.E.length < 6
   .rw_mod_cast [show decide ((r.E.length:Int) < 6)=true from decide_eq_true (by omega)];exact hY (by simp[c3])
   .rw_mod_cast [show decide ((r.E.length:Int) < 6)=false from decide_eq_false (by omega)];exact hZ (by simp[c2,c3])
 generalize hfl:(ls.filter (c4 one bd)).filter (dY two)=fl
 have hfm:∀r∈fl,r∈ls/\c4 one bd r=true/\dY two r=true:=λr hr=>by
  rw[<- hfl] at hr;obtain⟨a,b⟩:=LY.mp hr;obtain⟨c,d⟩:=LY.mp a;exact⟨c,d,b⟩
 have hfn:ls.length=14->fl≠[]:=λe z=>by
  obtain⟨r,hr,f1,f2⟩:=hfit e;have:r∈fl:=by rw[<- hfl];exact LY.mpr ⟨LY.mpr ⟨hr,f1⟩,f2⟩
  rw[z] at this;cases this
 have hfl14:fl.length<=14:=by rw[<- hfl];exact LU (MO _ _) (LU hl1 h14)
 have new:ls.length < 14->zK (zT (dBM "list" zW (zc 2) (za (c5 (za (dCall cM (za (zc 0) (za (zc 1) zj))) (za (cO (za (zc 3) zj)) (za (cO (za (zc 4) zj)) (za (dCall bc (za (zc 0) (za (dC (.int 4)) zj))) zj))))) zj)))
  (ax (dOp dIx (dOp dIx (zc 2) (dUn fK (dC (.int 1)))) (dC (.int 0)))) {(ends Q) with nx:=N3} [some (.cell s),some (.cell na),some (.cell la),some (.str one),some (.str two),some (.lst (bd.map D.str)),some (.lst (fl.map bg)),none] μ:=by
  intro hlt;refine stp λM1 g1=>?_
  rw_mod_cast [W.dl];refine iJ W.ds W.dn hn λx nm hx=>?_
  refine⟨by decide,λk1 hk1=>⟨by decide,λk2 hk2=>?_⟩⟩;have W1:WD _ s na la (ns++[x]) ls:=W.names (ns':=ns++[x]);have W2:WD _ s na la (ns++[x]) ls:=W1.cell (c:= .lst [.str one]) hk1;have W3:WD _ s na la (ns++[x]) ls:=W2.cell (c:= .lst [.str two]) hk2;refine⟨W3.ds,by decide,by decide,λw w0 w1=>⟨by decide,?_⟩⟩;rw[W3.dl];walk_at "e"
  refine⟨by rw[L1];omega,g1 _ _ ?_⟩;have n1:∀k c,μ k=some c->k1≠k:=λk c e z=>by
   subst z;by_cases e2:k1=na
   .subst e2;rw[zy] at hk1;cases hk1
   .rw[zr e2,e] at hk1;cases hk1
  have n12:k1≠k2:=λz=>by subst z;rw[zy] at hk2;cases hk2
  have n2:∀k c,μ k=some c->k2≠k:=λk c e z=>by
   subst z;rw[zr (Ne.symm n12)] at hk2;by_cases e2:k2=na
   .subst e2;rw[zy] at hk2;cases hk2
   .rw[zr e2,e] at hk2;cases hk2
  have WL:=W3.line (x:=x) (S:=[one]) (E:=[two]) (w:=w) (a0:=0) (k1:=k1) (k2:=k2) (by rw[zr n12,zy];rfl) (by rw[zy];rfl) n12 ⟨n1 _ _ W.dn,n1 _ _ W.dl,λr hr=>⟨n1 _ _ (W.rs r hr).1,n1 _ _ (W.rs r hr).2⟩⟩ ⟨n2 _ _ W.dn,n2 _ _ W.dl,λr hr=>⟨n2 _ _ (W.rs r hr).1,n2 _ _ (W.rs r hr).2⟩⟩;have eL:Rl bg (ls++[({a:=0,sa:=k1,ea:=k2,nm:=x,S:=[one],E:=[two],w:=w}:LR)])=ls.map bg++[.lst [.str x,.cell k1,.cell k2,.int w]]:=by rw[Lr];rfl
  rw[eL] at WL;rw_mod_cast [rD];refine⟨_,.refl _,q x _ _ _ WL ?_ (.new 0 k1 k2 w hx nm hlt w0 w1)⟩;intro k c e hna hla hr;refine⟨?_,λr hr'=>?_⟩
  .rw[zr hla,zr (λz=>n2 k c e z.symm),zr (λz=>n1 k c e z.symm),zr hna];exact e
  .rcases LP.mp hr' with hr' |hr'
   .exact hr r hr'
   .rw[Lo.mp hr'];exact⟨λz=>n1 k c e z.symm,λz=>n2 k c e z.symm⟩
 have old:fl≠[]->N3 [some (.cell s),some (.cell na),some (.cell la),some (.str one),some (.str two),some (.lst (bd.map D.str)),some (.lst (fl.map bg)),none] μ:=by
  intro hne;refine h3 _ _ (stp λM1 g1=>?_);walk_at "e"
  refine xZ W.ds (by simpa using hne) (by rw[L1];omega) λi d hd=>?_
  rw[Ln] at hd;cases hr:fl[i]? with
  |none=>rw[hr] at hd;cases hd
  |some r =>
   rw[hr] at hd;cases hd;obtain⟨hm,f1,f2⟩:=hfm r (Lu hr);obtain⟨j,hj⟩:=qa hm;obtain⟨r1,r2⟩:=W.rs r hm;obtain⟨c1,c2,c3⟩:=W.nd j j r r hj hj;obtain⟨l1,l2⟩:=h6 r hm;unfold bg;refine g1 _ _ (fR (λρ μ'=>ρ=[some (.cell s),some (.cell na),some (.cell la),some (.str one),some (.str two),some (.lst (bd.map D.str)),some (.lst (fl.map bg)),some (.lst [.str r.nm,.cell r.sa,.cell r.ea,.int r.w])]/\μ' r.sa=some (.lst ((aV one r.S).map D.str))/\∀k,k≠r.sa->μ' k=μ k) (λN hN=>?_) ?_)
   .rw_mod_cast [dz r1,My];by_cases c:one∈r.S
    .rw_mod_cast [decide_eq_true c];exact hN _ _ ⟨rfl,by rw[aV,if_pos c];exact r1,λ_ _=>rfl⟩
    .rw_mod_cast [decide_eq_false c,r1];refine⟨by rw[L1];omega,hN _ _ ⟨rfl,?_,λk hk=>zr hk⟩⟩;rw[zy,aV,if_neg c,Lr];rfl
   rintro ρ μ1 ⟨rfl,e1,e2⟩;have r2':μ1 r.ea=some (.lst (r.E.map D.str)):=by rw[e2 _ (Ne.symm c3)];exact r2
   refine fR (λρ μ'=>ρ=[some (.cell s),some (.cell na),some (.cell la),some (.str one),some (.str two),some (.lst (bd.map D.str)),some (.lst (fl.map bg)),some (.lst [.str r.nm,.cell r.sa,.cell r.ea,.int r.w])]/\μ' r.ea=some (.lst ((aV two r.E).map D.str))/\∀k,k≠r.ea->μ' k=μ1 k) (λN hN=>?_) ?_
   .rw_mod_cast [dz r2',My];by_cases c:two∈r.E
    .rw_mod_cast [decide_eq_true c];exact hN _ _ ⟨rfl,by rw[aV,if_pos c];exact r2',λ_ _=>rfl⟩
    .rw_mod_cast [decide_eq_false c,r2'];refine⟨by rw[L1];omega,hN _ _ ⟨rfl,?_,λk hk=>zr hk⟩⟩;rw[zy,aV,if_neg c,Lr];rfl
   rintro ρ μ2 ⟨rfl,e3,e4⟩;walk_at "e"
   refine⟨_,.refl _,q r.nm μ2 ns _ (W.ends hj (by rw[e4 _ c3];exact e1) e3 λk hk1 hk2=>by rw[e4 k hk2,e2 k hk1]) ?_ (.old j r hj rfl f1 f2)⟩;intro k c e hna hla hrr;obtain⟨p1,p2⟩:=hrr r hm;refine⟨by rw[e4 k p2,e2 k p1];exact e,λq' hq'=>?_⟩;rcases sG hq' with h|h
   .exact hrr q' h
   .rw[h];exact⟨p1,p2⟩
 refine GK (λb μ1=>μ1=μ/\(b=true->ls.length < 14)/\(b=false->fl≠[])) (λR hR=>?_) (λb μ1 h=>?_)
 .rw_mod_cast [W.dl,L1];by_cases c14:ls.length < 14
  .rw_mod_cast [show decide ((ls.length:Int) < 14)=true from decide_eq_true (by omega)];by_cases c0:fl=[]
   .rw_mod_cast [show decide ((fl.length:Int)=0)=true from decide_eq_true (by rw[c0];rfl)];exact hR _ _ ⟨rfl,λ_=>c14,λz=>(by cases z)⟩
   .rw_mod_cast [show decide ((fl.length:Int)=0)=false from decide_eq_false (λz=>c0 (Oe.mp (by omega)))];exact⟨W.ds,by decide,by decide,λv v0 v1=>hR _ _ ⟨rfl,λ_=>c14,λ_=>c0⟩⟩
  .rw_mod_cast [show decide ((ls.length:Int) < 14)=false from decide_eq_false (by omega)];exact hR _ _ ⟨rfl,λz=>(by cases z),λ_=>hfn (by omega)⟩
 .obtain⟨rfl,hb1,hb2⟩:=h;cases b with
  |true=>exact new (hb1 rfl)
  |false=>exact old (hb2 rfl)
theorem WD.other{s k:Nat}{c c':Ct}(W:WD μ s na la ns ls)(hk:μ k=some c')(hd:c'≠ .draw)(h:k≠na/\k≠la/\∀r∈ls,k≠r.sa/\k≠r.ea):WD (zY μ k c) s na la ns ls where
 ds:=by rw[zr (λz=>by have:=W.ds;rw[z,hk] at this;cases this;exact hd rfl)];exact W.ds
 dn:=by rw[zr (Ne.symm h.1)];exact W.dn
 dl:=by rw[zr (Ne.symm h.2.1)];exact W.dl
 nl:=W.nl
 rs:=λr hr=>by
  obtain⟨a1,a2⟩:=h.2.2 r hr;rw[zr (Ne.symm a1),zr (Ne.symm a2)];exact W.rs r hr
 ap:=W.ap
 nd:=W.nd
theorem bv.put{k:Nat}{ls':List LR}{c:Ct}(T:bv na la μ ls μ' ls')(hk:μ k=none):bv na la μ ls (zY μ' k c) ls':=λj d e h1 h2 h3=>by
 obtain⟨a,b⟩:=T j d e h1 h2 h3;exact⟨by rw[zr (λz=>by rw[z,hk] at e;cases e)];exact a,b⟩
theorem WD.free{s k:Nat}(W:WD μ s na la ns ls)(hk:μ k=none):k≠na/\k≠la/\∀r∈ls,k≠r.sa/\k≠r.ea :=
 ⟨λz=>(by have:=W.dn;rw[<- z,hk] at this;cases this),λz=>(by have:=W.dl;rw[<- z,hk] at this;cases this),λr hr=>⟨λz=>(by have:=(W.rs r hr).1;rw[<- z,hk] at this;cases this),λz=>(by have:=(W.rs r hr).2;rw[<- z,hk] at this;cases this)⟩⟩
theorem ya{s:Nat}{bd:List Str}{first last:Str}{c:Nat}(W:WD μ s na la ns ls)(N:aW ho ga ns ls h c)(hh:h+3<=48)(hc:c<=60)(hfi:first∈ho)(hla:last∈ho)(hfl:first≠last)(hbs:beside ho ga bd<=3)(hbn:∀y∈bd,y∈ns)(hgl:ga.length<=3)(hbl:bd.length<=10)
  (q:∀way k μ' ns' ls',WD μ' s na la ns' ls'->bv na la μ ls μ' ls'->aW ho ga ns' ls' (h+3) c->bt ns ls ls'->(∀y∈ns,y∈ns')->1<=k->k<=3->Way ho ga ns' ls' bd first k (2*k) way->way[2*k]? = some last->Q (.tup (way.map D.str)) μ') :
  jR [.cell s,.cell na,.cell la,.lst (ga.map D.str),.str first,.str last,.lst (bd.map D.str)] μ Q:=by
 have hz:(200:Nat)<=sizeLine:=by decide
 refine⟨rfl,stp λN1 h1=>?_⟩;walk_at "e"
 refine⟨by decide,c8 ga D.str (λx=> !decide (x∈bd)) D.str (by omega) (λx hx Y Z hY hZ=>?_) (h1 _ _ (stp λN2 h2=>?_)) trivial⟩
 .rw_mod_cast [kU,My];by_cases c1:x∈bd
  .rw_mod_cast [decide_eq_true c1];exact hZ (by simp[c1])
  .rw_mod_cast [decide_eq_false c1];exact hY (by simp[c1])
 walk_at "e"
 refine⟨by decide,λkw hkw=>h2 _ _ ?_⟩;have gnd:ga.Nodup:=(LA.mp (LA.mp N.nd).1).2.1;have fr0:∀x∈ga.filter (λx=> !decide (x∈bd)),x∈ga/\x∉bd:=λx hx=>by
  obtain⟨m1,m2⟩:=LY.mp hx;exact⟨m1,by simpa using m2⟩
 have frd:(ga.filter λx=> !decide (x∈bd)).Nodup:=gnd.sublist Mc;have frl:(ga.filter λx=> !decide (x∈bd)).length<=3:=LU (MO _ _) hgl;generalize ga.filter (λx=> !decide (x∈bd))=fr at fr0 frd frl
 have hop:∀(ns':List Str) (ls':List LR) (k:Nat) (wh:List Str) (one two:Str),aW ho ga ns' ls' (h+k) c->(∀y∈ns,y∈ns')->k<=2->Way ho ga ns' ls' bd first k (2*k+1) wh->wh[2*k]? = some one->two∈ho++ga->two∉wh ->
   (ns'.length < 100/\(ls'.length=14->∃r∈ls',c4 one (bd++wh) r=true/\dY two r=true)/\∀r∈ls',r.S.length<=6/\r.E.length<=6) /\
   ∀x ns2 ls2,i7 one two (bd++wh) ns' ls' x ns2 ls2->aW ho ga ns2 ls2 (h+(k+1)) c/\bt ns' ls' ls2/\(∀y∈ns,y∈ns2)/\Way ho ga ns2 ls2 bd first (k+1) (2*k+2) (wh++[x,two])/\(two∈ga->two∉bd->Way ho ga ns2 ls2 bd first (k+1) (2*k+3) (wh++[x,two])):=by
  intro ns' ls' k wh one two N' sub' hk Y h1 ht htw;refine⟨⟨?_,λh14=>C9 N' (by omega) one two ?_ h14,λr hr=>⟨(N'.ends r hr).s6,(N'.ends r hr).e6⟩⟩,λx ns2 ls2 R=>?_⟩
  .have:=N'.cnt;have:=N'.len;omega
  .rw[sH];have:=Y.bs;omega
  .have bsub:∀y∈bd++wh,y∈ns':=λy hy=>(LP.mp hy).elim (λz=>sub' y (hbn y z)) (Y.sub y)
   obtain⟨N2,G2,J2,xb,sub2,xg,xn⟩:=C8 N' (Y.nn k one h1) ht bsub R;have xb1:x∉bd:=λz=>xb (Lq _ z)
   have xb2:x∉wh:=λz=>xb (Lw _ z)
   obtain⟨Y1,Y2⟩:=(Y.grow G2 sub2).step h1 J2 xg xb1 xb2 xn htw ht (N2.sub two (Lq _ ht));exact⟨N2,G2,λy hy=>sub2 y (sub' y hy),Y1,Y2⟩
 have lastOf:∀(k:Nat) (wh:List Str),wh.length=2*k+1->∃one,wh[2*k]? = some one/\atI (wh.map D.str) (-1)=some (.str one):=λk wh e=>by
  have hlt:2*k < wh.length:=by omega
  refine⟨wh[2*k],LC hlt,?_⟩;rw[Eo,List.getLast?_eq_getElem?,L1,Ln,show wh.length - 1=2*k by omega,LC hlt];rfl
 refine fR (λρ μ'=>∃(k:Nat) (ns' wh:List Str) (ls':List LR) (x7 x9 x10:Option D),ρ=[some (.cell s),some (.cell na),some (.cell la),some (.lst (ga.map D.str)),some (.str first),some (.str last),some (.lst (bd.map D.str)),x7,some (.cell kw),x9,x10]/\k<=2 /\
  WD μ' s na la ns' ls'/\bv na la μ ls μ' ls'/\aW ho ga ns' ls' (h+k) c/\bt ns ls ls'/\(∀y∈ns,y∈ns')/\Way ho ga ns' ls' bd first k (2*k+1) wh/\μ' kw=some (.lst (wh.map D.str))/\(kw≠na/\kw≠la/\∀r∈ls',kw≠r.sa/\kw≠r.ea)) (λNX hNX=>?_) ?_
 .have W1:WD (zY μ kw (.lst [.str first])) s na la ns ls:=W.cell hkw;walk_at "e"
  refine⟨W1.ds,by decide,by decide,λv v0 v1=>?_⟩;rw[L1];have bn:(if (fr.length:Int) < v then(fr.length:Int) else v)<=2/\0<=(if (fr.length:Int) < v then(fr.length:Int) else v)/\(if (fr.length:Int) < v then(fr.length:Int) else v)<=fr.length:=by split<;>omega
  generalize (if (fr.length:Int) < v then(fr.length:Int) else v)=n at bn
  obtain⟨n2,n0,nl⟩:=bn;refine⟨by omega,by omega,?_⟩;refine cu (λj ρ μ'=>∃(ns' wh fr':List Str) (ls':List LR) (x9 x10:Option D),ρ=[some (.cell s),some (.cell na),some (.cell la),some (.lst (ga.map D.str)),some (.str first),some (.str last),some (.lst (bd.map D.str)),some (.lst (fr'.map D.str)),some (.cell kw),x9,x10] /\
   WD μ' s na la ns' ls'/\bv na la μ ls μ' ls'/\aW ho ga ns' ls' (h+j) c/\bt ns ls ls'/\(∀y∈ns,y∈ns')/\Way ho ga ns' ls' bd first j (2*j+1) wh/\μ' kw=some (.lst (wh.map D.str))/\(kw≠na/\kw≠la/\∀r∈ls',kw≠r.sa/\kw≠r.ea)/\fr'.Nodup/\(∀x∈fr',x∈ga/\x∉bd/\x∉wh)/\n<=fr'.length+j/\fr'.length<=3)
   ⟨ns,[first],fr,ls,_,_,rfl,W1,bv.refl.put hkw,N,bt.refl _ _,λ_ h=>h,.one (Lq _ hfi) (N.sub _ (Lq _ (Lq _ hfi))),zy,W.free hkw,frd,λx hx=>⟨(fr0 x hx).1,(fr0 x hx).2,λz=>?_⟩,by omega,frl⟩ ?_ ?_
  .rw[Lo.mp z] at hx;exact N.nd2 hfi (fr0 _ hx).1
  .rintro j d ρ μ1 hd ⟨ns',wh,fr',ls',x9,x10,rfl,W5,T5,N5,G5,sub5,Y,hw5,f5,fnd,fin,fn,fl⟩ M hM;obtain⟨hj,rfl⟩:=fQ hd;refine stp λM1 g1=>?_
   walk_at "e"
   refine xZ W5.ds ?_ (by rw[L1];omega) λi d hd=>?_
   .intro z;have:=congrArg Nl z;rw[L1] at this;simp at this;subst this;simp at fn;omega
   rw[Ln] at hd;cases hgt:fr'[i]? with
   |none=>rw[hgt] at hd;cases hd
   |some gt =>
    rw[hgt] at hd;cases hd;obtain⟨g1',g2',g3'⟩:=fin gt (Lu hgt);refine g1 _ _ (stp λM2 g2=>?_);walk_at "e"
    refine⟨by decide,c8 fr' D.str (λy=> !decide (y=gt)) D.str (by omega) (λx hx Y Z hY hZ=>?_) (g2 _ _ (stp λM3 g3=>?_)) trivial⟩
    .walk_at "e"
     by_cases c1:x=gt
     .rw_mod_cast [decide_eq_true c1];exact hZ (by simp[c1])
     .rw_mod_cast [decide_eq_false c1];exact hY (by simp[c1])
    have fnd':(fr'.filter λy=> !decide (y=gt)).Nodup:=fnd.sublist Mc;have fin':∀x∈fr'.filter (λy=> !decide (y=gt)),x∈fr'/\x≠gt:=λx hx=>by
     obtain⟨m1,m2⟩:=LY.mp hx;exact⟨m1,by simpa using m2⟩
    have fl':fr'.length<=(fr'.filter λy=> !decide (y=gt)).length+1:=sJ fnd;have fl3:(fr'.filter λy=> !decide (y=gt)).length<=3:=LU (MO _ _) fl;generalize fr'.filter (λy=> !decide (y=gt))=fr2 at fnd' fin' fl' fl3
    obtain⟨one,h1',hlast⟩:=lastOf j wh Y.len;obtain⟨⟨c1,c2,c3⟩,post⟩:=hop ns' ls' j wh one gt N5 sub5 (by omega) Y h1' (Lw _ g1') g3';rw_mod_cast [hw5,hlast];refine⟨by rw[L1,L1,Y.len];omega,?_⟩;rw[<- Lr];refine x_ W5 c1 N5.len c2 c3 λx μ2 ns2 ls2 W9 T9 R=>?_
    obtain⟨N9,G9,sub9,Y1,Y2⟩:=post x ns2 ls2 R;obtain⟨hw9,f9⟩:=T9 kw _ hw5 f5.1 f5.2.1 f5.2.2;rw_mod_cast [hw9];refine⟨by rw[L1,Y.len];omega,g3 _ _ ?_⟩;rw_mod_cast [zy];refine⟨by rw[L7,L1,Y.len];show 2*j+1+1 < sizeLine;omega,hM _ _ ?_⟩;have em:wh.map D.str++[.str x]++[.str gt]=(wh++[x,gt]).map D.str:=by rw[Lr (l₂:=[x,gt]),LO];rfl
    rw[eY,em];refine⟨ns2,wh++[x,gt],fr2,ls2,_,_,rfl,W9.other hw9 (by simp) ⟨f5.1,f5.2.1,f9⟩,(T5.trans T9).put hkw,N9,G5.trans sub5 G9,sub9,Y2 g1' g2',zy,⟨f5.1,f5.2.1,f9⟩,fnd',λy hy=>⟨(fin y (fin' y hy).1).1,(fin y (fin' y hy).1).2.1,λz=>?_⟩,by omega,fl3⟩;rcases LP.mp z with z|z
    .exact(fin y (fin' y hy).1).2.2 z
    .rcases Lz.mp z with e|z
     .have:=(Y1.ln j x (by rw[M0 (by rw[Y.len];omega),Y.len,Qo];rfl)).1;exact this (Lw _ (e▸(fin y (fin' y hy).1).1))
     .exact(fin' y hy).2 (Lo.mp z)
  .rintro ρ μ1 ⟨ns',wh,fr',ls',x9,x10,rfl,W5,T5,N5,G5,sub5,Y,hw5,f5,fnd,fin,fn,fl⟩;rw[jj] at *;exact hNX _ _ ⟨n.toNat,ns',wh,ls',_,_,_,rfl,by omega,W5,T5,N5,G5,sub5,Y,hw5,f5⟩
 .rintro ρ μ1 ⟨k,ns',wh,ls',x7,x9,x10,rfl,hk,W7,T7,N7,G7,sub7,Y,hw7,f7⟩;have lw:last∉wh:=λz=>by
   rcases Y.mem z (Lp _) with e|e|e
   .exact hfl e.symm
   .exact e (Lq _ hla)
   .exact N.nd2 hla e
  obtain⟨one,h1',hlast⟩:=lastOf k wh Y.len;obtain⟨⟨c1,c2,c3⟩,post⟩:=hop ns' ls' k wh one last N7 sub7 (by omega) Y h1' (Lq _ hla) lw;refine stp λM1 g1=>?_
  rw_mod_cast [hw7,hlast];refine⟨by rw[L1,L1,Y.len];omega,?_⟩;rw[<- Lr];refine x_ W7 c1 N7.len c2 c3 λx μ2 ns2 ls2 W9 T9 R=>?_
  obtain⟨N9,G9,sub9,Y1,Y2⟩:=post x ns2 ls2 R;obtain⟨hw9,f9⟩:=T9 kw _ hw7 f7.1 f7.2.1 f7.2.2;rw_mod_cast [hw9];refine⟨by rw[L1,Y.len];omega,g1 _ _ (stp λM2 g2=>?_)⟩;rw_mod_cast [zy];refine⟨by rw[L7,L1,Y.len];show 2*k+1+1 < sizeLine;omega,g2 _ _ ?_⟩;have em:wh.map D.str++[.str x]++[.str last]=(wh++[x,last]).map D.str:=by rw[Lr (l₂:=[x,last]),LO];rfl
  rw[eY,em];rw_mod_cast [zy];refine⟨_,.refl _,q (wh++[x,last]) (k+1) _ ns2 ls2 (W9.other hw9 (by simp) ⟨f7.1,f7.2.1,f9⟩) ((T7.trans T9).put hkw) (N9.more (by omega)) (G7.trans sub7 G9) sub9 (by omega) (by omega) Y1 ?_⟩;rw[M0 (by rw[Y.len];omega),Y.len,show 2*(k+1) - (2*k+1)=1 by omega];rfl
def ft(w:List Str):D:= .tup (w.map D.str)
def mD(r:RW):D:= .tup [.str r.nm,.tup (r.ways.map ft),.int r.e,.int r.lo,.int r.re,.int r.lst]
theorem foldl_take_succ(f:β->α->β)(b:β){xs:List α}{i:Nat}{x:α}(h:xs[i]? = some x):(xs.take (i+1)).foldl f b=f ((xs.take i).foldl f b) x:=by
 rw[Mm,h,ON];rfl
theorem GL{s:Nat}{ways:List (List Str)}{nm:Str}{e lo re x5 sl:Int}(W:WD μ s na la ns ls)(q:Q (.int (ib ls ways lo sl)) μ):mf [.tup [.str nm,.tup (ways.map ft),.int e,.int lo,.int re,.int x5],.cell la,.int sl] μ Q:=by
 refine⟨rfl,stp λN1 h1=>?_⟩;walk_at "e"
 refine h1 _ _ (stp λN2 h2=>?_);walk_at "e"
 refine cu (λi ρ μ'=>∃x4 x5' x6,ρ=[some (.tup [.str nm,.tup (ways.map ft),.int e,.int lo,.int re,.int x5]),some (.cell la),some (.int sl),some (.int ((ways.take i).foldl (λm way=>if d_ ls way lo sl > m then d_ ls way lo sl else m) 0)),x4,x5',x6]/\μ'=μ) ⟨_,_,_,rfl,rfl⟩ ?_ ?_
 .rintro i d ρ μ' hd ⟨x4,x5',x6,rfl,rfl⟩ N hN;rw[Ln] at hd;cases hw:ways[i]? with
  |none=>rw[hw] at hd;cases hd
  |some way =>
   rw[hw] at hd;cases hd;unfold ft;refine stp λM1 g1=>?_
   walk_at "e"
   refine g1 _ _ (stp λM2 g2=>?_);rw_mod_cast [W.dl];refine cu (λj ρ μ2=>∃x6,ρ=[some (.tup [.str nm,.tup (ways.map ft),.int e,.int lo,.int re,.int x5]),some (.cell la),some (.int sl),some (.int ((ways.take i).foldl (λm way=>if d_ ls way lo sl > m then d_ ls way lo sl else m) 0)),some (.tup (way.map D.str)),some (.int ((ls.take j).foldl (λm r=>if r.nm∈way then m+lo+r.w+sl else m) 0)),x6]/\μ2=μ') ⟨_,rfl,rfl⟩ ?_ ?_ (λ_ _ _ h=>by obtain⟨_,_,rfl⟩:=h;exact W.dl)
   .rintro j d ρ μ2 hd ⟨x6,rfl,rfl⟩ M hM;rw[Ln] at hd;cases hr:ls[j]? with
    |none=>rw[hr] at hd;cases hd
    |some r =>
     rw[hr] at hd;cases hd;unfold bg;rw_mod_cast [kW,MA];have fs:=foldl_take_succ (λm (r:LR)=>if r.nm∈way then m+lo+r.w+sl else m) (0:Int) hr;by_cases c:r.nm∈way
     .rw_mod_cast [decide_eq_true c];rw[fs,if_pos c] at hM;exact hM _ _ ⟨_,rfl,rfl⟩
     .rw_mod_cast [decide_eq_false c];rw[fs,if_neg c] at hM;exact hM _ _ ⟨_,rfl,rfl⟩
   .rintro ρ μ2 ⟨x6,rfl,rfl⟩;refine g2 _ _ ?_;walk_at "e"
    rw[foldl_take_succ _ _ hw] at hN;rw[L1,MD];exact hN _ _ ⟨_,_,_,rfl,rfl⟩
 .rintro ρ μ' ⟨x4,x5',x6,rfl,rfl⟩;refine h2 _ _ ?_;walk_at "e"
  rw[L1,MD];exact⟨_,.refl _,q⟩
theorem GM(w:List Str)(h:2<=w.length):cutD (w.map D.str) (some 1) (some (-1))=(inner w).map D.str:=by
 unfold cutD inner;have e1:HT.sIx (w.map D.str).length 0 (some 1)=1:=by
  have:=HT.cC (w.map D.str).length 0 1;rw[L1,O7 (by omega)] at this;rw[L1];exact this
 have e2:HT.sIx (w.map D.str).length (w.map D.str).length (some (-1))=w.length - 1:=by
  rw[L1];unfold HT.sIx;simp;omega
 rw[e1,e2,OT,Sc];congr 1
theorem qb{xs:List Int}{v:Int}(h0:0<=v)(h1:v < xs.length):∃e,atI (xs.map D.int) v=some (.int e)/\e∈xs:=by
 obtain⟨e,a,b⟩:=kO h0 h1;exact⟨e,by rw[t4,a];rfl,Lu b⟩
theorem k9{xs:List Str}{v:Int}(h0:0<=v)(h1:v < xs.length):∃e,atI (xs.map D.str) v=some (.str e)/\xs[v.toNat]? = some e:=by
 obtain⟨e,a,b⟩:=kO h0 h1;exact⟨e,by rw[t4,a];rfl,b⟩
theorem GN{s:Nat}{c:Nat}{sl:Int}(W:WD μ s na la ns ls)(N:aW ho ga ns ls h c)(hh:h+6<=48)(hc:c<=50)(ho2:2<=ho.length)(ho4:ho.length<=4)(ga3:ga.length<=3)(sl0:0<=sl)(sl7:sl<=7)
  (q:∀r μ' ns' ls',WD μ' s na la ns' ls'->bv na la μ ls μ' ls'->aW ho ga ns' ls' (h+6) (c+1)->bt ns ls ls'->(∀y∈ns,y∈ns')->fF ho ga ns' ls' sl r->r.nm∉ns->Q (mD r) μ') :
  mr [.cell s,.cell na,.cell la,.lst (ho.map D.str),.lst (ga.map D.str),.int sl] μ Q:=by
 have hz:(200:Nat)<=sizeLine:=by decide
 have hnd:ho.Nodup:=(LA.mp (LA.mp N.nd).1).1;refine⟨rfl,stp λN1 h1=>?_⟩;rw_mod_cast [L1];refine⟨W.ds,by omega,by omega,λv v0 v1=>h1 _ _ (stp λN2 h2=>?_)⟩;obtain⟨first,e1,f1⟩:=k9 v0 v1;rw_mod_cast [e1];refine h2 _ _ (stp λN3 h3=>?_);rw_mod_cast [L1];refine⟨W.ds,by omega,by omega,λu u0 u1=>⟨by omega,?_⟩⟩;have m0:0<=(v+1+u) % (ho.length:Int):=Ow _ (by omega);have m1:(v+1+u) % (ho.length:Int) < ho.length:=O9 _ (by omega);obtain⟨last,e2,f2⟩:=k9 m0 m1;have hfl:first≠last:=λz=>by
  subst z;have:=De hnd f1 f2;have e3:v=(v+1+u) % (ho.length:Int):=by omega
  by_cases hlt:v+1+u < ho.length
  .rw[Qs (by omega) hlt] at e3;omega
  .have e4:(v+1+u) % (ho.length:Int)=v+1+u - ho.length:=by
    rw[<- Int.sub_emod_right,Qs (by omega) (by omega)]
   omega
 have hfi:=Lu f1;have hla:=Lu f2;rw_mod_cast [e2];refine h3 _ _ (stp λN4 h4=>?_);walk_at "e"
 refine⟨by decide,ya (bd:=[]) W N (by omega) (by omega) hfi hla hfl (by simp[beside]) (λy hy=>by cases hy) ga3 (by decide) λw1 k1 μ4 ns4 ls4 W4 T4 N4 G4 sub4 k1a k1b Y1 hl1=>?_⟩;refine⟨by decide,λkw hkw=>h4 _ _ ?_⟩;have W5:WD (zY μ4 kw (.lst [.tup (w1.map D.str)])) s na la ns4 ls4:=W4.cell hkw;have f5:=W4.free hkw;have hkw0:∀k c,μ k=some c->k≠na->k≠la->(∀r∈ls,k≠r.sa/\k≠r.ea)->k≠kw:=λk c e a1 a2 a3 z=>by
  have:=(T4 k c e a1 a2 a3).1;rw[z,hkw] at this;cases this
 refine fR (λρ μ'=>∃(ns6:List Str) (ls6:List LR) (ways:List (List Str)),ρ=[some (.cell s),some (.cell na),some (.cell la),some (.lst (ho.map D.str)),some (.lst (ga.map D.str)),some (.int sl),some (.int v),some (.str first),some (.str last),some (.cell kw),none,none,none,none] /\
  WD μ' s na la ns6 ls6/\bv na la μ ls μ' ls6/\aW ho ga ns6 ls6 (h+6) c/\bt ns ls ls6/\(∀y∈ns,y∈ns6)/\μ' kw=some (.lst (ways.map ft))/\(kw≠na/\kw≠la/\∀r∈ls6,kw≠r.sa/\kw≠r.ea)/\ways.length<=2 /\
  ∃first last w1 k1,first∈ho/\last∈ho/\first≠last/\1<=k1/\k1<=3/\Way ho ga ns6 ls6 [] first k1 (2*k1) w1/\w1[2*k1]? = some last/\(ways=[w1]\/∃w2 k2,ways=[w1,w2]/\1<=k2/\k2<=3/\Way ho ga ns6 ls6 (inner w1) first k2 (2*k2) w2/\w2[2*k2]? = some last)) (λNX hNX=>?_) ?_
 .have T5:bv na la μ ls (zY μ4 kw (.lst [.tup (w1.map D.str)])) ls4:=λk c e a1 a2 a3=>by
   obtain⟨b1,b2⟩:=T4 k c e a1 a2 a3;exact⟨by rw[zr (hkw0 k c e a1 a2 a3)];exact b1,b2⟩
  walk_at "e"
  refine⟨W5.ds,by decide,by decide,λx x0 x1=>?_⟩;split
  .have wl1:w1.length=2*k1+1:=Y1.len;have ns1:¬ (HT.sIx (w1.map D.str).length 0 (some 1)=0/\HT.sIx (w1.map D.str).length (w1.map D.str).length (some (-1))=(w1.map D.str).length):=by
    rintro⟨z,_⟩;have:=HT.cC (w1.map D.str).length 0 1;rw[L1,O7 (by omega)] at this;rw[L1] at z;have e:HT.sIx w1.length 0 (some 1)=1:=this;omega
   refine⟨ns1,?_⟩;rw[GM w1 (by omega)];refine ya (bd:=inner w1) W5 N4 (by omega) (by omega) hfi hla hfl (LU (Db _ _ _) (LU Y1.bs k1b)) (λy hy=>Y1.sub y (C_ hy)) ga3 (LU (Da _) (by omega)) λw2 k2 μ9 ns9 ls9 W9 T9 N9 G9 sub9 k2a k2b Y2 hl2=>?_
   obtain⟨hw9,f9⟩:=T9 kw _ zy f5.1 f5.2.1 f5.2.2;rw_mod_cast [hw9];refine⟨by decide,hNX _ _ ⟨ns9,ls9,[w1,w2],rfl,W9.other hw9 (by simp) ⟨f5.1,f5.2.1,f9⟩,λk c e a1 a2 a3=>?_,N9.more (by omega),G4.trans sub4 G9,λy hy=>sub9 y (sub4 y hy),zy,⟨f5.1,f5.2.1,f9⟩,show 2<=2 by decide,first,last,w1,k1,hfi,hla,hfl,k1a,k1b,Y1.grow G9 sub9,hl1,.inr ⟨w2,k2,rfl,k2a,k2b,Y2,hl2⟩⟩⟩;obtain⟨b1,b2⟩:=(T5.trans T9) k c e a1 a2 a3;exact⟨by rw[zr (hkw0 k c e a1 a2 a3)];exact b1,b2⟩
  .exact hNX _ _ ⟨ns4,ls4,[w1],rfl,W5,T5,N4.more (by omega),G4,sub4,zy,f5,show 1<=2 by decide,first,last,w1,k1,hfi,hla,hfl,k1a,k1b,Y1,hl1,.inl rfl⟩
 rintro ρ μ6 ⟨ns6,ls6,ways,rfl,W6,T6,N6,G6,sub6,hw6,f6,wl,shape⟩;refine stp λN6' h6=>?_
 walk_at "e"
 refine⟨by decide,W6.ds,by decide,by decide,λa a0 a1=>?_⟩;obtain⟨e,ge,he⟩:=qb (xs:=nR) a0 (show a < 11 from a1);have eb:8<=e/\e<=120:=by
  have:∀e∈nR,8<=e/\e<=120:=by decide
  exact this e he
 have ge':atI [D.int 12,D.int 8,D.int 20,D.int 24,D.int 10,D.int 30,D.int 15,D.int 40,D.int 60,D.int 12,D.int 120] a=some (.int e):=ge;rw_mod_cast [ge'];refine h6 _ _ (stp λN7 h7=>?_);walk_at "e"
 have mb:0 < (if e - sl < 4 then e - sl else 4)/\(if e - sl < 4 then e - sl else 4)<=4:=by split<;>omega
 refine⟨W6.ds,mb.1,by omega,λb b0 b1=>h7 _ _ (stp λN8 h8=>?_)⟩;have u9:1+b<=4/\1+b+sl<=e:=by split at b1<;>omega
 walk_at "e"
 refine iJ W6.ds W6.dn (by have:=N6.cnt;have:=N6.len;omega) λx nm hx=>?_
 have W7:WD _ s na la (ns6++[x]) ls6:=W6.names (ns':=ns6++[x]);have hw7:zY μ6 na (.lst ((ns6++[x]).map D.str)) kw=some (.lst (ways.map ft)):=by rw[zr f6.1];exact hw6
 rw_mod_cast [hw7];refine⟨W7.ds,by omega,by omega,λd d0 d1=>⟨by decide,h8 _ _ (stp λN9 h9=>?_)⟩⟩;walk_at "e"
 refine⟨⟨by decide,by decide⟩,by decide,W7.ds,by decide,by decide,λt t0 t1=>?_⟩;obtain⟨spare,gs,hs⟩:=qb (xs:=[0,1,2,e / 2,3,e - 1,6]) t0 (show t < 7 from t1);have gs':atI [D.int 0,D.int 1,D.int 2,D.int (e / 2),D.int 3,D.int (e - 1),D.int 6] t=some (.int spare):=gs;rw_mod_cast [gs'];refine h9 _ _ ?_;walk_at "e"
 refine⟨by decide,GL W7 ?_⟩;walk_at "e"
 rw[show cutD [D.str x,D.tup (Rl ft ways),D.int e,D.int (1+b),D.int d,D.int 0] none (some 5)=[D.str x,D.tup (Rl ft ways),D.int e,D.int (1+b),D.int d] from rfl];refine⟨by decide,by simp,show 6<=sizeLine by decide,_,.refl _,?_⟩;have N10:=N6.named hx nm;have hxn:x∉ns:=λz=>hx (sub6 x z)
 have G18:bt ns6 ls6 ls6:=bt.refl _ _;refine q ⟨x,ways,e,1+b,d,ib ls6 ways (1+b) sl+spare⟩ _ (ns6++[x]) ls6 W7 (T6.trans bv.names) N10 G6 (λy hy=>Lq _ (sub6 y hy)) ⟨by simp,λz=>hx (N6.sub x z),?_,he,by show 1<=1+b;omega,u9.1,u9.2,d0,d1,spare,rfl,hs⟩ hxn;obtain⟨f',l',w1',k1',a1,a2,a3,a4,a5,Y,a6,hh'⟩:=shape;refine⟨f',l',w1',k1',a1,a2,a3,a4,a5,Y.grow G18 (λy hy=>Lq _ hy),a6,?_⟩;rcases hh' with z|⟨w2,k2,z,b1,b2,Y2,b3⟩
 .exact .inl z
 .exact .inr ⟨w2,k2,z,b1,b2,Y2.grow G18 (λy hy=>Lq _ hy),b3⟩
def yb:List Int:=[0,1,2,0,3,1,5,7]
structure WorldD(μ:Mu)(s na la:Nat)(ho ga ns:List Str)(ls:List LR)(rows:List RW)(sl:Int)(most:Nat):Prop where
 W:WD μ s na la ns ls
 N:aW ho ga ns ls 48 (ho.length+ga.length+rows.length)
 ho2:2<=ho.length
 ho4:ho.length<=4
 ga3:ga.length<=3
 r1:1<=rows.length
 rm:rows.length<=most
 ok:∀r∈rows,fF ho ga ns ls sl r
 nd:(rows.map RW.nm).Nodup
 sl0:0<=sl
 sl7:sl<=7
theorem yc{s:Nat}{pre:List Str}{n:Nat}{Fin:List D->Mu->Prop}(hs:μ s=some .draw)(hn:μ na=some (.lst (pre.map D.str)))(hp:pre.Nodup)(hpn:∀x∈pre,Nm x)(hl:pre.length+n < 100)
  (q:∀xs:List Str,xs.length=n->(pre++xs).Nodup->(∀x∈pre++xs,Nm x)->Fin (xs.map D.str) (zY μ na (.lst ((pre++xs).map D.str)))) :
  b7 (zx 0) cP (dCall cM (za (zc 2) (za (zc 1) zj))) [none,some (.cell na),some (.cell s)] (λ_=>True) Fin ((ci 0 n).map D.int) [] μ:=by
 have hz:(200:Nat)<=sizeLine:=by decide
 have sna:s≠na:=λz=>by rw[z,hn] at hs;cases hs
 refine jo (λi ys μ'=>∃xs:List Str,ys=xs.map D.str/\xs.length=i/\(pre++xs).Nodup/\(∀x∈pre++xs,Nm x)/\μ'=zY μ na (.lst ((pre++xs).map D.str))) ⟨[],rfl,rfl,by rw[M8];exact hp,by rw[M8];exact hpn,?_⟩ ?_ ?_
 .funext k;unfold zY;split
  .rename_i e;rw[e,M8];exact hn
  .rfl
 .rintro i d ys μ' hd ⟨xs,rfl,hx,nd,nm,rfl⟩;obtain⟨hi,rfl⟩:=fQ hd;refine⟨by rw[L1];omega,λN hN=>?_⟩;walk_at "e"
  refine iJ (by rw[zr sna];exact hs) zy (by rw[L7];omega) λx hnm hxn=>hN _ _ ⟨xs++[x],by rw[Lr];rfl,by rw[L7,hx];rfl,?_,?_,?_⟩
  .rw[<- LO];exact LA.mpr ⟨nd,by simp,λa ha b hb e=>by rw[Lo.mp hb] at e;exact hxn (e▸ha)⟩
  .intro y hy;rw[<- LO] at hy;rcases LP.mp hy with h|h
   .exact nm y h
   .rw[Lo.mp h];exact hnm
  .rw[eY,LO]
 .rintro ys μ' ⟨xs,rfl,hx,nd,nm,rfl⟩;rw[jj] at hx;exact q xs hx nd nm
theorem GO{s most:Nat}(hs:μ s=some .draw)(m1:1<=most)(m8:most<=8)
  (q:∀ μ' na la ho ga ns ls rows sl,WorldD μ' s na la ho ga ns ls rows sl most->(∀k c,μ k=some c->μ' k=some c/\k≠na/\k≠la/\∀r∈ls,k≠r.sa/\k≠r.ea) ->
   Q (.tup [.lst (ho.map D.str),.lst (ga.map D.str),.cell la,.lst (rows.map mD),.int sl,.cell na]) μ'):my [.cell s,.int (most:Int)] μ Q:=by
 have hz:(200:Nat)<=sizeLine:=by decide
 refine⟨rfl,stp λN1 h1=>?_⟩;walk_at "e"
 refine⟨by decide,λna hna=>h1 _ _ (stp λN2 h2=>?_)⟩;have sna:s≠na:=λz=>by rw[z,hna] at hs;cases hs
 have hs1:∀c,zY μ na c s=some .draw:=λc=>by rw[zr sna];exact hs
 walk_at "e"
 refine⟨by decide,hs1 _,by decide,by decide,λa a0 a1=>⟨by omega,by omega,?_⟩⟩;refine yc (pre:=[]) (hs1 _) zy Rm (λx hx=>by cases hx) (by simp;omega) λho hol hod hon=>h2 _ _ (stp λN3 h3=>?_)
 rw[eY,Nu];rw[Nu] at hod hon;walk_at "e"
 refine⟨by decide,hs1 _,by decide,by decide,λb b0 b1=>⟨by omega,by omega,?_⟩⟩;refine yc (pre:=ho) (hs1 _) zy hod hon (by omega) λga gal gad gan=>h3 _ _ (stp λN4 h4=>?_)
 rw[eY];walk_at "e"
 refine⟨by decide,hs1 _,by decide,by decide,λt t0 t1=>?_⟩;obtain⟨sl,gs,hsl⟩:=qb (xs:=yb) t0 (show t < 8 from t1);have gs':atI [D.int 0,D.int 1,D.int 2,D.int 0,D.int 3,D.int 1,D.int 5,D.int 7] t=some (.int sl):=gs;have slb:0<=sl/\sl<=7:=by
  have:∀e∈yb,0<=e/\e<=7:=by decide
  exact this sl hsl
 rw_mod_cast [gs'];refine h4 _ _ (stp λN5 h5=>?_);walk_at "e"
 refine⟨by decide,λla hla=>h5 _ _ (stp λN6 h6=>?_)⟩;have nal:na≠la:=λz=>by rw[<- z,zy] at hla;cases hla
 have W0:WD (zY (zY μ na (.lst ((ho++ga).map D.str))) la (.lst [])) s na la (ho++ga) []:=⟨by
   rw[zr (λz=>by rw[<- z,hs1] at hla;cases hla)];exact hs1 _,by rw[zr nal,zy],zy,nal,λr hr=>(by cases hr),λr hr=>(by cases hr),λi j r r' hi=>(by simp at hi)⟩
 have NT0:aW ho ga (ho++ga) [] (6*0) (ho.length+ga.length+0):=⟨by simpa using gad,by simp,gan,gad,λr hr=>(by cases hr),by decide,by decide,by rw[L7];exact Lp _⟩;have keep0:∀k c,μ k=some c->(zY (zY μ na (.lst ((ho++ga).map D.str))) la (.lst [])) k=some c/\k≠na/\k≠la:=λk c e=>by
  have k1:k≠na:=λz=>by rw[z,hna] at e;cases e
  have k2:k≠la:=λz=>by rw[<- z,zr k1,e] at hla;cases hla
  exact⟨by rw[zr k2,zr k1];exact e,k1,k2⟩
 generalize zY (zY μ na (.lst ((ho++ga).map D.str))) la (.lst [])=μ0 at W0 keep0
 walk_at "e"
 refine⟨by decide,W0.ds,by omega,by omega,λv v0 v1=>⟨by omega,by omega,?_⟩⟩;refine jo (λi ys μ'=>∃(rows:List RW) (ns:List Str) (ls:List LR),ys=rows.map mD/\rows.length=i/\WD μ' s na la ns ls/\bv na la μ0 [] μ' ls/\aW ho ga ns ls (6*i) (ho.length+ga.length+i)/\(∀r∈rows,fF ho ga ns ls sl r)/\(rows.map RW.nm).Nodup) ⟨[],ho++ga,[],rfl,rfl,W0,.refl,NT0,λr hr=>(by cases hr),Rm⟩ ?_ ?_
 .rintro i d ys μ' hd ⟨rows,ns,ls,rfl,hr,W,T,NT,ok,nd⟩;obtain⟨hi,rfl⟩:=fQ hd;refine⟨by rw[L1];omega,λN hN=>?_⟩;walk_at "e"
  refine GN W NT (by omega) (by omega) (by omega) (by omega) (by omega) slb.1 slb.2 λr μ2 ns2 ls2 W2 T2 NT2 G2 sub2 R2 hn2=>hN _ _ ⟨rows++[r],ns2,ls2,by rw[Lr];rfl,by rw[L7,hr];rfl,W2,T.trans T2,?_,?_,?_⟩
  .have:6*(i+1)=6*i+6:=by omega
   rw[this];exact NT2
  .intro r' hr';rcases LP.mp hr' with h|h
   .exact(ok r' h).grow G2 sub2
   .rw[Lo.mp h];exact R2
  .rw[Lr];refine LA.mpr ⟨nd,by simp,λa ha b hb e=>?_⟩;obtain⟨r',hr',rfl⟩:=LW.mp ha;have:b=r.nm:=by simpa using hb
   rw[this] at e;exact hn2 (e▸(ok r' hr').nmn)
 .rintro ys μ' ⟨rows,ns,ls,rfl,hr,W,T,NT,ok,nd⟩;rw[jj] at hr NT;refine h6 _ _ ?_;walk_at "e"
  refine⟨by decide,_,.refl _,q μ' na la ho ga ns ls rows sl ⟨W,?_,by omega,by omega,by omega,by omega,by omega,ok,nd,slb.1,slb.2⟩ λk c e=>?_⟩
  .rw[hr];exact NT.more (by omega)
  .obtain⟨b1,b2,b3⟩:=keep0 k c e;obtain⟨c1,c2⟩:=T k c b1 b2 b3 (λr hr=>by cases hr);exact⟨c1,b2,b3,c2⟩
theorem GP{i:Int}(q:Q (.bl true) μ):jH [.int i] μ Q:=by
 refine⟨rfl,?_⟩;walk_at "e"
 exact⟨_,.refl _,q⟩
theorem GQ{i:Int}(q:Q .non μ):mj [.int i] μ Q:=by
 refine⟨rfl,?_⟩;walk_at "e"
 refine GP ?_;walk_at "e"
 exact⟨_,.refl _,q⟩
theorem yd{R:List D->(Mu->Prop)->Prop}(h:y.cps.all (· < 128)=true):fN μ (.str y) R=R (y.cps.toList.map λc=> .str ⟨#[c]⟩) λ_=>True:=by
 unfold fN kL;simp only[h,if_true]
theorem ye:∀c:_root_.Fin 128,im letters ⟨#[c.val]⟩=decide (97<=c.val/\c.val<=122):=by decide+kernel
theorem yf(h:Nm x):x.cps.all (· < 128)=true:=by
 rw[<- P3];exact Me.mpr λc hc=>decide_eq_true (by have:=h.az c hc;omega)
theorem qc(h:Nm x):1<=x.length/\x.length<=8:=by
 have h1:=h.l1;have h2:=h.l8;rw[LQ] at h1 h2;exact⟨h1,h2⟩
theorem GR(h:Nm x)(q:Q (.bl true) μ):iH [.str x] μ Q:=by
 obtain⟨l1,l8⟩:=qc h;have hz:(1000:Nat)<=sizeLine:=by decide
 refine⟨rfl,?_⟩;walk_at "e"
 refine⟨rfl,?_⟩;walk_at "e"
 refine⟨by omega,?_⟩;rw_mod_cast [show decide ((1:Int)<=x.length)=true from decide_eq_true (by omega),show decide ((x.length:Int)<=8)=true from decide_eq_true (by omega),yd (yf h)];refine⟨by decide,Fw x.cps.toList _ (by have:=h.l8;omega) (λc hc Q' q'=>?_) (λbs hb=>?_) trivial⟩
 .have:=h.az c hc;have e:=ye ⟨c,by omega⟩;walk_at "e"
  rw[show im (L5 "abcdefghijklmnopqrstuvwxyz") ⟨#[c]⟩=true from by
   show im letters ⟨#[c]⟩=true;rw[e];exact decide_eq_true this]
  exact q'
 .rw_mod_cast [hb];exact⟨_,.refl _,_,.refl _,q⟩
theorem GS(h:Nm x)(q:Q .non μ):mo [.str x] μ Q:=by
 refine⟨rfl,?_⟩;walk_at "e"
 refine GR h ?_;walk_at "e"
 exact⟨_,.refl _,q⟩
theorem GT{i lo hi:Int}(h1:lo<=i)(h2:i<=hi)(q:Q .non μ):mq [.int i,.int lo,.int hi] μ Q:=by
 refine⟨rfl,?_⟩;walk_at "e"
 refine GQ ?_;rw_mod_cast [decide_eq_true h1,decide_eq_true h2];exact⟨_,.refl _,q⟩
theorem qd(h:Nm x):PyData.strOk x=true:=by
 unfold PyData.strOk;rw[<- P3];exact Me.mpr λc hc=>decide_eq_true (by have:=h.az c hc;omega)
def sLe(a b:Str):Prop:=a.cps.toList<=b.cps.toList
theorem GU{b c:Str}(h:sLe a b)(h':sLe b c):sLe a c:=Sa h h'
theorem yg{b:Str}(h:sLe a b)(h':sLe b a):a=b:=by
 have e:a.cps.toList=b.cps.toList:=QH h h';cases a;cases b;simp only[P9];exact Nn.mp e
theorem yh:∀(p:Str) (l:List Str),NQ p l=true->(∀x∈l,sLe p x)/\l.Pairwise sLe
 |p,[],_=>⟨λx h=>(by cases h),OM⟩
 |p,x::r,h=>by
  unfold NQ at h;rw[M9,Pp] at h;obtain⟨h1,h2⟩:=h;have hpx:sLe p x:=by
   have:¬ (x.cps.toList < p.cps.toList):=by simpa using h1
   exact this
  obtain⟨a,b⟩:=yh x r h2;refine⟨λy hy=>?_,MS.mpr ⟨a,b⟩⟩;rcases Lz.mp hy with rfl|hy
  .exact hpx
  .exact GU hpx (a y hy)
theorem qe{l:List Str}(h:Nz l=true):l.Pairwise sLe:=by
 cases l with
 |nil=>exact OM
 |cons p r =>
  obtain⟨a,b⟩:=yh p r h;exact MS.mpr ⟨a,b⟩
theorem qf{α:Type}{r:α->α->Prop}(anti:∀a b,r a b->r b a->a=b):∀{l1 l2:List α},Mq l1 l2->O3 r l1->O3 r l2->l1=l2
 | [],l2,h,_,_=>h.nil_eq
 |a::r1,[],h,_,_=>absurd h.length_eq (by simp)
 |a::r1,b::r2,h,h1,h2=>by
  obtain⟨a1,p1⟩:=MS.mp h1;obtain⟨b1,p2⟩:=MS.mp h2;have e:a=b:=by
   rcases Lz.mp (h.mem_iff.mp Ly) with z|z
   .exact z
   .rcases Lz.mp (h.mem_iff.mpr (Ly (a:=b))) with y|y
    .exact y.symm
    .exact anti a b (a1 b y) (b1 a z)
  subst e;rw[qf anti (List.perm_cons a |>.mp h) p1 p2]
theorem GV{a b:List Str}(h:Mq a b)(ha:Nz a=true)(hb:Nz b=true):a=b:=qf (λ_ _=>yg) h (qe ha) (qe hb)
abbrev SL(β:Type):=List (Str×β)
variable{kn:SL Str}
def ak{β:Type}:SL β->Str->Option β
 | [],_=>none
 |p::r,j=>if p.1=j then some p.2 else ak r j
def ksS(l:SL β):List Key:=l.map λp=>(Nv p.1:Key)
def vsS(f:β->D)(l:SL β):List D:=l.map λp=>f p.2
section
theorem fu{l:SL β}:(ak l j).isSome=true↔j∈l.map (·.1):=by
 induction l with
 |nil=>simp[ak]
 |cons p r ih =>
  rw[ak,LV,Lz];by_cases h:p.1=j
  .simp[h]
  .rw[if_neg h,ih];exact⟨λz=> .inr z,λz=>z.resolve_left λe=>h e.symm⟩
theorem dF{l:SL β}:(Nv j:Key)∈ksS l↔j∈l.map (·.1):=by
 unfold ksS;rw[LW,LW];constructor
 .rintro⟨p,hp,e⟩;exact⟨p,hp,Pv e⟩
 .rintro⟨p,hp,e⟩;exact⟨p,hp,by rw[e]⟩
theorem iK{f:β->D}{l:SL β}:bM (ksS l) (vsS f l) (.inr j)=(ak l j).map f:=by
 induction l with
 |nil=>rfl
 |cons p r ih =>
  show(if (Nv p.1:Key)= .inr j then some (f p.2) else bM (ksS r) (vsS f r) (.inr j))=_;rw[ak];by_cases h:p.1=j
  .rw[if_pos (by rw[h]),if_pos h];rfl
  .rw[if_neg (λz=>h (Pv z)),if_neg h];exact ih
theorem mE{f:β->D}{l:SL β}{b:β}(h:j∉l.map (·.1)):Ct.dct (gE (ksS l) (.inr j)) (ip (ksS l) (vsS f l) (.inr j) (f b))= .dct (ksS (l++[(j,b)])) (vsS f (l++[(j,b)])):=by
 unfold gE ip;rw[if_neg (λz=>h (dF.mp z)),if_neg (λz=>h (dF.mp z))];unfold ksS vsS;rw[Lr,Lr];rfl
theorem qg{l:SL β}{b:β}(hn:(l.map (·.1)).Nodup)(h:(j,b)∈l):ak l j=some b:=by
 induction l with
 |nil=>cases h
 |cons p r ih =>
  rw[LV] at hn;obtain⟨h1,h2⟩:=Nb.mp hn;rw[ak];rcases Lz.mp h with rfl|h
  .simp
  .have hne:¬ p.1=j:=λe=>h1 (by rw[e];exact Mh (f:=λq:Str×β=>q.1) h)
   rw[if_neg hne,ih h2 h]
theorem GW{l:SL β}{b:β}(h:ak l j=some b):(j,b)∈l:=by
 induction l with
 |nil=>cases h
 |cons p r ih =>
  rw[ak] at h;by_cases e:p.1=j
  .rw[if_pos e] at h;cases h;rw[<- e];exact Ly
  .rw[if_neg e] at h;exact Lx _ (ih h)
theorem eQ{l:SL β}:(ksS l).length=l.length:=by unfold ksS;rw[L1]
end
abbrev EN:=List Str×List Str×Int
variable{ln:SL EN}
def enD(e:EN):D:= .tup [.tup (e.1.map D.str),.tup (e.2.1.map D.str),.int e.2.2]
structure zM(μ:Mu)(k ck cl:Nat)(kn:SL Str)(ln:SL EN):Prop where
 o:μ k=some (.ins "Net" bV [.cell ck,.cell cl])
 a:μ ck=some (.dct (ksS kn) (vsS D.str kn))
 b:μ cl=some (.dct (ksS ln) (vsS enD ln))
 ne:ck≠cl
 nd:(kn.map (·.1)).Nodup
theorem zM.k1{k:Nat}(h:zM μ k ck cl kn ln):k≠ck:=λz=>by have:=h.o;rw[z,h.a] at this;cases this
theorem zM.k2{k:Nat}(h:zM μ k ck cl kn ln):k≠cl:=λz=>by have:=h.o;rw[z,h.b] at this;cases this
section
variable{k:Nat}
theorem yi(N:zM μ k ck cl kn ln)(hx:Nm x)(h:x∉kn.map (·.1))(q:Q .non μ):jQ [.cell k,.str x] μ Q:=by
 refine⟨rfl,?_⟩;rw_mod_cast [];refine GS hx ?_;rw_mod_cast [fS,N.o,fh,N.a,fe,b9,decide_eq_false (λz=>h (dF.mp z)),MA];exact⟨_,.refl _,q⟩
theorem yj{es:List Str}(N:zM μ k ck cl kn ln)(h:∀y∈es,y∈kn.map (·.1)/\y∉ln.map (·.1))(q:Q .non μ):jJ [.cell k,.tup (es.map D.str)] μ Q:=by
 refine⟨rfl,?_⟩;rw_mod_cast [];refine cu (λi ρ μ'=>∃x2,ρ=[some (.cell k),some (.tup (es.map D.str)),x2]/\μ'=μ) ⟨_,rfl,rfl⟩ ?_ ?_
 .rintro i d ρ μ' hd ⟨x2,rfl,rfl⟩ N' hN;rw[Ln] at hd;obtain⟨y,hy,rfl⟩:=LM.mp hd;obtain⟨h1,h2⟩:=h y (Lu hy);rw_mod_cast [fS,N.o,fh,N.a,N.b,fe,b9,decide_eq_true (dF.mpr h1),decide_eq_false (λz=>h2 (dF.mp z)),MA,My];exact hN _ _ ⟨_,rfl,rfl⟩
 .rintro ρ μ' ⟨x2,rfl,rfl⟩;exact⟨_,.refl _,q⟩
theorem yk(N:zM μ k ck cl kn ln)(hx:Nm x)(h:x∉kn.map (·.1))(hl:kn.length < 16+ln.length)(hz:kn.length<=900)(q:∀ μ',zM μ' k ck cl (kn++[(x,kd)]) ln->(∀j,j≠ck->μ' j=μ j)->Q .non μ'):jT [.cell k,.str x,.str kd] μ Q:=by
 refine⟨rfl,stp λN1 h1=>?_⟩;rw_mod_cast [N.o];refine yi N hx h ?_;rw_mod_cast [];refine h1 _ _ ?_;rw_mod_cast [N.o,iu,gH,N.a,N.b,cJ,eQ,decide_eq_false (show ¬ (16:Int)<=(kn.length:Int) - (ln.length:Int) by omega)];unfold dA;rw_mod_cast [N.o,N.a,cJ,b9,eQ];rw[mE (f:=D.str) h];refine⟨by omega,_,.refl _,q _ ⟨?_,zy,?_,N.ne,?_⟩ λj hj=>zr hj⟩
 .rw[zr N.k1];exact N.o
 .rw[zr N.ne.symm];exact N.b
 .rw[Lr];refine LA.mpr ⟨N.nd,by simp,λa ha b hb=>?_⟩;simp at hb;subst hb;exact λz=>h (z▸ha)
theorem GX(N:zM μ k ck cl kn ln)(hx:Nm x)(h:x∉kn.map (·.1))(hl:kn.length < 16+ln.length)(hz:kn.length<=900)(q:∀ μ',zM μ' k ck cl (kn++[(x,("house":Str))]) ln->(∀j,j≠ck->μ' j=μ j)->Q .non μ'):mw [.cell k,.str x] μ Q:=by
 refine⟨rfl,?_⟩;rw_mod_cast [N.o];refine yk N hx h hl hz λμ' N' e=>?_
 exact⟨_,.refl _,q μ' N' e⟩
theorem GY(N:zM μ k ck cl kn ln)(hx:Nm x)(h:x∉kn.map (·.1))(hl:kn.length < 16+ln.length)(hz:kn.length<=900)(q:∀ μ',zM μ' k ck cl (kn++[(x,("gate":Str))]) ln->(∀j,j≠ck->μ' j=μ j)->Q .non μ'):mx [.cell k,.str x] μ Q:=by
 refine⟨rfl,?_⟩;rw_mod_cast [N.o];refine yk N hx h hl hz λμ' N' e=>?_
 exact⟨_,.refl _,q μ' N' e⟩
theorem yl{es:List Str}(h1:es≠[])(h6:es.length<=6)(hn:es.Nodup)(q:Q .non μ):jK [.tup (es.map D.str)] μ Q:=by
 have hz:(1000:Nat)<=sizeLine:=by decide
 have hp:0 < es.length:=Oy.mpr h1;refine⟨rfl,stp λN1 h1=>?_⟩;rw_mod_cast [L1,decide_eq_true (show(1:Int)<=(es.length:Int) by omega),decide_eq_true (show(es.length:Int)<=6 by omega)];refine h1 _ _ ?_;rw_mod_cast [];refine⟨es,rfl,by omega,?_⟩;rw[Dh hn,L1];rw_mod_cast [show decide ((es.length:Int) < es.length)=false from decide_eq_false (by omega)];exact⟨_,.refl _,q⟩
def Srt(xs ys:List Str):Prop:=Mq ys xs/\Nz ys=true
theorem Srt.uniq{xs ys:List Str}(h:Srt xs ys)(h':Srt xs zs):ys=zs:=GV (h.1.trans h'.1.symm) h.2 h'.2
theorem ym{wr:Int}(N:zM μ k ck cl kn ln)(hx:Nm x)(h:x∉kn.map (·.1))(hl:ln.length < 16)(hz:kn.length<=900)
  (s1:S≠[])(s6:S.length<=6)(sn:S.Nodup)(e1:E≠[])(e6:E.length<=6)(en:E.Nodup)(hs:∀y∈S,y∈kn.map (·.1)/\y∉ln.map (·.1))(he:∀y∈E,y∈kn.map (·.1)/\y∉ln.map (·.1))(w0:0<=wr)(w1:wr<=30)(hxl:x∉ln.map (·.1))
  (q:∀ μ' S' E',Srt S S'->Srt E E'->zM μ' k ck cl (kn++[(x,("line":Str))]) (ln++[(x,S',E',wr)])->(∀j,j≠ck->j≠cl->μ' j=μ j)->Q .non μ'):jS [.cell k,.str x,.tup (S.map D.str),.tup (E.map D.str),.int wr] μ Q:=by
 have hzz:(1000:Nat)<=sizeLine:=by decide
 refine⟨rfl,stp λN1 h1=>?_⟩;rw_mod_cast [N.o];refine yi N hx h (h1 _ _ (stp λN2 h2=>?_));rw_mod_cast [N.o,iu,gH,N.b,cJ,eQ,decide_eq_false (show ¬ (16:Int)<=(ln.length:Int) by omega)];refine h2 _ _ (stp λN3 h3=>?_);rw_mod_cast [];refine yl s1 s6 sn (h3 _ _ (stp λN4 h4=>?_));rw_mod_cast [];refine yl e1 e6 en (h4 _ _ (stp λN5 h5=>?_));rw_mod_cast [N.o];refine yj N hs (h5 _ _ (stp λN6 h6=>?_));rw_mod_cast [N.o];refine yj N he (h6 _ _ (stp λN7 h7=>?_));rw_mod_cast [];refine GT w0 w1 (h7 _ _ (stp λN8 h8=>?_));unfold dA;rw_mod_cast [N.o,N.a,cJ,b9,eQ];rw[mE (f:=D.str) h];refine⟨by omega,h8 _ _ ?_⟩;have o':zY μ ck (.dct (ksS (kn++[(x,("line":Str))])) (vsS D.str (kn++[(x,("line":Str))]))) k=some (.ins "Net" bV [.cell ck,.cell cl]):=by rw[zr N.k1];exact N.o
 have b':zY μ ck (.dct (ksS (kn++[(x,("line":Str))])) (vsS D.str (kn++[(x,("line":Str))]))) cl=some (.dct (ksS ln) (vsS enD ln)):=by rw[zr N.ne.symm];exact N.b
 unfold dA;rw_mod_cast [];refine uM (by omega) λS' p1 p2=>?_
 rw_mod_cast [];refine uM (by omega) λE' p3 p4=>?_
 rw_mod_cast [o',b',cJ,b9,eQ];have e:D.tup [.tup (S'.map D.str),.tup (E'.map D.str),.int wr]=enD (S',E',wr):=rfl;rw[e,mE (f:=enD) hxl];refine⟨by omega,by omega,_,.refl _,q _ S' E' ⟨p1,p2⟩ ⟨p3,p4⟩ ⟨?_,?_,zy,N.ne,?_⟩ λj a b=>?_⟩
 .rw[zr N.k2];exact o'
 .rw[zr N.ne,zy]
 .rw[Lr];refine LA.mpr ⟨N.nd,by simp,λa ha b hb=>?_⟩;simp at hb;subst hb;exact λz=>h (z▸ha)
 .rw[zr b,zr a]
theorem yn{l:SL β}:ksS l=(l.map (·.1)).map Nv:=by unfold ksS;rw[MC];rfl
theorem GZ(h:∀ck cl μ',μ ck=none->μ cl=none->zM μ' k ck cl [] []->(∀j c,μ j=some c->j≠k->μ' j=some c)->Q .non μ')(hk:μ k=some (.ins "Net" [] [])):md [.cell k] μ Q:=by
 refine⟨rfl,stp λN1 h1=>?_⟩;rw_mod_cast [js];intro ck hck;have kne:k≠ck:=λz=>by rw[z,hck] at hk;cases hk
 rw_mod_cast [zr kne,hk];refine h1 _ _ ?_;rw_mod_cast [js];intro cl hcl;have n1:cl≠ck:=λz=>by
  rw[z,zr (λy=>kne y.symm),zy] at hcl;cases hcl
 have n2:cl≠k:=λz=>by rw[z,zy] at hcl;cases hcl
 have hcl':μ cl=none:=by rw[zr n2,zr n1] at hcl;exact hcl
 rw_mod_cast [zr (λy:k=cl=>n2 y.symm)];refine⟨_,.refl _,h ck cl _ hck hcl' ⟨zy,?_,?_,λz=>n1 z.symm,by simp⟩ λj c e hj=>?_⟩
 .rw[zr (λy=>kne y.symm),zr (λy=>n1 y.symm),zr (λy=>kne y.symm),zy];rfl
 .rw[zr n2,zy];rfl
 .rw[zr hj,zr (λy=>by rw[y,hcl'] at e;cases e),zr hj,zr (λy=>by rw[y,hck] at e;cases e)];exact e
end
theorem G0{k:Nat}(N:zM μ k ck cl kn ln)(q:Q (.int kn.length) μ):jI [.cell k] μ Q:=by
 refine⟨rfl,?_⟩;rw_mod_cast [N.o,iu,gH,N.a,cJ,eQ];exact⟨_,.refl _,q⟩
def kindsOf(ho ga:List Str)(ls:List LR):SL Str:=ho.map (λx=>(x,("house":Str)))++ga.map (λx=>(x,("gate":Str)))++ls.map (λr=>(r.nm,("line":Str)))
def gW(ls:List LR)(ln:SL EN):Prop:=ln.length=ls.length/\∀(i:Nat) r,ls[i]? = some r->∃S' E',ln[i]? = some (r.nm,S',E',r.w)/\Srt r.S S'/\Srt r.E E'
theorem gX:(kindsOf ho ga ls).map (·.1)=ho++ga++ls.map LR.nm:=by
 unfold kindsOf;rw[Lr,Lr,MC,MC,MC];have e1:∀l:List Str,l.map ((λp:Str×Str=>p.1)∘λx=>(x,("house":Str)))=l:=λl=>by
  rw[show((λp:Str×Str=>p.1)∘λx=>(x,("house":Str)))=id from rfl,SK]
 have e2:∀l:List Str,l.map ((λp:Str×Str=>p.1)∘λx=>(x,("gate":Str)))=l:=λl=>by
  rw[show((λp:Str×Str=>p.1)∘λx=>(x,("gate":Str)))=id from rfl,SK]
 rw[e1,e2];rfl
theorem gW.fst(h:gW ls ln):ln.map (·.1)=ls.map LR.nm:=by
 apply Ny;intro i;rw[Ln,Ln];by_cases hi:i < ls.length
 .obtain⟨S',E',e,_⟩:=h.2 i ls[i] (LC hi);rw[e,LC hi];rfl
 .rw[LL (show ln.length<=i by rw[h.1];omega),LL (show ls.length<=i by omega)];rfl
theorem gW.snoc{S' E':List Str}(h:gW ls ln)(h1:Srt r.S S')(h2:Srt r.E E'):gW (ls++[r]) (ln++[(r.nm,S',E',r.w)]):=by
 refine⟨by simp[h.1],λi q e=>?_⟩;rw[List.getElem?_append] at e ⊢;rw[h.1];split at e
 .rename_i hi;rw[if_pos hi];exact h.2 i q e
 .rename_i hi;rw[if_neg hi];have:i - ls.length=0:=by
   have:=(LD.mp e).1;simpa using this
  rw[this] at e ⊢;simp at e;subst e;exact⟨S',E',rfl,h1,h2⟩
theorem G1{s:Nat}{c:Nat}{rowsD slD:D}(W:WD μ s na la ns ls)(N:aW ho ga ns ls h c)(h4:ho.length<=4)(g3:ga.length<=3)
  (q:∀ μ' k ck cl ln,μ k=none->μ ck=none->μ cl=none->zM μ' k ck cl (kindsOf ho ga ls) ln->gW ls ln->(∀j c,μ j=some c->μ' j=some c)->Q (.cell k) μ') :
  mz [.tup [.lst (ho.map D.str),.lst (ga.map D.str),.cell la,rowsD,slD,.cell na]] μ Q:=by
 have hz:(1000:Nat)<=sizeLine:=by decide
 have l14:=N.len;have nd:=N.nd;have nmx:∀x∈ho++ga++ls.map LR.nm,Nm x:=λx hx=>N.nms x (N.sub x hx)
 refine⟨rfl,stp λN1 h1=>?_⟩;rw_mod_cast [];intro k hk;refine GZ (λck cl μ1 hck hcl A keep=>?_) zy;have kck:k≠ck:=A.k1;have kcl:k≠cl:=A.k2;have hck':μ ck=none:=by rw[zr (λz=>kck z.symm)] at hck;exact hck
 have hcl':μ cl=none:=by rw[zr (λz=>kcl z.symm)] at hcl;exact hcl
 have keep1:∀j c,μ j=some c->μ1 j=some c/\j≠k/\j≠ck/\j≠cl:=λj c e=>by
  have n1:j≠k:=λz=>by rw[z,hk] at e;cases e
  exact⟨keep j c (by rw[zr n1];exact e) n1,n1,λz=>(by rw[z,hck'] at e;cases e),λz=>(by rw[z,hcl'] at e;cases e)⟩
 clear keep hck hcl;refine⟨rfl,h1 _ _ ?_⟩;refine fR (λρ μ'=>∃x2,ρ=[some (.tup [.lst (ho.map D.str),.lst (ga.map D.str),.cell la,rowsD,slD,.cell na]),some (.cell k),x2,none,none,none]/\zM μ' k ck cl (kindsOf ho [] []) []/\∀j c,μ j=some c->μ' j=some c) (λN2 k2=>?_) ?_
 .rw_mod_cast [];refine cu (λi ρ μ'=>∃x2,ρ=[some (.tup [.lst (ho.map D.str),.lst (ga.map D.str),.cell la,rowsD,slD,.cell na]),some (.cell k),x2,none,none,none]/\zM μ' k ck cl (kindsOf (ho.take i) [] []) []/\∀j c,μ j=some c->μ' j=some c) ⟨_,rfl,A,λj c e=>(keep1 j c e).1⟩ ?_ ?_
  .rintro i d ρ μ' hd ⟨x2,rfl,A',ke⟩ N3 hN;rw[Ln] at hd;obtain⟨x,hx,rfl⟩:=LM.mp hd;have hi:=(LD.mp hx).1;rw_mod_cast [A'.o];refine GX A' (nmx x (by simp[Lu hx])) ?_ ?_ ?_ λμ2 A2 ke2=>?_
   .rw[gX];simp only[M8,P8];intro hm;have hd2:(ho.take i++[x]).Nodup:=by
     have:ho.take (i+1)=ho.take i++[x]:=by rw[Mm,hx];rfl
     rw[<- this];exact(MG _ _).nodup ((LA.mp (LA.mp nd).1).1)
    exact(LA.mp hd2).2.2 x hm x (by simp) rfl
   .simp[kindsOf];omega
   .simp[kindsOf];omega
   .refine hN _ _ ⟨_,rfl,?_,λj c e=>?_⟩
    .have e:kindsOf (ho.take (i+1)) [] []=kindsOf (ho.take i) [] []++[(x,("house":Str))]:=by
      unfold kindsOf;rw[Mm,hx];simp
     rw[e];exact A2
    .rw[ke2 j (keep1 j c e).2.2.1];exact ke j c e
  .rintro ρ μ' ⟨x2,rfl,A',ke⟩;rw[L1,MD] at A';exact k2 _ _ ⟨_,rfl,A',ke⟩
 rintro ρ μ2 ⟨x2,rfl,A2,ke2⟩;refine fR (λρ μ'=>∃x2,ρ=[some (.tup [.lst (ho.map D.str),.lst (ga.map D.str),.cell la,rowsD,slD,.cell na]),some (.cell k),x2,none,none,none]/\zM μ' k ck cl (kindsOf ho ga []) []/\∀j c,μ j=some c->μ' j=some c) (λN2 k2=>?_) ?_
 .rw_mod_cast [];refine cu (λi ρ μ'=>∃x2,ρ=[some (.tup [.lst (ho.map D.str),.lst (ga.map D.str),.cell la,rowsD,slD,.cell na]),some (.cell k),x2,none,none,none]/\zM μ' k ck cl (kindsOf ho (ga.take i) []) []/\∀j c,μ j=some c->μ' j=some c) ⟨_,rfl,A2,ke2⟩ ?_ ?_
  .rintro i d ρ μ' hd ⟨x2,rfl,A',ke⟩ N3 hN;rw[Ln] at hd;obtain⟨x,hx,rfl⟩:=LM.mp hd;have hi:=(LD.mp hx).1;rw_mod_cast [A'.o];refine GY A' (nmx x (by simp[Lu hx])) ?_ ?_ ?_ λμ2 A2 ke2=>?_
   .rw[gX];simp only[M8,P8];intro hm;have hd2:(ho++(ga.take i++[x])).Nodup:=by
     have:ga.take (i+1)=ga.take i++[x]:=by rw[Mm,hx];rfl
     rw[<- this];exact((Qt ho).append (MG _ _)).nodup (LA.mp nd).1
    rw[<- LO] at hd2;exact(LA.mp hd2).2.2 x hm x (by simp) rfl
   .simp[kindsOf];omega
   .simp[kindsOf];omega
   .refine hN _ _ ⟨_,rfl,?_,λj c e=>?_⟩
    .have e:kindsOf ho (ga.take (i+1)) []=kindsOf ho (ga.take i) []++[(x,("gate":Str))]:=by
      unfold kindsOf;rw[Mm,hx];simp
     rw[e];exact A2
    .rw[ke2 j (keep1 j c e).2.2.1];exact ke j c e
  .rintro ρ μ' ⟨x2,rfl,A',ke⟩;rw[L1,MD] at A';exact k2 _ _ ⟨_,rfl,A',ke⟩
 clear A2 ke2 x2 A;rintro ρ μ2 ⟨x2,rfl,A2,ke2⟩;refine stp λN4 k4=>?_
 rw_mod_cast [ke2 la _ W.dl];refine cu (λi ρ μ'=>∃x2 x3 x4 x5 ln,ρ=[some (.tup [.lst (ho.map D.str),.lst (ga.map D.str),.cell la,rowsD,slD,.cell na]),some (.cell k),x2,x3,x4,x5]/\zM μ' k ck cl (kindsOf ho ga (ls.take i)) ln/\gW (ls.take i) ln/\∀j c,μ j=some c->μ' j=some c) ⟨_,_,_,_,[],rfl,A2,⟨rfl,λi r e=>by simp at e⟩,ke2⟩ ?_ ?_ ?_
 .rintro i d ρ μ' hd ⟨x2,x3,x4,x5,ln,rfl,A',L',ke⟩ N3 hN;rw[Ln] at hd;obtain⟨r,hr,rfl⟩:=LM.mp hd;have hm:=Lu hr;have hi:=(LD.mp hr).1;have E:=N.ends r hm;obtain⟨c1,c2⟩:=W.rs r hm;have tk:ls.take (i+1)=ls.take i++[r]:=by rw[Mm,hr];rfl
  have hsub:(ho++ga++((ls.take i).map LR.nm++[r.nm])).Nodup:=by
   have:ho++ga++(ls.take (i+1)).map LR.nm=ho++ga++((ls.take i).map LR.nm++[r.nm]):=by rw[tk,Lr];rfl
   rw[<- this];exact((Qt _).append ((MG _ _).map _)).nodup nd
  have hnew:r.nm∉ho++ga++(ls.take i).map LR.nm:=λhh=>by
   rw[<- LO] at hsub;exact(LA.mp hsub).2.2 _ hh _ (by simp) rfl
  have fs:=L'.fst;have nodes:∀y∈ho++ga,y∈(kindsOf ho ga (ls.take i)).map (·.1)/\y∉ln.map (·.1):=λy hy=>by
   rw[gX,fs];refine⟨Lq _ hy,λhh=>?_⟩;have:=LA.mp nd;exact this.2.2 y hy y (((MG i ls).map LR.nm).subset hh) rfl
  unfold bg;rw_mod_cast [FC,ke _ _ c1,ke _ _ c2,A'.o];refine ym A' (nmx _ (by simp[Mh (f:=LR.nm) hm])) (by rw[gX];exact hnew) ?_ ?_ E.s0 E.s6 E.sn E.e0 E.e6 E.en (λy hy=>nodes y (E.ss y hy)) (λy hy=>nodes y (E.es y hy)) E.w0 (by have:=E.w3;omega) ?_ λμ3 S' E' p1 p2 A3 ke3=>?_
  .rw[L'.1,Mp];omega
  .simp[kindsOf];omega
  .rw[fs];exact λhh=>hnew (Lw _ hh)
  .refine hN _ _ ⟨_,_,_,_,ln++[(r.nm,S',E',r.w)],rfl,?_,?_,λj c e=>?_⟩
   .have e:kindsOf ho ga (ls.take (i+1))=kindsOf ho ga (ls.take i)++[(r.nm,("line":Str))]:=by
     unfold kindsOf;rw[tk];simp
    rw[e];exact A3
   .rw[tk];exact L'.snoc p1 p2
   .rw[ke3 j (keep1 j c e).2.2.1 (keep1 j c e).2.2.2];exact ke j c e
 .rintro ρ μ' ⟨x2,x3,x4,x5,ln,rfl,A',L',ke⟩;rw[L1,MD] at A' L';refine k4 _ _ ?_;rw_mod_cast [];exact⟨_,.refl _,q μ' k ck cl ln hk hck' hcl' A' L' ke⟩
 .rintro i ρ μ' ⟨x2,x3,x4,x5,ln,rfl,A',L',ke⟩;exact ke la _ W.dl
def aE(l:SL β)(x:Str):SL β:=l.filter λp=>decide (p.1≠x)
theorem gY{β:Type}{f:β->D}{x:Str}:∀{l:SL β},fT (ksS l) (.inr x)=ksS (aE l x)/\cK (ksS l) (vsS f l) (.inr x)=vsS f (aE l x)
 | []=>⟨rfl,rfl⟩
 |p::r=>by
  obtain⟨i1,i2⟩:=gY (f:=f) (x:=x) (l:=r);unfold fT aE at *;have e1:ksS (p::r)= .inr p.1::ksS r:=rfl;have e2:vsS f (p::r)=f p.2::vsS f r:=rfl;rw[e1,e2,M7,M7];by_cases h:p.1=x
  .have h':(Nv p.1:Key)= .inr x:=by rw[h]
   simp only[h',h,ne_eq,not_true_eq_false,decide_false,Mb,if_false,cK,if_true];exact⟨i1,i2⟩
  .have h':¬ (Nv p.1:Key)= .inr x:=λz=>h (Pv z)
   simp only[h',h,ne_eq,not_false_eq_true,decide_true,if_true,cK,if_false];exact⟨by rw[i1];rfl,by rw[i2];rfl⟩
theorem G3{l:SL β}:ak (aE l x) y=if y=x then none else ak l y:=by
 induction l with
 |nil=>simp[aE,ak]
 |cons p r ih =>
  unfold aE at *;rw[M7];by_cases h:p.1=x
  .simp only[h,ne_eq,not_true_eq_false,decide_false,Mb,if_false];rw[ih,ak];by_cases e:y=x
   .rw[if_pos e,if_pos e]
   .rw[if_neg e,if_neg e,if_neg (λz=>e (by rw[<- z];exact h))]
  .simp only[h,ne_eq,not_false_eq_true,decide_true,if_true,ak];rw[ih];by_cases e:y=x
   .subst e;rw[if_neg h,if_pos rfl,if_pos rfl]
   .rw[if_neg e,if_neg e]
theorem yo{β:Type}{x:Str}:∀{l:SL β},(l.map (·.1)).Nodup->l.length<=(aE l x).length+1
 | [],_=>by simp[aE]
 |p::r,h=>by
  rw[LV] at h;obtain⟨h1,h2⟩:=Nb.mp h;unfold aE;rw[M7];by_cases e:p.1=x
  .have:r.filter (λp=>decide (p.1≠x))=r:=ML.mpr λq hq=>decide_eq_true λz=>h1 (by rw[e,<- z];exact Mh (f:=λq:Str×β=>q.1) hq)
   simp only[e,ne_eq,not_true_eq_false,decide_false,Mb,if_false,LF];have t:(r.filter λp=>decide ¬p.1=x)=r:=this;rw[t];exact Lp _
  .have ih:=yo (x:=x) h2;unfold aE at ih;simp only[e,ne_eq,not_false_eq_true,decide_true,if_true,LF];have:(r.filter λp=>decide ¬p.1=x)=r.filter λp=>decide (p.1≠x):=rfl
   rw[this];omega
theorem fW{l:SL β}:y∈(aE l x).map (·.1)↔y≠x/\y∈l.map (·.1):=by
 constructor
 .intro h;obtain⟨p,hp,rfl⟩:=LW.mp h;obtain⟨h1,h2⟩:=LY.mp hp;exact⟨of_decide_eq_true h2,Mh (f:=λq:Str×β=>q.1) h1⟩
 .rintro⟨h1,h2⟩;obtain⟨p,hp,rfl⟩:=LW.mp h2;exact Mh (f:=λq:Str×β=>q.1) (LY.mpr ⟨hp,decide_eq_true h1⟩)
theorem G8{g:DG}{we:DE}{ρb:aj}{Fin:List D->Mu->Prop}{Pm:Mu->Prop}(xs:List α)(f:α->D)(p:α->Bool)(hl:xs.length<=1000)(step:∀x∈xs,∀Q:DK,Q (.bl (p x)) μ->g (f x) ρb μ λρ2 μ2=>we ρ2 μ2 Q)(fin:Fin ((xs.map p).map D.bl) μ)(hP:Pm μ):b7 g cP we ρb Pm Fin (xs.map f) [] μ:=by
 have hz:(1000:Nat)<=sizeLine:=by decide
 refine jo (λi ys μ'=>μ'=μ/\ys=((xs.take i).map p).map D.bl) ⟨rfl,rfl⟩ ?_ ?_ (λi ys μ' h=>h.1▸hP)
 .rintro i d ys μ' hd ⟨rfl,rfl⟩;rw[Ln] at hd;cases hx:xs[i]? with
  |none=>rw[hx] at hd;cases hd
  |some x =>
   rw[hx] at hd;cases hd;have hi:=(LD.mp hx).1;refine⟨by simp;omega,λN hN=>step x (Lu hx) _ (hN _ _ ⟨rfl,?_⟩)⟩;rw[Mm,hx];simp
 .rintro ys μ' ⟨rfl,rfl⟩;rw[L1,MD];exact fin
def Asc(x:Str):Prop:=x.cps.all (· < 128)=true/\x.length<=1000
def azB(c:Nat):Bool:=decide (97<=c/\c<=122)
theorem qh:Nm x↔(1<=x.length/\x.length<=8)/\(x.cps.toList.map azB).all id=true:=by
 constructor
 .intro h;refine⟨qc h,?_⟩;rw[Sx,Me];intro c hc;exact decide_eq_true (h.az c hc)
 .rintro⟨⟨h1,h2⟩,h3⟩;rw[Sx,Me] at h3;have e:x.cps.toList.length=x.length:=LQ;exact⟨by omega,by omega,λc hc=>of_decide_eq_true (h3 c hc)⟩
theorem G_(h:Asc x)(q:∀b:Bool,(b=true↔Nm x)->Q (.bl b) μ):iH [.str x] μ Q:=by
 obtain⟨h1,h2⟩:=h;have hz:(1000:Nat)<=sizeLine:=by decide
 refine⟨rfl,?_⟩;walk_at "e"
 refine⟨rfl,?_⟩;walk_at "e"
 refine⟨by omega,?_⟩;have hn:=qh (x:=x);by_cases c1:1<=x.length
 .by_cases c2:x.length<=8
  .rw_mod_cast [show decide ((1:Int)<=x.length)=true from decide_eq_true (by omega),show decide ((x.length:Int)<=8)=true from decide_eq_true (by omega),yd h1];refine⟨by decide,G8 x.cps.toList _ azB (by have e:x.cps.toList.length=x.length:=LQ;omega) (λc hc Q' q'=>?_) ?_ trivial⟩
   .have hc2:c < 128:=by
     rw[<- P3,Me] at h1;exact of_decide_eq_true (h1 c hc)
    have e:=ye ⟨c,hc2⟩;walk_at "e"
    rw[show im (L5 "abcdefghijklmnopqrstuvwxyz") ⟨#[c]⟩=azB c from e];exact q'
   .rw_mod_cast [];exact⟨_,.refl _,_,.refl _,q _ ⟨λz=>hn.mpr ⟨⟨c1,c2⟩,z⟩,λz=>(hn.mp z).2⟩⟩
  .rw_mod_cast [show decide ((1:Int)<=x.length)=true from decide_eq_true (by omega),show decide ((x.length:Int)<=8)=false from decide_eq_false (by omega)];exact⟨_,.refl _,_,.refl _,q _ ⟨(λz=>by cases z),λz=>absurd (hn.mp z).1.2 c2⟩⟩
 .rw_mod_cast [show decide ((1:Int)<=x.length)=false from decide_eq_false (by omega)];exact⟨_,.refl _,_,.refl _,q _ ⟨(λz=>by cases z),λz=>absurd (hn.mp z).1.1 c1⟩⟩
theorem mF(h:Asc x)(q:Nm x->Q .non μ)(x0:¬ Nm x->X0 "BadName" μ):jN [.str x] μ Q X0:=by
 refine⟨rfl,?_⟩;walk_at "e"
 refine G_ h λb hb=>?_
 cases b with
 |true =>
  walk_at "e"
  exact⟨_,.refl _,q (hb.mp rfl)⟩
 |false =>
  walk_at "e"
  have hz:(10000:Nat)<=sizeLine:=by decide
  have h2:=h.2;have e1:(LZ++L5 "not a name: ").length=12:=rfl;have e2:(LZ++L5 "not a name: "++x).length=12+x.length:=by rw[strLen_append,e1]
  exact⟨by omega,by omega,by omega,by omega,by decide,_,.refl _,x0 λz=>by have:=hb.mpr z;cases this⟩
theorem yp(h:Nm x):Asc x:=⟨yf h,by have:=qc h;omega⟩
theorem yq(x:Str)(h:x∈(["","abcdefghi","Ab","a b","a1","a_b","a.b","-"]:List Str)):Asc x/\¬ Nm x:=by
 simp only[Lz,No,or_false] at h;rcases h with rfl|rfl|rfl|rfl|rfl|rfl|rfl|rfl<;>exact⟨⟨by decide+kernel,by decide+kernel⟩,by rw[qh];decide+kernel⟩
theorem kif{c K:Str}{k:Nat}{ls:List Str}(hb:eM c lab)(hc:c∈al)(hK:K∈aU)(hl:ls.length < 100)(h:u D' [some (.exc lab),some (.cell k)] (zY μ k (.lst ((ls++if (c==K)=true then[K] else[]).map D.str)))) :
  zK (ad (zL (dCB (br al aU) (za (zc 0) (za (dC (.cls K)) zj)))) (zT (dBM "list" zW (zc 1) (za (dC (.str K)) zj))) zZ) u D' [some (.exc lab),some (.cell k)] (zY μ k (.lst (ls.map D.str))):=by
 have hs:(100:Nat)<=sizeLine:=by decide
 walk_at "e"
 refine⟨c,hb,hc,hK,?_⟩;cases e:(c==K) with
 |false =>
  rw[e] at h;walk_at "e"
  simpa using h
 |true =>
  rw[e] at h;walk_at "e"
  refine⟨by rw[L1];omega,?_⟩;rw[eY];simpa using h
def jV(c:Str)(ls:List Str)(K:Str):List Str:=ls++if (c==K)=true then[K] else[]
theorem Ha{c:Str}{ls:List Str}{K:Str}:(jV c ls K).length<=ls.length+1:=by
 unfold jV;rw[L7];split<;>simp
theorem bW{c K:Str}{k n:Nat}{ls:List Str}(hl:ls.length<=n)(hb:eM c lab)(hc:c∈al)(hK:K∈aU)(hn:n < 100)(h:(jV c ls K).length<=n+1->u D' [some (.exc lab),some (.cell k)] (zY μ k (.lst ((jV c ls K).map D.str)))) :
  zK (ad (zL (dCB (br al aU) (za (zc 0) (za (dC (.cls K)) zj)))) (zT (dBM "list" zW (zc 1) (za (dC (.str K)) zj))) zZ) u D' [some (.exc lab),some (.cell k)] (zY μ k (.lst (ls.map D.str))) :=
 kif hb hc hK (by omega) (h (LU Ha (by omega)))
def mG(c:Str)(Ks:List Str):List Str:=Ks.foldl (jV c) []
theorem Hb{c:Str}(hb:eM c lab)(hc:c∈al)(q:Q (.lst ((mG c ["BadName","BadNumber","BadWay","BadEnds","BadLine","Taken","NoName","InUse","Full"]).map D.str)) μ):mh [.exc lab] μ Q:=by
 refine⟨rfl,?_⟩;refine stp λN1 h1=>?_
 walk_at "e"
 refine⟨by decide,λk hk=>h1 _ _ ?_⟩;refine bW (ls:=[]) (n:=0) (Lp _) hb hc (by decide) (by decide) λl=>?_
 refine bW l hb hc (by decide) (by decide) λl=>?_
 refine bW l hb hc (by decide) (by decide) λl=>?_
 refine bW l hb hc (by decide) (by decide) λl=>?_
 refine bW l hb hc (by decide) (by decide) λl=>?_
 refine bW l hb hc (by decide) (by decide) λl=>?_
 refine bW l hb hc (by decide) (by decide) λl=>?_
 refine bW l hb hc (by decide) (by decide) λl=>?_
 refine bW l hb hc (by decide) (by decide) λl=>?_
 walk_at "e"
 rw[kB hk];exact⟨_,.refl _,q⟩
theorem Hc{c:Str}(hb:eM c lab)(hc:c∈al)(q:Q (.lst ((mG c ["Tight","Late","Heavy","NoPlan","NoRoom","NoStep","TooFew","BadPage"]).map D.str)) μ):mi [.exc lab] μ Q:=by
 refine⟨rfl,?_⟩;refine stp λN1 h1=>?_
 walk_at "e"
 refine⟨by decide,λk hk=>h1 _ _ ?_⟩;refine bW (ls:=[]) (n:=0) (Lp _) hb hc (by decide) (by decide) λl=>?_
 refine bW l hb hc (by decide) (by decide) λl=>?_
 refine bW l hb hc (by decide) (by decide) λl=>?_
 refine bW l hb hc (by decide) (by decide) λl=>?_
 refine bW l hb hc (by decide) (by decide) λl=>?_
 refine bW l hb hc (by decide) (by decide) λl=>?_
 refine bW l hb hc (by decide) (by decide) λl=>?_
 refine bW l hb hc (by decide) (by decide) λl=>?_
 walk_at "e"
 rw[kB hk];exact⟨_,.refl _,q⟩
theorem Hd:∀c∈al,mG c ["BadName","BadNumber","BadWay","BadEnds","BadLine","Taken","NoName","InUse","Full"]++mG c ["Tight","Late","Heavy","NoPlan","NoRoom","NoStep","TooFew","BadPage"]=[c]:=by decide+kernel
theorem mH{c:Str}(hb:eM c lab)(hc:c∈al)(q:Q (.str c) μ):jM [.exc lab] μ Q:=by
 refine⟨rfl,?_⟩;refine stp λN1 h1=>?_
 walk_at "e"
 refine Hb hb hc (Hc hb hc ?_);have e:=congrArg (Rl D.str) (Hd c hc);rw[Lr] at e;have e2:=congrArg Nl e;rw[L7] at e2;walk_at "e"
 refine⟨by rw[e2];exact(show 1<=sizeLine by decide),?_⟩;rw[e];refine h1 _ _ ?_;walk_at "e"
 refine⟨c,hb,hc,rfl,?_⟩;walk_at "e"
 exact⟨_,.refl _,q⟩
theorem yr(h:Nm x):∃out,fq x=some out/\out.length<=sizeLine:=by
 obtain⟨a,b,c,d,e⟩:∃a b c d,iD (bY wO)=[.Constant (.str "there is no such name: ") a b,.FormattedValue (.Name "name" c) (-1) none d]:=⟨_,_,_,_,rfl⟩;have hl:x.length<=8:=by have:=h.l8;rw[LQ] at this;exact this
 have hz:(1000:Nat)<=sizeLine:=by decide
 have e1:(LZ++L5 "there is no such name: ").length=23:=by decide+kernel
 have e2:(LZ++L5 "there is no such name: "++x).length=23+x.length:=by
  show((LZ++L5 "there is no such name: ").cps++x.cps).size=_;rw[NO];exact congrArg (·+ x.cps.size) e1
 refine⟨LZ++L5 "there is no such name: "++x,?_,by omega⟩;have s1:∀(y z:Str) (r:List Expr) acc,fText "name" z (.Constant (.str y) a b::r) acc=if (acc++y).length<=sizeLine then fText "name" z r (acc++y) else none:=λ_ _ _ _=>rfl
 have s2:∀(z:Str) (r:List Expr) acc,fText "name" z (.FormattedValue (.Name "name" c) (-1) none d::r) acc=if L5 "name"=L5 "name"/\(L5 "name"==("__debug__":Str))=false/\(acc++z).length<=sizeLine/\z.length<=sizeLine then fText "name" z r (acc++z) else none:=λ_ _ _=>rfl
 unfold fq;rw[e,s1,if_pos (by omega),s2,if_pos ⟨rfl,by decide+kernel,by omega,by omega⟩];rfl
theorem He(h:Nm x):∃out,jG x=some out/\out.length<=sizeLine:=by
 obtain⟨a,b,c,d,a',b',e⟩:∃a b c d a' b',iD (bY wP)=[.Constant (.str "the name ") a b,.FormattedValue (.Name "name" c) (-1) none d,.Constant (.str " is there already") a' b']:=⟨_,_,_,_,_,_,rfl⟩;have hl:x.length<=8:=by have:=h.l8;rw[LQ] at this;exact this
 have hz:(1000:Nat)<=sizeLine:=by decide
 have e1:(LZ++L5 "the name ").length=9:=by decide+kernel
 have e2:(LZ++L5 "the name "++x).length=9+x.length:=by
  show((LZ++L5 "the name ").cps++x.cps).size=_;rw[NO];exact congrArg (·+ x.cps.size) e1
 have e0:(L5 " is there already").length=17:=by decide+kernel
 have e3:(LZ++L5 "the name "++x++L5 " is there already").length=26+x.length:=by
  show((LZ++L5 "the name "++x).cps++(L5 " is there already").cps).size=_;rw[NO];have e2':(LZ++L5 "the name "++x).cps.size=9+x.length:=e2;have e0':(L5 " is there already").cps.size=17:=e0;omega
 refine⟨LZ++L5 "the name "++x++L5 " is there already",?_,by omega⟩;have s1:∀(y z:Str) (r:List Expr) acc a b,fText "name" z (.Constant (.str y) a b::r) acc=if (acc++y).length<=sizeLine then fText "name" z r (acc++y) else none:=λ_ _ _ _ _ _=>rfl
 have s2:∀(z:Str) (r:List Expr) acc,fText "name" z (.FormattedValue (.Name "name" c) (-1) none d::r) acc=if L5 "name"=L5 "name"/\(L5 "name"==("__debug__":Str))=false/\(acc++z).length<=sizeLine/\z.length<=sizeLine then fText "name" z r (acc++z) else none:=λ_ _ _=>rfl
 unfold jG;rw[e,s1,if_pos (by omega),s2,if_pos ⟨rfl,by decide+kernel,by omega,by omega⟩,s1,if_pos (by omega)];rfl
theorem Hf(h:x∈(["","abcdefghi","Ab","a b","a1","a_b","a.b","-"]:List Str))(x0:X0 "BadName" μ):jN [.str x] μ Q X0 :=
 mF (yq x h).1 (λz=>absurd z (yq x h).2) λ_=>x0
section
variable{k:Nat}
theorem qi(N:zM μ k ck cl kn ln)(hx:Nm x)(h:x∉kn.map (·.1))(q:Q .non μ):zV [.cell k,.str x] μ Q X0:=by
 refine⟨rfl,stp λN1 h1=>?_⟩;rw_mod_cast [];refine mF (yp hx) (λ_=>h1 _ _ ?_) λz=>absurd hx z
 rw_mod_cast [fS,N.o,fh,N.a,fe,b9,decide_eq_false (λz=>h (dF.mp z)),MA];exact⟨_,.refl _,q⟩
theorem Hg(N:zM μ k ck cl kn ln)(hx:Nm x)(h:x∈kn.map (·.1))(q:X0 (bB "Taken" x) μ):zV [.cell k,.str x] μ Q X0:=by
 obtain⟨out,hf,hz⟩:=He hx;refine⟨rfl,stp λN1 h1=>?_⟩;rw_mod_cast [];refine mF (yp hx) (λ_=>h1 _ _ ?_) λz=>absurd hx z
 rw_mod_cast [fS,N.o,fh,N.a,fe,b9,decide_eq_true (dF.mpr h),MA,dE];exact⟨⟨out,hf,hz⟩,_,.refl _,q⟩
theorem Hh(h:x∈(["","abcdefghi","Ab","a b","a1","a_b","a.b","-"]:List Str))(q:X0 "BadName" μ):zV [.cell k,.str x] μ Q X0:=by
 refine⟨rfl,stp λN1 h1=>?_⟩;rw_mod_cast [];exact Hf h ⟨_,.refl _,q⟩
theorem Hi{d:D}(N:zM μ k ck cl kn ln)(h:∀Q',zV [.cell k,.str x] μ Q' λc μ'=>∃d2,MLe d2 μ'/\X0 c d2):gU [.cell k,.str x,d] μ Q X0:=by
 refine⟨rfl,stp λN1 h1=>?_⟩;rw_mod_cast [N.o];exact h _
theorem Hj(N:zM μ k ck cl kn ln)(h:∀Q',zV [.cell k,.str x] μ Q' λc μ'=>∃d2,MLe d2 μ'/\X0 c d2):gT [.cell k,.str x,Sd,Ed,wd] μ Q X0:=by
 refine⟨rfl,stp λN1 h1=>?_⟩;rw_mod_cast [N.o];exact h _
end
section
variable{k:Nat}{out:Str}
theorem mI(N:zM μ k ck cl kn ln)(h:ak kn x=some v)(q:Q (.str v) μ):iI [.cell k,.str x] μ Q X0:=by
 refine⟨rfl,?_⟩;have hm:x∈kn.map (·.1):=fu.mp (by rw[h];rfl);rw_mod_cast [fS,ot,N.o,fh,N.a,fe,b9,decide_eq_true (dF.mpr hm),iK,h,MF,My];exact⟨_,.refl _,q⟩
theorem yt(N:zM μ k ck cl kn ln)(h:x∉kn.map (·.1))(nx:Nm x)(q:X0 (bB "NoName" x) μ):iI [.cell k,.str x] μ Q X0:=by
 obtain⟨out,hf,hz⟩:=yr nx;refine⟨rfl,?_⟩;rw_mod_cast [fS,N.o,fh,N.a,fe,b9,decide_eq_false (λz=>h (dF.mp z)),My,dE];exact⟨⟨out,hf,hz⟩,_,.refl _,q⟩
theorem yu(N:zM μ k ck cl kn ln)(h:x∉ln.map (·.1))(nx:Nm x)(q:X0 (bB "NoName" x) μ):ml [.cell k,.str x] μ Q X0:=by
 obtain⟨out,hf,hz⟩:=yr nx;refine⟨rfl,?_⟩;rw_mod_cast [fS,N.o,fh,N.b,fe,b9,decide_eq_false (λz=>h (dF.mp z)),My,dE];exact⟨⟨out,hf,hz⟩,_,.refl _,q⟩
end
theorem Hk(h:Nm x):∃out,jF x=some out/\out.length<=sizeLine:=by
 obtain⟨a,b,c,d,e⟩:∃a b c d,iD (bY wN)=[.Constant (.str "it is in use by ") a b,.FormattedValue (.Name "name" c) (-1) none d]:=⟨_,_,_,_,rfl⟩;have hl:x.length<=8:=by have:=h.l8;rw[LQ] at this;exact this
 have hz:(1000:Nat)<=sizeLine:=by decide
 have e1:(LZ++L5 "it is in use by ").length=16:=by decide+kernel
 have e2:(LZ++L5 "it is in use by "++x).length=16+x.length:=by
  show((LZ++L5 "it is in use by ").cps++x.cps).size=_;rw[NO];exact congrArg (·+ x.cps.size) e1
 refine⟨LZ++L5 "it is in use by "++x,?_,by omega⟩;have s1:∀(y z:Str) (r:List Expr) acc,fText "name" z (.Constant (.str y) a b::r) acc=if (acc++y).length<=sizeLine then fText "name" z r (acc++y) else none:=λ_ _ _ _=>rfl
 have s2:∀(z:Str) (r:List Expr) acc,fText "name" z (.FormattedValue (.Name "name" c) (-1) none d::r) acc=if L5 "name"=L5 "name"/\(L5 "name"==("__debug__":Str))=false/\(acc++z).length<=sizeLine/\z.length<=sizeLine then fText "name" z r (acc++z) else none:=λ_ _ _=>rfl
 unfold jF;rw[e,s1,if_pos (by omega),s2,if_pos ⟨rfl,by decide+kernel,by omega,by omega⟩];rfl
def uses(x:Str)(e:EN):Prop:=x∈e.1\/x∈e.2.1
section
variable{k:Nat}
theorem mJ(N:zM μ k ck cl kn ln)(h:ak kn x=some v)(q:Q (.str v) μ):gR [.cell k,.str x] μ Q:=by
 refine⟨rfl,?_⟩;have hm:x∈kn.map (·.1):=fu.mp (by rw[h];rfl);rw_mod_cast [fS,ot,N.o,fh,N.a,fe,b9,decide_eq_true (dF.mpr hm),iK,h,MF,My];exact⟨_,.refl _,q⟩
theorem yv(N:zM μ k ck cl kn ln)(hz:ln.length < 64)(nm:∀y∈ln.map (·.1),Nm y)
  (q:(∀y e,ak ln y=some e->¬ uses x e)->Q .non μ)(x0:∀ns',Srt (ln.map (·.1)) ns'->∀i y e,ns'[i]? = some y->ak ln y=some e->uses x e->(∀z∈ns'.take i,∀e,ak ln z=some e->¬ uses x e)->X0 (bB "InUse" y) μ):mn [.cell k,.str x] μ Q X0:=by
 refine⟨rfl,?_⟩;rw_mod_cast [N.o];refine uN (ns:=ln.map (·.1)) (vs:=vsS enD ln) (by rw[N.b,yn]) (by rw[L1];exact hz) λns2 p1 p2=>?_
 rw_mod_cast [];refine cu (λi ρ μ'=>∃a b c d,ρ=[some (.cell k),some (.str x),a,b,c,d]/\μ'=μ/\∀z∈ns2.take i,∀e,ak ln z=some e->¬ uses x e) ⟨_,_,_,_,rfl,rfl,by simp⟩ ?_ ?_
 .rintro i d ρ μ' hd ⟨_,_,_,_,rfl,rfl,hp⟩ N' hN;rw[Ln] at hd;obtain⟨y,hy,rfl⟩:=LM.mp hd;have hyl:y∈ln.map (·.1):=p1.mem_iff.mp (Lu hy);obtain⟨e,he⟩:=Mx.mp (fu.mpr hyl);obtain⟨out,hf,ho⟩:=Hk (nm y hyl);refine stp λN1 h1=>?_
  rw_mod_cast [ot,N.o,fh,N.b,fe,b9,iK,he,MF,enD];refine h1 _ _ ?_;by_cases c1:x∈e.1
  .rw_mod_cast [kW,MA,decide_eq_true c1,dE];exact⟨⟨out,hf,ho⟩,_,.refl _,x0 ns2 ⟨p1,p2⟩ i y e hy he (.inl c1) hp⟩
  .by_cases c2:x∈e.2.1
   .rw_mod_cast [kW,MA,decide_eq_false c1,decide_eq_true c2,dE];exact⟨⟨out,hf,ho⟩,_,.refl _,x0 ns2 ⟨p1,p2⟩ i y e hy he (.inr c2) hp⟩
   .rw_mod_cast [kW,MA,decide_eq_false c1,decide_eq_false c2];refine hN _ _ ⟨_,_,_,_,rfl,rfl,λz hz2 e2 he2=>?_⟩;rw[Mm,hy] at hz2;rcases LP.mp hz2 with h|h
    .exact hp z h e2 he2
    .rw[Lo.mp h,he] at he2;cases he2;exact λu=>u.elim c1 c2
 .rintro ρ μ' ⟨_,_,_,_,rfl,rfl,hp⟩;rw[L1,MD] at hp;exact⟨_,.refl _,q λy e he=>hp y (p1.mem_iff.mpr (fu.mp (by rw[he];rfl))) e he⟩
theorem Hl(N:zM μ k ck cl kn ln)(h:x∉kn.map (·.1))(nx:Nm x)(q:X0 (bB "NoName" x) μ):gS [.cell k,.str x] μ Q X0:=by
 refine⟨rfl,stp λN1 h1=>?_⟩;rw_mod_cast [N.o];exact yt N h nx ⟨_,.refl _,q⟩
theorem Hm(N:zM μ k ck cl kn ln)(hz:ln.length < 64)(nm:∀y∈ln.map (·.1),Nm y)(S:Srt (ln.map (·.1)) ns')(h:ak kn x=some v)(hv:v≠"line"){e:EN}{i:Nat}(hy:ns'[i]? = some y)(he:ak ln y=some e)(hu:uses x e)(hp:∀z∈ns'.take i,∀e,ak ln z=some e->¬ uses x e)
  (q:X0 (bB "InUse" y) μ):gS [.cell k,.str x] μ Q X0:=by
 refine⟨rfl,stp λN1 h1=>?_⟩;rw_mod_cast [N.o];refine mI N h ?_;rw_mod_cast [decide_eq_false hv,N.o];refine yv N hz nm (λz=>absurd hu (z y e he)) λns2 S2 i' y' e' hy' he' hu' hp'=>?_
 obtain rfl:=S2.uniq S;have:i'=i:=by
  rcases Oh i' i with h|h|h
  .exact absurd hu' (hp y' (Nr.mpr ⟨i',by rw[Q8,if_pos h];exact hy'⟩) e' he')
  .exact h
  .exact absurd hu (hp' y (Nr.mpr ⟨i,by rw[Q8,if_pos h];exact hy⟩) e he)
 subst this;rw[hy] at hy';cases hy';exact⟨_,.refl _,q⟩
theorem Hn(N:zM μ k ck cl kn ln)(hz:ln.length < 64)(nm:∀y∈ln.map (·.1),Nm y)(h:ak kn x=some v)(hv:v≠"line")(hn:∀y e,ak ln y=some e->¬ uses x e)
  (q:∀ μ',zM μ' k ck cl (aE kn x) ln->(∀j,j≠ck->μ' j=μ j)->Q .non μ'):gS [.cell k,.str x] μ Q X0:=by
 have nk:((aE kn x).map (·.1)).Nodup:=(Mc.map _).nodup N.nd;refine⟨rfl,stp λN1 h1=>?_⟩;rw_mod_cast [N.o];refine mI N h ?_;rw_mod_cast [decide_eq_false hv,N.o];refine yv N hz nm (λ_=>h1 _ _ ?_) λns2 S2 i' y' e' hy' he' hu' hp'=>absurd hu' (hn y' e' he')
 rw_mod_cast [oy,N.o,N.a,cJ,b9,iK,h,MF,NH,(gY (f:=D.str) (l:=kn) (x:=x)).1,(gY (f:=D.str) (l:=kn) (x:=x)).2];refine⟨_,.refl _,q _ ⟨?_,zy,?_,N.ne,nk⟩ λj a=>?_⟩
 .rw[zr N.k1];exact N.o
 .rw[zr N.ne.symm];exact N.b
 .rw[zr a]
theorem Ho(A:zM μ k ck cl kn ln)(h1:ak kn x=some (L5 "line"))(h2:(ak ln x).isSome=true)
  (q:∀ μ',zM μ' k ck cl (aE kn x) (aE ln x)->(∀j,j≠ck->j≠cl->μ' j=μ j)->Q .non μ'):gS [.cell k,.str x] μ Q X0:=by
 have nk:((aE kn x).map (·.1)).Nodup:=(Mc.map _).nodup A.nd;obtain⟨v,hv⟩:=Mx.mp h2;refine⟨rfl,stp λN1 k1=>?_⟩;rw_mod_cast [A.o];refine mI A h1 ?_;rw_mod_cast [oy,A.o,A.b,cJ,b9,iK,hv,MF,NH,(gY (f:=enD) (l:=ln) (x:=x)).1,(gY (f:=enD) (l:=ln) (x:=x)).2];refine k1 _ _ ?_;have o':zY μ cl (.dct (ksS (aE ln x)) (vsS enD (aE ln x))) k=some (.ins "Net" bV [.cell ck,.cell cl]):=by rw[zr A.k2];exact A.o
 have a':zY μ cl (.dct (ksS (aE ln x)) (vsS enD (aE ln x))) ck=some (.dct (ksS kn) (vsS D.str kn)):=by rw[zr A.ne];exact A.a
 rw_mod_cast [oy,o',a',cJ,b9,iK,h1,MF,NH,(gY (f:=D.str) (l:=kn) (x:=x)).1,(gY (f:=D.str) (l:=kn) (x:=x)).2];refine⟨_,.refl _,q _ ⟨?_,zy,?_,A.ne,nk⟩ λj a b=>?_⟩
 .rw[zr A.k1];exact o'
 .rw[zr A.ne.symm,zy]
 .rw[zr a,zr b]
end
theorem gZ{ys:List Str}{i:Nat}{wh:DS}{r:List (List Str×List Str×Nat×DS)}{ρ:aj}:iG ((ys,ns,i,wh)::r) D' ρ lab μ=((jB ys lab/\wh (iB D' i) (ρ.set i (some (.exc lab))) μ)\/(jB ns lab/\iG r D' ρ lab μ)):=rfl
section
variable{k:Nat}
theorem yw(N:zM μ k ck cl kn ln)(h:x∉kn.map (·.1))(nx:Nm x)(q:Q (.tup [.str "NoName",.str x]) μ):eO [.cell k,.str x] μ Q:=by
 have hz:(1000:Nat)<=sizeLine:=by decide
 refine⟨rfl,stp λN1 h1=>?_⟩;rw_mod_cast [da,N.o];refine Hl N h nx ?_;rw[gZ,gZ];refine .inr ⟨.inr ⟨"NoName",x,rfl,by decide+kernel,by decide⟩,.inl ⟨.inr ⟨"NoName",x,rfl,by decide+kernel,by decide⟩,?_⟩⟩;unfold eJ;rw_mod_cast [];exact⟨"NoName",x,rfl,by decide+kernel,by decide,by omega,_,.refl _,q⟩
theorem Hq(N:zM μ k ck cl kn ln)(hz:ln.length < 64)(nm:∀y∈ln.map (·.1),Nm y)(S:Srt (ln.map (·.1)) ns')(h:ak kn x=some v)(hv:v≠"line"){e:EN}{i:Nat}(hy:ns'[i]? = some y)(he:ak ln y=some e)(hu:uses x e)(hp:∀z∈ns'.take i,∀e,ak ln z=some e->¬ uses x e)
  (q:Q (.tup [.str "InUse",.str y]) μ):eO [.cell k,.str x] μ Q:=by
 have hz:(1000:Nat)<=sizeLine:=by decide
 refine⟨rfl,stp λN1 h1=>?_⟩;rw_mod_cast [da,N.o];refine Hm N (by assumption) nm S h hv hy he hu hp ?_;rw[gZ,gZ];refine .inl ⟨.inr ⟨"InUse",y,rfl,by decide+kernel,by decide⟩,?_⟩;unfold eJ;rw_mod_cast [];exact⟨"InUse",y,rfl,by decide+kernel,by decide,by omega,_,.refl _,q⟩
theorem Hr(N:zM μ k ck cl kn ln)(hz:ln.length < 64)(nm:∀y∈ln.map (·.1),Nm y)(h:ak kn x=some v)(hv:v≠"line")(hn:∀y e,ak ln y=some e->¬ uses x e)
  (q:∀ μ',zM μ' k ck cl (aE kn x) ln->(∀j,j≠ck->μ' j=μ j)->Q (.tup [.str "done",.str x]) μ'):eO [.cell k,.str x] μ Q:=by
 have hz9:(1000:Nat)<=sizeLine:=by decide
 refine⟨rfl,stp λN1 h1=>?_⟩;rw_mod_cast [da,N.o];refine Hn N hz nm h hv hn λμ' A' ke=>h1 _ _ ?_
 rw_mod_cast [];exact⟨by omega,_,.refl _,q μ' A' ke⟩
theorem Hs(N:zM μ k ck cl kn ln)(h1:ak kn x=some (L5 "line"))(h2:(ak ln x).isSome=true)
  (q:∀ μ',zM μ' k ck cl (aE kn x) (aE ln x)->(∀j,j≠ck->j≠cl->μ' j=μ j)->Q (.tup [.str "done",.str x]) μ'):eO [.cell k,.str x] μ Q:=by
 have hz9:(1000:Nat)<=sizeLine:=by decide
 refine⟨rfl,stp λN1 k1=>?_⟩;rw_mod_cast [da,N.o];refine Ho N h1 h2 λμ' A' ke=>k1 _ _ ?_
 rw_mod_cast [];exact⟨by omega,_,.refl _,q μ' A' ke⟩
theorem zM.other{c:Nat}{ct:Ct}(N:zM μ k ck cl kn ln)(h:μ c=none):zM (zY μ c ct) k ck cl kn ln:=by
 have ne:∀{j d},μ j=some d->j≠c:=λe z=>by rw[z,h] at e;cases e
 exact⟨by rw[zr (ne N.o)];exact N.o,by rw[zr (ne N.a)];exact N.a,by rw[zr (ne N.b)];exact N.b,N.ne,N.nd⟩
theorem Ht(N:zM μ k ck cl kn ln)(h:x∉kn.map (·.1))(h':x∉ln.map (·.1))(nx:Nm x)(q:Q (.lst [.str x,.str x]) μ):jP [.cell k,.str x] μ Q:=by
 have hz9:(1000:Nat)<=sizeLine:=by decide
 refine⟨rfl,stp λN1 h1=>?_⟩;rw_mod_cast [];refine⟨by omega,λc hc=>h1 _ _ (stp λN2 h2=>?_)⟩;have A:=N.other (ct:= .lst []) hc;rw_mod_cast [da,A.o];refine yt A h nx ?_;rw[gZ];refine .inl ⟨.inr ⟨"NoName",x,rfl,by decide+kernel,by decide⟩,?_⟩;unfold eJ;rw_mod_cast [zy,eY];refine⟨"NoName",x,rfl,by decide+kernel,by decide,by omega,h2 _ _ (stp λN3 h3=>?_)⟩;have A2:=N.other (ct:= .lst [.str x]) hc;rw_mod_cast [da,A2.o];refine yu A2 h' nx ?_;rw[gZ];refine .inl ⟨.inr ⟨"NoName",x,rfl,by decide+kernel,by decide⟩,?_⟩;unfold eJ;rw_mod_cast [zy,eY];refine⟨"NoName",x,rfl,by decide+kernel,by decide,by omega,h3 _ _ ?_⟩;rw_mod_cast [zy];rw[kB hc];exact⟨_,.refl _,q⟩
theorem Hu(N:zM μ k ck cl kn ln)(h:ak kn x=some v)(h':x∉ln.map (·.1))(nx:Nm x)(q:Q (.lst [.str x]) μ):jP [.cell k,.str x] μ Q:=by
 have hz9:(1000:Nat)<=sizeLine:=by decide
 refine⟨rfl,stp λN1 h1=>?_⟩;rw_mod_cast [];refine⟨by omega,λc hc=>h1 _ _ (stp λN2 h2=>?_)⟩;have A:=N.other (ct:= .lst []) hc;rw_mod_cast [da,A.o];refine mI A h (h2 _ _ (stp λN3 h3=>?_));rw_mod_cast [da,A.o];refine yu A h' nx ?_;rw[gZ];refine .inl ⟨.inr ⟨"NoName",x,rfl,by decide+kernel,by decide⟩,?_⟩;unfold eJ;rw_mod_cast [zy,eY];refine⟨"NoName",x,rfl,by decide+kernel,by decide,by omega,h3 _ _ ?_⟩;rw_mod_cast [zy];rw[kB hc];exact⟨_,.refl _,q⟩
end
theorem mK:("Full":Str)∈al:=by decide
theorem yx{c:Str}:eM c c:= .inl rfl
theorem zM.keep{k:Nat}(A:zM μ k ck cl kn ln)(h:∀j c,μ j=some c->(j=k\/j=ck\/j=cl)->μ' j=some c):zM μ' k ck cl kn ln :=
 ⟨h _ _ A.o (.inl rfl),h _ _ A.a (.inr (.inl rfl)),h _ _ A.b (.inr (.inr rfl)),A.ne,A.nd⟩
section
variable{k:Nat}
theorem yy(N:zM μ k ck cl kn ln)(hx:Nm x)(h:x∉kn.map (·.1))(hl:kn.length < 16+ln.length)(hz:kn.length<=900)(q:∀ μ',zM μ' k ck cl (kn++[(x,kd)]) ln->(∀j,j≠ck->μ' j=μ j)->Q .non μ'):gU [.cell k,.str x,.str kd] μ Q X0:=by
 refine⟨rfl,stp λN1 h1=>?_⟩;rw_mod_cast [N.o];refine qi N hx h ?_;rw_mod_cast [];refine h1 _ _ ?_;rw_mod_cast [N.o,iu,gH,N.a,N.b,cJ,eQ,decide_eq_false (show ¬ (16:Int)<=(kn.length:Int) - (ln.length:Int) by omega)];unfold dA;rw_mod_cast [N.o,N.a,cJ,b9,eQ];rw[mE (f:=D.str) h];refine⟨by omega,_,.refl _,q _ ⟨?_,zy,?_,N.ne,?_⟩ λj hj=>zr hj⟩
 .rw[zr N.k1];exact N.o
 .rw[zr N.ne.symm];exact N.b
 .rw[Lr];refine LA.mpr ⟨N.nd,by simp,λa ha b hb=>?_⟩;simp at hb;subst hb;exact λz=>h (z▸ha)
theorem yz(N:zM μ k ck cl kn ln)(hx:Nm x)(h:x∉kn.map (·.1))(hl:kn.length=16+ln.length)(q:X0 "Full" μ):gU [.cell k,.str x,.str kd] μ Q X0:=by
 refine⟨rfl,stp λN1 h1=>?_⟩;rw_mod_cast [N.o];refine qi N hx h ?_;rw_mod_cast [];refine h1 _ _ ?_;rw_mod_cast [N.o,iu,gH,N.a,N.b,cJ,eQ,decide_eq_true (show(16:Int)<=(kn.length:Int) - (ln.length:Int) by omega)];exact⟨by decide,_,.refl _,q⟩
theorem Hv(N:zM μ k ck cl kn ln)(hx:Nm x)(h:x∉kn.map (·.1))(hl:kn.length < 16+ln.length)(hz:kn.length<=900)(q:∀ μ',zM μ' k ck cl (kn++[(x,("house":Str))]) ln->(∀j,j≠ck->μ' j=μ j)->Q .non μ'):fV [.cell k,.str x] μ Q X0:=by
 refine⟨rfl,?_⟩;rw_mod_cast [N.o];exact yy N hx h hl hz λμ' N' e=>⟨_,.refl _,q μ' N' e⟩
theorem Hw(N:zM μ k ck cl kn ln)(hx:Nm x)(h:x∉kn.map (·.1))(hl:kn.length < 16+ln.length)(hz:kn.length<=900)(q:∀ μ',zM μ' k ck cl (kn++[(x,("gate":Str))]) ln->(∀j,j≠ck->μ' j=μ j)->Q .non μ'):jU [.cell k,.str x] μ Q X0:=by
 refine⟨rfl,?_⟩;rw_mod_cast [N.o];exact yy N hx h hl hz λμ' N' e=>⟨_,.refl _,q μ' N' e⟩
theorem yA(N:zM μ k ck cl kn ln)(hx:Nm x)(h:x∉kn.map (·.1))(hl:kn.length=16+ln.length)(q:X0 "Full" μ):fV [.cell k,.str x] μ Q X0:=by
 refine⟨rfl,?_⟩;rw_mod_cast [N.o];exact yz N hx h hl ⟨_,.refl _,q⟩
theorem Hx(N:zM μ k ck cl kn ln)(hx:Nm x)(h:x∉kn.map (·.1))(hl:kn.length=16+ln.length)(q:X0 "Full" μ):jU [.cell k,.str x] μ Q X0:=by
 refine⟨rfl,?_⟩;rw_mod_cast [N.o];exact yz N hx h hl ⟨_,.refl _,q⟩
theorem Hy(N:zM μ k ck cl kn ln)(hx:Nm x)(h:x∉kn.map (·.1))(hl:ln.length=16)(q:X0 "Full" μ):gT [.cell k,.str x,Sd,Ed,wd] μ Q X0:=by
 refine⟨rfl,stp λN1 h1=>?_⟩;rw_mod_cast [N.o];refine qi N hx h (h1 _ _ (stp λN2 h2=>?_));rw_mod_cast [N.o,iu,gH,N.b,cJ,eQ,decide_eq_true (show(16:Int)<=(ln.length:Int) by omega)];exact⟨by decide,_,.refl _,q⟩
theorem zM.nms(N:zM μ k ck cl kn ln)(hn:μ na=some (.lst (ns.map D.str))):zM (zY μ na (.lst (ns'.map D.str))) k ck cl kn ln:=by
 refine N.keep λj c e hj=>?_
 rw[zr,e];rintro rfl;rcases hj with rfl|rfl|rfl
 .rw[N.o] at hn;cases hn
 .rw[N.a] at hn;cases hn
 .rw[N.b] at hn;cases hn
def g6(n:Nat):Str:=L5 "none"++L5 " "++L5 (toString (n:Int))++L5 "Full"
theorem Hz(h:Asc x/\¬ Nm x)(q:X0 "BadName" μ):zV [.cell k,.str x] μ Q X0:=by
 refine⟨rfl,stp λN1 h1=>?_⟩;rw_mod_cast [];exact mF h.1 (λz=>absurd z h.2) λ_=>⟨_,.refl _,q⟩
theorem qj(N:zM μ k ck cl kn ln)(h:∀Q X1,X1 lab μ->zV [.cell k,.str x] μ Q X1)(q:X0 lab μ):fV [.cell k,.str x] μ Q X0/\gT [.cell k,.str x,Sd,Ed,wd] μ Q X0:=by
 refine⟨⟨rfl,?_⟩,Hj N λQ'=>h _ _ ⟨_,.refl _,q⟩⟩;rw_mod_cast [N.o];exact Hi N λQ'=>h _ _ ⟨_,.refl _,_,.refl _,q⟩
theorem HA{s:Nat}{n:Nat}(N:zM μ k ck cl kn ln)(hs:μ s=some .draw)(hn:μ na=some (.lst (ns.map D.str)))(sub:∀y∈kn.map (·.1),y∈ns)(hz:kn.length<=60)(hnl:ns.length<=70)(hk:kn.length+n=16+ln.length)(nn:n<=16)
  (q:∀ μ' (kn':SL Str) (ns':List Str),kn'.length=n->(∀p∈kn',(p.2=L5 "house"\/p.2=L5 "gate")/\Nm p.1)->ns'.length=ns.length+n+1->zM μ' k ck cl (kn++kn') ln->(∀y∈(kn++kn').map (·.1),y∈ns')->μ' na=some (.lst (ns'.map D.str))->(∀j,j≠ck->j≠na->μ' j=μ j)->Q (.str (g6 n)) μ'):mB [.cell k,.cell na,.cell s,.int ((n:Int)+1)] μ Q:=by
 have hzz:(1000:Nat)<=sizeLine:=by decide
 refine⟨rfl,stp λN1 h1=>?_⟩;rw_mod_cast [];refine h1 _ _ (stp λN2 h2=>?_);rw_mod_cast [];refine⟨by omega,by omega,?_⟩;refine cu (λi ρ μ'=>∃x5 x6,ρ=[some (.cell k),some (.cell na),some (.cell s),some (.int ((n:Int)+1)),some (.str (if i<=n then L5 "none" else g6 n)),x5,x6]/\∃(kn':SL Str) (ns':List Str),kn'.length=min i n/\(∀p∈kn',(p.2=L5 "house"\/p.2=L5 "gate")/\Nm p.1)/\ns'.length=ns.length+i/\zM μ' k ck cl (kn++kn') ln/\(∀y∈(kn++kn').map (·.1),y∈ns')/\μ' na=some (.lst (ns'.map D.str))/\(∀j,j≠ck->j≠na->μ' j=μ j)) ⟨_,_,by rw[if_pos (Mz _)],[],ns,by simp,by simp,rfl,by rw[M8];exact N,by rw[M8];exact sub,hn,λ_ _ _=>rfl⟩ ?_ ?_
 .rintro i d ρ μ1 hd ⟨x5,x6,rfl,kn',ns',l1,p1,l2,A,sb,hn1,ke⟩ N' hN;obtain⟨hi,rfl⟩:=fQ hd;have hi':i<=n:=by omega
  rw_mod_cast [iF,A.o,if_pos hi'];have C2:(kn++kn').length=kn.length+i:=by rw[L7,l1,O7 hi']
  have xk:∀x,x∉ns'->x∉(kn++kn').map (·.1):=λx h z=>h (sb x z)
  have eln:∀x,ns'.length+1=(ns'++[x]).length:=λx=>by rw[L7];rfl
  have fin:∀(kd x:Str) (μ3:Mu) (y6:Option D),(kd=L5 "house"\/kd=L5 "gate")->Nm x->i < n->zM μ3 k ck cl (kn++kn'++[(x,kd)]) ln->(∀j,j≠ck->μ3 j=zY μ1 na (.lst ((ns'++[x]).map D.str)) j)->N' [some (.cell k),some (.cell na),some (.cell s),some (.int ((n:Int)+1)),some (.str (L5 "none")),some (.int (0+(i:Int))),y6] μ3:=by
   intro kd x μ3 y6 hk3 hx hin A3 ke3;have nac:na≠ck:=λz=>by rw[z,A.a] at hn1;cases hn1
   refine hN _ _ ⟨_,_,by rw[if_pos (show i+1<=n by omega)],kn'++[(x,kd)],ns'++[x],by rw[L7,l1];simp only[Om];omega,λp hp=>?_,by rw[<- eln,l2];omega,by rw[<- LO];exact A3,λy hy=>?_,by rw[ke3 na nac,zy],λj h1 h2=>by rw[ke3 j h1,zr h2,ke j h1 h2]⟩
   .rcases LP.mp hp with hp|hp
    .exact p1 p hp
    .rw[Lo.mp hp];exact⟨hk3,hx⟩
   .rw[<- LO,Lr] at hy;rcases LP.mp hy with hy|hy
    .exact Lq _ (sb y hy)
    .exact Lw _ hy
  have body:∀(kd:Str) (f:bf),(kd=L5 "house"\/kd=L5 "gate") ->
    (∀{μ:Mu} {kn:SL Str} {x:Str} {Q:DK} {X0:DX},zM μ k ck cl kn ln->Nm x->x∉kn.map (·.1)->kn.length < 16+ln.length->kn.length<=900->(∀ μ',zM μ' k ck cl (kn++[(x,kd)]) ln->(∀j,j≠ck->μ' j=μ j)->Q .non μ')->f [.cell k,.str x] μ Q X0) ->
    (∀{μ:Mu} {kn:SL Str} {x:Str} {Q:DK} {X0:DX},zM μ k ck cl kn ln->Nm x->x∉kn.map (·.1)->kn.length=16+ln.length->X0 "Full" μ->f [.cell k,.str x] μ Q X0) ->
    ∀(y6:Option D) (X0:DX),(i=n->∀ μ' x,zM μ' k ck cl (kn++kn') ln->x∉ns'->μ' na=some (.lst ((ns'++[x]).map D.str))->(∀j,j≠ck->j≠na->μ' j=μ j)->X0 "Full" μ') ->
    cM [.cell s,.cell na] μ1 λd μ2=>f [.cell k,d] μ2 (λ_ μ3=>N' [some (.cell k),some (.cell na),some (.cell s),some (.int ((n:Int)+1)),some (.str (L5 "none")),some (.int (0+(i:Int))),y6] μ3) X0:=by
   intro kd f hk3 ok full y6 X0 hX;refine iJ (by rw[ke s (λz=>by rw[z,N.a] at hs;cases hs) (λz=>by rw[z,hn] at hs;cases hs)];exact hs) hn1 (by omega) λx hx hnx=>?_
   by_cases hin:i < n
   .exact ok (A.nms hn1) hx (xk x hnx) (by omega) (by omega) λμ3 A3 ke3=>fin _ x μ3 _ hk3 hx hin A3 ke3
   .exact full (A.nms hn1) hx (xk x hnx) (by omega) (hX (by omega) _ x (A.nms hn1) hnx zy λj h1 h2=>by rw[zr h2,ke j h1 h2])
  have txt:∀{μ':Mu} {x:Str},i=n->zM μ' k ck cl (kn++kn') ln->x∉ns'->μ' na=some (.lst ((ns'++[x]).map D.str))->(∀j,j≠ck->j≠na->μ' j=μ j)->N' [some (.cell k),some (.cell na),some (.cell s),some (.int ((n:Int)+1)),some (.str (g6 n)),some (.int (0+(i:Int))),none] μ':=by
   rintro μ' x rfl A' hx hn' ke';refine hN _ _ ⟨_,_,by rw[if_neg (by omega)],kn',ns'++[x],by rw[l1];omega,p1,by rw[<- eln,l2];omega,A',λy hy=>Lq _ (sb y hy),hn',ke'⟩
  have l10:∀m:Nat,m<=16->(L5 (toString (m:Int))).length<=2:=by decide+kernel
  have li:=l10 i (by omega);have lg:∀m:Nat,m<=16->(m:Int).natAbs.log2 < 1920:=by decide
  have e5:(L5 "none"++L5 " ").length=5:=by decide+kernel
  by_cases hp:(0+(i:Int)) % 2=0
  .refine⟨by decide,?_⟩;rw[if_pos (decide_eq_true hp)];refine body _ _ (.inl rfl) Hv yA _ _ λhin μ' x A' hx hn' ke'=>⟨.inl mK,?_⟩
   rw[Pb];refine⟨by decide,lg i (by omega),?_⟩;rw_mod_cast [];refine⟨by rw[e5];omega,mH yx mK ?_⟩;rw_mod_cast [];refine⟨by rw[OO,e5];show _+4<=_;omega,?_⟩;have t:=txt hin A' hx hn' ke';rw[show g6 n=L5 "none"++L5 " "++L5 (toString (i:Int))++L5 "Full" from by rw[hin];rfl,Pb] at t;exact t
  .refine⟨by decide,?_⟩;rw[if_neg (λz=>hp (of_decide_eq_true z))];refine body _ _ (.inr rfl) Hw Hx _ _ λhin μ' x A' hx hn' ke'=>⟨.inl mK,?_⟩
   rw[Pb];refine⟨by decide,lg i (by omega),?_⟩;rw_mod_cast [];refine⟨by rw[e5];omega,mH yx mK ?_⟩;rw_mod_cast [];refine⟨by rw[OO,e5];show _+4<=_;omega,?_⟩;have t:=txt hin A' hx hn' ke';rw[show g6 n=L5 "none"++L5 " "++L5 (toString (i:Int))++L5 "Full" from by rw[hin];rfl,Pb] at t;exact t
 .rintro ρ μ1 ⟨x5,x6,rfl,kn',ns',l1,p1,l2,A,sb,hn1,ke⟩;have el:((ci 0 ((n:Int)+1).toNat).map D.int).length=n+1:=by rw[L1,hV];omega
  rw[el] at l1 l2;rw[el,if_neg (by omega)];refine h2 _ _ ?_;rw_mod_cast [];exact⟨_,.refl _,q μ1 kn' ns' (by rw[l1];omega) p1 (by rw[l2];rfl) A sb hn1 ke⟩
end
abbrev cz:Str:=L5 "line"
def isL(p:Str×Str):Bool:=decide (p.2=cz)
theorem HB:∀b∈al,aS b=true:=by decide+kernel
def fv:List Str:=["Full","Full","BadName","BadName","Taken","Taken","BadName","BadName"]
structure cA(kn:SL Str)(ln:SL EN)(ns:List Str):Prop where
 lp:Mq ((kn.filter isL).map (·.1)) (ln.map (·.1))
 nd:(kn.map (·.1)).Nodup
 sub:∀y∈kn.map (·.1),y∈ns
 nm:∀y∈kn.map (·.1),Nm y
def bO(kn:SL Str)(x:Str):Bool:=decide (ak kn x≠some cz)
def cS(kn:SL Str)(x:Str):Bool:=decide (ak kn x=some cz)
section
variable{k:Nat}
theorem cA.len(I:cA kn ln ns):(kn.filter isL).length=ln.length:=by have:=I.lp.length_eq;rwa [L1,L1] at this
theorem yB{p:Str×Str->Bool}{q:Str->Bool}(h:∀a∈kn,q a.1=p a):(kn.map (·.1)).filter q=(kn.filter p).map (·.1):=by
 rw[Pi];congr 1
 exact Qu λa ha=>h a ha
theorem cA.lnk(I:cA kn ln ns):∀y∈ln.map (·.1),y∈kn.map (·.1):=λy hy=>by
 obtain⟨p,hp,rfl⟩:=LW.mp (I.lp.mem_iff.mpr hy);exact Mh (LY.mp hp).1
theorem split_len:(kn.filter λa=> !isL a).length+(kn.filter isL).length=kn.length:=by
 induction kn with
 |nil=>rfl
 |cons a r ih=>rw[M7,M7];cases isL a<;>simp<;>omega
theorem cA.look(I:cA kn ln ns){a:Str×Str}(ha:a∈kn):ak kn a.1=some a.2:=qg I.nd ha
theorem cA.yes(I:cA kn ln ns)(S:Mq zs (kn.map (·.1))):Mq (zs.filter (cS kn)) (ln.map (·.1)):=by
 refine(S.filter _).trans ?_;rw[yB (p:=isL) λa ha=>by unfold cS isL;rw[I.look ha];simp];exact I.lp
theorem cA.non(I:cA kn ln ns)(S:Mq zs (kn.map (·.1))):(zs.filter (bO kn)).length+ln.length=kn.length:=by
 rw[(S.filter _).length_eq,yB (p:=λa=> !isL a) λa ha=>by unfold bO isL;rw[I.look ha];simp,L1,<- I.len];exact split_len
theorem g7(N:zM μ k ck cl kn ln)(hz:kn.length < 64)(q:∀ns',Srt (kn.map (·.1)) ns'->Q (.lst (ns'.map D.str)) μ):eN [.cell k] μ Q:=by
 refine⟨rfl,?_⟩;rw_mod_cast [N.o];refine uN (ns:=kn.map (·.1)) (vs:=vsS D.str kn) (by rw[N.a,yn]) (by rw[L1];exact hz) λns' p1 p2=>?_
 exact⟨_,.refl _,q ns' ⟨p1,p2⟩⟩
theorem yC{p:Str×Str}{A B:Prop}(I:cA kn ln ns)(hp:p∈kn)(yes:bO kn p.1=true->A)(no:bO kn p.1=false->B):if (!decide (p.2=cz))=true then A else B:=by
 by_cases e:p.2=cz
 .rw[if_neg (by simp[e])];exact no (by unfold bO;rw[I.look hp,e];simp)
 .rw[if_pos (by simp[e])];exact yes (by unfold bO;rw[I.look hp];simpa using e)
theorem yD{p:Str×Str}{A B:Prop}(I:cA kn ln ns)(hp:p∈kn)(yes:cS kn p.1=true->A)(no:cS kn p.1=false->B):if decide (p.2=cz)=true then A else B:=by
 by_cases e:p.2=cz
 .rw[if_pos (by simp[e])];exact yes (by unfold cS;rw[I.look hp,e];simp)
 .rw[if_neg (by simp[e])];exact no (by unfold cS;rw[I.look hp];simpa using e)
theorem HC{s:Nat}{w0 w1 w2 w3 w4:D}(N:zM μ k ck cl kn ln)(I:cA kn ln ns)(hs:μ s=some .draw)(hn:μ na=some (.lst (ns.map D.str)))(nl:ns.length<=60)(hz:kn.length<=40)(l14:ln.length<=14)(k7:kn.length<=ln.length+16)
  (q:∀ μ',Q (.bl true) μ'):mC [.cell s,.tup [w0,w1,w2,w3,w4,.cell na],.cell k] μ Q:=by
 have hzz:(1000:Nat)<=sizeLine:=by decide
 refine⟨rfl,stp λN1 h1=>?_⟩;rw_mod_cast [N.o];refine⟨by decide,g7 N (by omega) λzs S=>?_⟩;rw_mod_cast [N.o];refine c8 zs D.str (bO kn) D.str (by have:=S.1.length_eq;rw[L1] at this;omega) (λx hx Y Z yes no=>?_) ?_
 .obtain⟨p,hp,rfl⟩:=LW.mp (S.1.mem_iff.mp hx);rw_mod_cast [N.o];refine mJ N (I.look hp) ?_;rw_mod_cast [];exact yC I hp yes no
 refine h1 _ _ (stp λN2 h2=>?_);clear h1;rw_mod_cast [N.o];refine⟨by decide,g7 N (by omega) λzs2 S2=>?_⟩;obtain rfl:=S2.uniq S;rw_mod_cast [N.o];refine c8 zs2 D.str (cS kn) D.str (by have:=S.1.length_eq;rw[L1] at this;omega) (λx hx Y Z yes no=>?_) ?_
 .obtain⟨p,hp,rfl⟩:=LW.mp (S.1.mem_iff.mp hx);rw_mod_cast [N.o];refine mJ N (I.look hp) ?_;rw_mod_cast [];exact yD I hp yes no
 refine h2 _ _ (stp λN3 h3=>?_);clear h2;have en:=I.non S.1;have ey:=(I.yes S.1).length_eq;rw[L1] at ey;rw_mod_cast [L1];have ec:(17:Int) - ((zs2.filter (bO kn)).length:Int)=((16+ln.length - kn.length:Nat):Int)+1:=by omega
 rw[ec];refine HA N hs hn I.sub (by omega) (by omega) (by omega) (by omega) λμ2 kn' ns' l1 p1 l2 A sb hn2 ke=>h3 _ _ (stp λN4 h4=>?_)
 clear h3;have hs2:μ2 s=some .draw:=by rw[ke s (λz=>by rw[z,N.a] at hs;cases hs) (λz=>by rw[z,hn] at hs;cases hs)];exact hs
 have ec2:(16:Int) - ((zs2.filter (bO kn)).length:Int)=((16+ln.length - kn.length:Nat):Int):=by omega
 rw_mod_cast [L1];rw[ec2,FF];have n16:16+ln.length - kn.length<=16:=by
  have:=I.len;have:=(Mc (l:=kn) (p:=isL)).length_le;omega
 have lg:∀m:Nat,m<=16->(m:Int).natAbs.log2 < 1920:=by decide
 have l10:∀m:Nat,m<=16->(L5 (toString (m:Int))).length<=2:=by decide+kernel
 have li:=l10 _ n16;refine⟨lg _ n16,?_⟩;have e5:(L5 "none ").length=5:=by decide+kernel
 rw_mod_cast [];refine⟨by rw[e5];omega,by rw[OO,e5];show _+4<=_;omega,?_⟩;rw[if_neg (by rw[show g6 (16+ln.length - kn.length)=L5 "none "++L5 (toString ((16+ln.length - kn.length:Nat):Int))++L5 "Full" from rfl];simp)];refine h4 _ _ (stp λN5 h5=>?_);clear h4;have I2:cA (kn++kn') ln ns':=by
  have e0:kn'.filter isL=[]:=Ni.mpr λp hp=>by
   unfold isL;rcases(p1 p hp).1 with e|e<;>rw[e]<;>decide+kernel
  refine⟨by rw[NI,e0,M8];exact I.lp,A.nd,sb,λy hy=>?_⟩;rw[Lr] at hy;rcases LP.mp hy with hy|hy
  .exact I.nm y hy
  .obtain⟨p,hp,rfl⟩:=LW.mp hy;exact(p1 p hp).2
 rw_mod_cast [A.o];refine⟨by decide,g7 A (by rw[L7];omega) λzs S2=>?_⟩;rw_mod_cast [A.o];refine c8 zs D.str (bO (kn++kn')) D.str (by have:=S2.1.length_eq;rw[L1,L7] at this;omega) (λx hx Y Z yes no=>?_) ?_
 .obtain⟨p,hp,rfl⟩:=LW.mp (S2.1.mem_iff.mp hx);rw_mod_cast [A.o];refine mJ A (I2.look hp) ?_;rw_mod_cast [];exact yC I2 hp yes no
 have en2:=I2.non S2.1;rw[L7,l1] at en2;rw_mod_cast [show(some (6:Int))=some ((6:Nat):Int) from rfl,gy];rw[<- OT];have zm:∀x∈zs.filter (bO (kn++kn')),x∈(kn++kn').map (·.1)/\x∉ln.map (·.1):=λx hx=>by
  obtain⟨h1,h2⟩:=LY.mp hx;obtain⟨p,hp,rfl⟩:=LW.mp (S2.1.mem_iff.mp h1);refine⟨Mh hp,λhl=>?_⟩;obtain⟨h3,h4⟩:=LY.mp ((I2.yes S2.1).mem_iff.mpr hl);unfold bO at h2;unfold cS at h4;exact of_decide_eq_true h2 (of_decide_eq_true h4)
 have znd:(zs.filter (bO (kn++kn'))).Nodup:=Mc.nodup (S2.1.nodup_iff.mpr A.nd);have zl:((zs.filter (bO (kn++kn'))).take 6).length=6:=by rw[Mp];omega
 have em:∀x∈(zs.filter (bO (kn++kn'))).take 6,x∈(kn++kn').map (·.1)/\x∉ln.map (·.1):=λx hx=>zm x (NP hx)
 have end':((zs.filter (bO (kn++kn'))).take 6).Nodup:=(MG _ _).nodup znd;generalize (zs.filter (bO (kn++kn'))).take 6=es at zl em end' ⊢
 refine h5 _ _ (stp λN6 h6=>?_);clear h5;have ln2:(kn++kn').length=16+ln.length:=by rw[L7,l1];omega
 generalize kn++kn'=kn2 at *
 have ec3:((16:Int) - ((zs2.filter (cS kn)).length:Int))=((16 - ln.length:Nat):Int):=by omega
 rw_mod_cast [L1];rw[ec3];generalize some (D.lst ((zs2.filter (bO kn)).map D.str))=v3
 generalize some (D.lst ((zs2.filter (cS kn)).map D.str))=v4
 generalize some (D.str (g6 (16+ln.length - kn.length)))=v5
 refine⟨by omega,by omega,?_⟩;refine cu (λi ρ μ'=>∃x7,ρ=[some (.cell s),some (.tup [w0,w1,w2,w3,w4,.cell na]),some (.cell k),v3,v4,v5,some (.tup (es.map D.str)),x7,none,none,none,none]/\∃(kn':SL Str) (ln':SL EN) (ns2:List Str),kn'.length=i/\ln'.length=i/\ns2.length=ns'.length+i/\zM μ' k ck cl (kn2++kn') (ln++ln')/\(∀y∈(kn2++kn').map (·.1),y∈ns2)/\(∀y∈(ln++ln').map (·.1),y∈ns2)/\(∀y∈es,y∉(ln++ln').map (·.1))/\μ' na=some (.lst (ns2.map D.str))/\μ' s=some .draw) ⟨_,rfl,[],[],ns',rfl,rfl,rfl,by rw[M8,M8];exact A,by rw[M8];exact sb,?_,?_,hn2,hs2⟩ ?_ ?_
 .rw[M8];exact λy hy=>sb y (I2.lnk y hy)
 .rw[M8];exact λy hy=>(em y hy).2
 .rintro i d ρ μ1 hd ⟨x7,rfl,kn',ln',ns2,k1,k2,k3,B,b1,b2,b3,hn3,hs3⟩ N' hN;obtain⟨hi,rfl⟩:=fQ hd;have i16:i < 16:=by omega
  rw_mod_cast [B.o,GA,show(1:Int)+(0+(i:Int)) % 6=((1+i % 6:Nat):Int) by omega,gy];rw[<- OT];refine iJ hs3 hn3 (by omega) λx hx hnx=>?_
  have mt:∀y∈es.take (1+i % 6),y∈es:=λy hy=>NP hy
  have nodes:∀y∈es,y∈(kn2++kn').map (·.1)/\y∉(ln++ln').map (·.1):=λy hy=>⟨by rw[Lr];exact Lq _ (em y hy).1,b3 y hy⟩
  have nac:na≠ck:=λz=>by have:=B.a;rw[z] at hn3;rw[hn3] at this;cases this
  have nal:na≠cl:=λz=>by have:=B.b;rw[z] at hn3;rw[hn3] at this;cases this
  have sk:s≠ck:=λz=>by have:=B.a;rw[z] at hs3;rw[hs3] at this;cases this
  have sl:s≠cl:=λz=>by have:=B.b;rw[z] at hs3;rw[hs3] at this;cases this
  have sna:s≠na:=λz=>by rw[z,hn3] at hs3;cases hs3
  refine⟨by decide,by decide,ym (B.nms hn3) hx (λz=>hnx (b1 x z)) (by rw[L7];omega) (by rw[L7];omega) (λz=>by rw[z] at zl;cases zl) (by omega) end' (λz=>?_) (by rw[Mp];omega) ((MG _ _).nodup end') nodes (λy hy=>nodes y (mt y hy)) (by omega) (by omega) (λz=>hnx (b2 x z)) λμ4 S' E' p3 p4 B4 ke4=>?_⟩
  .have:=congrArg Nl z;rw[Mp,zl,Ov] at this;omega
  .refine hN _ _ ⟨_,rfl,kn'++[(x,cz)],ln'++[(x,S',E',(0+(i:Int)) % 31)],ns2++[x],by rw[L7,k1];rfl,by rw[L7,k2];rfl,by rw[L7,k3];rfl,by rw[<- LO,<- LO];exact B4,λy hy=>?_,λy hy=>?_,λy hy=>?_,by rw[ke4 na nac nal,zy],by rw[ke4 s sk sl,zr sna];exact hs3⟩
   .rw[<- LO,Lr] at hy;rcases LP.mp hy with hy|hy
    .exact Lq _ (b1 y hy)
    .exact Lw _ hy
   .rw[<- LO,Lr] at hy;rcases LP.mp hy with hy|hy
    .exact Lq _ (b2 y hy)
    .exact Lw _ hy
   .rw[<- LO,Lr];intro hh;rcases LP.mp hh with hh|hh
    .exact b3 y hy hh
    .have hh:y=x:=by simpa using hh
     exact hnx (hh▸b1 y (nodes y hy).1)
 rintro ρ μ3 ⟨x7,rfl,kn',ln',ns2,k1,k2,k3,B,b1,b2,b3,hn3,hs3⟩;rw[L1,hV] at k1 k2 k3;refine h6 _ _ (stp λN7 h7=>?_);rw_mod_cast [];refine⟨Mz _,λc hc=>h7 _ _ (stp λN8 h8=>?_)⟩;obtain⟨e0,er,rfl⟩:∃e0 er,es=e0::er:=by
  cases es with
  |nil=>cases zl
  |cons a r=>exact⟨a,r,rfl⟩
 have hs4:zY μ3 c (.lst []) s=some .draw:=by rw[zr (λz=>by rw[z,hc] at hs3;cases hs3)];exact hs3
 have hn4:zY μ3 c (.lst []) na=some (.lst (ns2.map D.str)):=by rw[zr (λz=>by rw[z,hc] at hn3;cases hn3)];exact hn3
 have B4:zM (zY μ3 c (.lst [])) k ck cl (kn2++kn') (ln++ln'):=B.other hc;have hc4:zY μ3 c (.lst []) c=some (.lst []):=zy;generalize zY μ3 c (.lst [])=μ4 at hs4 hn4 B4 hc4 ⊢
 rw_mod_cast [LV];refine iJ hs4 hn4 (by omega) λx hx hnx=>?_
 have nac:c≠na:=λz=>by rw[z,hn3] at hc;cases hc
 have B5:=B4.nms (ns':=ns2++[x]) hn4;have hc5:zY μ4 na (.lst ((ns2++[x]).map D.str)) c=some (.lst []):=by rw[zr nac];exact hc4
 generalize zY μ4 na (.lst ((ns2++[x]).map D.str))=μ5 at B5 hc5 ⊢
 have e0m:=(em e0 Ly).1;have e0n:Nm e0:=I2.nm e0 e0m;have lk:(kn2++kn').length=16+(ln++ln').length:=by rw[L7,L7];omega
 have all:∀(i:Nat) d,[D.str x,D.str (L5 "A"),D.str e0,D.str (L5 "")][i]? = some d->∃b lab,eM b lab/\b∈al/\fv[2*i]? = some b/\fv[2*i+1]? = some b/\∀{μ:Mu} {Q:DK} {X0:DX} {Sd Ed wd:D},zM μ k ck cl (kn2++kn') (ln++ln')->X0 lab μ->fV [.cell k,d] μ Q X0/\gT [.cell k,d,Sd,Ed,wd] μ Q X0:=by
  intro i d hd;rcases i with _|_|_|_|i
  .cases hd;exact⟨"Full","Full",.inl rfl,by decide,rfl,rfl,λN q=>⟨yA N hx (λz=>hnx (b1 x z)) lk q,Hy N hx (λz=>hnx (b1 x z)) (by rw[L7];omega) q⟩⟩
  .cases hd;exact⟨"BadName","BadName",.inl rfl,by decide,rfl,rfl,λN q=>qj N (λ_ _=>Hz ⟨⟨by decide+kernel,by decide+kernel⟩,by rw[qh];decide+kernel⟩) q⟩
  .cases hd;exact⟨"Taken",bB "Taken" e0,.inr ⟨_,rfl⟩,by decide,rfl,rfl,λN q=>qj N (λ_ _=>Hg N e0n (by rw[Lr];exact Lq _ e0m)) q⟩
  .cases hd;exact⟨"BadName","BadName",.inl rfl,by decide,rfl,rfl,λN q=>qj N (λ_ _=>Hh (by simp)) q⟩
  .cases hd
 refine⟨by omega,?_⟩;refine cu (λi ρ μ'=>∃x8 x9,ρ=[some (.cell s),some (.tup [w0,w1,w2,w3,w4,.cell na]),some (.cell k),v3,v4,some (.cell c),some (.tup (.str e0::er.map D.str)),x7,x8,x9,none,none]/\zM μ' k ck cl (kn2++kn') (ln++ln')/\μ' c=some (.lst ((fv.take (2*i)).map D.str))) ⟨_,_,rfl,B5,hc5⟩ ?_ ?_
 .rintro i d ρ μ6 hd ⟨x8,x9,rfl,B6,hc6⟩ N' hN;obtain⟨b,lab,lo,be,u1,u2,nw⟩:=all i d hd;rw_mod_cast [];refine⟨by omega,?_⟩;refine cu (λj ρ μ'=>∃x9,ρ=[some (.cell s),some (.tup [w0,w1,w2,w3,w4,.cell na]),some (.cell k),v3,v4,some (.cell c),some (.tup (.str e0::er.map D.str)),x7,some d,x9,none,none]/\zM μ' k ck cl (kn2++kn') (ln++ln')/\μ' c=some (.lst ((fv.take (2*i+j)).map D.str))) ⟨_,rfl,B6,hc6⟩ ?_ ?_
  .rintro j dj ρ μ7 hdj ⟨x9,rfl,B7,hc7⟩ N2' hN2;have bd:fv[2*i+j]? = some b:=by
    rcases j with _|_|j
    .exact u1
    .exact u2
    .cases hdj
   have tk:fv.take (2*i+(j+1))=fv.take (2*i+j)++[b]:=by rw[<- Nat.add_assoc,Mm,bd];rfl
   have l8:2*i+j < 8:=(LD.mp bd).1;have nx:∀y9 μ',zM μ' k ck cl (kn2++kn') (ln++ln')->μ' c=some (.lst ((fv.take (2*i+(j+1))).map D.str))->N2' [some (.cell s),some (.tup [w0,w1,w2,w3,w4,.cell na]),some (.cell k),v3,v4,some (.cell c),some (.tup (.str e0::er.map D.str)),x7,some d,y9,none,none] μ':=λy9 μ' h1 h2=>hN2 _ _ ⟨_,rfl,h1,h2⟩
   have le:lab∈al\/∃b z,lab=bB b z/\aS b=true/\b∈al:=by
    rcases lo with rfl|⟨z,rfl⟩
    .exact .inl be
    .exact .inr ⟨_,_,rfl,HB b be,be⟩
   have nck:c≠k/\c≠ck/\c≠cl:=⟨λz=>(by have:=B7.o;rw[<- z,hc7] at this;cases this),λz=>(by have:=B7.a;rw[<- z,hc7] at this;cases this),λz=>(by have:=B7.b;rw[<- z,hc7] at this;cases this)⟩;have B8:∀ct,zM (zY μ7 c ct) k ck cl (kn2++kn') (ln++ln'):=λct=>B7.keep λj c' e h=>by
    rw[zr]
    .exact e
    .rintro rfl;rcases h with h|h|h
     .exact nck.1 h
     .exact nck.2.1 h
     .exact nck.2.2 h
   rcases j with _|_|j
   .cases hdj;rw_mod_cast [iF,B7.o];refine And.left (nw (Sd:= .non) (Ed:= .non) (wd:= .non) B7 ?_);refine⟨le,?_⟩;rw_mod_cast [hc7];refine mH lo be ?_;rw_mod_cast [hc7];refine⟨by rw[L1,Mp];show min _ 8 < _;omega,nx _ _ (B8 _) ?_⟩;rw[zy,tk,Lr];rfl
   .cases hdj;rw_mod_cast [iF,B7.o];refine⟨by omega,And.right (nw B7 ?_)⟩;refine⟨le,?_⟩;rw_mod_cast [hc7];refine mH lo be ?_;rw_mod_cast [hc7];refine⟨by rw[L1,Mp];show min _ 8 < _;omega,nx _ _ (B8 _) ?_⟩;rw[zy,tk,Lr];rfl
   .cases hdj
  .rintro ρ μ7 ⟨x9,rfl,B7,hc7⟩;exact hN _ _ ⟨_,_,rfl,B7,hc7⟩
 rintro ρ μ6 ⟨x8,x9,rfl,B6,hc6⟩;refine h8 _ _ (stp λN9 h9=>?_);rw_mod_cast [];refine⟨by omega,h9 _ _ ?_⟩;rw_mod_cast [hc6];refine FE (n:=1) hc6 rfl (λd hd=>?_) (by decide) ?_
 .obtain⟨x,hx,rfl⟩:=LW.mp hd;have:∀x∈fv,PyData.strOk x=true:=by decide+kernel
  exact this x (NP hx)
 rw_mod_cast [lh,B6.o];have kl:(((kn2++kn').length:Nat):Int)=32:=by rw[lk,L7];omega
 refine G0 B6 ⟨_,rfl,by omega,by omega,?_⟩;rw_mod_cast [decide_eq_true kl];exact⟨_,.refl _,q _⟩
end
theorem HD{f:α->β}:∀{l:List α} {l':List β},Mq l' (l.map f)->∃l2,Mq l2 l/\l'=l2.map f:=λ{l l'} h=>by
 generalize hm:l.map f=m at h
 induction h generalizing l with
 |nil=>cases l with
  |nil=>exact⟨[],.refl _,rfl⟩
  |cons _ _=>cases hm
 |cons x _ ih =>
  cases l with
  |nil=>cases hm
  |cons a l =>
   cases hm;obtain⟨l2,p,rfl⟩:=ih rfl;exact⟨a::l2,p.cons a,rfl⟩
 |swap x y _ =>
  match l,hm with
  |a::b::l,hm =>
   cases hm;exact⟨b::a::l,.swap _ _ _,rfl⟩
 |trans _ _ ih1 ih2 =>
  obtain⟨l2,p,rfl⟩:=ih2 hm;obtain⟨l3,p3,rfl⟩:=ih1 rfl;exact⟨l3,p3.trans p,rfl⟩
theorem yE:∀(p:Str) (l:List Str),(∀x∈l,sLe p x)->l.Pairwise sLe->NQ p l=true
 |p,[],_,_=>rfl
 |p,x::r,h,hp=>by
  unfold NQ;rw[M9,Pp];obtain⟨a,b⟩:=MS.mp hp;refine⟨?_,yE x r a b⟩;have:¬ (x.cps.toList < p.cps.toList):=h x Ly;simpa using this
theorem HE{l:List Str}(h:l.Pairwise sLe):Nz l=true:=by
 cases l with
 |nil=>rfl
 |cons p r=>exact yE p r (MS.mp h).1 (MS.mp h).2
def lrL(r:LR):List D:=[.str r.nm,.cell r.sa,.cell r.ea,.int r.w]
def lrT(r:LR):D:= .tup (lrL r)
theorem HF(nd:(ls.map LR.nm).Nodup):∀i j,i≠j->(cv ((ls.map lrL).getD i []) ((ls.map lrL).getD j [])).isSome:=by
 intro i j hij;have out:∀{n},¬ n < ls.length->(ls.map lrL).getD n []=[]:=λ{n} h=>by simp[P0 h]
 have inn:∀{n} (h:n < ls.length),(ls.map lrL).getD n []=lrL ls[n]:=λ{n} h=>by simp[h]
 by_cases hi:i < ls.length
 .by_cases hj:j < ls.length
  .rw[inn hi,inn hj];unfold lrL;by_cases e1:ls[i].nm=ls[j].nm
   .exfalso;have hk:(ls.map LR.nm)[i]'(by simpa using hi)=(ls.map LR.nm)[j]'(by simpa using hj):=by rw[QM,QM];exact e1
    rcases Q6 hij with z|z
    .exact(MN.mp nd) i j _ _ z hk
    .exact(MN.mp nd) j i _ _ z hk.symm
   .simp[cv,e1]
  .rw[out hj,inn hi];rfl
 .rw[out hi];by_cases hj:j < ls.length
  .rw[inn hj];rfl
  .rw[out hj];rfl
theorem HG{a b:LR}(h:rLe (lrL a) (lrL b)):sLe a.nm b.nm:=by
 unfold rLe lrL at h;unfold cv at h;by_cases e:b.nm=a.nm
 .rw[e];exact List.le_refl _
 .rw[if_neg e] at h;have h':sLt b.nm a.nm=false:=by
   cases z:sLt b.nm a.nm with
   |false=>rfl
   |true=>exact absurd (by rw[z]) h
  unfold sLt at h';rw[decide_eq_false_iff_not] at h';exact h'
theorem WD.mv{s:Nat}(W:WD μ s na la ns ls)(k:∀j c,μ j=some c->j≠na->μ' j=some c)(hn:μ' na=some (.lst (ns'.map D.str))):WD μ' s na la ns' ls :=
 ⟨k _ _ W.ds W.sna,hn,k _ _ W.dl W.nl.symm,W.nl,λr hr=>⟨k _ _ (W.rs r hr).1 (W.ap r hr).1,k _ _ (W.rs r hr).2 (W.ap r hr).2.2.1⟩,W.ap,W.nd⟩
structure JJ(kn:SL Str)(ln:SL EN)(ns:List Str)(tls:List LR)(lsn:List Str):Prop where
 I:cA kn ln ns
 tp:Mq (tls.map LR.nm) (ln.map (·.1))
 ts:tls.Pairwise λa b=>sLe a.nm b.nm
 te:∀r∈tls,∃e,ak ln r.nm=some e/\∀x,uses x e↔(x∈r.S\/x∈r.E)
 us:∀r∈tls,∀y,(y∈r.S\/y∈r.E)->y∈kn.map (·.1)/\y∉lsn
 ll:∀y∈ln.map (·.1),y∈lsn
 z1:kn.length<=21
 z2:ln.length<=14
 z3:kn.length<=ln.length+7
section
variable{lsn:List Str}{tls:List LR}
theorem JJ.srt(J:JJ kn ln ns tls lsn):Srt (ln.map (·.1)) (tls.map LR.nm):=⟨J.tp,HE (Oj.mpr J.ts)⟩
theorem JJ.ndl(J:JJ kn ln ns tls lsn):(ln.map (·.1)).Nodup:=J.I.lp.nodup_iff.mp ((Mc.map _).nodup J.I.nd)
theorem JJ.un(J:JJ kn ln ns tls lsn)(h:∀r∈tls,¬ (x∈r.S\/x∈r.E)):∀y e,ak ln y=some e->¬ uses x e:=λy e he hu=>by
 have:y∈tls.map LR.nm:=J.tp.mem_iff.mpr (fu.mp (by rw[he];rfl));obtain⟨r,hr,rfl⟩:=LW.mp this;obtain⟨e',h1,h2⟩:=J.te r hr;rw[he] at h1;cases h1;exact h r hr ((h2 x).mp hu)
theorem JJ.lnk(J:JJ kn ln ns tls lsn)(h:ak kn x=some v):x∈ln.map (·.1)↔v=cz:=by
 have hm:=GW h;rw[<- J.I.lp.mem_iff];constructor
 .intro hx;obtain⟨p,hp,e⟩:=LW.mp hx;obtain⟨h1,h2⟩:=LY.mp hp;have:=qg J.I.nd h1;rw[e,h] at this;cases this;exact of_decide_eq_true h2
 .rintro rfl;exact LW.mpr ⟨_,LY.mpr ⟨hm,by unfold isL;simp⟩,rfl⟩
theorem HH{l:SL β}(h:x∉l.map (·.1)):aE l x=l:=ML.mpr λp hp=>decide_eq_true λz=>h (z▸Mh hp)
theorem mL{l:SL β}:(aE l x).map (·.1)=(l.map (·.1)).filter λy=>decide (y≠x):=by unfold aE;rw[Pi];rfl
theorem JJ.drop(J:JJ kn ln ns tls lsn)(hx:∀r∈tls,¬ (x∈r.S\/x∈r.E))(hk:x∈kn.map (·.1)):JJ (aE kn x) (aE ln x) ns (tls.filter λr=>decide (r.nm≠x)) lsn:=by
 refine⟨⟨?_,?_,λy hy=>J.I.sub y (fW.mp hy).2,λy hy=>J.I.nm y (fW.mp hy).2⟩,?_,Pq Mc J.ts,λr hr=>?_,λr hr y hy=>?_,λy hy=>J.ll y (fW.mp hy).2,?_,?_,?_⟩
 .have e:(aE kn x).filter isL=aE (kn.filter isL) x:=by
   unfold aE;rw[Q9,Q9];exact Qu λa _=>Bool.and_comm _ _
  rw[e,mL,mL];exact J.I.lp.filter _
 .rw[mL];exact Mc.nodup J.I.nd
 .rw[mL,show(tls.filter λr=>decide (r.nm≠x)).map LR.nm=(tls.map LR.nm).filter λy=>decide (y≠x) from by rw[Pi];rfl];exact J.tp.filter _
 .obtain⟨h1,h2⟩:=LY.mp hr;obtain⟨e,h3,h4⟩:=J.te r h1;exact⟨e,by rw[G3,if_neg (of_decide_eq_true h2)];exact h3,h4⟩
 .obtain⟨h1,h2⟩:=LY.mp hr;obtain⟨h3,h4⟩:=J.us r h1 y hy;exact⟨fW.mpr ⟨λz=>hx r h1 (z▸hy),h3⟩,h4⟩
 .have:=(Mc (l:=kn) (p:=λp=>decide (p.1≠x))).length_le;have z1:=J.z1;unfold aE;omega
 .have:=(Mc (l:=ln) (p:=λp=>decide (p.1≠x))).length_le;have z2:=J.z2;unfold aE;omega
 .have h1:=yo (x:=x) J.ndl;have h2:(aE kn x).length < kn.length:=by
   obtain⟨p,hp,e⟩:=LW.mp hk;unfold aE;refine List.length_filter_lt_length_iff_exists.mpr ⟨p,hp,by simp[e]⟩
  have z3:=J.z3;omega
end
theorem si2{b:Str}(ha:PyData.strOk a=true)(hb:PyData.strOk b=true):SI 1 (.tup [.str a,.str b]):=by
 intro d hd;simp only[Lz,No,or_false] at hd;rcases hd with rfl|rfl
 .exact ha
 .exact hb
theorem si1(ha:PyData.strOk a=true):SI 1 (.lst [.str a]):=by
 intro d hd;rw[Lo.mp hd];exact ha
theorem HI{b:Str}(ha:PyData.strOk a=true)(hb:PyData.strOk b=true):SI 1 (.lst [.str a,.str b]):=by
 intro d hd;simp only[Lz,No,or_false] at hd;rcases hd with rfl|rfl
 .exact ha
 .exact hb
theorem yF{α:Type}{p:α->Prop}:∀{l:List α},(∃r∈l,p r)->∃pre r post,l=pre++r::post/\(∀q∈pre,¬ p q)/\p r
 | [],h=>by obtain⟨_,h,_⟩:=h;cases h
 |a::r,h=>by
  by_cases ha:p a
  .exact⟨[],a,r,rfl,by simp,ha⟩
  .obtain⟨b,hb,pb⟩:=h;rcases Lz.mp hb with rfl|hb
   .exact absurd pb ha
   .obtain⟨pre,c,post,rfl,h1,h2⟩:=yF ⟨b,hb,pb⟩;refine⟨a::pre,c,post,rfl,λq hq=>?_,h2⟩;rcases Lz.mp hq with rfl|hq
    .exact ha
    .exact h1 q hq
theorem HJ:∀ds μ Q,tX ds μ Q->aB pY pU 1 ds μ Q:=by
 rintro ds μ Q ⟨ns0,rfl,hl,q⟩;have hz:(1000:Nat)<=sizeLine:=by decide
 refine⟨rfl,stp λN1 h1=>?_⟩;walk_at "e"
 intro s hs0;refine h1 _ _ (stp λN2 h2=>?_);have hs:zY μ s .draw s=some .draw:=zy;generalize zY μ s .draw=μ1 at hs ⊢
 walk_at "e"
 refine GO (most:=5) hs (by decide) (by decide) λμ2 na la ho ga ns ls rows sl W keep=>h2 _ _ (stp λN3 h3=>?_)
 have l14:=W.N.len;have hc:=W.N.cnt;have g1:=W.ho4;have g2:=W.ga3;have g0:=W.ho2;have rm:=W.rm;have r1:=W.r1;have nd:=W.N.nd;have nmx:∀x∈ho++ga++ls.map LR.nm,Nm x:=λx hx=>W.N.nms x (W.N.sub x hx)
 have ndl:(ls.map LR.nm).Nodup:=(LA.mp nd).2.1;rw_mod_cast [];refine G1 W.W W.N g1 g2 λμ3 k ck cl ln hk hck hcl A L ke=>h3 _ _ (stp λN4 h4=>?_)
 have W3:WD μ3 s na la ns ls:=W.W.mv (λj c e _=>ke j c e) (ke na _ W.W.dn);rw_mod_cast [W3.dl];refine⟨by decide,Ee (λd=>match d with
  | .lst a=> .tup a
  |_=> .non) (by rw[L1];omega) (λd hd Q' q'=>?_) ?_ W3.dl⟩
 .obtain⟨r,_,rfl⟩:=LW.mp hd;unfold bg at q' ⊢;rw_mod_cast [];exact q'
 rw[MC,show ls.map ((λd=>match d with
  |D.lst a=>D.tup a
  |_=> .non)∘bg)=(ls.map lrL).map D.tup from by rw[MC];rfl]
 refine FT (rows:=ls.map lrL) (.inl rfl) (by rw[L1];omega) (.inl λr hr=>?_) (HF ndl) λrows' p s'=>?_
 .obtain⟨t,_,rfl⟩:=LW.mp hr;exact⟨_,_,rfl⟩
 obtain⟨tls,tp,rfl⟩:=HD p;rw[MC,show D.tup∘lrL=lrT from rfl];refine h4 _ _ (stp λN5 h5=>?_);rw_mod_cast [];refine⟨W3.ds,by decide,by decide,λt t0 t1=>h5 _ _ (stp λN6 h6=>?_)⟩;rw_mod_cast [A.o];have kl:(kindsOf ho ga ls).length=ho.length+ga.length+ls.length:=by unfold kindsOf;simp;omega
 refine g7 A (by omega) λzs S=>h6 _ _ (stp λN7 h7=>?_)
 have ts:tls.Pairwise λa b=>sLe a.nm b.nm:=(Oj.mp s').imp λh=>HG h
 have J:JJ (kindsOf ho ga ls) ln ns tls (ls.map LR.nm):=by
  have lf:=L.fst;have node:∀y∈ho++ga,y∈(kindsOf ho ga ls).map (·.1)/\y∉ls.map LR.nm:=λy hy=>by
   rw[gX];exact⟨Lq _ hy,λhh=>(LA.mp nd).2.2 y hy y hh rfl⟩
  refine⟨⟨?_,A.nd,λy hy=>?_,λy hy=>?_⟩,?_,ts,λr hr=>?_,λr hr y hy=>?_,λy hy=>?_,by omega,by rw[L.1];exact l14,by rw[kl,L.1];omega⟩
  .have e1:∀l:List Str,(l.map λx=>(x,L5 "house")).filter isL=[]:=λl=>Ni.mpr λp hp=>by obtain⟨x,_,rfl⟩:=LW.mp hp;exact(by decide+kernel:¬ decide (L5 "house"=cz)=true)
   have e2:∀l:List Str,(l.map λx=>(x,L5 "gate")).filter isL=[]:=λl=>Ni.mpr λp hp=>by obtain⟨x,_,rfl⟩:=LW.mp hp;exact(by decide+kernel:¬ decide (L5 "gate"=cz)=true)
   have e3:(ls.map λr=>(r.nm,cz)).filter isL=ls.map λr=>(r.nm,cz):=ML.mpr λp hp=>by obtain⟨x,_,rfl⟩:=LW.mp hp;unfold isL;simp
   unfold kindsOf;rw[NI,NI,e1,e2,e3,lf,Nu,Nu,MC];exact .refl _
  .rw[gX] at hy;exact W.N.sub y hy
  .rw[gX] at hy;exact nmx y hy
  .rw[lf];exact tp.map _
  .obtain⟨i,hi⟩:=Nr.mp (tp.mem_iff.mp hr);obtain⟨S',E',e,p1,p2⟩:=L.2 i r hi;refine⟨(S',E',r.w),qg (by rw[lf];exact ndl) (Lu e),λx=>?_⟩;unfold uses;rw[p1.1.mem_iff,p2.1.mem_iff]
  .have E:=W.N.ends r (tp.mem_iff.mp hr);exact node y (hy.elim (E.ss y) (E.es y))
  .rw[<- lf];exact hy
 have zl:zs.length=ho.length+ga.length+ls.length:=by have:=S.1.length_eq;rw[L1,kl] at this;exact this
 rw_mod_cast [L1];refine⟨by omega,by omega,?_⟩;have tsub:∀r∈tls,μ3 r.sa=some (.lst (r.S.map D.str))/\μ3 r.ea=some (.lst (r.E.map D.str)):=λr hr=>W3.rs r (tp.mem_iff.mp hr)
 have nf:∀{j c},μ2 j=some c->j≠k/\j≠ck/\j≠cl:=λ{j c} e=>⟨λz=>(by rw[z,hk] at e;cases e),λz=>(by rw[z,hck] at e;cases e),λz=>(by rw[z,hcl] at e;cases e)⟩
 have wsub:∀r∈tls,(r.sa≠ck/\r.sa≠cl)/\r.ea≠ck/\r.ea≠cl:=λr hr=>⟨(nf (W.W.rs r (tp.mem_iff.mp hr)).1).2,(nf (W.W.rs r (tp.mem_iff.mp hr)).2).2⟩
 have sne:=(nf W.W.ds).2;have nne:=(nf W.W.dn).2;generalize hw:D.tup [.lst (ho.map D.str),.lst (ga.map D.str),.cell la,.lst (rows.map mD),.int sl,.cell na]=wT
 refine cu (λi ρ μ'=>∃(x7 x8 x9 x10:Option D) (tl:List LR) (kn:SL Str) (ln:SL EN),ρ=[some (.scr ns0),some (.cell s),some wT,some (.cell k),some (.lst (tl.map lrT)),some (.int t),some (.lst (zs.map D.str)),x7,x8,x9,x10]/\zM μ' k ck cl kn ln/\JJ kn ln ns tl (ls.map LR.nm)/\(∀r∈tl,r∈tls)/\(∀y∈kn.map (·.1),y∈(kindsOf ho ga ls).map (·.1))/\∀j,j≠ck->j≠cl->μ' j=μ3 j) ⟨_,_,_,_,tls,_,_,rfl,A,J,λ_ h=>h,λ_ h=>h,λ_ _ _=>rfl⟩ ?_ ?_
 .rintro i d ρ μ4 hd ⟨x7,x8,x9,x10,tl,kn,ln4,rfl,B,JB,ts',ks',ke4⟩ N' hN;obtain⟨hi,rfl⟩:=fQ hd;refine stp λM1 k1=>?_
  rw_mod_cast [];have zp:(0:Int) < ((zs.map D.str).length:Int):=by rw[L1,zl];omega
  refine⟨.inr ⟨by omega,by decide⟩,zp,?_⟩;obtain⟨dx,e1,e2⟩:=kO (xs:=zs.map D.str) (Ow (((0:Int)+i)*7+t) (by omega)) (O9 _ zp);rw[e1];rw[Ln] at e2;obtain⟨x,hx,rfl⟩:=LM.mp e2;have hxz:=S.1.mem_iff.mp (Lu hx);have nx:Nm x:=J.I.nm x hxz;clear e1 e2 hx zp hi;refine k1 _ _ (stp λM2 k2=>?_);rw_mod_cast [];have tl14:tl.length<=14:=by have:=JB.tp.length_eq;have:=JB.z2;rw[L1,L1] at *; omega
  refine⟨by decide,c8 tl lrT (λr=>decide (x∈r.S\/x∈r.E)) (λr=> .str r.nm) (by omega) (λr hr Y Z yes no=>?_) ?_⟩
  .have t1:μ4 r.sa=some (.lst (r.S.map D.str)):=by rw[ke4 _ (wsub r (ts' r hr)).1.1 (wsub r (ts' r hr)).1.2];exact(tsub r (ts' r hr)).1
   have t2:μ4 r.ea=some (.lst (r.E.map D.str)):=by rw[ke4 _ (wsub r (ts' r hr)).2.1 (wsub r (ts' r hr)).2.2];exact(tsub r (ts' r hr)).2
   unfold lrT lrL;by_cases c1:x∈r.S
   .rw_mod_cast [dz t1,decide_eq_true c1];exact yes (by simp[c1])
   .by_cases c2:x∈r.E
    .rw_mod_cast [dz t1,dz t2,decide_eq_false c1,decide_eq_true c2];exact yes (by simp[c2])
    .rw_mod_cast [dz t1,dz t2,decide_eq_false c1,decide_eq_false c2];exact no (by simp[c1,c2])
  refine k2 _ _ (stp λM3 k3=>?_);rw_mod_cast [];have nml:∀y∈ln4.map (·.1),Nm y:=λy hy=>JB.I.nm y (JB.I.lnk y hy)
  have sx:PyData.strOk x=true:=qd nx;have kn64:kn.length < 64:=by have:=JB.z1;omega
  have ln64:ln4.length < 64:=by have:=JB.z2;omega
  by_cases hu:∃r∈tl,(x∈r.S\/x∈r.E)
  .obtain⟨pre,r0,post,rfl,hpre,hr0⟩:=yF hu;have r0m:r0∈pre++r0::post:=by simp
   obtain⟨u1,u2⟩:=JB.us r0 r0m x hr0;obtain⟨v,hv⟩:=Mx.mp (fu.mpr u1);have xl:x∉ln4.map (·.1):=λz=>u2 (JB.ll x z)
   have hvl:v≠cz:=λz=>xl ((JB.lnk hv).mpr z)
   obtain⟨e0,g1,g2⟩:=JB.te r0 r0m;have n0:Nm r0.nm:=JB.I.nm _ (JB.I.lnk _ (fu.mp (by rw[g1];rfl)));refine Hq B ln64 nml JB.srt hv hvl (y:=r0.nm) (e:=e0) (i:=pre.length) (by rw[Lr];simp) g1 ((g2 x).mpr hr0) (λz hz' e he hue=>?_) (k3 _ _ (stp λM4 k4=>?_))
   .rw[Lr,List.take_left' (by rw[L1])] at hz';obtain⟨r,hr,rfl⟩:=LW.mp hz';obtain⟨e',g3,g4⟩:=JB.te r (by simp[hr]);rw[he] at g3;cases g3;exact hpre r hr ((g4 x).mp hue)
   have fl:(pre++r0::post).filter (λr=>decide (x∈r.S\/x∈r.E))=r0::post.filter (λr=>decide (x∈r.S\/x∈r.E)):=by
    rw[NI,Ni.mpr λr hr=>by simpa using hpre r hr,Nu,M7,if_pos (decide_eq_true hr0)]
   have fil:(pre++r0::post).filter (λr=>decide (r.nm≠x))=pre++r0::post:=ML.mpr λr hr=>decide_eq_true λz=>by
    have:=JB.tp.mem_iff.mp (Mh (f:=LR.nm) hr);exact xl (z▸this)
   rw[fl];rw_mod_cast [LV,LF];rw[if_pos (decide_eq_true (by omega))];refine⟨by omega,jp (n:=1) (si2 (by decide+kernel) (qd n0)) (by decide) ?_⟩;rw_mod_cast [B.o];refine g7 B kn64 λzs4 S4=>?_
   rw_mod_cast [kU,decide_eq_true (S4.1.mem_iff.mpr u1),My];refine k4 _ _ (stp λM5 k5=>?_);rw_mod_cast [];refine Hu B hv xl nx ?_;rw_mod_cast [];refine⟨by omega,?_⟩;rw[if_neg (by omega),show cutD [D.str x,D.str x] none (some ((2:Int) - 1))=[D.str x] from rfl];refine jp (n:=1) (si1 sx) (by decide) ?_;rw_mod_cast [];refine k5 _ _ ?_;rw_mod_cast [];refine⟨by decide,c8 (pre++r0::post) lrT (λr=>decide (r.nm≠x)) lrT (by omega) (λr hr Y Z yes no=>?_) ?_⟩
   .unfold lrT lrL;by_cases c1:r.nm=x
    .rw_mod_cast [decide_eq_true c1];exact no (by simp[c1])
    .rw_mod_cast [decide_eq_false c1];exact yes (by simp[c1])
   rw[fil];exact hN _ _ ⟨_,_,_,_,pre++r0::post,kn,ln4,rfl,B,JB,ts',ks',ke4⟩
  .have hu':∀r∈tl,¬ (x∈r.S\/x∈r.E):=λr hr h=>hu ⟨r,hr,h⟩
   have dn:∀Q':DK,(∀ μ' kn' ln' found,zM μ' k ck cl kn' ln'->x∉kn'.map (·.1)->JJ kn' ln' ns (tl.filter λr=>decide (r.nm≠x)) (ls.map LR.nm)->(∀y∈kn'.map (·.1),y∈kn.map (·.1))->(∀j,j≠ck->j≠cl->μ' j=μ4 j)->(found=L5 "done"\/found=L5 "NoName")->Q' (.tup [.str found,.str x]) μ')->eO [.cell k,.str x] μ4 Q':=by
    intro Q' hQ;by_cases hxk:x∈kn.map (·.1)
    .obtain⟨v,hv⟩:=Mx.mp (fu.mpr hxk);have JD:=JB.drop hu' hxk;by_cases hvl:v=cz
     .refine Hs B (by rw[hv,hvl]) (fu.mpr ((JB.lnk hv).mpr hvl)) λμ' B' ke=>hQ μ' _ _ _ B' (λz=>(fW.mp z).1 rfl) JD (λy hy=>(fW.mp hy).2) ke (.inl rfl)
     .have xl:x∉ln4.map (·.1):=λz=>hvl ((JB.lnk hv).mp z)
      rw[HH xl] at JD;exact Hr B ln64 nml hv hvl (JB.un hu') λμ' B' ke=>hQ μ' _ _ _ B' (λz=>(fW.mp z).1 rfl) JD (λy hy=>(fW.mp hy).2) (λj h1 _=>ke j h1) (.inl rfl)
    .have fil:tl.filter (λr=>decide (r.nm≠x))=tl:=ML.mpr λr hr=>decide_eq_true λz=>by
      have:=JB.tp.mem_iff.mp (Mh (f:=LR.nm) hr);exact hxk (JB.I.lnk _ (z▸this))
     rw[fil] at hQ;exact yw B hxk nx (hQ μ4 _ _ _ B hxk JB (λ_ h=>h) (λ_ _ _=>rfl) (.inr rfl))
   have fl:tl.filter (λr=>decide (x∈r.S\/x∈r.E))=[]:=Ni.mpr λr hr=>by simpa using hu' r hr
   rw[fl];refine dn _ λμ5 kn5 ln5 found B5 x5 J5 ks5 ke5 hf=>k3 _ _ (stp λM4 k4=>?_)
   clear dn;have xl5:x∉ln5.map (·.1):=λz=>x5 (J5.I.lnk x z)
   rw_mod_cast [];have fin:M4 [some (.scr ns0),some (.cell s),some wT,some (.cell k),some (.lst (tl.map lrT)),some (.int t),some (.lst (zs.map D.str)),some (.int (0+(i:Int))),some (.str x),some (.lst []),some (.tup [.str found,.str x])] μ5:=by
    refine k4 _ _ (stp λM5 k5=>?_);rw_mod_cast [];refine Ht B5 x5 xl5 nx ?_;rw_mod_cast [];refine⟨by omega,?_⟩;rw[if_pos (by decide),show cutD [D.str x,D.str x] none (some ((2:Int) - 0))=[D.str x,D.str x] from rfl];refine jp (n:=1) (HI sx sx) (by decide) ?_;rw_mod_cast [];refine k5 _ _ ?_;rw_mod_cast [];refine⟨by decide,c8 tl lrT (λr=>decide (r.nm≠x)) lrT (by omega) (λr hr Y Z yes no=>?_) ?_⟩
    .unfold lrT lrL;by_cases c1:r.nm=x
     .rw_mod_cast [decide_eq_true c1];exact no (by simp[c1])
     .rw_mod_cast [decide_eq_false c1];exact yes (by simp[c1])
    exact hN _ _ ⟨_,_,_,_,_,kn5,ln5,rfl,B5,J5,λr hr=>ts' r (LY.mp hr).1,λy hy=>ks' y (ks5 y hy),λj h1 h2=>by rw[ke5 j h1 h2];exact ke4 j h1 h2⟩
   have sec:eO [.cell k,.str x] μ5 λd μ1=>2<=sizeLine/\dNe d (.tup [.str (L5 "NoName"),.str x]) μ1 (blK λb μ1=>if b=true then ∃ μ'',MLe μ'' μ1/\Q (.bl false) μ'' else M4 [some (.scr ns0),some (.cell s),some wT,some (.cell k),some (.lst (tl.map lrT)),some (.int t),some (.lst (zs.map D.str)),some (.int (0+(i:Int))),some (.str x),some (.lst []),some (.tup [.str found,.str x])] μ1):=by
    refine yw B5 x5 nx ⟨by omega,jp (n:=1) (si2 (by decide+kernel) sx) (by decide) ?_⟩;rw_mod_cast [];exact fin
   rw[if_neg (by decide)];have fo:PyData.strOk found=true:=by rcases hf with rfl|rfl<;>decide+kernel
   refine⟨by omega,uy (n:=1) (si2 fo sx) (si2 (by decide+kernel) sx) (by decide) λb hb=>?_⟩;cases b with
   |true =>
    rw_mod_cast [Bool.not_true];exact sec
   |false =>
    rw_mod_cast [Bool.not_false,B5.o];refine g7 B5 (by have:=J5.z1;omega) λzs4 S4=>?_
    rw_mod_cast [kU,decide_eq_false (λz=>x5 (S4.1.mem_iff.mp z)),MA];exact sec
 rintro ρ μ4 ⟨x7,x8,x9,x10,tl,kn,ln4,rfl,B,JB,ts',ks',ke4⟩;refine h7 _ _ (stp λN8 h8=>?_);have tl14:tl.length<=14:=by have:=JB.tp.length_eq;have:=JB.z2;rw[L1,L1] at *; omega
 have kn64:kn.length < 64:=by have:=JB.z1;omega
 rw_mod_cast [B.o];refine⟨by decide,g7 B kn64 λzs5 S5=>?_⟩;rw_mod_cast [B.o];refine c8 zs5 D.str (cS kn) D.str (by have:=S5.1.length_eq;rw[L1] at this;omega) (λx hx Y Z yes no=>?_) ?_
 .obtain⟨p,hp,rfl⟩:=LW.mp (S5.1.mem_iff.mp hx);rw_mod_cast [B.o];refine mJ B (JB.I.look hp) ?_;rw_mod_cast [];exact yD JB.I hp yes no
 have ez:zs5.filter (cS kn)=tl.map LR.nm:=qf (λ_ _=>yg) ((JB.I.yes S5.1).trans JB.tp.symm) (Pq Mc (qe S5.2)) (Oj.mpr JB.ts);refine⟨by decide,c8 tl lrT (λ_=>true) (λr=> .str r.nm) (by omega) (λr hr Y Z yes no=>?_) ?_⟩
 .unfold lrT lrL;rw_mod_cast [];exact yes rfl
 rw[show(tl.filter λ_=>true).map (λr=>D.str r.nm)=(zs5.filter (cS kn)).map D.str from by rw[ez,ML.mpr (λ_ _=>rfl),MC];rfl];refine jp (n:=1) (λd hd=>?_) (by decide) ?_
 .obtain⟨x,hx,rfl⟩:=LW.mp hd;exact qd (JB.I.nm x (S5.1.mem_iff.mp (LY.mp hx).1))
 rw_mod_cast [];refine h8 _ _ ?_;rw[<- hw];rw_mod_cast [];exact HC B JB.I (by rw[ke4 s sne.1 sne.2];exact W3.ds) (by rw[ke4 na nne.1 nne.2];exact W3.dn) (by omega) (by have:=JB.z1;omega) JB.z2 (by have:=JB.z3;omega) λμ'=>⟨_,.refl _,q _⟩
section
variable(P:Program)(w:World)(K:Frag)(mg:Str->Option Value)(base:Heap)
abbrev yG:Prop:=Has P w K mg base CX0 "is_made_of" 1 ["text","signs","most"] (lift K pV)
abbrev qk:Prop:=Has P w K mg base CX0 "is_number" 1 ["thing"] (lift K jH)
abbrev fX:Prop:=Has P w K mg base CX0 "_law_draw" 1 ["_law_s","_law_many"] nP
abbrev yH:Prop:=lx P w K mg base "_law_kinds_one" 1 ["_law_e"] (lift K mh)
abbrev yI:Prop:=lx P w K mg base "_law_kinds_two" 1 ["_law_e"] (lift K mi)
abbrev ql:Prop:=Has P w K mg base CX0 "is_name" 2 ["text"] (lift K iH)
abbrev yJ:Prop:=Has P w K mg base CX0 "check_whole" 2 ["thing"] (lift K mj)
abbrev yK:Prop:=h_ P w K mg base (CX1 P w) "check_whole" 2 ["thing"] (aM K pW) [] (sel 1 0 [.p 0] .non [])
abbrev qm:Prop:=bp P w K mg base (CX1 P w) "Net" "kind" 2 ["self","name"] (aM K iI) [] (sel 2 0 [.p 0,.p 1] .non [])
abbrev yL:Prop:=bp P w K mg base (CX1 P w) "Net" "check_unused" 2 ["self","node"] (aM K mn) [] (sel 2 0 [.p 0,.p 1] .non [])
abbrev qo:Prop:=Has P w K mg base CX0 "_law_pick" 2 ["_law_s","_law_row_here"] (lift K jL)
abbrev iL:Prop:=Has P w K mg base CX0 "_law_name" 2 ["_law_s","_law_names"] (lift K cM)
abbrev yM:Prop:=bp P w K mg base (CX1 P w) "Net" "ends" 2 ["self","name"] (aM K ml) [] (sel 2 0 [.p 0,.p 1] .non [])
abbrev yN:Prop:=Has P w K mg base CX0 "check_name" 3 ["text"] (lift K mo)
abbrev yO:Prop:=h_ P w K mg base (CX1 P w) "check_name" 3 ["text"] (aM K jN) [] (sel 1 0 [.p 0] .non [])
abbrev yP:Prop:=Has P w K mg base CX0 "_law_hop" 3 ["_law_s","_law_names","_law_lines","_law_one","_law_two","_law_barred"] (lift K jO)
abbrev yQ:Prop:=bp P w K mg base (CX1 P w) "Net" "drop" 3 ["self","name"] (aM K gS) [] (sel 2 0 [.p 0,.p 1] .non [])
abbrev yR:Prop:=Has P w K mg base CX0 "check_ends" 1 ["ends"] (lift K jK)
abbrev yS:Prop:=Has P w K mg base CX0 "check_number" 3 ["number","least","most"] (lift K mq)
abbrev qp:Prop:=bp P w K mg base CX0 "Net" "check_new" 4 ["self","name"] (lift K jQ) [] (sel 2 0 [.p 0,.p 1] .non [])
abbrev yT:Prop:=bp P w K mg base CX0 "Net" "check_nodes" 1 ["self","ends"] (lift K jJ) [] (sel 2 0 [.p 0,.p 1] .non [])
abbrev qr:Prop:=bp P w K mg base (CX1 P w) "Net" "check_new" 4 ["self","name"] (aM K zV) [] (sel 2 0 [.p 0,.p 1] .non [])
abbrev yU:Prop:=h_ P w K mg base (CX1 P w) "check_ends" 1 ["ends"] (aM K me) [] (sel 1 0 [.p 0] .non [])
abbrev yV:Prop:=bp P w K mg base (CX1 P w) "Net" "check_nodes" 2 ["self","ends"] (aM K mm) [] (sel 2 0 [.p 0,.p 1] .non [])
abbrev yW:Prop:=h_ P w K mg base (CX1 P w) "check_number" 3 ["number","least","most"] (aM K pX) [] (sel 3 0 [.p 0,.p 1,.p 2] .non [])
abbrev yX:Prop:=Has P w K mg base CX0 "_law_need" 1 ["_law_row_here","_law_lines","_law_the_slack"] (lift K mf)
abbrev yY:Prop:=Has P w K mg base CX0 "_law_way" 4 ["_law_s","_law_names","_law_lines","_law_gates","_law_first","_law_the_last","_law_barred"] (lift K jR)
abbrev qu:Prop:=bp P w K mg base CX0 "Net" "put_node" 5 ["self","name","kind"] (lift K jT) [] (sel 3 0 [.p 0,.p 1,.p 2] .non [])
abbrev qz:Prop:=bp P w K mg base (CX1 P w) "Net" "put_node" 5 ["self","name","kind"] (aM K gU) [] (sel 3 0 [.p 0,.p 1,.p 2] .non [])
abbrev yZ:Prop:=Has P w K mg base CX0 "_law_row" 5 ["_law_s","_law_names","_law_lines","_law_houses","_law_gates","_law_the_slack"] (lift K mr)
abbrev y0:Prop:=oi P w K mg base CX0 "Net" 1 ["self"] (lift K md) [] (sel 1 0 [.p 0] .non [])
abbrev y2:Prop:=bp P w K mg base CX0 "Net" "house" 6 ["self","name"] (lift K mw) [] (sel 2 0 [.p 0,.p 1] .non [])
abbrev y4:Prop:=bp P w K mg base CX0 "Net" "gate" 6 ["self","name"] (lift K mx) [] (sel 2 0 [.p 0,.p 1] .non [])
abbrev qA:Prop:=bp P w K mg base CX0 "Net" "line" 5 ["self","name","senders","ears","wire"] (lift K jS) ["wire"] (sel 4 1 [.p 0,.p 1,.p 2,.p 3,.k 0] .non [])
abbrev qB:Prop:=lx P w K mg base "_law_kind" 2 ["_law_e"] (lift K jM)
abbrev qC:Prop:=bp P w K mg base (CX1 P w) "Net" "house" 6 ["self","name"] (aM K fV) [] (sel 2 0 [.p 0,.p 1] .non [])
abbrev y8:Prop:=bp P w K mg base (CX1 P w) "Net" "gate" 6 ["self","name"] (aM K jU) [] (sel 2 0 [.p 0,.p 1] .non [])
abbrev y_:Prop:=Has P w K mg base CX0 "_law_fill" 7 ["_law_net_here","_law_names","_law_s","_law_many"] (lift K mB)
abbrev qD:Prop:=bp P w K mg base CX0 "Net" "names" 1 ["self"] (lift K eN) [] (sel 1 0 [.p 0] .non [])
abbrev qE:Prop:=bp P w K mg base CX0 "Net" "kind" 1 ["self","name"] (lift K gR) [] (sel 2 0 [.p 0,.p 1] .non [])
abbrev zd:Prop:=bp P w K mg base (CX1 P w) "Net" "line" 5 ["self","name","senders","ears","wire"] (aM K gT) [] (sel 4 0 [.p 0,.p 1,.p 2,.p 3,.c 0] .non [.int 1])
abbrev ze:Prop:=Has P w K mg base CX0 "_law_start" 1 ["_law_script"] (nQ K)
abbrev zh:Prop:=Has P w K mg base CX0 "_law_gone" 3 ["_law_net_here","_law_name_here"] (lift K jP)
abbrev zi:Prop:=Has P w K mg base CX0 "_law_drop" 4 ["_law_net_here","_law_name_here"] (lift K eO)
abbrev zk:Prop:=Has P w K mg base CX0 "_law_world" 6 ["_law_s","_law_the_most"] (lift K my)
abbrev zn:Prop:=Has P w K mg base CX0 "_law_net" 7 ["_law_world_here"] (lift K mz)
abbrev zo:Prop:=Has P w K mg base CX0 "_law_filled" 8 ["_law_s","_law_world_here","_law_net_here"] (lift K mC)
end
section
variable{P:Program}{base:Heap}[TabOk K tab]
theorem HK(F:Fun K "is_made_of" "is_made_of" oZ f fd)(B:Blt mg):aa P w K mg base CX0 1 f fd ["text","signs","most"] (lift K pV) :=
 F.okB wS vJ rfl λ_ _ _ _ _ _ hr=>have nd:=vJ.nd;⟨_,(zg (ao (nO (CH db db zq (zu (bj K) rfl B.len aG (qa1 (qv 0))) (qv 2)) (nN (zu (DU K) rfl B.all Cy (qa1 (fC ["sign"] ["signs"] [1] (.of rfl (by decide+kernel) rfl) rfl rfl (by decide+kernel) (a_ K (qv 0)) (λ_ _ _ _=>(bJ (i:=0) (show ME (["sign","signs"]:List Str) by decide+kernel) rfl (Ng rfl))) (λ_ _ _ _=>gq) (λ_ _ _ _=>(nM ET (qv 0) (qv 1) (by with_unfolding_all rfl)))))))))),λ_=>by infer_instance⟩
theorem HL(F:Fun K "is_number" "is_number" o8 f fd)(B:Blt mg):aa P w K mg base CX0 1 f fd ["thing"] (lift K jH) :=
 F.okB wU vN rfl λ_ _ _ _ _ _ hr=>have nd:=vN.nd;⟨_,(zg (ao (nO (zu (ue K) rfl B.isinstance zQ (qa2 (qv 0) (nL (v:= .ty "int") rfl B.int Cz rfl))) (nN (CI (zu (ue K) rfl B.isinstance zQ (qa2 (qv 0) (nL (v:= .ty "bool") rfl B.bool CA rfl)))))))),λ_=>by infer_instance⟩
theorem HM(F:Fun K "__init__" "Net.__init__" pc f fd)(B:Blt mg):aa P w K mg base CX0 1 f fd ["self"] (lift K md) :=
 F.okB wV vP rfl λ_ _ _ _ _ _ hr=>have nd:=vP.nd;⟨_,(zf (sw K (qv 0) uE)
  (zg (sw K (qv 0) uE))),λ_=>by infer_instance⟩
theorem HN(F:Fun K "names" "Net.names" pk f fd)(B:Blt mg):aa P w K mg base CX0 1 f fd ["self"] (lift K eN) :=
 F.okB wW vT rfl λ_ _ _ _ _ _ hr=>have nd:=vT.nd;⟨_,(zg (ao (zu (gJ K) rfl B.sorted gl (qa1 (aN K (qv 0)))))),λ_=>by infer_instance⟩
theorem HP(F:Fun K "kind" "Net.kind" lU f fd)(B:Blt mg):aa P w K mg base CX0 1 f fd ["self","name"] (lift K gR) :=
 F.okB wX lV rfl λ_ _ _ _ _ _ hr=>have nd:=lV.nd;⟨_,(zf (zX (zF (ju (bI hr)) (qv 1) (aN K (qv 0)) (by with_unfolding_all rfl))
  (zg dU)
  zH)
  (zg (ao (k6 (bI hr) (aN K (qv 0)) (qv 1))))),λ_=>by infer_instance⟩
theorem HQ(F:Fun K "__len__" "Net.__len__" pr f fd)(B:Blt mg):aa P w K mg base CX0 1 f fd ["self"] (lift K jI) :=
 F.okB wY vX rfl λ_ _ _ _ _ _ hr=>have nd:=vX.nd;⟨_,(zg (ao (zu gI rfl B.len aG (qa1 (aN K (qv 0)))))),λ_=>by infer_instance⟩
theorem HR(F:Fun K "check_nodes" "Net.check_nodes" l0 f fd)(B:Blt mg):aa P w K mg base CX0 1 f fd ["self","ends"] (lift K jJ) :=
 F.okB wZ l5 rfl λ_ _ _ _ _ _ hr=>have nd:=l5.nd;⟨_,(zg (b6 PassesOwn.never rfl (a_ K (qv 1)) (qG 2 nd)
  (zg (zX (WW.qt (dS (zF (ju (bI hr)) (qv 2) (aN K (qv 0)) (by with_unfolding_all rfl)) (dR (zF (k8 (bI hr)) (qv 2) (aN K (qv 0)) (by with_unfolding_all rfl)))))
  (zg dU)
  zH)))),λ_=>by infer_instance⟩
theorem HS(F:Fun K "check_ends" "check_ends" l6 f fd)(B:Blt mg)(c_MOST_ENDS:mg "MOST_ENDS"=some u_MOST_ENDS)(c_MOST_ENDS_r:RelV (.int 6) u_MOST_ENDS):aa P w K mg base CX0 1 f fd ["ends"] (lift K jK) :=
 F.okB w6 l7 rfl λ_ _ _ _ _ _ hr=>have nd:=l7.nd;⟨_,(zf (zX (fB (ko db db zq (zu (bj K) rfl B.len aG (qa1 (qv 0))) (aR rfl c_MOST_ENDS c_MOST_ENDS_r)))
  (zg dU)
  zH)
  (zg (zX (zF g8 (zu (ux) rfl B.len aG (qa1 (bZ (uw K) rfl B.set se (qa1 (qv 0))))) (zu (bj K) rfl B.len aG (qa1 (qv 0))) (aD _))
  (zg dU)
  zH))),λ_=>by infer_instance⟩
theorem HU(F:Fun K "check_ends" "check_ends" l6 f fd)(B:Blt mg)(c_MOST_ENDS:mg "MOST_ENDS"=some u_MOST_ENDS)(c_MOST_ENDS_r:RelV (.int 6) u_MOST_ENDS){a_BadEnds:Addr}(c_BadEnds:mg "BadEnds"=some (.ref a_BadEnds))[ah K "BadEnds" a_BadEnds](x_BadEnds:W.excIn K a_BadEnds bmV newV=true):aa P w K mg base (CX1 P w) 1 f fd ["ends"] (aM K me) :=
 F.okX w8 l7 rfl λ_ _ _ _ _ _ hr=>have nd:=l7.nd;⟨_,(zf (zX (fB (ko db db zq (zu (bj K) rfl B.len aG (qa1 (qv 0))) (aR rfl c_MOST_ENDS c_MOST_ENDS_r)))
  (zg (gL c_ c_BadEnds x_BadEnds (qa1 zO)))
  zH)
  (zg (zX (zF g8 (zu (ux) rfl B.len aG (qa1 (bZ (uw K) rfl B.set se (qa1 (qv 0))))) (zu (bj K) rfl B.len aG (qa1 (qv 0))) (aD _))
  (zg (gL c_ c_BadEnds x_BadEnds (qa1 zO)))
  zH))),λ_ _ _=>by infer_instance⟩
theorem HV(F:Fun K "_law_need" "_law_need" pI f fd)(B:Blt mg):aa P w K mg base CX0 1 f fd ["_law_row_here","_law_lines","_law_the_slack"] (lift K mf) :=
 F.okB w_ wm rfl λ_ _ _ _ _ _ hr=>have nd:=wm.nd;⟨_,(zf (qS 3 nd zq)
  (zf (b6 PassesOwn.never rfl (a_ K (qx K (qv 0) zq)) (qG 4 nd)
  (zf (qS 5 nd zq)
  (zf (b6 PassesOwn.never rfl (a_ K (qv 1)) (qG 6 nd)
  (zg (zX (zF (fP K hr) (qx K (qv 6) zq) (qv 4) (by with_unfolding_all rfl))
  (zg (qS 5 nd (af (a9 K) (af (a9 K) (af (a9 K) (qv 5) (qx K (qv 0) zq)) (qx K (qv 6) zq)) (qv 2))))
  zH)))
  (zg (qS 3 nd (zu (DR K) rfl B.max Cw (qa2 (qv 3) (qv 5))))))))
  (zg (ao (qv 3))))),λ_=>by infer_instance⟩
theorem HW(F:Fun K "_law_kinds_one" "_law_kinds_one" pM f fd)(B:Blt mg){a_BadName:Addr}(c_BadName:mg "BadName"=some (.ref a_BadName))[ah K "BadName" a_BadName](c_BadNumber:mg "BadNumber"=some (.ref a_BadNumber))[ah K "BadNumber" a_BadNumber]{a_BadWay:Addr}(c_BadWay:mg "BadWay"=some (.ref a_BadWay))[ah K "BadWay" a_BadWay]{a_BadEnds:Addr}(c_BadEnds:mg "BadEnds"=some (.ref a_BadEnds))[ah K "BadEnds" a_BadEnds]{a_BadLine:Addr}(c_BadLine:mg "BadLine"=some (.ref a_BadLine))[ah K "BadLine" a_BadLine]{a_Taken:Addr}(c_Taken:mg "Taken"=some (.ref a_Taken))[ah K "Taken" a_Taken](c_NoName:mg "NoName"=some (.ref a_NoName))[ah K "NoName" a_NoName]{a_InUse:Addr}(c_InUse:mg "InUse"=some (.ref a_InUse))[ah K "InUse" a_InUse](c_Full:mg "Full"=some (.ref a_Full))[ah K "Full" a_Full](z_ValueError:mg "ValueError"=none)[cR K al jD aU jE]:aa P w K mg base CX0 1 f fd ["_law_e"] (lift K mh) false :=
 F.okU xa wy rfl λ_ _ _ _ _ _ hr=>have nd:=wy.nd;⟨_,(zf (fO (qS 1 nd (bz cE)))
  (zf (zX (aZ (zu (bN K) rfl B.isinstance zQ (qa2 (qv 0) (aR (v:= .ref a_BadName) rfl c_BadName rfl))))
  (zg (zB (aK K Lm L8 L9 zR (qv 1) (qa1 zO))))
  zH)
  (zf (zX (aZ (zu (bN K) rfl B.isinstance zQ (qa2 (qv 0) (aR (v:= .ref a_BadNumber) rfl c_BadNumber rfl))))
  (zg (zB (aK K Lm L8 L9 zR (qv 1) (qa1 zO))))
  zH)
  (zf (zX (aZ (zu (bN K) rfl B.isinstance zQ (qa2 (qv 0) (aR (v:= .ref a_BadWay) rfl c_BadWay rfl))))
  (zg (zB (aK K Lm L8 L9 zR (qv 1) (qa1 zO))))
  zH)
  (zf (zX (aZ (zu (bN K) rfl B.isinstance zQ (qa2 (qv 0) (aR (v:= .ref a_BadEnds) rfl c_BadEnds rfl))))
  (zg (zB (aK K Lm L8 L9 zR (qv 1) (qa1 zO))))
  zH)
  (zf (zX (aZ (zu (bN K) rfl B.isinstance zQ (qa2 (qv 0) (aR (v:= .ref a_BadLine) rfl c_BadLine rfl))))
  (zg (zB (aK K Lm L8 L9 zR (qv 1) (qa1 zO))))
  zH)
  (zf (zX (aZ (zu (bN K) rfl B.isinstance zQ (qa2 (qv 0) (aR (v:= .ref a_Taken) rfl c_Taken rfl))))
  (zg (zB (aK K Lm L8 L9 zR (qv 1) (qa1 zO))))
  zH)
  (zf (zX (aZ (zu (bN K) rfl B.isinstance zQ (qa2 (qv 0) (aR (v:= .ref a_NoName) rfl c_NoName rfl))))
  (zg (zB (aK K Lm L8 L9 zR (qv 1) (qa1 zO))))
  zH)
  (zf (zX (aZ (zu (bN K) rfl B.isinstance zQ (qa2 (qv 0) (aR (v:= .ref a_InUse) rfl c_InUse rfl))))
  (zg (zB (aK K Lm L8 L9 zR (qv 1) (qa1 zO))))
  zH)
  (zf (zX (aZ (zu (bN K) rfl B.isinstance zQ (qa2 (qv 0) (aR (v:= .ref a_Full) rfl c_Full rfl))))
  (zg (zB (aK K Lm L8 L9 zR (qv 1) (qa1 zO))))
  zH)
  (nY 1 (zg (ao (qv 1)))))))))))))),λ_=>by infer_instance⟩
theorem HX(F:Fun K "_law_kinds_two" "_law_kinds_two" pN f fd)(B:Blt mg){a_Tight:Addr}(c_Tight:mg "Tight"=some (.ref a_Tight))[ah K "Tight" a_Tight]{a_Late:Addr}(c_Late:mg "Late"=some (.ref a_Late))[ah K "Late" a_Late]{a_Heavy:Addr}(c_Heavy:mg "Heavy"=some (.ref a_Heavy))[ah K "Heavy" a_Heavy]{a_NoPlan:Addr}(c_NoPlan:mg "NoPlan"=some (.ref a_NoPlan))[ah K "NoPlan" a_NoPlan]{a_NoRoom:Addr}(c_NoRoom:mg "NoRoom"=some (.ref a_NoRoom))[ah K "NoRoom" a_NoRoom]{a_NoStep:Addr}(c_NoStep:mg "NoStep"=some (.ref a_NoStep))[ah K "NoStep" a_NoStep]{a_TooFew:Addr}(c_TooFew:mg "TooFew"=some (.ref a_TooFew))[ah K "TooFew" a_TooFew]{a_BadPage:Addr}(c_BadPage:mg "BadPage"=some (.ref a_BadPage))[ah K "BadPage" a_BadPage](z_ValueError:mg "ValueError"=none)[cR K al jD aU jE]:aa P w K mg base CX0 1 f fd ["_law_e"] (lift K mi) false :=
 F.okU xc wB rfl λ_ _ _ _ _ _ hr=>have nd:=wB.nd;⟨_,(zf (fO (qS 1 nd (bz cE)))
  (zf (zX (aZ (zu (bN K) rfl B.isinstance zQ (qa2 (qv 0) (aR (v:= .ref a_Tight) rfl c_Tight rfl))))
  (zg (zB (aK K Lm L8 L9 zR (qv 1) (qa1 zO))))
  zH)
  (zf (zX (aZ (zu (bN K) rfl B.isinstance zQ (qa2 (qv 0) (aR (v:= .ref a_Late) rfl c_Late rfl))))
  (zg (zB (aK K Lm L8 L9 zR (qv 1) (qa1 zO))))
  zH)
  (zf (zX (aZ (zu (bN K) rfl B.isinstance zQ (qa2 (qv 0) (aR (v:= .ref a_Heavy) rfl c_Heavy rfl))))
  (zg (zB (aK K Lm L8 L9 zR (qv 1) (qa1 zO))))
  zH)
  (zf (zX (aZ (zu (bN K) rfl B.isinstance zQ (qa2 (qv 0) (aR (v:= .ref a_NoPlan) rfl c_NoPlan rfl))))
  (zg (zB (aK K Lm L8 L9 zR (qv 1) (qa1 zO))))
  zH)
  (zf (zX (aZ (zu (bN K) rfl B.isinstance zQ (qa2 (qv 0) (aR (v:= .ref a_NoRoom) rfl c_NoRoom rfl))))
  (zg (zB (aK K Lm L8 L9 zR (qv 1) (qa1 zO))))
  zH)
  (zf (zX (aZ (zu (bN K) rfl B.isinstance zQ (qa2 (qv 0) (aR (v:= .ref a_NoStep) rfl c_NoStep rfl))))
  (zg (zB (aK K Lm L8 L9 zR (qv 1) (qa1 zO))))
  zH)
  (zf (zX (aZ (zu (bN K) rfl B.isinstance zQ (qa2 (qv 0) (aR (v:= .ref a_TooFew) rfl c_TooFew rfl))))
  (zg (zB (aK K Lm L8 L9 zR (qv 1) (qa1 zO))))
  zH)
  (zf (zX (aZ (zu (bN K) rfl B.isinstance zQ (qa2 (qv 0) (aR (v:= .ref a_BadPage) rfl c_BadPage rfl))))
  (zg (zB (aK K Lm L8 L9 zR (qv 1) (qa1 zO))))
  zH)
  (nY 1 (zg (ao (qv 1))))))))))))),λ_=>by infer_instance⟩
theorem HY(F:Fun K "is_name" "is_name" o6 f fd)(B:Blt mg)(h_is_made_of:yG P w K mg base){u_LETTERS:Value}(c_LETTERS:mg "LETTERS"=some u_LETTERS)(c_LETTERS_r:RelV (.str "abcdefghijklmnopqrstuvwxyz") u_LETTERS){u_MOST_LETTERS:Value}(c_MOST_LETTERS:mg "MOST_LETTERS"=some u_MOST_LETTERS)(c_MOST_LETTERS_r:RelV (.int 8) u_MOST_LETTERS):aa P w K mg base CX0 2 f fd ["text"] (lift K iH) :=
 F.okB xf vL rfl λ_ _ _ _ _ _ hr=>have nd:=vL.nd;⟨_,(zg (ao (zE h_is_made_of hr (zA (qv 0) (qa2 (aR rfl c_LETTERS c_LETTERS_r) (aR rfl c_MOST_LETTERS c_MOST_LETTERS_r)))))),λ_=>by infer_instance⟩
theorem HZ(F:Fun K "check_whole" "check_whole" lK f fd)(B:Blt mg)(h_is_number:qk P w K mg base):aa P w K mg base CX0 2 f fd ["thing"] (lift K mj) :=
 F.okB xh lL rfl λ_ _ _ _ _ _ hr=>have nd:=lL.nd;⟨_,(zg (zX (fB (aZ (zE h_is_number hr (qa1 (qv 0)))))
  (zg dU)
  zH)),λ_=>by infer_instance⟩
theorem H_(F:Fun K "check_whole" "check_whole" lK f fd)(B:Blt mg)(h_is_number:qk P w K mg base)(c_BadNumber:mg "BadNumber"=some (.ref a_BadNumber))[ah K "BadNumber" a_BadNumber](x_BadNumber:W.excIn K a_BadNumber bmV newV=true):aa P w K mg base (CX1 P w) 2 f fd ["thing"] (aM K pW) :=
 F.okX xi lL rfl λ_ _ _ _ _ _ hr=>have nd:=lL.nd;⟨_,(zg (zX (fB (aZ (zE h_is_number hr (qa1 (qv 0)))))
  (zg (gL c_ c_BadNumber x_BadNumber (qa1 zO)))
  zH)),λ_ _ _=>by infer_instance⟩
theorem Ia(F:Fun K "kind" "Net.kind" lU f fd)(B:Blt mg)(n_NoName:dD P w K mg "NoName" "name" fq)[fk K "NoName"]:aa P w K mg base (CX1 P w) 2 f fd ["self","name"] (aM K iI) :=
 F.okX xj lV rfl λ_ _ _ _ _ _ hr=>have nd:=lV.nd;⟨_,(zf (zX (zF (ju (bI hr)) (qv 1) (aN K (qv 0)) (by with_unfolding_all rfl))
  (zg (jA K c_ n_NoName hr (qv 1)))
  zH)
  (zg (ao (k6 (bI hr) (aN K (qv 0)) (qv 1))))),λ_ _ _=>by infer_instance⟩
theorem Ib(F:Fun K "ends" "Net.ends" pq f fd)(B:Blt mg)(n_NoName:dD P w K mg "NoName" "name" fq)[fk K "NoName"]:aa P w K mg base (CX1 P w) 2 f fd ["self","name"] (aM K ml) :=
 F.okX xp vV rfl λ_ _ _ _ _ _ hr=>have nd:=vV.nd;⟨_,(zf (zX (zF (ju (bI hr)) (qv 1) (aN K (qv 0)) (by with_unfolding_all rfl))
  (zg (jA K c_ n_NoName hr (qv 1)))
  zH)
  (zg (ao (k6 (bI hr) (aN K (qv 0)) (qv 1))))),λ_ _ _=>by infer_instance⟩
theorem Ic(F:Fun K "check_nodes" "Net.check_nodes" l0 f fd)(B:Blt mg)(n_NoName:dD P w K mg "NoName" "name" fq)[fk K "NoName"]:aa P w K mg base (CX1 P w) 2 f fd ["self","ends"] (aM K mm) :=
 F.okX xq l5 rfl λ_ _ _ _ _ _ hr=>have nd:=l5.nd;⟨_,(zg (b6 vh rfl (a_ K (qv 1)) (qG 2 nd)
  (zg (zX (WW.qt (dS (zF (ju (bI hr)) (qv 2) (aN K (qv 0)) (by with_unfolding_all rfl)) (dR (zF (k8 (bI hr)) (qv 2) (aN K (qv 0)) (by with_unfolding_all rfl)))))
  (zg (jA K c_ n_NoName hr (qv 2)))
  zH)))),λ_ _ _=>by infer_instance⟩
theorem Ie(F:Fun K "check_unused" "Net.check_unused" pz f fd)(B:Blt mg)(n_InUse:dD P w K mg "InUse" "name" jF)[fk K "InUse"]:aa P w K mg base (CX1 P w) 2 f fd ["self","node"] (aM K mn) :=
 F.okX xu vZ rfl λ_ _ _ _ _ _ hr=>have nd:=vZ.nd;⟨_,(zg (b6 vh rfl (a_ K (zu (gJ K) rfl B.sorted gl (qa1 (aN K (qv 0))))) (qG 2 nd)
  (zf (i4 (k6 (bI hr) (aN K (qv 0)) (qv 2)) (C1 (n:=3) K rfl (gp (qG 3 nd) (gp (qG 4 nd) (gp (qG 5 nd) su)))))
  (zg (zX (WW.qt (dS (zF (fP K hr) (qv 1) (qv 3) (by with_unfolding_all rfl)) (dR (zF (fP K hr) (qv 1) (qv 4) (by with_unfolding_all rfl)))))
  (zg (jA K c_ n_InUse hr (qv 2)))
  zH))))),λ_ _ _=>by infer_instance⟩
theorem Ig(F:Fun K "_law_pick" "_law_pick" pE f fd)(B:Blt mg)(h_law_draw:fX P w K mg base):aa P w K mg base CX0 2 f fd ["_law_s","_law_row_here"] (lift K jL) :=
 F.okB xv v6 rfl λ_ _ _ _ _ _ hr=>have nd:=v6.nd;⟨_,(zg (ao (qx K (qv 1) (zE h_law_draw hr (qa2 (qv 0) (zu (bj K) rfl B.len aG (qa1 (qv 1)))))))),λ_=>by infer_instance⟩
theorem Ih(F:Fun K "_law_name" "_law_name" pF f fd)(B:Blt mg)(h_law_draw:fX P w K mg base):aa P w K mg base CX0 2 f fd ["_law_s","_law_names"] (lift K cM) :=
 F.okB xy v8 rfl λ_ _ _ _ _ _ hr=>have nd:=v8.nd;⟨_,(zf (qS 2 nd zO)
  (zf (b6 PassesOwn.never rfl (dW rfl B.range (qa1 zq)) (qG 3 nd)
  (zf (qS 4 nd (af (a9 K) zq (zE h_law_draw hr (qa2 (qv 0) zq))))
  (zf (zX (zF (du K hr) (qv 4) zq (aD _))
  (zg (qS 4 nd (af (a9 K) zq (zE h_law_draw hr (qa2 (qv 0) zq)))))
  zH)
  (zf (qS 5 nd (aK K PySem.F.plainAttrs_str PySem.F.slot_str_join PySem.F.type_str_join (ER K) zO (qa1 (fC ["_law_k"] ["_law_letters","_law_s"] [2,0] (.of rfl (by decide+kernel) rfl) rfl rfl (by decide+kernel) (dW rfl B.range (qa1 (qv 4))) (λ_ _ _ _=>(bJ (i:=0) (show ME (["_law_k","_law_letters","_law_s"]:List Str) by decide+kernel) rfl (Ng rfl))) (λ_ _ _ _=>gq) (λ_ _ _ _=>(qx K (qv 1) (zE h_law_draw hr (qa2 (qv 2) zq))))))))
  (zg (zX (zF (gx K hr) (qv 5) (qv 1) (by with_unfolding_all rfl))
  (zf (zB (aK K Lm L8 L9 zR (qv 1) (qa1 (qv 5))))
  (zg (ao (qv 5))))
  zH))))))
  (zf (b6 PassesOwn.never rfl (dW rfl B.range (qa1 zq)) (qG 6 nd)
  (zf (qS 5 nd (af uq (qx K (qv 2) (af dM (qv 6) zq)) (af (a9 K) zq (af ki (qv 6) zq))))
  (zg (zX (zF (gx K hr) (qv 5) (qv 1) (by with_unfolding_all rfl))
  (zf (zB (aK K Lm L8 L9 zR (qv 1) (qa1 (qv 5))))
  (zg (ao (qv 5))))
  zH))))
  (zg (ao zO))))),λ_=>by infer_instance⟩
theorem Ii(F:Fun K "_law_kind" "_law_kind" pO f fd)(B:Blt mg)(u_law_kinds_one:yH P w K mg base)(u_law_kinds_two:yI P w K mg base)(z_ValueError:mg "ValueError"=none)[cR K al jD aU jE]:aa P w K mg base CX0 2 f fd ["_law_e"] (lift K jM) false :=
 F.okU xz wD rfl λ_ _ _ _ _ _ hr=>have nd:=wD.nd;⟨_,(zf (qS 1 nd (af (a9 K) (ly u_law_kinds_one hr (qa1 (qv 0))) (ly u_law_kinds_two hr (qa1 (qv 0)))))
  (zf (zX (WW.qt (kt (zF (du K hr) (zu (bj K) rfl B.len aG (qa1 (qv 1))) zq (aD _)) (kq (aZ (zu (bN K) rfl B.isinstance zQ (qa2 (qv 0) (nL (v:= .ty "ValueError") rfl z_ValueError F7 rfl)))))))
  (zg (ao (qx K (qv 1) zq)))
  zH)
  (zg (ao zO)))),λ_=>by infer_instance⟩
theorem Ij(F:Fun K "check_name" "check_name" lI f fd)(B:Blt mg)(h_is_name:ql P w K mg base):aa P w K mg base CX0 3 f fd ["text"] (lift K mo) :=
 F.okB xA lJ rfl λ_ _ _ _ _ _ hr=>have nd:=lJ.nd;⟨_,(zg (zX (fB (aZ (zE h_is_name hr (qa1 (qv 0)))))
  (zg dU)
  zH)),λ_=>by infer_instance⟩
theorem Ik(F:Fun K "check_name" "check_name" lI f fd)(B:Blt mg)(h_is_name:ql P w K mg base){a_BadName:Addr}(c_BadName:mg "BadName"=some (.ref a_BadName))[ah K "BadName" a_BadName](x_BadName:W.excIn K a_BadName bmV newV=true):aa P w K mg base (CX1 P w) 3 f fd ["text"] (aM K jN) :=
 F.okX xB lJ rfl λ_ _ _ _ _ _ hr=>have nd:=lJ.nd;⟨_,(zg (zX (fB (aZ (zE h_is_name hr (qa1 (qv 0)))))
  (zg (gL c_ c_BadName x_BadName (qa1 (F_ (vp zO (vp (F9 (qv 0)) F8))))))
  zH)),λ_ _ _=>by infer_instance⟩
theorem Il(F:Fun K "check_number" "check_number" lM f fd)(B:Blt mg)(h_check_whole:yJ P w K mg base):aa P w K mg base CX0 3 f fd ["number","least","most"] (lift K mq) :=
 F.okB xC lN rfl λ_ _ _ _ _ _ hr=>have nd:=lN.nd;⟨_,(zf (zB (zE h_check_whole hr (qa1 (qv 0))))
  (zg (zX (fB (ko db db (qv 1) (qv 0) (qv 2)))
  (zg dU)
  zH))),λ_=>by infer_instance⟩
theorem Im(F:Fun K "check_number" "check_number" lM f fd)(B:Blt mg)(hK_check_wholeX_1:yK P w K mg base)(c_BadNumber:mg "BadNumber"=some (.ref a_BadNumber))[ah K "BadNumber" a_BadNumber](x_BadNumber:W.excIn K a_BadNumber bmV newV=true):aa P w K mg base (CX1 P w) 3 f fd ["number","least","most"] (aM K pX) :=
 F.okX xD lN rfl λ_ _ _ _ _ _ hr=>have nd:=lN.nd;⟨_,(zf (zB (jx hK_check_wholeX_1 hr cQ (qa1 (qv 0)) aF))
  (zg (zX (fB (ko db db (qv 1) (qv 0) (qv 2)))
  (zg (gL c_ c_BadNumber x_BadNumber (qa1 zO)))
  zH))),λ_ _ _=>by infer_instance⟩
theorem Io(F:Fun K "drop" "Net.drop" pj f fd)(B:Blt mg)(hT_Net_kindX_2:qm P w K mg base)(hT_Net_check_unusedX_2:yL P w K mg base):aa P w K mg base (CX1 P w) 3 f fd ["self","name"] (aM K gS) :=
 F.okX xE vR rfl λ_ _ _ _ _ _ hr=>have nd:=vR.nd;⟨_,(zf (zX (zF (du K hr) (cw (pl:=_) K hT_Net_kindX_2 hr cQ (qv 0) (qa1 (qv 1)) aF) zO (aD _))
  (zg (uT (aN K (qv 0)) (qv 1)))
  (zg (zB (cw (pl:=_) K hT_Net_check_unusedX_2 hr cQ (qv 0) (qa1 (qv 1)) aF))))
  (zg (uT (aN K (qv 0)) (qv 1)))),λ_ _ _=>by infer_instance⟩
theorem Ip(F:Fun K "_law_hop" "_law_hop" pG f fd)(B:Blt mg)(h_law_draw:fX P w K mg base)(h_law_pick:qo P w K mg base)(h_law_name:iL P w K mg base):aa P w K mg base CX0 3 f fd ["_law_s","_law_names","_law_lines","_law_one","_law_two","_law_barred"] (lift K jO) :=
 F.okB xF v_ rfl λ_ _ _ _ _ _ hr=>have nd:=v_.nd;⟨_,(zf (eW ["_law_line"] ["_law_barred","_law_one"] [5,3] (i:=6) nd rfl rfl (.of rfl (by decide+kernel) rfl) rfl rfl (by decide+kernel) (a_ K (qv 2)) (λ_ _ _ _=>(bJ (i:=0) (show ME (["_law_line","_law_barred","_law_one"]:List Str) by decide+kernel) rfl (Ng rfl))) (λ_ _ _ _=>(dX (WW.qt (kt (zF (gx K hr) (qx K (qv 0) zq) (qv 1) (by with_unfolding_all rfl)) (kq (WW.qt (dS (zF (fP K hr) (qv 2) (qx K (qv 0) zq) (by with_unfolding_all rfl)) (dR (zF g8 (zu (bj K) rfl B.len aG (qa1 (qx K (qv 0) zq))) zq (aD _)))))))))) (λ_ _ _ _=>(qv 0)))
  (zf (eW ["_law_line"] ["_law_two"] [4] (i:=6) nd rfl rfl (.of rfl (by decide+kernel) rfl) rfl rfl (by decide+kernel) (a_ K (qv 6)) (λ_ _ _ _=>(bJ (i:=0) (show ME (["_law_line","_law_two"]:List Str) by decide+kernel) rfl (Ng rfl))) (λ_ _ _ _=>(dX (WW.qt (dS (zF (fP K hr) (qv 1) (qx K (qv 0) zq) (by with_unfolding_all rfl)) (dR (zF g8 (zu (bj K) rfl B.len aG (qa1 (qx K (qv 0) zq))) zq (aD _))))))) (λ_ _ _ _=>(qv 0)))
  (zf (zX (WW.qt (kt (zF g8 (zu (bj K) rfl B.len aG (qa1 (qv 2))) zq (aD _)) (kq (WW.qt (dS (zF (du K hr) (zu (bj K) rfl B.len aG (qa1 (qv 6))) zq (aD _)) (dR (zF (du K hr) (zE h_law_draw hr (qa2 (qv 0) zq)) zq (aD _))))))))
  (zf (zB (aK K Lm L8 L9 zR (qv 2) (qa1 (bz (zA (zE h_law_name hr (qa2 (qv 0) (qv 1))) (zA (sT (bz (qa1 (qv 3)))) (qa2 (sT (bz (qa1 (qv 4)))) (zE h_law_draw hr (qa2 (qv 0) zq)))))))))
  (zg (ao (qx K (qx K (qv 2) (iZ iM zq)) zq))))
  zH)
  (zf (qS 7 nd (zE h_law_pick hr (qa2 (qv 0) (qv 6))))
  (zf (zX (zF (gx K hr) (qv 3) (qx K (qv 7) zq) (by with_unfolding_all rfl))
  (zg (zB (aK K Lm L8 L9 zR (qx K (qv 7) zq) (qa1 (qv 3)))))
  zH)
  (zf (zX (zF (gx K hr) (qv 4) (qx K (qv 7) zq) (by with_unfolding_all rfl))
  (zg (zB (aK K Lm L8 L9 zR (qx K (qv 7) zq) (qa1 (qv 4)))))
  zH)
  (zg (ao (qx K (qv 7) zq))))))))),λ_=>by infer_instance⟩
theorem Iq(F:Fun K "_law_gone" "_law_gone" pQ f fd)(B:Blt mg)(hT_Net_kindX_2:qm P w K mg base)(hT_Net_endsX_2:yM P w K mg base)(c_NoName:mg "NoName"=some (.ref a_NoName))[ah K "NoName" a_NoName][gM K gP gQ a_NoName][ENm K gO]:aa P w K mg base CX0 3 f fd ["_law_net_here","_law_name_here"] (lift K jP) :=
 F.okB xG wH rfl λ_ _ _ _ _ _ hr=>have nd:=wH.nd;⟨_,(zf (fO (qS 2 nd (bz cE)))
  (zf (oW K nd (λE xe pn xo=>(zg (zB (cw (pl:=_) K hT_Net_kindX_2 hr xo (qv 0) (qa1 (qv 1)) aF))))
  (lG 3 c_NoName (λa=>(zg (zB (aK K Lm L8 L9 zR (qv 2) (qa1 (lE K (qv 3)))))))
  oV))
  (zf (oW K nd (λE xe pn xo=>(zg (zB (cw (pl:=_) K hT_Net_endsX_2 hr xo (qv 0) (qa1 (qv 1)) aF))))
  (lG 3 c_NoName (λa=>(zg (zB (aK K Lm L8 L9 zR (qv 2) (qa1 (lE K (qv 3)))))))
  oV))
  (nY 2 (zg (ao (qv 2))))))),λ_=>by infer_instance⟩
theorem Ir(F:Fun K "check_new" "Net.check_new" lY f fd)(B:Blt mg)(h_check_name:yN P w K mg base):aa P w K mg base CX0 4 f fd ["self","name"] (lift K jQ) :=
 F.okB xH lZ rfl λ_ _ _ _ _ _ hr=>have nd:=lZ.nd;⟨_,(zf (zB (zE h_check_name hr (qa1 (qv 1))))
  (zg (zX (zF (k8 (bI hr)) (qv 1) (aN K (qv 0)) (by with_unfolding_all rfl))
  (zg dU)
  zH))),λ_=>by infer_instance⟩
theorem Is(F:Fun K "check_new" "Net.check_new" lY f fd)(B:Blt mg)(hK_check_nameX_1:yO P w K mg base)(n_Taken:dD P w K mg "Taken" "name" jG)[fk K "Taken"]:aa P w K mg base (CX1 P w) 4 f fd ["self","name"] (aM K zV) :=
 F.okX xI lZ rfl λ_ _ _ _ _ _ hr=>have nd:=lZ.nd;⟨_,(zf (zB (jx hK_check_nameX_1 hr cQ (qa1 (qv 1)) aF))
  (zg (zX (zF (k8 (bI hr)) (qv 1) (aN K (qv 0)) (by with_unfolding_all rfl))
  (zg (jA K c_ n_Taken hr (qv 1)))
  zH))),λ_ _ _=>by infer_instance⟩
theorem Iu(F:Fun K "_law_way" "_law_way" pH f fd)(B:Blt mg)(h_law_draw:fX P w K mg base)(h_law_pick:qo P w K mg base)(h_law_hop:yP P w K mg base):aa P w K mg base CX0 4 f fd ["_law_s","_law_names","_law_lines","_law_gates","_law_first","_law_the_last","_law_barred"] (lift K jR) :=
 F.okB xJ wg rfl λ_ _ _ _ _ _ hr=>have nd:=wg.nd;⟨_,(zf (eW ["_law_gate"] ["_law_barred"] [6] (i:=7) nd rfl rfl (.of rfl (by decide+kernel) rfl) rfl rfl (by decide+kernel) (a_ K (qv 3)) (λ_ _ _ _=>(bJ (i:=0) (show ME (["_law_gate","_law_barred"]:List Str) by decide+kernel) rfl (Ng rfl))) (λ_ _ _ _=>(dX (zF (gx K hr) (qv 0) (qv 1) (by with_unfolding_all rfl)))) (λ_ _ _ _=>(qv 0)))
  (zf (fO (qS 8 nd (bz (qa1 (qv 4)))))
  (zf (b6 PassesOwn.never rfl (dW rfl B.range (qa1 (zu (n4 K) rfl B.min nJ (qa2 (zE h_law_draw hr (qa2 (qv 0) zq)) (zu (bj K) rfl B.len aG (qa1 (qv 7))))))) (qG 9 nd)
  (zf (qS 10 nd (zE h_law_pick hr (qa2 (qv 0) (qv 7))))
  (zf (eW ["_law_other"] ["_law_gate"] [10] (i:=7) nd rfl rfl (.of rfl (by decide+kernel) rfl) rfl rfl (by decide+kernel) (a_ K (qv 7)) (λ_ _ _ _=>(bJ (i:=0) (show ME (["_law_other","_law_gate"]:List Str) by decide+kernel) rfl (Ng rfl))) (λ_ _ _ _=>(dX (zF (eA K hr) (qv 0) (qv 1) (aD _)))) (λ_ _ _ _=>(qv 0)))
  (zf (zB (aK K Lm L8 L9 zR (qv 8) (qa1 (zE h_law_hop hr (zA (qv 0) (zA (qv 1) (zA (qv 2) (zA (qx K (qv 8) (iZ iM zq)) (qa2 (qv 10) (af (a9 K) (qv 6) (qv 8)))))))))))
  (zg (zB (aK K Lm L8 L9 zR (qv 8) (qa1 (qv 10)))))))))
  (zf (zB (aK K Lm L8 L9 zR (qv 8) (qa1 (zE h_law_hop hr (zA (qv 0) (zA (qv 1) (zA (qv 2) (zA (qx K (qv 8) (iZ iM zq)) (qa2 (qv 5) (af (a9 K) (qv 6) (qv 8)))))))))))
  (zf (zB (aK K Lm L8 L9 zR (qv 8) (qa1 (qv 5))))
  (zg (ao (bZ (eB K) rfl B.tuple dQ (qa1 (qv 8)))))))))),λ_=>by infer_instance⟩
theorem Iv(F:Fun K "_law_drop" "_law_drop" pP f fd)(B:Blt mg)(hT_Net_dropX_2:yQ P w K mg base){a_InUse:Addr}(c_InUse:mg "InUse"=some (.ref a_InUse))[ah K "InUse" a_InUse](c_NoName:mg "NoName"=some (.ref a_NoName))[ah K "NoName" a_NoName][gM K l_ ma a_InUse][gM K gP gQ a_NoName][ENm K gO]:aa P w K mg base CX0 4 f fd ["_law_net_here","_law_name_here"] (lift K eO) :=
 F.okB xK wF rfl λ_ _ _ _ _ _ hr=>have nd:=wF.nd;⟨_,(zf (oW K nd (λE xe pn xo=>(zg (zB (cw (pl:=_) K hT_Net_dropX_2 hr xo (qv 0) (qa1 (qv 1)) aF))))
  (lG 2 c_InUse (λa=>(zg (ao (cY (qa2 zO (lE K (qv 2)))))))
  (lG 2 c_NoName (λa=>(zg (ao (cY (qa2 zO (lE K (qv 2)))))))
  oV)))
  (zg (ao (cY (qa2 zO (qv 1)))))),λ_=>by infer_instance⟩
theorem Iw(F:Fun K "line" "Net.line" lS f fd)(B:Blt mg)(h_check_ends:yR P w K mg base)(h_check_number:yS P w K mg base)(hT_Net_check_new_2:qp P w K mg base)(hT_Net_check_nodes_2:yT P w K mg base)(c_MOST_LINES:mg "MOST_LINES"=some u_MOST_LINES)(c_MOST_LINES_r:RelV (.int 16) u_MOST_LINES)(c_MOST_WIRE:mg "MOST_WIRE"=some u_MOST_WIRE)(c_MOST_WIRE_r:RelV (.int 30) u_MOST_WIRE):aa P w K mg base CX0 5 f fd ["self","name","senders","ears","wire"] (lift K jS) :=
 F.okB xL lT rfl λ_ _ _ _ _ _ hr=>have nd:=lT.nd;⟨_,(zf (zB (cI (pl:=_) K hT_Net_check_new_2 hr (qv 0) (qa1 (qv 1)) aF))
  (zf (zX (zF iN (zu gI rfl B.len aG (qa1 (aN K (qv 0)))) (aR rfl c_MOST_LINES c_MOST_LINES_r) (aD _))
  (zg dU)
  zH)
  (zf (zB (zE h_check_ends hr (qa1 (qv 2))))
  (zf (zB (zE h_check_ends hr (qa1 (qv 3))))
  (zf (zB (cI (pl:=_) K hT_Net_check_nodes_2 hr (qv 0) (qa1 (qv 2)) aF))
  (zf (zB (cI (pl:=_) K hT_Net_check_nodes_2 hr (qv 0) (qa1 (qv 3)) aF))
  (zf (zB (zE h_check_number hr (zA (qv 4) (qa2 zq (aR rfl c_MOST_WIRE c_MOST_WIRE_r)))))
  (zf (ir (bI hr) (aN K (qv 0)) (qv 1) zO)
  (zg (ir (bI hr) (aN K (qv 0)) (qv 1) (cY (zA (bZ (eB K) rfl B.tuple dQ (qa1 (zu (gJ K) rfl B.sorted gl (qa1 (qv 2))))) (qa2 (bZ (eB K) rfl B.tuple dQ (qa1 (zu (gJ K) rfl B.sorted gl (qa1 (qv 3))))) (qv 4)))))))))))))),λ_=>by infer_instance⟩
theorem Ix(F:Fun K "line" "Net.line" lS f fd)(B:Blt mg)(hT_Net_check_newX_2:qr P w K mg base)(hK_check_endsX_1:yU P w K mg base)(hT_Net_check_nodesX_2:yV P w K mg base)(hK_check_numberX_3:yW P w K mg base)(c_MOST_LINES:mg "MOST_LINES"=some u_MOST_LINES)(c_MOST_LINES_r:RelV (.int 16) u_MOST_LINES)(c_MOST_WIRE:mg "MOST_WIRE"=some u_MOST_WIRE)(c_MOST_WIRE_r:RelV (.int 30) u_MOST_WIRE)(c_Full:mg "Full"=some (.ref a_Full))[ah K "Full" a_Full](x_Full:W.excIn K a_Full bmV newV=true):aa P w K mg base (CX1 P w) 5 f fd ["self","name","senders","ears","wire"] (aM K gT) :=
 F.okX xM lT rfl λ_ _ _ _ _ _ hr=>have nd:=lT.nd;⟨_,(zf (zB (cw (pl:=_) K hT_Net_check_newX_2 hr cQ (qv 0) (qa1 (qv 1)) aF))
  (zf (zX (zF iN (zu gI rfl B.len aG (qa1 (aN K (qv 0)))) (aR rfl c_MOST_LINES c_MOST_LINES_r) (aD _))
  (zg (gL c_ c_Full x_Full (qa1 zO)))
  zH)
  (zf (zB (jx hK_check_endsX_1 hr cQ (qa1 (qv 2)) aF))
  (zf (zB (jx hK_check_endsX_1 hr cQ (qa1 (qv 3)) aF))
  (zf (zB (cw (pl:=_) K hT_Net_check_nodesX_2 hr cQ (qv 0) (qa1 (qv 2)) aF))
  (zf (zB (cw (pl:=_) K hT_Net_check_nodesX_2 hr cQ (qv 0) (qa1 (qv 3)) aF))
  (zf (zB (jx hK_check_numberX_3 hr cQ (zA (qv 4) (qa2 zq (aR rfl c_MOST_WIRE c_MOST_WIRE_r))) aF))
  (zf (ir (bI hr) (aN K (qv 0)) (qv 1) zO)
  (zg (ir (bI hr) (aN K (qv 0)) (qv 1) (cY (zA (bZ (eB K) rfl B.tuple dQ (qa1 (zu (gJ K) rfl B.sorted gl (qa1 (qv 2))))) (qa2 (bZ (eB K) rfl B.tuple dQ (qa1 (zu (gJ K) rfl B.sorted gl (qa1 (qv 3))))) (qv 4)))))))))))))),λ_ _ _=>by infer_instance⟩
theorem Iy(F:Fun K "put_node" "Net.put_node" lW f fd)(B:Blt mg)(hT_Net_check_new_2:qp P w K mg base)(c_MOST_NODES:mg "MOST_NODES"=some u_MOST_NODES)(c_MOST_NODES_r:RelV (.int 16) u_MOST_NODES):aa P w K mg base CX0 5 f fd ["self","name","kind"] (lift K jT) :=
 F.okB xN lX rfl λ_ _ _ _ _ _ hr=>have nd:=lX.nd;⟨_,(zf (zB (cI (pl:=_) K hT_Net_check_new_2 hr (qv 0) (qa1 (qv 1)) aF))
  (zf (zX (zF iN (af eU (zu gI rfl B.len aG (qa1 (aN K (qv 0)))) (zu gI rfl B.len aG (qa1 (aN K (qv 0))))) (aR rfl c_MOST_NODES c_MOST_NODES_r) (aD _))
  (zg dU)
  zH)
  (zg (ir (bI hr) (aN K (qv 0)) (qv 1) (qv 2))))),λ_=>by infer_instance⟩
theorem Iz(F:Fun K "put_node" "Net.put_node" lW f fd)(B:Blt mg)(hT_Net_check_newX_2:qr P w K mg base)(c_MOST_NODES:mg "MOST_NODES"=some u_MOST_NODES)(c_MOST_NODES_r:RelV (.int 16) u_MOST_NODES)(c_Full:mg "Full"=some (.ref a_Full))[ah K "Full" a_Full](x_Full:W.excIn K a_Full bmV newV=true):aa P w K mg base (CX1 P w) 5 f fd ["self","name","kind"] (aM K gU) :=
 F.okX xO lX rfl λ_ _ _ _ _ _ hr=>have nd:=lX.nd;⟨_,(zf (zB (cw (pl:=_) K hT_Net_check_newX_2 hr cQ (qv 0) (qa1 (qv 1)) aF))
  (zf (zX (zF iN (af eU (zu gI rfl B.len aG (qa1 (aN K (qv 0)))) (zu gI rfl B.len aG (qa1 (aN K (qv 0))))) (aR rfl c_MOST_NODES c_MOST_NODES_r) (aD _))
  (zg (gL c_ c_Full x_Full (qa1 zO)))
  zH)
  (zg (ir (bI hr) (aN K (qv 0)) (qv 1) (qv 2))))),λ_ _ _=>by infer_instance⟩
theorem IA(F:Fun K "_law_row" "_law_row" pJ f fd)(B:Blt mg)(h_law_draw:fX P w K mg base)(h_law_need:yX P w K mg base)(h_law_name:iL P w K mg base)(h_law_way:yY P w K mg base):aa P w K mg base CX0 5 f fd ["_law_s","_law_names","_law_lines","_law_houses","_law_gates","_law_the_slack"] (lift K mr) :=
 F.okB xP wp rfl λ_ _ _ _ _ _ hr=>have nd:=wp.nd;⟨_,(zf (qS 6 nd (zE h_law_draw hr (qa2 (qv 0) (zu (bj K) rfl B.len aG (qa1 (qv 3))))))
  (zf (qS 7 nd (qx K (qv 3) (qv 6)))
  (zf (qS 8 nd (qx K (qv 3) (af dM (af (a9 K) (af (a9 K) (qv 6) zq) (zE h_law_draw hr (qa2 (qv 0) (af eU (zu (bj K) rfl B.len aG (qa1 (qv 3))) zq)))) (zu (bj K) rfl B.len aG (qa1 (qv 3))))))
  (zf (fO (qS 9 nd (bz (qa1 (zE h_law_way hr (zA (qv 0) (zA (qv 1) (zA (qv 2) (zA (qv 4) (zA (qv 7) (qa2 (qv 8) (bz cE))))))))))))
  (zf (zX (zF (du K hr) (zE h_law_draw hr (qa2 (qv 0) zq)) zq (aD _))
  (zg (zB (aK K Lm L8 L9 zR (qv 9) (qa1 (zE h_law_way hr (zA (qv 0) (zA (qv 1) (zA (qv 2) (zA (qv 4) (zA (qv 7) (qa2 (qv 8) (bZ (DW K) rfl B.list r_ (qa1 (hW (kI K) (qx K (qv 9) zq) (gn zq) (gn (iZ iM zq))))))))))))))))
  zH)
  (zf (qS 10 nd (qx K (bz (sj [12,8,20,24,10,30,15,40,60,12,120] rfl)) (zE h_law_draw hr (qa2 (qv 0) zq))))
  (zf (qS 11 nd (af (a9 K) zq (zE h_law_draw hr (qa2 (qv 0) (zu (n4 K) rfl B.min nJ (qa2 zq (af eU (qv 10) (qv 5))))))))
  (zf (qS 12 nd (cY (zA (zE h_law_name hr (qa2 (qv 0) (qv 1))) (zA (bZ (eB K) rfl B.tuple dQ (qa1 (qv 9))) (zA (qv 10) (zA (qv 11) (qa2 (zE h_law_draw hr (qa2 (qv 0) (qv 10))) zq)))))))
  (zf (qS 13 nd (qx K (bz (zA zq (zA zq (zA zq (zA (af ki (qv 10) zq) (zA zq (qa2 (af eU (qv 10) zq) zq))))))) (zE h_law_draw hr (qa2 (qv 0) zq))))
  (zg (ao (af (a9 K) (hW (kI K) (qv 12) i0 (gn zq)) (cY (qa1 (af (a9 K) (zE h_law_need hr (zA (qv 12) (qa2 (qv 2) (qv 5)))) (qv 13)))))))))))))))),λ_=>by infer_instance⟩
theorem IB(F:Fun K "house" "Net.house" lO f fd)(B:Blt mg)(hT_Net_put_node_3:qu P w K mg base):aa P w K mg base CX0 6 f fd ["self","name"] (lift K mw) :=
 F.okB xQ lP rfl λ_ _ _ _ _ _ hr=>have nd:=lP.nd;⟨_,(zg (zB (cI (pl:=_) K hT_Net_put_node_3 hr (qv 0) (qa2 (qv 1) zO) aF))),λ_=>by infer_instance⟩
theorem IC(F:Fun K "house" "Net.house" lO f fd)(B:Blt mg)(hT_Net_put_nodeX_3:qz P w K mg base):aa P w K mg base (CX1 P w) 6 f fd ["self","name"] (aM K fV) :=
 F.okX xR lP rfl λ_ _ _ _ _ _ hr=>have nd:=lP.nd;⟨_,(zg (zB (cw (pl:=_) K hT_Net_put_nodeX_3 hr cQ (qv 0) (qa2 (qv 1) zO) aF))),λ_ _ _=>by infer_instance⟩
theorem ID(F:Fun K "gate" "Net.gate" lQ f fd)(B:Blt mg)(hT_Net_put_node_3:qu P w K mg base):aa P w K mg base CX0 6 f fd ["self","name"] (lift K mx) :=
 F.okB xS lR rfl λ_ _ _ _ _ _ hr=>have nd:=lR.nd;⟨_,(zg (zB (cI (pl:=_) K hT_Net_put_node_3 hr (qv 0) (qa2 (qv 1) zO) aF))),λ_=>by infer_instance⟩
theorem IE(F:Fun K "gate" "Net.gate" lQ f fd)(B:Blt mg)(hT_Net_put_nodeX_3:qz P w K mg base):aa P w K mg base (CX1 P w) 6 f fd ["self","name"] (aM K jU) :=
 F.okX xT lR rfl λ_ _ _ _ _ _ hr=>have nd:=lR.nd;⟨_,(zg (zB (cw (pl:=_) K hT_Net_put_nodeX_3 hr cQ (qv 0) (qa2 (qv 1) zO) aF))),λ_ _ _=>by infer_instance⟩
theorem IF(F:Fun K "_law_world" "_law_world" pK f fd)(B:Blt mg)(h_law_draw:fX P w K mg base)(h_law_name:iL P w K mg base)(h_law_row:yZ P w K mg base):aa P w K mg base CX0 6 f fd ["_law_s","_law_the_most"] (lift K my) :=
 F.okB xU wt rfl λ_ _ _ _ _ _ hr=>have nd:=wt.nd;⟨_,(zf (fO (qS 2 nd (bz cE)))
  (zf (qS 3 nd (fC ["_law_k"] ["_law_names","_law_s"] [2,0] (.of rfl (by decide+kernel) rfl) rfl rfl (by decide+kernel) (dW rfl B.range (qa1 (af (a9 K) zq (zE h_law_draw hr (qa2 (qv 0) zq))))) (λ_ _ _ _=>(bJ (i:=0) (show ME (["_law_k","_law_names","_law_s"]:List Str) by decide+kernel) rfl (Ng rfl))) (λ_ _ _ _=>gq) (λ_ _ _ _=>(zE h_law_name hr (qa2 (qv 2) (qv 1))))))
  (zf (qS 4 nd (fC ["_law_k"] ["_law_names","_law_s"] [2,0] (.of rfl (by decide+kernel) rfl) rfl rfl (by decide+kernel) (dW rfl B.range (qa1 (zE h_law_draw hr (qa2 (qv 0) zq)))) (λ_ _ _ _=>(bJ (i:=0) (show ME (["_law_k","_law_names","_law_s"]:List Str) by decide+kernel) rfl (Ng rfl))) (λ_ _ _ _=>gq) (λ_ _ _ _=>(zE h_law_name hr (qa2 (qv 2) (qv 1))))))
  (zf (qS 5 nd (qx K (bz (sj [0,1,2,0,3,1,5,7] rfl)) (zE h_law_draw hr (qa2 (qv 0) zq))))
  (zf (fO (qS 6 nd (bz cE)))
  (zf (eW ["_law_k"] ["_law_gates","_law_houses","_law_lines","_law_names","_law_s","_law_the_slack"] [4,3,6,2,0,5] (i:=7) nd rfl rfl (.of rfl (by decide+kernel) rfl) rfl rfl (by decide+kernel) (dW rfl B.range (qa1 (af (a9 K) zq (zE h_law_draw hr (qa2 (qv 0) (qv 1)))))) (λ_ _ _ _=>(bJ (i:=0) (show ME (["_law_k","_law_gates","_law_houses","_law_lines","_law_names","_law_s","_law_the_slack"]:List Str) by decide+kernel) rfl (Ng rfl))) (λ_ _ _ _=>gq) (λ_ _ _ _=>(zE h_law_row hr (zA (qv 5) (zA (qv 4) (zA (qv 3) (zA (qv 2) (qa2 (qv 1) (qv 6)))))))))
  (zg (ao (cY (zA (qv 3) (zA (qv 4) (zA (qv 6) (zA (qv 7) (qa2 (qv 5) (qv 2))))))))))))))),λ_=>by infer_instance⟩
theorem IG(F:Fun K "_law_net" "_law_net" pL f fd)(B:Blt mg)(hM_NetD_initD_1:y0 P w K mg base)(hT_Net_house_2:y2 P w K mg base)(hT_Net_gate_2:y4 P w K mg base)(hT_Net_line_4_wire:qA P w K mg base):aa P w K mg base CX0 7 f fd ["_law_world_here"] (lift K mz) :=
 F.okB xV ww rfl λ_ _ _ _ _ _ hr=>have nd:=ww.nd;⟨_,(zf (qS 1 nd (EK K hM_NetD_initD_1 hr))
  (zf (b6 PassesOwn.never rfl (a_ K (qx K (qv 0) zq)) (qG 2 nd)
  (zg (zB (cI (pl:=_) K hT_Net_house_2 hr (qv 1) (qa1 (qv 2)) aF))))
  (zf (b6 PassesOwn.never rfl (a_ K (qx K (qv 0) zq)) (qG 2 nd)
  (zg (zB (cI (pl:=_) K hT_Net_gate_2 hr (qv 1) (qa1 (qv 2)) aF))))
  (zf (b6 PassesOwn.never rfl (a_ K (qx K (qv 0) zq)) (FB (n:=4) (K:=K) rfl (gp (qG 2 nd) (gp (qG 3 nd) (gp (qG 4 nd) (gp (qG 5 nd) su)))))
  (zg (zB (cI (pl:=_) K hT_Net_line_4_wire hr (qv 1) (zA (qv 2) (qa2 (bZ (eB K) rfl B.tuple dQ (qa1 (qv 3))) (bZ (eB K) rfl B.tuple dQ (qa1 (qv 4))))) (sr (qv 5) aF)))))
  (zg (ao (qv 1))))))),λ_=>by infer_instance⟩
theorem IH(F:Fun K "_law_fill" "_law_fill" pR f fd)(B:Blt mg)(u_law_kind:qB P w K mg base)(h_law_name:iL P w K mg base)(hT_Net_houseX_2:qC P w K mg base)(hT_Net_gateX_2:y8 P w K mg base){a_NetError:Addr}(c_NetError:mg "NetError"=some (.ref a_NetError))[ah K "NetError" a_NetError][jz K al a_NetError]:aa P w K mg base CX0 7 f fd ["_law_net_here","_law_names","_law_s","_law_many"] (lift K mB) :=
 F.okB xW wJ rfl λ_ _ _ _ _ _ hr=>have nd:=wJ.nd;⟨_,(zf (qS 4 nd zO)
  (zf (b6 PassesOwn.never rfl (dW rfl B.range (qa1 (qv 3))) (qG 5 nd)
  (zg (vg (i:=6) K nd c_NetError (λE xe pn xo=>(zg (zX (zF (du K hr) (af dM (qv 5) zq) zq (aD _))
  (zg (zB (cw (pl:=_) K hT_Net_houseX_2 hr xo (qv 0) (qa1 (zE h_law_name hr (qa2 (qv 2) (qv 1)))) aF)))
  (zg (zB (cw (pl:=_) K hT_Net_gateX_2 hr xo (qv 0) (qa1 (zE h_law_name hr (qa2 (qv 2) (qv 1)))) aF))))))
  (λa=>(zg (qS 4 nd (af (a9 K) (af (a9 K) (af (a9 K) (qv 4) zO) (bZ (uR) rfl B.str sd (qa1 (qv 5)))) (ly u_law_kind (hr.hand _) (qa1 (qv 6))))))))))
  (zg (ao (qv 4))))),λ_=>by infer_instance⟩
theorem II(F:Fun K "_law_filled" "_law_filled" pS f fd)(B:Blt mg)(u_law_kind:qB P w K mg base)(h_law_name:iL P w K mg base)(h_law_fill:y_ P w K mg base)(hT_Net_names_1:qD P w K mg base)(hT_Net_kind_2:qE P w K mg base)(hT_Net_line_4_wire:qA P w K mg base)(hT_Net_lineX_4:zd P w K mg base)(hT_Net_houseX_2:qC P w K mg base)(hL_Net:ou P w K mg base CX0 "Net" 1 ["self"] (lift K jI)){a_NetError:Addr}(c_NetError:mg "NetError"=some (.ref a_NetError))[ah K "NetError" a_NetError][jz K al a_NetError]:aa P w K mg base CX0 8 f fd ["_law_s","_law_world_here","_law_net_here"] (lift K mC) :=
 F.okB xX wL rfl λ_ _ _ _ _ _ hr=>have nd:=wL.nd;⟨_,(zf (eW ["_law_name_here"] ["_law_net_here"] [2] (i:=3) nd rfl rfl (.of rfl (by decide+kernel) rfl) rfl rfl (by decide+kernel) (a_ K (gC (pl:=_) K hT_Net_names_1 hr (qv 2))) (λ_ _ _ _=>(bJ (i:=0) (show ME (["_law_name_here","_law_net_here"]:List Str) by decide+kernel) rfl (Ng rfl))) (λ_ _ _ _=>(dX (zF (eA K hr) (cI (pl:=_) K hT_Net_kind_2 hr (qv 1) (qa1 (qv 0)) aF) zO (aD _)))) (λ_ _ _ _=>(qv 0)))
  (zf (eW ["_law_name_here"] ["_law_net_here"] [2] (i:=4) nd rfl rfl (.of rfl (by decide+kernel) rfl) rfl rfl (by decide+kernel) (a_ K (gC (pl:=_) K hT_Net_names_1 hr (qv 2))) (λ_ _ _ _=>(bJ (i:=0) (show ME (["_law_name_here","_law_net_here"]:List Str) by decide+kernel) rfl (Ng rfl))) (λ_ _ _ _=>(dX (zF (du K hr) (cI (pl:=_) K hT_Net_kind_2 hr (qv 1) (qa1 (qv 0)) aF) zO (aD _)))) (λ_ _ _ _=>(qv 0)))
  (zf (qS 5 nd (zE h_law_fill hr (zA (qv 2) (zA (qx K (qv 1) zq) (qa2 (qv 0) (af eU zq (zu (bj K) rfl B.len aG (qa1 (qv 3)))))))))
  (zf (zX (zF (eA K hr) (qv 5) (af (a9 K) (af (a9 K) zO (bZ (uR) rfl B.str sd (qa1 (af eU zq (zu (bj K) rfl B.len aG (qa1 (qv 3))))))) zO) (aD _))
  (zg (ao gm))
  zH)
  (zf (qS 6 nd (bZ (eB K) rfl B.tuple dQ (qa1 (hW (kI K) (fC ["_law_name_here"] ["_law_net_here"] [2] (.of rfl (by decide+kernel) rfl) rfl rfl (by decide+kernel) (a_ K (gC (pl:=_) K hT_Net_names_1 hr (qv 2))) (λ_ _ _ _=>(bJ (i:=0) (show ME (["_law_name_here","_law_net_here"]:List Str) by decide+kernel) rfl (Ng rfl))) (λ_ _ _ _=>(dX (zF (eA K hr) (cI (pl:=_) K hT_Net_kind_2 hr (qv 1) (qa1 (qv 0)) aF) zO (aD _)))) (λ_ _ _ _=>(qv 0))) i0 (gn zq)))))
  (zf (b6 PassesOwn.never rfl (dW rfl B.range (qa1 (af eU zq (zu (bj K) rfl B.len aG (qa1 (qv 4)))))) (qG 7 nd)
  (zg (zB (cI (pl:=_) K hT_Net_line_4_wire hr (qv 2) (zA (zE h_law_name hr (qa2 (qv 0) (qx K (qv 1) zq))) (qa2 (qv 6) (hW (Gz K) (qv 6) i0 (gn (af (a9 K) zq (af dM (qv 7) zq)))))) (sr (af dM (qv 7) zq) aF)))))
  (zf (fO (qS 5 nd (bz cE)))
  (zf (b6 PassesOwn.never rfl (a_ K (bz (zA (zE h_law_name hr (qa2 (qv 0) (qx K (qv 1) zq))) (zA zO (qa2 (qx K (qv 6) zq) zO))))) (qG 8 nd)
  (zg (b6 PassesOwn.never rfl (a_ K (bz (qa2 gm gm))) (qG 9 nd)
  (zg (vg (i:=10) K nd c_NetError (λE xe pn xo=>(zg (zX (aZ (qv 9))
  (zg (zB (cw (pl:=_) K hT_Net_lineX_4 hr xo (qv 2) (zA (qv 8) (qa2 (cY cE) (qv 6))) aF)))
  (zg (zB (cw (pl:=_) K hT_Net_houseX_2 hr xo (qv 2) (qa1 (qv 8)) aF))))))
  (λa=>(zg (zB (aK K Lm L8 L9 zR (qv 5) (qa1 (ly u_law_kind (hr.hand _) (qa1 (qv 10)))))))))))))
  (zf (qS 11 nd (bz (zA zO (zA zO (zA zO (zA zO (zA zO (zA zO (qa2 zO zO)))))))))
  (zg (ao (nO (nM (du K hr) (qv 5) (qv 11) (aD _)) (nN (nM (du K hr) (zu (Fy K hL_Net hr) rfl B.len aG (qa1 (qv 2))) zq (aD _))))))))))))))),λ_=>by infer_instance⟩
def IJ:DSp:=aB pY pU 1
theorem IK(F:Fun K "law" "law" pT f fd)(B:Blt mg)(h_law_start:ze P w K mg base)(h_law_draw:fX P w K mg base)(h_law_gone:zh P w K mg base)(h_law_drop:zi P w K mg base)(h_law_world:zk P w K mg base)(h_law_net:zn P w K mg base)(h_law_filled:zo P w K mg base)(hT_Net_names_1:qD P w K mg base)(hT_Net_kind_2:qE P w K mg base):aa P w K mg base CX0 9 f fd ["_law_script"] (lift K IJ) :=
 F.okB pY wM rfl λ_ _ _ _ _ _ hr=>have nd:=wM.nd;⟨_,(zf (qS 1 nd (zE h_law_start hr (qa1 (qv 0))))
  (zf (qS 2 nd (zE h_law_world hr (qa2 (qv 1) zq)))
  (zf (qS 3 nd (zE h_law_net hr (qa1 (qv 2))))
  (zf (qS 4 nd (zu (FS K) rfl B.sorted gl (qa1 (fC ["_law_line"] [] [] (.of rfl (by decide+kernel) rfl) rfl rfl (by decide+kernel) (a_ K (qx K (qv 2) zq)) (λ_ _ _ _=>(bJ (i:=0) (show ME (["_law_line"]:List Str) by decide+kernel) rfl (Ng rfl))) (λ_ _ _ _=>gq) (λ_ _ _ _=>(bZ (eB K) rfl B.tuple dQ (qa1 (qv 0))))))))
  (zf (qS 5 nd (zE h_law_draw hr (qa2 (qv 1) zq)))
  (zf (qS 6 nd (gC (pl:=_) K hT_Net_names_1 hr (qv 3)))
  (zf (b6 PassesOwn.never rfl (dW rfl B.range (qa1 (zu (bj K) rfl B.len aG (qa1 (qv 6))))) (qG 7 nd)
  (zf (qS 8 nd (qx K (qv 6) (af dM (af (a9 K) (af uq (qv 7) zq) (qv 5)) (zu (bj K) rfl B.len aG (qa1 (qv 6))))))
  (zf (eW ["_law_line"] ["_law_name_here"] [8] (i:=9) nd rfl rfl (.of rfl (by decide+kernel) rfl) rfl rfl (by decide+kernel) (a_ K (qv 4)) (λ_ _ _ _=>(bJ (i:=0) (show ME (["_law_line","_law_name_here"]:List Str) by decide+kernel) rfl (Ng rfl))) (λ_ _ _ _=>(dX (WW.qt (dS (zF (fP K hr) (qv 1) (qx K (qv 0) zq) (by with_unfolding_all rfl)) (dR (zF (fP K hr) (qv 1) (qx K (qv 0) zq) (by with_unfolding_all rfl))))))) (λ_ _ _ _=>(qx K (qv 0) zq)))
  (zf (qS 10 nd (zE h_law_drop hr (qa2 (qv 3) (qv 8))))
  (zf (zX (zF AS (zu (bj K) rfl B.len aG (qa1 (qv 9))) zq (aD _))
  (zg (zX (WW.qt (dS (zF (eA K hr) (qv 10) (cY (qa2 zO (qx K (qv 9) zq))) (aD _)) (dR (zF (gx K hr) (qv 8) (gC (pl:=_) K hT_Net_names_1 hr (qv 3)) (by with_unfolding_all rfl)))))
  (zg (ao gm))
  zH))
  (zg (zX (WW.qt (dS (WW.qt (kt (zF (eA K hr) (qv 10) (cY (qa2 zO (qv 8))) (aD _)) (kq (zF (fP K hr) (qv 8) (gC (pl:=_) K hT_Net_names_1 hr (qv 3)) (by with_unfolding_all rfl))))) (dR (zF (eA K hr) (zE h_law_drop hr (qa2 (qv 3) (qv 8))) (cY (qa2 zO (qv 8))) (aD _)))))
  (zg (ao gm))
  zH)))
  (zf (zX (zF (eA K hr) (zE h_law_gone hr (qa2 (qv 3) (qv 8))) (hW (kI K) (bz (qa2 (qv 8) (qv 8))) i0 (gn (af eU zq (zu (n4 K) rfl B.min nJ (qa2 zq (zu (bj K) rfl B.len aG (qa1 (qv 9)))))))) (aD _))
  (zg (ao gm))
  zH)
  (zg (eW ["_law_line"] ["_law_name_here"] [8] (i:=4) nd rfl rfl (.of rfl (by decide+kernel) rfl) rfl rfl (by decide+kernel) (a_ K (qv 4)) (λ_ _ _ _=>(bJ (i:=0) (show ME (["_law_line","_law_name_here"]:List Str) by decide+kernel) rfl (Ng rfl))) (λ_ _ _ _=>(dX (zF (eA K hr) (qx K (qv 0) zq) (qv 1) (aD _)))) (λ_ _ _ _=>(qv 0))))))))))
  (zf (zX (zF (eA K hr) (fC ["_law_name_here"] ["_law_net_here"] [3] (.of rfl (by decide+kernel) rfl) rfl rfl (by decide+kernel) (a_ K (gC (pl:=_) K hT_Net_names_1 hr (qv 3))) (λ_ _ _ _=>(bJ (i:=0) (show ME (["_law_name_here","_law_net_here"]:List Str) by decide+kernel) rfl (Ng rfl))) (λ_ _ _ _=>(dX (zF (du K hr) (cI (pl:=_) K hT_Net_kind_2 hr (qv 1) (qa1 (qv 0)) aF) zO (aD _)))) (λ_ _ _ _=>(qv 0))) (fC ["_law_line"] [] [] (.of rfl (by decide+kernel) rfl) rfl rfl (by decide+kernel) (a_ K (qv 4)) (λ_ _ _ _=>(bJ (i:=0) (show ME (["_law_line"]:List Str) by decide+kernel) rfl (Ng rfl))) (λ_ _ _ _=>gq) (λ_ _ _ _=>(qx K (qv 0) zq))) (aD _))
  (zg (ao gm))
  zH)
  (zg (ao (zE h_law_filled hr (zA (qv 1) (qa2 (qv 2) (qv 3)))))))))))))),λ_=>by infer_instance⟩
end
theorem IL{l:Pg}{h:Heap}{fa:Addr}(X:K.In h)(G:h.Ns mainGlobals mg)(hfa:mg "law"=some (.ref fa))
  {C_Net:Addr}(q_Net:oY K "Net" C_Net bV)
  {C_BadEnds:Addr}(a_BadEnds:nsIn K mainGlobals "BadEnds"=some (some (.ref C_BadEnds)))
  {C_BadLine:Addr}(a_BadLine:nsIn K mainGlobals "BadLine"=some (some (.ref C_BadLine)))
  {C_BadName:Addr}(a_BadName:nsIn K mainGlobals "BadName"=some (some (.ref C_BadName)))
  {C_BadNumber:Addr}(a_BadNumber:nsIn K mainGlobals "BadNumber"=some (some (.ref C_BadNumber)))
  {C_BadPage:Addr}(a_BadPage:nsIn K mainGlobals "BadPage"=some (some (.ref C_BadPage)))
  {C_BadWay:Addr}(a_BadWay:nsIn K mainGlobals "BadWay"=some (some (.ref C_BadWay)))
  {C_Full:Addr}(a_Full:nsIn K mainGlobals "Full"=some (some (.ref C_Full)))
  {C_Heavy:Addr}(a_Heavy:nsIn K mainGlobals "Heavy"=some (some (.ref C_Heavy)))
  {C_InUse:Addr}(a_InUse:nsIn K mainGlobals "InUse"=some (some (.ref C_InUse)))
  {C_Late:Addr}(a_Late:nsIn K mainGlobals "Late"=some (some (.ref C_Late)))
  {C_NetError:Addr}(a_NetError:nsIn K mainGlobals "NetError"=some (some (.ref C_NetError)))
  {C_NoName:Addr}(a_NoName:nsIn K mainGlobals "NoName"=some (some (.ref C_NoName)))
  {C_NoPlan:Addr}(a_NoPlan:nsIn K mainGlobals "NoPlan"=some (some (.ref C_NoPlan)))
  {C_NoRoom:Addr}(a_NoRoom:nsIn K mainGlobals "NoRoom"=some (some (.ref C_NoRoom)))
  {C_NoStep:Addr}(a_NoStep:nsIn K mainGlobals "NoStep"=some (some (.ref C_NoStep)))
  {C_Taken:Addr}(a_Taken:nsIn K mainGlobals "Taken"=some (some (.ref C_Taken)))
  {C_Tight:Addr}(a_Tight:nsIn K mainGlobals "Tight"=some (some (.ref C_Tight)))
  {C_TooFew:Addr}(a_TooFew:nsIn K mainGlobals "TooFew"=some (some (.ref C_TooFew)))
  (n_InUse:dD l.prog w K mg "InUse" "name" jF)
  (en_InUse:iE K C_InUse=true)
  (n_NoName:dD l.prog w K mg "NoName" "name" fq)
  (en_NoName:iE K C_NoName=true)
  (n_Taken:dD l.prog w K mg "Taken" "name" jG)
  (en_Taken:iE K C_Taken=true)
  (et0:lz K al jD aU jE=true)
  (hm0:vD K GE=true)
  {f0:Addr}{d0:FuncData}(p0:aT K "is_made_of" oZ f0 d0)
  {f1:Addr}{d1:FuncData}(p1:aT K "is_name" o6 f1 d1)
  {f2:Addr}{d2:FuncData}(p2:aT K "check_name" lI f2 d2)
  {f3:Addr}{d3:FuncData}(p3:aT K "is_number" o8 f3 d3)
  {f4:Addr}{d4:FuncData}(p4:aT K "check_whole" lK f4 d4)
  {f5:Addr}{d5:FuncData}(p5:aT K "check_number" lM f5 d5)
  {f6:Addr}{d6:FuncData}(p6:bU K C_Net "__init__" "Net.__init__" pc f6 d6)
  {f7:Addr}{d7:FuncData}(p7:bU K C_Net "house" "Net.house" lO f7 d7)
  {f8:Addr}{d8:FuncData}(p8:bU K C_Net "gate" "Net.gate" lQ f8 d8)
  {f9:Addr}{d9:FuncData}(p9:bU K C_Net "line" "Net.line" lS f9 d9)
  {f10:Addr}{d10:FuncData}(p10:bU K C_Net "drop" "Net.drop" pj f10 d10)
  {f11:Addr}{d11:FuncData}(p11:bU K C_Net "names" "Net.names" pk f11 d11)
  {f12:Addr}{d12:FuncData}(p12:bU K C_Net "kind" "Net.kind" lU f12 d12)
  {f13:Addr}{d13:FuncData}(p13:bU K C_Net "ends" "Net.ends" pq f13 d13)
  {f14:Addr}{d14:FuncData}(p14:bU K C_Net "__len__" "Net.__len__" pr f14 d14)
  (e14:d14.defaults= .none)
  {f15:Addr}{d15:FuncData}(p15:bU K C_Net "put_node" "Net.put_node" lW f15 d15)
  {f16:Addr}{d16:FuncData}(p16:bU K C_Net "check_new" "Net.check_new" lY f16 d16)
  {f17:Addr}{d17:FuncData}(p17:bU K C_Net "check_nodes" "Net.check_nodes" l0 f17 d17)
  {f18:Addr}{d18:FuncData}(p18:bU K C_Net "check_unused" "Net.check_unused" pz f18 d18)
  {f19:Addr}{d19:FuncData}(p19:aT K "check_ends" l6 f19 d19)
  {f20:Addr}{d20:FuncData}(p20:aT K "_law_start" pB f20 d20)
  {f21:Addr}{d21:FuncData}(p21:aT K "_law_draw" pC f21 d21)
  {f22:Addr}{d22:FuncData}(p22:aT K "_law_pick" pE f22 d22)
  {f23:Addr}{d23:FuncData}(p23:aT K "_law_name" pF f23 d23)
  {f24:Addr}{d24:FuncData}(p24:aT K "_law_hop" pG f24 d24)
  {f25:Addr}{d25:FuncData}(p25:aT K "_law_way" pH f25 d25)
  {f26:Addr}{d26:FuncData}(p26:aT K "_law_need" pI f26 d26)
  {f27:Addr}{d27:FuncData}(p27:aT K "_law_row" pJ f27 d27)
  {f28:Addr}{d28:FuncData}(p28:aT K "_law_world" pK f28 d28)
  {f29:Addr}{d29:FuncData}(p29:aT K "_law_net" pL f29 d29)
  {f30:Addr}{d30:FuncData}(p30:aT K "_law_kinds_one" pM f30 d30)
  {f31:Addr}{d31:FuncData}(p31:aT K "_law_kinds_two" pN f31 d31)
  {f32:Addr}{d32:FuncData}(p32:aT K "_law_kind" pO f32 d32)
  {f33:Addr}{d33:FuncData}(p33:aT K "_law_drop" pP f33 d33)
  {f34:Addr}{d34:FuncData}(p34:aT K "_law_gone" pQ f34 d34)
  {f35:Addr}{d35:FuncData}(p35:aT K "_law_fill" pR f35 d35)
  {f36:Addr}{d36:FuncData}(p36:aT K "_law_filled" pS f36 d36)
  {f37:Addr}{d37:FuncData}(p37:aT K "law" pT f37 d37)
  (z_len:nsIn K mainGlobals "len"=some none)
  (z_abs:nsIn K mainGlobals "abs"=some none)
  (z_max:nsIn K mainGlobals "max"=some none)
  (z_min:nsIn K mainGlobals "min"=some none)
  (z_all:nsIn K mainGlobals "all"=some none)
  (z_any:nsIn K mainGlobals "any"=some none)
  (z_sum:nsIn K mainGlobals "sum"=some none)
  (z_sorted:nsIn K mainGlobals "sorted"=some none)
  (z_isinstance:nsIn K mainGlobals "isinstance"=some none)
  (z_list:nsIn K mainGlobals "list"=some none)
  (z_tuple:nsIn K mainGlobals "tuple"=some none)
  (z_int:nsIn K mainGlobals "int"=some none)
  (z_bool:nsIn K mainGlobals "bool"=some none)
  (z_str:nsIn K mainGlobals "str"=some none)
  (z_set:nsIn K mainGlobals "set"=some none)
  (z_dict:nsIn K mainGlobals "dict"=some none)
  (z_zip:nsIn K mainGlobals "zip"=some none)
  (z_range:nsIn K mainGlobals "range"=some none)
  (z_enumerate:nsIn K mainGlobals "enumerate"=some none)
  (z_reversed:nsIn K mainGlobals "reversed"=some none)
  (z_repr:nsIn K mainGlobals "repr"=some none)
  (z_ValueError:nsIn K mainGlobals "ValueError"=some none)
  (g_MOST_NODES:nsIn K mainGlobals "MOST_NODES"=some (some u_MOST_NODES))
  (v_MOST_NODES:gr u_MOST_NODES=some 16)
  {u_LETTERS:Value}(g_LETTERS:nsIn K mainGlobals "LETTERS"=some (some u_LETTERS))
  (v_LETTERS:oo u_LETTERS=some "abcdefghijklmnopqrstuvwxyz")
  {u_MOST_LETTERS:Value}(g_MOST_LETTERS:nsIn K mainGlobals "MOST_LETTERS"=some (some u_MOST_LETTERS))
  (v_MOST_LETTERS:gr u_MOST_LETTERS=some 8)
  (g_MOST_LINES:nsIn K mainGlobals "MOST_LINES"=some (some u_MOST_LINES))
  (v_MOST_LINES:gr u_MOST_LINES=some 16)
  (g_MOST_WIRE:nsIn K mainGlobals "MOST_WIRE"=some (some u_MOST_WIRE))
  (v_MOST_WIRE:gr u_MOST_WIRE=some 30)
  (g_MOST_ENDS:nsIn K mainGlobals "MOST_ENDS"=some (some u_MOST_ENDS))
  (v_MOST_ENDS : gr u_MOST_ENDS = some 6)
   (d_Net_names_1:aY K d11 ["self"] [] 1 0 [.p 0] [])
   (d_Net_kind_2:aY K d12 ["self","name"] [] 2 0 [.p 0,.p 1] [])
   (d_Net_line_4_wire:aY K d9 ["self","name","senders","ears","wire"] ["wire"] 4 1 [.p 0,.p 1,.p 2,.p 3,.k 0] [])
  {tk_Net_lineX_4_0 : Tok}(d_Net_lineX_4 : aY K d9 ["self", "name", "senders", "ears", "wire"] [] 4 0 [.p 0,.p 1,.p 2,.p 3,.c 0] [OC 1 tk_Net_lineX_4_0])
   (d_Net_houseX_2:aY K d7 ["self","name"] [] 2 0 [.p 0,.p 1] [])
   (d_Net_put_nodeX_3:aY K d15 ["self","name","kind"] [] 3 0 [.p 0,.p 1,.p 2] [])
   (d_Net_check_newX_2:aY K d16 ["self","name"] [] 2 0 [.p 0,.p 1] [])
   (d_check_nameX_1:aY K d2 ["text"] [] 1 0 [.p 0] [])
   (d_check_endsX_1:aY K d19 ["ends"] [] 1 0 [.p 0] [])
   (d_Net_check_nodesX_2:aY K d17 ["self","ends"] [] 2 0 [.p 0,.p 1] [])
   (d_check_numberX_3:aY K d5 ["number","least","most"] [] 3 0 [.p 0,.p 1,.p 2] [])
   (d_check_wholeX_1:aY K d4 ["thing"] [] 1 0 [.p 0] [])
   (d_Net_check_new_2:aY K d16 ["self","name"] [] 2 0 [.p 0,.p 1] [])
   (d_Net_check_nodes_2:aY K d17 ["self","ends"] [] 2 0 [.p 0,.p 1] [])
   (d_Net_gateX_2:aY K d8 ["self","name"] [] 2 0 [.p 0,.p 1] [])
   (d_Net_kindX_2:aY K d12 ["self","name"] [] 2 0 [.p 0,.p 1] [])
   (d_Net_endsX_2:aY K d13 ["self","name"] [] 2 0 [.p 0,.p 1] [])
   (d_Net_dropX_2:aY K d10 ["self","name"] [] 2 0 [.p 0,.p 1] [])
   (d_Net_check_unusedX_2:aY K d18 ["self","node"] [] 2 0 [.p 0,.p 1] [])
   (d_NetD_initD_1:aY K d6 ["self"] [] 1 0 [.p 0] [])
   (d_Net_house_2:aY K d7 ["self","name"] [] 2 0 [.p 0,.p 1] [])
   (d_Net_gate_2:aY K d8 ["self","name"] [] 2 0 [.p 0,.p 1] [])
   (d_Net_put_node_3:aY K d15 ["self","name","kind"] [] 3 0 [.p 0,.p 1,.p 2] [])
  : ∃fd:FuncData,(∀(s:Shared) (v:Value),BindsTo s fd ⟨[v],[]⟩ [("_law_script",v)])/\∀base:Heap,K.In base->base.Ns mainGlobals mg->aa l.prog w K mg base CX0 9 fa fd ["_law_script"] (kN K):=by
 have e:=hfa.symm.trans (mg_of X G p37.at_);cases e;have B:Blt mg:=⟨Md X G z_len,Md X G z_abs,Md X G z_max,Md X G z_min,Md X G z_all,Md X G z_any,Md X G z_sum,Md X G z_sorted,Md X G z_isinstance,Md X G z_list,Md X G z_tuple,Md X G z_int,Md X G z_bool,Md X G z_str,Md X G z_set,Md X G z_dict,Md X G z_zip,Md X G z_range,Md X G z_enumerate,Md X G z_reversed,Md X G z_repr⟩;haveI tk:TabOk K tab:=EQ (zU q_Net.at_) q_Net.cl q_Net.na (EO)
 haveI ic_Net:ah K "Net" C_Net:=⟨zU q_Net.at_,by decide+kernel⟩
 haveI ic_BadEnds:ah K "BadEnds" C_BadEnds:=⟨zU a_BadEnds,by decide+kernel⟩
 haveI ic_BadLine:ah K "BadLine" C_BadLine:=⟨zU a_BadLine,by decide+kernel⟩
 haveI ic_BadName:ah K "BadName" C_BadName:=⟨zU a_BadName,by decide+kernel⟩
 haveI ic_BadNumber:ah K "BadNumber" C_BadNumber:=⟨zU a_BadNumber,by decide+kernel⟩
 haveI ic_BadPage:ah K "BadPage" C_BadPage:=⟨zU a_BadPage,by decide+kernel⟩
 haveI ic_BadWay:ah K "BadWay" C_BadWay:=⟨zU a_BadWay,by decide+kernel⟩
 haveI ic_Full:ah K "Full" C_Full:=⟨zU a_Full,by decide+kernel⟩
 haveI ic_Heavy:ah K "Heavy" C_Heavy:=⟨zU a_Heavy,by decide+kernel⟩
 haveI ic_InUse:ah K "InUse" C_InUse:=⟨zU a_InUse,by decide+kernel⟩
 haveI ic_Late:ah K "Late" C_Late:=⟨zU a_Late,by decide+kernel⟩
 haveI ic_NetError:ah K "NetError" C_NetError:=⟨zU a_NetError,by decide+kernel⟩
 haveI ic_NoName:ah K "NoName" C_NoName:=⟨zU a_NoName,by decide+kernel⟩
 haveI ic_NoPlan:ah K "NoPlan" C_NoPlan:=⟨zU a_NoPlan,by decide+kernel⟩
 haveI ic_NoRoom:ah K "NoRoom" C_NoRoom:=⟨zU a_NoRoom,by decide+kernel⟩
 haveI ic_NoStep:ah K "NoStep" C_NoStep:=⟨zU a_NoStep,by decide+kernel⟩
 haveI ic_Taken:ah K "Taken" C_Taken:=⟨zU a_Taken,by decide+kernel⟩
 haveI ic_Tight:ah K "Tight" C_Tight:=⟨zU a_Tight,by decide+kernel⟩
 haveI ic_TooFew:ah K "TooFew" C_TooFew:=⟨zU a_TooFew,by decide+kernel⟩
 haveI et:cR K al jD aU jE:=⟨et0⟩
 haveI lb_InUse:fk K "InUse":=⟨⟨_,zU a_InUse⟩,by decide+kernel⟩
 haveI lb_NoName:fk K "NoName":=⟨⟨_,zU a_NoName⟩,by decide+kernel⟩
 haveI lb_Taken:fk K "Taken":=⟨⟨_,zU a_Taken⟩,by decide+kernel⟩
 haveI ens:ENm K gO:=(.cons (zU a_InUse) en_InUse (.cons (zU a_NoName) en_NoName (.cons (zU a_Taken) en_Taken .nil)))
 haveI hd_NetError:jz K al C_NetError:=et.hd ic_NetError (by decide)
 haveI hm_InUse:gM K l_ ma C_InUse:=vE hm0 ic_InUse (by decide)
 haveI hm_NoName:gM K gP gQ C_NoName:=vE hm0 ic_NoName (by decide)
 refine⟨d37,λs v=>by obtain⟨e,y⟩:=p37;obtain⟨_,_,kV,_,_,_,_,_,_,rfl,_,_⟩:=e.F.ex;have y1:kV.1= .none:=y;exact .of_eq (by rw[y1];rfl),λbase _ _=>?_⟩;have h_is_made_of:yG l.prog w K mg base:=p0.has p0.bd X G (HK p0.F B );have h_is_number:qk l.prog w K mg base:=p3.has p3.bd X G (HL p3.F B );have hM_NetD_initD_1:y0 l.prog w K mg base:=p6.hasM q_Net X G (HM p6.F B ) (kbk d_NetD_initD_1 .nil);have hT_Net_names_1:qD l.prog w K mg base:=p11.hasT q_Net (HN p11.F B ) (kbk d_Net_names_1 .nil);have hT_Net_kind_2:qE l.prog w K mg base:=p12.hasT q_Net (HP p12.F B ) (kbk d_Net_kind_2 .nil);have b14:=p14.F.binds (ps:=["self"]) (λ_ _ _ _ _ _=>al1 λ_=>rfl) e14;have hL_Net:ou l.prog w K mg base CX0 "Net" 1 ["self"] (lift K jI):=⟨C_Net,_,_,zU q_Net.at_,HQ p14.F B,b14,p14.at_,p14.fn⟩;have hT_Net_check_nodes_2:yT l.prog w K mg base:=p17.hasT q_Net (HR p17.F B ) (kbk d_Net_check_nodes_2 .nil);have h_check_ends:yR l.prog w K mg base:=p19.has p19.bd X G (HS p19.F B (mg_of X G g_MOST_ENDS) (eX v_MOST_ENDS));have hK_check_endsX_1:yU l.prog w K mg base:=p19.hasK X G (HU p19.F B (mg_of X G g_MOST_ENDS) (eX v_MOST_ENDS) (mg_of X G a_BadEnds) (et.exc inferInstance (c:="BadEnds") (by decide) (by decide))) (kbk d_check_endsX_1 .nil);have h_law_start:ze l.prog w K mg base:=p20.has p20.bd X G (GD p20.F B);have h_law_draw:fX l.prog w K mg base:=p21.has p21.bd X G (GC p21.F B);have h_law_need:yX l.prog w K mg base:=p26.has p26.bd X G (HV p26.F B );have u_law_kinds_one:yH l.prog w K mg base:=⟨_,_,HW p30.F B (mg_of X G a_BadName) (mg_of X G a_BadNumber) (mg_of X G a_BadWay) (mg_of X G a_BadEnds) (mg_of X G a_BadLine) (mg_of X G a_Taken) (mg_of X G a_NoName) (mg_of X G a_InUse) (mg_of X G a_Full) (Md X G z_ValueError),p30.bd,p30.F.kp,mg_of X G p30.at_⟩;have u_law_kinds_two:yI l.prog w K mg base:=⟨_,_,HX p31.F B (mg_of X G a_Tight) (mg_of X G a_Late) (mg_of X G a_Heavy) (mg_of X G a_NoPlan) (mg_of X G a_NoRoom) (mg_of X G a_NoStep) (mg_of X G a_TooFew) (mg_of X G a_BadPage) (Md X G z_ValueError),p31.bd,p31.F.kp,mg_of X G p31.at_⟩;have h_is_name:ql l.prog w K mg base:=p1.has p1.bd X G (HY p1.F B h_is_made_of (mg_of X G g_LETTERS) (Fs v_LETTERS) (mg_of X G g_MOST_LETTERS) (eX v_MOST_LETTERS));have h_check_whole:yJ l.prog w K mg base:=p4.has p4.bd X G (HZ p4.F B h_is_number);have hK_check_wholeX_1:yK l.prog w K mg base:=p4.hasK X G (H_ p4.F B h_is_number (mg_of X G a_BadNumber) (et.exc inferInstance (c:="BadNumber") (by decide) (by decide))) (kbk d_check_wholeX_1 .nil);have hT_Net_kindX_2:qm l.prog w K mg base:=p12.hasT q_Net (Ia p12.F B n_NoName) (kbk d_Net_kindX_2 .nil);have hT_Net_endsX_2:yM l.prog w K mg base:=p13.hasT q_Net (Ib p13.F B n_NoName) (kbk d_Net_endsX_2 .nil);have hT_Net_check_nodesX_2:yV l.prog w K mg base:=p17.hasT q_Net (Ic p17.F B n_NoName) (kbk d_Net_check_nodesX_2 .nil);have hT_Net_check_unusedX_2:yL l.prog w K mg base:=p18.hasT q_Net (Ie p18.F B n_InUse) (kbk d_Net_check_unusedX_2 .nil);have h_law_pick:qo l.prog w K mg base:=p22.has p22.bd X G (Ig p22.F B h_law_draw);have h_law_name:iL l.prog w K mg base:=p23.has p23.bd X G (Ih p23.F B h_law_draw);have u_law_kind:qB l.prog w K mg base:=⟨_,_,Ii p32.F B u_law_kinds_one u_law_kinds_two (Md X G z_ValueError),p32.bd,p32.F.kp,mg_of X G p32.at_⟩;have h_check_name:yN l.prog w K mg base:=p2.has p2.bd X G (Ij p2.F B h_is_name);have hK_check_nameX_1:yO l.prog w K mg base:=p2.hasK X G (Ik p2.F B h_is_name (mg_of X G a_BadName) (et.exc inferInstance (c:="BadName") (by decide) (by decide))) (kbk d_check_nameX_1 .nil);have h_check_number:yS l.prog w K mg base:=p5.has p5.bd X G (Il p5.F B h_check_whole);have hK_check_numberX_3:yW l.prog w K mg base:=p5.hasK X G (Im p5.F B hK_check_wholeX_1 (mg_of X G a_BadNumber) (et.exc inferInstance (c:="BadNumber") (by decide) (by decide))) (kbk d_check_numberX_3 .nil);have hT_Net_dropX_2:yQ l.prog w K mg base:=p10.hasT q_Net (Io p10.F B hT_Net_kindX_2 hT_Net_check_unusedX_2) (kbk d_Net_dropX_2 .nil);have h_law_hop:yP l.prog w K mg base:=p24.has p24.bd X G (Ip p24.F B h_law_draw h_law_pick h_law_name);have h_law_gone:zh l.prog w K mg base:=p34.has p34.bd X G (Iq p34.F B hT_Net_kindX_2 hT_Net_endsX_2 (mg_of X G a_NoName));have hT_Net_check_new_2:qp l.prog w K mg base:=p16.hasT q_Net (Ir p16.F B h_check_name) (kbk d_Net_check_new_2 .nil);have hT_Net_check_newX_2:qr l.prog w K mg base:=p16.hasT q_Net (Is p16.F B hK_check_nameX_1 n_Taken) (kbk d_Net_check_newX_2 .nil);have h_law_way:yY l.prog w K mg base:=p25.has p25.bd X G (Iu p25.F B h_law_draw h_law_pick h_law_hop);have h_law_drop:zi l.prog w K mg base:=p33.has p33.bd X G (Iv p33.F B hT_Net_dropX_2 (mg_of X G a_InUse) (mg_of X G a_NoName));have hT_Net_line_4_wire:qA l.prog w K mg base:=p9.hasT q_Net (Iw p9.F B h_check_ends h_check_number hT_Net_check_new_2 hT_Net_check_nodes_2 (mg_of X G g_MOST_LINES) (eX v_MOST_LINES) (mg_of X G g_MOST_WIRE) (eX v_MOST_WIRE)) (kbk d_Net_line_4_wire .nil);have hT_Net_lineX_4:zd l.prog w K mg base:=p9.hasT q_Net (Ix p9.F B hT_Net_check_newX_2 hK_check_endsX_1 hT_Net_check_nodesX_2 hK_check_numberX_3 (mg_of X G g_MOST_LINES) (eX v_MOST_LINES) (mg_of X G g_MOST_WIRE) (eX v_MOST_WIRE) (mg_of X G a_Full) (et.exc inferInstance (c:="Full") (by decide) (by decide))) (kbk d_Net_lineX_4 (.cons ⟨_,rfl⟩ .nil));have hT_Net_put_node_3:qu l.prog w K mg base:=p15.hasT q_Net (Iy p15.F B hT_Net_check_new_2 (mg_of X G g_MOST_NODES) (eX v_MOST_NODES)) (kbk d_Net_put_node_3 .nil);have hT_Net_put_nodeX_3:qz l.prog w K mg base:=p15.hasT q_Net (Iz p15.F B hT_Net_check_newX_2 (mg_of X G g_MOST_NODES) (eX v_MOST_NODES) (mg_of X G a_Full) (et.exc inferInstance (c:="Full") (by decide) (by decide))) (kbk d_Net_put_nodeX_3 .nil);have h_law_row:yZ l.prog w K mg base:=p27.has p27.bd X G (IA p27.F B h_law_draw h_law_need h_law_name h_law_way);have hT_Net_house_2:y2 l.prog w K mg base:=p7.hasT q_Net (IB p7.F B hT_Net_put_node_3) (kbk d_Net_house_2 .nil);have hT_Net_houseX_2:qC l.prog w K mg base:=p7.hasT q_Net (IC p7.F B hT_Net_put_nodeX_3) (kbk d_Net_houseX_2 .nil);have hT_Net_gate_2:y4 l.prog w K mg base:=p8.hasT q_Net (ID p8.F B hT_Net_put_node_3) (kbk d_Net_gate_2 .nil);have hT_Net_gateX_2:y8 l.prog w K mg base:=p8.hasT q_Net (IE p8.F B hT_Net_put_nodeX_3) (kbk d_Net_gateX_2 .nil);have h_law_world:zk l.prog w K mg base:=p28.has p28.bd X G (IF p28.F B h_law_draw h_law_name h_law_row);have h_law_net:zn l.prog w K mg base:=p29.has p29.bd X G (IG p29.F B hM_NetD_initD_1 hT_Net_house_2 hT_Net_gate_2 hT_Net_line_4_wire);have h_law_fill:y_ l.prog w K mg base:=p35.has p35.bd X G (IH p35.F B u_law_kind h_law_name hT_Net_houseX_2 hT_Net_gateX_2 (mg_of X G a_NetError));have h_law_filled:zo l.prog w K mg base:=p36.has p36.bd X G (II p36.F B u_law_kind h_law_name h_law_fill hT_Net_names_1 hT_Net_kind_2 hT_Net_line_4_wire hT_Net_lineX_4 hT_Net_houseX_2 hL_Net (mg_of X G a_NetError));exact(IK p37.F B h_law_start h_law_draw h_law_gone h_law_drop h_law_world h_law_net h_law_filled hT_Net_names_1 hT_Net_kind_2).imp λvs H Q E h=>Ec HJ (Eb vs H Q E h)
theorem walk{l:Pg}{q:Program}{loose:List Str}{XP:(Str->Option Value)->Heap->Prop}{YP:World->Heap->Prop}{d:DefRec}{K:Params->Frag}(hn:l.most=some 63)(hdf:d.params.defaults=[])
  (hY:∀(w:World) (h:Heap),YP w h->(K w.params).In h)
  (F:∀(w:World) (mg:Str->Option Value) (fa:Addr) (h:Heap),(K w.params).In h->h.Ns mainGlobals mg->mg d.name=some (.ref fa) ->
   ∃fd:FuncData,(∀(s:Shared) (u:Value),BindsTo s fd ⟨[u],[]⟩ [("_law_script",u)])/\∀base:Heap,(K w.params).In base->base.Ns mainGlobals mg->aa l.prog w (K w.params) mg base CX0 9 fa fd ["_law_script"] (kN (K w.params))) :
  S9 q loose XP YP l.row.toRowW d [] (λf vs=>Rg f vs) :=
 L2.Ce (n:=63) (k:=9) (x:="_law_script") (CX:=λ_=>CX0) (sp:=λw=>kN (K w.params)) hn (by decide) hdf ⟨λ_=>rfl,by decide,by decide,rfl⟩ hY F (λ_ _ a ns hl _ hS=>⟨a,ns,rfl,hS,hl,λ_=>rfl⟩) λ_ _ _ _ _ z=>z
end M
open PySem PySem.W PyProof.Rows L2
set_option maxRecDepth 100000 in
set_option maxHeartbeats 0 in
theorem PySem.Challenge.cw_slotwright_k07_drop_and_full_holds : PySem.Challenge.rw_slotwright_k07_drop_and_full.Holds := by
 refine H0.hd0 ?_;k_fill
 refine M.walk (l:=PySem.Challenge.rw_slotwright_k07_drop_and_full) rfl rfl (λw h Y=>PySem.W.kIn_of Y) ?F
 case F =>
  intro w mg fa h KX G hmg;refine' M.IL KX G hmg ⟨?z0,⟨?z1,?z2,?z3,?z4⟩,?z5,?z6,(L2.vH ?z7 (L2.vH ?z8 (List.forall_mem_nil _)))⟩ ?z9 ?z10 ?z11 ?z12 ?z13 ?z14 ?z15 ?z16 ?z17 ?z18 ?z19 ?z20 ?z21 ?z22 ?z23 ?z24 ?z25 ?z26 (L2.oR (zU ?z17) (mg_of KX G ?z17) ?z27 ?z28 ?z29 ?z30 (Md KX G ?z31) ?z32 ?z33 ?z34 ?z35 ?z36 ?z37 ?z38 ?z39 ?z40 ?z41 ?z42 ?z43 ?z44 ?z45 ?z46 (L2.cB.taker ?z47) ?z48 ?z49 ?z50 ?z51 ?z52 ?z53 ?z54 ?z55 ?z56 ?z57 ?z58 ?z59 ?z60 ?z61 ?z62) ?z63 (L2.oR (zU ?z20) (mg_of KX G ?z20) ?z64 ?z65 ?z66 ?z67 (Md KX G ?z68) ?z69 ?z70 ?z71 ?z72 ?z73 ?z74 ?z75 ?z76 ?z77 ?z78 ?z79 ?z80 ?z81 ?z82 ?z83 (L2.cB.taker ?z84) ?z85 ?z86 ?z87 ?z88 ?z89 ?z90 ?z91 ?z92 ?z93 ?z94 ?z95 ?z96 ?z97 ?z98 ?z99) ?z100 (L2.oR (zU ?z24) (mg_of KX G ?z24) ?z101 ?z102 ?z103 ?z104 (Md KX G ?z105) ?z106 ?z107 ?z108 ?z109 ?z110 ?z111 ?z112 ?z113 ?z114 ?z115 ?z116 ?z117 ?z118 ?z119 ?z120 (L2.cB.taker ?z121) ?z122 ?z123 ?z124 ?z125 ?z126 ?z127 ?z128 ?z129 ?z130 ?z131 ?z132 ?z133 ?z134 ?z135 ?z136) ?z137 ?z138 ?z139 ⟨⟨?z140,am ?z141 ?z142 ?z143⟩,?z144⟩ ⟨⟨?z145,am ?z146 ?z147 ?z148⟩,?z149⟩ ⟨⟨?z150,am ?z151 ?z152 ?z153⟩,?z154⟩ ⟨⟨?z155,am ?z156 ?z157 ?z158⟩,?z159⟩ ⟨⟨?z160,am ?z161 ?z162 ?z163⟩,?z164⟩ ⟨⟨?z165,am ?z166 ?z167 ?z168⟩,?z169⟩ ⟨?z170,?z171,am ?z172 ?z173 ?z174⟩ ⟨?z175,?z176,am ?z177 ?z178 ?z179⟩ ⟨?z180,?z181,am ?z182 ?z183 ?z184⟩ ⟨?z185,?z186,am ?z187 ?z188 ?z189⟩ ⟨?z190,?z191,am ?z192 ?z193 ?z194⟩ ⟨?z195,?z196,am ?z197 ?z198 ?z199⟩ ⟨?z200,?z201,am ?z202 ?z203 ?z204⟩ ⟨?z205,?z206,am ?z207 ?z208 ?z209⟩ ⟨?z210,?z211,am ?z212 ?z213 ?z214⟩ ?z215 ⟨?z216,?z217,am ?z218 ?z219 ?z220⟩ ⟨?z221,?z222,am ?z223 ?z224 ?z225⟩ ⟨?z226,?z227,am ?z228 ?z229 ?z230⟩ ⟨?z231,?z232,am ?z233 ?z234 ?z235⟩ ⟨⟨?z236,am ?z237 ?z238 ?z239⟩,?z240⟩ ⟨⟨?z241,am ?z242 ?z243 ?z244⟩,?z245⟩ ⟨⟨?z246,am ?z247 ?z248 ?z249⟩,?z250⟩ ⟨⟨?z251,am ?z252 ?z253 ?z254⟩,?z255⟩ ⟨⟨?z256,am ?z257 ?z258 ?z259⟩,?z260⟩ ⟨⟨?z261,am ?z262 ?z263 ?z264⟩,?z265⟩ ⟨⟨?z266,am ?z267 ?z268 ?z269⟩,?z270⟩ ⟨⟨?z271,am ?z272 ?z273 ?z274⟩,?z275⟩ ⟨⟨?z276,am ?z277 ?z278 ?z279⟩,?z280⟩ ⟨⟨?z281,am ?z282 ?z283 ?z284⟩,?z285⟩ ⟨⟨?z286,am ?z287 ?z288 ?z289⟩,?z290⟩ ⟨⟨?z291,am ?z292 ?z293 ?z294⟩,?z295⟩ ⟨⟨?z296,am ?z297 ?z298 ?z299⟩,?z300⟩ ⟨⟨?z301,am ?z302 ?z303 ?z304⟩,?z305⟩ ⟨⟨?z306,am ?z307 ?z308 ?z309⟩,?z310⟩ ⟨⟨?z311,am ?z312 ?z313 ?z314⟩,?z315⟩ ⟨⟨?z316,am ?z317 ?z318 ?z319⟩,?z320⟩ ⟨⟨?z321,am ?z322 ?z323 ?z324⟩,?z325⟩ ⟨⟨?z326,am ?z327 ?z328 ?z329⟩,?z330⟩ ?z331 ?z332 ?z333 ?z334 ?z335 ?z336 ?z337 ?z338 ?z339 ?z340 ?z341 ?z342 ?z343 ?z344 ?z345 ?z346 ?z347 ?z348 ?z349 ?z350 ?z351 ?z352 ?z353 ?z354 ?z355 ?z356 ?z357 ?z358 ?z359 ?z360 ?z361 ?z362 ?z363 ?z364 ?z365 ?z366 ?z367 ?z368 ?z369 ?z370 ?z371 ?z372 ?z373 ?z374 ?z375 ?z376 ?z377 ?z378 ?z379 ?z380 ?z381 ?z382 ?z383 ?z384 ?z385 ?z386 ?z387
  case z0|z1|z2|z3|z4|z5|z6|z7|z8|z9|z10|z11|z12|z13|z14|z15|z16|z17|z18|z19|z20|z21|z22|z23|z24|z25|z26|z27|z32=>k_is
  case z28=>kernel_rfl
  case z29=>rfl
  case z30|z31|z33|z34=>k_is
  case z35=>rfl
  case z36|z37=>first|rfl|decide+kernel
  case z38|z39=>k_is
  case z40=>rfl
  case z41=>first|rfl|decide+kernel
  case z42|z43|z44|z45=>k_is
  case z46=>first|k_is|kernel_rfl
  case z47=>show _=_;k_is
  case z48=>k_is
  case z49=>exact λs u v=> .of_eq rfl
  case z50|z51|z52|z53|z54|z55=>rfl
  case z56=>decide+kernel
  case z57=>rfl
  case z58=>decide+kernel
  case z59|z60|z61|z62=>rfl
  case z63=>kernel_rfl
  case z64|z69=>k_is
  case z65=>kernel_rfl
  case z66=>rfl
  case z67|z68|z70|z71=>k_is
  case z72=>rfl
  case z73|z74=>first|rfl|decide+kernel
  case z75|z76=>k_is
  case z77=>rfl
  case z78=>first|rfl|decide+kernel
  case z79|z80|z81|z82=>k_is
  case z83=>first|k_is|kernel_rfl
  case z84=>show _=_;k_is
  case z85=>k_is
  case z86=>exact λs u v=> .of_eq rfl
  case z87|z88|z89|z90|z91|z92=>rfl
  case z93=>decide+kernel
  case z94=>rfl
  case z95=>decide+kernel
  case z96|z97|z98|z99=>rfl
  case z100=>kernel_rfl
  case z101|z106=>k_is
  case z102=>kernel_rfl
  case z103=>rfl
  case z104|z105|z107|z108=>k_is
  case z109=>rfl
  case z110|z111=>first|rfl|decide+kernel
  case z112|z113=>k_is
  case z114=>rfl
  case z115=>first|rfl|decide+kernel
  case z116|z117|z118|z119=>k_is
  case z120=>first|k_is|kernel_rfl
  case z121=>show _=_;k_is
  case z122=>k_is
  case z123=>exact λs u v=> .of_eq rfl
  case z124|z125|z126|z127|z128|z129=>rfl
  case z130=>decide+kernel
  case z131=>rfl
  case z132=>decide+kernel
  case z133|z134|z135|z136=>rfl
  case z137|z138|z139=>kernel_rfl
  case z140|z141|z142|z143=>k_is
  case z144=>rfl
  case z145|z146|z147|z148=>k_is
  case z149=>rfl
  case z150|z151|z152|z153=>k_is
  case z154=>rfl
  case z155|z156|z157|z158=>k_is
  case z159=>rfl
  case z160|z161|z162|z163=>k_is
  case z164=>rfl
  case z165|z166|z167|z168=>k_is
  case z169=>rfl
  case z170|z171|z172|z173|z174|z175|z176|z177|z178|z179|z180|z181|z182|z183|z184|z185|z186|z187|z188|z189|z190|z191|z192|z193|z194|z195|z196|z197|z198|z199|z200|z201|z202|z203|z204|z205|z206|z207|z208|z209|z210|z211|z212|z213|z214=>k_is
  case z215=>rfl
  case z216|z217|z218|z219|z220|z221|z222|z223|z224|z225|z226|z227|z228|z229|z230|z231|z232|z233|z234|z235|z236|z237|z238|z239=>k_is
  case z240=>rfl
  case z241|z242|z243|z244=>k_is
  case z245=>rfl
  case z246|z247|z248|z249=>k_is
  case z250=>rfl
  case z251|z252|z253|z254=>k_is
  case z255=>rfl
  case z256|z257|z258|z259=>k_is
  case z260=>rfl
  case z261|z262|z263|z264=>k_is
  case z265=>rfl
  case z266|z267|z268|z269=>k_is
  case z270=>rfl
  case z271|z272|z273|z274=>k_is
  case z275=>rfl
  case z276|z277|z278|z279=>k_is
  case z280=>rfl
  case z281|z282|z283|z284=>k_is
  case z285=>rfl
  case z286|z287|z288|z289=>k_is
  case z290=>rfl
  case z291|z292|z293|z294=>k_is
  case z295=>rfl
  case z296|z297|z298|z299=>k_is
  case z300=>rfl
  case z301|z302|z303|z304=>k_is
  case z305=>rfl
  case z306|z307|z308|z309=>k_is
  case z310=>rfl
  case z311|z312|z313|z314=>k_is
  case z315=>rfl
  case z316|z317|z318|z319=>k_is
  case z320=>rfl
  case z321|z322|z323|z324=>k_is
  case z325=>rfl
  case z326|z327|z328|z329=>k_is
  case z330=>rfl
  case z331|z332|z333|z334|z335|z336|z337|z338|z339|z340|z341|z342|z343|z344|z345|z346|z347|z348|z349|z350|z351|z352|z353=>k_is
  case z354=>rfl
  case z355=>k_is
  case z356=>rfl
  case z357=>k_is
  case z358=>rfl
  case z359=>k_is
  case z360=>rfl
  case z361=>k_is
  case z362=>rfl
  case z363=>k_is
  case z364=>rfl
  case z365=>exact λS=>al1 λ_=>al0 <| by with_unfolding_all rfl
  case z366=>exact λS=>al2 λ_ _=>al0 <| by with_unfolding_all rfl
  case z367=>exact λS=>al4 λ_ _ _ _=>al1 λ_=>by with_unfolding_all rfl
  case z368=>exact λS=>al4 λ_ _ _ _=>al0 <| by with_unfolding_all rfl
  case z369=>exact λS=>al2 λ_ _=>al0 <| by with_unfolding_all rfl
  case z370=>exact λS=>al3 λ_ _ _=>al0 <| by with_unfolding_all rfl
  case z371=>exact λS=>al2 λ_ _=>al0 <| by with_unfolding_all rfl
  case z372|z373=>exact λS=>al1 λ_=>al0 <| by with_unfolding_all rfl
  case z374=>exact λS=>al2 λ_ _=>al0 <| by with_unfolding_all rfl
  case z375=>exact λS=>al3 λ_ _ _=>al0 <| by with_unfolding_all rfl
  case z376=>exact λS=>al1 λ_=>al0 <| by with_unfolding_all rfl
  case z377|z378|z379|z380|z381|z382|z383=>exact λS=>al2 λ_ _=>al0 <| by with_unfolding_all rfl
  case z384=>exact λS=>al1 λ_=>al0 <| by with_unfolding_all rfl
  case z385|z386=>exact λS=>al2 λ_ _=>al0 <| by with_unfolding_all rfl
  case z387=>exact λS=>al3 λ_ _ _=>al0 <| by with_unfolding_all rfl
