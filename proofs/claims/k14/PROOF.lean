import PyProof.Rows.All
import Wide.All
import OpenK.AllK
import Wide.FinOn
import Lean
import PyProof.EqAt
import PyProof.EqKinds
import PyProof.TupleCall
import PyProof.P3In
import PyProof.DictCompW
import PyProof.Rows.ReprR
import PyProof.ReprLen
import PySem.Challenge.RW_slotwright_k14_starts_in_order
set_option Elab.async false
open PySem.W (Frag nsIn mg_none_of mg_of findIn kia_one emptyDict keepIn instObj kitOne fnOf kla_obj tabObj tabIn KasT lookIn plainGet isFn kas_ask CodeHd methodObj hasDictIn plainGet_of takerIn makesIn callWith_KW codeIn kas_rev kas_sort kat_nil kla_fn)
open List renaming length_map->L0,getElem?_eq_getElem->L3,getElem?_map->L4,getElem?_eq_some_iff->L7,mem_append_right->L8,size_toArray->Ly,mem_singleton->Lz,mem_of_getElem?->LA,mem_cons->LD,replicate->LF,length_append->LG,getD_eq_getElem?_getD->LI,nodup_append->LK,mem_append_left->LL,map_append->LM,mem_cons_of_mem->LN,mem_cons_self->LO,map_cons->LQ,zip_cons_cons->LV,mem_append->LX,length_cons->LY,getElem?_eq_none->LZ,lookup_cons->M5,append_assoc->M7,mem_map->M8,not_mem_nil->Mb,getElem?_append_right->Mc,mem_map_of_mem->Md,getElem?_append_left->Me,mem_iff_getElem?->Mg,Nodup->Mj,take_add_one->Mm,length_take->Mo,all_eq_true->Mp,drop_eq_getElem_cons->Mt,range->Mz,pairwise_iff_getElem->MA,mem_filter->MB,take_of_length_le->MC,Perm->MH,lookup->MJ,map_map->MK,drop_eq_nil_of_le->ML,mem_range->MS,getElem?_set_ne->MT,append_nil->MW,sum_cons->MX,getElem?_set_self->MZ,take_length->N0,zip_nil_left->Na,foldl_cons->Nf,flatten_cons->Nj,filterMap_cons->Nk,replicate_succ->Nl,lookup_nil->Nn,filter_cons->Np,take_sublist->Nt,ext_getElem?->Nv,any_cons->Nz,length_zipIdx->NE,length_replicate->NF,length_filter_le->NH,getElem?_eq_none_iff->NI,nodup_cons->NK,length->NL,getElem?_range->NQ,length_drop->NS,getElem_mem->NU,find?_cons->O4,mem_of_mem_take->O9,getElem?_zip_eq_some->Oe,filter_sublist->Of,Pairwise->Ol,map->On,length_zip->Os,getElem?_drop->Ox,getElem?_replicate->Oz,getElem?_cons_succ->OB,length_eq_zero_iff->OC,getElem?_set->OD,length_range->OE,length_singleton->OF,getElem_map->OK,nil_append->OM,length_nil->ON,length_pos_iff->OP,getElem_of_mem->OQ,map_nil->OR,getLast?_eq_getElem?->P4,foldl_append->P8,getElem?_inj->P9,getElem_inj->Pg,any_eq_true->Pk,mem_flatten->Pn,of_mem_zip->PD,length_set->PF,contains_iff_mem->PU,nodup_nil->PZ,mem_iff_getElem->Q2,replicate_succ'->Q4,getElem?_append->Q6,getElem?_zipIdx->Q7,toList_toArray->Qf,map_congr_left->Qg,forall_mem_nil->Qh,all_cons->Qj,map_take->Qk,map_drop->Ql,mem_filterMap->Qq,filterMap_map->Qs,ne_nil_of_mem->Qx,pairwise_cons->Qy,push_toArray->QM,map_set->QO,pairwise_map->QR,le_antisymm->Rb,map_id->Rn,foldl->RD,drop_zero->RG,foldl_nil->RJ,take->Sv,toArray->SC,find?->SW
open PySem renaming wpAny_bind->L1,wpAny_pure->L9,wpAny_mono->M0,mem_of_lookup->Ma,wpAny_holding->Mn,wpAny_newObj_type->Mx,sizeLine_eq->MG,wpAny_field->MV,wpAny_truthy_bool->Nb,wpAny_callSpecial?_slot->Ng,wpAny_standAt->Ni,wpAny_Call_Name_kw->Nq,wpAny_call_entry->Nr,wpAny_comprehension_free->NO,tupleKind_room_in1->O0,wpAny_pyIter_tuple->O1,wpAny_setField_rec->O2,pushCells_keeps->O6,Fin->Ob,codeAny_mono->Oc,wpAny_newList->Oo,wpAny_passesOwn->Ot,codeAny_builtin->Ou,wpAny_loadPart'->OO,wpAny_pyIter_list->Pa,wpAny_getItem_list_slice->Pe,wpAny_pyNext_list_item->Pw,wpAny_pyNext_range_end->Px,wpAny_pyIter_rangeiter->Py,wpAny_call->Pz,codeAny_compStart_list->PC,wpAny_execs_nil->PM,wpAny_pyNext_list_end->PX,wpAny_loadName_local->Q8,wpAny_newTuple->Qa,nums_intItems->Qn,wpAny_attempt->Qp,wpAny_Name->Qz,wpAny_pyIter_range->QA,wpAny_evalAll_cons->QB,wpAny_rule->QE,Within->QG,wpAny_assign_Name->QU,wpAny_evalAll_nil->QV,wpAny_sequenceKey->QW,wpAny_typeOf->QX,seqIndex_neg->QY,codeAny_loop->QZ,wpAny_pyIter_enum->R4,wpAny_eqBool_int->Rg,wpAny_eqBool_str->Rh,wpAny_execs_cons->Ri,noFill_tuple_add->Rj,wpAny_pyIter_zip->Rk,seqIndex_of->Rq,wpAny_noted->Rr,wpAny_specialOf->Rz,codeAny_of_tree->RA,call->RF,typeIs_int->RL,call_meets->RM,numAt_eq->RN,isSubtype_type->RO,wpAny_runValue->RP,wpAny_seqItems->RS,wpAny_setField->RT,intBits_le_64->Sn,seq_tuple_add->So,evalPart_none->Sr,call_list_seq->Ss,eval_ListComp->Su,concat_meets->SF,call_meetsIn->SG
open PySem.Heap renaming get?_push_of_some->L5,lt_size->LB,get?_push_size->LC,get?_update_ne->MO,get?_push_ne->MR,size_push->MU,SameBut->MY,size_update->NB,get?_none_of_le->OL,get?_update_other->Ps,get?_update_self->PQ,ExtBut->Q5
open PySem.Str renaming ofString->L6,empty->Mv,join->NM
open Nat renaming le_refl->Lx,ne_of_lt->LJ,lt_of_lt_of_le->LS,le_trans->M6,zero_le->Ms,le_succ->MN,lt_succ_of_lt->MQ,lt_irrefl->Nc,le_of_lt->Nd,lt_succ_self->No,ne_of_gt->NY,mod_two_eq_zero_or_one->O8,min_eq_left->Oq,not_lt->Ow,le_add_right->OJ,lt_or_gt_of_ne->OX,lt_trichotomy->P7,le_of_not_lt->Pj,min_self->Pv,le_of_ble_eq_true->PV,lt_of_le_of_lt->Qv,eq_zero_or_pos->Qw,lt_trans->QK,le_of_succ_le->QL,sub_self->QP,min_eq_right->R8,not_lt_zero->Ry,le_of_eq->Sx,le_total->Sz
open Option renaming map_eq_some_iff->LH,map_some->Nw,bind_some->Oa,isSome_iff_exists->Oi,isSome_map->P5,isSome_some->Qu,getD_none->R7
open PySem.Builtin.Slice renaming sliceAdjust->LP,slicePlaces->Mf,sliceApplied->NC,sliceFields->P3,slicePartIndex->Rt
open Bool renaming false_ne_true->LU,false_eq_true->Mr,and_eq_true->Mw,true_xor->MM,false_xor->ND,eq_iff_iff->O3,or_eq_true->O5,not_eq_true'->P6,and_eq_true_iff->PY,not_true->Qm
open PySem.Value renaming ref->M4,none->My,str->NA,type->NN,bool->OH,int->OU,float->Rm,isStrOf->S7,isInt->SM,bytes->SN
open Array renaming length_toList->M9,getElem?_toList->NG,toList_inj->NV,getElem?_eq_none->NZ,getD->OW,mk->Pf,all_toList->Rf,toList->Sw
open PySem.F renaming slot_list_append->Mh,type_list_append->Mi,plainAttrs_list->Ml,slot_dict_get->OG,args_tuple_add_2->Pd,entry_tuple_add->Ph,args_dict_get_3->Pi,slot_tuple_add->Pq,entry_dict_get->Pt
open Option.some renaming inj->Mq,injEq->Nu
open PySem.Builtin.Tuple renaming tupleExact->MD,tupleItemsOf->OV
open PySem.W renaming boot_heap->ME,mg_none_of->MI,boot_drawn->OZ,boot_toks->Po,cellsFrom_some->Pp,OpenLaw->PH,methodCall_KW->PR,callWith_K0->Qc,kitx_tuple->Qr,plainOver->QH,kitx_list->QI,kitx_dict->QJ,kas_place->QQ,handedIn->R5,kas_item->R9,kat_snds->Ra,kat_cons->Rc,BoolBack->Re,plainGet_of->Ro,callWith_KW->Rp,kat_run->Rv,kat_yes->Rw,kat_one->Rx,kat_no->RH,WalkO->Sl,peek->SA,kas_sort->SS
open PyProof.Rows renaming slot_tuple_getitem->MF,callWith_type1->Nh,listUpdate_at->NP,get?_update_seq->Ov,listItems_at->OT,size_push'->P0,seqEpoch_at->Pb,subscriptTail_builtinR->PB,entry_list_sort->PP,slot_list_sort->Q9,entry_tuple_getitem->Qi,sortedAll_old->Qo,args_tuple_getitem->QC,Subscript_->QD,sortedAll_at->R0,plain_sorted->R1,entry_sorted->R3,callWith_builtin1->R6,kind_sorted->Rs,setObjOf_fresh->RB,slicePart_none->RK,args_list_sort->RQ,callWith_kw->Sk,tupleItemsOf_->Sq,args_sorted1->SH,collect_list->SJ,StrsAre->SO,sortedS->SQ,tail_any->SR,recsOf->SU
open Or renaming inl->MP,inr->Sy
open PyProof.Rows.F renaming plain_set_update_loop->Nx,entry_set_update_loop->Og
open PySem.W.Fast renaming te14364793385576792824->Ny
open PySem.Builtin.SmallTypes renaming nextOf->NJ,ownedTupleHandOut->Oh,ownedTupleIsFree->Om
open PySem.Builtin.Range renaming rangeSize->NR,small->Qd,rangeFitsLong->RC
open Sum renaming inr->NW,inl->Qb
open Int renaming toNat_natCast->O7,emod_lt_of_pos->OY,emod_nonneg->PJ,emod_eq_of_lt->QS,zero_add->SD,le_trans->SE
open Classical renaming byContradiction->Od
open PySem.Builtin.List renaming listTooLong->Oj,listExtendWith->OS,listFitsIndex->RE
open List.cons renaming injEq->Op
open PySem.Builtin.Str renaming occurrences->Oy,glued->OA,tooLong->S6
open List.Nodup renaming length_le_of_subset->OI
open Prod.mk renaming injEq->Pc
open PySem.Str.mk renaming injEq->Pu
open PySem.Heap.SameBut renaming update->Qe,refl->QN
open PySem.Heap.IsSliceOf renaming new->Qt
open Prod renaming ext->QF
open List.Sublist renaming refl->QT,map->T3
open Sum.inr renaming inj->Rl
open PySem.Builtin.Frozenset renaming updateFrom->Ru
open PySem.Value.type renaming inj->RI
open PySem.EqNone renaming eq_none_none->RU,eq_none_bool->RV,eq_bool_none->RX,ne_none_none->S0,ne_none_bool->S1,ne_bool_none->S3,eq_none_int->S8,eq_none_str->S9,eq_int_none->Sa,eq_str_none->Sc,ne_none_int->Se,ne_none_str->Sf,ne_int_none->Sg,ne_str_none->Si
open PySem.EqMixed renaming eq_bool_str->RY,eq_str_bool->RZ,ne_bool_str->S4,ne_str_bool->S5,eq_int_str->Sb,eq_str_int->Sd,ne_int_str->Sh,ne_str_int->Sj
open List.Perm renaming map->Sm,refl->Ta
open PySem.W.Looks renaming of_pure->SK,here->SV
open PySem.Within renaming cons->SX
open List.Pairwise renaming nil->SY
open PySem.Heap.IsCell renaming keeps->SZ
open PySem.IsL renaming update->T0
open PySem.Heap.DictOf renaming new->T8
namespace H0
open PySem PySem.W PyProof.Rows
def topT(tb:String→Option Builtin)(p:Program)(w:World)(n0:Nat)(ann:Option Value):Nat→SharedT→Thread→Option SharedT
 |0,_,_=>none
 |n+1,s,t=>match through t with
  |true=>some s
  |false=>match stepOk n0 ann t with
   |false=>none
   |true=>match stepT (denote tb) p w s t with
    |some (s',t')=>topT tb p w n0 ann n s' t'
    |none=>none
theorem topT_run{tb:String→Option Builtin}{p:Program}{w:World}{n0:Nat}{ann:Option Value}:∀{n:Nat} {s s':SharedT} {t:Thread},topT tb p w n0 ann n s t=some s'→topRun tb p w n0 ann n s.abs t=some s'.abs:=by
 intro n;induction n with
 |zero=>intro s s' t h;cases h
 |succ n ih =>
  intro s s' t h;unfold topT at h;unfold topRun;cases ht:through t with
  |true=>rw[ht] at h;cases h;rfl
  |false =>
   rw[ht] at h;cases hk:stepOk n0 ann t with
   |false=>rw[hk] at h;cases h
   |true =>
    rw[hk] at h;cases hs:stepT (denote tb) p w s t with
    |none=>rw[hs] at h;cases h
    |some r=>obtain⟨s2,t2⟩:=r;rw[hs] at h;dsimp only;rw[stepT_spec hs];exact ih h
def treeOf:List Obj→BT→Nat→BT
 | [],t,_=>t
 |o::r,t,n=>treeOf r (t.ins n o) (n+1)
def looksAt(p:Program)(h0:Heap)(s:Shared):Bool:=staticsOk (importedModules p.main.body) h0 s.heap&&namesBound p s.heap&&gensDone s&&laidKept h0 s.heap
noncomputable def st0(m0:Nat)(w:World)(os:OsState):SharedT:=⟨treeOf (ME w.params).objs.toList .nil 0,m0,(ME w.params).life,Pf [],OZ,Po,os⟩
theorem left_tree{p q:Program}{loose:List Str}{Xt:Shared→Bool}{α:Type}{Yf:Shared→α}{Ya:World→α}{N:Nat}{g0:Bool}{m0:Nat}{ann:Option Value}
  (open_:∀w:World,(fencedOpening treeTable p w N).map (λs=>(s.heap,s.gens,s.drawn,s.toks))=some (ME w.params,Pf [],OZ,Po))
  (tree:∀w:World,absHeap (treeOf (ME w.params).objs.toList .nil 0) m0 (ME w.params).life=ME w.params)
  (size:∀w:World,((ME w.params).isNs mainGlobals,(ME w.params).objs.size,(ME w.params).nsMap mainGlobals "__annotations__")=(true,m0,ann))
  (runA:∀(w:World) (os:OsState),(topT treeTable p w m0 ann N (st0 m0 w os) (topStub p)).map (λs=>(looksAt p (ME w.params) s.abs,(openSeen q loose (importedModules p.main.body) Xt g0 s.abs).1,(openSeen q loose (importedModules p.main.body) Xt g0 s.abs).2.1,(openSeen q loose (importedModules p.main.body) Xt g0 s.abs).2.2.1))=some (true,(openGood q loose).1,(openGood q loose).2.1,(openGood q loose).2.2.1))
  (runB:∀(w:World) (os:OsState),(topT treeTable p w m0 ann N (st0 m0 w os) (topStub p)).map (λs=>(openSeen q loose (importedModules p.main.body) Xt g0 s.abs).2.2.2)=some (openGood q loose).2.2.2)
  (runC:∀(w:World) (os:OsState),(topT treeTable p w m0 ann N (st0 m0 w os) (topStub p)).map (λs=>Yf s.abs)=some (Ya w)) :
  LeftO p q loose Xt Yf Ya N g0:=λw=>by
 obtain⟨⟨h,gs,d,k,os⟩,e,e'⟩:=LH.mp (open_ w);obtain⟨rfl,rfl,rfl,rfl⟩:h=ME w.params∧gs=Pf []∧d=OZ∧k=Po:=by simpa using e'
 obtain⟨z1,z2,z3⟩:_∧_∧_:=by simpa only[Pc] using size w
 obtain⟨s,r,la⟩:=LH.mp (runA w os);obtain⟨s1,r1,lb⟩:=LH.mp (runB w os);obtain⟨s2,r2,lc⟩:=LH.mp (runC w os);have q1:s=s1:=Mq (r.symm.trans r1);have q2:s=s2:=Mq (r.symm.trans r2);subst q1 q2;obtain⟨l1,a1,a2,a3⟩:_∧_∧_∧_:=by simpa only[Pc] using la
 unfold looksAt at l1;have l2:openSeen q loose (importedModules p.main.body) Xt g0 s.abs=openGood q loose:=QF a1 (QF a2 (QF a3 lb));have l3:Yf s.abs=Ya w:=lc;have r2:=topT_run r;have r3:topRun treeTable p w m0 ann N ⟨ME w.params,Pf [],OZ,Po,os⟩ (topStub p)=some s.abs:=by
  rw[← r2];show _=topRun treeTable p w m0 ann N ⟨absHeap (treeOf (ME w.params).objs.toList .nil 0) m0 (ME w.params).life,Pf [],OZ,Po,os⟩ (topStub p);rw[tree w]
 have z4:((ME w.params).isNs mainGlobals&&(Pf []:Array GenState).size==0)=true:=by rw[z1];rfl
 have t:topFrom treeTable p w N ⟨ME w.params,Pf [],OZ,Po,os⟩=some s.abs:=by
  unfold topFrom;dsimp only;rw[z4,z2,z3,r3];show(match staticsOk (importedModules p.main.body) (ME w.params) s.abs.heap&&namesBound p s.abs.heap&&gensDone s.abs&&laidKept (ME w.params) s.abs.heap with|true=>_|false=>_)=_;rw[l1]
 unfold openEnds;rw[e];show(topFrom treeTable p w N _).map _=_;rw[t];exact congrArg some (QF l2 l3)
def bootSize:Nat:=11
def bootAnn:Option Value:=some (.ref 6)
theorem boot_tree:∀w:World,absHeap (treeOf (ME w.params).objs.toList .nil 0) bootSize (ME w.params).life=ME w.params:=λw=>by kernel_rfl
theorem boot_size:∀w:World,((ME w.params).isNs mainGlobals,(ME w.params).objs.size,(ME w.params).nsMap mainGlobals "__annotations__")=(true,bootSize,bootAnn):=λw=>by kernel_rfl
abbrev aa(i:Nat):Stmt:=PySem.Challenge.pw_slotwright_k14_starts_in_order.main.body.getD i (.Pass ⟨0,0,0,0⟩)
def view0:Program:={PySem.Challenge.pw_slotwright_k14_starts_in_order with main:={PySem.Challenge.pw_slotwright_k14_starts_in_order.main with body:=[aa 0,aa 2,aa 3,aa 4,aa 5,aa 6,aa 7,aa 8,aa 9,aa 10,aa 11,aa 13,aa 14,aa 15,aa 16,aa 17,aa 18,aa 19,aa 20,aa 21,aa 22,aa 24,aa 25,aa 26,aa 27,aa 28,aa 29,aa 30,aa 31,aa 32,aa 33,aa 35,aa 36,aa 37,aa 38,aa 39,aa 41,aa 42,aa 44,aa 45,aa 46,aa 47,aa 48,aa 49,aa 51,aa 52,aa 53,aa 54,aa 55,aa 56,aa 57,aa 58,aa 59,aa 60,aa 61,aa 62,aa 63,aa 64,aa 65]}}
set_option maxRecDepth 100000
set_option maxHeartbeats 0
theorem runA(w:World)(os:OsState):(topT treeTable PySem.Challenge.pw_slotwright_k14_starts_in_order w bootSize bootAnn 9172 (st0 bootSize w os) (topStub PySem.Challenge.pw_slotwright_k14_starts_in_order)).map (λs=>(looksAt PySem.Challenge.pw_slotwright_k14_starts_in_order (ME w.params) s.abs,(openSeen view0 [L6 "Frame",L6 "judge_lot",L6 "Net"] (importedModules PySem.Challenge.pw_slotwright_k14_starts_in_order.main.body) (λs=>xlAt view0 [] s&&recOk (RowW.records (PySem.Challenge.rw_slotwright_k14_starts_in_order.row.toRowW)) s) true s.abs).1,(openSeen view0 [L6 "Frame",L6 "judge_lot",L6 "Net"] (importedModules PySem.Challenge.pw_slotwright_k14_starts_in_order.main.body) (λs=>xlAt view0 [] s&&recOk (RowW.records (PySem.Challenge.rw_slotwright_k14_starts_in_order.row.toRowW)) s) true s.abs).2.1,(openSeen view0 [L6 "Frame",L6 "judge_lot",L6 "Net"] (importedModules PySem.Challenge.pw_slotwright_k14_starts_in_order.main.body) (λs=>xlAt view0 [] s&&recOk (RowW.records (PySem.Challenge.rw_slotwright_k14_starts_in_order.row.toRowW)) s) true s.abs).2.2.1))=some (true,(openGood view0 [L6 "Frame",L6 "judge_lot",L6 "Net"]).1,(openGood view0 [L6 "Frame",L6 "judge_lot",L6 "Net"]).2.1,(openGood view0 [L6 "Frame",L6 "judge_lot",L6 "Net"]).2.2.1):=by rewrite [Ny];kernel_rfl
theorem runB(w:World)(os:OsState):(topT treeTable PySem.Challenge.pw_slotwright_k14_starts_in_order w bootSize bootAnn 9172 (st0 bootSize w os) (topStub PySem.Challenge.pw_slotwright_k14_starts_in_order)).map (λs=>(openSeen view0 [L6 "Frame",L6 "judge_lot",L6 "Net"] (importedModules PySem.Challenge.pw_slotwright_k14_starts_in_order.main.body) (λs=>xlAt view0 [] s&&recOk (RowW.records (PySem.Challenge.rw_slotwright_k14_starts_in_order.row.toRowW)) s) true s.abs).2.2.2)=some (openGood view0 [L6 "Frame",L6 "judge_lot",L6 "Net"]).2.2.2:=by rewrite [Ny];kernel_rfl
local macro_rules | `(tactic| o_head $H)=> `(tactic| (refine holds_open (q:=view0) (loose:=[L6 "Frame",L6 "judge_lot",L6 "Net"]) (Xt:=λs=>xlAt view0 [] s&&recOk (RowW.records (PySem.Challenge.rw_slotwright_k14_starts_in_order.row.toRowW)) s) (XP:=XL view0 []) (Yf:=Hook.obs $H) (Ya:=Hook.val $H) (YP:=Hook.says $H) (N:=9172) ?hl (Hook.of $H) (Hook.keeps $H) (λs e=>xl_of s (PY.mp e).1) XL.keeps (by rfl) (by rfl) (by rfl) (λs e=>recFacts_of (PY.mp e).2) (by rfl) (by first|assumption|decide+kernel) (by decide+kernel) ⟨rfl,rfl,rfl,rfl,rfl,by decide+kernel⟩ ?hw ?hc;(case hl=>exact left_tree (m0:=bootSize) (ann:=bootAnn) (boot_open (by kernel_rfl) (by decide+kernel) (λs=>by kernel_rfl)) boot_tree boot_size runA runB (λw os=>by rewrite [Ny];kernel_rfl))))
set_option maxRecDepth 100000
set_option maxHeartbeats 0
open_top hd0 for PySem.Challenge.rw_slotwright_k14_starts_in_order
end H0
set_option linter.all false
set_option maxRecDepth 100000
set_option maxHeartbeats 4000000
set_option synthInstance.maxHeartbeats 4000000
set_option synthInstance.maxSize 100000
namespace L2
open PySem PySem.Spec PyProof.Rows
variable{pins:List (Addr×Obj)}{pos:Pos}{A:Around}{u:Value}{w:World}{x m:Str}{K:Frag}{us:List Value}{a C f dx:Addr}{P:Program}{E Q:Value->Shared->Prop}{h base h':Heap}{t' j:Nat}{cm:Bool}{ps N:List Str}{es:List Expr}{tg:Expr}{op:CmpOp}{fd:FuncData}{mg mA:Str->Option Value}{kw:List (Str×Value)}{ch fp:List Addr}{M:Model}
abbrev Key:=Sum Int Str
def fk:Key->Value->Bool
 | .inl k,v=>SM k v
 | .inr x,v=>S7 x v
def Ae(w:World):Key->Int
 | .inl k=>hashInt k
 | .inr x=>hashStr w x
theorem dc:∀{k:Key} {v:Value},fk k v=true->(∃i t,k=Qb i/\v=OU i t)\/(∃x t,k=NW x/\v=NA x t)
 | .inl i,v,h=>by
  obtain⟨t,e⟩:=Value.isInt_shape (k:=i) (v:=v) h;exact .inl ⟨i,t,rfl,e⟩
 | .inr x,v,h=>by
  obtain⟨t,e⟩:=Value.isStrOf_shape (x:=x) (v:=v) h;exact .inr ⟨x,t,rfl,e⟩
theorem Af(i:Int)(t:Tok):fk (.inl i) (.int i t)=true:=by simp[fk,SM]
theorem Ag(x:Str)(t:Tok):fk (.inr x) (.str x t)=true:=by simp[fk,S7]
theorem Ah(a b:Int):decide ((Qb a:Key)=Qb b)=(a==b):=by
 by_cases e:a=b
 .subst e;simp
 .have h:¬ (Qb a:Key)=Qb b:=λq=>e (Sum.inl.inj q)
  rw[decide_eq_false h];exact(beq_eq_false_iff_ne.mpr e).symm
theorem Ai(a b:Str):decide ((NW a:Key)=NW b)=decide (a=b):=by
 by_cases e:a=b
 .subst e;simp
 .have h:¬ (NW a:Key)=NW b:=λq=>e (Rl q)
  rw[decide_eq_false h,decide_eq_false e]
theorem Aj(a:Int)(b:Str):decide ((Qb a:Key)=NW b)=false:=decide_eq_false (λq=>nomatch q)
theorem Ak(a:Str)(b:Int):decide ((NW a:Key)=Qb b)=false:=decide_eq_false (λq=>nomatch q)
def bH(prog:Program)(w:World):PySem.KeyKind prog w Key where
 is:=fk
 hash:=Ae w
 inj:=λv a b ha hb=>by
  rcases dc ha with⟨i,t,rfl,rfl⟩|⟨x,t,rfl,rfl⟩
  .rcases dc hb with⟨j,u,rfl,e⟩|⟨y,u,rfl,e⟩
   .injection e with e1 _;rw[e1]
   .exact nomatch e
  .rcases dc hb with⟨j,u,rfl,e⟩|⟨y,u,rfl,e⟩
   .exact nomatch e
   .injection e with e1 _;rw[e1]
 byValue:=λk v h=>by
  rcases dc h with⟨i,t,rfl,rfl⟩|⟨x,t,rfl,rfl⟩<;>rfl
 pyHash:=λhv h=>by
  rcases dc hv with⟨i,t,rfl,rfl⟩|⟨x,t,rfl,rfl⟩
  .exact wpAny_pyHash_int h
  .exact wpAny_pyHash_str h
 eqBool:=λhu hv h=>by
  rcases dc hu with⟨i,t,rfl,rfl⟩|⟨x,t,rfl,rfl⟩
  .rcases dc hv with⟨j,u,rfl,rfl⟩|⟨y,u,rfl,rfl⟩
   .rw[Ah] at h;exact Rg h
   .rw[Aj] at h;exact SeqAt.EqAt.int_str i t y u _ _ _ _ h
  .rcases dc hv with⟨j,u,rfl,rfl⟩|⟨y,u,rfl,rfl⟩
   .rw[Ak] at h;exact SeqAt.EqAt.str_int x t j u _ _ _ _ h
   .rw[Ai] at h;exact Rh h
 «strs»:= λk x t v h=>by
  rcases dc h with⟨i,u,rfl,e⟩|⟨y,u,rfl,e⟩
  .exact nomatch e
  .injection e with e1 _;subst e1;cases v<;>rfl
theorem Al(prog:Program)(w:World)(i:Int)(t:Tok):(bH prog w).is (.inl i) (.int i t)=true:=Af i t
theorem Am(prog:Program)(w:World)(x:Str)(t:Tok):(bH prog w).is (.inr x) (.str x t)=true:=Ag x t
inductive V where
 |non|bl (b:Bool)|int (i:Int)|str (x:Str)|byt (b:Array UInt8)|flt (b:UInt64)|ref (a:Addr)|ty (n:String)
 deriving DecidableEq
variable{v y:V}{vs:List V}
def RelV:V->Value->Prop
 | .non,u=>u=My
 | .bl b,u=>u=OH b
 | .int i,u=>∃t,u=OU i t
 | .str x,u=>∃t,u=NA x t
 | .byt b,u=>∃t,u=SN b t
 | .flt b,u=>∃t,u=Rm b t
 | .ref a,u=>u=M4 a
 | .ty n,u=>u=NN n
abbrev Vals:List V->List Value->Prop:=Paired RelV
theorem Vals.length{xs:List V}(r:Vals xs us):xs.length=us.length:=Paired.length r
theorem Vals.get:∀{xs:List V} {us:List Value} {i:Nat} {x:V},Vals xs us->xs[i]? = some x->∃u,us[i]? = some u/\RelV x u
 |_,_,_,_,.nil,e=>by simp at e
 |_,_,0,_,.cons r _,e=>by simp at e;subst e;exact⟨_,rfl,r⟩
 |_,_,i+1,x,.cons _ t,e=>by
  obtain⟨u,h1,h2⟩:=Vals.get (i:=i) (x:=x) t (by simpa using e);exact⟨u,by simpa using h1,h2⟩
theorem Vals.set{x:V}(r:RelV x u):∀{xs:List V} {us:List Value} (i:Nat),Vals xs us->Vals (xs.set i x) (us.set i u)
 |_,_,_,.nil=> .nil
 |_,_,0,.cons _ t=> .cons r t
 |_,_,i+1,.cons q t=> .cons q (Vals.set r i t)
theorem Vals.append:∀{xs ys:List V} {us ws:List Value},Vals xs us->Vals ys ws->Vals (xs++ys) (us++ws)
 |_,_,_,_,.nil,s=>s
 |_,_,_,_,.cons r t,s=> .cons r (Vals.append t s)
theorem Vals.take:∀{xs:List V} {us:List Value} (n:Nat),Vals xs us->Vals (xs.take n) (us.take n)
 |_,_,0,_=> .nil
 |_,_,_+1,.nil=> .nil
 |_,_,n+1,.cons r t=> .cons r (Vals.take n t)
theorem Vals.drop:∀{xs:List V} {us:List Value} (n:Nat),Vals xs us->Vals (xs.drop n) (us.drop n)
 |_,_,0,r=>r
 |_,_,_+1,.nil=> .nil
 |_,_,n+1,.cons _ t=>Vals.drop n t
def br:Option V->Option Value->Prop
 |some v,some u=>RelV v u
 |none,none=>True
 |_,_=>False
def KV{κ:Type}:List (κ×V)->List (κ×Value)->Prop:=Paired λ(p:κ×V) (q:κ×Value)=>p.1=q.1/\RelV p.2 q.2
def kV:Key->V
 | .inl i=> .int i
 | .inr x=> .str x
inductive HO where
 |lst (xs:List V)
 |tup (xs:List V)
 |dK (kvs:List (Key×V))|dT (kvs:List (List Key×V))
 |set (S:Int->Bool) (n:Nat)
 |ins (C dx:Addr) (fs:List (Str×V))
 |own (x:Addr)
 |xd (fs:List (Str×V))
 |met (f x:Addr)
 |rng (lo hi:Int)
 |frz (o:Obj) (u:HO)
 |tbl (ps:Array Value)
 |ext (φ:Heap->Prop)
abbrev Hp:=Addr->Option HO
variable{H H':Hp}
def upd(H:Hp)(a:Addr)(o:HO):Hp:=λb=>if b=a then some o else H b
theorem zA{o:HO}:upd H a o a=some o:=by unfold upd;rw[if_pos rfl]
theorem zE{b:Addr}{o:HO}(h:b≠a):upd H a o b=H b:=by unfold upd;rw[if_neg h]
theorem pK{b:Addr}{o u:HO}(h:H a=some o)(h':H b=some u)(d:o≠u):a≠b:=by
 intro e;subst e;rw[h] at h';exact d (Mq h')
theorem zY{b:Addr}{o:HO}(h:H a=some o)(h':H b=none):a≠b:=by
 intro e;subst e;rw[h] at h';cases h'
section
variable(P:Program)(w:World)
def aB(H:Hp)(h:Heap)(a:Addr):HO->Prop
 | .lst xs=>xs.length<=sizeLine/\∃(its:List Value) (n:Nat),Vals xs its/\h.get? a=some {cls:= .type "list",data:= .seq its.toArray n}
 | .tup xs=>xs.length<=sizeLine/\∃its:List Value,Vals xs its/\IsTup h a its.toArray
 | .dK kvs=>kvs.length<=sizeLine/\(a==sysModules)=false/\∃vs,KV kvs vs/\h.DictOf (bH P w) a vs
 | .dT kvs=>kvs.length<=sizeLine/\(a==sysModules)=false/\∃xs:List (List Key×Addr×Value),
   Paired (λ(p:List Key×V) (q:List Key×Addr×Value)=>p.1=q.1/\H q.2.1=some (.tup (p.1.map kV))/\RelV p.2 q.2.2) kvs xs /\
   ∃o es ep,h.get? a=some o/\o.ExactDict/\o.data= .dict es ep/\es.toList=xs.map (entryOfKey (tupleKind (bH P w)))/\(xs.map (·.1)).Nodup
 | .set S n=>h.SetOf (intKind P w) a S n
 | .ins C dx fs=>H dx=some (.own a)/\fs.length<=1000/\dx≠a/\h.get? a=some (instObj C dx) /\
   ∃mA,h.Ns1 dx mA/\(∀f,br (fs.lookup f) (mA f))/\QG mA (fs.map (·.1))
 | .own _=>∃o,h.get? a=some o
 | .xd fs=>∃mA,h.Ns1 a mA/\∀f,br (fs.lookup f) (mA f)
 | .rng lo hi=>∃t u v,h.get? a=some {cls:= .type "range",data:= .fields #[.int lo t,.int hi u,.int 1 v]}
 | .frz o u=>h.get? a=some o/\aB H h a u
 | .tbl ps=>h.get? a=some {cls:= .none,data:= .fields ps}
 | .met f x=>h.get? a=some (methodObj (.ref f) (.ref x))
 | .ext φ=>φ h/\(∃o,h.get? a=some o)/\∀h1 h2:Heap,φ h1->(∀o,h1.get? a=some o->h2.get? a=some o)->φ h2
def HOk(H:Hp)(h:Heap):Prop:=∀a o,H a=some o->aB P w H h a o
end
section
variable{o:HO}
theorem aB.lt(x:aB P w H h a o):a < h.objs.size:=by
 cases o with
 |lst xs=>obtain⟨_,_,_,_,e⟩:=x;exact LB e
 |tup xs=>obtain⟨_,_,_,p⟩:=x;exact p.lt
 |dK kvs=>obtain⟨_,_,_,_,o,_,_,e,_⟩:=x;exact LB e
 |dT kvs=>obtain⟨_,_,_,_,o,_,_,e,_⟩:=x;exact LB e
 |set S n=>obtain⟨o,_,_,_,e,_⟩:=x;exact LB e
 |ins C dx fs=>obtain⟨_,_,_,e,_⟩:=x;exact LB e
 |own y=>obtain⟨_,e⟩:=x;exact LB e
 |xd fs=>obtain⟨_,⟨_,_,_,e,_⟩,_⟩:=x;exact LB e
 |rng lo hi=>obtain⟨_,_,_,e⟩:=x;exact LB e
 |frz ob u=>obtain⟨e,_⟩:=x;exact LB e
 |tbl ps=>exact LB (show h.get? a=some _ from x)
 |met f y=>exact LB (show h.get? a=some _ from x)
 |ext φ=>obtain⟨_,⟨_,e⟩,_⟩:=x;exact LB e
theorem Paired.mapP{α β:Type}{F G:α->β->Prop}:∀{l₁:List α} {l₂:List β},Paired F l₁ l₂->(∀a b,F a b->G a b)->Paired G l₁ l₂
 |_,_,.nil,_=> .nil
 |_,_,.cons r t,f=> .cons (f _ _ r) (Paired.mapP t f)
theorem aB.stay(x:aB P w H h a o)(k:∀b u,(b=a\/H b=some (.own a))->h.get? b=some u->h'.get? b=some u)
  (ho:∀b,H b=some (.own a)->H' b=some (.own a))(ht:∀b xs,H b=some (.tup xs)->H' b=some (.tup xs)):aB P w H' h' a o:=by
 induction o with
 |lst xs=>obtain⟨z,its,n,r,e⟩:=x;exact⟨z,its,n,r,k _ _ (.inl rfl) e⟩
 |tup xs=>obtain⟨z,its,r,ob,e,c⟩:=x;exact⟨z,its,r,ob,k _ _ (.inl rfl) e,c⟩
 |dK kvs=>obtain⟨z,y,vs,r,ob,es,ep,e,c⟩:=x;exact⟨z,y,vs,r,ob,es,ep,k _ _ (.inl rfl) e,c⟩
 |dT kvs =>
  obtain⟨z,y,xs,r,ob,es,ep,e,c⟩:=x;exact⟨z,y,xs,Paired.mapP r λp q z=>⟨z.1,ht _ _ z.2.1,z.2.2⟩,ob,es,ep,k _ _ (.inl rfl) e,c⟩
 |set S n=>obtain⟨ob,es,ep,t,e,c⟩:=x;exact⟨ob,es,ep,t,k _ _ (.inl rfl) e,c⟩
 |ins C dx fs =>
  obtain⟨d,z,ne,e,mA,⟨od,es,ep,e2,c⟩,r⟩:=x;exact⟨ho _ d,z,ne,k _ _ (.inl rfl) e,mA,⟨od,es,ep,k _ _ (.inr d) e2,c⟩,r⟩
 |own y=>obtain⟨ob,e⟩:=x;exact⟨ob,k _ _ (.inl rfl) e⟩
 |xd fs=>obtain⟨mA,⟨od,es,ep,e,c⟩,r⟩:=x;exact⟨mA,⟨od,es,ep,k _ _ (.inl rfl) e,c⟩,r⟩
 |rng lo hi=>obtain⟨t,u,v,e⟩:=x;exact⟨t,u,v,k _ _ (.inl rfl) e⟩
 |frz ob u ih=>obtain⟨e,q⟩:=x;exact⟨k _ _ (.inl rfl) e,ih q⟩
 |tbl ps =>
  have e:h.get? a=some {cls:= .none,data:= .fields ps}:=x;show h'.get? a=some {cls:= .none,data:= .fields ps};exact k a _ (.inl rfl) e
 |met f y =>
  have e:h.get? a=some (methodObj (.ref f) (.ref y)):=x;show h'.get? a=some (methodObj (.ref f) (.ref y));exact k a _ (.inl rfl) e
 |ext φ=>obtain⟨p,⟨o,e⟩,st⟩:=x;exact⟨st _ _ p λo q=>k _ _ (.inl rfl) q,⟨o,k _ _ (.inl rfl) e⟩,st⟩
theorem HOk.lt(x:HOk P w H h)(e:H a=some o):a < h.objs.size:=(x a o e).lt
theorem HOk.fresh(x:HOk P w H h)(e:h.objs.size<=a):H a=none:=by
 cases q:H a with
 |none=>rfl
 |some u=>exact absurd (LS (x.lt q) e) (Nc _)
theorem HOk.kept(x:HOk P w H h)(k:∀b u,h.get? b=some u->h'.get? b=some u):HOk P w H h':=λa o e =>
 (x a o e).stay (λb u _ q=>k b u q) (λ_ q=>q) λ_ _ q=>q
theorem HOk.laid(x:HOk P w H h)(k:∀b u,h.get? b=some u->h'.get? b=some u)(hp:h.objs.size<=a)(new:aB P w (upd H a o) h' a o):HOk P w (upd H a o) h':=λb u e=>by
 have hn:=x.fresh hp;by_cases hb:b=a
 .subst hb;rw[zA] at e;cases e;exact new
 .rw[zE hb] at e;exact(x b u e).stay (λc v _ q=>k c v q) (λc q=>by rw[zE (zY q hn)];exact q) λc xs q=>by rw[zE (zY q hn)];exact q
end
def Rd(H:Hp)(a:Addr)(u:HO):Prop:=H a=some u\/∃o,H a=some (.frz o u)
theorem Rd.ok{u:HO}(r:Rd H a u)(x:HOk P w H h):aB P w H h a u:=by
 rcases r with r|⟨o,r⟩
 .exact x a u r
 .obtain⟨_,q⟩:=x a _ r;exact q
def Mut:Option HO->Prop
 |some (.lst _)=>True
 |some (.dK _)=>True
 |some (.dT _)=>True
 |some (.set _ _)=>True
 |some (.ins _ _ _)=>True
 |some (.ext _)=>True
 |_=>False
section
variable{x e:Addr}{o':HO}
theorem HOk.write(ok:HOk P w H h)(mu:Mut (H x))(he:e=x\/H e=some (.own x))(k:∀b u,b≠e->h.get? b=some u->h'.get? b=some u)(heo:∃u,h'.get? e=some u)
  (new:aB P w (upd H x o') h' x o'):HOk P w (upd H x o') h':=λb u q=>by
 have nown:∀c y,H c=some (.own y)->c≠x:=λc y r z=>by subst z;rw[r] at mu;exact mu
 have ntup:∀c xs,H c=some (.tup xs)->c≠x:=λc xs r z=>by subst z;rw[r] at mu;exact mu
 by_cases hb:b=x
 .subst hb;rw[zA] at q;cases q;exact new
 .rw[zE hb] at q;by_cases hbe:b=e
  .have q':H b=some (.own x):=by
    rcases he with z|z
    .exact absurd (hbe.trans z) hb
    .rw[hbe];exact z
   rw[q] at q';cases q';obtain⟨v,hv⟩:=heo;exact⟨v,by rw[hbe];exact hv⟩
  .refine(ok b u q).stay (λc v hc r=>k c v ?_ r) (λc r=>by rw[zE (nown c b r)];exact r) λc xs r=>by rw[zE (ntup c xs r)];exact r
   rcases hc with rfl|hc
   .exact hbe
   .rintro rfl;rcases he with z|z
    .exact nown c b hc z
    .rw[hc] at z;cases z;exact hb rfl
end
structure Un(fs ex:List Addr)(H H':Hp)(h h':Heap):Prop where
 keep:∀b o,h.get? b=some o->H b=none->b∉fs->b∉ex->h'.get? b=some o
 slot:∀b o,h.get? b=some o->H b=none->b∈fs->b∉ex->∃sl,h'.get? b=some {o with slots:=sl}
 free:∀b o,h.get? b=some o->H b=none->b∉ex->H' b=none
 there:∀b o,h.get? b=some o->b∉ex->∃o',h'.get? b=some o'
 tups:∀b xs,H b=some (.tup xs)->H' b=some (.tup xs)
 frzs:∀b o u,H b=some (.frz o u)->H' b=some (.frz o u)
 tbls:∀b ps,H b=some (.tbl ps)->∃more,H' b=some (.tbl (ps++more))
section
variable{fs fs' ex ex':List Addr}{H1 H2:Hp}{h1 h2:Heap}{x e:Addr}{o:HO}
theorem Un.any(u:Un fs ex H H1 h h1){b:Addr}{ob:Obj}(q:h.get? b=some ob)(n:H b=none)(hx:b∉ex):∃sl,h1.get? b=some {ob with slots:=sl}:=by
 by_cases hb:b∈fs
 .exact u.slot b ob q n hb hx
 .exact⟨ob.slots,u.keep b ob q n hb hx⟩
theorem Un.kept(k:∀b u,h.get? b=some u->h'.get? b=some u):Un fs ex H H h h' :=
 ⟨λb ob q _ _ _=>k b ob q,λb ob q _ _ _=>⟨ob.slots,k b ob q⟩,λ_ _ _ n _=>n,λb ob q _=>⟨ob,k b ob q⟩,λ_ _ q=>q,λ_ _ _ q=>q,λ_ ps q=>⟨#[],by rw[q];simp⟩⟩
theorem Un.refl:Un fs ex H H h h:=Un.kept λ_ _ q=>q
theorem Un.laid(k:∀b u,h.get? b=some u->h'.get? b=some u)(hp:h.objs.size<=a)(hn:H a=none):Un fs ex H (upd H a o) h h' where
 keep:=λb u q _ _ _=>k b u q
 slot:=λb u q _ _ _=>⟨u.slots,k b u q⟩
 free:=λb u q n _=>by rw[zE (LJ (LS (LB q) hp))];exact n
 there:=λb u q _=>⟨u,k b u q⟩
 tups:=λb xs q=>by rw[zE (zY q hn)];exact q
 frzs:=λb u xs q=>by rw[zE (zY q hn)];exact q
 tbls:=λb ps q=>⟨#[],by rw[zE (zY q hn),q];simp⟩
theorem Un.write(mu:Mut (H x))(he:e=x\/H e=some (.own x))(k:∀b u,b≠e->h.get? b=some u->h'.get? b=some u)(heo:∃u,h'.get? e=some u):Un fs ex H (upd H x o) h h':=by
 have hx:∀b,H b=none->b≠x:=λb n z=>by subst z;rw[n] at mu;exact mu
 have hb:∀b,H b=none->b≠e:=λb n z=>by
  subst z;rcases he with r|r
  .exact hx b n r
  .rw[n] at r;cases r
 have hm:∀b u,H b=some u->¬ Mut (some u)->b≠x:=λb u q nm z=>by subst z;rw[q] at mu;exact nm mu
 refine⟨λb u q n _ _=>k b u (hb b n) q,λb u q n _ _=>⟨u.slots,k b u (hb b n) q⟩,λb u q n _=>by rw[zE (hx b n)];exact n,λb u q _=>?_,
  λb xs q=>by rw[zE (hm b _ q λz=>z)];exact q,λb u xs q=>by rw[zE (hm b _ q λz=>z)];exact q,λb ps q=>⟨#[],by rw[zE (hm b _ q λz=>z),q];simp⟩⟩
 by_cases hbe:b=e
 .subst hbe;exact heo
 .exact⟨u,k b u hbe q⟩
end
def trk(h:Heap)(H:Hp):List Addr:=(Mz h.objs.size).filter λa=>(H a).isSome
def de(h:Heap)(H:Hp):Heap:=PySem.W.hideAll h (trk h H)
theorem An(h:Heap)(H:Hp):(de h H).objs.size=h.objs.size:=PySem.W.hideAll_size _ _
theorem Ao{b:Addr}{o:Obj}(e:h.get? b=some o)(n:H b=none):(de h H).get? b=some o :=
 PySem.W.hideAll_get _ e λhm=>by
  have q:(H b).isSome=true:=(MB.mp hm).2;rw[n] at q;simp at q
theorem Ap{b:Addr}{o:Obj}(e:(de h H).get? b=some o):h.get? b=some o/\H b=none:=by
 have e':h.get? b=some o:=PySem.W.of_hideAll (trk h H) e;refine⟨e',?_⟩;cases q:H b with
 |none=>rfl
 |some x =>
  have hm:b∈trk h H:=MB.mpr ⟨MS.mpr (LB e'),by simp[q]⟩;have z:(de h H).get? b=none:=PySem.W.hideAll_none (trk h H) hm;rw[z] at e;cases e
def Aq(g h:Heap)(L:Addr):List (Addr×Obj):=(Mz h.objs.size).filterMap λa=>if a=L\/(g.get? a).isSome=true then none else(h.get? a).map λo=>(a,o)
def rest(g h:Heap)(L d:Addr):List (Addr×Obj):=(Aq g h L).filter λp=>decide (p.1≠d)
structure Mod(K:Frag)(mg:Str->Option Value)(base:Heap):Prop where
 kin:K.In base
 glob:base.Ns mainGlobals mg
 blt:∃mb,base.Ns builtinsNs mb/\∀x:Str,x≠"__name__"->mb x=bootBuiltins x
 nolimit:base.NoLimit
structure Cx where
 prog:Program
 w:World
 K:Frag
 mg:Str->Option Value
 base:Heap
 A:Around
 N:List Str
 s₀:Shared
 H₀:Hp
 env:Env
 outer:List Env
 stack:List Env
 ex:List Addr
 fn:Str->Bool
 calm:Bool
 pn:List (Addr×Obj)
 xe:Value->Shared->Prop
variable{X:Cx}
def frs(l:List Env):List Addr:=l.filterMap (·.frame)
abbrev Cx.fs(X:Cx):List Addr:=frs X.outer
def Vis(sc:Scope)(x:Str):Prop:=sc.names.lookup x=some .local\/sc.names.lookup x=some .cell\/sc.names.lookup x=some .free
def Loc(sc:Scope)(x:Str):Prop:=sc.names.lookup x=some .local\/sc.names.lookup x=some .cell
def Look(env:Env)(h:Heap)(m:Str->Option Value)(x:Str)(u:Value):Prop :=
 (env.kindOf x=some .local/\m x=some u)\/((env.kindOf x=some .cell\/env.kindOf x=some .free)/\∃c,env.cells.lookup x=some c/\h.IsCell c (some u))
structure Cx.Ok(X:Cx):Prop where
 mod:Mod X.K X.mg X.base
 kind:X.env.scope.kind= .function
 glob:X.env.globals=mainGlobals
 blt:X.env.builtins=builtinsNs
 above:X.s₀.heap.objs.size<=X.env.locals
 inj:∀x y c,X.env.cells.lookup x=some c->X.env.cells.lookup y=some c->x=y
 has:∀x,(X.env.kindOf x=some .cell\/X.env.kindOf x=some .free)->∃c,X.env.cells.lookup x=some c
 cab:∀x c,X.fn x=true->X.env.cells.lookup x=some c->X.s₀.heap.objs.size<=c
 hd:X.calm=true->X.A.handled=none
 frames:X.A.frames=some X.stack
 stk:X.stack=X.outer\/(X.stack=X.env::X.outer/\X.env.frame=some X.env.locals)
 exf:∀b∈X.ex,b≠X.env.locals/\∀x c,X.env.cells.lookup x=some c->c≠b
 bs:∀b o,X.base.get? b=some o->X.s₀.heap.get? b=some o/\X.H₀ b=none
 bsz:X.base.objs.size<=X.s₀.heap.objs.size
 noex:∀b o,X.base.get? b=some o->b∉X.ex
 exfs:∀b∈X.ex,b∉X.fs
 funs:X.s₀.heap.FunFrames X.base X.outer
 frf:∀b∈X.fs,X.H₀ b=none
structure Inv(X:Cx)(pins:List (Addr×Obj))(σ:List (Option V))(H:Hp)(s:Shared):Prop where
 ok:X.Ok
 os:s.os=X.s₀.os
 bare:AllBare s.gens
 base:Un X.fs X.ex X.H₀ H X.s₀.heap s.heap
 loc:∃m,s.heap.Ns X.env.locals m/\∀(i:Nat) (x:Str) (v:V),X.N[i]? = some x->σ[i]? = some (some v)->Vis X.env.scope x->∃u,RelV v u/\Look X.env s.heap m x u
 cell:∀x c,X.env.cells.lookup x=some c->∃v,s.heap.IsCell c v
 free:H X.env.locals=none
 freeC:∀x c,X.env.cells.lookup x=some c->H c=none
 pin:∀p∈X.pn++pins,s.heap.get? p.1=some p.2/\H p.1=none/\p.1≠X.env.locals/\p.1∉X.fs/\∀v,p.2.data≠ .cell v
 hok:HOk X.prog X.w H s.heap
 len:σ.length=X.N.length
section
variable{σ:List (Option V)}{s:Shared}
theorem Cx.Ok.nofr(ok:X.Ok){b:Addr}{o:Obj}(e:X.base.get? b=some o):b∉X.fs:=λhb=>by
 have:=(ok.funs.mem hb).1;rw[e] at this;cases this
theorem Inv.bs(I:Inv X pins σ H s):∀b o,X.base.get? b=some o->s.heap.get? b=some o/\H b=none:=λb o e =>
 ⟨I.base.keep b o (I.ok.bs b o e).1 (I.ok.bs b o e).2 (I.ok.nofr e) (I.ok.noex b o e),I.base.free b o (I.ok.bs b o e).1 (I.ok.bs b o e).2 (I.ok.noex b o e)⟩
theorem Inv.bk(I:Inv X pins σ H s):∀b o,X.base.get? b=some o->s.heap.get? b=some o:=λb o e=>(I.bs b o e).1
theorem Inv.mod(I:Inv X pins σ H s):Mod X.K X.mg X.base:=I.ok.mod
theorem Inv.kIn(I:Inv X pins σ H s):X.K.In s.heap:=I.ok.mod.kin.keeps I.bk
theorem Inv.lt(I:Inv X pins σ H s):X.env.locals < s.heap.objs.size:=let ⟨_,hn,_⟩:=I.loc;hn.lt
theorem Inv.sz(I:Inv X pins σ H s):X.s₀.heap.objs.size<=s.heap.objs.size:=M6 I.ok.above (Nd I.lt)
theorem Inv.nofs(I:Inv X pins σ H s)(h:s.heap.objs.size<=a):a∉X.fs:=λhb=>by
 obtain⟨_,o,ho,_⟩:=I.ok.funs.mem hb;exact absurd (LS (LB ho) (M6 I.sz h)) (Nc _)
theorem Inv.cne(I:Inv X pins σ H s):∀x c,X.env.cells.lookup x=some c->c≠X.env.locals:=λx c e z=>by
 obtain⟨v,o,ho,hd⟩:=I.cell x c e;obtain⟨m,⟨o',es,ep,ho',hd',_⟩,_⟩:=I.loc;rw[z,ho'] at ho;cases ho;rw[hd'] at hd;cases hd
theorem Inv.funs(I:Inv X pins σ H s):s.heap.FunFrames X.base X.outer:=by
 have all:∀(l:List Env),(∀b∈frs l,b∈X.fs)->X.s₀.heap.FunFrames X.base l->s.heap.FunFrames X.base l:=by
  intro l;induction l with
  |nil=>intro _ _;trivial
  |cons env r ih =>
   intro hs hl;obtain⟨hk,⟨L,o,hf,hn,ho,hd⟩,hr⟩:=hl;have hL:L∈X.fs:=hs L (by unfold frs;rw[Nk,hf];exact LO);obtain⟨sl,e⟩:=I.base.slot L o ho (I.ok.frf L hL) hL λz=>I.ok.exfs L z hL
   exact⟨hk,⟨L,_,hf,hn,e,hd⟩,ih (λb hb=>hs b (by unfold frs;rw[Nk,hf];exact LN _ hb)) hr⟩
 exact all X.outer (λ_ hb=>hb) I.ok.funs
theorem Inv.stack(I:Inv X pins σ H s):s.heap.FunFrames X.base X.stack:=by
 rcases I.ok.stk with e|⟨e,hf⟩
 .rw[e];exact I.funs
 .rw[e];obtain⟨m,hn,_⟩:=I.loc;refine .cons (by rw[I.ok.kind];decide) hf hn ?_ I.funs;exact OL (M6 I.ok.bsz I.ok.above)
theorem Inv.stkSub(I:Inv X pins σ H s):∀b∈frs X.stack,b∈X.env.locals::X.fs:=λb hb=>by
 rcases I.ok.stk with e|⟨e,hf⟩
 .rw[e] at hb;exact LN _ hb
 .rw[e] at hb;unfold frs at hb;rw[Nk,hf] at hb;exact hb
theorem Inv.stkFree(I:Inv X pins σ H s):∀b∈frs X.stack,H b=none:=λb hb=>by
 rcases LD.mp (I.stkSub b hb) with e|hb
 .rw[e];exact I.free
 .obtain⟨_,o,ho,_⟩:=I.ok.funs.mem hb;exact I.base.free b o ho (I.ok.frf b hb) λz=>I.ok.exfs b z hb
theorem Inv.step{g':Array GenState}{d':Drawn}(I:Inv X pins σ H s)
  (hch:∀b∈ch,(b∈X.ex\/X.s₀.heap.objs.size<=b)/\b≠X.env.locals/\(∀x c,X.env.cells.lookup x=some c->c≠b)/\∀p∈X.pn++pins,p.1≠b)
  (keep:∀b o,b≠X.env.locals->b∉X.fs->b∉ch->s.heap.get? b=some o->H b=none->h'.get? b=some o)
  (slot:∀b o,b≠X.env.locals->b∈X.fs->b∉ch->s.heap.get? b=some o->H b=none->∃sl,h'.get? b=some {o with slots:=sl})(free:∀b o,b∉ch->s.heap.get? b=some o->H b=none->H' b=none)
  (there:∀b o,b∉ch->s.heap.get? b=some o->∃o',h'.get? b=some o')
  (tups:∀b xs,H b=some (.tup xs)->H' b=some (.tup xs))(frzs:∀b o u,H b=some (.frz o u)->H' b=some (.frz o u))(tbls:∀b ps,H b=some (.tbl ps)->∃more,H' b=some (.tbl (ps++more)))
  (ns:∀m,s.heap.Ns X.env.locals m->h'.Ns X.env.locals m)(hok:HOk X.prog X.w H' h')(hg:AllBare g') :
  Inv X pins σ H' {s with heap:=h',gens:=g',drawn:=d',toks:=t'}:=by
 have neL:∀b o,X.s₀.heap.get? b=some o->b≠X.env.locals:=λb o e=>LJ (LS (LB e) I.ok.above)
 have neC:∀b o,X.s₀.heap.get? b=some o->b∉X.ex->b∉ch:=λb o e hx hb=>by
  rcases(hch b hb).1 with z|z
  .exact hx z
  .exact absurd (LS (LB e) z) (Nc _)
 have cellK:∀x c,X.env.cells.lookup x=some c->∀v,s.heap.IsCell c v->h'.IsCell c v:=λx c e v ⟨o,ho,hd⟩=>by
  have nch:c∉ch:=λz=>(hch c z).2.2.1 x c e rfl
  by_cases hc:c∈X.fs
  .obtain⟨sl,q⟩:=slot c o (I.cne x c e) hc nch ho (I.freeC x c e);exact⟨_,q,hd⟩
  .exact⟨o,keep c o (I.cne x c e) hc nch ho (I.freeC x c e),hd⟩
 refine⟨I.ok,I.os,hg,⟨λb o e n hb hx=>?_,λb o e n hb hx=>?_,λb o e n hx=>?_,λb o e hx=>?_,λb xs e=>tups b xs (I.base.tups b xs e),λb o xs e=>frzs b o xs (I.base.frzs b o xs e),λb ps e=>?_⟩,?_,λx c e=>?_,?_,λx c e=>?_,λp hp=>?_,hok,I.len⟩
 .exact keep b o (neL b o e) hb (neC b o e hx) (I.base.keep b o e n hb hx) (I.base.free b o e n hx)
 .obtain⟨sl,e1⟩:=I.base.slot b o e n hb hx;obtain⟨sl',e2⟩:=slot b _ (neL b o e) hb (neC b o e hx) e1 (I.base.free b o e n hx);exact⟨sl',e2⟩
 .obtain⟨o',e1⟩:=I.base.there b o e hx;exact free b o' (neC b o e hx) e1 (I.base.free b o e n hx)
 .obtain⟨o',e1⟩:=I.base.there b o e hx;exact there b o' (neC b o e hx) e1
 .obtain⟨m1,e1⟩:=I.base.tbls b ps e;obtain⟨m2,e2⟩:=tbls b _ e1;exact⟨m1++m2,by rw[e2,Array.append_assoc]⟩
 .obtain⟨m,hn,hl⟩:=I.loc;refine⟨m,ns m hn,λi x v e1 e2 e3=>?_⟩;obtain⟨u,r,l⟩:=hl i x v e1 e2 e3;refine⟨u,r,?_⟩;rcases l with l|⟨k,c,e,z⟩
  .exact .inl l
  .exact .inr ⟨k,c,e,cellK x c e _ z⟩
 .obtain⟨v,z⟩:=I.cell x c e;exact⟨v,cellK x c e v z⟩
 .obtain⟨m,⟨o,_,_,ho,_⟩,_⟩:=I.loc;exact free _ o (λz=>(hch _ z).2.1 rfl) ho I.free
 .obtain⟨v,o,ho,hd⟩:=I.cell x c e;exact free c o (λz=>(hch c z).2.2.1 x c e rfl) ho (I.freeC x c e)
 .obtain⟨e,n,ne,nf,d⟩:=I.pin p hp;have nch:p.1∉ch:=λz=>(hch p.1 z).2.2.2 p hp rfl
  exact⟨keep p.1 p.2 ne nf nch e n,free p.1 p.2 nch e n,ne,nf,d⟩
theorem Inv.un(I:Inv X pins σ H s)(u:Un X.fs [] H H' s.heap h')(hok:HOk X.prog X.w H' h'):Inv X pins σ H' {s with heap:=h',toks:=t'}:=by
 obtain⟨m,⟨o,es,ep,ho,r⟩,_⟩:=id I.loc;obtain⟨sl,hL⟩:=u.any ho I.free (by simp);exact I.step (g':=s.gens) (d':=s.drawn) (ch:=[]) (λ_ z=>nomatch z) (λb o _ hb _ e n=>u.keep b o e n hb (by simp)) (λb o _ hb _ e n=>u.slot b o e n hb (by simp)) (λb o _ e n=>u.free b o e n (by simp)) (λb o _ e=>u.there b o e (by simp)) u.tups u.frzs u.tbls (λm' hm=>by
  obtain⟨o',es',ep',ho',r'⟩:=hm;rw[ho] at ho';cases ho';exact⟨_,es',ep',hL,r'⟩) hok I.bare
theorem Inv.call{g':Array GenState}{d':Drawn}(I:Inv X pins σ H s)(u:Un (frs X.stack) ch H H' s.heap h')(hok:HOk X.prog X.w H' h')(hg:AllBare g')
  (hch:∀b∈ch,(b∈X.ex\/X.s₀.heap.objs.size<=b)/\b≠X.env.locals/\(∀x c,X.env.cells.lookup x=some c->c≠b)/\∀p∈X.pn++pins,p.1≠b) :
  Inv X pins σ H' {s with heap:=h',gens:=g',drawn:=d',toks:=t'}:=by
 obtain⟨m,⟨o,es,ep,ho,r⟩,_⟩:=id I.loc;obtain⟨sl,hL⟩:=u.any ho I.free λz=>(hch _ z).2.1 rfl
 exact I.step (ch:=ch) hch (λb o hL hb hc e n=>u.keep b o e n (λz=>(LD.mp (I.stkSub b z)).elim hL hb) hc) (λb o _ _ hc e n=>u.any e n hc) (λb o hc e n=>u.free b o e n hc) (λb o hc e=>u.there b o e hc) u.tups u.frzs u.tbls (λm' hm=>by
  obtain⟨o',es',ep',ho',r'⟩:=hm;rw[ho] at ho';cases ho';exact⟨_,es',ep',hL,r'⟩) hok hg
theorem Inv.turned{it:Addr}(I:Inv X pins σ H s)(k:∀b o,b≠it->s.heap.get? b=some o->h'.get? b=some o)(hn:H it=none)(hL:it≠X.env.locals)
  (h1:it∈X.ex\/X.s₀.heap.objs.size<=it)(h2:∀x c,X.env.cells.lookup x=some c->c≠it)(h3:∀p∈X.pn++pins,p.1≠it):Inv X pins σ H {s with heap:=h',toks:=t'}:=by
 have nit:∀b u,H b=some u->b≠it:=λb u e z=>by rw[z,hn] at e;cases e
 refine I.step (g':=s.gens) (d':=s.drawn) (ch:=[it]) (λb hb=>?_) (λb o _ _ hc e _=>k b o (λz=>hc (by simp[z])) e) (λb o _ _ hc e _=>⟨o.slots,k b o (λz=>hc (by simp[z])) e⟩) (λ_ _ _ _ n=>n)
  (λb o hc e=>⟨o,k b o (λz=>hc (by simp[z])) e⟩) (λ_ _ e=>e) (λ_ _ _ e=>e) (λb ps e=>⟨#[],by rw[e];simp⟩) (λm hm=>?_) (λb u e=>?_) I.bare
 .have e:b=it:=by simpa using hb
  subst e;exact⟨h1,hL,h2,h3⟩
 .obtain⟨o,es,ep,ho,r⟩:=hm;exact⟨o,es,ep,k _ o (Ne.symm hL) ho,r⟩
 .refine(I.hok b u e).stay (λc v hc q=>k c v ?_ q) (λ_ q=>q) λ_ _ q=>q
  rcases hc with z|z
  .rw[z];exact nit b u e
  .exact nit c _ z
theorem Inv.tok(I:Inv X pins σ H s)(t:Nat):Inv X pins σ H {s with toks:=t}:=I.un (h':=s.heap) (t':=t) Un.refl I.hok
theorem Inv.kept(I:Inv X pins σ H s)(k:∀b u,s.heap.get? b=some u->h'.get? b=some u):Inv X pins σ H {s with heap:=h',toks:=t'}:=I.un (Un.kept k) (I.hok.kept k)
theorem Inv.laid{o:HO}(I:Inv X pins σ H s)(k:∀b u,s.heap.get? b=some u->h'.get? b=some u)(hp:s.heap.objs.size<=a)(new:aB X.prog X.w (upd H a o) h' a o) :
  Inv X pins σ (upd H a o) {s with heap:=h',toks:=t'}:=I.un (Un.laid k hp (I.hok.fresh hp)) (I.hok.laid k hp new)
theorem Inv.write{x e:Addr}{o:HO}(I:Inv X pins σ H s)(mu:Mut (H x))(he:e=x\/H e=some (.own x))(k:∀b u,b≠e->s.heap.get? b=some u->h'.get? b=some u)(heo:∃u,h'.get? e=some u)
  (new:aB X.prog X.w (upd H x o) h' x o):Inv X pins σ (upd H x o) {s with heap:=h',toks:=t'}:=I.un (Un.write mu he k heo) (I.hok.write mu he k heo new)
theorem Inv.weak{σ':List (Option V)}(I:Inv X pins σ H s)(hl:σ'.length=σ.length)(w:∀(i:Nat) v,σ'[i]? = some (some v)->σ[i]? = some (some v)):Inv X pins σ' H s :=
 ⟨I.ok,I.os,I.bare,I.base,let ⟨m,hn,hl'⟩:=I.loc;⟨m,hn,λi x v e1 e2 e3=>hl' i x v e1 (w i v e2) e3⟩,I.cell,I.free,I.freeC,I.pin,I.hok,hl.trans I.len⟩
theorem Inv.pins_of{pins':List (Addr×Obj)}(I:Inv X pins σ H s)(h:∀p∈pins',s.heap.get? p.1=some p.2/\H p.1=none/\p.1≠X.env.locals/\p.1∉X.fs/\∀v,p.2.data≠ .cell v):Inv X pins' σ H s :=
 ⟨I.ok,I.os,I.bare,I.base,I.loc,I.cell,I.free,I.freeC,λp hp=>(LX.mp hp).elim (λz=>I.pin p (LL _ z)) (h p),I.hok,I.len⟩
theorem pL(hN:N.Nodup){i:Nat}(a:N[i]? = some x)(b:N[j]? = some x):i=j:=by
 obtain⟨h1,e1⟩:=L7.mp a;obtain⟨h2,e2⟩:=L7.mp b;exact(Pg hN).mp (e1.trans e2.symm)
theorem pM{i:Nat}{Q:Unit->Shared->Prop}(I:Inv X pins σ H s)(hN:X.N.Nodup)(hi:X.N[i]? = some x)(hx:Loc X.env.scope x)(r:RelV v u)
  (h:∀s',Inv X pins (σ.set i (some v)) H s'->(∃a,MY a s.heap s'.heap/\(a=X.env.locals\/X.env.cells.lookup x=some a))->Q () s')(hf:X.fn x=true\/X.env.scope.names.lookup x=some .local:=by first|exact .inl rfl|exact .inr rfl|assumption):wpAny M A (storeName X.env x u) Q E s:=by
 obtain⟨m,hn,hl⟩:=id I.loc;have hcls:(X.env.scope.kind== .class||(X.env.scope.kind== .module&&X.env.locals !=X.env.globals))=false:=by rw[I.ok.kind];rfl
 have hiσ:i < σ.length:=by rw[I.len];exact(L7.mp hi).1
 have cne:=I.cne;have tracked:∀{a:Addr} {h':Heap},(∃o,s.heap.get? a=some o/\H a=none)->MY a s.heap h'->HOk X.prog X.w H h':=λ{a h'} ha hs b ob e=>by
  obtain⟨_,_,hfree⟩:=ha;refine(I.hok b ob e).stay (λc w' hc q=>(hs.2 c ?_).trans q) (λ_ q=>q) λ_ _ q=>q
  rintro rfl;rcases hc with rfl|hc
  .rw[hfree] at e;cases e
  .rw[hfree] at hc;cases hc
 rcases hx with hk|hk
 .refine wpAny_storeName_local hk hn (λh' hn' hs=>?_) hcls;obtain⟨oL,_,_,hoL,_⟩:=id hn;refine h _ ⟨I.ok,I.os,I.bare,⟨λb o e n hb hx=>?_,λb o e n hb hx=>?_,I.base.free,λb o e hx=>?_,I.base.tups,I.base.frzs,I.base.tbls⟩,⟨_,hn',λj y v' e1 e2 e3=>?_⟩,λy c e=>?_,I.free,I.freeC,λp hp=>?_,tracked ⟨oL,hoL,I.free⟩ hs,by simpa using I.len⟩ ⟨_,hs,.inl rfl⟩
  .exact(hs.2 b (LJ (LS (LB e) I.ok.above))).trans (I.base.keep b o e n hb hx)
  .obtain⟨sl,e1⟩:=I.base.slot b o e n hb hx;exact⟨sl,(hs.2 b (LJ (LS (LB e) I.ok.above))).trans e1⟩
  .obtain⟨o',e1⟩:=I.base.there b o e hx;exact⟨o',(hs.2 b (LJ (LS (LB e) I.ok.above))).trans e1⟩
  .by_cases hj:j=i
   .subst hj;rw[hi] at e1;cases e1;rw[MZ hiσ] at e2;cases e2;exact⟨u,r,.inl ⟨hk,by simp⟩⟩
   .rw[MT (Ne.symm hj)] at e2;obtain⟨u',r',q⟩:=hl j y v' e1 e2 e3;refine⟨u',r',?_⟩;rcases q with⟨k,e⟩|⟨k,c,e,z⟩
    .refine .inl ⟨k,?_⟩;have:y≠x:=λe=>hj (pL hN e1 (e▸hi))
     simp[this,e]
    .exact .inr ⟨k,c,e,z.sameBut hs (cne y c e)⟩
  .obtain⟨w',z⟩:=I.cell y c e;exact⟨w',z.sameBut hs (cne y c e)⟩
  .obtain⟨e,n,ne,nf,d⟩:=I.pin p hp;exact⟨(hs.2 p.1 ne).trans e,n,ne,nf,d⟩
 .have hfn:X.fn x=true:=by
   rcases hf with z|z
   .exact z
   .rw[z] at hk;cases hk
  obtain⟨c,hc⟩:=I.ok.has x (.inl hk);obtain⟨w',z⟩:=I.cell x c hc;refine wpAny_storeName_cell I.ok.kind hk hc z (λh' hc' hs=>?_);obtain⟨oc,hoc,hocd⟩:=id z;refine h {s with heap:=h'} ⟨I.ok,I.os,I.bare,⟨λb o e n hb hx=>?_,λb o e n hb hx=>?_,I.base.free,λb o e hx=>?_,I.base.tups,I.base.frzs,I.base.tbls⟩,⟨m,hn.sameBut hs (Ne.symm (cne x c hc)),λj y v' e1 e2 e3=>?_⟩,λy c' e=>?_,I.free,I.freeC,λp hp=>?_,tracked ⟨oc,hoc,I.freeC x c hc⟩ hs,by simpa using I.len⟩ ⟨c,hs,.inr hc⟩
  .exact(hs.2 b (LJ (LS (LB e) (I.ok.cab x c hfn hc)))).trans (I.base.keep b o e n hb hx)
  .obtain⟨sl,e1⟩:=I.base.slot b o e n hb hx;exact⟨sl,(hs.2 b (LJ (LS (LB e) (I.ok.cab x c hfn hc)))).trans e1⟩
  .obtain⟨o',e1⟩:=I.base.there b o e hx;exact⟨o',(hs.2 b (LJ (LS (LB e) (I.ok.cab x c hfn hc)))).trans e1⟩
  .by_cases hj:j=i
   .subst hj;rw[hi] at e1;cases e1;rw[MZ hiσ] at e2;cases e2;exact⟨u,r,.inr ⟨.inl hk,c,hc,hc'⟩⟩
   .rw[MT (Ne.symm hj)] at e2;obtain⟨u',r',q⟩:=hl j y v' e1 e2 e3;refine⟨u',r',?_⟩;rcases q with q|⟨k,c',e,z'⟩
    .exact .inl q
    .refine .inr ⟨k,c',e,z'.sameBut hs ?_⟩;rintro rfl;exact hj (pL hN e1 (I.ok.inj _ _ _ e hc▸hi))
  .by_cases hcc:c'=c
   .subst hcc;exact⟨_,hc'⟩
   .obtain⟨w2,z2⟩:=I.cell y c' e;exact⟨w2,z2.sameBut hs hcc⟩
  .obtain⟨e,n,ne,nf,d⟩:=I.pin p hp;refine⟨(hs.2 p.1 ?_).trans e,n,ne,nf,d⟩;intro q;rw[q,hoc] at e;have q':oc=p.2:=Mq e;exact d w' (by rw[<- q'];exact hocd)
theorem pN{i:Nat}{Q:Unit->Shared->Prop}(I:Inv X pins σ H s)(hN:X.N.Nodup)(hi:X.N[i]? = some x)(hx:Loc X.env.scope x)(r:RelV v u)
  (h:∀s',Inv X pins (σ.set i (some v)) H s'->Q () s')(hf:X.fn x=true\/X.env.scope.names.lookup x=some .local:=by first|exact .inl rfl|exact .inr rfl|assumption):wpAny M A (storeName X.env x u) Q E s :=
 pM I hN hi hx r (λs' I' _=>h s' I') hf
theorem Inv.call'{s':Shared}(I:Inv X pins σ H s)(ho:s'.os=s.os)(u:Un (frs X.stack) ch H H' s.heap s'.heap)(hok:HOk X.prog X.w H' s'.heap)(hg:AllBare s'.gens)
  (hch:∀b∈ch,(b∈X.ex\/X.s₀.heap.objs.size<=b)/\b≠X.env.locals/\(∀x c,X.env.cells.lookup x=some c->c≠b)/\∀p∈X.pn++pins,p.1≠b):Inv X pins σ H' s':=by
 obtain⟨h',g',d',t',o'⟩:=s';have e:o'=s.os:=ho;subst e;exact I.call (g':=g') (t':=t') (d':=d') u hok hg hch
end
abbrev XK:=Value->Option Addr->Hp->Prop
abbrev St:=List (Option V)
variable{σ:St}
abbrev VK:=V->Hp->Prop
abbrev TE:=St->Hp->VK->Prop
variable{ta te tb:TE}
abbrev TT:=St->Hp->(Bool->Hp->Prop)->Prop
abbrev TA:=St->Hp->(List V->Hp->Prop)->Prop
structure Ends where
 nx:St->Hp->Prop
 rt:VK
 bk:St->Hp->Prop:=λ_ _=>False
 ct:St->Hp->Prop:=λ_ _=>False
abbrev TS:=Ends->St->Hp->Prop
def EP(X:Cx)(pins:List (Addr×Obj))(σ:St)(Q:VK)(u:Value)(s':Shared):Prop:=∃v H',Inv X pins σ H' s'/\RelV v u/\Q v H'
def TP(X:Cx)(pins:List (Addr×Obj))(σ:St)(Q:Bool->Hp->Prop)(b:Bool)(s':Shared):Prop:=∃H',Inv X pins σ H' s'/\Q b H'
def AP(X:Cx)(pins:List (Addr×Obj))(σ:St)(Q:List V->Hp->Prop)(us:List Value)(s':Shared):Prop:=∃vs H',Inv X pins σ H' s'/\Vals vs us/\Q vs H'
def SP(X:Cx)(pins:List (Addr×Obj))(D:Ends)(f:Flow)(s':Shared):Prop :=
 match f with
 | .next=>∃ σ' H',Inv X pins σ' H' s'/\D.nx σ' H'
 | .brk=>∃ σ' H',Inv X pins σ' H' s'/\D.bk σ' H'
 | .cont=>∃ σ' H',Inv X pins σ' H' s'/\D.ct σ' H'
 | .ret u=>∃v σ' H',Inv X pins σ' H' s'/\RelV v u/\D.rt v H'
def PE(X:Cx)(e:Expr)(t:TE):Prop :=
 ∀(pins:List (Addr×Obj)) (s:Shared) (σ:St) (H:Hp) (Q:VK),Inv X pins σ H s->t σ H Q->wpAny (model X.prog X.w) X.A (eval e X.env) (EP X pins σ Q) X.xe s
def PT(X:Cx)(e:Expr)(t:TT):Prop :=
 ∀(pins:List (Addr×Obj)) (s:Shared) (σ:St) (H:Hp) (Q:Bool->Hp->Prop),Inv X pins σ H s->t σ H Q->wpAny (model X.prog X.w) X.A (isTrue e X.env (eval e X.env)) (TP X pins σ Q) X.xe s
def PW(X:Cx)(e:Expr)(t:TT):Prop :=
 ∀(whole:Sem Value) (pins:List (Addr×Obj)) (s:Shared) (σ:St) (H:Hp) (Q:Bool->Hp->Prop),Inv X pins σ H s->t σ H Q->wpAny (model X.prog X.w) X.A (isTrue e X.env whole) (TP X pins σ Q) X.xe s
theorem PW.pt{e:Expr}{t:TT}(h:PW X e t):PT X e t:=h _
def PA(X:Cx)(es:List Expr)(t:TA):Prop :=
 ∀(pos:Pos) (pins:List (Addr×Obj)) (s:Shared) (σ:St) (H:Hp) (Q:List V->Hp->Prop),Inv X pins σ H s->t σ H Q->wpAny (model X.prog X.w) X.A (spliced (backTo pos (starEach es X.env))) (AP X pins σ Q) X.xe s
def PS(X:Cx)(st:Stmt)(t:TS):Prop :=
 ∀(pins:List (Addr×Obj)) (s:Shared) (σ:St) (H:Hp) (D:Ends),Inv X pins σ H s->t D σ H->wpAny (model X.prog X.w) X.A (exec st X.env) (SP X pins D) X.xe s
def PSs(X:Cx)(st:List Stmt)(t:TS):Prop :=
 ∀(pins:List (Addr×Obj)) (s:Shared) (σ:St) (H:Hp) (D:Ends),Inv X pins σ H s->t D σ H->wpAny (model X.prog X.w) X.A (execs st X.env) (SP X pins D) X.xe s
theorem thn{α:Type}{t:Sem α}{Q Q':α->Shared->Prop}{s:Shared}(h:wpAny M A t Q E s)(hQ:∀a s,Q a s->Q' a s):wpAny M A t Q' E s:=M0 h hQ λ_ _ x=>x
section
def av(i:Nat):TE:=λσ H Q=>∃v,σ[i]? = some (some v)/\Q v H
def tC(v:V):TE:=λ_ H Q=>Q v H
theorem Ar{i:Nat}(hN:X.N[i]? = some x)(hv:Vis X.env.scope x)(hd:(x==("__debug__":Str))=false:=by decide)(hcd:(x==("__classdict__":Str))=false:=by decide):PE X (.Name x pos) (av i):=by
 intro pins s σ H Q I h;obtain⟨v,e,h⟩:=h;obtain⟨m,hn,hl⟩:=I.loc;obtain⟨u,r,l⟩:=hl i x v hN e hv;have fin:EP X pins σ Q u s:=⟨v,H,I,r,h⟩;rcases l with⟨hk,hm⟩|⟨hk,c,hc,hcell⟩
 .exact Qz (Q8 I.ok.kind hk hn hm fin) hd
 .rcases hk with hk|hk
  .exact Qz (wpAny_loadName_cell I.ok.kind hk hc hcell fin) hd
  .exact Qz (wpAny_loadName_free I.ok.kind hk hc hcell fin hcd) hd
theorem pO{i j pos}:PE X (.Constant (.int i) j pos) (tC (.int i)):=λ_ _ _ H _ I h=>wpAny_Constant_int ⟨.int i,H,I.tok _,⟨_,rfl⟩,h⟩
theorem As{b j pos}:PE X (.Constant (.bool b) j pos) (tC (.bl b)):=λ_ _ _ H _ I h=>Constant_bool ⟨.bl b,H,I,rfl,h⟩
theorem At{j pos}:PE X (.Constant .none j pos) (tC .non):=λ_ _ _ H _ I h=>Constant_none ⟨.non,H,I,rfl,h⟩
theorem Au{x j pos}:PE X (.Constant (.str x) j pos) (tC (.str x)):=λ_ _ _ H _ I h=>Calls.Constant_str ⟨.str x,H,I.tok _,⟨_,rfl⟩,h⟩
def Gl(X:Cx)(x:Str):Prop:=X.env.kindOf x=some .globalImplicit
theorem hW{s:Shared}(I:Inv X pins σ H s)(hg:Gl X x)(hm:X.mg x=some u)(h:Q u s)
  (hd:(x==("__debug__":Str))=false:=by decide):wpAny (model X.prog X.w) X.A (eval (.Name x pos) X.env) Q E s :=
 Calls.Name_function_global I.ok.kind hg (Calls.loadGlobal_global (by rw[I.ok.glob];exact I.mod.glob.keeps I.bk) hm h) hd
theorem eJ{s:Shared}(I:Inv X pins σ H s)(hg:Gl X x)(hm:X.mg x=none)(hv:bootBuiltins x=some u)(h:Q u s)
  (hn:x≠"__name__":=by decide)(hd:(x==("__debug__":Str))=false:=by decide):wpAny (model X.prog X.w) X.A (eval (.Name x pos) X.env) Q E s:=by
 obtain⟨mb,h1,h2⟩:=I.mod.blt;exact Calls.Name_function_global I.ok.kind hg (Calls.loadGlobal_builtin (by rw[I.ok.glob];exact I.mod.glob.keeps I.bk) hm (by rw[I.ok.blt];exact h1.keeps I.bk) ((h2 x hn).trans hv) h) hd
theorem Av(hg:Gl X x)(hm:X.mg x=some u)(r:RelV v u)(hd:(x==("__debug__":Str))=false:=by decide):PE X (.Name x pos) (tC v) :=
 λ_ _ _ H _ I h=>hW I hg hm ⟨v,H,I,r,h⟩ hd
theorem Aw(hg:Gl X x)(hm:X.mg x=none)(hv:bootBuiltins x=some u)(r:RelV v u)(hn:x≠"__name__":=by decide)(hd:(x==("__debug__":Str))=false:=by decide):PE X (.Name x pos) (tC v) :=
 λ_ _ _ H _ I h=>eJ I hg hm hv ⟨v,H,I,r,h⟩ hn hd
variable{a b:Expr}
def tB(t:TE):TT:=λσ H Q=>t σ H λx H1=>∃c,x= .bl c/\Q c H1
theorem Ax{e:Expr}{t:TE}(h:PE X e t)(he:∀whole,isTrue e X.env whole=(do let v<-whole;standAt e.pos;holding [v] (truthy v)):=by intro _;rfl):PT X e (tB t):=by
 intro pins s σ H Q I hw;refine isTrue_plain (thn (h pins s σ H _ I hw) λv s1 ⟨x,H1,I1,r1,q1⟩=>?_) (he _);obtain⟨d,rfl,q⟩:=q1;cases r1;exact Nb ⟨H1,I1,q⟩
variable{tA tB':TT}{rest:List Expr}
def lE(t u:TT):TT:=λσ H Q=>t σ H λc H1=>if c=true then u σ H1 Q else Q false H1
def tOr(t u:TT):TT:=λσ H Q=>t σ H λc H1=>if c=true then Q true H1 else u σ H1 Q
def lF(t:TT):TT:=λσ H Q=>t σ H λc H1=>Q (!c) H1
theorem Ay(ha:PT X a tA):PW X (.BoolOp .And [a] pos) tA:=by
 intro wh pins s σ H Q I h;refine isTrue_and (thn (ha pins s σ H Q I h) λc s1 e=>?_);cases c with
 |true=>exact isTrue_and_nil e
 |false=>exact e
theorem Az(ha:PT X a tA):PW X (.BoolOp .Or [a] pos) tA:=by
 intro wh pins s σ H Q I h;refine isTrue_or (thn (ha pins s σ H Q I h) λc s1 e=>?_);cases c with
 |false=>exact isTrue_or_nil e
 |true=>exact e
theorem AA(ha:PT X a tA)(hb:PW X (.BoolOp .And (b::rest) pos) tB'):PW X (.BoolOp .And (a::b::rest) pos) (lE tA tB'):=by
 intro wh pins s σ H Q I h;refine isTrue_and (thn (ha pins s σ H _ I h) λc s1 ⟨H1,I1,q1⟩=>?_);cases c with
 |true=>exact hb wh pins s1 σ H1 Q I1 q1
 |false=>exact⟨H1,I1,q1⟩
theorem AB(ha:PT X a tA)(hb:PW X (.BoolOp .Or (b::rest) pos) tB'):PW X (.BoolOp .Or (a::b::rest) pos) (tOr tA tB'):=by
 intro wh pins s σ H Q I h;refine isTrue_or (thn (ha pins s σ H _ I h) λc s1 ⟨H1,I1,q1⟩=>?_);cases c with
 |true=>exact⟨H1,I1,q1⟩
 |false=>exact hb wh pins s1 σ H1 Q I1 q1
theorem AC(ha:PT X a tA):PT X (.UnaryOp .Not a pos) (lF tA):=by
 intro pins s σ H Q I h;exact isTrue_not (ha pins s σ H (λc H1=>Q (!c) H1) I h)
def lG(ta tb:TE):TE:=λσ H Q=>ta σ H λx H1=>∃c,x= .bl c/\if c=true then tb σ H1 Q else Q (.bl false) H1
def lH(ta:TE):TE:=λσ H Q=>ta σ H λx H1=>∃c,x= .bl c/\Q (.bl (!c)) H1
theorem AD{op}{t:TE}(h:PE X a t):PE X (.BoolOp op [a] pos) t:=λpins s σ H Q I hw=>BoolOp_one (h pins s σ H Q I hw)
theorem AE(ha:PE X a ta)(hb:PE X (.BoolOp .And (b::rest) pos) tb):PE X (.BoolOp .And (a::b::rest) pos) (lG ta tb):=by
 intro pins s σ H Q I h;refine BoolOp_and (thn (ha pins s σ H _ I h) λv s1 ⟨x,H1,I1,r1,q1⟩=>?_);obtain⟨c,rfl,q1⟩:=q1;cases r1;refine Nb ?_;cases c with
 |true=>exact hb pins s1 σ H1 Q I1 q1
 |false=>exact⟨.bl false,H1,I1,rfl,q1⟩
theorem AF(ha:PE X a ta):PE X (.UnaryOp .Not a pos) (lH ta):=by
 intro pins s σ H Q I h;refine UnaryOp_ (thn (ha pins s σ H _ I h) λv s1 ⟨x,H1,I1,r1,q1⟩=>?_);obtain⟨c,rfl,q1⟩:=q1;cases r1;exact not_of (Nb ⟨.bl (!c),H1,I1,rfl,q1⟩)
end
def SqL(K:Frag)(H:Hp)(a:Addr)(xs:List V):Prop :=
 Rd H a (.lst xs) \/
  ∃(o:Obj) (its:Array Value) (n:Nat),K.lookup a=some o/\o.cls= .type "list"/\o.dict=none/\o.data= .seq its n/\its.size<=sizeLine/\Vals xs its.toList
def SqT(K:Frag)(H:Hp)(a:Addr)(xs:List V):Prop :=
 Rd H a (.tup xs) \/
  ∃(o:Obj) (its:Array Value) (n:Nat),K.lookup a=some o/\o.cls= .type "tuple"/\o.data= .seq its n/\its.size<=sizeLine/\Vals xs its.toList
def AG:Value->Option V
 | .none=>some .non
 | .bool b=>some (.bl b)
 | .int i _=>some (.int i)
 | .str x _=>some (.str x)
 | .bytes b _=>some (.byt b)
 | .float b _=>some (.flt b)
 | .ref a=>some (.ref a)
 | .type n=>some (.ty n)
 |_=>none
theorem RelV.abs{x:V}(r:RelV x u):AG u=some x:=by
 cases x with
 |non=>cases r;rfl
 |bl _=>cases r;rfl
 |int _=>obtain⟨t,rfl⟩:=r;rfl
 |str _=>obtain⟨t,rfl⟩:=r;rfl
 |byt _=>obtain⟨t,rfl⟩:=r;rfl
 |flt _=>obtain⟨t,rfl⟩:=r;rfl
 |ref _=>cases r;rfl
 |ty _=>cases r;rfl
theorem RelV.inj{x:V}(r:RelV x u)(q:RelV y u):x=y:=Mq (r.abs.symm.trans q.abs)
theorem Vals.inj:∀{xs ys:List V} {us:List Value},Vals xs us->Vals ys us->xs=ys
 |_,_,_,.nil,.nil=>rfl
 |_,_,_,.cons r t,.cons r' t'=>by rw[r.inj r',Vals.inj t t']
section
variable{s:Shared}{xs ys:List V}
theorem SqL.of(h:H a=some (.lst xs)):SqL K H a xs:= .inl (.inl h)
theorem SqT.of(h:H a=some (.tup xs)):SqT K H a xs:= .inl (.inl h)
theorem Inv.list(I:Inv X pins σ H s)(h:SqL X.K H a xs):∃its:List Value,Vals xs its/\PlainL s.heap a its.toArray/\xs.length<=sizeLine:=by
 rcases h with h|⟨o,its,n,hk,hc,hd,hs,hz,r⟩
 .obtain⟨z,its,n,r,e⟩:=h.ok I.hok;exact⟨its,r,⟨_,n,e,rfl,rfl,rfl⟩,z⟩
 .refine⟨its.toList,r,⟨o,n,I.kIn a o hk,hc,hd,by simpa using hs⟩,?_⟩;have e:=r.length;simp only[M9] at e;omega
theorem Inv.tuple(I:Inv X pins σ H s)(h:SqT X.K H a xs):∃its:List Value,Vals xs its/\IsTup s.heap a its.toArray/\xs.length<=sizeLine:=by
 rcases h with h|⟨o,its,n,hk,hc,hs,hz,r⟩
 .obtain⟨z,its,r,p⟩:=h.ok I.hok;exact⟨its,r,p,z⟩
 .refine⟨its.toList,r,⟨o,I.kIn a o hk,hc,n,by simpa using hs⟩,?_⟩;have e:=r.length;simp only[M9] at e;omega
theorem Inv.list_inj(I:Inv X pins σ H s)(h:SqL X.K H a xs)(h':SqL X.K H a ys):xs=ys:=by
 obtain⟨its,r,⟨o,n,e,_,_,d⟩,_⟩:=I.list h;obtain⟨its',r',⟨o',n',e',_,_,d'⟩,_⟩:=I.list h';rw[e] at e';cases e';rw[d] at d';injection d' with d1 _;have:its=its':=by simpa using congrArg Sw d1
 subst this;exact r.inj r'
theorem Inv.tuple_inj(I:Inv X pins σ H s)(h:SqT X.K H a xs)(h':SqT X.K H a ys):xs=ys:=by
 obtain⟨its,r,⟨o,e,_,n,d⟩,_⟩:=I.tuple h;obtain⟨its',r',⟨o',e',_,n',d'⟩,_⟩:=I.tuple h';rw[e] at e';cases e';rw[d] at d';injection d' with d1 _;have:its=its':=by simpa using congrArg Sw d1
 subst this;exact r.inj r'
end
abbrev Cx.wish(X:Cx)(E:Value->Shared->Prop):Cx:={X with xe:=E}
abbrev Cx.nox(X:Cx):Cx:=X.wish λ_ _=>False
theorem Cx.Ok.wish(ok:X.Ok)(E:Value->Shared->Prop):(X.wish E).Ok :=
 ⟨ok.mod,ok.kind,ok.glob,ok.blt,ok.above,ok.inj,ok.has,ok.cab,ok.hd,ok.frames,ok.stk,ok.exf,ok.bs,ok.bsz,ok.noex,ok.exfs,ok.funs,ok.frf⟩
theorem Cx.Ok.unwish(ok:(X.wish E).Ok):X.Ok :=
 ⟨ok.mod,ok.kind,ok.glob,ok.blt,ok.above,ok.inj,ok.has,ok.cab,ok.hd,ok.frames,ok.stk,ok.exf,ok.bs,ok.bsz,ok.noex,ok.exfs,ok.funs,ok.frf⟩
section
variable{s:Shared}
theorem Inv.wish(I:Inv X pins σ H s)(E:Value->Shared->Prop):Inv (X.wish E) pins σ H s:=⟨I.ok.wish E,I.os,I.bare,I.base,I.loc,I.cell,I.free,I.freeC,I.pin,I.hok,I.len⟩
theorem Inv.unwish(I:Inv (X.wish E) pins σ H s):Inv X pins σ H s:=⟨I.ok.unwish,I.os,I.bare,I.base,I.loc,I.cell,I.free,I.freeC,I.pin,I.hok,I.len⟩
theorem SP.unwish{D:Ends}{f:Flow}{s':Shared}(h:SP (X.wish E) pins D f s'):SP X pins D f s':=by
 cases f with
 |next=>obtain⟨σ',H',I,q⟩:=h;exact⟨σ',H',I.unwish,q⟩
 |brk=>obtain⟨σ',H',I,q⟩:=h;exact⟨σ',H',I.unwish,q⟩
 |cont=>obtain⟨σ',H',I,q⟩:=h;exact⟨σ',H',I.unwish,q⟩
 |ret u=>obtain⟨v,σ',H',I,r,q⟩:=h;exact⟨v,σ',H',I.unwish,r,q⟩
theorem PSs.nox{st:List Stmt}{t:TS}(h:PSs X.nox st t):PSs X st t:=λpins s σ H D I hw =>
 M0 (h pins s σ H D (I.wish _) hw) (λ_ _ q=>q.unwish) λ_ _ z=>False.elim z
end
section
variable{st:Stmt}{rest:List Stmt}{t u:TS}{e:Expr}
def lI:TS:=λD σ H=>D.nx σ H
def dh(t u:TS):TS:=λD σ H=>t {D with nx:=u D} σ H
theorem AH:PSs X [] lI:=λ_ _ σ H _ I h=>PM ⟨σ,H,I,h⟩
theorem AI(h1:PS X st t)(h2:PSs X rest u):PSs X (st::rest) (dh t u):=by
 intro pins s σ H D I h;refine Ri (thn (h1 pins s σ H {D with nx:=u D} I h) λf s1 q=>?_);cases f with
 |next =>
  obtain⟨σ',H',I',q⟩:=q;exact h2 pins s1 σ' H' D I' q
 |ret v=>exact q
 |brk=>exact q
 |cont=>exact q
theorem AJ(h1:PS X st t):PSs X [st] t:=by
 intro pins s σ H D I h;refine Ri (thn (h1 pins s σ H D I h) λf s1 q=>?_);cases f with
 |next=>exact PM q
 |ret v=>exact q
 |brk=>exact q
 |cont=>exact q
theorem Inv.quiet{s:Shared}(I:Inv X pins σ H s):interactive X.env=false:=by simp[interactive,I.ok.kind]
def lJ(te:TE):TS:=λD σ H=>te σ H λ_ H1=>D.nx σ H1
theorem AK(he:PE X e te)(hs:swapsWith e none pos.line X.env=pure false:=by rfl):PS X (.Expr e pos) (lJ te):=by
 intro pins s σ H D I h;exact wpAny_Expr_any (thn (he pins s σ H _ I h) λv s1 ⟨x,H1,I1,r1,q1⟩=>⟨σ,H1,I1,q1⟩) I.quiet hs
def fm(te:TE):TS:=λD σ H=>te σ H D.rt
theorem AL(he:PE X e te):PS X (.Return (some e) pos) (fm te):=by
 intro pins s σ H D I h;exact wpAny_Return_some (thn (he pins s σ H _ I h) λv s1 ⟨x,H1,I1,r1,q1⟩=>⟨x,σ,H1,I1,r1,q1⟩)
def jq(c:TT)(t u:TS):TS:=λD σ H=>c σ H λb H1=>if b=true then t D σ H1 else u D σ H1
theorem AM{c:Expr}{a b:List Stmt}{tc:TT}(hc:PT X c tc)(ha:PSs X a t)(hb:PSs X b u):PS X (.If c a b pos) (jq tc t u):=by
 intro pins s σ H D I h;refine wpAny_If (thn (hc pins s σ H _ I h) λd s1 ⟨H1,I1,q1⟩=>?_);cases d with
 |true=>exact ha pins s1 σ H1 D I1 q1
 |false=>exact hb pins s1 σ H1 D I1 q1
def lK:TS:=λ_ _ _=>False
theorem AN:PS X st lK:=λ_ _ _ _ _ _ h=>h.elim
end
abbrev TG:=V->St->Hp->(St->Hp->Prop)->Prop
abbrev TGs:=List V->St->Hp->(St->Hp->Prop)->Prop
def PG(X:Cx)(target:Expr)(t:TG):Prop :=
 ∀(pins:List (Addr×Obj)) (s:Shared) (σ:St) (H:Hp) (v:V) (u:Value) (Q:St->Hp->Prop),Inv X pins σ H s->RelV v u->t v σ H Q ->
  wpAny (model X.prog X.w) X.A (assign target X.env u) (λ_ s'=>∃ σ' H',Inv X pins σ' H' s'/\Q σ' H') X.xe s
def PGs(X:Cx)(ts:List Expr)(t:TGs):Prop :=
 ∀(pins:List (Addr×Obj)) (s:Shared) (σ:St) (H:Hp) (vs:List V) (us:List Value) (Q:St->Hp->Prop),Inv X pins σ H s->Vals vs us->t vs σ H Q ->
  wpAny (model X.prog X.w) X.A (assignInOrder ((assignEach ts X.env).map (·.2)) us) (λ_ s'=>∃ σ' H',Inv X pins σ' H' s'/\Q σ' H') X.xe s
abbrev jr:=V->V->V->Hp->(Hp->Prop)->Prop
def lL(X:Cx)(t:jr):Prop :=
 ∀(pins:List (Addr×Obj)) (s:Shared) (σ:St) (H:Hp) (o i v:V) (ov iv u:Value) (Q:Hp->Prop),Inv X pins σ H s->RelV o ov->RelV i iv->RelV v u->t o i v H Q ->
  wpAny (model X.prog X.w) X.A (setItem ov iv u) (λ_ s'=>∃H',Inv X pins σ H' s'/\Q H') X.xe s
section
def cz(i:Nat):TG:=λv σ H Q=>Q (σ.set i (some v)) H
theorem AO{i:Nat}(hN:X.N.Nodup)(hi:X.N[i]? = some x)(hx:Loc X.env.scope x)(hf:X.fn x=true\/X.env.scope.names.lookup x=some .local:=by first|exact .inl rfl|exact .inr rfl|assumption):PG X (.Name x pos) (cz i):=by
 intro pins s σ H v u Q I r h;exact QU (pN I hN hi hx r (λs' I'=>⟨_,H,I',h⟩) hf)
def lM:TGs:=λvs σ H Q=>vs=[]/\Q σ H
def lN(t:TG)(u:TGs):TGs:=λvs σ H Q=>∃v r,vs=v::r/\t v σ H λσ' H'=>u r σ' H' Q
theorem AQ:PGs X [] lM:=by
 intro pins s σ H vs us Q I r h;obtain⟨e,h⟩:=h;subst e;cases r;exact assignInOrder_nil ⟨σ,H,I,h⟩
theorem AR{e:Expr}{t:TG}{u:TGs}(h1:PG X e t)(h2:PGs X es u)
  (hs:(assignEach (e::es) X.env).map (·.2)=assign e X.env::(assignEach es X.env).map (·.2):=by rfl):PGs X (e::es) (lN t u):=by
 intro pins s σ H vs us Q I r h;obtain⟨v,vr,e1,h⟩:=h;subst e1;cases r with
 |cons r rr =>
  rw[hs];refine assignInOrder_cons (thn (h1 pins s σ H _ _ _ I r h) λ_ s1 ⟨σ1,H1,I1,q1⟩=>?_);exact h2 pins s1 σ1 H1 _ _ Q I1 rr q1
def js(K:Frag)(n:Nat)(t:TGs):TG:=λv σ H Q=>∃a xs,v= .ref a/\SqT K H a xs/\xs.length=n/\t xs σ H Q
theorem pP{k:Nat}{t:TGs}{n:Nat}(hc:X.calm=true)(h:PGs X es t)
  (hn:(assignEach es X.env).length=n:=by rfl)(hst:(assignEach es X.env).findIdx? (·.1)=none:=by rfl):PG X (.Tuple es k pos) (js X.K n t):=by
 intro pins s σ H v u Q I r hw;obtain⟨a,xs,e1,hq,hl,hw⟩:=hw;subst e1;cases r;obtain⟨its,rv,ht,hz⟩:=I.tuple hq;refine assign_Tuple_tuple (I.ok.hd hc) ht (by simp[hn,<- hl,rv.length]) hst λh' hx=>?_
 have I1:Inv X pins σ H {s with heap:=h'}:=I.kept (t':=s.toks) λb o e=>hx b o (LJ (LB e)) e
 exact h pins _ σ H xs _ Q I1 (by simpa using rv) hw
def eK(to ti:TE)(t:jr):TG:=λv σ H Q=>to σ H λo H1=>ti σ H1 λi H2=>t o i v H2 λH3=>Q σ H3
theorem AS{o i:Expr}{to ti:TE}{t:jr}(ho:PE X o to)(hi:PE X i ti)(hs:lL X t)
  (ha:∀v,assign (.Subscript o i pos) X.env v=(do
   let ov<-holding [v] (eval o X.env)
   let iv<-holding [v,ov] (eval i X.env)
   standAt pos
   holding [v,ov,iv] (setItem ov iv v)
   release [v,ov,iv] []):=by intro _;rfl):PG X (.Subscript o i pos) (eK to ti t):=by
 intro pins s σ H v u Q I r h;rw[ha];refine L1 (Mn (thn (ho pins s σ H _ I h) λov s1 ⟨x,H1,I1,r1,q1⟩=>?_));refine L1 (Mn (thn (hi pins s1 σ H1 _ I1 q1) λiv s2 ⟨y,H2,I2,r2,q2⟩=>?_));refine L1 (Ni (L1 (Mn (thn (hs pins s2 σ H2 x y v ov iv u _ I2 r1 r2 r q2) λ_ s3 ⟨H3,I3,q3⟩=>?_))));exact wpAny_release ⟨σ,H3,I3,q3⟩
def bt(te:TE)(g:TG):TS:=λD σ H=>te σ H λx H1=>g x σ H1 D.nx
theorem AT{e:Expr}{g:TG}(he:PE X e te)(hg:PG X tg g)(hs:swapsWithSole [tg] e pos.line X.env=pure false:=by rfl)(hw:swappedStores [tg] e X.env=pure none:=by rfl)
  (h1:(assignEach [tg] X.env).map (·.2)=[assign tg X.env]:=by rfl):PS X (.Assign [tg] e pos) (bt te g):=by
 intro pins s σ H D I h;refine wpAny_Assign_stores (thn (he pins s σ H _ I h) λv s1 ⟨x,H1,I1,r1,q1⟩=>?_) hs hw;rw[h1];exact thn (hg pins s1 σ H1 x v _ I1 r1 q1) λ_ s2 q=>q
theorem AU{i:Nat}{e:Expr}{pos':Pos}(hN:X.N.Nodup)(hi:X.N[i]? = some x)(hx:Loc X.env.scope x)(he:PE X e te)(hs:swapsWith e (some (.Name x pos')) pos.line X.env=pure false:=by rfl)(hf:X.fn x=true\/X.env.scope.names.lookup x=some .local:=by first|exact .inl rfl|exact .inr rfl|assumption) :
  PS X (.Assign [.Name x pos'] e pos) (bt te (cz i)):=by
 intro pins s σ H D I h;refine wpAny_Assign_Name (thn (he pins s σ H _ I h) λv s1 ⟨y,H1,I1,r1,q1⟩=>?_) hs;exact pN I1 hN hi hx r1 (λs2 I2=>⟨_,H1,I2,q1⟩) hf
end
section
end
structure It where
 go:Nat->Hp->Prop
 yld:Nat->Hp->V->Hp->Prop
 stop:Nat->Hp->Prop
def bu(X:Cx)(pins:List (Addr×Obj))(H:Hp)(b:Addr):Prop :=
 H b=none/\b≠X.env.locals/\b∉X.fs/\(b∈X.ex\/X.s₀.heap.objs.size<=b)/\(∀x c,X.env.cells.lookup x=some c->c≠b)/\∀p∈X.pn++pins,p.1≠b
theorem Inv.fpOk{s:Shared}{b:Addr}(I:Inv X pins σ H s)(hb:s.heap.objs.size<=b)(hn:H' b=none):bu X pins H' b:=by
 refine⟨hn,NY (LS I.lt hb),I.nofs hb,.inr (M6 I.sz hb),λx c e z=>?_,λp hp z=>?_⟩
 .obtain⟨v,q⟩:=I.cell x c e;exact absurd (LS q.lt (by rw[z];exact hb)) (Nc _)
 .exact absurd (LS (LB (I.pin p hp).1) (by rw[z];exact hb)) (Nc _)
structure Turn(P:Program)(w:World)(K:Frag)(tg:Expr)(J:It)(fp:List Addr)(it:Addr)(tn:Nat->Heap->Prop):Prop where
 mem:it∈fp
 obj:∀i h,tn i h->∀b∈fp,∃o,h.get? b=some o/\∀v,o.data≠ .cell v
 keep:∀i h h',tn i h->(∀b∈fp,∀o,h.get? b=some o->h'.get? b=some o)->tn i h'
 item:∀(X:Cx),X.prog=P->X.w=w->X.K=K->X.calm=true->∀(i:Nat) (pins:List (Addr×Obj)) (s:Shared) (σ:St) (H:Hp) (E:Value->Shared->Prop),Inv X pins σ H s->(∀b∈fp,bu X pins H b)->tn i s.heap->J.go i H ->
  wpAny (model P w) X.A (pyNext (.ref it)) (λr s1=>∃u,r=some u /\
   wpAny (model P w) X.A (letOwnedTupleGo tg (.ref it) u) (λ_ s2=>∃x H',Inv X pins σ H' s2/\RelV x u/\J.yld i H x H'/\tn (i+1) s2.heap/\∀b∈fp,H' b=none) E s1) E s
 done:∀(X:Cx),X.prog=P->X.w=w->X.K=K->X.calm=true->∀(i:Nat) (pins:List (Addr×Obj)) (s:Shared) (σ:St) (H:Hp) (E:Value->Shared->Prop),Inv X pins σ H s->(∀b∈fp,bu X pins H b)->tn i s.heap->J.stop i H ->
  wpAny (model P w) X.A (pyNext (.ref it)) (λr s1=>r=none/\Inv X pins σ H s1) E s
 self:∀(A:Around) (i:Nat) (s:Shared) (Q:Value->Shared->Prop) (E:Value->Shared->Prop),tn i s.heap->Q (.ref it) s->wpAny (model P w) A (pyIter (.ref it)) Q E s
abbrev TI:=St->Hp->(It->Hp->Prop)->Prop
def PIE(X:Cx)(pins:List (Addr×Obj))(σ:St)(tg:Expr)(R:It->Hp->Prop)(itv:Value)(s2:Shared):Prop :=
 ∃(it:Addr) (fp:List Addr) (tn:Nat->Heap->Prop) (J:It) (H':Hp),itv= .ref it/\Inv X pins σ H' s2/\Turn X.prog X.w X.K tg J fp it tn/\tn 0 s2.heap/\(∀b∈fp,bu X pins H' b)/\R J H'
def PI(X:Cx)(tg iter:Expr)(wi:TI):Prop :=
 ∀(pins:List (Addr×Obj)) (s:Shared) (σ:St) (H:Hp) (R:It->Hp->Prop),Inv X pins σ H s->wi σ H R ->
  wpAny (model X.prog X.w) X.A (eval iter X.env) (λv s1=>wpAny (model X.prog X.w) X.A (pyIter v) (PIE X pins σ tg R) X.xe s1) X.xe s
theorem hX{s:Shared}{it:Addr}{o:Obj}{n:String}{vs:Array Value}{Q:Unit->Shared->Prop}(ho:s.heap.get? it=some o)(hc:o.cls= .type n)(hd:o.data= .fields vs)
  (hn:["enumerate","zip","dict_itemiterator","dict_reverseitemiterator","odict_iterator","itertools.zip_longest","itertools.pairwise"].contains n=false)(hQ:Q () s):wpAny M A (letOwnedTupleGo tg (.ref it) u) Q E s:=by
 unfold letOwnedTupleGo;cases tg<;>first
  |exact L9 hQ
  | (cases u<;>first
    |exact L9 hQ
    | (refine L1 (wpAny_load ho ?_)
       rw[hc,hd];show wpAny M A (if (["enumerate","zip","dict_itemiterator","dict_reverseitemiterator","odict_iterator","itertools.zip_longest","itertools.pairwise"].contains n&&vs[0]? == some (rawInt _))=true then _ else _) Q E s;rw[if_neg (by intro h;rw[hn,Bool.false_and] at h;cases h)];exact L9 hQ))
def Itl(K:Frag)(a:Addr):It :=
 ⟨λi H=>∃xs x,SqL K H a xs/\xs[i]? = some x,λi H x H'=>H'=H/\∀xs,SqL K H a xs->xs[i]? = some x,λi H=>∃xs,SqL K H a xs/\xs.length<=i⟩
def Itt(K:Frag)(a:Addr):It :=
 ⟨λi H=>∃xs x,SqT K H a xs/\xs[i]? = some x,λi H x H'=>H'=H/\∀xs,SqT K H a xs->xs[i]? = some x,λi H=>∃xs,SqT K H a xs/\xs.length<=i⟩
def Itr(lo:Int)(n:Nat):It:=⟨λi _=>i < n,λi H x H'=>H'=H/\x= .int (lo+i),λi _=>n<=i⟩
theorem AV(a it:Addr):Turn P w K tg (Itl K a) [it] it (λi h=>h.IsListIter it a i) where
 mem:=by simp
 obj:=λi h st b hb=>by
  have e:b=it:=by simpa using hb
  subst e;obtain⟨o,e,c,d⟩:=st;exact⟨o,e,λv z=>by rw[d] at z;cases z⟩
 keep:=λi h h' st k=>st.at λo e=>k it (by simp) o e
 item:=by
  intro X hP hw hK hc i pins s σ H E I hf st hg;subst hP hw hK;obtain⟨xs,x,hq,hx⟩:=hg;obtain⟨its,rv,p,hz⟩:=I.list hq;obtain⟨u,hu,ru⟩:=rv.get hx;obtain⟨f0,f1,f2,f3,f4,f5⟩:=hf it (by simp);refine Pw st p.isList (x:=u) (by simpa using hu) λh' st' sb=>?_
  have I1:Inv X pins σ H {s with heap:=h'}:=I.turned (t':=s.toks) (λb o hb e=>(sb.2 b hb).trans e) f0 f1 f3 f4 f5;obtain⟨o,e,c,d⟩:=id st';exact⟨u,rfl,hX (s:={s with heap:=h'}) e c d (by decide) ⟨x,H,I1,ru,⟨rfl,λys hy=>by rw[I.list_inj hy hq];exact hx⟩,st',λb hb=>(hf b hb).1⟩⟩
 done:=by
  intro X hP hw hK hc i pins s σ H E I hf st hg;subst hP hw hK;obtain⟨xs,hq,hx⟩:=hg;obtain⟨its,rv,p,hz⟩:=I.list hq;obtain⟨f0,f1,f2,f3,f4,f5⟩:=hf it (by simp);have hl:=rv.length;exact PX (I.ok.hd hc) st p.isList (by simp;omega) λh' eb=>⟨rfl,I.turned (t':=s.toks) (λb o hb e=>eb b o hb e) f0 f1 f3 f4 f5⟩
 self:=λ_ _ _ _ _ st h=>wpAny_pyIter_listiter st h
theorem AW(a it:Addr):Turn P w K tg (Itt K a) [it] it (λi h=>h.IsTupleIter it a i) where
 mem:=by simp
 obj:=λi h st b hb=>by
  have e:b=it:=by simpa using hb
  subst e;obtain⟨o,e,c,d⟩:=st;exact⟨o,e,λv z=>by rw[d] at z;cases z⟩
 keep:=λi h h' st k=>st.at λo e=>k it (by simp) o e
 item:=by
  intro X hP hw hK hc i pins s σ H E I hf st hg;subst hP hw hK;obtain⟨xs,x,hq,hx⟩:=hg;obtain⟨its,rv,p,hz⟩:=I.tuple hq;obtain⟨u,hu,ru⟩:=rv.get hx;obtain⟨f0,f1,f2,f3,f4,f5⟩:=hf it (by simp);refine wpAny_pyNext_tuple_item st (show s.heap.IsTuple a its.toArray from p) (x:=u) (by simpa using hu) λh' st' sb=>?_
  have I1:Inv X pins σ H {s with heap:=h'}:=I.turned (t':=s.toks) (λb o hb e=>(sb.2 b hb).trans e) f0 f1 f3 f4 f5;obtain⟨o,e,c,d⟩:=id st';exact⟨u,rfl,hX (s:={s with heap:=h'}) e c d (by decide) ⟨x,H,I1,ru,⟨rfl,λys hy=>by rw[I.tuple_inj hy hq];exact hx⟩,st',λb hb=>(hf b hb).1⟩⟩
 done:=by
  intro X hP hw hK hc i pins s σ H E I hf st hg;subst hP hw hK;obtain⟨xs,hq,hx⟩:=hg;obtain⟨its,rv,p,hz⟩:=I.tuple hq;obtain⟨f0,f1,f2,f3,f4,f5⟩:=hf it (by simp);have hl:=rv.length;exact wpAny_pyNext_tuple_end (I.ok.hd hc) st (show s.heap.IsTuple a its.toArray from p) (by simp;omega) λh' eb=>⟨rfl,I.turned (t':=s.toks) (λb o hb e=>eb b o hb e) f0 f1 f3 f4 f5⟩
 self:=λ_ _ _ _ _ st h=>wpAny_pyIter_tupleiter st h
theorem AX(it:Addr)(lo:Int)(n:Nat):Turn P w K tg (Itr lo n) [it] it (λi h=>IsRangeIter h it (lo+(i:Nat)*1) ((n:Int) - (i:Nat)) 1) where
 mem:=by simp
 obj:=λi h st b hb=>by
  have e:b=it:=by simpa using hb
  subst e;exact⟨_,st,λv z=>by
   have z':Data.fields _=Data.cell v:=z;cases z'⟩
 keep:=λi h h' st k=>k it (by simp) _ st
 item:=by
  intro X hP hw hK hc i pins s σ H E I hf st hg;subst hP hw hK;obtain⟨f0,f1,f2,f3,f4,f5⟩:=hf it (by simp);have W:=Walks.range (prog:=X.prog) (w:=X.w) (I.ok.hd hc) it lo 1 n;refine W.item i s _ _ hg st λv h' tk hv st' kk=>?_
  obtain⟨t,rfl⟩:=hv;have I1:Inv X pins σ H {s with heap:=h',toks:=tk}:=I.turned (λb o hb e=>kk b o (by simpa using hb) e) f0 f1 f3 f4 f5;refine⟨_,rfl,hX (s:={s with heap:=h',toks:=tk}) (n:="range_iterator") st' rfl rfl (by decide) ⟨.int (lo+i),H,I1,⟨t,?_⟩,⟨rfl,rfl⟩,st',λb hb=>(hf b hb).1⟩⟩;rw[Int.mul_one]
 done:=by
  intro X hP hw hK hc i pins s σ H E I hf st hg;subst hP hw hK;obtain⟨f0,f1,f2,f3,f4,f5⟩:=hf it (by simp);exact Px (I.ok.hd hc) st (by have:n<=i:=hg;omega) λh' eb=>⟨rfl,I.turned (t':=s.toks) (λb o hb e=>eb b o hb e) f0 f1 f3 f4 f5⟩
 self:=λ_ _ _ _ _ st h=>Py st h
section
theorem AY{s:Shared}{R:It->Hp->Prop}{lo hi:Int}{t u v:Tok}{tk:Nat}(I:Inv X pins σ H s)(h1: -(2^62)<=lo)(h2:lo < 2^62)(h3: -(2^62)<=hi)(h4:hi < 2^62)
  (q:R (Itr lo (hi - lo).toNat) H):wpAny (model X.prog X.w) X.A (pyIter (.ref s.heap.objs.size)) (PIE X pins σ tg R) E {s with heap:=s.heap.push {cls:= .type "range",data:= .fields #[.int lo t,.int hi u,.int 1 v]},toks:=tk}:=by
 refine QA (IsRange.new ..) (small_one h1 h2 h3 h4) ?_;have I1:Inv X pins σ H {s with heap:=s.heap.push {cls:= .type "range",data:= .fields #[.int lo t,.int hi u,.int 1 v]},toks:=tk}:=I.kept λb o e=>L5 _ e
 refine⟨(s.heap.push {cls:= .type "range",data:= .fields #[.int lo t,.int hi u,.int 1 v]}).objs.size,[(s.heap.push {cls:= .type "range",data:= .fields #[.int lo t,.int hi u,.int 1 v]}).objs.size],_,_,H,rfl,
  I1.kept (t':=tk) λb o e=>L5 _ e,AX _ lo (hi - lo).toNat,?_,λb hb=>?_,q⟩
 .have e1:lo+((0:Nat):Int)*1=lo:=by simp
  have e2:(((hi - lo).toNat:Nat):Int) - ((0:Nat):Int)=NR lo hi 1:=by rw[rangeSize_one];split<;>omega
  show IsRangeIter _ _ (lo+((0:Nat):Int)*1) ((((hi - lo).toNat:Nat):Int) - ((0:Nat):Int)) 1;rw[e1,e2];exact LC _ rfl
 .have e:b=(s.heap.push {cls:= .type "range",data:= .fields #[.int lo t,.int hi u,.int 1 v]}).objs.size:=by simpa using hb
  subst e;exact I1.fpOk (Lx _) (I1.hok.fresh (Lx _))
def lO(ta:TA):TI:=λσ H R=>ta σ H λvs H1=>∃j:Int,vs=[.int j]/\ -(2^62)<=j/\j < 2^62/\R (Itr 0 j.toNat) H1
theorem AZ{a:Expr}{ta:TA}{p:Pos}(hg:Gl X "range")(hm:X.mg "range"=none)(ha:PA X [a] ta)(hs:starEach [a] X.env=[(false,eval a X.env)]:=by rfl):PI X tg (.Call (.Name "range" p) [a] [] pos) (lO ta):=by
 intro pins s σ H R I h;refine Call_ (eJ I hg hm boot_range (Nh (thn (ha pos pins s σ H _ I h) λus s1 ⟨vs,H1,I1,r1,q1⟩=>?_) hs rfl));obtain⟨j,e,q1,q2,q⟩:=q1;subst e;cases r1 with
 |cons r rr =>
  cases rr;obtain⟨t,rfl⟩:=r;exact call_range_1 (AY I1 (by omega) (by omega) q1 q2 (by simpa using q))
def lP(wi:TI)(g:TG)(tb:TS):TS:=λD σ H=>wi σ H λJ H1=>∃W:Nat->Nat->St->Hp->Prop,(∃m,W 0 m σ H1)/\∀i m σ H,W i m σ H ->
 (J.stop i H/\D.nx σ H)\/(J.go i H/\∃N:St->Hp->Prop,(∀ σ' H',N σ' H'->∃m',m' < m/\W (i+1) m' σ' H')/\∀x H',J.yld i H x H'->g x σ H' λσ2 H2=>tb {D with nx:=N,ct:=N,bk:=D.nx} σ2 H2)
def cV(fp:List Addr)(h:Heap):List (Addr×Obj):=fp.filterMap λb=>(h.get? b).map λo=>(b,o)
theorem eM{b:Addr}{o:Obj}(hb:b∈fp)(e:h.get? b=some o):(b,o)∈cV fp h:=Qq.mpr ⟨b,hb,by rw[e];rfl⟩
theorem lQ{p:Addr×Obj}(hp:p∈cV fp h):p.1∈fp/\h.get? p.1=some p.2:=by
 obtain⟨b,hb,e⟩:=Qq.mp hp;cases q:h.get? b with
 |none=>rw[q] at e;cases e
 |some o =>
  rw[q] at e;have e':(b,o)=p:=Mq e;subst e';exact⟨hb,q⟩
theorem Inv.pinned{s:Shared}(I:Inv X pins σ H s)(hf:∀b∈fp,bu X pins H b)(ho:∀b∈fp,∃o,s.heap.get? b=some o/\∀v,o.data≠ .cell v):Inv X (pins++cV fp s.heap) σ H s :=
 I.pins_of λp hp=>(LX.mp hp).elim (λz=>I.pin p (L8 _ z)) λz=>by
  obtain⟨hb,e⟩:=lQ z;obtain⟨f0,f1,f2,_⟩:=hf p.1 hb;obtain⟨o,e',d⟩:=ho p.1 hb;rw[e] at e';cases e';exact⟨e,f0,f1,f2,d⟩
theorem Inv.unpinned{pl:List (Addr×Obj)}{s:Shared}(I:Inv X (pins++pl) σ H s):Inv X pins σ H s:=I.pins_of λp hp=>I.pin p (L8 _ (LL _ hp))
theorem A0{iter:Expr}{body:List Stmt}{wi:TI}{g:TG}{tb:TS}(hp:PassesOwn (model X.prog X.w) X.A X.env X.xe)(hc:X.calm=true)(hi:PI X tg iter wi)(hg:PG X tg g)(hb:PSs X body tb)
  (hs:∀x,foldedSetIterable iter X.env x=pure x:=by intro _;rfl):PS X (.For tg iter body [] pos) (lP wi g tb):=by
 intro pins s σ H D I h;refine wpAny_For (thn (hi pins s σ H _ I h) λv s1 h1=>thn h1 λitv s2 h2=>?_) hs;obtain⟨it,fp,tn,J,H2,e,I2,T,st2,f2,W,⟨m0,w0⟩,turn⟩:=h2;subst e;have stat:∀{H':Hp},(∀b∈fp,H' b=none)->∀b∈fp,bu X pins H' b:=λhn b hb=>⟨hn b hb,(f2 b hb).2⟩
 refine codeAny_forLoop_any (λn s'=>∃i σ' H',Inv X pins σ' H' s'/\tn i s'.heap/\(∀b∈fp,H' b=none)/\W i n σ' H') ?_ m0 ⟨0,σ,H2,I2,st2,λb hb=>(f2 b hb).1,w0⟩;rintro n s3 ⟨i,σ3,H3,I3,st3,fr3,w3⟩;rcases turn i n σ3 H3 w3 with⟨stop,qn⟩|⟨go,N,hN,step⟩
 .refine Ot hp (thn (T.done X rfl rfl rfl hc i pins s3 σ3 H3 X.xe I3 (stat fr3) st3 stop) λr s4 ⟨hr,I4⟩=>?_);subst hr;exact PM ⟨σ3,H3,I4,qn⟩
 .refine Ot hp (thn (T.item X rfl rfl rfl hc i pins s3 σ3 H3 X.xe I3 (stat fr3) st3 go) λr s4 ⟨u,hr,h4⟩=>?_);subst hr;refine Ot hp (thn h4 λ_ s5 ⟨x,H5,I5,r5,y5,st5,fr5⟩=>?_);have I5':=I5.pinned (stat fr5) (T.obj _ _ st5);refine Ot hp (thn (hg _ s5 σ3 H5 x u _ I5' r5 (step x H5 y5)) λ_ s6 ⟨σ6,H6,I6,q6⟩=>?_);refine Ot hp (thn (hb _ s6 σ6 H6 _ I6 q6) λf s7 q7=>?_);have again:∀{σ7:St} {H7:Hp},Inv X (pins++cV fp s5.heap) σ7 H7 s7->N σ7 H7->∃m,m < n/\∃i σ' H',Inv X pins σ' H' s7/\tn i s7.heap/\(∀b∈fp,H' b=none)/\W i m σ' H':=λ{σ7 H7} I7 n7=>by
   obtain⟨m',hm,w7⟩:=hN σ7 H7 n7;refine⟨m',hm,i+1,σ7,H7,I7.unpinned,T.keep _ _ _ st5 λb hb o e=>(I7.pin (b,o) (L8 _ (L8 _ (eM hb e)))).1,λb hb=>?_,w7⟩;obtain⟨o,e,d⟩:=T.obj _ _ st5 b hb;exact(I7.pin (b,o) (L8 _ (L8 _ (eM hb e)))).2.1
  cases f with
  |next=>obtain⟨σ7,H7,I7,n7⟩:=q7;exact again I7 n7
  |cont=>obtain⟨σ7,H7,I7,n7⟩:=q7;exact again I7 n7
  |brk=>obtain⟨σ7,H7,I7,q7⟩:=q7;exact⟨σ7,H7,I7.unpinned,q7⟩
  |ret v=>obtain⟨x7,σ7,H7,I7,r7,q7⟩:=q7;exact⟨x7,σ7,H7,I7.unpinned,r7,q7⟩
end
abbrev R2:=V->V->Hp->VK->Prop
variable{r r':R2}
def OpR(X:Cx)(f:Value->Value->Sem Value)(r:R2):Prop :=
 ∀(pins:List (Addr×Obj)) (s:Shared) (σ:St) (H:Hp) (x y:V) (v u:Value) (Q:VK),Inv X pins σ H s->RelV x v->RelV y u->r x y H Q ->
  wpAny (model X.prog X.w) X.A (f v u) (EP X pins σ Q) X.xe s
def UnR(X:Cx)(f:Value->Sem Value)(r:V->Hp->VK->Prop):Prop :=
 ∀(pins:List (Addr×Obj)) (s:Shared) (σ:St) (H:Hp) (x:V) (v:Value) (Q:VK),Inv X pins σ H s->RelV x v->r x H Q ->
  wpAny (model X.prog X.w) X.A (f v) (EP X pins σ Q) X.xe s
def zQ(X:Cx)(f:Value)(r:List V->Hp->VK->Prop):Prop :=
 ∀(pins:List (Addr×Obj)) (s:Shared) (σ:St) (H:Hp) (xs:List V) (us:List Value) (Q:VK),Inv X pins σ H s->Vals xs us->r xs H Q ->
  wpAny (model X.prog X.w) X.A (call f us) (EP X pins σ Q) X.xe s
def tOp(r:R2)(ta tb:TE):TE:=λσ H Q=>ta σ H λx H1=>tb σ H1 λy H2=>r x y H2 Q
def tUn(r:V->Hp->VK->Prop)(ta:TE):TE:=λσ H Q=>ta σ H λx H1=>r x H1 Q
def rI(C:Int->Int->Prop)(g:Int->Int->V):R2:=λx y H Q=>∃i j,x= .int i/\y= .int j/\C i j/\Q (g i j) H
def rI0(g:Int->Int->V):R2:=λx y H Q=>∃i j,x= .int i/\y= .int j/\Q (g i j) H
def rU(g:Int->V):V->Hp->VK->Prop:=λx H Q=>∃i,x= .int i/\Q (g i) H
section
variable{a b c:Expr}{tc:TE}
theorem lR(ha:PE X a ta)(hb:PE X b tb){s:Shared}{R:V->V->Hp->Prop}(I:Inv X pins σ H s)
  (h:ta σ H λx H1=>tb σ H1 λy H2=>R x y H2){f:Value->Value->Sem Value}
  (hf:∀v u s2 x y H2,Inv X pins σ H2 s2->RelV x v->RelV y u->R x y H2->wpAny (model X.prog X.w) X.A (f v u) Q X.xe s2) :
  wpAny (model X.prog X.w) X.A (eval a X.env) (λv s₁=>wpAny (model X.prog X.w) X.A (eval b X.env) (λu s₂=>wpAny (model X.prog X.w) X.A (f v u) Q X.xe s₂) X.xe s₁) X.xe s:=by
 refine thn (ha pins s σ H _ I h) λv s1 ⟨x,H1,I1,r1,q1⟩=>?_
 refine thn (hb pins s1 σ H1 _ I1 q1) λu s2 ⟨y,H2,I2,r2,q2⟩=>?_
 exact hf v u s2 x y H2 I2 r1 r2 q2
theorem A1{op:Operator}(ho:OpR X (binaryOp op) r)(ha:PE X a ta)(hb:PE X b tb):PE X (.BinOp a op b pos) (tOp r ta tb):=by
 intro pins s σ H Q I h;exact wpAny_BinOp (lR ha hb I h λv u s2 x y H2 I2 rx ry q=>ho pins s2 σ H2 x y v u Q I2 rx ry q)
theorem A4{op:UnaryOp}{r:V->Hp->VK->Prop}(ho:UnR X (unaryOp op) r)(ha:PE X a ta):PE X (.UnaryOp op a pos) (tUn r ta):=by
 intro pins s σ H Q I h;exact UnaryOp_ (thn (ha pins s σ H _ I h) λv s1 ⟨x,H1,I1,r1,q1⟩=>ho pins s1 σ H1 x v Q I1 r1 q1)
theorem opI{f:Value->Value->Sem Value}{C:Int->Int->Prop}{g:Int->Int->Int}
  (rule:∀(i j:Int) (t u:Tok) (s:Shared) (Q:Value->Shared->Prop) (E:Value->Shared->Prop),C i j->Q (.int (g i j) s.toks) {s with toks:=s.toks+1}->wpAny (model X.prog X.w) X.A (f (.int i t) (.int j u)) Q E s) :
  OpR X f (rI C λi j=> .int (g i j)):=by
 intro pins s σ H x y v u Q I rx ry h;obtain⟨i,j,rfl,rfl,hc,q⟩:=h;obtain⟨t,rfl⟩:=rx;obtain⟨t',rfl⟩:=ry;exact rule i j t t' s _ _ hc ⟨.int (g i j),H,I.tok _,⟨_,rfl⟩,q⟩
theorem pQ{f:Value->Value->Sem Value}{g:Int->Int->Int}
  (rule:∀(i j:Int) (t u:Tok) (s:Shared) (Q:Value->Shared->Prop) (E:Value->Shared->Prop),Q (.int (g i j) s.toks) {s with toks:=s.toks+1}->wpAny (model X.prog X.w) X.A (f (.int i t) (.int j u)) Q E s) :
  OpR X f (rI0 λi j=> .int (g i j)):=by
 intro pins s σ H x y v u Q I rx ry h;obtain⟨i,j,rfl,rfl,q⟩:=h;obtain⟨t,rfl⟩:=rx;obtain⟨t',rfl⟩:=ry;exact rule i j t t' s _ _ ⟨.int (g i j),H,I.tok _,⟨_,rfl⟩,q⟩
theorem jt{f:Value->Value->Sem Value}{g:Int->Int->Bool}
  (rule:∀(i j:Int) (t u:Tok) (s:Shared) (Q:Value->Shared->Prop) (E:Value->Shared->Prop),Q (.bool (g i j)) s->wpAny (model X.prog X.w) X.A (f (.int i t) (.int j u)) Q E s) :
  OpR X f (rI0 λi j=> .bl (g i j)):=by
 intro pins s σ H x y v u Q I rx ry h;obtain⟨i,j,rfl,rfl,q⟩:=h;obtain⟨t,rfl⟩:=rx;obtain⟨t',rfl⟩:=ry;exact rule i j t t' s _ _ ⟨.bl (g i j),H,I,rfl,q⟩
def ju(i j:Int):Prop:=0<=j/\j<=1000000/\i.natAbs < 2^64
def dk(i j:Int):Prop:=(-(2^64) < i/\i < 2^64)\/(-(2^64) < j/\j < 2^64)
theorem dk.ok{i j:Int}(h:dk i j):IntMulOk i j:=by
 rcases h with⟨h1,h2⟩|⟨h1,h2⟩
 .exact .of_left (Sn h1 h2)
 .exact .of_right (Sn h1 h2)
theorem jv:OpR X (binaryOp .Add) (rI0 λi j=> .int (i+j)):=pQ λ_ _ _ _ _ _ _ q=>add_int q
theorem fo:OpR X (binaryOp .Sub) (rI0 λi j=> .int (i - j)):=pQ λ_ _ _ _ _ _ _ q=>sub_int q
theorem pR:OpR X (binaryOp .Mult) (rI dk λi j=> .int (i*j)):=opI λ_ _ _ _ _ _ _ hc q=>mul_int q hc.ok
theorem gm:OpR X (binaryOp .Mod) (rI (λ_ j=>0 < j) λi j=> .int (i % j)):=opI λi j _ _ _ _ _ hc q=>by
 have h1:(0:Int) < j:=hc;exact mod_int' (by omega) (by rw[Int.fmod_eq_emod_of_nonneg i (by omega)];exact q)
theorem pS:OpR X (binaryOp .Pow) (rI ju λi j=> .int (i^j.toNat)):=opI λ_ _ _ _ _ _ _ hc q=>pow_int_small hc.1 hc.2.1 hc.2.2 q
theorem unI{f:Value->Sem Value}{g:Int->Int}
  (rule:∀(i:Int) (t:Tok) (s:Shared) (Q:Value->Shared->Prop) (E:Value->Shared->Prop),Q (.int (g i) s.toks) {s with toks:=s.toks+1}->wpAny (model X.prog X.w) X.A (f (.int i t)) Q E s) :
  UnR X f (rU λi=> .int (g i)):=by
 intro pins s σ H x v Q I rx h;obtain⟨i,rfl,q⟩:=h;obtain⟨t,rfl⟩:=rx;exact rule i t s _ _ ⟨.int (g i),H,I.tok _,⟨_,rfl⟩,q⟩
theorem eN:UnR X (unaryOp .USub) (rU λi=> .int (-i)):=unI λ_ _ _ _ _ q=>neg_int q
end
def pT:V->V->Bool
 | .non,.non=>true | .non,.int _=>true | .int _,.non=>true | .non,.bl _=>true | .bl _,.non=>true | .non,.str _=>true | .str _,.non=>true
 | .int _,.int _=>true | .bl _,.bl _=>true | .str _,.str _=>true | .byt _,.byt _=>true
 | .int _,.str _=>true | .str _,.int _=>true | .bl _,.str _=>true | .str _,.bl _=>true
 |_,_=>false
def rEq:R2:=λx y H Q=>pT x y=true/\Q (.bl (decide (x=y))) H
def rNe:R2:=λx y H Q=>pT x y=true/\Q (.bl (!decide (x=y))) H
theorem pU{i j:Int}:decide (V.int i=V.int j)=(i==j):=by
 rw[O3];simp
theorem pV{i j:Bool}:decide (V.bl i=V.bl j)=(i==j):=by
 rw[O3];simp
theorem pW{i j:Str}:decide (V.str i=V.str j)=(i==j):=by
 rw[O3];simp
theorem pX{i j:Array UInt8}:decide (V.byt i=V.byt j)=(i.toList==j.toList):=by
 rw[O3];cases i;cases j;simp
section
variable{a b c:Expr}{tc:TE}
theorem aw{s:Shared}{Q:VK}{k k':Bool}(I:Inv X pins σ H s)(q:Q (.bl k) H)(e:k=k'):EP X pins σ Q (.bool k') s:=by
 subst e;exact⟨.bl k,H,I,rfl,q⟩
theorem pY:OpR X (compareOp .Eq) rEq:=by
 intro pins s σ H x y v u Q I rx ry h;obtain⟨hs,q⟩:=h;cases x with
 |non =>
  cases rx;cases y with
  |non=>cases ry;exact RU (aw I q (by simp))
  |bl j=>cases ry;exact RV (aw I q (by simp))
  |int j=>obtain⟨t',rfl⟩:=ry;exact S8 (aw I q (by simp))
  |str j=>obtain⟨t',rfl⟩:=ry;exact S9 (aw I q (by simp))
  |_=>exact absurd (show false=true from hs) LU
 |bl i =>
  cases rx;cases y with
  |non=>cases ry;exact RX (aw I q (by simp))
  |bl j=>cases ry;exact eq_bool (aw I q pV)
  |str j=>obtain⟨t',rfl⟩:=ry;exact RY (aw I q (by simp))
  |_=>exact absurd (show false=true from hs) LU
 |int i =>
  obtain⟨t,rfl⟩:=rx;cases y with
  |non=>cases ry;exact Sa (aw I q (by simp))
  |int j=>obtain⟨t',rfl⟩:=ry;exact eq_int (aw I q pU)
  |str j=>obtain⟨t',rfl⟩:=ry;exact Sb (aw I q (by simp))
  |_=>exact absurd (show false=true from hs) LU
 |str i =>
  obtain⟨t,rfl⟩:=rx;cases y with
  |non=>cases ry;exact Sc (aw I q (by simp))
  |bl j=>cases ry;exact RZ (aw I q (by simp))
  |int j=>obtain⟨t',rfl⟩:=ry;exact Sd (aw I q (by simp))
  |str j=>obtain⟨t',rfl⟩:=ry;exact eq_str (aw I q pW)
  |_=>exact absurd (show false=true from hs) LU
 |byt i =>
  obtain⟨t,rfl⟩:=rx;cases y with
  |byt j=>obtain⟨t',rfl⟩:=ry;exact PySem.W.eq_bytes (aw I q pX)
  |_=>exact absurd (show false=true from hs) LU
 |_=>cases y<;>exact absurd (show false=true from hs) LU
theorem A5:OpR X (compareOp .NotEq) rNe:=by
 intro pins s σ H x y v u Q I rx ry h;obtain⟨hs,q⟩:=h;cases x with
 |non =>
  cases rx;cases y with
  |non=>cases ry;exact S0 (aw I q (by simp))
  |bl j=>cases ry;exact S1 (aw I q (by simp))
  |int j=>obtain⟨t',rfl⟩:=ry;exact Se (aw I q (by simp))
  |str j=>obtain⟨t',rfl⟩:=ry;exact Sf (aw I q (by simp))
  |_=>exact absurd (show false=true from hs) LU
 |bl i =>
  cases rx;cases y with
  |non=>cases ry;exact S3 (aw I q (by simp))
  |bl j=>cases ry;exact ne_bool (aw I q (congrArg not pV))
  |str j=>obtain⟨t',rfl⟩:=ry;exact S4 (aw I q (by simp))
  |_=>exact absurd (show false=true from hs) LU
 |int i =>
  obtain⟨t,rfl⟩:=rx;cases y with
  |non=>cases ry;exact Sg (aw I q (by simp))
  |int j=>obtain⟨t',rfl⟩:=ry;exact ne_int (aw I q (congrArg not pU))
  |str j=>obtain⟨t',rfl⟩:=ry;exact Sh (aw I q (by simp))
  |_=>exact absurd (show false=true from hs) LU
 |str i =>
  obtain⟨t,rfl⟩:=rx;cases y with
  |non=>cases ry;exact Si (aw I q (by simp))
  |bl j=>cases ry;exact S5 (aw I q (by simp))
  |int j=>obtain⟨t',rfl⟩:=ry;exact Sj (aw I q (by simp))
  |str j=>obtain⟨t',rfl⟩:=ry;exact ne_str (aw I q (congrArg not pW))
  |_=>exact absurd (show false=true from hs) LU
 |byt i =>
  obtain⟨t,rfl⟩:=rx;cases y with
  |byt j=>obtain⟨t',rfl⟩:=ry;exact PySem.W.ne_bytes (aw I q (congrArg not pX))
  |_=>exact absurd (show false=true from hs) LU
 |_=>cases y<;>exact absurd (show false=true from hs) LU
theorem fq:OpR X (compareOp .Lt) (rI0 λi j=> .bl (decide (i < j))):=jt λ_ _ _ _ _ _ _ q=>lt_int q
theorem ft:OpR X (compareOp .LtE) (rI0 λi j=> .bl (decide (i<=j))):=jt λ_ _ _ _ _ _ _ q=>le_int q
theorem pZ:OpR X (compareOp .Gt) (rI0 λi j=> .bl (decide (j < i))):=jt λ_ _ _ _ _ _ _ q=>gt_int q
theorem lS:OpR X (compareOp .GtE) (rI0 λi j=> .bl (decide (j<=i))):=jt λ_ _ _ _ _ _ _ q=>ge_int q
theorem A6:OpR X (compareOp .In) (λx y H Q=>∃i j,x= .str i/\y= .str j/\Q (.bl (!(Oy j i 0 j.length 1).isEmpty)) H):=by
 intro pins s σ H x y v u Q I rx ry h;obtain⟨i,j,rfl,rfl,q⟩:=h;obtain⟨t,rfl⟩:=rx;obtain⟨t',rfl⟩:=ry;exact in_str (aw I q rfl)
theorem A7:OpR X (compareOp .IsNot) (λx y H Q=>y= .non/\Q (.bl (!decide (x= .non))) H):=by
 intro pins s σ H x y v u Q I rx ry h;obtain⟨rfl,q⟩:=h;cases ry;refine isnot_none_gen (aw I q ?_);cases x<;>first
  | (cases rx;rfl)
  | (obtain⟨t,rfl⟩:=rx;rfl)
theorem OpR.or{f:Value->Value->Sem Value}(h:OpR X f r)(h':OpR X f r'):OpR X f (λx y H Q=>r x y H Q\/r' x y H Q):=by
 intro pins s σ H x y v u Q I rx ry q;rcases q with q|q
 .exact h pins s σ H x y v u Q I rx ry q
 .exact h' pins s σ H x y v u Q I rx ry q
theorem aF(b:Expr)(h:op≠ .In:=by decide)(h2:op≠ .NotIn:=by decide):behindInMarks op b=false:=by
 have e1:(op==CmpOp.In)=false:=by cases op<;>first|rfl|exact absurd rfl h
 have e2:(op==CmpOp.NotIn)=false:=by cases op<;>first|rfl|exact absurd rfl h2
 cases b<;>simp[behindInMarks,e1,e2]
theorem A8(ho:OpR X (compareOp op) r)(ha:PE X a ta)(hb:PE X b tb)(hm:behindInMarks op b=false):PE X (.Compare a [op] [b] pos) (tOp r ta tb):=by
 intro pins s σ H Q I h;exact wpAny_Compare1 (lR ha hb I h λv u s2 x y H2 I2 rx ry q=>ho pins s2 σ H2 x y v u Q I2 rx ry q) hm
def fu(t:TE):TT:=λσ H Q=>t σ H λx H'=>∃k,x= .bl k/\Q k H'
theorem A9(ho:OpR X (compareOp op) r)(ha:PE X a ta)(hb:PE X b tb)(hm:behindInMarks op b=false):PT X (.Compare a [op] [b] pos) (fu (tOp r ta tb)):=by
 intro pins s σ H Q I h;refine wpAny_isTrue_Compare1 (thn (ha pins s σ H _ I h) λv s1 ⟨x,H1,I1,r1,q1⟩=>thn (hb pins s1 σ H1 _ I1 q1) λu s2 ⟨y,H2,I2,r2,q2⟩ =>
  thn (ho pins s2 σ H2 x y v u _ I2 r1 r2 q2) λc s3 ⟨z,H3,I3,r3,k,e,q3⟩=>?_) hm
 subst e;cases r3;exact Nb ⟨H3,I3,q3⟩
def h_(r r':R2)(ta tb tc:TE):TE:=λσ H Q=>ta σ H λx H1=>tb σ H1 λy H2=>r x y H2 λz H3=>∃k,z= .bl k /\
 (if k=true then tc σ H3 λw' H4=>r' y w' H4 Q else Q (.bl false) H3)
theorem A_{op':CmpOp}(ho:OpR X (compareOp op) r)(ho':OpR X (compareOp op') r')(ha:PE X a ta)(hb:PE X b tb)(hc:PE X c tc)
  (hm:lastMarks [op,op'] [b,c]=false:=by with_unfolding_all rfl):PE X (.Compare a [op,op'] [b,c] pos) (h_ r r' ta tb tc):=by
 intro pins s σ H Q I h;refine Compare_chain (thn (ha pins s σ H _ I h) λv s1 ⟨x,H1,I1,r1,q1⟩=>chain_link (thn (hb pins s1 σ H1 _ I1 q1) λu s2 ⟨y,H2,I2,r2,q2⟩ =>
  thn (ho pins s2 σ H2 x y v u _ I2 r1 r2 q2) λd s3 ⟨z,H3,I3,r3,k,e,q3⟩=>?_)) hm
 subst e;cases r3;refine Nb ?_;cases k with
 |false=>exact ite_ff ⟨.bl false,H3,I3,rfl,q3⟩
 |true=>exact ite_tt (chain_last (thn (hc pins s3 σ H3 _ I3 q3) λw' s4 ⟨z',H4,I4,r4,q4⟩=>ho' pins s4 σ H4 y z' u w' Q I4 r2 r4 q4))
theorem Ba{op':CmpOp}(ho:OpR X (compareOp op) r)(ho':OpR X (compareOp op') r')(ha:PE X a ta)(hb:PE X b tb)(hc:PE X c tc)
  (hm:lastMarks [op,op'] [b,c]=false:=by with_unfolding_all rfl):PT X (.Compare a [op,op'] [b,c] pos) (fu (h_ r r' ta tb tc)):=by
 intro pins s σ H Q I h;refine isTrue_chain (thn (ha pins s σ H _ I h) λv s1 ⟨x,H1,I1,r1,q1⟩=>test_link (thn (hb pins s1 σ H1 _ I1 q1) λu s2 ⟨y,H2,I2,r2,q2⟩ =>
  thn (ho pins s2 σ H2 x y v u _ I2 r1 r2 q2) λd s3 ⟨z,H3,I3,r3,k,e,q3⟩=>?_)) hm
 subst e;cases r3;refine Nb ?_;cases k with
 |false =>
  obtain⟨k',e',q'⟩:=q3;cases e';exact ite_ff ⟨H3,I3,q'⟩
 |true =>
  refine ite_tt (test_last (thn (hc pins s3 σ H3 _ I3 q3) λw' s4 ⟨z',H4,I4,r4,q4⟩=>thn (ho' pins s4 σ H4 y z' u w' _ I4 r2 r4 q4) λd' s5 ⟨z2,H5,I5,r5,k2,e2,q5⟩=>?_));subst e2;cases r5;exact Nb ⟨H5,I5,q5⟩
theorem gn:(sizeLine:Nat) < 2^63:=by rw[MG];decide
theorem Bb:OpR X (binaryOp .Add) (λx y H Q=>∃i j,x= .str i/\y= .str j/\i.length+j.length<=sizeLine/\Q (.str (i++j)) H):=by
 intro pins s σ H x y v u Q I rx ry h;obtain⟨i,j,rfl,rfl,hz,q⟩:=h;obtain⟨t,rfl⟩:=rx;obtain⟨t',rfl⟩:=ry;exact add_str (λt' tk=>⟨.str (i++j),H,I.tok _,⟨_,rfl⟩,q⟩) hz
theorem vals1{x:V}(r:Vals [x] us):∃u,us=[u]/\RelV x u:=by
 cases r with
 |cons r1 r2=>cases r2;exact⟨_,rfl,r1⟩
theorem vals2{x:V}(r:Vals [x,y] us):∃u w',us=[u,w']/\RelV x u/\RelV y w':=by
 cases r with
 |cons r1 r2 =>
  cases r2 with
  |cons r3 r4=>cases r4;exact⟨_,_,rfl,r1,r3⟩
theorem Bc:zQ X (.builtin "abs") (λxs H Q=>∃i,xs=[.int i]/\Q (.int (if i < 0 then -i else i)) H):=by
 intro pins s σ H xs us Q I r h;obtain⟨i,rfl,q⟩:=h;obtain⟨u,rfl,t,rfl⟩:=vals1 r;exact call_abs_int λu tk=>⟨.int (if i < 0 then -i else i),H,I.tok _,⟨_,rfl⟩,q⟩
theorem Bd(hc:X.calm=true):zQ X (.builtin "max") (λxs H Q=>∃i j,xs=[.int i,.int j]/\Q (.int (if j > i then j else i)) H):=by
 intro pins s σ H xs us Q I r h;obtain⟨i,j,rfl,q⟩:=h;obtain⟨u,w',rfl,⟨t,rfl⟩,⟨t',rfl⟩⟩:=vals2 r;refine max_two_ints (I.ok.hd hc) λh' tk k=>⟨_,H,I.kept k,?_,q⟩
 by_cases hj:j > i
 .rw[if_pos hj,if_pos hj];exact⟨_,rfl⟩
 .rw[if_neg hj,if_neg hj];exact⟨_,rfl⟩
theorem Be(hc:X.calm=true):zQ X (.builtin "min") (λxs H Q=>∃i j,xs=[.int i,.int j]/\Q (.int (if j < i then j else i)) H):=by
 intro pins s σ H xs us Q I r h;obtain⟨i,j,rfl,q⟩:=h;obtain⟨u,w',rfl,⟨t,rfl⟩,⟨t',rfl⟩⟩:=vals2 r;refine min_two_ints (I.ok.hd hc) λh' tk k=>⟨_,H,I.kept k,?_,q⟩
 by_cases hj:j < i
 .rw[if_pos hj,if_pos hj];exact⟨_,rfl⟩
 .rw[if_neg hj,if_neg hj];exact⟨_,rfl⟩
end
structure dQ(h:Heap)(x dx C:Addr)(mA:Str->Option Value):Prop where
 obj:h.get? x=some (instObj C dx)
 ns:h.Ns1 dx mA
 ne:dx≠x
theorem Bf(n:h.Ns1 dx mA):∃od,h.get? dx=some od/\∀name,lookIn name od=some (mA name):=by
 obtain⟨o,es,ep,ho,hd,hk,_,hm⟩:=n;refine⟨o,ho,λname=>?_⟩;have e:=hm name;unfold nsFind findBy at e;rw[<- Array.find?_toList] at e;unfold lookIn;rw[hd];dsimp only;split
 .rename_i y q;rw[q] at e;exact congrArg some e
 .rename_i q;rw[q] at e;have a:es.toList.any (·.refKey)=false:=by
   rw[List.any_eq_false];intro y hy;obtain⟨z,t,hkey⟩:=hk y (Array.mem_toList_iff.mp hy);simp[DictEntry.refKey,hkey]
  have a':¬ es.toList.any (·.refKey)=true:=by rw[a];exact LU
  rw[if_neg a'];exact congrArg some e
theorem dQ.look{x:Addr}(I:dQ h x dx C mA):∃od,PySem.W.InstAt h x (instObj C dx) C (some od)/\∀name,lookIn name od=some (mA name) :=
 let ⟨od,ho,hl⟩:=Bf I.ns
 ⟨od,⟨I.obj,rfl,rfl,ho⟩,hl⟩
section
variable{prog:Program}{s:Shared}{x:Addr}{name:Str}{v:Value}
theorem p_{expr:Bool}(X:K.In s.heap)(I:dQ s.heap x dx C mA)(hg:plainGet K C name=true)(hh:hasDictIn K C=true)
  (ha:findIn K (.ref C) name=some none)(hv:mA name=some v)(hv':R5 v=true)(h:Q v {s with toks:=s.toks+1}) :
  wpAny (model prog w) A (getAttr (.ref x) name expr) Q E s:=by
 obtain⟨od,J,hl⟩:=I.look;exact PySem.W.get_value X J (Ro hg).1 (PySem.W.findObj_own hh ha rfl (by rw[hl,hv])) hv' h
theorem Bg{pl:Sem Bool}{Q:Value×List Value->Shared->Prop}(X:K.In s.heap)(I:dQ s.heap x dx C mA)(hg:plainGet K C name=true)
  (hf:findIn K (.ref C) name=some (some (.ref f)))(ht:isFn K (.ref f)=true)(hv:mA name=none)(h:Q (.ref f,[.ref x]) s) :
  wpAny (model prog w) A (getMethod (.ref x) name pl) Q E s:=by
 obtain⟨od,J,hl⟩:=I.look;exact PySem.W.method_fn X J (Ro hg).1 (Ro hg).2 hf (beq_iff_eq.mp ht) (by show(lookIn name od).map (·.isSome)=some false;rw[hl,hv];rfl) h
theorem lT{ns:List Str}{Q:Unit->Shared->Prop}(X:K.In s.heap)(I:dQ s.heap x dx C mA)
  (hs:findIn K (.ref C) "__setattr__"=some (some (.builtin "object.__setattr__")))(hp:QH K C=true)(ht:takerIn K C name=some none)(hh:hasDictIn K C=true)
  (hw:QG mA ns)(hsz:ns.length<=sizeLine)
  (h:∀h',dQ h' x dx C (λy=>if y=name then some v else mA y)->MY dx s.heap h'->Q () {s with heap:=h',toks:=s.toks+2}) :
  wpAny (model prog w) A (setAttr (.ref x) name v) Q E s:=by
 obtain⟨od,J,hl⟩:=I.look;refine PySem.W.set_plain X J hs (PySem.W.osa_open (s:={s with toks:=s.toks+1}) (r:=none) X J hp ht λb=>?_);obtain⟨cd,hc,hd'⟩:=PySem.W.any_some hh;have hx:s.heap.get? x=some ⟨.ref C,some dx,.plain, #[]⟩:=I.obj;refine L1 (L9 (L1 (L1 (wpAny_loadPart hx (L1 (SV (s:={s with toks:=s.toks+1}) (PySem.W.looks_clsIn X hc) ?_))))));rw[hd'];refine L9 (a:=some dx) (L1 (L9 (L1 ?_)));refine wpAny_nsSet1 (s:={s with toks:=s.toks+1}) I.ns λh' hn2 hs2=>?_
 obtain⟨oD,esD,epD,hoD,hdD,hcD⟩:=hn2.count (SX name v hw);refine L1 (wpAny_lookBehind hoD (by rw[hdD];exact pastItsLine_dict (M6 hcD (by rw[LY];omega))) ?_);exact L9 (h _ ⟨(hs2.2 _ (Ne.symm I.ne)).trans I.obj,hn2,I.ne⟩ hs2)
theorem Bh{R:Result->Shared->Prop}{vs:List Value}(X:K.In s.heap)(hm:makesIn K C=true)
  (hi:findIn K (.ref C) "__init__"=some (some (.ref f)))(hf:PySem.W.typeIn K (.ref f)=some (.type "function"))
  (h:codeAny (model prog w) (A.under (.builtin "type.__call__" ⟨.ref C::vs,kw⟩)) (.call (.ref f) ⟨.ref (s.heap.objs.size+1)::vs,kw⟩) (PySem.W.InitBack (s.heap.objs.size+1) R)
   {s with heap:=(s.heap.push emptyDict).push (instObj C s.heap.objs.size)}) :
  codeAny (model prog w) A (.call (.ref C) ⟨vs,kw⟩) R s:=by
 obtain⟨hh,g,d,t,os⟩:=s;exact PySem.W.make_core (PySem.W.makes_of X hm) (PySem.W.looks_findIn X hi) (λself=>PySem.W.bind_fn X self hf) (.inl rfl) h
end
def bv(f:Str)(v:V):List (Str×V)->List (Str×V)
 | []=>[(f,v)]
 | (g,x)::r=>if g=f then(g,v)::r else(g,x)::bv f v r
theorem qa(f g:Str)(v:V):∀fs:List (Str×V),(bv f v fs).lookup g=if g=f then some v else fs.lookup g
 | []=>by
  show MJ g [(f,v)]=_;by_cases h:g=f
  .have hb:(g==f)=true:=beq_iff_eq.mpr h;simp only[MJ,hb,if_pos h]
  .have hb:(g==f)=false:=beq_eq_false_iff_ne.mpr h;simp only[MJ,hb,if_neg h]
 | (k,x)::r=>by
  have ih:=qa f g v r;rw[show bv f v ((k,x)::r)=(if k=f then(k,v)::r else(k,x)::bv f v r) from rfl];by_cases hk:k=f
  .rw[if_pos hk];by_cases h:g=k
   .have hb:(g==k)=true:=beq_iff_eq.mpr h;simp only[MJ,hb,if_pos (h.trans hk)]
   .have hb:(g==k)=false:=beq_eq_false_iff_ne.mpr h;simp only[MJ,hb,if_neg (λe:g=f=>h (e.trans hk.symm))]
  .rw[if_neg hk];by_cases h:g=k
   .have hb:(g==k)=true:=beq_iff_eq.mpr h;simp only[MJ,hb,if_neg (λe:g=f=>hk (h.symm.trans e))]
   .have hb:(g==k)=false:=beq_eq_false_iff_ne.mpr h;simp only[MJ,hb];exact ih
theorem lU(f:Str)(v:V):∀fs:List (Str×V),f∈(bv f v fs).map (·.1)/\∀g,g∈fs.map (·.1)->g∈(bv f v fs).map (·.1)
 | []=>⟨by simp[bv],λg h=>by simp at h⟩
 | (k,x)::r=>by
  obtain⟨i1,i2⟩:=lU f v r;rw[show bv f v ((k,x)::r)=(if k=f then(k,v)::r else(k,x)::bv f v r) from rfl];by_cases hk:k=f
  .rw[if_pos hk];subst hk;exact⟨by simp,λg h=>by simpa using h⟩
  .rw[if_neg hk];refine⟨?_,λg h=>?_⟩
   .rw[LQ];exact LN _ i1
   .rw[LQ] at h ⊢;rcases LD.mp h with e|e
    .exact LD.mpr (.inl e)
    .exact LN _ (i2 g e)
theorem qb(f:Str)(v:V):∀fs:List (Str×V),(bv f v fs).length<=fs.length+1
 | []=>by simp[bv]
 | (k,x)::r=>by
  have ih:=qb f v r;rw[show bv f v ((k,x)::r)=(if k=f then(k,v)::r else(k,x)::bv f v r) from rfl];by_cases hk:k=f
  .rw[if_pos hk,LY,LY];omega
  .rw[if_neg hk,LY,LY];omega
theorem br.some_of{o:Option Value}(r:br (some v) o):∃u,o=some u/\RelV v u:=by
 cases o with
 |none=>exact(show False from r).elim
 |some u=>exact⟨u,rfl,r⟩
theorem br.none_of{o:Option Value}(r:br none o):o=none:=by
 cases o with
 |none=>rfl
 |some u=>exact(show False from r).elim
theorem Bi(r:RelV v u):R5 u=true:=by
 cases v with
 |non=>cases (show u=My from r);rfl
 |bl b=>cases (show u=OH b from r);rfl
 |int i=>obtain⟨t,e⟩:=(show ∃t,u=OU i t from r);cases e;rfl
 |str x=>obtain⟨t,e⟩:=(show ∃t,u=NA x t from r);cases e;rfl
 |byt b=>obtain⟨t,e⟩:=(show ∃t,u=SN b t from r);cases e;rfl
 |flt b=>obtain⟨t,e⟩:=(show ∃t,u=Rm b t from r);cases e;rfl
 |ref a=>cases (show u=M4 a from r);rfl
 |ty n=>cases (show u=NN n from r);rfl
section
variable{fs fs':List (Str×V)}
theorem ia(hok:HOk P w H h)(e:H a=some (.ins C dx fs)):∃mA,dQ h a dx C mA/\(∀f,br (fs.lookup f) (mA f))/\QG mA (fs.map (·.1))/\fs.length<=1000/\H dx=some (.own a):=by
 obtain⟨d,z,ne,ob,mA,n,r,q⟩:=(show aB P w H h a (.ins C dx fs) from hok a _ e);exact⟨mA,⟨ob,n,ne⟩,r,q,z,d⟩
end
structure Cls(K:Frag)(C:Addr):Prop where
 pg:plainGet K C Mv=true
 hd:hasDictIn K C=true
 po:QH K C=true
 sa:findIn K (.ref C) "__setattr__"=some (some (.builtin "object.__setattr__"))
theorem Cls.get(c:Cls K C)(f:Str):plainGet K C f=true:=c.pg
def cp(K:Frag)(C:Addr)(f:Str):Prop:=findIn K (.ref C) f=some none
theorem cp.taker{f:Str}(n:cp K C f):takerIn K C f=some none:=by
 unfold takerIn;rw[show findIn K (.ref C) f=some none from n];rfl
structure Meth(K:Frag)(C:Addr)(m:Str)(f:Addr):Prop where
 at_:findIn K (.ref C) m=some (some (.ref f))
 fn:isFn K (.ref f)=true
 kp:keepIn K (.ref f)=true
section
variable{s:Shared}{fs:List (Str×V)}{f:Str}
theorem Bj{b:Bool}(I:Inv X pins σ H s)(e:H a=some (.ins C dx fs))(c:Cls X.K C)(n:cp X.K C f)(l:fs.lookup f=some v)
  (h:∀u s',Inv X pins σ H s'->RelV v u->Q u s'):wpAny (model X.prog X.w) A (getAttr (.ref a) f b) Q E s:=by
 obtain⟨mA,O,r,_,_,_⟩:=ia I.hok e;obtain⟨u,hu,ru⟩:=br.some_of (v:=v) (o:=mA f) (by rw[<- l];exact r f);exact p_ I.kIn O (c.get f) c.hd n hu (Bi ru) (h u _ (I.tok _) ru)
theorem qc{g:Addr}{pl:Sem Bool}{Q:Value×List Value->Shared->Prop}(I:Inv X pins σ H s)(e:H a=some (.ins C dx fs))(c:Cls X.K C)(k:Meth X.K C m g)(l:fs.lookup m=none)
  (h:Q (.ref g,[.ref a]) s):wpAny (model X.prog X.w) A (getMethod (.ref a) m pl) Q E s:=by
 obtain⟨mA,O,r,_,_,_⟩:=ia I.hok e;have hn:mA m=none:=br.none_of (by rw[<- l];exact r m);exact Bg I.kIn O (c.get m) k.at_ k.fn hn h
theorem Bk{Q:Unit->Shared->Prop}(I:Inv X pins σ H s)(e:H a=some (.ins C dx fs))(c:Cls X.K C)(n:cp X.K C f)(hl:fs.length < 1000)(ry:RelV y u)
  (h:∀s',Inv X pins σ (upd H a (.ins C dx (bv f y fs))) s'->Q () s'):wpAny (model X.prog X.w) A (setAttr (.ref a) f u) Q E s:=by
 obtain⟨mA,O,r,wi,_,ho⟩:=ia I.hok e;have hz:(fs.map (·.1)).length<=sizeLine:=by rw[L0,MG];omega
 refine lT I.kIn O c.sa c.po n.taker c.hd wi hz λh' O' sb=>h _ ?_
 have hd:∃o,h'.get? dx=some o:=let ⟨o,_,_,e',_⟩:=O'.ns;⟨o,e'⟩;refine I.write (x:=a) (e:=dx) (by rw[e];exact True.intro) (.inr ho) (λb q hb z=>(sb.2 b hb).trans z) hd ?_;refine⟨by rw[zE O.ne];exact ho,?_,O.ne,O'.obj,_,O'.ns,λg=>?_,λg hg=>?_⟩
 .have:=qb f y fs;omega
 .show br ((bv f y fs).lookup g) (if g=f then some u else mA g);rw[qa];by_cases q:g=f
  .rw[if_pos q,if_pos q];exact ry
  .rw[if_neg q,if_neg q];exact r g
 .by_cases q:g=f
  .rw[q];exact(lU f y fs).1
  .refine(lU f y fs).2 g (wi g λz=>hg ?_);show(if g=f then some u else mA g)=none;rw[if_neg q];exact z
theorem Inv.made(I:Inv X pins σ H s):Inv X pins σ (upd (upd H s.heap.objs.size (.own (s.heap.objs.size+1))) (s.heap.objs.size+1) (.ins C s.heap.objs.size []))
  {s with heap:=(s.heap.push emptyDict).push (instObj C s.heap.objs.size)}:=by
 have e1:(s.heap.push emptyDict).get? s.heap.objs.size=some emptyDict:=LC s.heap rfl;have e2:((s.heap.push emptyDict).push (instObj C s.heap.objs.size)).get? (s.heap.objs.size+1)=some (instObj C s.heap.objs.size):=by
  have:=LC (s.heap.push emptyDict) (o:=instObj C s.heap.objs.size) rfl;rwa [MU] at this
 have e3:(s.heap.push emptyDict).Ns s.heap.objs.size (λ_=>none):=⟨emptyDict, #[],_,e1,rfl,(λe he=>absurd he (by simp)),λ_=>rfl⟩;have I1:=I.laid (a:=s.heap.objs.size) (o:= .own (s.heap.objs.size+1)) (h':=s.heap.push emptyDict) (t':=s.toks) (λb u q=>L5 _ q) (Lx _) ⟨_,e1⟩;refine I1.laid (a:=s.heap.objs.size+1) (o:= .ins C s.heap.objs.size []) (t':=s.toks) (λb u q=>L5 _ q) (Sx (MU _ _)) ?_;have ne:s.heap.objs.size≠s.heap.objs.size+1:=LJ (No _);refine⟨by rw[zE ne,zA],Ms _,ne,e2,λ_=>none,(Heap.Ns1.of_empty e3).at λo q=>L5 _ q,λ_=>True.intro,λy hy=>absurd rfl hy⟩
theorem qd{prog:Program}{env:Env}{e:Expr}(hb:attributeBase e f env (eval e env)=eval e env)
  (h:wpAny (model prog w) A (eval e env) (λo s₁=>wpAny (model prog w) A (getAttr o f true) Q E s₁) E s):wpAny (model prog w) A (eval (.Attribute e f pos) env) Q E s :=
 Attribute_any_ h (by rw[arm_eval_Attribute,hb])
end
def jw(K:Frag)(ta:TE)(f:Str):TE:=λσ H Q=>ta σ H λx H1=>∃a C dx fs v,x= .ref a/\H1 a=some (.ins C dx fs)/\Cls K C/\cp K C f/\fs.lookup f=some v/\Q v H1
def jx(K:Frag)(ta tv:TE)(f:Str):TS:=λD σ H=>tv σ H λy H1=>ta σ H1 λx H2=>∃a C dx fs,x= .ref a/\H2 a=some (.ins C dx fs)/\Cls K C/\cp K C f/\fs.length < 1000 /\
 D.nx σ (upd H2 a (.ins C dx (bv f y fs)))
section
variable{o e value:Expr}{f:Str}{pos' tpos:Pos}{tv:TE}
theorem Bl(he:PE X e ta)(hb:attributeBase e f X.env (eval e X.env)=eval e X.env):PE X (.Attribute e f pos) (jw X.K ta f):=by
 intro pins s σ H Q I h;refine qd hb (thn (he pins s σ H _ I h) λu s1 ⟨x,H1,I1,rx,a,C,dx,fs,v,ex,ea,c,n,l,q⟩=>?_);subst ex;obtain rfl:u=M4 a:=rx;exact Bj I1 ea c n l λu' s2 I2 ru=>⟨v,H1,I2,ru,q⟩
theorem Bm(ha:PE X o ta)(hv:PE X value tv)(hs:swapsWith value (some (.Attribute o f pos')) pos.line X.env=pure false):PS X (.Assign [.Attribute o f pos'] value pos) (jx X.K ta tv f):=by
 intro pins s σ H D I h;refine plainObj_wpAny_Assign_Attribute (thn (hv pins s σ H _ I h) λu s1 ⟨y,H1,I1,ry,q⟩=>thn (ha pins s1 σ H1 _ I1 q) λov s2 ⟨x,H2,I2,rx,a,C,dx,fs,ex,ea,c,n,l,q2⟩=>?_) hs;subst ex;obtain rfl:ov=M4 a:=rx;exact Bk I2 ea c n l ry λs3 I3=>⟨σ,_,I3,q2⟩
end
section
variable{s:Shared}{c:Value}{b:Bool}
inductive bK(K:Frag)(H:Hp):V->Value->Prop where
 |non:bK K H .non (.type "NoneType")
 |bl (x:Bool):bK K H (.bl x) (.type "bool")
 |int (i:Int):bK K H (.int i) (.type "int")
 |str (x:Str):bK K H (.str x) (.type "str")
 |flt (x:UInt64):bK K H (.flt x) (.type "float")
 |lst {a:Addr} {xs:List V} (e:H a=some (.lst xs)):bK K H (.ref a) (.type "list")
 |frz {a:Addr} {o:Obj} {xs:List V} (e:H a=some (.frz o (.lst xs))):bK K H (.ref a) (.type "list")
 |tup {a:Addr} {xs:List V} (e:H a=some (.tup xs)):bK K H (.ref a) (.type "tuple")
 |dK {a:Addr} {kvs:List (Key×V)} (e:H a=some (.dK kvs)):bK K H (.ref a) (.type "dict")
 |dT {a:Addr} {kvs:List (List Key×V)} (e:H a=some (.dT kvs)):bK K H (.ref a) (.type "dict")
 |ins {a C dx:Addr} {fs:List (Str×V)} (e:H a=some (.ins C dx fs)) (cl:Cls K C) (ha:findIn K (.ref C) "__class__"=some (some (.builtin "object.__class__")))
   (hn:PySem.W.specialIn K (.builtin "object.__class__") "__get__"=some (some (.builtin "getset_descriptor.__get__"))) (htk:PySem.W.takesIn K (.builtin "object.__class__")=some true)
   (hm:PySem.W.mroIn K C (.type "object")=some true):bK K H (.ref a) (.ref C)
theorem Bn{x:V}{t:Value}(I:Inv X pins σ H s)(rx:RelV x u)(ty:bK X.K H x t)(e:kitOne X.K t c=some b)(h:∀tk,Q (.bool b) {s with toks:=tk}) :
  wpAny (model X.prog X.w) A (call (.builtin "isinstance") [u,c]) Q E s:=by
 cases ty with
 |non=>cases (show u=My from rx);exact kia_one PySem.W.kitx_none I.kIn True.intro e (λz=>nomatch z) h
 |bl y=>cases (show u=OH y from rx);exact kia_one PySem.W.kitx_bool I.kIn True.intro e (λz=>nomatch z) h
 |int i=>obtain⟨t,q⟩:=(show ∃t,u=OU i t from rx);cases q;exact kia_one PySem.W.kitx_int I.kIn True.intro e (λz=>nomatch z) h
 |str y=>obtain⟨t,q⟩:=(show ∃t,u=NA y t from rx);cases q;exact kia_one PySem.W.kitx_str I.kIn True.intro e (λz=>nomatch z) h
 |flt y=>obtain⟨t,q⟩:=(show ∃t,u=Rm y t from rx);cases q;exact kia_one PySem.W.kitx_float I.kIn True.intro e (λz=>nomatch z) h
 |@lst a xs ea =>
  cases (show u=M4 a from rx);obtain⟨_,_,n,_,h1⟩:=(show aB X.prog X.w H s.heap a (.lst xs) from I.hok a _ ea);exact kia_one QI I.kIn ⟨_,h1,rfl⟩ e (λz=>nomatch z) h
 |@frz a ob xs ea =>
  cases (show u=M4 a from rx);obtain⟨_,_,_,n,_,h1⟩:=(show aB X.prog X.w H s.heap a (.frz ob (.lst xs)) from I.hok a _ ea);exact kia_one QI I.kIn ⟨_,h1,rfl⟩ e (λz=>nomatch z) h
 |@tup a xs ea =>
  cases (show u=M4 a from rx);obtain⟨_,_,_,p⟩:=(show aB X.prog X.w H s.heap a (.tup xs) from I.hok a _ ea);obtain⟨o,h1,h2,_⟩:=p;exact kia_one Qr I.kIn ⟨o,h1,h2⟩ e (λz=>nomatch z) h
 |@dK a kvs ea =>
  cases (show u=M4 a from rx);obtain⟨_,_,vs,_,p⟩:=(show aB X.prog X.w H s.heap a (.dK kvs) from I.hok a _ ea);obtain⟨o,es,ep,h1,h2,_⟩:=p;exact kia_one QJ I.kIn ⟨o,h1,h2.1⟩ e (λz=>nomatch z) h
 |@dT a kvs ea =>
  cases (show u=M4 a from rx);obtain⟨_,_,xs,_,o,es,ep,h1,h2,_⟩:=(show aB X.prog X.w H s.heap a (.dT kvs) from I.hok a _ ea);exact kia_one QJ I.kIn ⟨o,h1,h2.1⟩ e (λz=>nomatch z) h
 |@ins a C dx fs ea cl ha hn htk hm =>
  cases (show u=M4 a from rx);obtain⟨mA,O,_⟩:=ia I.hok ea;obtain⟨od,J,_⟩:=O.look;exact kia_one (PySem.W.kitx_own (cl.get _) cl.hd ha hn htk hm) I.kIn J e (λz=>nomatch z) h
end
structure aS(cm:Bool)(k:Nat)(A:Around):Prop where
 hd:cm=true->A.handled=none
 dp:A.depth+3*k+5 < recursionLimit
 un:A.units+16*k+200 < cLine
 gd:A.guards=some []
abbrev bf(k:Nat)(A:Around):Prop:=aS true k A
theorem aS.mono{k:Nat}(r:aS cm k A)(h:j<=k):aS cm j A:=⟨r.hd,by have:=r.dp;omega,by have:=r.un;omega,r.gd⟩
theorem aS.deeper{k:Nat}(r:aS cm (k+1) A)(env:Env):aS cm k (A.deeper env) :=
 ⟨r.hd,by have:=r.dp;show A.depth+1+3*k+5 < _;omega,by have:=r.un;show A.units+3+16*k+200 < _;omega,r.gd⟩
theorem Bo:(A.under (.builtin "type.__call__" ⟨.ref C::us,kw⟩)).depth=A.depth+1:=by
 first|rfl|simp[Around.under,Code.weight,Code.isCreation,Code.isGuard,Code.isCaller,Code.frames,Code.isFrame,guardIds]
theorem Bp:(A.under (.builtin "type.__call__" ⟨.ref C::us,kw⟩)).units=A.units+1:=by
 first|rfl|simp[Around.under,Code.cUnits,Code.frames,Code.isFrame]
theorem Bq:(A.under (.builtin "type.__call__" ⟨.ref C::us,kw⟩)).guards=A.guards:=by
 first|rfl|simp[Around.under,Code.guards,Code.isGuard,guardIds,pushGuards]
theorem aS.make{k:Nat}(r:aS cm (k+1) A)(C:Addr)(us:List Value)(kw:List (Str×Value)):aS cm k (A.under (.builtin "type.__call__" ⟨.ref C::us,kw⟩)) :=
 ⟨r.hd,by have:=r.dp;rw[Bo];omega,by have:=r.un;rw[Bp];omega,by rw[Bq];exact r.gd⟩
theorem aS.depth{k:Nat}(r:aS cm k A):A.depth < recursionLimit:=by have:=r.dp;omega
theorem aS.units{k:Nat}(r:aS cm k A):A.units+64 < cLine:=by have:=r.un;omega
def bL:TA:=λ_ H Q=>Q [] H
def cA(ta:TE)(tr:TA):TA:=λσ H Q=>ta σ H λx H1=>tr σ H1 λxs H2=>Q (x::xs) H2
section
variable{e:Expr}{t:TA}
theorem lV:PA X [] bL:=λ_ _ _ _ H Q I h=>Calls.spliced_nil ⟨[],H,I,.nil,h⟩
theorem lW(ha:PE X e te)(hr:PA X es t)(hs:starEach (e::es) X.env=(false,eval e X.env)::starEach es X.env:=by rfl):PA X (e::es) (cA te t):=by
 intro pos pins s σ H Q I h;rw[hs];show wpAny _ _ (spliced ((false,eval e X.env)::backTo pos (starEach es X.env))) _ _ s;refine Calls.spliced_cons (thn (ha pins s σ H _ I h) λu s1 ⟨x,H1,I1,r1,q1⟩=>?_);exact thn (hr pos pins s1 σ H1 _ I1 q1) λus s2 ⟨xs,H2,I2,r2,q2⟩=>⟨x::xs,H2,I2,.cons r1 r2,q2⟩
def lX(t:TA):TE:=λσ H Q=>t σ H λxs H1=>xs.length<=sizeLine/\∀p,H1 p=none->Q (.ref p) (upd H1 p (.tup xs))
def jy(t:TA):TE:=λσ H Q=>t σ H λxs H1=>xs.length<=sizeLine/\∀p,H1 p=none->Q (.ref p) (upd H1 p (.lst xs))
theorem Br{x1}(h:PA X es t):PE X (.Tuple es x1 pos) (lX t):=by
 intro pins s σ H Q I hq;refine wpAny_Tuple_spliced (thn (h pos pins s σ H _ I hq) λus s1 ⟨xs,H1,I1,r,z,q⟩=>⟨by rw[<- r.length];exact z,?_⟩);have hf:H1 s1.heap.objs.size=none:=I1.hok.fresh (Lx _);refine⟨.ref s1.heap.objs.size,upd H1 s1.heap.objs.size (.tup xs),I1.laid (t':=s1.toks) (λb u e=>L5 _ e) (Lx _) ?_,rfl,q _ hf⟩;exact⟨z,us,r,⟨_,LC _ rfl,rfl,_,rfl⟩⟩
theorem Bs(h:PA X es t):PE X (.List es pos) (jy t):=by
 intro pins s σ H Q I hq;refine wpAny_List_spliced (thn (h pos pins s σ H _ I hq) λus s1 ⟨xs,H1,I1,r,z,q⟩=>⟨by rw[<- r.length];exact z,?_⟩);have hf:H1 s1.heap.objs.size=none:=I1.hok.fresh (Lx _);refine⟨.ref s1.heap.objs.size,upd H1 s1.heap.objs.size (.lst xs),I1.laid (t':=s1.toks) (λb u e=>L5 _ e) (Lx _) ?_,rfl,q _ hf⟩;exact⟨z,us,0,r,LC _ rfl⟩
end
abbrev Sp:=List V->Hp->VK->XK->Prop
variable{sp:Sp}
abbrev CXT:=List Env->Hp->Shared->XK->Value->Shared->Prop
variable{CX:CXT}
structure fw(P:Program)(w:World)(K:Frag)(mg:Str->Option Value)(base:Heap)(A:Around)(outer:List Env)(s:Shared)(H:Hp):Prop where
 frames:A.frames=some outer
 mod:Mod K mg base
 bs:∀b o,base.get? b=some o->s.heap.get? b=some o/\H b=none
 bsz:base.objs.size<=s.heap.objs.size
 funs:s.heap.FunFrames base outer
 frf:∀b∈frs outer,H b=none
 hok:HOk P w H s.heap
 bare:AllBare s.gens
def CE(outer:List Env)(P:Program)(w:World)(H:Hp)(s:Shared)(Q:VK)(u:Value)(s':Shared):Prop :=
 ∃v H',s'.os=s.os/\AllBare s'.gens/\Un (frs outer) [] H H' s.heap s'.heap/\HOk P w H' s'.heap/\RelV v u/\Q v H'
def CR(CX:CXT)(outer:List Env)(P:Program)(w:World)(H:Hp)(s:Shared)(Q:VK)(E:XK)(r:Result)(s':Shared):Prop :=
 match r with
 | .ok (.ret u)=>CE outer P w H s Q u s'
 | .ok _=>False
 | .error e=>CX outer H s E e s'
structure zX(P:Program)(w:World)(K:Frag)(mg:Str->Option Value)(base:Heap)(CX:CXT)(k:Nat)(f:Addr)(fd:FuncData)(ps:List Str)(sp:Sp)(cm:Bool:=true):Prop where
 len:∀vs H Q E,sp vs H Q E->vs.length=ps.length
 run:∀(A:Around) (outer:List Env) (s:Shared) (H:Hp) (args:Args) (us:List Value) (vs:List V) (Q:VK) (E:XK),aS cm k A->fw P w K mg base A outer s H->BindsTo s fd args (ps.zip us)->Vals vs us->sp vs H Q E ->
  codeAny (model P w) A (.call (.ref f) args) (CR CX outer P w H s Q E) s
theorem zX.mono{k:Nat}(F:zX P w K mg base CX j f fd ps sp)(h:j<=k) :
  zX P w K mg base CX k f fd ps sp:=⟨F.len,λA outer s H args us vs Q E hr=>F.run A outer s H args us vs Q E (hr.mono h)⟩
theorem zX.imp{k:Nat}{sp':Sp}(F:zX P w K mg base CX k f fd ps sp)
  (h:∀vs H Q E,sp' vs H Q E->sp vs H Q E):zX P w K mg base CX k f fd ps sp' :=
 ⟨λvs H Q E q=>F.len vs H Q E (h _ _ _ _ q),λA outer s H args us vs Q E hr he hb hv hs=>F.run A outer s H args us vs Q E hr he hb hv (h _ _ _ _ hs)⟩
theorem fw.make{outer:List Env}{s:Shared}(e:fw P w K mg base A outer s H)(C:Addr)(us:List Value)(kw:List (Str×Value)) :
  fw P w K mg base (A.under (.builtin "type.__call__" ⟨.ref C::us,kw⟩)) outer s H:=⟨by first|exact e.frames | (simpa [Around.under,Code.envs,Code.isFrame,pushEnvs] using e.frames),e.mod,e.bs,e.bsz,e.funs,e.frf,e.hok,e.bare⟩
section
variable{s s':Shared}
theorem Inv.env0(I:Inv X pins σ H s):fw X.prog X.w X.K X.mg X.base X.A X.stack s H :=
 ⟨I.ok.frames,I.ok.mod,I.bs,M6 I.ok.bsz I.sz,I.stack,I.stkFree,I.hok,I.bare⟩
theorem Inv.after{Q:VK}(I:Inv X pins σ H s)(h:CE X.stack X.prog X.w H s Q u s'):EP X pins σ Q u s':=by
 obtain⟨v,H',os,bare,un,hok,r,q⟩:=h;obtain⟨hh,g,d,t,os'⟩:=s';obtain rfl:os'=s.os:=os;exact⟨v,H',I.call (h':=hh) (g':=g) (d':=d) (t':=t) (ch:=[]) un hok bare (λb z=>absurd z (by simp)),r,q⟩
end
def ib(sp:Sp)(dvs:List V)(E:XK)(t:TA):TE:=λσ H Q=>t σ H λvs H1=>sp (vs++dvs) H1 Q E
def Binds(K:Frag)(fd:FuncData)(ps:List Str)(ds:List Value):Prop :=
 ∀(s:Shared) (us:List Value),K.In s.heap->(us++ds).length=ps.length->BindsTo s fd ⟨us,[]⟩ (ps.zip (us++ds))
theorem Binds.all(h:∀us:List Value,us.length=ps.length->bindArgs fd ⟨us,[]⟩=pure (ps.zip us)):Binds K fd ps []:=λs us _ hl=>by
 rw[MW] at hl ⊢;exact .of_eq (h us hl)
def cq(CX:CXT)(X:Cx)(E:XK):Prop:=∀(pins:List (Addr×Obj)) (σ:St) (H:Hp) (s:Shared) (e:Value) (s':Shared),Inv X pins σ H s->CX X.stack H s E e s'->X.xe e s'
section
variable{k:Nat}{dvs:List V}{ds:List Value}{E:XK}{p apos:Pos}{e o:Expr}{t:TA}
theorem Bt{s:Shared}{Q:VK}(F:zX X.prog X.w X.K X.mg X.base CX k f fd ps sp)(hr:bf k X.A)(hb:Binds X.K fd ps ds)(hd:Vals dvs ds)(hx:cq CX X E)
  (I:Inv X pins σ H s)(r:Vals vs us)(h:sp (vs++dvs) H Q E):wpAny (model X.prog X.w) X.A (call (.ref f) us) (EP X pins σ Q) X.xe s:=by
 have r2:Vals (vs++dvs) (us++ds):=r.append hd;have hl:(us++ds).length=ps.length:=by rw[<- r2.length];exact F.len _ _ _ _ h
 refine Pz (Oc (F.run X.A X.stack s H ⟨us,[]⟩ (us++ds) (vs++dvs) Q E hr I.env0 (hb s us I.kIn hl) r2 h) λr s' hq=>?_);cases r with
 |error e=>exact hx pins σ H s e s' I hq
 |ok fl =>
  cases fl with
  |ret u=>exact I.after hq
  |next=>exact False.elim hq
  |brk=>exact False.elim hq
  |cont=>exact False.elim hq
theorem Bu(F:zX X.prog X.w X.K X.mg X.base CX k f fd ps sp)(hr:bf k X.A)(hg:Gl X x)(hm:X.mg x=some (.ref f))(hk:keepIn X.K (.ref f)=true)(hb:Binds X.K fd ps ds)(hd:Vals dvs ds)(hx:cq CX X E)
  (ha:PA X (e::es) t)(hdb:(x==("__debug__":Str))=false:=by decide)(he:starEach (e::es) X.env=(false,eval e X.env)::starEach es X.env:=by rfl)(hpl:(backTo pos (starEach es X.env)).any (·.1)=false:=by rfl) :
  PE X (.Call (.Name x p) (e::es) [] pos) (ib sp dvs E t):=by
 intro pins s σ H Q I h;refine Nq (hW I hg hm ?_ hdb);refine PySem.W.callWith_K (h₀:=X.base) I.ok.mod.kin hk (thn (ha pos pins s σ H _ I h) λus s1 ⟨vs,H1,I1,r,q⟩=>⟨I1.kIn,?_⟩) he hpl;exact Bt F hr hb hd hx I1 r q
structure Mk(K:Frag)(C f:Addr):Prop where
 makes:makesIn K C=true
 init:findIn K (.ref C) "__init__"=some (some (.ref f))
 fn:isFn K (.ref f)=true
 kp:keepIn K (.ref C)=true
end
def PK(X:Cx)(kws:List Keyword)(t:TA):Prop :=
 ∀(pos:Pos) (pins:List (Addr×Obj)) (s:Shared) (σ:St) (H:Hp) (Q:List V->Hp->Prop),Inv X pins σ H s->t σ H Q->wpAny (model X.prog X.w) X.A (evalAll ((backToKw pos (keywordEach kws X.env)).map (·.2))) (AP X pins σ Q) X.xe s
section
variable{k:Nat}{ks:List Str}{E:XK}{p apos kpos:Pos}{e o:Expr}{kws:List Keyword}{t tk:TA}{nm:Option Str}
theorem Bv:PK X [] bL:=λ_ _ _ _ H Q I h=>QV ⟨[],H,I,.nil,h⟩
theorem Bw(ha:PE X e te)(hr:PK X kws t):PK X (⟨nm,e,kpos⟩::kws) (cA te t):=by
 intro pos pins s σ H Q I h;show wpAny _ _ (evalAll ((do let v<-eval e X.env;standAt pos;pure v)::(backToKw pos (keywordEach kws X.env)).map (·.2))) _ _ s;refine QB (L1 (thn (ha pins s σ H _ I h) λu s1 ⟨x,H1,I1,r1,q1⟩=>L1 (Ni (L9 ?_))));exact thn (hr pos pins s1 σ H1 _ I1 q1) λus s2 ⟨xs,H2,I2,r2,q2⟩=>⟨x::xs,H2,I2,.cons r1 r2,q2⟩
structure cW(K:Frag)(fd:FuncData)(ps ks:List Str)(g:List Value->List Value->List Value)(gV:List V->List V->List V):Prop where
 to:∀(s:Shared) (us ws:List Value),K.In s.heap->(g us ws).length=ps.length->BindsTo s fd ⟨us,ks.zip ws⟩ (ps.zip (g us ws))
 rel:∀{vs:List V} {us:List Value} {zs:List V} {ws:List Value},Vals vs us->Vals zs ws->Vals (gV vs zs) (g us ws)
def lY(sp:Sp)(gV:List V->List V->List V)(E:XK)(t tk:TA):TE:=λσ H Q=>t σ H λvs H1=>tk σ H1 λzs H2=>sp (gV vs zs) H2 Q E
variable{g:List Value->List Value->List Value}{gV:List V->List V->List V}
theorem lZ{s:Shared}{Q:VK}{ws:List Value}{zs:List V}(F:zX X.prog X.w X.K X.mg X.base CX k f fd ps sp)(hr:bf k X.A)(hb:cW X.K fd ps ks g gV)(hx:cq CX X E)
  (I:Inv X pins σ H s)(r:Vals vs us)(rz:Vals zs ws)(h:sp (gV vs zs) H Q E):wpAny (model X.prog X.w) X.A (call (.ref f) us (ks.zip ws)) (EP X pins σ Q) X.xe s:=by
 have r2:=hb.rel r rz;have hl:(g us ws).length=ps.length:=by rw[<- r2.length];exact F.len _ _ _ _ h
 refine Pz (Oc (F.run X.A X.stack s H ⟨us,ks.zip ws⟩ (g us ws) (gV vs zs) Q E hr I.env0 (hb.to s us ws I.kIn hl) r2 h) λr s' hq=>?_);cases r with
 |error e=>exact hx pins σ H s e s' I hq
 |ok fl =>
  cases fl with
  |ret u=>exact I.after hq
  |next=>exact False.elim hq
  |brk=>exact False.elim hq
  |cont=>exact False.elim hq
theorem Bx(F:zX X.prog X.w X.K X.mg X.base CX k f fd ps sp)(hr:bf k X.A)(hg:Gl X x)(hm:X.mg x=some (.ref f))(hk:keepIn X.K (.ref f)=true)(hb:cW X.K fd ps ks g gV)(hx:cq CX X E)
  (ha:PA X (e::es) t)(hkw:PK X kws tk)(hall:(backToKw pos (keywordEach kws X.env)).all (·.1.isSome)=true:=by rfl)(hks:(backToKw pos (keywordEach kws X.env)).filterMap (·.1)=ks:=by rfl)
  (hdb:(x==("__debug__":Str))=false:=by decide)(he:starEach (e::es) X.env=(false,eval e X.env)::starEach es X.env:=by rfl)
  (hpl:((backTo pos (starEach (e::es) X.env)).any (·.1)||(backToKw pos (keywordEach kws X.env)).any (·.1.isNone))=false:=by rfl) :
  PE X (.Call (.Name x p) (e::es) kws pos) (lY sp gV E t tk):=by
 intro pins s σ H Q I h;refine Nq (hW I hg hm ?_ hdb);refine Rp (h₀:=X.base) I.ok.mod.kin hk hall (thn (ha pos pins s σ H _ I h) λus s1 ⟨vs,H1,I1,r,q⟩=>?_) hpl he;refine thn (hkw pos pins s1 σ H1 _ I1 q) λws s2 ⟨zs,H2,I2,rz,q2⟩=>⟨I2.kIn,?_⟩
 rw[hks];exact lZ F hr hb hx I2 r rz q2
end
structure zG(N P:List Str)(sc:Scope):Prop where
 kind:sc.kind= .function
 co:sc.isCoroutine=false
 gen:sc.isGenerator=false
 nd:N.Nodup
 pre:N.take P.length=P
 par:∀x∈P,sc.names.lookup x=some .local\/sc.names.lookup x=some .cell
 nofree:∀y∈sc.names,y.2≠ .free
theorem qe{kindOf:Str->Option NameKind}{x:Str}:∀{binds:List (Str×Value)} {m:Str->Option Value},(∀v,(x,v)∉binds)->bindL kindOf binds m x=m x
 | [],_,_=>rfl
 | (n,v)::r,m,h=>by
  unfold bindL;rw[qe λw hw=>h w (LN _ hw)];split
  .have:x≠n:=by rintro rfl;exact h v LO
   simp[this]
  .rfl
theorem qg{kindOf:Str->Option NameKind}{x:Str}:∀{binds:List (Str×Value)} {m:Str->Option Value},(∀v,(x,v)∉binds)->bindC kindOf binds m x=m x
 | [],_,_=>rfl
 | (n,v)::r,m,h=>by
  unfold bindC;rw[qg λw hw=>h w (LN _ hw)];split
  .rfl
  .have:x≠n:=by rintro rfl;exact h v LO
   simp[this]
theorem qh{kindOf:Str->Option NameKind}{x:Str}{v:Value}:∀{P:List Str} {vs:List Value} {i:Nat} {m:Str->Option Value},P.Nodup->P[i]? = some x->vs[i]? = some v->kindOf x=some .local ->
  bindL kindOf (P.zip vs) m x=some v
 | [],_,_,_,_,h,_,_=>by simp at h
 |_::_,[],_,_,_,_,h,_=>by simp at h
 |p::P,w::vs,0,m,nd,h1,h2,hk=>by
  simp at h1 h2;subst h1;subst h2;show bindL kindOf ((p,w)::P.zip vs) m p=_;unfold bindL;rw[qe λv hv=>(NK.mp nd).1 (PD hv).1,if_pos hk];simp
 |p::P,w::vs,i+1,m,nd,h1,h2,hk=>by
  show bindL kindOf ((p,w)::P.zip vs) m x=_;unfold bindL;exact qh (i:=i) (NK.mp nd).2 (by simpa using h1) (by simpa using h2) hk
theorem qi{kindOf:Str->Option NameKind}{x:Str}{v:Value}:∀{P:List Str} {vs:List Value} {i:Nat} {m:Str->Option Value},P.Nodup->P[i]? = some x->vs[i]? = some v->kindOf x≠some .local ->
  bindC kindOf (P.zip vs) m x=some v
 | [],_,_,_,_,h,_,_=>by simp at h
 |_::_,[],_,_,_,_,h,_=>by simp at h
 |p::P,w::vs,0,m,nd,h1,h2,hk=>by
  simp at h1 h2;subst h1;subst h2;show bindC kindOf ((p,w)::P.zip vs) m p=_;unfold bindC;rw[qg λv hv=>(NK.mp nd).1 (PD hv).1,if_neg hk];simp
 |p::P,w::vs,i+1,m,nd,h1,h2,hk=>by
  show bindC kindOf ((p,w)::P.zip vs) m x=_;unfold bindC;exact qi (i:=i) (NK.mp nd).2 (by simpa using h1) (by simpa using h2) hk
def start(N:List Str)(vs:List V):St:=vs.map some++LF (N.length - vs.length) none
def dR(CX:CXT)(P:Program)(w:World)(K:Frag)(mg:Str->Option Value)(base:Heap)(N:List Str)(qual:Str)(scope:Scope)(f:Addr)(cd:Value)(A:Around)(outer:List Env)(s:Shared)(H:Hp)(E:XK)(cm:Bool:=true):Cx where
 prog:=P
 w:=w
 K:=K
 mg:=mg
 base:=base
 A:=A.deeper (envOfC qual scope s.heap.objs.size f cd)
 N:=N
 s₀:=s
 H₀:=H
 env:=envOfC qual scope s.heap.objs.size f cd
 outer:=outer
 stack:=envOfC qual scope s.heap.objs.size f cd::outer
 ex:=[]
 calm:=cm
 fn:=λ_=>true
 pn:=[]
 xe:=λe s'=>wpAny (model P w) (A.deeper (envOfC qual scope s.heap.objs.size f cd)) (leaving (envOfC qual scope s.heap.objs.size f cd) e) (λ_ s''=>CX outer H s E e s'') (λe' s''=>CX outer H s E e' s'') s'
theorem qj{sc:Scope}{n:Nat}(h:sc.names.lookup x=some .cell):∃c,(cellsFrom n sc.names []).lookup x=some c:=by
 have q:=Pp sc.names n [] (.inl h);exact Oi.mp q
theorem By{qual:Str}{scope:Scope}{cd:Value}{outer:List Env}{s s1:Shared}{E:XK}
  (S:zG N ps scope)(hd:cm=true->A.handled=none)(e0:fw P w K mg base A outer s H)(hl:vs.length=ps.length)(r:Vals vs us)
  (x:InCallC s s.heap.objs.size (bindL (envOfC qual scope s.heap.objs.size f cd).kindOf (ps.zip us) λ_=>none) (cellsFrom (s.heap.objs.size+1) scope.names []) (bindC (envOfC qual scope s.heap.objs.size f cd).kindOf (ps.zip us) λ_=>none) s1) :
  Inv (dR CX P w K mg base N qual scope f cd A outer s H E cm) [] (start N vs) H s1:=by
 have hpl:ps.length<=N.length:=by have:=congrArg NL S.pre;rw[Mo] at this;omega
 obtain⟨h1,tk,rfl,hk⟩:=x.done;have noA:∀b:Addr,b∉(dR CX P w K mg base N qual scope f cd A outer s H E cm).ex:=λb z=>absurd (show b∈([]:List Addr) from z) (by simp)
 refine⟨⟨e0.mod,S.kind,rfl,rfl,Lx _,λy z c h1 h2=>?_,λy hy=>?_,λy c _ h=>?_,hd,Around.frames_deeper e0.frames,.inr ⟨rfl,rfl⟩,λb z=>absurd z (noA b),e0.bs,e0.bsz,λb _ _=>noA b,λb z=>absurd z (noA b),e0.funs,e0.frf⟩,
  rfl,e0.bare,Un.kept hk,⟨_,x.toInCall.ns,λi y v h1 h2 h3=>?_⟩,λy c h=>⟨_,x.cell y c h⟩,e0.hok.fresh (Lx _),λy c h=>?_,λp hp=>absurd (show p∈([]:List (Addr×Obj)) from hp) (by simp),e0.hok.kept hk,?_⟩
 .exact name_of_addr x.apart (Ma h1) (Ma h2)
 .have hy:scope.names.lookup y=some .cell\/scope.names.lookup y=some .free:=hy;rcases hy with hy|hy
  .exact qj hy
  .exact absurd rfl (S.nofree _ (Ma hy))
 .exact Nd (x.above y c (Ma h))
 .have hi:i < vs.length:=by
   unfold start at h2;by_cases hi:i < vs.length
   .exact hi
   .rw[Mc (by simpa using hi)] at h2;rw[Oz] at h2;split at h2<;>cases h2
  have ha:vs[i]? = some v:=by
   unfold start at h2;rw[Me (by simpa using hi),L4] at h2;cases e:vs[i]? with
   |none=>rw[e] at h2;cases h2
   |some a=>rw[e] at h2;cases h2;rfl
  obtain⟨u,hu,rv⟩:=r.get ha;have hp:ps[i]? = some y:=by
   rw[<- S.pre,List.getElem?_take_of_lt (by omega)];exact h1
  have ndP:ps.Nodup:=by rw[<- S.pre];exact S.nd.sublist (Nt _ _)
  refine⟨u,rv,?_⟩;rcases S.par y (LA hp) with k|k
  .exact .inl ⟨k,qh ndP hp hu k⟩
  .obtain⟨c,e⟩:=qj (n:=s.heap.objs.size+1) k;refine .inr ⟨.inl k,c,e,?_⟩;have q:=x.cell y c e;rw[qi ndP hp hu (by show scope.names.lookup y≠_;rw[k];decide)] at q;exact q
 .exact e0.hok.fresh (Nd (x.above y c (Ma h)))
 .unfold start;show _=N.length;rw[LG,L0,NF];omega
theorem qk{k:Nat}{name qual:Str}{params:Arguments}{body:List Stmt}{scope:Scope}{dV kV doc pm cdv ct oc:Value}{an od:Option Addr}
  {osl:Array (Option Value)}(lk:K.lookup f=some ⟨oc,od,.func (fnOf name qual params body scope dV kV doc pm an cdv ct),osl⟩)(hcd:codeIn K cdv qual=true)(S:zG N ps scope)
  (len:∀vs H Q E,sp vs H Q E->vs.length=ps.length)
  (hbody:∀(A:Around) (outer:List Env) (s:Shared) (H:Hp) (vs:List V) (Q:VK) (E:XK),aS cm k (A.deeper (envOfC qual scope s.heap.objs.size f cdv))->sp vs H Q E ->
   ∃t,PSs (dR CX P w K mg base N qual scope f cdv A outer s H E cm) body t/\t {nx:=λ_ H'=>Q .non H',rt:=Q} (start N vs) H) :
  zX P w K mg base CX (k+1) f (fnOf name qual params body scope dV kV doc pm an cdv ct) ps sp cm:=by
 refine⟨len,λA outer s H args us vs Q E hr e0 hb r hsp=>?_⟩;have hl:=len _ _ _ _ hsp;have KX:K.In s.heap:=e0.mod.kin.keeps λb o e=>(e0.bs b o e).1
 have lim:s.heap.NoLimit:=e0.mod.nolimit.keeps λb o e=>(e0.bs b o e).1
 have hkind:∀y∈ps.zip us,scope.names.lookup y.1=some .local\/(scope.names.lookup y.1=some .cell/\((cellsFrom (s.heap.objs.size+1) scope.names []).lookup y.1).isSome=true):=λ⟨n,v⟩ hy=>by
  rcases S.par n (PD hy).1 with q|q
  .exact .inl q
  .exact .inr ⟨q,Pp _ _ _ (.inl q)⟩
 refine codeAny_call_function hr.depth (KX _ _ lk) rfl S.co S.gen rfl (PySem.W.codeRec_of KX hcd) (hb _ _ _ _ ?_);refine wpAny_newFunctionEnv_cells S.kind hkind λenv he s1 x=>?_
 subst he;refine⟨lim.keeps x.toInCall.keep,codeAny_func ?_⟩;obtain⟨t,ht,hq⟩:=hbody A outer s H vs Q E (hr.deeper _) hsp;have I:Inv (dR CX P w K mg base N qual scope f cdv A outer s H E cm) [] (start N vs) H s1:=By S hr.hd e0 hl r x;refine M0 (ht [] s1 (start N vs) H _ I hq) (λfl s' hs=>?_) λe s' hs=>hs
 have fin:∀{σ':St} {H':Hp} {v:V} {u:Value},Inv (dR CX P w K mg base N qual scope f cdv A outer s H E cm) [] σ' H' s'->RelV v u->Q v H'->CE outer P w H s Q u s' :=
  λ{σ' H' v u} J rv q=>⟨v,H',J.os,J.bare,J.base,J.hok,rv,q⟩
 cases fl with
 |ret u =>
  obtain⟨v,σ',H',J,rv,q⟩:=hs;exact fin J rv q
 |next =>
  obtain⟨σ',H',J,q⟩:=hs;exact fin (v:=V.non) (u:=My) J rfl q
 |brk =>
  obtain⟨_,_,_,q⟩:=hs;exact False.elim q
 |cont =>
  obtain⟨_,_,_,q⟩:=hs;exact False.elim q
section
variable{p:Pos}{e:Expr}{t:TA}{id T:String}{r:List V->Hp->VK->Prop}
def tCB(r:List V->Hp->VK->Prop)(t:TA):TE:=λσ H Q=>t σ H λvs H1=>r vs H1 Q
theorem Bz(hc:zQ X (.builtin id) r)(hg:Gl X x)(hm:X.mg x=none)(hv:bootBuiltins x=some (.builtin id))(ha:PA X (e::es) t)(hn:x≠"__name__":=by decide)(hdb:(x==("__debug__":Str))=false:=by decide)
  (he:starEach (e::es) X.env=(false,eval e X.env)::starEach es X.env:=by rfl)(hpl:(backTo pos (starEach es X.env)).any (·.1)=false:=by rfl):PE X (.Call (.Name x p) (e::es) [] pos) (tCB r t):=by
 intro pins s σ H Q I h;refine Nq (eJ I hg hm hv ?_ hn hdb);exact R6 (thn (ha pos pins s σ H _ I h) λus s1 ⟨vs,H1,I1,r1,q1⟩=>hc pins s1 σ H1 vs us Q I1 r1 q1) he hpl
theorem BA(hc:zQ X (.type T) r)(hg:Gl X x)(hm:X.mg x=none)(hv:bootBuiltins x=some (.type T))(ha:PA X (e::es) t)(hn:x≠"__name__":=by decide)(hdb:(x==("__debug__":Str))=false:=by decide)
  (he:starEach (e::es) X.env=(false,eval e X.env)::starEach es X.env:=by rfl)(hpl:(backTo pos (starEach es X.env)).any (·.1)=false:=by rfl):PE X (.Call (.Name x p) (e::es) [] pos) (tCB r t):=by
 intro pins s σ H Q I h;refine Nq (eJ I hg hm hv ?_ hn hdb);exact Nh (thn (ha pos pins s σ H _ I h) λus s1 ⟨vs,H1,I1,r1,q1⟩=>hc pins s1 σ H1 vs us Q I1 r1 q1) he hpl
end
end L2
namespace HT
open PySem PyProof.Rows
section
open PySem.SeqAt
open PySem.AutoSeq1 (wpAny_loadPart')
open PySem.MeetsSeq PySem.MeetsSeq2 PySem.MeetsSeq3
end
section
variable{prog:Program}{w:World}{A:Around}{E:Value->Shared->Prop}{s:Shared}
theorem BB{t b:Addr}{vs ws:List Value}{Q:Value->Shared->Prop}(ht:IsTup s.heap t vs.toArray)(hb:IsTup s.heap b ws.toArray)(hv:vs≠[])
  (h1:ws=[]->Q (.ref t) s)(h2:ws≠[]->Q (.ref s.heap.objs.size) {s with heap:=s.heap.push {cls:= .type "tuple",data:= .seq (vs++ws).toArray}})
  (hsz:vs.length+ws.length<=sizeLine):wpAny (model prog w) A (binaryOp .Add (.ref t) (.ref b)) Q E s:=by
 obtain⟨⟨cls,dd,data,sl⟩,ho,hc,n,hd⟩:=id ht;obtain⟨⟨cls2,dd2,data2,sl2⟩,ho2,hc2,n2,hd2⟩:=id hb;simp only at hc hd hc2 hd2;subst hc hd hc2 hd2;have e:vs.toArray++ws.toArray=(vs++ws).toArray:=by simp
 by_cases hw:ws=[]
 .exact SF ⟨_,ho,rfl⟩ ⟨_,ho2,rfl⟩ Rj So Pq Ph (Pd _ _)
   (tuple_addW1 t b vs.toArray ws.toArray n n2 dd dd2 sl sl2 (by simpa using hv) (by simp[hw])) ⟨ho,ho2,h1 hw⟩
 .refine SF ⟨_,ho,rfl⟩ ⟨_,ho2,rfl⟩ Rj So Pq Ph (Pd _ _)
   (tuple_addW2 t b vs.toArray ws.toArray n n2 dd dd2 sl sl2 (by simpa using hv) (by simpa using hw) (by rw[Ly,Ly];exact hsz)) ⟨ho,ho2,?_⟩
  rw[e];exact h2 hw
def sIx(n d:Nat):Option Int->Nat
 |none=>d
 |some v=>if v < 0 then(v+(n:Int)).toNat else min v.toNat n
theorem ql(n d:Nat):sIx n d none=d:=rfl
theorem bR(n d k:Nat):sIx n d (some (k:Int))=min k n:=by
 show(if (k:Int) < 0 then((k:Int)+(n:Int)).toNat else min (k:Int).toNat n)=min k n;rw[if_neg (by omega),O7]
theorem BC(n d:Nat)(hd:d<=n)(o:Option Int):sIx n d o<=n:=by
 cases o with
 |none=>exact hd
 |some v =>
  show(if v < 0 then(v+(n:Int)).toNat else min v.toNat n)<=n;by_cases hv:v < 0
  .rw[if_pos hv];omega
  .rw[if_neg hv];exact Nat.min_le_right _ _
theorem qm(v:Int)(n d:Nat):(if v < 0 then max (v+(n:Int)) 0 else min v (n:Int))=((sIx n d (some v):Nat):Int):=by
 show(if v < 0 then max (v+(n:Int)) 0 else min v (n:Int))=(((if v < 0 then(v+(n:Int)).toNat else min v.toNat n):Nat):Int);by_cases hv:v < 0
 .simp only[if_pos hv];omega
 .simp only[if_neg hv];omega
theorem BD(lo hi:Option Int)(n:Nat):LP lo hi 1 (n:Int)=(((sIx n 0 lo:Nat):Int),((sIx n n hi:Nat):Int)):=by
 have h1:¬ ((1:Int) < 0):=by omega
 unfold LP;simp only[h1,if_false];refine QF ?_ ?_
 .cases lo with
  |none=>rfl
  |some v=>exact qm v n 0
 .cases hi with
  |none=>rfl
  |some v=>exact qm v n n
theorem BE(i j:Nat):Mf (i:Int) (j:Int) 1=j - i:=by
 unfold Mf;have h1:(1:Int) > 0:=by omega
 simp only[h1,if_true,Int.ediv_one];split<;>omega
theorem ic{v:Value}{o:Option Int}{Q:Option Int->Shared->Prop}(p:IsPart v o)(h:Q o s):wpAny (model prog w) A (Rt v) Q E s:=by
 cases p with
 |none=>exact RK h
 |int i t=>exact slicePart_int h
theorem BF{sl:Addr}{vl vu:Value}{lo hi:Option Int}{n:Nat}{Q:Int×Int×Nat->Shared->Prop}(hs:s.heap.IsSliceOf sl vl vu .none)(pl:IsPart vl lo)(pu:IsPart vu hi)
  (h:Q (((sIx n 0 lo:Nat):Int),1,sIx n n hi - sIx n 0 lo) s):wpAny (model prog w) A (NC (.ref sl) (pure (n:Int))) Q E s:=by
 obtain⟨os,hos,hcs,hds⟩:=id hs;unfold NC P3;refine L1 (L1 (MV hos hds (x:=vl) rfl (L1 (MV hos hds (x:=vu) rfl (L1 (MV hos hds (x:= .none) rfl (L9 ?_)))))));refine L1 (RK ?_);show wpAny _ _ (if ((1:Int)==0)=true then _ else _) _ _ s;rw[if_neg (by decide)];refine L1 (ic pl (L1 (ic pu (L1 (L9 ?_)))));show wpAny _ _ (match LP lo hi 1 (n:Int) with | (lo,hi)=>pure (lo,(1:Int),Mf lo hi 1)) _ _ s;rw[BD lo hi n];show wpAny _ _ (pure (((sIx n 0 lo:Nat):Int),(1:Int),Mf ((sIx n 0 lo:Nat):Int) ((sIx n n hi:Nat):Int) 1)) _ _ s;rw[BE];exact L9 h
theorem BG(xs:Array Value)(i k:Nat):((Mz k).filterMap λ(m:Nat)=>xs[((i:Int)+(m:Int)*1).toNat]?).toArray=((xs.toList.drop i).take k).toArray:=by
 have e:(λ(m:Nat)=>xs[((i:Int)+(m:Int)*1).toNat]?)=λm=>xs[i+m]? := by
  funext m;have:((i:Int)+(m:Int)*1).toNat=i+m:=by omega
  rw[this]
 rw[e];have:=pick_run xs i k;rw[Qs] at this;have e2:((λx=>xs[x]?)∘λx=>i+x)=λm=>xs[i+m]? := rfl
 rw[e2] at this;rw[this]
theorem BH{t sl:Addr}{items:Array Value}{vl vu:Value}{lo hi:Option Int}{Q:Value->Shared->Prop}(ht:IsTup s.heap t items)(hs:s.heap.IsSliceOf sl vl vu .none)(pl:IsPart vl lo)(pu:IsPart vu hi)
  (hw:¬ (sIx items.size 0 lo=0/\sIx items.size items.size hi=items.size))
  (h:Q (.ref s.heap.objs.size) {s with heap:=s.heap.push {cls:= .type "tuple",data:= .seq ((items.toList.drop (sIx items.size 0 lo)).take (sIx items.size items.size hi - sIx items.size 0 lo)).toArray}})
  (hsz:items.size<=sizeLine):wpAny (model prog w) A (getItem (.ref t) (.ref sl)) Q E s:=by
 have htake:sizeOk (.seq ((items.toList.drop (sIx items.size 0 lo)).take (sIx items.size items.size hi - sIx items.size 0 lo)).toArray):=by
  show((items.toList.drop (sIx items.size 0 lo)).take (sIx items.size items.size hi - sIx items.size 0 lo)).toArray.size<=sizeLine;rw[Ly,Mo,NS,M9];omega
 have hj:sIx items.size items.size hi<=items.size:=BC _ _ (Lx _) hi;obtain⟨os,hos,hcs,hds⟩:=id hs;have hTs:s.TypeIs (.ref sl) "slice":=⟨os,hos,hcs⟩;unfold getItem;try with_reducible refine Mn ?_
 first|refine L1 (L9 ?_)|skip
 refine L1 (QW ht.typeIs (by decide) ?_);refine L1 (Ng (name:=L6 "__getitem__") ht.typeIs MF
  (Nr MF ht.typeIs Qi ?_ (QC _ _)))
 show wpAny _ _ (OV (.ref t) >>= _) _ _ s;refine L1 (Sq ht ?_);refine L1 (QX hTs ?_);rw[if_pos (by decide)];refine L1 (BF hs pl pu ?_);have hno:¬ ((((sIx items.size 0 lo:Nat):Int)==0&&(1:Int)==1&&(sIx items.size items.size hi - sIx items.size 0 lo)==items.size)=true):=by
  intro q;rw[Mw,Mw] at q;have q1:((sIx items.size 0 lo:Nat):Int)=0:=eq_of_beq q.1.1;have q2:sIx items.size items.size hi - sIx items.size 0 lo=items.size:=eq_of_beq q.2;exact hw ⟨by omega,by omega⟩
 show wpAny _ _ (if (((sIx items.size 0 lo:Nat):Int)==0&&(1:Int)==1&&(sIx items.size items.size hi - sIx items.size 0 lo)==items.size)=true then _ else _) _ _ s;rw[if_neg hno,BG];first
  |exact L1 (m:=MD _) (Mx (L9 ⟨_,rfl,L9 h⟩) htake)
  |exact L1 (m:=MD _) (Mx (L1 (L9 (L9 ⟨_,rfl,L9 h⟩))) htake)
  |exact L1 (L1 (m:=MD _) (Mx (L9 (L9 ⟨_,rfl,L9 h⟩)) htake))
  |exact L1 (L1 (m:=MD _) (Mx (L9 ⟨_,rfl,L9 h⟩) htake))
end
end HT
namespace L2
open PySem PySem.Spec PyProof.Rows
variable{pins:List (Addr×Obj)}{H H':Hp}{X:Cx}{σ:St}{u:Value}{y x:V}{kvs:List (List Key×V)}{pos:Pos}{A:Around}{a:Addr}{E Q:Value->Shared->Prop}{w:World}{xs:List V}{α:Type}{its:List Value}{P:Program}{t':Nat}{T:String}
abbrev TO:=St->Hp->(Option Int->Hp->Prop)->Prop
def PO(X:Cx)(e:Option Expr)(t:TO):Prop :=
 ∀(pins:List (Addr×Obj)) (s:Shared) (σ:St) (H:Hp) (Q:Option Int->Hp->Prop),Inv X pins σ H s->t σ H Q ->
  wpAny (model X.prog X.w) X.A (evalPart e X.env) (λu s'=>∃o H',Inv X pins σ H' s'/\IsPart u o/\Q o H') X.xe s
def l5:TO:=λ_ H Q=>Q none H
def l6(t:TE):TO:=λσ H Q=>t σ H λx H1=>∃i,x= .int i/\Q (some i) H1
section
variable{e:Expr}{te:TE}{lo hi:Option Expr}{tl th:TO}{p2:Pos}
theorem BI:PO X none l5:=by
 intro pins s σ H Q I h;rw[Sr];exact L9 ⟨none,H,I,.none,h⟩
theorem BJ(h:PE X e te):PO X (some e) (l6 te):=by
 intro pins s σ H Q I hw;rw[evalPart_some];refine thn (h pins s σ H _ I hw) λu s1 ⟨x,H1,I1,r1,q1⟩=>?_
 obtain⟨i,rfl,q⟩:=q1;obtain⟨t,rfl⟩:=r1;exact⟨some i,H1,I1,.int i t,q⟩
def SlR(X:Cx)(r:V->Option Int->Option Int->Hp->VK->Prop):Prop :=
 ∀(pins:List (Addr×Obj)) (s:Shared) (σ:St) (H:Hp) (x:V) (v vl vu:Value) (lo hi:Option Int) (sl:Addr) (Q:VK),Inv X pins σ H s->RelV x v->s.heap.IsSliceOf sl vl vu .none->IsPart vl lo->IsPart vu hi->r x lo hi H Q ->
  ∃T id,typeLookup (.type T) "__getitem__"=pure (some (.builtin id))/\s.TypeIs v T/\wpAny (model X.prog X.w) X.A (getItem v (.ref sl)) (EP X pins σ Q) X.xe s
theorem SlR.or{r r':V->Option Int->Option Int->Hp->VK->Prop}(h:SlR X r)(h':SlR X r'):SlR X (λx lo hi H Q=>r x lo hi H Q\/r' x lo hi H Q):=by
 intro pins s σ H x v vl vu lo hi sl Q I rx hs pl pu q;rcases q with q|q
 .exact h pins s σ H x v vl vu lo hi sl Q I rx hs pl pu q
 .exact h' pins s σ H x v vl vu lo hi sl Q I rx hs pl pu q
def tSl(r:V->Option Int->Option Int->Hp->VK->Prop)(te:TE)(tl th:TO):TE:=λσ H Q=>te σ H λx H1=>tl σ H1 λl H2=>th σ H2 λu H3=>r x l u H3 Q
theorem BK{r:V->Option Int->Option Int->Hp->VK->Prop}(hr:SlR X r)(he:PE X e te)(hl:PO X lo tl)(hu:PO X hi th):PE X (.Subscript e (.Slice lo hi none p2) pos) (tSl r te tl th):=by
 intro pins s σ H Q I h;refine QD (thn (he pins s σ H _ I h) λv s1 ⟨x,H1,I1,r1,q1⟩=>?_);refine wpAny_Slice (thn (hl pins s1 σ H1 _ I1 q1) λvl s2 ⟨l,H2,I2,pl,q2⟩=>thn (hu pins s2 σ H2 _ I2 q2) λvu s3 ⟨u,H3,I3,pu,q3⟩=>?_);rw[Sr];refine L9 ?_;have I4:Inv X pins σ H3 {s3 with heap:=s3.heap.push {cls:= .type "slice",data:= .fields #[vl,vu,.none]}}:=I3.kept (t':=s3.toks) λb ob q=>L5 _ q
 obtain⟨T,id,hT,ht,hg⟩:=hr pins {s3 with heap:=s3.heap.push {cls:= .type "slice",data:= .fields #[vl,vu,.none]}} σ H3 x v vl vu l u s3.heap.objs.size Q I4 r1 (Qt ..) pl pu q3;show wpAny (model X.prog X.w) X.A (subscriptTail e (.Slice lo hi none p2) v (.ref s3.heap.objs.size)) (EP X pins σ Q) X.xe {s3 with heap:=s3.heap.push {cls:= .type "slice",data:= .fields #[vl,vu,.none]}};exact SR (ops:=[.ref s3.heap.objs.size,v]) ht hT hg (by with_unfolding_all rfl)
def cB(xs:List V)(lo hi:Option Int):List V:=(xs.drop (HT.sIx xs.length 0 lo)).take (HT.sIx xs.length xs.length hi - HT.sIx xs.length 0 lo)
theorem qo(xs:List V)(lo hi:Option Int):(cB xs lo hi).length<=xs.length:=by
 unfold cB;rw[Mo,NS];omega
def qp(K:Frag):V->Option Int->Option Int->Hp->VK->Prop:=λx lo hi H Q=>∃a xs,x= .ref a/\SqT K H a xs /\
 ¬ (HT.sIx xs.length 0 lo=0/\HT.sIx xs.length xs.length hi=xs.length)/\∀p,H p=none->Q (.ref p) (upd H p (.tup (cB xs lo hi)))
theorem BL:SlR X (qp X.K):=by
 intro pins s σ H x v vl vu lo hi sl Q I rx hs pl pu h;obtain⟨a,xs,rfl,hx,hw,q⟩:=h;cases rx;obtain⟨its,r,ht,hz⟩:=I.tuple hx;have hlen:its.toArray.size=xs.length:=by rw[Ly];exact r.length.symm
 refine⟨"tuple",_,MF.lookup,ht.typeIs,?_⟩;refine HT.BH ht hs pl pu (by rw[hlen];exact hw) ?_ (by rw[hlen];exact hz);rw[hlen];refine⟨.ref s.heap.objs.size,_,I.laid (t':=s.toks) (o:= .tup (cB xs lo hi)) (λb ob q=>L5 _ q) (Lx _) ?_,rfl,q _ (I.hok.fresh (Lx _))⟩;exact⟨M6 (qo xs lo hi) hz,_,(r.drop (HT.sIx xs.length 0 lo)).take (HT.sIx xs.length xs.length hi - HT.sIx xs.length 0 lo),IsTup.new _ _⟩
def qr(K:Frag):R2:=λx y H Q=>∃a b xs ys,x= .ref a/\y= .ref b/\SqT K H a xs/\SqT K H b ys/\xs≠[]/\xs.length+ys.length<=sizeLine /\
 (ys=[]->Q (.ref a) H)/\(ys≠[]->∀p,H p=none->Q (.ref p) (upd H p (.tup (xs++ys))))
theorem Vals.nil_iff{us:List Value}(r:Vals xs us):us=[]↔xs=[]:=by
 cases r with
 |nil=>simp
 |cons _ _=>simp
theorem BM:OpR X (binaryOp .Add) (qr X.K):=by
 intro pins s σ H x y v u Q I rx ry h;obtain⟨a,b,xs,ys,rfl,rfl,ha,hb,hx,hz,q1,q2⟩:=h;cases rx;cases ry;obtain⟨its,r1,p1,_⟩:=I.tuple ha;obtain⟨its2,r2,p2,_⟩:=I.tuple hb;refine HT.BB p1 p2 (λz=>hx (r1.nil_iff.mp z)) (λz=>⟨.ref a,H,I,rfl,q1 (r2.nil_iff.mp z)⟩) (λz=>?_) (by rw[<- r1.length,<- r2.length];exact hz);refine⟨.ref s.heap.objs.size,_,I.laid (t':=s.toks) (o:= .tup (xs++ys)) (λb ob q=>L5 _ q) (Lx _) ?_,rfl,q2 (λw=>z (r2.nil_iff.mpr w)) _ (I.hok.fresh (Lx _))⟩;exact⟨by rw[LG];exact hz,_,r1.append r2,IsTup.new _ _⟩
end
def ixN(n:Nat)(i:Int):Option Nat:=if 0<=i then(if i < n then some i.toNat else none) else if -(n:Int)<=i then some (i+n).toNat else none
def atI(xs:List α)(i:Int):Option α:=(ixN xs.length i).bind λj=>xs[j]?
theorem qu{n:Nat}{i:Int}{j:Nat}(h:ixN n i=some j):seqIndex? i n=some j/\j < n/\ -(n:Int)<=i/\i < n:=by
 unfold ixN at h;by_cases h0:0<=i
 .rw[if_pos h0] at h;by_cases h1:i < n
  .rw[if_pos h1] at h;have e:i.toNat=j:=Mq h;exact⟨by rw[Rq h0 h1,e],by omega,by omega,h1⟩
  .rw[if_neg h1] at h;cases h
 .rw[if_neg h0] at h;by_cases h1: -(n:Int)<=i
  .rw[if_pos h1] at h;have e:(i+n).toNat=j:=Mq h;exact⟨by rw[QY (by omega) h1,e],by omega,h1,by omega⟩
  .rw[if_neg h1] at h;cases h
theorem l9{xs:List α}{i:Int}{v:α}(h:atI xs i=some v):∃j,seqIndex? i xs.length=some j/\xs[j]? = some v/\j < xs.length/\ -(xs.length:Int)<=i/\i < xs.length:=by
 unfold atI at h;cases e:ixN xs.length i with
 |none=>rw[e] at h;cases h
 |some j =>
  rw[e] at h;obtain⟨h1,h2,h3,h4⟩:=qu e;exact⟨j,h1,h,h2,h3,h4⟩
theorem dS{xs:List α}{j:Nat}{v:α}(h:xs[j]? = some v):atI xs (j:Int)=some v:=by
 have hj:j < xs.length:=(L7.mp h).1;have e:ixN xs.length (j:Int)=some j:=by
  unfold ixN;rw[if_pos (by omega),if_pos (by omega)];simp
 unfold atI;rw[e];exact h
theorem qz(xs:List α)(v:α):atI (xs++[v]) (-1)=some v:=by
 have hl:(xs++[v]).length=xs.length+1:=by simp
 have e:ixN (xs++[v]).length (-1)=some xs.length:=by
  unfold ixN;rw[hl,if_neg (by decide),if_pos (by omega)];congr 1
  omega
 unfold atI;rw[e];show(xs++[v])[xs.length]? = some v;simp
def l_(b:Expr):Prop:=∀o i,subscripted b false o i=operate [o,i] (getItem o i)
def IxR(X:Cx)(r:R2):Prop :=
 ∀(value slice:Expr) (pins:List (Addr×Obj)) (s:Shared) (σ:St) (H:Hp) (x y:V) (v u:Value) (Q:VK),Inv X pins σ H s->RelV x v->RelV y u->r x y H Q ->
  subscripted slice false v u=operate [v,u] (getItem v u)->wpAny (model X.prog X.w) X.A (subscriptTail value slice v u) (EP X pins σ Q) X.xe s
def MtR(X:Cx)(id:String)(r:V->List V->Hp->VK->Prop):Prop :=
 ∀(pins:List (Addr×Obj)) (s:Shared) (σ:St) (H:Hp) (x:V) (xs:List V) (v:Value) (us:List Value) (Q:VK),Inv X pins σ H s->RelV x v->Vals xs us->r x xs H Q ->
  wpAny (model X.prog X.w) X.A (call (.builtin id) (v::us)) (EP X pins σ Q) X.xe s
section
variable{a b:Expr}{ta tb:TE}
theorem IxR.or{r r':R2}(h:IxR X r)(h':IxR X r'):IxR X (λx y H Q=>r x y H Q\/r' x y H Q):=by
 intro value slice pins s σ H x y v u Q I rx ry q hs;rcases q with q|q
 .exact h value slice pins s σ H x y v u Q I rx ry q hs
 .exact h' value slice pins s σ H x y v u Q I rx ry q hs
theorem BN{r:R2}(hr:IxR X r)(ha:PE X a ta)(hb:PE X b tb)(hs:l_ b):PE X (.Subscript a b pos) (tOp r ta tb):=by
 intro pins s σ H Q I h;exact QD (lR ha hb I h λv u s2 x y H2 I2 rx ry q=>hr a b pins s2 σ H2 x y v u Q I2 rx ry q (hs _ _))
def cX(K:Frag):R2:=λx y H Q=>∃p xs i v,x= .ref p/\y= .int i/\SqL K H p xs/\atI xs i=some v/\Q v H
def qA(K:Frag):R2:=λx y H Q=>∃p xs i v,x= .ref p/\y= .int i/\SqT K H p xs/\atI xs i=some v/\Q v H
def qB:R2:=λx y H Q=>∃z i c,x= .str z/\y= .int i/\z.length<=sizeLine/\atI z.cps.toList i=some c/\Q (.str ⟨#[c]⟩) H
theorem qC:IxR X (cX X.K):=by
 intro value slice pins s σ H x y v u Q I rx ry h hs;obtain⟨p,xs,i,z,rfl,rfl,hq,he,q⟩:=h;cases rx;obtain⟨t,rfl⟩:=ry;obtain⟨its,r,pl,hz⟩:=I.list hq;obtain⟨j,h1,h2,h3,h4,h5⟩:=l9 he;obtain⟨w,ew,rw'⟩:=r.get h2;have hl:=r.length;have hn:=gn;have fin:EP X pins σ Q w s:=⟨z,H,I,rw',q⟩;by_cases h0:0<=i
 .have hj:i.toNat=j:=by
   rw[Rq h0 h5] at h1;exact Mq h1
  exact item_listR pl.isList h0 (by omega) (by rw[hj];simpa using ew) fin hs
 .have hj:(i+(its.toArray.size:Int)).toNat=j:=by
   rw[QY (by omega) h4] at h1;rw[Ly,<- hl];exact Mq h1
  exact PB (x:=w) pl.isList.typeIs slot_list_getitem.lookup
   (wpAny_getItem_list_neg (Q:=λr s'=>r=w/\EP X pins σ Q r s') pl.isList (by omega) (by rw[Ly]<;>omega) (by omega) (by rw[hj];simpa using ew) ⟨rfl,fin⟩) hs
theorem BO:IxR X (qA X.K):=by
 intro value slice pins s σ H x y v u Q I rx ry h hs;obtain⟨p,xs,i,z,rfl,rfl,hq,he,q⟩:=h;cases rx;obtain⟨t,rfl⟩:=ry;obtain⟨its,r,pl,hz⟩:=I.tuple hq;obtain⟨j,h1,h2,h3,h4,h5⟩:=l9 he;obtain⟨w,ew,rw'⟩:=r.get h2;have hl:=r.length;have hn:=gn;have fin:EP X pins σ Q w s:=⟨z,H,I,rw',q⟩;exact PB (x:=w) pl.typeIs slot_tuple_getitem.lookup
  (getItem_tuple (j:=j) (Q:=λr s'=>r=w/\EP X pins σ Q r s') pl (by omega) (by omega) (by rw[Ly,<- hl];exact h1) (by simpa using ew) ⟨rfl,fin⟩) hs
theorem BP:IxR X qB:=by
 intro value slice pins s σ H x y v u Q I rx ry h hs;obtain⟨z,i,c,rfl,rfl,hz,he,q⟩:=h;obtain⟨t,rfl⟩:=rx;obtain⟨t',rfl⟩:=ry;obtain⟨j,h1,h2,h3,h4,h5⟩:=l9 he;have hl:z.cps.toList.length=z.length:=by simp[Str.length]
 rw[hl] at h1 h4 h5;have hn:=gn;exact SR (typeIs_str s z t) slot_str_getitem.lookup (getItem_str (c:=c) (by
  have e1:decide (i < -(2^63:Int))=false:=decide_eq_false (by omega);have e2:decide (i ≥ 2^63)=false:=decide_eq_false (by omega);rw[e1,e2,Bool.or_false]) (by rw[h1];simpa using h2) ⟨.str ⟨#[c]⟩,H,I.tok _,⟨_,rfl⟩,q⟩) hs
def rIx(K:Frag):R2:=λx y H Q=>cX K x y H Q\/qA K x y H Q\/qB x y H Q
theorem BQ:IxR X (rIx X.K):=qC.or (BO.or BP)
theorem BR(its:List Value)(n j:Nat)(u:Value):Obj.mapSeq (·.setIfInBounds j u) {cls:= .type "list",data:= .seq its.toArray n}={cls:= .type "list",data:= .seq (its.set j u).toArray n}:=by
 simp[Obj.mapSeq]
theorem Inv.lst{s:Shared}{p:Addr}(I:Inv X pins σ H s)(h:H p=some (.lst xs)) :
  ∃(its:List Value) (n:Nat),Vals xs its/\s.heap.get? p=some {cls:= .type "list",data:= .seq its.toArray n}/\xs.length<=sizeLine:=by
 obtain⟨z,its,n,r,e⟩:=I.hok p _ h;exact⟨its,n,r,e,z⟩
theorem Inv.lstUpd{s:Shared}{p:Addr}{ys:List V}{its':List Value}{n n':Nat}{f:Obj->Obj}(I:Inv X pins σ H s)(h:H p=some (.lst xs))
  (ho:s.heap.get? p=some {cls:= .type "list",data:= .seq its.toArray n})(hf:f {cls:= .type "list",data:= .seq its.toArray n}={cls:= .type "list",data:= .seq its'.toArray n'})(r:Vals ys its')(hz:ys.length<=sizeLine)(t:Nat) :
  Inv X pins σ (upd H p (.lst ys)) {s with heap:=s.heap.update p f,toks:=t}:=by
 have e:(s.heap.update p f).get? p=some {cls:= .type "list",data:= .seq its'.toArray n'}:=by
  rw[PQ f ho (by rw[hf]<;>rfl),hf]
 refine I.write (x:=p) (e:=p) (by rw[h];trivial) (.inl rfl) (λb u hb q=>(Ps _ _ (Ne.symm hb)).trans q) ⟨_,e⟩ ?_;exact⟨hz,its',n',r,e⟩
def fz:V->V->V->Hp->(Hp->Prop)->Prop:=λo i v H Q=>∃p xs k j,o= .ref p/\i= .int k/\H p=some (.lst xs)/\ixN xs.length k=some j/\Q (upd H p (.lst (xs.set j v)))
theorem set_list:lL X fz:=by
 intro pins s σ H o i v ov iv u Q I ro ri rv h;obtain⟨p,xs,k,j,rfl,rfl,hp,hj,q⟩:=h;cases ro;obtain⟨t,rfl⟩:=ri;obtain⟨its,n,r,ho,hz⟩:=I.lst hp;obtain⟨h1,h2,h3,h4⟩:=qu hj;have hl:=r.length;have hn:=gn;have I':Inv X pins σ (upd H p (.lst (xs.set j v))) {s with heap:=s.heap.update p (Obj.mapSeq (·.setIfInBounds j u))} :=
  I.lstUpd hp ho (BR its n j u) (r.set rv j) (by rw[PF];exact hz) s.toks
 by_cases h0:0<=k
 .have hk:k.toNat=j:=by
   rw[Rq h0 h4] at h1;exact Mq h1
  exact PySem.W.ki_setAt ho h0 (by omega) (by rw[Ly,<- hl];exact h4) (by rw[hk];exact⟨_,I',q⟩)
 .have hk:(k+(its.toArray.size:Int)).toNat=j:=by
   rw[QY (by omega) h3] at h1;rw[Ly,<- hl];exact Mq h1
  exact PySem.W.ki_setBack ho (by omega) (by rw[Ly,<- hl];exact h3) (by omega) (by rw[hk];exact⟨_,I',q⟩)
theorem BS(lo hi:Option Int)(n:Nat):(sliceBounds lo hi none n).1=((HT.sIx n 0 lo:Nat):Int)/\(sliceBounds lo hi none n).2.1=((HT.sIx n n hi:Nat):Int)/\(sliceBounds lo hi none n).2.2=1:=by
 refine⟨?_,?_,rfl⟩
 .cases lo with
  |none=>simp[sliceBounds,HT.sIx]
  |some i =>
   simp only[sliceBounds,HT.sIx,R7,show(1:Int) > 0 by decide,if_true];by_cases h:i < 0
   .simp only[h,if_true]<;>omega
   .simp only[h,if_false]<;>omega
 .cases hi with
  |none=>simp[sliceBounds,HT.sIx]
  |some i =>
   simp only[sliceBounds,HT.sIx,R7,show(1:Int) > 0 by decide,if_true];by_cases h:i < 0
   .simp only[h,if_true]<;>omega
   .simp only[h,if_false]<;>omega
theorem BU(its:List Value)(lo hi:Option Int):slicePick its.toArray lo hi none=((its.drop (HT.sIx its.length 0 lo)).take (HT.sIx its.length its.length hi - HT.sIx its.length 0 lo)).toArray:=by
 obtain⟨h1,h2,h3⟩:=BS lo hi its.toArray.size;unfold slicePick;rw[h1,h2,h3];simp only[sliceRange_one,pick_run,Ly]<;>rfl
def ma(K:Frag):V->Option Int->Option Int->Hp->VK->Prop:=λx lo hi H Q=>∃a xs,x= .ref a/\SqL K H a xs/\∀p,H p=none->Q (.ref p) (upd H p (.lst (cB xs lo hi)))
theorem qD:SlR X (ma X.K):=by
 intro pins s σ H x v vl vu lo hi sl Q I rx hs pl pu h;obtain⟨a,xs,rfl,hx,q⟩:=h;cases rx;obtain⟨its,r,ht,hz⟩:=I.list hx;have hlen:=r.length;refine⟨"list",_,slot_list_getitem.lookup,ht.isList.typeIs,?_⟩;refine Pe ht.isList hs pl pu .none (by simp) ?_ (by rw[Ly]<;>omega);rw[BU,<- hlen];refine⟨.ref s.heap.objs.size,_,I.laid (t':=s.toks) (o:= .lst (cB xs lo hi)) (λb ob q=>L5 _ q) (Lx _) ?_,rfl,q _ (I.hok.fresh (Lx _))⟩;exact⟨M6 (qo xs lo hi) hz,_,0,(r.drop (HT.sIx xs.length 0 lo)).take (HT.sIx xs.length xs.length hi - HT.sIx xs.length 0 lo),LC _ rfl⟩
def dm:V->Bool
 | .non=>true
 | .bl _=>true
 | .int _=>true
 | .str _=>true
 |_=>false
def eqV:V->V->Bool
 | .non,.non=>true
 | .bl a,.bl b=>a==b
 | .bl a,.int b=>(if a then 1 else 0)==b
 | .int a,.bl b=>a==(if b then 1 else 0)
 | .int a,.int b=>a==b
 | .str a,.str b=>a==b
 |_,_=>false
theorem BV{s:Shared}{v:Value}(ry:RelV y u)(rx:RelV x v)(fy:dm y=true)(fx:dm x=true):SeqAt.EqAt A s u v (eqV y x):=by
 cases y with
 |non =>
  cases ry;cases x with
  |non=>cases rx;exact SeqAt.EqAt.same _
  |bl b=>cases rx;exact SeqAt.EqAt.none_bool b
  |int b=>obtain⟨t,rfl⟩:=rx;exact SeqAt.EqAt.none_int b t
  |str b=>obtain⟨t,rfl⟩:=rx;exact SeqAt.EqAt.none_str b t
  |_=>exact absurd (show false=true from fx) LU
 |bl a =>
  cases ry;cases x with
  |non=>cases rx;exact SeqAt.EqAt.bool_none a
  |bl b=>cases rx;exact SeqAt.EqAt.bool_bool a b
  |int b=>obtain⟨t,rfl⟩:=rx;exact SeqAt.EqAt.bool_int a b t
  |str b=>obtain⟨t,rfl⟩:=rx;exact SeqAt.EqAt.bool_str a b t
  |_=>exact absurd (show false=true from fx) LU
 |int a =>
  obtain⟨t',rfl⟩:=ry;cases x with
  |non=>cases rx;exact SeqAt.EqAt.int_none a t'
  |bl b=>cases rx;exact SeqAt.EqAt.int_bool a t' b
  |int b=>obtain⟨t,rfl⟩:=rx;exact SeqAt.EqAt.int_int a t' b t
  |str b=>obtain⟨t,rfl⟩:=rx;exact SeqAt.EqAt.int_str a t' b t
  |_=>exact absurd (show false=true from fx) LU
 |str a =>
  obtain⟨t',rfl⟩:=ry;cases x with
  |non=>cases rx;exact SeqAt.EqAt.str_none a t'
  |bl b=>cases rx;exact SeqAt.EqAt.str_bool a t' b
  |int b=>obtain⟨t,rfl⟩:=rx;exact SeqAt.EqAt.str_int a t' b t
  |str b=>obtain⟨t,rfl⟩:=rx;exact SeqAt.EqAt.str_str a t' b t
  |_=>exact absurd (show false=true from fx) LU
 |_=>exact absurd (show false=true from fy) LU
def eqU(x:V)(u:Value):Bool:=match u with
 | .none=>eqV .non x
 | .bool b=>eqV (.bl b) x
 | .int i _=>eqV (.int i) x
 | .str z _=>eqV (.str z) x
 |_=>false
theorem qE(r:RelV y u)(f:dm y=true):eqU x u=eqV y x:=by
 cases y with
 |non=>cases r;rfl
 |bl b=>cases r;rfl
 |int i=>obtain⟨t,rfl⟩:=r;rfl
 |str z=>obtain⟨t,rfl⟩:=r;rfl
 |_=>exact absurd (show false=true from f) LU
theorem ie{x:V}:∀{xs:List V} {us:List Value},Vals xs us->xs.all dm=true->us.any (eqU x)=xs.any λy=>eqV y x
 |_,_,.nil,_=>rfl
 |y::xs,u::us,.cons r t,f=>by
  rw[Qj,Mw] at f;rw[Nz,Nz,qE r f.1,ie t f.2]
theorem ig{A:Around}{s:Shared}{x:V}{v:Value}(rx:RelV x v)(fx:dm x=true):∀{xs:List V} {us:List Value},Vals xs us->xs.all dm=true->∀u∈us,SeqAt.EqAt A s u v (eqU x u)
 |_,_,.nil,_=>λu hu=>by cases hu
 |y::xs,u::us,.cons r t,f=>λu' hu=>by
  rw[Qj,Mw] at f;rcases LD.mp hu with rfl|hu
  .rw[qE r f.1];exact BV r rx f.1 fx
  .exact ig rx fx t f.2 u' hu
def inV(x:V)(xs:List V):Bool:=xs.any λy=>eqV y x
def rIn(K:Frag)(neg:Bool):R2:=λx y H Q=>∃p xs,y= .ref p/\(SqL K H p xs\/SqT K H p xs)/\dm x=true/\xs.all dm=true/\Q (.bl (if neg then !inV x xs else inV x xs)) H
theorem BW:OpR X (compareOp .In) (rIn X.K false):=by
 intro pins s σ H x y v u Q I rx ry h;obtain⟨p,xs,rfl,hq,fx,fs,q⟩:=h;cases ry;rcases hq with hq|hq
 .obtain⟨its,r,pl,hz⟩:=I.list hq;refine SeqAt.in_listAt (eqU x) pl.isList (λw hw=>ig rx fx r fs w (by simpa using hw)) ⟨.bl _,H,I,rfl,?_⟩;rw[show its.toArray.any (eqU x)=its.any (eqU x) by simp,ie r fs];exact q
 .obtain⟨its,r,pl,hz⟩:=I.tuple hq;refine SeqAt.in_tupleAt (eqU x) pl (λw hw=>ig rx fx r fs w (by simpa using hw)) ⟨.bl _,H,I,rfl,?_⟩;rw[show its.toArray.any (eqU x)=its.any (eqU x) by simp,ie r fs];exact q
theorem BX:OpR X (compareOp .NotIn) (rIn X.K true):=by
 intro pins s σ H x y v u Q I rx ry h;obtain⟨p,xs,rfl,hq,fx,fs,q⟩:=h;cases ry;rcases hq with hq|hq
 .obtain⟨its,r,pl,hz⟩:=I.list hq;refine SeqAt.notIn_listAt (eqU x) pl.isList (λw hw=>ig rx fx r fs w (by simpa using hw)) ⟨.bl _,H,I,rfl,?_⟩;rw[show its.toArray.any (eqU x)=its.any (eqU x) by simp,ie r fs];exact q
 .obtain⟨its,r,pl,hz⟩:=I.tuple hq;refine SeqAt.notIn_tupleAt (eqU x) pl (λw hw=>ig rx fx r fs w (by simpa using hw)) ⟨.bl _,H,I,rfl,?_⟩;rw[show its.toArray.any (eqU x)=its.any (eqU x) by simp,ie r fs];exact q
theorem qF:zQ X (.builtin "len") (λxs H Q=>∃p ys,xs=[.ref p]/\(SqL X.K H p ys\/SqT X.K H p ys)/\Q (.int ys.length) H):=by
 intro pins s σ H xs us Q I r h;obtain⟨p,ys,rfl,hq,q⟩:=h;obtain⟨u,rfl,rx⟩:=vals1 r;cases rx;have hn:=gn;rcases hq with hq|hq
 .obtain⟨its,r',pl,hz⟩:=I.list hq;have hlen:=r'.length;exact Calls.call_len_list pl.isList (by simp only[Ly]<;>omega) ⟨.int ys.length,H,I.tok _,⟨s.toks+1,by rw[Ly,hlen]⟩,q⟩
 .obtain⟨its,r',pl,hz⟩:=I.tuple hq;have hlen:=r'.length;exact len_tuple pl (by simp only[Ly]<;>omega) ⟨.int ys.length,H,I.tok _,⟨s.toks+1,by rw[Ly,hlen]⟩,q⟩
theorem BY:zQ X (.builtin "len") (λxs H Q=>∃z,xs=[.str z]/\z.length<=sizeLine/\Q (.int z.length) H):=by
 intro pins s σ H xs us Q I r h;obtain⟨z,rfl,hz,q⟩:=h;obtain⟨u,rfl,t,rfl⟩:=vals1 r;have hn:=gn;exact len_str (by omega) ⟨.int z.length,H,I.tok _,⟨_,rfl⟩,q⟩
theorem zQ.or{f:Value}{r r':List V->Hp->VK->Prop}(h:zQ X f r)(h':zQ X f r'):zQ X f (λxs H Q=>r xs H Q\/r' xs H Q):=by
 intro pins s σ H xs us Q I rs q;rcases q with q|q
 .exact h pins s σ H xs us Q I rs q
 .exact h' pins s σ H xs us Q I rs q
theorem BZ:zQ X (.type "list") (λxs H Q=>∃p ys,xs=[.ref p]/\(SqL X.K H p ys\/SqT X.K H p ys)/\∀l,H l=none->Q (.ref l) (upd H l (.lst ys))):=by
 intro pins s σ H xs us Q I r h;obtain⟨p,ys,rfl,hq,q⟩:=h;obtain⟨u,rfl,rx⟩:=vals1 r;cases rx;have fin:∀(its:List Value),Vals ys its->ys.length<=sizeLine->∀(h':Heap) (c':Nat),(∀b o',s.heap.get? b=some o'->h'.get? b=some o') ->
   h'.get? s.heap.objs.size=some {cls:= .type "list",dict:=none,data:= .seq its.toArray c',slots:= #[]}->EP X pins σ Q (.ref s.heap.objs.size) {s with heap:=h'}:=λits r' hz h' c' kp e =>
  ⟨.ref s.heap.objs.size,_,I.laid (t':=s.toks) kp (Lx _) (show aB X.prog X.w _ h' _ (.lst ys) from ⟨hz,its,c',r',e⟩),rfl,q _ (I.hok.fresh (Lx _))⟩
 rcases hq with hq|hq
 .obtain⟨its,r',pl,hz⟩:=I.list hq;have hlen:=r'.length;obtain⟨o,ho,hc,n,hd⟩:=pl.isList;exact Ss p (.inl rfl) ho hc hd (λh' c' kp e=>fin its r' hz h' c' kp e) (by simp only[Ly]<;>omega)
 .obtain⟨its,r',pl,hz⟩:=I.tuple hq;have hlen:=r'.length;obtain⟨o,ho,hc,n,hd⟩:=pl;exact Ss p (.inr rfl) ho hc hd (λh' c' kp e=>fin its r' hz h' c' kp e) (by simp only[Ly]<;>omega)
theorem B0:zQ X (.type "tuple") (λxs H Q=>∃p ys,xs=[.ref p]/\((SqL X.K H p ys/\∀l,H l=none->Q (.ref l) (upd H l (.tup ys)))\/(SqT X.K H p ys/\Q (.ref p) H))):=by
 intro pins s σ H xs us Q I r h;obtain⟨p,ys,rfl,h⟩:=h;obtain⟨u,rfl,rx⟩:=vals1 r;cases rx;rcases h with⟨hq,q⟩|⟨hq,q⟩
 .obtain⟨its,r',pl,hz⟩:=I.list hq;have hlen:=r'.length;refine call_tuple_list pl.isList (λh' kp=>?_) (by simp only[Ly]<;>omega);have I1:Inv X pins σ H {s with heap:=h'}:=I.kept (t':=s.toks) kp;have I2:Inv X pins σ (upd H h'.objs.size (.tup ys)) {s with heap:=h'.push {cls:= .type "tuple",data:= .seq its.toArray}} :=
   I1.laid (t':=s.toks) (λb o e=>L5 _ e) (Lx _) (show aB X.prog X.w _ _ _ (.tup ys) from ⟨hz,its,r',IsTup.new _ _⟩)
  exact⟨.ref h'.objs.size,_,I2,rfl,q _ (I1.hok.fresh (Lx _))⟩
 .obtain⟨its,r',pl,hz⟩:=I.tuple hq;exact call_tuple_same pl ⟨.ref p,H,I,rfl,q⟩
def tyV(K:Frag)(T:String)(x:V)(H:Hp):Prop:=match x with
 | .str _=>T="str"
 | .int _=>T="int"
 | .ref p=>(T="list"/\∃xs,SqL K H p xs)\/(T="tuple"/\∃o,K.lookup p=some o/\o.cls= .type "tuple"/\o.dict=none) \/
   (T="dict"/\((∃kvs,H p=some (.dK kvs))\/∃kvs,H p=some (.dT kvs)))\/(T="set"/\∃S n,H p=some (.set S n))
 |_=>False
theorem B1{s:Shared}{v:Value}(I:Inv X pins σ H s)(r:RelV x v)(ty:tyV X.K T x H) :
  s.TypeIs v T/\∀a,v= .ref a->∃ob,s.heap.get? a=some ob/\ob.dict=none:=by
 cases x with
 |str z =>
  obtain⟨t,rfl⟩:=r;cases (show T="str" from ty);exact⟨typeIs_str s z t,λ_ e=>nomatch e⟩
 |int i =>
  obtain⟨t,rfl⟩:=r;cases (show T="int" from ty);exact⟨RL s i t,λ_ e=>nomatch e⟩
 |ref p =>
  cases r;rcases ty with⟨rfl,xs,hq⟩|⟨rfl,o,hk,hc,hd⟩|⟨rfl,hk⟩|⟨rfl,S,n,hk⟩
  .obtain⟨its,_,pl,_⟩:=I.list hq;refine⟨pl.isList.typeIs,λa e=>?_⟩;cases e;obtain⟨o,n,e,c,hd,_⟩:=pl;exact⟨o,e,hd⟩
  .refine⟨⟨o,I.kIn p o hk,hc⟩,λa e=>?_⟩;cases e;exact⟨o,I.kIn _ o hk,hd⟩
  .have z:∃o,s.heap.get? p=some o/\o.ExactDict:=by
    rcases hk with⟨kvs,hk⟩|⟨kvs,hk⟩
    .obtain⟨_,_,_,_,o,_,_,e,ex,_⟩:=I.hok p _ hk;exact⟨o,e,ex⟩
    .obtain⟨_,_,_,_,o,_,_,e,ex,_⟩:=I.hok p _ hk;exact⟨o,e,ex⟩
   obtain⟨o,e,ex⟩:=z;refine⟨⟨o,e,ex.1⟩,λa e2=>?_⟩;cases e2;exact⟨o,e,ex.2.1⟩
  .obtain⟨o,_,_,_,e,ex,_⟩:=I.hok p _ hk;refine⟨⟨o,e,ex.1⟩,λa e2=>?_⟩;cases e2;exact⟨o,e,ex.2.1⟩
 |_=>exact False.elim ty
def tBM(K:Frag)(T:String)(r:V->List V->Hp->VK->Prop)(to:TE)(t:TA):TE:=λσ H Q=>to σ H λx H1=>tyV K T x H1/\t σ H1 λxs H2=>r x xs H2 Q
variable{o e:Expr}{es:List Expr}{to:TE}{t:TA}{name:Str}{apos cpos:Pos}{id:String}{r:V->List V->Hp->VK->Prop}
theorem B2(pa:PlainAttrs T)(slot:Slot T name id)(hty:typeOf (.builtin id)=pure (.type "method_descriptor"))(hm:MtR X id r)(ho:PE X o to)(ha:PA X (e::es) t)
  (hbase:attributeBase o name X.env (eval o X.env)=eval o X.env:=by rfl)
  (hfew:((backTo cpos (starEach (e::es) X.env)).all (λx=> !x.1)&&(backToKw cpos (keywordEach [] X.env)).all (λx=>x.1.isSome)
   && decide ((e::es).length+([]:List Keyword).length+(if ([]:List Keyword).isEmpty then 0 else 1) < 30))=true:=by rfl)
  (hline:(apos.endLine==cpos.line)=true:=by rfl) (hs:starEach (e::es) X.env=(false,eval e X.env)::starEach es X.env:=by rfl) (hplain:(backTo cpos (starEach es X.env)).any (·.1)=false:=by rfl) :
  PE X (.Call (.Attribute o name apos) (e::es) [] cpos) (tBM X.K T r to t):=by
 intro pins s σ H Q I h;refine wpAny_Call_method_late hbase hfew hline rfl (thn (ho pins s σ H _ I h) λv s1 ⟨x,H1,I1,r1,ty,q1⟩=>?_);obtain⟨h1,h2⟩:=B1 I1 r1 ty;refine⟨T,id,pa,slot,hty,h1,h2,?_⟩;have hA:=ha cpos pins s1 σ H1 _ I1 q1;rw[hs] at hA ⊢;refine Calls.callWith_builtin (by show(false||(backTo cpos (starEach es X.env)).any (·.1))=false;rw[hplain]<;>rfl) (Calls.evalArgs_plain ?_);exact thn hA λus s2 ⟨vs,H2,I2,r2,q2⟩=>hm pins s2 σ H2 x vs v us Q I2 r1 r2 q2
end
def MtM(X:Cx)(id:String)(r:V->List V->Hp->VK->Prop):Prop :=
 ∀(pins:List (Addr×Obj)) (s:Shared) (σ:St) (H:Hp) (x:V) (xs:List V) (v:Value) (us:List Value) (Q:VK),Inv X pins σ H s->RelV x v->Vals xs us->r x xs H Q ->
  wpAny (model X.prog X.w) X.A (call (.builtin id) (v::us)) (EP X pins σ Q) X.xe s
theorem Vals.one:∀{x:V} {us:List Value},Vals [x] us->∃u,us=[u]/\RelV x u
 |_,_,.cons r .nil=>⟨_,rfl,r⟩
theorem Vals.rep{us:List Value}(h:Vals xs us):∀k:Nat,Vals (LF k xs).flatten (LF k us).flatten
 |0=> .nil
 |k+1=>by
  rw[Nl,Nl,Nj,Nj];exact Vals.append h (Vals.rep h k)
theorem foldl_rep(its:List Value):∀(k:Nat) (acc:List Value),
  RD (λx1 x2=>x1++x2) acc.toArray (LF k its.toArray)=(acc++(LF k its).flatten).toArray
 |0,acc=>by simp
 |k+1,acc=>by
  have e:acc.toArray++its.toArray=(acc++its).toArray:=by simp
  have e2:(acc++its)++(LF k its).flatten=acc++(LF (k+1) its).flatten:=by
   rw[Nl,Nj,M7]
  rw[<- e2,<- foldl_rep its k (acc++its),<- e,Nl,Nf]
section
variable{s:Shared}{l b:Addr}{ys zs:List V}
theorem Inv.lset{its':List Value}{n:Nat}{f:Array Value->Array Value}(I:Inv X pins σ H s)(hH:H l=some (.lst xs))
  (e:s.heap.get? l=some {cls:= .type "list",data:= .seq its.toArray n})(hf:f its.toArray=its'.toArray)(hv:Vals ys its')(hz:ys.length<=sizeLine) :
  Inv X pins σ (upd H l (.lst ys)) {s with heap:=s.heap.update l (Obj.mapSeq f),toks:=t'}:=by
 have q:=T0 e f;rw[hf] at q;refine I.write (x:=l) (e:=l) (by rw[hH];exact trivial) (.inl rfl) (λb' u hb hu=>(Ps s.heap (Obj.mapSeq f) (Ne.symm hb)).trans hu) ⟨_,q⟩ ?_;exact⟨hz,its',_,hv,q⟩
theorem Inv.lnew(I:Inv X pins σ H s)(hv:Vals ys its)(hz:ys.length<=sizeLine) :
  Inv X pins σ (upd H s.heap.objs.size (.lst ys)) {s with heap:=s.heap.push {cls:= .type "list",data:= .seq its.toArray},toks:=t'} :=
 I.laid (λ_ _ q=>L5 _ q) (Lx _) ⟨hz,its,0,hv,LC _ rfl⟩
theorem Inv.fresh(I:Inv X pins σ H s):H s.heap.objs.size=none:=I.hok.fresh (Lx _)
theorem Inv.lstM(I:Inv X pins σ H s)(hH:H l=some (.lst xs)):xs.length<=sizeLine/\∃(its:List Value) (n:Nat),Vals xs its/\xs.length=its.length/\s.heap.get? l=some {cls:= .type "list",data:= .seq its.toArray n}:=by
 obtain⟨z,its,n,r,e⟩:=I.hok l _ hH;exact⟨z,its,n,r,r.length,e⟩
theorem B3{n:Nat}(h:n<=sizeLine):Oj n=false:=by
 unfold Oj;exact decide_eq_false (by omega)
end
section
def qH:V->List V->Hp->VK->Prop:=λx vs H Q=>∃l xs y,x= .ref l/\vs=[y]/\H l=some (.lst xs)/\xs.length < sizeLine/\Q .non (upd H l (.lst (xs++[y])))
theorem cY:MtM X "list.append" qH:=by
 intro pins s σ H x vs v us Q I rx rv h;obtain⟨l,xs,y,rfl,rfl,hH,hz,q⟩:=h;cases rx;obtain⟨u,rfl,ru⟩:=rv.one;obtain⟨z,its,n,r,hl,e⟩:=I.lstM hH;refine RM F.slot_list_append ⟨_,e,rfl⟩ F.entry_list_append (F.args_list_append_2 _ _) (PySem.list_append l its.toArray n u (by rw[Ly];omega)) ⟨e,?_⟩;refine⟨.non,_,I.lset (its':=its++[u]) hH e (by simp) (r.append (.cons ru .nil)) ?_,rfl,q⟩;rw[LG,OF];omega
def qI:R2:=λx y H Q=>∃l b xs zs,x= .ref l/\y= .ref b/\H l=some (.lst xs)/\H b=some (.lst zs)/\xs.length+zs.length<=sizeLine/\∀p,H p=none->Q (.ref p) (upd H p (.lst (xs++zs)))
theorem B4:OpR X (binaryOp .Add) qI:=by
 intro pins s σ H x y v u Q I rx ry h;obtain⟨l,b,xs,zs,rfl,rfl,hH,hB,hz,q⟩:=h;cases rx;cases ry;obtain⟨z,its,n,r,hl,e⟩:=I.lstM hH;obtain⟨z2,its2,n2,r2,hl2,e2⟩:=I.lstM hB;refine PySem.P.add_list e e2 ?_ (by rw[Ly,Ly];omega);have ea:its.toArray++its2.toArray=(its++its2).toArray:=by simp
 rw[ea];exact⟨.ref _,_,I.lnew (t':=s.toks) (r.append r2) (by rw[LG];omega),rfl,q _ I.fresh⟩
def qJ:R2:=λx y H Q=>∃l k xs,x= .ref l/\y= .int k/\H l=some (.lst xs)/\ -(2^63)<=k/\k < 2^63/\xs.length*k.toNat<=sizeLine /\
 ∀p,H p=none->Q (.ref p) (upd H p (.lst (LF k.toNat xs).flatten))
theorem len_rep(xs:List α)(k:Nat):(LF k xs).flatten.length=k*xs.length:=by
 induction k with
 |zero=>simp
 |succ k ih=>rw[Nl,Nj,LG,ih,Nat.succ_mul,Nat.add_comm]
theorem B5:OpR X (binaryOp .Mult) qJ:=by
 intro pins s σ H x y v u Q I rx ry h;obtain⟨l,k,xs,rfl,rfl,hH,h1,h2,hz,q⟩:=h;cases rx;obtain⟨t,rfl⟩:=ry;obtain⟨z,its,n,r,hl,e⟩:=I.lstM hH;have hlen:its.toArray.size*k.toNat<=sizeLine:=by rw[Ly,<- hl];exact hz
 have hcap:¬ its.toArray.size*k.toNat > (2^63 - 1) / 8:=by
  have:(sizeLine:Nat)<=(2^63 - 1) / 8:=by decide
  omega
 have hfit:¬ (!RE k)=true:=by
  rw[fitsIndex_both h1 h2];exact LU
 have hlong:¬ Oj (its.toArray.size*k.toNat)=true:=by
  rw[B3 hlen];exact LU
 have hnew:RD (λx1 x2=>x1++x2) #[] (LF (if its.toArray.isEmpty=true then 0 else k.toNat) its.toArray)=(LF k.toNat its).flatten.toArray:=by
  have f0:∀m:Nat,RD (λx1 x2=>x1++x2) #[] (LF m its.toArray)=(LF m its).flatten.toArray:=λm=>by
   have:=foldl_rep its m [];rw[OM] at this;exact this
  rw[f0];cases its with
  |nil=>simp
  |cons a r'=>rw[if_neg (by simp)]
 refine wpAny_binaryOp_repeat_ref (T:="list") (U:="int") (by decide) ⟨_,e,rfl⟩ (λs'=>RL s' k t) noFill_list_mul F.fills_int_mul F.slot_int_rmul repeat_list F.slot_int_index.lookup
  (RM F.slot_int_rmul (RL s k t) F.entry_int_rmul (F.args_int_rmul_2 _ _) (int___rmul___int_list k t l its.toArray n)
   ⟨e,rfl,⟨_,e,rfl⟩,RM F.slot_list_mul ⟨_,e,rfl⟩ F.entry_list_mul (F.args_list_mul_2 _ _) (AutoListH.list___mul___list_int_3 l its.toArray n k t hfit hcap hlong) ⟨e,?_⟩⟩)
 rw[hnew];exact⟨.ref _,_,I.lnew (t':=s.toks) (r.rep k.toNat) (by rw[len_rep,Nat.mul_comm];exact hz),rfl,q _ I.fresh⟩
end
section
variable{prog:Program}{s:Shared}
end
section
end
section
variable{κ:Type}[DecidableEq κ]
def bI(kvs:List (κ×V))(k:κ):Option V:=(kvs.find? λkv=>decide (kv.1=k)).map (·.2)
def putK(kvs:List (κ×V))(k:κ)(v:V):List (κ×V) :=
 if (kvs.any λkv=>decide (kv.1=k))=true then kvs.map (λkv=>if kv.1=k then(kv.1,v) else kv) else kvs++[(k,v)]
theorem jz{p:κ×V}{r:List (κ×V)}{k:κ}(e:p.1=k):bI (p::r) k=some p.2:=by simp[bI,O4,e]
theorem jA{p:κ×V}{r:List (κ×V)}{k:κ}(e:¬ p.1=k):bI (p::r) k=bI r k:=by simp[bI,O4,e]
theorem qK(k:κ):∀kvs:List (κ×V),(kvs.any λkv=>decide (kv.1=k))=(bI kvs k).isSome
 | []=>rfl
 |p::r=>by
  rw[Nz];by_cases e:p.1=k
  .simp only[jz e,decide_eq_true e,Bool.true_or,Qu]
  .rw[jA e,decide_eq_false e,Bool.false_or];exact qK k r
theorem jB(kvs:List (κ×V))(k:κ)(v:V):(putK kvs k v).length<=kvs.length+1:=by
 unfold putK;split
 .rw[L0];omega
 .rw[LG,LY,ON];omega
theorem br.isSome_eq{o:Option V}{u:Option Value}(r:br o u):o.isSome=u.isSome:=by
 cases o with
 |none=>cases u with
  |none=>rfl
  |some _=>exact(show False from r).elim
 |some _=>cases u with
  |none=>exact(show False from r).elim
  |some _=>rfl
theorem br.getD{o:Option V}{u:Option Value}{d:V}{d':Value}(r:br o u)(rd:RelV d d'):RelV (o.getD d) (u.getD d'):=by
 cases o with
 |none=>cases u with
  |none=>exact rd
  |some _=>exact(show False from r).elim
 |some _=>cases u with
  |none=>exact(show False from r).elim
  |some _=>exact r
theorem KV.val{kvs:List (κ×V)}{vs:List (κ×Value)}(r:KV kvs vs)(k:κ):br (bI kvs k) (valueAt vs k):=by
 unfold KV at r;induction r with
 |nil=>exact True.intro
 |@cons p q ps qs h t ih =>
  obtain⟨h1,h2⟩:=h;by_cases e:p.1=k
  .have e':q.1=k:=h1.symm.trans e;have b:valueAt (q::qs) k=some q.2:=by simp[valueAt,O4,e']
   rw[jz e,b];exact h2
  .have e':¬ q.1=k:=λz=>e (h1.trans z)
   have b:valueAt (q::qs) k=valueAt qs k:=by simp[valueAt,O4,e']
   rw[jA e,b];exact ih
theorem KV.any{kvs:List (κ×V)}{vs:List (κ×Value)}(r:KV kvs vs)(k:κ):(kvs.any λkv=>decide (kv.1=k))=vs.any λkv=>decide (kv.1=k):=by
 unfold KV at r;induction r with
 |nil=>rfl
 |cons h t ih=>rw[Nz,Nz,ih,h.1]
theorem KV.repl{kvs:List (κ×V)}{vs:List (κ×Value)}(r:KV kvs vs)(k:κ)(ry:RelV y u) :
  KV (kvs.map λkv=>if kv.1=k then(kv.1,y) else kv) (vs.map λkv=>if kv.1=k then(kv.1,u) else kv):=by
 unfold KV at r ⊢;induction r with
 |nil=>exact .nil
 |@cons p q ps qs h t ih =>
  rw[LQ,LQ];refine .cons ?_ ih;obtain⟨h1,h2⟩:=h;by_cases e:p.1=k
  .rw[if_pos e,if_pos (h1.symm.trans e)];exact⟨h1,ry⟩
  .rw[if_neg e,if_neg (λz=>e (h1.trans z))];exact⟨h1,h2⟩
theorem KV.put{kvs:List (κ×V)}{vs:List (κ×Value)}(r:KV kvs vs)(k:κ)(ry:RelV y u):KV (putK kvs k y) (stored vs k u):=by
 unfold putK stored;rw[r.any k];by_cases e:(vs.any λkv=>decide (kv.1=k))=true
 .rw[if_pos e,if_pos e];exact r.repl k ry
 .rw[if_neg e,if_neg e];exact Paired.snoc r ⟨rfl,ry⟩
theorem KV.length{kvs:List (κ×V)}{vs:List (κ×Value)}(r:KV kvs vs):kvs.length=vs.length:=Paired.length r
end
theorem fA{k:Key}(r:RelV (kV k) u):(bH P w).is k u=true:=by
 cases k with
 |inl i=>obtain⟨t,e⟩:=(show ∃t,u=OU i t from r);subst e;exact Al P w i t
 |inr x=>obtain⟨t,e⟩:=(show ∃t,u=NA x t from r);subst e;exact Am P w x t
theorem qL{P:Program}{w:World}:∀{ks:List Key} {us:List Value},Vals (ks.map kV) us->ItemsAre (bH P w) ks us
 | [],_,r=>by rw[OR] at r;cases r;exact .nil
 |k::ks,_,r=>by
  rw[LQ] at r;cases r with
  |cons h t=>exact .cons (fA h) (qL t)
abbrev KT(H:Hp):List (List Key×V)->List (List Key×Addr×Value)->Prop:=Paired λp q=>p.1=q.1/\H q.2.1=some (.tup (p.1.map kV))/\RelV p.2 q.2.2
theorem KT.val{xs:List (List Key×Addr×Value)}(r:KT H kvs xs)(k:List Key):br (bI kvs k) ((atKey xs k).map (·.2)):=by
 induction r with
 |nil=>exact True.intro
 |@cons p q ps qs h t ih =>
  obtain⟨h1,_,h2⟩:=h;by_cases e:p.1=k
  .have e':q.1=k:=h1.symm.trans e;have b:atKey (q::qs) k=some q.2:=by simp[atKey,O4,e']
   rw[jz e,b];exact h2
  .have e':¬ q.1=k:=λz=>e (h1.trans z)
   have b:atKey (q::qs) k=atKey qs k:=by simp[atKey,O4,e']
   rw[jA e,b];exact ih
theorem KT.repl{xs:List (List Key×Addr×Value)}(r:KT H kvs xs)(k:List Key)(ry:RelV y u) :
  KT H (kvs.map λkv=>if kv.1=k then(kv.1,y) else kv) (xs.map (putAt k u)):=by
 induction r with
 |nil=>exact .nil
 |@cons p q ps qs h t ih =>
  rw[LQ,LQ];refine .cons ?_ ih;obtain⟨h1,h2,h3⟩:=h;unfold putAt;by_cases e:p.1=k
  .rw[if_pos e,if_pos (h1.symm.trans e)];exact⟨h1,h2,ry⟩
  .rw[if_neg e,if_neg (λz=>e (h1.trans z))];exact⟨h1,h2,h3⟩
theorem KT.put{xs:List (List Key×Addr×Value)}(r:KT H kvs xs)(k:List Key){b:Addr}(hb:H b=some (.tup (k.map kV)))(ry:RelV y u) :
  KT H (putK kvs k y) (storedH xs k b u):=by
 have e:(kvs.any λkv=>decide (kv.1=k))=(atKey xs k).isSome:=by
  rw[qK,(r.val k).isSome_eq,P5]
 unfold putK storedH;rw[e];by_cases q:(atKey xs k).isSome=true
 .rw[if_pos q,if_pos q];exact r.repl k ry
 .rw[if_neg q,if_neg q];exact Paired.snoc r ⟨rfl,hb,ry⟩
theorem KT.keeps{xs:List (List Key×Addr×Value)}(r:KT H kvs xs)(ht:∀b ys,H b=some (.tup ys)->H' b=some (.tup ys)):KT H' kvs xs :=
 Paired.mapP r λ_ _ z=>⟨z.1,ht _ _ z.2.1,z.2.2⟩
section
variable{h:Heap}
theorem qM{u:HO}(ok:HOk P w H h)(e:Rd H a u):aB P w H h a u:=e.ok ok
theorem dU{kvs:List (Key×V)}(ok:HOk P w H h)(e:Rd H a (.dK kvs)):kvs.length<=sizeLine/\(a==sysModules)=false/\∃vs,KV kvs vs/\h.DictOf (bH P w) a vs :=
 show aB P w H h a (.dK kvs) from qM ok e
theorem qN{kvs:List (Key×V)}(ok:HOk P w H h)(e:H a=some (.dK kvs)):kvs.length<=sizeLine/\(a==sysModules)=false/\∃vs,KV kvs vs/\h.DictOf (bH P w) a vs:=dU ok (.inl e)
theorem fB{ks:List Key}(ok:HOk P w H h)(e:H a=some (.tup (ks.map kV))):(tupleKind (bH P w)).is h ks a:=by
 obtain⟨_,its,r,o,h1,h2,n,h3⟩:=(show aB P w H h a (.tup (ks.map kV)) from ok a _ e);exact⟨o,its.toArray,n,h1,h2,h3,by simpa using qL r⟩
theorem fC(ok:HOk P w H h)(e:Rd H a (.dT kvs)):kvs.length<=sizeLine/\(a==sysModules)=false /\
  ∃xs,KT H kvs xs/\h.DictOfH (tupleKind (bH P w)) a xs:=by
 obtain⟨z,y,xs,r,o,es,ep,h1,h2,h3,h4,h5⟩:=(show aB P w H h a (.dT kvs) from qM ok e);refine⟨z,y,xs,r,o,es,ep,h1,h2,h3,h4,λx hx=>?_,h5⟩;have all:∀{l:List (List Key×V)} {m:List (List Key×Addr×Value)},KT H l m->∀x∈m,(tupleKind (bH P w)).is h x.1 x.2.1:=by
  intro l m q;induction q with
  |nil=>intro x hx;exact nomatch hx
  |@cons p q ps qs hq t ih =>
   intro x hx;rcases LD.mp hx with e|hx
   .subst e;exact fB ok (by rw[<- hq.1];exact hq.2.1)
   .exact ih x hx
 exact all r x hx
theorem qO(ok:HOk P w H h)(e:H a=some (.dT kvs)):kvs.length<=sizeLine/\(a==sysModules)=false /\
  ∃xs,KT H kvs xs/\h.DictOfH (tupleKind (bH P w)) a xs:=fC ok (.inl e)
end
def bS(H:Hp)(a:Addr)(y:V)(r:Option V):Prop :=
 (∃kvs k,Rd H a (.dK kvs)/\y=kV k/\r=bI kvs k)\/∃kvs k b,Rd H a (.dT kvs)/\y= .ref b/\H b=some (.tup (k.map kV))/\r=bI kvs k
def eO(H:Hp)(a:Addr)(y v:V)(H':Hp):Prop :=
 (∃kvs k,H a=some (.dK kvs)/\y=kV k/\kvs.length < sizeLine/\H'=upd H a (.dK (putK kvs k v))) \/
 ∃kvs k b,H a=some (.dT kvs)/\y= .ref b/\H b=some (.tup (k.map kV))/\kvs.length < sizeLine/\H'=upd H a (.dT (putK kvs k v))
theorem eO.k{H:Hp}{a:Addr}{kvs:List (Key×V)}{k:Key}{v:V}(e:H a=some (.dK kvs))(hl:kvs.length < sizeLine):eO H a (kV k) v (upd H a (.dK (putK kvs k v))):= .inl ⟨kvs,k,e,rfl,hl,rfl⟩
section
variable{s:Shared}{v:V}{r:Value}{o:Option V}
theorem Inv.big(I:Inv X pins σ H s):sysModules < s.heap.objs.size:=by
 have h:mainGlobals < s.heap.objs.size:=(I.mod.glob.keeps I.bk).lt;exact QK (by decide) h
theorem B6(hu:A.units+1 < cLine)(I:Inv X pins σ H s)(g:bS H a y (some v))(ry:RelV y u)(h:∀w' s',Inv X pins σ H s'->RelV v w'->Q w' s') :
  wpAny (model X.prog X.w) A (getItem (.ref a) u) Q E s:=by
 rcases g with⟨kvs,k,e,ey,l⟩|⟨kvs,k,b,e,ey,eb,l⟩
 .subst ey;obtain⟨z,hd,vs,rel,dd⟩:=dU I.hok e;obtain⟨w',hw,rw'⟩:=br.some_of (v:=v) (o:=valueAt vs k) (by rw[l];exact rel.val k);exact wpAny_getItem_of (fA ry) dd.mapOf hw (h w' _ (I.tok _) rw')
 .subst ey;cases (show u=M4 b from ry);obtain⟨z,hd,xs,rel,dd⟩:=fC I.hok e;obtain⟨w',hw,rw'⟩:=br.some_of (v:=v) (o:=(atKey xs k).map (·.2)) (by rw[l];exact rel.val k);obtain⟨p,hp,hp2⟩:=LH.mp hw;refine wpAny_getItem_heap (O0 hu) (fB I.hok eb) dd hp ?_;rw[hp2];exact h w' _ (I.tok _) rw'
theorem B7(hu:A.units+1 < cLine)(I:Inv X pins σ H s)(g:bS H a y o)(ry:RelV y u)(h:∀s',Inv X pins σ H s'->Q (.bool o.isSome) s') :
  wpAny (model X.prog X.w) A (compareOp .In u (.ref a)) Q E s:=by
 rcases g with⟨kvs,k,e,ey,l⟩|⟨kvs,k,b,e,ey,eb,l⟩
 .subst ey;obtain⟨z,hd,vs,rel,dd⟩:=dU I.hok e;refine wpAny_in_of (fA ry) hd dd.mapOf ?_;rw[<- (rel.val k).isSome_eq,<- l];exact h _ (I.tok _)
 .subst ey;cases (show u=M4 b from ry);obtain⟨z,hd,xs,rel,dd⟩:=fC I.hok e;refine wpAny_in_heap (O0 hu) (fB I.hok eb) hd dd ?_;have q:=(rel.val k).isSome_eq;rw[P5] at q;rw[<- q,<- l];exact h _ (I.tok _)
theorem B8(hu:A.units+1 < cLine)(I:Inv X pins σ H s)(g:bS H a y o)(ry:RelV y u)(h:∀s',Inv X pins σ H s'->Q (.bool (!o.isSome)) s') :
  wpAny (model X.prog X.w) A (compareOp .NotIn u (.ref a)) Q E s:=by
 rcases g with⟨kvs,k,e,ey,l⟩|⟨kvs,k,b,e,ey,eb,l⟩
 .subst ey;obtain⟨z,hd,vs,rel,dd⟩:=dU I.hok e;refine wpAny_notIn_of (fA ry) hd dd.mapOf ?_;rw[<- (rel.val k).isSome_eq,<- l];exact h _ (I.tok _)
 .subst ey;cases (show u=M4 b from ry);obtain⟨z,hd,xs,rel,dd⟩:=fC I.hok e;refine wpAny_notIn_heap (O0 hu) (fB I.hok eb) hd dd ?_;have q:=(rel.val k).isSome_eq;rw[P5] at q;rw[<- q,<- l];exact h _ (I.tok _)
theorem jC{h':Heap}{ob:HO}(I:Inv X pins σ H s)(mu:Mut (H a))(hs:MY a s.heap h')(he:∃q,h'.get? a=some q)(new:aB X.prog X.w (upd H a ob) h' a ob) :
  Inv X pins σ (upd H a ob) {s with heap:=h',toks:=t'} :=
 I.write (x:=a) (e:=a) mu (.inl rfl) (λb q hb z=>(hs.2 b hb).trans z) he new
theorem qP{h':Heap}{kvs:List (Key×V)}{vs:List (Key×Value)}(z:kvs.length<=sizeLine)(hd:(a==sysModules)=false)(rel:KV kvs vs)(dd:h'.DictOf (bH P w) a vs) :
  aB P w H' h' a (.dK kvs):=⟨z,hd,vs,rel,dd⟩
theorem B9{Q:Unit->Shared->Prop}(hu:A.units+1 < cLine)(I:Inv X pins σ H s)(g:eO H a y v H')(ry:RelV y u)(rv:RelV v r)(h:∀s',Inv X pins σ H' s'->Q () s') :
  wpAny (model X.prog X.w) A (setItem (.ref a) u r) Q E s:=by
 rcases g with⟨kvs,k,e,ey,l,eH⟩|⟨kvs,k,b,e,ey,eb,l,eH⟩
 .subst ey eH;obtain⟨z,hd,vs,rel,dd⟩:=qN I.hok e;have hz:vs.length<=sizeLine:=by rw[<- rel.length];exact z
  have hl:(putK kvs k v).length<=sizeLine:=by have:=jB kvs k v;omega
  refine wpAny_setItem_pairs (hsz:=hz) (fA ry) dd λh' dd' hs=>h _ ?_
  have he:∃q,h'.get? a=some q:=let ⟨q,_,_,hq,_⟩:=dd';⟨q,hq⟩;exact jC I (by rw[e];exact True.intro) hs he (qP hl hd (rel.put k rv) dd')
 .subst ey eH;cases (show u=M4 b from ry);obtain⟨z,hd,xs,rel,dd⟩:=qO I.hok e;have hz:xs.length<=sizeLine:=by rw[<- Paired.length rel];exact z
  have hl:(putK kvs k v).length<=sizeLine:=by have:=jB kvs k v;omega
  refine wpAny_setItem_heap (hsz:=hz) (O0 hu) (fB I.hok eb) dd λh' dd' hs=>h _ ?_
  obtain⟨q,es,ep,hq,h2,h3,h4,_,h5⟩:=dd';refine jC I (by rw[e];exact True.intro) hs ⟨q,hq⟩ ⟨hl,hd,_,(rel.put k eb rv).keeps λc ys ec=>?_,q,es,ep,hq,h2,h3,h4,h5⟩;rw[zE (pK ec e (λz=>nomatch z))];exact ec
end
section
variable{s:Shared}{kvs:List (Key×V)}{k:Key}
theorem B_(I:Inv X pins σ H s)(e:Rd H a (.dK kvs))(h:∀t s',Inv X pins σ H s'->Q (.int kvs.length t) s'):wpAny (model X.prog X.w) A (call (.builtin "len") [.ref a]) Q E s:=by
 obtain⟨z,hd,vs,rel,dd⟩:=dU I.hok e;refine call_len_dict hd dd (by rw[<- rel.length];rw[MG] at z;omega) ?_;rw[<- rel.length];exact h _ _ (I.tok _)
end
def md(i:Expr):Prop:=∀ov iv,subscripted i false ov iv=operate [ov,iv] (getItem ov iv)
theorem Ca{prog:Program}{s:Shared}{env:Env}{value slice:Expr}{id:String}
  (hl:typeLookup (.type T) "__getitem__"=pure (some (.builtin id)))(hs:md slice)
  (h:wpAny (model prog w) A (eval value env) (λo s₁=>wpAny (model prog w) A (eval slice env) (λi s₂=>s₂.TypeIs o T/\wpAny (model prog w) A (getItem o i) Q E s₂) E s₁) E s) :
  wpAny (model prog w) A (eval (.Subscript value slice pos) env) Q E s:=by
 refine QD (M0 h (λo s₁ h₁=>M0 h₁ (λi s₂ h₂=>?_) λ_ _ x=>x) λ_ _ x=>x);obtain⟨hT,h₂⟩:=h₂;unfold subscriptTail;refine L1 ?_;rw[getitemInPython_of_ne hT.not_modules];refine L1 (Rz hT hl ?_);have fin:wpAny (model prog w) A (subscripted slice false o i) (λr s₃=>wpAny (model prog w) A (letTemporaryGo value o r >>= λ_=>pure r) Q E s₃) E s₂:=by
  rw[hs o i];exact wpAny_operating (M0 h₂ (λr s₃ h₃=>L1 (wpAny_letTemporaryGo (L9 h₃))) λ_ _ x=>x)
 first
  |exact L9 (L1 fin)
  |exact L1 (L9 (L1 fin))
  |exact L1 fin
theorem Cb{s:Shared}{o:Option V}(I:Inv X pins σ H s)(g:bS H a y o):s.TypeIs (.ref a) "dict":=by
 rcases g with⟨kvs,k,e,_,_⟩|⟨kvs,k,b,e,_,_,_⟩
 .obtain⟨_,_,vs,_,dd⟩:=dU I.hok e;exact dd.typeIs
 .obtain⟨_,_,xs,_,dd⟩:=fC I.hok e;exact dd.typeIs
def me(td ty:TE):TE:=λσ H Q=>td σ H λx H1=>ty σ H1 λy H2=>∃a v,x= .ref a/\bS H2 a y (some v)/\Q v H2
def mf(td ty tv:TE):TS:=λD σ H=>tv σ H λv H1=>td σ H1 λx H2=>ty σ H2 λy H3=>∃a H4,x= .ref a/\eO H3 a y v H4/\D.nx σ H4
section
variable{o i e value:Expr}{pos' tpos:Pos}{td ty tv:TE}
theorem Cc(hu:X.A.units+1 < cLine)(ho:PE X o td)(hi:PE X i ty)(hs:md i):PE X (.Subscript o i pos) (me td ty):=by
 intro pins s σ H Q I h;refine Ca PySem.F.slot_dict_getitem.lookup hs (thn (ho pins s σ H _ I h) λu s1 ⟨x,H1,I1,rx,q1⟩=>thn (hi pins s1 σ H1 _ I1 q1) λiv s2 ⟨y,H2,I2,ry,a,v,ex,g,q2⟩=>?_);subst ex;obtain rfl:u=M4 a:=rx;exact⟨Cb I2 g,B6 hu I2 g ry λw' s3 I3 rw'=>⟨v,H2,I3,rw',q2⟩⟩
theorem Cd(hu:X.A.units+1 < cLine)(ho:PE X o td)(hi:PE X i ty)(hv:PE X value tv)(hs:swapsWith value (some (.Subscript o i pos')) pos.line X.env=pure false) :
  PS X (.Assign [.Subscript o i pos'] value pos) (mf td ty tv):=by
 intro pins s σ H D I h;refine wpAny_Assign_Subscript (thn (hv pins s σ H _ I h) λr s1 ⟨v,H1,I1,rv,q1⟩=>thn (ho pins s1 σ H1 _ I1 q1) λu s2 ⟨x,H2,I2,rx,q2⟩=>thn (hi pins s2 σ H2 _ I2 q2) λiv s3 ⟨y,H3,I3,ry,a,H4,ex,g,q3⟩=>?_) hs;subst ex;obtain rfl:u=M4 a:=rx;exact B9 hu I3 g ry rv λs4 I4=>⟨σ,H4,I4,q3⟩
end
theorem qQ(h:Heap)(hb:sysModules < h.objs.size):aB P w H (h.push {cls:= .type "dict",data:= .dict #[]}) h.objs.size (.dK []) :=
 ⟨Ms _,beq_eq_false_iff_ne.mpr (Ne.symm (LJ hb)),[],.nil,T8 h⟩
theorem Ce(h:Heap)(hb:sysModules < h.objs.size):aB P w H (h.push {cls:= .type "dict",data:= .dict #[]}) h.objs.size (.dT []) :=
 ⟨Ms _,beq_eq_false_iff_ne.mpr (Ne.symm (LJ hb)),[],.nil,_, #[],0,LC _ rfl,⟨rfl,rfl,rfl⟩,rfl,rfl,PZ⟩
def mh:TE:=λ_ H Q=>∀p,H p=none->Q (.ref p) (upd H p (.dK []))
section
theorem Cf:PE X (.Dict [] [] pos) mh:=λpins s σ H Q I h =>
 wpAny_Dict_empty ⟨.ref s.heap.objs.size,_,I.laid (a:=s.heap.objs.size) (o:= .dK []) (t':=s.toks) (λ_ _ q=>L5 _ q) (Lx _) (qQ s.heap I.big),rfl,h _ (I.hok.fresh (Lx _))⟩
end
structure M1(X:Cx)(o:Expr)(m:Str)(apos:Pos)(e:Expr)(cpos:Pos):Prop where
 base:attributeBase o m X.env (eval o X.env)=eval o X.env
 few:((backTo cpos (starEach [e] X.env)).all (λx=> !x.1)&&(backToKw cpos (keywordEach [] X.env)).all (λx=>x.1.isSome)
  && decide (([e]:List Expr).length+([]:List Keyword).length+(if ([]:List Keyword).isEmpty then 0 else 1) < 30))=true
 line:(apos.endLine==cpos.line)=true
 trees:backTo cpos (starEach [e] X.env)=[(false,eval e X.env)]
structure M2(X:Cx)(o:Expr)(m:Str)(apos:Pos)(e f:Expr)(cpos:Pos):Prop where
 base:attributeBase o m X.env (eval o X.env)=eval o X.env
 few:((backTo cpos (starEach [e,f] X.env)).all (λx=> !x.1)&&(backToKw cpos (keywordEach [] X.env)).all (λx=>x.1.isSome)
  && decide (([e,f]:List Expr).length+([]:List Keyword).length+(if ([]:List Keyword).isEmpty then 0 else 1) < 30))=true
 line:(apos.endLine==cpos.line)=true
 trees:backTo cpos (starEach [e,f] X.env)=[(false,eval e X.env),(false,eval f X.env)]
def IsD(H:Hp)(a:Addr):Prop:=(∃kvs,Rd H a (.dK kvs))\/∃kvs,Rd H a (.dT kvs)
theorem Cg{s:Shared}(I:Inv X pins σ H s)(d:IsD H a) :
  s.TypeIs (.ref a) "dict"/\(∀b,M4 a= .ref b->∃ob,s.heap.get? b=some ob/\ob.dict=none)/\(a==sysModules)=false:=by
 rcases d with⟨kvs,e⟩|⟨kvs,e⟩
 .obtain⟨_,hd,vs,_,dd⟩:=dU I.hok e;refine⟨dd.typeIs,λb q=>?_,hd⟩;cases q;obtain⟨ob,_,_,h1,h2,_⟩:=dd;exact⟨ob,h1,h2.2.1⟩
 .obtain⟨_,hd,xs,_,dd⟩:=fC I.hok e;refine⟨dd.typeIs,λb q=>?_,hd⟩;cases q;obtain⟨ob,_,_,h1,h2,_⟩:=dd;exact⟨ob,h1,h2.2.1⟩
section
variable{s:Shared}{d:V}{r:Value}{o:Option V}
theorem Ci(hu:A.units+1 < cLine)(I:Inv X pins σ H s)(g:bS H a y o)(ry:RelV y u)(rd:RelV d r)(h:∀w' s',Inv X pins σ H s'->RelV (o.getD d) w'->Q w' s') :
  wpAny (model X.prog X.w) A (call (.builtin "dict.get") [.ref a,u,r]) Q E s:=by
 rcases g with⟨kvs,k,e,ey,l⟩|⟨kvs,k,b,e,ey,eb,l⟩
 .subst ey;obtain⟨z,hd,vs,rel,dd⟩:=dU I.hok e;refine SG OG dd.typeIs Pt (Pi _ _ _) (meets_dict_get_default (bH X.prog X.w) a (fA ry) hd r) ⟨_,dd.mapOf,h _ _ (I.tok _) ?_⟩;rw[l];exact(rel.val k).getD rd
 .subst ey;cases (show u=M4 b from ry);obtain⟨z,hd,xs,rel,dd⟩:=fC I.hok e;refine SG OG dd.typeIs Pt (Pi _ _ _) (meetsH_dict_get_default (tupleKind (bH X.prog X.w)) a b hd r) ⟨O0 hu,k,xs,fB I.hok eb,dd,h _ _ (I.tok _) ?_⟩;rw[l];exact(rel.val k).getD rd
end
def mi(td ty tx:TE):TE:=λσ H Q=>td σ H λx H1=>∃a,x= .ref a/\IsD H1 a/\ty σ H1 λy H2=>tx σ H2 λz H3=>∃o,bS H3 a y o/\Q (o.getD z) H3
section
variable{o e f:Expr}{apos cpos:Pos}{td ty tx:TE}
theorem Cj(hu:X.A.units+1 < cLine)(ho:PE X o td)(he:PE X e ty)(hf:PE X f tx)(m:M2 X o "get" apos e f cpos):PE X (.Call (.Attribute o "get" apos) [e,f] [] cpos) (mi td ty tx):=by
 intro pins s σ H Q I h;refine wpAny_Call_method m.base m.few m.line PySem.F.plainAttrs_dict OG PySem.F.type_dict_get (thn (ho pins s σ H _ I h) λu s1 ⟨x,H1,I1,rx,a,ex,d,q1⟩=>?_);subst ex;obtain rfl:u=M4 a:=rx;obtain⟨t1,t2,_⟩:=Cg I1 d;refine⟨t1,t2,?_⟩;rw[m.trees];refine Calls.callWith_builtin rfl (Calls.evalArgs_plain (Calls.spliced_cons (thn (he pins s1 σ H1 _ I1 q1) λiv s2 ⟨y,H2,I2,ry,q2⟩ =>
  Calls.spliced_cons (thn (hf pins s2 σ H2 _ I2 q2) λfv s3 ⟨z,H3,I3,rz,ov,g,q3⟩=>Calls.spliced_nil ?_))))
 exact Ci hu I3 g ry rz λw' s4 I4 rw'=>⟨_,H3,I4,rw',q3⟩
end
section
variable{s:Shared}{kvs:List (Key×V)}
end
section
variable{s:Shared}
end
end L2
namespace Att
open PySem PySem.W PySem.Calls PyProof.Rows
theorem Ck{P:Params}{h:Heap}:∀(ns:List Int) (vs:List Value),WellAll P h vs (ns.map WData.int)->IntsAre vs ns:=by
 intro ns;induction ns with
 |nil =>
  intro vs w;rw[OR] at w;cases w;exact .nil
 |cons n ns ih =>
  intro vs w;rw[LQ] at w;cases w with
  |cons a b =>
   cases a;exact .cons _ _ (ih _ b)
theorem Cl{l:OpenLaw}{n:Nat}(hn:l.most=some n){P:Params}{h:Heap}{args:List WData}{vals:List Value}
  (hpre:l.row.toRowW.claim.pre args=true)(hwl:WellAll P h vals args) :
  ∃a vs ns,vals=[M4 a]/\args=[WData.list (ns.map WData.int)]/\h.get? a=some {cls:= .type "list",data:= .seq vs.toArray}/\IntsAre vs ns/\ns.length<=n:=by
 have hsh:WShape.hasAll [] args [.list .int]=true:=(pre_splitW hpre).1;have hc:l.pre.holds [] {args:=args}=true:=(pre_splitW hpre).2;obtain⟨d,r,rfl,h1,h2⟩:=hasAllW_cons hsh;obtain rfl:=hasAllW_nil h2;obtain⟨xs,rfl,h3⟩:=hasW_list h1;obtain⟨ns,rfl⟩:=items_int h3;have hlen:ns.length<=n:=by
  unfold OpenLaw.pre at hc;have h4:(WTm.not (.lt (.lit (.int (n:Int))) (.len (.arg 0)))).holds [] {args:=[.list (ns.map .int)]}=true:=by
   have h4:=(holds_andW hc).1;rw[hn] at h4;exact h4
  have h5:=condW_of h4 (w_not (w_lt w_lit (w_len_list (w_arg rfl))));rw[L0] at h5;refine Pj λq=>?_
  have q':(n:Int) < ((ns.length:Nat):Int):=by omega
  first
   | (rw[decide_eq_true q'] at h5;exact absurd h5 (by decide))
   | (simp at h5;omega)
 cases hwl with
 |cons w1 w2 =>
  cases w2;cases w1 with
  |list ho hall=>exact⟨_,_,ns,rfl,rfl,ho,Ck ns _ hall,hlen⟩
theorem Cm(l:OpenLaw)(args:List WData):l.row.toRowW.claim.post args (.bool true) args=true :=
 postW_of (r:=l.row.toRowW) (X:=(true==true))
  (show WShape.has [] (.bool true) .bool=true by first|rfl|decide|simp[WShape.has,WShape.arms,WShape.armsAll])
  (show(WTm.eq .res (.lit (.bool true))).value [] {args:=args,res:=some (.bool true),after:=args}=some (.bool (true==true)) from w_eq_bool (w_res rfl) w_lit) rfl
theorem Cn{l:OpenLaw}{n:Nat}{q:Program}{loose:List Str}{XP:(Str->Option Value)->Heap->Prop}{YP:World->Heap->Prop}{d:DefRec}
  (hn:l.most=some n)(hdf:d.params.defaults=[])
  (call:∀(w:World) (s₀ s₁:Shared) (mg mb:Str->Option Value) (fa:Addr) (o:Obj) (pm cd doc:Value) (a:Addr) (vs:List Value) (ns:List Int),
   Ground q loose [] XP w s₀ mg mb s₁.heap->YP w s₁.heap ->
   s₁.heap.get? fa=some o->o.data= .func (docDef d.name d.params d.body d.scope pm cd doc)->s₁.heap.CodeRec cd d.name->mg d.name=some (.ref fa) ->
   s₁.heap.get? a=some {cls:= .type "list",data:= .seq vs.toArray}->IntsAre vs ns->ns.length<=n->s₁.gens= #[] ->
   codeAny (model l.prog w) callerA (.call (.ref fa) ⟨[.ref a],[]⟩) (λr s'=>r= .ok (.ret (.bool true))/\OldK s₁.heap s'.heap/\s'.os=s₁.os/\AllBare s'.gens) s₁) :
  WalkO q loose XP YP l.row.toRowW d [] (λf vs=>RF f vs):=by
 intro w s₀ s₁ mg mb G Y fa o pm cd doc dV kV ho hd hcd hD hmg hg args vals as hpre hlay hrd hwl hlo;obtain rfl:dV= .none:=Dflts.none hD hdf;obtain rfl:kV= .none:=Dflts.noKw hD;obtain⟨a,vs,ns,rfl,rfl,hobj,hints,hlen⟩:=Cl hn hpre hwl;refine enter_call (Oc (call w s₀ s₁ mg mb fa o pm cd doc a vs ns G Y ho (fd_plain hd) hcd hmg hobj hints hlen hg) λr s' hq=>?_);obtain⟨rfl,h2,h3,h4⟩:=hq;exact⟨.inl ⟨.bool true,.bool true,[],rfl,λ_=>rfl,.bool true,Cm l _,λ_=>⟨SY,λ_ hm=>(nomatch hm)⟩⟩,h2,h3,h4⟩
section
variable{prog:Program}{w:World}{A:Around}{E:Value->Shared->Prop}{s:Shared}{K:Frag}
end
end Att
namespace L2
open PySem PySem.Spec PyProof.Rows
variable{x qual first y:Str}{ns ho ga ns' ps N S wh:List Str}{scope:Scope}{X:Cx}{K:Frag}{H:Hp}{iter tg elt:Expr}{pos pos':Pos}{pins:List (Addr×Obj)}{g:TG}{sp:Sp}{st:Stmt}{cm:Bool}{ifs es:List Expr}{te:TE}{wi:TI}{prog:Program}{r:R2}{op:CmpOp}{sl lo:Int}{w:World}{A:Around}{env:Env}{h j:Nat}{fd:FuncData}{f a:Addr}{σ:St}{tc:TT}{fp:List Addr}{CX:CXT}{xs:List V}{ds:List PyData}{gs:TGs}{E:Value->Shared->Prop}{T:String}
theorem qR:∀{vs:List Value} {ns:List Int},IntsAre vs ns->Vals (ns.map V.int) vs
 |_,_,.nil=> .nil
 |_,_,.cons n t h=> .cons ⟨t,rfl⟩ (qR h)
def inClass(s:Stmt)(j:Nat):Stmt:=match s with
 | .ClassDef _ _ _ body _ _ _ _ _ _ _=>body.getD j (.Pass ⟨0,0,0,0⟩)
 |_=> .Pass ⟨0,0,0,0⟩
def ii(s:Stmt):Arguments:=match s with
 | .FunctionDef _ a _ _ _ _ _ _ _ _=>a
 |_=>{posonlyargs:=[],args:=[],vararg:=none,kwonlyargs:=[],kw_defaults:=[],kwarg:=none,defaults:=[]}
def dW(s:Stmt):List Stmt:=match s with
 | .FunctionDef _ _ b _ _ _ _ _ _ _=>b
 |_=>[]
def zr(s:Stmt):Scope:=match s with
 | .FunctionDef _ _ _ _ _ _ sc _ _ _=>sc
 |_=>{kind:= .function,names:=[],isGenerator:=false,isCoroutine:=false}
abbrev CX0:CXT:=λ_ _ _ _ _ _=>False
abbrev E0:XK:=λ_ _ _=>False
theorem fD:cq CX0 X E0:=λ_ _ _ _ _ _ _ h=>h.elim
structure Fun(K:Frag)(x qual:Str)(st:Stmt)(f:Addr)(fd:FuncData):Prop where
 ex:∃(oc:Value) (od:Option Addr) (kV:Value×Value) (doc pm:Value) (an:Option Addr) (cdv ct:Value) (osl:Array (Option Value)),
  fd=fnOf x qual (ii st) (dW st) (zr st) kV.1 kV.2 doc pm an cdv ct/\K.lookup f=some ⟨oc,od,.func fd,osl⟩/\codeIn K cdv qual=true
 kp:keepIn K (.ref f)=true
section
variable{P:Program}{mg:Str->Option Value}{base:Heap}
theorem Fun.ok{k:Nat}(F:Fun K x qual st f fd)(S:zG N ps (zr st))(len:∀vs H Q E,sp vs H Q E->vs.length=ps.length)
  (hbody:∀(cdv:Value) (A:Around) (outer:List Env) (s:Shared) (H:Hp) (vs:List V) (Q:VK) (E:XK),bf k (A.deeper (envOfC qual (zr st) s.heap.objs.size f cdv))->sp vs H Q E ->
   ∃t,PSs (dR CX0 P w K mg base N qual (zr st) f cdv A outer s H E).nox (dW st) t/\t {nx:=λ_ H'=>Q .non H',rt:=Q} (start N vs) H):zX P w K mg base CX0 (k+1) f fd ps sp:=by
 obtain⟨oc,od,kV,doc,pm,an,cdv,ct,osl,rfl,lk,hcd⟩:=F.ex;refine qk lk hcd S len λA outer s H vs Q E hr hsp=>?_
 obtain⟨t,h,q⟩:=hbody cdv A outer s H vs Q E hr hsp;exact⟨t,h.nox,q⟩
theorem Fun.binds(F:Fun K x qual st f fd)
  (h:∀(kV doc pm:Value) (an:Option Addr) (cdv ct:Value) (us:List Value),us.length=ps.length->bindArgs (fnOf x qual (ii st) (dW st) (zr st) .none kV doc pm an cdv ct) ⟨us,[]⟩=pure (ps.zip us))(hd:fd.defaults= .none:=by rfl):Binds K fd ps []:=by
 obtain⟨oc,od,kV,doc,pm,an,cdv,ct,osl,rfl,lk,hcd⟩:=F.ex;have e:kV.1= .none:=hd;rw[e];exact .all (h kV.2 doc pm an cdv ct)
theorem zM{oc:Value}{od an:Option Addr}{osl:Array (Option Value)}{dV kV doc pm cdv ct:Value}(l:K.lookup f=some ⟨oc,od,.func (fnOf x qual (ii st) (dW st) (zr st) dV kV doc pm an cdv ct),osl⟩)
  (c:codeIn K cdv qual=true)(k:keepIn K (.ref f)=true):Fun K x qual st f (fnOf x qual (ii st) (dW st) (zr st) dV kV doc pm an cdv ct):=⟨⟨oc,od,(dV,kV),doc,pm,an,cdv,ct,osl,rfl,l,c⟩,k⟩
end
theorem cC{k:Nat}(hr:aS cm k A):A.units+1 < cLine:=Qv (Nat.add_le_add_left (by decide:1<=64) _) hr.units
section
end
theorem Co{A B:Prop}(h:A):if true=true then A else B:=by
 rw[if_pos rfl];exact h
theorem jD{c A B:Prop}[Decidable c](h1:c->A)(h2:¬ c->B):if c then A else B:=by
 by_cases h:c
 .rw[if_pos h];exact h1 h
 .rw[if_neg h];exact h2 h
def cZ(H H':Hp):Prop:=∀b o,H b=some o->H' b=some o
section
theorem Cp:zQ X (.builtin "len") (λxs H Q=>∃a kvs,xs=[V.ref a]/\H a=some (.dK kvs)/\Q (.int kvs.length) H):=by
 intro pins s σ H xs us Q I r h;obtain⟨a,kvs,rfl,ha,q⟩:=h;obtain⟨u,rfl,ru⟩:=vals1 r;cases ru;exact B_ I (.inl ha) λt s' I'=>⟨.int kvs.length,H,I',⟨t,rfl⟩,q⟩
end
section
variable{κ:Type}[DecidableEq κ]
end
def aT(env:Env):List (Str×NameKind)->List (Str×Addr)->List (Str×Addr)
 | [],acc=>acc
 | (n,k)::r,acc=>if k== .free then aT env r ((n,(env.cells.lookup n).getD 0)::acc) else aT env r acc
theorem mj{env:Env}(f:Str×NameKind->List (Str×Addr)->Sem (ForInStep (List (Str×Addr))))
  (hf:∀n k cs,f (n,k) cs=if k== .free then(do let a<-cellOf env n;pure (.yield ((n,a)::cs))) else pure (.yield cs)) :
  ∀(names:List (Str×NameKind)) (acc:List (Str×Addr)),(∀x∈names,x.2= .free->(env.cells.lookup x.1).isSome=true)->forIn names acc f=(pure (aT env names acc):Sem _)
 | [],acc,_=>rfl
 | (n,k)::r,acc,h=>by
  have hr:∀x∈r,x.2= .free->(env.cells.lookup x.1).isSome=true:=λx hx=>h x (LN _ hx)
  rw[List.forIn_cons,hf];unfold aT;cases hk:k==NameKind.free with
  |true =>
   obtain⟨c,hc⟩:=Oi.mp (h (n,k) LO (by simpa using hk));have e:cellOf env n=pure c:=by unfold cellOf;rw[hc]
   simp only[if_true];rw[e,pure_bind,pure_bind,hc];exact mj f hf r _ hr
  |false =>
   simp only[Mr,if_false];rw[pure_bind];exact mj f hf r _ hr
theorem jE(h:∀x∈scope.names,x.2= .free->(env.cells.lookup x.1).isSome=true):closureFor scope env=pure (aT env scope.names []):=by
 simp only[closureFor];rw[mj (env:=env) _ (λn k cs=>by
  cases hk:k==NameKind.free<;>simp[hk]) _ _ h]
 rfl
theorem gp{env:Env}:∀{names:List (Str×NameKind)} {acc:List (Str×Addr)} {n:Str} {c:Addr},(n,c)∈aT env names acc->(n,c)∈acc\/((n,.free)∈names/\c=(env.cells.lookup n).getD 0)
 | [],_,_,_,h=> .inl h
 | (x,k)::r,acc,n,c,h=>by
  unfold aT at h;cases hk:k==NameKind.free with
  |true =>
   rw[hk] at h;simp only[if_true] at h;have ek:k= .free:=by simpa using hk
   subst ek;rcases gp h with h|h
   .rcases LD.mp h with e|h
    .cases e;exact .inr ⟨LO,rfl⟩
    .exact .inl h
   .exact .inr ⟨LN _ h.1,h.2⟩
  |false =>
   rw[hk] at h;simp only[Mr,if_false] at h;rcases gp h with h|h
   .exact .inl h
   .exact .inr ⟨LN _ h.1,h.2⟩
theorem ml{env:Env}:∀{names:List (Str×NameKind)} {acc:List (Str×Addr)} {p:Str×Addr},p∈acc->p∈aT env names acc
 | [],_,_,h=>h
 | (x,k)::r,acc,p,h=>by
  unfold aT;split
  .exact ml (LN _ h)
  .exact ml h
theorem mm{env:Env}:∀{names:List (Str×NameKind)} {acc:List (Str×Addr)} {n:Str},(n,.free)∈names->(n,(env.cells.lookup n).getD 0)∈aT env names acc
 | (x,k)::r,acc,n,h=>by
  unfold aT;rcases LD.mp h with e|h
  .cases e;exact ml LO
  .split<;>exact mm h
theorem mn:∀{names:List (Str×NameKind)} {m:Nat} {acc:List (Str×Addr)} {n:Str} {c:Addr},(n,c)∈cellsFrom m names acc->(n,c)∈acc\/((n,.cell)∈names/\m<=c)
 | [],_,_,_,_,h=> .inl h
 | (x,k)::r,m,acc,n,c,h=>by
  unfold cellsFrom at h;cases hk:k==NameKind.cell with
  |true =>
   rw[hk] at h;simp only[if_true] at h;have ek:k= .cell:=by simpa using hk
   subst ek;rcases mn h with h|h
   .rcases LD.mp h with e|h
    .cases e;exact .inr ⟨LO,Lx _⟩
    .exact .inl h
   .exact .inr ⟨LN _ h.1,QL h.2⟩
  |false =>
   rw[hk] at h;simp only[Mr,if_false] at h;rcases mn h with h|h
   .exact .inl h
   .exact .inr ⟨LN _ h.1,h.2⟩
theorem ij:∀{names:List (Str×NameKind)} {m:Nat} {acc:List (Str×Addr)} {p:Str×Addr},p∈acc->p∈cellsFrom m names acc
 | [],_,_,_,h=>h
 | (x,k)::r,m,acc,p,h=>by
  unfold cellsFrom;split
  .exact ij (LN _ h)
  .exact ij h
theorem qT:∀{names:List (Str×NameKind)} {m:Nat} {acc:List (Str×Addr)} {n:Str},(n,.cell)∈names->∃c,(n,c)∈cellsFrom m names acc
 | (x,k)::r,m,acc,n,h=>by
  unfold cellsFrom;rcases LD.mp h with e|h
  .cases e;exact⟨m,ij LO⟩
  .split<;>exact qT h
theorem ik{α:Type}:∀{l:List (Str×α)} {n:Str} {c:α},(n,c)∈l->∃c',l.lookup n=some c'/\(n,c')∈l
 | (k,v)::r,n,c,h=>by
  rw[M5];cases hb:n==k with
  |true=>exact⟨v,rfl,by rw[beq_iff_eq.mp hb];exact LO⟩
  |false =>
   rcases LD.mp h with e|h
   .cases e;simp at hb
   .obtain⟨c',e,m⟩:=ik h;exact⟨c',e,LN _ m⟩
theorem jF{α:Type}:∀{l:List (Str×α)} {n:Str} {a b:α},(l.map (·.1)).Nodup->(n,a)∈l->(n,b)∈l->a=b
 |x::r,n,a,b,nd,h,h'=>by
  rw[LQ,NK] at nd;have no:∀c,(n,c)∈r->n≠x.1:=λc hc e=>nd.1 (by rw[<- e];exact Md (f:=(·.1)) hc)
  rcases LD.mp h with e|h<;>rcases LD.mp h' with e' |h'
  .rw[<- e] at e';cases e';rfl
  .exact absurd (by rw[<- e]) (no b h')
  .exact absurd (by rw[<- e']) (no a h)
  .exact jF nd.2 h h'
theorem jG{α:Type}{l:List (Str×α)}{n:Str}{a:α}(nd:(l.map (·.1)).Nodup)(h:(n,a)∈l):l.lookup n=some a:=by
 obtain⟨c,e,m⟩:=ik h;rw[e,jF nd h m]
theorem mo:∀{names:List (Str×NameKind)} {m:Nat} {acc:List (Str×Addr)},(∀p∈acc,p.2 < m)->(∀n n' c,(n,c)∈acc->(n',c)∈acc->n=n') ->
  ∀n n' c,(n,c)∈cellsFrom m names acc->(n',c)∈cellsFrom m names acc->n=n'
 | [],_,_,_,h,n,n',c,a,b=>h n n' c a b
 | (x,k)::r,m,acc,lt,h,n,n',c,a,b=>by
  unfold cellsFrom at a b;cases hk:k==NameKind.cell with
  |true =>
   rw[hk] at a b;simp only[if_true] at a b;refine mo (m:=m+1) (acc:=(x,m)::acc) (λp hp=>?_) (λn n' c a b=>?_) n n' c a b
   .rcases LD.mp hp with rfl|hp
    .exact No _
    .exact MQ (lt p hp)
   .rcases LD.mp a with e|a<;>rcases LD.mp b with e' |b
    .cases e;cases e';rfl
    .cases e;exact absurd (lt _ b) (Nc _)
    .cases e';exact absurd (lt _ a) (Nc _)
    .exact h n n' c a b
  |false =>
   rw[hk] at a b;simp only[Mr,if_false] at a b;exact mo lt h n n' c a b
theorem mq:∀(names:List (Str×NameKind)) (h:Heap) (acc:List (Str×Addr)) (n:Str) (c:Addr),(n,c)∈cellsFrom h.objs.size names acc->(n,c)∈acc\/(pushCells h names).IsCell c none
 | [],_,_,_,_,h=> .inl h
 | (x,k)::r,h,acc,n,c,hm=>by
  unfold cellsFrom at hm;unfold pushCells;cases hk:k==NameKind.cell with
  |true =>
   rw[hk] at hm;simp only[if_true] at hm ⊢;rw[show h.objs.size+1=(h.push {cls:= .type "cell",data:= .cell none}).objs.size from (MU ..).symm] at hm;rcases mq r _ _ n c hm with h1|h1
   .rcases LD.mp h1 with e|h1
    .cases e;exact .inr (SZ ⟨_,LC _ rfl,rfl⟩ (O6 r _))
    .exact .inl h1
   .exact .inr h1
  |false =>
   rw[hk] at hm;simp only[Mr,if_false] at hm ⊢;exact mq r h acc n c hm
def c5(scope:Scope)(C:Addr)(env:Env):Env:=compEnvC scope (cellsFrom (C+1) scope.names (aT env scope.names [])) C env
theorem mr{M:Model}{s:Shared}{globals:Addr}{cl:List (Str×Addr)}{Q:Env->Shared->Prop}
  (h:Q (newEnv scope s.heap.objs.size globals (cellsFrom (s.heap.objs.size+1) scope.names cl) qual none .none (some env) builtinsNs) {s with heap:=pushCells (s.heap.push {cls:= .type "dict",data:= .dict #[]}) scope.names}) :
  wpAny M A (newFunctionEnv scope globals cl [] qual none .none (some env)) Q E s:=by
 simp only[newFunctionEnv,Qu,if_true];refine L1 (wpAny_alloc ?_);refine L1 (wpAny_layCells _ (λname kind cells=>by cases hkc:kind==NameKind.cell<;>simp[hkc]) _ _ _ _ ?_);rw[show({s with heap:=s.heap.push {cls:= .type "dict",data:= .dict #[]}}:Shared).heap.objs.size=s.heap.objs.size+1 from MU ..];rw[List.forIn_nil];exact L1 (L9 (L9 h))
def zy(X:Cx)(N:List Str)(scope:Scope)(C:Addr)(s:Shared)(H:Hp)(ex:List Addr):Cx where
 prog:=X.prog
 w:=X.w
 K:=X.K
 mg:=X.mg
 base:=X.base
 A:=X.A
 N:=N
 s₀:=s
 H₀:=H
 env:=c5 scope C X.env
 outer:=X.stack
 stack:=X.stack
 ex:=ex
 fn:=λx=>scope.names.lookup x==some .cell
 calm:=X.calm
 pn:=[]
 xe:=λ_ _=>False
structure b9(X:Cx)(scope:Scope):Prop where
 kind:scope.kind= .function
 nd:(scope.names.map (·.1)).Nodup
 free:∀x∈scope.names,x.2= .free->(X.env.kindOf x.1=some .cell\/X.env.kindOf x.1=some .free)
def freeOk(sc:Scope)(scope:Scope):Bool:=scope.names.all λx=>x.2 != .free||(sc.names.lookup x.1==some .cell||sc.names.lookup x.1==some .free)
theorem b9.of(k:scope.kind= .function)(nd:(scope.names.map (·.1)).Nodup)(f:freeOk X.env.scope scope=true):b9 X scope:=⟨k,nd,λx hx e=>by
 have q:=Mp.mp f x hx;rw[e] at q;show X.env.scope.names.lookup x.1=_\/X.env.scope.names.lookup x.1=_;simpa using q⟩
theorem jH{env:Env}:∀{names:List (Str×NameKind)} {x:Str} {k:NameKind},
  (names.map λ(n,k)=>if (k==NameKind.free&&env.scope.kind== .function&&env.kindOf n==some .cell) then(n,NameKind.cell) else(n,k)).lookup x=some k ->
  (∃k',names.lookup x=some k'/\(k'=k\/(k'= .free/\k= .cell/\env.kindOf x=some .cell)))
 | [],_,_,h=>by simp at h
 | (n,k0)::r,x,k,h=>by
  rw[LQ,M5] at h;rw[M5];have hn:(if (k0==NameKind.free&&env.scope.kind== .function&&env.kindOf n==some .cell)=true then(n,NameKind.cell) else(n,k0)).1=n:=by split<;>rfl
  dsimp only at h;rw[hn] at h;cases hx:x==n with
  |false =>
   rw[hx] at h;exact jH h
  |true =>
   rw[hx] at h;simp only[Nu] at h;refine⟨k0,rfl,?_⟩;have ex:x=n:=beq_iff_eq.mp hx;subst ex;by_cases hc:(k0==NameKind.free&&env.scope.kind== .function&&env.kindOf x==some .cell)=true
   .rw[if_pos hc] at h;simp only[Mw,beq_iff_eq] at hc;exact .inr ⟨hc.1.1,h.symm,hc.2⟩
   .rw[if_neg hc] at h;exact .inl h
def bx(σ:St)(fr:List Nat):St:=fr.map λj=>(σ[j]?).join
theorem mv{s s3:Shared}{own free:List Str}{fr:List Nat}{ex:List Addr}(S:b9 X scope)
  (I:Inv X pins σ H s)(hex:∀b∈ex,bu X pins H b)(hob:∀b∈ex,∃o,s.heap.get? b=some o)(hfr:fr.map (λj=>X.N[j]?)=free.map some)(hff:∀x∈free,scope.names.lookup x=some .free)
  (hs3:∀b o,s.heap.get? b=some o->s3.heap.get? b=some o)(hsz:s.heap.objs.size<=s3.heap.objs.size)(ho:s3.os=s.os)(hg:s3.gens=s.gens) :
  Inv (zy X (own++free) scope s3.heap.objs.size s H ex) [] (own.map (λ_=>none)++bx σ fr) H {s3 with heap:=pushCells (s3.heap.push {cls:= .type "dict",data:= .dict #[]}) scope.names}:=by
 have hsome:∀x∈scope.names,x.2= .free->∃c,X.env.cells.lookup x.1=some c:=λx hx e=>I.ok.has x.1 (S.free x hx e)
 have keep:∀b o,s3.heap.get? b=some o->(pushCells (s3.heap.push {cls:= .type "dict",data:= .dict #[]}) scope.names).get? b=some o:=λb o e=>O6 _ _ b o (L5 _ e)
 have hkeep:∀b o,s.heap.get? b=some o->(pushCells (s3.heap.push {cls:= .type "dict",data:= .dict #[]}) scope.names).get? b=some o:=λb o e=>keep b o (hs3 b o e)
 have cells:∀n c,(n,c)∈(c5 scope s3.heap.objs.size X.env).cells->((n,NameKind.free)∈scope.names/\X.env.cells.lookup n=some c)\/((n,NameKind.cell)∈scope.names/\s3.heap.objs.size+1<=c/\(pushCells (s3.heap.push {cls:= .type "dict",data:= .dict #[]}) scope.names).IsCell c none):=λn c h=>by
  have h':(n,c)∈cellsFrom (s3.heap.objs.size+1) scope.names (aT X.env scope.names []):=h;have hc:=mn h';have e:=mq scope.names (s3.heap.push {cls:= .type "dict",data:= .dict #[]}) (aT X.env scope.names []) n c (by rw[MU];exact h');have fromClos:(n,c)∈aT X.env scope.names []->(n,NameKind.free)∈scope.names/\X.env.cells.lookup n=some c:=λhm=>by
   rcases gp hm with h|⟨hn,rfl⟩
   .exact absurd h (by simp)
   .obtain⟨c',ec⟩:=hsome _ hn rfl;rw[ec];exact⟨hn,rfl⟩
  rcases hc with hc|hc
  .exact .inl (fromClos hc)
  .rcases e with e|e
   .exact .inl (fromClos e)
   .exact .inr ⟨hc.1,hc.2,e⟩
 have cell_lt:∀n c,X.env.cells.lookup n=some c->c < s.heap.objs.size:=λn c e=>by
  obtain⟨v,o,ho,_⟩:=I.cell n c e;exact LB ho
 have apart:∀n n' c,(n,c)∈(c5 scope s3.heap.objs.size X.env).cells->(n',c)∈(c5 scope s3.heap.objs.size X.env).cells->n=n':=λn n' c a b=>by
  refine mo (acc:=aT X.env scope.names []) (m:=s3.heap.objs.size+1) (λp hp=>?_) (λn n' c a b=>?_) n n' c a b
  .obtain⟨n,c⟩:=p;rcases gp hp with h|⟨hn,e⟩
   .exact absurd h (by simp)
   .obtain⟨c',ec⟩:=hsome _ hn rfl;rw[ec] at e;cases e;exact MQ (LS (cell_lt n _ ec) hsz)
  .rcases gp a with h|⟨hn,e⟩
   .exact absurd h (by simp)
   .rcases gp b with h|⟨hn',e'⟩
    .exact absurd h (by simp)
    .obtain⟨c1,e1⟩:=hsome _ hn rfl;obtain⟨c2,e2⟩:=hsome _ hn' rfl;have e1':X.env.cells.lookup n=some c1:=e1;have e2':X.env.cells.lookup n'=some c2:=e2;rw[e1'] at e;rw[e2'] at e';exact I.ok.inj n n' c (by rw[e1',e];rfl) (by rw[e2',e'];rfl)
 have vis:∀x,((c5 scope s3.heap.objs.size X.env).kindOf x=some .cell\/(c5 scope s3.heap.objs.size X.env).kindOf x=some .free)->(x,NameKind.cell)∈scope.names\/(x,NameKind.free)∈scope.names:=λx h=>by
  rcases h with h|h
  .obtain⟨k',e,q⟩:=jH h;rcases q with q|q
   .exact .inl (by rw[<- q];exact Ma e)
   .exact .inr (by rw[<- q.1];exact Ma e)
  .obtain⟨k',e,q⟩:=jH h;rcases q with q|q
   .exact .inr (by rw[<- q];exact Ma e)
   .exact .inr (by rw[<- q.1];exact Ma e)
 have fsub:∀b∈frs X.stack,b=X.env.locals\/b∈X.fs:=λb hb=>by
  have:=I.stkSub b hb;simpa using this
 have fresh:∀b,s.heap.objs.size<=b->s.heap.get? b=none:=λb hb=>by
  cases e:s.heap.get? b with
  |none=>rfl
  |some o=>exact absurd (LB e) (Ow.mpr hb)
 have exlt:∀b∈ex,b < s.heap.objs.size:=λb hb=>by obtain⟨o,e⟩:=hob b hb;exact LB e
 refine⟨⟨I.ok.mod,S.kind,I.ok.glob,I.ok.blt,hsz,λx y c a b=>apart x y c (Ma a) (Ma b),λx hx=>?_,λx c hx hc=>?_,I.ok.hd,I.ok.frames,.inl rfl,λb hb=>?_,I.bs,?_,λb o e hb=>?_,λb hb hf=>?_,I.stack,I.stkFree⟩,
  ho,?_,Un.kept hkeep,?_,λx c hc=>?_,I.hok.fresh hsz,λx c hc=>?_,λp hp=>absurd hp (by simp[zy]),I.hok.kept hkeep,?_⟩
 .rcases vis x hx with h|h
  .obtain⟨c,hc⟩:=qT (m:=s3.heap.objs.size+1) (acc:=aT X.env scope.names []) h;obtain⟨c',e,_⟩:=ik hc;exact⟨c',e⟩
  .obtain⟨c',e,_⟩:=ik (ij (names:=scope.names) (m:=s3.heap.objs.size+1) (mm (env:=X.env) (acc:=[]) h));exact⟨c',e⟩
 .have hx':scope.names.lookup x=some .cell:=by simpa [zy] using hx
  rcases cells x c (Ma hc) with h|h
  .have:=jF S.nd h.1 (Ma hx');cases this
  .show s.heap.objs.size<=c;omega
 .refine⟨LJ (LS (exlt b hb) hsz),λx c hc=>?_⟩;rcases cells x c (Ma hc) with h|h
  .exact(hex b hb).2.2.2.2.1 x c h.2
  .have:=exlt b hb;intro e;have e':Nat.lt c s.heap.objs.size:=by rw[e];exact this
   exact absurd (LS e' hsz) (Ow.mpr (QL h.2.1))
 .exact M6 I.ok.bsz I.sz
 .have hb':b∈ex:=hb;rcases(hex b hb').2.2.2.1 with h|h
  .exact I.ok.noex b o e h
  .exact absurd (LB (I.ok.bs b o e).1) (Ow.mpr h)
 .have hb':b∈ex:=hb;rcases fsub b hf with h|h
  .exact(hex b hb').2.1 h
  .exact(hex b hb').2.2.1 h
 .show AllBare s3.gens;rw[hg];exact I.bare
 .
  refine⟨_,(Heap.Ns.new s3.heap (.type "dict")).keeps (O6 _ _),λi x v hi hv vx=>?_⟩;have hN:(own++free)[i]? = some x:=hi;have hio:own.length<=i:=by
   rcases Nat.lt_or_ge i own.length with h|h
   .rw[Me (by simpa using h),L4,L3 h] at hv;cases hv
   .exact h
  rw[Mc hio] at hN;rw[Mc (by simpa using hio)] at hv;simp only[L0] at hv;unfold bx at hv;rw[L4] at hv;have hx2:=hff x (LA hN);have hmem:(x,NameKind.free)∈scope.names:=Ma hx2;cases ej:fr[i - own.length]? with
  |none=>rw[ej] at hv;cases hv
  |some j =>
   rw[ej] at hv;simp only[Nw,Nu] at hv;have hj:X.N[j]? = some x:=by
    have q:=congrArg (λl=>l[i - own.length]?) hfr;simp only[L4,ej,hN,Nw,Nu] at q;exact q
   have hσ:σ[j]? = some (some v):=by
    cases e:σ[j]? with
    |none=>rw[e] at hv;cases hv
    |some w=>rw[e] at hv;simp at hv;rw[hv]
   obtain⟨m,hm,hl⟩:=I.loc;have kx:=S.free _ hmem rfl;obtain⟨u,ru,lk⟩:=hl j x v hj hσ (by rcases kx with k|k;exact .inr (.inl k);exact .inr (.inr k));refine⟨u,ru,?_⟩;rcases lk with⟨k,_⟩|⟨_,c,hc,hcell⟩
   .rcases kx with q|q<;>(have q':X.env.kindOf x=_:=q;rw[k] at q';cases q')
   .obtain⟨c',e',m'⟩:=ik (ij (names:=scope.names) (m:=s3.heap.objs.size+1) (mm (env:=X.env) (acc:=[]) hmem));have hcc:c'=c:=by
     rcases cells x c' m' with h|h
     .rw[h.2] at hc;cases hc;rfl
     .have:=jF S.nd h.1 hmem;cases this
    subst hcc;refine .inr ⟨?_,c',e',hcell.keeps hkeep⟩;rcases vx with q|q|q
    .obtain⟨k',ek,qq⟩:=jH (env:=X.env) (names:=scope.names) q;rw[hx2] at ek;cases ek;rcases qq with qq|qq
     .cases qq
     .cases qq.2.1
    .exact .inl q
    .exact .inr q
 .rcases cells x c (Ma hc) with h|h
  .obtain⟨v,hv⟩:=I.cell x c h.2;exact⟨v,hv.keeps hkeep⟩
  .exact⟨_,h.2.2⟩
 .rcases cells x c (Ma hc) with h|h
  .exact I.freeC x c h.2
  .exact I.hok.fresh (by omega)
 .show _=(own++free).length;have q:=congrArg NL hfr;simp only[L0] at q;simp[bx,q]
def PTs(X:Cx)(ifs:List Expr)(t:TT):Prop :=
 ∀(pins:List (Addr×Obj)) (s:Shared) (σ:St) (H:Hp) (Q:Bool->Hp->Prop),Inv X pins σ H s->t σ H Q ->
  wpAny (model X.prog X.w) X.A (forIn ifs true λc r=>if r=true then do let ok<-isTrue c X.env (eval c X.env);pure (ForInStep.yield ok) else pure (ForInStep.yield r)) (TP X pins σ Q) X.xe s
def mw:TT:=λ_ H Q=>Q true H
theorem Cq:PTs X [] mw:=λpins s σ H Q I h=>wpAny_tests_nil ⟨H,I,h⟩
theorem Cr{c:Expr}{t:TT}(h:PT X c t):PTs X [c] t:=λpins s σ H Q I q=>wpAny_tests_one (h pins s σ H Q I q)
theorem Cs{R:Result->Shared->Prop}{s:Shared}{target:Expr}{it acc:Value}(I:Nat->Shared->Prop)
  (turn:∀n s,I n s->wpAny (model prog w) A (pyNext it) (λr s₁=>match r with
   |none=>R (.ok .next) s₁
   |some v=>wpAny (model prog w) A (letOwnedTupleGo target it v) (λ_ s₁'=>wpAny (model prog w) A (assign target env v) (λ_ s₂ =>
     wpAny (model prog w) A (forIn ifs true λc r=>if r=true then do let ok<-isTrue c env (eval c env);pure (ForInStep.yield ok) else pure (ForInStep.yield r)) (λok s₃ =>
      if ok=true then wpAny (model prog w) A (eval elt env) (λx s₄ =>
       wpAny (model prog w) A (call (.builtin "list.append") [acc,x]) (λ_ s₅=>∃m,m < n/\I m s₅) (notedBy (model prog w) A env λe s'=>R (.error e) s') s₄) (notedBy (model prog w) A env λe s'=>R (.error e) s') s₃
      else ∃m,m < n/\I m s₃) (notedBy (model prog w) A env λe s'=>R (.error e) s') s₂) (notedBy (model prog w) A env λe s'=>R (.error e) s') s₁') (notedBy (model prog w) A env λe s'=>R (.error e) s') s₁) (notedBy (model prog w) A env λe s'=>R (.error e) s') s)
  (n:Nat) (h:I n s) :
  codeAny (model prog w) A (.compLoop (.ListComp elt [⟨target,iter,ifs,0⟩] scope pos) 0 it acc env) R s:=by
 refine QZ rfl I (λn s hI=>?_) n h;show wpAny _ A ((compTurn (.ListComp elt [⟨target,iter,ifs,0⟩] scope pos) 0 it acc env).onRaise (λx=>do noteFrame x env;theTreesLotGoes x)) _ _ s;refine Rr ?_;rw[compTurn_list];refine L1 (Ni (L1 (M0 (turn n s hI) (λr s₁ h₁=>?_) λ_ _ h'=>h')));cases r with
 |none=>exact L9 h₁
 |some v =>
  refine L1 (M0 h₁ (λ_ s₁' h₁'=>?_) λ_ _ h'=>h');refine L1 (M0 h₁' (λ_ s₂ h₂=>L1 (M0 h₂ (λok s₃ h₃=>?_) λ_ _ h'=>h')) λ_ _ h'=>h');cases ok with
  |false=>exact L9 ⟨rfl,h₃⟩
  |true =>
   exact L1 (L1 (M0 h₃ (λx s₄ h₄=>L1 (M0 h₄ (λ_ s₅ h₅=>L9 (L9 ⟨rfl,h₅⟩)) λ_ _ h'=>h')) λ_ _ h'=>h'))
def Sub(σ σ2:St):Prop:=σ.length=σ2.length/\∀(i:Nat) v,σ[i]? = some (some v)->σ2[i]? = some (some v)
abbrev lobj(its:List Value)(n:Nat):Obj:={cls:= .type "list",data:= .seq its.toArray n}
section
variable{own free:List Str}{fr:List Nat}
def mx(J:It)(g:TG)(tc:TT)(te:TE)(σb:St)(Fin:List V->Hp->Prop)(W:Nat->Nat->List V->Hp->Prop):Prop :=
 ∀i m ys H,W i m ys H->(J.stop i H/\Fin ys H)\/(J.go i H/\ys.length < sizeLine/\∃N:List V->Hp->Prop,(∀ys' H',N ys' H'->∃m',m' < m/\W (i+1) m' ys' H')/\∀x H',J.yld i H x H'->g x σb H' λσ2 H3=>Sub σb σ2/\tc σ2 H3 λb H4 =>
  if b=true then te σ2 H4 λv H5=>N (ys++[v]) H5 else N ys H4)
theorem qU{H2:Hp}{s2:Shared}{J:It}{it:Addr}{tn:Nat->Heap->Prop}{Fin:List V->Hp->Prop}{W:Nat->Nat->List V->Hp->Prop}{m0:Nat}
  {RR:Value->Addr->Result->Shared->Prop}
  (S:b9 X scope)(hc:X.calm=true)(hfr:fr.map (λj=>X.N[j]?)=free.map some)(hff:∀x∈free,scope.names.lookup x=some .free)
  (hg:∀C s H ex,PG (zy X (own++free) scope C s H ex) tg g)(ht:∀C s H ex,PTs (zy X (own++free) scope C s H ex) ifs tc)(he:∀C s H ex,PE (zy X (own++free) scope C s H ex) elt te)
  (I2:Inv X pins σ H2 s2)(T:Turn X.prog X.w X.K tg J fp it tn)(st2:tn 0 s2.heap)(f2:∀b∈fp,bu X pins H2 b)
  (w0:W 0 m0 [] H2)(turn:mx J g tc te (own.map (λ_=>none)++bx σ fr) Fin W)
  (hRR:∀D C its n ys H' s',Inv (zy X (own++free) scope C s2 H2 fp) [(D,lobj its n)] (own.map (λ_=>none)++bx σ fr) H' s'->Vals ys its->ys.length<=sizeLine->Fin ys H'->s2.heap.objs.size<=D->RR (.ref D) C (.ok .next) s') :
  wpAny (model X.prog X.w) X.A (newList []) (λacc s₃=>wpAny (model X.prog X.w) X.A (newFunctionEnv scope X.env.globals (aT X.env scope.names []) [] X.env.qual none .none (some X.env)) (λcenv s₄ =>
   codeAny (model X.prog X.w) X.A (.compStart (.ListComp elt [⟨tg,iter,ifs,0⟩] scope pos) 0 (.ref it) acc {cenv with scope:=relabel scope X.env}) (RR acc cenv.locals) s₄) E s₃) E s2:=by
 refine Mx (mr ?_);have hob:∀b∈fp,∃o,s2.heap.get? b=some o:=λb hb=>by obtain⟨o,e,_⟩:=T.obj _ _ st2 b hb;exact⟨o,e⟩
 have fplt:∀b∈fp,b < s2.heap.objs.size:=λb hb=>by obtain⟨o,e⟩:=hob b hb;exact LB e
 generalize hs3:({s2 with heap:=s2.heap.push {cls:= .type "list",dict:=none,data:= .seq ([]:List Value).toArray}}:Shared)=s3
 have hh3:s3.heap=s2.heap.push (lobj [] 0):=by rw[<- hs3]
 have hC:s3.heap.objs.size=s2.heap.objs.size+1:=by rw[hh3,MU]
 have keep3:∀b o,s2.heap.get? b=some o->s3.heap.get? b=some o:=λb o e=>by rw[hh3];exact L5 _ e
 have I3:=mv (own:=own) (ex:=fp) (s3:=s3) S I2 f2 hob hfr hff keep3 (by rw[hC];exact MN _) (by rw[<- hs3]) (by rw[<- hs3]);generalize hs4:({s3 with heap:=pushCells (s3.heap.push {cls:= .type "dict",data:= .dict #[]}) scope.names}:Shared)=s4 at I3
 have keep4:∀b o,s3.heap.get? b=some o->s4.heap.get? b=some o:=λb o e=>by rw[<- hs4];exact O6 _ _ b o (L5 _ e)
 have hD4:s4.heap.get? s2.heap.objs.size=some (lobj [] 0):=keep4 _ _ (by rw[hh3];exact LC _ rfl);have nf:s2.heap.objs.size∉frs X.stack:=λhb=>by
  obtain⟨_,o,e,_⟩:=I2.stack.mem hb;exact absurd (LB e) (Nc _)
 have hDC:s2.heap.objs.size≠s3.heap.objs.size:=by rw[hC];exact LJ (No _)
 have cellD:∀{P:List (Addr×Obj)} {σ' H' s'} {its:List Value} {n:Nat},Inv (zy X (own++free) scope s3.heap.objs.size s2 H2 fp) P σ' H' s'->s'.heap.get? s2.heap.objs.size=some (lobj its n)->∀x c,(c5 scope s3.heap.objs.size X.env).cells.lookup x=some c->c≠s2.heap.objs.size:=λI e x c hc z=>by
  obtain⟨v,o,eo,ed⟩:=I.cell x c hc;rw[z,e] at eo;cases eo;cases ed
 have pinD:∀{σ' H' s'} {its:List Value} {n:Nat},Inv (zy X (own++free) scope s3.heap.objs.size s2 H2 fp) [] σ' H' s'->s'.heap.get? s2.heap.objs.size=some (lobj its n)->H' s2.heap.objs.size=none ->
   Inv (zy X (own++free) scope s3.heap.objs.size s2 H2 fp) [(s2.heap.objs.size,lobj its n)] σ' H' s':=λ{σ' H' s' its n} I e hn=>I.pins_of λp hp=>by
  have hp':p=(s2.heap.objs.size,lobj its n):=Lz.mp hp;subst hp';exact⟨e,hn,hDC,nf,λv=>by intro z;cases z⟩
 have I4:=pinD I3 hD4 (I2.hok.fresh (Lx _));have fpOk:∀{σ' H' s'} {its:List Value} {n:Nat},Inv (zy X (own++free) scope s3.heap.objs.size s2 H2 fp) [(s2.heap.objs.size,lobj its n)] σ' H' s'->(∀b∈fp,H' b=none)->∀b∈fp,bu (zy X (own++free) scope s3.heap.objs.size s2 H2 fp) [(s2.heap.objs.size,lobj its n)] H' b:=λ{σ' H' s' its n} I hn b hb=>by
  refine⟨hn b hb,(I.ok.exf b hb).1,I.ok.exfs b hb,.inl hb,(I.ok.exf b hb).2,λp hp=>?_⟩;have hp':p=(s2.heap.objs.size,lobj its n):=Lz.mp hp;subst hp';exact Ne.symm (LJ (fplt b hb))
 have stn4:tn 0 s4.heap:=T.keep _ _ _ st2 λb hb o e=>keep4 b o (keep3 b o e)
 have loop:∀s',s'=s4->codeAny (model X.prog X.w) X.A (.compLoop (.ListComp elt [⟨tg,iter,ifs,0⟩] scope pos) 0 (.ref it) (.ref s2.heap.objs.size) (c5 scope s3.heap.objs.size X.env)) (RR (.ref s2.heap.objs.size) s3.heap.objs.size) s':=by
  rintro s' rfl;refine Cs (λk s'=>∃i ys its n H',Inv (zy X (own++free) scope s3.heap.objs.size s2 H2 fp) [(s2.heap.objs.size,lobj its n)] (own.map (λ_=>none)++bx σ fr) H' s'/\tn i s'.heap/\(∀b∈fp,H' b=none)/\Vals ys its/\ys.length<=sizeLine/\W i k ys H') ?_ m0
   ⟨0,[],[],0,H2,I4,stn4,λb hb=>(f2 b hb).1,.nil,Ms _,w0⟩
  rintro k s5 ⟨i,ys,its,n,H5,I5,st5,fr5,r5,len5,w5⟩;rcases turn i k ys H5 w5 with⟨stop,fin⟩|⟨go,hlt,N,hN,step⟩
  .refine M0 (T.done (zy X (own++free) scope s3.heap.objs.size s2 H2 fp) rfl rfl rfl hc i _ s5 _ H5 (λ_ _=>False) I5 (fpOk I5 fr5) st5 stop) (λr s6 ⟨hr,I6⟩=>?_) λ_ _ f=>f.elim
   subst hr;exact hRR _ _ its n ys H5 s6 I6 r5 len5 fin (Lx _)
  .refine M0 (T.item (zy X (own++free) scope s3.heap.objs.size s2 H2 fp) rfl rfl rfl hc i _ s5 _ H5 (λ_ _=>False) I5 (fpOk I5 fr5) st5 go) (λr s6 ⟨u,hr,h6⟩=>?_) λ_ _ f=>f.elim
   subst hr;refine M0 h6 (λ_ s7 ⟨x,H7,I7,r7,y7,st7,fr7⟩=>?_) λ_ _ f=>f.elim
   have I7':=I7.pinned (fpOk I7 fr7) (T.obj _ _ st7);refine M0 (hg _ _ _ _ _ s7 _ H7 x u _ I7' r7 (step x H7 y7)) (λ_ s8 ⟨σ8,H8,I8,sub8,q8⟩=>?_) λ_ _ f=>f.elim
   refine M0 (ht _ _ _ _ _ s8 σ8 H8 _ I8 q8) (λb s9 ⟨H9,I9,q9⟩=>?_) λ_ _ f=>f.elim
   have back:∀{H' s'},Inv (zy X (own++free) scope s3.heap.objs.size s2 H2 fp) ([(s2.heap.objs.size,lobj its n)]++cV fp s7.heap) σ8 H' s'->tn (i+1) s'.heap/\(∀b∈fp,H' b=none):=λ{H' s'} I=>by
    refine⟨T.keep _ _ _ st7 λb hb o e=>(I.pin (b,o) (L8 _ (L8 _ (eM hb e)))).1,λb hb=>?_⟩;obtain⟨o,e,d⟩:=T.obj _ _ st7 b hb;exact(I.pin (b,o) (L8 _ (L8 _ (eM hb e)))).2.1
   cases b with
   |false =>
    obtain⟨m',hm,w9⟩:=hN _ _ q9;obtain⟨st9,fr9⟩:=back I9;exact⟨m',hm,i+1,ys,its,n,H9,I9.unpinned.weak sub8.1 sub8.2,st9,fr9,r5,len5,w9⟩
   |true =>
    refine M0 (he _ _ _ _ _ s9 σ8 H9 _ I9 q9) (λv s10 ⟨y,H10,I10,r10,q10⟩=>?_) λ_ _ f=>f.elim
    obtain⟨m',hm,w10⟩:=hN _ _ q10;obtain⟨st10,fr10⟩:=back I10;have pD:=I10.pin (s2.heap.objs.size,lobj its n) (L8 _ (LL _ LO));refine append_at (hsz:=by rw[Ly,<- r5.length];exact len5) pD.1 λh' hsb hnew=>?_
    have J0:Inv (zy X (own++free) scope s3.heap.objs.size s2 H2 fp) (cV fp s7.heap) σ8 H10 s10:=I10.pins_of λp hp=>I10.pin p (by
     have hp':p∈cV fp s7.heap:=by simpa [zy] using hp
     exact L8 _ (L8 _ hp'))
    have J1:Inv (zy X (own++free) scope s3.heap.objs.size s2 H2 fp) (cV fp s7.heap) σ8 H10 {s10 with heap:=h'}:=J0.turned (it:=s2.heap.objs.size) (t':=s10.toks) (λb o hb e=>hsb.extBut b o hb e) pD.2.1 hDC (.inr (Lx _)) (cellD J0 pD.1) (λp hp=>by
     have hp':p∈cV fp s7.heap:=by simpa [zy] using hp
     exact LJ (fplt _ (lQ hp').1))
    have J2:Inv (zy X (own++free) scope s3.heap.objs.size s2 H2 fp) [] σ8 H10 {s10 with heap:=h'}:=J1.pins_of λp hp=>absurd hp (by simp[zy])
    have st11:tn (i+1) h':=T.keep _ _ _ st10 λb hb o e=>hsb.extBut b o (LJ (fplt b hb)) e
    have e11:h'.get? s2.heap.objs.size=some (lobj (its++[v]) (n+1)):=by rw[hnew,QM]
    refine⟨m',hm,i+1,ys++[y],its++[v],n+1,H10,(pinD J2 e11 pD.2.1).weak sub8.1 sub8.2,st11,fr10,r5.append (.cons r10 .nil),?_,w10⟩;rw[LG,OF];exact hlt
 refine PC (loop _ rfl) (T.self X.A 0 _ _ _ stn4 (loop _ rfl))
theorem my{σ':St}{H2 H':Hp}{s2 s':Shared}{C D:Addr}{its:List Value}{n:Nat}{ys:List V}{h'':Heap}
  (I2:Inv X pins σ H2 s2)(f2:∀b∈fp,bu X pins H2 b)(I:Inv (zy X N scope C s2 H2 fp) [(D,lobj its n)] σ' H' s')(r:Vals ys its)(hz:ys.length<=sizeLine)(hD:s2.heap.objs.size<=D)(hs:MY C s'.heap h'') :
  Inv X pins σ (upd H' D (.lst ys)) {s' with heap:=h''}/\H' D=none:=by
 have pD:=I.pin (D,lobj its n) (L8 _ LO);have hCs:s2.heap.objs.size<=C:=I.ok.above;have hDC:D≠C:=pD.2.2.1;have u:Un (frs X.stack) fp H2 H' s2.heap s'.heap:=I.base;have lt2:∀b o,s2.heap.get? b=some o->b≠C/\b≠D:=λb o e=>by
  have:=LB e;exact⟨LJ (LS this hCs),LJ (LS this hD)⟩
 have tD:∀b o,H2 b=some o->b≠D:=λb o e z=>by
  have:=I2.hok.lt e;rw[z] at this;exact absurd this (Ow.mpr hD)
 have hC':∀b o,H' b=some o->b≠C:=λb o e z=>by
  have:=I.free;rw[show(zy X N scope C s2 H2 fp).env.locals=C from rfl,<- z,e] at this;cases this
 have hok1:HOk X.prog X.w H' h'':=λa o e=>(I.hok a o e).stay (λb ob hb eb=>by
   rcases hb with hb|hb
   .rw[hb];rw[hb] at eb;exact hs.extBut _ _ (hC' a o e) eb
   .exact hs.extBut _ _ (hC' b _ hb) eb) (λ_ h=>h) (λ_ _ h=>h)
 have oD:h''.get? D=some (lobj its n):=hs.extBut _ _ hDC pD.1;have hok:HOk X.prog X.w (upd H' D (.lst ys)) h'':=λa o e=>by
  by_cases ha:a=D
  .subst ha;rw[zA] at e;cases e;exact⟨hz,its,n,r,oD⟩
  .rw[zE ha] at e;refine(hok1 a o e).stay (λb ob _ eb=>eb) (λb h=>?_) (λb xs h=>?_)
   .rw[zE (λz=>by rw[z,pD.2.1] at h;cases h)];exact h
   .rw[zE (λz=>by rw[z,pD.2.1] at h;cases h)];exact h
 have u2:Un (frs X.stack) fp H2 (upd H' D (.lst ys)) s2.heap h'' :=
  {keep:=λb o e hn hf hx=>hs.extBut b o (lt2 b o e).1 (u.keep b o e hn hf hx)
   slot:=λb o e hn hf hx=>by
    obtain⟨sl,q⟩:=u.slot b o e hn hf hx;exact⟨sl,hs.extBut b _ (lt2 b o e).1 q⟩
   free:=λb o e hn hx=>by rw[zE (lt2 b o e).2];exact u.free b o e hn hx
   there:=λb o e hx=>by
    obtain⟨o',q⟩:=u.there b o e hx;exact⟨o',hs.extBut b _ (lt2 b o e).1 q⟩
   tups:=λb xs e=>by rw[zE (tD b _ e)];exact u.tups b xs e
   frzs:=λb o v e=>by rw[zE (tD b _ e)];exact u.frzs b o v e
   tbls:=λb ps e=>by rw[zE (tD b _ e)];exact u.tbls b ps e}
 refine⟨I2.call' (s':={s' with heap:=h''}) (ch:=fp) I.os u2 hok I.bare λb hb=>?_,pD.2.1⟩;have q:=f2 b hb;exact⟨q.2.2.2.1,q.2.1,q.2.2.2.2.1,q.2.2.2.2.2⟩
def im(own:List Str)(fr:List Nat)(wi:TI)(g:TG)(tc:TT)(te:TE):TE:=λσ H Q=>wi σ H λJ H1=>∃W:Nat->Nat->List V->Hp->Prop,(∃m,W 0 m [] H1) /\
 mx J g tc te (own.map (λ_=>none)++bx σ fr) (λys H'=>∀p,H' p=none->Q (.ref p) (upd H' p (.lst ys))) W
theorem Cu(own free:List Str)(fr:List Nat)(S:b9 X scope)(hc:X.calm=true)(hfr:fr.map (λj=>X.N[j]?)=free.map some)(hff:∀x∈free,scope.names.lookup x=some .free)
  (hi:PI X tg iter wi)
  (hg:∀C s H ex,PG (zy X (own++free) scope C s H ex) tg g)(ht:∀C s H ex,PTs (zy X (own++free) scope C s H ex) ifs tc)(he:∀C s H ex,PE (zy X (own++free) scope C s H ex) elt te)
  (hs:∀x,foldedSetIterable iter X.env x=pure x:=by intro _;rfl) :
  PE X (.ListComp elt [⟨tg,iter,ifs,0⟩] scope pos) (im own fr wi g tc te):=by
 intro pins s σ H Q I h;have hcl:closureFor scope X.env=pure (aT X.env scope.names []):=jE λx hx e=>by
  obtain⟨c,hc⟩:=I.ok.has x.1 (S.free x hx e);rw[hc];rfl
 rw[Su];refine NO (use:=none) rfl hs hcl S.kind (λx hx e=>by have:=jG S.nd (show(x.1,x.2)∈scope.names from hx);rw[this,e]) (thn (hi pins s σ H _ I h) λv s1 h1=>thn h1 λitv s2 h2=>?_);obtain⟨it,fp,tn,J,H2,e,I2,T,st2,f2,W,⟨m0,w0⟩,turn⟩:=h2;subst e;refine qU (RR:=λacc C=>compPost (model X.prog X.w) X.A X.xe none (EP X pins σ Q) acc C) S hc hfr hff hg ht he I2 T st2 f2 w0 turn ?_;intro D C its n ys H' s' I' r hz fin hD;obtain⟨m,hm,_⟩:=I'.loc;refine⟨m,hm,λh'' hsb=>?_⟩;obtain⟨J',hn⟩:=my I2 f2 I' r hz hD hsb;exact⟨.ref D,_,J',rfl,fin D hn⟩
theorem Cv{i:Nat}{spos:Pos}(own free:List Str)(fr:List Nat)(hN:X.N.Nodup)(hx:X.N[i]? = some x)(hl:X.env.scope.names.lookup x=some .local)
  (S:b9 X scope)(hc:X.calm=true)(hfr:fr.map (λj=>X.N[j]?)=free.map some)(hff:∀x∈free,scope.names.lookup x=some .free)
  (hi:PI X tg iter wi)
  (hg:∀C s H ex,PG (zy X (own++free) scope C s H ex) tg g)(ht:∀C s H ex,PTs (zy X (own++free) scope C s H ex) ifs tc)(he:∀C s H ex,PE (zy X (own++free) scope C s H ex) elt te)
  (hsw:swapsWith (.ListComp elt [⟨tg,iter,ifs,0⟩] scope pos) (some (.Name x pos')) spos.line X.env=pure true:=by rfl)
  (hs:∀x,foldedSetIterable iter X.env x=pure x:=by intro _;rfl) :
  PS X (.Assign [.Name x pos'] (.ListComp elt [⟨tg,iter,ifs,0⟩] scope pos) spos) (bt (im own fr wi g tc te) (cz i)):=by
 intro pins s σ H D0 I h;have hcl:closureFor scope X.env=pure (aT X.env scope.names []):=jE λx hx e=>by
  obtain⟨c,hc⟩:=I.ok.has x.1 (S.free x hx e);rw[hc];rfl
 rw[exec_Assign_Name_used _ _ _ _ hsw];refine L1 (Ni (L1 ?_));show wpAny _ X.A (do let _<-comprehension (.ListComp elt [⟨tg,iter,ifs,0⟩] scope pos) scope X.env _ (newList []) false (eval iter X.env) (some (assign (.Name x pos') X.env))) _ _ s;refine L1 (thn (NO (use:=some (assign (.Name x pos') X.env)) (Q:=λ_ s'=>SP X pins D0 .next s') rfl hs hcl S.kind (λx hx e=>by have:=jG S.nd (show(x.1,x.2)∈scope.names from hx);rw[this,e])
  (thn (hi pins s σ H _ I h) λv s1 h1=>thn h1 λitv s2 h2=>?_)) (λ_ s' hq=>L9 (L9 hq)))
 obtain⟨it,fp,tn,J,H2,e,I2,T,st2,f2,W,⟨m0,w0⟩,turn⟩:=h2;subst e;refine qU (RR:=λacc C=>compPost (model X.prog X.w) X.A X.xe (some (assign (.Name x pos') X.env)) (λ_ s'=>SP X pins D0 .next s') acc C) S hc hfr hff hg ht he I2 T st2 f2 w0 turn ?_;intro D C its n ys H' s' I' r hz fin hD;obtain⟨m,hm,_⟩:=I'.loc;obtain⟨J',hn⟩:=my I2 f2 I' r hz hD (QN C s'.heap);show wpAny _ _ (assign (.Name x pos') X.env (.ref D)) _ _ _;have hCx:(zy X (own++free) scope C s2 H2 fp).env.locals=C:=rfl;have hCl:C≠X.env.locals:=by
  have:=I2.lt;have h2:s2.heap.objs.size<=C:=I'.ok.above;exact Ne.symm (LJ (LS this h2))
 refine QU (pM (s:={s' with heap:=s'.heap}) J' hN hx (.inl hl) (show RelV (.ref D) (.ref D) from rfl) (λs3 I3 ⟨a,sb,ha⟩=>?_) (.inr hl));have haC:C≠a:=by
  rcases ha with rfl|ha
  .exact hCl
  .intro z;obtain⟨v,o,eo,_⟩:=I2.cell x a ha;have h2:s2.heap.objs.size<=C:=I'.ok.above;have:=LB eo;rw[<- z] at this;exact absurd this (Ow.mpr h2)
 have nsC:s3.heap.Ns C m:=hm.sameBut sb haC;refine⟨m,nsC,λh'' hsb=>?_⟩;refine⟨_,_,?_,fin D hn⟩;have hC2:s2.heap.objs.size<=C:=I'.ok.above;have hCn:(upd H' D (.lst ys)) C=none:=by
  rw[zE (λz=>?_)]
  .exact I'.free
  .exact(I'.pin (D,lobj its n) (L8 _ LO)).2.2.1 z.symm
 have:=I3.turned (it:=C) (h':=h'') (t':=s3.toks) (λb o hb e=>hsb.extBut b o hb e) hCn hCl (.inr (M6 I2.sz hC2)) (λy c hc z=>by
   obtain⟨v,o,eo,_⟩:=I2.cell y c hc;have:=LB eo;rw[z] at this;exact absurd this (Ow.mpr hC2)) (λp hp z=>by
   have:=LB (I2.pin p hp).1;rw[z] at this;exact absurd this (Ow.mpr hC2))
 exact this
end
def b_(lo:Int)(n:Nat):List Int:=(Mz n).map λ(i:Nat)=>lo+(i:Int)
theorem qV{n i:Nat}(h:i < n):(b_ lo n)[i]? = some (lo+i):=by
 unfold b_;rw[L4,NQ h];rfl
theorem io(lo:Int)(n:Nat):(b_ lo n).length=n:=by simp[b_]
section
def fE(i j:Int):Prop:=0 < j/\j < 2^250
theorem ip:OpR X (binaryOp .FloorDiv) (rI fE λi j=> .int (i / j)):=opI λi j t u s Q E h q=>by
 have e:i.fdiv j=i / j:=Int.fdiv_eq_ediv_of_nonneg i (Int.le_of_lt h.1);rw[<- e] at q;refine floordiv_int (by have:=h.1;omega) q (MP (PyProof.noPylong_of_log2 ?_));have h2:=h.2;have hn:j.natAbs < 2^250:=by have:=h.1;omega
 exact QK (Nat.log2_lt (by have:=h.1;omega) |>.mpr hn) (by decide)
theorem iq:∀{ns:List Int} {us:List Value},Vals (ns.map V.int) us->IntsAre us ns
 | [],_,.nil=> .nil
 |_::_,_,.cons ⟨t,rfl⟩ r=> .cons _ _ (iq r)
theorem Cw(hc:X.calm=true):zQ X (.builtin "max") (λxs H Q=>∃p ns,xs=[.ref p]/\SqL X.K H p (ns.map V.int)/\ns≠[]/\∀M∈ns,(∀a∈ns,a<=M)->Q (.int M) H):=by
 intro pins s σ H xs us Q I r h;obtain⟨p,ns,rfl,hl,hne,q⟩:=h;obtain⟨u,rfl,rx⟩:=vals1 r;cases rx;obtain⟨its,r',pl,hz⟩:=I.list hl;have hi:=iq r';obtain⟨ys,e⟩:=hi.allInts.items;have hns:ns=ys.toList.map (·.1):=by rw[<- hi.numsOf,<- Qn,<- e]
 have hsz:0 < ys.size:=by
  rcases Qw ys.size with h0|h0
  .have:ys.toList=[]:=by simpa using h0
   rw[this] at hns;exact absurd hns hne
  .exact h0
 have hl':=pl.isList;rw[e] at hl';refine max_intList (I.ok.hd hc) hl' hsz λv h' tk hv hk=>?_
 obtain⟨t,rfl⟩:=intItems_at hv;obtain⟨h1,h2⟩:=argBest_gt (numAt ys) (ys.size - 1);refine⟨.int _,H,I.kept hk,⟨t,rfl⟩,q _ ?_ λa ha=>?_⟩
 .rw[hns,RN];exact getD_mem (by rw[L0,M9];omega)
 .rw[hns] at ha;obtain⟨j,hj,rfl⟩:=mem_getD ha;rw[L0,M9] at hj;rw[<- RN];exact h2 j (by omega)
theorem Cy(hc:X.calm=true):zQ X (.builtin "min") (λxs H Q=>∃p ns,xs=[.ref p]/\SqL X.K H p (ns.map V.int)/\ns≠[]/\∀M∈ns,(∀a∈ns,M<=a)->Q (.int M) H):=by
 intro pins s σ H xs us Q I r h;obtain⟨p,ns,rfl,hl,hne,q⟩:=h;obtain⟨u,rfl,rx⟩:=vals1 r;cases rx;obtain⟨its,r',pl,hz⟩:=I.list hl;have hi:=iq r';obtain⟨ys,e⟩:=hi.allInts.items;have hns:ns=ys.toList.map (·.1):=by rw[<- hi.numsOf,<- Qn,<- e]
 have hsz:0 < ys.size:=by
  rcases Qw ys.size with h0|h0
  .have:ys.toList=[]:=by simpa using h0
   rw[this] at hns;exact absurd hns hne
  .exact h0
 have hl':=pl.isList;rw[e] at hl';refine min_intList (I.ok.hd hc) hl' hsz λv h' tk hv hk=>?_
 obtain⟨t,rfl⟩:=intItems_at hv;obtain⟨h1,h2⟩:=argBest_lt (numAt ys) (ys.size - 1);refine⟨.int _,H,I.kept hk,⟨t,rfl⟩,q _ ?_ λa ha=>?_⟩
 .rw[hns,RN];exact getD_mem (by rw[L0,M9];omega)
 .rw[hns] at ha;obtain⟨j,hj,rfl⟩:=mem_getD ha;rw[L0,M9] at hj;rw[<- RN];exact h2 j (by omega)
theorem Cz:zQ X (.builtin "isinstance") (λxs H Q=>∃x c t b,xs=[x,c]/\bK X.K H x t/\(∀u,RelV c u->kitOne X.K t u=some b)/\Q (.bl b) H):=by
 intro pins s σ H xs us Q I r h;obtain⟨x,c,t,b,rfl,ty,e,q⟩:=h;obtain⟨u,v,rfl,ru,rv⟩:=vals2 r;exact Bn I ru ty (e v rv) λtk=>⟨.bl b,H,I.tok tk,rfl,q⟩
end
theorem qW{s:Shared}{l:Addr}{items:Array Value}{Q:Value->Shared->Prop}(hl:s.heap.IsList l items)
  (h:∀s₂:Shared,s₂={s with heap:=s.heap.push {cls:= .type "list_iterator",data:= .fields #[.ref l,.int 0 0]}}->(s₂.heap.IsListIter s.heap.objs.size l 0/\s₂.heap.IsList l items)->l≠s.heap.objs.size->Q (.ref s.heap.objs.size) s₂) :
  wpAny (model prog w) A (pyIter (.ref l)) Q E s:=by
 have hlt:l < s.heap.objs.size:=by obtain⟨_,e,_⟩:=hl;exact LB e
 exact Pa hl (h _ rfl ⟨⟨_,LC _ rfl,rfl,rfl⟩,hl.push _⟩ (LJ hlt))
structure Has(P:Program)(w:World)(K:Frag)(mg:Str->Option Value)(base:Heap)(CX:CXT)(x:Str)(k:Nat)(ps:List Str)(sp:Sp):Prop where
 ex:∃f fd,zX P w K mg base CX k f fd ps sp/\Binds K fd ps []/\keepIn K (.ref f)=true/\mg x=some (.ref f)
section
variable{k:Nat}{E:XK}{p:Pos}{e:Expr}{t:TA}
theorem CA(h:Has X.prog X.w X.K X.mg X.base CX x j ps sp)(hr:bf k X.A)(ha:PA X (e::es) t)(hj:j<=k:=by decide)(hg:Gl X x:=by rfl)(hx:cq CX X E:=by exact fD)(hdb:(x==("__debug__":Str))=false:=by decide)
  (he:starEach (e::es) X.env=(false,eval e X.env)::starEach es X.env:=by rfl)(hpl:(backTo pos (starEach es X.env)).any (·.1)=false:=by rfl):PE X (.Call (.Name x p) (e::es) [] pos) (ib sp [] E t):=by
 obtain⟨f,fd,F,b,kp,m⟩:=h.ex;exact Bu (F.mono hj) hr hg m kp b .nil hx ha hdb he hpl
end
theorem aG:bootBuiltins "len"=some (.builtin "len"):=by decide+kernel
theorem CB:bootBuiltins "abs"=some (.builtin "abs"):=by decide+kernel
theorem qX:bootBuiltins "max"=some (.builtin "max"):=by decide+kernel
theorem qY:bootBuiltins "min"=some (.builtin "min"):=by decide+kernel
theorem ir:bootBuiltins "all"=some (.builtin "all"):=by decide+kernel
theorem CC:bootBuiltins "any"=some (.builtin "any"):=by decide+kernel
theorem CD:bootBuiltins "sum"=some (.builtin "sum"):=by decide+kernel
theorem jI:bootBuiltins "sorted"=some (.builtin "sorted"):=by decide+kernel
theorem gq:bootBuiltins "isinstance"=some (.builtin "isinstance"):=by decide+kernel
theorem mz:bootBuiltins "list"=some (.type "list"):=by decide+kernel
theorem fF:bootBuiltins "tuple"=some (.type "tuple"):=by decide+kernel
theorem qZ:bootBuiltins "int"=some (.type "int"):=by decide+kernel
theorem q0:bootBuiltins "bool"=some (.type "bool"):=by decide+kernel
theorem q_:bootBuiltins "set"=some (.type "set"):=by decide+kernel
theorem CF:bootBuiltins "zip"=some (.type "zip"):=by decide+kernel
structure Blt(mg:Str->Option Value):Prop where
 len:mg "len"=none
 abs:mg "abs"=none
 max:mg "max"=none
 min:mg "min"=none
 all:mg "all"=none
 any:mg "any"=none
 sum:mg "sum"=none
 sorted:mg "sorted"=none
 isinstance:mg "isinstance"=none
 list:mg "list"=none
 tuple:mg "tuple"=none
 int:mg "int"=none
 bool:mg "bool"=none
 str:mg "str"=none
 set:mg "set"=none
 dict:mg "dict"=none
 zip:mg "zip"=none
 range:mg "range"=none
 enumerate:mg "enumerate"=none
 reversed:mg "reversed"=none
 repr:mg "repr"=none
theorem rb{vs:List V}:start N vs=vs.map some++LF (N.length - vs.length) none:=rfl
def jJ(a:Addr)(H H':Hp):Prop:=∀b,b≠a->H' b=H b
def intOf:Expr->Option Int
 | .Constant (.int i) _ _=>some i
 |_=>none
theorem CG{e:Expr}{i:Int}(h:intOf e=some i):∃k pos,e= .Constant (.int i) k pos:=by
 unfold intOf at h;split at h
 .cases h;exact⟨_,_,rfl⟩
 .cases h
def mB(ks:List Int):TA:=λ_ H Q=>Q (ks.map V.int) H
theorem rf{X:Cx}:∀(ks:List Int) {es:List Expr},es.map intOf=ks.map some->PA X es (mB ks)
 | [],[],_=>lV
 |k::ks,e::es,h=>by
  simp only[LQ,Op] at h;obtain⟨n,p,rfl⟩:=CG h.1;have ih:=rf (X:=X) ks h.2;intro pos pins s σ H Q I q;exact lW (X:=X) pO ih rfl pos pins s σ H Q I q
 | [],_::_,h=>by simp at h
 |_::_,[],h=>by simp at h
mutual
def Dat(K:Frag)(H:Hp):PyData->V->Prop
 | .none,v=>v= .non
 | .bool b,v=>v= .bl b
 | .int i,v=>v= .int i
 | .str x,v=>v= .str x
 | .list ds,v=>∃a xs,v= .ref a/\SqL K H a xs/\bg K H ds xs
 | .tuple ds,v=>∃a xs,v= .ref a/\SqT K H a xs/\bg K H ds xs
 | .dict _,_=>False
def bg(K:Frag)(H:Hp):List PyData->List V->Prop
 | [],xs=>xs=[]
 |d::ds,xs=>∃x r,xs=x::r/\Dat K H d x/\bg K H ds r
end
theorem bg.nil:bg K H [] []:=by unfold bg;rfl
theorem bg.cons{d:PyData}{x:V}(a:Dat K H d x)(b:bg K H ds xs):bg K H (d::ds) (x::xs):=by unfold bg;exact⟨x,xs,rfl,a,b⟩
theorem Dat.i{K:Frag}{H:Hp}{i:Int}:Dat K H (.int i) (.int i):=by unfold Dat;rfl
theorem Dat.s:Dat K H (.str x) (.str x):=by unfold Dat;rfl
theorem Dat.b{x:Bool}:Dat K H (.bool x) (.bl x):=by unfold Dat;rfl
theorem Dat.n:Dat K H .none .non:=by unfold Dat;rfl
theorem Dat.tup(h:SqT K H a xs)(b:bg K H ds xs):Dat K H (.tuple ds) (.ref a):=by unfold Dat;exact⟨a,xs,rfl,h,b⟩
theorem Dat.lst(h:SqL K H a xs)(b:bg K H ds xs):Dat K H (.list ds) (.ref a):=by unfold Dat;exact⟨a,xs,rfl,h,b⟩
section
variable{s:Shared}
mutual
theorem Dat.reads(I:Inv X pins σ H s):∀{d:PyData} {v:V} {u:Value},Dat X.K H d v->RelV v u->∃as,Reads s.heap u d as
 | .none,v,u,h,r=>by unfold Dat at h;subst h;cases r;exact⟨_,.none⟩
 | .bool b,v,u,h,r=>by unfold Dat at h;subst h;cases r;exact⟨_,.bool b⟩
 | .int i,v,u,h,r=>by unfold Dat at h;subst h;obtain⟨t,rfl⟩:=r;exact⟨_,.int i t⟩
 | .str x,v,u,h,r=>by unfold Dat at h;subst h;obtain⟨t,rfl⟩:=r;exact⟨_,.str x t⟩
 | .list ds,v,u,h,r=>by
  unfold Dat at h;obtain⟨a,xs,rfl,hl,hd⟩:=h;cases r;obtain⟨its,r',pl,hz⟩:=I.list hl;obtain⟨as,q⟩:=bg.reads I hd r';obtain⟨o,ho,hc,n,hdt⟩:=pl.isList;exact⟨_,.list ho hc hdt (by simpa using q)⟩
 | .tuple ds,v,u,h,r=>by
  unfold Dat at h;obtain⟨a,xs,rfl,hl,hd⟩:=h;cases r;obtain⟨its,r',pl,hz⟩:=I.tuple hl;obtain⟨as,q⟩:=bg.reads I hd r';obtain⟨o,ho,hc,n,hdt⟩:=pl;exact⟨_,.tuple ho hc hdt (by simpa using q)⟩
 | .dict _,v,u,h,r=>by unfold Dat at h;exact h.elim
theorem bg.reads(I:Inv X pins σ H s):∀{ds:List PyData} {xs:List V} {us:List Value},bg X.K H ds xs->Vals xs us->∃as,ReadsAll s.heap us ds as
 | [],xs,us,h,r=>by unfold bg at h;subst h;cases r;exact⟨_,.nil⟩
 |d::ds,xs,us,h,r=>by
  unfold bg at h;obtain⟨x,rs,rfl,h1,h2⟩:=h;cases r with
  |cons ru rr =>
   obtain⟨as,q⟩:=Dat.reads I h1 ru;obtain⟨bs,q2⟩:=bg.reads I h2 rr;exact⟨_,.cons q q2⟩
end
end
structure cD(d:PyData):Prop where
 lay:d.canLay0=true
 deep:d.depth<=60
section
variable{k:Nat}
theorem CH(hr:aS cm k X.A):OpR X (compareOp .Eq) (λx y H Q=>∃d d',Dat X.K H d x/\Dat X.K H d' y/\cD d/\cD d'/\Q (.bl (PyData.eqv d d')) H):=by
 intro pins s σ H x y v u Q I rx ry h;obtain⟨d,d',h1,h2,o1,o2,q⟩:=h;obtain⟨as,r1⟩:=h1.reads I rx;obtain⟨bs,r2⟩:=h2.reads I ry;refine SeqAt.compareEq_reads r1 r2 o1.lay o2.lay ?_ ⟨.bl _,H,I,rfl,q⟩;have:=hr.units;have:=o1.deep;omega
theorem CI(hr:aS cm k X.A):OpR X (compareOp .NotEq) (λx y H Q=>∃d d',Dat X.K H d x/\Dat X.K H d' y/\cD d/\cD d'/\Q (.bl (!PyData.eqv d d')) H):=by
 intro pins s σ H x y v u Q I rx ry h;obtain⟨d,d',h1,h2,o1,o2,q⟩:=h;obtain⟨as,r1⟩:=h1.reads I rx;obtain⟨bs,r2⟩:=h2.reads I ry;refine SeqAt.compareNe_reads r1 r2 o1.lay o2.lay ?_ ⟨.bl _,H,I,rfl,q⟩;have:=hr.units;have:=o1.deep;omega
end
theorem all_range(bs:List Bool):(Mz bs.length).all (λi=>bs.getD i true)=bs.all id:=by
 rw[O3,Mp,Mp];constructor
 .intro h x hx;obtain⟨i,hi,e⟩:=Q2.mp hx;have:=h i (MS.mpr hi);rw[LI,L3 hi] at this;rw[<- e];exact this
 .intro h i hi;have hi':=MS.mp hi;rw[LI,L3 hi'];exact h _ (NU hi')
theorem any_range(bs:List Bool):(Mz bs.length).any (λi=>bs.getD i true)=bs.any id:=by
 rw[O3,Pk,Pk];constructor
 .rintro⟨i,hi,h⟩;have hi':=MS.mp hi;rw[LI,L3 hi'] at h;exact⟨_,NU hi',h⟩
 .rintro⟨x,hx,h⟩;obtain⟨i,hi,e⟩:=Q2.mp hx;refine⟨i,MS.mpr hi,?_⟩;rw[LI,L3 hi,e];exact h
theorem mC:∀{bs:List Bool} {us:List Value},Vals (bs.map V.bl) us->us=bs.map OH
 | [],_,.nil=>rfl
 |_::_,_,.cons r t=>by cases r;rw[mC t];rfl
section
theorem CJ(hc:X.calm=true):zQ X (.builtin "all") (λxs H Q=>∃(p:Addr) (bs:List Bool),xs=[.ref p]/\SqL X.K H p (bs.map V.bl)/\Q (.bl (bs.all id)) H):=by
 intro pins s σ H xs us Q I r h;obtain⟨p,bs,rfl,hl,q⟩:=h;obtain⟨u,rfl,rx⟩:=vals1 r;cases rx;obtain⟨its,r',pl,hz⟩:=I.list hl;have e:=mC r';subst e;refine call_all_walk (qW pl.isList λs₂ e2 st hne=>?_);subst e2;refine⟨_,_,_,_,_,_,λi=>bs.getD i true,rfl,Walks.list (A:=X.A.in1) (I.ok.hd hc) s.heap.objs.size p hne _,st,λi v s3 Q3 E3 hP hQ=>?_,λh' tk hk=>?_⟩
 .have hP':(bs.map OH)[i]? = some v:=by simpa using hP
  rw[L4] at hP';cases eb:bs[i]? with
  |none=>rw[eb] at hP';cases hP'
  |some b =>
   rw[eb] at hP';cases hP';refine Nb ?_;dsimp only at hQ;rw[LI,eb] at hQ;exact hQ
 .rw[Ly,L0,all_range];refine⟨.bl _,H,I.kept (λb o e=>hk b o (λz=>?_) (L5 _ e)),rfl,q⟩;rw[Lz] at z;exact absurd (z▸LB e) (Nc _)
theorem CK(hc:X.calm=true):zQ X (.builtin "any") (λxs H Q=>∃(p:Addr) (bs:List Bool),xs=[.ref p]/\SqL X.K H p (bs.map V.bl)/\Q (.bl (bs.any id)) H):=by
 intro pins s σ H xs us Q I r h;obtain⟨p,bs,rfl,hl,q⟩:=h;obtain⟨u,rfl,rx⟩:=vals1 r;cases rx;obtain⟨its,r',pl,hz⟩:=I.list hl;have e:=mC r';subst e;refine call_any_walk (qW pl.isList λs₂ e2 st hne=>?_);subst e2;refine⟨_,_,_,_,_,_,λi=>bs.getD i true,rfl,Walks.list (A:=X.A.in1) (I.ok.hd hc) s.heap.objs.size p hne _,st,λi v s3 Q3 E3 hP hQ=>?_,λh' tk hk=>?_⟩
 .have hP':(bs.map OH)[i]? = some v:=by simpa using hP
  rw[L4] at hP';cases eb:bs[i]? with
  |none=>rw[eb] at hP';cases hP'
  |some b =>
   rw[eb] at hP';cases hP';refine Nb ?_;dsimp only at hQ;rw[LI,eb] at hQ;exact hQ
 .rw[Ly,L0,any_range];refine⟨.bl _,H,I.kept (λb o e=>hk b o (λz=>?_) (L5 _ e)),rfl,q⟩;rw[Lz] at z;exact absurd (z▸LB e) (Nc _)
end
structure WE(X:Cx)(e:Expr)(t:TE):Prop where out:PE X e t
structure WT(X:Cx)(e:Expr)(t:TT):Prop where out:PT X e t
structure WW(X:Cx)(e:Expr)(t:TT):Prop where out:PW X e t
structure WA(X:Cx)(es:List Expr)(t:TA):Prop where out:PA X es t
structure WS(X:Cx)(s:Stmt)(t:TS):Prop where out:PS X s t
structure WSs(X:Cx)(s:List Stmt)(t:TS):Prop where out:PSs X s t
structure WG(X:Cx)(e:Expr)(t:TG):Prop where out:PG X e t
structure WGs(X:Cx)(e:List Expr)(t:TGs):Prop where out:PGs X e t
structure WI(X:Cx)(tg e:Expr)(t:TI):Prop where out:PI X tg e t
structure WTs(X:Cx)(e:List Expr)(t:TT):Prop where out:PTs X e t
structure WK(X:Cx)(e:List Keyword)(t:TA):Prop where out:PK X e t
structure WO(X:Cx)(e:Option Expr)(t:TO):Prop where out:PO X e t
section
variable{a b c e o:Expr}{rest:List Expr}{ta tb tc to:TE}{t u:TT}{p apos cpos p2:Pos}{tA:TA}
theorem qv(i:Nat)(hN:X.N[i]? = some x:=by rfl)(hv:Vis X.env.scope x:=by first|exact MP rfl|exact Sy (MP rfl)|exact Sy (Sy rfl))(hd:(x==("__debug__":Str))=false:=by decide)
  (hcd:(x==("__classdict__":Str))=false:=by decide):WE X (.Name x pos) (av i):=⟨Ar hN hv hd hcd⟩
theorem zf{i j pos}:WE X (.Constant (.int i) j pos) (tC (.int i)):=⟨pO⟩
theorem mD{b j pos}:WE X (.Constant (.bool b) j pos) (tC (.bl b)):=⟨As⟩
theorem CL{j pos}:WE X (.Constant .none j pos) (tC .non):=⟨At⟩
theorem cE{x j pos}:WE X (.Constant (.str x) j pos) (tC (.str x)):=⟨Au⟩
theorem cF{v:V}{u:Value}(hg:Gl X x)(hm:X.mg x=some u)(r:RelV v u)(hd:(x==("__debug__":Str))=false:=by decide):WE X (.Name x pos) (tC v):=⟨Av hg hm r hd⟩
theorem gr{v:V}{u:Value}(hg:Gl X x)(hm:X.mg x=none)(hv:bootBuiltins x=some u)(r:RelV v u)(hn:x≠"__name__":=by decide)(hd:(x==("__debug__":Str))=false:=by decide):WE X (.Name x pos) (tC v):=⟨Aw hg hm hv r hn hd⟩
theorem zW{op:Operator}(ho:OpR X (binaryOp op) r)(ha:WE X a ta)(hb:WE X b tb):WE X (.BinOp a op b pos) (tOp r ta tb):=⟨A1 ho ha.out hb.out⟩
theorem eP{op:UnaryOp}{r:V->Hp->VK->Prop}(ho:UnR X (unaryOp op) r)(ha:WE X a ta):WE X (.UnaryOp op a pos) (tUn r ta):=⟨A4 ho ha.out⟩
theorem jK(ho:OpR X (compareOp op) r)(ha:WE X a ta)(hb:WE X b tb)(hm:behindInMarks op b=false):WE X (.Compare a [op] [b] pos) (tOp r ta tb):=⟨A8 ho ha.out hb.out hm⟩
theorem zH(ho:OpR X (compareOp op) r)(ha:WE X a ta)(hb:WE X b tb)(hm:behindInMarks op b=false):WT X (.Compare a [op] [b] pos) (fu (tOp r ta tb)):=⟨A9 ho ha.out hb.out hm⟩
theorem CM{op':CmpOp}{r':R2}(ho:OpR X (compareOp op) r)(ho':OpR X (compareOp op') r')(ha:WE X a ta)(hb:WE X b tb)(hc:WE X c tc)(hm:lastMarks [op,op'] [b,c]=false:=by with_unfolding_all rfl):WE X (.Compare a [op,op'] [b,c] pos) (h_ r r' ta tb tc):=⟨A_ ho ho' ha.out hb.out hc.out hm⟩
theorem rg{op':CmpOp}{r':R2}(ho:OpR X (compareOp op) r)(ho':OpR X (compareOp op') r')(ha:WE X a ta)(hb:WE X b tb)(hc:WE X c tc)(hm:lastMarks [op,op'] [b,c]=false:=by with_unfolding_all rfl):WT X (.Compare a [op,op'] [b,c] pos) (fu (h_ r r' ta tb tc)):=⟨Ba ho ho' ha.out hb.out hc.out hm⟩
theorem gu{t:TE}(h:WE X e t)(he:∀whole,isTrue e X.env whole=(do let v<-whole;standAt e.pos;holding [v] (truthy v)):=by intro _;rfl):WT X e (tB t):=⟨Ax h.out he⟩
theorem rh(ha:WT X a t):WW X (.BoolOp .And [a] pos) t:=⟨Ay ha.out⟩
theorem fG(ha:WT X a t):WW X (.BoolOp .Or [a] pos) t:=⟨Az ha.out⟩
theorem rj(ha:WT X a t)(hb:WW X (.BoolOp .And (b::rest) pos) u):WW X (.BoolOp .And (a::b::rest) pos) (lE t u):=⟨AA ha.out hb.out⟩
theorem eQ(ha:WT X a t)(hb:WW X (.BoolOp .Or (b::rest) pos) u):WW X (.BoolOp .Or (a::b::rest) pos) (tOr t u):=⟨AB ha.out hb.out⟩
theorem WW.qt(h:WW X e t):WT X e t:=⟨h.out.pt⟩
theorem fH(ha:WT X a t):WT X (.UnaryOp .Not a pos) (lF t):=⟨AC ha.out⟩
theorem iu{op}{t:TE}(h:WE X a t):WE X (.BoolOp op [a] pos) t:=⟨AD h.out⟩
theorem gv(ha:WE X a ta)(hb:WE X (.BoolOp .And (b::rest) pos) tb):WE X (.BoolOp .And (a::b::rest) pos) (lG ta tb):=⟨AE ha.out hb.out⟩
theorem rk(ha:WE X a ta):WE X (.UnaryOp .Not a pos) (lH ta):=⟨AF ha.out⟩
theorem dq:WA X [] bL:=⟨lV⟩
theorem zu(ha:WE X e te)(hr:WA X es tA)(hs:starEach (e::es) X.env=(false,eval e X.env)::starEach es X.env:=by rfl):WA X (e::es) (cA te tA):=⟨lW ha.out hr.out hs⟩
theorem rl(ks:List Int)(h:es.map intOf=ks.map some):WA X es (mB ks):=⟨rf ks h⟩
theorem eR{x1}(h:WA X es tA):WE X (.Tuple es x1 pos) (lX tA):=⟨Br h.out⟩
theorem bM(h:WA X es tA):WE X (.List es pos) (jy tA):=⟨Bs h.out⟩
theorem cG(hr:IxR X r)(ha:WE X a ta)(hb:WE X b tb)(hs:l_ b):WE X (.Subscript a b pos) (tOp r ta tb):=⟨BN hr ha.out hb.out hs⟩
theorem fJ:WO X none l5:=⟨BI⟩
theorem cu(h:WE X e te):WO X (some e) (l6 te):=⟨BJ h.out⟩
theorem fK{lo hi:Option Expr}{tl th:TO}{r:V->Option Int->Option Int->Hp->VK->Prop}(hr:SlR X r)(he:WE X e te)(hl:WO X lo tl)(hu:WO X hi th):WE X (.Subscript e (.Slice lo hi none p2) pos) (tSl r te tl th):=⟨BK hr he.out hl.out hu.out⟩
theorem zB{id:String}{r:List V->Hp->VK->Prop}(hc:zQ X (.builtin id) r)(hg:Gl X x)(hm:X.mg x=none)(hv:bootBuiltins x=some (.builtin id))(ha:WA X (e::es) tA)(hn:x≠"__name__":=by decide)(hdb:(x==("__debug__":Str))=false:=by decide)
  (he:starEach (e::es) X.env=(false,eval e X.env)::starEach es X.env:=by rfl)(hpl:(backTo pos (starEach es X.env)).any (·.1)=false:=by rfl):WE X (.Call (.Name x p) (e::es) [] pos) (tCB r tA):=⟨Bz hc hg hm hv ha.out hn hdb he hpl⟩
theorem dr{r:List V->Hp->VK->Prop}(hc:zQ X (.type T) r)(hg:Gl X x)(hm:X.mg x=none)(hv:bootBuiltins x=some (.type T))(ha:WA X (e::es) tA)(hn:x≠"__name__":=by decide)(hdb:(x==("__debug__":Str))=false:=by decide)
  (he:starEach (e::es) X.env=(false,eval e X.env)::starEach es X.env:=by rfl)(hpl:(backTo pos (starEach es X.env)).any (·.1)=false:=by rfl):WE X (.Call (.Name x p) (e::es) [] pos) (tCB r tA):=⟨BA hc hg hm hv ha.out hn hdb he hpl⟩
theorem zq{k:Nat}{E:XK}(h:Has X.prog X.w X.K X.mg X.base CX x j ps sp)(hr:bf k X.A)(ha:WA X (e::es) tA)(hj:j<=k:=by decide)(hg:Gl X x:=by rfl)(hx:cq CX X E:=by exact fD)(hdb:(x==("__debug__":Str))=false:=by decide)
  (he:starEach (e::es) X.env=(false,eval e X.env)::starEach es X.env:=by rfl)(hpl:(backTo pos (starEach es X.env)).any (·.1)=false:=by rfl):WE X (.Call (.Name x p) (e::es) [] pos) (ib sp [] E tA):=⟨CA h hr ha.out hj hg hx hdb he hpl⟩
theorem ca:WK X [] bL:=⟨Bv⟩
theorem gw{nm:Option Str}{kpos:Pos}{kws:List Keyword}{tk:TA}(ha:WE X e te)(hr:WK X kws tk):WK X (⟨nm,e,kpos⟩::kws) (cA te tk):=⟨Bw ha.out hr.out⟩
structure mE(P:Program)(w:World)(K:Frag)(mg:Str->Option Value)(base:Heap)(CX:CXT)(x:Str)(k:Nat)(ps:List Str)(sp:Sp)(ks:List Str)(gV:List V->List V->List V):Prop where
 ex:∃f fd g,zX P w K mg base CX k f fd ps sp/\cW K fd ps ks g gV/\keepIn K (.ref f)=true/\mg x=some (.ref f)
theorem CN{k:Nat}{ks:List Str}{E:XK}{gV:List V->List V->List V}{kws:List Keyword}{tk:TA}(h:mE X.prog X.w X.K X.mg X.base CX x j ps sp ks gV)(hr:bf k X.A)(ha:WA X (e::es) tA)(hkw:WK X kws tk)(hj:j<=k:=by decide)(hg:Gl X x:=by rfl)(hx:cq CX X E:=by exact fD)
  (hall:(backToKw pos (keywordEach kws X.env)).all (·.1.isSome)=true:=by rfl)(hks:(backToKw pos (keywordEach kws X.env)).filterMap (·.1)=ks:=by rfl)
  (hdb:(x==("__debug__":Str))=false:=by decide)(he:starEach (e::es) X.env=(false,eval e X.env)::starEach es X.env:=by rfl)
  (hpl:((backTo pos (starEach (e::es) X.env)).any (·.1)||(backToKw pos (keywordEach kws X.env)).any (·.1.isNone))=false:=by rfl):WE X (.Call (.Name x p) (e::es) kws pos) (lY sp gV E tA tk):=by
 obtain⟨f,fd,g,F,b,kp,m⟩:=h.ex;exact⟨Bx (F.mono hj) hr hg m kp b hx ha.out hkw.out hall hks hdb he hpl⟩
theorem CO{f:Str}(he:WE X e ta)(hb:attributeBase e f X.env (eval e X.env)=eval e X.env):WE X (.Attribute e f pos) (jw X.K ta f):=⟨Bl he.out hb⟩
theorem CP{name:Str}{id:String}{r:V->List V->Hp->VK->Prop}(pa:PlainAttrs T)(slot:Slot T name id)(hty:typeOf (.builtin id)=pure (.type "method_descriptor"))(hm:MtR X id r)(ho:WE X o to)(ha:WA X (e::es) tA)
  (hbase:attributeBase o name X.env (eval o X.env)=eval o X.env:=by rfl)
  (hfew:((backTo cpos (starEach (e::es) X.env)).all (λx=> !x.1)&&(backToKw cpos (keywordEach [] X.env)).all (λx=>x.1.isSome)&&decide ((e::es).length+([]:List Keyword).length+(if ([]:List Keyword).isEmpty then 0 else 1) < 30))=true:=by rfl)
  (hline:(apos.endLine==cpos.line)=true:=by rfl)(hs:starEach (e::es) X.env=(false,eval e X.env)::starEach es X.env:=by rfl)(hplain:(backTo cpos (starEach es X.env)).any (·.1)=false:=by rfl) :
  WE X (.Call (.Attribute o name apos) (e::es) [] cpos) (tBM X.K T r to tA):=⟨B2 pa slot hty hm ho.out ha.out hbase hfew hline hs hplain⟩
variable{sts:List Stmt}{ts us:TS}
theorem zK:WSs X [] lI:=⟨AH⟩
theorem zc(h1:WS X st ts)(h2:WSs X sts us):WSs X (st::sts) (dh ts us):=⟨AI h1.out h2.out⟩
theorem zg(h1:WS X st ts):WSs X [st] ts:=⟨AJ h1.out⟩
theorem zZ:WS X st lK:=⟨AN⟩
theorem zN(he:WE X e te)(hs:swapsWith e none pos.line X.env=pure false:=by rfl):WS X (.Expr e pos) (lJ te):=⟨AK he.out hs⟩
theorem aq(he:WE X e te):WS X (.Return (some e) pos) (fm te):=⟨AL he.out⟩
theorem ag{ba bb:List Stmt}(hc:WT X c t)(ha:WSs X ba ts)(hb:WSs X bb us):WS X (.If c ba bb pos) (jq t ts us):=⟨AM hc.out ha.out hb.out⟩
theorem bT{body:List Stmt}(hp:PassesOwn (model X.prog X.w) X.A X.env X.xe)(hc:X.calm=true)(hi:WI X tg iter wi)(hg:WG X tg g)(hb:WSs X body ts)
  (hs:∀x,foldedSetIterable iter X.env x=pure x:=by intro _;rfl):WS X (.For tg iter body [] pos) (lP wi g ts):=⟨A0 hp hc hi.out hg.out hb.out hs⟩
theorem zT{i:Nat}(hN:X.N.Nodup)(hi:X.N[i]? = some x)(hx:Loc X.env.scope x)(hf:X.fn x=true\/X.env.scope.names.lookup x=some .local:=by first|exact .inl rfl|exact .inr rfl|assumption):WG X (.Name x pos) (cz i):=⟨AO hN hi hx hf⟩
theorem fL:WGs X [] lM:=⟨AQ⟩
theorem bz(h1:WG X e g)(h2:WGs X es gs)(hs:(assignEach (e::es) X.env).map (·.2)=assign e X.env::(assignEach es X.env).map (·.2):=by rfl):WGs X (e::es) (lN g gs):=⟨AR h1.out h2.out hs⟩
theorem CQ{k:Nat}{n:Nat}(hc:X.calm=true)(h:WGs X es gs)(hn:(assignEach es X.env).length=n:=by rfl)(hst:(assignEach es X.env).findIdx? (·.1)=none:=by rfl):WG X (.Tuple es k pos) (js X.K n gs):=⟨pP hc h.out hn hst⟩
theorem jL{i:Expr}{ti:TE}{tS:jr}(ho:WE X o to)(hi:WE X i ti)(hs:lL X tS)
  (ha:∀v,assign (.Subscript o i pos) X.env v=(do
    let ov<-holding [v] (eval o X.env)
    let iv<-holding [v,ov] (eval i X.env)
    standAt pos
    holding [v,ov,iv] (setItem ov iv v)
    release [v,ov,iv] []):=by intro _;rfl):WG X (.Subscript o i pos) (eK to ti tS):=⟨AS ho.out hi.out hs ha⟩
theorem iw(he:WE X e te)(hg:WG X tg g)(hs:swapsWithSole [tg] e pos.line X.env=pure false:=by rfl)(hw:swappedStores [tg] e X.env=pure none:=by rfl)(h1:(assignEach [tg] X.env).map (·.2)=[assign tg X.env]:=by rfl):WS X (.Assign [tg] e pos) (bt te g):=⟨AT he.out hg.out hs hw h1⟩
theorem jM{i:Nat}(hN:X.N.Nodup)(hi:X.N[i]? = some x)(hx:Loc X.env.scope x)(he:WE X e te)(hs:swapsWith e (some (.Name x pos')) pos.line X.env=pure false:=by rfl)
  (hf:X.fn x=true\/X.env.scope.names.lookup x=some .local:=by first|exact .inl rfl|exact .inr rfl|assumption):WS X (.Assign [.Name x pos'] e pos) (bt te (cz i)):=⟨AU hN hi hx he.out hs hf⟩
theorem CS{value:Expr}{tv:TE}{f:Str}(ha:WE X o ta)(hv:WE X value tv)(hs:swapsWith value (some (.Attribute o f pos')) pos.line X.env=pure false):WS X (.Assign [.Attribute o f pos'] value pos) (jx X.K ta tv f):=⟨Bm ha.out hv.out hs⟩
theorem eS(hg:Gl X "range")(hm:X.mg "range"=none)(ha:WA X [a] tA)(hs:starEach [a] X.env=[(false,eval a X.env)]:=by rfl):WI X tg (.Call (.Name "range" p) [a] [] pos) (lO tA):=⟨AZ hg hm ha.out hs⟩
theorem a8:WTs X [] mw:=⟨Cq⟩
theorem jN(h:WT X c t):WTs X [c] t:=⟨Cr h.out⟩
theorem cb{tc:TT}(own free:List Str)(fr:List Nat)(S:b9 X scope)(hc:X.calm=true)(hfr:fr.map (λj=>X.N[j]?)=free.map some)(hff:∀x∈free,scope.names.lookup x=some .free)
  (hi:WI X tg iter wi)(hg:∀C s H ex,WG (zy X (own++free) scope C s H ex) tg g)(ht:∀C s H ex,WTs (zy X (own++free) scope C s H ex) ifs tc)(he:∀C s H ex,WE (zy X (own++free) scope C s H ex) elt te)
  (hs:∀x,foldedSetIterable iter X.env x=pure x:=by intro _;rfl):WE X (.ListComp elt [⟨tg,iter,ifs,0⟩] scope pos) (im own fr wi g tc te) :=
 ⟨Cu own free fr S hc hfr hff hi.out (λC s H ex=>(hg C s H ex).out) (λC s H ex=>(ht C s H ex).out) (λC s H ex=>(he C s H ex).out) hs⟩
theorem fM{tc:TT}{i:Nat}{spos:Pos}(own free:List Str)(fr:List Nat)(hN:X.N.Nodup)(hx:X.N[i]? = some x)(hl:X.env.scope.names.lookup x=some .local)
  (S:b9 X scope)(hc:X.calm=true)(hfr:fr.map (λj=>X.N[j]?)=free.map some)(hff:∀x∈free,scope.names.lookup x=some .free)
  (hi:WI X tg iter wi)(hg:∀C s H ex,WG (zy X (own++free) scope C s H ex) tg g)(ht:∀C s H ex,WTs (zy X (own++free) scope C s H ex) ifs tc)(he:∀C s H ex,WE (zy X (own++free) scope C s H ex) elt te)
  (hsw:swapsWith (.ListComp elt [⟨tg,iter,ifs,0⟩] scope pos) (some (.Name x pos')) spos.line X.env=pure true:=by rfl)
  (hs:∀x,foldedSetIterable iter X.env x=pure x:=by intro _;rfl):WS X (.Assign [.Name x pos'] (.ListComp elt [⟨tg,iter,ifs,0⟩] scope pos) spos) (bt (im own fr wi g tc te) (cz i)) :=
 ⟨Cv own free fr hN hx hl S hc hfr hff hi.out (λC s H ex=>(hg C s H ex).out) (λC s H ex=>(ht C s H ex).out) (λC s H ex=>(he C s H ex).out) hsw hs⟩
end
section
variable(K:Frag)
theorem c6(h:X.K=K:=by rfl):IxR X (cX K):=h▸qC
theorem CT(h:X.K=K:=by rfl):SlR X (ma K):=h▸qD
theorem CU(h:X.K=K:=by rfl):OpR X (compareOp .In) (rIn K false):=h▸BW
theorem CV(h:X.K=K:=by rfl):OpR X (compareOp .NotIn) (rIn K true):=h▸BX
theorem CW(h:X.K=K:=by rfl):zQ X (.builtin "len") (λxs H Q=>∃p ys,xs=[.ref p]/\(SqL K H p ys\/SqT K H p ys)/\Q (.int ys.length) H):=h▸qF
theorem rn(h:X.K=K:=by rfl):zQ X (.type "list") (λxs H Q=>∃p ys,xs=[.ref p]/\(SqL K H p ys\/SqT K H p ys)/\∀l,H l=none->Q (.ref l) (upd H l (.lst ys))):=h▸BZ
theorem CY(h:X.K=K:=by rfl):zQ X (.type "tuple") (λxs H Q=>∃p ys,xs=[.ref p]/\((SqL K H p ys/\∀l,H l=none->Q (.ref l) (upd H l (.tup ys)))\/(SqT K H p ys/\Q (.ref p) H))):=h▸B0
theorem CZ(hc:X.calm=true)(h:X.K=K:=by rfl):zQ X (.builtin "max") (λxs H Q=>∃p ns,xs=[.ref p]/\SqL K H p (ns.map V.int)/\ns≠[]/\∀M∈ns,(∀a∈ns,a<=M)->Q (.int M) H):=h▸Cw hc
theorem C1(hc:X.calm=true)(h:X.K=K:=by rfl):zQ X (.builtin "min") (λxs H Q=>∃p ns,xs=[.ref p]/\SqL K H p (ns.map V.int)/\ns≠[]/\∀M∈ns,(∀a∈ns,M<=a)->Q (.int M) H):=h▸Cy hc
theorem C2(hc:X.calm=true)(h:X.K=K:=by rfl):zQ X (.builtin "all") (λxs H Q=>∃(p:Addr) (bs:List Bool),xs=[.ref p]/\SqL K H p (bs.map V.bl)/\Q (.bl (bs.all id)) H):=h▸CJ hc
theorem C3(hc:X.calm=true)(h:X.K=K:=by rfl):zQ X (.builtin "any") (λxs H Q=>∃(p:Addr) (bs:List Bool),xs=[.ref p]/\SqL K H p (bs.map V.bl)/\Q (.bl (bs.any id)) H):=h▸CK hc
theorem C4(h:X.K=K:=by rfl):zQ X (.builtin "isinstance") (λxs H Q=>∃x c t b,xs=[x,c]/\bK K H x t/\(∀u,RelV c u->kitOne K t u=some b)/\Q (.bl b) H):=h▸Cz
theorem C5{k:Nat}(hr:aS cm k X.A)(h:X.K=K:=by rfl):OpR X (compareOp .Eq) (λx y H Q=>∃d d',Dat K H d x/\Dat K H d' y/\cD d/\cD d'/\Q (.bl (PyData.eqv d d')) H):=h▸CH hr
theorem C6{k:Nat}(hr:aS cm k X.A)(h:X.K=K:=by rfl):OpR X (compareOp .NotEq) (λx y H Q=>∃d d',Dat K H d x/\Dat K H d' y/\cD d/\cD d'/\Q (.bl (!PyData.eqv d d')) H):=h▸CI hr
variable{a e o:Expr}{ta to:TE}{tA:TA}{apos cpos:Pos}
theorem gx{k:Nat}{n:Nat}(hc:X.calm=true)(hg:WGs X es gs)(h:X.K=K:=by rfl)(hn:(assignEach es X.env).length=n:=by rfl)(hst:(assignEach es X.env).findIdx? (·.1)=none:=by rfl):WG X (.Tuple es k pos) (js K n gs):=h▸CQ hc hg hn hst
theorem aM{f:Str}(he:WE X e ta)(h:X.K=K:=by rfl)(hb:attributeBase e f X.env (eval e X.env)=eval e X.env:=by rfl):WE X (.Attribute e f pos) (jw K ta f):=h▸CO he hb
theorem eT{value:Expr}{tv:TE}{f:Str}(ha:WE X o ta)(hv:WE X value tv)(h:X.K=K:=by rfl)(hs:swapsWith value (some (.Attribute o f pos')) pos.line X.env=pure false:=by rfl):WS X (.Assign [.Attribute o f pos'] value pos) (jx K ta tv f):=h▸CS ha hv hs
theorem cH{name:Str}{id:String}{r:V->List V->Hp->VK->Prop}(pa:PlainAttrs T)(slot:Slot T name id)(hty:typeOf (.builtin id)=pure (.type "method_descriptor"))(hm:MtR X id r)(ho:WE X o to)(ha:WA X (e::es) tA)(h:X.K=K:=by rfl)
  (hbase:attributeBase o name X.env (eval o X.env)=eval o X.env:=by rfl)
  (hfew:((backTo cpos (starEach (e::es) X.env)).all (λx=> !x.1)&&(backToKw cpos (keywordEach [] X.env)).all (λx=>x.1.isSome)&&decide ((e::es).length+([]:List Keyword).length+(if ([]:List Keyword).isEmpty then 0 else 1) < 30))=true:=by rfl)
  (hline:(apos.endLine==cpos.line)=true:=by rfl)(hs:starEach (e::es) X.env=(false,eval e X.env)::starEach es X.env:=by rfl)(hplain:(backTo cpos (starEach es X.env)).any (·.1)=false:=by rfl) :
  WE X (.Call (.Attribute o name apos) (e::es) [] cpos) (tBM K T r to tA):=h▸CP pa slot hty hm ho ha hbase hfew hline hs hplain
end
def cv:Value->Option Int
 | .int i _=>some i
 |_=>none
theorem du{u:Value}{i:Int}(h:cv u=some i):RelV (.int i) u:=by
 cases u<;>simp[cv] at h
 subst h;exact⟨_,rfl⟩
def iy:List Value->Option (List Int)
 | []=>some []
 |v::r=>match cv v,iy r with
  |some i,some l=>some (i::l)
  |_,_=>none
theorem rp:∀{us:List Value} {ns:List Int},iy us=some ns->Vals (ns.map V.int) us
 | [],ns,h=>by cases h;exact .nil
 |u::us,ns,h=>by
  unfold iy at h;cases e1:cv u with
  |none=>rw[e1] at h;cases h
  |some i =>
   cases e2:iy us with
   |none=>rw[e1,e2] at h;cases h
   |some l =>
    rw[e1,e2] at h;cases h;exact .cons (du e1) (rp e2)
def jO(o:Obj):Option (List Int):=match o.cls,o.data with
 | .type "tuple",.seq its _=>if its.size<=1000 then iy its.toList else none
 |_,_=>none
theorem rq{o:Obj}{ns:List Int}(l:K.lookup a=some o)(h:jO o=some ns)(H:Hp):SqT K H a (ns.map V.int):=by
 unfold jO at h;split at h
 .rename_i its n hc hd;split at h
  .rename_i hz;exact .inr ⟨o,its,n,l,hc,hd,M6 hz (by decide),rp h⟩
  .cases h
 .cases h
section
variable{P:Program}{mg:Str->Option Value}{base:Heap}
theorem Fun.okq{k:Nat}(F:Fun K x qual st f fd)(S:zG N ps (zr st))(len:∀vs H Q E,sp vs H Q E->vs.length=ps.length)
  (hbody:∀(cdv:Value) (A:Around) (outer:List Env) (s:Shared) (H:Hp) (vs:List V) (Q:VK) (E:XK),bf k (A.deeper (envOfC qual (zr st) s.heap.objs.size f cdv))->sp vs H Q E ->
   ∃t,WSs (dR CX0 P w K mg base N qual (zr st) f cdv A outer s H E).nox (dW st) t/\t {nx:=λ_ H'=>Q .non H',rt:=Q} (start N vs) H):zX P w K mg base CX0 (k+1) f fd ps sp :=
 F.ok S len λcdv A outer s H vs Q E hr h=>by
  obtain⟨t,ht,q⟩:=hbody cdv A outer s H vs Q E hr h;exact⟨t,ht.out,q⟩
end
section
end
theorem C7(h:x.cps.toList=y.cps.toList):x=y:=by
 cases x;cases y;simp only[Pu];exact NV.mp h
theorem jP:∀{ys:List Str} {us:List Value},Vals (ys.map V.str) us->StrsAre us ys
 | [],_,.nil=> .nil
 |_::_,_,.cons ⟨t,rfl⟩ r=> .cons _ _ (jP r)
theorem rA(sep:Str):∀(rest:List Str) (x:Str),(⟨rest.foldl (λacc p=>acc++sep.cps++p.cps) x.cps⟩:Str)=NM sep (x::rest)
 | [],x=>rfl
 |y::r,x=>by
  have ih:=rA sep r ⟨x.cps++sep.cps++y.cps⟩;show(⟨r.foldl (λacc p=>acc++sep.cps++p.cps) (x.cps++sep.cps++y.cps)⟩:Str)=x++sep++NM sep (y::r);rw[ih];cases r with
  |nil=>rfl
  |cons z r' =>
   show(⟨x.cps++sep.cps++y.cps⟩:Str)++sep++NM sep (z::r')=x++sep++(y++sep++NM sep (z::r'));apply C7;have e:∀a b:Str,(a++b).cps.toList=a.cps.toList++b.cps.toList:=λa b=>by
    show(a.cps++b.cps).toList=_;simp
   simp only[e,Array.toList_append,M7]
theorem rB(sep:Str):∀parts,OA sep parts=NM sep parts
 | []=>rfl
 |x::r=>rA sep r x
def iz(ys:List Str):Nat:=(ys.map (·.length)).sum+ys.length
section
variable(K:Frag)
theorem C8(h:X.K=K:=by rfl):MtR X "str.join" (λx xs H Q=>∃sep p ys,x= .str sep/\xs=[.ref p]/\(SqL K H p (ys.map V.str)\/SqT K H p (ys.map V.str))/\sep.length<=16/\iz ys<=1048576/\Q (.str (NM sep ys)) H):=by
 subst h;intro pins s σ H x xs v us Q I rx r h;obtain⟨sep,p,ys,rfl,rfl,hl,h1,h2,q⟩:=h;obtain⟨t,rfl⟩:=rx;obtain⟨u,rfl,ru⟩:=vals1 r;cases ru;rcases hl with hl|hl
 .obtain⟨its,r',pl,hz⟩:=I.list hl;refine join_listW pl.isList (by simpa using jP r') h1 h2 λt' k=>⟨.str _,H,I.tok k,⟨t',?_⟩,q⟩
  show NA (OA sep ys) t'=_;rw[rB]
 .obtain⟨its,r',pl,hz⟩:=I.tuple hl;refine join_tupleW pl (by simpa using jP r') h1 h2 λt' k=>⟨.str _,H,I.tok k,⟨t',?_⟩,q⟩
  show NA (OA sep ys) t'=_;rw[rB]
end
section
theorem C9:OpR X (binaryOp .Mult) (λx y H Q=>∃c n,x= .str ⟨#[c]⟩/\y= .int n/\0<=n/\n<=1000/\∀z:Str,z.cps.toList=LF n.toNat c->Q (.str z) H):=by
 intro pins s σ H x y v u Q I rx ry h;obtain⟨c,n,rfl,rfl,h0,h1,q⟩:=h;obtain⟨t,rfl⟩:=rx;obtain⟨t',rfl⟩:=ry;refine SB.mul ⟨?_,?_,?_⟩ λt' k=>⟨.str _,H,I.tok k,⟨t',rfl⟩,q _ (mul_one_list c n)⟩
 .rw[decide_eq_false (by omega),decide_eq_false (by omega)];rfl
 .intro a _;have e:(⟨#[c]⟩:Str).length=1:=rfl;rw[e];have:1<=(2^63 - 1) / n:=Int.le_ediv_of_mul_le (by omega) (by omega);omega
 .intro a _;have e:(⟨#[c]⟩:Str).length=1:=rfl;rw[e];unfold S6;simp only[Nat.one_mul,decide_eq_false_iff_not];have:n.toNat<=1000:=by omega
  first
   |omega
   | (intro z;have:=LS z this;revert this;decide)
end
theorem rC:∀ys:List Str,(NM Mv ys).cps.toList=(ys.map λy=>y.cps.toList).flatten
 | []=>rfl
 | [y]=>by simp[NM]
 |y::z::r=>by
  have ih:=rC (z::r);show((y++Mv++NM Mv (z::r):Str)).cps.toList=_;have e:∀a b:Str,(a++b).cps.toList=a.cps.toList++b.cps.toList:=λa b=>by
   show(a.cps++b.cps).toList=_;simp
  rw[e,e,ih];simp[Mv]
theorem C_(h:x.cps.toList=y.cps.toList):x=y:=by
 cases x;cases y;simp only[Pu];exact NV.mp h
def iA(H:Hp)(a l:Addr):Prop:=∃(ns:List Int) (i b c:Int),H a=some (.lst [.ref l,.int i,.int b,.int c])/\H l=some (.lst (ns.map V.int))/\0<=i/\0<=b/\a≠l
def mF:Sp:=λvs H Q _=>∃(a l:Addr) (many:Int),vs=[.ref a,.int many]/\iA H a l/\0 < many/\many < 2^250/\∀v H',0<=v->v < many->iA H' a l->jJ a H H'->Q (.int v) H'
def mG(K:Frag):Sp:=λvs H Q _=>∃(a:Addr) (ns:List Int),vs=[.ref a]/\SqL K H a (ns.map V.int)/\∀(r l:Addr) (H':Hp),H r=none->H l=none->iA H' r l->cZ H H'->Q (.ref r) H'
theorem rD(x:Str):∀xs:List Str,inV (.str x) (xs.map V.str)=decide (x∈xs)
 | []=>by simp[inV]
 |y::r=>by
  have ih:=rD x r;unfold inV at ih ⊢;rw[LQ,Nz,ih];show((y==x)||decide (x∈r))=decide (x∈y::r);by_cases h:y=x
  .subst h;simp
  .have h':¬ x=y:=λe=>h e.symm
   simp[h,h']
structure Nm(x:Str):Prop where
 l1:1<=x.cps.toList.length
 l8:x.cps.toList.length<=8
 az:∀c∈x.cps.toList,97<=c/\c<=122
structure LR where
 a:Addr
 sa:Addr
 ea:Addr
 nm:Str
 S:List Str
 E:List Str
 w:Int
section
variable{κ:Addr->Nat}{H':Hp}{s l na la:Addr}{ls:List LR}
end
variable{ls ls':List LR}
def cI(one:Str)(bd:List Str)(r:LR):Bool:= !decide (r.nm∈bd)&&(decide (one∈r.S)||decide (r.S.length < 6))
def dv(two:Str)(r:LR):Bool:=decide (two∈r.E)||decide (r.E.length < 6)
def aN(x:Str)(S:List Str):List Str:=if x∈S then S else S++[x]
inductive iB(one two:Str)(bd:List Str)(ns:List Str)(ls:List LR)(x:Str):List Str->List LR->Prop
 |new (pa ps pe:Addr) (w:Int):x∉ns->Nm x->ls.length < 14->0<=w->w < 4->iB one two bd ns ls x (ns++[x]) (ls++[⟨pa,ps,pe,x,[one],[two],w⟩])
 |old (i:Nat) (r:LR):ls[i]? = some r->r.nm=x->cI one bd r=true->dv two r=true->iB one two bd ns ls x ns (ls.set i {r with S:=aN one r.S,E:=aN two r.E})
theorem eU:y∈aN x S↔y∈S\/y=x:=by
 unfold aN;split
 .exact⟨.inl,λh=>h.elim id (λe=>by rw[e];assumption)⟩
 .rw[LX,Lz]
theorem rE(h:S.Nodup):(aN x S).Nodup:=by
 unfold aN;split
 .exact h
 .rename_i c;exact LK.mpr ⟨h,by simp,λa ha b hb e=>by rw[Lz.mp hb] at e;exact c (e▸ha)⟩
theorem rF:(aN x S).length<=S.length+1:=by
 unfold aN;split
 .omega
 .rw[LG];exact Lx _
theorem rG(h:x∈S\/S.length < 6)(h6:S.length<=6):(aN x S).length<=6:=by
 unfold aN;split
 .omega
 .rw[LG];rcases h with h|h
  .contradiction
  .show S.length+1<=6;omega
def wide(r:LR):Nat:=max r.S.length r.E.length
def dy(ls:List LR):Nat:=(ls.map wide).sum
structure Da(ho ga:List Str)(r:LR):Prop where
 sn:r.S.Nodup
 en:r.E.Nodup
 s0:r.S≠[]
 e0:r.E≠[]
 s6:r.S.length<=6
 e6:r.E.length<=6
 ss:∀x∈r.S,x∈ho++ga
 es:∀x∈r.E,x∈ho++ga
 w0:0<=r.w
 w3:r.w<=3
structure aO(ho ga ns:List Str)(ls:List LR)(h c:Nat):Prop where
 nd:(ho++ga++ls.map LR.nm).Nodup
 sub:∀x∈ho++ga++ls.map LR.nm,x∈ns
 nms:∀x∈ns,Nm x
 nsd:ns.Nodup
 ends:∀r∈ls,Da ho ga r
 len:ls.length<=14
 hops:dy ls<=h
 cnt:ns.length<=c+ls.length
def sig(ls:List LR):List (Str×Int):=ls.map λr=>(r.nm,r.w)
def a9(ns:List Str)(ls ls':List LR):Prop:=(∀r∈ls,∃r'∈ls',r'.nm=r.nm/\r'.w=r.w/\(∀x∈r.S,x∈r'.S)/\(∀x∈r.E,x∈r'.E))/\∃ext,sig ls'=sig ls++ext/\∀p∈ext,p.1∉ns
theorem a9.refl(ns:List Str)(ls:List LR):a9 ns ls ls:=⟨λr h=>⟨r,h,rfl,rfl,λ_ h=>h,λ_ h=>h⟩,[],by rw[MW],λp hp=>by cases hp⟩
theorem a9.trans{a b c:List LR}(x:a9 ns a b)(n:∀y∈ns,y∈ns')(y:a9 ns' b c):a9 ns a c:=⟨λr h=>by
 obtain⟨r1,h1,e1,e2,e3,e4⟩:=x.1 r h;obtain⟨r2,h2,f1,f2,f3,f4⟩:=y.1 r1 h1;exact⟨r2,h2,f1.trans e1,f2.trans e2,λz hz=>f3 z (e3 z hz),λz hz=>f4 z (e4 z hz)⟩,by
 obtain⟨u,hu,hu'⟩:=x.2;obtain⟨v,hv,hv'⟩:=y.2;exact⟨u++v,by rw[hv,hu,M7],λp hp=>(LX.mp hp).elim (hu' p) λz q=>hv' p z (n _ q)⟩⟩
def Joins(ls:List LR)(one x two:Str):Prop:=∃r∈ls,r.nm=x/\one∈r.S/\two∈r.E
theorem Joins.grow{one two:Str}(h:Joins ls one x two){ns0:List Str}(g:a9 ns0 ls ls'):Joins ls' one x two:=by
 obtain⟨r,hr,e,h1,h2⟩:=h;obtain⟨r',hr',f1,f2,f3,f4⟩:=g.1 r hr;exact⟨r',hr',f1.trans e,f3 _ h1,f4 _ h2⟩
theorem sum_set:∀{ls:List LR} {i:Nat} {r r':LR},ls[i]? = some r->wide r'<=wide r+1->dy (ls.set i r')<=dy ls+1
 | [],_,_,_,h,_=>by simp at h
 |a::t,0,r,r',h,hw=>by
  cases h;unfold dy;rw[List.set_cons_zero,LQ,LQ,MX,MX];omega
 |a::t,i+1,r,r',h,hw=>by
  have ih:=sum_set (ls:=t) (i:=i) (by simpa using h) hw;unfold dy at ih ⊢;rw[List.set_cons_succ,LQ,LQ,MX,MX];omega
theorem rH{i:Nat}{q r':LR}(h:q∈ls.set i r'):q∈ls\/q=r':=List.mem_or_eq_of_mem_set h
theorem Db{c:Nat}{one two:Str}{bd:List Str}(N:aO ho ga ns ls h c)(h1:one∈ho++ga)(h2:two∈ho++ga)(hb:∀y∈bd,y∈ns)(R:iB one two bd ns ls x ns' ls') :
  aO ho ga ns' ls' (h+1) c/\a9 ns ls ls'/\Joins ls' one x two/\x∉bd/\(∀y∈ns,y∈ns')/\x∉ho++ga/\x∈ns':=by
 cases R with
 |new pa ps pe w hx nm hl w0 w4 =>
  refine⟨⟨?_,?_,?_,?_,?_,?_,?_,?_⟩,?_,?_,λz=>hx (hb x z),λy hy=>LL _ hy,λz=>hx (N.sub x (LL _ z)),by simp⟩
  .rw[LM,<- M7];refine LK.mpr ⟨N.nd,by simp,λa ha b hb e=>?_⟩;rw[show b=x by simpa using hb] at e;exact hx (e▸N.sub a ha)
  .intro y hy;rw[LM,<- M7] at hy;rcases LX.mp hy with hy|hy
   .exact LL _ (N.sub y hy)
   .exact L8 _ (by simpa using hy)
  .intro y hy;rcases LX.mp hy with hy|hy
   .exact N.nms y hy
   .rw[Lz.mp hy];exact nm
  .exact LK.mpr ⟨N.nsd,by simp,λa ha b hb e=>by rw[Lz.mp hb] at e;exact hx (e▸ha)⟩
  .intro r hr;rcases LX.mp hr with hr|hr
   .exact N.ends r hr
   .rw[Lz.mp hr];exact⟨by simp,by simp,by simp,by simp,by simp,by simp,λy hy=>by rw[Lz.mp hy];exact h1,λy hy=>by rw[Lz.mp hy];exact h2,w0,by show w<=3;omega⟩
  .rw[LG];exact hl
  .unfold dy;rw[LM,List.sum_append];have:=N.hops;unfold dy at this;show _+(1+0)<=h+1;omega
  .rw[LG,LG];have:=N.cnt;show ns.length+1<=c+(ls.length+1);omega
  .exact⟨λr hr=>⟨r,LL _ hr,rfl,rfl,λ_ h=>h,λ_ h=>h⟩,[(x,w)],by unfold sig;rw[LM];rfl,λp hp=>by rw[Lz.mp hp];exact hx⟩
  .exact⟨_,L8 _ (Lz.mpr rfl),rfl,by simp,by simp⟩
 |old i r hi hn f1 f2 =>
  have hm:r∈ls:=LA hi;have hlt:i < ls.length:=by
   by_cases h:i < ls.length
   .exact h
   .rw[LZ (by omega)] at hi;cases hi
  have em:(ls.set i {r with S:=aN one r.S,E:=aN two r.E}).map LR.nm=ls.map LR.nm:=by
   rw[QO];apply Nv;intro j;rw[OD];split
   .rename_i e;subst e;rw[L0,if_pos hlt,L4,hi];rfl
   .rfl
  have E:=N.ends r hm;unfold cI at f1;unfold dv at f2;simp only[Mw,O5,decide_eq_true_eq,P6,decide_eq_false_iff_not] at f1 f2;have hnew:{r with S:=aN one r.S,E:=aN two r.E}∈ls.set i {r with S:=aN one r.S,E:=aN two r.E}:=LA (i:=i) (by rw[OD,if_pos rfl,if_pos hlt]);have hx:x∈ls.map LR.nm:=by rw[<- hn];exact M8.mpr ⟨r,hm,rfl⟩
  refine⟨⟨by rw[em];exact N.nd,by rw[em];exact N.sub,N.nms,N.nsd,λq hq=>?_,by rw[PF];exact N.len,?_,by rw[PF];exact N.cnt⟩,?_,?_,by rw[<- hn];exact f1.1,λy hy=>hy,λz=>?_,N.sub x (L8 _ hx)⟩
  .rcases rH hq with hq|rfl
   .exact N.ends q hq
   .exact⟨rE E.sn,rE E.en,Qx (eU.mpr (.inr rfl)),Qx (eU.mpr (.inr rfl)),rG f1.2 E.s6,rG f2 E.e6,
     λy hy=>(eU.mp hy).elim (E.ss y) (λe=>e▸h1),λy hy=>(eU.mp hy).elim (E.es y) (λe=>e▸h2),E.w0,E.w3⟩
  .have:=sum_set (r':={r with S:=aN one r.S,E:=aN two r.E}) hi (by
    unfold wide;have a:=rF (x:=one) (S:=r.S);have b:=rF (x:=two) (S:=r.E);show max (aN one r.S).length (aN two r.E).length<=_;omega)
   have:=N.hops;omega
  .refine⟨λq hq=>?_,[],?_,λp hp=>by cases hp⟩;rotate_left
   .rw[MW];unfold sig;rw[QO];apply Nv;intro j;rw[OD];split
    .rename_i e;subst e;rw[L0,if_pos hlt,L4,hi];rfl
    .rfl
   by_cases e:q=r
   .subst e;exact⟨_,hnew,rfl,rfl,λy hy=>eU.mpr (.inl hy),λy hy=>eU.mpr (.inl hy)⟩
   .obtain⟨j,hj⟩:=Mg.mp hq;have hji:i≠j:=λz=>by subst z;rw[hi] at hj;cases hj;exact e rfl
    exact⟨q,LA (i:=j) (by rw[OD,if_neg hji];exact hj),rfl,rfl,λ_ h=>h,λ_ h=>h⟩
  .exact⟨_,hnew,hn,eU.mpr (.inr rfl),eU.mpr (.inr rfl)⟩
  .exact(LK.mp N.nd).2.2 x z x hx rfl
def beside(ho ga bd:List Str):Nat:=(bd.filter λx=> !decide (x∈ho++ga)).length
theorem rJ(ho ga a b:List Str):beside ho ga (a++b)=beside ho ga a+beside ho ga b:=by unfold beside;rw[List.filter_append,LG]
theorem rK:∀{ls:List LR},(∀r∈ls,1<=wide r)->ls.length+5*(ls.filter λr=>decide (6<=wide r)).length<=dy ls
 | [],_=>by simp[dy]
 |r::t,h=>by
  have ih:=rK (ls:=t) λq hq=>h q (LN _ hq)
  have h1:=h r LO;unfold dy at ih ⊢;rw[LQ,MX,Np,LY];split
  .rename_i c;have:=of_decide_eq_true c;rw[LY];omega
  .omega
theorem split_len{α:Type}(p q:α->Bool):∀{ls:List α},(∀r∈ls,p r=true\/q r=true)->ls.length<=(ls.filter p).length+(ls.filter q).length
 | [],_=>by simp
 |r::t,h=>by
  have ih:=split_len p q (ls:=t) λx hx=>h x (LN _ hx)
  have h1:=h r LO;rw[Np,Np,LY];split<;>split
  .rw[LY,LY];omega
  .rw[LY];omega
  .rw[LY];omega
  .rename_i a b;rcases h1 with h1|h1
   .exact absurd h1 a
   .exact absurd h1 b
theorem Dc{c:Nat}(N:aO ho ga ns ls h c)(hh:h<=47)(one two:Str){bd:List Str}(hb:beside ho ga bd<=5)(hl:ls.length=14):∃r∈ls,cI one bd r=true/\dv two r=true:=by
 apply Od;intro no;have all:∀r∈ls,decide (r.nm∈bd)=true\/decide (6<=wide r)=true:=λr hr=>by
  apply Od;intro z;apply no;have z1:¬ r.nm∈bd:=λy=>z (.inl (decide_eq_true y))
  have z2:¬ 6<=wide r:=λy=>z (.inr (decide_eq_true y))
  unfold wide at z2;refine⟨r,hr,?_,?_⟩
  .unfold cI;simp only[Mw,O5,decide_eq_true_eq,P6,decide_eq_false_iff_not];exact⟨z1,.inr (by omega)⟩
  .unfold dv;simp only[O5,decide_eq_true_eq];exact .inr (by omega)
 have a:=split_len _ _ all;have b:=rK (ls:=ls) λr hr=>by
  have E:=(N.ends r hr).s0;have:=OP.mpr E;unfold wide;omega
 have hs:=N.hops;have nd2:(ls.map LR.nm).Nodup:=(LK.mp N.nd).2.1;have d:(ls.filter λr=>decide (r.nm∈bd)).length<=beside ho ga bd:=by
  have nd3:((ls.filter λr=>decide (r.nm∈bd)).map LR.nm).Nodup:=nd2.sublist (T3 _ Of);have:=OI (l₂:=bd.filter λx=> !decide (x∈ho++ga)) nd3 (λx hx=>by
   obtain⟨r,hr,rfl⟩:=M8.mp hx;obtain⟨m1,m2⟩:=MB.mp hr;refine MB.mpr ⟨of_decide_eq_true m2,?_⟩;rw[decide_eq_false]
   .rfl
   .exact λz=>(LK.mp N.nd).2.2 _ z _ (M8.mpr ⟨r,m1,rfl⟩) rfl)
  rw[L0] at this;exact this
 omega
structure Way(ho ga ns:List Str)(ls:List LR)(bd:List Str)(first:Str)(k m:Nat)(wh:List Str):Prop where
 len:wh.length=2*k+1
 hd:wh[0]? = some first
 nd:wh.Nodup
 jn:∀i x y z,wh[2*i]? = some x->wh[2*i+1]? = some y->wh[2*i+2]? = some z->Joins ls x y z
 ln:∀i y,wh[2*i+1]? = some y->y∉ho++ga/\y∉bd
 gt:∀i x,2*i+2 < m->wh[2*i+2]? = some x->x∈ga/\x∉bd
 nn:∀i x,wh[2*i]? = some x->x∈ho++ga
 sub:∀y∈wh,y∈ns
 bs:beside ho ga wh<=k
theorem Way.one{bd:List Str}(h:first∈ho++ga)(hn:first∈ns):Way ho ga ns ls bd first 0 1 [first] where
 len:=rfl
 hd:=rfl
 nd:=by simp
 jn:=λi x y z _ e _=>by rw[LZ (by show 1<=_;omega)] at e;cases e
 ln:=λi y e=>by rw[LZ (by show 1<=_;omega)] at e;cases e
 gt:=λi y hm e=>by omega
 nn:=λi x e=>by
  have:i=0:=Od λz=>by rw[LZ (by show 1<=_;omega)] at e;cases e
  subst this;cases e;exact h
 sub:=λy hy=>by rw[Lz.mp hy];exact hn
 bs:=by unfold beside;rw[Np,if_neg (by rw[decide_eq_true h];decide)];exact Lx _
theorem Way.grow{bd:List Str}{k m:Nat}(W:Way ho ga ns ls bd first k m wh){ns0:List Str}(g:a9 ns0 ls ls')(n:∀y∈ns,y∈ns'):Way ho ga ns' ls' bd first k m wh :=
 ⟨W.len,W.hd,W.nd,λi x y z a b c=>(W.jn i x y z a b c).grow g,W.ln,W.gt,W.nn,λy hy=>n y (W.sub y hy),W.bs⟩
theorem Way.step{bd:List Str}{k:Nat}(W:Way ho ga ns ls bd first k (2*k+1) wh){one two:Str}(h1:wh[2*k]? = some one)(j:Joins ls one x two)(xg:x∉ho++ga)(xb:x∉bd)(xw:x∉wh)(xn:x∈ns)
  (tw:two∉wh)(tg:two∈ho++ga)(tn:two∈ns):Way ho ga ns ls bd first (k+1) (2*k+2) (wh++[x,two])/\(two∈ga->two∉bd->Way ho ga ns ls bd first (k+1) (2*k+3) (wh++[x,two])):=by
 have hl:=W.len;have L:∀i,i < 2*k+1->(wh++[x,two])[i]? = wh[i]? := λi hi=>Me (by omega)
 have X:(wh++[x,two])[2*k+1]? = some x:=by rw[Mc (by omega),hl,QP];rfl
 have T:(wh++[x,two])[2*k+2]? = some two:=by rw[Mc (by omega),hl,show 2*k+2 - (2*k+1)=1 by omega];rfl
 have O:∀i,2*k+3<=i->(wh++[x,two])[i]? = none:=λi hi=>LZ (by rw[LG,hl];exact hi)
 have xt:x≠two:=λe=>xg (e▸tg)
 have base:∀m,(∀i y,2*i+2 < m->(wh++[x,two])[2*i+2]? = some y->y∈ga/\y∉bd)->Way ho ga ns ls bd first (k+1) m (wh++[x,two]):=λm hm=>by
  refine⟨by rw[LG,hl];show 2*k+1+2=_;omega,by rw[L 0 (by omega)];exact W.hd,LK.mpr ⟨W.nd,by simp[xt],λa ha b hb e=>?_⟩,λi a b c ea eb ec=>?_,λi y e=>?_,hm,λi y e=>?_,λy hy=>?_,?_⟩
  .subst e;rcases LD.mp hb with e|hb
   .exact xw (e▸ha)
   .exact tw (Lz.mp hb▸ha)
  .rcases P7 i k with hi|hi|hi
   .rw[L _ (by omega)] at ea eb ec;exact W.jn i a b c ea eb ec
   .subst hi;rw[L _ (by omega),h1] at ea;rw[X] at eb;rw[T] at ec;cases ea;cases eb;cases ec;exact j
   .rw[O _ (by omega)] at eb;cases eb
  .rcases P7 i k with hi|hi|hi
   .rw[L _ (by omega)] at e;exact W.ln i y e
   .subst hi;rw[X] at e;cases e;exact⟨xg,xb⟩
   .rw[O _ (by omega)] at e;cases e
  .rcases P7 i (k+1) with hi|hi|hi
   .rw[L _ (by omega)] at e;exact W.nn i y e
   .subst hi;rw[show 2*(k+1)=2*k+2 by omega,T] at e;cases e;exact tg
   .rw[O _ (by omega)] at e;cases e
  .rcases LX.mp hy with hy|hy
   .exact W.sub y hy
   .rcases LD.mp hy with e|hy
    .exact e▸xn
    .exact Lz.mp hy▸tn
  .rw[rJ];have:=W.bs;have e:beside ho ga [x,two]=1:=by
    unfold beside;rw[Np,if_pos (by rw[decide_eq_false xg];rfl),Np,if_neg (by rw[decide_eq_true tg];decide)];rfl
   omega
 refine⟨base _ λi y hi e=>?_,λg b=>base _ λi y hi e=>?_⟩
 .rw[L _ (by omega)] at e;exact W.gt i y (by omega) e
 .by_cases c:i=k
  .subst c;rw[T] at e;cases e;exact⟨g,b⟩
  .rw[L _ (by omega)] at e;exact W.gt i y (by omega) e
theorem Way.mem{bd:List Str}{k m:Nat}(W:Way ho ga ns ls bd first k m wh)(hy:y∈wh)(hm:2*k+1<=m):y=first\/y∉ho++ga\/y∈ga:=by
 obtain⟨j,hj⟩:=Mg.mp hy;have hlt:j < 2*k+1:=by
  by_cases h:j < 2*k+1
  .exact h
  .rw[LZ (by rw[W.len];omega)] at hj;cases hj
 rcases O8 j with e|e
 .by_cases z:j=0
  .subst z;rw[W.hd] at hj;cases hj;exact .inl rfl
  .obtain⟨i,rfl⟩:∃i,j=2*i+2:=⟨j / 2 - 1,by omega⟩;exact .inr (.inr (W.gt i y (by omega) hj).1)
 .obtain⟨i,rfl⟩:∃i,j=2*i+1:=⟨j / 2,by omega⟩;exact .inr (.inl (W.ln i y hj).1)
theorem rL{x:Str}:∀{l:List Str},l.Nodup->l.length<=(l.filter λy=> !decide (y=x)).length+1
 | [],_=>by simp
 |y::t,h=>by
  obtain⟨h1,h2⟩:=NK.mp h;rw[Np,LY];by_cases e:y=x
  .subst e;rw[if_neg (by simp),List.filter_eq_self.mpr (λz hz=>by
    rw[decide_eq_false]
    .rfl
    .exact λq=>h1 (q▸hz))]
   exact Lx _
  .rw[if_pos (by rw[decide_eq_false e];rfl),LY];have:=rL (x:=x) h2;omega
theorem aO.nd2{c:Nat}(N:aO ho ga ns ls h c)(a:x∈ho)(b:x∈ga):False :=
 (LK.mp (LK.mp N.nd).1).2.2 x a x b rfl
theorem aO.more{h' c:Nat}(N:aO ho ga ns ls h c)(l:h<=h'):aO ho ga ns ls h' c:=⟨N.nd,N.sub,N.nms,N.nsd,N.ends,N.len,M6 N.hops l,N.cnt⟩
def zV(ls:List LR)(way:List Str)(lo sl:Int):Int:=ls.foldl (λm r=>if r.nm∈way then m+lo+r.w+sl else m) 0
def c7(ls:List LR)(ways:List (List Str))(lo sl:Int):Int:=ways.foldl (λm way=>if zV ls way lo sl > m then zV ls way lo sl else m) 0
structure RW where
 nm:Str
 ways:List (List Str)
 e:Int
 lo:Int
 re:Int
 lst:Int
def inner(w:List Str):List Str:=(w.drop 1).take (w.length - 2)
theorem Dd{w:List Str}(h:x∈inner w):x∈w:=List.mem_of_mem_drop (O9 h)
theorem rM(w:List Str):(inner w).length<=w.length:=by unfold inner;rw[Mo,NS];omega
theorem De(ho ga w:List Str):beside ho ga (inner w)<=beside ho ga w:=by
 unfold beside inner;exact(((Nt _ _).trans (List.drop_sublist _ _)).filter _).length_le
theorem aO.named{c:Nat}(N:aO ho ga ns ls h c)(hx:x∉ns)(nm:Nm x):aO ho ga (ns++[x]) ls h (c+1) where
 nd:=N.nd
 sub:=λy hy=>LL _ (N.sub y hy)
 nms:=λy hy=>(LX.mp hy).elim (N.nms y) λz=>Lz.mp z▸nm
 nsd:=LK.mpr ⟨N.nsd,by simp,λa ha b hb e=>by rw[Lz.mp hb] at e;exact hx (e▸ha)⟩
 ends:=N.ends
 len:=N.len
 hops:=N.hops
 cnt:=by rw[LG];have:=N.cnt;show ns.length+1<=_;omega
def jQ:List Int:=[12,8,20,24,10,30,15,40,60,12,120]
structure cw(ho ga ns:List Str)(ls:List LR)(sl:Int)(r:RW):Prop where
 nmn:r.nm∈ns
 nmo:r.nm∉ho++ga++ls.map LR.nm
 way:∃first last w1 k1,first∈ho/\last∈ho/\first≠last/\1<=k1/\k1<=3/\Way ho ga ns ls [] first k1 (2*k1) w1/\w1[2*k1]? = some last/\(r.ways=[w1]\/∃w2 k2,r.ways=[w1,w2]/\1<=k2/\k2<=3/\Way ho ga ns ls (inner w1) first k2 (2*k2) w2/\w2[2*k2]? = some last)
 ev:r.e∈jQ
 l1:1<=r.lo
 l4:r.lo<=4
 le:r.lo+sl<=r.e
 r0:0<=r.re
 re:r.re < r.e
 lst:∃spare,r.lst=c7 ls r.ways r.lo sl+spare/\spare∈[0,1,2,r.e / 2,3,r.e - 1,6]
theorem rN(ls:List LR):ls.map LR.nm=(sig ls).map Prod.fst:=by unfold sig;rw[MK];rfl
theorem rP(ls:List LR)(way:List Str)(lo sl:Int):zV ls way lo sl=(sig ls).foldl (λm r=>if r.1∈way then m+lo+r.2+sl else m) 0:=by
 unfold zV sig;rw[List.foldl_map]
theorem rQ{way:List Str}{lo sl:Int}:∀{ext:List (Str×Int)} (m:Int),(∀p∈ext,p.1∉way)->ext.foldl (λm r=>if r.1∈way then m+lo+r.2+sl else m) m=m
 | [],_,_=>rfl
 |p::t,m,h=>by
  rw[Nf,if_neg (h p LO)];exact rQ m λq hq=>h q (LN _ hq)
theorem Df{way:List Str}(g:a9 ns ls ls')(h:∀y∈way,y∈ns):zV ls' way lo sl=zV ls way lo sl:=by
 obtain⟨_,ext,e,hn⟩:=g;rw[rP,rP,e,P8];exact rQ _ λp hp z=>hn p hp (h _ z)
theorem Dg(g:a9 ns ls ls'):∀{ways:List (List Str)},(∀way∈ways,∀y∈way,y∈ns)->c7 ls' ways lo sl=c7 ls ways lo sl:=by
 intro ways;unfold c7;generalize (0:Int)=m
 induction ways generalizing m with
 |nil=>intro _;rfl
 |cons w t ih =>
  intro h;rw[Nf,Nf,Df g (h w LO)];exact ih _ λv hv=>h v (LN _ hv)
theorem cw.sub{r:RW}(R:cw ho ga ns ls sl r):∀way∈r.ways,∀y∈way,y∈ns:=by
 obtain⟨first,last,w1,k1,_,_,_,_,_,Y,_,h⟩:=R.way;intro way hw;rcases h with e|⟨w2,k2,e,_,_,Y2,_⟩
 .rw[e] at hw;rw[Lz.mp hw];exact Y.sub
 .rw[e] at hw;rcases LD.mp hw with rfl|hw
  .exact Y.sub
  .rw[Lz.mp hw];exact Y2.sub
theorem cw.grow{r:RW}(R:cw ho ga ns ls sl r)(g:a9 ns ls ls')(n:∀y∈ns,y∈ns'):cw ho ga ns' ls' sl r where
 nmn:=n _ R.nmn
 nmo:=λz=>by
  obtain⟨_,ext,e,hn⟩:=g;rw[rN,e,LM,<- rN,<- M7] at z;rcases LX.mp z with z|z
  .exact R.nmo z
  .obtain⟨p,hp,ep⟩:=M8.mp z;exact hn p hp (ep▸R.nmn)
 way:=by
  obtain⟨first,last,w1,k1,a1,a2,a3,a4,a5,Y,a6,h⟩:=R.way;refine⟨first,last,w1,k1,a1,a2,a3,a4,a5,Y.grow g n,a6,?_⟩;rcases h with e|⟨w2,k2,e,b1,b2,Y2,b3⟩
  .exact .inl e
  .exact .inr ⟨w2,k2,e,b1,b2,Y2.grow g n,b3⟩
 ev:=R.ev
 l1:=R.l1
 l4:=R.l4
 le:=R.le
 r0:=R.r0
 re:=R.re
 lst:=by
  obtain⟨sp,e,h⟩:=R.lst;exact⟨sp,by rw[Dg g R.sub];exact e,h⟩
theorem Dh{xs:List Str}{i:Nat}(nd:xs.Nodup)(h1:xs[i]? = some x)(h2:xs[j]? = some x):i=j:=by
 have hi:i < xs.length:=by
  by_cases h:i < xs.length
  .exact h
  .rw[LZ (by omega)] at h1;cases h1
 exact(P9 hi nd).mp (h1.trans h2.symm)
def ce(σ:List Str)(v:Str):List Str:=if σ.any (·== v)=true then σ else σ++[v]
def bh(val:Nat->Str)(i:Nat):List Str:=((Mz i).map val).foldl ce []
theorem Di(val:Nat->Str):bh val 0=[]:=rfl
theorem mH(val:Nat->Str)(i:Nat):bh val (i+1)=ce (bh val i) (val i):=by
 unfold bh;rw[List.range_succ,LM,P8];rfl
theorem rR(σ:List Str)(v:Str):(ce σ v).length=if σ.any (·== v)=true then σ.length else σ.length+1:=by
 unfold ce;split<;>simp
theorem rS(val:Nat->Str):∀i,(bh val i).length<=i
 |0=>by rw[Di];exact Lx _
 |i+1=>by
  rw[mH,rR];have ih:=rS val i;split<;>omega
theorem Dj(σ:List Str)(v k:Str):(ce σ v).any (·== k)=(σ.any (·== k)||decide (k=v)):=by
 unfold ce;by_cases h:σ.any (·== v)=true
 .rw[if_pos h];by_cases e:k=v
  .subst e;rw[h];simp
  .simp[e]
 .rw[if_neg h,List.any_append];by_cases e:k=v
  .subst e;simp
  .have hb:(v==k)=false:=by simpa [beq_iff_eq] using (λh':v=k=>e h'.symm)
   simp[hb,e]
theorem rT{σ:List Str}{v:Str}:σ.any (·== v)=true↔v∈σ:=by
 rw[Pk];exact⟨λ⟨x,hx,e⟩=>by rw[beq_iff_eq] at e;exact e▸hx,λh=>⟨v,h,by simp⟩⟩
theorem mI:∀(ys acc:List Str),acc.Nodup->((ys.foldl ce acc).length=acc.length+ys.length↔(acc++ys).Nodup)/\(ys.foldl ce acc).length<=acc.length+ys.length
 | [],acc,h=>by simp[h]
 |y::t,acc,h=>by
  rw[Nf];by_cases c:y∈acc
  .have e:ce acc y=acc:=by unfold ce;rw[if_pos (rT.mpr c)]
   rw[e];obtain⟨_,ih⟩:=mI t acc h;refine⟨⟨λz=>?_,λz=>?_⟩,?_⟩
   .rw[LY] at z;omega
   .exact absurd rfl ((LK.mp z).2.2 y c y LO)
   .rw[LY];omega
  .have e:ce acc y=acc++[y]:=by unfold ce;rw[if_neg (λz=>c (rT.mp z))]
   have h':(acc++[y]).Nodup:=LK.mpr ⟨h,by simp,λa ha b hb q=>by rw[Lz.mp hb] at q;exact c (q▸ha)⟩;obtain⟨ih1,ih2⟩:=mI t (acc++[y]) h';rw[e];rw[LG,M7] at ih1;rw[LG] at ih2;rw[LY];have l1:([y]:List Str).length=1:=rfl;rw[l1] at ih1 ih2;refine⟨⟨λz=>ih1.mp (by omega),λz=>?_⟩,by omega⟩;have:=ih1.mpr z;omega
def gy(ys:List Str):Nat:=(ys.foldl ce []).length
theorem rV{ys:List Str}(h:ys.Nodup):gy ys=ys.length:=by
 have:=(mI ys [] (by simp)).1.mpr (by simpa using h);unfold gy;simpa using this
theorem Dk(ys:List Str):bh (λi=>ys.getD i Mv) ys.length=ys.foldl ce []:=by
 unfold bh;congr 1
 apply Nv;intro i;rw[L4];by_cases h:i < ys.length
 .rw[NQ h,L3 h];show some (ys.getD i Mv)=_;rw[LI,L3 h];rfl
 .rw[LZ (by rw[OE];omega),LZ (by omega)];rfl
theorem StrsAre.str_at:∀{vs:List Value} {ns:List Str},StrsAre vs ns->∀(i:Nat) (v:Value),vs[i]? = some v->∃t,v= .str (ns.getD i Mv) t
 |_,_,.nil,i,v,h=>by simp at h
 |_,_,.cons n t hr,0,v,h=>by simp at h;exact⟨t,by rw[<- h];rfl⟩
 |_,_,.cons n t hr,i+1,v,h=>by
  simp only[OB] at h;obtain⟨t',e⟩:=StrsAre.str_at hr i v h;exact⟨t',by rw[e];rfl⟩
section
variable{R:Result->Shared->Prop}{I:Addr}{wr:List Addr}{G:Array GenState->Array GenState->Prop}{n:Nat}{P:Nat->Value->Prop}{St:Nat->Shared->Prop}
theorem Dl(W:WalksS prog w A.in1 I fp wr G n P St)(S:Addr)(hSf:S∉fp)
  (val:Nat->Str)(hval:∀i v,P i v->∃t,v= .str (val i) t)(hb:n+1 < scanBound) :
  ∀(k i:Nat) (s:Shared),n - i=k->i<=n->St i s ->
   s.heap.SetOf (strKind prog w) S (λk'=>(bh val i).any (·== k')) (bh val i).length ->
   (∀s',Moved (S::wr) G s s'->s'.heap.SetOf (strKind prog w) S (λk'=>(bh val n).any (·== k')) (bh val n).length->R (.ok (.ret .none)) s') ->
   codeAny (model prog w) A (.builtin "set.update.loop" ⟨[.ref S,.ref I],[]⟩) R s:=by
 have hSw:S∉wr:=λh=>hSf (W.sub _ h)
 have hsub:∀b∈wr,b∈S::wr:=λb hb=>LN _ hb
 intro k;induction k with
 |zero =>
  intro i s hk hi hst hS hR;have hin:i=n:=by omega
  subst hin;refine Ou Og ?_;rw[Around.under_plainId Nx _];show wpAny _ A.in1 (pyNext (.ref I) >>= _) _ _ s;refine L1 (W.done s _ _ hst λs' hm=>?_);show wpAny _ A.in1 (ret My) _ _ s';exact L9 (hR s' (hm.mono hsub) (by
   obtain⟨o,es,ep,t,ho,rest⟩:=hS;exact⟨o,es,ep,t,hm.heap S _ hSw ho,rest⟩))
 |succ k ih =>
  intro i s hk hi hst hS hR;have hlt:i < n:=by omega
  refine Ou Og ?_;rw[Around.under_plainId Nx _];show wpAny _ A.in1 (pyNext (.ref I) >>= _) _ _ s;refine L1 (W.item i s _ _ hlt hst λv s' hP hst' hm=>?_);obtain⟨t,rfl⟩:=hval i v hP;have hS':s'.heap.SetOf (strKind prog w) S (λk'=>(bh val i).any (·== k')) (bh val i).length:=by
   obtain⟨o,es,ep,tb,ho,rest⟩:=hS;exact⟨o,es,ep,tb,hm.heap S _ hSw ho,rest⟩
  show wpAny _ A.in1 (holding [NA (val i) t] (setAdd S (.str (val i) t)) >>= _) _ _ s';refine L1 (Mn ?_);unfold setAdd;refine Mn ?_;refine L1 ((strKind prog w).pyHash (k:=val i) (strKind_is _ _ _ _) ?_);have hroom:(bh val i).length+1 < scanBound:=by have:=rS val i;omega
  refine wpAny_setAddHashed_of (knd:=strKind prog w) (s:={s' with toks:=s'.toks+1}) (strKind_is _ _ _ _) rfl hS' hroom λh' hsb hS2=>?_
  have hSi:h'.SetOf (strKind prog w) S (λk'=>(bh val (i+1)).any (·== k')) (bh val (i+1)).length :=
   SetOf_congr hS2 (λk'=>by rw[mH,Dj]) (by rw[mH,rR])
  refine L9 ⟨plainId_quiet Nx _,ih (i+1) _ (by omega) hlt (W.frame _ s' _ _ hst' (MN _) λb hb o e=>?_) hSi λs'' hm'' hS''=>?_⟩
  .rw[hsb.2 b (λh:b=S=>hSf (by rw[<- h];exact hb))];exact e
  .refine hR s'' (Moved.trans W.gtrans ((hm.mono hsub).then_heap (MN _) λb o hb e=>?_) hm'') hS'';rw[hsb.2 b (λh:b=S=>hb (by rw[h];exact LO))];exact e
end
end L2
namespace PySem
open PyProof.Rows
theorem Dm:isSubtype (.type "tuple") (.type "set")=pure false:=by rw[RO];kernel_rfl
theorem Dn:isSubtype (.type "tuple") (.type "frozenset")=pure false:=by rw[RO];kernel_rfl
section
variable{prog:Program}{w:World}{A:Around}{E:Value->Shared->Prop}{s:Shared}
set_option maxHeartbeats 3200000 in
theorem Do{l:Addr}{items:Array Value}{ns:List Str}{Q:Value->Shared->Prop}
  (hh:A.handled=none)(hl:s.heap.IsTuple l items)(hi:SO items.toList ns)(hb:items.size+1 < scanBound)
  (h:∀(h':Heap) (tk:Nat),h'.SetOf (strKind prog w) s.heap.objs.size (λk'=>(L2.bh (λi=>ns.getD i Mv) items.size).any (·== k')) (L2.bh (λi=>ns.getD i Mv) items.size).length ->
   (∀b o,b < s.heap.objs.size->s.heap.get? b=some o->h'.get? b=some o)->Q (.ref s.heap.objs.size) {s with heap:=h',toks:=tk}) :
  wpAny (model prog w) A (call (.type "set") [.ref l]) Q E s:=by
 obtain⟨c,tl,hmro⟩:=F.called_set.mro;have hmade:=F.called_set.made;have hsub:=F.called_set.sub;refine Pz (RA ?_);show wpAny _ _ (callAny (.type "set") _) _ _ _;refine L9 ⟨Code.quiet_builtin _ (by decide+kernel),Ou F.entry_type_call ?_⟩;rw[Around.under_plain (weight_type_call_type "set" [.ref l] []) rfl];have h1:=F.called_set.notType;have h2:=F.called_set.canCreate;have hct:=F.typeCall_set_1 (.ref l);repeat (any_goals (first|assumption|wp_step))
 refine Oc (code_set_new_1 (.ref l) (E:=E) (Q₁:=λobj s₁=>∃led:Bool,obj= .ref s.heap.objs.size/\s₁={s with heap:=s.heap.push {cls:= .type "set",dict:=none,data:= .set #[] 0 (.fresh 0 0 led)}}) λled=>⟨led,rfl,rfl⟩) λr s₁ hr=>?_
 cases r with
 |error e=>exact hr
 |ok fl =>
  cases fl with
  |ret obj =>
   obtain⟨led,rfl,rfl⟩:=hr;have hS:(s.heap.push {cls:= .type "set",dict:=none,data:= .set #[] 0 (.fresh 0 0 led)}).get? s.heap.objs.size=some {cls:= .type "set",dict:=none,data:= .set #[] 0 (.fresh 0 0 led)}:=LC _ rfl;have hT:Shared.TypeIs {s with heap:=s.heap.push {cls:= .type "set",dict:=none,data:= .set #[] 0 (.fresh 0 0 led)}} (.ref s.heap.objs.size) "set":=⟨_,hS,rfl⟩;have hli:=F.called_set.init.lookup;have hbi:=F.called_set.init.bind (.ref s.heap.objs.size);repeat (any_goals (first|assumption|wp_step))
   refine Oc (codeAny_call_builtin (R:=wants (λr s₂=>r= .none/\∃h' tk,s₂={s with heap:=h',toks:=tk} /\
     h'.SetOf (strKind prog w) s.heap.objs.size (λk'=>(L2.bh (λi=>ns.getD i Mv) items.size).any (·== k')) (L2.bh (λi=>ns.getD i Mv) items.size).length /\
     (∀b o,b < s.heap.objs.size->s.heap.get? b=some o->h'.get? b=some o)) E) F.called_set.init.plain F.entry_set_init (check_set_init_1 hT ?_)) λr₂ s₂ hr₂=>?_
   .have hl1:(s.heap.push {cls:= .type "set",dict:=none,data:= .set #[] 0 (.fresh 0 0 led)}).IsTuple l items:=hl.push _;obtain⟨ol,hol,hcl,nl,hdl⟩:=id hl;obtain⟨ocls,odict,odata,oslots⟩:=ol;simp only at hcl hdl;subst hcl;subst hdl;have hol':(s.heap.push {cls:= .type "set",dict:=none,data:= .set #[] 0 (.fresh 0 0 led)}).get? l=some {cls:= .type "tuple",dict:=odict,data:= .seq items nl,slots:=oslots}:=L5 _ hol;have hsls:=Dm;have hslf:=Dn;have hne:(NN "tuple"==NN "dict")=false:=by decide
    unfold Builtin.«set.__init__» noKeywords Ru;generalize hPI:pyIter=PI
    wp_walk
    subst hPI;refine O1 hl1 ?_;refine L1 (RP ?_);have hlS:l < s.heap.objs.size:=LB hol;have hh3:A.in1.in1.in1.handled=none:=by simp[hh]
    have hneI:l≠(s.heap.push {cls:= .type "set",dict:=none,data:= .set #[] 0 (.fresh 0 0 led)}).objs.size:=by
     rw[MU];exact LJ (MQ hlS)
    have hSf:s.heap.objs.size∉[(s.heap.push {cls:= .type "set",dict:=none,data:= .set #[] 0 (.fresh 0 0 led)}).objs.size,l]:=by
     rw[MU];simp only[LD,Lz,Mb,or_false,not_or];exact⟨LJ (No _),NY hlS⟩
    have hval:∀(i:Nat) (v:Value),items[i]? = some v->∃t,v= .str ((λi=>ns.getD i Mv) i) t:=λi v hv =>
     L2.StrsAre.str_at hi i v (by rw[NG];exact hv)
    refine L2.Dl ((Walks.tuple hh3 _ l hneI items).toS) s.heap.objs.size
     hSf (λi=>ns.getD i Mv) hval hb (items.size - 0) 0 _ (by omega) (Ms _)
     ⟨⟨_,LC _ rfl,rfl,rfl⟩,(hl1.push _)⟩ ?hS0 ?hR
    case hS0 =>
     have hget:((s.heap.push {cls:= .type "set",dict:=none,data:= .set #[] 0 (.fresh 0 0 led)}).push {cls:= .type "tuple_iterator",data:= .fields #[.ref l,.int 0 0]}).get? s.heap.objs.size
       = some {cls:= .type "set",dict:=none,data:= .set #[] 0 (.fresh 0 0 led)}:=L5 _ hS
     exact PyProof.Rows.SetOf_congr ((RB (knd:=strKind prog w) led).setOf hget (by unfold scanBound;omega)) (λ_=>rfl) rfl
    case hR =>
     intro s' hm hS';obtain⟨h',g',d',tk',os'⟩:=s';have eg:g'=s.gens:=hm.gens;have ed:d'=s.drawn:=hm.drawn;have eo:os'=s.os:=hm.os;subst eg;subst ed;subst eo;show wpAny _ _ _ _ _ _;refine L9 ?_;show wpAny _ _ (ret My) _ _ _;refine L9 ⟨rfl,h',tk',rfl,hS',λb o hb e=>?_⟩;have hb1:b≠s.heap.objs.size:=LJ hb;have hb2:b≠(s.heap.push {cls:= .type "set",dict:=none,data:= .set #[] 0 (.fresh 0 0 led)}).objs.size:=by
      rw[MU];exact LJ (MQ hb)
     exact hm.heap b o (by simp only[LD,Lz,Mb,or_false,not_or];exact⟨hb1,hb2⟩) (L5 _ (L5 _ e))
   .cases r₂ with
    |error e=>exact hr₂
    |ok fl₂ =>
     cases fl₂ with
     |ret r =>
      obtain⟨rfl,h',tk,rfl,hS',hk'⟩:=hr₂;repeat (any_goals (first|assumption|wp_step))
      exact h _ _ hS' hk'
     |_=>exact hr₂.elim
  |_=>exact hr.elim
end
end PySem
namespace L2
open PySem PySem.Spec PyProof.Rows
variable{K:Frag}{X Y:Cx}{pos apos cpos np pos' p2 p1:Pos}{H F' H1 H' H2 F:Hp}{w:World}{prog P Pr:Program}{pins:List (Addr×Obj)}{scope:Scope}{xs csV zs:List V}{A:Around}{x qual fld q z nm:Str}{σ:St}{a C f l it c':Addr}{E:Value->Shared->Prop}{te ta tv tb:TE}{ps ks ns N sn:List Str}{base h h' h0:Heap}{iter tg elt body kx vx e2:Expr}{tc:TT}{mg:Str->Option Value}{g:TG}{α β:Type}{j m nrem ln cl:Nat}{wi:TI}{params:Arguments}{ifs es elts:List Expr}{sp:Sp}{fd:FuncData}{items:Array Value}{tk:TA}{neg cm hdct ab:Bool}{env:Env}{CX:CXT}{vs us csU bm:List Value}{S fr:List Nat}{kws:List Keyword}{gV:List V->List V->List V}{outer:List Env}{newId T:String}{fp:List Addr}{gs:TGs}{lo:Int}{hi:Option Int}{J:It}{M:Model}{col:Option Bool}{dx dd:Option Addr}{tl th:TO}{st:Stmt}{o0:HO}{tn:Nat->Heap->Prop}{s2:Shared}{os:OsState}{k0 k3 k5:Option Value}{cd:ClassData}{pm:Value}{y:V}
def gz(P:Program)(w:World)(a:Addr)(ys:List Str):HO:= .ext λh=>∃S,h.SetOf (strKind P w) a S (gy ys)
section
variable(K:Frag)
theorem Dp(hc:X.calm=true)(h:X.K=K:=by rfl):zQ X (.type "set") (λxs H Q=>∃p ys,xs=[.ref p]/\SqT K H p (ys.map V.str)/\ys.length<=100/\∀a,H a=none->Q (.ref a) (upd H a (gz X.prog X.w a ys))):=by
 subst h;intro pins s σ H xs us Q I r h;obtain⟨p,ys,rfl,hl,hz,q⟩:=h;obtain⟨u,rfl,rx⟩:=vals1 r;cases rx;obtain⟨its,r',pl,_⟩:=I.tuple hl;have hlen:its.toArray.size=ys.length:=by rw[Ly,<- r'.length,L0]
 refine Do (I.ok.hd hc) (show s.heap.IsTuple p its.toArray from pl) (by simpa using jP r') (by rw[hlen];unfold scanBound;omega) λh' tk hS hk=>?_
 rw[hlen,Dk] at hS;have hk':∀b u,s.heap.get? b=some u->h'.get? b=some u:=λb u e=>hk b u (LB e) e
 refine⟨.ref s.heap.objs.size,_,I.laid (o:=gz X.prog X.w s.heap.objs.size ys) hk' (Lx _) ?_,rfl,q _ (I.hok.fresh (Lx _))⟩;refine⟨⟨_,hS⟩,?_,λh1 h2 ⟨S,o,es,ep,t,e,r⟩ k=>⟨S,o,es,ep,t,k o e,r⟩⟩;obtain⟨o,_,_,_,e,_⟩:=hS;exact⟨o,e⟩
theorem Dq:zQ X (.builtin "len") (λxs H Q=>∃a ys,xs=[.ref a]/\H a=some (gz X.prog X.w a ys)/\Q (.int (gy ys:Nat)) H):=by
 intro pins s σ H xs us Q I r h;obtain⟨a,ys,rfl,ha,q⟩:=h;obtain⟨u,rfl,rx⟩:=vals1 r;cases rx;obtain⟨⟨S,o,es,ep,t,ho,hex,hd,_,_,hsb,hf,hn⟩,_,_⟩:=(show aB X.prog X.w H s.heap a (gz X.prog X.w a ys) from I.hok a _ ha);have hb:(es.size:Int) < 2^63:=by unfold scanBound at hsb;omega
 refine call_len_set ho hex hd hf hb ⟨.int _,H,I.tok _,⟨_,rfl⟩,?_⟩;rw[hn];exact q
end
def Its(x:Str):It:=⟨λi _=>i < x.cps.size,λi H v H'=>H'=H/\∃c,x.cps.toList[i]? = some c/\v= .str ⟨#[c]⟩,λi _=>x.cps.size<=i⟩
theorem Dr(it:Addr)(x:Str)(t:Tok):Turn P w K tg (Its x) [it] it (λi h=>h.IsStrIter it "str_ascii_iterator" x t i) where
 mem:=by simp
 obj:=λi h st b hb=>by
  have e:b=it:=by simpa using hb
  subst e;obtain⟨o,e,c,d⟩:=st;exact⟨o,e,λv z=>by rw[d] at z;cases z⟩
 keep:=λi h h' st k=>let ⟨o,ho,r⟩:=st;⟨o,k it (by simp) o ho,r⟩
 item:=by
  intro X hP hw hK hc i pins s σ H E I hf st hg;subst hP hw hK;obtain⟨f0,f1,f2,f3,f4,f5⟩:=hf it (by simp);have W:=Walks.strAscii (prog:=X.prog) (w:=X.w) (I.ok.hd hc) it x t;refine W.item i s _ _ hg st λv h' tk hv st' kk=>?_
  obtain⟨c,u,hcu,rfl⟩:=hv;have I1:Inv X pins σ H {s with heap:=h',toks:=tk}:=I.turned (λb o hb e=>kk b o (by simpa using hb) e) f0 f1 f3 f4 f5;obtain⟨o,e,c',d⟩:=id st';exact⟨_,rfl,hX (s:={s with heap:=h',toks:=tk}) e c' d (by decide) ⟨.str ⟨#[c]⟩,H,I1,⟨u,rfl⟩,⟨rfl,c,by rw[NG];exact hcu,rfl⟩,st',λb hb=>(hf b hb).1⟩⟩
 done:=by
  intro X hP hw hK hc i pins s σ H E I hf st hg;subst hP hw hK;obtain⟨f0,f1,f2,f3,f4,f5⟩:=hf it (by simp);exact wpAny_pyNext_ascii_end (I.ok.hd hc) st (NZ hg) λh' eb=>⟨rfl,I.turned (t':=s.toks) (λb o hb e=>eb b o hb e) f0 f1 f3 f4 f5⟩
 self:=λ_ _ _ _ _ st h=>wpAny_pyIter_striter_ascii st h
section
end
section
variable{k:Nat}{E:XK}{p:Pos}{e:Expr}{t:TA}{g:List Value->List Value->List Value}
theorem rW{s:Shared}{Q:VK}{ws:List Value}{vs:List V}(M:Mk X.K C f)(F:zX X.prog X.w X.K X.mg X.base CX k f fd ps sp)(hr:bf (k+1) X.A)(hb:cW X.K fd ps ks g gV)
  (hx:cq CX X E)(I:Inv X pins σ H s)(r:Vals vs us)(rz:Vals zs ws)
  (h:∀x dx,H x=none->H dx=none->dx≠x->sp (gV (.ref x::vs) zs) (upd (upd H dx (.own x)) x (.ins C dx [])) (λv H2=>v= .non/\Q (.ref x) H2) E) :
  wpAny (model X.prog X.w) X.A (call (.ref C) us (ks.zip ws)) (EP X pins σ Q) X.xe s:=by
 have hq:=h (s.heap.objs.size+1) s.heap.objs.size (I.hok.fresh (MN _)) (I.hok.fresh (Lx _)) (LJ (No _));have I2:=Inv.made (C:=C) I;have r2:Vals (gV (V.ref (s.heap.objs.size+1)::vs) zs) (g (M4 (s.heap.objs.size+1)::us) ws):=hb.rel (.cons rfl r) rz;have hl:(g (M4 (s.heap.objs.size+1)::us) ws).length=ps.length:=by rw[<- r2.length];exact F.len _ _ _ _ hq
 refine Pz (Bh (f:=f) I.kIn M.makes M.init (beq_iff_eq.mp M.fn) (Oc (F.run _ X.stack _ _ ⟨M4 (s.heap.objs.size+1)::us,ks.zip ws⟩ _ _ _ E (hr.make C us (ks.zip ws))
  (I2.env0.make C us (ks.zip ws)) (hb.to _ (M4 (s.heap.objs.size+1)::us) ws I2.kIn hl) r2 hq) λr s' hq'=>?_))
 cases r with
 |error e=>exact hx pins σ _ _ e s' I2 hq'
 |ok fl =>
  cases fl with
  |ret u =>
   obtain⟨v,H',I3,rv,ev,q3⟩:=I2.after hq';subst ev;exact⟨rv,⟨V.ref (s.heap.objs.size+1),H',I3,rfl,q3⟩⟩
  |next=>exact False.elim hq'
  |brk=>exact False.elim hq'
  |cont=>exact False.elim hq'
end
section
end
inductive D where
 |non|bl (b:Bool)|int (i:Int)|str (x:Str)|ty (n:String)
 |cls (c:Str)|scr (ns:List Int)|cell (k:Nat)
 |tup (ds:List D)|lst (ds:List D)
 |dct (ks:List Key) (vs:List D)|dtt (ks:List (List Key)) (vs:List D)
 |obj (c:Str) (ns:List Str) (vs:List D)
 |exc (c:Str)
inductive Ct where
 |lst (ds:List D)|dct (ks:List Key) (vs:List D)|dtt (ks:List (List Key)) (vs:List D)
 |ins (c:Str) (ns:List Str) (vs:List D)|draw
 |fdct (o:Obj) (ks:List Key) (vs:List D)|fdtt (o:Obj) (ks:List (List Key)) (vs:List D)
 |lam (k0:Nat) (x:Str) (ln cl:Nat) (q:Str)
def cJ(ln cl:Nat)(c':Addr):Array Value:= #[rawInt ln,rawInt cl,.ref c']
def c8(c':Addr)(qual:Str):HO:= .ext λh=>h.CodeRec (.ref c') qual
def clsOf(K:Frag)(c:Str):Option Addr:=match nsIn K mainGlobals c with
 |some (some (.ref C))=>some C
 |_=>none
def Ds(a C:Addr)(dx:Option Addr):HO:= .ext λh=>∃ox,h.get? a=some ox/\ox.cls= .ref C/\ox.dict=dx/\PySem.W.notCls ox=true
structure Wd where
 b:Nat->Option Addr
 F:Hp
variable{fl W' W1:Wd}
structure Wd.le(W W':Wd):Prop where
 b:∀k a,W.b k=some a->W'.b k=some a
 F:cZ W.F W'.F
theorem Wd.le.refl(W:Wd):W.le W:=⟨λ_ _ h=>h,λ_ _ h=>h⟩
theorem Wd.le.trans{W W'':Wd}(a:W.le W')(b:W'.le W''):W.le W'':=⟨λk x h=>b.b k x (a.b k x h),λk x h=>b.F k x (a.F k x h)⟩
abbrev Mu:=Nat->Option Ct
variable{μ μ' μ1:Mu}{Pm:Mu->Prop}
abbrev ad:=List (Option D)
variable{ρ ρb:ad}
def zO(μ:Mu)(k:Nat)(c:Ct):Mu:=λj=>if j=k then some c else μ j
def dz(μ:Mu)(k:Nat):Mu:=λj=>if j=k then none else μ j
theorem zF{k:Nat}{c:Ct}:zO μ k c k=some c:=if_pos rfl
theorem zj{k:Nat}{c:Ct}(h:j≠k):zO μ k c j=μ j:=if_neg h
theorem cK{k:Nat}{c c':Ct}:zO (zO μ k c) k c'=zO μ k c':=by funext j;unfold zO;split<;>rfl
theorem rX{k:Nat}{c:Ct}(h:μ k=none):dz (zO μ k c) k=μ:=by
 funext j;unfold zO dz;by_cases e:j=k
 .subst e;rw[if_pos rfl,h]
 .show(if j=k then none else if j=k then some c else μ j)=μ j;rw[if_neg e,if_neg e]
def MLe(μ μ':Mu):Prop:=∀k c,μ k=some c->μ' k=some c
theorem MLe.refl(μ:Mu):MLe μ μ:=λ_ _ h=>h
theorem MLe.zO{k:Nat}{c:Ct}(h:μ k=none):MLe μ (L2.zO μ k c):=λj d e=>by
 rw[zj (λz=>by subst z;rw[h] at e;cases e)];exact e
theorem iC{p:Addr}{o:HO}(h:H p=none):cZ H (upd H p o):=λb u q=>by rw[zE (zY q h)];exact q
theorem Rd.sm{o:HO}(s:cZ F F')(h:Rd F a o):Rd F' a o:=by
 rcases h with h|⟨u,h⟩
 .exact .inl (s _ _ h)
 .exact .inr ⟨u,s _ _ h⟩
theorem SqL.sm(s:cZ F F')(h:SqL K F a xs):SqL K F' a xs:=h.imp (Rd.sm s) id
theorem SqT.sm(s:cZ F F')(h:SqT K F a xs):SqT K F' a xs:=h.imp (Rd.sm s) id
def fN(c:Str):Bool:= !c.cps.contains 58
def Dt(b z:Str):Str:=⟨b.cps++ #[58]++z.cps⟩
def XAt(K:Frag)(W:Wd)(lab:Str)(C:Addr)(dx:Option Addr):Prop:=(clsOf K lab=some C/\dx=none/\fN lab=true)\/∃b z d,lab=Dt b z/\fN b=true/\clsOf K b=some C/\dx=some d/\W.F d=some (.xd [("name",.str z)])
theorem XAt.mono{W:Wd}{lab:Str}(h:W.le W')(x:XAt K W lab C dx):XAt K W' lab C dx:=x.imp id λ⟨b,z,d,e,c,k,f,g⟩=>⟨b,z,d,e,c,k,f,h.F _ _ g⟩
mutual
def Rep(K:Frag)(W:Wd):D->V->Prop
 | .non,v=>v= .non
 | .bl b,v=>v= .bl b
 | .int i,v=>v= .int i
 | .str x,v=>v= .str x
 | .ty n,v=>v= .ty n
 | .cls c,v=>∃C,clsOf K c=some C/\v= .ref C
 | .scr ns,v=>∃a,v= .ref a/\SqL K W.F a (ns.map V.int)
 | .cell k,v=>∃a,v= .ref a/\W.b k=some a
 | .tup ds,v=>∃a xs,v= .ref a/\SqT K W.F a xs/\zx K W ds xs
 | .lst ds,v=>∃a xs,v= .ref a/\W.F a=some (.lst xs)/\zx K W ds xs
 | .dct ks vs,v=>∃a xs,v= .ref a/\W.F a=some (.dK (ks.zip xs))/\ks.length=xs.length/\zx K W vs xs
 | .dtt ks vs,v=>∃a xs,v= .ref a/\W.F a=some (.dT (ks.zip xs))/\ks.length=xs.length/\zx K W vs xs
 | .obj c ns vs,v=>∃C a dx xs,clsOf K c=some C/\v= .ref a/\W.F a=some (.ins C dx (ns.zip xs))/\ns.length=xs.length/\zx K W vs xs
 | .exc c,v=>∃C a dx,v= .ref a/\W.F a=some (Ds a C dx)/\XAt K W c C dx
def zx(K:Frag)(W:Wd):List D->List V->Prop
 | [],xs=>xs=[]
 |d::ds,xs=>∃x r,xs=x::r/\Rep K W d x/\zx K W ds r
end
section
variable{W:Wd}
mutual
theorem Rep.mono(h:W.le W'):∀{d:D} {x:V},Rep K W d x->Rep K W' d x
 | .non,_,r=>by unfold Rep at *; exact r
 | .bl _,_,r=>by unfold Rep at *; exact r
 | .int _,_,r=>by unfold Rep at *; exact r
 | .str _,_,r=>by unfold Rep at *; exact r
 | .ty _,_,r=>by unfold Rep at *; exact r
 | .cls _,_,r=>by unfold Rep at *; exact r
 | .scr _,_,r=>by unfold Rep at *; obtain⟨a,e,q⟩:=r;exact⟨a,e,q.sm h.F⟩
 | .cell _,_,r=>by unfold Rep at *; obtain⟨a,e,q⟩:=r;exact⟨a,e,h.b _ _ q⟩
 | .tup _,_,r=>by unfold Rep at *; obtain⟨a,xs,e,q,z⟩:=r;exact⟨a,xs,e,q.sm h.F,zx.mono h z⟩
 | .lst _,_,r=>by unfold Rep at *; obtain⟨a,xs,e,q,z⟩:=r;exact⟨a,xs,e,h.F _ _ q,zx.mono h z⟩
 | .dct _ _,_,r=>by unfold Rep at *; obtain⟨a,xs,e,q,l,z⟩:=r;exact⟨a,xs,e,h.F _ _ q,l,zx.mono h z⟩
 | .dtt _ _,_,r=>by unfold Rep at *; obtain⟨a,xs,e,q,l,z⟩:=r;exact⟨a,xs,e,h.F _ _ q,l,zx.mono h z⟩
 | .obj _ _ _,_,r=>by unfold Rep at *; obtain⟨C,a,dx,xs,hc,e,q,l,z⟩:=r;exact⟨C,a,dx,xs,hc,e,h.F _ _ q,l,zx.mono h z⟩
 | .exc _,_,r=>by unfold Rep at *; obtain⟨C,a,dx,e,q,x⟩:=r;exact⟨C,a,dx,e,h.F _ _ q,x.mono h⟩
theorem zx.mono(h:W.le W'):∀{ds:List D} {xs:List V},zx K W ds xs->zx K W' ds xs
 | [],_,r=>by unfold zx at *; exact r
 |_::_,_,r=>by unfold zx at *; obtain⟨x,t,e,q,z⟩:=r;exact⟨x,t,e,Rep.mono h q,zx.mono h z⟩
end
theorem zx.nil:zx K W [] []:=by unfold zx;rfl
theorem zx.cons{d:D}{ds:List D}{x:V}(a:Rep K W d x)(b:zx K W ds xs):zx K W (d::ds) (x::xs):=by unfold zx;exact⟨x,xs,rfl,a,b⟩
theorem zx.nil'(h:zx K W [] xs):xs=[]:=by unfold zx at h;exact h
theorem zx.uncons{d:D}{ds:List D}(h:zx K W (d::ds) xs):∃x r,xs=x::r/\Rep K W d x/\zx K W ds r:=by unfold zx at h;exact h
theorem zx.length:∀{ds:List D} {xs:List V},zx K W ds xs->xs.length=ds.length
 | [],_,h=>by rw[h.nil'];rfl
 |_::_,_,h=>by obtain⟨x,r,rfl,_,q⟩:=h.uncons;rw[LY,LY,q.length]
theorem zx.get:∀{ds:List D} {xs:List V} {i:Nat} {d:D},zx K W ds xs->ds[i]? = some d->∃x,xs[i]? = some x/\Rep K W d x
 | [],_,_,_,_,e=>by simp at e
 |_::_,_,0,_,h,e=>by obtain⟨x,r,rfl,q,_⟩:=h.uncons;simp at e;subst e;exact⟨x,rfl,q⟩
 |_::_,_,i+1,d,h,e=>by obtain⟨x,r,rfl,_,q⟩:=h.uncons;simpa using q.get (i:=i) (d:=d) (by simpa using e)
theorem zx.append:∀{ds es:List D} {xs ys:List V},zx K W ds xs->zx K W es ys->zx K W (ds++es) (xs++ys)
 | [],_,_,_,h,g=>by rw[h.nil'];exact g
 |_::_,_,_,_,h,g=>by obtain⟨x,r,rfl,q,z⟩:=h.uncons;exact .cons q (z.append g)
theorem zx.take:∀{ds:List D} {xs:List V} (n:Nat),zx K W ds xs->zx K W (ds.take n) (xs.take n)
 |_,_,0,_=>by simp[zx.nil]
 | [],_,_+1,h=>by rw[h.nil'];exact .nil
 |_::_,_,n+1,h=>by obtain⟨x,r,rfl,q,z⟩:=h.uncons;exact .cons q (z.take n)
theorem zx.drop:∀{ds:List D} {xs:List V} (n:Nat),zx K W ds xs->zx K W (ds.drop n) (xs.drop n)
 |_,_,0,h=>h
 | [],_,_+1,h=>by rw[h.nil'];exact .nil
 |_::_,_,n+1,h=>by obtain⟨x,r,rfl,q,z⟩:=h.uncons;exact z.drop n
theorem zx.ints:∀{ns:List Int} {xs:List V},zx K W (ns.map D.int) xs->xs=ns.map V.int
 | [],_,h=>h.nil'
 |_::_,_,h=>by obtain⟨x,r,rfl,q,z⟩:=h.uncons;unfold Rep at q;rw[q,z.ints];rfl
theorem zx.strs:∀{ns:List Str} {xs:List V},zx K W (ns.map D.str) xs->xs=ns.map V.str
 | [],_,h=>h.nil'
 |_::_,_,h=>by obtain⟨x,r,rfl,q,z⟩:=h.uncons;unfold Rep at q;rw[q,z.strs];rfl
theorem zx.bls:∀{ns:List Bool} {xs:List V},zx K W (ns.map D.bl) xs->xs=ns.map V.bl
 | [],_,h=>h.nil'
 |_::_,_,h=>by obtain⟨x,r,rfl,q,z⟩:=h.uncons;unfold Rep at q;rw[q,z.bls];rfl
theorem Rep.i{i:Int}:Rep K W (.int i) (.int i):=by unfold Rep;rfl
theorem Rep.s:Rep K W (.str x) (.str x):=by unfold Rep;rfl
theorem Rep.b{x:Bool}:Rep K W (.bl x) (.bl x):=by unfold Rep;rfl
theorem Rep.n:Rep K W .non .non:=by unfold Rep;rfl
theorem Rep.t{x:String}:Rep K W (.ty x) (.ty x):=by unfold Rep;rfl
theorem Rep.i'{i:Int}{x:V}(h:Rep K W (.int i) x):x= .int i:=by unfold Rep at h;exact h
theorem Rep.s'{i:Str}{x:V}(h:Rep K W (.str i) x):x= .str i:=by unfold Rep at h;exact h
theorem Rep.b'{i:Bool}{x:V}(h:Rep K W (.bl i) x):x= .bl i:=by unfold Rep at h;exact h
theorem Rep.n'{x:V}(h:Rep K W .non x):x= .non:=by unfold Rep at h;exact h
theorem Rep.cell'{k:Nat}{x:V}(h:Rep K W (.cell k) x):∃a,x= .ref a/\W.b k=some a:=by unfold Rep at h;exact h
theorem Rep.lst'{ds:List D}{x:V}(h:Rep K W (.lst ds) x):∃a xs,x= .ref a/\W.F a=some (.lst xs)/\zx K W ds xs:=by unfold Rep at h;exact h
theorem Rep.tup'{ds:List D}{x:V}(h:Rep K W (.tup ds) x):∃a xs,x= .ref a/\SqT K W.F a xs/\zx K W ds xs:=by unfold Rep at h;exact h
theorem Rep.lst{ds:List D}(h:W.F a=some (.lst xs))(r:zx K W ds xs):Rep K W (.lst ds) (.ref a):=by unfold Rep;exact⟨a,xs,rfl,h,r⟩
theorem Rep.tup{ds:List D}(h:SqT K W.F a xs)(r:zx K W ds xs):Rep K W (.tup ds) (.ref a):=by unfold Rep;exact⟨a,xs,rfl,h,r⟩
theorem Rep.is_non{d:D}{x:V}(h:Rep K W d x):x= .non↔d= .non:=by
 cases d<;>unfold Rep at h
 case non=>simp[h]
 case bl=>simp[h]
 case int=>simp[h]
 case str=>simp[h]
 case ty=>simp[h]
 case cls=>obtain⟨C,_,rfl⟩:=h;simp
 case scr=>obtain⟨a,rfl,_⟩:=h;simp
 case cell=>obtain⟨a,rfl,_⟩:=h;simp
 case tup=>obtain⟨a,xs,rfl,_⟩:=h;simp
 case lst=>obtain⟨a,xs,rfl,_⟩:=h;simp
 case dct=>obtain⟨a,xs,rfl,_⟩:=h;simp
 case dtt=>obtain⟨a,xs,rfl,_⟩:=h;simp
 case obj=>obtain⟨C,a,dx,xs,_,rfl,_⟩:=h;simp
 case exc=>obtain⟨C,a,_,rfl,_⟩:=h;simp
end
def Ctn(K:Frag)(W:Wd)(c:Ct)(o:Option HO):Prop:=match c with
 | .lst ds=>∃xs,o=some (.lst xs)/\zx K W ds xs
 | .dct ks vs=>∃xs,o=some (.dK (ks.zip xs))/\ks.length=xs.length/\zx K W vs xs
 | .dtt ks vs=>∃xs,o=some (.dT (ks.zip xs))/\ks.length=xs.length/\zx K W vs xs
 | .fdct ob ks vs=>∃xs,o=some (.frz ob (.dK (ks.zip xs)))/\ks.length=xs.length/\zx K W vs xs
 | .fdtt ob ks vs=>∃xs,o=some (.frz ob (.dT (ks.zip xs)))/\ks.length=xs.length/\zx K W vs xs
 | .ins c ns vs=>∃C dx xs,clsOf K c=some C/\o=some (.ins C dx (ns.zip xs))/\ns.length=xs.length/\zx K W vs xs
 | .draw=>∃(l:Addr) (ns:List Int) (i b c:Int),o=some (.lst [.ref l,.int i,.int b,.int c])/\W.F l=some (.lst (ns.map V.int))/\0<=i/\0<=b
 | .lam k0 x ln cl q=>∃(c P:Addr) (ps:Array Value),tabIn K x=some (c,P)/\W.b k0=some P/\o=some (.tbl ps)/\(ps= #[]\/∃c',ps=cJ ln cl c'/\W.F c'=some (c8 c' q))
theorem Ctn.mono{W:Wd}{c:Ct}{o:Option HO}(h:W.le W')(r:Ctn K W c o):Ctn K W' c o:=by
 cases c with
 |lst ds=>obtain⟨xs,e,q⟩:=r;exact⟨xs,e,q.mono h⟩
 |dct ks vs=>obtain⟨xs,e,l,q⟩:=r;exact⟨xs,e,l,q.mono h⟩
 |dtt ks vs=>obtain⟨xs,e,l,q⟩:=r;exact⟨xs,e,l,q.mono h⟩
 |fdct ob ks vs=>obtain⟨xs,e,l,q⟩:=r;exact⟨xs,e,l,q.mono h⟩
 |fdtt ob ks vs=>obtain⟨xs,e,l,q⟩:=r;exact⟨xs,e,l,q.mono h⟩
 |ins C ns vs=>obtain⟨C',dx,xs,hc,e,l,q⟩:=r;exact⟨C',dx,xs,hc,e,l,q.mono h⟩
 |draw=>obtain⟨l,ns,i,b,c,e,q,z⟩:=r;exact⟨l,ns,i,b,c,e,h.F _ _ q,z⟩
 |lam k0 x ln cl q=>obtain⟨c,P,ps,e1,e2,e3,e4⟩:=r;exact⟨c,P,ps,e1,h.b _ _ e2,e3,e4.imp id λ⟨c',e5,e6⟩=>⟨c',e5,h.F _ _ e6⟩⟩
theorem Ctn.some{W:Wd}{c:Ct}{o:Option HO}(r:Ctn K W c o):∃u,o=some u:=by
 cases c with
 |lst ds=>obtain⟨xs,e,q⟩:=r;exact⟨_,e⟩
 |dct ks vs=>obtain⟨xs,e,l,q⟩:=r;exact⟨_,e⟩
 |dtt ks vs=>obtain⟨xs,e,l,q⟩:=r;exact⟨_,e⟩
 |fdct ob ks vs=>obtain⟨xs,e,l,q⟩:=r;exact⟨_,e⟩
 |fdtt ob ks vs=>obtain⟨xs,e,l,q⟩:=r;exact⟨_,e⟩
 |ins C ns vs=>obtain⟨C',dx,xs,hc,e,l,q⟩:=r;exact⟨_,e⟩
 |draw=>obtain⟨l,ns,i,b,c,e,q,z⟩:=r;exact⟨_,e⟩
 |lam k0 x ln cl q=>obtain⟨c,P,ps,e1,e2,e3,e4⟩:=r;exact⟨_,e3⟩
structure Rel(K:Frag)(fl:Wd)(W:Wd)(μ:Mu)(H:Hp):Prop where
 sub:cZ W.F H
 fin:∃n,∀k,n<=k->W.b k=none
 cel:∀k c,μ k=some c->∃a,W.b k=some a/\W.F a=none/\Ctn K W c (H a)
 inj:∀k k' c c' a,μ k=some c->μ k'=some c'->W.b k=some a->W.b k'=some a->k=k'
 up:fl.le W
def am(K:Frag)(W:Wd)(ρ:ad)(σ:St):Prop:=ρ.length=σ.length/\∀(i:Nat) d,ρ[i]? = some (some d)->∃x,σ[i]? = some (some x)/\Rep K W d x
section
variable{W:Wd}
theorem Rel.floor{fl':Wd}(r:Rel K fl W μ H)(h:fl'.le W):Rel K fl' W μ H:=⟨r.sub,r.fin,r.cel,r.inj,h⟩
theorem am.mono(h:W.le W')(r:am K W ρ σ):am K W' ρ σ:=⟨r.1,λi d e=>by obtain⟨x,e',q⟩:=r.2 i d e;exact⟨x,e',q.mono h⟩⟩
theorem am.set{i:Nat}{d:D}{x:V}(r:am K W ρ σ)(q:Rep K W d x):am K W (ρ.set i (some d)) (σ.set i (some x)):=⟨by simp[r.1],λj d' e=>by
 by_cases hj:i=j
 .subst hj;by_cases hl:i < ρ.length
  .rw[MZ hl] at e;cases e;exact⟨x,MZ (r.1▸hl),q⟩
  .rw[LZ (by simp;omega)] at e;cases e
 .rw[MT hj] at e;rw[MT hj];exact r.2 j d' e⟩
theorem Rel.less(r:Rel K fl W μ' H)(h:MLe μ μ'):Rel K fl W μ H:=⟨r.sub,r.fin,λk c e=>r.cel k c (h k c e),λk k' c c' a e e'=>r.inj k k' c c' a (h _ _ e) (h _ _ e'),r.up⟩
theorem Rel.newF{p:Addr}{o:HO}(r:Rel K fl W μ H)(hp:H p=none):Rel K fl ⟨W.b,upd W.F p o⟩ μ (upd H p o)/\W.le ⟨W.b,upd W.F p o⟩:=by
 have hF:W.F p=none:=by
  cases e:W.F p with
  |none=>rfl
  |some u=>rw[r.sub _ _ e] at hp;cases hp
 have le:W.le ⟨W.b,upd W.F p o⟩:=⟨λ_ _ h=>h,iC hF⟩;refine⟨⟨λb u e=>?_,r.fin,λk c e=>?_,r.inj,r.up.trans le⟩,le⟩
 .by_cases hb:b=p
  .subst hb;have e':(upd W.F b o) b=some u:=e;rw[zA] at e' ⊢; exact e'
  .have e':(upd W.F p o) b=some u:=e;rw[zE hb] at e' ⊢; exact r.sub _ _ e'
 .obtain⟨a,e1,e2,q⟩:=r.cel k c e;obtain⟨u,eu⟩:=q.some;have ha:a≠p:=zY eu hp;exact⟨a,e1,by show upd W.F p o a=none;rw[zE ha];exact e2,by rw[zE ha];exact q.mono le⟩
theorem Rel.newC{p:Addr}{o:HO}{c:Ct}(r:Rel K fl W μ H)(hp:H p=none)(hc:Ctn K W c (some o)):∃(k:Nat) (W':Wd),μ k=none/\W.le W'/\Rel K fl W' (zO μ k c) (upd H p o)/\W'.b k=some p:=by
 obtain⟨n,hn⟩:=r.fin;have hF:W.F p=none:=by
  cases e:W.F p with
  |none=>rfl
  |some u=>rw[r.sub _ _ e] at hp;cases hp
 have hk:μ n=none:=by
  cases e:μ n with
  |none=>rfl
  |some c=>obtain⟨a,e1,_⟩:=r.cel n c e;rw[hn n (Lx _)] at e1;cases e1
 have le:W.le ⟨λj=>if j=n then some p else W.b j,W.F⟩:=⟨λk a e=>by
  show(if k=n then some p else W.b k)=some a;rw[if_neg (λz=>by rw[z,hn n (Lx _)] at e;cases e)];exact e,λ_ _ h=>h⟩
 refine⟨n,⟨λj=>if j=n then some p else W.b j,W.F⟩,hk,le,⟨λb u e=>?_,⟨n+1,λk hk=>?_⟩,λk c' e=>?_,λk k' c1 c2 a e e' q q'=>?_,r.up.trans le⟩,if_pos rfl⟩
 .have:b≠p:=λz=>by
   have e':W.F b=some u:=e;rw[z,hF] at e';cases e'
  rw[zE this];exact r.sub _ _ e
 .show(if k=n then some p else W.b k)=none;rw[if_neg (by omega)];exact hn k (by omega)
 .by_cases ek:k=n
  .subst ek;rw[zF] at e;cases e;exact⟨p,if_pos rfl,hF,by rw[zA];exact hc.mono le⟩
  .rw[zj ek] at e;obtain⟨a,e1,e2,q⟩:=r.cel k c' e;obtain⟨u,eu⟩:=q.some;have ha:a≠p:=zY eu hp;exact⟨a,by show(if k=n then some p else W.b k)=some a;rw[if_neg ek];exact e1,e2,by rw[zE ha];exact q.mono le⟩
 .have key:∀k c,zO μ n c k=some c->True:=λ_ _ _=>trivial
  have at':∀{j:Nat} {cj:Ct},zO μ n c j=some cj->j≠n->(∃a',W.b j=some a'/\a'≠p):=λ{j cj} ej hj=>by
   rw[zj hj] at ej;obtain⟨a',e1,e2,q⟩:=r.cel j cj ej;obtain⟨u,eu⟩:=q.some;exact⟨a',e1,zY eu hp⟩
  have q1:(if k=n then some p else W.b k)=some a:=q;have q2:(if k'=n then some p else W.b k')=some a:=q';by_cases ek:k=n
  .by_cases ek':k'=n
   .rw[ek,ek']
   .rw[if_pos ek] at q1;rw[if_neg ek'] at q2;obtain⟨a',f1,f2⟩:=at' e' ek';rw[f1] at q2;cases q1;cases q2;exact absurd rfl f2
  .by_cases ek':k'=n
   .rw[if_neg ek] at q1;rw[if_pos ek'] at q2;obtain⟨a',f1,f2⟩:=at' e ek;rw[f1] at q1;cases q2;cases q1;exact absurd rfl f2
   .rw[if_neg ek] at q1;rw[if_neg ek'] at q2;rw[zj ek] at e;rw[zj ek'] at e';exact r.inj k k' _ _ a e e' q1 q2
theorem Rel.setC{k:Nat}{c c':Ct}{o:HO}(r:Rel K fl W μ H)(hk:μ k=some c)(ha:W.b k=some a)(hc:Ctn K W c' (some o)):Rel K fl W (zO μ k c') (upd H a o):=by
 obtain⟨a',e1,e2,_⟩:=r.cel k c hk;rw[ha] at e1;cases e1;refine⟨λb u e=>?_,r.fin,λj d e=>?_,λj j' d d' x e e'=>?_,r.up⟩
 .rw[zE (λz=>by rw[z,e2] at e;cases e)];exact r.sub _ _ e
 .by_cases ek:j=k
  .subst ek;rw[zF] at e;cases e;exact⟨a,ha,e2,by rw[zA];exact hc⟩
  .rw[zj ek] at e;obtain⟨x,f1,f2,q⟩:=r.cel j d e;have hx:x≠a:=λz=>ek (r.inj j k _ _ a e hk (z▸f1) ha)
   exact⟨x,f1,f2,by rw[zE hx];exact q⟩
 .have g:∀{j d},zO μ k c' j=some d->∃d,μ j=some d:=λ{j d} e=>by
   by_cases ek:j=k
   .subst ek;exact⟨_,hk⟩
   .rw[zj ek] at e;exact⟨_,e⟩
  obtain⟨d1,f1⟩:=g e;obtain⟨d2,f2⟩:=g e';exact r.inj j j' _ _ x f1 f2
theorem Rel.freeze{k:Nat}{c:Ct}{o:HO}(r:Rel K fl W μ H)(hk:μ k=some c)(ha:W.b k=some a)(ho:H a=some o):Rel K fl ⟨W.b,upd W.F a o⟩ (dz μ k) H/\W.le ⟨W.b,upd W.F a o⟩:=by
 obtain⟨a',e1,e2,_⟩:=r.cel k c hk;rw[ha] at e1;cases e1;have le:W.le ⟨W.b,upd W.F a o⟩:=⟨λ_ _ h=>h,iC e2⟩;have g:∀{j d},dz μ k j=some d->j≠k/\μ j=some d:=λ{j d} e=>by
  unfold dz at e;by_cases ek:j=k
  .rw[if_pos ek] at e;cases e
  .rw[if_neg ek] at e;exact⟨ek,e⟩
 refine⟨⟨λb u e=>?_,r.fin,λj d e=>?_,λj j' d d' x e e'=>r.inj j j' _ _ x (g e).2 (g e').2,r.up.trans le⟩,le⟩
 .by_cases hb:b=a
  .subst hb;have e':(upd W.F b o) b=some u:=e;rw[zA] at e';cases e';exact ho
  .have e':(upd W.F a o) b=some u:=e;rw[zE hb] at e';exact r.sub _ _ e'
 .obtain⟨hj,ej⟩:=g e;obtain⟨x,f1,f2,q⟩:=r.cel j d ej;have hx:x≠a:=λz=>hj (r.inj j k _ _ a ej hk (z▸f1) ha)
  exact⟨x,f1,by show upd W.F a o x=none;rw[zE hx];exact f2,q.mono le⟩
end
abbrev DK:=D->Mu->Prop
variable{Q:DK}
abbrev DE:=ad->Mu->DK->Prop
variable{we wa wb wv wo:DE}
abbrev DT:=ad->Mu->(Bool->Mu->Prop)->Prop
variable{wc:DT}
abbrev DA:=ad->Mu->(List D->Mu->Prop)->Prop
variable{wk wA:DA}
structure cM where
 nx:ad->Mu->Prop
 rt:DK
 bk:ad->Mu->Prop:=λ_ _=>False
 ct:ad->Mu->Prop:=λ_ _=>False
variable{D':cM}
abbrev DS:=cM->ad->Mu->Prop
abbrev DG:=D->ad->Mu->(ad->Mu->Prop)->Prop
variable{dg:DG}
abbrev DGs:=List D->ad->Mu->(ad->Mu->Prop)->Prop
variable{dgs:DGs}
abbrev DR2:=D->D->Mu->DK->Prop
abbrev DR1:=D->Mu->DK->Prop
abbrev DRs:=List D->Mu->DK->Prop
abbrev DO:=ad->Mu->(Option Int->Mu->Prop)->Prop
abbrev DI:=ad->Mu->(List D->(Mu->Prop)->Mu->Prop)->Prop
variable{di:DI}
abbrev DSp:=List D->Mu->DK->Prop
section
variable(K:Frag)(fl:Wd)
abbrev KV'(W:Wd)(Q:DK)(Q':VK):Prop:=∀W' d μ' x H',W.le W'->Rel K fl W' μ' H'->Rep K W' d x->Q d μ'->Q' x H'
class zR(t:TE)(w:DE):Prop where
 run:∀{W ρ μ σ H Q Q'},Rel K fl W μ H->am K W ρ σ->w ρ μ Q->KV' K fl W Q Q'->t σ H Q'
class bE(t:TT)(w:DT):Prop where
 run:∀{W ρ μ σ H} {Q:Bool->Mu->Prop} {Q':Bool->Hp->Prop},Rel K fl W μ H->am K W ρ σ->w ρ μ Q->(∀W' b μ' H',W.le W'->Rel K fl W' μ' H'->Q b μ'->Q' b H')->t σ H Q'
class aH(t:TA)(w:DA):Prop where
 run:∀{W ρ μ σ H} {Q:List D->Mu->Prop} {Q':List V->Hp->Prop},Rel K fl W μ H->am K W ρ σ->w ρ μ Q->(∀W' ds μ' xs H',W.le W'->Rel K fl W' μ' H'->zx K W' ds xs->Q ds μ'->Q' xs H')->t σ H Q'
structure jR(W:Wd)(D':cM)(D:Ends):Prop where
 nx:∀W' ρ μ σ H,W.le W'->Rel K fl W' μ H->am K W' ρ σ->D'.nx ρ μ->D.nx σ H
 bk:∀W' ρ μ σ H,W.le W'->Rel K fl W' μ H->am K W' ρ σ->D'.bk ρ μ->D.bk σ H
 ct:∀W' ρ μ σ H,W.le W'->Rel K fl W' μ H->am K W' ρ σ->D'.ct ρ μ->D.ct σ H
 rt:∀W' d μ x H,W.le W'->Rel K fl W' μ H->Rep K W' d x->D'.rt d μ->D.rt x H
class bA(t:TS)(w:DS):Prop where
 run:∀{W ρ μ σ H D' D},Rel K fl W μ H->am K W ρ σ->w D' ρ μ->jR K fl W D' D->t D σ H
class cN(g:TG)(dg:DG)(S:outParam (List Nat)):Prop where
 run:∀{W ρ μ σ H d x} {Q:ad->Mu->Prop} {Q':St->Hp->Prop},Rel K fl W μ H->am K W ρ σ->Rep K W d x->dg d ρ μ Q ->
  (∀W' ρ' μ' σ' H',W.le W'->Rel K fl W' μ' H'->am K W' ρ' σ'->σ'.length=σ.length->(∀i,i∉S->σ'[i]? = σ[i]?)->Q ρ' μ'->Q' σ' H')->g x σ H Q'
class iD(g:TGs)(dg:DGs)(S:outParam (List Nat)):Prop where
 run:∀{W ρ μ σ H ds xs} {Q:ad->Mu->Prop} {Q':St->Hp->Prop},Rel K fl W μ H->am K W ρ σ->zx K W ds xs->dg ds ρ μ Q ->
  (∀W' ρ' μ' σ' H',W.le W'->Rel K fl W' μ' H'->am K W' ρ' σ'->σ'.length=σ.length->(∀i,i∉S->σ'[i]? = σ[i]?)->Q ρ' μ'->Q' σ' H')->g xs σ H Q'
class aU(r:R2)(q:DR2):Prop where
 run:∀{W μ H d e x y Q Q'},Rel K fl W μ H->Rep K W d x->Rep K W e y->q d e μ Q->KV' K fl W Q Q'->r x y H Q'
class rY(r:V->Hp->VK->Prop)(q:DR1):Prop where
 run:∀{W μ H d x Q Q'},Rel K fl W μ H->Rep K W d x->q d μ Q->KV' K fl W Q Q'->r x H Q'
class bj(r:List V->Hp->VK->Prop)(q:DRs):Prop where
 run:∀{W μ H ds xs Q Q'},Rel K fl W μ H->zx K W ds xs->q ds μ Q->KV' K fl W Q Q'->r xs H Q'
class fO(t:TO)(w:DO):Prop where
 run:∀{W ρ μ σ H} {Q:Option Int->Mu->Prop} {Q':Option Int->Hp->Prop},Rel K fl W μ H->am K W ρ σ->w ρ μ Q->(∀W' b μ' H',W.le W'->Rel K fl W' μ' H'->Q b μ'->Q' b H')->t σ H Q'
def ItR(W:Wd)(J:It)(ds:List D)(Pm:Mu->Prop):Prop:=∀W1 μ H,W.le W1->Rel K fl W1 μ H->Pm μ->∀i:Nat,(∀d,ds[i]? = some d->J.go i H/\∀x H',J.yld i H x H'->∃W2,W1.le W2/\Rel K fl W2 μ H'/\Rep K W2 d x)/\(ds.length<=i->J.stop i H)
class dA(t:TI)(w:DI):Prop where
 run:∀{W ρ μ σ H} {Q:List D->(Mu->Prop)->Mu->Prop} {Q':It->Hp->Prop},Rel K fl W μ H->am K W ρ σ->w ρ μ Q->(∀W' J ds Pm μ' H',W.le W'->Rel K fl W' μ' H'->ItR K fl W' J ds Pm->Q ds Pm μ'->Q' J H')->t σ H Q'
end
variable{dsp:DSp}
def zb(i:Nat):DE:=λρ μ Q=>match ρ[i]? with
 |some (some d)=>Q d μ
 |_=>False
def dC(d:D):DE:=λ_ μ Q=>Q d μ
section
instance{i:Nat}:zR K fl (av i) (zb i):=⟨λ{W ρ μ σ H Q Q'} r e h k=>by
 unfold zb at h;split at h
 .rename_i d hd;obtain⟨x,ex,q⟩:=e.2 i d hd;exact⟨x,ex,k W d μ x H (.refl W) r q h⟩
 .exact h.elim⟩
instance{i:Int}:zR K fl (tC (.int i)) (dC (.int i)):=⟨λ{W ρ μ σ H Q Q'} r e h k=>k W _ μ _ H (.refl W) r .i h⟩
instance{i:Str}:zR K fl (tC (.str i)) (dC (.str i)):=⟨λ{W ρ μ σ H Q Q'} r e h k=>k W _ μ _ H (.refl W) r .s h⟩
instance{i:Bool}:zR K fl (tC (.bl i)) (dC (.bl i)):=⟨λ{W ρ μ σ H Q Q'} r e h k=>k W _ μ _ H (.refl W) r .b h⟩
instance:zR K fl (tC .non) (dC .non):=⟨λ{W ρ μ σ H Q Q'} r e h k=>k W _ μ _ H (.refl W) r .n h⟩
instance{i:String}:zR K fl (tC (.ty i)) (dC (.ty i)):=⟨λ{W ρ μ σ H Q Q'} r e h k=>k W _ μ _ H (.refl W) r .t h⟩
class jS(K:Frag)(c:Str)(C:Addr):Prop where
 at_:clsOf K c=some C
 cf:fN c=true:=by decide+kernel
end
def dOp(q:DR2)(wa wb:DE):DE:=λρ μ Q=>wa ρ μ λd μ1=>wb ρ μ1 λe μ2=>q d e μ2 Q
def dUn(q:DR1)(wa:DE):DE:=λρ μ Q=>wa ρ μ λd μ1=>q d μ1 Q
def zP(w:DE):DT:=λρ μ Q=>w ρ μ λd μ1=>match d with
 | .bl b=>Q b μ1
 |_=>False
def mJ(t u:DT):DT:=λρ μ Q=>t ρ μ λc μ1=>if c=true then u ρ μ1 Q else Q false μ1
def dOr(t u:DT):DT:=λρ μ Q=>t ρ μ λc μ1=>if c=true then Q true μ1 else u ρ μ1 Q
def eV(t:DT):DT:=λρ μ Q=>t ρ μ λc μ1=>Q (!c) μ1
def fP(ta tb:DE):DE:=λρ μ Q=>zP ta ρ μ λc μ1=>if c=true then tb ρ μ1 Q else Q (.bl false) μ1
def IN(ta tb:DE):DE:=λρ μ Q=>zP ta ρ μ λc μ1=>if c=true then Q (.bl true) μ1 else tb ρ μ1 Q
def mK(ta:DE):DE:=λρ μ Q=>zP ta ρ μ λc μ1=>Q (.bl (!c)) μ1
def dIf(t:DT)(ta tb:DE):DE:=λρ μ Q=>t ρ μ λc μ1=>if c=true then ta ρ μ1 Q else tb ρ μ1 Q
def iE(q q':DR2)(wa wb wc:DE):DE:=λρ μ Q=>wa ρ μ λd μ1=>wb ρ μ1 λe μ2=>q d e μ2 λz μ3=>match z with
 | .bl k=>if k=true then wc ρ μ3 λf μ4=>q' e f μ4 Q else Q (.bl false) μ3
 |_=>False
section
variable{r r':R2}{q q':DR2}{tc:TE}{wc:DE}{t u:TT}{v w:DT}
instance[a:zR K fl ta wa][b:zR K fl tb wb][o:aU K fl r q]:zR K fl (tOp r ta tb) (dOp q wa wb):=⟨λr e h k =>
 a.run r e h λW1 d μ1 x H1 le1 r1 q1 h1=>b.run r1 (e.mono le1) h1 λW2 d' μ2 y H2 le2 r2 q2 h2=>o.run r2 (q1.mono le2) q2 h2 λW3 d3 μ3 z H3 le3 r3 q3 h3=>k W3 d3 μ3 z H3 (le1.trans (le2.trans le3)) r3 q3 h3⟩
instance{r:V->Hp->VK->Prop}{q:DR1}[a:zR K fl ta wa][o:rY K fl r q]:zR K fl (tUn r ta) (dUn q wa):=⟨λr e h k =>
 a.run r e h λW1 d μ1 x H1 le1 r1 q1 h1=>o.run r1 q1 h1 λW3 d3 μ3 z H3 le3 r3 q3 h3=>k W3 d3 μ3 z H3 (le1.trans le3) r3 q3 h3⟩
theorem jT[a:zR K fl ta wa]{W ρ μ σ H}{Q:Bool->Mu->Prop}{Q':Bool->Hp->Prop}(r:Rel K fl W μ H)(e:am K W ρ σ)(h:zP wa ρ μ Q)(k:∀W' b μ' H',W.le W'->Rel K fl W' μ' H'->Q b μ'->Q' b H'):ta σ H λx H'=>∃k,x= .bl k/\Q' k H' :=
 a.run r e h λW1 d μ1 x H1 le1 r1 q1 h1=>by
  cases d<;>first|exact h1.elim|skip
  rename_i b;exact⟨b,q1.b',k W1 b μ1 H1 le1 r1 h1⟩
instance[a:zR K fl ta wa]:bE K fl (fu ta) (zP wa):=⟨λr e h k=>jT r e h k⟩
instance[a:zR K fl ta wa]:bE K fl (tB ta) (zP wa):=⟨λr e h k=>jT r e h k⟩
instance[a:bE K fl t v][b:bE K fl u w]:bE K fl (lE t u) (mJ v w):=⟨λr e h k=>a.run r e h λW1 c μ1 H1 le1 r1 h1=>by
 cases c with
 |true=>exact b.run r1 (e.mono le1) h1 λW2 c2 μ2 H2 le2 r2 h2=>k W2 c2 μ2 H2 (le1.trans le2) r2 h2
 |false=>exact k W1 false μ1 H1 le1 r1 h1⟩
instance[a:bE K fl t v][b:bE K fl u w]:bE K fl (tOr t u) (dOr v w):=⟨λr e h k=>a.run r e h λW1 c μ1 H1 le1 r1 h1=>by
 cases c with
 |false=>exact b.run r1 (e.mono le1) h1 λW2 c2 μ2 H2 le2 r2 h2=>k W2 c2 μ2 H2 (le1.trans le2) r2 h2
 |true=>exact k W1 true μ1 H1 le1 r1 h1⟩
instance[a:bE K fl t v]:bE K fl (lF t) (eV v):=⟨λr e h k=>a.run r e h λW1 c μ1 H1 le1 r1 h1=>k W1 (!c) μ1 H1 le1 r1 h1⟩
instance[a:zR K fl ta wa][b:zR K fl tb wb]:zR K fl (lG ta tb) (fP wa wb):=⟨λr e h k=>jT r e h λW1 c μ1 H1 le1 r1 h1=>by
 cases c with
 |true=>exact b.run r1 (e.mono le1) h1 λW2 c2 μ2 x H2 le2 r2 q2 h2=>k W2 c2 μ2 x H2 (le1.trans le2) r2 q2 h2
 |false=>exact k W1 (.bl false) μ1 _ H1 le1 r1 .b h1⟩
instance[a:zR K fl ta wa]:zR K fl (lH ta) (mK wa):=⟨λr e h k=>jT r e h λW1 c μ1 H1 le1 r1 h1=>k W1 (.bl (!c)) μ1 _ H1 le1 r1 .b h1⟩
instance[a:zR K fl ta wa][b:zR K fl tb wb][c:zR K fl tc wc][o:aU K fl r q][o':aU K fl r' q']:zR K fl (h_ r r' ta tb tc) (iE q q' wa wb wc):=⟨λr e h k =>
 a.run r e h λW1 d μ1 x H1 le1 r1 q1 h1=>b.run r1 (e.mono le1) h1 λW2 d' μ2 y H2 le2 r2 q2 h2=>o.run r2 (q1.mono le2) q2 h2 λW3 d3 μ3 z H3 le3 r3 q3 h3=>by
  cases d3<;>first|exact h3.elim|skip
  rename_i kk;refine⟨kk,q3.b',?_⟩;cases kk with
  |false=>exact k W3 (.bl false) μ3 _ H3 (le1.trans (le2.trans le3)) r3 .b h3
  |true=>exact c.run r3 (e.mono (le1.trans (le2.trans le3))) h3 λW4 d4 μ4 x4 H4 le4 r4 q4 h4=>o'.run r4 (q2.mono (le3.trans le4)) q4 h4 λW5 d5 μ5 x5 H5 le5 r5 q5 h5=>k W5 d5 μ5 x5 H5 (le1.trans (le2.trans (le3.trans (le4.trans le5)))) r5 q5 h5⟩
end
def zm:DA:=λ_ μ Q=>Q [] μ
def za(wa:DE)(wr:DA):DA:=λρ μ Q=>wa ρ μ λd μ1=>wr ρ μ1 λds μ2=>Q (d::ds) μ2
def dTup(w:DA):DE:=λρ μ Q=>w ρ μ λds μ1=>ds.length<=sizeLine/\Q (.tup ds) μ1
def c9(w:DA):DE:=λρ μ Q=>w ρ μ λds μ1=>ds.length<=sizeLine/\Q (.lst ds) μ1
def dB(w:DA):DE:=λρ μ Q=>w ρ μ λds μ1=>ds.length<=sizeLine/\∀k,μ1 k=none->Q (.cell k) (zO μ1 k (.lst ds))
def mL(ks:List Int):DA:=λ_ μ Q=>Q (ks.map D.int) μ
def mM(t:TE):TE:=t
section
variable{t:TA}{w:DA}
instance:aH K fl bL zm:=⟨λ{W ρ μ σ H Q Q'} r e h k=>k W [] μ [] H (.refl W) r .nil h⟩
instance[a:zR K fl ta wa][b:aH K fl t w]:aH K fl (cA ta t) (za wa w):=⟨λr e h k =>
 a.run r e h λW1 d μ1 x H1 le1 r1 q1 h1=>b.run r1 (e.mono le1) h1 λW2 ds μ2 xs H2 le2 r2 q2 h2=>k W2 (d::ds) μ2 (x::xs) H2 (le1.trans le2) r2 (.cons (q1.mono le2) q2) h2⟩
theorem zx.of_ints{W:Wd}:∀ns:List Int,zx K W (ns.map D.int) (ns.map V.int)
 | []=> .nil
 |_::r=> .cons .i (zx.of_ints r)
theorem zx.of_strs{W:Wd}:∀ns:List Str,zx K W (ns.map D.str) (ns.map V.str)
 | []=> .nil
 |_::r=> .cons .s (zx.of_strs r)
instance{ks:List Int}:aH K fl (mB ks) (mL ks):=⟨λ{W ρ μ σ H Q Q'} r e h k=>k W _ μ _ H (.refl W) r (.of_ints ks) h⟩
instance[a:aH K fl t w]:zR K fl (lX t) (dTup w):=⟨λr e h k=>a.run r e h λW1 ds μ1 xs H1 le1 r1 q1 h1=>⟨by rw[q1.length];exact h1.1,λp hp=>by
 obtain⟨r2,le2⟩:=r1.newF (o:= .tup xs) hp;exact k _ _ _ _ _ (le1.trans le2) r2 (.tup (SqT.of zA) (q1.mono le2)) h1.2⟩⟩
instance[a:aH K fl t w]:zR K fl (jy t) (c9 w):=⟨λr e h k=>a.run r e h λW1 ds μ1 xs H1 le1 r1 q1 h1=>⟨by rw[q1.length];exact h1.1,λp hp=>by
 obtain⟨r2,le2⟩:=r1.newF (o:= .lst xs) hp;exact k _ _ _ _ _ (le1.trans le2) r2 (.lst zA (q1.mono le2)) h1.2⟩⟩
theorem Du{W:Wd}{p:Addr}{ds:List D}{Q':VK}(le1:W.le W1)(r1:Rel K fl W1 μ1 H1)(q1:zx K W1 ds xs)(hp:H1 p=none)(k:KV' K fl W Q Q')(h:∀k,μ1 k=none->Q (.cell k) (zO μ1 k (.lst ds))):Q' (.ref p) (upd H1 p (.lst xs)):=by
 obtain⟨c,W2,hk,le2,r2,e2⟩:=r1.newC (o:= .lst xs) (c:= .lst ds) hp ⟨xs,rfl,q1⟩;exact k W2 (.cell c) _ _ _ (le1.trans le2) r2 (by unfold Rep;exact⟨p,rfl,e2⟩) (h c hk)
instance[a:aH K fl t w]:zR K fl (mM (jy t)) (dB w):=⟨λr e h k=>a.run r e h λW1 ds μ1 xs H1 le1 r1 q1 h1=>⟨by rw[q1.length];exact h1.1,λp hp=>Du le1 r1 q1 hp k h1.2⟩⟩
end
def aj:DS:=λD ρ μ=>D.nx ρ μ
def zJ(t u:DS):DS:=λD ρ μ=>t {D with nx:=u D} ρ μ
def IP:DS:=λD ρ μ=>D.bk ρ μ
def IQ:DS:=λD ρ μ=>D.ct ρ μ
def ak(w:DE):DS:=λD ρ μ=>w ρ μ λ_ μ1=>D.nx ρ μ1
def al(w:DE):DS:=λD ρ μ=>w ρ μ D.rt
def IR:DS:=λD _ μ=>D.rt .non μ
def ah(c:DT)(t u:DS):DS:=λD ρ μ=>c ρ μ λb μ1=>if b=true then t D ρ μ1 else u D ρ μ1
def aV:DS:=λ_ _ _=>False
def zp(i:Nat):DG:=λd ρ μ Q=>Q (ρ.set i (some d)) μ
def eW:DGs:=λds ρ μ Q=>ds=[]/\Q ρ μ
def a_(g:DG)(gs:DGs):DGs:=λds ρ μ Q=>match ds with
 |d::r=>g d ρ μ λρ' μ'=>gs r ρ' μ' Q
 | []=>False
def dX(n:Nat)(gs:DGs):DG:=λd ρ μ Q=>match d with
 | .tup ds=>ds.length=n/\gs ds ρ μ Q
 |_=>False
def ac(w:DE)(g:DG):DS:=λD ρ μ=>w ρ μ λd μ1=>g d ρ μ1 D.nx
def dPar(i j:Nat)(w:DA):DS:=λD ρ μ=>w ρ μ λds μ1=>match ds with
 | [d,e]=>D.nx ((ρ.set i (some d)).set j (some e)) μ1
 |_=>False
def IS(i:Nat)(w:DE)(q:DR2):DS:=λD ρ μ=>zb i ρ μ λx _=>w ρ μ λy μ1=>q x y μ1 λz μ2=>D.nx (ρ.set i (some z)) μ2
def rZ(i:Nat)(t:TS):TS:=t
theorem Dv{sts:List Stmt}{t:TS}(i:Nat)(h:WSs X sts t):WSs X sts (rZ i t):=h
theorem r9{e:Expr}{t:TE}(h:WE X e t):WE X e (mM t):=h
def dY(μ:Mu)(d:D)(Q:DK):Prop:=match d with
 | .cell k=>match μ k with
  |some (.lst ds)=>Q (.lst ds) (dz μ k)
  |some (.dct ks vs)=>Q (.dct ks vs) (dz μ k)
  |some (.dtt ks vs)=>Q (.dtt ks vs) (dz μ k)
  |some (.ins C ns vs)=>Q (.obj C ns vs) (dz μ k)
  |_=>False
 |_=>False
def mN(i:Nat)(w:DS):DS:=λD ρ μ=>match ρ[i]? with
 |some (some d)=>dY μ d λd' μ'=>w D (ρ.set i (some d')) μ'
 |_=>False
section
variable{t u:TS}{v w:DS}
theorem jR.mono{W:Wd}{D:Ends}(le:W.le W')(h:jR K fl W D' D):jR K fl W' D' D :=
 ⟨λW2 ρ μ σ H l=>h.nx W2 ρ μ σ H (le.trans l),λW2 ρ μ σ H l=>h.bk W2 ρ μ σ H (le.trans l),λW2 ρ μ σ H l=>h.ct W2 ρ μ σ H (le.trans l),λW2 ρ μ σ H l=>h.rt W2 ρ μ σ H (le.trans l)⟩
instance:bA K fl lI aj:=⟨λ{W ρ μ σ H D' D} r e h k=>k.nx W ρ μ σ H (.refl W) r e h⟩
instance:bA K fl lK aV:=⟨λr e h k=>h.elim⟩
instance[a:bA K fl t v][b:bA K fl u w]:bA K fl (dh t u) (zJ v w):=⟨λr e h k=>a.run r e h ⟨λW1 ρ1 μ1 σ1 H1 le1 r1 e1 h1=>b.run r1 e1 h1 (k.mono le1),k.bk,k.ct,k.rt⟩⟩
instance[a:zR K fl ta wa]:bA K fl (lJ ta) (ak wa):=⟨λr e h k=>a.run r e h λW1 d μ1 x H1 le1 r1 q1 h1=>k.nx W1 _ μ1 _ H1 le1 r1 (e.mono le1) h1⟩
instance[a:zR K fl ta wa]:bA K fl (fm ta) (al wa):=⟨λr e h k=>a.run r e h λW1 d μ1 x H1 le1 r1 q1 h1=>k.rt W1 d μ1 x H1 le1 r1 q1 h1⟩
instance{c:TT}[a:bE K fl c wc][x:bA K fl t v][y:bA K fl u w]:bA K fl (jq c t u) (ah wc v w):=⟨λr e h k=>a.run r e h λW1 b μ1 H1 le1 r1 h1=>by
 cases b with
 |true=>exact x.run r1 (e.mono le1) h1 (k.mono le1)
 |false=>exact y.run r1 (e.mono le1) h1 (k.mono le1)⟩
instance{i:Nat}:cN K fl (cz i) (zp i) [i]:=⟨λ{W ρ μ σ H d x Q Q'} r e q h k=>k W _ μ _ H (.refl W) r (e.set q) (by simp) (λj hj=>by rw[MT (λz=>hj (by simp[z]))]) h⟩
instance:iD K fl lM eW []:=⟨λ{W ρ μ σ H ds xs Q Q'} r e q h k=>by obtain⟨rfl,h⟩:=h;exact⟨q.nil',k W _ μ _ H (.refl W) r e rfl (λ_ _=>rfl) h⟩⟩
instance{S':List Nat}[a:cN K fl g dg S][b:iD K fl gs dgs S']:iD K fl (lN g gs) (a_ dg dgs) (S++S'):=⟨λ{W ρ μ σ H ds xs Q Q'} r e q h k=>by
 cases ds with
 |nil=>exact h.elim
 |cons d ds =>
  obtain⟨x,xs,rfl,q1,q2⟩:=q.uncons;exact⟨x,xs,rfl,a.run r e q1 h λW1 ρ1 μ1 σ1 H1 le1 r1 e1 l1 s1 h1=>b.run r1 e1 (q2.mono le1) h1 λW2 ρ2 μ2 σ2 H2 le2 r2 e2 l2 s2 h2=>k W2 ρ2 μ2 σ2 H2 (le1.trans le2) r2 e2 (l2.trans l1) (λi hi=>by rw[s2 i (λz=>hi (L8 _ z)),s1 i (λz=>hi (LL _ z))]) h2⟩⟩
instance{n:Nat}[b:iD K fl gs dgs S]:cN K fl (js K n gs) (dX n dgs) S:=⟨λ{W ρ μ σ H d x Q Q'} r e q h k=>by
 cases d<;>first|exact h.elim|skip
 obtain⟨a,xs,rfl,hs,q1⟩:=q.tup';exact⟨a,xs,rfl,hs.sm r.sub,by rw[q1.length];exact h.1,b.run r e q1 h.2 k⟩⟩
instance[a:zR K fl ta wa][b:cN K fl g dg S]:bA K fl (bt ta g) (ac wa dg):=⟨λr e h k=>a.run r e h λW1 d μ1 x H1 le1 r1 q1 h1=>b.run r1 (e.mono le1) q1 h1 λW2 ρ2 μ2 σ2 H2 le2 r2 e2 _ _ h2=>k.nx W2 ρ2 μ2 σ2 H2 (le1.trans le2) r2 e2 h2⟩
theorem r_{W:Wd}{d:D}{x:V}(r:Rel K fl W μ H)(q:Rep K W d x)(h:dY μ d Q):∃W' d' μ',W.le W'/\Rel K fl W' μ' H/\Rep K W' d' x/\Q d' μ':=by
 unfold dY at h;split at h
 .rename_i k;obtain⟨a,rfl,hb⟩:=q.cell';split at h
  .rename_i ds hk;obtain⟨a',e1,e2,xs,e3,q3⟩:=r.cel k _ hk;rw[hb] at e1;cases e1;obtain⟨r2,le2⟩:=r.freeze hk hb e3;exact⟨_,_,_,le2,r2,.lst zA (q3.mono le2),h⟩
  .rename_i ks vs hk;obtain⟨a',e1,e2,xs,e3,l3,q3⟩:=r.cel k _ hk;rw[hb] at e1;cases e1;obtain⟨r2,le2⟩:=r.freeze hk hb e3;exact⟨_,_,_,le2,r2,by unfold Rep;exact⟨a,xs,rfl,zA,l3,q3.mono le2⟩,h⟩
  .rename_i ks vs hk;obtain⟨a',e1,e2,xs,e3,l3,q3⟩:=r.cel k _ hk;rw[hb] at e1;cases e1;obtain⟨r2,le2⟩:=r.freeze hk hb e3;exact⟨_,_,_,le2,r2,by unfold Rep;exact⟨a,xs,rfl,zA,l3,q3.mono le2⟩,h⟩
  .rename_i C ns vs hk;obtain⟨a',e1,e2,C',dx,xs,hc,e3,l3,q3⟩:=r.cel k _ hk;rw[hb] at e1;cases e1;obtain⟨r2,le2⟩:=r.freeze hk hb e3;exact⟨_,_,_,le2,r2,by unfold Rep;exact⟨C',a,dx,xs,hc,rfl,zA,l3,q3.mono le2⟩,h⟩
  .exact h.elim
 .exact h.elim
theorem am.set_left{W:Wd}{i:Nat}{d:D}{x:V}(r:am K W ρ σ)(hx:σ[i]? = some (some x))(q:Rep K W d x):am K W (ρ.set i (some d)) σ:=⟨by simp[r.1],λj d' e=>by
 by_cases hj:i=j
 .subst hj;by_cases hl:i < ρ.length
  .rw[MZ hl] at e;cases e;exact⟨x,hx,q⟩
  .rw[LZ (by simp;omega)] at e;cases e
 .rw[MT hj] at e;exact r.2 j d' e⟩
instance{i:Nat}[a:bA K fl t v]:bA K fl (rZ i t) (mN i v):=⟨λ{W ρ μ σ H D' D} r e h k=>by
 unfold mN at h;split at h
 .rename_i d hd;obtain⟨x,ex,qx⟩:=e.2 i d hd;obtain⟨W',d',μ',le,r',q',h'⟩:=r_ r qx h;exact a.run r' ((e.mono le).set_left ex q') h' (k.mono le)
 .exact h.elim⟩
end
def fQ(g:DG)(wb:DS)(D:cM)(Pm:Mu->Prop):List L2.D->ad->Mu->Prop
 | [],ρ,μ=>Pm μ/\D.nx ρ μ
 |d::r,ρ,μ=>Pm μ/\g d ρ μ λρ2 μ2=>wb {D with nx:=fQ g wb D Pm r,ct:=fQ g wb D Pm r,bk:=D.nx} ρ2 μ2
def bN(wi:DI)(g:DG)(wb:DS):DS:=λD ρ μ=>wi ρ μ λds Pm μ1=>fQ g wb D Pm ds ρ μ1
section
variable{tb:TS}{wb:DS}
instance[a:dA K fl wi di][b:cN K fl g dg S][c:bA K fl tb wb]:bA K fl (lP wi g tb) (bN di dg wb):=⟨λ{W ρ μ σ H D' D} r e h k =>
 a.run r e h λW1 J ds Pm μ1 H1 le1 r1 it1 h1=>by
  refine⟨λi m σ H=>∃W2 ρ2 μ2,W1.le W2/\Rel K fl W2 μ2 H/\am K W2 ρ2 σ/\m=ds.length - i/\fQ dg wb D' Pm (ds.drop i) ρ2 μ2,⟨_,W1,ρ,μ1,.refl _,r1,e.mono le1,rfl,h1⟩,?_⟩;rintro i m σ2 H2 ⟨W2,ρ2,μ2,le2,r2,e2,rfl,h2⟩;have hPm:Pm μ2:=by
   cases hdr:ds.drop i with
   |nil=>rw[hdr] at h2;exact h2.1
   |cons _ _=>rw[hdr] at h2;exact h2.1
  obtain⟨go,stop⟩:=it1 W2 μ2 H2 le2 r2 hPm i;by_cases hi:i < ds.length
  .refine .inr ?_;have hd:ds[i]? = some ds[i]:=L3 hi;obtain⟨g1,g2⟩:=go _ hd;rw[Mt hi] at h2;obtain⟨_,h2⟩:=h2;refine⟨g1,λσ' H'=>∃W3 ρ3 μ3,W1.le W3/\Rel K fl W3 μ3 H'/\am K W3 ρ3 σ'/\fQ dg wb D' Pm (ds.drop (i+1)) ρ3 μ3,λσ' H' ⟨W3,ρ3,μ3,l3,r3,e3,h3⟩=>⟨ds.length - (i+1),by omega,W3,ρ3,μ3,l3,r3,e3,rfl,h3⟩,λx H' y=>?_⟩;obtain⟨W3,le3,r3,q3⟩:=g2 x H' y;refine b.run r3 (e2.mono le3) q3 h2 λW4 ρ4 μ4 σ4 H4 le4 r4 e4 _ _ h4=>c.run r4 e4 h4 ⟨λW5 ρ5 μ5 σ5 H5 le5 r5 e5 h5=>?_,λW5 ρ5 μ5 σ5 H5 le5 r5 e5 h5=>?_,λW5 ρ5 μ5 σ5 H5 le5 r5 e5 h5=>?_,λW5 d5 μ5 x5 H5 le5 r5 e5 h5=>?_⟩
   .exact⟨W5,ρ5,μ5,le2.trans (le3.trans (le4.trans le5)),r5,e5,h5⟩
   .exact k.nx W5 ρ5 μ5 σ5 H5 (le1.trans (le2.trans (le3.trans (le4.trans le5)))) r5 e5 h5
   .exact⟨W5,ρ5,μ5,le2.trans (le3.trans (le4.trans le5)),r5,e5,h5⟩
   .exact k.rt W5 d5 μ5 x5 H5 (le1.trans (le2.trans (le3.trans (le4.trans le5)))) r5 e5 h5
  .rw[ML (by omega)] at h2;exact .inl ⟨stop (by omega),k.nx W2 ρ2 μ2 σ2 H2 (le1.trans le2) r2 e2 h2.2⟩⟩
end
def cO(ρ:ad)(fr:List Nat):ad:=fr.map λj=>(ρ[j]?).join
def bO(g:DG)(wc:DT)(we:DE)(ρb:ad)(Pm:Mu->Prop)(Fin:List D->Mu->Prop):List D->List D->Mu->Prop
 | [],ys,μ=>Pm μ/\Fin ys μ
 |d::r,ys,μ=>Pm μ/\ys.length < sizeLine/\g d ρb μ λρ2 μ2=>wc ρ2 μ2 λb μ3=>if b=true then we ρ2 μ3 λv μ4=>bO g wc we ρb Pm Fin r (ys++[v]) μ4 else bO g wc we ρb Pm Fin r ys μ3
def aD:DT:=λ_ μ Q=>Q true μ
instance:bE K fl mw aD:=⟨λ{W ρ μ σ H Q Q'} r e h k=>k W _ μ H (.refl W) r h⟩
def aY(own:List Str)(fr:List Nat)(S:List Nat)(wi:DI)(g:DG)(wc:DT)(we:DE):DE:=λρ μ Q=>(S.all λi=>decide (i < own.length))=true/\wi ρ μ λds Pm μ1 =>
 bO g wc we (LF own.length none++cO ρ fr) Pm (λys μ2=>Q (.lst ys) μ2) ds [] μ1
def IT(own:List Str)(fr:List Nat)(S:List Nat)(wi:DI)(g:DG)(wc:DT)(we:DE):DE:=λρ μ Q=>(S.all λi=>decide (i < own.length))=true/\wi ρ μ λds Pm μ1 =>
 bO g wc we (LF own.length none++cO ρ fr) Pm (λys μ2=>∀k,μ2 k=none->Q (.cell k) (zO μ2 k (.lst ys))) ds [] μ1
section
theorem am.comp{W:Wd}(e:am K W ρ σ)(own:List Str)(fr:List Nat):am K W (LF own.length none++cO ρ fr) (own.map (λ_=>none)++bx σ fr):=by
 refine⟨by simp[cO,bx],λi d h=>?_⟩;by_cases hi:i < own.length
 .rw[Me (by simp;exact hi),Oz] at h;rw[if_pos hi] at h;cases h
 .rw[Mc (by simp;omega)] at h;rw[Mc (by simp;omega)];simp only[NF,cO,L4] at h;simp only[L0,bx,L4];cases hj:fr[i - own.length]? with
  |none=>rw[hj] at h;cases h
  |some j =>
   rw[hj] at h;simp only[Nw,Nu] at h ⊢;cases hd:ρ[j]? with
   |none=>rw[hd] at h;cases h
   |some o =>
    rw[hd] at h;obtain⟨x,hx,q⟩:=e.2 j d (by rw[hd];simpa using h);exact⟨x,by rw[hx];rfl,q⟩
theorem Dw(own:List Str)(fr:List Nat)[b:cN K fl g dg S][c:bE K fl tc wc][v:zR K fl te we]{ds:List D}{Fin:List D->Mu->Prop}{Fin':List V->Hp->Prop}(e:am K W1 ρ σ)(r1:Rel K fl W1 μ1 H1)(it1:ItR K fl W1 J ds Pm)
  (hS:(S.all λi=>decide (i < own.length))=true)(h:bO dg wc we (LF own.length none++cO ρ fr) Pm Fin ds [] μ1)
  (hF:∀W2 ys μ2 xs H2,W1.le W2->Rel K fl W2 μ2 H2->zx K W2 ys xs->Fin ys μ2->Fin' xs H2) :
  ∃W:Nat->Nat->List V->Hp->Prop,(∃m,W 0 m [] H1)/\mx J g tc te (own.map (λ_=>none)++bx σ fr) Fin' W:=by
 refine⟨λi m xs H=>∃W2 ys μ2,W1.le W2/\Rel K fl W2 μ2 H/\zx K W2 ys xs/\m=ds.length - i/\bO dg wc we (LF own.length none++cO ρ fr) Pm Fin (ds.drop i) ys μ2,⟨_,W1,[],μ1,.refl _,r1,.nil,rfl,h⟩,?_⟩;rintro i m xs H2 ⟨W2,ys,μ2,le2,r2,q2,rfl,h2⟩;have hPm:Pm μ2:=by
  cases hdr:ds.drop i with
  |nil=>rw[hdr] at h2;exact h2.1
  |cons _ _=>rw[hdr] at h2;exact h2.1
 obtain⟨go,stop⟩:=it1 W2 μ2 H2 le2 r2 hPm i;by_cases hi:i < ds.length
 .refine .inr ?_;have hd:ds[i]? = some ds[i]:=L3 hi;obtain⟨g1,g2⟩:=go _ hd;rw[Mt hi] at h2;obtain⟨_,hz,h2⟩:=h2;refine⟨g1,by rw[q2.length];exact hz,λxs' H'=>∃W3 ys3 μ3,W1.le W3/\Rel K fl W3 μ3 H'/\zx K W3 ys3 xs'/\bO dg wc we (LF own.length none++cO ρ fr) Pm Fin (ds.drop (i+1)) ys3 μ3,λxs' H' ⟨W3,ρ3,μ3,l3,r3,e3,h3⟩=>⟨ds.length - (i+1),by omega,W3,ρ3,μ3,l3,r3,e3,rfl,h3⟩,λx H' y=>?_⟩;obtain⟨W3,le3,r3,q3⟩:=g2 x H' y;refine b.run r3 (((e.comp own fr).mono le2).mono le3) q3 h2 λW4 ρ4 μ4 σ4 H4 le4 r4 e4 l4 s4 h4=>⟨⟨l4.symm,λj v hj=>?_⟩,?_⟩
  .by_cases hjS:j∈S
   .have:j < own.length:=of_decide_eq_true (Mp.mp hS j hjS);rw[Me (by simp;exact this),L4,L3 this] at hj;cases hj
   .rw[s4 j hjS];exact hj
  .refine c.run r4 e4 h4 λW5 bb μ5 H5 le5 r5 h5=>?_
   cases bb with
   |true=>exact v.run r5 (e4.mono le5) h5 λW6 d6 μ6 x6 H6 le6 r6 q6 h6=>⟨W6,_,μ6,le2.trans (le3.trans (le4.trans (le5.trans le6))),r6,(q2.mono (le3.trans (le4.trans (le5.trans le6)))).append (.cons q6 .nil),h6⟩
   |false=>exact⟨W5,ys,μ5,le2.trans (le3.trans (le4.trans le5)),r5,q2.mono (le3.trans (le4.trans le5)),h5⟩
 .rw[ML (by omega)] at h2;exact .inl ⟨stop (by omega),hF W2 ys μ2 xs H2 le2 r2 q2 h2.2⟩
instance{own:List Str}[a:dA K fl wi di][b:cN K fl g dg S][c:bE K fl tc wc][v:zR K fl te we]:zR K fl (im own fr wi g tc te) (aY own fr S di dg wc we):=⟨λ{W ρ μ σ H Q Q'} r e h k =>
 a.run r e h.2 λW1 J ds Pm μ1 H1 le1 r1 it1 h1=>Dw own fr (e.mono le1) r1 it1 h.1 h1 λW2 ys μ2 xs H2 le2 r2 q2 h2 p hp=>by
  obtain⟨r3,le3⟩:=r2.newF (o:= .lst xs) hp;exact k _ _ _ _ _ (le1.trans (le2.trans le3)) r3 (.lst zA (q2.mono le3)) h2⟩
end
def lift(K:Frag)(dsp:DSp):Sp:=λvs H Q _=>∃fl W μ ds Q0,Rel K fl W μ H/\zx K W ds vs/\dsp ds μ Q0/\KV' K fl W Q0 Q
def dCall(dsp:DSp)(w:DA):DE:=λρ μ Q=>w ρ μ λds μ1=>dsp ds μ1 Q
instance{E:XK}{t:TA}{w:DA}[a:aH K fl t w]:zR K fl (ib (lift K dsp) [] E t) (dCall dsp w):=⟨λ{W ρ μ σ H Q Q'} r e h k =>
 a.run r e h λW1 ds μ1 xs H1 le1 r1 q1 h1=>⟨fl,W1,μ1,ds,Q,r1,by rw[MW];exact q1,h1,λW2 d μ2 x H2 le2=>k W2 d μ2 x H2 (le1.trans le2)⟩⟩
def jU(N:List Str)(ds:List D):ad:=ds.map some++LF (N.length - ds.length) none
theorem am.start{W:Wd}{ds:List D}{vs:List V}(h:zx K W ds vs):am K W (jU N ds) (start N vs):=by
 refine⟨by simp[jU,rb,h.length],λi d e=>?_⟩;unfold jU at e;rw[rb];by_cases hi:i < ds.length
 .rw[Me (by simp;exact hi),L4,L3 hi] at e;simp only[Nw,Nu] at e;obtain⟨x,hx,q⟩:=h.get (i:=i) (d:=d) (by rw[L3 hi,e]);exact⟨x,by rw[Me (by simp[h.length];exact hi),L4,hx];rfl,q⟩
 .rw[Mc (by simp;omega),Oz] at e;split at e<;>cases e
section
end
section
end
def af(μ:Mu):D->Option (List D)
 | .lst ds=>some ds
 | .cell k=>match μ k with
  |some (.lst ds)=>some ds
  |_=>none
 |_=>none
def aZ(μ:Mu):D->Option (List D)
 | .tup ds=>some ds
 |d=>af μ d
section
variable{W:Wd}{d:D}{x:V}{ds:List D}
theorem cQ(r:Rel K fl W μ H)(q:Rep K W d x)(h:af μ d=some ds):∃a xs,x= .ref a/\H a=some (.lst xs)/\zx K W ds xs:=by
 unfold af at h;split at h
 .cases h;obtain⟨a,xs,rfl,e,z⟩:=q.lst';exact⟨a,xs,rfl,r.sub _ _ e,z⟩
 .rename_i k;obtain⟨a,rfl,hb⟩:=q.cell';split at h
  .rename_i ds' hk;cases h;obtain⟨a',e1,e2,xs,e3,q3⟩:=r.cel k _ hk;rw[hb] at e1;cases e1;exact⟨a,xs,rfl,e3,q3⟩
  .cases h
 .cases h
theorem fR(r:Rel K fl W μ H)(q:Rep K W d x)(h:aZ μ d=some ds):∃a xs,x= .ref a/\(SqL K H a xs\/SqT K H a xs)/\zx K W ds xs:=by
 unfold aZ at h;split at h
 .cases h;obtain⟨a,xs,rfl,e,z⟩:=q.tup';exact⟨a,xs,rfl,.inr (e.sm r.sub),z⟩
 .obtain⟨a,xs,rfl,e,z⟩:=cQ r q h;exact⟨a,xs,rfl,.inl (SqL.of e),z⟩
end
section
end
def Dx:R2:=λx y H Q=>∃i j,x= .str i/\y= .str j/\i.length+j.length<=sizeLine/\Q (.str (i++j)) H
def Dy:R2:=rI0 λi j=> .int (i+j)
def sd(K:Frag):R2:=λx y H Q=>Dy x y H Q\/Dx x y H Q\/qI x y H Q\/qr K x y H Q
theorem a7(K:Frag)(h:X.K=K:=by rfl):OpR X (binaryOp .Add) (sd K):=h▸jv.or (Bb.or (B4.or BM))
def ay:DR2:=λd e μ Q=>match d,e with
 | .int i,.int j=>Q (.int (i+j)) μ
 | .str a,.str b=>a.length+b.length<=sizeLine/\Q (.str (a++b)) μ
 | .tup a,.tup b=>a≠[]/\a.length+b.length<=sizeLine/\Q (.tup (a++b)) μ
 |d,e=>∃a b,af μ d=some a/\af μ e=some b/\a.length+b.length<=sizeLine/\Q (.lst (a++b)) μ
instance:aU K fl (sd K) ay:=⟨λ{W μ H d e x y Q Q'} r q1 q2 h k=>by
 unfold ay at h;split at h
 .rw[q1.i',q2.i'];exact .inl ⟨_,_,rfl,rfl,k _ _ _ _ _ (.refl _) r .i h⟩
 .rw[q1.s',q2.s'];exact .inr (.inl ⟨_,_,rfl,rfl,h.1,k _ _ _ _ _ (.refl _) r .s h.2⟩)
 .rename_i a b;obtain⟨p,xs,rfl,s1,z1⟩:=q1.tup';obtain⟨p',ys,rfl,s2,z2⟩:=q2.tup';obtain⟨hn,hz,h⟩:=h;refine .inr (.inr (.inr ⟨p,p',xs,ys,rfl,rfl,s1.sm r.sub,s2.sm r.sub,λz=>?_,by rw[z1.length,z2.length];exact hz,λz=>?_,λ_ q hq=>?_⟩))
  .have:=z1.length;rw[z] at this;exact hn (OC.mp this.symm)
  .have:=z2.length;rw[z] at this;have e:b=[]:=OC.mp this.symm;subst e;rw[MW] at h;exact k _ _ _ _ _ (.refl _) r q1 h
  .obtain⟨r2,le2⟩:=r.newF (o:= .tup (xs++ys)) hq;exact k _ _ _ _ _ le2 r2 (.tup (SqT.of zA) ((z1.mono le2).append (z2.mono le2))) h
 .obtain⟨a,b,e1,e2,hz,h⟩:=h;obtain⟨p,xs,rfl,s1,z1⟩:=cQ r q1 e1;obtain⟨p',ys,rfl,s2,z2⟩:=cQ r q2 e2;refine .inr (.inr (.inl ⟨p,p',xs,ys,rfl,rfl,s1,s2,by rw[z1.length,z2.length];exact hz,λq hq=>?_⟩));obtain⟨r2,le2⟩:=r.newF (o:= .lst (xs++ys)) hq;exact k _ _ _ _ _ le2 r2 (.lst zA ((z1.mono le2).append (z2.mono le2))) h⟩
def dI(C:Int->Int->Prop)(g:Int->Int->D):DR2:=λd e μ Q=>match d,e with
 | .int i,.int j=>C i j/\Q (g i j) μ
 |_,_=>False
def dI0(g:Int->Int->D):DR2:=λd e μ Q=>match d,e with
 | .int i,.int j=>Q (g i j) μ
 |_,_=>False
section
theorem se{C:Int->Int->Prop}{g:Int->Int->V}{g':Int->Int->D}(hg:∀W i j,Rep K W (g' i j) (g i j)):aU K fl (rI C g) (dI C g'):=⟨λ{W μ H d e x y Q Q'} r q1 q2 h k=>by
 unfold dI at h;split at h
 .rw[q1.i',q2.i'];exact⟨_,_,rfl,rfl,h.1,k _ _ _ _ _ (.refl _) r (hg _ _ _) h.2⟩
 .exact h.elim⟩
theorem iF{g:Int->Int->V}{g':Int->Int->D}(hg:∀W i j,Rep K W (g' i j) (g i j)):aU K fl (rI0 g) (dI0 g'):=⟨λ{W μ H d e x y Q Q'} r q1 q2 h k=>by
 unfold dI0 at h;split at h
 .rw[q1.i',q2.i'];exact⟨_,_,rfl,rfl,k _ _ _ _ _ (.refl _) r (hg _ _ _) h⟩
 .exact h.elim⟩
end
def eX:DR2:=dI0 λi j=> .int (i - j)
def jV:DR2:=dI fE λi j=> .int (i / j)
def mO:DR2:=dI (λ_ j=>0 < j) λi j=> .int (i % j)
def IU:DR2:=dI ju λi j=> .int (i^j.toNat)
def dLt:DR2:=dI0 λi j=> .bl (decide (i < j))
def dLe:DR2:=dI0 λi j=> .bl (decide (i<=j))
def dGt:DR2:=dI0 λi j=> .bl (decide (j < i))
def dGe:DR2:=dI0 λi j=> .bl (decide (j<=i))
def c_:DR1:=λd μ Q=>match d with
 | .int i=>Q (.int (-i)) μ
 |_=>False
section
instance:aU K fl (rI0 λi j=> .int (i - j)) eX:=iF λ_ _ _=> .i
instance:aU K fl (rI fE λi j=> .int (i / j)) jV:=se λ_ _ _=> .i
instance:aU K fl (rI (λ_ j=>0 < j) λi j=> .int (i % j)) mO:=se λ_ _ _=> .i
instance:aU K fl (rI0 λi j=> .bl (decide (i < j))) dLt:=iF λ_ _ _=> .b
instance:aU K fl (rI0 λi j=> .bl (decide (i<=j))) dLe:=iF λ_ _ _=> .b
instance:aU K fl (rI0 λi j=> .bl (decide (j < i))) dGt:=iF λ_ _ _=> .b
instance:aU K fl (rI0 λi j=> .bl (decide (j<=i))) dGe:=iF λ_ _ _=> .b
instance:rY K fl (rU λi=> .int (-i)) c_:=⟨λ{W μ H d x Q Q'} r q h k=>by
 unfold c_ at h;split at h
 .rw[q.i'];exact⟨_,rfl,k _ _ _ _ _ (.refl _) r .i h⟩
 .exact h.elim⟩
end
def Dz:R2:=rI dk λi j=> .int (i*j)
def jW:R2:=λx y H Q=>Dz x y H Q\/qJ x y H Q
theorem DB:OpR X (binaryOp .Mult) jW:=pR.or B5
def gA:DR2:=λd e μ Q=>match d,e with
 | .int i,.int j=>dk i j/\Q (.int (i*j)) μ
 |d,.int j=>∃a,af μ d=some a/\ -(2^63)<=j/\j < 2^63/\a.length*j.toNat<=sizeLine/\Q (.lst (LF j.toNat a).flatten) μ
 |_,_=>False
theorem zx.rep{W:Wd}{ds:List D}(h:zx K W ds xs):∀n:Nat,zx K W (LF n ds).flatten (LF n xs).flatten
 |0=> .nil
 |n+1=>by rw[Nl,Nl,Nj,Nj];exact h.append (zx.rep h n)
instance:aU K fl jW gA:=⟨λ{W μ H d e x y Q Q'} r q1 q2 h k=>by
 unfold gA at h;split at h
 .rw[q1.i',q2.i'];exact .inl ⟨_,_,rfl,rfl,h.1,k _ _ _ _ _ (.refl _) r .i h.2⟩
 .rename_i j _;obtain⟨a,e1,h1,h2,hz,h⟩:=h;obtain⟨p,xs,rfl,s1,z1⟩:=cQ r q1 e1;rw[q2.i'];refine .inr ⟨p,_,xs,rfl,rfl,s1,h1,h2,by rw[z1.length];exact hz,λq hq=>?_⟩;obtain⟨r2,le2⟩:=r.newF (o:= .lst (LF j.toNat xs).flatten) hq;exact k _ _ _ _ _ le2 r2 (.lst zA ((z1.mono le2).rep _)) h
 .exact h.elim⟩
def DC:DR2:=λd e μ Q=>match d,e with
 | .int i,.int j=>Q (.int (i+j)) μ
 | .cell k,e=>∃a b,μ k=some (.lst a)/\af μ e=some b/\a.length+b.length<=sizeLine/\Q (.cell k) (zO μ k (.lst (a++b)))
 |_,_=>False
def IV:DR2:=dI0 λi j=> .int (i - j)
def IW:DR2:=dI dk λi j=> .int (i*j)
theorem zx.atI{W:Wd}{ds:List D}{i:Int}{d:D}(h:zx K W ds xs)(e:L2.atI ds i=some d):∃x,L2.atI xs i=some x/\Rep K W d x:=by
 unfold L2.atI at *;rw[h.length];cases hn:ixN ds.length i with
 |none=>rw[hn] at e;cases e
 |some j =>
  rw[hn] at e;exact h.get e
def dIx:DR2:=λd e μ Q=>match d,e with
 | .str z,.int i=>z.length<=sizeLine/\(match L2.atI z.cps.toList i with
  |some c=>Q (.str ⟨#[c]⟩) μ
  |none=>False)
 |d,.int i=>match aZ μ d with
  |some ds=>match L2.atI ds i with
   |some v=>Q v μ
   |none=>False
  |none=>False
 |_,_=>False
instance:aU K fl (rIx K) dIx:=⟨λ{W μ H d e x y Q Q'} r q1 q2 h k=>by
 unfold dIx at h;split at h
 .rename_i z i;obtain⟨hz,h⟩:=h;split at h
  .rename_i c hc;rw[q1.s',q2.i'];exact .inr (.inr ⟨z,i,c,rfl,rfl,hz,hc,k _ _ _ _ _ (.refl _) r .s h⟩)
  .exact h.elim
 .rename_i i _;split at h
  .rename_i ds hds;obtain⟨p,xs,rfl,s1,z1⟩:=fR r q1 hds;split at h
   .rename_i v hv;obtain⟨w,ew,qw⟩:=z1.atI hv;rw[q2.i'];rcases s1 with s1|s1
    .exact .inl ⟨p,xs,i,w,rfl,rfl,s1,ew,k _ _ _ _ _ (.refl _) r qw h⟩
    .exact .inr (.inl ⟨p,xs,i,w,rfl,rfl,s1,ew,k _ _ _ _ _ (.refl _) r qw h⟩)
   .exact h.elim
  .exact h.elim
 .exact h.elim⟩
theorem DD(K:Frag)(h:X.K=K:=by rfl):IxR X (rIx K):=h▸BQ
def bB:DO:=λ_ μ Q=>Q none μ
def aQ(w:DE):DO:=λρ μ Q=>w ρ μ λd μ1=>match d with
 | .int i=>Q (some i) μ1
 |_=>False
abbrev DSl:=D->Option Int->Option Int->Mu->DK->Prop
class sf(K:Frag)(fl:Wd)(r:V->Option Int->Option Int->Hp->VK->Prop)(q:DSl):Prop where
 run:∀{W μ H d x lo hi Q Q'},Rel K fl W μ H->Rep K W d x->q d lo hi μ Q->KV' K fl W Q Q'->r x lo hi H Q'
def dSl(q:DSl)(we:DE)(wl wh:DO):DE:=λρ μ Q=>we ρ μ λd μ1=>wl ρ μ1 λl μ2=>wh ρ μ2 λu μ3=>q d l u μ3 Q
section
variable{wl wh:DO}
instance:fO K fl l5 bB:=⟨λ{W ρ μ σ H Q Q'} r e h k=>k W _ μ H (.refl W) r h⟩
instance[a:zR K fl te we]:fO K fl (l6 te) (aQ we):=⟨λr e h k=>a.run r e h λW1 d μ1 x H1 le1 r1 q1 h1=>by
 cases d<;>first|exact h1.elim|skip
 exact⟨_,q1.i',k W1 _ μ1 H1 le1 r1 h1⟩⟩
instance{r:V->Option Int->Option Int->Hp->VK->Prop}{q:DSl}[a:zR K fl te we][b:fO K fl tl wl][c:fO K fl th wh][o:sf K fl r q]:zR K fl (tSl r te tl th) (dSl q we wl wh):=⟨λr e h k =>
 a.run r e h λW1 d μ1 x H1 le1 r1 q1 h1=>b.run r1 (e.mono le1) h1 λW2 l μ2 H2 le2 r2 h2=>c.run r2 (e.mono (le1.trans le2)) h2 λW3 u μ3 H3 le3 r3 h3=>o.run r3 (q1.mono (le2.trans le3)) h3 λW4 d4 μ4 x4 H4 le4 r4 q4 h4=>k W4 d4 μ4 x4 H4 (le1.trans (le2.trans (le3.trans le4))) r4 q4 h4⟩
end
def cutD(xs:List α)(lo hi:Option Int):List α:=(xs.drop (HT.sIx xs.length 0 lo)).take (HT.sIx xs.length xs.length hi - HT.sIx xs.length 0 lo)
theorem zx.cut{W:Wd}{ds:List D}(h:zx K W ds xs)(lo hi:Option Int):zx K W (cutD ds lo hi) (cB xs lo hi):=by
 unfold cutD cB;rw[h.length];exact(h.drop _).take _
def sg(K:Frag):V->Option Int->Option Int->Hp->VK->Prop:=λx lo hi H Q=>ma K x lo hi H Q\/qp K x lo hi H Q
theorem gB(K:Frag)(h:X.K=K:=by rfl):SlR X (sg K):=h▸qD.or BL
def ax:DSl:=λd lo hi μ Q=>match d with
 | .tup ds=>¬ (HT.sIx ds.length 0 lo=0/\HT.sIx ds.length ds.length hi=ds.length)/\Q (.tup (cutD ds lo hi)) μ
 |d=>match af μ d with
  |some ds=>Q (.lst (cutD ds lo hi)) μ
  |none=>False
instance:sf K fl (sg K) ax:=⟨λ{W μ H d x lo hi Q Q'} r q1 h k=>by
 unfold ax at h;split at h
 .obtain⟨p,xs,rfl,s1,z1⟩:=q1.tup';refine .inr ⟨p,xs,rfl,s1.sm r.sub,by rw[z1.length];exact h.1,λq hq=>?_⟩;obtain⟨r2,le2⟩:=r.newF (o:= .tup (cB xs lo hi)) hq;exact k _ _ _ _ _ le2 r2 (.tup (SqT.of zA) ((z1.mono le2).cut _ _)) h.2
 .split at h
  .rename_i ds hds;obtain⟨p,xs,rfl,s1,z1⟩:=cQ r q1 hds;refine .inl ⟨p,xs,rfl,SqL.of s1,λq hq=>?_⟩;obtain⟨r2,le2⟩:=r.newF (o:= .lst (cB xs lo hi)) hq;exact k _ _ _ _ _ le2 r2 (.lst zA ((z1.mono le2).cut _ _)) h
  .exact h.elim⟩
mutual
def toPy:D->Option PyData
 | .non=>some .none
 | .bl b=>some (.bool b)
 | .int i=>some (.int i)
 | .str x=>some (.str x)
 | .tup ds=>(bp ds).map .tuple
 | .lst ds=>(bp ds).map .list
 |_=>none
def bp:List D->Option (List PyData)
 | []=>some []
 |d::ds=>match toPy d,bp ds with
  |some p,some ps=>some (p::ps)
  |_,_=>none
end
def iG(μ:Mu):D->Option PyData
 | .cell k=>match μ k with
  |some (.lst ds)=>(bp ds).map .list
  |_=>none
 |d=>toPy d
section
variable{W:Wd}
mutual
theorem sh(s:cZ W.F H):∀{d:D} {p:PyData} {x:V},toPy d=some p->Rep K W d x->Dat K H p x
 | .non,_,_,e,q=>by unfold toPy at e;cases e;rw[q.n'];exact .n
 | .bl _,_,_,e,q=>by unfold toPy at e;cases e;rw[q.b'];exact .b
 | .int _,_,_,e,q=>by unfold toPy at e;cases e;rw[q.i'];exact .i
 | .str _,_,_,e,q=>by unfold toPy at e;cases e;rw[q.s'];exact .s
 | .tup ds,_,_,e,q=>by
  unfold toPy at e;obtain⟨a,xs,rfl,h,z⟩:=q.tup';cases e1:bp ds with
  |none=>rw[e1] at e;cases e
  |some ps=>rw[e1] at e;cases e;exact .tup (h.sm s) (jX s e1 z)
 | .lst ds,_,_,e,q=>by
  unfold toPy at e;obtain⟨a,xs,rfl,h,z⟩:=q.lst';cases e1:bp ds with
  |none=>rw[e1] at e;cases e
  |some ps=>rw[e1] at e;cases e;exact .lst (SqL.of (s _ _ h)) (jX s e1 z)
 | .ty _,_,_,e,_=>by unfold toPy at e;cases e
 | .cls _,_,_,e,_=>by unfold toPy at e;cases e
 | .scr _,_,_,e,_=>by unfold toPy at e;cases e
 | .cell _,_,_,e,_=>by unfold toPy at e;cases e
 | .dct _ _,_,_,e,_=>by unfold toPy at e;cases e
 | .dtt _ _,_,_,e,_=>by unfold toPy at e;cases e
 | .obj _ _ _,_,_,e,_=>by unfold toPy at e;cases e
theorem jX(s:cZ W.F H):∀{ds:List D} {ps:List PyData} {xs:List V},bp ds=some ps->zx K W ds xs->bg K H ps xs
 | [],_,_,e,q=>by unfold bp at e;cases e;rw[q.nil'];exact .nil
 |d::ds,_,_,e,q=>by
  unfold bp at e;obtain⟨x,r,rfl,q1,q2⟩:=q.uncons;cases e1:toPy d with
  |none=>rw[e1] at e;cases e
  |some p =>
   cases e2:bp ds with
   |none=>rw[e1,e2] at e;cases e
   |some ps=>rw[e1,e2] at e;cases e;exact .cons (sh s e1 q1) (jX s e2 q2)
end
theorem jY{d:D}{p:PyData}{x:V}(r:Rel K fl W μ H)(e:iG μ d=some p)(q:Rep K W d x):Dat K H p x:=by
 unfold iG at e;split at e
 .rename_i k;obtain⟨a,rfl,hb⟩:=q.cell';split at e
  .rename_i ds hk;obtain⟨a',e1,e2,xs,e3,q3⟩:=r.cel k _ hk;rw[hb] at e1;cases e1;cases e4:bp ds with
   |none=>rw[e4] at e;cases e
   |some ps=>rw[e4] at e;cases e;exact .lst (SqL.of e3) (jX r.sub e4 q3)
  .cases e
 .exact sh r.sub e q
end
def si(K:Frag)(neg:Bool):R2:=λx y H Q=>∃d d',Dat K H d x/\Dat K H d' y/\cD d/\cD d'/\Q (.bl (if neg then !PyData.eqv d d' else PyData.eqv d d')) H
def sj(K:Frag):R2:=λx y H Q=>rEq x y H Q\/si K false x y H Q
def sk(K:Frag):R2:=λx y H Q=>rNe x y H Q\/si K true x y H Q
theorem gC(K:Frag){k:Nat}(hr:aS cm k X.A)(h:X.K=K:=by rfl):OpR X (compareOp .Eq) (sj K):=pY.or (C5 K hr h)
theorem gD(K:Frag){k:Nat}(hr:aS cm k X.A)(h:X.K=K:=by rfl):OpR X (compareOp .NotEq) (sk K):=A5.or (C6 K hr h)
def dZ(neg:Bool):DR2:=λd e μ Q=>match d,e with
 | .int i,.int j=>Q (.bl (neg ^^ decide (i=j))) μ
 | .str i,.str j=>Q (.bl (neg ^^ decide (i=j))) μ
 | .bl i,.bl j=>Q (.bl (neg ^^ decide (i=j))) μ
 |d,e=>match iG μ d,iG μ e with
  |some p,some q=>cD p/\cD q/\Q (.bl (neg ^^ PyData.eqv p q)) μ
  |_,_=>False
def dEq:DR2:=dZ false
def dNe:DR2:=dZ true
theorem su(i j:Int):decide (V.int i=V.int j)=decide (i=j):=by by_cases h:i=j<;>simp[h]
theorem sv(i j:Str):decide (V.str i=V.str j)=decide (i=j):=by by_cases h:i=j<;>simp[h]
theorem sw(i j:Bool):decide (V.bl i=V.bl j)=decide (i=j):=by by_cases h:i=j<;>simp[h]
instance:aU K fl (sj K) dEq:=⟨λ{W μ H d e x y Q Q'} r q1 q2 h k=>by
 unfold dEq dZ at h;simp only[ND] at h;split at h
 .rw[q1.i',q2.i'];exact .inl ⟨rfl,k _ _ _ _ _ (.refl _) r (by rw[su];exact .b) h⟩
 .rw[q1.s',q2.s'];exact .inl ⟨rfl,k _ _ _ _ _ (.refl _) r (by rw[sv];exact .b) h⟩
 .rw[q1.b',q2.b'];exact .inl ⟨rfl,k _ _ _ _ _ (.refl _) r (by rw[sw];exact .b) h⟩
 .split at h
  .rename_i p q e1 e2;exact .inr ⟨p,q,jY r e1 q1,jY r e2 q2,h.1,h.2.1,k _ _ _ _ _ (.refl _) r .b h.2.2⟩
  .exact h.elim⟩
instance:aU K fl (sk K) dNe:=⟨λ{W μ H d e x y Q Q'} r q1 q2 h k=>by
 unfold dNe dZ at h;simp only[MM] at h;split at h
 .rw[q1.i',q2.i'];exact .inl ⟨rfl,k _ _ _ _ _ (.refl _) r (by rw[su];exact .b) h⟩
 .rw[q1.s',q2.s'];exact .inl ⟨rfl,k _ _ _ _ _ (.refl _) r (by rw[sv];exact .b) h⟩
 .rw[q1.b',q2.b'];exact .inl ⟨rfl,k _ _ _ _ _ (.refl _) r (by rw[sw];exact .b) h⟩
 .split at h
  .rename_i p q e1 e2;exact .inr ⟨p,q,jY r e1 q1,jY r e2 q2,h.1,h.2.1,k _ _ _ _ _ (.refl _) r .b h.2.2⟩
  .exact h.elim⟩
def sx:R2:=λx y H Q=>y= .non/\Q (.bl (!decide (x= .non))) H
def cx:D->Bool
 | .non=>true
 |_=>false
def dIs:DR2:=λd e μ Q=>match e with
 | .non=>Q (.bl (cx d)) μ
 |_=>False
def jZ:DR2:=λd e μ Q=>match e with
 | .non=>Q (.bl (!cx d)) μ
 |_=>False
theorem DF{W:Wd}{d:D}{x:V}(q:Rep K W d x):decide (x= .non)=cx d:=by
 have:=q.is_non;cases d<;>simp_all [cx]
instance:aU K fl sx jZ:=⟨λ{W μ H d e x y Q Q'} r q1 q2 h k=>by
 unfold jZ at h;split at h
 .rw[q2.n'];exact⟨rfl,k _ _ _ _ _ (.refl _) r (by rw[DF q1];exact .b) h⟩
 .exact h.elim⟩
def fS:D->Option V
 | .non=>some .non
 | .bl b=>some (.bl b)
 | .int i=>some (.int i)
 | .str x=>some (.str x)
 |_=>none
def dD:List D->Option (List V)
 | []=>some []
 |d::ds=>match fS d,dD ds with
  |some x,some xs=>some (x::xs)
  |_,_=>none
theorem sy{W:Wd}{d:D}{x v:V}(e:fS d=some v)(q:Rep K W d x):x=v/\dm v=true:=by
 cases d<;>simp only[fS,Nu,reduceCtorEq] at e
 .rw[<- e];exact⟨q.n',rfl⟩
 .rw[<- e];exact⟨q.b',rfl⟩
 .rw[<- e];exact⟨q.i',rfl⟩
 .rw[<- e];exact⟨q.s',rfl⟩
theorem sA{K:Frag}{W:Wd}:∀{ds:List D} {xs vs:List V},dD ds=some vs->zx K W ds xs->xs=vs/\vs.all dm=true
 | [],_,_,e,q=>by unfold dD at e;cases e;exact⟨q.nil',rfl⟩
 |d::ds,_,_,e,q=>by
  unfold dD at e;obtain⟨x,r,rfl,q1,q2⟩:=q.uncons;cases e1:fS d with
  |none=>rw[e1] at e;cases e
  |some v =>
   cases e2:dD ds with
   |none=>rw[e1,e2] at e;cases e
   |some vs =>
    rw[e1,e2] at e;cases e;obtain⟨a,b⟩:=sy e1 q1;obtain⟨c,f⟩:=sA e2 q2;exact⟨by rw[a,c],by rw[Qj,b,f];rfl⟩
def aC(neg:Bool):DR2:=λd e μ Q=>match aZ μ e with
 |some ds=>match fS d,dD ds with
  |some v,some vs=>Q (.bl (if neg then !inV v vs else inV v vs)) μ
  |_,_=>False
 |none=>False
instance:aU K fl (rIn K neg) (aC neg):=⟨λ{W μ H d e x y Q Q'} r q1 q2 h k=>by
 unfold aC at h;split at h
 .rename_i ds hds;obtain⟨p,xs,rfl,s1,z1⟩:=fR r q2 hds;split at h
  .rename_i v vs e1 e2;obtain⟨a,b⟩:=sy e1 q1;obtain⟨c,f⟩:=sA e2 z1;subst a c;exact⟨p,_,rfl,s1,b,f,k _ _ _ _ _ (.refl _) r .b h⟩
  .exact h.elim
 .exact h.elim⟩
def dCB(q:DRs)(w:DA):DE:=λρ μ Q=>w ρ μ λds μ1=>q ds μ1 Q
instance{r:List V->Hp->VK->Prop}{q:DRs}{t:TA}{w:DA}[a:aH K fl t w][o:bj K fl r q]:zR K fl (tCB r t) (dCB q w):=⟨λr e h k =>
 a.run r e h λW1 ds μ1 xs H1 le1 r1 q1 h1=>o.run r1 q1 h1 λW2 d μ2 x H2 le2=>k W2 d μ2 x H2 (le1.trans le2)⟩
section
variable(K:Frag)
def DH:List V->Hp->VK->Prop:=λxs H Q=>∃p ys,xs=[.ref p]/\(SqL K H p ys\/SqT K H p ys)/\Q (.int ys.length) H
def DL:List V->Hp->VK->Prop:=λxs H Q=>∃z,xs=[.str z]/\z.length<=sizeLine/\Q (.int z.length) H
def sB:List V->Hp->VK->Prop:=λxs H Q=>DH K xs H Q\/DL xs H Q
theorem zU(h:X.K=K:=by rfl):zQ X (.builtin "len") (sB K):=h▸qF.or BY
def DN:List V->Hp->VK->Prop:=λxs H Q=>∃i j,xs=[.int i,.int j]/\Q (.int (if j > i then j else i)) H
def DP:List V->Hp->VK->Prop:=λxs H Q=>∃p ns,xs=[.ref p]/\SqL K H p (ns.map V.int)/\ns≠[]/\∀M∈ns,(∀a∈ns,a<=M)->Q (.int M) H
def sC:List V->Hp->VK->Prop:=λxs H Q=>DN xs H Q\/DP K xs H Q
def DQ:List V->Hp->VK->Prop:=λxs H Q=>∃i j,xs=[.int i,.int j]/\Q (.int (if j < i then j else i)) H
def DR:List V->Hp->VK->Prop:=λxs H Q=>∃p ns,xs=[.ref p]/\SqL K H p (ns.map V.int)/\ns≠[]/\∀M∈ns,(∀a∈ns,M<=a)->Q (.int M) H
def sD:List V->Hp->VK->Prop:=λxs H Q=>DQ xs H Q\/DR K xs H Q
theorem sE(hc:X.calm=true:=by rfl)(h:X.K=K:=by rfl):zQ X (.builtin "max") (sC K):=(Bd hc).or (CZ K hc h)
theorem sF(hc:X.calm=true:=by rfl)(h:X.K=K:=by rfl):zQ X (.builtin "min") (sD K):=(Be hc).or (C1 K hc h)
def sG:List V->Hp->VK->Prop:=λxs H Q=>∃(p:Addr) (bs:List Bool),xs=[.ref p]/\SqL K H p (bs.map V.bl)/\Q (.bl (bs.all id)) H
def sH:List V->Hp->VK->Prop:=λxs H Q=>∃(p:Addr) (bs:List Bool),xs=[.ref p]/\SqL K H p (bs.map V.bl)/\Q (.bl (bs.any id)) H
def sI:List V->Hp->VK->Prop:=λxs H Q=>∃(p:Addr) (ns:List Int),xs=[.ref p]/\SqL K H p (ns.map V.int)/\Q (.int ns.sum) H
theorem DU(hc:X.calm=true:=by rfl)(h:X.K=K:=by rfl):zQ X (.builtin "sum") (sI K):=by
 subst h;intro pins s σ H xs us Q I r h;obtain⟨p,ns,rfl,hl,q⟩:=h;obtain⟨u,rfl,rx⟩:=vals1 r;cases rx;obtain⟨its,r',pl,hz⟩:=I.list hl;have hi:=iq r';obtain⟨ys,e⟩:=hi.allInts.items;have hns:ns=ys.toList.map (·.1):=by rw[<- hi.numsOf,<- Qn,<- e]
 have hl':=pl.isList;rw[e] at hl';refine sum_intListG (I.ok.hd hc) hl' λh' tk t' hk=>?_
 refine⟨.int _,H,I.kept hk,⟨t',rfl⟩,?_⟩;rw[preSum_eq,MC (by simp),<- hns];exact q
def mP:List V->Hp->VK->Prop:=λxs H Q=>∃x c t b,xs=[x,c]/\bK K H x t/\(∀u,RelV c u->kitOne K t u=some b)/\Q (.bl b) H
def sJ:List V->Hp->VK->Prop:=λxs H Q=>∃p ys,xs=[.ref p]/\(SqL K H p ys\/SqT K H p ys)/\∀l,H l=none->Q (.ref l) (upd H l (.lst ys))
def sK:List V->Hp->VK->Prop:=λxs H Q=>∃p ys,xs=[.ref p]/\((SqL K H p ys/\∀l,H l=none->Q (.ref l) (upd H l (.tup ys)))\/(SqT K H p ys/\Q (.ref p) H))
theorem iH(hc:X.calm=true:=by rfl)(h:X.K=K:=by rfl):zQ X (.builtin "all") (sG K):=C2 K hc h
theorem DV(hc:X.calm=true:=by rfl)(h:X.K=K:=by rfl):zQ X (.builtin "any") (sH K):=C3 K hc h
theorem DW(h:X.K=K:=by rfl):zQ X (.builtin "isinstance") (mP K):=C4 K h
theorem DY(h:X.K=K:=by rfl):zQ X (.type "list") (sJ K):=rn K h
theorem gE(h:X.K=K:=by rfl):zQ X (.type "tuple") (sK K):=CY K h
end
def aI:DRs:=λds μ Q=>match ds with
 | [.str z]=>z.length<=sizeLine/\Q (.int z.length) μ
 | [d]=>match aZ μ d with
  |some es=>Q (.int es.length) μ
  |none=>False
 |_=>False
def DZ:DRs:=λds μ Q=>match ds with
 | [.int i]=>Q (.int (if i < 0 then -i else i)) μ
 |_=>False
def intsOf:List D->Option (List Int)
 | []=>some []
 | .int i::r=>match intsOf r with
  |some l=>some (i::l)
  |none=>none
 |_=>none
def bF:List D->Option (List Bool)
 | []=>some []
 | .bl i::r=>match bF r with
  |some l=>some (i::l)
  |none=>none
 |_=>none
theorem sL:∀{ds:List D} {ns:List Int},intsOf ds=some ns->ds=ns.map D.int
 | [],_,h=>by cases h;rfl
 |d::r,ns,h=>by
  cases d<;>simp only[intsOf,reduceCtorEq] at h
  cases e:intsOf r with
  |none=>rw[e] at h;cases h
  |some l=>rw[e] at h;cases h;rw[sL e];rfl
theorem sM:∀{ds:List D} {ns:List Bool},bF ds=some ns->ds=ns.map D.bl
 | [],_,h=>by cases h;rfl
 |d::r,ns,h=>by
  cases d<;>simp only[bF,reduceCtorEq] at h
  cases e:bF r with
  |none=>rw[e] at h;cases h
  |some l=>rw[e] at h;cases h;rw[sM e];rfl
theorem mQ:∀ns:List Int,intsOf (ns.map D.int)=some ns
 | []=>rfl
 |_::r=>by rw[LQ,intsOf,mQ r]
theorem mR:∀ns:List Bool,bF (ns.map D.bl)=some ns
 | []=>rfl
 |_::r=>by rw[LQ,bF,mR r]
def fT:DRs:=λds μ Q=>match ds with
 | [.int i,.int j]=>Q (.int (if j > i then j else i)) μ
 | [d]=>match (af μ d).bind intsOf with
  |some ns=>ns≠[]/\∀M∈ns,(∀a∈ns,a<=M)->Q (.int M) μ
  |none=>False
 |_=>False
def fU:DRs:=λds μ Q=>match ds with
 | [.int i,.int j]=>Q (.int (if j < i then j else i)) μ
 | [d]=>match (af μ d).bind intsOf with
  |some ns=>ns≠[]/\∀M∈ns,(∀a∈ns,M<=a)->Q (.int M) μ
  |none=>False
 |_=>False
def iI:DRs:=λds μ Q=>match ds with
 | [d]=>match (af μ d).bind intsOf with
  |some ns=>Q (.int ns.sum) μ
  |none=>False
 |_=>False
def d_:DRs:=λds μ Q=>match ds with
 | [d]=>match (af μ d).bind bF with
  |some bs=>Q (.bl (bs.all id)) μ
  |none=>False
 |_=>False
def iJ:DRs:=λds μ Q=>match ds with
 | [d]=>match (af μ d).bind bF with
  |some bs=>Q (.bl (bs.any id)) μ
  |none=>False
 |_=>False
def iK:DRs:=λds μ Q=>match ds with
 | [d]=>match aZ μ d with
  |some es=>Q (.lst es) μ
  |none=>False
 |_=>False
def sN:DRs:=λds μ Q=>match ds with
 | [d]=>match aZ μ d with
  |some es=>∀k,μ k=none->Q (.cell k) (zO μ k (.lst es))
  |none=>False
 |_=>False
def cR:DRs:=λds μ Q=>match ds with
 | [d]=>match aZ μ d with
  |some es=>Q (.tup es) μ
  |none=>False
 |_=>False
def tyD(μ:Mu):D->Option String
 | .non=>some "NoneType"
 | .bl _=>some "bool"
 | .int _=>some "int"
 | .str _=>some "str"
 | .lst _=>some "list"
 | .cell k=>match μ k with
  |some (.lst _)=>some "list"
  |some (.dct _ _)=>some "dict"
  |some (.dtt _ _)=>some "dict"
  |_=>none
 | .dct _ _=>some "dict"
 | .dtt _ _=>some "dict"
 |_=>none
def aW:List String:=["int","bool","str","list","tuple","dict"]
def bU(t T:String):Bool:=t==T||(t=="bool"&&T=="int")
def gF:DRs:=λds μ Q=>match ds with
 | [d,.ty T]=>match tyD μ d with
  |some t=>T∈aW/\Q (.bl (bU t T)) μ
  |none=>False
 |_=>False
section
variable{W:Wd}
theorem zx.one{d:D}(h:zx K W [d] xs):∃x,xs=[x]/\Rep K W d x:=by
 obtain⟨x,r,rfl,q,z⟩:=h.uncons;rw[z.nil'];exact⟨x,rfl,q⟩
theorem zx.two{d e:D}(h:zx K W [d,e] xs):∃x y,xs=[x,y]/\Rep K W d x/\Rep K W e y:=by
 obtain⟨x,r,rfl,q,z⟩:=h.uncons;obtain⟨y,rfl,q2⟩:=z.one;exact⟨x,y,rfl,q,q2⟩
instance:bj K fl (sB K) aI:=⟨λ{W μ H ds xs Q Q'} r z h k=>by
 unfold aI at h;split at h
 .obtain⟨x,rfl,q⟩:=z.one;rw[q.s'];exact .inr ⟨_,rfl,h.1,k _ _ _ _ _ (.refl _) r .i h.2⟩
 .obtain⟨x,rfl,q⟩:=z.one;split at h
  .rename_i es he;obtain⟨p,ys,rfl,s1,z1⟩:=fR r q he;exact .inl ⟨p,ys,rfl,s1,k _ _ _ _ _ (.refl _) r (by rw[z1.length];exact .i) h⟩
  .exact h.elim
 .exact h.elim⟩
theorem mS{d:D}{x:V}{ns:List Int}(r:Rel K fl W μ H)(q:Rep K W d x)(h:(af μ d).bind intsOf=some ns):∃a,x= .ref a/\SqL K H a (ns.map V.int):=by
 cases e:af μ d with
 |none=>rw[e] at h;cases h
 |some ds =>
  rw[e] at h;obtain⟨a,xs,rfl,e1,z⟩:=cQ r q e;have:=sL h;subst this;rw[z.ints] at e1;exact⟨a,rfl,SqL.of e1⟩
theorem sO{d:D}{x:V}{ns:List Bool}(r:Rel K fl W μ H)(q:Rep K W d x)(h:(af μ d).bind bF=some ns):∃a,x= .ref a/\SqL K H a (ns.map V.bl):=by
 cases e:af μ d with
 |none=>rw[e] at h;cases h
 |some ds =>
  rw[e] at h;obtain⟨a,xs,rfl,e1,z⟩:=cQ r q e;have:=sM h;subst this;rw[z.bls] at e1;exact⟨a,rfl,SqL.of e1⟩
instance:bj K fl (sC K) fT:=⟨λ{W μ H ds xs Q Q'} r z h k=>by
 unfold fT at h;split at h
 .obtain⟨x,y,rfl,q1,q2⟩:=z.two;rw[q1.i',q2.i'];exact .inl ⟨_,_,rfl,k _ _ _ _ _ (.refl _) r .i h⟩
 .obtain⟨x,rfl,q⟩:=z.one;split at h
  .rename_i ns hn;obtain⟨a,rfl,s⟩:=mS r q hn;exact .inr ⟨a,ns,rfl,s,h.1,λM hM hb=>k _ _ _ _ _ (.refl _) r .i (h.2 M hM hb)⟩
  .exact h.elim
 .exact h.elim⟩
instance:bj K fl (sD K) fU:=⟨λ{W μ H ds xs Q Q'} r z h k=>by
 unfold fU at h;split at h
 .obtain⟨x,y,rfl,q1,q2⟩:=z.two;rw[q1.i',q2.i'];exact .inl ⟨_,_,rfl,k _ _ _ _ _ (.refl _) r .i h⟩
 .obtain⟨x,rfl,q⟩:=z.one;split at h
  .rename_i ns hn;obtain⟨a,rfl,s⟩:=mS r q hn;exact .inr ⟨a,ns,rfl,s,h.1,λM hM hb=>k _ _ _ _ _ (.refl _) r .i (h.2 M hM hb)⟩
  .exact h.elim
 .exact h.elim⟩
instance:bj K fl (sI K) iI:=⟨λ{W μ H ds xs Q Q'} r z h k=>by
 unfold iI at h;split at h
 .obtain⟨x,rfl,q⟩:=z.one;split at h
  .rename_i ns hn;obtain⟨a,rfl,s⟩:=mS r q hn;exact⟨a,ns,rfl,s,k _ _ _ _ _ (.refl _) r .i h⟩
  .exact h.elim
 .exact h.elim⟩
instance:bj K fl (sG K) d_:=⟨λ{W μ H ds xs Q Q'} r z h k=>by
 unfold d_ at h;split at h
 .obtain⟨x,rfl,q⟩:=z.one;split at h
  .rename_i ns hn;obtain⟨a,rfl,s⟩:=sO r q hn;exact⟨a,ns,rfl,s,k _ _ _ _ _ (.refl _) r .b h⟩
  .exact h.elim
 .exact h.elim⟩
instance:bj K fl (sH K) iJ:=⟨λ{W μ H ds xs Q Q'} r z h k=>by
 unfold iJ at h;split at h
 .obtain⟨x,rfl,q⟩:=z.one;split at h
  .rename_i ns hn;obtain⟨a,rfl,s⟩:=sO r q hn;exact⟨a,ns,rfl,s,k _ _ _ _ _ (.refl _) r .b h⟩
  .exact h.elim
 .exact h.elim⟩
instance:bj K fl (sJ K) iK:=⟨λ{W μ H ds xs Q Q'} r z h k=>by
 unfold iK at h;split at h
 .obtain⟨x,rfl,q⟩:=z.one;split at h
  .rename_i es he;obtain⟨p,ys,rfl,s1,z1⟩:=fR r q he;refine⟨p,ys,rfl,s1,λl hl=>?_⟩;obtain⟨r2,le2⟩:=r.newF (o:= .lst ys) hl;exact k _ _ _ _ _ le2 r2 (.lst zA (z1.mono le2)) h
  .exact h.elim
 .exact h.elim⟩
instance:bj K fl (sK K) cR:=⟨λ{W μ H ds xs Q Q'} r z h k=>by
 unfold cR at h;split at h
 .obtain⟨x,rfl,q⟩:=z.one;split at h
  .rename_i es he;unfold aZ at he;split at he
   .cases he;obtain⟨p,ys,rfl,t,z2⟩:=q.tup';exact⟨p,ys,rfl,.inr ⟨t.sm r.sub,k _ _ _ _ _ (.refl _) r q h⟩⟩
   .obtain⟨p,ys,rfl,t,z2⟩:=cQ r q he;refine⟨p,ys,rfl,.inl ⟨SqL.of t,λl hl=>?_⟩⟩;obtain⟨r2,le2⟩:=r.newF (o:= .tup ys) hl;exact k _ _ _ _ _ le2 r2 (.tup (SqT.of zA) (z2.mono le2)) h
  .exact h.elim
 .exact h.elim⟩
theorem sP{d:D}{x:V}{t:String}(r:Rel K fl W μ H)(q:Rep K W d x)(h:tyD μ d=some t):bK K H x (.type t):=by
 unfold tyD at h;split at h<;>try cases h
 .rw[q.n'];exact .non
 .rw[q.b'];exact .bl _
 .rw[q.i'];exact .int _
 .rw[q.s'];exact .str _
 .obtain⟨a,xs,rfl,e,z⟩:=q.lst';exact .lst (r.sub _ _ e)
 .rename_i k;obtain⟨a,rfl,hb⟩:=q.cell';split at h<;>try cases h
  .rename_i ds hk;obtain⟨a',e1,e2,xs,e3,q3⟩:=r.cel k _ hk;rw[hb] at e1;cases e1;exact .lst e3
  .rename_i ks vs hk;obtain⟨a',e1,e2,xs,e3,l3,q3⟩:=r.cel k _ hk;rw[hb] at e1;cases e1;exact .dK e3
  .rename_i ks vs hk;obtain⟨a',e1,e2,xs,e3,l3,q3⟩:=r.cel k _ hk;rw[hb] at e1;cases e1;exact .dT e3
 .unfold Rep at q;obtain⟨a,xs,rfl,e,_⟩:=q;exact .dK (r.sub _ _ e)
 .unfold Rep at q;obtain⟨a,xs,rfl,e,_⟩:=q;exact .dT (r.sub _ _ e)
theorem D1{d:D}{t:String}(h:tyD μ d=some t):t∈["NoneType","bool","int","str","list","dict"]:=by
 unfold tyD at h;split at h<;>(try cases h)<;>(try decide)
 split at h<;>(try cases h)<;>decide
theorem D2{t:String}(h:t∈["NoneType","bool","int","str","list","dict"])(h':T∈aW):kitOne K (.type t) (.type T)=some (bU t T):=by
 simp only[aW,LD,Mb,or_false] at h h';rcases h with rfl|rfl|rfl|rfl|rfl|rfl<;>rcases h' with rfl|rfl|rfl|rfl|rfl|rfl<;>rfl
instance:bj K fl (mP K) gF:=⟨λ{W μ H ds xs Q Q'} r z h k=>by
 unfold gF at h;split at h
 .rename_i d T;obtain⟨x,y,rfl,q1,q2⟩:=z.two;split at h
  .rename_i t ht;unfold Rep at q2;subst q2;exact⟨x,.ty T,.type t,bU t T,rfl,sP r q1 ht,λu hu=>by cases hu;exact D2 (D1 ht) h.1,k _ _ _ _ _ (.refl _) r .b h.2⟩
  .exact h.elim
 .exact h.elim⟩
end
def sQ(K:Frag)(tl:TE):TI:=λσ H R=>tl σ H λx H1=>(∃a,x= .ref a/\(∃xs,SqL K H1 a xs)/\R (Itl K a) H1)\/(∃a,x= .ref a/\(∃xs,SqT K H1 a xs)/\R (Itt K a) H1)\/∃y,x= .str y/\y.cps.all (· < 128)=true/\R (Its y) H1
theorem aJ{l:Expr}{tl:TE}(K:Frag)(hl:WE X l tl)(h:X.K=K:=by rfl):WI X tg l (sQ K tl):=⟨by
 subst h;intro pins s σ H R I h;refine thn (hl.out pins s σ H _ I h) λv s1 ⟨x,H1,I1,r1,q1⟩=>?_
 rcases q1 with⟨a,e,⟨xs,hq⟩,q⟩|⟨a,e,⟨xs,hq⟩,q⟩|⟨y,e,ha,q⟩
 .subst e;cases r1;obtain⟨its,rv,p,hz⟩:=I1.list hq;refine Pa p.isList ?_;refine⟨s1.heap.objs.size,[s1.heap.objs.size],_,_,H1,rfl,I1.kept (t':=s1.toks) λb o e=>L5 _ e,AV a _,⟨_,LC _ rfl,rfl,rfl⟩,λb hb=>?_,q⟩;have e:b=s1.heap.objs.size:=by simpa using hb
  subst e;exact I1.fpOk (Lx _) (I1.hok.fresh (Lx _))
 .subst e;cases r1;obtain⟨its,rv,p,hz⟩:=I1.tuple hq;refine O1 (show s1.heap.IsTuple a its.toArray from p) ?_;refine⟨s1.heap.objs.size,[s1.heap.objs.size],_,_,H1,rfl,I1.kept (t':=s1.toks) λb o e=>L5 _ e,AW a _,⟨_,LC _ rfl,rfl,rfl⟩,λb hb=>?_,q⟩;have e:b=s1.heap.objs.size:=by simpa using hb
  subst e;exact I1.fpOk (Lx _) (I1.hok.fresh (Lx _))
 .subst e;obtain⟨t,rfl⟩:=r1;refine wpAny_pyIter_ascii ha ?_;refine⟨s1.heap.objs.size,[s1.heap.objs.size],_,_,H1,rfl,I1.kept (t':=s1.toks) λb o e=>L5 _ e,Dr _ y t,⟨_,LC _ rfl,rfl,rfl⟩,λb hb=>?_,q⟩;have e:b=s1.heap.objs.size:=by simpa using hb
  subst e;exact I1.fpOk (Lx _) (I1.hok.fresh (Lx _))⟩
def j3:D->Option (List D)
 | .lst ds=>some ds
 | .tup ds=>some ds
 | .str y=>if y.cps.all (· < 128)=true then some (y.cps.toList.map λc=> .str ⟨#[c]⟩) else none
 |_=>none
def eY(μ:Mu)(d:D)(Q:List D->(Mu->Prop)->Prop):Prop:=match d with
 | .cell k=>match μ k with
  |some (.lst ds)=>Q ds λμ'=>μ' k=some (.lst ds)
  |_=>False
 |d=>match j3 d with
  |some ds=>Q ds λ_=>True
  |none=>False
def aE(w:DE):DI:=λρ μ Q=>w ρ μ λd μ1=>eY μ1 d λds Pm=>Q ds Pm μ1
def dE(w:DA):DI:=λρ μ Q=>w ρ μ λds μ1=>match ds with
 | [.int j]=> -(2^62)<=j/\j < 2^62/\Q ((b_ 0 j.toNat).map D.int) (λ_=>True) μ1
 |_=>False
def D3(w:DA):DI:=λρ μ Q=>w ρ μ λds μ1=>match ds with
 | [.int i,.int j]=>(-(2^62)<=i/\i < 2^62/\ -(2^62)<=j/\j < 2^62)/\Q ((b_ i (j - i).toNat).map D.int) (λ_=>True) μ1
 |_=>False
section
variable{ta:TA}{wa:DA}
theorem D4(W:Wd)(lo:Int)(n:Nat)(Pm:Mu->Prop):ItR K fl W (Itr lo n) ((b_ lo n).map D.int) Pm:=λW1 μ H le r _ i=>by
 constructor
 .intro d hd;rw[L4] at hd;by_cases hi:i < n
  .rw[qV hi] at hd;cases hd;refine⟨hi,λx H' y=>?_⟩;obtain⟨e,y⟩:=y;subst e y;exact⟨W1,.refl _,r,.i⟩
  .rw[LZ (by rw[io];omega)] at hd;cases hd
 .intro h;rw[L0,io] at h;exact h
theorem D5{W:Wd}{p:Addr}{ds:List D}(z1:zx K W ds xs)(hp:∀W1 μ H,W.le W1->Rel K fl W1 μ H->Pm μ->H p=some (.lst xs)):ItR K fl W (Itl K p) ds Pm:=λW2 μ2 H2 le2 r2 pm i=>by
 have s2:=hp W2 μ2 H2 le2 r2 pm;constructor
 .intro d hd;obtain⟨x,ex,qx⟩:=z1.get hd;refine⟨⟨xs,x,SqL.of s2,ex⟩,λy H' hy=>?_⟩;obtain⟨e',y'⟩:=hy;have ey:=y' xs (SqL.of s2);rw[ex] at ey;cases ey;exact⟨W2,.refl _,e'▸r2,qx.mono le2⟩
 .intro hl;exact⟨xs,SqL.of s2,by rw[z1.length];exact hl⟩
theorem mT{W:Wd}{k:Nat}{ds:List D}(r:Rel K fl W μ H)(hb:W.b k=some a)(hk:μ k=some (.lst ds)):∃xs,H a=some (.lst xs)/\zx K W ds xs:=by
 obtain⟨a',e1,e2,xs,e3,q3⟩:=r.cel k _ hk;rw[hb] at e1;cases e1;exact⟨xs,e3,q3⟩
theorem D6{W:Wd}{k:Nat}{ds:List D}(hb:W.b k=some a):ItR K fl W (Itl K a) ds (λμ'=>μ' k=some (.lst ds)):=λW2 μ2 H2 le2 r2 pm i=>by
 obtain⟨xs,s2,z1⟩:=mT r2 (le2.b _ _ hb) pm;constructor
 .intro d hd;obtain⟨x,ex,qx⟩:=z1.get hd;refine⟨⟨xs,x,SqL.of s2,ex⟩,λy H' hy=>?_⟩;obtain⟨e',y'⟩:=hy;have ey:=y' xs (SqL.of s2);rw[ex] at ey;cases ey;exact⟨W2,.refl _,e'▸r2,qx⟩
 .intro hl;exact⟨xs,SqL.of s2,by rw[z1.length];exact hl⟩
instance[a:zR K fl te we]:dA K fl (sQ K te) (aE we):=⟨λ{W ρ μ σ H Q Q'} r e h k=>a.run r e h λW1 d μ1 x H1 le1 r1 q1 h1=>by
 unfold eY at h1;split at h1
 .rename_i c;obtain⟨p,rfl,hb⟩:=q1.cell';split at h1
  .rename_i ds hk;obtain⟨xs,s1,z1⟩:=mT r1 hb hk;exact .inl ⟨p,rfl,⟨xs,SqL.of s1⟩,k W1 _ ds _ μ1 H1 le1 r1 (D6 hb) h1⟩
  .exact h1.elim
 .cases hd:j3 d with
  |none=>rw[hd] at h1;exact h1.elim
  |some ds =>
   rw[hd] at h1;have h1:Q ds (λ_=>True) μ1:=h1;unfold j3 at hd;split at hd
   .cases hd;obtain⟨p,xs,rfl,s1,z1⟩:=q1.lst';exact .inl ⟨p,rfl,⟨xs,SqL.of (r1.sub _ _ s1)⟩,k W1 _ ds _ μ1 H1 le1 r1 (D5 z1 λW2 μ2 H2 le2 r2 _=>r2.sub _ _ (le2.F _ _ s1)) h1⟩
   .cases hd;obtain⟨p,xs,rfl,s1,z1⟩:=q1.tup';refine .inr (.inl ⟨p,rfl,⟨xs,s1.sm r1.sub⟩,k W1 _ ds _ μ1 H1 le1 r1 (λW2 μ2 H2 le2 r2 _ i=>?_) h1⟩);have s2:SqT K H2 p xs:=(s1.sm le2.F).sm r2.sub;constructor
    .intro d hd;obtain⟨x,ex,qx⟩:=z1.get hd;refine⟨⟨xs,x,s2,ex⟩,λy H' hy=>?_⟩;obtain⟨e',y'⟩:=hy;have ey:=y' xs s2;rw[ex] at ey;cases ey;exact⟨W2,.refl _,e'▸r2,qx.mono le2⟩
    .intro hl;exact⟨xs,s2,by rw[z1.length];exact hl⟩
   .rename_i y _;split at hd
    .rename_i ha;cases hd;rw[q1.s'];refine .inr (.inr ⟨y,rfl,ha,k W1 _ _ _ μ1 H1 le1 r1 (λW2 μ2 H2 le2 r2 _ i=>?_) h1⟩);constructor
     .intro d hd;rw[L4] at hd;cases hc:y.cps.toList[i]? with
      |none=>rw[hc] at hd;cases hd
      |some c =>
       rw[hc] at hd;cases hd;have hi:i < y.cps.size:=by have:=(L7.mp hc).1;rwa [M9] at this
       refine⟨hi,λx H' hy=>?_⟩;obtain⟨e',c',hc',rfl⟩:=hy;rw[hc] at hc';cases hc';exact⟨W2,.refl _,e'▸r2,.s⟩
     .intro hl;rw[L0,M9] at hl;exact hl
    .cases hd
   .cases hd⟩
instance[a:aH K fl ta wa]:dA K fl (lO ta) (dE wa):=⟨λ{W ρ μ σ H Q Q'} r e h k=>a.run r e h λW1 ds μ1 xs H1 le1 r1 q1 h1=>by
 split at h1
 .obtain⟨x,rfl,q⟩:=q1.one;rw[q.i'];exact⟨_,rfl,h1.1,h1.2.1,k W1 _ _ _ μ1 H1 le1 r1 (D4 _ _ _ _) h1.2.2⟩
 .exact h1.elim⟩
end
abbrev DM:=D->List D->Mu->DK->Prop
class iL(K:Frag)(fl:Wd)(T:String)(r:V->List V->Hp->VK->Prop)(q:DM):Prop where
 run:∀{W μ H d x ds xs Q Q'},Rel K fl W μ H->Rep K W d x->zx K W ds xs->q d ds μ Q->KV' K fl W Q Q'->r x xs H Q'
def tyM(T:String)(μ:Mu)(d:D):Prop:=tyD μ d=some T
def dBM(T:String)(q:DM)(wo:DE)(w:DA):DE:=λρ μ Q=>wo ρ μ λd μ1=>tyM T μ1 d/\w ρ μ1 λds μ2=>q d ds μ2 Q
def IX(T:String)(q:DM)(wo:DE):DE:=λρ μ Q=>wo ρ μ λd μ1=>tyM T μ1 d/\q d [] μ1 Q
theorem D7{W:Wd}{d:D}{x:V}(hT:T="list"\/T="str"\/T="dict")(r:Rel K fl W μ H)(q:Rep K W d x)(h:tyM T μ d):tyV K T x H:=by
 have ty:=sP r q h;cases ty with
 |non=>rcases hT with h|h|h<;>exact absurd h (by decide)
 |bl=>rcases hT with h|h|h<;>exact absurd h (by decide)
 |int=>rcases hT with h|h|h<;>exact absurd h (by decide)
 |str=>rfl
 |flt=>rcases hT with h|h|h<;>exact absurd h (by decide)
 |lst e=>exact .inl ⟨rfl,_,SqL.of e⟩
 |frz e=>exact .inl ⟨rfl,_,.inl (.inr ⟨_,e⟩)⟩
 |tup=>rcases hT with h|h|h<;>exact absurd h (by decide)
 |dK e=>exact .inr (.inr (.inl ⟨rfl,.inl ⟨_,e⟩⟩))
 |dT e=>exact .inr (.inr (.inl ⟨rfl,.inr ⟨_,e⟩⟩))
section
variable{to:TE}{t:TA}{w:DA}{r:V->List V->Hp->VK->Prop}{q:DM}
theorem sR(hT:T="list"\/T="str"\/T="dict")[a:zR K fl to wo][b:aH K fl t w][o:iL K fl T r q]:zR K fl (tBM K T r to t) (dBM T q wo w):=⟨λr e h k=>a.run r e h λW1 d μ1 x H1 le1 r1 q1 h1 =>
 ⟨D7 hT r1 q1 h1.1,b.run r1 (e.mono le1) h1.2 λW2 ds μ2 xs H2 le2 r2 q2 h2=>o.run r2 (q1.mono le2) q2 h2 λW3 d3 μ3 x3 H3 le3=>k W3 d3 μ3 x3 H3 (le1.trans (le2.trans le3))⟩⟩
instance[a:zR K fl to wo][b:aH K fl t w][o:iL K fl "list" r q]:zR K fl (tBM K "list" r to t) (dBM "list" q wo w):=sR (.inl rfl)
instance[a:zR K fl to wo][b:aH K fl t w][o:iL K fl "str" r q]:zR K fl (tBM K "str" r to t) (dBM "str" q wo w):=sR (.inr (.inl rfl))
end
def bV(μ:Mu)(d:D)(Q:Nat->List D->Prop):Prop:=match d with
 | .cell k=>match μ k with
  |some (.lst ds)=>Q k ds
  |_=>False
 |_=>False
theorem D8{W:Wd}{d:D}{x:V}{Q:Nat->List D->Prop}(r:Rel K fl W μ H)(q:Rep K W d x)(h:bV μ d Q):∃k ds a xs,x= .ref a/\W.b k=some a/\μ k=some (.lst ds)/\H a=some (.lst xs)/\zx K W ds xs/\Q k ds:=by
 unfold bV at h;split at h
 .rename_i k;obtain⟨a,rfl,hb⟩:=q.cell';split at h
  .rename_i ds hk;obtain⟨a',e1,e2,xs,e3,q3⟩:=r.cel k _ hk;rw[hb] at e1;cases e1;exact⟨k,ds,a,xs,rfl,hb,hk,e3,q3,h⟩
  .exact h.elim
 .exact h.elim
def bW:DM:=λd es μ Q=>match es with
 | [e]=>bV μ d λk ds=>ds.length < sizeLine/\Q .non (zO μ k (.lst (ds++[e])))
 |_=>False
def sS:DM:=λd es μ Q=>match es with
 | []=>bV μ d λk ds=>match ds[ds.length - 1]? with
  |some y=>Q y (zO μ k (.lst ds.dropLast))
  |none=>False
 | [.int i]=>bV μ d λk ds=> -(2^63)<=i/\i < 2^63/\match ixN ds.length i with
  |some j=>match ds[j]? with
   |some y=>Q y (zO μ k (.lst (ds.eraseIdx j)))
   |none=>False
  |none=>False
 |_=>False
def D9:D->D->D->Mu->(Mu->Prop)->Prop:=λd i v μ Q=>match i with
 | .int i=>bV μ d λk ds=>match ixN ds.length i with
  |some j=>Q (zO μ k (.lst (ds.set j v)))
  |none=>False
 |_=>False
def IY(wo wi:DE)(q:D->D->D->Mu->(Mu->Prop)->Prop):DG:=λv ρ μ Q=>wo ρ μ λd μ1=>wi ρ μ1 λi μ2=>q d i v μ2 λμ3=>Q ρ μ3
section
instance:iL K fl "list" qH bW:=⟨λ{W μ H d x ds xs Q Q'} r q z h k=>by
 unfold bW at h;split at h
 .obtain⟨y,rfl,qy⟩:=z.one;obtain⟨c,es,a,ys,rfl,hb,hk,ha,z2,hz,h⟩:=D8 r q h;exact⟨a,ys,y,rfl,rfl,ha,by rw[z2.length];exact hz,k _ _ _ _ _ (.refl _) (r.setC (c':= .lst _) hk hb ⟨_,rfl,z2.append (.cons qy .nil)⟩) .n h⟩
 .exact h.elim⟩
end
theorem D_{W:Wd}{k:Nat}(r:Rel K fl W μ H)(hk:μ k=some .draw)(ha:W.b k=some a):∃l,iA H a l/\W.F a=none/\(∃ns:List Int,W.F l=some (.lst (ns.map V.int))) /\
  ∀H',iA H' a l->jJ a H H'->Rel K fl W μ H':=by
 obtain⟨a',e1,e2,l,ns,i,b,c,e3,e4,hi,hb⟩:=r.cel k _ hk;rw[ha] at e1;cases e1;have hal:a≠l:=λz=>by rw[<- z,e2] at e4;cases e4
 refine⟨l,⟨ns,i,b,c,e3,r.sub _ _ e4,hi,hb,hal⟩,e2,⟨ns,e4⟩,λH' d o=>⟨λx u e=>?_,r.fin,λj ct e=>?_,r.inj,r.up⟩⟩
 .rw[o x (λz=>by rw[z,e2] at e;cases e)];exact r.sub _ _ e
 .by_cases hj:j=k
  .subst hj;rw[hk] at e;cases e;obtain⟨ns',i',b',c',f1,f2,f3,f4,f5⟩:=d;exact⟨a,ha,e2,l,ns,i',b',c',f1,e4,f3,f4⟩
  .obtain⟨x,f1,f2,q⟩:=r.cel j ct e;have hx:x≠a:=λz=>hj (r.inj j k _ _ a e hk (z▸f1) ha)
   exact⟨x,f1,f2,by rw[o x hx];exact q⟩
class mU(K:Frag)(fl:Wd)(sp:Sp)(dsp:DSp):Prop where
 run:∀{W μ H ds vs Q Q'} (E:XK),Rel K fl W μ H->zx K W ds vs->dsp ds μ Q->KV' K fl W Q Q'->sp vs H Q' E
instance{E:XK}{t:TA}{w:DA}[a:aH K fl t w][o:mU K fl sp dsp]:zR K fl (ib sp [] E t) (dCall dsp w):=⟨λ{W ρ μ σ H Q Q'} r e h k =>
 a.run r e h λW1 ds μ1 xs H1 le1 r1 q1 h1=>o.run E r1 (by rw[MW];exact q1) h1 λW2 d μ2 x H2 le2=>k W2 d μ2 x H2 (le1.trans le2)⟩
def aX:DSp:=λds μ Q=>match ds with
 | [.cell k,.int many]=>μ k=some .draw/\0 < many/\many < 2^250/\∀v,0<=v->v < many->Q (.int v) μ
 |_=>False
instance:mU K fl mF aX:=⟨λ{W μ H ds vs Q Q'} E r z h k=>by
 unfold aX at h;split at h
 .rename_i c many;obtain⟨x,y,rfl,q1,q2⟩:=z.two;obtain⟨a,rfl,hb⟩:=q1.cell';rw[q2.i'];obtain⟨hk,h1,h2,h⟩:=h;obtain⟨l,d,_,_,fin⟩:=D_ r hk hb;exact⟨a,l,many,rfl,d,h1,h2,λv H' l1 l2 d' o=>k W _ μ _ H' (.refl _) (fin H' d' o) .i (h v l1 l2)⟩
 .exact h.elim⟩
def j4:DSp:=λds μ Q=>match ds with
 | [.scr _]=>∀k,μ k=none->Q (.cell k) (zO μ k .draw)
 |_=>False
section
variable{W:Wd}
theorem Rel.same(r:Rel K fl W μ H)(s:cZ H H'):Rel K fl W μ H':=⟨λb o e=>s _ _ (r.sub _ _ e),r.fin,λk c e=>by
 obtain⟨a,e1,e2,q⟩:=r.cel k c e;obtain⟨u,eu⟩:=q.some;exact⟨a,e1,e2,by rw[s _ _ eu,<- eu];exact q⟩,r.inj,r.up⟩
theorem Rel.newAt{p:Addr}(r:Rel K fl W μ H)(hp:H p=none):W.F p=none/\∀k c,μ k=some c->W.b k≠some p:=by
 constructor
 .cases e:W.F p with
  |none=>rfl
  |some u=>rw[r.sub _ _ e] at hp;cases hp
 .intro k c e h;obtain⟨a,e1,_,q⟩:=r.cel k c e;obtain⟨u,eu⟩:=q.some;rw[h] at e1;cases e1;rw[hp] at eu;cases eu
theorem Rel.adoptF{p:Addr}{o:HO}(r:Rel K fl W μ H)(hp:H p=some o)(hF:W.F p=none)(hc:∀k c,μ k=some c->W.b k≠some p):Rel K fl ⟨W.b,upd W.F p o⟩ μ H/\W.le ⟨W.b,upd W.F p o⟩:=by
 have le:W.le ⟨W.b,upd W.F p o⟩:=⟨λ_ _ h=>h,iC hF⟩;refine⟨⟨λb u e=>?_,r.fin,λk c e=>?_,r.inj,r.up.trans le⟩,le⟩
 .have e':(upd W.F p o) b=some u:=e;by_cases hb:b=p
  .subst hb;rw[zA] at e';cases e';exact hp
  .rw[zE hb] at e';exact r.sub _ _ e'
 .obtain⟨a,e1,e2,q⟩:=r.cel k c e;have ha:a≠p:=λz=>hc k c e (z▸e1)
  exact⟨a,e1,by show upd W.F p o a=none;rw[zE ha];exact e2,q.mono le⟩
theorem Rel.adoptC{p:Addr}{c:Ct}(r:Rel K fl W μ H)(hF:W.F p=none)(hc:∀k c,μ k=some c->W.b k≠some p)(hq:Ctn K W c (H p)):∃(k:Nat) (W':Wd),μ k=none/\W.le W'/\Rel K fl W' (zO μ k c) H/\W'.b k=some p:=by
 obtain⟨n,hn⟩:=r.fin;have hk:μ n=none:=by
  cases e:μ n with
  |none=>rfl
  |some c=>obtain⟨a,e1,_⟩:=r.cel n c e;rw[hn n (Lx _)] at e1;cases e1
 have le:W.le ⟨λj=>if j=n then some p else W.b j,W.F⟩:=⟨λk a e=>by
  show(if k=n then some p else W.b k)=some a;rw[if_neg (λz=>by rw[z,hn n (Lx _)] at e;cases e)];exact e,λ_ _ h=>h⟩
 refine⟨n,⟨λj=>if j=n then some p else W.b j,W.F⟩,hk,le,⟨r.sub,⟨n+1,λk hk=>?_⟩,λk c' e=>?_,λk k' c1 c2 a e e' q q'=>?_,r.up.trans le⟩,if_pos rfl⟩
 .show(if k=n then some p else W.b k)=none;rw[if_neg (by omega)];exact hn k (by omega)
 .by_cases ek:k=n
  .subst ek;rw[zF] at e;cases e;exact⟨p,if_pos rfl,hF,hq.mono le⟩
  .rw[zj ek] at e;obtain⟨a,e1,e2,q⟩:=r.cel k c' e;exact⟨a,by show(if k=n then some p else W.b k)=some a;rw[if_neg ek];exact e1,e2,q.mono le⟩
 .have q1:(if k=n then some p else W.b k)=some a:=q;have q2:(if k'=n then some p else W.b k')=some a:=q';by_cases ek:k=n
  .by_cases ek':k'=n
   .rw[ek,ek']
   .rw[if_pos ek] at q1;rw[if_neg ek'] at q2;rw[zj ek'] at e';cases q1;exact absurd q2 (hc _ _ e')
  .by_cases ek':k'=n
   .rw[if_neg ek] at q1;rw[if_pos ek'] at q2;rw[zj ek] at e;cases q2;exact absurd q1 (hc _ _ e)
   .rw[if_neg ek] at q1;rw[if_neg ek'] at q2;rw[zj ek] at e;rw[zj ek'] at e';exact r.inj k k' _ _ a e e' q1 q2
end
instance:mU K fl (mG K) j4:=⟨λ{W μ H ds vs Q Q'} E r z h k=>by
 unfold j4 at h;split at h
 .rename_i ns;obtain⟨x,rfl,q⟩:=z.one;unfold Rep at q;obtain⟨a,rfl,hs⟩:=q;refine⟨a,ns,rfl,hs.sm r.sub,λp l H' hp hl d sm=>?_⟩;obtain⟨ns',i,b,c,e1,e2,hi,hb,hne⟩:=d;have r1:=r.same sm;obtain⟨f1,g1⟩:=r.newAt hl;obtain⟨r2,le2⟩:=r1.adoptF e2 f1 g1;obtain⟨f2,g2⟩:=r.newAt hp;have f2':(upd W.F l (.lst (ns'.map V.int))) p=none:=by rw[zE hne];exact f2
  obtain⟨j,W3,hj,le3,r3,e3⟩:=r2.adoptC (c:= .draw) (p:=p) f2' g2 ⟨l,ns',i,b,c,e1,zA,hi,hb⟩;exact k W3 _ _ _ _ (le2.trans le3) r3 (by unfold Rep;exact⟨p,rfl,e3⟩) (h j hj)
 .exact h.elim⟩
theorem iM{s:Stmt}{t:TE}(h:WS X s (bt t g)):WS X s (bt (mM t) g):=h
theorem Ea:OpR X (compareOp .IsNot) sx:=A7
theorem gG(K:Frag){k:Nat}(hr:aS cm k X.A)(h:X.K=K:=by rfl):OpR X (compareOp .In) (rIn K false):=CU K h
theorem ef(K:Frag){k:Nat}(hr:aS cm k X.A)(h:X.K=K:=by rfl):OpR X (compareOp .NotIn) (rIn K true):=CV K h
def ends(Q:DK):cM:={nx:=λ_ μ'=>∃ μ'',MLe μ'' μ'/\Q .non μ'',rt:=λd μ'=>∃ μ'',MLe μ'' μ'/\Q d μ''}
def zL(w:DS)(N:List Str)(n:Nat):DSp:=λds μ Q=>ds.length=n/\w (ends Q) (jU N ds) μ
section
theorem Fun.okB{k n:Nat}(dw:DS)(F:Fun K x qual st f fd)(S:zG N ps (zr st))(len:ps.length=n)
  (hbody:∀(cdv:Value) (A:Around) (outer:List Env) (s:Shared) (H:Hp) (E:XK),bf k (A.deeper (envOfC qual (zr st) s.heap.objs.size f cdv)) ->
   ∃t,WSs (dR CX0 P w K mg base N qual (zr st) f cdv A outer s H E).nox (dW st) t/\∀fl,bA K fl t dw):zX P w K mg base CX0 (k+1) f fd ps (lift K (zL dw N n)):=by
 refine F.okq S (λvs H Q E h=>?_) (λcdv A outer s H vs Q E hr h=>?_)
 .obtain⟨_,W,μ,ds,Q0,_,r,h,_⟩:=h;rw[r.length,h.1,len]
 .obtain⟨fl,W,μ,ds,Q0,rel,r,h,k⟩:=h;obtain⟨t,ht,sm⟩:=hbody cdv A outer s H E hr;refine⟨t,ht,(sm W).run (rel.floor (.refl W)) (.start r) h.2 ⟨λW' ρ μ σ H le rr ee hh=>?_,λ_ _ _ _ _ _ _ _ hh=>hh.elim,λ_ _ _ _ _ _ _ _ hh=>hh.elim,λW' d μ x H le rr ee hh=>?_⟩⟩
  .obtain⟨μ'',l,hh⟩:=hh;exact k W' .non μ'' _ H le ((rr.floor (rel.up.trans le)).less l) .n hh
  .obtain⟨μ'',l,hh⟩:=hh;exact k W' d μ'' x H le ((rr.floor (rel.up.trans le)).less l) ee hh
end
theorem Eb{dsp':DSp}(h:∀ds μ Q,dsp ds μ Q->dsp' ds μ Q){vs:List V}{Q:VK}{E:XK}(q:lift K dsp vs H Q E):lift K dsp' vs H Q E:=by
 obtain⟨fl,W,μ,ds,Q0,a,b,c,d⟩:=q;exact⟨fl,W,μ,ds,Q0,a,b,h _ _ _ c,d⟩
section
variable{g:DG}{wb:DS}{ds:List D}{Fin:List D->Mu->Prop}{ys:List D}
theorem bX(I:Nat->ad->Mu->Prop)(h0:I 0 ρ μ)
  (step:∀i d ρ μ,ds[i]? = some d->I i ρ μ->∀N:ad->Mu->Prop,(∀ ρ' μ',I (i+1) ρ' μ'->N ρ' μ')->g d ρ μ λρ2 μ2=>wb {D' with nx:=N,ct:=N,bk:=D'.nx} ρ2 μ2)
  (fin:∀ ρ μ,I ds.length ρ μ->D'.nx ρ μ)(hP:∀i ρ μ,I i ρ μ->Pm μ:=by exact λ_ _ _ _=>trivial):fQ g wb D' Pm ds ρ μ:=by
 have key:∀(n i:Nat) ρ μ,i+n=ds.length->I i ρ μ->fQ g wb D' Pm (ds.drop i) ρ μ:=by
  intro n;induction n with
  |zero =>
   intro i ρ μ hi hI;rw[ML (by omega)];have:i=ds.length:=by omega
   subst this;exact⟨hP _ _ _ hI,fin ρ μ hI⟩
  |succ n ih =>
   intro i ρ μ hi hI;rw[Mt (by omega)];exact⟨hP _ _ _ hI,step i _ ρ μ (L3 (by omega)) hI _ λρ' μ' h=>ih (i+1) ρ' μ' (by omega) h⟩
 exact key ds.length 0 ρ μ (by omega) h0
theorem sT(I:Nat->List D->Mu->Prop)(h0:I 0 ys μ)
  (step:∀i d ys μ,ds[i]? = some d->I i ys μ->ys.length < sizeLine/\∀N:List D->Mu->Prop,(∀ys' μ',I (i+1) ys' μ'->N ys' μ')->g d ρb μ λρ2 μ2=>wc ρ2 μ2 λb μ3=>if b=true then we ρ2 μ3 λv μ4=>N (ys++[v]) μ4 else N ys μ3)
  (fin:∀ys μ,I ds.length ys μ->Fin ys μ)(hP:∀i ys μ,I i ys μ->Pm μ:=by exact λ_ _ _ _=>trivial):bO g wc we ρb Pm Fin ds ys μ:=by
 have key:∀(n i:Nat) ys μ,i+n=ds.length->I i ys μ->bO g wc we ρb Pm Fin (ds.drop i) ys μ:=by
  intro n;induction n with
  |zero =>
   intro i ys μ hi hI;rw[ML (by omega)];have:i=ds.length:=by omega
   subst this;exact⟨hP _ _ _ hI,fin ys μ hI⟩
  |succ n ih =>
   intro i ys μ hi hI;rw[Mt (by omega)];obtain⟨hz,st⟩:=step i _ ys μ (L3 (by omega)) hI;exact⟨hP _ _ _ hI,hz,st (λys' μ'=>bO g wc we ρb Pm Fin (ds.drop (i+1)) ys' μ') λys' μ' h=>ih (i+1) ys' μ' (by omega) h⟩
 exact key ds.length 0 ys μ (by omega) h0
end
theorem gH{n i:Nat}{d:D}(h:((b_ lo n).map D.int)[i]? = some d):i < n/\d= .int (lo+i):=by
 rw[L4] at h;by_cases hi:i < n
 .rw[qV hi] at h;cases h;exact⟨hi,rfl⟩
 .rw[LZ (by rw[io];omega)] at h;cases h
theorem iN(lo:Int)(n:Nat):((b_ lo n).map D.int).length=n:=by rw[L0,io]
theorem Ec{i j:Int}:dEq (.int i) (.int j) μ Q=Q (.bl (decide (i=j))) μ:=by simp[dEq,dZ]
theorem IZ{i j:Str}:dEq (.str i) (.str j) μ Q=Q (.bl (decide (i=j))) μ:=by simp[dEq,dZ]
theorem I0{i j:Str}:dNe (.str i) (.str j) μ Q=Q (.bl (!decide (i=j))) μ:=by simp[dNe,dZ]
theorem gI{ds:List D}:af μ (.lst ds)=some ds:=rfl
theorem Ed{ds:List D}:aZ μ (.tup ds)=some ds:=rfl
theorem Ee{k:Nat}{ds:List D}(h:μ k=some (.lst ds)):aZ μ (.cell k)=some ds:=by simp[aZ,af,h]
def Pl:Nat->D->Prop
 |_,.non=>True
 |_,.bl _=>True
 |_,.int _=>True
 |_,.str x=>PyData.strOk x=true
 |n+1,.tup ds=>∀d∈ds,Pl n d
 |n+1,.lst ds=>∀d∈ds,Pl n d
 |_,_=>False
theorem Pl.pys{n:Nat}(ih:∀d,Pl n d->∃p,toPy d=some p/\p.canLay0=true/\p.depth<=n):∀ds:List D,(∀d∈ds,Pl n d)->∃ps,bp ds=some ps/\PyData.canLayAll0 ps=true/\PyData.depthAll ps<=n
 | [],_=>⟨[],by unfold bp;rfl,by unfold PyData.canLayAll0;rfl,by unfold PyData.depthAll;omega⟩
 |d::ds,h=>by
  obtain⟨p,e,c,b⟩:=ih d (h d LO);obtain⟨ps,e',c',b'⟩:=Pl.pys ih ds λx hx=>h x (LN _ hx)
  refine⟨p::ps,by unfold bp;rw[e,e'],by unfold PyData.canLayAll0;rw[c,c'];rfl,?_⟩;unfold PyData.depthAll;omega
theorem Pl.py:∀(n:Nat) (d:D),Pl n d->∃p,toPy d=some p/\p.canLay0=true/\p.depth<=n:=by
 intro n;induction n with
 |zero =>
  intro d h;cases d<;>first|exact h.elim|skip
  .exact⟨_,by unfold toPy;rfl,by simp[PyData.canLay0],by simp[PyData.depth]⟩
  .exact⟨_,by unfold toPy;rfl,by simp[PyData.canLay0],by simp[PyData.depth]⟩
  .exact⟨_,by unfold toPy;rfl,by simp[PyData.canLay0],by simp[PyData.depth]⟩
  .exact⟨_,by unfold toPy;rfl,by rw[PyData.canLay0];exact h,by simp[PyData.depth]⟩
 |succ n ih =>
  intro d h;cases d<;>first|exact h.elim|skip
  .exact⟨_,by unfold toPy;rfl,by simp[PyData.canLay0],by simp[PyData.depth]⟩
  .exact⟨_,by unfold toPy;rfl,by simp[PyData.canLay0],by simp[PyData.depth]⟩
  .exact⟨_,by unfold toPy;rfl,by simp[PyData.canLay0],by simp[PyData.depth]⟩
  .exact⟨_,by unfold toPy;rfl,by rw[PyData.canLay0];exact h,by simp[PyData.depth]⟩
  .rename_i ds;obtain⟨ps,e,c,b⟩:=Pl.pys ih ds h;exact⟨.tuple ps,by unfold toPy;rw[e];rfl,by rw[PyData.canLay0];exact c,by rw[PyData.depth];omega⟩
  .rename_i ds;obtain⟨ps,e,c,b⟩:=Pl.pys ih ds h;exact⟨.list ps,by unfold toPy;rw[e];rfl,by rw[PyData.canLay0];exact c,by rw[PyData.depth];omega⟩
theorem sU{d:D}{p:PyData}(h:toPy d=some p):iG μ d=some p:=by
 cases d<;>first|exact h | (unfold toPy at h;cases h)
section
end
theorem gJ(xs:List α)(n:Nat):cutD xs none (some (n:Int))=xs.take n:=by
 unfold cutD;rw[HT.ql,HT.bR,RG,Nat.sub_zero];rcases Sz n xs.length with h|h
 .rw[Oq h]
 .rw[R8 h,N0,MC h]
theorem fV(xs:List α)(n:Nat):cutD xs (some (n:Int)) none=xs.drop n:=by
 unfold cutD;rw[HT.ql,HT.bR];rcases Sz n xs.length with h|h
 .rw[Oq h,MC (by rw[NS];omega)]
 .rw[R8 h,QP,List.take_zero,ML h]
section
variable{s:Shared}
theorem Inv.turnedL{t':Nat}(ch:List Addr)(I:Inv X pins σ H s)(k:∀b o,b∉ch->s.heap.get? b=some o->h'.get? b=some o)(hf:∀b∈ch,bu X pins H b):Inv X pins σ H {s with heap:=h',toks:=t'}:=by
 have nit:∀b u,H b=some u->b∉ch:=λb u e z=>by rw[(hf b z).1] at e;cases e
 have hL:X.env.locals∉ch:=λz=>(hf _ z).2.1 rfl
 refine I.step (g':=s.gens) (d':=s.drawn) (ch:=ch) (λb hb=>?_) (λb o _ _ hc e _=>k b o hc e) (λb o _ _ hc e _=>⟨o.slots,k b o hc e⟩) (λ_ _ _ _ n=>n)
  (λb o hc e=>⟨o,k b o hc e⟩) (λ_ _ e=>e) (λ_ _ _ e=>e) (λb ps e=>⟨#[],by rw[e];simp⟩) (λm hm=>?_) (λb u e=>?_) I.bare
 .obtain⟨f0,f1,f2,f3,f4,f5⟩:=hf b hb;exact⟨f3,f1,f4,f5⟩
 .obtain⟨o,es,ep,ho,r⟩:=hm;exact⟨o,es,ep,k _ o hL ho,r⟩
 .refine(I.hok b u e).stay (λc v hc q=>k c v ?_ q) (λ_ q=>q) λ_ _ q=>q
  rcases hc with z|z
  .rw[z];exact nit b u e
  .exact nit c _ z
end
theorem sV{o u:Obj}{b:Addr}(hb:b≠h.objs.size)(e:(h.push o).get? b=some u):h.get? b=some u:=by
 unfold Heap.get? Heap.push at *;rw[Array.getElem?_push] at e;rw[if_neg hb] at e;exact e
theorem sW{s:Shared}{ys:List V}(I:Inv X pins σ H s)(q:SqL X.K H l xs)(q':SqL X.K H l ys):xs=ys:=by
 obtain⟨its1,r1,p1,_⟩:=I.list q;obtain⟨its2,r2,p2,_⟩:=I.list q';obtain⟨o1,n1,e1,c1,d1,s1⟩:=p1;obtain⟨o2,n2,e2,c2,d2,s2⟩:=p2;rw[e1] at e2;cases e2;rw[s1] at s2;have:its1=its2:=by
  have:=(Data.seq.inj s2).1;simpa using this
 subst this;exact r1.inj r2
def Itz(K:Frag)(l1 l2:Addr):It :=
 ⟨λi H => ∃xs ys x y, SqL K H l1 xs /\ SqL K H l2 ys /\ xs[i]? = some x /\ ys[i]? = some y,
  λi H v H'=>∃p,H p=none/\v= .ref p/\∀xs ys,SqL K H l1 xs->SqL K H l2 ys->∃x y,xs[i]? = some x/\ys[i]? = some y/\H'=upd H p (.tup [x,y]),
  λi H=>∃xs ys,SqL K H l1 xs/\SqL K H l2 ys/\(xs.length<=i\/ys.length<=i)⟩
def Ef(z TI TO i1 i2 l1 l2:Addr)(i:Nat)(h:Heap):Prop:=IsZip h z TI TO .none/\IsPair h TI (.ref i1) (.ref i2)/\(∃a b,IsPair h TO a b)/\h.IsListIter i1 l1 i/\h.IsListIter i2 l2 i
theorem Eg{k:Nat}(z TI TO i1 i2 l1 l2:Addr)(d:TI≠z/\TO≠z/\i1≠z/\i2≠z/\TI≠TO/\TI≠i1/\TI≠i2/\TO≠i1/\TO≠i2/\i1≠i2) :
  Turn P w K (.Tuple elts k pos) (Itz K l1 l2) [z,TI,TO,i1,i2] z (Ef z TI TO i1 i2 l1 l2) where
 mem:=by simp
 obj:=λi h st b hb=>by
  obtain⟨hz,hTI,⟨a,c,hTO⟩,⟨o1,e1,c1,d1⟩,⟨o2,e2,c2,d2⟩⟩:=st;simp only[LD,Mb,or_false] at hb;rcases hb with rfl|rfl|rfl|rfl|rfl
  .exact⟨_,hz,λv e=>by cases e⟩
  .exact⟨_,hTI,λv e=>by cases e⟩
  .exact⟨_,hTO,λv e=>by cases e⟩
  .exact⟨_,e1,λv e=>by rw[d1] at e;cases e⟩
  .exact⟨_,e2,λv e=>by rw[d2] at e;cases e⟩
 keep:=λi h h' st kk=>by
  obtain⟨hz,hTI,⟨a,c,hTO⟩,h1,h2⟩:=st;exact⟨kk z (by simp) _ hz,kk TI (by simp) _ hTI,⟨a,c,kk TO (by simp) _ hTO⟩,h1.at λo e=>kk i1 (by simp) o e,h2.at λo e=>kk i2 (by simp) o e⟩
 item:=by
  intro X hP hw hK hc i pins s σ H E I hf st hg;subst hP hw hK;obtain⟨xs,ys,x,y,q1,q2,hx,hy⟩:=hg;obtain⟨its1,r1,p1,_⟩:=I.list q1;obtain⟨its2,r2,p2,_⟩:=I.list q2;obtain⟨u1,eu1,ru1⟩:=r1.get hx;obtain⟨u2,eu2,ru2⟩:=r2.get hy;obtain⟨hz,hTI,⟨a,c,hTO⟩,h1,h2⟩:=st;have hl1:=p1.isList;have hl2:=p2.isList;have ap:∀{l:Addr} {its:Array Value},s.heap.IsList l its->l≠z/\l≠TO/\l≠i1/\l≠i2:=λ{l its} hl=>by
   obtain⟨o,e,cl,_⟩:=hl;refine⟨λw=>?_,λw=>?_,λw=>?_,λw=>?_⟩
   .rw[w,hz] at e;cases e;injection cl with c0;exact absurd c0 (by decide)
   .rw[w,hTO] at e;cases e;injection cl with c0;exact absurd c0 (by decide)
   .obtain⟨o1,e1,c1,_⟩:=h1;rw[w,e1] at e;cases e;rw[c1] at cl;injection cl with c0;exact absurd c0 (by decide)
   .obtain⟨o1,e1,c1,_⟩:=h2;rw[w,e1] at e;cases e;rw[c1] at cl;injection cl with c0;exact absurd c0 (by decide)
  obtain⟨d1,d2,d3,d4,d5,d6,d7,d8,d9,d10⟩:=d;obtain⟨m1,m2,m3,m4⟩:=ap hl1;obtain⟨n1,n2,n3,n4⟩:=ap hl2;have D:ZipApart z TI TO i1 i2 l1 l2:=⟨d1,d2,d3,d4,d5,d6,d7,d8,d9,d10,m1,m2,m3,m4,n1,n2,n3,n4⟩;refine wpAny_pyNext_zip_item D hz hTI hTO h1 h2 hl1 hl2 (x:=u1) (y:=u2) (by simpa using eu1) (by simpa using eu2) λh' a1 a2 a3 a4 a5 a6 hk=>?_
  refine⟨_,rfl,wpAny_letOwnedTupleGo_zip a1 λh'' b1 b2=>?_⟩;have lt:∀b∈[z,TI,TO,i1,i2],b < s.heap.objs.size:=λb hb=>by
   simp only[LD,Mb,or_false] at hb;rcases hb with rfl|rfl|rfl|rfl|rfl
   .exact LB hz
   .exact LB hTI
   .exact LB hTO
   .obtain⟨o1,e1,_⟩:=h1;exact LB e1
   .obtain⟨o1,e1,_⟩:=h2;exact LB e1
  have hfr:H s.heap.objs.size=none:=I.hok.fresh (Lx _);have Tz:s.heap.objs.size≠z:=NY (lt z (by simp));have I1:Inv X pins σ (upd H s.heap.objs.size (.tup [x,y])) {s with heap:=s.heap.push {cls:= .type "tuple",data:= .seq #[u1,u2]}} :=
   I.laid (t':=s.toks) (λb o e=>L5 _ e) (Lx _) ⟨by show 2<=sizeLine;decide,[u1,u2],.cons ru1 (.cons ru2 .nil),⟨_,LC _ rfl,rfl,_,rfl⟩⟩
  have hne:∀b∈[z,TI,TO,i1,i2],(upd H s.heap.objs.size (.tup [x,y])) b=none:=λb hb=>by
   rw[zE (LJ (lt b hb))];exact(hf b hb).1
  have I2:=I1.turnedL (h':=h'') (t':=s.toks) [z,TI,TO,i1,i2] (λb o hb e=>?_) (λb hb=>⟨hne b hb,(hf b hb).2⟩)
  .refine⟨.ref s.heap.objs.size,_,I2,rfl,⟨_,hfr,rfl,λxs' ys' q1' q2'=>⟨x,y,by rw[sW I q1' q1];exact hx,by rw[sW I q2' q2];exact hy,rfl⟩⟩,⟨b1,b2.extBut _ _ d1 (hk _ _ d1 d5 d6 d7 hTI),⟨_,_,b2.extBut _ _ d2 a2⟩,a3.extBut b2.extBut d3,a4.extBut b2.extBut d4⟩,hne⟩
  .simp only[LD,Mb,or_false,not_or] at hb;refine b2.extBut _ _ hb.1 ?_;by_cases hT:b=s.heap.objs.size
   .subst hT;rw[LC _ rfl] at e;cases e;exact a5
   .have e':s.heap.get? b=some o:=sV hT e;exact hk b o hb.1 hb.2.2.1 hb.2.2.2.1 hb.2.2.2.2 e'
 done:=by
  intro X hP hw hK hc i pins s σ H E I hf st hg;subst hP hw hK;obtain⟨xs,ys,q1,q2,hend⟩:=hg;obtain⟨its1,r1,p1,_⟩:=I.list q1;obtain⟨its2,r2,p2,_⟩:=I.list q2;obtain⟨hz,hTI,⟨a,c,hTO⟩,h1,h2⟩:=st;have hl1:=p1.isList;have hl2:=p2.isList;have ap:∀{l:Addr} {its:Array Value},s.heap.IsList l its->l≠z/\l≠TO/\l≠i1/\l≠i2:=λ{l its} hl=>by
   obtain⟨o,e,cl,_⟩:=hl;refine⟨λw=>?_,λw=>?_,λw=>?_,λw=>?_⟩
   .rw[w,hz] at e;cases e;injection cl with c0;exact absurd c0 (by decide)
   .rw[w,hTO] at e;cases e;injection cl with c0;exact absurd c0 (by decide)
   .obtain⟨o1,e1,c1,_⟩:=h1;rw[w,e1] at e;cases e;rw[c1] at cl;injection cl with c0;exact absurd c0 (by decide)
   .obtain⟨o1,e1,c1,_⟩:=h2;rw[w,e1] at e;cases e;rw[c1] at cl;injection cl with c0;exact absurd c0 (by decide)
  obtain⟨d1,d2,d3,d4,d5,d6,d7,d8,d9,d10⟩:=d;obtain⟨m1,m2,m3,m4⟩:=ap hl1;obtain⟨n1,n2,n3,n4⟩:=ap hl2;have D:ZipApart z TI TO i1 i2 l1 l2:=⟨d1,d2,d3,d4,d5,d6,d7,d8,d9,d10,m1,m2,m3,m4,n1,n2,n3,n4⟩;refine wpAny_pyNext_zip_end (I.ok.hd hc) D hz hTI hTO h1 h2 hl1 hl2 ?_ λh' hk=>⟨rfl,I.turnedL (h':=h') (t':=s.toks) [z,TI,TO,i1,i2] (λb o hb e=>?_) hf⟩
  .rcases hend with h|h
   .exact .inl (by rw[NZ];rw[Ly,<- r1.length];exact h)
   .exact .inr (by rw[NZ];rw[Ly,<- r2.length];exact h)
  .simp only[LD,Mb,or_false,not_or] at hb;exact hk b o hb.1 hb.2.2.1 hb.2.2.2.1 hb.2.2.2.2 e
 self:=λ_ _ _ _ _ st h=>Rk st.1 h
def sX(K:Frag)(ta:TA):TI:=λσ H R=>ta σ H λvs H2=>∃l1 l2 xs ys,vs=[.ref l1,.ref l2]/\SqL K H2 l1 xs/\SqL K H2 l2 ys/\R (Itz K l1 l2) H2
theorem Eh{a b:Expr}{ta:TA}{p pos2:Pos}{k:Nat}(K:Frag)(hg:Gl X "zip")(hm:X.mg "zip"=none)(ha:WA X [a,b] ta)(h:X.K=K:=by rfl)
  (hs:starEach [a,b] X.env=(false,eval a X.env)::starEach [b] X.env:=by rfl)(hpl:(backTo pos (starEach [b] X.env)).any (·.1)=false:=by rfl):WI X (.Tuple elts k pos2) (.Call (.Name "zip" p) [a,b] [] pos) (sX K ta):=⟨by
 subst h;intro pins s σ H R I h;refine Call_ (eJ I hg hm CF (Nh (thn (ha.out pos pins s σ H _ I h) λus s1 ⟨vs,H1,I1,r1,q1⟩=>?_) hs hpl));obtain⟨l1,l2,xs,ys,e,q2,q3,q⟩:=q1;subst e;obtain⟨u,w',rfl,e1,e2⟩:=vals2 r1;cases e1;cases e2;obtain⟨its1,rv1,p1,_⟩:=I1.list q2;obtain⟨its2,rv2,p2,_⟩:=I1.list q3;refine call_zip_2 p1.isList p2.isList λh' b1 b2 b3 b4 b5 b6 b7=>?_
 refine Rk b1 ?_;refine⟨s1.heap.objs.size+4,[s1.heap.objs.size+4,s1.heap.objs.size+2,s1.heap.objs.size+3,s1.heap.objs.size,s1.heap.objs.size+1],_,_,H1,rfl,I1.kept (t':=s1.toks) b7,Eg (s1.heap.objs.size+4) (s1.heap.objs.size+2) (s1.heap.objs.size+3) s1.heap.objs.size (s1.heap.objs.size+1) l1 l2 (by refine⟨?_,?_,?_,?_,?_,?_,?_,?_,?_,?_⟩<;>(intro h;have h':=@congrArg Nat Nat _ _ (λn=>n - s1.heap.objs.size) h;simp at h')),⟨b1,b2,⟨_,_,b3⟩,b4,b5⟩,λb hb=>?_,q⟩;have hge:s1.heap.objs.size<=b:=by
  simp only[LD,Mb,or_false] at hb;rcases hb with rfl|rfl|rfl|rfl|rfl
  .exact OJ _ _
  .exact OJ _ _
  .exact OJ _ _
  .exact Lx _
  .exact OJ _ _
 exact I1.fpOk hge (I1.hok.fresh hge)⟩
def Ei(K:Frag)(fl:Wd)(W:Wd)(Pm:Mu->Prop)(p:Addr)(ds:List D):Prop:=∀W1 μ H,W.le W1->Rel K fl W1 μ H->Pm μ->∃xs,H p=some (.lst xs)/\zx K W1 ds xs
def lsM(μ:Mu)(d:D)(Q:List D->(Mu->Prop)->Prop):Prop:=match d with
 | .cell k=>match μ k with
  |some (.lst ds)=>Q ds λμ'=>μ' k=some (.lst ds)
  |_=>False
 | .lst ds=>Q ds λ_=>True
 |_=>False
theorem mV{W:Wd}{d:D}{x:V}{Q:List D->(Mu->Prop)->Prop}(r:Rel K fl W μ H)(q:Rep K W d x)(h:lsM μ d Q):∃p ds Pm,x= .ref p/\Ei K fl W Pm p ds/\Pm μ/\Q ds Pm:=by
 unfold lsM at h;split at h
 .rename_i c;obtain⟨p,rfl,hb⟩:=q.cell';split at h
  .rename_i ds hk;exact⟨p,ds,_,rfl,λW1 μ1 H1 le1 r1 pm=>mT r1 (le1.b _ _ hb) pm,hk,h⟩
  .exact h.elim
 .obtain⟨p,xs,rfl,s1,z1⟩:=q.lst';exact⟨p,_,_,rfl,λW1 μ1 H1 le1 r1 _=>⟨xs,r1.sub _ _ (le1.F _ _ s1),z1.mono le1⟩,trivial,h⟩
 .exact h.elim
def pairD(p:D×D):D:= .tup [p.1,p.2]
def mW(w:DA):DI:=λρ μ Q=>w ρ μ λes μ1=>match es with
 | [d,e]=>lsM μ1 d λds P1=>lsM μ1 e λes P2=>Q ((ds.zip es).map pairD) (λμ'=>P1 μ'/\P2 μ') μ1
 |_=>False
instance{ta:TA}{wa:DA}[a:aH K fl ta wa]:dA K fl (sX K ta) (mW wa):=⟨λ{W ρ μ σ H Q Q'} r e h k=>a.run r e h λW1 ds μ1 xs H1 le1 r1 z1 h1=>by
 split at h1
 .obtain⟨x,y,rfl,q1,q2⟩:=z1.two;obtain⟨p1,d1,P1,rfl,l1,pm1,h1⟩:=mV r1 q1 h1;obtain⟨p2,d2,P2,rfl,l2,pm2,h1⟩:=mV r1 q2 h1;obtain⟨xs1,e1,_⟩:=l1 W1 μ1 H1 (.refl _) r1 pm1;obtain⟨xs2,e2,_⟩:=l2 W1 μ1 H1 (.refl _) r1 pm2;refine⟨p1,p2,xs1,xs2,rfl,SqL.of e1,SqL.of e2,k W1 _ _ _ μ1 H1 le1 r1 (λW2 μ2 H2 le2 r2 pm i=>?_) h1⟩;obtain⟨a1,f1,g1⟩:=l1 W2 μ2 H2 le2 r2 pm.1;obtain⟨a2,f2,g2⟩:=l2 W2 μ2 H2 le2 r2 pm.2;constructor
  .intro d hd;rw[L4] at hd;cases hz:(d1.zip d2)[i]? with
   |none=>rw[hz] at hd;cases hd
   |some pr =>
    rw[hz] at hd;cases hd;obtain⟨m1,m2⟩:=Oe.mp hz;obtain⟨x1,ex1,qx1⟩:=g1.get m1;obtain⟨x2,ex2,qx2⟩:=g2.get m2;refine⟨⟨a1,a2,x1,x2,SqL.of f1,SqL.of f2,ex1,ex2⟩,λv H' hy=>?_⟩;obtain⟨p,hp,rfl,hy⟩:=hy;obtain⟨y1,y2,ey1,ey2,rfl⟩:=hy a1 a2 (SqL.of f1) (SqL.of f2);rw[ex1] at ey1;rw[ex2] at ey2;cases ey1;cases ey2;obtain⟨r3,le3⟩:=r2.newF (o:= .tup [x1,x2]) hp;exact⟨_,le3,r3,.tup (SqT.of zA) (.cons (qx1.mono le3) (.cons (qx2.mono le3) .nil))⟩
  .intro hl;rw[L0,Os] at hl;refine⟨a1,a2,SqL.of f1,SqL.of f2,?_⟩;rw[g1.length,g2.length];omega
 .exact h1.elim⟩
section
theorem Ej{ds:List D}{i:Int}:dIx (.tup ds) (.int i) μ Q=match atI ds i with
  |some v=>Q v μ
  |none=>False:=rfl
theorem Ek{ds:List D}{i:Int}:dIx (.lst ds) (.int i) μ Q=match atI ds i with
  |some v=>Q v μ
  |none=>False:=rfl
theorem sY{a:α}{r:List α}:atI (a::r) 0=some a:=dS (j:=0) rfl
theorem sZ{a b:α}{r:List α}:atI (a::b::r) 1=some b:=dS (j:=1) rfl
theorem El{a b c:α}{r:List α}:atI (a::b::c::r) 2=some c:=dS (j:=2) rfl
theorem Em{a b c d:α}{r:List α}:atI (a::b::c::d::r) 3=some d:=dS (j:=3) rfl
theorem En{a b c d e:α}{r:List α}:atI (a::b::c::d::e::r) 4=some e:=dS (j:=4) rfl
theorem I_{a:α}:atI [a] (-1)=some a:=rfl
theorem Ja{a b:α}:atI [a,b] (-1)=some b:=rfl
theorem Jb{a b c:α}:atI [a,b,c] (-1)=some c:=rfl
theorem Jc{a b c d:α}:atI [a,b,c,d] (-1)=some d:=rfl
theorem Jd{a b c d e:α}:atI [a,b,c,d,e] (-1)=some e:=rfl
theorem s_{f:α->β}{xs:List α}{i:Int}:atI (xs.map f) i=(atI xs i).map f:=by
 unfold atI;rw[L0];cases ixN xs.length i with
 |none=>rfl
 |some j=>simp[L4]
theorem mX{xs:List α}{i:Int}{v:α}(hi:i=j)(h:xs[j]? = some v):atI xs i=some v:=by subst hi;exact dS h
theorem mY{xs:List α}{i:Int}(h0:0<=i)(h1:i < xs.length):∃v,atI xs i=some v/\xs[i.toNat]? = some v:=by
 have hi:i.toNat < xs.length:=by omega
 exact⟨xs[i.toNat],mX (by omega) (L3 hi),L3 hi⟩
theorem tm{xs:List α}:atI xs (-1)=xs.getLast? := by
 rcases List.eq_nil_or_concat xs with rfl|⟨ys,v,rfl⟩
 .rfl
 .rw[List.concat_eq_append,qz];simp
theorem Eo{xs:List α}:cutD xs (some 1) none=xs.drop 1:=fV xs 1
end
theorem eZ{s1 u:DS}(R:ad->Mu->Prop)(h1:∀N:ad->Mu->Prop,(∀ ρ' μ',R ρ' μ'->N ρ' μ')->s1 {D' with nx:=N} ρ μ)(h2:∀ ρ' μ',R ρ' μ'->u D' ρ' μ'):zJ s1 u D' ρ μ:=h1 _ h2
def blK(Q:Bool->Mu->Prop):DK:=λd μ=>match d with
 | .bl b=>Q b μ
 |_=>False
def tp(Q:Int->Mu->Prop):DK:=λd μ=>match d with
 | .int b=>Q b μ
 |_=>False
def chK(q':DR2)(e:D)(wc:DE)(ρ:ad)(Q:DK):DK:=λz μ3=>match z with
 | .bl k=>if k=true then wc ρ μ3 λf μ4=>q' e f μ4 Q else Q (.bl false) μ3
 |_=>False
def cellK(c:Option Ct)(Q:List D->Prop):Prop:=match c with
 |some (.lst ds)=>Q ds
 |_=>False
def ai(o:Option α)(Q:α->Prop):Prop:=match o with
 |some a=>Q a
 |none=>False
def iO(o:Option α)(f:α->β):Option β:=match o with
 |some a=>some (f a)
 |none=>none
theorem Je{a:α}{f:α->β}:iO (some a) f=some (f a):=rfl
def gK(c:Option Ct)(Q:DK)(μ:Mu):Prop:=match c with
 |some (.lst ds)=>Q (.lst ds) μ
 |some (.dct ks vs)=>Q (.dct ks vs) μ
 |some (.dtt ks vs)=>Q (.dtt ks vs) μ
 |some (.ins C ns vs)=>Q (.obj C ns vs) μ
 |_=>False
def tyC(T:String)(c:Option Ct):Prop:=match c with
 |some (.lst _)=>"list"=T
 |some (.dct _ _)=>"dict"=T
 |some (.dtt _ _)=>"dict"=T
 |_=>False
section
variable{w wc:DE}{k:Nat}{d e:D}{ds es:List D}{i j:Int}{q q':DR2}
theorem mZ{b:Bool}{R:Bool->Mu->Prop}:blK R (.bl b) μ=R b μ:=rfl
theorem Jf{R:Int->Mu->Prop}:tp R (.int i) μ=R i μ:=rfl
theorem Jg{b:Bool}:chK q' e wc ρ Q (.bl b) μ=if b=true then wc ρ μ λf μ4=>q' e f μ4 Q else Q (.bl false) μ:=rfl
theorem Jh{R:List D->Prop}:cellK (some (.lst ds)) R=R ds:=rfl
theorem fW{a:α}{R:α->Prop}:ai (some a) R=R a:=rfl
theorem Ji:gK (some (.lst ds)) Q μ=Q (.lst ds) μ:=rfl
theorem Jj{ks:List Key}:gK (some (.dct ks ds)) Q μ=Q (.dct ks ds) μ:=rfl
theorem Jk{ks:List (List Key)}:gK (some (.dtt ks ds)) Q μ=Q (.dtt ks ds) μ:=rfl
theorem Ep{C:Str}:gK (some (.ins C ns ds)) Q μ=Q (.obj C ns ds) μ:=rfl
theorem Jl:tyC "list" (some (.lst ds))=True:=eq_true rfl
theorem Jm{R:Bool->Mu->Prop}:zP w ρ μ R=w ρ μ (blK R):=rfl
theorem Jn:iE q q' wa wb wc ρ μ Q=wa ρ μ λd μ1=>wb ρ μ1 λe μ2=>q d e μ2 (chK q' e wc ρ Q):=rfl
theorem Jo{R:Option Int->Mu->Prop}:aQ w ρ μ R=w ρ μ (tp λi=>R (some i)):=rfl
theorem Jp{g:DG}{gs:DGs}{R:ad->Mu->Prop}:a_ g gs (d::ds) ρ μ R=g d ρ μ λρ' μ'=>gs ds ρ' μ' R:=rfl
theorem Er{n:Nat}{gs:DGs}{R:ad->Mu->Prop}:dX n gs (.tup ds) ρ μ R=(ds.length=n/\gs ds ρ μ R):=rfl
def tq(i j:Nat)(D0:cM)(ρ:ad):List D->Mu->Prop:=λds μ1=>match ds with
 | [d,e]=>D0.nx ((ρ.set i (some d)).set j (some e)) μ1
 |_=>False
theorem Jq{i j:Nat}:dPar i j wA D' ρ μ=wA ρ μ (tq i j D' ρ):=rfl
theorem Jr{i j:Nat}:tq i j D' ρ [d,e] μ=D'.nx ((ρ.set i (some d)).set j (some e)) μ:=rfl
theorem Es:dY μ (.cell k) Q=gK (μ k) Q (dz μ k):=by
 unfold dY gK;cases h:μ k with
 |none=>simp[h]
 |some c=>cases c<;>simp[h]
theorem Js{g:Int->Int->D}:dI0 g (.int i) (.int j) μ Q=Q (g i j) μ:=rfl
theorem e_i{C:Int->Int->Prop}{g:Int->Int->D}:dI C g (.int i) (.int j) μ Q=(C i j/\Q (g i j) μ):=rfl
theorem Jt:c_ (.int i) μ Q=Q (.int (-i)) μ:=rfl
theorem Et:ay (.int i) (.int j) μ Q=Q (.int (i+j)) μ:=rfl
theorem Ju{a b:Str}:ay (.str a) (.str b) μ Q=(a.length+b.length<=sizeLine/\Q (.str (a++b)) μ):=rfl
theorem Eu:ay (.tup ds) (.tup es) μ Q=(ds≠[]/\ds.length+es.length<=sizeLine/\Q (.tup (ds++es)) μ):=rfl
theorem Jv:ay (.lst ds) (.lst es) μ Q=(ds.length+es.length<=sizeLine/\Q (.lst (ds++es)) μ):=by
 show(∃a b,af μ (.lst ds)=some a/\af μ (.lst es)=some b/\a.length+b.length<=sizeLine/\Q (.lst (a++b)) μ)=_;simp only[gI,Nu];refine propext ⟨λ⟨a,b,e1,e2,h⟩=>by subst e1 e2;exact h,λh=>⟨_,_,rfl,rfl,h⟩⟩
theorem Ew(μ:Mu)(k:Nat)(R:List D->Prop):(∃a,af μ (.cell k)=some a/\R a)=cellK (μ k) R:=by
 unfold af cellK;cases h:μ k with
 |none=>simp[h]
 |some c=>cases c<;>simp[h]
theorem Jw:ay (.lst ds) (.cell k) μ Q=cellK (μ k) λes=>ds.length+es.length<=sizeLine/\Q (.lst (ds++es)) μ:=by
 rw[<- Ew];show(∃a b,af μ (.lst ds)=some a/\af μ (.cell k)=some b/\a.length+b.length<=sizeLine/\Q (.lst (a++b)) μ)=_;refine propext ⟨λ⟨a,b,e1,e2,h⟩=>by cases e1;exact⟨_,e2,h⟩,λ⟨b,e2,h⟩=>⟨_,_,rfl,e2,h⟩⟩
theorem Jx:gA (.int i) (.int j) μ Q=(dk i j/\Q (.int (i*j)) μ):=rfl
theorem Ey:gA (.lst ds) (.int j) μ Q=(-(2^63)<=j/\j < 2^63/\ds.length*j.toNat<=sizeLine/\Q (.lst (LF j.toNat ds).flatten) μ):=by
 show(∃a,af μ (.lst ds)=some a/\_)=_;refine propext ⟨λ⟨a,e1,h⟩=>by cases e1;exact h,λh=>⟨_,rfl,h⟩⟩
theorem Jy:DC (.int i) (.int j) μ Q=Q (.int (i+j)) μ:=rfl
theorem tu:dIx (.tup ds) (.int i) μ Q=ai (atI ds i) λv=>Q v μ:=by
 rw[Ej];cases atI ds i<;>rfl
theorem Ez:dIx (.lst ds) (.int i) μ Q=ai (atI ds i) λv=>Q v μ:=by
 rw[Ek];cases atI ds i<;>rfl
theorem Jz:dIx (.cell k) (.int i) μ Q=cellK (μ k) λds=>ai (atI ds i) λv=>Q v μ:=by
 show(match aZ μ (.cell k) with|some ds=>(match L2.atI ds i with|some v=>Q v μ|none=>False)|none=>False)=_;unfold cellK aZ af ai;cases h:μ k with
 |none=>simp[h]
 |some c =>
  cases c<;>simp[h]
  rename_i ds;cases atI ds i<;>simp
theorem JA:dIx (.str z) (.int i) μ Q=(z.length<=sizeLine/\ai (L2.atI z.cps.toList i) λc=>Q (.str ⟨#[c]⟩) μ):=by
 show(z.length<=sizeLine/\(match L2.atI z.cps.toList i with|some c=>Q (.str ⟨#[c]⟩) μ|none=>False))=_;cases L2.atI z.cps.toList i<;>rfl
theorem dF{lo:Option Int}:ax (.tup ds) lo hi μ Q=(¬ (HT.sIx ds.length 0 lo=0/\HT.sIx ds.length ds.length hi=ds.length)/\Q (.tup (cutD ds lo hi)) μ):=rfl
theorem JB{lo:Option Int}:ax (.lst ds) lo hi μ Q=Q (.lst (cutD ds lo hi)) μ:=rfl
theorem JC:aI [.str z] μ Q=(z.length<=sizeLine/\Q (.int z.length) μ):=rfl
theorem JD:aI [.lst ds] μ Q=Q (.int ds.length) μ:=rfl
theorem JE:aI [.tup ds] μ Q=Q (.int ds.length) μ:=rfl
theorem JF:aI [.cell k] μ Q=cellK (μ k) λds=>Q (.int ds.length) μ:=by
 show(match aZ μ (.cell k) with|some es=>Q (.int es.length) μ|none=>False)=_;unfold cellK aZ af;cases h:μ k with
 |none=>simp[h]
 |some c=>cases c<;>simp[h]
theorem JG:iK [.lst ds] μ Q=Q (.lst ds) μ:=rfl
theorem JH:iK [.tup ds] μ Q=Q (.lst ds) μ:=rfl
theorem JI:sN [.lst ds] μ Q=∀k,μ k=none->Q (.cell k) (zO μ k (.lst ds)):=rfl
theorem JJ:sN [.tup ds] μ Q=∀k,μ k=none->Q (.cell k) (zO μ k (.lst ds)):=rfl
theorem EA:cR [.lst ds] μ Q=Q (.tup ds) μ:=rfl
theorem JK:cR [.tup ds] μ Q=Q (.tup ds) μ:=rfl
theorem JL:cR [.cell k] μ Q=cellK (μ k) λds=>Q (.tup ds) μ:=by
 show(match aZ μ (.cell k) with|some es=>Q (.tup es) μ|none=>False)=_;unfold cellK aZ af;cases h:μ k with
 |none=>simp[h]
 |some c=>cases c<;>simp[h]
theorem JM:DZ [.int i] μ Q=Q (.int (if i < 0 then -i else i)) μ:=rfl
theorem JN:fT [.int i,.int j] μ Q=Q (.int (if j > i then j else i)) μ:=rfl
theorem JO:fU [.int i,.int j] μ Q=Q (.int (if j < i then j else i)) μ:=rfl
theorem JP:fT [.lst ds] μ Q=ai (intsOf ds) λns=>ns≠[]/\∀M∈ns,(∀a∈ns,a<=M)->Q (.int M) μ:=by
 unfold fT ai;simp only[gI,Oa];cases intsOf ds<;>rfl
theorem JQ:fU [.lst ds] μ Q=ai (intsOf ds) λns=>ns≠[]/\∀M∈ns,(∀a∈ns,M<=a)->Q (.int M) μ:=by
 unfold fU ai;simp only[gI,Oa];cases intsOf ds<;>rfl
theorem JR:iI [.lst ds] μ Q=ai (intsOf ds) λns=>Q (.int ns.sum) μ:=by
 unfold iI ai;simp only[gI,Oa];cases intsOf ds<;>rfl
theorem JS:d_ [.lst ds] μ Q=ai (bF ds) λns=>Q (.bl (ns.all id)) μ:=by
 unfold d_ ai;simp only[gI,Oa];cases bF ds<;>rfl
theorem JT:iJ [.lst ds] μ Q=ai (bF ds) λns=>Q (.bl (ns.any id)) μ:=by
 unfold iJ ai;simp only[gI,Oa];cases bF ds<;>rfl
theorem JU:intsOf []=some []:=rfl
theorem JV:intsOf (.int i::ds)=iO (intsOf ds) (λl=>i::l):=by
 unfold iO;simp only[intsOf];cases intsOf ds<;>rfl
theorem JW:bF []=some []:=rfl
theorem JX{b:Bool}:bF (.bl b::ds)=iO (bF ds) (λl=>b::l):=by
 unfold iO;simp only[bF];cases bF ds<;>rfl
theorem JY{R:List D->(Mu->Prop)->Prop}:eY μ (.lst ds) R=R ds λ_=>True:=rfl
theorem JZ{R:List D->(Mu->Prop)->Prop}:eY μ (.tup ds) R=R ds λ_=>True:=rfl
theorem J3{R:List D->(Mu->Prop)->Prop}:eY μ (.cell k) R=cellK (μ k) λds=>R ds λμ'=>μ' k=some (.lst ds):=by
 first
  | (unfold eY cellK
     cases h:μ k with
     |none=>simp[h]
     |some c=>cases c<;>simp[h])
  | (unfold lsM cellK
     cases h:μ k with
     |none=>simp[h]
     |some c=>cases c<;>simp[h])
theorem J4{R:List D->(Mu->Prop)->Prop}:lsM μ (.lst ds) R=R ds λ_=>True:=rfl
def tE(R:List D->(Mu->Prop)->Mu->Prop):List D->Mu->Prop:=λds μ1=>match ds with
 | [.int j]=> -(2^62)<=j/\j < 2^62/\R ((b_ 0 j.toNat).map D.int) (λ_=>True) μ1
 |_=>False
def tF(R:List D->(Mu->Prop)->Mu->Prop):List D->Mu->Prop:=λds μ1=>match ds with
 | [.int i,.int j]=>(-(2^62)<=i/\i < 2^62/\ -(2^62)<=j/\j < 2^62)/\R ((b_ i (j - i).toNat).map D.int) (λ_=>True) μ1
 |_=>False
theorem J5{R:List D->(Mu->Prop)->Mu->Prop}:dE wA ρ μ R=wA ρ μ (tE R):=rfl
theorem J6{R:List D->(Mu->Prop)->Mu->Prop}:tE R [.int j] μ=(-(2^62)<=j/\j < 2^62/\R ((b_ 0 j.toNat).map D.int) (λ_=>True) μ):=rfl
theorem J7{R:List D->(Mu->Prop)->Mu->Prop}:D3 wA ρ μ R=wA ρ μ (tF R):=rfl
theorem J8{R:List D->(Mu->Prop)->Mu->Prop}:tF R [.int i,.int j] μ=((-(2^62)<=i/\i < 2^62/\ -(2^62)<=j/\j < 2^62)/\R ((b_ i (j - i).toNat).map D.int) (λ_=>True) μ):=rfl
def tG(R:List D->(Mu->Prop)->Mu->Prop):List D->Mu->Prop:=λes μ1=>match es with
 | [d,e]=>lsM μ1 d λds P1=>lsM μ1 e λes P2=>R ((ds.zip es).map pairD) (λμ'=>P1 μ'/\P2 μ') μ1
 |_=>False
theorem J9{R:List D->(Mu->Prop)->Mu->Prop}:mW wA ρ μ R=wA ρ μ (tG R):=rfl
theorem J_{R:List D->(Mu->Prop)->Mu->Prop}:tG R [d,e] μ=lsM μ d λds P1=>lsM μ e λes P2=>R ((ds.zip es).map pairD) (λμ'=>P1 μ'/\P2 μ') μ:=rfl
theorem Ka{many:Int}:aX [.cell k,.int many] μ Q=(μ k=some .draw/\0 < many/\many < 2^250/\∀v,0<=v->v < many->Q (.int v) μ):=rfl
theorem Kb{ns:List Int}:j4 [.scr ns] μ Q=∀k,μ k=none->Q (.cell k) (zO μ k .draw):=rfl
theorem Kc:tyM T μ (.cell k)=tyC T (μ k):=by
 unfold tyM tyD tyC;cases h:μ k with
 |none=>simp[h]
 |some c=>cases c<;>simp[h]
theorem Kd:tyM "list" μ (.lst ds)=True:=eq_true rfl
theorem Ke:tyM "str" μ (.str z)=True:=eq_true rfl
theorem Kf{R:Nat->List D->Prop}:bV μ (.cell k) R=cellK (μ k) (R k):=by
 unfold bV cellK;cases h:μ k with
 |none=>simp[h]
 |some c=>cases c<;>simp[h]
theorem Kg:bW d [e] μ Q=bV μ d λk ds=>ds.length < sizeLine/\Q .non (zO μ k (.lst (ds++[e]))):=rfl
theorem Kh:sS d [] μ Q=bV μ d λk ds=>ai ds[ds.length - 1]? λy=>Q y (zO μ k (.lst ds.dropLast)):=by
 refine congrArg (bV μ d) (funext λk=>funext λds=>?_);cases ds[ds.length - 1]? <;> rfl
theorem Ki:sS d [.int i] μ Q=bV μ d λk ds=> -(2^63)<=i/\i < 2^63/\ai (ixN ds.length i) λj=>ai ds[j]? λy=>Q y (zO μ k (.lst (ds.eraseIdx j))):=by
 refine congrArg (bV μ d) (funext λk=>funext λds=>?_);refine congrArg (And _) (congrArg (And _) ?_);unfold ai;cases ixN ds.length i with
 |none=>rfl
 |some j =>
  generalize ds.eraseIdx j=ee
  simp only;cases ds[j]? <;> rfl
theorem Kj{R:Mu->Prop}:D9 d (.int i) e μ R=bV μ d λk ds=>ai (ixN ds.length i) λj=>R (zO μ k (.lst (ds.set j e))):=by
 refine congrArg (bV μ d) (funext λk=>funext λds=>?_);cases ixN ds.length i<;>rfl
theorem Kk:dIs d .non μ Q=Q (.bl (cx d)) μ:=rfl
theorem Kl:jZ d .non μ Q=Q (.bl (!cx d)) μ:=rfl
theorem EB{x:Int}:gF [(.int x),.ty "int"] μ Q=Q (.bl true) μ:=by show("int"∈aW/\Q (.bl (bU "int" "int")) μ)=_;rw[show("int"∈aW)=True from eq_true (by decide),true_and];rfl
theorem EC{x:Int}:gF [(.int x),.ty "bool"] μ Q=Q (.bl false) μ:=by show("bool"∈aW/\Q (.bl (bU "int" "bool")) μ)=_;rw[show("bool"∈aW)=True from eq_true (by decide),true_and];rfl
theorem ED{x:List D}:gF [(.lst x),.ty "list"] μ Q=Q (.bl true) μ:=by show("list"∈aW/\Q (.bl (bU "list" "list")) μ)=_;rw[show("list"∈aW)=True from eq_true (by decide),true_and];rfl
end
def eh(ds:List D):List D:=((Mz ds.length).zip ds).map λp=> .tup [.int p.1,p.2]
theorem j5{ds:List D}{i:Nat}{d:D}(h:(eh ds)[i]? = some d):∃e,ds[i]? = some e/\d= .tup [.int i,e]:=by
 unfold eh at h;rw[L4] at h;cases hz:((Mz ds.length).zip ds)[i]? with
 |none=>rw[hz] at h;cases h
 |some pr =>
  rw[hz] at h;cases h;obtain⟨m1,m2⟩:=Oe.mp hz;have hi:=(L7.mp m2).1;rw[NQ hi] at m1;cases pr;cases m1;exact⟨_,m2,rfl⟩
theorem j6(ds:List D):(eh ds).length=ds.length:=by simp[eh]
def tH(R:List D->(Mu->Prop)->Mu->Prop):List D->Mu->Prop:=λes μ1=>match es with
 | [d]=>lsM μ1 d λds P1=>R (eh ds) P1 μ1
 |_=>False
def Km(w:DA):DI:=λρ μ Q=>w ρ μ (tH Q)
theorem Kn{d:D}{R:List D->(Mu->Prop)->Mu->Prop}:tH R [d] μ=lsM μ d λds P1=>R (eh ds) P1 μ:=rfl
section
variable(K:Frag)
def tI:List V->Hp->VK->Prop:=λxs H Q=>∃a ys c b,xs=[.ref a,c]/\SqT K H a ys/\(∀u,RelV c u->kitOne K (.type "tuple") u=some b)/\Q (.bl b) H
def tJ:List V->Hp->VK->Prop:=λxs H Q=>mP K xs H Q\/tI K xs H Q
theorem EE(h:X.K=K:=by rfl):zQ X (.builtin "isinstance") (tI K):=by
 subst h;intro pins s σ H xs us Q I r h;obtain⟨a,ys,c,b,rfl,hq,hk,q⟩:=h;obtain⟨u,w,rfl,ra,rc⟩:=vals2 r;cases ra;obtain⟨its,rv,p,hz⟩:=I.tuple hq;obtain⟨o,h1,h2,_⟩:=p;exact kia_one Qr I.kIn ⟨o,h1,h2⟩ (hk w rc) (λz=>nomatch z) λtk=>⟨.bl b,H,I.tok _,rfl,q⟩
theorem gL(h:X.K=K:=by rfl):zQ X (.builtin "isinstance") (tJ K):=(DW K h).or (EE K h)
end
def bJ:DRs:=λds μ Q=>match ds with
 | [.tup _,.ty T]=>T∈aW/\Q (.bl (bU "tuple" T)) μ
 |ds=>gF ds μ Q
theorem EF(h':T∈aW):kitOne K (.type "tuple") (.type T)=some (bU "tuple" T):=by
 simp only[aW,LD,Mb,or_false] at h';rcases h' with rfl|rfl|rfl|rfl|rfl|rfl<;>rfl
instance:bj K fl (tJ K) bJ:=⟨λ{W μ H ds xs Q Q'} r z h k=>by
 unfold bJ at h;split at h
 .rename_i es T;obtain⟨x,y,rfl,q1,q2⟩:=z.two;obtain⟨a,ys,rfl,hs,_⟩:=q1.tup';unfold Rep at q2;subst q2;exact .inr ⟨a,ys,.ty T,bU "tuple" T,rfl,hs.sm r.sub,λu hu=>by cases hu;exact EF h.1,k _ _ _ _ _ (.refl _) r .b h.2⟩
 .exact .inl (bj.run (K:=K) r z h k)⟩
inductive Src where
 |p (i:Nat)|k (i:Nat)|c (i:Nat)
variable{pat:List Src}
def pick(d:α)(cs us ws:List α):Src->α
 | .p i=>us.getD i d
 | .k i=>ws.getD i d
 | .c i=>cs.getD i d
def sel(n m:Nat)(pat:List Src)(d:α)(cs us ws:List α):List α:=bif (us.length==n&&ws.length==m) then pat.map (pick d cs us ws) else[]
theorem Vals.getD{vs:List V}(h:Vals vs us)(i:Nat):RelV (vs.getD i .non) (us.getD i .none):=by
 rw[LI,LI];cases e:vs[i]? with
 |none =>
  have:us[i]? = none:=by
   rw[NI] at e ⊢;rw[<- h.length];exact e
  rw[this];rfl
 |some v =>
  obtain⟨u,hu,rv⟩:=h.get e;rw[hu];exact rv
theorem Vals.mapS{f:Src->V}{g:Src->Value}(h:∀x,RelV (f x) (g x)):∀pat:List Src,Vals (pat.map f) (pat.map g)
 | []=> .nil
 |x::r=> .cons (h x) (Vals.mapS h r)
theorem EG{n:Nat}{vs:List V}{ws:List Value}(hc:Vals csV csU)(h1:Vals vs us)(h2:Vals zs ws):Vals (sel n m pat .non csV vs zs) (sel n m pat .none csU us ws):=by
 unfold sel;rw[h1.length,h2.length];cases (us.length==n&&ws.length==m) with
 |false=>exact .nil
 |true =>
  refine Vals.mapS (λx=>?_) pat;cases x with
  |p i=>exact h1.getD i
  |k i=>exact h2.getD i
  |c i=>exact hc.getD i
section
variable{W:Wd}
theorem zx.getD{ds:List D}(h:zx K W ds xs)(i:Nat):Rep K W (ds.getD i .non) (xs.getD i .non):=by
 rw[LI,LI];cases e:ds[i]? with
 |none =>
  have:xs[i]? = none:=by
   rw[NI] at e ⊢;rw[h.length];exact e
  rw[this];exact .n
 |some v =>
  obtain⟨u,hu,rv⟩:=h.get e;rw[hu];exact rv
theorem zx.mapS{f:Src->D}{g:Src->V}(h:∀x,Rep K W (f x) (g x)):∀pat:List Src,zx K W (pat.map f) (pat.map g)
 | []=> .nil
 |x::r=> .cons (h x) (zx.mapS h r)
theorem j7{n:Nat}{vs:List V}{csD ds es:List D}(hc:zx K W csD csV)(h1:zx K W ds vs)(h2:zx K W es zs):zx K W (sel n m pat .non csD ds es) (sel n m pat .non csV vs zs):=by
 unfold sel;rw[h1.length,h2.length];cases (ds.length==n&&es.length==m) with
 |false=>exact .nil
 |true =>
  refine zx.mapS (λx=>?_) pat;cases x with
  |p i=>exact h1.getD i
  |k i=>exact h2.getD i
  |c i=>exact hc.getD i
end
theorem EH{n:Nat}(hc:Vals csV csU)(hp:ps.length≠0)
  (h:∀(S:Setting) (us ws:List Value),us.length=n->ws.length=m->SA K S (bindArgs fd ⟨us,ks.zip ws⟩)=some (ps.zip (sel n m pat .none csU us ws))):cW K fd ps ks (sel n m pat .none csU) (sel n m pat .non csV) where
 to:=λs us ws hK hl=>by
  by_cases c:us.length=n/\ws.length=m
  .exact PySem.W.kp_binds hK λS=>h S us ws c.1 c.2
  .have:(us.length==n&&ws.length==m)=false:=by
    rw[Bool.and_eq_false_iff];by_cases c1:us.length=n
    .exact .inr (by rw[beq_eq_false_iff_ne];exact λz=>c ⟨c1,z⟩)
    .exact .inl (by rw[beq_eq_false_iff_ne];exact c1)
   unfold sel at hl;rw[this] at hl;exact absurd hl.symm hp
 rel:=λr rz=>EG hc r rz
class gM(K:Frag)(ds:List D)(xs:List V):Prop where
 run:∀W,zx K W ds xs
instance:gM K [] []:=⟨λ_=> .nil⟩
def tK(dsp:DSp)(n m:Nat)(pat:List Src)(cs:List D)(w wk:DA):DE:=λρ μ Q=>w ρ μ λds μ1=>wk ρ μ1 λes μ2=>dsp (sel n m pat .non cs ds es) μ2 Q
instance{n:Nat}{csD:List D}{E:XK}{t:TA}{w:DA}[a:aH K fl t w][b:aH K fl tk wk][c:gM K csD csV]:zR K fl (lY (lift K dsp) (sel n m pat .non csV) E t tk) (tK dsp n m pat csD w wk):=⟨λ{W ρ μ σ H Q Q'} r e h k =>
 a.run r e h λW1 ds μ1 xs H1 le1 r1 q1 h1=>b.run r1 (e.mono le1) h1 λW2 es μ2 ys H2 le2 r2 q2 h2=>⟨fl,W2,μ2,_,Q,r2,j7 (c.run W2) (q1.mono le2) q2,h2,λW3 d μ3 x H3 le3=>k W3 d μ3 x H3 (le1.trans (le2.trans le3))⟩⟩
theorem m5:∀{us:List Value} {ns:List Str},StrsAre us ns->Vals (ns.map V.str) us
 |_,_,.nil=> .nil
 |_,_,.cons n t h=> .cons ⟨t,rfl⟩ (m5 h)
theorem tL:∀{us:List Value} {ns:List Int},IntsAre us ns->Vals (ns.map V.int) us
 |_,_,.nil=> .nil
 |_,_,.cons n t h=> .cons ⟨t,rfl⟩ (tL h)
theorem m6:∀{ns:List Str} {us:List Value},Vals (ns.map V.str) us->StrsAre us ns
 | [],_,h=>by cases h;exact .nil
 |y::r,_,h=>by
  cases h with
  |cons a b=>obtain⟨t,rfl⟩:=a;exact .cons y t (m6 b)
section
variable(K:Frag)
def tM:List V->Hp->VK->Prop:=λxs H Q=>∃p ns,xs=[.ref p]/\SqL K H p (ns.map V.int)/\ns.length < 64/\∀ns' l,MH ns' ns->Ol (·<= ·) ns'->H l=none->Q (.ref l) (upd H l (.lst (ns'.map V.int)))
def tN:List V->Hp->VK->Prop:=λxs H Q=>∃p ns,xs=[.ref p]/\SqL K H p (ns.map V.str)/\ns.length < 64/\∀ns' l,MH ns' ns->sortedS ns'=true->H l=none->Q (.ref l) (upd H l (.lst (ns'.map V.str)))
theorem EI(h:X.K=K:=by rfl):zQ X (.builtin "sorted") (tM K):=by
 subst h;intro pins s σ H xs us Q I r h;obtain⟨p,ns,rfl,hl,hz,q⟩:=h;obtain⟨u,rfl,rx⟩:=vals1 r;cases rx;obtain⟨its,r',pl,hz'⟩:=I.list hl;have hi:=iq r';refine sorted_ints pl.isList hi (by rw[<- r'.length,L0];exact hz) λout ns' h1 h2 h3=>?_
 obtain⟨e,he⟩:=R0 s.heap its out;have hf:H (s.heap.objs.size+1)=none:=I.hok.fresh (MN _);refine⟨.ref (s.heap.objs.size+1),_,I.laid (a:=s.heap.objs.size+1) (o:= .lst (ns'.map V.int)) (t':=s.toks) (λb o e=>Qo e) (MN _) ?_,rfl,q ns' _ h2 h3 hf⟩;refine⟨by rw[L0,h2.length_eq];exact M6 (Nd hz) (by decide),out.toList,e,tL h1,?_⟩;rw[he]
theorem EJ(h:X.K=K:=by rfl):zQ X (.builtin "sorted") (tN K):=by
 subst h;intro pins s σ H xs us Q I r h;obtain⟨p,ns,rfl,hl,hz,q⟩:=h;obtain⟨u,rfl,rx⟩:=vals1 r;cases rx;obtain⟨its,r',pl,hz'⟩:=I.list hl;have hi:=m6 r';refine sorted_strs pl.isList hi (by rw[<- r'.length,L0];exact hz) λout ns' h1 h2 h3=>?_
 obtain⟨e,he⟩:=R0 s.heap its out;have hf:H (s.heap.objs.size+1)=none:=I.hok.fresh (MN _);refine⟨.ref (s.heap.objs.size+1),_,I.laid (a:=s.heap.objs.size+1) (o:= .lst (ns'.map V.str)) (t':=s.toks) (λb o e=>Qo e) (MN _) ?_,rfl,q ns' _ h2 h3 hf⟩;refine⟨by rw[L0,h2.length_eq];exact M6 (Nd hz) (by decide),out.toList,e,m5 h1,?_⟩;rw[he]
def j8:List V->Hp->VK->Prop:=λxs H Q=>tM K xs H Q\/tN K xs H Q
theorem EK(h:X.K=K:=by rfl):zQ X (.builtin "sorted") (j8 K):=(EI K h).or (EJ K h)
end
def j9:DRs:=λds μ Q=>match ds with
 | [d]=>(∃ns,af μ d=some (ns.map D.int)/\ns.length < 64/\∀ns',MH ns' ns->Ol (·<= ·) ns'->Q (.lst (ns'.map D.int)) μ) \/
   (∃ns,af μ d=some (ns.map D.str)/\ns.length < 64/\∀ns',MH ns' ns->sortedS ns'=true->Q (.lst (ns'.map D.str)) μ)
 |_=>False
instance:bj K fl (j8 K) j9:=⟨λ{W μ H ds xs Q Q'} r z h k=>by
 unfold j9 at h;split at h
 .obtain⟨x,rfl,q⟩:=z.one;rcases h with⟨ns,hl,hz,h⟩|⟨ns,hl,hz,h⟩
  .obtain⟨a,xs,rfl,e1,z1⟩:=cQ r q hl;rw[z1.ints] at e1;refine .inl ⟨a,ns,rfl,SqL.of e1,hz,λns' l h1 h2 hl=>?_⟩;obtain⟨r2,le2⟩:=r.newF (o:= .lst (ns'.map V.int)) hl;exact k _ _ _ _ _ le2 r2 (.lst zA (.of_ints ns')) (h ns' h1 h2)
  .obtain⟨a,xs,rfl,e1,z1⟩:=cQ r q hl;rw[z1.strs] at e1;refine .inr ⟨a,ns,rfl,SqL.of e1,hz,λns' l h1 h2 hl=>?_⟩;obtain⟨r2,le2⟩:=r.newF (o:= .lst (ns'.map V.str)) hl;exact k _ _ _ _ _ le2 r2 (.lst zA (.of_strs ns')) (h ns' h1 h2)
 .exact h.elim⟩
theorem Ko:cx .non=true:=rfl
theorem Kp{i:Int}:cx (.int i)=false:=rfl
theorem Kq{i:Str}:cx (.str i)=false:=rfl
theorem Kr{i:Bool}:cx (.bl i)=false:=rfl
theorem Ks{i:List D}:cx (.lst i)=false:=rfl
theorem Kt{i:List D}:cx (.tup i)=false:=rfl
theorem Ku{i:Nat}:cx (.cell i)=false:=rfl
section
theorem Kv{x:Int}:bJ [(.int x),.ty "int"] μ Q=Q (.bl true) μ:=EB (x:=x)
theorem Kw{x:Int}:bJ [(.int x),.ty "bool"] μ Q=Q (.bl false) μ:=EC (x:=x)
theorem Kx{x:List D}:bJ [(.lst x),.ty "list"] μ Q=Q (.bl true) μ:=ED (x:=x)
theorem Ky{x:List D}:bJ [.tup x,.ty "int"] μ Q=Q (.bl false) μ:=by show("int"∈aW/\Q (.bl (bU "tuple" "int")) μ)=_;rw[show("int"∈aW)=True from eq_true (by decide),true_and];rfl
theorem Kz{x:List D}:bJ [.tup x,.ty "bool"] μ Q=Q (.bl false) μ:=by show("bool"∈aW/\Q (.bl (bU "tuple" "bool")) μ)=_;rw[show("bool"∈aW)=True from eq_true (by decide),true_and];rfl
theorem KA{x:List D}:bJ [.tup x,.ty "str"] μ Q=Q (.bl false) μ:=by show("str"∈aW/\Q (.bl (bU "tuple" "str")) μ)=_;rw[show("str"∈aW)=True from eq_true (by decide),true_and];rfl
theorem KB{x:List D}:bJ [.tup x,.ty "list"] μ Q=Q (.bl false) μ:=by show("list"∈aW/\Q (.bl (bU "tuple" "list")) μ)=_;rw[show("list"∈aW)=True from eq_true (by decide),true_and];rfl
theorem KC{x:List D}:bJ [.tup x,.ty "tuple"] μ Q=Q (.bl true) μ:=by show("tuple"∈aW/\Q (.bl (bU "tuple" "tuple")) μ)=_;rw[show("tuple"∈aW)=True from eq_true (by decide),true_and];rfl
theorem KD{x:List D}:bJ [.tup x,.ty "dict"] μ Q=Q (.bl false) μ:=by show("dict"∈aW/\Q (.bl (bU "tuple" "dict")) μ)=_;rw[show("dict"∈aW)=True from eq_true (by decide),true_and];rfl
end
theorem stp{s u:DS}(h:∀N:ad->Mu->Prop,(∀ ρ' μ',u D' ρ' μ'->N ρ' μ')->s {D' with nx:=N} ρ μ):zJ s u D' ρ μ:=h _ λ_ _ z=>z
section
variable{g:DG}{Fin:List D->Mu->Prop}{d:D}{r ys:List D}
end
abbrev Tab:=List (Str×List Str)
def cg(tab:Tab)(c f:Str):Bool:=tab.any λp=>p.1==c&&p.2.contains f
class TabOk(K:Frag)(tab:Tab):Prop where
 run:∀c f C,cg tab c f=true->clsOf K c=some C->Cls K C/\cp K C f
def bY(tab:Tab)(f c:Str)(ns:List Str)(vs:List D)(R:D->Prop):Prop:=cg tab c f=true/\ai ((ns.zip vs).lookup f) R
def er(c:Option Ct)(R:Str->List Str->List D->Prop):Prop:=match c with
 |some (.ins c ns vs)=>R c ns vs
 |_=>False
def e8(μ:Mu)(d:D)(R:Str->List Str->List D->Prop):Prop:=match d with
 | .obj c ns vs=>R c ns vs
 | .cell k=>er (μ k) R
 |_=>False
theorem KE{c:Str}{vs:List D}{R:Str->List Str->List D->Prop}:er (some (.ins c ns vs)) R=R c ns vs:=rfl
theorem EL{o:Option Ct}{R:Str->List Str->List D->Prop}(h:er o R):∃c ns vs,o=some (.ins c ns vs)/\R c ns vs:=by
 unfold er at h;split at h
 .exact⟨_,_,_,rfl,h⟩
 .exact h.elim
theorem KF{c:Str}{vs:List D}{R:Str->List Str->List D->Prop}:e8 μ (.obj c ns vs) R=R c ns vs:=rfl
theorem KG{k:Nat}{R:Str->List Str->List D->Prop}:e8 μ (.cell k) R=er (μ k) R:=rfl
def EM(tab:Tab)(f:Str)(Q:DK):DK:=λd μ=>e8 μ d λc ns vs=>bY tab f c ns vs λv=>Q v μ
def aK(tab:Tab)(w:DE)(f:Str):DE:=λρ μ Q=>w ρ μ (EM tab f Q)
section
variable{W:Wd}
theorem tO{d:D}{x:V}{R:Str->List Str->List D->Prop}(r:Rel K fl W μ H)(q:Rep K W d x)(h:e8 μ d R):∃c C a dx ns vs xs,clsOf K c=some C/\x= .ref a/\H a=some (.ins C dx (ns.zip xs))/\ns.length=xs.length/\zx K W vs xs/\R c ns vs:=by
 unfold e8 at h;split at h
 .rename_i c ns vs;unfold Rep at q;obtain⟨C,a,dx,xs,hc,rfl,e,l,z⟩:=q;exact⟨c,C,a,dx,ns,vs,xs,hc,rfl,r.sub _ _ e,l,z,h⟩
 .rename_i k;obtain⟨a,rfl,hb⟩:=q.cell';unfold er at h;split at h
  .rename_i c ns vs hk;obtain⟨a',e1,e2,C,dx,xs,hc,e3,l3,q3⟩:=r.cel k _ hk;rw[hb] at e1;cases e1;exact⟨c,C,a,dx,ns,vs,xs,hc,rfl,e3,l3,q3,h⟩
  .exact h.elim
 .exact h.elim
theorem zx.lookup{f:Str}:∀{ns:List Str} {vs:List D} {xs:List V} {v:D},zx K W vs xs->(ns.zip vs).lookup f=some v->∃x,(ns.zip xs).lookup f=some x/\Rep K W v x
 | [],_,_,_,_,h=>by simp at h
 |_::_,[],_,_,_,h=>by simp at h
 |n::ns,d::vs,xs,v,r,h=>by
  obtain⟨x,xs,rfl,q,z⟩:=r.uncons;simp only[LV,M5] at h ⊢;cases e:(f==n) with
  |true=>rw[e] at h;cases h;exact⟨x,rfl,q⟩
  |false=>rw[e] at h;exact zx.lookup z h
theorem zx.lookup_none{f:Str}:∀{ns:List Str} {vs:List D} {xs:List V},zx K W vs xs->(ns.zip vs).lookup f=none->(ns.zip xs).lookup f=none
 | [],_,_,_,_=>by simp
 |_::_,[],_,r,_=>by rw[r.nil'];simp
 |n::ns,d::vs,xs,r,h=>by
  obtain⟨x,xs,rfl,q,z⟩:=r.uncons;simp only[LV,M5] at h ⊢;cases e:(f==n) with
  |true=>rw[e] at h;cases h
  |false=>rw[e] at h;exact zx.lookup_none z h
instance{tab:Tab}{f:Str}[t:TabOk K tab][a:zR K fl ta wa]:zR K fl (jw K ta f) (aK tab wa f):=⟨λ{W ρ μ σ H Q Q'} r e h k=>a.run r e h λW1 d μ1 x H1 le1 r1 q1 h1=>by
 obtain⟨c,C,a,dx,ns,vs,xs,hc,rfl,ea,l,z,hi,hl⟩:=tO r1 q1 h1;unfold ai at hl;split at hl
 .rename_i v hv;obtain⟨x,hx,q⟩:=z.lookup hv;obtain⟨c1,c2⟩:=t.run c f C hi hc;exact⟨a,C,dx,_,x,rfl,ea,c1,c2,hx,k _ _ _ _ _ le1 r1 q hl⟩
 .exact hl.elim⟩
end
def putN(f:Str):List Str->List Str
 | []=>[f]
 |g::r=>if g=f then g::r else g::putN f r
def putD(f:Str)(v:D):List Str->List D->List D
 |g::r,x::xs=>if g=f then v::xs else x::putD f v r xs
 |_,_=>[v]
def bC(tab:Tab)(f:Str)(v:D)(c:Str)(ns:List Str)(vs:List D)(R:List Str->List D->Prop):Prop:=cg tab c f=true/\ns.length < 1000/\R (putN f ns) (putD f v ns vs)
def dG(tab:Tab)(wo w:DE)(f:Str):DS:=λD ρ μ=>w ρ μ λv μ1=>wo ρ μ1 λd μ2=>match d with
 | .cell k=>er (μ2 k) λc ns vs=>bC tab f v c ns vs λns' vs'=>D.nx ρ (zO μ2 k (.ins c ns' vs'))
 |_=>False
def tP(tab:Tab)(f:Str)(v:D)(D0:cM)(ρ:ad):DK:=λd μ2=>match d with
 | .cell k=>er (μ2 k) λc ns vs=>bC tab f v c ns vs λns' vs'=>D0.nx ρ (zO μ2 k (.ins c ns' vs'))
 |_=>False
theorem KH{tab:Tab}{w:DE}{f:Str}{D0:cM}:dG tab wo w f D0 ρ μ=w ρ μ λv μ1=>wo ρ μ1 (tP tab f v D0 ρ):=rfl
theorem KI{tab:Tab}{f:Str}{v:D}{D0:cM}{k:Nat}:tP tab f v D0 ρ (.cell k) μ=er (μ k) λc ns vs=>bC tab f v c ns vs λns' vs'=>D0.nx ρ (zO μ k (.ins c ns' vs')):=rfl
section
variable{W:Wd}
theorem tQ{f:Str}{y:V}:∀{ns:List Str} {xs:List V},ns.length=xs.length->∃xs',bv f y (ns.zip xs)=(putN f ns).zip xs'/\(putN f ns).length=xs'.length/\∀{vs:List D} {v:D},zx K W vs xs->Rep K W v y->zx K W (putD f v ns vs) xs'
 | [],[],_=>⟨[y],rfl,rfl,λ{vs v} r q=>by
   cases vs with
   |nil=>exact .cons q .nil
   |cons d vs=>obtain⟨x,r',e,_⟩:=r.uncons;cases e⟩
 | [],_::_,h=>by simp at h
 |_::_,[],h=>by simp at h
 |n::ns,x::xs,h=>by
  obtain⟨xs',e1,e2,e3⟩:=tQ (f:=f) (y:=y) (ns:=ns) (xs:=xs) (by simpa using h);by_cases hn:n=f
  .refine⟨y::xs,?_,?_,λ{vs v} r q=>?_⟩
   .simp[bv,putN,hn]
   .simp only[putN,if_pos hn];simpa using h
   .cases vs with
    |nil=>have:=r.nil';cases this
    |cons d vs =>
     obtain⟨x',r',e,q1,z⟩:=r.uncons;cases e;simp only[putD,if_pos hn];exact .cons q z
  .refine⟨x::xs',?_,?_,λ{vs v} r q=>?_⟩
   .simp only[LV,bv,putN,if_neg hn,e1]
   .simp only[putN,if_neg hn,LY,e2]
   .cases vs with
    |nil=>have:=r.nil';cases this
    |cons d vs =>
     obtain⟨x',r',e,q1,z⟩:=r.uncons;cases e;simp only[putD,if_neg hn];exact .cons q1 (e3 z q)
instance{tab:Tab}{f:Str}[t:TabOk K tab][a:zR K fl ta wa][b:zR K fl tv wv]:bA K fl (jx K ta tv f) (dG tab wa wv f):=⟨λ{W ρ μ σ H D' D} r e h k=>b.run r e h λW1 v μ1 y H1 le1 r1 qv h1=>a.run r1 (e.mono le1) h1 λW2 d μ2 x H2 le2 r2 q2 h2=>by
 cases d<;>first|exact h2.elim|skip
 rename_i kk;obtain⟨a,rfl,hb⟩:=q2.cell';obtain⟨c,ns,vs,hk,h2⟩:=EL (o:=μ2 kk) h2;obtain⟨a',e1,e2,C,dx,xs,hc,e3,l3,q3⟩:=r2.cel kk _ hk;rw[hb] at e1;cases e1;obtain⟨hi,hz,h2⟩:=h2;obtain⟨c1,c2⟩:=t.run c f C hi hc;obtain⟨xs',p1,p2,p3⟩:=tQ (K:=K) (W:=W2) (f:=f) (y:=y) l3;refine⟨a,C,dx,_,rfl,e3,c1,c2,by rw[Os,<- l3,Pv];exact hz,?_⟩;rw[p1];exact k.nx W2 ρ _ σ _ (le1.trans le2) (r2.setC (c':= .ins c (putN f ns) (putD f v ns vs)) hk hb ⟨C,dx,xs',hc,rfl,p2,p3 q3 (qv.mono le2)⟩) (e.mono (le1.trans le2)) h2⟩
end
structure cS(P:Program)(w:World)(K:Frag)(mg:Str->Option Value)(base:Heap)(CX:CXT)(c m:Str)(k:Nat)(ps:List Str)(sp:Sp)(ks:List Str)(gV:List V->List V->List V):Prop where
 ex:∃C f fd g,clsOf K c=some C/\Cls K C/\Meth K C m f/\zX P w K mg base CX k f fd ps sp/\cW K fd ps ks g gV
def m7(K:Frag)(c m:Str)(sp:Sp)(gV:List V->List V->List V)(E:XK)(ta:TE)(t tk:TA):TE:=λσ H Q=>ta σ H λx H1=>∃C a dx fs,clsOf K c=some C/\x= .ref a/\H1 a=some (.ins C dx fs)/\fs.lookup m=none /\
 t σ H1 λvs H2=>tk σ H2 λzs H3=>sp (gV (x::vs) zs) H3 Q E
section
variable{k:Nat}{E:XK}{c m:Str}{e o:Expr}{t:TA}
theorem cT{pl:Sem Bool}(K:Frag)(hh:cS X.prog X.w X.K X.mg X.base CX c m j ps sp ks gV)(hr:bf k X.A)(he:WE X o ta)(ha:WA X (e::es) t)(hkw:WK X kws tk)(hK:X.K=K:=by rfl)(hj:j<=k:=by decide)(hx:cq CX X E:=by exact fD)
  (hall:(backToKw pos (keywordEach kws X.env)).all (·.1.isSome)=true:=by rfl)(hks:(backToKw pos (keywordEach kws X.env)).filterMap (·.1)=ks:=by rfl)
  (hst:starEach (e::es) X.env=(false,eval e X.env)::starEach es X.env:=by rfl)
  (hpl:((backTo pos (starEach (e::es) X.env)).any (·.1)||(backToKw pos (keywordEach kws X.env)).any (·.1.isNone))=false:=by rfl)
  (ht:eval (.Call (.Attribute o m apos) (e::es) kws pos) X.env=(do
   let ov<-eval o X.env
   standAt apos.atName
   let (f,first)<-holding [ov] (getMethod ov m pl)
   callWith pos f first (backTo pos (starEach (e::es) X.env)) (backToKw pos (keywordEach kws X.env))):=by rfl) :
  WE X (.Call (.Attribute o m apos) (e::es) kws pos) (m7 K c m sp gV E ta t tk):=⟨by
 subst hK;obtain⟨C0,f,fd,g,hc0,hcl,hm,F,hb⟩:=hh.ex;intro pins s σ H Q I h;refine PR (pl:=pl) (thn (he.out pins s σ H _ I h) λu s1 ⟨x,H1,I1,rx,C,a,dx,fs,hc,ex,ea,l,q⟩=>?_) ht;rw[hc0] at hc;cases hc;subst ex;obtain rfl:u=M4 a:=rx;refine qc I1 ea hcl hm l ?_;refine Rp (first:=[.ref a]) (h₀:=X.base) I.ok.mod.kin hm.kp hall (thn (ha.out pos pins s1 σ H1 _ I1 q) λus s2 ⟨vs,H2,I2,r,q2⟩=>?_) hpl hst;refine thn (hkw.out pos pins s2 σ H2 _ I2 q2) λws s3 ⟨zs,H3,I3,rz,q3⟩=>⟨I3.kIn,?_⟩
 rw[hks];exact lZ (us:= .ref a::us) (vs:= .ref a::vs) (F.mono hj) hr hb hx I3 (.cons rfl r) rz q3⟩
theorem EO{pl:Sem Bool}(K:Frag)(hh:cS X.prog X.w X.K X.mg X.base CX c m j ps sp [] gV)(hr:bf k X.A)(he:WE X o ta)(hK:X.K=K:=by rfl)(hj:j<=k:=by decide)(hx:cq CX X E:=by exact fD)
  (ht:eval (.Call (.Attribute o m apos) [] [] pos) X.env=(do
   let ov<-eval o X.env
   standAt apos.atName
   let (f,first)<-holding [ov] (getMethod ov m pl)
   callWith pos f first (backTo pos (starEach [] X.env)) (backToKw pos (keywordEach [] X.env))):=by rfl) :
  WE X (.Call (.Attribute o m apos) [] [] pos) (m7 K c m sp gV E ta bL bL):=⟨by
 subst hK;obtain⟨C0,f,fd,g,hc0,hcl,hm,F,hb⟩:=hh.ex;intro pins s σ H Q I h;refine PR (pl:=pl) (thn (he.out pins s σ H _ I h) λu s1 ⟨x,H1,I1,rx,C,a,dx,fs,hc,ex,ea,l,q⟩=>?_) ht;rw[hc0] at hc;cases hc;subst ex;obtain rfl:u=M4 a:=rx;refine qc I1 ea hcl hm l ?_;exact Qc (first:=[.ref a]) I1.kIn hm.kp (lZ (us:=[.ref a]) (vs:=[.ref a]) (ws:=[]) (zs:=[]) (F.mono hj) hr hb hx I1 (.cons rfl .nil) .nil q)⟩
end
def ci(c m:Str)(dsp:DSp)(n j:Nat)(pat:List Src)(cs:List D)(wo:DE)(w wk:DA):DE:=λρ μ Q=>wo ρ μ λd μ1=>(e8 μ1 d λc' ns vs=>c'=c/\(ns.zip vs).lookup m=none)/\w ρ μ1 λds μ2=>wk ρ μ2 λes μ3=>dsp (sel n j pat .non cs (d::ds) es) μ3 Q
instance{c m:Str}{n:Nat}{csD:List D}{E:XK}{t:TA}{w:DA}[o:zR K fl ta wa][a:aH K fl t w][b:aH K fl tk wk][cr:gM K csD csV]:zR K fl (m7 K c m (lift K dsp) (sel n j pat .non csV) E ta t tk) (ci c m dsp n j pat csD wa w wk):=⟨λ{W ρ μ σ H Q Q'} r e h k =>
 o.run r e h λW1 d μ1 x H1 le1 r1 q1 h1=>by
  obtain⟨c',C,p,dx,ns,vs,xs,hc,rfl,ea,l,z,rfl,hl⟩:=tO r1 q1 h1.1;refine⟨C,p,dx,_,hc,rfl,ea,z.lookup_none hl,a.run r1 (e.mono le1) h1.2 λW2 ds μ2 xs H2 le2 r2 q2 h2=>b.run r2 (e.mono (le1.trans le2)) h2 λW3 es μ3 ys H3 le3 r3 q3 h3=>?_⟩;exact⟨fl,W3,μ3,_,Q,r3,j7 (cr.run W3) (.cons (q1.mono (le2.trans le3)) (q2.mono le3)) q3,h3,λW4 d4 μ4 x4 H4 le4=>k W4 d4 μ4 x4 H4 (le1.trans (le2.trans (le3.trans le4)))⟩⟩
structure iP(P:Program)(w:World)(K:Frag)(mg:Str->Option Value)(base:Heap)(CX:CXT)(c:Str)(k:Nat)(ps:List Str)(sp:Sp)(ks:List Str)(gV:List V->List V->List V):Prop where
 ex:∃C f fd g,clsOf K c=some C/\Mk K C f/\zX P w K mg base CX k f fd ps sp/\cW K fd ps ks g gV/\mg c=some (.ref C)
def iQ(K:Frag)(c:Str)(sp:Sp)(gV:List V->List V->List V)(E:XK)(t tk:TA):TE:=λσ H Q=>t σ H λvs H1=>tk σ H1 λzs H2=>∀C x dx,clsOf K c=some C->H2 x=none->H2 dx=none->dx≠x ->
 sp (gV (.ref x::vs) zs) (upd (upd H2 dx (.own x)) x (.ins C dx [])) (λv H3=>v= .non/\Q (.ref x) H3) E
section
variable{k:Nat}{E:XK}{c:Str}{p:Pos}{e:Expr}{t:TA}
theorem EQ(K:Frag)(h:iP X.prog X.w X.K X.mg X.base CX c j ps sp ks gV)(hr:bf k X.A)(ha:WA X (e::es) t)(hkw:WK X kws tk)(hK:X.K=K:=by rfl)(hj:j+1<=k:=by decide)(hg:Gl X c:=by rfl)(hx:cq CX X E:=by exact fD)
  (hall:(backToKw pos (keywordEach kws X.env)).all (·.1.isSome)=true:=by rfl)(hks:(backToKw pos (keywordEach kws X.env)).filterMap (·.1)=ks:=by rfl)
  (hdb:(c==("__debug__":Str))=false:=by decide)(he:starEach (e::es) X.env=(false,eval e X.env)::starEach es X.env:=by rfl)
  (hpl:((backTo pos (starEach (e::es) X.env)).any (·.1)||(backToKw pos (keywordEach kws X.env)).any (·.1.isNone))=false:=by rfl):WE X (.Call (.Name c p) (e::es) kws pos) (iQ K c sp gV E t tk):=⟨by
 subst hK;obtain⟨C,f,fd,g,hc,M,F,b,m⟩:=h.ex;intro pins s σ H Q I h;refine Nq (hW I hg m ?_ hdb);refine Rp (h₀:=X.base) I.ok.mod.kin M.kp hall (thn (ha.out pos pins s σ H _ I h) λus s1 ⟨vs,H1,I1,r,q⟩=>?_) hpl he;refine thn (hkw.out pos pins s1 σ H1 _ I1 q) λws s2 ⟨zs,H2,I2,rz,q2⟩=>⟨I2.kIn,?_⟩
 rw[hks];exact rW M F (hr.mono hj) b hx I2 r rz λx dx h1 h2 h3=>q2 C x dx hc h1 h2 h3⟩
theorem ER(K:Frag)(h:iP X.prog X.w X.K X.mg X.base CX c j ps sp [] gV)(hr:bf k X.A)(hK:X.K=K:=by rfl)(hj:j+1<=k:=by decide)(hg:Gl X c:=by rfl)(hx:cq CX X E:=by exact fD)
  (hdb:(c==("__debug__":Str))=false:=by decide):WE X (.Call (.Name c p) [] [] pos) (iQ K c sp gV E bL bL):=⟨by
 subst hK;obtain⟨C,f,fd,g,hc,M,F,b,m⟩:=h.ex;intro pins s σ H Q I h;refine Nq (hW I hg m ?_ hdb);exact Qc I.kIn M.kp (rW (us:=[]) (vs:=[]) (ws:=[]) (zs:=[]) M F (hr.mono hj) b hx I .nil .nil λx dx h1 h2 h3=>h C x dx hc h1 h2 h3)⟩
end
def tR(c:Str)(dsp:DSp)(n j:Nat)(pat:List Src)(cs:List D)(w wk:DA):DE:=λρ μ Q=>w ρ μ λds μ1=>wk ρ μ1 λes μ2=>∀k,μ2 k=none->dsp (sel n j pat .non cs (.cell k::ds) es) (zO μ2 k (.ins c [] [])) λd μ3=>d= .non/\Q (.cell k) μ3
def iR(c:Str)(dsp:DSp)(n j:Nat)(pat:List Src)(cs:List D)(w wk:DA):DE:=λρ μ Q=>w ρ μ λds μ1=>wk ρ μ1 λes μ2=>∀k,μ2 k=none->dsp (sel n j pat .non cs (.cell k::ds) es) (zO μ2 k (.ins c [] [])) λd μ3=>d= .non/\dY μ3 (.cell k) Q
section
variable{c:Str}{n:Nat}{csD:List D}{E:XK}{t:TA}{w:DA}
theorem tU{W:Wd}{x dx:Addr}(r:Rel K fl W μ H)(hc:clsOf K c=some C)(h1:H x=none)(h2:H dx=none)(h3:dx≠x):∃(k:Nat) (W':Wd),μ k=none/\W.le W'/\Rel K fl W' (zO μ k (.ins c [] [])) (upd (upd H dx (.own x)) x (.ins C dx []))/\W'.b k=some x:=by
 have r1:Rel K fl W μ (upd H dx (.own x)):=r.same (iC h2);have hx:upd H dx (.own x) x=none:=by rw[zE (Ne.symm h3)];exact h1
 exact r1.newC (o:= .ins C dx []) (c:= .ins c [] []) hx ⟨C,dx,[],hc,rfl,rfl,.nil⟩
instance[a:aH K fl t w][b:aH K fl tk wk][cr:gM K csD csV]:zR K fl (iQ K c (lift K dsp) (sel n j pat .non csV) E t tk) (tR c dsp n j pat csD w wk):=⟨λ{W ρ μ σ H Q Q'} r e h k =>
 a.run r e h λW1 ds μ1 xs H1 le1 r1 q1 h1=>b.run r1 (e.mono le1) h1 λW2 es μ2 ys H2 le2 r2 q2 h2 C x dx hc g1 g2 g3=>by
  obtain⟨kk,W3,hk,le3,r3,e3⟩:=tU r2 hc g1 g2 g3;refine⟨fl,W3,_,_,_,r3,j7 (cr.run W3) (.cons (by unfold Rep;exact⟨x,rfl,e3⟩) (q1.mono (le2.trans le3))) (q2.mono le3),h2 kk hk,λW4 d4 μ4 x4 H4 le4 r4 q4 h4=>?_⟩;obtain⟨rfl,h4⟩:=h4;exact⟨q4.n',k W4 (.cell kk) μ4 _ H4 (le1.trans (le2.trans (le3.trans le4))) r4 (by unfold Rep;exact⟨x,rfl,le4.b _ _ e3⟩) h4⟩⟩
theorem ES[a:aH K fl t w][b:aH K fl tk wk][cr:gM K csD csV]:zR K fl (iQ K c (lift K dsp) (sel n j pat .non csV) E t tk) (iR c dsp n j pat csD w wk):=⟨λ{W ρ μ σ H Q Q'} r e h k =>
 a.run r e h λW1 ds μ1 xs H1 le1 r1 q1 h1=>b.run r1 (e.mono le1) h1 λW2 es μ2 ys H2 le2 r2 q2 h2 C x dx hc g1 g2 g3=>by
  obtain⟨kk,W3,hk,le3,r3,e3⟩:=tU r2 hc g1 g2 g3;refine⟨fl,W3,_,_,_,r3,j7 (cr.run W3) (.cons (by unfold Rep;exact⟨x,rfl,e3⟩) (q1.mono (le2.trans le3))) (q2.mono le3),h2 kk hk,λW4 d4 μ4 x4 H4 le4 r4 q4 h4=>?_⟩;obtain⟨rfl,h4⟩:=h4;obtain⟨W5,d5,μ5,le5,r5,q5,h5⟩:=r_ r4 (x:= .ref x) (d:= .cell kk) (by unfold Rep;exact⟨x,rfl,le4.b _ _ e3⟩) h4;exact⟨q4.n',k W5 d5 μ5 _ H4 (le1.trans (le2.trans (le3.trans (le4.trans le5)))) r5 q5 h5⟩⟩
instance[a:aH K fl t w][b:aH K fl tk wk][cr:gM K csD csV]:zR K fl (iQ K c (lift K dsp) (sel n j pat .non csV) E t tk) (iR c dsp n j pat csD w wk):=ES
end
theorem gO{c:Str}(h:nsIn K mainGlobals c=some (some (.ref C))):clsOf K c=some C:=by unfold clsOf;rw[h]
theorem ET:TabOk K []:=⟨λ_ _ _ h=>by simp[cg] at h⟩
theorem tV{c:Str}{fs:List Str}{tab:Tab}(hc:clsOf K c=some C)(cl:Cls K C)(hf:∀f∈fs,cp K C f)(t:TabOk K tab):TabOk K ((c,fs)::tab):=⟨λc' f C' hi h=>by
 simp only[cg,Nz,O5,Mw] at hi;rcases hi with⟨h1,h2⟩|h1
 .have e:=eq_of_beq h1;subst e;rw[hc] at h;cases h;exact⟨cl,hf f (PU.mp h2)⟩
 .exact t.run c' f C' h1 h⟩
def tW(K:Frag):V->List V->Hp->VK->Prop:=λx xs H Q=>∃sep p ys,x= .str sep/\xs=[.ref p]/\(SqL K H p (ys.map V.str)\/SqT K H p (ys.map V.str))/\sep.length<=16/\iz ys<=1048576/\Q (.str (NM sep ys)) H
theorem EU(K:Frag)(h:X.K=K:=by rfl):MtR X "str.join" (tW K):=C8 K h
def m9:DM:=λd es μ Q=>match d,es with
 | .str sep,[e]=>∃ys,aZ μ e=some (ys.map D.str)/\sep.length<=16/\iz ys<=1048576/\Q (.str (NM sep ys)) μ
 |_,_=>False
instance:iL K fl "str" (tW K) m9:=⟨λ{W μ H d x ds xs Q Q'} r q z h k=>by
 unfold m9 at h;split at h
 .obtain⟨y,rfl,qy⟩:=z.one;obtain⟨ys,hl,h1,h2,h⟩:=h;obtain⟨a,vs,rfl,e1,z1⟩:=fR r qy hl;rw[z1.strs] at e1;rw[q.s'];exact⟨_,a,ys,rfl,rfl,e1,h1,h2,k _ _ _ _ _ (.refl _) r .s h⟩
 .exact h.elim⟩
def EV:R2:=λx y H Q=>∃c n,x= .str ⟨#[c]⟩/\y= .int n/\0<=n/\n<=1000/\∀z:Str,z.cps.toList=LF n.toNat c->Q (.str z) H
def tX:R2:=λx y H Q=>jW x y H Q\/EV x y H Q
theorem tY:OpR X (binaryOp .Mult) tX:=DB.or C9
def e9:DR2:=λd e μ Q=>match d,e with
 | .str z,.int n=>∃c,z=⟨#[c]⟩/\0<=n/\n<=1000/\∀y:Str,y.cps.toList=LF n.toNat c->Q (.str y) μ
 |d,e=>gA d e μ Q
instance:aU K fl tX e9:=⟨λ{W μ H d e x y Q Q'} r q1 q2 h k=>by
 unfold e9 at h;split at h
 .obtain⟨c,rfl,h1,h2,h⟩:=h;rw[q1.s',q2.i'];exact .inr ⟨c,_,rfl,rfl,h1,h2,λz hz=>k _ _ _ _ _ (.refl _) r .s (h z hz)⟩
 .exact .inl (aU.run (K:=K) (r:=jW) (q:=gA) r q1 q2 h k)⟩
section
variable{i j:Int}{ds:List D}
theorem KJ:e9 (.int i) (.int j) μ Q=(dk i j/\Q (.int (i*j)) μ):=rfl
theorem KK:e9 (.lst ds) (.int j) μ Q=(-(2^63)<=j/\j < 2^63/\ds.length*j.toNat<=sizeLine/\Q (.lst (LF j.toNat ds).flatten) μ):=Ey
theorem KL{c:Nat}:e9 (.str ⟨#[c]⟩) (.int j) μ Q=(0<=j/\j<=1000/\∀y:Str,y.cps.toList=LF j.toNat c->Q (.str y) μ):=by
 show(∃c',(⟨#[c]⟩:Str)=⟨#[c']⟩/\0<=j/\j<=1000/\∀y:Str,y.cps.toList=LF j.toNat c'->Q (.str y) μ)=_;refine propext ⟨λ⟨c',e,h⟩=>?_,λh=>⟨c,rfl,h⟩⟩;have:c=c':=by
  have:=congrArg (λs:Str=>s.cps.toList) e;simpa using this
 subst this;exact h
end
theorem ez{g:DG}{ds:List D}{Fin:List D->Mu->Prop}{ys:List D}(I:Nat->List D->Mu->Prop)(h0:I 0 ys μ)
  (step:∀i d ys μ,ds[i]? = some d->I i ys μ->ys.length < sizeLine/\∀N:List D->Mu->Prop,(∀ys' μ',I (i+1) ys' μ'->N ys' μ')->g d ρb μ λρ2 μ2=>we ρ2 μ2 λv μ4=>N (ys++[v]) μ4)
  (fin:∀ys μ,I ds.length ys μ->Fin ys μ)(hP:∀i ys μ,I i ys μ->Pm μ:=by exact λ_ _ _ _=>trivial):bO g aD we ρb Pm Fin ds ys μ :=
 sT I h0 (λi d ys μ hd hI=>⟨(step i d ys μ hd hI).1,λN hN=>(step i d ys μ hd hI).2 N hN⟩) fin hP
theorem j_{g:DG}{Fin:List D->Mu->Prop}(xs:List α)(f:α->D)(p:α->Bool)(f':α->D)(hl:xs.length<=sizeLine)
  (step:∀x∈xs,∀(Y:DK) (Z:Mu->Prop),(p x=true->Y (f' x) μ)->(p x=false->Z μ)->g (f x) ρb μ λρ2 μ2=>wc ρ2 μ2 λb μ3=>if b=true then we ρ2 μ3 Y else Z μ3)
  (fin:Fin ((xs.filter p).map f') μ)(hP:Pm μ:=by exact trivial):bO g wc we ρb Pm Fin (xs.map f) [] μ:=by
 refine sT (λi ys μ'=>μ'=μ/\ys=((xs.take i).filter p).map f') ⟨rfl,by simp⟩ (λi d ys μ' hd hI=>?_) (λys μ' hI=>?_) (λi ys μ' h=>h.1▸hP)
 .obtain⟨rfl,rfl⟩:=hI;rw[L4] at hd;cases hx:xs[i]? with
  |none=>rw[hx] at hd;cases hd
  |some x =>
   rw[hx] at hd;cases hd;have hi:=(L7.mp hx).1;refine⟨?_,λN hN=>?_⟩
   .have:=NH p (xs.take i);rw[L0];rw[Mo] at this;omega
   .refine step x (LA hx) (λv μ4=>N (((xs.take i).filter p).map f'++[v]) μ4) (λμ3=>N (((xs.take i).filter p).map f') μ3) (λhp=>hN _ _ ⟨rfl,?_⟩) (λhp=>hN _ _ ⟨rfl,?_⟩)
    .rw[Mm,hx];simp[hp]
    .rw[Mm,hx];simp[hp]
 .obtain⟨rfl,rfl⟩:=hI;rw[L0,N0];exact fin
theorem tZ:∀xs:List Str,dD (xs.map D.str)=some (xs.map V.str)
 | []=>rfl
 |x::r=>by rw[LQ,dD,tZ r];rfl
theorem m_{xs:List Str}{e:D}(h:aZ μ e=some (xs.map D.str)):aC neg (.str x) e μ Q=Q (.bl (neg ^^ decide (x∈xs))) μ:=by
 have h2:fS (.str x)=some (.str x):=rfl;unfold aC;simp only[h,h2,tZ,rD];cases neg<;>simp
theorem gQ{xs:List Str}{k:Nat}(h:μ k=some (.lst (xs.map D.str))):aC neg (.str x) (.cell k) μ Q=Q (.bl (neg ^^ decide (x∈xs))) μ:=m_ (Ee h)
theorem t3{xs:List Str}:aC neg (.str x) (.lst (xs.map D.str)) μ Q=Q (.bl (neg ^^ decide (x∈xs))) μ:=m_ rfl
theorem nc{xs:List Str}:aC neg (.str x) (.tup (xs.map D.str)) μ Q=Q (.bl (neg ^^ decide (x∈xs))) μ:=m_ rfl
class KTup(K:Frag)(a:Addr)(ns:List Int):Prop where
 at_:∀H,SqT K H a (ns.map V.int)
instance{ns:List Int}[i:KTup K a ns]:zR K fl (tC (.ref a)) (dC (.tup (ns.map D.int))):=⟨λ{W ρ μ σ H Q Q'} r e h k=>k W _ μ _ H (.refl W) r (.tup (i.at_ _) (.of_ints ns)) h⟩
theorem t5:∀xs:List Int,dD (xs.map D.int)=some (xs.map V.int)
 | []=>rfl
 |x::r=>by rw[LQ,dD,t5 r];rfl
theorem t6(x:Int):∀xs:List Int,inV (.int x) (xs.map V.int)=decide (x∈xs)
 | []=>by simp[inV]
 |y::r=>by
  have ih:=t6 x r;unfold inV at ih ⊢;rw[LQ,Nz,ih];show((y==x)||decide (x∈r))=decide (x∈y::r);by_cases h:y=x
  .subst h;simp
  .have h':¬ x=y:=λe=>h e.symm
   simp[h,h']
theorem ng{x:Int}{xs:List Int}:aC neg (.int x) (.tup (xs.map D.int)) μ Q=Q (.bl (neg ^^ decide (x∈xs))) μ:=by
 have h2:fS (.int x)=some (.int x):=rfl;unfold aC;simp only[Ed,h2,t5,t6];cases neg<;>simp
def t7:R2:=λx y H Q=>∃i j,x= .str i/\y= .str j/\Q (.bl (!(Oy j i 0 j.length 1).isEmpty)) H
theorem EW:OpR X (compareOp .In) t7:=A6
def iS(signs x:Str):Bool:= !(Oy signs x 0 signs.length 1).isEmpty
def ka:DR2:=λd e μ Q=>match d,e with
 | .str i,.str j=>Q (.bl (iS j i)) μ
 |_,_=>False
instance:aU K fl t7 ka:=⟨λ{W μ H d e x y Q Q'} r q1 q2 h k=>by
 unfold ka at h;split at h
 .rw[q1.s',q2.s'];exact⟨_,_,rfl,rfl,k _ _ _ _ _ (.refl _) r .b h⟩
 .exact h.elim⟩
theorem KM{i j:Str}:ka (.str i) (.str j) μ Q=Q (.bl (iS j i)) μ:=rfl
def t8(P:Program)(w:World)(K:Frag):List V->Hp->VK->Prop:=λxs H Q=>∃p ys,xs=[.ref p]/\SqT K H p (ys.map V.str)/\ys.length<=100/\∀a,H a=none->Q (.ref a) (upd H a (gz P w a ys))
def t9(P:Program)(w:World):List V->Hp->VK->Prop:=λxs H Q=>∃a ys,xs=[.ref a]/\H a=some (gz P w a ys)/\Q (.int (gy ys:Nat)) H
theorem t_(K:Frag)(h:X.K=K:=by rfl)(hP:X.prog=P:=by rfl)(hw:X.w=w:=by rfl)(hc:X.calm=true:=by rfl):zQ X (.type "set") (t8 P w K):=by subst hP hw;exact Dp K hc h
theorem ua(hP:X.prog=P:=by rfl)(hw:X.w=w:=by rfl):zQ X (.builtin "len") (t9 P w):=by subst hP hw;exact Dq
def nh(w:DE):DE:=λρ μ Q=>w ρ μ λd μ1=>match d with
 | .tup ds=>∃ys,ds=ys.map D.str/\ys.length<=100/\Q (.int (gy ys:Nat)) μ1
 |_=>False
instance[a:zR K fl te we]:zR K fl (tCB (t9 P w) (cA (tCB (t8 P w K) (cA te bL)) bL)) (nh we):=⟨λ{W ρ μ σ H Q Q'} r e h k=>a.run r e h λW1 d μ1 x H1 le1 r1 q1 h1=>by
 cases d<;>first|exact h1.elim|skip
 obtain⟨ys,rfl,hl,h1⟩:=h1;obtain⟨p,xs,rfl,s1,z1⟩:=q1.tup';rw[z1.strs] at s1;refine⟨p,ys,rfl,s1.sm r1.sub,hl,λb hb=>⟨b,ys,rfl,zA,?_⟩⟩;exact k W1 _ μ1 _ _ le1 (r1.same (iC hb)) .i h1⟩
def KN(c:Str):DRs:=λds μ Q=>match ds with
 | [.str _,.cls c']=>c'=c/\Q (.bl false) μ
 | [.int _,.cls c']=>c'=c/\Q (.bl false) μ
 | [d,.cls c']=>c'=c/\e8 μ d λc2 _ _=>c2=c/\Q (.bl true) μ
 |_=>False
section
variable{c:Str}
end
def SI:Nat->D->Prop
 |_,.int _=>True
 |_,.str x=>PyData.strOk x=true
 |n+1,.tup ds=>∀d∈ds,SI n d
 |n+1,.lst ds=>∀d∈ds,SI n d
 |_,_=>False
theorem SI.pl:∀{n:Nat} {d:D},SI n d->Pl n d:=by
 intro n;induction n with
 |zero=>intro d h;cases d<;>first|exact h.elim|exact h
 |succ n ih=>intro d h;cases d<;>first|exact h.elim|exact h|exact λx hx=>ih (h x hx)
theorem SI.eqvs{n:Nat}(ih:∀d e p q,SI n d->SI n e->toPy d=some p->toPy e=some q->(PyData.eqv p q=true↔d=e)):∀(ds es:List D) (ps qs:List PyData),(∀d∈ds,SI n d)->(∀d∈es,SI n d)->bp ds=some ps->bp es=some qs->(PyData.eqvAll ps qs=true↔ds=es)
 | [],[],ps,qs,_,_,h1,h2=>by
  unfold bp at h1 h2;cases h1;cases h2;simp[PyData.eqvAll]
 | [],e::es,ps,qs,_,_,h1,h2=>by
  unfold bp at h1 h2;split at h2
  .cases h1;cases h2;simp[PyData.eqvAll]
  .cases h2
 |d::ds,[],ps,qs,_,_,h1,h2=>by
  unfold bp at h1 h2;split at h1
  .cases h1;cases h2;simp[PyData.eqvAll]
  .cases h1
 |d::ds,e::es,ps,qs,s1,s2,h1,h2=>by
  unfold bp at h1 h2;split at h1
  .rename_i p ps' e1 e2;split at h2
   .rename_i q qs' e3 e4;cases h1;cases h2;have a:=ih d e p q (s1 d LO) (s2 e LO) e1 e3;have b:=SI.eqvs ih ds es ps' qs' (λx hx=>s1 x (LN _ hx)) (λx hx=>s2 x (LN _ hx)) e2 e4;unfold PyData.eqvAll;rw[Mw,a,b,Op]
   .cases h2
  .cases h1
theorem SI.eqv:∀(n:Nat) (d e:D) (p q:PyData),SI n d->SI n e->toPy d=some p->toPy e=some q->(PyData.eqv p q=true↔d=e):=by
 intro n;induction n with
 |zero =>
  intro d e p q h1 h2 t1 t2;cases d<;>first|exact h1.elim|skip
  all_goals cases e<;>first|exact h2.elim|skip
  all_goals (unfold toPy at t1 t2;cases t1;cases t2;simp[PyData.eqv])
 |succ n ih =>
  intro d e p q h1 h2 t1 t2;cases d<;>first|exact h1.elim|skip
  all_goals cases e<;>first|exact h2.elim|skip
  all_goals unfold toPy at t1 t2
  all_goals first
   | (cases t1;cases t2;simp[PyData.eqv];done)
   | (cases t1
      obtain⟨qs,e2,rfl⟩:=LH.mp t2;simp[PyData.eqv];done)
   | (cases t2
      obtain⟨ps,e1,rfl⟩:=LH.mp t1;simp[PyData.eqv];done)
   | (obtain ⟨ps, e1, rfl⟩ := LH.mp t1
      obtain⟨qs,e2,rfl⟩:=LH.mp t2;first
       | (simp[PyData.eqv];done)
       | (unfold PyData.eqv
          rw[SI.eqvs ih _ _ ps qs h1 h2 e1 e2];simp))
theorem EX{d e:D}{n:Nat}(h1:SI n d)(h2:SI n e)(hn:n<=60)(q:∀b:Bool,(b=true↔d=e)->Q (.bl (neg ^^ b)) μ):dZ neg d e μ Q:=by
 obtain⟨p,t1,c1,b1⟩:=Pl.py n d h1.pl;obtain⟨p',t2,c2,b2⟩:=Pl.py n e h2.pl;unfold dZ;split
 .exact q _ (by simp)
 .exact q _ (by simp)
 .exact q _ (by simp)
 .rw[sU t1,sU t2];exact⟨⟨c1,by omega⟩,⟨c2,by omega⟩,q _ (SI.eqv n d e p p' h1 h2 t1 t2)⟩
theorem ub{d e:D}{n:Nat}(h1:SI n d)(h2:SI n e)(hn:n<=60)(q:∀b:Bool,(b=true↔d=e)->Q (.bl (!b)) μ):dNe d e μ Q:=EX h1 h2 hn λb hb=>by rw[MM];exact q b hb
theorem uc{d:D}{n:Nat}(h1:SI n d)(hn:n<=60)(q:Q (.bl false) μ):dNe d d μ Q:=ub h1 h1 hn λb hb=>by rw[hb.mpr rfl];exact q
def ni(c:Str)(dsp:DSp)(n j:Nat)(pat:List Src)(cs ds es:List D)(μ:Mu)(Q:DK):Prop:=∀k,μ k=none->dsp (sel n j pat .non cs (.cell k::ds) es) (zO μ k (.ins c [] [])) λd μ3=>d= .non/\dY μ3 (.cell k) Q
theorem KO{c:Str}{n:Nat}{cs:List D}{w:DA}:iR c dsp n j pat cs w wk ρ μ Q=w ρ μ λds μ1=>wk ρ μ1 λes μ2=>ni c dsp n j pat cs ds es μ2 Q:=rfl
theorem EY{a b c d e f:D}:ax (.tup [a,b,c,d,e,f]) none (some 2) μ Q=Q (.tup [a,b]) μ:=by
 rw[dF];simp only[show cutD [a,b,c,d,e,f] none (some 2)=[a,b] from gJ _ 2,eq_iff_iff,and_iff_right_iff_imp];intro _ ⟨_,h⟩;have h3:HT.sIx 6 6 (some 2)=2:=HT.bR 6 6 2;have h2:HT.sIx 6 6 (some 2)=6:=h;rw[h3] at h2;omega
theorem EZ{a b c d e f:D}:ax (.tup [a,b,c,d,e,f]) none (some 3) μ Q=Q (.tup [a,b,c]) μ:=by
 rw[dF];simp only[show cutD [a,b,c,d,e,f] none (some 3)=[a,b,c] from gJ _ 3,eq_iff_iff,and_iff_right_iff_imp];intro _ ⟨_,h⟩;have h3:HT.sIx 6 6 (some 3)=3:=HT.bR 6 6 3;have h2:HT.sIx 6 6 (some 3)=6:=h;rw[h3] at h2;omega
theorem E1{a b c d e f:D}:ax (.tup [a,b,c,d,e,f]) none (some 4) μ Q=Q (.tup [a,b,c,d]) μ:=by
 rw[dF];simp only[show cutD [a,b,c,d,e,f] none (some 4)=[a,b,c,d] from gJ _ 4,eq_iff_iff,and_iff_right_iff_imp];intro _ ⟨_,h⟩;have h3:HT.sIx 6 6 (some 4)=4:=HT.bR 6 6 4;have h2:HT.sIx 6 6 (some 4)=6:=h;rw[h3] at h2;omega
theorem E2{a b c d e f:D}:ax (.tup [a,b,c,d,e,f]) none (some 5) μ Q=Q (.tup [a,b,c,d,e]) μ:=by
 rw[dF];simp only[show cutD [a,b,c,d,e,f] none (some 5)=[a,b,c,d,e] from gJ _ 5,eq_iff_iff,and_iff_right_iff_imp];intro _ ⟨_,h⟩;have h3:HT.sIx 6 6 (some 5)=5:=HT.bR 6 6 5;have h2:HT.sIx 6 6 (some 5)=6:=h;rw[h3] at h2;omega
theorem E4{a b c d e f:D}:ax (.tup [a,b,c,d,e,f]) (some 1) none μ Q=Q (.tup [b,c,d,e,f]) μ:=by
 rw[dF];simp only[show cutD [a,b,c,d,e,f] (some 1) none=[b,c,d,e,f] from fV _ 1,eq_iff_iff,and_iff_right_iff_imp];intro _ ⟨h,_⟩;have h3:HT.sIx 6 0 (some 1)=1:=HT.bR 6 0 1;have h2:HT.sIx 6 0 (some 1)=0:=h;rw[h3] at h2;omega
theorem E5{a b c d e f:D}:ax (.tup [a,b,c,d,e,f]) (some 2) none μ Q=Q (.tup [c,d,e,f]) μ:=by
 rw[dF];simp only[show cutD [a,b,c,d,e,f] (some 2) none=[c,d,e,f] from fV _ 2,eq_iff_iff,and_iff_right_iff_imp];intro _ ⟨h,_⟩;have h3:HT.sIx 6 0 (some 2)=2:=HT.bR 6 0 2;have h2:HT.sIx 6 0 (some 2)=0:=h;rw[h3] at h2;omega
theorem E6{a b c d e f:D}:ax (.tup [a,b,c,d,e,f]) (some 4) none μ Q=Q (.tup [e,f]) μ:=by
 rw[dF];simp only[show cutD [a,b,c,d,e,f] (some 4) none=[e,f] from fV _ 4,eq_iff_iff,and_iff_right_iff_imp];intro _ ⟨h,_⟩;have h3:HT.sIx 6 0 (some 4)=4:=HT.bR 6 0 4;have h2:HT.sIx 6 0 (some 4)=0:=h;rw[h3] at h2;omega
theorem E7{a b c d e f:D}:ax (.tup [a,b,c,d,e,f]) (some 5) none μ Q=Q (.tup [f]) μ:=by
 rw[dF];simp only[show cutD [a,b,c,d,e,f] (some 5) none=[f] from fV _ 5,eq_iff_iff,and_iff_right_iff_imp];intro _ ⟨h,_⟩;have h3:HT.sIx 6 0 (some 5)=5:=HT.bR 6 0 5;have h2:HT.sIx 6 0 (some 5)=0:=h;rw[h3] at h2;omega
theorem E8{a b c d e f:α}{r:List α}:atI (a::b::c::d::e::f::r) 5=some f:=dS (j:=5) rfl
def Ev(w:DE)(ρ:ad)(μ:Mu)(d:D):Prop:=∀Q:DK,Q d μ->w ρ μ Q
def Evs(w:DA)(ρ:ad)(μ:Mu)(ds:List D):Prop:=∀Q:List D->Mu->Prop,Q ds μ->w ρ μ Q
def EvO(q:DR2)(d e:D)(μ:Mu)(v:D):Prop:=∀Q:DK,Q v μ->q d e μ Q
def EvB(q:DRs)(ds:List D)(μ:Mu)(v:D):Prop:=∀Q:DK,Q v μ->q ds μ Q
section
variable{w:DE}{wr:DA}{d e v:D}{ds es:List D}{i:Nat}{q:DR2}
theorem E9(h:ρ[i]? = some (some d)):Ev (zb i) ρ μ d:=λQ z=>by unfold zb;rw[h];exact z
theorem E_:Ev (dC d) ρ μ d:=λQ z=>z
theorem Fa(h1:Ev wa ρ μ d)(h2:Ev wb ρ μ e)(h3:EvO q d e μ v):Ev (dOp q wa wb) ρ μ v:=λQ z=>h1 _ (h2 _ (h3 _ z))
theorem Fb:Evs zm ρ μ []:=λQ z=>z
theorem Fc(h1:Ev wa ρ μ d)(h2:Evs wr ρ μ ds):Evs (za wa wr) ρ μ (d::ds):=λQ z=>h1 _ (h2 _ z)
theorem Fd(h:Evs wr ρ μ ds)(hl:ds.length<=1000):Ev (dTup wr) ρ μ (.tup ds):=λQ z=>h _ ⟨M6 hl (by decide),z⟩
theorem Fe(h:Evs wr ρ μ ds)(hl:ds.length<=1000):Ev (c9 wr) ρ μ (.lst ds):=λQ z=>h _ ⟨M6 hl (by decide),z⟩
theorem Ff{q:DRs}(h:Evs wr ρ μ ds)(h3:EvB q ds μ v):Ev (dCB q wr) ρ μ v:=λQ z=>h _ (h3 _ z)
theorem gR{j:Int}(h:atI ds j=some v):EvO dIx (.tup ds) (.int j) μ v:=λQ z=>by rw[tu,h];exact z
theorem ud{j:Int}(h:atI ds j=some v):EvO dIx (.lst ds) (.int j) μ v:=λQ z=>by rw[Ez,h];exact z
theorem Fg(h1:ds≠[])(hl:ds.length+es.length<=1000):EvO ay (.tup ds) (.tup es) μ (.tup (ds++es)):=λQ z=>by
 rw[Eu];exact⟨h1,M6 hl (by decide),z⟩
theorem Fh{a b:Int}:EvO ay (.int a) (.int b) μ (.int (a+b)):=λQ z=>by rw[Et];exact z
theorem Fi{a b:Int}:EvO dEq (.int a) (.int b) μ (.bl (decide (a=b))):=λQ z=>by rw[Ec];exact z
theorem Fj:EvB cR [.lst ds] μ (.tup ds):=λQ z=>by rw[EA];exact z
theorem iT{n:Nat}{m:Int}(h:Ev w ρ μ (.tup ds))(hm:m=n)(hl:n < ds.length):Ev (dSl ax w bB (aQ (dC (.int m)))) ρ μ (.tup (ds.take n)):=λQ z=>h _ (by
 subst hm;show ax (.tup ds) none (some (n:Int)) μ Q;rw[dF,gJ];refine⟨λ⟨_,h2⟩=>?_,z⟩;rw[HT.bR] at h2;omega)
theorem iU{n:Nat}{m:Int}(h:Ev w ρ μ (.tup ds))(hm:m=n)(h0:0 < n)(hl:n < ds.length):Ev (dSl ax w (aQ (dC (.int m))) bB) ρ μ (.tup (ds.drop n)):=λQ z=>h _ (by
 subst hm;show ax (.tup ds) (some (n:Int)) none μ Q;rw[dF,fV];refine⟨λ⟨h2,_⟩=>?_,z⟩;rw[HT.bR] at h2;omega)
theorem Fk{c:Str}{n:Nat}{cs:List D}{w:DA}(h1:Evs w ρ μ ds)(h2:Evs wk ρ μ es)(h:ni c dsp n j pat cs ds es μ D'.rt):al (iR c dsp n j pat cs w wk) D' ρ μ:=h1 _ (h2 _ h)
theorem Fl(h:Ev w ρ μ (.tup ds))(hl:1 < ds.length):Ev (dSl ax w bB (aQ (dC (.int 1)))) ρ μ (.tup (ds.take 1)):=iT h rfl hl
theorem Fm(h:Ev w ρ μ (.tup ds))(hl:2 < ds.length):Ev (dSl ax w bB (aQ (dC (.int 2)))) ρ μ (.tup (ds.take 2)):=iT h rfl hl
theorem Fn(h:Ev w ρ μ (.tup ds))(hl:3 < ds.length):Ev (dSl ax w bB (aQ (dC (.int 3)))) ρ μ (.tup (ds.take 3)):=iT h rfl hl
theorem Fo(h:Ev w ρ μ (.tup ds))(hl:4 < ds.length):Ev (dSl ax w bB (aQ (dC (.int 4)))) ρ μ (.tup (ds.take 4)):=iT h rfl hl
theorem Fp(h:Ev w ρ μ (.tup ds))(hl:5 < ds.length):Ev (dSl ax w bB (aQ (dC (.int 5)))) ρ μ (.tup (ds.take 5)):=iT h rfl hl
theorem Fq(h:Ev w ρ μ (.tup ds))(hl:1 < ds.length):Ev (dSl ax w (aQ (dC (.int 1))) bB) ρ μ (.tup (ds.drop 1)):=iU h rfl (by decide) hl
theorem Fr(h:Ev w ρ μ (.tup ds))(hl:2 < ds.length):Ev (dSl ax w (aQ (dC (.int 2))) bB) ρ μ (.tup (ds.drop 2)):=iU h rfl (by decide) hl
theorem Fs(h:Ev w ρ μ (.tup ds))(hl:3 < ds.length):Ev (dSl ax w (aQ (dC (.int 3))) bB) ρ μ (.tup (ds.drop 3)):=iU h rfl (by decide) hl
theorem Ft(h:Ev w ρ μ (.tup ds))(hl:4 < ds.length):Ev (dSl ax w (aQ (dC (.int 4))) bB) ρ μ (.tup (ds.drop 4)):=iU h rfl (by decide) hl
theorem Fu(h:Ev w ρ μ (.tup ds))(hl:5 < ds.length):Ev (dSl ax w (aQ (dC (.int 5))) bB) ρ μ (.tup (ds.drop 5)):=iU h rfl (by decide) hl
end
def nj:Value->Option Str
 | .str x _=>some x
 |_=>none
theorem Fv{u:Value}(h:nj u=some x):RelV (.str x) u:=by
 cases u<;>simp[nj] at h
 subst h;exact⟨_,rfl⟩
instance decKey(k:Key)(ks:List Key):Decidable (k∈ks):=@List.instDecidableMemOfLawfulBEq Key instBEqOfDecidableEq inferInstance k ks
def da:D->Option Key
 | .int i=>some (.inl i)
 | .str x=>some (.inr x)
 |_=>none
def bG:List Key->List D->Key->Option D
 |k::ks,v::vs,q=>if k=q then some v else bG ks vs q
 |_,_,_=>none
def dH(ks:List Key)(k:Key):List Key:=if k∈ks then ks else ks++[k]
def eA(ks:List Key)(vs:List D)(k:Key)(v:D):List D:=if k∈ks then List.zipWith (λk' v'=>if k'=k then v else v') ks vs else vs++[v]
def eB(c:Option Ct)(R:List Key->List D->Prop):Prop:=match c with
 |some (.dct ks vs)=>R ks vs
 |_=>False
def fX(μ:Mu)(d:D)(R:List Key->List D->Prop):Prop:=match d with
 | .cell k=>eB (μ k) R
 | .dct ks vs=>R ks vs
 |_=>False
def kc(c:Option Ct)(R:List Key->List D->Prop):Prop:=match c with
 |some (.dct ks vs)=>R ks vs
 |some (.fdct _ ks vs)=>R ks vs
 |_=>False
def eC(μ:Mu)(d:D)(R:List Key->List D->Prop):Prop:=match d with
 | .cell k=>kc (μ k) R
 | .dct ks vs=>R ks vs
 |_=>False
theorem iV{ks:List Key}{vs:List D}{R:List Key->List D->Prop}:kc (some (.dct ks vs)) R=R ks vs:=rfl
theorem iW{k:Nat}{R:List Key->List D->Prop}:eC μ (.cell k) R=kc (μ k) R:=rfl
theorem bS.kr{kvs:List (Key×V)}{k:Key}(e:Rd H a (.dK kvs)):bS H a (kV k) (bI kvs k):= .inl ⟨kvs,k,e,rfl,rfl⟩
theorem fY{ks:List Key}{vs:List D}{R:List Key->List D->Prop}:eB (some (.dct ks vs)) R=R ks vs:=rfl
theorem nk{k:Nat}{R:List Key->List D->Prop}:fX μ (.cell k) R=eB (μ k) R:=rfl
theorem eD:da (.str x)=some (.inr x):=rfl
def iX:DE:=λ_ μ Q=>∀k,μ k=none->Q (.cell k) (zO μ k (.dct [] []))
def kg(wo wi:DE):DE:=λρ μ Q=>wo ρ μ λd μ1=>wi ρ μ1 λe μ2=>eC μ2 d λks vs=>ai (da e) λk=>ai (bG ks vs k) λv=>Q v μ2
def fZ(wo wi wv:DE):DS:=λD' ρ μ=>wv ρ μ λv μ1=>wo ρ μ1 λd μ2=>wi ρ μ2 λe μ3=>ai (match d with | .cell c=>some c|_=>none) λc=>eB (μ3 c) λks vs=>ai (da e) λk=>ks.length<=1000/\D'.nx ρ (zO μ3 c (.dct (dH ks k) (eA ks vs k v)))
def gS:DRs:=λds μ Q=>match ds with
 | [d]=>fX μ d λks _=>Q (.int ks.length) μ
 |_=>False
section
variable{W:Wd}
theorem kh{k:Key}:∀{ks:List Key} {vs:List D} {xs:List V},ks.length=xs.length->zx K W vs xs->(∀v,bG ks vs k=some v->∃y,bI (ks.zip xs) k=some y/\Rep K W v y)/\(bG ks vs k=none->bI (ks.zip xs) k=none)
 | [],vs,xs,_,_=>⟨λv h=>by cases vs<;>simp[bG] at h,λ_=>rfl⟩
 |q::ks,[],xs,h,r=>by rw[r.nil'] at h;simp at h
 |q::ks,d::vs,xs,h,r=>by
  obtain⟨x,t,rfl,q1,q2⟩:=r.uncons;have ih:=kh (k:=k) (ks:=ks) (vs:=vs) (xs:=t) (by simpa using h) q2;by_cases e:q=k
  .have hv:bI ((q::ks).zip (x::t)) k=some x:=by rw[LV];exact jz (p:=(q,x)) e
   rw[hv];exact⟨λv hl=>by rw[bG,if_pos e] at hl;cases hl;exact⟨x,rfl,q1⟩,λhl=>by rw[bG,if_pos e] at hl;cases hl⟩
  .have hv:bI ((q::ks).zip (x::t)) k=bI (ks.zip t) k:=by rw[LV];exact jA (p:=(q,x)) e
   rw[hv,bG,if_neg e];exact ih
theorem ue{k:Key}:∀{ks:List Key} {vs:List D},ks.length=vs.length->(bG ks vs k).isSome=decide (k∈ks)
 | [],vs,_=>by simp[bG]
 |q::ks,[],h=>by simp at h
 |q::ks,d::vs,h=>by
  have ih:=ue (k:=k) (ks:=ks) (vs:=vs) (by simpa using h);by_cases e:q=k
  .simp[bG,e]
  .have e':¬ k=q:=λz=>e z.symm
   simp[bG,e,e',ih]
theorem uf{k:Key}{ks:List Key}{vs:List D}(h:ks.length=xs.length)(r:zx K W vs xs):(bI (ks.zip xs) k).isSome=decide (k∈ks):=by
 have hl:ks.length=vs.length:=by rw[h,r.length]
 rw[<- ue hl];obtain⟨a,b⟩:=kh (k:=k) h r;cases e:bG ks vs k with
 |none=>rw[b e];rfl
 |some v=>obtain⟨y,ey,_⟩:=a v e;rw[ey];rfl
theorem ug{k:Key}:∀{ks:List Key} {xs:List V},ks.length=xs.length->((ks.zip xs).any λkv=>decide (kv.1=k))=decide (k∈ks)
 | [],_,_=>by simp
 |q::ks,[],h=>by simp at h
 |q::ks,x::xs,h=>by
  have ih:=ug (k:=k) (ks:=ks) (xs:=xs) (by simpa using h);rw[LV,Nz,ih];by_cases e:q=k
  .simp[e]
  .have e':¬ k=q:=λz=>e z.symm
   simp[e,e']
theorem uh{k:Key}{v:D}{ks:List Key}{vs:List D}(h:ks.length=xs.length)(r:zx K W vs xs)(q:Rep K W v y):∃xs',putK (ks.zip xs) k y=(dH ks k).zip xs'/\(dH ks k).length=xs'.length/\zx K W (eA ks vs k v) xs':=by
 unfold putK dH eA;rw[ug h];by_cases m:k∈ks
 .rw[if_pos (decide_eq_true m),if_pos m,if_pos m];clear m;induction ks generalizing vs xs with
  |nil=>exact⟨[],rfl,rfl,by simp[zx.nil]⟩
  |cons a ks ih =>
   cases xs with
   |nil=>simp at h
   |cons x xs =>
    cases vs with
    |nil=>rw[r.nil'] at h;simp at h
    |cons d vs =>
     obtain⟨x',t,e,q1,q2⟩:=r.uncons;cases e;obtain⟨xs',e1,e2,e3⟩:=ih (by simpa using h) q2;refine⟨(if a=k then y else x)::xs',?_,by simp[e2],?_⟩
     .rw[LV,LQ,e1];by_cases e:a=k
      .simp[e]
      .simp[e]
     .rw[List.zipWith_cons_cons];refine .cons ?_ e3;by_cases e:a=k
      .simp only[if_pos e];exact q
      .simp only[if_neg e];exact q1
 .rw[if_neg (by simpa using m),if_neg m,if_neg m];refine⟨xs++[y],?_,by simp[h],r.append (.cons q .nil)⟩;rw[List.zip_append h];rfl
theorem ui{d:D}{x:V}{R:List Key->List D->Prop}(r:Rel K fl W μ H)(q:Rep K W d x)(h:fX μ d R):∃a ks vs xs,x= .ref a/\H a=some (.dK (ks.zip xs))/\ks.length=xs.length/\zx K W vs xs/\R ks vs:=by
 unfold fX at h;split at h
 .rename_i k;obtain⟨a,rfl,hb⟩:=q.cell';unfold eB at h;split at h
  .rename_i ks vs hk;obtain⟨a',e1,e2,xs,e3,l,z⟩:=r.cel k _ hk;rw[hb] at e1;cases e1;exact⟨a,ks,vs,xs,rfl,e3,l,z,h⟩
  .exact h.elim
 .unfold Rep at q;obtain⟨a,xs,rfl,e,l,z⟩:=q;exact⟨a,_,_,xs,rfl,r.sub _ _ e,l,z,h⟩
 .exact h.elim
theorem iY{d:D}{x:V}{R:List Key->List D->Prop}(r:Rel K fl W μ H)(q:Rep K W d x)(h:eC μ d R):∃a ks vs xs,x= .ref a/\Rd H a (.dK (ks.zip xs))/\ks.length=xs.length/\zx K W vs xs/\R ks vs:=by
 unfold eC at h;split at h
 .rename_i k;obtain⟨a,rfl,hb⟩:=q.cell';unfold kc at h;split at h
  .rename_i ks vs hk;obtain⟨a',e1,e2,xs,e3,l,z⟩:=r.cel k _ hk;rw[hb] at e1;cases e1;exact⟨a,ks,vs,xs,rfl,.inl e3,l,z,h⟩
  .rename_i ob ks vs hk;obtain⟨a',e1,e2,xs,e3,l,z⟩:=r.cel k _ hk;rw[hb] at e1;cases e1;exact⟨a,ks,vs,xs,rfl,.inr ⟨ob,e3⟩,l,z,h⟩
  .exact h.elim
 .unfold Rep at q;obtain⟨a,xs,rfl,e,l,z⟩:=q;exact⟨a,_,_,xs,rfl,.inl (r.sub _ _ e),l,z,h⟩
 .exact h.elim
theorem gT{e:D}{k:Key}(q:Rep K W e y)(h:da e=some k):y=kV k:=by
 unfold da at h;split at h<;>cases h
 .rw[q.i'];rfl
 .rw[q.s'];rfl
theorem dJ{o:Option α}{R:α->Prop}(h:ai o R):∃a,o=some a/\R a:=by
 cases o with
 |none=>exact h.elim
 |some a=>exact⟨a,rfl,h⟩
instance:zR K fl mh iX:=⟨λ{W ρ μ σ H Q Q'} r e h k p hp=>by
 obtain⟨c,W',hc,le,r',eb⟩:=r.newC (o:= .dK []) (c:= .dct [] []) hp ⟨[],rfl,rfl,.nil⟩;exact k W' (.cell c) _ _ _ le r' (by unfold Rep;exact⟨p,rfl,eb⟩) (h c hc)⟩
instance[a:zR K fl ta wa][b:zR K fl tb wb]:zR K fl (me ta tb) (kg wa wb):=⟨λ{W ρ μ σ H Q Q'} r e h k=>a.run r e h λW1 d μ1 x H1 le1 r1 q1 h1=>b.run r1 (e.mono le1) h1 λW2 d2 μ2 y H2 le2 r2 q2 h2=>by
 obtain⟨p,ks,vs,xs,rfl,ea,l,z,h3⟩:=iY r2 (q1.mono le2) h2;obtain⟨kk,ek,h3⟩:=dJ h3;obtain⟨v,ev,h3⟩:=dJ h3;obtain⟨y',ey,qy⟩:=(kh (k:=kk) l z).1 v ev;rw[gT q2 ek];exact⟨p,y',rfl,ey▸bS.kr ea,k W2 v μ2 y' H2 (le1.trans le2) r2 qy h3⟩⟩
instance[a:zR K fl ta wa][b:zR K fl tb wb][c:zR K fl tv wv]:bA K fl (mf ta tb tv) (fZ wa wb wv):=⟨λ{W ρ μ σ H D' D} r e h k=>c.run r e h λW1 v μ1 x H1 le1 r1 q1 h1=>a.run r1 (e.mono le1) h1 λW2 d2 μ2 y H2 le2 r2 q2 h2=>b.run r2 (e.mono (le1.trans le2)) h2 λW3 d3 μ3 z3 H3 le3 r3 q3 h3=>by
 have hz:(1001:Nat)<=sizeLine:=by decide
 obtain⟨cc,ec,h4⟩:=dJ h3;have ed:d2= .cell cc:=by
  cases d2<;>simp at ec
  subst ec;rfl
 subst ed;obtain⟨p,rfl,hb⟩:=(q2.mono le3).cell';unfold eB at h4;split at h4
 .rename_i ks vs hk;obtain⟨a',e1,e2,xs,e3,l,z⟩:=r3.cel cc _ hk;rw[hb] at e1;cases e1;obtain⟨kk,ek,hl,h5⟩:=dJ h4;rw[gT q3 ek];obtain⟨xs',p1,p2,p3⟩:=uh (k:=kk) l z (q1.mono (le2.trans le3));refine⟨p,_,rfl,eO.k e3 (by rw[Os,<- l,Pv];omega),?_⟩;rw[p1];exact k.nx W3 ρ _ σ _ (le1.trans (le2.trans le3)) (r3.setC (c':= .dct (dH ks kk) (eA ks vs kk v)) hk hb ⟨xs',rfl,p2,p3⟩) (e.mono (le1.trans (le2.trans le3))) h5
 .exact h4.elim⟩
end
section
variable{o i e value:Expr}{td ty:TE}
theorem uj:WE X (.Dict [] [] pos) mh:=⟨Cf⟩
theorem uk(hu:X.A.units+1 < cLine)(ho:WE X o td)(hi:WE X i ty)(hs:md i:=by exact λ_ _=>rfl):WE X (.Subscript o i pos) (me td ty):=⟨Cc hu ho.out hi.out hs⟩
theorem nq(hu:X.A.units+1 < cLine)(ho:WE X o td)(hi:WE X i ty)(hv:WE X value tv)(hs:swapsWith value (some (.Subscript o i pos')) pos.line X.env=pure false:=by rfl):WS X (.Assign [.Subscript o i pos'] value pos) (mf td ty tv):=⟨Cd hu ho.out hi.out hv.out hs⟩
def ul:R2:=λy x H Q=>∃a o,x= .ref a/\bS H a y o/\Q (.bl o.isSome) H
def um:R2:=λy x H Q=>∃a o,x= .ref a/\bS H a y o/\Q (.bl (!o.isSome)) H
theorem uo(hu:X.A.units+1 < cLine):OpR X (compareOp .In) ul:=by
 intro pins s σ H x y v u Q I rx ry h;obtain⟨a,o,rfl,g,q⟩:=h;cases ry;exact B7 hu I g rx λs3 I3=>⟨.bl o.isSome,H,I3,rfl,q⟩
theorem nr(hu:X.A.units+1 < cLine):OpR X (compareOp .NotIn) um:=by
 intro pins s σ H x y v u Q I rx ry h;obtain⟨a,o,rfl,g,q⟩:=h;cases ry;exact B8 hu I g rx λs3 I3=>⟨.bl (!o.isSome),H,I3,rfl,q⟩
def uq:List V->Hp->VK->Prop:=λxs H Q=>∃a kvs,xs=[V.ref a]/\H a=some (.dK kvs)/\Q (.int kvs.length) H
theorem nt:zQ X (.builtin "len") uq:=Cp
end
def e_(neg:Bool):DR2:=λe d μ Q=>eC μ d λks vs=>ai (da e) λk=>Q (.bl (neg ^^ decide (k∈ks))) μ
theorem ki{e d:D}:e_ neg e d μ Q=eC μ d λks vs=>ai (da e) λk=>Q (.bl (neg ^^ decide (k∈ks))) μ:=rfl
theorem ur{wi:DE}:kg wo wi ρ μ Q=wo ρ μ λd μ1=>wi ρ μ1 λe μ2=>eC μ2 d λks vs=>ai (da e) λk=>ai (bG ks vs k) λv=>Q v μ2:=rfl
theorem ut{d:D}:gS [d] μ Q=fX μ d λks _=>Q (.int ks.length) μ:=rfl
section
instance:aU K fl ul (e_ false):=⟨λ{W μ H d e x y Q Q'} r q1 q2 h k=>by
 obtain⟨p,ks,vs,xs,rfl,ea,l,z,h3⟩:=iY r q2 h;obtain⟨kk,ek,h3⟩:=dJ h3;rw[gT q1 ek];refine⟨p,_,rfl,bS.kr ea,?_⟩;rw[uf l z];exact k W _ μ _ H (.refl _) r .b (by simpa using h3)⟩
instance:aU K fl um (e_ true):=⟨λ{W μ H d e x y Q Q'} r q1 q2 h k=>by
 obtain⟨p,ks,vs,xs,rfl,ea,l,z,h3⟩:=iY r q2 h;obtain⟨kk,ek,h3⟩:=dJ h3;rw[gT q1 ek];refine⟨p,_,rfl,bS.kr ea,?_⟩;rw[uf l z];exact k W _ μ _ H (.refl _) r .b (by simpa using h3)⟩
instance:bj K fl uq gS:=⟨λ{W μ H ds xs Q Q'} r z h k=>by
 unfold gS at h;split at h
 .obtain⟨y,rfl,qy⟩:=z.one;obtain⟨p,ks,vs,xs,rfl,ea,l,z,h3⟩:=ui r qy h;refine⟨p,_,rfl,ea,?_⟩;rw[Os,<- l,Pv];exact k W _ μ _ H (.refl _) r .i h3
 .exact h.elim⟩
end
section
variable{s:Shared}
theorem uu{v:Value}{ss:List Str}{Q:Value->Shared->Prop}
  (hc:∀R:List Value->Shared->Prop,(∀(h':Heap) (tk:Nat) (vs:List Value),(∀b o,s.heap.get? b=some o->h'.get? b=some o)->StrsAre vs ss->R vs {s with heap:=h',toks:=tk})->wpAny (model prog w) A.in1 (collect v) R E s)(h64:ss.length < 64)
  (h:∀(h1 h2:Heap) (tk:Nat) (out:Array Value) (ss':List Str) (e:Nat),(∀b o,s.heap.get? b=some o->h1.get? b=some o)->(∀b o,h1.get? b=some o->h2.get? b=some o)->h2.get? h1.objs.size=some (seqObj "list" out e)->StrsAre out.toList ss'->ss'.Perm ss->sortedS ss'=true->Q (.ref h1.objs.size) {s with heap:=h2,toks:=tk}) :
  wpAny (model prog w) A (call (.builtin "sorted") [v]) Q E s:=by
 refine Calls.call_function_entry Rs R1 R3 (SH _) ?_;unfold Builtin.«sorted»;refine L1 (m:=checkCount "sorted" 1 1 _) (L9 ?_);refine L1 (hc _ λh' tk vs hk hS=>?_);have hl:vs.length=ss.length:=by
  clear h hc h64;induction hS with
  |nil=>rfl
  |cons _ _ _ ih=>simp[ih]
 refine L1 (Oo ?_ (by rw[hl];exact M6 (Nd h64) (by decide)));have hoL:(h'.push (seqObj "list" vs.toArray 0)).get? h'.objs.size=some (seqObj "list" vs.toArray 0):=LC _ rfl;refine L1 (Mn (Nr Q9 ⟨_,hoL,rfl⟩ PP (list_sort_treeK strKind_oneLt hoL hS.keysOf (λv₁ v₂ rest e=>keyKind_strs (by rw[<- e];exact hS)) (by rw[hl];exact h64) λst' a1 a2=>⟨_,rfl,?_⟩) (RQ _)));obtain⟨ss',h1,h2,h3⟩:=sorted_out_str hS a1 a2;obtain⟨e,he⟩:=sortedHeap_at (out:=(arrOf st').map (·.2)) hoL;refine L9 ⟨_,rfl,h h' _ tk _ ss' e hk (λb o q'=>?_) he h1 h2 h3⟩;have hlt:=LB q';rw[sortedHeap_old (LJ hlt) (by rw[P0];exact MQ hlt),MR _ _ _ (LJ hlt)];exact q'
end
section
variable(K:Frag)
def uv:List V->Hp->VK->Prop:=λxs H Q=>∃p ns,xs=[.ref p]/\SqT K H p (ns.map V.str)/\ns.length < 64/\∀ns' l,MH ns' ns->sortedS ns'=true->H l=none->Q (.ref l) (upd H l (.lst (ns'.map V.str)))
def uw:List V->Hp->VK->Prop:=λxs H Q=>∃p kvs ns,xs=[.ref p]/\H p=some (.dK kvs)/\kvs.map (·.1)=ns.map NW/\ns.length < 64/\∀ns' l,MH ns' ns->sortedS ns'=true->H l=none->Q (.ref l) (upd H l (.lst (ns'.map V.str)))
theorem ux{s:Shared}{h2:Heap}{tk:Nat}{ss':List Str}{out:Array Value}{e:Nat}{Q:VK}(I:Inv X pins σ H s)(hz:ns.length < 64)(hk:∀b o,s.heap.get? b=some o->h2.get? b=some o)(he:h2.get? s.heap.objs.size=some (seqObj "list" out e))(g1:StrsAre out.toList ss')(g2:ss'.Perm ns)(g3:sortedS ss'=true)(q:H s.heap.objs.size=none->Q (.ref s.heap.objs.size) (upd H s.heap.objs.size (.lst (ss'.map V.str)))):EP X pins σ Q (.ref s.heap.objs.size) {s with heap:=h2,toks:=tk}:=by
 have hf:H s.heap.objs.size=none:=I.hok.fresh (Lx _);refine⟨.ref s.heap.objs.size,_,I.laid (a:=s.heap.objs.size) (o:= .lst (ss'.map V.str)) (t':=tk) hk (Lx _) ?_,rfl,q hf⟩;refine⟨by rw[L0,g2.length_eq];exact M6 (Nd hz) (by decide),out.toList,e,m5 g1,?_⟩;rw[he]
theorem kj:∀{kvs:List (Key×V)} {vs:List (Key×Value)} {ns:List Str} {acc:Array Value},ItemsOf (λi v=>∃k x,vs[i]? = some (k,x)/\(bH P w).is k v=true) acc vs.length->KV kvs vs->kvs.map (·.1)=ns.map NW->StrsAre acc.toList ns:=by
 intro kvs vs ns acc hacc rel hn;have hk:vs.map (·.1)=ns.map NW:=by
  rw[<- hn];clear hn hacc;induction rel with
  |nil=>rfl
  |cons a _ ih=>simp only[LQ,ih,a.1]
 have hl:vs.length=ns.length:=by
  have:=congrArg NL hk;simpa using this
 have hat:∀(i:Nat) (v:Value),acc.toList[i]? = some v->∃y t,ns[i]? = some y/\v= .str y t:=λi v hv=>by
  obtain⟨k,x,hx,hi⟩:=hacc.2 i v (by rw[<- NG];exact hv);have h1:(vs.map (·.1))[i]? = some k:=by rw[L4,hx];rfl
  rw[hk,L4] at h1;obtain⟨y,hy,rfl⟩:=LH.mp h1;have:fk (.inr y) v=true:=hi;obtain⟨t,rfl⟩:∃t,v= .str y t:=by
   rcases dc this with⟨i,t,e,_⟩|⟨x',t,e,rfl⟩
   .cases e
   .cases e;exact⟨t,rfl⟩
  exact⟨y,t,hy,rfl⟩
 have hsz:acc.toList.length=ns.length:=by rw[M9,hacc.1,hl]
 clear hacc rel hn hk hl;generalize acc.toList=l at hat hsz
 induction l generalizing ns with
 |nil=>cases ns with
  |nil=>exact .nil
  |cons y r=>simp at hsz
 |cons v l ih=>cases ns with
  |nil=>simp at hsz
  |cons y r =>
   obtain⟨y',t,e1,rfl⟩:=hat 0 v rfl;cases e1;exact .cons y t (ih (λi v hv=>hat (i+1) v (by simpa using hv)) (by simpa using hsz))
theorem Fw(h:X.K=K:=by rfl):zQ X (.builtin "sorted") (uv K):=by
 subst h;intro pins s σ H xs us Q I r h;obtain⟨p,ns,rfl,hl,hz,q⟩:=h;obtain⟨u,rfl,rx⟩:=vals1 r;cases rx;obtain⟨its,r',⟨o,ho,hcl,n,hd⟩,hz'⟩:=I.tuple hl;refine uu (ss:=ns) (λR hR=>?_) hz λh1 h2 tk out ss' e k1 k2 he g1 g2 g3=>?_
 .refine wpAny_collect_seq p (.inr rfl) ho hcl hd (λh' hk=>?_) (by rw[Ly,<- r'.length,L0];exact M6 (Nd hz) (by decide));have:=hR h' s.toks its hk (m6 r');simpa using this
 .exact ux (I.kept (t':=tk) k1) hz k2 he g1 g2 g3 (q ss' h1.objs.size g2 g3)
theorem Fx(hc:X.calm=true:=by rfl):zQ X (.builtin "sorted") uw:=by
 intro pins s σ H xs us Q I r h;obtain⟨p,kvs,ns,rfl,hp,hn,hz,q⟩:=h;obtain⟨u,rfl,rx⟩:=vals1 r;cases rx;obtain⟨z,hd,vs,rel,dd⟩:=dU I.hok (.inl hp);obtain⟨ep,dd⟩:=dd.dictAt;have hlen:vs.length=ns.length:=by
  have e1:=Paired.length rel;have e2:=congrArg NL hn;simp only[L0] at e2;omega
 refine uu (ss:=ns) (λR hR=>?_) hz λh1 h2 tk out ss' e k1 k2 he g1 g2 g3=>?_
 .refine PySem.W.kdu_collect (PySem.W.kdl_dict hd) (by first|exact I.ok.hd hc|exact(I.ok.hd hc)) dd (by rw[hlen];exact M6 (Nd hz) (by decide)) λh' tk acc hk hacc=>?_
  refine hR h' tk acc.toList hk ?_;exact kj hacc rel hn
 .exact ux (I.kept (t':=tk) k1) hz k2 he g1 g2 g3 (q ss' h1.objs.size g2 g3)
def km:List V->Hp->VK->Prop:=λxs H Q=>(j8 K xs H Q\/uv K xs H Q)\/uw xs H Q
theorem ko(h:X.K=K:=by rfl)(hc:X.calm=true:=by rfl):zQ X (.builtin "sorted") (km K):=((EK K h).or (Fw K h)).or (Fx hc)
end
def fb:DRs:=λds μ Q=>j9 ds μ Q\/match ds with
 | [.tup es]=>∃ns,es=ns.map D.str/\ns.length < 64/\∀ns',MH ns' ns->sortedS ns'=true->Q (.lst (ns'.map D.str)) μ
 | [d]=>fX μ d λks _=>∃ns,ks=ns.map NW/\ns.length < 64/\∀ns',MH ns' ns->sortedS ns'=true->Q (.lst (ns'.map D.str)) μ
 |_=>False
instance:bj K fl (km K) fb:=⟨λ{W μ H ds xs Q Q'} r z h k=>by
 have fin:∀ns':List Str,Q (.lst (ns'.map D.str)) μ->∀l,H l=none->Q' (.ref l) (upd H l (.lst (ns'.map V.str))):=λns' hq l hl=>by
  obtain⟨r2,le⟩:=r.newF (o:= .lst (ns'.map V.str)) hl;exact k _ _ _ _ _ le r2 (.lst zA (zx.of_strs ns')) hq
 rcases h with h|h
 .exact .inl (.inl (bj.run (K:=K) (r:=j8 K) (q:=j9) r z h k))
 .split at h
  .obtain⟨ns,rfl,hz,h⟩:=h;obtain⟨y,rfl,qy⟩:=z.one;obtain⟨p,xs,rfl,s1,z1⟩:=qy.tup';rw[z1.strs] at s1;exact .inl (.inr ⟨p,ns,rfl,s1.sm r.sub,hz,λns' l g1 g2 hl=>fin ns' (h ns' g1 g2) l hl⟩)
  .obtain⟨y,rfl,qy⟩:=z.one;obtain⟨p,ks,vs,xs,rfl,ea,l,z1,h3⟩:=ui r qy h;obtain⟨ns,rfl,hz,h⟩:=h3;refine .inr ⟨p,_,ns,rfl,ea,?_,hz,λns' l g1 g2 hl=>fin ns' (h ns' g1 g2) l hl⟩;rw[List.map_fst_zip];omega
  .exact h.elim⟩
theorem uy(hz:ns.length < 64)(h:∀ns',MH ns' ns->sortedS ns'=true->Q (.lst (ns'.map D.str)) μ):fb [.tup (ns.map D.str)] μ Q:= .inr ⟨ns,rfl,hz,h⟩
theorem Fy{k:Nat}{vs:List D}(hk:μ k=some (.dct (ns.map NW) vs))(hz:ns.length < 64)(h:∀ns',MH ns' ns->sortedS ns'=true->Q (.lst (ns'.map D.str)) μ):fb [.cell k] μ Q:= .inr (by
 show fX μ (.cell k) _;rw[nk,hk,fY];exact⟨ns,rfl,hz,h⟩)
section
variable{u u':HO}
end
section
variable{s:Shared}{u u':HO}
end
section
variable{tl:TE}{w:DE}
end
def bq(xs:List α)(lo hi:Option Int)(st:Int):List α:=(sliceRange (sliceBounds lo hi (some st) xs.length).1 (sliceBounds lo hi (some st) xs.length).2.1 (sliceBounds lo hi (some st) xs.length).2.2).filterMap (xs[·]?)
def stepT(xs:List α)(lo hi:Option Int)(st:Int):List α:=(Mz (Mf (LP lo hi st xs.length).1 (LP lo hi st xs.length).2 st)).filterMap λ(m:Nat)=>xs[((LP lo hi st xs.length).1+(m:Int)*st).toNat]?
theorem Vals.pick(r:Vals xs us):∀(ix:List Nat),Vals (ix.filterMap (xs[·]?)) (ix.filterMap (us[·]?))
 | []=> .nil
 |i::ix=>by
  have ih:=Vals.pick r ix;rw[Nk,Nk];cases e:xs[i]? with
  |some x =>
   obtain⟨u,eu,ru⟩:=r.get e;rw[eu];exact .cons ru ih
  |none =>
   have hl:us[i]? = none:=by
    rw[NI] at e ⊢;rw[<- r.length];exact e
   rw[hl];exact ih
theorem zx.pick{W:Wd}{ds:List D}(r:zx K W ds xs):∀(ix:List Nat),zx K W (ix.filterMap (ds[·]?)) (ix.filterMap (xs[·]?))
 | []=> .nil
 |i::ix=>by
  have ih:=zx.pick r ix;rw[Nk,Nk];cases e:ds[i]? with
  |some x =>
   obtain⟨u,eu,ru⟩:=r.get e;rw[eu];exact .cons ru ih
  |none =>
   have hl:xs[i]? = none:=by
    rw[NI] at e ⊢;rw[r.length];exact e
   rw[hl];exact ih
theorem zx.bq{W:Wd}{ds:List D}(r:zx K W ds xs)(lo hi:Option Int)(st:Int):zx K W (L2.bq ds lo hi st) (L2.bq xs lo hi st):=by
 unfold L2.bq;rw[r.length];exact r.pick _
theorem kq(xs:List α)(lo hi:Option Int)(st:Int):stepT xs lo hi st=((Mz (Mf (LP lo hi st xs.length).1 (LP lo hi st xs.length).2 st)).map λ(m:Nat)=>((LP lo hi st xs.length).1+(m:Int)*st).toNat).filterMap (xs[·]?):=by
 unfold stepT;rw[Qs];rfl
theorem zx.stepT{W:Wd}{ds:List D}(r:zx K W ds xs)(lo hi:Option Int)(st:Int):zx K W (L2.stepT ds lo hi st) (L2.stepT xs lo hi st):=by
 rw[kq,kq,r.length];exact r.pick _
theorem Vals.stepT(r:Vals xs us)(lo hi:Option Int)(st:Int):Vals (L2.stepT xs lo hi st) (L2.stepT us lo hi st):=by
 rw[kq,kq,r.length];exact r.pick _
theorem Fz(us:List Value)(lo hi:Option Int)(st:Int):(slicePick us.toArray lo hi (some st))=(bq us lo hi st).toArray:=by
 unfold slicePick bq;simp only[Ly,List.getElem?_toArray]
section
variable{s:Shared}
theorem FA{sl:Addr}{vl vu vk:Value}{lo:Option Int}{st:Int}{n:Nat}{Q:Int×Int×Nat->Shared->Prop}(hs:s.heap.IsSliceOf sl vl vu vk)(pl:IsPart vl lo)(pu:IsPart vu hi)(pk:IsPart vk (some st))(h0:st≠0)
  (h:Q ((LP lo hi st n).1,st,Mf (LP lo hi st n).1 (LP lo hi st n).2 st) s):wpAny (model prog w) A (NC (.ref sl) (pure (n:Int))) Q E s:=by
 obtain⟨os,hos,hcs,hds⟩:=id hs;unfold NC P3;refine L1 (L1 (MV hos hds (x:=vl) rfl (L1 (MV hos hds (x:=vu) rfl (L1 (MV hos hds (x:=vk) rfl (L9 ?_)))))));refine L1 (HT.ic pk ?_);show wpAny _ _ (if (st==0)=true then _ else _) _ _ s;rw[if_neg (by simpa using h0)];refine L1 (HT.ic pl (L1 (HT.ic pu (L1 (L9 ?_)))));exact L9 h
theorem FB{t sl:Addr}{vl vu vk:Value}{lo:Option Int}{st:Int}{Q:Value->Shared->Prop}(ht:IsTup s.heap t items)(hs:s.heap.IsSliceOf sl vl vu vk)(pl:IsPart vl lo)(pu:IsPart vu hi)(pk:IsPart vk (some st))(h0:st≠0)(h1:st≠1)
  (h:Q (.ref s.heap.objs.size) {s with heap:=s.heap.push {cls:= .type "tuple",data:= .seq (stepT items.toList lo hi st).toArray}})
  (hsz:(stepT items.toList lo hi st).length<=sizeLine):wpAny (model prog w) A (getItem (.ref t) (.ref sl)) Q E s:=by
 have htake:sizeOk (.seq (stepT items.toList lo hi st).toArray):=by
  show(stepT items.toList lo hi st).toArray.size<=sizeLine;rw[Ly];exact hsz
 obtain⟨os,hos,hcs,hds⟩:=id hs;have hTs:s.TypeIs (.ref sl) "slice":=⟨os,hos,hcs⟩;unfold getItem;try with_reducible refine Mn ?_
 first|refine L1 (L9 ?_)|skip
 refine L1 (QW ht.typeIs (by decide) ?_);refine L1 (Ng (name:=L6 "__getitem__") ht.typeIs MF
  (Nr MF ht.typeIs Qi ?_ (QC _ _)))
 show wpAny _ _ (OV (.ref t) >>= _) _ _ s;refine L1 (Sq ht ?_);refine L1 (QX hTs ?_);rw[if_pos (by decide)];refine L1 (FA hs pl pu pk h0 ?_);have hno:∀b c:Bool,¬ ((b&&(st==1)&&c)=true):=by
  intro b c q;rw[Mw,Mw] at q;exact h1 (eq_of_beq q.1.2)
 show wpAny _ _ (if ((_==_)&&(st==1)&&(_==_))=true then _ else _) _ _ s;rw[if_neg (hno _ _)];have e:((Mz (Mf (LP lo hi st items.size).1 (LP lo hi st items.size).2 st)).filterMap λ(m:Nat)=>items[((LP lo hi st items.size).1+(m:Int)*st).toNat]?).toArray=(stepT items.toList lo hi st).toArray:=by
  unfold stepT;simp only[M9,NG]
 rw[e];first
  |exact L1 (m:=MD _) (Mx (L9 ⟨_,rfl,L9 h⟩) htake)
  |exact L1 (m:=MD _) (Mx (L1 (L9 (L9 ⟨_,rfl,L9 h⟩))) htake)
  |exact L1 (L1 (m:=MD _) (Mx (L9 (L9 ⟨_,rfl,L9 h⟩)) htake))
  |exact L1 (L1 (m:=MD _) (Mx (L9 ⟨_,rfl,L9 h⟩) htake))
end
section
variable{e ke:Expr}{lo hi:Option Expr}{tk:TO}
def Sl3(X:Cx)(r:V->Option Int->Option Int->Int->Hp->VK->Prop):Prop :=
 ∀(pins:List (Addr×Obj)) (s:Shared) (σ:St) (H:Hp) (x:V) (v vl vu vk:Value) (lo hi:Option Int) (st:Int) (sl:Addr) (Q:VK),Inv X pins σ H s->RelV x v->s.heap.IsSliceOf sl vl vu vk->IsPart vl lo->IsPart vu hi->IsPart vk (some st)->r x lo hi st H Q ->
  ∃T id,typeLookup (.type T) "__getitem__"=pure (some (.builtin id))/\s.TypeIs v T/\wpAny (model X.prog X.w) X.A (getItem v (.ref sl)) (EP X pins σ Q) X.xe s
def nu(r:V->Option Int->Option Int->Int->Hp->VK->Prop)(te:TE)(tl th tk:TO):TE:=λσ H Q=>te σ H λx H1=>tl σ H1 λl H2=>th σ H2 λu H3=>tk σ H3 λk H4=>∃st,k=some st/\r x l u st H4 Q
theorem FC{r:V->Option Int->Option Int->Int->Hp->VK->Prop}(hr:Sl3 X r)(he:PE X e te)(hl:PO X lo tl)(hu:PO X hi th)(hk:PO X (some ke) tk):PE X (.Subscript e (.Slice lo hi (some ke) p2) pos) (nu r te tl th tk):=by
 intro pins s σ H Q I h;refine QD (thn (he pins s σ H _ I h) λv s1 ⟨x,H1,I1,r1,q1⟩=>?_);refine wpAny_Slice (thn (hl pins s1 σ H1 _ I1 q1) λvl s2 ⟨l,H2,I2,pl,q2⟩=>thn (hu pins s2 σ H2 _ I2 q2) λvu s3 ⟨u,H3,I3,pu,q3⟩=>thn (hk pins s3 σ H3 _ I3 q3) λvk s4 ⟨k,H4,I4,pk,st,ek,q4⟩=>?_);subst ek;have I5:Inv X pins σ H4 {s4 with heap:=s4.heap.push {cls:= .type "slice",data:= .fields #[vl,vu,vk]}}:=I4.kept (t':=s4.toks) λb ob q=>L5 _ q
 obtain⟨T,id,hT,ht,hg⟩:=hr pins {s4 with heap:=s4.heap.push {cls:= .type "slice",data:= .fields #[vl,vu,vk]}} σ H4 x v vl vu vk l u st s4.heap.objs.size Q I5 r1 (Qt ..) pl pu pk q4;show wpAny (model X.prog X.w) X.A (subscriptTail e (.Slice lo hi (some ke) p2) v (.ref s4.heap.objs.size)) (EP X pins σ Q) X.xe {s4 with heap:=s4.heap.push {cls:= .type "slice",data:= .fields #[vl,vu,vk]}};exact SR (ops:=[v,.ref s4.heap.objs.size]) ht hT hg (by with_unfolding_all rfl)
def rSt(K:Frag):V->Option Int->Option Int->Int->Hp->VK->Prop:=λx lo hi st H Q=>(∃a xs,x= .ref a/\SqL K H a xs/\st≠0/\(bq xs lo hi st).length<=sizeLine/\∀p,H p=none->Q (.ref p) (upd H p (.lst (bq xs lo hi st)))) \/
 (∃a xs,x= .ref a/\SqT K H a xs/\st≠0/\st≠1/\(stepT xs lo hi st).length<=sizeLine/\∀p,H p=none->Q (.ref p) (upd H p (.tup (stepT xs lo hi st))))
theorem uA(K:Frag)(hK:X.K=K:=by rfl):Sl3 X (rSt K):=by
 subst hK;intro pins s σ H x v vl vu vk lo hi st sl Q I rx hs pl pu pk h;rcases h with⟨a,xs,rfl,hx,h0,hl,q⟩|⟨a,xs,rfl,hx,h0,h1,hl,q⟩
 .cases rx;obtain⟨its,r,ht,hz⟩:=I.list hx;have hlen:=r.length;refine⟨"list",_,slot_list_getitem.lookup,ht.isList.typeIs,?_⟩;refine Pe ht.isList hs pl pu pk (λz=>h0 (Mq z)) ?_ (by rw[Ly]<;>omega);rw[Fz];refine⟨.ref s.heap.objs.size,_,I.laid (t':=s.toks) (o:= .lst (bq xs lo hi st)) (λb ob q=>L5 _ q) (Lx _) ?_,rfl,q _ (I.hok.fresh (Lx _))⟩;have rv:Vals (bq xs lo hi st) (bq its lo hi st):=by
   unfold bq;rw[r.length];exact r.pick _
  exact⟨hl,_,0,rv,LC _ rfl⟩
 .cases rx;obtain⟨its,r,ht,hz⟩:=I.tuple hx;have rv:=r.stepT lo hi st;refine⟨"tuple",_,MF.lookup,ht.typeIs,?_⟩;refine FB ht hs pl pu pk h0 h1 ?_ (by simpa [<- rv.length] using hl);refine⟨.ref s.heap.objs.size,_,I.laid (t':=s.toks) (o:= .tup (stepT xs lo hi st)) (λb ob q=>L5 _ q) (Lx _) ?_,rfl,q _ (I.hok.fresh (Lx _))⟩;exact⟨hl,_,rv,IsTup.new _ _⟩
theorem uB{r:V->Option Int->Option Int->Int->Hp->VK->Prop}(hr:Sl3 X r)(he:WE X e te)(hl:WO X lo tl)(hu:WO X hi th)(hk:WO X (some ke) tk):WE X (.Subscript e (.Slice lo hi (some ke) p2) pos) (nu r te tl th tk):=⟨FC hr he.out hl.out hu.out hk.out⟩
end
def dSt:D->Option Int->Option Int->Int->Mu->DK->Prop:=λd lo hi st μ Q=>match d with
 | .tup ds=>(st≠0/\st≠1/\(stepT ds lo hi st).length<=sizeLine)/\Q (.tup (stepT ds lo hi st)) μ
 |d=>match af μ d with
  |some ds=>(st≠0/\(bq ds lo hi st).length<=sizeLine)/\Q (.lst (bq ds lo hi st)) μ
  |none=>False
def iZ(we:DE)(wl wh wk:DO):DE:=λρ μ Q=>we ρ μ λd μ1=>wl ρ μ1 λl μ2=>wh ρ μ2 λu μ3=>wk ρ μ3 λk μ4=>ai k λst=>dSt d l u st μ4 Q
instance{tk:TO}{wl wh wk:DO}[a:zR K fl te we][b:fO K fl tl wl][c:fO K fl th wh][c2:fO K fl tk wk]:zR K fl (nu (rSt K) te tl th tk) (iZ we wl wh wk):=⟨λr e h k =>
 a.run r e h λW1 d μ1 x H1 le1 r1 q1 h1=>b.run r1 (e.mono le1) h1 λW2 l μ2 H2 le2 r2 h2=>c.run r2 (e.mono (le1.trans le2)) h2 λW3 u μ3 H3 le3 r3 h3=>c2.run r3 (e.mono (le1.trans (le2.trans le3))) h3 λW4 kk μ4 H4 le4 r4 h4=>by
  obtain⟨st,rfl,h4⟩:=dJ h4;refine⟨st,rfl,?_⟩;have q4:=q1.mono (le2.trans (le3.trans le4));have fin:∀xs ds,zx K W4 ds xs->st≠0/\(bq ds l u st).length<=sizeLine->∀Q,(_:Q (D.lst (bq ds l u st)) μ4)->∀Q',KV' K fl _ Q Q'->∀p,H4 p=none->Q' (.ref p) (upd H4 p (.lst (bq xs l u st))):=λxs ds z hz Q hq Q' kk p hp=>by
   obtain⟨r5,le5⟩:=r4.newF (o:= .lst (bq xs l u st)) hp;exact kk _ _ _ _ _ (le1.trans (le2.trans (le3.trans (le4.trans le5)))) r5 (.lst zA ((z.bq l u st).mono le5)) hq
  unfold dSt at h4;split at h4
  .rename_i ds;obtain⟨⟨h0,h1',hl⟩,hq⟩:=h4;obtain⟨p,xs,rfl,s1,z1⟩:=q4.tup';have z2:=z1.stepT l u st;refine .inr ⟨p,xs,rfl,s1.sm r4.sub,h0,h1',by rw[z2.length];exact hl,λp' hp=>?_⟩;obtain⟨r5,le5⟩:=r4.newF (o:= .tup (stepT xs l u st)) hp;exact k _ _ _ _ _ (le1.trans (le2.trans (le3.trans (le4.trans le5)))) r5 (.tup (SqT.of zA) (z2.mono le5)) hq
  .cases hd:af μ4 d with
   |none=>rw[hd] at h4;exact h4.elim
   |some ds =>
    rw[hd] at h4;obtain⟨hz,hq⟩:=h4;obtain⟨p,xs,rfl,s1,z1⟩:=cQ r4 q4 hd;refine .inl ⟨p,xs,rfl,SqL.of s1,hz.1,by rw[(z1.bq l u st).length];exact hz.2,λp' hp=>fin xs ds z1 hz _ hq _ k p' hp⟩⟩
section
variable{k:Nat}(K:Frag)
end
theorem nv{g:DG}{Fin:List D->Mu->Prop}(xs:List α)(f:α->D)(hl:xs.length<=1000)(step:∀x∈xs,∀Q:DK,Q (.bl true) μ->g (f x) ρb μ λρ2 μ2=>we ρ2 μ2 Q)(fin:∀bs:List Bool,bs.all id=true->Fin (bs.map D.bl) μ)(hP:Pm μ):bO g aD we ρb Pm Fin (xs.map f) [] μ:=by
 have hz:(1000:Nat)<=sizeLine:=by decide
 refine ez (λi ys μ'=>μ'=μ/\ys=(LF i true).map D.bl) ⟨rfl,rfl⟩ ?_ ?_ (λi ys μ' h=>h.1▸hP)
 .rintro i d ys μ' hd ⟨rfl,rfl⟩;rw[L4] at hd;cases hx:xs[i]? with
  |none=>rw[hx] at hd;cases hd
  |some x =>
   rw[hx] at hd;cases hd;have hi:=(L7.mp hx).1;refine⟨by rw[L0,NF];omega,λN hN=>step x (LA hx) (λv μ4=>N _ μ4) (hN _ _ ⟨rfl,?_⟩)⟩;rw[Q4,LM];rfl
 .rintro ys μ' ⟨rfl,rfl⟩;exact fin _ (by simp)
section
variable{k:Nat}{ds:List Value}{dvs:List V}{E:XK}
end
section
variable{s:Shared}
theorem uC{it l:Addr}{its:Array Value}(hne:l≠it):∀(n i:Nat) (s:Shared) (Q:List Value->Shared->Prop),s.heap.IsListIter it l i->s.heap.IsList l its->i+n<=its.size ->
  (∀h',h'.IsListIter it l (i+n)->MY it s.heap h'->Q ((its.toList.drop i).take n) {s with heap:=h'})->wpAny (model prog w) A (draw (.ref it) n) Q E s
 |0,i,s,Q,hi,_,_,hq=>by
  show wpAny _ _ (pure []) Q E s;exact L9 (by simpa using hq s.heap hi (QN ..))
 |n+1,i,s,Q,hi,hl,hle,hq=>by
  have hlt:i < its.size:=by omega
  show wpAny _ _ (pyNext (.ref it) >>= _) Q E s;refine L1 (Pw hi hl (x:=its[i]) (by simp[hlt]) λh1 hi1 sb1=>L1 (Mn (uC (its:=its) hne n (i+1) _ _ hi1 ?_ (by omega) λh2 hi2 sb2=>L9 ?_)))
  .obtain⟨o,e,r⟩:=hl;exact⟨o,sb1.extBut l o hne e,r⟩
  have hd:its.toList.drop i=its[i]::its.toList.drop (i+1):=by simp[Mt,hlt]
  have z:=hq h2 (by rw[show i+(n+1)=i+1+n by omega];exact hi2) (sb1.trans sb2);rw[hd,List.take_succ_cons] at z;exact z
theorem FD{its:Array Value}{Q:List Value->Shared->Prop}(hh:A.handled=none)(hl:s.heap.IsList l its)
  (hq:∀h',Q5 s.heap.objs.size s.heap h'->Q its.toList {s with heap:=h'}):wpAny (model prog w) A (unpackItems (.ref l) its.size none) Q E s:=by
 have hlt:l≠s.heap.objs.size:=by obtain⟨o,ho,_⟩:=hl;exact LJ (LB ho)
 have hl1:(s.heap.push {cls:= .type "list_iterator",data:= .fields #[.ref l,.int 0 0]}).IsList l its:=by obtain⟨o,e,r⟩:=hl;exact⟨o,L5 _ e,r⟩
 unfold unpackItems;refine L1 ?_;unfold notIterableAtAll;refine L1 (Rz hl.typeIs PySem.F.slot_list_iter.lookup (L9 ?_));simp only[Mr,if_false];refine L1 (Mn (Pa hl (L1 (Mn (uC hlt its.size 0 _ _ ⟨_,LC _ rfl,rfl,rfl⟩ hl1 (by omega) λh1 hi1 sb1=>?_)))));rw[show Sv its.size (List.drop 0 its.toList)=its.toList by rw[RG];exact MC (by simp),if_neg (by simp)];have hl2:h1.IsList l its:=by obtain⟨o,e,r⟩:=hl1;exact⟨o,sb1.extBut l o hlt e,r⟩
 refine L1 (Mn (PX hh hi1 hl2 (by simp) λh2 he2=>?_));simp only[Option.isSome_none,Mr,if_false];refine L9 (hq h2 λb o hb e=>he2 b o hb (sb1.extBut b o hb (L5 _ e)))
theorem FE{x1}{its:Array Value}{Q:Unit->Shared->Prop}(hh:A.handled=none)(hl:s.heap.IsList l its)
  (hn:(assignEach es env).length=its.size)(hst:(assignEach es env).findIdx? (·.1)=none)
  (h:∀h',Q5 s.heap.objs.size s.heap h'->wpAny (model prog w) A (assignInOrder ((assignEach es env).map (·.2)) its.toList) Q E {s with heap:=h'}) :
  wpAny (model prog w) A (assign (.Tuple es x1 pos) env (.ref l)) Q E s:=by
 rw[assign_Tuple];refine L1 (Ni ?_);unfold unpack;rw[hn,hst];exact L1 (Mn (FD hh hl h))
end
def gSq(K:Frag)(n:Nat)(t:TGs):TG:=λv σ H Q=>∃a xs,v= .ref a/\(SqT K H a xs\/SqL K H a xs)/\xs.length=n/\t xs σ H Q
theorem FF{k:Nat}{n:Nat}(hc:X.calm=true)(hg:WGs X es gs)(hK:X.K=K:=by rfl)(hn:(assignEach es X.env).length=n:=by rfl)(hst:(assignEach es X.env).findIdx? (·.1)=none:=by rfl):WG X (.Tuple es k pos) (gSq K n gs):=⟨by
 subst hK;intro pins s σ H v u Q I r hw;obtain⟨a,xs,e1,hq,hl,hw⟩:=hw;rcases hq with hq|hq
 .exact pP hc hg.out hn hst pins s σ H v u Q I r ⟨a,xs,e1,hq,hl,hw⟩
 .subst e1;cases r;obtain⟨its,rv,ht,hz⟩:=I.list hq;refine FE (I.ok.hd hc) ht.isList (by simp[hn,<- hl,rv.length]) hst λh' hx=>?_
  have I1:Inv X pins σ H {s with heap:=h'}:=I.kept (t':=s.toks) λb o e=>hx b o (LJ (LB e)) e
  exact hg.out pins _ σ H xs _ Q I1 (by simpa using rv) hw⟩
def nw(n:Nat)(gs:DGs):DG:=λd ρ μ Q=>ai (aZ μ d) λds=>ds.length=n/\gs ds ρ μ Q
instance{n:Nat}[b:iD K fl gs dgs S]:cN K fl (gSq K n gs) (nw n dgs) S:=⟨λ{W ρ μ σ H d x Q Q'} r e q h k=>by
 obtain⟨ds,hd,hl,h⟩:=dJ h;obtain⟨a,xs,rfl,hs,z⟩:=fR r q hd;exact⟨a,xs,rfl,hs.symm,by rw[z.length];exact hl,b.run r e z h k⟩⟩
theorem FG{n:Nat}{gs:DGs}{ds:List D}{R:ad->Mu->Prop}:nw n gs (.lst ds) ρ μ R=(ds.length=n/\gs ds ρ μ R):=rfl
section
variable{s:Shared}{v:V}{u r:Value}
theorem FH{Q:Unit->Shared->Prop}(hu:A.units+1 < cLine)(I:Inv X pins σ H s)(g:eO H a y v H')(ry:RelV y u)(rv:RelV v r)(h:∀s',Inv X pins σ H' s'->Q () s') :
  wpAny (model X.prog X.w) A (dictSet a u r) Q E s:=by
 rcases g with⟨kvs,k,e,ey,l,eH⟩|⟨kvs,k,b,e,ey,eb,l,eH⟩
 .subst ey eH;obtain⟨z,hd,vs,rel,dd⟩:=qN I.hok e;have hz:vs.length<=sizeLine:=by rw[<- rel.length];exact z
  have hl:(putK kvs k v).length<=sizeLine:=by have:=jB kvs k v;omega
  refine wpAny_dictSet_pairs (hsz:=hz) (fA ry) dd λh' dd' hs=>h _ ?_
  have he:∃q,h'.get? a=some q:=let ⟨q,_,_,hq,_⟩:=dd';⟨q,hq⟩;exact jC I (by rw[e];exact True.intro) hs he (qP hl hd (rel.put k rv) dd')
 .subst ey eH;cases (show u=M4 b from ry);obtain⟨z,hd,xs,rel,dd⟩:=qO I.hok e;have hz:xs.length<=sizeLine:=by rw[<- Paired.length rel];exact z
  have hl:(putK kvs k v).length<=sizeLine:=by have:=jB kvs k v;omega
  refine wpAny_dictSet_heap (hsz:=hz) (show(tupleKind (bH X.prog X.w)).room A from Nat.lt_of_succ_lt hu) (fB I.hok eb) dd λh' dd' hs=>h _ ?_
  obtain⟨q,es,ep,hq,h2,h3,h4,_,h5⟩:=dd';refine jC I (by rw[e];exact True.intro) hs ⟨q,hq⟩ ⟨hl,hd,_,(rel.put k eb rv).keeps λc ys ec=>?_,q,es,ep,hq,h2,h3,h4,h5⟩;rw[zE (pK ec e (λz=>nomatch z))];exact ec
end
theorem FI{R:Result->Shared->Prop}{s:Shared}{target:Expr}{it:Value}{D:Addr}(I:Nat->Shared->Prop)
  (turn:∀n s,I n s->wpAny (model prog w) A (pyNext it) (λr s₁=>match r with
   |none=>R (.ok .next) s₁
   |some v=>wpAny (model prog w) A (letOwnedTupleGo target it v) (λ_ s₁'=>wpAny (model prog w) A (assign target env v) (λ_ s₂ =>
     wpAny (model prog w) A (forIn ifs true λc r=>if r=true then do let ok<-isTrue c env (eval c env);pure (ForInStep.yield ok) else pure (ForInStep.yield r)) (λok s₃ =>
      if ok=true then wpAny (model prog w) A (eval kx env) (λkv s₄=>wpAny (model prog w) A (eval vx env) (λvv s₅ =>
       wpAny (model prog w) A (dictSet D kv vv) (λ_ s₆=>∃m,m < n/\I m s₆) (notedBy (model prog w) A env λe s'=>R (.error e) s') s₅) (notedBy (model prog w) A env λe s'=>R (.error e) s') s₄) (notedBy (model prog w) A env λe s'=>R (.error e) s') s₃
      else ∃m,m < n/\I m s₃) (notedBy (model prog w) A env λe s'=>R (.error e) s') s₂) (notedBy (model prog w) A env λe s'=>R (.error e) s') s₁') (notedBy (model prog w) A env λe s'=>R (.error e) s') s₁) (notedBy (model prog w) A env λe s'=>R (.error e) s') s)
  (n:Nat) (h:I n s) :
  codeAny (model prog w) A (.compLoop (.DictComp kx vx [⟨target,iter,ifs,0⟩] scope pos) 0 it (.ref D) env) R s:=by
 refine QZ rfl I (λn s hI=>?_) n h;show wpAny _ A ((compTurn (.DictComp kx vx [⟨target,iter,ifs,0⟩] scope pos) 0 it (.ref D) env).onRaise (λx=>do noteFrame x env;theTreesLotGoes x)) _ _ s;refine Rr ?_;rw[compTurn_dict];refine L1 (Ni (L1 (M0 (turn n s hI) (λr s₁ h₁=>?_) λ_ _ z=>z)));cases r with
 |none=>exact L9 h₁
 |some v =>
  refine L1 (M0 h₁ (λ_ s₁' h₁'=>?_) λ_ _ z=>z);refine L1 (M0 h₁' (λ_ s₂ h₂=>L1 (M0 h₂ (λok s₃ h₃=>?_) λ_ _ z=>z)) λ_ _ z=>z);cases ok with
  |false=>exact L9 ⟨rfl,h₃⟩
  |true =>
   refine L1 (L1 (M0 h₃ (λkv s₄ h₄=>?_) λ_ _ z=>z));refine L1 (Mn (M0 h₄ (λvv s₅ h₅=>L1 (Ni (Mn (M0 h₅ (λ_ s₆ h₆=>L9 ⟨rfl,h₆⟩) λ_ _ z=>z)))) λ_ _ z=>z))
section
variable{own free:List Str}
def uD(D:Addr)(J:It)(g:TG)(tc:TT)(tk tv:TE)(σb:St)(Fin:Hp->Prop)(W:Nat->Nat->Hp->Prop):Prop :=
 ∀i m H,W i m H->(J.stop i H/\Fin H)\/(J.go i H/\∃N:Hp->Prop,(∀H',N H'->∃m',m' < m/\W (i+1) m' H')/\∀x H',J.yld i H x H'->g x σb H' λσ2 H3=>Sub σb σ2/\tc σ2 H3 λb H4 =>
  if b=true then tk σ2 H4 λk H5=>tv σ2 H5 λv H6=>∃H7,eO H6 D k v H7/\N H7 else N H4)
theorem FJ{tk:TE}
  {RR:Value->Addr->Result->Shared->Prop}{Fin:Addr->Hp->Prop}
  (S:b9 X scope)(hc:X.calm=true)(hu:X.A.units+1 < cLine)(hfr:fr.map (λj=>X.N[j]?)=free.map some)(hff:∀x∈free,scope.names.lookup x=some .free)
  (hg:∀C s H ex,PG (zy X (own++free) scope C s H ex) tg g)(ht:∀C s H ex,PTs (zy X (own++free) scope C s H ex) ifs tc)(hk:∀C s H ex,PE (zy X (own++free) scope C s H ex) kx tk)(hv:∀C s H ex,PE (zy X (own++free) scope C s H ex) vx tv)
  (I2:Inv X pins σ H2 s2)(T:Turn X.prog X.w X.K tg J fp it tn)(st2:tn 0 s2.heap)(f2:∀b∈fp,bu X pins H2 b)(ho0:o0= .dK []\/o0= .dT [])
  (turns:∀D,H2 D=none->∃W:Nat->Nat->Hp->Prop,(∃m,W 0 m (upd H2 D o0))/\uD D J g tc tk tv (own.map (λ_=>none)++bx σ fr) (Fin D) W)
  (hRR:∀D C H' s1 s',Inv X pins σ (upd H2 D o0) s1->(∀b∈fp,bu X pins (upd H2 D o0) b)->Inv (zy X (own++free) scope C s1 (upd H2 D o0) fp) [] (own.map (λ_=>none)++bx σ fr) H' s'->Fin D H'->RR (.ref D) C (.ok .next) s') :
  wpAny (model X.prog X.w) X.A newDict (λacc s₃=>wpAny (model X.prog X.w) X.A (newFunctionEnv scope X.env.globals (aT X.env scope.names []) [] X.env.qual none .none (some X.env)) (λcenv s₄ =>
   codeAny (model X.prog X.w) X.A (.compStart (.DictComp kx vx [⟨tg,iter,ifs,0⟩] scope pos) 0 (.ref it) acc {cenv with scope:=relabel scope X.env}) (RR acc cenv.locals) s₄) E s₃) E s2:=by
 refine Mx (mr ?_);have hob:∀b∈fp,∃o,s2.heap.get? b=some o:=λb hb=>by obtain⟨o,e,_⟩:=T.obj _ _ st2 b hb;exact⟨o,e⟩
 have fplt:∀b∈fp,b < s2.heap.objs.size:=λb hb=>by obtain⟨o,e⟩:=hob b hb;exact LB e
 have hsys:sysModules < s2.heap.objs.size:=I2.big;generalize hs3:({s2 with heap:=s2.heap.push {cls:= .type "dict",dict:=none,data:= .dict #[]}}:Shared)=s3
 have hh3:s3.heap=s2.heap.push {cls:= .type "dict",dict:=none,data:= .dict #[]}:=by rw[<- hs3]
 have keep3:∀b o,s2.heap.get? b=some o->s3.heap.get? b=some o:=λb o e=>by rw[hh3];exact L5 _ e
 have hf:H2 s2.heap.objs.size=none:=I2.hok.fresh (Lx _);have I3:Inv X pins σ (upd H2 s2.heap.objs.size o0) s3:=by
  rw[<- hs3];refine I2.laid (t':=s2.toks) (o:=o0) (λb o e=>L5 _ e) (Lx _) ?_;rcases ho0 with rfl|rfl
  .exact qQ _ hsys
  .exact Ce _ hsys
 have f3:∀b∈fp,bu X pins (upd H2 s2.heap.objs.size o0) b:=λb hb=>by
  obtain⟨a1,a2⟩:=f2 b hb;exact⟨by rw[zE (LJ (fplt b hb))];exact a1,a2⟩
 have hob3:∀b∈fp,∃o,s3.heap.get? b=some o:=λb hb=>by obtain⟨o,e⟩:=hob b hb;exact⟨o,keep3 b o e⟩
 have st3:tn 0 s3.heap:=T.keep _ _ _ st2 λb hb o e=>keep3 b o e
 obtain⟨W,⟨m0,w0⟩,turn⟩:=turns s2.heap.objs.size hf;have hDlt:s2.heap.objs.size < s3.heap.objs.size:=by rw[hh3,MU];exact No _
 generalize hDD:s2.heap.objs.size=D at *
 generalize hHH:upd H2 D o0=H3 at *
 have I4:=mv (own:=own) (ex:=fp) (s3:=s3) S I3 f3 hob3 hfr hff (λ_ _ e=>e) (Lx _) rfl rfl;generalize hs4:({s3 with heap:=pushCells (s3.heap.push {cls:= .type "dict",data:= .dict #[]}) scope.names}:Shared)=s4 at I4
 have keep4:∀b o,s3.heap.get? b=some o->s4.heap.get? b=some o:=λb o e=>by rw[<- hs4];exact O6 _ _ b o (L5 _ e)
 have fpOk:∀{σ' H' s'},Inv (zy X (own++free) scope s3.heap.objs.size s3 H3 fp) [] σ' H' s'->(∀b∈fp,H' b=none)->∀b∈fp,bu (zy X (own++free) scope s3.heap.objs.size s3 H3 fp) [] H' b:=λ{σ' H' s'} I hn b hb =>
  ⟨hn b hb,(I.ok.exf b hb).1,I.ok.exfs b hb,.inl hb,(I.ok.exf b hb).2,λp hp=>absurd hp (by simp[zy])⟩
 have stn4:tn 0 s4.heap:=T.keep _ _ _ st3 λb hb o e=>keep4 b o e
 have loop:∀s',s'=s4->codeAny (model X.prog X.w) X.A (.compLoop (.DictComp kx vx [⟨tg,iter,ifs,0⟩] scope pos) 0 (.ref it) (.ref D) (c5 scope s3.heap.objs.size X.env)) (RR (.ref D) s3.heap.objs.size) s':=by
  rintro s' rfl;refine FI (λk s'=>∃i H',Inv (zy X (own++free) scope s3.heap.objs.size s3 H3 fp) [] (own.map (λ_=>none)++bx σ fr) H' s'/\tn i s'.heap/\(∀b∈fp,H' b=none)/\W i k H') ?_ m0 ⟨0,H3,I4,stn4,λb hb=>(f3 b hb).1,w0⟩;rintro k s5 ⟨i,H5,I5,st5,fr5,w5⟩;rcases turn i k H5 w5 with⟨stop,fin⟩|⟨go,N,hN,step⟩
  .refine M0 (T.done (zy X (own++free) scope s3.heap.objs.size s3 H3 fp) rfl rfl rfl hc i _ s5 _ H5 (λ_ _=>False) I5 (fpOk I5 fr5) st5 stop) (λr s6 ⟨hr,I6⟩=>?_) λ_ _ f=>f.elim
   subst hr;exact hRR D _ H5 s3 s6 (by rw[hHH];exact I3) (by rw[hHH];exact f3) (by rw[hHH];exact I6) fin
  .refine M0 (T.item (zy X (own++free) scope s3.heap.objs.size s3 H3 fp) rfl rfl rfl hc i _ s5 _ H5 (λ_ _=>False) I5 (fpOk I5 fr5) st5 go) (λr s6 ⟨u,hr,h6⟩=>?_) λ_ _ f=>f.elim
   subst hr;refine M0 h6 (λ_ s7 ⟨x,H7,I7,r7,y7,st7,fr7⟩=>?_) λ_ _ f=>f.elim
   have I7':=I7.pinned (fpOk I7 fr7) (T.obj _ _ st7);refine M0 (hg _ _ _ _ _ s7 _ H7 x u _ I7' r7 (step x H7 y7)) (λ_ s8 ⟨σ8,H8,I8,sub8,q8⟩=>?_) λ_ _ f=>f.elim
   refine M0 (ht _ _ _ _ _ s8 σ8 H8 _ I8 q8) (λb s9 ⟨H9,I9,q9⟩=>?_) λ_ _ f=>f.elim
   have back:∀{H' s'},Inv (zy X (own++free) scope s3.heap.objs.size s3 H3 fp) ([]++cV fp s7.heap) σ8 H' s'->tn (i+1) s'.heap/\(∀b∈fp,H' b=none):=λ{H' s'} I=>by
    refine⟨T.keep _ _ _ st7 λb hb o e=>(I.pin (b,o) (L8 _ (L8 _ (eM hb e)))).1,λb hb=>?_⟩;obtain⟨o,e,d⟩:=T.obj _ _ st7 b hb;exact(I.pin (b,o) (L8 _ (L8 _ (eM hb e)))).2.1
   cases b with
   |false =>
    obtain⟨m',hm,w9⟩:=hN _ q9;obtain⟨st9,fr9⟩:=back I9;exact⟨m',hm,i+1,H9,I9.unpinned.weak sub8.1 sub8.2,st9,fr9,w9⟩
   |true =>
    refine M0 (hk _ _ _ _ _ s9 σ8 H9 _ I9 q9) (λkv s10 ⟨y,H10,I10,r10,q10⟩=>?_) λ_ _ f=>f.elim
    refine M0 (hv _ _ _ _ _ s10 σ8 H10 _ I10 q10) (λvv s11 ⟨z,H11,I11,r11,H12,put,q11⟩=>?_) λ_ _ f=>f.elim
    refine FH (X:=zy X (own++free) scope s3.heap.objs.size s3 H3 fp) hu I11 put r10 r11 λs12 I12=>?_
    obtain⟨m',hm,w12⟩:=hN _ q11;obtain⟨st12,fr12⟩:=back I12;exact⟨m',hm,i+1,H12,I12.unpinned.weak sub8.1 sub8.2,st12,fr12,w12⟩
 exact codeAny_compStart_dict (loop _ rfl) (T.self X.A 0 _ _ _ stn4 (loop _ rfl))
theorem FK{σ':St}{s':Shared}{h'':Heap}
  (I2:Inv X pins σ H2 s2)(f2:∀b∈fp,bu X pins H2 b)(I:Inv (zy X N scope C s2 H2 fp) [] σ' H' s')(hs:MY C s'.heap h'') :
  Inv X pins σ H' {s' with heap:=h''}:=by
 have hCs:s2.heap.objs.size<=C:=I.ok.above;have u:Un (frs X.stack) fp H2 H' s2.heap s'.heap:=I.base;have lt2:∀b o,s2.heap.get? b=some o->b≠C:=λb o e=>LJ (LS (LB e) hCs)
 have hC':∀b o,H' b=some o->b≠C:=λb o e z=>by
  have:=I.free;rw[show(zy X N scope C s2 H2 fp).env.locals=C from rfl,<- z,e] at this;cases this
 have hok1:HOk X.prog X.w H' h'':=λa o e=>(I.hok a o e).stay (λb ob hb eb=>by
   rcases hb with hb|hb
   .rw[hb];rw[hb] at eb;exact hs.extBut _ _ (hC' a o e) eb
   .exact hs.extBut _ _ (hC' b _ hb) eb) (λ_ h=>h) (λ_ _ h=>h)
 have u2:Un (frs X.stack) fp H2 H' s2.heap h'' :=
  {keep:=λb o e hn hf hx=>hs.extBut b o (lt2 b o e) (u.keep b o e hn hf hx)
   slot:=λb o e hn hf hx=>by
    obtain⟨sl,q⟩:=u.slot b o e hn hf hx;exact⟨sl,hs.extBut b _ (lt2 b o e) q⟩
   free:=λb o e hn hx=>u.free b o e hn hx
   there:=λb o e hx=>by
    obtain⟨o',q⟩:=u.there b o e hx;exact⟨o',hs.extBut b _ (lt2 b o e) q⟩
   tups:=u.tups
   frzs:=u.frzs
   tbls:=u.tbls}
 refine I2.call' (s':={s' with heap:=h''}) (ch:=fp) I.os u2 hok1 I.bare λb hb=>?_
 have q:=f2 b hb;exact⟨q.2.2.2.1,q.2.1,q.2.2.2.2.1,q.2.2.2.2.2⟩
def ny(o0:HO)(own:List Str)(fr:List Nat)(wi:TI)(g:TG)(tc:TT)(tk tv:TE):TE:=λσ H Q=>wi σ H λJ H1=>∀D,H1 D=none->∃W:Nat->Nat->Hp->Prop,(∃m,W 0 m (upd H1 D o0)) /\
 uD D J g tc tk tv (own.map (λ_=>none)++bx σ fr) (λH'=>Q (.ref D) H') W
theorem FL{tk:TE}(own free:List Str)(fr:List Nat)(ho0:o0= .dK []\/o0= .dT [])(hu:X.A.units+1 < cLine)(S:b9 X scope)(hc:X.calm=true)(hfr:fr.map (λj=>X.N[j]?)=free.map some)(hff:∀x∈free,scope.names.lookup x=some .free)
  (hi:PI X tg iter wi)
  (hg:∀C s H ex,PG (zy X (own++free) scope C s H ex) tg g)(ht:∀C s H ex,PTs (zy X (own++free) scope C s H ex) ifs tc)(hk:∀C s H ex,PE (zy X (own++free) scope C s H ex) kx tk)(hv:∀C s H ex,PE (zy X (own++free) scope C s H ex) vx tv)
  (hs:∀x,foldedSetIterable iter X.env x=pure x:=by intro _;rfl) :
  PE X (.DictComp kx vx [⟨tg,iter,ifs,0⟩] scope pos) (ny o0 own fr wi g tc tk tv):=by
 intro pins s σ H Q I h;have hcl:closureFor scope X.env=pure (aT X.env scope.names []):=jE λx hx e=>by
  obtain⟨c,hc⟩:=I.ok.has x.1 (S.free x hx e);rw[hc];rfl
 rw[arm_eval_DictComp];refine NO (use:=none) rfl hs hcl S.kind (λx hx e=>by have:=jG S.nd (show(x.1,x.2)∈scope.names from hx);rw[this,e]) (thn (hi pins s σ H _ I h) λv s1 h1=>thn h1 λitv s2 h2=>?_);obtain⟨it,fp,tn,J,H2,e,I2,T,st2,f2,turns⟩:=h2;subst e;refine FJ (Fin:=λD H'=>Q (.ref D) H') (RR:=λacc C=>compPost (model X.prog X.w) X.A X.xe none (EP X pins σ Q) acc C) S hc hu hfr hff hg ht hk hv I2 T st2 f2 ho0 turns ?_;intro D C H' s3 s' I3 f3 I' fin;obtain⟨m,hm,_⟩:=I'.loc;refine⟨m,hm,λh'' hsb=>?_⟩;exact⟨.ref D,_,FK I3 f3 I' hsb,rfl,fin⟩
end
section
variable{tk:TE}
theorem FM(own free:List Str)(fr:List Nat)(ho0:o0= .dK []\/o0= .dT [])(hu:X.A.units+1 < cLine)(S:b9 X scope)(hc:X.calm=true)(hfr:fr.map (λj=>X.N[j]?)=free.map some)(hff:∀x∈free,scope.names.lookup x=some .free)
  (hi:WI X tg iter wi)(hg:∀C s H ex,WG (zy X (own++free) scope C s H ex) tg g)(ht:∀C s H ex,WTs (zy X (own++free) scope C s H ex) ifs tc)(hk:∀C s H ex,WE (zy X (own++free) scope C s H ex) kx tk)(hv:∀C s H ex,WE (zy X (own++free) scope C s H ex) vx tv)
  (hs:∀x,foldedSetIterable iter X.env x=pure x:=by intro _;rfl):WE X (.DictComp kx vx [⟨tg,iter,ifs,0⟩] scope pos) (ny o0 own fr wi g tc tk tv):=⟨FL own free fr ho0 hu S hc hfr hff hi.out (λC s H ex=>(hg C s H ex).out) (λC s H ex=>(ht C s H ex).out) (λC s H ex=>(hk C s H ex).out) (λC s H ex=>(hv C s H ex).out) hs⟩
end
def f_(c:Nat)(g:DG)(wc:DT)(wk wv:DE)(ρb:ad)(Pm:Mu->Prop)(Fin:Mu->Prop):List D->Mu->Prop
 | [],μ=>Pm μ/\Fin μ
 |d::r,μ=>Pm μ/\g d ρb μ λρ2 μ2=>wc ρ2 μ2 λb μ3=>if b=true then wk ρ2 μ3 λk μ4=>wv ρ2 μ4 λv μ5=>eB (μ5 c) λks vs=>ai (da k) λkk=>ks.length<=1000/\f_ c g wc wk wv ρb Pm Fin r (zO μ5 c (.dct (dH ks kk) (eA ks vs kk v))) else f_ c g wc wk wv ρb Pm Fin r μ3
def nz(own:List Str)(fr:List Nat)(S:List Nat)(wi:DI)(g:DG)(wc:DT)(wk wv:DE):DE:=λρ μ Q=>(S.all λi=>decide (i < own.length))=true/\wi ρ μ λds Pm μ1=>∀c,μ1 c=none ->
 f_ c g wc wk wv (LF own.length none++cO ρ fr) Pm (λμ2=>Q (.cell c) μ2) ds (zO μ1 c (.dct [] []))
section
variable{tk:TE}{wk:DE}
instance{own:List Str}[a:dA K fl wi di][b:cN K fl g dg S][c:bE K fl tc wc][v1:zR K fl tk wk][v2:zR K fl tv wv]:zR K fl (ny (.dK []) own fr wi g tc tk tv) (nz own fr S di dg wc wk wv):=⟨λ{W ρ μ σ H Q Q'} r e h k =>
 a.run r e h.2 λW0 J ds Pm μ1 H1 le0 r0 it0 h1 D hD=>by
  have hz:(1001:Nat)<=sizeLine:=by decide
  obtain⟨cc,W1,hcc,le01,r1,eb⟩:=r0.newC (o:= .dK []) (c:= .dct [] []) hD ⟨[],rfl,rfl,.nil⟩;have le1:=le0.trans le01;have e1:am K W1 ρ σ:=e.mono le1;have hS:=h.1;refine⟨λi m H=>∃W2 μ2,W1.le W2/\Rel K fl W2 μ2 H/\m=ds.length - i/\f_ cc dg wc wk wv (LF own.length none++cO ρ fr) Pm (λμ2=>Q (.cell cc) μ2) (ds.drop i) μ2,⟨_,W1,_,.refl _,r1,rfl,h1 cc hcc⟩,?_⟩;rintro i m H2 ⟨W2,μ2,le2,r2,rfl,h2⟩;have hPm:Pm μ2:=by
   cases hdr:ds.drop i with
   |nil=>rw[hdr] at h2;exact h2.1
   |cons _ _=>rw[hdr] at h2;exact h2.1
  obtain⟨go,stop⟩:=it0 W2 μ2 H2 (le01.trans le2) r2 hPm i;by_cases hi:i < ds.length
  .refine .inr ?_;have hd:ds[i]? = some ds[i]:=L3 hi;obtain⟨g1,g2⟩:=go _ hd;rw[Mt hi] at h2;obtain⟨_,h2⟩:=h2;refine⟨g1,λH'=>∃W3 μ3,W1.le W3/\Rel K fl W3 μ3 H'/\f_ cc dg wc wk wv (LF own.length none++cO ρ fr) Pm (λμ2=>Q (.cell cc) μ2) (ds.drop (i+1)) μ3,λH' ⟨W3,μ3,l3,r3,h3⟩=>⟨ds.length - (i+1),by omega,W3,μ3,l3,r3,rfl,h3⟩,λx H' y=>?_⟩;obtain⟨W3,le3,r3,q3⟩:=g2 x H' y;refine b.run r3 (((e1.comp own fr).mono le2).mono le3) q3 h2 λW4 ρ4 μ4 σ4 H4 le4 r4 e4 l4 s4 h4=>⟨⟨l4.symm,λj v hj=>?_⟩,?_⟩
   .by_cases hjS:j∈S
    .have:j < own.length:=of_decide_eq_true (Mp.mp hS j hjS);rw[Me (by simp;exact this),L4,L3 this] at hj;cases hj
    .rw[s4 j hjS];exact hj
   .refine c.run r4 e4 h4 λW5 bb μ5 H5 le5 r5 h5=>?_
    cases bb with
    |true =>
     refine v1.run r5 (e4.mono le5) h5 λW6 d6 μ6 x6 H6 le6 r6 q6 h6=>v2.run r6 (e4.mono (le5.trans le6)) h6 λW7 d7 μ7 x7 H7 le7 r7 q7 h7=>?_
     have leAll:=le2.trans (le3.trans (le4.trans (le5.trans (le6.trans le7))));have hb7:W7.b cc=some D:=leAll.b _ _ eb;unfold eB at h7;split at h7
     .rename_i ks vs hk;obtain⟨a',f1,f2,xs,f3,l,z⟩:=r7.cel cc _ hk;rw[hb7] at f1;cases f1;obtain⟨kk,ek,hl,h8⟩:=dJ h7;rw[gT (q6.mono le7) ek];obtain⟨xs',p1,p2,p3⟩:=uh (k:=kk) l z q7;refine⟨_,eO.k f3 (by rw[Os,<- l,Pv];omega),?_⟩;rw[p1];exact⟨W7,_,leAll,r7.setC (c':= .dct (dH ks kk) (eA ks vs kk d7)) hk hb7 ⟨xs',rfl,p2,p3⟩,h8⟩
     .exact h7.elim
    |false=>exact⟨W5,μ5,le2.trans (le3.trans (le4.trans le5)),r5,h5⟩
  .rw[ML (by omega)] at h2;exact .inl ⟨stop (by omega),k W2 (.cell cc) μ2 _ H2 (le1.trans le2) r2 (by unfold Rep;exact⟨D,rfl,le2.b _ _ eb⟩) h2.2⟩⟩
end
def nA(wo wi wx:DE):DE:=λρ μ Q=>wo ρ μ λd μ1=>eC μ1 d (λ_ _=>True)/\wi ρ μ1 λe μ2=>wx ρ μ2 λx μ3=>eC μ3 d λks vs=>ai (da e) λk=>Q ((bG ks vs k).getD x) μ3
theorem FN{o e f:Expr}{td ty tx:TE}(hu:X.A.units+1 < cLine)(ho:WE X o td)(he:WE X e ty)(hf:WE X f tx)(m:M2 X o "get" apos e f cpos):WE X (.Call (.Attribute o "get" apos) [e,f] [] cpos) (mi td ty tx):=⟨Cj hu ho.out he.out hf.out m⟩
instance{tx:TE}{wx:DE}[a:zR K fl ta wa][b:zR K fl tb wb][c:zR K fl tx wx]:zR K fl (mi ta tb tx) (nA wa wb wx):=⟨λ{W ρ μ σ H Q Q'} r e h k=>a.run r e h λW1 d μ1 x H1 le1 r1 q1 h1=>by
 obtain⟨h1,h1'⟩:=h1;obtain⟨p,ks,vs,xs,rfl,ea,l,z,_⟩:=iY r1 q1 h1;refine⟨p,rfl,.inl ⟨_,ea⟩,b.run r1 (e.mono le1) h1' λW2 d2 μ2 y H2 le2 r2 q2 h2=>c.run r2 (e.mono (le1.trans le2)) h2 λW3 d3 μ3 y3 H3 le3 r3 q3 h3=>?_⟩;obtain⟨p',ks',vs',xs',e',ea',l',z',h4⟩:=iY r3 (q1.mono (le2.trans le3)) h3;cases e';obtain⟨kk,ek,h4⟩:=dJ h4;rw[gT (q2.mono le3) ek];refine⟨_,bS.kr ea',?_⟩;obtain⟨f1,f2⟩:=kh (k:=kk) l' z';cases eo:bG ks' vs' kk with
 |none =>
  rw[f2 eo];rw[eo] at h4;exact k W3 d3 μ3 _ H3 (le1.trans (le2.trans le3)) r3 q3 h4
 |some v =>
  obtain⟨y',ey,qy⟩:=f1 v eo;rw[ey];rw[eo] at h4;exact k W3 v μ3 y' H3 (le1.trans (le2.trans le3)) r3 qy h4⟩
def It2(lo:Int)(n:Nat):It:=⟨λi _=>i < n,λi H x H'=>H'=H/\x= .int (lo+2*i),λi _=>n<=i⟩
def two(a b:Int):Nat:=((b - a+1) / 2).toNat
theorem uE(a b:Int):NR a b 2=(two a b:Nat):=by
 unfold NR two;simp only[show(2:Int) > 0 by decide,if_true];split<;>omega
theorem FO{a b:Int}(ha: -(2^61)<=a)(ha':a < 2^61)(hb: -(2^61)<=b)(hb':b < 2^61):Qd a b 2=true:=by
 unfold Qd;rw[uE];unfold two;simp only[RC,Mw,O5,decide_eq_true_eq,beq_iff_eq,show(2:Int) > 0 by decide,if_true];omega
theorem FP(it:Addr)(lo:Int)(n:Nat):Turn P w K tg (It2 lo n) [it] it (λi h=>IsRangeIter h it (lo+(i:Nat)*2) ((n:Int) - (i:Nat)) 2) where
 mem:=by simp
 obj:=λi h st b hb=>by
  have e:b=it:=by simpa using hb
  subst e;exact⟨_,st,λv z=>by
   have z':Data.fields _=Data.cell v:=z;cases z'⟩
 keep:=λi h h' st k=>k it (by simp) _ st
 item:=by
  intro X hP hw hK hc i pins s σ H E I hf st hg;subst hP hw hK;obtain⟨f0,f1,f2,f3,f4,f5⟩:=hf it (by simp);have W:=Walks.range (prog:=X.prog) (w:=X.w) (I.ok.hd hc) it lo 2 n;refine W.item i s _ _ hg st λv h' tk hv st' kk=>?_
  obtain⟨t,rfl⟩:=hv;have I1:Inv X pins σ H {s with heap:=h',toks:=tk}:=I.turned (λb o hb e=>kk b o (by simpa using hb) e) f0 f1 f3 f4 f5;refine⟨_,rfl,hX (s:={s with heap:=h',toks:=tk}) (n:="range_iterator") st' rfl rfl (by decide) ⟨.int (lo+2*i),H,I1,⟨t,?_⟩,⟨rfl,rfl⟩,st',λb hb=>(hf b hb).1⟩⟩;rw[show lo+(i:Int)*2=lo+2*(i:Int) by omega]
 done:=by
  intro X hP hw hK hc i pins s σ H E I hf st hg;subst hP hw hK;obtain⟨f0,f1,f2,f3,f4,f5⟩:=hf it (by simp);exact Px (I.ok.hd hc) st (by have:n<=i:=hg;omega) λh' eb=>⟨rfl,I.turned (t':=s.toks) (λb o hb e=>eb b o hb e) f0 f1 f3 f4 f5⟩
 self:=λ_ _ _ _ _ st h=>Py st h
section
theorem FQ{s:Shared}{R:It->Hp->Prop}{hi:Int}{t u v:Tok}{tk:Nat}(I:Inv X pins σ H s)(h1: -(2^61)<=lo)(h2:lo < 2^61)(h3: -(2^61)<=hi)(h4:hi < 2^61)
  (q:R (It2 lo (two lo hi)) H):wpAny (model X.prog X.w) X.A (pyIter (.ref s.heap.objs.size)) (PIE X pins σ tg R) E {s with heap:=s.heap.push {cls:= .type "range",data:= .fields #[.int lo t,.int hi u,.int 2 v]},toks:=tk}:=by
 refine QA (IsRange.new ..) (FO h1 h2 h3 h4) ?_;have I1:Inv X pins σ H {s with heap:=s.heap.push {cls:= .type "range",data:= .fields #[.int lo t,.int hi u,.int 2 v]},toks:=tk}:=I.kept λb o e=>L5 _ e
 refine⟨(s.heap.push {cls:= .type "range",data:= .fields #[.int lo t,.int hi u,.int 2 v]}).objs.size,[(s.heap.push {cls:= .type "range",data:= .fields #[.int lo t,.int hi u,.int 2 v]}).objs.size],_,_,H,rfl,
  I1.kept (t':=tk) λb o e=>L5 _ e,FP _ lo (two lo hi),?_,λb hb=>?_,q⟩
 .have e1:lo+((0:Nat):Int)*2=lo:=by simp
  have e2:((two lo hi:Nat):Int) - ((0:Nat):Int)=NR lo hi 2:=by rw[uE];omega
  show IsRangeIter _ _ (lo+((0:Nat):Int)*2) (((two lo hi:Nat):Int) - ((0:Nat):Int)) 2;rw[e1,e2];exact LC _ rfl
 .have e:b=(s.heap.push {cls:= .type "range",data:= .fields #[.int lo t,.int hi u,.int 2 v]}).objs.size:=by simpa using hb
  subst e;exact I1.fpOk (Lx _) (I1.hok.fresh (Lx _))
def uF(ta:TA):TI:=λσ H R=>ta σ H λvs H1=>∃i j:Int,vs=[.int i,.int j,.int 2]/\(-(2^61)<=i/\i < 2^61/\ -(2^61)<=j/\j < 2^61)/\R (It2 i (two i j)) H1
theorem FR{a b c:Expr}{ta:TA}{p:Pos}(hg:Gl X "range")(hm:X.mg "range"=none)(ha:WA X [a,b,c] ta)(hs:starEach [a,b,c] X.env=(false,eval a X.env)::starEach [b,c] X.env:=by rfl)(hpl:(backTo pos (starEach [b,c] X.env)).any (·.1)=false:=by rfl) :
  WI X tg (.Call (.Name "range" p) [a,b,c] [] pos) (uF ta):=⟨by
 intro pins s σ H R I h;refine Call_ (eJ I hg hm boot_range (Nh (thn (ha.out pos pins s σ H _ I h) λus s1 ⟨vs,H1,I1,r1,q1⟩=>?_) hs hpl));obtain⟨i,j,e,⟨q1,q2,q3,q4⟩,q⟩:=q1;subst e;cases r1 with
 |cons r rr =>
  cases rr with
  |cons r' rr =>
   cases rr with
   |cons r'' rr =>
    cases rr;obtain⟨t,rfl⟩:=r;obtain⟨t',rfl⟩:=r';obtain⟨t'',rfl⟩:=r'';exact call_range_3 (by decide) (FQ I1 q1 q2 q3 q4 q) (MP (PyProof.noPylong_small (by decide)))⟩
end
def gU(lo:Int)(n:Nat):List Int:=(Mz n).map λ(i:Nat)=>lo+2*(i:Int)
theorem uG{n i:Nat}(h:i < n):(gU lo n)[i]? = some (lo+2*(i:Int)):=by
 unfold gU;rw[L4,NQ h];rfl
theorem kt{n:Nat}:(gU lo n).length=n:=by unfold gU;simp
def ku(Q:List D->(Mu->Prop)->Mu->Prop):List D->Mu->Prop:=λds μ1=>match ds with
 | [.int i,.int j,.int 2]=>(-(2^61)<=i/\i < 2^61/\ -(2^61)<=j/\j < 2^61)/\Q ((gU i (two i j)).map D.int) (λ_=>True) μ1
 |_=>False
def nB(w:DA):DI:=λρ μ Q=>w ρ μ (ku Q)
theorem FS{w:DA}{Q:List D->(Mu->Prop)->Mu->Prop}:nB w ρ μ Q=w ρ μ (ku Q):=rfl
theorem FT{Q:List D->(Mu->Prop)->Mu->Prop}{i j:Int}:ku Q [.int i,.int j,.int 2] μ=((-(2^61)<=i/\i < 2^61/\ -(2^61)<=j/\j < 2^61)/\Q ((gU i (two i j)).map D.int) (λ_=>True) μ):=rfl
instance{ta:TA}{wa:DA}[a:aH K fl ta wa]:dA K fl (uF ta) (nB wa):=⟨λ{W ρ μ σ H Q Q'} r e h k=>a.run r e h λW1 ds μ1 xs H1 le1 r1 q1 h1=>by
 unfold ku at h1;split at h1
 .rename_i i j;obtain⟨x,r1',rfl,z1,q1⟩:=q1.uncons;obtain⟨y,r2',rfl,z2,q1⟩:=q1.uncons;obtain⟨w,r3',rfl,z3,q1⟩:=q1.uncons;rw[q1.nil',z1.i',z2.i',z3.i'];refine⟨i,j,rfl,h1.1,k W1 _ _ _ μ1 H1 le1 r1 (λW2 μ2 H2 le2 r2 _ m=>⟨λd hd=>?_,λh=>?_⟩) h1.2⟩
  .rw[L4] at hd;by_cases hm:m < two i j
   .rw[uG hm] at hd;cases hd;refine⟨hm,λx H' y=>?_⟩;obtain⟨e',rfl⟩:=y;exact⟨W2,.refl _,e'▸r2,.i⟩
   .rw[LZ (by rw[kt];omega)] at hd;cases hd
  .rw[L0,kt] at h;exact h
 .exact h1.elim⟩
section
variable{k:Nat}{ds:List Value}{dvs:List V}{E:XK}
end
section
open PySem.Builtin PySem.Builtin.Str
end
def sqN:Bool->String|true=>"tuple" |false=>"list"
def itN:Bool->String|true=>"tuple_iterator" |false=>"list_iterator"
def gW(b:Bool)(h:Heap)(a:Addr)(its:Array Value):Prop:=∃o,h.get? a=some o/\o.cls= .type (sqN b)/\∃n,o.data= .seq its n
def ItB(b:Bool)(h:Heap)(a t:Addr)(i:Nat):Prop:=∃o,h.get? a=some o/\o.cls= .type (itN b)/\o.data= .fields #[.ref t,.int i 0]
theorem ItB.at{b:Bool}{t:Addr}{i:Nat}(x:ItB b h a t i)(e:∀o,h.get? a=some o->h'.get? a=some o):ItB b h' a t i:=let ⟨o,ho,r⟩:=x;⟨o,e o ho,r⟩
section
variable{s:Shared}{b b1 b2:Bool}
theorem FU{i:Nat}{x:Value}{Q:Value->Shared->Prop}(hit:ItB b s.heap it l i)(hl:gW b s.heap l items)(hx:items[i]? = some x)
  (hQ:∀h',ItB b h' it l (i+1)->MY it s.heap h'->Q x {s with heap:=h'}):wpAny (model prog w) A (NJ (.ref it)) Q E s:=by
 cases b with
 |false=>exact wpAny_nextOf_list_item hit hl hx hQ
 |true =>
  have ty:s.TypeIs (.ref it) "tuple_iterator":=let ⟨o,ho,hc,_⟩:=hit;⟨o,ho,hc⟩;obtain⟨o,ho,hc,hd⟩:=id hit;obtain⟨ol,hol,_,nl,hdl⟩:=hl;unfold NJ;refine L1 (Ng (name:=L6 "__next__") ty F.slot_tuple_iterator_next (Nr F.slot_tuple_iterator_next ty F.entry_tuple_iterator_next ?_ (F.args_tuple_iterator_next_1 _)));show wpAny _ _ (field (.ref it) 0 >>= _) _ _ s;refine L1 (MV ho hd (x:= .ref l) rfl ?_);show wpAny _ _ (if (M4 l==My)=true then _ else _) _ _ s;rw[if_neg (show ¬ ((M4 l==My)=true) from LU)];show wpAny _ _ (field (.ref it) 1 >>= _) _ _ s;refine L1 (MV ho hd (x:= .int i 0) rfl ?_);show wpAny _ _ (seqItems? (.ref l) >>= _) _ _ s;refine L1 (RS hol hdl ?_);simp only[O7,hx];refine L1 (RT ho hd (by simp) (L9 ⟨x,rfl,L9 (hQ _ ?_ (Qe ..))⟩));exact⟨_,PQ _ ho (Obj.isFreed_of_fields (Obj.data_mapFields hd _)),(Obj.cls_mapFields ..).trans hc,by rw[Obj.data_mapFields hd];simp[rawInt]⟩
theorem FV{i:Nat}{Q:Value->Shared->Prop}(hh:A.handled=none)(hit:ItB b s.heap it l i)(hl:gW b s.heap l items)(hx:items[i]? = none)
  (hE:∀h' e,Q5 it s.heap h'->(∃o,h'.get? e=some o/\o.cls= .type "StopIteration")->E (.ref e) {s with heap:=h'}):wpAny (model prog w) A (NJ (.ref it)) Q E s:=by
 cases b with
 |false=>exact wpAny_nextOf_list_end hh hit hl hx hE
 |true =>
  have ty:s.TypeIs (.ref it) "tuple_iterator":=let ⟨o,ho,hc,_⟩:=hit;⟨o,ho,hc⟩;obtain⟨o,ho,hc,hd⟩:=id hit;obtain⟨ol,hol,_,nl,hdl⟩:=hl;unfold NJ;refine L1 (Ng (name:=L6 "__next__") ty F.slot_tuple_iterator_next (Nr F.slot_tuple_iterator_next ty F.entry_tuple_iterator_next ?_ (F.args_tuple_iterator_next_1 _)));show wpAny _ _ (field (.ref it) 0 >>= _) _ _ s;refine L1 (MV ho hd (x:= .ref l) rfl ?_);show wpAny _ _ (if (M4 l==My)=true then _ else _) _ _ s;rw[if_neg (show ¬ ((M4 l==My)=true) from LU)];show wpAny _ _ (field (.ref it) 1 >>= _) _ _ s;refine L1 (MV ho hd (x:= .int i 0) rfl ?_);show wpAny _ _ (seqItems? (.ref l) >>= _) _ _ s;refine L1 (RS hol hdl ?_);simp only[O7,hx];refine L1 (QE (L1 (RT ho hd (by simp) ?_)));show wpAny _ _ (newExc (.type "StopIteration") [] >>= _) _ _ _;refine L1 ?_;simp only[newExc,newTuple];refine L1 (Mx ?_ (by size_fits));refine L1 (m:=firstArgMember _ _) (wpAny_of_eq (a:=My) (by first|rfl | (simp only[firstArgMember];rfl)) ?_);refine Mx ?_ (by size_fits);simp only[raiseNew];refine L1 (wpAny_handled ?_);first|rw[show A.in1.handled=none from hh] |rw[hh]
  refine L1 (L9 (wpAny_throw ?_));exact hE _ _ (((Qe ..).extBut.push _).push _) ⟨_,LC _ rfl,rfl⟩
end
def SqB(b:Bool)(K:Frag)(H:Hp)(a:Addr)(xs:List V):Prop:=match b with
 |true=>SqT K H a xs
 |false=>SqL K H a xs
theorem Inv.sqB{s:Shared}{b:Bool}(I:Inv X pins σ H s)(h:SqB b X.K H a xs):∃its:List Value,Vals xs its/\gW b s.heap a its.toArray:=by
 cases b with
 |false =>
  obtain⟨its,r,p,_⟩:=I.list h;exact⟨its,r,p.isList⟩
 |true =>
  obtain⟨its,r,p,_⟩:=I.tuple h;exact⟨its,r,p⟩
theorem FW{s:Shared}{b:Bool}{ys:List V}(I:Inv X pins σ H s)(q:SqB b X.K H l xs)(q':SqB b X.K H l ys):xs=ys:=by
 cases b with
 |false=>exact I.list_inj q q'
 |true=>exact I.tuple_inj q q'
def FX(K:Frag)(fl:Wd)(W:Wd)(Pm:Mu->Prop)(b:Bool)(p:Addr)(ds:List D):Prop:=∀W1 μ H,W.le W1->Rel K fl W1 μ H->Pm μ->∃xs,SqB b K H p xs/\zx K W1 ds xs
def sqM(μ:Mu)(d:D)(Q:List D->(Mu->Prop)->Prop):Prop:=match d with
 | .tup ds=>Q ds λ_=>True
 |d=>lsM μ d Q
theorem FY{W:Wd}{d:D}{x:V}{Q:List D->(Mu->Prop)->Prop}(r:Rel K fl W μ H)(q:Rep K W d x)(h:sqM μ d Q):∃b p ds Pm,x= .ref p/\FX K fl W Pm b p ds/\Pm μ/\Q ds Pm:=by
 unfold sqM at h;split at h
 .obtain⟨p,xs,rfl,s1,z1⟩:=q.tup';exact⟨true,p,_,_,rfl,λW1 μ1 H1 le1 r1 _=>⟨xs,(s1.sm le1.F).sm r1.sub,z1.mono le1⟩,trivial,h⟩
 .obtain⟨p,ds,Pm,rfl,l1,pm,h⟩:=mV r q h;exact⟨false,p,ds,Pm,rfl,λW1 μ1 H1 le1 r1 pm1=>let ⟨xs,e,z⟩:=l1 W1 μ1 H1 le1 r1 pm1;⟨xs,SqL.of e,z⟩,pm,h⟩
section
variable{R:List D->(Mu->Prop)->Mu->Prop}{d e:D}{ds:List D}{Q:List D->(Mu->Prop)->Prop}
theorem nC:sqM μ (.tup ds) Q=Q ds λ_=>True:=rfl
end
section
variable{s:Shared}
end
section
variable{s:Shared}{b:Bool}
theorem FZ{e:Addr}{i:Nat}{x old:Value}{Q:Option Value->Shared->Prop}(he:IsEnum s.heap e it i old)(hit:ItB b s.heap it l i)(hl:gW b s.heap l items)(hx:items[i]? = some x)(hne:e≠it)
  (hQ:∀h',IsEnumOut h' e it ((i:Int)+1) x s.heap.objs.size->ItB b h' it l (i+1)->h'.get? s.heap.objs.size=some {cls:= .type "tuple",data:= .seq #[.int i s.toks,x]} ->
   (∀c o,c≠e->c≠it->s.heap.get? c=some o->h'.get? c=some o)->Q (some (.ref s.heap.objs.size)) {s with heap:=h',toks:=s.toks+1}):wpAny (model prog w) A (pyNext (.ref e)) Q E s:=by
 have hT:s.TypeIs (.ref e) "enumerate":=⟨_,he,rfl⟩;unfold pyNext;refine L1 (Qp (Ng (name:=L6 "__next__") hT F.slot_enumerate_next (Nr F.slot_enumerate_next hT F.entry_enumerate_next ?_ (F.args_enumerate_next_1 _))));obtain⟨hp,g,d,tk,os⟩:=s;have lt:e < hp.objs.size:=LB he;show wpAny _ _ (field (.ref e) 2 >>= _) _ _ _;refine L1 (MV he rfl (x:= .ref it) rfl (L1 (FU (b:=b) hit hl hx λg1 n1 s1=>?_)));replace s1:MY it hp g1:=s1
 have e1:IsEnum g1 e it i old:=(s1.2 e hne).trans he;show wpAny _ _ (field (.ref e) 3 >>= _) _ _ ⟨g1,g,d,tk,os⟩;refine L1 (MV e1 rfl (x:=rawInt i) rfl ?_);show wpAny _ _ (field (.ref e) 4 >>= _) _ _ ⟨g1,g,d,tk,os⟩;refine L1 (MV e1 rfl (x:= .none) rfl ?_);show wpAny _ _ (mkInt i >>= _) _ _ ⟨g1,g,d,tk,os⟩;refine L1 (wpAny_mkInt ?_);show wpAny _ _ (setField (.ref e) 3 (rawInt ((i:Int)+1)) >>= _) _ _ ⟨g1,g,d,tk+1,os⟩;refine L1 (O2 e1 (by simp) λg2 e2 s2=>?_);replace s2:MY e g1 g2:=s2
 replace e2:IsEnum g2 e it ((i:Int)+1) old:=e2
 show wpAny _ _ (setField (.ref e) 4 .none >>= _) _ _ ⟨g2,g,d,tk+1,os⟩;refine L1 (O2 e2 (by simp) λg3 e3 s3=>?_);replace s3:MY e g2 g3:=s3
 replace e3:IsEnum g3 e it ((i:Int)+1) old:=e3
 show wpAny _ _ (newTuple [.int i tk,x] >>= _) _ _ ⟨g3,g,d,tk+1,os⟩;refine L1 (Qa ?_);have sz:g3.objs.size=hp.objs.size:=by rw[s3.1,s2.1,s1.1]
 have up0:∀c o,c≠e->c≠it->hp.get? c=some o->g3.get? c=some o:=λc o c1 c2 q=>s3.extBut c o c1 (s2.extBut c o c1 (s1.extBut c o c2 q))
 have m3:ItB b g3 it l (i+1):=n1.at λo q=>s3.extBut _ _ (Ne.symm hne) (s2.extBut _ _ (Ne.symm hne) q)
 obtain⟨g4,h4⟩:∃g4,g4=g3.push {cls:= .type "tuple",data:= .seq #[.int i tk,x]}:=⟨_,rfl⟩;have kp:∀{c:Addr} {o:Obj},g3.get? c=some o->g4.get? c=some o:=λq=>by rw[h4];exact L5 _ q
 have e4:IsEnum g4 e it ((i:Int)+1) old:=kp e3;have t4:g4.get? hp.objs.size=some {cls:= .type "tuple",data:= .seq #[.int i tk,x]}:=by rw[h4,<- sz];exact LC _ rfl
 show wpAny _ _ (Om (.ref e) >>= _) _ _ ⟨g3.push {cls:= .type "tuple",data:= .seq #[.int i tk,x]},g,d,tk+1,os⟩;rw[<- h4,sz];refine L1 ?_;unfold Om;refine L1 (MV e4 rfl (x:= .none) rfl (L9 ?_));simp only[if_true];refine L1 (QE (L1 (MV e4 rfl (x:=old) rfl (L1 (O2 e4 (by simp) λg5 e5 s5=>?_)))));replace s5:MY e g4 g5:=s5
 replace e5:IsEnum g5 e it ((i:Int)+1) x:=e5
 show wpAny _ _ (Oh (.ref e) (.ref hp.objs.size) >>= _) _ _ ⟨g5,g,d,tk+1,os⟩;refine L1 ?_;unfold Oh;refine L1 (O2 e5 (by simp) λg6 e6 s6=>?_);replace s6:MY e g5 g6:=s6
 replace e6:IsEnumOut g6 e it ((i:Int)+1) x hp.objs.size:=e6
 refine O2 e6 (by simp) λg7 e7 s7=>?_
 replace s7:MY e g6 g7:=s7
 replace e7:IsEnumOut g7 e it ((i:Int)+1) x hp.objs.size:=e7
 have up:∀{c:Addr} {o:Obj},c≠e->g4.get? c=some o->g7.get? c=some o:=λc1 q=>s7.extBut _ _ c1 (s6.extBut _ _ c1 (s5.extBut _ _ c1 q))
 exact L1 (wpAny_letGo (L9 ⟨_,rfl,L9 (hQ g7 e7 (m3.at λo q=>up (Ne.symm hne) (kp q)) (up (NY lt) t4) λc o c1 c2 q=>up c1 (kp (up0 c o c1 c2 q)))⟩))
theorem F0{e:Addr}{i:Nat}{old:Value}{Q:Option Value->Shared->Prop}(hh:A.handled=none)(he:IsEnum s.heap e it i old)(hit:ItB b s.heap it l i)(hl:gW b s.heap l items)(hx:items[i]? = none)
  (hQ:∀h',Q5 it s.heap h'->Q none {s with heap:=h'}):wpAny (model prog w) A (pyNext (.ref e)) Q E s:=by
 have hT:s.TypeIs (.ref e) "enumerate":=⟨_,he,rfl⟩;unfold pyNext;refine L1 (Qp (Ng (name:=L6 "__next__") hT F.slot_enumerate_next (Nr F.slot_enumerate_next hT F.entry_enumerate_next ?_ (F.args_enumerate_next_1 _))));show wpAny _ _ (field (.ref e) 2 >>= _) _ _ _;refine L1 (MV he rfl (x:= .ref it) rfl (L1 (FV (b:=b) hh hit hl hx λh' x he' hx'=>?_)));obtain⟨o,ho,hc⟩:=hx';exact L1 (wpAny_isInstance (T:="StopIteration") (b:=true) ⟨o,ho,hc⟩ isSubtype_stop (L9 (hQ _ he')))
end
set_option maxHeartbeats 1000000 in
theorem F1(l : Addr)(items : Array Value)(ob : Obj)(n : Nat)(hc : ob.cls = .type "tuple")(hd : ob.data = .seq items n) : Meets (Builtin.«enumerate.__new__» ⟨[.type "enumerate",.ref l], []⟩) (λ_ R s => s.heap.get? l = some ob /\
   R (.ok (.ret (.ref (s.heap.push {cls:= .type "tuple_iterator",data:= .fields #[.ref l,.int 0 0]}).objs.size)))
    {s with heap:=(s.heap.push {cls:= .type "tuple_iterator",data:= .fields #[.ref l,.int 0 0]}).push {cls:= .type "enumerate",data:= .fields #[.none,.bool false,.ref s.heap.objs.size,rawInt 0,.none,.none]}}) :=
 .of_wp λprog w A R s h=>by
  obtain⟨hp,g,d,tk,os⟩:=s;obtain⟨hl,h⟩:=h;obtain⟨c,dct,dt,sl⟩:=ob;replace hc:c= .type "tuple":=hc
  replace hd:dt= .seq items n:=hd
  subst hc hd;have hsub:=sub_enumerate;have hL:Heap.IsTuple (Shared.heap ⟨hp,g,d,tk,os⟩) l items:=⟨_,hl,rfl,n,rfl⟩;wp_walk using OO hl
  refine wpAny_stack_any λst=>L9 ?_
  split
  .rename_i c _ _ _ _ _;cases (c==NN "enumerate")
   .wp_walk using OO hl,O1 hL
    exact⟨_,rfl,h⟩
   .wp_walk using OO hl,O1 hL
    exact⟨_,rfl,h⟩
  .wp_walk using OO hl,O1 hL
   exact⟨_,rfl,h⟩
theorem F2{s:Shared}{b:Bool}{Q:Value->Shared->Prop}(hL:gW b s.heap l items)
  (h:∀h',IsEnum h' (s.heap.objs.size+1) s.heap.objs.size 0 .none->ItB b h' s.heap.objs.size l 0->(∀c o,s.heap.get? c=some o->h'.get? c=some o)->Q (.ref (s.heap.objs.size+1)) {s with heap:=h'}) :
  wpAny (model prog w) A (call (.type "enumerate") [.ref l]) Q E s:=by
 cases b with
 |false=>exact call_enumerate_list hL λh' a b _ d=>h h' a b d
 |true =>
  obtain⟨ob,hl,hc,n,hd⟩:=hL;refine callType_new F.called_enumerate (by decide) (F.typeCall_enumerate_1 _) (F.newCall_enumerate_1 _) (λobj=>F.args_object_init_2 obj _) F.entry_enumerate_new (F1 l items ob n hc hd) ⟨hl,?_⟩;have z:(s.heap.push {cls:= .type "tuple_iterator",data:= .fields #[.ref l,.int 0 0]}).objs.size=s.heap.objs.size+1:=MU ..;have g2:((s.heap.push {cls:= .type "tuple_iterator",data:= .fields #[.ref l,.int 0 0]}).push {cls:= .type "enumerate",data:= .fields #[.none,.bool false,.ref s.heap.objs.size,rawInt 0,.none,.none]}).get? (s.heap.push {cls:= .type "tuple_iterator",data:= .fields #[.ref l,.int 0 0]}).objs.size=some _:=LC _ rfl;have g1:((s.heap.push {cls:= .type "tuple_iterator",data:= .fields #[.ref l,.int 0 0]}).push {cls:= .type "enumerate",data:= .fields #[.none,.bool false,.ref s.heap.objs.size,rawInt 0,.none,.none]}).get? s.heap.objs.size=some _:=L5 _ (LC _ rfl);show _/\_;rw[z] at g2 ⊢;exact⟨⟨_,g2,rfl⟩,h _ g2 ⟨_,g1,rfl,rfl⟩ λc o q=>L5 _ (L5 _ q)⟩
def uH(K:Frag)(b:Bool)(l:Addr):It :=
 ⟨λi H => ∃xs x, SqB b K H l xs /\ xs[i]? = some x,
  λi H v H'=>∃p,H p=none/\v= .ref p/\∀xs,SqB b K H l xs->∃x,xs[i]? = some x/\H'=upd H p (.tup [.int i,x]),
  λi H=>∃xs,SqB b K H l xs/\xs.length<=i⟩
def F3(b:Bool)(e it l:Addr)(i:Nat)(h:Heap):Prop:=(∃old,IsEnum h e it i old)/\ItB b h it l i
theorem F4{k:Nat}(b:Bool)(e it l:Addr)(d:e≠it):Turn P w K (.Tuple elts k pos) (uH K b l) [e,it] e (F3 b e it l):=by
 refine{mem:=by simp,obj:=?_,keep:=?_,item:=?_,done:=?_,self:=λ_ _ _ _ _ st h=>by obtain⟨⟨old,hz⟩,_⟩:=st;exact R4 hz h}
 .intro i h st c hb;obtain⟨⟨old,hz⟩,⟨o1,e1,c1,d1⟩⟩:=st;simp only[LD,Mb,or_false] at hb;rcases hb with rfl|rfl
  .exact⟨_,hz,λv e=>by cases e⟩
  .exact⟨_,e1,λv e=>by rw[d1] at e;cases e⟩
 .intro i h h' st kk;obtain⟨⟨old,hz⟩,h1⟩:=st;exact⟨⟨old,kk e (by simp) _ hz⟩,h1.at λo e=>kk it (by simp) o e⟩
 .intro X hP hw hK hc i pins s σ H E I hf st hg;subst hP hw hK;obtain⟨xs,x,q1,hx⟩:=hg;obtain⟨its1,r1,hl1⟩:=I.sqB q1;obtain⟨u1,eu1,ru1⟩:=r1.get hx;obtain⟨⟨old,hz⟩,h1⟩:=st;refine FZ hz h1 hl1 (x:=u1) (by simpa using eu1) d λh' a1 a2 a3 hk=>?_
  refine⟨_,rfl,wpAny_letOwnedTupleGo_enum a1 λh'' b1 b2=>?_⟩;have lt:∀c∈[e,it],c < s.heap.objs.size:=λc hb=>by
   simp only[LD,Mb,or_false] at hb;rcases hb with rfl|rfl
   .exact LB hz
   .obtain⟨o1,e1,_⟩:=h1;exact LB e1
  have hfr:H s.heap.objs.size=none:=I.hok.fresh (Lx _);have I1:Inv X pins σ (upd H s.heap.objs.size (.tup [.int i,x])) {s with heap:=s.heap.push {cls:= .type "tuple",data:= .seq #[OU (i:Int) s.toks,u1]},toks:=s.toks+1} :=
   I.laid (t':=s.toks+1) (λb o e=>L5 _ e) (Lx _) ⟨by show 2<=sizeLine;decide,[OU (i:Int) s.toks,u1],.cons ⟨_,rfl⟩ (.cons ru1 .nil),⟨_,LC _ rfl,rfl,_,rfl⟩⟩
  have hne:∀c∈[e,it],(upd H s.heap.objs.size (.tup [.int i,x])) c=none:=λc hb=>by
   rw[zE (LJ (lt c hb))];exact(hf c hb).1
  have I2:=I1.turnedL (h':=h'') (t':=s.toks+1) [e,it] (λc o hb e=>?_) (λc hb=>⟨hne c hb,(hf c hb).2⟩)
  .refine⟨.ref s.heap.objs.size,_,I2,rfl,⟨_,hfr,rfl,λxs' q1'=>⟨x,by rw[FW I q1' q1];exact hx,rfl⟩⟩,⟨⟨_,b1⟩,a2.at λo e=>b2.extBut _ _ d.symm e⟩,hne⟩
  .simp only[LD,Mb,or_false,not_or] at hb;refine b2.extBut _ _ hb.1 ?_;by_cases hT:c=s.heap.objs.size
   .subst hT;rw[LC _ rfl] at e;cases e;exact a3
   .exact hk c o hb.1 hb.2 (sV hT e)
 .intro X hP hw hK hc i pins s σ H E I hf st hg;subst hP hw hK;obtain⟨xs,q1,hend⟩:=hg;obtain⟨its1,r1,hl1⟩:=I.sqB q1;obtain⟨⟨old,hz⟩,h1⟩:=st;refine F0 (I.ok.hd hc) hz h1 hl1 ?_ λh' hk=>⟨rfl,I.turnedL (h':=h') (t':=s.toks) [e,it] (λb o hb e=>?_) hf⟩
  .rw[NZ];rw[Ly,<- r1.length];exact hend
  .simp only[LD,Mb,or_false,not_or] at hb;exact hk b o hb.2 e
def uI(K:Frag)(ta:TA):TI:=λσ H R=>ta σ H λvs H2=>∃b l xs,vs=[.ref l]/\SqB b K H2 l xs/\R (uH K b l) H2
theorem nD{a:Expr}{ta:TA}{p pos2:Pos}{k:Nat}(K:Frag)(hg:Gl X "enumerate")(hm:X.mg "enumerate"=none)(ha:WA X [a] ta)(h:X.K=K:=by rfl)
  (hs:starEach [a] X.env=(false,eval a X.env)::starEach [] X.env:=by rfl)(hpl:(backTo pos (starEach [] X.env)).any (·.1)=false:=by rfl):WI X (.Tuple elts k pos2) (.Call (.Name "enumerate" p) [a] [] pos) (uI K ta):=⟨by
 subst h;intro pins s σ H R I h;refine Call_ (eJ I hg hm boot_enumerate (Nh (thn (ha.out pos pins s σ H _ I h) λus s1 ⟨vs,H1,I1,r1,q1⟩=>?_) hs hpl));obtain⟨b,l,xs,rfl,q2,q⟩:=q1;obtain⟨u,rfl,e1⟩:=vals1 r1;cases e1;obtain⟨its1,rv1,p1⟩:=I1.sqB q2;refine F2 p1 λh' b1 b2 b4=>?_
 refine R4 b1 ?_;refine⟨s1.heap.objs.size+1,[s1.heap.objs.size+1,s1.heap.objs.size],_,_,H1,rfl,I1.kept (t':=s1.toks) b4,F4 b (s1.heap.objs.size+1) s1.heap.objs.size l (NY (No _)),⟨⟨_,b1⟩,b2⟩,λc hb=>?_,q⟩;have hge:s1.heap.objs.size<=c:=by
  simp only[LD,Mb,or_false] at hb;rcases hb with rfl|rfl
  .exact MN _
  .exact Lx _
 exact I1.fpOk hge (I1.hok.fresh hge)⟩
def nE(R:List D->(Mu->Prop)->Mu->Prop):List D->Mu->Prop:=λes μ1=>match es with
 | [d]=>sqM μ1 d λds P1=>R (eh ds) P1 μ1
 |_=>False
def gb(w:DA):DI:=λρ μ Q=>w ρ μ (nE Q)
theorem nF{d:D}{R:List D->(Mu->Prop)->Mu->Prop}:nE R [d] μ=sqM μ d λds P1=>R (eh ds) P1 μ:=rfl
instance{ta:TA}{wa:DA}[a:aH K fl ta wa]:dA K fl (uI K ta) (gb wa):=⟨λ{W ρ μ σ H Q Q'} r e h k=>a.run r e h λW1 ds μ1 xs H1 le1 r1 z1 h1=>by
 unfold nE at h1;split at h1
 .obtain⟨x,rfl,q1⟩:=z1.one;obtain⟨b,p1,d1,P1,rfl,l1,pm1,h1⟩:=FY r1 q1 h1;obtain⟨xs1,e1,_⟩:=l1 W1 μ1 H1 (.refl _) r1 pm1;refine⟨b,p1,xs1,rfl,e1,k W1 _ _ _ μ1 H1 le1 r1 (λW2 μ2 H2 le2 r2 pm i=>?_) h1⟩;obtain⟨a1,f1,g1⟩:=l1 W2 μ2 H2 le2 r2 pm;constructor
  .intro d hd;obtain⟨e,m2,rfl⟩:=j5 hd;obtain⟨x2,ex2,qx2⟩:=g1.get m2;refine⟨⟨a1,x2,f1,ex2⟩,λv H' hy=>?_⟩;obtain⟨p,hp,rfl,hy⟩:=hy;obtain⟨y2,ey2,rfl⟩:=hy a1 f1;rw[ex2] at ey2;cases ey2;obtain⟨r3,le3⟩:=r2.newF (o:= .tup [.int i,x2]) hp;exact⟨_,le3,r3,.tup (SqT.of zA) (.cons .i (.cons (qx2.mono le3) .nil))⟩
  .intro hl;rw[j6] at hl;exact⟨a1,f1,by rw[g1.length];omega⟩
 .exact h1.elim⟩
abbrev gN(p:Array Nat)(i:Nat):Nat:=p.getD i 0
theorem fe(p:Array Nat)(i:Nat):gN p i=(p[i]?).getD 0:=by
 show p.getD i 0=_;by_cases h:i < p.size<;>simp[OW,h]
def okW{α:Type}(n:Nat)(lt:Nat->Nat->Bool):KasT α->(α->Prop)->Prop
 | .ret a,P=>P a
 | .ask i j k,P=>i < n/\j < n/\i≠j/\okW n lt (k (lt i j)) P
section
variable{n:Nat}{lt:Nat->Nat->Bool}
theorem gX{α β:Type}{f:α->KasT β}{P:β->Prop}:∀(t:KasT α),okW n lt t (λa=>okW n lt (f a) P)->okW n lt (t.bind f) P
 | .ret a,h=>h
 | .ask i j k,h=>⟨h.1,h.2.1,h.2.2.1,gX (k (lt i j)) h.2.2.2⟩
theorem dM{α:Type}{P Q:α->Prop}(q:∀a,P a->Q a):∀(t:KasT α),okW n lt t P->okW n lt t Q
 | .ret a,h=>q a h
 | .ask i j k,h=>⟨h.1,h.2.1,h.2.2.1,dM q (k (lt i j)) h.2.2.2⟩
theorem nG{α:Type}{cmp:Nat->Nat->(Bool->Shared->Prop)->Shared->Prop}{I:Shared->Prop}{Q:α->Shared->Prop}{P:α->Prop}
  (hc:∀i j C s,i < n->j < n->i≠j->I s->(∀s',I s'->C (lt i j) s')->cmp i j C s)(q:∀a s,P a->I s->Q a s):∀(t:KasT α) (s:Shared),okW n lt t P->I s->t.kasWp cmp Q s
 | .ret a,s,h,hi=>q a s h hi
 | .ask i j k,s,h,hi=>hc i j _ s h.1 h.2.1 h.2.2.1 hi λs' hi'=>nG hc q (k (lt i j)) s' h.2.2.2 hi'
def Srt(lt:Nat->Nat->Bool)(p:Array Nat)(m:Nat):Prop:=∀i j,i < j->j < m->lt (gN p j) (gN p i)=false
def Dsc(lt:Nat->Nat->Bool)(p:Array Nat)(m:Nat):Prop:=∀i j,i < j->j < m->lt (gN p i) (gN p j)=false
def PN(n:Nat)(p:Array Nat):Prop:=p.toList.Perm (Mz n)
theorem PN.sz{p:Array Nat}(h:PN n p):p.size=n:=by
 have:=h.length_eq;simpa using this
theorem PN.lp{p:Array Nat}(h:PN n p){i:Nat}(hi:i < n):gN p i < n:=by
 have hs:=h.sz;have hi':i < p.size:=by omega
 have e:gN p i=p[i]:=by show p.getD i 0=_;simp[OW,hi']
 rw[e];have m:p[i]∈p.toList:=by simp
 exact MS.mp (h.mem_iff.mp m)
theorem PN.ne{p:Array Nat}(h:PN n p){i:Nat}(hi:i < n)(hj:j < n)(d:i≠j):gN p i≠gN p j:=by
 have hs:=h.sz;have hi':i < p.size:=by omega
 have hj':j < p.size:=by omega
 have e:gN p i=p.toList[i]:=by show p.getD i 0=_;simp[OW,hi']
 have e2:gN p j=p.toList[j]:=by show p.getD j 0=_;simp[OW,hj']
 have nd:p.toList.Nodup:=h.nodup_iff.mpr List.nodup_range;rw[e,e2];intro q;have hl:p.toList.length=p.size:=by simp
 rcases OX d with z|z
 .exact(MA.mp nd) i j (by omega) (by omega) z q
 .exact(MA.mp nd) j i (by omega) (by omega) z q.symm
theorem PN.rev{p:Array Nat}(h:PN n p)(i j:Nat):PN n (kas_rev p i j):=(mirror_perm p i j _).toList.trans h
theorem PN.bub{p:Array Nat}(h:PN n p)(k d:Nat):PN n (bubble p k d):=(bubble_perm p k d).toList.trans h
theorem gY{p:Array Nat}{i:Nat}(hj:j<=p.size)(k:Nat):gN (kas_rev p i j) k=if i<=k/\k < j then gN p (i+j - 1 - k) else gN p k:=by
 rw[fe,fe,fe];show((mirror p i j ((j - i) / 2))[k]?).getD 0=_;rw[getElem?_mirror_all hj];split<;>rfl
theorem uJ{p:Array Nat}{k l:Nat}(hk:k < p.size)(hl:l<=k)(m:Nat):gN (bubble p k (k - l)) m=if m=l then gN p k else if l < m/\m<=k then gN p (m - 1) else gN p m:=by
 rw[fe,fe,fe,fe,getElem?_bubble hk _ (by omega)];have e:k - (k - l)=l:=by omega
 rw[e];split
 .rfl
 .split<;>rfl
structure Ord(lt:Nat->Nat->Bool):Prop where
 as:∀a b,lt a b=true->lt b a=false
 tr:∀a b c,lt b a=false->lt c b=false->lt c a=false
variable(O:Ord lt)
include O
theorem nH{p:Array Nat}(hp:PN n p):∀(f m:Nat),1<=m->m+f<=n->Srt lt p m->okW n lt (PySem.W.kas_asc p f m) (λr=>m<=r/\r<=m+f/\Srt lt p r/\(r < m+f->lt (gN p r) (gN p (r - 1))=true))
 |0,m,_,_,hs=>⟨Lx _,Lx _,hs,λh=>absurd h (Nc _)⟩
 |f+1,m,h1,h2,hs=>by
  refine⟨hp.lp (by omega),hp.lp (by omega),hp.ne (by omega) (by omega) (by omega),?_⟩;show okW n lt (if lt (gN p m) (gN p (m - 1))=true then _ else _) _;by_cases hc:lt (gN p m) (gN p (m - 1))=true
  .rw[if_pos hc];exact⟨Lx _,by omega,hs,λ_=>hc⟩
  .rw[if_neg hc];have hc':lt (gN p m) (gN p (m - 1))=false:=by simpa using hc
   refine dM (λr h=>⟨by omega,by omega,h.2.2.1,λhr=>h.2.2.2 (by omega)⟩) _ (nH hp f (m+1) (by omega) (by omega) λi j hij hj=>?_);by_cases e:j=m
   .subst e;by_cases e2:i=j - 1
    .rw[e2];exact hc'
    .exact O.tr _ _ _ (hs i (j - 1) (by omega) (by omega)) hc'
   .exact hs i j hij (by omega)
def Flat(lt:Nat->Nat->Bool)(p:Array Nat)(a b:Nat):Prop:=∀i j,a<=i->i < b->a<=j->j < b->lt (gN p i) (gN p j)=false
theorem uK{p:Array Nat}{a b:Nat}(hd:Dsc lt p m)(hf:Flat lt p a b)(hb:b<=m)(hm:m<=p.size):Dsc lt (kas_rev p a b) m:=by
 intro i j hij hj;rw[gY (by omega),gY (by omega)];by_cases hi':a<=i/\i < b
 .rw[if_pos hi'];by_cases hj':a<=j/\j < b
  .rw[if_pos hj'];exact hf _ _ (by omega) (by omega) (by omega) (by omega)
  .rw[if_neg hj'];exact hd _ _ (by omega) hj
 .rw[if_neg hi'];by_cases hj':a<=j/\j < b
  .rw[if_pos hj'];exact hd _ _ (by omega) (by omega)
  .rw[if_neg hj'];exact hd _ _ hij hj
theorem ky : ∀(f : Nat) (p : Array Nat) (m q : Nat), PN n p -> 1 <= m -> m + f <= n -> q < m -> Dsc lt p m -> Flat lt p (m - (q + 1)) m -> okW n lt (PySem.W.kas_desc f p m q)
   (λr=>PN n r.1/\m<=r.2.1/\r.2.1<=n/\r.2.2 < r.2.1/\Dsc lt r.1 r.2.1/\Flat lt r.1 (r.2.1 - (r.2.2+1)) r.2.1)
 |0,p,m,q,hp,h1,h2,hq,hd,hf=>⟨hp,Lx _,by show m<=n;omega,hq,hd,hf⟩
 |f+1,p,m,q,hp,h1,h2,hq,hd,hf=>by
  have hz:=hp.sz;have irr:∀a,lt a a=false:=λa=>by
   by_cases h:lt a a=true
   .have:=O.as _ _ h;rw[this] at h;cases h
   .simpa using h
  refine⟨hp.lp (by omega),hp.lp (by omega),hp.ne (by omega) (by omega) (by omega),?_⟩;show okW n lt (if lt (gN p m) (gN p (m - 1))=true then _ else _) _;by_cases hc:lt (gN p m) (gN p (m - 1))=true
  .rw[if_pos hc];have hc1:=O.as _ _ hc;have hd1:Dsc lt p (m+1):=λi j hij hj=>by
    by_cases e:j=m
    .subst e;by_cases e2:i=j - 1
     .rw[e2];exact hc1
     .exact O.tr _ _ _ hc1 (hd i (j - 1) (by omega) (by omega))
    .exact hd i j hij (by omega)
   have fl:∀p',Flat lt p' (m+1 - (0+1)) (m+1):=λp' i j a1 a2 a3 a4=>by
    have:i=j:=by omega
    rw[this];exact irr _
   by_cases hq0:q > 0
   .rw[if_pos hq0];refine dM (λr h=>⟨h.1,by omega,h.2.2.1,h.2.2.2.1,h.2.2.2.2⟩) _ (ky f _ (m+1) 0 (hp.rev _ _) (by omega) (by omega) (by omega) (uK O hd1 hf (by omega) (by omega)) (fl _))
   .rw[if_neg hq0];exact dM (λr h=>⟨h.1,by omega,h.2.2.1,h.2.2.2.1,h.2.2.2.2⟩) _ (ky f _ (m+1) 0 hp (by omega) (by omega) (by omega) hd1 (fl _))
  .rw[if_neg hc];have hc':lt (gN p m) (gN p (m - 1))=false:=by simpa using hc
   refine⟨hp.lp (by omega),hp.lp (by omega),hp.ne (by omega) (by omega) (by omega),?_⟩;show okW n lt (if lt (gN p (m - 1)) (gN p m)=true then _ else _) _;by_cases hb:lt (gN p (m - 1)) (gN p m)=true
   .rw[if_pos hb];exact⟨hp,Lx _,by show m<=n;omega,hq,hd,hf⟩
   .rw[if_neg hb];have hb':lt (gN p (m - 1)) (gN p m)=false:=by simpa using hb
    refine dM (λr h=>⟨h.1,by omega,h.2.2.1,h.2.2.2.1,h.2.2.2.2⟩) _ (ky f p (m+1) (q+1) hp (by omega) (by omega) (by omega) (λi j hij hj=>?_) (λi j a1 a2 a3 a4=>?_))
    .by_cases e:j=m
     .subst e;by_cases e2:i=j - 1
      .rw[e2];exact hb'
      .exact O.tr _ _ _ hb' (hd i (j - 1) (by omega) (by omega))
     .exact hd i j hij (by omega)
    .by_cases ei:i=m
     .subst ei;by_cases ej:j=i
      .rw[ej];exact irr _
      .exact O.tr _ _ _ (hf (i - 1) j (by omega) (by omega) (by omega) (by omega)) hc'
     .by_cases ej:j=m
      .subst ej;exact O.tr _ _ _ hb' (hf i (j - 1) (by omega) (by omega) (by omega) (by omega))
      .exact hf i j (by omega) (by omega) (by omega) (by omega)
theorem uL{p:Array Nat}(hp:PN nrem p)(h1:1<=m)(hm:m<=nrem)(hd:Dsc lt p m):okW nrem lt (PySem.W.kas_tail3 m nrem p) (λr=>PN nrem r.2/\1<=r.1/\r.1<=nrem/\Srt lt r.2 r.1):=by
 refine gX _ (dM (λr h=>?_) _ (nH O (hp.rev 0 m) (nrem - m) m h1 (by omega) λi j hij hj=>?_))
 .exact⟨hp.rev 0 m,by omega,by omega,h.2.2.1⟩
 .have hz:=hp.sz;rw[gY (by omega),gY (by omega),if_pos ⟨Ms _,hj⟩,if_pos ⟨Ms _,by omega⟩];exact hd _ _ (by omega) (by omega)
theorem uM{p:Array Nat}(hp:PN nrem p)(h1:1<=m)(hm:m+1<=nrem)(hd:Dsc lt p (m+1)):okW nrem lt (PySem.W.kas_descPart m nrem p) (λr=>PN nrem r.2/\1<=r.1/\r.1<=nrem/\Srt lt r.2 r.1):=by
 have irr:∀a,lt a a=false:=λa=>by
  by_cases h:lt a a=true
  .have:=O.as _ _ h;rw[this] at h;cases h
  .simpa using h
 refine gX _ (dM (λr h=>?_) _ (ky O (nrem - (m+1)) p (m+1) 0 hp (by omega) (by omega) (by omega) hd λi j a1 a2 a3 a4=>?_))
 .obtain⟨p',m',q'⟩:=r;obtain⟨hp',b1,b2,b3,b4,b5⟩:=h;dsimp only at hp' b1 b2 b3 b4 b5 ⊢;have hz:=hp'.sz;split
  .exact uL O (hp'.rev _ _) (by omega) b2 (uK O b4 b5 (Lx _) (by omega))
  .exact uL O hp' (by omega) b2 b4
 .have:i=j:=by omega
  rw[this];exact irr _
theorem F5{p:Array Nat}(hp:PN nrem p)(h1:1<=nrem):okW nrem lt (PySem.W.kas_count nrem p) (λr=>PN nrem r.2/\1<=r.1/\r.1<=nrem/\Srt lt r.2 r.1):=by
 have hz:=hp.sz;refine gX _ (dM (λm h=>?_) _ (nH O hp (nrem - 1) 1 (Lx _) (by omega) λi j hij hj=>by omega));obtain⟨b1,b2,b3,b4⟩:=h;by_cases e:m=nrem
 .rw[if_pos (by simp[e])];exact⟨hp,b1,by show m<=nrem;omega,b3⟩
 .rw[if_neg (by simp[e])];have hl:=b4 (by omega);have hl':=O.as _ _ hl;by_cases hm:m > 1
  .rw[if_pos hm];refine⟨hp.lp (by omega),hp.lp (by omega),hp.ne (by omega) (by omega) (by omega),?_⟩;show okW nrem lt (if lt (gN p 0) (gN p (m - 1))=true then _ else _) _;by_cases hc:lt (gN p 0) (gN p (m - 1))=true
   .rw[if_pos hc];exact⟨hp,b1,by show m<=nrem;omega,b3⟩
   .rw[if_neg hc];have hc':lt (gN p 0) (gN p (m - 1))=false:=by simpa using hc
    have irr:∀a,lt a a=false:=λa=>by
     by_cases h:lt a a=true
     .have:=O.as _ _ h;rw[this] at h;cases h
     .simpa using h
    have up:∀i,i < m->lt (gN p i) (gN p (m - 1))=false:=λi hi=>by
     by_cases e0:i=0
     .rw[e0];exact hc'
     .exact O.tr _ _ _ hc' (b3 0 i (by omega) hi)
    have dn:∀i,i < m->lt (gN p (m - 1)) (gN p i)=false:=λi hi=>by
     by_cases e0:i=m - 1
     .rw[e0];exact irr _
     .exact b3 i (m - 1) (by omega) (by omega)
    refine uM O (hp.rev 0 m) b1 (by omega) λi j hij hj=>?_
    rw[gY (by omega),gY (by omega),if_pos ⟨Ms _,by omega⟩];by_cases ej:j < m
    .rw[if_pos ⟨Ms _,ej⟩];exact O.tr _ _ _ (dn _ (by omega)) (up _ (by omega))
    .have ej':j=m:=by omega
     rw[if_neg (by omega),ej'];exact O.tr _ _ _ hl' (up _ (by omega))
  .rw[if_neg hm];have e1:m=1:=by omega
   subst e1;refine uM O hp (Lx _) (by omega) λi j hij hj=>?_
   have ei:i=0:=by omega
   have ej:j=1:=by omega
   subst ei;subst ej;exact hl'
theorem nI{p:Array Nat}{k:Nat}(hp:PN n p)(hk:k < n)(hs:Srt lt p k):∀(f l r:Nat),r<=k->l<=r->r - l<=f->(∀i,i < l->lt (gN p k) (gN p i)=false)->(∀i,r<=i->i < k->lt (gN p i) (gN p k)=false) ->
  okW n lt (QQ p k f l r) (λx=>x<=k/\(∀i,i < x->lt (gN p k) (gN p i)=false)/\(∀i,x<=i->i < k->lt (gN p i) (gN p k)=false))
 |0,l,r,h1,h2,h3,a,b=>⟨by omega,a,λi h=>b i (by omega)⟩
 |f+1,l,r,h1,h2,h3,a,b=>by
  unfold QQ;by_cases e:l ≥ r
  .rw[if_pos e];exact⟨by omega,a,λi h=>b i (by omega)⟩
  .rw[if_neg e];refine⟨hp.lp hk,hp.lp (by omega),hp.ne hk (by omega) (by omega),?_⟩;show okW n lt (if lt (gN p k) (gN p ((l+r) / 2))=true then _ else _) _;by_cases hc:lt (gN p k) (gN p ((l+r) / 2))=true
   .rw[if_pos hc];refine nI hp hk hs f l _ (by omega) (by omega) (by omega) a λi hi hik=>?_
    by_cases ei:i=(l+r) / 2
    .rw[ei];exact O.as _ _ hc
    .exact O.tr _ _ _ (O.as _ _ hc) (hs _ _ (by omega) hik)
   .rw[if_neg hc];have hc':lt (gN p k) (gN p ((l+r) / 2))=false:=by simpa using hc
    refine nI hp hk hs f _ r h1 (by omega) (by omega) (λi hi=>?_) b;by_cases ei:i=(l+r) / 2
    .rw[ei];exact hc'
    .exact O.tr _ _ _ (hs i _ (by omega) (by omega)) hc'
theorem uN:∀(f:Nat) (p:Array Nat) (k:Nat),PN n p->k+f=n->Srt lt p k->okW n lt (PySem.W.kas_bin f p k) (λr=>PN n r/\Srt lt r n)
 |0,p,k,hp,h,hs=>⟨hp,by rw[<- h];exact hs⟩
 |f+1,p,k,hp,h,hs=>by
  have hz:=hp.sz;refine gX _ (dM (λl hl=>?_) _ (nI O hp (by omega) hs k 0 k (Lx _) (Ms _) (by omega) (λi hi=>by omega) (λi a b=>by omega)));obtain⟨c1,c2,c3⟩:=hl;refine uN f _ (k+1) (hp.bub _ _) (by omega) λi j hij hj=>?_
  rw[uJ (by omega) c1,uJ (by omega) c1];by_cases ej:j=l
  .rw[if_pos ej,if_neg (by omega),if_neg (by omega)];exact c2 i (by omega)
  .rw[if_neg ej];by_cases ei:i=l
   .rw[if_pos ei,if_pos ⟨by omega,by omega⟩];exact c3 _ (by omega) (by omega)
   .rw[if_neg ei];by_cases hj':l < j/\j<=k
    .rw[if_pos hj'];by_cases hi':l < i/\i<=k
     .rw[if_pos hi'];exact hs _ _ (by omega) (by omega)
     .rw[if_neg hi'];exact hs _ _ (by omega) (by omega)
    .rw[if_neg hj',if_neg (by omega)];exact hs _ _ hij (by omega)
theorem uO(h1:1<=n):okW n lt (SS n) (λr=>PN n r/\Srt lt r n):=by
 refine gX _ (dM (λr h=>?_) _ (F5 O (p:=SC (Mz n)) (Ta _) h1));obtain⟨hp,b1,b2,b3⟩:=h;by_cases e:r.1 < n
 .rw[if_pos e];have em:max r.1 1=r.1:=by omega
  rw[em];exact uN O _ _ _ hp (by omega) b3
 .rw[if_neg e];have en:r.1=n:=by omega
  exact⟨hp,by rw[<- en];exact b3⟩
end
def Kept(h0 h:Heap):Prop:=∀b o,h0.get? b=some o->h.get? b=some o
structure uP(prog:Program)(w:World)(h0:Heap)(s:Shared)(vs:List Value)(κ:SortKind)(lt:Nat->Nat->Bool):Prop where
 kind:∀(A:Around) (h':Heap),Kept h0 h'->2<=vs.length->∀(Q:SortKind->Shared->Prop) (E:Value->Shared->Prop),Q κ {s with heap:=h'}->wpAny (model prog w) A (keyKind' vs.toArray) Q E {s with heap:=h'}
 ask:∀(A:Around) (h':Heap),Kept h0 h'->∀i j,i < vs.length->j < vs.length->i≠j->∀(C:Bool->Shared->Prop),C (lt i j) {s with heap:=h'}->wpAny (model prog w) A (keyLt' κ (vs.getD i .none) (vs.getD j .none)) C (λ_ _=>False) {s with heap:=h'}
section
variable{s:Shared}{κ:SortKind}{lt:Nat->Nat->Bool}
theorem F6{n:Nat}{P:Ob->Shared->Prop}(ho:s.heap.get? a=some (seqObj "list" vs.toArray n))
  (k0:Kept h0 s.heap)(ha0:h0.get? a=none)(O:Ord lt)(sq:uP prog w h0 s vs κ lt)(h64:vs.length < 64)
  (h:∀(p:Array Nat),PN vs.length p->Srt lt p vs.length->P (.done (.ret .none)) {s with heap:=sortedHeap s.heap a vs (p.toList.map λi=>vs.getD i .none).toArray}) :
  wpAny (model prog w) A (Builtin.«list.sort» ⟨[.ref a],[]⟩) P E s:=by
 rw[list_sort_plain];have ha:a < s.heap.objs.size:=LB ho;refine L1 (OT ho rfl ?_);refine L1 (NP ho rfl ?_ (by rw[Ly,MG];omega) (Ms _));obtain⟨e1,ho1⟩:∃e1,(s.heap.update a (Obj.mapSeq λ_=>(#[]:Array Value))).get? a=some (seqObj "list" #[] e1):=⟨_,Ov ho (λ_=> #[])⟩;refine L1 (Pb ho1 rfl ?_);refine L1 (Qa ?_ (by show vs.length<=_;rw[MG];omega));refine L1 (Oo ?_ (Ms _));refine Mn ?_;have ho6:(((s.heap.update a (Obj.mapSeq λ_=>(#[]:Array Value))).push (seqObj "tuple" vs.toArray 0)).push (seqObj "list" #[] 0)).get? a=some (seqObj "list" #[] e1):=by
  rw[MR _ _ _ (by rw[P0,NB];exact LJ (MQ ha)),MR _ _ _ (by rw[NB];exact LJ ha)];exact ho1
 have kk:Kept h0 (((s.heap.update a (Obj.mapSeq λ_=>(#[]:Array Value))).push (seqObj "tuple" vs.toArray 0)).push (seqObj "list" #[] 0)):=λb o e=>by
  refine L5 _ (L5 _ ?_);have hb:b≠a:=λq=>by rw[q,ha0] at e;cases e
  rw[MO _ _ _ _ hb];exact k0 b o e
 show wpAny (model prog w) A _ P E {s with heap:=((s.heap.update a (Obj.mapSeq λ_=>(#[]:Array Value))).push (seqObj "tuple" vs.toArray 0)).push (seqObj "list" #[] 0)};dsimp only;have hsz:vs.toArray.size=vs.length:=by simp
 by_cases h2:vs.toArray.size < 2
 .rw[if_pos h2,if_pos h2];refine L1 (L9 ?_);rw[StateT.run_pure];refine L1 (L9 ?_);dsimp only;have eo:(arrOf (SortSt.mk' general' (vs.toArray.zip vs.toArray) #[] 7 none)).map (·.2)=vs.toArray:=by
   apply NV.mp;show((vs.toArray.zip vs.toArray).map (·.2)).toList=vs.toArray.toList;simp;match vs,hsz,h2 with
   | [],_,_=>rfl
   | [_],_,_=>rfl
   |_::_::r,_,h2=>simp at h2;omega
  refine L1 (Pb ho6 rfl ?_);refine L1 (NP ho6 rfl ?_ (Ms _) (by rw[eo,Ly,MG];omega));rw[eo];simp only[bne_self_eq_false,Mr,if_false];have hl2:vs.length < 2:=by rw[hsz] at h2;exact h2
  have q:=h (Mz vs.length).toArray (by show MH _ _;rw[Qf]) (λi j hij hj=>by
   exfalso;omega)
  have ev:((Mz vs.length).toArray.toList.map λi=>vs.getD i .none).toArray=vs.toArray:=by
   match vs,hl2 with
   | [],_=>rfl
   | [_],_=>rfl
  rw[ev] at q;exact L9 q
 .rw[if_neg h2,if_neg h2];have hl2:2<=vs.length:=by rw[hsz] at h2;omega
  refine L1 (sq.kind A _ kk hl2 _ _ ?_);have ask:(SS vs.length).kasWp (kas_ask prog w A κ vs) (λp s'=>s'={s with heap:=((s.heap.update a (Obj.mapSeq λ_=>(#[]:Array Value))).push (seqObj "tuple" vs.toArray 0)).push (seqObj "list" #[] 0)}/\PN vs.length p/\Srt lt p vs.length)
    {s with heap:=((s.heap.update a (Obj.mapSeq λ_=>(#[]:Array Value))).push (seqObj "tuple" vs.toArray 0)).push (seqObj "list" #[] 0)} :=
   nG (I:=λs'=>s'={s with heap:=((s.heap.update a (Obj.mapSeq λ_=>(#[]:Array Value))).push (seqObj "tuple" vs.toArray 0)).push (seqObj "list" #[] 0)})
    (λi j C s' hi hj hne e hC=>by subst e;exact sq.ask A _ kk i j hi hj hne C (hC _ rfl)) (λp s' hp e=>⟨e,hp.1,hp.2⟩) _ _ (uO O (n:=vs.length) (by omega)) rfl
  refine L1 (M0 (Rv (Q:=λst' s'=>∃p:Array Nat,arrOf st'=p.map (R9 (vs.toArray.zip vs.toArray))/\failedOf st'=none/\(s'={s with heap:=((s.heap.update a (Obj.mapSeq λ_=>(#[]:Array Value))).push (seqObj "tuple" vs.toArray 0)).push (seqObj "list" #[] 0)}/\PN vs.length p/\Srt lt p vs.length))
   rfl hl2 h64 (λp' st' s' a1 a2 a3 a4=>⟨p',a2,a3,a4⟩) ask) ?_ λ_ _ e=>e)
  rintro⟨⟨⟩,st'⟩ s' ⟨p,har,hf,rfl,hp,hs⟩;dsimp only;have hout:=Ra rfl har;have hz2:(SC (p.toList.map λi=>vs.getD i My)).size=vs.length:=by rw[Ly,L0,M9,hp.sz]
  rw[hout];refine L1 (Pb ho6 rfl ?_);refine L1 (NP ho6 rfl ?_ (Ms _) (by rw[hz2,MG];omega));rw[hf];simp only[bne_self_eq_false,Mr,if_false];exact L9 (h p hp hs)
theorem uQ{Q:List Value->Shared->Prop}(hl:IsTup s.heap l vs.toArray)
  (h:Q vs {s with heap:=(s.heap.push (seqObj "list" #[] 0)).update s.heap.objs.size (Obj.mapSeq (·++ vs.toArray))})(hsz:vs.length<=sizeLine) :
  wpAny (model prog w) A (collect (.ref l)) Q E s:=by
 obtain⟨o,ho,hc,n,hd⟩:=id hl;unfold collect;refine L1 (RP (Ou entry_proto_collect' ?_));show wpAny _ _ (do again (.builtin "list.__iadd__" ⟨[<- newList [],.ref l],[]⟩)) _ _ s;refine L1 (Oo (L9 ⟨Code.quiet_builtin _ (by decide+kernel),Ou entry_list_iadd' ?_⟩) (Ms _));show wpAny _ _ (OS (.ref s.heap.objs.size) (.ref l) (.ref s.heap.objs.size)) _ _ {s with heap:=s.heap.push (seqObj "list" #[] 0)};unfold OS;have ho':(s.heap.push (seqObj "list" #[] 0)).get? l=some o:=L5 _ ho;refine L1 (QX (T:="tuple") ⟨o,ho',hc⟩ ?_);have ht:(NN "tuple"==NN "tuple")=true:=by rfl
 rw[if_pos (by rw[ht];simp)];refine L1 (OT ho' hd ?_);refine L1 (OT (xs:= #[]) (n:=0) (LC _ rfl) rfl ?_);rw[if_neg (by simp)];refine L1 (NP (xs:= #[]) (n:=0) (LC _ rfl) rfl ?_ (Ms _) (by show(#[]++vs.toArray).size<=sizeLine+1;simp only[Array.size_append,Ly,ON];omega));refine L9 ?_;show wpAny (model prog w) A (do
   let o<-load s.heap.objs.size
   match o.data with
   | .seq xs _=>pure xs.toList
   |_=>unsupported "internal:collect") Q E {s with heap:=(s.heap.push (seqObj "list" #[] 0)).update s.heap.objs.size (Obj.mapSeq (·++ vs.toArray))}
 refine L1 (wpAny_load (Ov (LC _ rfl) _) ?_);show wpAny _ _ (pure ((#[]:Array Value)++vs.toArray).toList) Q E _;rw[show((#[]:Array Value)++vs.toArray).toList=vs by simp];exact L9 h
theorem F7{Q:Value->Shared->Prop}(hl:s.heap.IsList l vs.toArray\/IsTup s.heap l vs.toArray)(O:Ord lt)(sq:uP prog w s.heap s vs κ lt)(h64:vs.length < 64)
  (h:∀(p:Array Nat),PN vs.length p->Srt lt p vs.length->Q (.ref (s.heap.objs.size+1)) {s with heap:=sortedAll s.heap vs (p.toList.map λi=>vs.getD i .none).toArray}) :
  wpAny (model prog w) A (call (.builtin "sorted") [.ref l]) Q E s:=by
 refine Calls.call_function_entry Rs R1 R3 (SH _) ?_;unfold Builtin.«sorted»;refine L1 (m:=checkCount "sorted" 1 1 _) (L9 ?_);have g:∀{A':Around} {E':Value->Shared->Prop} (R:List Value->Shared->Prop),R vs {s with heap:=(s.heap.push (seqObj "list" #[] 0)).update s.heap.objs.size (Obj.mapSeq (·++ vs.toArray))}->wpAny (model prog w) A' (collect (.ref l)) R E' s :=
  λR r=>hl.elim (λq=>SJ q r (by rw[MG];omega)) λq=>uQ q r (by rw[MG];omega)
 refine L1 (g _ ?_);refine L1 (Oo ?_ (by rw[MG];omega));have hsz:((s.heap.push (seqObj "list" #[] 0)).update s.heap.objs.size (Obj.mapSeq (·++ vs.toArray))).objs.size=s.heap.objs.size+1:=by
  rw[NB,P0]
 have hoL:(((s.heap.push (seqObj "list" #[] 0)).update s.heap.objs.size (Obj.mapSeq (·++ vs.toArray))).push (seqObj "list" vs.toArray 0)).get? (s.heap.objs.size+1)=some (seqObj "list" vs.toArray 0):=by
  rw[<- hsz];exact LC _ rfl
 have keep:Kept s.heap (((s.heap.push (seqObj "list" #[] 0)).update s.heap.objs.size (Obj.mapSeq (·++ vs.toArray))).push (seqObj "list" vs.toArray 0)):=λb o q=>by
  have hlt:b < s.heap.objs.size:=LB q;rw[MR _ _ _ (by rw[hsz];exact LJ (MQ hlt)),MO _ _ _ _ (LJ hlt),MR _ _ _ (LJ hlt)];exact q
 show wpAny _ _ _ _ _ {s with heap:=((s.heap.push (seqObj "list" #[] 0)).update s.heap.objs.size (Obj.mapSeq (·++ vs.toArray))).push (seqObj "list" vs.toArray 0)};rw[hsz];refine L1 (Mn (Nr Q9 ⟨_,hoL,rfl⟩ PP
  (F6 (s:={s with heap:=((s.heap.push (seqObj "list" #[] 0)).update s.heap.objs.size (Obj.mapSeq (·++ vs.toArray))).push (seqObj "list" vs.toArray 0)}) (h0:=s.heap) (κ:=κ) (lt:=lt) hoL keep (OL (MN _)) O ⟨sq.kind,sq.ask⟩ h64 λp a1 a2=>⟨_,rfl,?_⟩) (RQ _)))
 exact L9 ⟨_,rfl,h p a1 a2⟩
end
def sLt(a b:Str):Bool:=decide (a.cps.toList < b.cps.toList)
theorem uR{a b:Str}(h:sLt a b=true):sLt b a=false:=by
 unfold sLt at *; rw[decide_eq_true_eq] at h;rw[decide_eq_false_iff_not];exact List.lt_asymm h
theorem uS{a b c:Str}(h:sLt b a=false)(h':sLt c b=false):sLt c a=false:=by
 unfold sLt at *; rw[decide_eq_false_iff_not] at *;exact List.le_trans (show a.cps.toList<=b.cps.toList from h) h'
theorem F8{a b:Str}(h:sLt a b=false)(h':sLt b a=false):a=b:=by
 unfold sLt at *; rw[decide_eq_false_iff_not] at *;have e:a.cps.toList=b.cps.toList:=Rb (show a.cps.toList<=b.cps.toList from h') h;cases a;cases b;simp only[Pu];exact NV.mp e
def vLt:List V->List V->Option Bool
 | [],[]=>some false
 | [],_::_=>some true
 |_::_,[]=>some false
 | .str a::xs,.str b::ys=>if a=b then vLt xs ys else some (sLt a b)
 | .int a::xs,.int b::ys=>if a=b then vLt xs ys else some (decide (a < b))
 |_::_,_::_=>none
theorem nJ:∀{x y:List V},vLt x y=some true->vLt y x=some false
 | [],[],h=>by simp[vLt] at h
 | [],_::_,h=>rfl
 |_::_,[],h=>by simp[vLt] at h
 |u::x,v::y,h=>by
  cases u<;>cases v<;>first | (simp[vLt] at h;done)|skip
  case int a b =>
   unfold vLt at h ⊢;by_cases e:a=b
   .rw[if_pos e] at h;rw[if_pos e.symm];exact nJ h
   .rw[if_neg e] at h;rw[if_neg λz=>e z.symm];have:a < b:=by simpa using h
    simp;omega
  case str a b =>
   unfold vLt at h ⊢;by_cases e:a=b
   .rw[if_pos e] at h;rw[if_pos e.symm];exact nJ h
   .rw[if_neg e] at h;rw[if_neg λz=>e z.symm];rw[uR (by simpa using h)]
theorem nK:∀{x y z:List V},vLt y x=some false->vLt z y=some false->vLt z x=some false
 | [],y,z,h,h'=>by
  cases z with
  |nil =>
   rfl
  |cons _ _=>rfl
 |u::x,[],z,h,h'=>by simp[vLt] at h
 |u::x,v::y,[],h,h'=>by simp[vLt] at h'
 |u::x,v::y,t::z,h,h'=>by
  cases u<;>cases v<;>first | (simp[vLt] at h;done)|skip
  case int a b =>
   cases t<;>first | (simp[vLt] at h';done)|skip
   rename_i c;unfold vLt at h h' ⊢;by_cases e:b=a
   .rw[if_pos e] at h;subst e;by_cases e2:c=b
    .rw[if_pos e2] at h' ⊢; exact nK h h'
    .rw[if_neg e2] at h' ⊢; exact h'
   .rw[if_neg e] at h;have h1:¬ b < a:=by simpa using h
    by_cases e2:c=b
    .subst e2;rw[if_neg e];exact h
    .rw[if_neg e2] at h';have h2:¬ c < b:=by simpa using h'
     rw[if_neg (by omega)];simp;omega
  case str a b =>
   cases t<;>first | (simp[vLt] at h';done)|skip
   rename_i c;unfold vLt at h h' ⊢;by_cases e:b=a
   .rw[if_pos e] at h;subst e;by_cases e2:c=b
    .rw[if_pos e2] at h' ⊢; exact nK h h'
    .rw[if_neg e2] at h' ⊢; exact h'
   .rw[if_neg e] at h;have h1:sLt b a=false:=by simpa using h
    by_cases e2:c=b
    .subst e2;rw[if_neg e];exact h
    .rw[if_neg e2] at h';have h2:sLt c b=false:=by simpa using h'
     have h3:=uS h1 h2;have e3:c≠a:=λz=>by
      subst z;exact e (F8 h1 h2)
     rw[if_neg e3,h3]
def vAt(rs:List (List V))(i j:Nat):Bool:=vLt (rs.getD i []) (rs.getD j [])==some true
theorem F9{rs:List (List V)}(h:∀i j,i≠j->(vLt (rs.getD i []) (rs.getD j [])).isSome):Ord (vAt rs) where
 as:=λa b e=>by
  have e':vLt (rs.getD a []) (rs.getD b [])=some true:=by simpa [vAt] using e
  show(_==_)=false;rw[nJ e'];rfl
 tr:=λa b c e e'=>by
  by_cases hab:a=b
  .subst hab;exact e'
  .by_cases hbc:b=c
   .subst hbc;exact e
   .have f:∀{i j},i≠j->vAt rs i j=false->vLt (rs.getD i []) (rs.getD j [])=some false:=λ{i j} hij q=>by
     have s:=h i j hij;have q':(vLt (rs.getD i []) (rs.getD j [])==some true)=false:=q;cases z:vLt (rs.getD i []) (rs.getD j []) with
     |none=>rw[z] at s;cases s
     |some b=>cases b with
      |true=>rw[z] at q';exact absurd q' (by decide)
      |false=>rfl
    have r:=nK (f (λz=>hab z.symm) e) (f (λz=>hbc z.symm) e');show(_==_)=false;rw[r];rfl
section
variable{s:Shared}
theorem nL{Q:Bool->Shared->Prop}{c:Bool}:∀{xs ys:List V} {us ws:List Value} {i:Nat} {fin:Bool},Vals xs us->Vals ys ws->fin=decide (xs.length < ys.length)->vLt xs ys=some c->Q c s ->
  PySem.W.KatLex prog w A true fin Q (us.zip ws) i s
 | [],[],_,_,i,fin,.nil,.nil,hf,h,q=>by
  simp[vLt] at h;subst h;subst hf;exact kat_nil q
 | [],_::_,_,_,i,fin,.nil,.cons _ _,hf,h,q=>by
  simp[vLt] at h;subst h;subst hf;exact kat_nil (by simpa using q)
 |_::_,[],_,_,i,fin,.cons _ _,.nil,hf,h,q=>by
  simp[vLt] at h;subst h;subst hf;exact kat_nil (by simpa using q)
 |u::x,v::y,_,_,i,fin,.cons a ta,.cons b tb,hf,h,q=>by
  cases u<;>cases v<;>first | (simp[vLt] at h;done)|skip
  case int m n =>
   obtain⟨t,rfl⟩:=a;obtain⟨t',rfl⟩:=b;unfold vLt at h;refine Rc (Rg ?_);by_cases e:m=n
   .rw[if_pos e] at h;rw[show(m==n)=true by simpa using e];exact Rw (nL ta tb (by rw[hf];simp) h q)
   .rw[if_neg e] at h;rw[show(m==n)=false by simpa using e];have hc:decide (m < n)=c:=by simpa using h
    refine RH ?_;cases i with
    |zero=>exact oneLt_int (by rw[hc];exact q)
    |succ i=>exact Rx _ _ (lt_int (show Re Q (.bool _) s from by show Q _ s;rw[hc];exact q))
  case str m n =>
   obtain⟨t,rfl⟩:=a;obtain⟨t',rfl⟩:=b;unfold vLt at h;refine Rc (Rh ?_);by_cases e:m=n
   .rw[if_pos e] at h;rw[show decide (m=n)=true by simpa using e];exact Rw (nL ta tb (by rw[hf];simp) h q)
   .rw[if_neg e] at h;rw[show decide (m=n)=false by simpa using e];have hc:decide (m.cps.toList < n.cps.toList)=c:=by simpa [sLt] using h
    refine RH ?_;cases i with
    |zero=>exact oneLt_str (by rw[hc];exact q)
    |succ i=>exact Rx _ _ (lt_str (show Re Q (.bool _) s from by show Q _ s;rw[hc];exact q))
end
def Fst(rs:List (List V)):Prop:=(∀r∈rs,∃x t,r= .str x::t)\/(∀r∈rs,∃x t,r= .int x::t)
def i4(K:Frag)(H:Hp):List Addr->List (List V)->Prop:=Paired λa ys=>SqT K H a ys
section
variable{s:Shared}
theorem uT{h':Heap}(k:Kept s.heap h')(I:Inv X pins σ H s){T:String}:∀{as:List Addr} {rs:List (List V)},i4 X.K H as rs->(∀r∈rs,∃x t,r=x::t/\∀u,RelV x u->(typeOf u=(pure (.type T):Sem Value))) ->
  ∃fs,PySem.W.KatTups h' (as.map M4) fs/\fs.length=as.length/\∀v∈fs,typeOf v=(pure (.type T):Sem Value)
 |_,_,.nil,_=>⟨[],.nil,rfl,λ_ h=>by cases h⟩
 |a::as,ys::rs,.cons q t,f=>by
  obtain⟨x,r,rfl,hx⟩:=f _ (.head _);obtain⟨its,v,⟨o,ho,hc,n,hd⟩,_⟩:=I.tuple q;obtain⟨fs,h1,h2,h3⟩:=uT k I t λr hr=>f r (.tail _ hr)
  cases v with
  |cons a1 a2 =>
   rename_i u us;refine⟨u::fs,.cons (k _ _ ho) hc hd (by simp) h1,by simp[h2],λv hv=>?_⟩;rcases LD.mp hv with rfl|hv
   .exact hx _ a1
   .exact h3 _ hv
theorem uU{as:List Addr}{rs:List (List V)}{i:Nat}:i4 X.K H as rs->i < as.length->∃a ys,as[i]? = some a/\rs.getD i []=ys/\SqT X.K H a ys:=λr hi=>by
 induction r generalizing i with
 |nil=>simp at hi
 |cons q t ih =>
  cases i with
  |zero=>exact⟨_,_,rfl,rfl,q⟩
  |succ i =>
   obtain⟨a,ys,e,e2,z⟩:=ih (i:=i) (by simpa using hi);exact⟨a,ys,by simpa using e,by simpa using e2,z⟩
end
section
variable(K:Frag)
def kz:List V->Hp->VK->Prop:=λxs H Q=>∃p as rs,xs=[.ref p]/\(SqL K H p (as.map V.ref)\/SqT K H p (as.map V.ref))/\i4 K H as rs/\as.length < 64/\Fst rs/\(∀i j,i≠j->(vLt (rs.getD i []) (rs.getD j [])).isSome) /\
 ∀(q:Array Nat) l,PN as.length q->Srt (vAt rs) q as.length->H l=none->Q (.ref l) (upd H l (.lst (q.toList.map λi=>V.ref (as.getD i 0))))
theorem nM:∀{as:List Addr} {us:List Value},Vals (as.map V.ref) us->us=as.map M4
 | [],_,h=>by cases h;rfl
 |a::as,_,h=>by
  cases h with
  |cons a1 a2=>rw[show _=M4 a from a1,nM a2];rfl
theorem uV:∀(as:List Addr),Vals (as.map V.ref) (as.map M4)
 | []=> .nil
 |a::as=> .cons rfl (uV as)
theorem F_(h:X.K=K:=by rfl):zQ X (.builtin "sorted") (kz K):=by
 subst h;intro pins s σ H xs us Q I r h;obtain⟨p,as,rs,rfl,hl,hr,hz,hF,hS,q⟩:=h;obtain⟨u,rfl,rx⟩:=vals1 r;cases rx;have hv:s.heap.IsList p (as.map M4).toArray\/IsTup s.heap p (as.map M4).toArray:=by
  rcases hl with hl|hl
  .obtain⟨its,r',pl,_⟩:=I.list hl;rw[nM r'] at pl;exact .inl pl.isList
  .obtain⟨its,r',pl,_⟩:=I.tuple hl;rw[nM r'] at pl;exact .inr pl
 have hlen:(as.map M4).length=as.length:=L0 ..;have tT:∃T:String,(NN T !=NN "tuple")=true/\(NN T==NN T)=true/\∀r∈rs,∃x t,r=x::t/\∀u,RelV x u->(typeOf u=(pure (.type T):Sem Value)):=by
  rcases hF with hF|hF
  .refine⟨"str",by decide,by decide,λr hr=>?_⟩;obtain⟨x,t,rfl⟩:=hF r hr;exact⟨_,t,rfl,λu hu=>by obtain⟨t,rfl⟩:=hu;rfl⟩
  .refine⟨"int",by decide,by decide,λr hr=>?_⟩;obtain⟨x,t,rfl⟩:=hF r hr;exact⟨_,t,rfl,λu hu=>by obtain⟨t,rfl⟩:=hu;rfl⟩
 obtain⟨T,hT1,hT2,hT3⟩:=tT;refine F7 (κ:=tuples' true) (lt:=vAt rs) hv (F9 hS) ⟨λA h' k h2 Q E hq=>?_,λA h' k i j hi hj hij C hC=>?_⟩ (by rw[hlen];exact hz) λp' h1 h2=>?_
 .obtain⟨fs,f1,f2,f3⟩:=uT k I hr hT3;refine PySem.W.kat_kind f1 (by rw[f2];rw[hlen] at h2;omega) (λv hv=>SK (f3 v hv)) hT2 ?_;rw[hT1];exact hq
 .rw[hlen] at hi hj;obtain⟨a,ys,e1,e2,z⟩:=uU hr hi;obtain⟨b,zs,e3,e4,z'⟩:=uU hr hj;obtain⟨its,v,⟨o,ho,hc,n,hd⟩,_⟩:=I.tuple z;obtain⟨its',v',⟨o',ho',hc',n',hd'⟩,_⟩:=I.tuple z';rw[show(as.map M4).getD i .none= .ref a by simp[e1],show(as.map M4).getD j .none= .ref b by simp[e3]];refine PySem.W.kat_lt (s:={s with heap:=h'}) (k _ _ ho) hd (k _ _ ho') hd' ?_;have hs:=hS i j hij;have hval:vLt ys zs=some (vAt rs i j):=by
   unfold vAt;rw[e2,e4] at hs ⊢;cases w:vLt ys zs with
   |none=>rw[w] at hs;cases hs
   |some b=>cases b<;>rfl
  exact nL (xs:=ys) (ys:=zs) (by simpa using v) (by simpa using v') (by simp[v.length,v'.length]) hval hC
 .rw[hlen] at h1 h2;obtain⟨e,he⟩:=R0 s.heap (as.map M4) (p'.toList.map λi=>(as.map M4).getD i .none).toArray;have hf:H (s.heap.objs.size+1)=none:=I.hok.fresh (MN _);have hout:(p'.toList.map λi=>(as.map M4).getD i .none)=(p'.toList.map λi=>as.getD i 0).map M4:=by
   rw[MK];refine Qg λi hi=>?_
   have hi':i < as.length:=MS.mp (h1.mem_iff.mp hi);simp[hi']
  refine⟨.ref (s.heap.objs.size+1),_,I.laid (a:=s.heap.objs.size+1) (o:= .lst (p'.toList.map λi=>V.ref (as.getD i 0))) (t':=s.toks) (λb o e=>Qo e) (MN _) ?_,rfl,q p' _ h1 h2 hf⟩;refine⟨by rw[L0,M9,h1.sz];exact M6 (Nd hz) (by decide),(p'.toList.map λi=>as.getD i 0).map M4,e,?_,?_⟩
  .have:=uV (p'.toList.map λi=>as.getD i 0);rw[MK] at this;exact this
  .rw[he,hout]
end
def bZ:List D->List D->Option Bool
 | [],[]=>some false
 | [],_::_=>some true
 |_::_,[]=>some false
 | .str a::xs,.str b::ys=>if a=b then bZ xs ys else some (sLt a b)
 | .int a::xs,.int b::ys=>if a=b then bZ xs ys else some (decide (a < b))
 |_::_,_::_=>none
section
variable{W:Wd}
theorem kA{c:Bool}:∀{ds es:List D} {xs ys:List V},zx K W ds xs->zx K W es ys->bZ ds es=some c->vLt xs ys=some c
 | [],[],_,_,a,b,h=>by rw[a.nil',b.nil'];simp[bZ] at h;subst h;rfl
 | [],_::_,_,_,a,b,h=>by obtain⟨y,r,rfl,_⟩:=b.uncons;rw[a.nil'];simp[bZ] at h;subst h;rfl
 |_::_,[],_,_,a,b,h=>by obtain⟨y,r,rfl,_⟩:=a.uncons;rw[b.nil'];simp[bZ] at h;subst h;rfl
 |d::ds,e::es,_,_,a,b,h=>by
  obtain⟨x,xs,rfl,qx,a'⟩:=a.uncons;obtain⟨y,ys,rfl,qy,b'⟩:=b.uncons;cases d<;>cases e<;>first | (simp[bZ] at h;done)|skip
  case int m n =>
   rw[qx.i',qy.i'];unfold bZ at h;unfold vLt;by_cases z:m=n
   .rw[if_pos z] at h ⊢; exact kA a' b' h
   .rw[if_neg z] at h ⊢; exact h
  case str m n =>
   rw[qx.s',qy.s'];unfold bZ at h;unfold vLt;by_cases z:m=n
   .rw[if_pos z] at h ⊢; exact kA a' b' h
   .rw[if_neg z] at h ⊢; exact h
theorem uW:∀{rows:List (List D)} {xs:List V},zx K W (rows.map D.tup) xs->∃as rs,xs=as.map V.ref/\i4 K W.F as rs/\Paired (λds ys=>zx K W ds ys) rows rs
 | [],_,h=>⟨[],[],by rw[h.nil'];rfl,.nil,.nil⟩
 |_::_,_,h=>by
  obtain⟨x,r,rfl,q,z⟩:=h.uncons;obtain⟨a,ys,rfl,e,q⟩:=q.tup';obtain⟨as,rs,rfl,h1,h2⟩:=uW z;exact⟨a::as,ys::rs,rfl,.cons e h1,.cons q h2⟩
theorem Ga{i:Nat}:∀{rows:List (List D)} {as:List Addr} {rs:List (List V)},i4 K W.F as rs->Paired (λds ys=>zx K W ds ys) rows rs->i < as.length ->
  ∃a,as.getD i 0=a/\SqT K W.F a (rs.getD i [])/\zx K W (rows.getD i []) (rs.getD i []):=λ{rows as rs} h g hi=>by
 induction h generalizing i rows with
 |nil=>simp at hi
 |cons q t ih =>
  cases g with
  |cons g1 g2 =>
   cases i with
   |zero=>exact⟨_,rfl,q,g1⟩
   |succ i=>obtain⟨a,e1,e2,e3⟩:=ih g2 (i:=i) (by simpa using hi);exact⟨a,by simpa using e1,by simpa using e2,by simpa using e3⟩
theorem kB:∀{rows:List (List D)} {rs:List (List V)},Paired (λds ys=>zx K W ds ys) rows rs->∀i,zx K W (rows.getD i []) (rs.getD i []):=λ{rows rs} g=>by
 induction g with
 |nil=>intro i;simp[zx.nil]
 |cons g1 _ ih =>
  intro i;cases i with
  |zero=>exact g1
  |succ i=>simpa using ih i
end
def nN(rs:List (List D)):Prop:=(∀r∈rs,∃x t,r= .str x::t)\/(∀r∈rs,∃x t,r= .int x::t)
theorem Gb{W:Wd}:∀{rows:List (List D)} {rs:List (List V)},Paired (λds ys=>zx K W ds ys) rows rs->nN rows->Fst rs:=λ{rows rs} g h=>by
 rcases h with h|h
 .refine .inl ?_;induction g with
  |nil=>intro r hr;cases hr
  |cons g1 _ ih =>
   intro r hr;rcases LD.mp hr with rfl|hr
   .obtain⟨x,t,rfl⟩:=h _ (.head _);obtain⟨y,s,rfl,q,_⟩:=g1.uncons;exact⟨x,s,by rw[q.s']⟩
   .exact ih (λr hr=>h r (.tail _ hr)) r hr
 .refine .inr ?_;induction g with
  |nil=>intro r hr;cases hr
  |cons g1 _ ih =>
   intro r hr;rcases LD.mp hr with rfl|hr
   .obtain⟨x,t,rfl⟩:=h _ (.head _);obtain⟨y,s,rfl,q,_⟩:=g1.uncons;exact⟨x,s,by rw[q.i']⟩
   .exact ih (λr hr=>h r (.tail _ hr)) r hr
def rLe(a b:List D):Prop:=bZ b a≠some true
def kC:DRs:=λds μ Q=>match ds with
 | [d]=>∃rows:List (List D),(af μ d=some (rows.map D.tup)\/d= .tup (rows.map D.tup))/\rows.length < 64/\nN rows/\(∀i j,i≠j->(bZ (rows.getD i []) (rows.getD j [])).isSome) /\
   ∀rows',MH rows' rows->Ol rLe rows'->Q (.lst (rows'.map D.tup)) μ
 |_=>False
instance:bj K fl (kz K) kC:=⟨λ{W μ H ds xs Q Q'} r z h k=>by
 unfold kC at h;split at h
 .obtain⟨x,rfl,q⟩:=z.one;obtain⟨rows,hl,hz,hF,hS,h⟩:=h;have hx:∃p xs,x= .ref p/\(SqL K H p xs\/SqT K H p xs)/\zx K W (rows.map D.tup) xs:=by
   rcases hl with hl|rfl
   .obtain⟨a,xs,rfl,e1,z1⟩:=cQ r q hl;exact⟨a,xs,rfl,.inl (SqL.of e1),z1⟩
   .obtain⟨a,xs,rfl,e1,z1⟩:=q.tup';exact⟨a,xs,rfl,.inr (e1.sm r.sub),z1⟩
  obtain⟨p,xs,rfl,hp,z1⟩:=hx;obtain⟨as,rs,rfl,g1,g2⟩:=uW z1;have la:as.length=rows.length:=by have a:=Paired.length g1;have b:=Paired.length g2;omega
  have iSm:∀{o:Option Bool},o.isSome->∃c,o=some c:=λ{o} h=>by cases o with
   |none=>cases h
   |some c=>exact⟨c,rfl⟩
  refine⟨p,as,rs,rfl,hp,Paired.mapP g1 λa ys e=>e.sm r.sub,by omega,Gb g2 hF,λi j hij=>?_,λqq l h1 h2 hl=>?_⟩
  .obtain⟨c,hc⟩:=iSm (hS i j hij);rw[kA (kB g2 i) (kB g2 j) hc];rfl
  .have mem:∀i∈qq.toList,i < as.length:=λi hi=>MS.mp (h1.mem_iff.mp hi)
   obtain⟨r2,le2⟩:=r.newF (o:= .lst (qq.toList.map λi=>V.ref (as.getD i 0))) hl;refine k _ (.lst ((qq.toList.map λi=>rows.getD i []).map D.tup)) _ _ _ le2 r2 (.lst zA ?_) (h _ ?_ ?_)
   .have go:∀l:List Nat,(∀i∈l,i < as.length)->zx K W ((l.map λi=>rows.getD i []).map D.tup) (l.map λi=>V.ref (as.getD i 0)):=λl=>by
     induction l with
     |nil=>intro _;exact .nil
     |cons i l ih =>
      intro hm;obtain⟨a,e1,e2,e3⟩:=Ga g1 g2 (hm i (.head _));refine .cons ?_ (ih λj hj=>hm j (.tail _ hj));dsimp only;rw[e1];exact .tup e2 e3
    exact(go _ mem).mono le2
   .have e:rows=(Mz as.length).map λi=>rows.getD i []:=by
     apply Nv;intro i;rw[la];by_cases hi:i < rows.length
     .simp[hi]
     .simp[hi,Pj hi]
    have h1':MH (qq.toList.map λi=>rows.getD i []) ((Mz as.length).map λi=>rows.getD i []):=h1.map _;rw[<- e] at h1';exact h1'
   .rw[QR,MA];intro i j hi hj hij;have hn:qq.toList.length=as.length:=by rw[M9,h1.sz]
    have gi:gN qq i=qq.toList[i]:=(by
     have z:i < qq.size:=(by simpa using hi);show qq.getD i 0=_;simp[OW,z])
    have gj:gN qq j=qq.toList[j]:=(by
     have z:j < qq.size:=(by simpa using hj);show qq.getD j 0=_;simp[OW,z])
    have:=h2 i j hij (by omega);rw[gi,gj] at this;intro hd;unfold vAt at this;rw[kA (kB g2 _) (kB g2 _) hd] at this;exact absurd this (by decide)
 .exact h.elim⟩
def uX(K:Frag):List V->Hp->VK->Prop:=λxs H Q=>km K xs H Q\/kz K xs H Q
theorem Gc(K:Frag)(h:X.K=K:=by rfl)(hc:X.calm=true:=by rfl):zQ X (.builtin "sorted") (uX K):=(ko K h hc).or (F_ K h)
def kD:DRs:=λds μ Q=>fb ds μ Q\/kC ds μ Q
instance:bj K fl (uX K) kD:=⟨λ{W μ H ds xs Q Q'} r z h k=>by
 rcases h with h|h
 .exact .inl (bj.run (K:=K) (r:=km K) (q:=fb) r z h k)
 .exact .inr (bj.run (K:=K) (r:=kz K) (q:=kC) r z h k)⟩
theorem Gd{rows:List (List D)}{d:D}(hl:af μ d=some (rows.map D.tup)\/d= .tup (rows.map D.tup))(hz:rows.length < 64)(hF:nN rows)(hS:∀i j,i≠j->(bZ (rows.getD i []) (rows.getD j [])).isSome)(h:∀rows',MH rows' rows->Ol rLe rows'->Q (.lst (rows'.map D.tup)) μ):kD [d] μ Q:= .inr ⟨rows,hl,hz,hF,hS,h⟩
section
variable{W:Wd}
end
section
variable{t:TA}{w:DA}
end
section
variable{R:Result->Shared->Prop}{I:Addr}{wr:List Addr}{n:Nat}{P:Nat->Value->Prop}{St:Nat->Heap->Prop}
end
section
variable{s:Shared}
end
section
variable(K:Frag)
end
abbrev EmT:=St->Hp->List V->(List V->Hp->Prop)->Prop
variable{tem:EmT}
def kE(te:TE):EmT:=λσ H ys Q=>ys.length < sizeLine/\te σ H λv H5=>Q (ys++[v]) H5
def i5(J:It)(g:TG)(tc:TT)(tem:EmT)(σb:St)(Fin:List V->Hp->Prop)(W:Nat->Nat->List V->Hp->Prop):Prop :=
 ∀i m ys H,W i m ys H->(J.stop i H/\Fin ys H)\/(J.go i H/\∃N:List V->Hp->Prop,(∀ys' H',N ys' H'->∃m',m' < m/\W (i+1) m' ys' H')/\∀x H',J.yld i H x H'->g x σb H' λσ2 H3=>Sub σb σ2/\tc σ2 H3 λb H4 =>
  if b=true then tem σ2 H4 ys N else N ys H4)
def kF(wi:TI)(g:TG)(tc:TT)(tem:EmT):EmT:=λσ H ys Q=>wi σ H λJ H1=>∃W:Nat->Nat->List V->Hp->Prop,(∃m,W 0 m ys H1)/\i5 J g tc tem σ Q W
inductive Gens(Y:Cx)(elt:Expr):List Comprehension->EmT->Prop
 |nil {te:TE}:PE Y elt te->Gens Y elt [] (kE te)
 |cons {tg iter:Expr} {ifs:List Expr} {wi:TI} {g:TG} {tc:TT} {rest:List Comprehension} {tem:EmT}:PI Y tg iter wi->PG Y tg g->PTs Y ifs tc->(∀x,foldedSetIterable iter Y.env x=pure x)->Gens Y elt rest tem->Gens Y elt (⟨tg,iter,ifs,0⟩::rest) (kF wi g tc tem)
theorem Ge{R:Result->Shared->Prop}{s:Shared}{gens:List Comprehension}{d:Nat}{it acc:Value}(hd:gens[d]? = some ⟨tg,iter,ifs,0⟩)
  (h0:codeAny (model prog w) A (.compLoop (.ListComp elt gens scope pos) d it acc env) R s)
  (h:wpAny (model prog w) A (pyIter it) (λit' s'=>codeAny (model prog w) A (.compLoop (.ListComp elt gens scope pos) d it' acc env) R s') (notedBy (model prog w) A env λx s'=>R (.error x) s') s) :
  codeAny (model prog w) A (.compStart (.ListComp elt gens scope pos) d it acc env) R s:=by
 refine RA ?_;show wpAny _ _ ((compStart (.ListComp elt gens scope pos) d it acc env).onRaise _) _ _ s;refine wpAny_notedAt ?_;unfold compStart;have e:(clausesOf (.ListComp elt gens scope pos))[d]? = some ⟨tg,iter,ifs,0⟩:=hd;rw[e];show wpAny _ _ (if ((0:Int) !=0)=true then _ else _) _ _ s;rw[if_neg (by decide)];refine L1 (wpAny_askSetting ?_);refine wpAny_ite ?_;by_cases hq:(({program:=(model prog w).prog,params:=(model prog w).w.params}:PySem.Setting).params.followText "comprehension-iter-twice")=true
 .rw[if_pos hq];exact L1 (L9 (L9 ⟨rfl,h0⟩))
 .rw[if_neg hq];refine L1 (QE (L1 (Ni (L1 (M0 h (λit' s' h'=>L9 ⟨rfl,h'⟩) λ_ _ h=>h)))))
def kG(elt:Expr)(gens:List Comprehension)(scope:Scope)(pos:Pos)(d:Nat)(acc:Value)(env:Env)(k:Sem Ob):Sem Ob:=match gens[d+1]? with
 |some g'=>do
  let x<-eval g'.iter env
  standAt g'.iter.pos
  if (g'.is_async !=0)=true then do
   let x<-foldedIterable g'.iter x
   let it'<-holding [x] (if (g'.is_async !=0)=true then asyncIter x else pyIter x)
   let _<-runOwn (Code.compStart (.ListComp elt gens scope pos) (d+1) it' acc env) env
   k
  else do
   let x<-foldedSetIterable g'.iter env x
   let it'<-holding [x] (if (g'.is_async !=0)=true then asyncIter x else pyIter x)
   let _<-runOwn (Code.compStart (.ListComp elt gens scope pos) (d+1) it' acc env) env
   k
 |none=>(do
   let v<-eval elt env
   let _<-call (.builtin "list.append") [acc,v]
   pure ():Sem Unit) >>= λ_=>k
section
variable{gens:List Comprehension}{D:Addr}{d:Nat}{P:List (Addr×Obj)}{Fin:List V->Hp->Prop}{W:Nat->Nat->List V->Hp->Prop}{m0:Nat}{R:Result->Shared->Prop}{s:Shared}{ys:List V}{its:List Value}{n:Nat}
def i6(Y:Cx)(elt:Expr)(gens:List Comprehension)(scope:Scope)(pos:Pos)(d:Nat)(D:Addr)(tem:EmT):Prop :=
 ∀(P:List (Addr×Obj)) (s:Shared) (σ:St) (H:Hp) (ys:List V) (its:List Value) (n:Nat) (N:List V->Hp->Prop) (k:Sem Ob) (Post:Ob->Shared->Prop) (E:Value->Shared->Prop),Inv Y ([(D,lobj its n)]++P) σ H s->(∀p∈P,p.1≠D)->Vals ys its->ys.length<=sizeLine->tem σ H ys N ->
  (∀s' ys' its' n' H',Inv Y ([(D,lobj its' n')]++P) σ H' s'->Vals ys' its'->ys'.length<=sizeLine->N ys' H'->wpAny (model Y.prog Y.w) Y.A k Post E s')->wpAny (model Y.prog Y.w) Y.A (kG elt gens scope pos d (.ref D) Y.env k) Post E s
theorem Gf{acc:Value}{k:Sem Ob}{Post:Ob->Shared->Prop}(h:wpAny M A (kG elt gens scope pos d acc env k) Post E s):wpAny M A (match gens[d+1]? with
  |some g'=>do
   let x<-eval g'.iter env
   standAt g'.iter.pos
   if (g'.is_async !=0)=true then do
    let x<-foldedIterable g'.iter x
    let it'<-holding [x] (if (g'.is_async !=0)=true then asyncIter x else pyIter x)
    let _<-runOwn (Code.compStart (.ListComp elt gens scope pos) (d+1) it' acc env) env
    k
   else do
    let x<-foldedSetIterable g'.iter env x
    let it'<-holding [x] (if (g'.is_async !=0)=true then asyncIter x else pyIter x)
    let _<-runOwn (Code.compStart (.ListComp elt gens scope pos) (d+1) it' acc env) env
    k
  |none=>(do
    let v<-eval elt env
    let _<-call (.builtin "list.append") [acc,v]
    pure ():Sem Unit) >>= λ_=>k) Post E s:=h
theorem uY(hc:Y.calm=true)(hxe:Y.xe=λ_ _=>False)(hE:i6 Y elt gens scope pos d D tem)
  (hd:gens[d]? = some ⟨tg,iter,ifs,0⟩)(hg:PG Y tg g)(ht:PTs Y ifs tc)(T:Turn Y.prog Y.w Y.K tg J fp it tn)
  (hP:∀p∈P,p.1≠D)(fpOk:∀(its:List Value) (n:Nat) (H':Hp) (s':Shared),Inv Y ([(D,lobj its n)]++P) σ H' s'->(∀b∈fp,H' b=none)->∀b∈fp,bu Y ([(D,lobj its n)]++P) H' b)(fpD:∀b∈fp,b≠D)
  (turn:i5 J g tc tem σ Fin W)(I:Inv Y ([(D,lobj its n)]++P) σ H s)(st:tn 0 s.heap)(fr:∀b∈fp,H b=none)(r:Vals ys its)(len:ys.length<=sizeLine)(w:W 0 m0 ys H)
  (hR:∀ys' its' n' H' s',Inv Y ([(D,lobj its' n')]++P) σ H' s'->Vals ys' its'->ys'.length<=sizeLine->Fin ys' H'->R (.ok .next) s') :
  codeAny (model Y.prog Y.w) Y.A (.compLoop (.ListComp elt gens scope pos) d (.ref it) (.ref D) Y.env) R s:=by
 refine QZ rfl (λk s'=>∃i ys its n H',Inv Y ([(D,lobj its n)]++P) σ H' s'/\tn i s'.heap/\(∀b∈fp,H' b=none)/\Vals ys its/\ys.length<=sizeLine/\W i k ys H') ?_ m0 ⟨0,ys,its,n,H,I,st,fr,r,len,w⟩;rintro k s5 ⟨i,ys,its,n,H5,I5,st5,fr5,r5,len5,w5⟩;show wpAny _ Y.A ((compTurn (.ListComp elt gens scope pos) d (.ref it) (.ref D) Y.env).onRaise (λx=>do noteFrame x Y.env;theTreesLotGoes x)) _ _ s5;refine Rr ?_;unfold compTurn;simp only[hd];refine L1 (Ni ?_);rw[if_neg (by decide)];rcases turn i k ys H5 w5 with⟨stop,fin⟩|⟨go,N,hN,step⟩
 .refine L1 (M0 (T.done Y rfl rfl rfl hc i _ s5 _ H5 (λ_ _=>False) I5 (fpOk _ _ _ _ I5 fr5) st5 stop) (λr s6 ⟨hr,I6⟩=>?_) λ_ _ f=>f.elim);subst hr;exact L9 (hR ys its n H5 s6 I6 r5 len5 fin)
 .refine L1 (M0 (T.item Y rfl rfl rfl hc i _ s5 _ H5 (λ_ _=>False) I5 (fpOk _ _ _ _ I5 fr5) st5 go) (λr s6 ⟨u,hr,h6⟩=>?_) λ_ _ f=>f.elim);subst hr;refine L1 (M0 h6 (λ_ s7 ⟨x,H7,I7,r7,y7,st7,fr7⟩=>?_) λ_ _ f=>f.elim);have I7':=I7.pinned (fpOk _ _ _ _ I7 fr7) (T.obj _ _ st7);refine L1 (M0 (hg _ s7 _ H7 x u _ I7' r7 (step x H7 y7)) (λ_ s8 ⟨σ8,H8,I8,sub8,q8⟩=>?_) λ_ _ f=>(by rw[hxe] at f;exact f.elim));refine L1 (M0 (ht _ s8 σ8 H8 _ I8 q8) (λb s9 ⟨H9,I9,q9⟩=>?_) λ_ _ f=>(by rw[hxe] at f;exact f.elim));have back:∀{H' s'} {its':List Value} {n':Nat},Inv Y ([(D,lobj its' n')]++(P++cV fp s7.heap)) σ8 H' s'->tn (i+1) s'.heap/\(∀b∈fp,H' b=none)/\Inv Y ([(D,lobj its' n')]++P) σ H' s':=λ{H' s' its' n'} I=>by
   refine⟨T.keep _ _ _ st7 λb hb o e=>(I.pin (b,o) (L8 _ (L8 _ (L8 _ (eM hb e))))).1,λb hb=>?_,?_⟩
   .obtain⟨o,e,d⟩:=T.obj _ _ st7 b hb;exact(I.pin (b,o) (L8 _ (L8 _ (L8 _ (eM hb e))))).2.1
   .rw[<- M7] at I;exact I.unpinned.weak sub8.1 sub8.2
  rw[M7] at I9;cases b with
  |false =>
   obtain⟨m',hm,w9⟩:=hN _ _ q9;obtain⟨st9,fr9,I9'⟩:=back I9;exact L9 ⟨rfl,m',hm,i+1,ys,its,n,H9,I9',st9,fr9,r5,len5,w9⟩
  |true =>
   rw[if_pos rfl];refine Gf (hE _ s9 σ8 H9 ys its n N _ _ _ I9 (λp hp=>?_) r5 len5 q9 λs10 ys' its' n' H10 I10 r10 len10 q10=>?_)
   .rcases LX.mp hp with hp|hp
    .exact hP p hp
    .exact fpD _ (lQ hp).1
   .obtain⟨m',hm,w10⟩:=hN _ _ q10;obtain⟨st10,fr10,I10'⟩:=back I10;exact L9 ⟨rfl,m',hm,i+1,ys',its',n',H10,I10',st10,fr10,r10,len10,w10⟩
theorem Gg(hxe:Y.xe=λ_ _=>False)(hpn:Y.pn=[])(hDs:Y.s₀.heap.objs.size<=D)(he:PE Y elt te)(hd:gens[d+1]? = none):i6 Y elt gens scope pos d D (kE te):=by
 intro P s σ H ys its n N k Post E I hP r len q hk;unfold kG;rw[hd];refine L1 (L1 (M0 (he _ s σ H _ I q.2) (λv s10 ⟨y,H10,I10,r10,q10⟩=>?_) λ_ _ f=>(by rw[hxe] at f;exact f.elim)));have pD:=I10.pin (D,lobj its n) (L8 _ (LL _ LO));refine L1 (append_at (hsz:=by rw[Ly,<- r.length];exact Nd q.1) pD.1 λh' hsb hnew=>?_);have J0:Inv Y P σ H10 s10:=I10.pins_of λp hp=>I10.pin p (L8 _ (L8 _ hp))
 have J1:Inv Y P σ H10 {s10 with heap:=h'}:=J0.turned (it:=D) (t':=s10.toks) (λb o hb e=>hsb.extBut b o hb e) pD.2.1 pD.2.2.1 (.inr hDs) (λx c hc z=>by
   obtain⟨v,o,eo,ed⟩:=I10.cell x c hc;rw[z,pD.1] at eo;cases eo;cases ed) (λp hp=>hP p (by rw[hpn] at hp;exact hp))
 have e11:h'.get? D=some (lobj (its++[v]) (n+1)):=by rw[hnew,QM]
 refine L9 (hk _ (ys++[y]) (its++[v]) (n+1) H10 (J1.pins_of λp hp=>?_) (r.append (.cons r10 .nil)) (by rw[LG,OF];exact q.1) q10);rcases LX.mp hp with hp|hp
 .rw[Lz.mp hp];exact⟨e11,pD.2.1,pD.2.2.1,pD.2.2.2.1,λv=>by intro z;cases z⟩
 .exact J1.pin p (L8 _ hp)
theorem Gh{tg' iter':Expr}{ifs':List Expr}{g':TG}{tc':TT}{tem':EmT}(hc:Y.calm=true)(hxe:Y.xe=λ_ _=>False)(hd:gens[d+1]? = some ⟨tg',iter',ifs',0⟩)(hi:PI Y tg' iter' wi)(hg:PG Y tg' g')(ht:PTs Y ifs' tc')(hs:∀x,foldedSetIterable iter' Y.env x=pure x)
  (hE:i6 Y elt gens scope pos (d+1) D tem'):i6 Y elt gens scope pos d D (kF wi g' tc' tem'):=by
 intro P s σ H ys its n N k Post E I hP r len q hk;unfold kG;rw[hd];refine L1 (M0 (hi _ s σ H _ I q) (λv s1 h1=>?_) λ_ _ f=>(by rw[hxe] at f;exact f.elim));refine L1 (Ni ?_);show wpAny _ _ (if ((0:Int) !=0)=true then _ else _) _ _ _;rw[if_neg (by decide),hs v];refine L1 (L9 ?_);refine L1 (Mn ?_);show wpAny _ _ (if ((0:Int) !=0)=true then _ else _) _ _ _;rw[if_neg (by decide)];refine M0 h1 (λitv s2 h2=>?_) λ_ _ f=>(by rw[hxe] at f;exact f.elim)
 obtain⟨it,fp,tn,J,H2,e,I2,T,st2,f2,W,⟨m0,w0⟩,turn⟩:=h2;subst e;have fpD:∀b∈fp,b≠D:=λb hb z=>(f2 b hb).2.2.2.2.2 (D,lobj its n) (L8 _ (LL _ LO)) z.symm
 have loop:=uY (R:=λr s'=>match r with
  | .ok f=>wpAny (model Y.prog Y.w) Y.A k Post E s'
  | .error e=>cameBackBy (model Y.prog Y.w) Y.A Y.env E e s') hc hxe hE hd hg ht T hP (λits' n' H' s' _ hn b hb=>⟨hn b hb,(f2 b hb).2.1,(f2 b hb).2.2.1,(f2 b hb).2.2.2.1,(f2 b hb).2.2.2.2.1,λp hp=>by
   rcases LX.mp hp with hp|hp
   .exact(f2 b hb).2.2.2.2.2 p (LL _ hp)
   .rcases LX.mp hp with hp|hp
    .rw[Lz.mp hp];exact(fpD b hb).symm
    .exact(f2 b hb).2.2.2.2.2 p (L8 _ (L8 _ hp))⟩) fpD turn I2 st2 (λb hb=>(f2 b hb).1) r len w0 (λys' its' n' H' s' I' r' len' q'=>hk s' ys' its' n' H' I' r' len' q')
 refine L1 (wpAny_runOwn ?_);exact Ge hd loop (T.self Y.A 0 _ _ _ st2 loop)
theorem Gens.em(hc:Y.calm=true)(hxe:Y.xe=λ_ _=>False)(hpn:Y.pn=[])(hDs:Y.s₀.heap.objs.size<=D){rest:List Comprehension}(G:Gens Y elt rest tem):∀{d:Nat},gens.drop (d+1)=rest->i6 Y elt gens scope pos d D tem:=by
 induction G with
 |nil he =>
  intro d hr;refine Gg hxe hpn hDs he ?_;have:(gens.drop (d+1))[0]? = none:=by rw[hr];rfl
  rwa [Ox] at this
 |@cons tg' iter' ifs' wi' g' tc' rest' tem' hi hg' ht' hs' G' ih =>
  intro d hr;have:(gens.drop (d+1))[0]? = some ⟨tg',iter',ifs',0⟩:=by rw[hr];rfl
  rw[Ox] at this;refine Gh hc hxe this hi hg' ht' hs' (ih ?_);rw[<- List.drop_drop,hr];rfl
end
section
variable{rest:List Comprehension}{own free:List Str}
theorem Gi{Fin:List V->Hp->Prop}{W:Nat->Nat->List V->Hp->Prop}{m0:Nat}
  {RR:Value->Addr->Result->Shared->Prop}
  (S:b9 X scope)(hc:X.calm=true)(hfr:fr.map (λj=>X.N[j]?)=free.map some)(hff:∀x∈free,scope.names.lookup x=some .free)
  (hg:∀C s H ex,PG (zy X (own++free) scope C s H ex) tg g)(ht:∀C s H ex,PTs (zy X (own++free) scope C s H ex) ifs tc)(he:∀C s H ex,Gens (zy X (own++free) scope C s H ex) elt rest tem)
  (I2:Inv X pins σ H2 s2)(T:Turn X.prog X.w X.K tg J fp it tn)(st2:tn 0 s2.heap)(f2:∀b∈fp,bu X pins H2 b)
  (w0:W 0 m0 [] H2)(turn:i5 J g tc tem (own.map (λ_=>none)++bx σ fr) Fin W)
  (hRR:∀D C its n ys H' s',Inv (zy X (own++free) scope C s2 H2 fp) [(D,lobj its n)] (own.map (λ_=>none)++bx σ fr) H' s'->Vals ys its->ys.length<=sizeLine->Fin ys H'->s2.heap.objs.size<=D->RR (.ref D) C (.ok .next) s') :
  wpAny (model X.prog X.w) X.A (newList []) (λacc s₃=>wpAny (model X.prog X.w) X.A (newFunctionEnv scope X.env.globals (aT X.env scope.names []) [] X.env.qual none .none (some X.env)) (λcenv s₄ =>
   codeAny (model X.prog X.w) X.A (.compStart (.ListComp elt (⟨tg,iter,ifs,0⟩::rest) scope pos) 0 (.ref it) acc {cenv with scope:=relabel scope X.env}) (RR acc cenv.locals) s₄) E s₃) E s2:=by
 refine Mx (mr ?_);have hob:∀b∈fp,∃o,s2.heap.get? b=some o:=λb hb=>by obtain⟨o,e,_⟩:=T.obj _ _ st2 b hb;exact⟨o,e⟩
 have fplt:∀b∈fp,b < s2.heap.objs.size:=λb hb=>by obtain⟨o,e⟩:=hob b hb;exact LB e
 generalize hs3:({s2 with heap:=s2.heap.push {cls:= .type "list",dict:=none,data:= .seq ([]:List Value).toArray}}:Shared)=s3
 have hh3:s3.heap=s2.heap.push (lobj [] 0):=by rw[<- hs3]
 have hC:s3.heap.objs.size=s2.heap.objs.size+1:=by rw[hh3,MU]
 have keep3:∀b o,s2.heap.get? b=some o->s3.heap.get? b=some o:=λb o e=>by rw[hh3];exact L5 _ e
 have I3:=mv (own:=own) (ex:=fp) (s3:=s3) S I2 f2 hob hfr hff keep3 (by rw[hC];exact MN _) (by rw[<- hs3]) (by rw[<- hs3]);generalize hs4:({s3 with heap:=pushCells (s3.heap.push {cls:= .type "dict",data:= .dict #[]}) scope.names}:Shared)=s4 at I3
 have keep4:∀b o,s3.heap.get? b=some o->s4.heap.get? b=some o:=λb o e=>by rw[<- hs4];exact O6 _ _ b o (L5 _ e)
 have hD4:s4.heap.get? s2.heap.objs.size=some (lobj [] 0):=keep4 _ _ (by rw[hh3];exact LC _ rfl);have nf:s2.heap.objs.size∉frs X.stack:=λhb=>by
  obtain⟨_,o,e,_⟩:=I2.stack.mem hb;exact absurd (LB e) (Nc _)
 have hDC:s2.heap.objs.size≠s3.heap.objs.size:=by rw[hC];exact LJ (No _)
 have cellD:∀{P:List (Addr×Obj)} {σ' H' s'} {its:List Value} {n:Nat},Inv (zy X (own++free) scope s3.heap.objs.size s2 H2 fp) P σ' H' s'->s'.heap.get? s2.heap.objs.size=some (lobj its n)->∀x c,(c5 scope s3.heap.objs.size X.env).cells.lookup x=some c->c≠s2.heap.objs.size:=λI e x c hc z=>by
  obtain⟨v,o,eo,ed⟩:=I.cell x c hc;rw[z,e] at eo;cases eo;cases ed
 have pinD:∀{σ' H' s'} {its:List Value} {n:Nat},Inv (zy X (own++free) scope s3.heap.objs.size s2 H2 fp) [] σ' H' s'->s'.heap.get? s2.heap.objs.size=some (lobj its n)->H' s2.heap.objs.size=none ->
   Inv (zy X (own++free) scope s3.heap.objs.size s2 H2 fp) [(s2.heap.objs.size,lobj its n)] σ' H' s':=λ{σ' H' s' its n} I e hn=>I.pins_of λp hp=>by
  have hp':p=(s2.heap.objs.size,lobj its n):=Lz.mp hp;subst hp';exact⟨e,hn,hDC,nf,λv=>by intro z;cases z⟩
 have I4:=pinD I3 hD4 (I2.hok.fresh (Lx _));have fpOk:∀{σ' H' s'} {its:List Value} {n:Nat},Inv (zy X (own++free) scope s3.heap.objs.size s2 H2 fp) [(s2.heap.objs.size,lobj its n)] σ' H' s'->(∀b∈fp,H' b=none)->∀b∈fp,bu (zy X (own++free) scope s3.heap.objs.size s2 H2 fp) [(s2.heap.objs.size,lobj its n)] H' b:=λ{σ' H' s' its n} I hn b hb=>by
  refine⟨hn b hb,(I.ok.exf b hb).1,I.ok.exfs b hb,.inl hb,(I.ok.exf b hb).2,λp hp=>?_⟩;have hp':p=(s2.heap.objs.size,lobj its n):=Lz.mp hp;subst hp';exact Ne.symm (LJ (fplt b hb))
 have stn4:tn 0 s4.heap:=T.keep _ _ _ st2 λb hb o e=>keep4 b o (keep3 b o e)
 have loop:codeAny (model X.prog X.w) X.A (.compLoop (.ListComp elt (⟨tg,iter,ifs,0⟩::rest) scope pos) 0 (.ref it) (.ref s2.heap.objs.size) (c5 scope s3.heap.objs.size X.env)) (RR (.ref s2.heap.objs.size) s3.heap.objs.size) s4 :=
  uY (Y:=zy X (own++free) scope s3.heap.objs.size s2 H2 fp) (P:=[]) (m0:=m0) hc rfl (Gens.em (Y:=zy X (own++free) scope s3.heap.objs.size s2 H2 fp) hc rfl rfl (Lx _) (he _ _ _ _) rfl) rfl (hg _ _ _ _) (ht _ _ _ _) T (λp hp=>by cases hp) (λits n H' s' I hn b hb=>fpOk I hn b hb) (λb hb=>LJ (fplt b hb)) turn I4 stn4 (λb hb=>(f2 b hb).1) .nil (Ms _) w0
   λys' its' n' H' s' I' r' len' fin=>hRR _ _ its' n' ys' H' s' I' r' len' fin (Lx _)
 exact PC loop (T.self X.A 0 _ _ _ stn4 loop)
def nO(own:List Str)(fr:List Nat)(wi:TI)(g:TG)(tc:TT)(tem:EmT):TE:=λσ H Q=>wi σ H λJ H1=>∃W:Nat->Nat->List V->Hp->Prop,(∃m,W 0 m [] H1) /\
 i5 J g tc tem (own.map (λ_=>none)++bx σ fr) (λys H'=>∀p,H' p=none->Q (.ref p) (upd H' p (.lst ys))) W
theorem Gj(own free:List Str)(fr:List Nat)(S:b9 X scope)(hc:X.calm=true)(hfr:fr.map (λj=>X.N[j]?)=free.map some)(hff:∀x∈free,scope.names.lookup x=some .free)
  (hi:PI X tg iter wi)
  (hg:∀C s H ex,PG (zy X (own++free) scope C s H ex) tg g)(ht:∀C s H ex,PTs (zy X (own++free) scope C s H ex) ifs tc)(he:∀C s H ex,Gens (zy X (own++free) scope C s H ex) elt rest tem)
  (hs:∀x,foldedSetIterable iter X.env x=pure x:=by intro _;rfl) :
  PE X (.ListComp elt (⟨tg,iter,ifs,0⟩::rest) scope pos) (nO own fr wi g tc tem):=by
 intro pins s σ H Q I h;have hcl:closureFor scope X.env=pure (aT X.env scope.names []):=jE λx hx e=>by
  obtain⟨c,hc⟩:=I.ok.has x.1 (S.free x hx e);rw[hc];rfl
 rw[Su];refine NO (use:=none) rfl hs hcl S.kind (λx hx e=>by have:=jG S.nd (show(x.1,x.2)∈scope.names from hx);rw[this,e]) (thn (hi pins s σ H _ I h) λv s1 h1=>thn h1 λitv s2 h2=>?_);obtain⟨it,fp,tn,J,H2,e,I2,T,st2,f2,W,⟨m0,w0⟩,turn⟩:=h2;subst e;refine Gi (RR:=λacc C=>compPost (model X.prog X.w) X.A X.xe none (EP X pins σ Q) acc C) S hc hfr hff hg ht he I2 T st2 f2 w0 turn ?_;intro D C its n ys H' s' I' r hz fin hD;obtain⟨m,hm,_⟩:=I'.loc;refine⟨m,hm,λh'' hsb=>?_⟩;obtain⟨J',hn⟩:=my I2 f2 I' r hz hD hsb;exact⟨.ref D,_,J',rfl,fin D hn⟩
end
structure WGn(Y:Cx)(elt:Expr)(l:List Comprehension)(t:EmT):Prop where out:Gens Y elt l t
theorem Gk(h:WE Y elt te):WGn Y elt [] (kE te):=⟨.nil h.out⟩
theorem uZ{rest:List Comprehension}(hi:WI Y tg iter wi)(hg:WG Y tg g)(ht:WTs Y ifs tc)(r:WGn Y elt rest tem)(hs:∀x,foldedSetIterable iter Y.env x=pure x:=by intro _;rfl):WGn Y elt (⟨tg,iter,ifs,0⟩::rest) (kF wi g tc tem):=⟨.cons hi.out hg.out ht.out hs r.out⟩
theorem Gm{rest:List Comprehension}(own free:List Str)(fr:List Nat)(S:b9 X scope)(hc:X.calm=true)(hfr:fr.map (λj=>X.N[j]?)=free.map some)(hff:∀x∈free,scope.names.lookup x=some .free)
  (hi:WI X tg iter wi)(hg:∀C s H ex,WG (zy X (own++free) scope C s H ex) tg g)(ht:∀C s H ex,WTs (zy X (own++free) scope C s H ex) ifs tc)(he:∀C s H ex,WGn (zy X (own++free) scope C s H ex) elt rest tem)
  (hs:∀x,foldedSetIterable iter X.env x=pure x:=by intro _;rfl):WE X (.ListComp elt (⟨tg,iter,ifs,0⟩::rest) scope pos) (nO own fr wi g tc tem) :=
 ⟨Gj own free fr S hc hfr hff hi.out (λC s H ex=>(hg C s H ex).out) (λC s H ex=>(ht C s H ex).out) (λC s H ex=>(he C s H ex).out) hs⟩
abbrev DEm:=ad->Mu->List D->(List D->Mu->Prop)->Prop
def i7(we:DE):DEm:=λρ μ ys Q=>ys.length < sizeLine/\we ρ μ λv μ'=>Q (ys++[v]) μ'
def dN(g:DG)(wc:DT)(em:DEm)(ρb:ad)(Pm:Mu->Prop)(Fin:List D->Mu->Prop):List D->List D->Mu->Prop
 | [],ys,μ=>Pm μ/\Fin ys μ
 |d::r,ys,μ=>Pm μ/\g d ρb μ λρ2 μ2=>wc ρ2 μ2 λb μ3=>if b=true then em ρ2 μ3 ys λys' μ4=>dN g wc em ρb Pm Fin r ys' μ4 else dN g wc em ρb Pm Fin r ys μ3
def gZ(n:Nat)(B S:List Nat)(wi:DI)(g:DG)(wc:DT)(em:DEm):DEm:=λρ μ ys Q=>(S.all λi=>decide (i < n)&& !B.contains i)=true/\wi ρ μ λds Pm μ1=>dN g wc em ρ Pm Q ds ys μ1
def nQ(own:List Str)(fr:List Nat)(S:List Nat)(wi:DI)(g:DG)(wc:DT)(em:DEm):DE:=λρ μ Q=>(S.all λi=>decide (i < own.length))=true/\wi ρ μ λds Pm μ1 =>
 dN g wc em (LF own.length none++cO ρ fr) Pm (λys μ2=>Q (.lst ys) μ2) ds [] μ1
class i8(K:Frag)(fl:Wd)(n:Nat)(B:List Nat)(t:EmT)(w:DEm):Prop where
 run:∀{W ρ μ σ H ys xs} {Q:List D->Mu->Prop} {Q':List V->Hp->Prop},Rel K fl W μ H->am K W ρ σ->(∀j,j < n->j∉B->∀v,σ[j]? ≠ some (some v))->zx K W ys xs->w ρ μ ys Q->(∀W' ys' μ' xs' H',W.le W'->Rel K fl W' μ' H'->zx K W' ys' xs'->Q ys' μ'->Q' xs' H')->t σ H xs Q'
section
variable{B:List Nat}{n:Nat}{em:DEm}
instance[a:zR K fl te we]:i8 K fl n B (kE te) (i7 we):=⟨λ{W ρ μ σ H ys xs Q Q'} r e _ q h k=>⟨by rw[q.length];exact h.1,a.run r e h.2 λW1 d μ1 x H1 le1 r1 q1 h1=>k W1 _ μ1 _ H1 le1 r1 ((q.mono le1).append (.cons q1 .nil)) h1⟩⟩
theorem u3[b:cN K fl g dg S][c:bE K fl tc wc][v:i8 K fl n (B++S) tem em]{ds ys:List D}{Fin:List D->Mu->Prop}{Fin':List V->Hp->Prop}(e:am K W1 ρ σ)(r1:Rel K fl W1 μ1 H1)(it1:ItR K fl W1 J ds Pm)
  (hS:(S.all λi=>decide (i < n)&& !B.contains i)=true)(hσ:∀j,j < n->j∉B->∀v,σ[j]? ≠ some (some v))(q:zx K W1 ys xs)(h:dN dg wc em ρ Pm Fin ds ys μ1)
  (hF:∀W2 ys μ2 xs H2,W1.le W2->Rel K fl W2 μ2 H2->zx K W2 ys xs->Fin ys μ2->Fin' xs H2) :
  ∃W:Nat->Nat->List V->Hp->Prop,(∃m,W 0 m xs H1)/\i5 J g tc tem σ Fin' W:=by
 refine⟨λi m xs H=>∃W2 ys μ2,W1.le W2/\Rel K fl W2 μ2 H/\zx K W2 ys xs/\m=ds.length - i/\dN dg wc em ρ Pm Fin (ds.drop i) ys μ2,⟨_,W1,ys,μ1,.refl _,r1,q,rfl,h⟩,?_⟩;rintro i m xs H2 ⟨W2,ys,μ2,le2,r2,q2,rfl,h2⟩;have hPm:Pm μ2:=by
  cases hdr:ds.drop i with
  |nil=>rw[hdr] at h2;exact h2.1
  |cons _ _=>rw[hdr] at h2;exact h2.1
 obtain⟨go,stop⟩:=it1 W2 μ2 H2 le2 r2 hPm i;have hSn:∀j∈S,j < n/\j∉B:=λj hj=>by
  have:=Mp.mp hS j hj;simp at this;exact this
 by_cases hi:i < ds.length
 .refine .inr ?_;have hd:ds[i]? = some ds[i]:=L3 hi;obtain⟨g1,g2⟩:=go _ hd;rw[Mt hi] at h2;obtain⟨_,h2⟩:=h2;refine⟨g1,λxs' H'=>∃W3 ys3 μ3,W1.le W3/\Rel K fl W3 μ3 H'/\zx K W3 ys3 xs'/\dN dg wc em ρ Pm Fin (ds.drop (i+1)) ys3 μ3,λxs' H' ⟨W3,ρ3,μ3,l3,r3,e3,h3⟩=>⟨ds.length - (i+1),by omega,W3,ρ3,μ3,l3,r3,e3,rfl,h3⟩,λx H' y=>?_⟩;obtain⟨W3,le3,r3,q3⟩:=g2 x H' y;refine b.run r3 ((e.mono le2).mono le3) q3 h2 λW4 ρ4 μ4 σ4 H4 le4 r4 e4 l4 s4 h4=>⟨⟨l4.symm,λj v hj=>?_⟩,?_⟩
  .by_cases hjS:j∈S
   .exact absurd hj (hσ j (hSn j hjS).1 (hSn j hjS).2 v)
   .rw[s4 j hjS];exact hj
  .refine c.run r4 e4 h4 λW5 bb μ5 H5 le5 r5 h5=>?_
   cases bb with
   |true =>
    refine v.run r5 (e4.mono le5) (λj h1 h3 v'=>?_) (q2.mono (le3.trans (le4.trans le5))) h5 λW6 ys6 μ6 xs6 H6 le6 r6 q6 h6=>⟨W6,ys6,μ6,le2.trans (le3.trans (le4.trans (le5.trans le6))),r6,q6,h6⟩
    rw[LX,not_or] at h3;rw[s4 j h3.2];exact hσ j h1 h3.1 v'
   |false=>exact⟨W5,ys,μ5,le2.trans (le3.trans (le4.trans le5)),r5,q2.mono (le3.trans (le4.trans le5)),h5⟩
 .rw[ML (by omega)] at h2;exact .inl ⟨stop (by omega),hF W2 ys μ2 xs H2 le2 r2 q2 h2.2⟩
instance[a:dA K fl wi di][b:cN K fl g dg S][c:bE K fl tc wc][v:i8 K fl n (B++S) tem em]:i8 K fl n B (kF wi g tc tem) (gZ n B S di dg wc em):=⟨λ{W ρ μ σ H ys xs Q Q'} r e hσ q h k =>
 a.run r e h.2 λW1 J ds Pm μ1 H1 le1 r1 it1 h1=>u3 (B:=B) (e.mono le1) r1 it1 h.1 hσ (q.mono le1) h1 λW2 ys μ2 xs H2 le2 r2 q2 h2=>k W2 ys μ2 xs H2 (le1.trans le2) r2 q2 h2⟩
theorem Gn(own:List Str)(fr:List Nat):∀j,j < own.length->j∉([]:List Nat)->∀v,(own.map (λ_=>(none:Option V))++bx σ fr)[j]? ≠ some (some v):=λj hj _ v e=>by
 rw[Me (by simp;exact hj),L4,L3 hj] at e;cases e
instance{own:List Str}[a:dA K fl wi di][b:cN K fl g dg S][c:bE K fl tc wc][v:i8 K fl own.length ([]++S) tem em]:zR K fl (nO own fr wi g tc tem) (nQ own fr S di dg wc em):=⟨λ{W ρ μ σ H Q Q'} r e h k =>
 a.run r e h.2 λW1 J ds Pm μ1 H1 le1 r1 it1 h1=>u3 (n:=own.length) (B:=[]) ((e.mono le1).comp own fr) r1 it1 (by
   refine Mp.mpr λj hj=>?_
   have:=Mp.mp h.1 j hj;simpa using this) (Gn own fr) .nil h1 λW2 ys μ2 xs H2 le2 r2 q2 h2 p hp=>by
  obtain⟨r3,le3⟩:=r2.newF (o:= .lst xs) hp;exact k _ _ _ _ _ (le1.trans (le2.trans le3)) r3 (.lst zA (q2.mono le3)) h2⟩
end
theorem nR{g:DG}{em:DEm}{Fin:List D->Mu->Prop}{ds ys:List D}(I:Nat->List D->Mu->Prop)(h0:I 0 ys μ)
  (step:∀i d ys μ,ds[i]? = some d->I i ys μ->∀N:List D->Mu->Prop,(∀ys' μ',I (i+1) ys' μ'->N ys' μ')->g d ρb μ λρ2 μ2=>wc ρ2 μ2 λb μ3=>if b=true then em ρ2 μ3 ys N else N ys μ3)
  (fin:∀ys μ,I ds.length ys μ->Fin ys μ)(hP:∀i ys μ,I i ys μ->Pm μ:=by exact λ_ _ _ _=>trivial):dN g wc em ρb Pm Fin ds ys μ:=by
 have key:∀(n i:Nat) ys μ,i+n=ds.length->I i ys μ->dN g wc em ρb Pm Fin (ds.drop i) ys μ:=by
  intro n;induction n with
  |zero =>
   intro i ys μ hi hI;have e:i=ds.length:=by omega
   subst e;rw[List.drop_length];exact⟨hP _ _ _ hI,fin _ _ hI⟩
  |succ n ih =>
   intro i ys μ hi hI;have hlt:i < ds.length:=by omega
   rw[Mt hlt];exact⟨hP _ _ _ hI,step i _ ys μ (L3 hlt) hI (λys' μ'=>dN g wc em ρb Pm Fin (ds.drop (i+1)) ys' μ') λys' μ' h=>ih (i+1) ys' μ' (by omega) h⟩
 exact key ds.length 0 ys μ (by omega) h0
section
variable{s:Shared}
end
section
variable{W:Wd}{tl:TE}{w:DE}
end
section
variable{s:Shared}{g:Heap}{L e:Addr}{f3:Value}
end
structure i9(K:W.Frag)(D:Addr):Prop where
 ga:W.findIn K (.ref D) "__getattribute__"=some (some (.builtin "BaseException.__getattribute__"))
 gh:W.findIn K (.ref D) "__getattr__"=some none
 hb:W.mroIn K D (.type "BaseException")=some true
 ho:W.mroIn K D (.type "object")=some true
 fc:W.findIn K (.ref D) "__class__"=some (some (.builtin "object.__class__"))
 sp:W.specialIn K (.builtin "object.__class__") "__get__"=some (some (.builtin "getset_descriptor.__get__"))
 tk:W.takesIn K (.builtin "object.__class__")=some true
 hk:W.kitCls K (.ref D) (.ref D)=some true
theorem i9.cls{K:W.Frag}{D:Addr}(c:i9 K D):∃cd,W.clsIn K D=some cd:=by
 have h:=c.hk;unfold W.kitCls at h;cases e:W.clsIn K D with
 |some cd=>exact⟨cd,rfl⟩
 |none=>simp[e] at h
section
variable{s:Shared}{g:Heap}
end
section
variable{cd:Value}{s:Shared}{E:XK}
end
abbrev bmV:List Value:=[.type "ValueError",.type "Exception",.type "BaseException",.type "object"]
abbrev newV:String:="ValueError.__new__"
section
variable{E:St->XK}{a:Expr}{as:List Expr}{t:TA}
end
section
variable{E:St->XK}{k:Nat}{c m:Str}{p:Pos}{e o:Expr}{t:TA}{g:List Value->List Value->List Value}
end
abbrev Cx.tr(X:Cx)(xe:Value->Shared->Prop)(pn:List (Addr×Obj)):Cx:={X with xe:=xe,pn:=pn}
section
variable{pn:List (Addr×Obj)}{s:Shared}{xe:Value->Shared->Prop}{e:Addr}{g:Heap}
theorem Cx.Ok.tr(ok:X.Ok):(X.tr xe pn).Ok:=⟨ok.mod,ok.kind,ok.glob,ok.blt,ok.above,ok.inj,ok.has,ok.cab,ok.hd,ok.frames,ok.stk,ok.exf,ok.bs,ok.bsz,ok.noex,ok.exfs,ok.funs,ok.frf⟩
end
section
variable{i:Nat}{n:Str}{Ch:Addr}{body suite:List Stmt}{b₀:Stmt}{hpos:Pos}{tb:(St->XK)->TS}{th:TS}
end
section
variable{k:Nat}{p:Pos}{e:Expr}{t:TA}
end
section
end
def nS(K:Frag)(D:Addr):Bool :=
 W.findIn K (.ref D) "__getattribute__"==some (some (.builtin "BaseException.__getattribute__"))&&W.findIn K (.ref D) "__getattr__"==some none&&W.mroIn K D (.type "BaseException")==some true&&W.mroIn K D (.type "object")==some true &&
 W.findIn K (.ref D) "__class__"==some (some (.builtin "object.__class__"))&&W.specialIn K (.builtin "object.__class__") "__get__"==some (some (.builtin "getset_descriptor.__get__"))&&W.takesIn K (.builtin "object.__class__")==some true&&W.kitCls K (.ref D) (.ref D)==some true
theorem i9.of{D:Addr}(h:nS K D=true):i9 K D:=by
 unfold nS at h;simp only[Mw,beq_iff_eq] at h;obtain⟨⟨⟨⟨⟨⟨⟨h1,h2⟩,h3⟩,h4⟩,h5⟩,h6⟩,h7⟩,h8⟩:=h;exact⟨h1,h2,h3,h4,h5,h6,h7,h8⟩
def kH(K:Frag)(es ps ks hs:List Str):Bool:=es.all λc=>match clsOf K c with
 |none=>false
 |some C=>fN c&&nS K C&&(!ps.contains c||W.excIn K C bmV newV)&&W.kitOne K (.ref C) (.type "ValueError")==some true &&
  (ks.all λk=>match clsOf K k with
   |none=>false
   |some D=>W.kitOne K (.ref C) (.ref D)==some (c==k)) &&
  hs.all λk=>match clsOf K k with
   |none=>false
   |some D=>W.exmOne K (.ref C) (.ref D)==some true
class eE(K:Frag)(es:List Str)(ps:outParam (List Str))(ks:List Str)(hs:outParam (List Str)):Prop where
 ok:kH K es ps ks hs=true
section
variable{es hs:List Str}{c k:Str}{D:Addr}
theorem eE.row(t:eE K es ps ks hs)(hc:c∈es)(h:clsOf K c=some C):(fN c=true/\i9 K C)/\(c∈ps->W.excIn K C bmV newV=true)/\W.kitOne K (.ref C) (.type "ValueError")=some true /\
  (∀k∈ks,∀D,clsOf K k=some D->W.kitOne K (.ref C) (.ref D)=some (c==k))/\∀k∈hs,∀D,clsOf K k=some D->W.exmOne K (.ref C) (.ref D)=some true:=by
 have e:=t.ok;unfold kH at e;have e:=Mp.mp e c hc;rw[h] at e;simp only[Mw,beq_iff_eq,Mp,O5,P6] at e;obtain⟨⟨⟨⟨⟨e0,e1⟩,e2⟩,e3⟩,e4⟩,e5⟩:=e;refine⟨⟨e0,.of e1⟩,λhp=>e2.resolve_left (by rw[PU.mpr hp];simp),e3,λk hk D hD=>?_,λk hk D hD=>?_⟩
 .have:=e4 k hk;rw[hD] at this;simpa using this
 .have:=e5 k hk;rw[hD] at this;simpa using this
theorem eE.cf(t:eE K es ps ks hs)(hc:c∈es):fN c=true:=by
 have e:=t.ok;unfold kH at e;have e:=Mp.mp e c hc;cases h:clsOf K c with
 |none=>rw[h] at e;cases e
 |some C=>exact(t.row hc h).1.1
theorem eE.exc(t:eE K es ps ks hs)(i:jS K c C)(hc:c∈es)(hp:c∈ps):W.excIn K C bmV newV=true:=(t.row hc i.at_).2.1 hp
end
def u4(es ks:List Str):DRs:=λds μ Q=>match ds with
 | [.exc c,.cls k]=>c∈es/\k∈ks/\Q (.bl (c==k)) μ
 | [.exc c,.ty n]=>c∈es/\n="ValueError"/\Q (.bl true) μ
 |_=>False
abbrev DX:=Str->Mu->Prop
abbrev DXE:=ad->DX
variable{Ex:DXE}
abbrev g8:=List D->Mu->DK->DX->Prop
class XR(K:Frag)(fl:Wd)(Ex:DXE)(E:St->XK):Prop where
 run:∀{W ρ μ σ H c C dx},Rel K fl W μ H->am K W ρ σ->Ex ρ c μ->XAt K W c C dx->E σ (.ref C) dx H
def KP(c:Str)(Ex:DXE)(w:DA):DS:=λ_ ρ μ=>w ρ μ λds μ1=>ds.length<=sizeLine/\Ex ρ c μ1
def KQ(dsp:g8)(Ex:DXE)(n m:Nat)(pat:List Src)(cs:List D)(w wk:DA):DE:=λρ μ Q=>w ρ μ λds μ1=>wk ρ μ1 λes μ2=>dsp (sel n m pat .non cs ds es) μ2 Q (Ex ρ)
def KR(c m:Str)(dsp:g8)(Ex:DXE)(n j:Nat)(pat:List Src)(cs:List D)(wo:DE)(w wk:DA):DE:=λρ μ Q=>wo ρ μ λd μ1=>(e8 μ1 d λc' ns vs=>c'=c/\(ns.zip vs).lookup m=none)/\w ρ μ1 λds μ2=>wk ρ μ2 λes μ3=>dsp (sel n j pat .non cs (d::ds) es) μ3 Q (Ex ρ)
def Go(D:cM)(i:Nat):cM:={nx:=λρ μ=>D.nx (ρ.set i none) μ,rt:=D.rt,bk:=λρ μ=>D.bk (ρ.set i none) μ,ct:=λρ μ=>D.ct (ρ.set i none) μ}
def KS(es:List Str)(i:Nat)(wb:DXE->DS)(wh:DS):DS:=λD ρ μ=>wb (λρ' c μ'=>c∈es/\wh (Go D i) (ρ'.set i (some (.exc c))) μ') D ρ μ
section
variable{E:St->XK}{t:TA}{w:DA}{n:Nat}{csD:List D}{c:Str}{dsp:g8}
end
class Gp(K:Frag)(es:List Str)(Ch:Addr):Prop where
 run:∀c∈es,∀C,clsOf K c=some C->W.exmOne K (.ref C) (.ref Ch)=some true
 cf:∀c∈es,fN c=true
theorem eE.hd{es hs:List Str}{h:Str}{Ch:Addr}(t:eE K es ps ks hs)(i:jS K h Ch)(hh:h∈hs):Gp K es Ch:=⟨λc hc C hC=>(t.row hc hC).2.2.2.2 h hh Ch i.at_,λc hc=>t.cf hc⟩
structure XP(K:Frag)(fl:Wd) where
 Ex:DXE
 E:St->XK
 ok:XR K fl Ex E
section
end
section
variable{E:St->XK}
end
section
end
section
variable{cd:Value}{s:Shared}{E:XK}
end
section
end
theorem KU{es:List Str}{c k:Str}:u4 es ks [.exc c,.cls k] μ Q=(c∈es/\k∈ks/\Q (.bl (c==k)) μ):=rfl
theorem KW{es:List Str}{c:Str}{n:String}:u4 es ks [.exc c,.ty n] μ Q=(c∈es/\n="ValueError"/\Q (.bl true) μ):=rfl
def u5:DR2:=λd e μ Q=>match d,e with
 | .int _,.bl _=>Q (.bl false) μ
 | .bl a,.bl b=>Q (.bl (a==b)) μ
 |_,_=>False
theorem KY{i:Int}{b:Bool}:u5 (.int i) (.bl b) μ Q=Q (.bl false) μ:=rfl
theorem KZ{a b:Bool}:u5 (.bl a) (.bl b) μ Q=Q (.bl (a==b)) μ:=rfl
section
variable{E:St->XK}{k:Nat}{c:Str}{p:Pos}{e:Expr}{t:TA}{g:List Value->List Value->List Value}
end
def K0(c:Str)(dsp:g8)(Ex:DXE)(n j:Nat)(pat:List Src)(cs:List D)(w wk:DA):DE:=λρ μ Q=>w ρ μ λds μ1=>wk ρ μ1 λes μ2=>∀k,μ2 k=none->dsp (sel n j pat .non cs (.cell k::ds) es) (zO μ2 k (.ins c [] [])) (λd μ3=>d= .non/\Q (.cell k) μ3) (λx μ3=>∃ μ4,MLe μ4 μ3/\Ex ρ x μ4)
def K1(c:Str)(dsp:g8)(Ex:DXE)(n j:Nat)(pat:List Src)(cs:List D)(w wk:DA):DE:=λρ μ Q=>w ρ μ λds μ1=>wk ρ μ1 λes μ2=>∀k,μ2 k=none->dsp (sel n j pat .non cs (.cell k::ds) es) (zO μ2 k (.ins c [] [])) (λd μ3=>d= .non/\dY μ3 (.cell k) Q) (λx μ3=>∃ μ4,MLe μ4 μ3/\Ex ρ x μ4)
section
variable{E:St->XK}{c:Str}{dsp:g8}{n:Nat}{csD:List D}{t:TA}{w:DA}
end
def u6:DR2:=λd e μ Q=>match d,e with
 | .int i,.bl b=>Q (.int (i*if b=true then 1 else 0)) μ
 |d,e=>e9 d e μ Q
theorem K2{i:Int}{b:Bool}:u6 (.int i) (.bl b) μ Q=Q (.int (i*if b=true then 1 else 0)) μ:=rfl
theorem K3{i j:Int}:u6 (.int i) (.int j) μ Q=(dk i j/\Q (.int (i*j)) μ):=rfl
abbrev TJ:=St->Hp->Str->(Str->Hp->Prop)->Prop
section
variable{e:Expr}{t:TJ}
end
abbrev DJ:=ad->Mu->Str->(Str->Mu->Prop)->Prop
def K4:DJ:=λ_ μ acc R=>R acc μ
def K5(w:DE)(r:DJ):DJ:=λρ μ acc R=>w ρ μ λd μ1=>match d with
 | .str y=>(acc++y).length<=sizeLine/\r ρ μ1 (acc++y) R
 |_=>False
def K6(w:DE):DE:=λρ μ Q=>w ρ μ λd μ1=>match d with
 | .str y=>y.length<=sizeLine/\Q (.str y) μ1
 |_=>False
def K7(l:DJ):DE:=λρ μ Q=>l ρ μ Mv λout μ1=>out.length<=sizeLine/\Q (.str out) μ1
section
variable{t:TJ}{w:DJ}
end
section
variable{own free:List Str}
end
section
end
section
variable{te:(St->XK)->TE}{we:DXE->DE}{E:St->XK}
end
section
variable{g:Array GenState}{d:Drawn}{t:Nat}
variable{N:Addr}{bs bmB:List Value}{sub:List Value}{k1 k2:Option Value}{B initId:String}
end
section
variable{N:Addr}{bs:List Value}{sub:List Value}{k1 k2:Option Value}
end
section
variable{g:Array GenState}{d:Drawn}{t:Nat}
end
section
variable{s:Shared}{K:W.Frag}{x:Addr}{ox:Obj}{name:Str}{v:Value}
end
section
variable{g:Array GenState}{d:Drawn}{t:Nat}
end
section
variable{m:Str->Option Value}{out:Str}{tk:Tok}{Q:Value->Shared->Prop}
end
section
variable{s:Shared}{K:W.Frag}{mb:Str->Option Value}{e1:Expr}{out:Str}{tk:Tok}{p0 p3 p4 p5 p6 p7 p8 p9:Pos}{Q:Value->Shared->Prop}
 {fI cda cc e t:Addr}{od cdd cld an:Option Addr}{oc ccl cl dV kV doc ct:Value}{osl ccs csl:Array (Option Value)}{vs:Array Value}{file:Str}{tf:Tok}{ar:Arg}
 {qn:Str}{N:Addr}{bs:List Value}{sub:List Value}{k1 k2:Option Value}
end
section
variable{E:St->XK}{k:Nat}{c:Str}{f:Str->Option Str}{a:Expr}{t:TE}
end
section
variable{K:W.Frag}{e1:Expr}{c:Str}{p0 p3 p4 p5 p6 p7 p8 p9:Pos}
 {fI cda cc:Addr}{od cdd cld an:Option Addr}{oc ccl cl dV kV doc ct:Value}{osl ccs csl:Array (Option Value)}{vs:Array Value}{file:Str}{tf:Tok}{ar:Arg}
end
section
variable{e:Expr}
end
section
variable{E:St->XK}{t:TE}{w:DE}{c:Str}{f:Str->Option Str}
end
section
variable{s:Shared}
end
section
variable{s:Shared}
structure u7(params:Arguments)(body:Expr)(scope:Scope)(x fld:Str):Prop where
 bd:∃p1 p2,body= .Attribute (.Name x p1) fld p2
 ab:∀env:Env,attributeBase (match body with | .Attribute e _ _=>e|e=>e) fld env (eval (match body with | .Attribute e _ _=>e|e=>e) env)=eval (match body with | .Attribute e _ _=>e|e=>e) env
 k:scope.kind= .function
 n:∀y∈scope.names,y.2≠ .cell
 lx:scope.names.lookup x=some .local
 co:scope.isCoroutine=false
 gen:scope.isGenerator=false
 d:(x==("__debug__":Str))=false
 b:∀(qual:Str) (pm cdv ctv u:Value),bindArgs (kla_fn "<lambda>" qual params body scope [] pm cdv ctv) ⟨[u],[]⟩=pure [(x,u)]
theorem Gq{dx:Addr}{ctv:Value}{mA:Str->Option Value}{tz:Tok}{Q:Value->Shared->Prop}(T:u7 params body scope x fld)
  (KX:K.In s.heap)(hlim:s.heap.NoLimit)(hroom:A.depth < recursionLimit)
  (hf:s.heap.get? f=some (kla_obj "<lambda>" qual params body scope [] pm c' ctv))(hc:s.heap.CodeRec (.ref c') qual)
  (O:dQ s.heap a dx C mA)(hz:mA fld=some (.str z tz))(cl:Cls K C)(na:cp K C fld)
  (q:∀(h':Heap) (t':Nat),(∀b o,s.heap.get? b=some o->h'.get? b=some o)->Q (.str z tz) {s with heap:=h',toks:=t'}) :
  wpAny (model prog w) A (call (.ref f) [.ref a]) Q E s:=by
 obtain⟨p1,p2,rfl⟩:=T.bd;refine Pz (PySem.W.kla_callFunE hroom hf rfl T.co T.gen rfl hc ?_);show wpAny _ _ (bindArgs (kla_fn "<lambda>" qual params (.Attribute (.Name x p1) fld p2) scope [] pm (.ref c') ctv) ⟨[.ref a],[]⟩) _ _ s;rw[T.b];refine L9 ?_;refine wpAny_newFunctionEnv T.n (λy hy=>?_) (λh' hn sb=>?_) T.k
 .rw[Lz.mp hy];exact T.lx
 have kp:∀b o,s.heap.get? b=some o->h'.get? b=some o:=λb o e=>by
  rw[sb.2 b (LJ (LB e)),MR _ _ _ (LJ (LB e))];exact e
 refine⟨hlim.keeps kp,PySem.W.kla_codeExpr ?_⟩;refine qd (T.ab _) ?_;refine Qz (Q8 T.k ?_ hn (v:= .ref a) (by show MJ x [(x,M4 a)]=_;rw[M5,beq_self_eq_true]) ?_) T.d
 .exact T.lx
 .have KX':K.In h':=λb o e=>kp b o (KX b o e)
  have O':dQ h' a dx C mA:=⟨kp _ _ O.obj,O.ns.keeps kp,O.ne⟩;exact p_ (s:={s with heap:=h',toks:=s.toks+1}) KX' O' (cl.get fld) cl.hd na hz (by rfl) (q h' _ kp)
end
theorem Gr(lp:Pos)(c':Addr):TriplesOk (cJ lp.line lp.col c').toList:=by
 show TriplesOk [rawInt lp.line,rawInt lp.col,.ref c'];unfold TriplesOk rawInt;exact trivial
theorem Gs(lp:Pos)(c':Addr):codeAmong lp (cJ lp.line lp.col c').toList=some (.ref c'):=by
 show codeAmong lp [rawInt lp.line,rawInt lp.col,.ref c']=_;unfold codeAmong rawInt;dsimp only;rw[if_pos (by simp)]
def u8(P:Addr)(ln cl:Nat)(qual:Str)(H:Hp):Prop:=H P=some (.tbl #[])\/∃c',H P=some (.tbl (cJ ln cl c'))/\H c'=some (c8 c' qual)
theorem Gu(x:h.CodeRec (.ref c') qual):aB Pr w H h c' (c8 c' qual):=by
 obtain⟨c,o,vs,t,e,h1,h2,h3⟩:=id x;cases e;refine⟨x,⟨o,h1⟩,λg1 g2 ⟨c,o,vs,t,e,h1,h2,h3⟩ k=>?_⟩;cases e;exact⟨c',o,vs,t,rfl,k _ h1,h2,h3⟩
theorem Un.grow{fs:List Addr}{P:Addr}{ps more:Array Value}(hP:H P=some (.tbl ps))(k:∀b u,b≠P->h.get? b=some u->h'.get? b=some u)(he:∃u,h'.get? P=some u)(hc:h.objs.size<=c')(hn:H c'=none) :
  Un fs [] H (upd (upd H c' (c8 c' q)) P (.tbl (ps++more))) h h':=by
 have nP:∀b,H b=none->b≠P:=λb n z=>by rw[z,hP] at n;cases n
 have cP:c'≠P:=nP c' hn;refine⟨λb u q n _ _=>k b u (nP b n) q,λb u q n _ _=>⟨u.slots,k b u (nP b n) q⟩,λb u q n _=>?_,λb u q _=>?_,λb xs q=>?_,λb u xs q=>?_,λb ps' q=>?_⟩
 .rw[zE (nP b n),zE (LJ (LS (LB q) hc))];exact n
 .by_cases e:b=P
  .subst e;exact he
  .exact⟨u,k b u e q⟩
 .have e:b≠P:=λz=>by rw[z,hP] at q;cases q
  rw[zE e,zE (zY q hn)];exact q
 .have e:b≠P:=λz=>by rw[z,hP] at q;cases q
  rw[zE e,zE (zY q hn)];exact q
 .by_cases e:b=P
  .subst e;rw[hP] at q;cases q;exact⟨more,zA⟩
  .rw[zE e,zE (zY q hn),q];exact⟨#[],by simp⟩
theorem HOk.grow{P:Addr}{ps more:Array Value}(ok:HOk Pr w H h)(hP:H P=some (.tbl ps))(k:∀b u,b≠P->h.get? b=some u->h'.get? b=some u)(hn:H c'=none)
  (hg:h'.get? P=some (tabObj (ps++more)))(hc:h'.CodeRec (.ref c') q):HOk Pr w (upd (upd H c' (c8 c' q)) P (.tbl (ps++more))) h':=λb u e=>by
 by_cases hb:b=P
 .subst hb;rw[zA] at e;cases e;exact hg
 .rw[zE hb] at e;by_cases hb2:b=c'
  .subst hb2;rw[zA] at e;cases e;exact Gu hc
  .rw[zE hb2] at e;have keepH:∀d o,(∀ps,o≠HO.tbl ps)->H d=some o->upd (upd H c' (c8 c' q)) P (.tbl (ps++more)) d=some o:=λd o no e=>by
    have:d≠P:=λz=>by rw[z,hP] at e;cases e;exact no _ rfl
    rw[zE this,zE (zY e hn)];exact e
   refine(ok b u e).stay (λd v hd r=>k d v (λz=>?_) r) (λd r=>keepH _ _ (λ_ z=>by cases z) r) λd xs r=>keepH _ _ (λ_ z=>by cases z) r
   rcases hd with rfl|hd
   .exact hb z
   .rw[z,hP] at hd;cases hd
section
variable{s:Shared}{P c:Addr}{lp:Pos}{Q:Value->Shared->Prop}
structure eF(base:Heap)(mg:Str->Option Value)(c P:Addr):Prop where
 hd:CodeHd base c P
 bi:base.BuiltinsAt mg P
 ne:mainGlobals≠P
theorem u_(x:CodeHd h c P)(k:∀b o,h.get? b=some o->h'.get? b=some o):CodeHd h' c P:=by
 obtain⟨o,vs,file,tf,flags,tg,inF,text,tt,e,r⟩:=x;exact⟨o,vs,file,tf,flags,tg,inF,text,tt,k _ _ e,r⟩
theorem va(x:h.BuiltinsAt mg P)(k:∀b o,h.get? b=some o->h'.get? b=some o):h'.BuiltinsAt mg P:=by
 obtain⟨bm,o,e1,e2,e3,e4,e5,r⟩:=x;exact⟨bm,o,e1,e2,e3,e4,k _ _ e5,r⟩
theorem Gv(I:Inv X pins σ H s)(hcode:X.env.code= .ref c)(B:eF X.base X.mg c P)(hcl:closureFor scope X.env=pure [])(hdf:defaultsOf params X.env=([],[]))(T:u8 P lp.line lp.col (X.env.qual++"<lambda>") H)
  (q:∀(s':Shared) (H':Hp) (f c':Addr) (pm ctv:Value),Inv X pins σ H' s'->(H P=some (.tbl #[])/\H c'=none/\H'=upd (upd H c' (c8 c' (X.env.qual++"<lambda>"))) P (.tbl (cJ lp.line lp.col c'))\/H'=H/\H P=some (.tbl (cJ lp.line lp.col c'))/\H c'=some (c8 c' (X.env.qual++"<lambda>"))) ->
   s'.heap.get? f=some (kla_obj "<lambda>" (X.env.qual++"<lambda>") params body scope [] pm c' ctv)->s'.heap.CodeRec (.ref c') (X.env.qual++"<lambda>")->H' f=none->Q (.ref f) s') :
  wpAny (model X.prog X.w) X.A (eval (.Lambda params body scope lp) X.env) Q X.xe s:=by
 refine PySem.W.kla_eval hdf ?_;have kb:∀b o,X.base.get? b=some o->s.heap.get? b=some o:=λb o e=>(I.bs b o e).1
 rcases T with hP|⟨c',hP,hc'⟩
 .have gP:s.heap.get? P=some (tabObj #[]):=I.hok P _ hP;refine PySem.W.kla_makeFunction (c:=c) (P:=P) (ps:= #[]) hcl I.ok.glob (I.ok.mod.glob.keeps kb) hcode (u_ B.hd kb) gP trivial rfl B.ne (va B.bi kb) λc' ctv h' tk ext hsz hlt hrec hg=>?_
  have hn:H c'=none:=I.hok.fresh hsz;have cP:c'≠P:=λz=>by rw[z,hP] at hn;cases hn
  have k:∀b u,b≠P->s.heap.get? b=some u->(h'.push (kla_obj "<lambda>" (X.env.qual++"<lambda>") params body scope [] ((X.mg "__name__").getD My) c' ctv)).get? b=some u:=λb u hb e=>L5 _ (ext b u hb e)
  have hg2:(h'.push (kla_obj "<lambda>" (X.env.qual++"<lambda>") params body scope [] ((X.mg "__name__").getD My) c' ctv)).get? P=some (tabObj (#[]++cJ lp.line lp.col c')):=L5 _ hg;have hr2:(h'.push (kla_obj "<lambda>" (X.env.qual++"<lambda>") params body scope [] ((X.mg "__name__").getD My) c' ctv)).CodeRec (.ref c') (X.env.qual++"<lambda>"):=by
   obtain⟨d,o,vs,t,e,g1,g2,g3⟩:=hrec;exact⟨d,o,vs,t,e,L5 _ g1,g2,g3⟩
  have I':=I.un (t':=tk) (Un.grow (q:=X.env.qual++"<lambda>") hP k ⟨_,hg2⟩ hsz hn) (I.hok.grow hP k hn hg2 hr2);refine q _ _ h'.objs.size c' _ ctv I' (.inl ⟨hP,hn,by simp⟩) (LC _ rfl) hr2 ?_;have hPl:P < s.heap.objs.size:=LB gP;rw[zE (NY (QK (LS hPl hsz) hlt)),zE (NY hlt)];exact I.hok.fresh (Nd (Qv hsz hlt))
 .have gP:s.heap.get? P=some (tabObj (cJ lp.line lp.col c')):=I.hok P _ hP;refine PySem.W.kla_makeFunctionHit (c:=c) (P:=P) (ps:=cJ lp.line lp.col c') hcl I.ok.glob (I.ok.mod.glob.keeps kb) hcode (u_ B.hd kb) gP (Gr _ _) (Gs _ _) (va B.bi kb) λctv h' tk ext hsz=>?_
  have k:∀b u,s.heap.get? b=some u->(h'.push (kla_obj "<lambda>" (X.env.qual++"<lambda>") params body scope [] ((X.mg "__name__").getD My) c' ctv)).get? b=some u:=λb u e=>L5 _ (ext b u e)
  have hrec:s.heap.CodeRec (.ref c') (X.env.qual++"<lambda>"):=(I.hok c' _ hc').1;have hr2:(h'.push (kla_obj "<lambda>" (X.env.qual++"<lambda>") params body scope [] ((X.mg "__name__").getD My) c' ctv)).CodeRec (.ref c') (X.env.qual++"<lambda>"):=by
   obtain⟨d,o,vs,t,e,g1,g2,g3⟩:=hrec;exact⟨d,o,vs,t,e,k _ _ g1,g2,g3⟩
  exact q _ _ h'.objs.size c' _ ctv (I.kept (t':=tk) k) (.inr ⟨rfl,hP,hc'⟩) (LC _ rfl) hr2 (I.hok.fresh hsz)
end
def sAt(zs:List Str)(i j:Nat):Bool:=sLt (zs.getD i Mv) (zs.getD j Mv)
theorem Gw(zs:List Str):Ord (sAt zs) where
 as:=λ_ _ h=>uR h
 tr:=λ_ _ _ h h'=>uS h h'
section
variable{s:Shared}
def vb(prog:Program)(w:World)(A:Around)(s:Shared)(h0:Heap)(f:Addr)(v:Value)(z:Str):Prop:=∀(h1:Heap) (t1:Nat),Kept h0 h1->∀(C:Value->Shared->Prop),
 (∀h' t' tz,(∀b o,h1.get? b=some o->h'.get? b=some o)->C (.str z tz) {s with heap:=h',toks:=t'})->∀E',wpAny (model prog w) A (call (.ref f) [v]) C E' {s with heap:=h1,toks:=t1}
def vc(zs:List Str)(ks:List Value):Prop:=∀j,j < ks.length->∃tz,ks[j]? = some (.str (zs.getD j Mv) tz)
theorem vd{kS:Addr}{b0:Nat}{st:SortSt}{ks:List Value}{p:Array Nat}{e:Nat}{Q:Ob->Shared->Prop}(hs:Array.map (λx=>x.2) (arrOf st)=(p.toList.map λi=>vs.getD i My).toArray)(hf:failedOf st=none)(hz:p.size<=64)(hk:ks.length<=64)
  (g1:s.heap.get? a=some (seqObj "list" #[] b0))(g2:s.heap.get? kS=some (seqObj "list" ks.toArray e))(ne:kS≠a)
  (q:∀h' n',(∀b,b≠kS->b≠a->h'.get? b=s.heap.get? b)->h'.get? a=some (seqObj "list" (p.toList.map λi=>vs.getD i My).toArray n')->Q (.done (.ret .none)) {s with heap:=h'}) :
  wpAny (model prog w) A (ksk_tail a false b0 (.ref kS) st) Q E s:=by
 unfold ksk_tail;rw[hs];dsimp only;refine L1 (NP g2 rfl ?_ (by rw[Ly,MG];omega) (Ms _));refine L1 (wpAny_letGo ?_);have g3:(s.heap.update kS (Obj.mapSeq λ_=>(#[]:Array Value))).get? a=some (seqObj "list" #[] b0):=by
  rw[MO _ _ _ _ (Ne.symm ne)];exact g1
 refine L1 (Pb g3 rfl ?_);refine L1 (NP g3 rfl ?_ (Ms _) (by rw[if_neg (by decide),Ly,L0,M9,MG];omega));rw[hf];simp only[bne_self_eq_false,Mr,if_false];have g4:=Ov g3 (λ_=>(p.toList.map λi=>vs.getD i My).toArray);exact L9 (q _ _ (λb b1 b2=>by rw[MO _ _ _ _ b2,MO _ _ _ _ b1]) g4)
theorem Gx{kS:Addr}{b0:Nat}{ks:List Value}{zs:List Str}{e:Nat}{Q:Ob->Shared->Prop}(hkl:ks.length=vs.length)(hK:vc zs ks)(h64:vs.length < 64)
  (g1:s.heap.get? a=some (seqObj "list" #[] b0))(g2:s.heap.get? kS=some (seqObj "list" ks.toArray e))(ne:kS≠a)
  (q:∀(p:Array Nat) h' t' n',PN vs.length p->Srt (sAt zs) p vs.length->(∀b,b≠kS->b≠a->h'.get? b=s.heap.get? b)->h'.get? a=some (seqObj "list" (p.toList.map λi=>vs.getD i My).toArray n')->Q (.done (.ret .none)) {s with heap:=h',toks:=t'}) :
  wpAny (model prog w) A (ksk_end a false vs.toArray b0 (.ref kS) ks.toArray) Q E s:=by
 unfold ksk_end;dsimp only;rw[if_neg (by decide)];have hsz:vs.toArray.size=vs.length:=by simp
 by_cases h2:vs.toArray.size < 2
 .rw[if_pos h2,if_pos h2];refine L1 (L9 ?_);rw[StateT.run_pure];refine L1 (L9 ?_);dsimp only;have hl2:vs.length < 2:=by rw[hsz] at h2;exact h2
  refine vd (p:=(Mz vs.length).toArray) (vs:=vs) (ks:=ks) (e:=e) ?_ rfl (by rw[Ly,OE];omega) (by omega) g1 g2 ne λh' n' c1 c2=>q _ h' s.toks n' (by show MH _ _;rw[Qf]) (λi j hij hj=>by exfalso;omega) c1 c2
  apply NV.mp;show(((if false=true then(ks.toArray.zip vs.toArray).reverse else ks.toArray.zip vs.toArray)).map (·.2)).toList=_;rw[if_neg (by decide)];match vs,ks,hkl,hl2 with
  | [],[],_,_=>simp
  | [v],[k],_,_=>simp
 .rw[if_neg h2,if_neg h2];have hl2:2<=vs.length:=by rw[hsz] at h2;omega
  refine L1 (PySem.W.kas_kind (T:= .type "str") (by omega) (λv hv=>?_) (by decide) (by decide) ?_)
  .obtain⟨j,hj,rfl⟩:=OQ hv;obtain⟨tz,e1⟩:=hK j hj;rw[L3 hj] at e1;rw[Mq e1];exact .now
  .have askQ:∀i j (C:Bool->Shared->Prop) s',i < vs.length->j < vs.length->i≠j->s'=s->(∀s'',s''=s->C (sAt zs i j) s'')->kas_ask prog w A oneType' ks i j C s':=λi j C s' hi hj _ es hC=>by
    subst es;obtain⟨ti,e1⟩:=hK i (by omega);obtain⟨tj,e2⟩:=hK j (by omega);unfold kas_ask;have f1:ks.getD i My= .str (zs.getD i Mv) ti:=by rw[LI,e1];rfl
    have f2:ks.getD j My= .str (zs.getD j Mv) tj:=by rw[LI,e2];rfl
    rw[f1,f2];exact PySem.W.kas_lt_str (hC _ rfl)
   have ask:(SS vs.length).kasWp (kas_ask prog w A oneType' ks) (λp s'=>s'=s/\PN vs.length p/\Srt (sAt zs) p vs.length) s :=
    nG (I:=λs'=>s'=s) askQ (λp s' hp e=>⟨e,hp.1,hp.2⟩) _ _ (uO (Gw zs) (n:=vs.length) (by omega)) rfl
   refine L1 (M0 (Rv (vs:=vs) (ks:=ks) (Q:=λst' s'=>∃p:Array Nat,p.size=vs.length/\arrOf st'=p.map (R9 (ks.toArray.zip vs.toArray))/\failedOf st'=none/\(s'=s/\PN vs.length p/\Srt (sAt zs) p vs.length))
    hkl hl2 h64 (λp' st' s' a1 a2 a3 a4=>⟨p',a1,a2,a3,a4⟩) ask) ?_ λ_ _ e=>e)
   rintro⟨⟨⟩,st'⟩ s' ⟨p,hpz,har,hf,rfl,hp,hs⟩;dsimp only;exact vd (vs:=vs) (ks:=ks) (Ra hkl har) hf (by omega) (by omega) g1 g2 ne λh' n' c1 c2=>q _ h' s'.toks n' hp hs c1 c2
theorem Gy{zs:List Str}{n:Nat}{P:Ob->Shared->Prop}(ho:s.heap.get? a=some (seqObj "list" vs.toArray n))
  (k0:Kept h0 s.heap)(ha0:h0.get? a=none)(h64:vs.length < 64)(hzl:zs.length=vs.length)
  (key:∀(i:Nat) v z,vs[i]? = some v->zs[i]? = some z->vb prog w A s h0 f v z)
  (h:∀(p:Array Nat) (h':Heap) (t' n':Nat),PN vs.length p->Srt (sAt zs) p vs.length->Kept h0 h'->h'.get? a=some (seqObj "list" (p.toList.map λi=>vs.getD i .none).toArray n')->P (.done (.ret .none)) {s with heap:=h',toks:=t'}) :
  wpAny (model prog w) A (ksk_tree a (.ref f) false) P E s:=by
 unfold ksk_tree;have ha:a < s.heap.objs.size:=LB ho;refine L1 (OT ho rfl ?_);refine L1 (NP ho rfl ?_ (by rw[Ly,MG];omega) (Ms _));obtain⟨e1,ho1⟩:∃e1,(s.heap.update a (Obj.mapSeq λ_=>(#[]:Array Value))).get? a=some (seqObj "list" #[] e1):=⟨_,Ov ho (λ_=> #[])⟩;refine L1 (Pb ho1 rfl ?_);refine L1 (Qa ?_ (by show vs.length<=_;rw[MG];omega));refine L1 (Oo ?_ (Ms _));refine Mn ?_;have ho6:(((s.heap.update a (Obj.mapSeq λ_=>(#[]:Array Value))).push (seqObj "tuple" vs.toArray 0)).push (seqObj "list" #[] 0)).get? a=some (seqObj "list" #[] e1):=by
  rw[MR _ _ _ (by rw[P0,NB];exact LJ (MQ ha)),MR _ _ _ (by rw[NB];exact LJ ha)];exact ho1
 have kk:Kept h0 (((s.heap.update a (Obj.mapSeq λ_=>(#[]:Array Value))).push (seqObj "tuple" vs.toArray 0)).push (seqObj "list" #[] 0)):=λb o e=>by
  refine L5 _ (L5 _ ?_);have hb:b≠a:=λq=>by rw[q,ha0] at e;cases e
  rw[MO _ _ _ _ hb];exact k0 b o e
 show wpAny (model prog w) A _ P E {s with heap:=((s.heap.update a (Obj.mapSeq λ_=>(#[]:Array Value))).push (seqObj "tuple" vs.toArray 0)).push (seqObj "list" #[] 0)};generalize hg7:((s.heap.update a (Obj.mapSeq λ_=>(#[]:Array Value))).push (seqObj "tuple" vs.toArray 0))=g7 at ho6 kk ⊢
 have hks:(g7.push (seqObj "list" #[] 0)).get? g7.objs.size=some (seqObj "list" #[] 0):=LC _ rfl;have s7:g7.objs.size=s.heap.objs.size+1:=by rw[<- hg7,P0,NB]
 have kS0:h0.get? g7.objs.size=none:=by
  cases z:h0.get? g7.objs.size with
  |none=>rfl
  |some o =>
   have:=LB (k0 _ _ z);rw[s7] at this;exact absurd this (Ow.mpr (MN _))
 have kSa:g7.objs.size≠a:=by
  rw[s7];exact NY (MQ ha)
 generalize g7.push (seqObj "list" #[] 0)=g at ho6 kk hks ⊢
 generalize g7.objs.size=kS at hks kS0 kSa ⊢
 unfold ksk_rest;refine L1 (QE ?_);rw[List.forIn_toArray];refine L1 (wpAny_forIn_list _ (λrest _ s'=>∃(h1:Heap) (t1:Nat) (ks:List Value) (e:Nat),s'={s with heap:=h1,toks:=t1}/\Kept h0 h1/\h1.get? a=some (seqObj "list" #[] e1)/\h1.get? kS=some (seqObj "list" ks.toArray e)/\rest=vs.drop ks.length/\ks.length<=vs.length/\vc zs ks) _ ?_ ?_ vs PUnit.unit ⟨g,s.toks,[],0,rfl,kk,ho6,hks,by simp,Ms _,λj hj=>absurd hj (Ry _)⟩)
 .rintro x rest _ s' ⟨h1,t1,ks,e,rfl,k1,g1,g2,hr,hl,hK⟩;have hx:vs[ks.length]? = some x:=by
   have:=congrArg List.head? hr;rw[List.head?_cons,List.head?_drop] at this;exact this.symm
  have hlt:ks.length < vs.length:=(L7.mp hx).1;have hz:zs[ks.length]? = some (zs.getD ks.length Mv):=by
   rw[LI,L3 (by omega)];rfl
  refine L1 (Qp (key _ x _ hx hz h1 t1 k1 _ (λh' t' tz k2=>?_) _));dsimp only;refine L1 (NP (k2 _ _ g2) rfl ?_ (by rw[Ly,MG];omega) (by show(ks.toArray.push _).size<=_;rw[Array.size_push,Ly,MG];omega));refine L9 ?_;obtain⟨e2,g3⟩:∃e2,(h'.update kS (Obj.mapSeq λxs=>xs.push (NA (zs.getD ks.length Mv) tz))).get? kS=some (seqObj "list" (ks++[NA (zs.getD ks.length Mv) tz]).toArray e2):=by
   have:=Ov (k2 _ _ g2) (λxs=>xs.push (NA (zs.getD ks.length Mv) tz));have ep:ks.toArray.push (NA (zs.getD ks.length Mv) tz)=(ks++[NA (zs.getD ks.length Mv) tz]).toArray:=by simp
   rw[ep] at this;exact⟨_,this⟩
  refine⟨_,t',ks++[NA (zs.getD ks.length Mv) tz],e2,rfl,λb o eb=>?_,?_,g3,?_,by rw[LG];show ks.length+1<=_;omega,λj hj=>?_⟩
  .rw[MO _ _ _ _ (λq=>by rw[q,kS0] at eb;cases eb)];exact k2 _ _ (k1 b o eb)
  .rw[MO _ _ _ _ (Ne.symm kSa)];exact k2 _ _ g1
  .have:=congrArg List.tail hr;rw[List.tail_cons,List.tail_drop] at this;rw[LG];exact this
  .by_cases q:j < ks.length
   .obtain⟨t,ht⟩:=hK j q;exact⟨t,by rw[Me q];exact ht⟩
   .rw[LG] at hj;have:j=ks.length:=by simp at hj;omega
    subst this;exact⟨tz,by simp⟩
 .rintro _ s' ⟨h1,t1,ks,e,rfl,k1,g1,g2,hr,hl,hK⟩;have hkl:ks.length=vs.length:=by
   have:=congrArg NL hr;rw[ON,NS] at this;omega
  refine L1 (OT g2 rfl ?_);refine Gx (zs:=zs) hkl hK h64 g1 g2 kSa λp h' t' n' c1 c2 c3 c4=>h p h' t' n' c1 c2 (λb o eb=>?_) c4
  rw[c3 b (λq=>by rw[q,kS0] at eb;cases eb) (λq=>by rw[q,ha0] at eb;cases eb)];exact k1 b o eb
theorem Gz{zs:List Str}{Q:Value->Shared->Prop}(hl:s.heap.IsList l vs.toArray\/IsTup s.heap l vs.toArray)(h64:vs.length < 64)(hzl:zs.length=vs.length)
  (key:∀(i:Nat) v z,vs[i]? = some v->zs[i]? = some z->vb prog w A.in1.in1 s s.heap f v z)
  (h:∀(p:Array Nat) (h':Heap) (t' n':Nat),PN vs.length p->Srt (sAt zs) p vs.length->Kept s.heap h'->h'.get? (s.heap.objs.size+1)=some (seqObj "list" (p.toList.map λi=>vs.getD i .none).toArray n')->Q (.ref (s.heap.objs.size+1)) {s with heap:=h',toks:=t'}) :
  wpAny (model prog w) A (call (.builtin "sorted") [.ref l] [("key",.ref f)]) Q E s:=by
 refine call_function_entry_kw Rs R1 R3 (ksk_s1 _ _) ?_;unfold Builtin.«sorted»;refine L1 (m:=checkCount "sorted" 1 1 _) (L9 ?_);have g:∀{A':Around} {E':Value->Shared->Prop} (R:List Value->Shared->Prop),R vs {s with heap:=(s.heap.push (seqObj "list" #[] 0)).update s.heap.objs.size (Obj.mapSeq (·++ vs.toArray))}->wpAny (model prog w) A' (collect (.ref l)) R E' s :=
  λR r=>hl.elim (λq=>SJ q r (by rw[MG];omega)) λq=>uQ q r (by rw[MG];omega)
 refine L1 (g _ ?_);refine L1 (Oo ?_ (by rw[MG];omega));have hsz:((s.heap.push (seqObj "list" #[] 0)).update s.heap.objs.size (Obj.mapSeq (·++ vs.toArray))).objs.size=s.heap.objs.size+1:=by
  rw[NB,P0]
 have hoL:(((s.heap.push (seqObj "list" #[] 0)).update s.heap.objs.size (Obj.mapSeq (·++ vs.toArray))).push (seqObj "list" vs.toArray 0)).get? (s.heap.objs.size+1)=some (seqObj "list" vs.toArray 0):=by
  rw[<- hsz];exact LC _ rfl
 have keep:Kept s.heap (((s.heap.push (seqObj "list" #[] 0)).update s.heap.objs.size (Obj.mapSeq (·++ vs.toArray))).push (seqObj "list" vs.toArray 0)):=λb o q=>by
  have hlt:b < s.heap.objs.size:=LB q;rw[MR _ _ _ (by rw[hsz];exact LJ (MQ hlt)),MO _ _ _ _ (LJ hlt),MR _ _ _ (LJ hlt)];exact q
 show wpAny _ _ _ _ _ {s with heap:=((s.heap.push (seqObj "list" #[] 0)).update s.heap.objs.size (Obj.mapSeq (·++ vs.toArray))).push (seqObj "list" vs.toArray 0)};rw[hsz];refine L1 (Mn (wpAny_call_entry_kw Q9 ⟨_,hoL,rfl⟩ PP ?_ (ksk_l1 _ _)));rw[ksk_t1];exact Gy (s:={s with heap:=((s.heap.push (seqObj "list" #[] 0)).update s.heap.objs.size (Obj.mapSeq (·++ vs.toArray))).push (seqObj "list" vs.toArray 0)}) (h0:=s.heap) hoL keep (OL (MN _)) h64 hzl key λp h' t' n' a1 a2 a3 a4=>⟨_,rfl,L9 ⟨_,rfl,h p h' t' n' a1 a2 a3 a4⟩⟩
end
def ve(K:Frag)(H:Hp)(fld:Str):List V->List Str->Prop:=Paired λx z=>∃a C dx fs,x= .ref a/\H a=some (.ins C dx fs)/\Cls K C/\cp K C fld/\fs.lookup fld=some (.str z)
def nT(K:Frag)(P:Addr)(ln cl:Nat)(qual fld:Str)(Q:VK):VK:=λx H1=>∃l xs zs,x= .ref l/\(SqL K H1 l xs\/SqT K H1 l xs)/\xs.length < 64/\u8 P ln cl qual H1/\ve K H1 fld xs zs /\
 ∀(H2:Hp) (c':Addr),(H1 P=some (.tbl #[])/\H1 c'=none/\H2=upd (upd H1 c' (c8 c' qual)) P (.tbl (cJ ln cl c'))\/H2=H1/\H1 P=some (.tbl (cJ ln cl c'))/\H1 c'=some (c8 c' qual))->∀(p:Array Nat) r,PN xs.length p->Srt (sAt zs) p xs.length->H2 r=none->Q (.ref r) (upd H2 r (.lst (p.toList.map λi=>xs.getD i .non)))
def nU(K:Frag)(P:Addr)(ln cl:Nat)(qual fld:Str)(te:TE):TE:=λσ H Q=>te σ H (nT K P ln cl qual fld Q)
def vf(R:VK)(vs:List V)(H:Hp):Prop:=match vs with
 | [x]=>R x H
 |_=>False
theorem vg{α β:Type}{F:α->β->Prop}:∀{l1:List α} {l2:List β} {i:Nat} {x:α},Paired F l1 l2->l1[i]? = some x->∃y,l2[i]? = some y/\F x y
 |_,_,_,_,.nil,h=>by simp at h
 |_::_,_::_,0,_,.cons r _,h=>by simp at h;subst h;exact⟨_,rfl,r⟩
 |_::_,_::_,i+1,_,.cons _ t,h=>by simpa using vg (i:=i) t (by simpa using h)
theorem vh{xs:List V}{us:List Value}(r:Vals xs us):∀(is:List Nat),(∀i∈is,i < xs.length)->Vals (is.map λi=>xs.getD i .non) (is.map λi=>us.getD i .none)
 | [],_=> .nil
 |i::is,h=>by
  have hi:=h i (.head _);obtain⟨u,e1,e2⟩:=r.get (L3 hi);rw[LQ,LQ,LI,L3 hi,LI,e1];exact .cons e2 (vh r is λj hj=>h j (.tail _ hj))
section
variable{P c:Addr}{lp kp:Pos}{e:Expr}{k:Nat}
theorem GA(hr:bf k X.A)(T:u7 params body scope x fld)(hcode:X.env.code= .ref c)(B:eF X.base X.mg c P)(hcl:closureFor scope X.env=pure [])(hdf:defaultsOf params X.env=([],[]))(he:PE X e te)(hg:Gl X "sorted")(hm:X.mg "sorted"=none)
  (hs:starEach [e] X.env=(false,eval e X.env)::starEach [] X.env:=by rfl)(hst:backTo pos (starEach [e] X.env)=(false,eval e X.env)::backTo pos (starEach [] X.env):=by rfl)(hp:(backTo pos (starEach [e] X.env)).any (·.1)=false:=by rfl) :
  PE X (.Call (.Name "sorted" np) [e] [⟨some "key",.Lambda params body scope lp,kp⟩] pos) (nU X.K P lp.line lp.col (X.env.qual++"<lambda>") fld te):=by
 intro pins s σ H Q I h;refine Nq (eJ I hg hm (by rfl) ?_ (by decide) (by decide));refine Sk (thn (lW (t:=bL) he lV hs pos pins s σ H (vf (nT X.K P lp.line lp.col (X.env.qual++"<lambda>") fld Q)) I h) λus s1 ⟨vs,H1,I1,r1,q1⟩=>?_) hst hp;obtain⟨v,rfl,l,xs,zs,rfl,hl,h64,T1,hK,q⟩:∃v,vs=[v]/\nT X.K P lp.line lp.col (X.env.qual++"<lambda>") fld Q v H1:=by
  unfold vf at q1;split at q1
  .exact⟨_,rfl,q1⟩
  .exact q1.elim
 obtain⟨u,rfl,ru⟩:=vals1 r1;obtain rfl:u= .ref l:=ru;show wpAny _ _ (evalAll [do let v<-eval (.Lambda params body scope lp) X.env;standAt pos;pure v]) _ _ s1;refine QB (L1 (Gv I1 hcode B hcl hdf T1 λs2 H2 f c' pm ctv I2 hH hf hc hfn=>?_));refine L1 (Ni (L9 ?_));refine QV ?_;show wpAny (model X.prog X.w) X.A (call (.builtin "sorted") [.ref l] [("key",.ref f)]) (EP X pins σ Q) X.xe s2;have keep2:∀b o,(∀ps,o≠HO.tbl ps)->H1 b=some o->H2 b=some o:=λb o no e=>by
  rcases hH with⟨hP,hn,rfl⟩|⟨rfl,_,_⟩
  .have:b≠P:=λz=>by rw[z,hP] at e;cases e;exact no _ rfl
   rw[zE this,zE (zY e hn)];exact e
  .exact e
 have subR:∀b o,(∀ps,o≠HO.tbl ps)->Rd H1 b o->Rd H2 b o:=λb o no r=>r.elim (λe=> .inl (keep2 b o no e)) λ⟨ob,e⟩=> .inr ⟨ob,keep2 b _ (λ_ z=>by cases z) e⟩
 obtain⟨its,rv,hv⟩:∃its:List Value,Vals xs its/\(s2.heap.IsList l its.toArray\/IsTup s2.heap l its.toArray):=by
  rcases hl with hl|hl
  .obtain⟨its,r',pl,_⟩:=I2.list (xs:=xs) (a:=l) (hl.imp (subR _ _ λ_ z=>by cases z) id);exact⟨its,r',.inl pl.isList⟩
  .obtain⟨its,r',pl,_⟩:=I2.tuple (xs:=xs) (a:=l) (hl.imp (subR _ _ λ_ z=>by cases z) id);exact⟨its,r',.inr pl⟩
 have hzl:zs.length=its.length:=by rw[<- hK.length,rv.length]
 refine Gz (zs:=zs) hv (by rw[<- rv.length];exact h64) hzl (λi v z hv1 hz1=>?_) λp h' t' n' a1 a2 a3 a4=>?_
 .have hi:i < xs.length:=by rw[rv.length];exact(L7.mp hv1).1
  obtain⟨u,e1,e2⟩:=rv.get (L3 hi);rw[hv1] at e1;cases e1;obtain⟨z',e3,a,C,dx,fs,ex,ea,cl,na,lk⟩:=vg hK (L3 hi);rw[hz1] at e3;cases e3;rw[ex] at e2;obtain rfl:v= .ref a:=e2;intro h1 t1 k1 C' hC E';obtain⟨mA,O,rO,_,_,_⟩:=ia I2.hok (keep2 _ _ (λ_ z=>by cases z) ea);obtain⟨uz,hu,⟨tz,rfl⟩⟩:=br.some_of (v:= .str z) (o:=mA fld) (by rw[<- lk];exact rO fld);have kb:∀b o,X.base.get? b=some o->s2.heap.get? b=some o:=λb o e=>(I2.bs b o e).1
  have hd:=hr.dp;refine Gq (s:={s2 with heap:=h1,toks:=t1}) (K:=X.K) (dx:=dx) (C:=C) T (λb o e=>k1 b o (I2.kIn b o e)) ((I2.ok.mod.nolimit.keeps kb).keeps k1) (by show X.A.depth < _;omega) (k1 _ _ hf) ?_ ⟨k1 _ _ O.obj,O.ns.keeps k1,O.ne⟩ hu cl na λh' t' k2=>hC h' t' tz k2
  obtain⟨d,o,vs',t,e,g1,g2,g3⟩:=hc;exact⟨d,o,vs',t,e,k1 _ _ g1,g2,g3⟩
 .rw[<- rv.length] at a1 a2;have hfr:H2 (s2.heap.objs.size+1)=none:=I2.hok.fresh (MN _);refine⟨.ref (s2.heap.objs.size+1),_,I2.laid (a:=s2.heap.objs.size+1) (o:= .lst (p.toList.map λi=>xs.getD i .non)) (t':=t') a3 (MN _) ⟨?_,_,n',?_,a4⟩,rfl,q H2 c' hH p _ a1 a2 hfr⟩
  .rw[L0,M9,a1.sz];exact M6 (Nd h64) (by decide)
  .exact vh rv _ λi hi=>MS.mp (a1.mem_iff.mp hi)
end
theorem GB{mb:Str->Option Value}{k:Nat}{fa c P:Addr}{s₁:Shared}{ns:List Int}
  (KX:K.In s₁.heap)(hns:s₁.heap.Ns mainGlobals mg)(hb:s₁.heap.Ns builtinsNs mb)(hbb:∀x:Str,x≠"__name__"->mb x=bootBuiltins x)(hlim:s₁.heap.NoLimit)(hg:s₁.gens= #[])
  (hcd:CodeHd s₁.heap c P)(hP:s₁.heap.get? P=some (tabObj #[]))(hKP:K.lookup P=none)(hbm:∃bm ob,mg "__builtins__"=some (.ref bm)/\bm≠builtinsNs/\s₁.heap.get? bm=some ob/\ob.cls= .type "module"/\ob.dict=some builtinsNs/\ob.data= .plain)(hst:∃mc,s₁.heap.Ns cStatics mc)
  (ha:s₁.heap.get? a=some {cls:= .type "list",data:= .seq vs.toArray})(hi:IntsAre vs ns)(hl:ns.length<=sizeLine)(hr:bf k callerA)
  (F:∀base:Heap,K.In base->base.Ns mainGlobals mg->eF base mg c P->zX Pr w K mg base CX k fa fd [x] sp)(hbind:∀(s:Shared) (u:Value),BindsTo s fd ⟨[u],[]⟩ [(x,u)])
  (hsp:∀H:Hp,H P=some (.tbl #[])->SqL K H a (ns.map V.int)->sp [.ref a] H (λv _=>v= .bl true) λ_ _ _=>False)
  (hCX:∀H e s',CX [] H s₁ (λ_ _ _=>False) e s'->False) :
  codeAny (model Pr w) callerA (.call (.ref fa) ⟨[.ref a],[]⟩) (λr s'=>r= .ok (.ret (.bool true))/\OldK s₁.heap s'.heap/\s'.os=s₁.os/\AllBare s'.gens) s₁:=by
 have rv:=qR hi;have lenV:=hi.length;have aP:a≠P:=λz=>by rw[z,hP] at ha;cases ha
 have core:∀H:Hp,H P=some (.tbl #[])->(∀b,H b=none\/b=P\/(b=a/\∃o xs,H b=some (.frz o (.lst xs))))->SqL K H a (ns.map V.int)->HOk Pr w H s₁.heap->(H a≠none->K.lookup a=none) ->
   codeAny (model Pr w) callerA (.call (.ref fa) ⟨[.ref a],[]⟩) (λr s'=>r= .ok (.ret (.bool true))/\OldK s₁.heap s'.heap/\s'.os=s₁.os/\AllBare s'.gens) s₁:=by
  intro H hT hO hS hok hK;have base_of:∀{b:Addr} {o:Obj},s₁.heap.get? b=some o->H b=none->(de s₁.heap H).get? b=some o:=λe n=>Ao e n
  have noT:∀{b:Addr} {o:Obj},s₁.heap.get? b=some o->(∀ps,o≠tabObj ps)->(∀v:List Value,o≠{cls:= .type "list",data:= .seq v.toArray})->H b=none:=λ{b o} e n1 n2=>by
   rcases hO b with z|z|⟨z,_⟩
   .exact z
   .rw[z,hP] at e;cases e;exact absurd rfl (n1 _)
   .rw[z,ha] at e;cases e;exact absurd rfl (n2 _)
  have noA:∀{b:Addr} {o:Obj} {es:Array DictEntry} {ep:Nat},s₁.heap.get? b=some o->o.data= .dict es ep->H b=none:=λ{b o es ep} e d=>noT e (λps z=>by subst z;cases d) (λv z=>by subst z;cases d)
  have nsK:∀{b:Addr} {m:Str->Option Value},s₁.heap.Ns b m->(de s₁.heap H).Ns b m:=λ{b m} ⟨o,es,ep,e,d,r⟩=>⟨o,es,ep,base_of e (noA e d),d,r⟩
  have hKb:K.In (de s₁.heap H):=λb o e=>base_of (KX b o e) (by
   rcases hO b with z|z|⟨z,o',xs,q⟩
   .exact z
   .rw[z,hKP] at e;cases e
   .rw[z] at e q;rw[hK (by rw[q];simp)] at e;cases e)
  have hM:Mod K mg (de s₁.heap H):=⟨hKb,nsK hns,⟨mb,nsK hb,hbb⟩,let ⟨mc,h1,h2⟩:=hlim;⟨mc,nsK h1,h2⟩⟩;have nP:mainGlobals≠P:=λz=>by
   obtain⟨o,es,ep,e,d,_⟩:=hns;rw[z,hP] at e;cases e;cases d
  have hL:eF (de s₁.heap H) mg c P:=by
   refine⟨?_,?_,nP⟩
   .obtain⟨o,vs',file,tf,flags,tg,inF,text,tt,e,e1,e2,r⟩:=hcd;exact⟨o,vs',file,tf,flags,tg,inF,text,tt,base_of e (noT e (λps z=>by rw[z] at e1;cases e1) (λv z=>by rw[z] at e1;exact absurd (RI e1) (by decide))),e1,e2,r⟩
   .obtain⟨bm,ob,b1,b2,b3,b4,b5,b6⟩:=hbm;have hbn:H bm=none:=noT b3 (λps z=>by rw[z] at b4;cases b4) (λv z=>by rw[z] at b4;exact absurd (RI b4) (by decide));refine⟨bm,ob,b1,b2,λz=>?_,λz=>?_,base_of b3 hbn,b4,b5,b6⟩
    .obtain⟨o,es,ep,e,d,_⟩:=hns;rw[<- z,b3] at e;cases e;rw[b6] at d;cases d
    .rw[z,hT] at hbn;cases hbn
  have e0:fw Pr w K mg (de s₁.heap H) callerA [] s₁ H:=⟨rfl,hM,λb o e=>Ap e,Sx (An _ _),trivial,λb hb=>absurd (show b∈([]:List Addr) from hb) (by simp),hok,.of_eq hg⟩;refine Oc ((F _ hKb (nsK hns) hL).run callerA [] s₁ H ⟨[.ref a],[]⟩ [.ref a] [.ref a] _ _ hr e0 (hbind s₁ (.ref a)) (.cons rfl .nil) (hsp H hT hS)) λr s' h=>?_
  cases r with
  |error e=>exact(hCX H e s' h).elim
  |ok fl =>
   cases fl with
   |next=>exact False.elim h
   |brk=>exact False.elim h
   |cont=>exact False.elim h
   |ret u =>
    obtain⟨v,H',os,bare,un,hok',r',q⟩:=h;have q':v= .bl true:=q;subst q';obtain rfl:u=OH true:=r';have kp:∀b o,b≠P->s₁.heap.get? b=some o->s'.heap.get? b=some o:=λb o bP e=>by
     cases q:H b with
     |none=>exact un.keep b o e q (by intro z;exact absurd (show b∈([]:List Addr) from z) (by simp)) (by simp)
     |some u =>
      rcases hO b with z|z|⟨_,ob,xs,z⟩
      .rw[q] at z;cases z
      .exact absurd z bP
      .have z2:=un.frzs b ob _ z;obtain⟨e1,_⟩:=hok b _ z;obtain⟨e2,_⟩:=hok' b _ z2;rw[e] at e1;cases e1;exact e2
    obtain⟨more,hm⟩:=un.tbls P _ hT;have hP':s'.heap.get? P=some (tabObj (#[]++more)):=hok' P _ hm;obtain⟨o,vs',file,tf,flags,tg,inF,text,tt,e,e1,e2,e3,_⟩:=hcd;have cP:c≠P:=λz=>by rw[z,hP] at e;cases e;cases e1
    refine⟨rfl,(OldK.refl s₁.heap).step_table (c₀:=c) (c:=c) (P:=P) (ps₀:= #[]) (ps:= #[]) (more:=more) ⟨⟨o,vs',e,e1,e2,e3⟩,hP⟩ ⟨⟨o,vs',e,e1,e2,e3⟩,hP⟩ ⟨⟨o,vs',kp c o cP e,e1,e2,e3⟩,hP'⟩ (λb o bP e=>kp b o bP e) (λz=>?_),os,bare⟩;obtain⟨mc,o,es,ep,e,d,_⟩:=hst;rw[<- z,hP] at e;cases e;cases d
 cases hk:K.lookup a with
 |some o =>
  have e:=KX a o hk;rw[ha] at e;cases e;refine core (λb=>if b=P then some (.tbl #[]) else none) (if_pos rfl) (λb=>?_) (.inr ⟨_,vs.toArray,_,hk,rfl,rfl,rfl,by rw[Ly,lenV];exact hl,by simpa using rv⟩) (λb u z=>?_) (λz=>?_)
  .by_cases hb:b=P
   .exact .inr (.inl hb)
   .exact .inl (if_neg hb)
  .by_cases hb:b=P
   .have z':=(if_pos hb).symm.trans z;cases z';subst hb;exact hP
   .have z':=(if_neg hb).symm.trans z;cases z'
  .exact absurd (if_neg aP) z
 |none =>
  refine core (λb=>if b=P then some (.tbl #[]) else if b=a then some (.frz {cls:= .type "list",data:= .seq vs.toArray} (.lst (ns.map V.int))) else none) (if_pos rfl) (λb=>?_) (.inl (.inr ⟨{cls:= .type "list",data:= .seq vs.toArray},by show(if a=P then some (HO.tbl #[]) else if a=a then _ else none)=_;rw[if_neg aP,if_pos rfl]⟩)) (λb u z=>?_) λ_=>hk
  .by_cases hb:b=P
   .exact .inr (.inl hb)
   .by_cases hb2:b=a
    .exact .inr (.inr ⟨hb2,_,_,(if_neg hb).trans (if_pos hb2)⟩)
    .exact .inl ((if_neg hb).trans (if_neg hb2))
  .by_cases hb:b=P
   .have z':=(if_pos hb).symm.trans z;cases z';subst hb;exact hP
   .by_cases hb2:b=a
    .have z':some _=some u:=((if_neg hb).trans (if_pos hb2)).symm.trans z;cases z';subst hb2;exact⟨ha,by rw[L0];exact hl,vs,_,rv,ha⟩
    .have z':none=some u:=((if_neg hb).trans (if_neg hb2)).symm.trans z;cases z'
theorem GC{l:PH}{n k:Nat}{q:Program}{loose:List Str}{XP:(Str->Option Value)->Heap->Prop}{YP:World->Heap->Prop}{d dL:DefRec}{K:Params->Frag}{CX:World->CXT}{sp:World->Sp}{xL:Str}{c P:Addr}
  (hn:l.most=some n)(hn2:n<=sizeLine)(hdf:d.params.defaults=[])(hr:bf k callerA)
  (hY:∀(w:World) (h:Heap),YP w h->(K w.params).In h)(hf:SW (λe=>e.name==xL) (recsOf q)=some dL)(hT:∀w:World,tabIn (K w.params) xL=some (c,P))(hKP:∀w:World,(K w.params).lookup P=none)
  (F:∀(w:World) (mg:Str->Option Value) (fa:Addr) (h:Heap),(K w.params).In h->h.Ns mainGlobals mg->mg d.name=some (.ref fa) ->
   ∃fd:FuncData,(∀(s:Shared) (u:Value),BindsTo s fd ⟨[u],[]⟩ [(x,u)]) /\
    ∀base:Heap,(K w.params).In base->base.Ns mainGlobals mg->eF base mg c P->zX l.prog w (K w.params) mg base (CX w) k fa fd [x] (sp w))
  (hsp:∀(w:World) (H:Hp) (a:Addr) (ns:List Int),ns.length<=n->H P=some (.tbl #[])->SqL (K w.params) H a (ns.map V.int)->sp w [.ref a] H (λv _=>v= .bl true) λ_ _ _=>False)
  (hCX:∀(w:World) (H:Hp) (s:Shared) (e:Value) (s':Shared),CX w [] H s (λ_ _ _=>False) e s'->False) :
  Sl q loose XP YP l.row.toRowW d [] (λf vs=>RF f vs):=by
 refine Att.Cn hn hdf λw s₀ s₁ mg mb fa o pm cd doc a vs ns G Y ho hd hcd hmg hobj hints hlen hg=>?_
 have KX:=hY w _ Y;obtain⟨fd,hb,hF⟩:=F w mg fa _ KX G.T.g hmg;obtain⟨t1,t2⟩:=PySem.W.tab_of G.T KX hf (hT w);obtain⟨mc,hmc,_⟩:=G.T.nodigits;exact GB KX G.T.g G.T.b G.T.builtins G.T.nolimit hg t1 t2 (hKP w) G.T.bmain ⟨mc,hmc⟩ hobj hints (M6 hlen hn2) hr hF hb (λH hO hS=>hsp w H a ns hlen hO hS) λH e s'=>hCX w H s₁ e s'
class nV(K:Frag)(x:Str)(P:Addr):Prop where
 at_:∃c,tabIn K x=some (c,P)
def nW(tab:Tab)(fld:Str):List D->List Str->Prop:=Paired λd z=>∃c ns vs,d= .obj c ns vs/\cg tab c fld=true/\(ns.zip vs).lookup fld=some (.str z)
def nX(tab:Tab)(x:Str)(ln cl:Nat)(q fld:Str)(w:DE):DE:=λρ μ Q=>w ρ μ λd μ1=>μ1 0=some (.lam 0 x ln cl q)/\∃ds zs,aZ μ1 d=some ds/\ds.length < 64/\nW tab fld ds zs/\∀p,PN ds.length p->Srt (sAt zs) p ds.length->Q (.lst (p.toList.map λi=>ds.getD i .non)) μ1
section
variable{W:Wd}{tab:Tab}
theorem GD{k:Nat}{c:Ct}(h:μ k=some c):zO μ k c=μ:=by
 funext j;by_cases e:j=k
 .subst e;rw[zF,h]
 .rw[zj e]
theorem vi[t:TabOk K tab](s:cZ W.F H):∀{ds:List D} {xs:List V} {zs:List Str},zx K W ds xs->nW tab fld ds zs->ve K H fld xs zs
 | [],xs,_,r,.nil=>by rw[r.nil'];exact .nil
 |d::ds,xs,_,r,.cons ⟨c,ns,vs,ed,hi,hl⟩ tl=>by
  obtain⟨x,ys,rfl,q,z⟩:=r.uncons;subst ed;unfold Rep at q;obtain⟨C,a,dx,us,hc,rfl,ea,hn,zz⟩:=q;obtain⟨v,hv,qv⟩:=zz.lookup hl;rw[qv.s'] at hv;obtain⟨c1,c2⟩:=t.run c fld C hi hc;exact .cons ⟨a,C,dx,_,rfl,s _ _ ea,c1,c2,hv⟩ (vi s z tl)
theorem vj{ds:List D}{xs:List V}(r:zx K W ds xs):∀(is:List Nat),(∀i∈is,i < ds.length)->zx K W (is.map λi=>ds.getD i .non) (is.map λi=>xs.getD i .non)
 | [],_=> .nil
 |i::is,h=>by
  have hi:=h i (.head _);obtain⟨u,e1,e2⟩:=r.get (L3 hi);rw[LQ,LQ,LI,L3 hi,LI,e1];exact .cons e2 (vj r is λj hj=>h j (.tail _ hj))
instance{P:Addr}[t:TabOk K tab][lm:nV K x P][a:zR K fl te we]:zR K fl (nU K P ln cl q fld te) (nX tab x ln cl q fld we):=⟨λ{W ρ μ σ H Q Q'} r e h k=>a.run r e h λW1 d μ1 v H1 le1 r1 q1 h1=>by
 obtain⟨hL,ds,zs,hd,hz,hK,hq⟩:=h1;obtain⟨c0,hc0⟩:=lm.at_;obtain⟨a0,hb,hF,c,P',ps,e1,e2,e3,e4⟩:=r1.cel 0 _ hL;rw[hc0] at e1;cases e1;rw[hb] at e2;cases e2;obtain⟨l0,xs,rfl,hl,zz⟩:=fR r1 q1 hd;have fin:∀{W2:Wd} {H2:Hp},W1.le W2->Rel K fl W2 μ1 H2->∀(p:Array Nat) r,PN xs.length p->Srt (sAt zs) p xs.length->H2 r=none->Q' (.ref r) (upd H2 r (.lst (p.toList.map λi=>xs.getD i .non))):=λ{W2 H2} le2 r2 p r pn sr hr=>by
  obtain⟨r3,le3⟩:=r2.newF (o:= .lst (p.toList.map λi=>xs.getD i .non)) hr;rw[zz.length] at pn sr;exact k _ _ μ1 _ _ (le1.trans (le2.trans le3)) r3 (.lst zA ((vj zz _ λi hi=>MS.mp (pn.mem_iff.mp hi)).mono (le2.trans le3))) (hq p pn sr)
 refine⟨l0,xs,zs,rfl,hl,by rw[zz.length];exact hz,?_,vi r1.sub zz hK,λH2 c' hH=>?_⟩
 .rcases e4 with rfl|⟨c',rfl,hc'⟩
  .exact .inl e3
  .exact .inr ⟨c',e3,r1.sub _ _ hc'⟩
 .rcases hH with⟨_,hn,rfl⟩|⟨rfl,_,_⟩
  .obtain⟨r2,le2⟩:=r1.newF (o:=c8 c' q) hn;have r3:=r2.setC (k:=0) (a:=P) (c':= .lam 0 x ln cl q) (o:= .tbl (cJ ln cl c')) hL hb ⟨_,P,_,hc0,hb,rfl,.inr ⟨c',rfl,zA⟩⟩;rw[GD hL] at r3;exact fin le2 r3
  .exact fin (.refl _) r1⟩
end
section
theorem Fun.okBL{k n:Nat}(dw:DS)(F:Fun K x qual st f fd)(S:zG N ps (zr st))(len:ps.length=n)
  (hbody:∀(cdv:Value) (A:Around) (outer:List Env) (s:Shared) (H:Hp) (E:XK),fd.code=cdv->bf k (A.deeper (envOfC qual (zr st) s.heap.objs.size f cdv)) ->
   ∃t,WSs (dR CX0 Pr w K mg base N qual (zr st) f cdv A outer s H E).nox (dW st) t/\∀fl,bA K fl t dw):zX Pr w K mg base CX0 (k+1) f fd ps (lift K (zL dw N n)):=by
 obtain⟨oc,od,kV,doc,pm,an,cdv,ct,osl,rfl,lk,hcd⟩:=F.ex;refine qk lk hcd S (λvs H Q E h=>?_) λA outer s H vs Q E hr h=>?_
 .obtain⟨_,W,μ,ds,Q0,_,r,h,_⟩:=h;rw[r.length,h.1,len]
 .obtain⟨fl,W,μ,ds,Q0,rel,r,h,k⟩:=h;obtain⟨t,ht,sm⟩:=hbody cdv A outer s H E rfl hr;refine⟨t,ht.out.nox,(sm W).run (rel.floor (.refl W)) (.start r) h.2 ⟨λW' ρ μ σ H le rr ee hh=>?_,λ_ _ _ _ _ _ _ _ hh=>hh.elim,λ_ _ _ _ _ _ _ _ hh=>hh.elim,λW' d μ x H le rr ee hh=>?_⟩⟩
  .obtain⟨μ'',l,hh⟩:=hh;exact k W' .non μ'' _ H le ((rr.floor (rel.up.trans le)).less l) .n hh
  .obtain⟨μ'',l,hh⟩:=hh;exact k W' d μ'' x H le ((rr.floor (rel.up.trans le)).less l) ee hh
end
def vm(x:Str)(ln cl:Nat)(q:Str):DSp:=λds μ Q=>∃ns,ds=[.scr ns]/\ns.length<=63/\μ 0=some (.lam 0 x ln cl q)/\∀ μ',Q (.bl true) μ'
def kI(K:Frag)(P:Addr):Sp:=λvs H Q _=>∃(a:Addr) (ns:List Int),vs=[.ref a]/\SqL K H a (ns.map V.int)/\ns.length<=63/\H P=some (.tbl #[])/\∀H',Q (.bl true) H'
theorem GE{c P:Addr}(ht:tabIn K x=some (c,P))(vs:List V)(H:Hp)(Q:VK)(E:XK)(h:kI K P vs H Q E):lift K (vm x ln cl q) vs H Q E:=by
 obtain⟨a,ns,rfl,hs,hl,hP,hq⟩:=h;refine⟨⟨λ_=>none,λ_=>none⟩,⟨λk=>if k=0 then some P else none,λb=>if b=P then none else if b=a then H a else none⟩,λk=>if k=0 then some (.lam 0 x ln cl q) else none,[.scr ns],λd _=>d= .bl true,⟨λb o e=>?_,⟨1,λk hk=>if_neg (by omega)⟩,λk ct e=>?_,λk k' ct ct' y e e' _ _=>?_,⟨λ_ _ e=>(by cases e),λ_ _ e=>(by cases e)⟩⟩,.cons ?_ .nil,⟨ns,rfl,hl,rfl,λ_=>rfl⟩,λW' d μ' y H' _ _ r e=>?_⟩
 .have e':(if b=P then none else if b=a then H a else none)=some o:=e;by_cases h1:b=P
  .rw[if_pos h1] at e';cases e'
  .rw[if_neg h1] at e';by_cases hb:b=a
   .rw[if_pos hb] at e';rw[hb];exact e'
   .rw[if_neg hb] at e';cases e'
 .have e':(if k=0 then some (Ct.lam 0 x ln cl q) else none)=some ct:=e;by_cases hk:k=0
  .rw[if_pos hk] at e';cases e';subst hk;exact⟨P,rfl,by show(if P=P then none else _)=_;rw[if_pos rfl],c,P, #[],ht,rfl,hP,.inl rfl⟩
  .rw[if_neg hk] at e';cases e'
 .have f:∀{j:Nat} {z},(if j=0 then some (Ct.lam 0 x ln cl q) else none)=some z->j=0:=λ{j z} q=>by
   by_cases hj:j=0
   .exact hj
   .rw[if_neg hj] at q;cases q
  rw[f e,f e']
 .unfold Rep;refine⟨a,rfl,?_⟩;rcases hs with h|h
  .have aP:a≠P:=λz=>by
    rcases h with h|⟨o,h⟩
    .rw[z,hP] at h;cases h
    .rw[z,hP] at h;cases h
   refine .inl ?_;rcases h with h|⟨o,h⟩
   .exact .inl (by show(if a=P then none else if a=a then H a else none)=_;rw[if_neg aP,if_pos rfl];exact h)
   .exact .inr ⟨o,by show(if a=P then none else if a=a then H a else none)=_;rw[if_neg aP,if_pos rfl];exact h⟩
  .exact .inr h
 .subst e;rw[r.b'];exact hq H'
theorem GF{P c:Addr}{lp kp:Pos}{qn:Str}{e:Expr}{k:Nat}(K:Frag)(B:eF X.base X.mg c P)(hcode:X.env.code= .ref c)(hr:bf k X.A)(he:WE X e te)(hg:Gl X "sorted")(hm:X.mg "sorted"=none)
  (hK:X.K=K:=by rfl)(hln:lp.line=ln:=by rfl)(hcl:lp.col=cl:=by rfl)(hqn:X.env.qual=qn++".<locals>.":=by rfl)(hq:qn++".<locals>."++"<lambda>"=q:=by decide+kernel)(hclo:closureFor scope X.env=pure []:=by rfl)(hdf:defaultsOf params X.env=([],[]):=by rfl)
  (ab:∀env:Env,attributeBase (.Name x p1) fld env (eval (.Name x p1) env)=eval (.Name x p1) env:=by intro _;rfl)(hk:scope.kind= .function:=by rfl)(hn:∀y∈scope.names,y.2≠ .cell:=by decide+kernel)(hx:scope.names.lookup x=some .local:=by rfl)(hco:scope.isCoroutine=false:=by rfl)(hgen:scope.isGenerator=false:=by rfl)(hd:(x==("__debug__":Str))=false:=by decide)
  (hb:∀(qual:Str) (pm cdv ctv u:Value),bindArgs (kla_fn "<lambda>" qual params (.Attribute (.Name x p1) fld p2) scope [] pm cdv ctv) ⟨[u],[]⟩=pure [(x,u)]:=by intro _ _ _ _ _;rfl)
  (hs:starEach [e] X.env=(false,eval e X.env)::starEach [] X.env:=by rfl)(hst:backTo pos (starEach [e] X.env)=(false,eval e X.env)::backTo pos (starEach [] X.env):=by rfl)(hp:(backTo pos (starEach [e] X.env)).any (·.1)=false:=by rfl) :
  WE X (.Call (.Name "sorted" np) [e] [⟨some "key",.Lambda params (.Attribute (.Name x p1) fld p2) scope lp,kp⟩] pos) (nU K P ln cl q fld te):=by
 subst hK hln hcl hq;rw[<- hqn];exact⟨GA hr ⟨⟨p1,p2,rfl⟩,ab,hk,hn,hx,hco,hgen,hd,hb⟩ hcode B hclo hdf he.out hg hm hs hst hp⟩
section
variable{s:Shared}{g:Heap}{D:Ends}
end
section
end
section
end
section
end
section
end
theorem ae{Q:List Str}{sc:Scope}(a:sc.kind= .function:=by rfl)(b:sc.isCoroutine=false:=by rfl)(c:sc.isGenerator=false:=by rfl)(d:N.Nodup:=by decide+kernel)(e:N.take Q.length=Q:=by rfl)
  (f:∀x∈Q,sc.names.lookup x=some .local\/sc.names.lookup x=some .cell:=by decide+kernel)(g:∀y∈sc.names,y.2≠ .free:=by decide+kernel):zG N Q sc:=⟨a,b,c,d,e,f,g⟩
section
variable{p:List Value->Prop}
theorem al0(h:p []):∀us,us.length=0->p us:=λus e=>match us,e with | [],_=>h
theorem alS{n:Nat}(h:∀a us,us.length=n->p (a::us)):∀us,us.length=n+1->p us:=λus e=>match us,e with|a::us,e=>h a us (Nat.succ.inj e)
theorem al1(h:∀a,p [a]):∀us,us.length=1->p us:=alS λa=>al0 (h a)
theorem al2(h:∀a b,p [a,b]):∀us,us.length=2->p us:=alS λa=>al1 (p:=λus=>p (a::us)) (h a)
theorem al3(h:∀a b c,p [a,b,c]):∀us,us.length=3->p us:=alS λa=>al2 (p:=λus=>p (a::us)) (h a)
theorem al4(h:∀a b c d,p [a,b,c,d]):∀us,us.length=4->p us:=alS λa=>al3 (p:=λus=>p (a::us)) (h a)
theorem al5(h:∀a b c d e,p [a,b,c,d,e]):∀us,us.length=5->p us:=alS λa=>al4 (p:=λus=>p (a::us)) (h a)
theorem al6(h:∀a b c d e f,p [a,b,c,d,e,f]):∀us,us.length=6->p us:=alS λa=>al5 (p:=λus=>p (a::us)) (h a)
theorem al7(h:∀a b c d e f g,p [a,b,c,d,e,f,g]):∀us,us.length=7->p us:=alS λa=>al6 (p:=λus=>p (a::us)) (h a)
theorem al8(h:∀a b c d e f g i,p [a,b,c,d,e,f,g,i]):∀us,us.length=8->p us:=alS λa=>al7 (p:=λus=>p (a::us)) (h a)
end
section
variable{m c:Str}{fs:List Str}
structure i_(K:Frag)(x:Str)(st:Stmt)(f:Addr)(fd:FuncData):Prop where
 at_:nsIn K mainGlobals x=some (some (.ref f))
 F:Fun K x x st f fd
structure ao(K:Frag)(x:Str)(st:Stmt)(f:Addr)(fd:FuncData):Prop extends i_ K x st f fd where
 df:fd.defaults= .none
structure b8(K:Frag)(C:Addr)(x q:Str)(st:Stmt)(f:Addr)(fd:FuncData):Prop where
 at_:findIn K (.ref C) x=some (some (.ref f))
 fn:isFn K (.ref f)=true
 F:Fun K x q st f fd
structure kJ(K:Frag)(c:Str)(C:Addr)(fs:List Str):Prop where
 at_:nsIn K mainGlobals c=some (some (.ref C))
 cl:Cls K C
 ms:makesIn K C=true
 kp:keepIn K (.ref C)=true
 na:∀f∈fs,cp K C f
theorem ff{f:Str}(h:findIn K (.ref C) f=some none)(t:∀x∈fs,cp K C x):∀x∈f::fs,cp K C x:=List.forall_mem_cons.mpr ⟨h,t⟩
abbrev cy(K:Frag)(fd:FuncData)(ps ks:List Str)(n m:Nat)(pat:List Src)(cs:List Value):Prop:=∀(S:Setting) (us:List Value),us.length=n->∀ws:List Value,ws.length=m->SA K S (bindArgs fd ⟨us,ks.zip ws⟩)=some (ps.zip (sel n m pat .none cs us ws))
theorem kbk{n:Nat}(h:cy K fd ps ks n j pat csU)(hc:Vals csV csU)(hp:ps.length≠0:=by decide):cW K fd ps ks (sel n j pat .none csU) (sel n j pat .non csV):=EH hc hp λS us ws a b=>h S us a ws b
variable{k:Nat}{g:List Value->List Value->List Value}
theorem ao.bd(A:ao K x st f fd)(b:∀(kV doc pm:Value) (an:Option Addr) (cdv ct:Value) (us:List Value),us.length=ps.length->bindArgs (fnOf x x (ii st) (dW st) (zr st) .none kV doc pm an cdv ct) ⟨us,[]⟩=pure (ps.zip us):=by intro _ _ _ _ _ _;first|exact al1 λ_=>rfl|exact al2 λ_ _=>rfl|exact al3 λ_ _ _=>rfl|exact al4 λ_ _ _ _=>rfl|exact al5 λ_ _ _ _ _=>rfl|exact al6 λ_ _ _ _ _ _=>rfl|exact al7 λ_ _ _ _ _ _ _=>rfl|exact al8 λ_ _ _ _ _ _ _ _=>rfl):Binds K fd ps []:=A.F.binds b A.df
theorem i_.has(A:i_ K x st f fd)(b:Binds K fd ps [])(X:K.In h)(G:h.Ns mainGlobals mg)(ok:zX P w K mg base CX k f fd ps sp):Has P w K mg base CX x k ps sp:=⟨_,_,ok,b,A.F.kp,mg_of X G A.at_⟩
theorem i_.hasK(A:i_ K x st f fd)(X:K.In h)(G:h.Ns mainGlobals mg)(ok:zX P w K mg base CX k f fd ps sp)(kb:cW K fd ps ks g gV):mE P w K mg base CX x k ps sp ks gV:=⟨⟨_,_,_,ok,kb,A.F.kp,mg_of X G A.at_⟩⟩
theorem b8.hasT(A:b8 K C m q st f fd)(a:kJ K c C fs)(ok:zX P w K mg base CX k f fd ps sp)(kb:cW K fd ps ks g gV):cS P w K mg base CX c m k ps sp ks gV:=⟨⟨C,_,_,_,gO a.at_,a.cl,⟨A.at_,A.fn,A.F.kp⟩,ok,kb⟩⟩
theorem b8.hasM(A:b8 K C "__init__" q st f fd)(a:kJ K c C fs)(X:K.In h)(G:h.Ns mainGlobals mg)(ok:zX P w K mg base CX k f fd ps sp)(kb:cW K fd ps ks g gV):iP P w K mg base CX c k ps sp ks gV:=⟨⟨C,_,_,_,gO a.at_,⟨a.ms,A.at_,A.fn,a.kp⟩,ok,kb,mg_of X G a.at_⟩⟩
end
section
variable{a b e:Expr}
theorem qS(i:Nat)(hN:X.N.Nodup)(he:WE X e te)(hi:X.N[i]? = some x:=by rfl)(hx:Loc X.env.scope x:=by first|exact MP rfl|exact Sy rfl)(hs:swapsWith e (some (.Name x pos')) pos.line X.env=pure false:=by rfl)
  (hf:X.fn x=true\/X.env.scope.names.lookup x=some .local:=by first|exact .inl rfl|exact .inr rfl|assumption):WS X (.Assign [.Name x pos'] e pos) (bt te (cz i)):=jM hN hi hx he hs hf
theorem qG(i:Nat)(hN:X.N.Nodup)(hi:X.N[i]? = some x:=by rfl)(hx:Loc X.env.scope x:=by first|exact MP rfl|exact Sy rfl)(hf:X.fn x=true\/X.env.scope.names.lookup x=some .local:=by first|exact .inl rfl|exact .inr rfl|assumption):WG X (.Name x pos) (cz i):=zT hN hi hx hf
theorem qx(K:Frag)(ha:WE X a ta)(hb:WE X b tb)(h:X.K=K:=by rfl)(hs:l_ b:=by exact λ_ _=>rfl):WE X (.Subscript a b pos) (tOp (rIx K) ta tb):=cG (DD K h) ha hb hs
theorem qa1(ha:WE X a ta)(h1:starEach [a] X.env=(false,eval a X.env)::starEach [] X.env:=by rfl):WA X [a] (cA ta bL):=zu ha dq h1
theorem qa2(ha:WE X a ta)(hb:WE X b tb)(h1:starEach [a,b] X.env=(false,eval a X.env)::starEach [b] X.env:=by rfl)(h2:starEach [b] X.env=(false,eval b X.env)::starEach [] X.env:=by rfl):WA X [a,b] (cA ta (cA tb bL)):=zu ha (zu hb dq h2) h1
end
end L2
namespace M
open PySem L2
variable{μ μ':Mu}{ls:List LR}{Q:DK}{v0 v1 v2 v3 v4 v5 d:D}{ns ho ga w way S E:List Str}{na la ck cl h:Nat}{x first last j:Str}{rows:List RW}{r a:RW}{sl lo v:Int}{R:List Str->List D->Prop}{β α:Type}{ds:List D}{Fin:List D->Mu->Prop}{mg:Str->Option Value}{fd:FuncData}{Pm:Mu->Prop}{ρb:ad}{cL PL f:Addr}{K:Frag}{g:DG}
def top(i:Nat):Stmt:=PySem.Challenge.pw_slotwright_k14_starts_in_order.main.body.getD i (.Pass ⟨0,0,0,0⟩)
abbrev nY:Stmt:=top 15
abbrev vn:List Str:=["text","signs","most"]
theorem vo:zG vn ["text","signs","most"] (zr nY):=ae
abbrev nZ:Stmt:=top 16
abbrev vp:List Str:=["text"]
theorem vq:zG vp ["text"] (zr nZ):=ae
abbrev n8:Stmt:=top 17
abbrev vt:List Str:=["text"]
theorem vw:zG vt ["text"] (zr n8):=ae
abbrev n9:Stmt:=top 18
abbrev vy:List Str:=["thing"]
theorem vz:zG vy ["thing"] (zr n9):=ae
abbrev n_:Stmt:=top 19
abbrev vA:List Str:=["thing"]
theorem vB:zG vA ["thing"] (zr n_):=ae
abbrev oa:Stmt:=top 20
abbrev vC:List Str:=["number","least","most"]
theorem vD:zG vC ["number","least","most"] (zr oa):=ae
abbrev oe:Stmt:=inClass (top 27) 0
abbrev vE:List Str:=["self","name","ways","every","long","release","last"]
theorem vF:zG vE ["self","name","ways","every","long","release","last"] (zr oe):=ae
abbrev og:Stmt:=top 28
abbrev vG:List Str:=["ways","way"]
theorem vH:zG vG ["ways"] (zr og):=ae
abbrev oh:Stmt:=top 29
abbrev vI:List Str:=["way"]
theorem vJ:zG vI ["way"] (zr oh):=ae
abbrev oi:Stmt:=top 30
abbrev vK:List Str:=["one","two"]
theorem vL:zG vK ["one","two"] (zr oi):=ae
abbrev oj:Stmt:=top 32
abbrev vM:List Str:=["net","way","kinds","between","wanted"]
theorem vN:zG vM ["net","way"] (zr oj):=ae
abbrev om:Stmt:=top 33
abbrev vO:List Str:=["net","way","at","senders","ears","wire"]
theorem vP:zG vO ["net","way","at"] (zr om):=ae
abbrev on:Stmt:=top 37
abbrev vQ:List Str:=["frames"]
theorem vR:zG vQ ["frames"] (zr on):=ae
abbrev oo:Stmt:=top 38
abbrev vS:List Str:=["way"]
theorem vT:zG vS ["way"] (zr oo):=ae
abbrev oq:Stmt:=top 39
abbrev vU:List Str:=["frames"]
theorem vV:zG vU ["frames"] (zr oq):=ae
abbrev ot:Stmt:=top 40
abbrev vW:List Str:=["net","frames","slack","rows","one","two","frame"]
theorem vX:zG vW ["net","frames","slack"] (zr ot):=ae
abbrev ou:Stmt:=top 41
abbrev vY:List Str:=["net","frame","slack","slower"]
theorem vZ:zG vY ["net","frame","slack"] (zr ou):=ae
abbrev ow:Stmt:=top 42
abbrev v6:List Str:=["net","frame","way","slack"]
theorem v7:zG v6 ["net","frame","way","slack"] (zr ow):=ae
abbrev oy:Stmt:=inClass (top 48) 0
abbrev v8:List Str:=["self"]
theorem v9:zG v8 ["self"] (zr oy):=ae
abbrev oz:Stmt:=inClass (top 48) 1
abbrev v_:List Str:=["self","name"]
theorem wd:zG v_ ["self","name"] (zr oz):=ae
abbrev oA:Stmt:=inClass (top 48) 2
abbrev wf:List Str:=["self","name"]
theorem wg:zG wf ["self","name"] (zr oA):=ae
abbrev oB:Stmt:=inClass (top 48) 3
abbrev wj:List Str:=["self","name","senders","ears","wire"]
theorem wm:zG wj ["self","name","senders","ears","wire"] (zr oB):=ae
abbrev oC:Stmt:=inClass (top 48) 5
abbrev wn:List Str:=["self"]
theorem wp:zG wn ["self"] (zr oC):=ae
abbrev oE:Stmt:=inClass (top 48) 6
abbrev wq:List Str:=["self","name"]
theorem wt:zG wq ["self","name"] (zr oE):=ae
abbrev oF:Stmt:=inClass (top 48) 7
abbrev wu:List Str:=["self","name"]
theorem ww:zG wu ["self","name"] (zr oF):=ae
abbrev oG:Stmt:=inClass (top 48) 11
abbrev wy:List Str:=["self","name","kind"]
theorem wz:zG wy ["self","name","kind"] (zr oG):=ae
abbrev oH:Stmt:=inClass (top 48) 12
abbrev wB:List Str:=["self","name"]
theorem wC:zG wB ["self","name"] (zr oH):=ae
abbrev oI:Stmt:=inClass (top 48) 13
abbrev wD:List Str:=["self","ends","text"]
theorem wE:zG wD ["self","ends"] (zr oI):=ae
abbrev oJ:Stmt:=top 49
abbrev wF:List Str:=["ends"]
theorem wG:zG wF ["ends"] (zr oJ):=ae
abbrev oK:Stmt:=top 51
theorem GG:zG ["_law_script"] ["_law_script"] (zr oK):=ae
abbrev oM:Stmt:=top 52
theorem kK:zG ["_law_s","_law_many","_law_cell","_law_found"] ["_law_s","_law_many"] (zr oM):=ae
abbrev oN:Stmt:=top 53
abbrev wH:List Str:=["_law_s","_law_row_here"]
theorem wI:zG wH ["_law_s","_law_row_here"] (zr oN):=ae
abbrev oO:Stmt:=top 54
abbrev wJ:List Str:=["_law_s","_law_names","_law_letters","_law_turn","_law_size","_law_word","_law_k"]
theorem wK:zG wJ ["_law_s","_law_names"] (zr oO):=ae
abbrev oP:Stmt:=top 55
abbrev wL:List Str:=["_law_s","_law_names","_law_lines","_law_one","_law_two","_law_barred","_law_fit","_law_line"]
theorem wM:zG wL ["_law_s","_law_names","_law_lines","_law_one","_law_two","_law_barred"] (zr oP):=ae
abbrev oQ:Stmt:=top 56
abbrev wN:List Str:=["_law_s","_law_names","_law_lines","_law_gates","_law_first","_law_the_last","_law_barred","_law_free","_law_way_here","_law_k","_law_gate"]
theorem wO:zG wN ["_law_s","_law_names","_law_lines","_law_gates","_law_first","_law_the_last","_law_barred"] (zr oQ):=ae
abbrev oR:Stmt:=top 57
abbrev wP:List Str:=["_law_row_here","_law_lines","_law_the_slack","_law_the_most","_law_way_here","_law_sums","_law_line"]
theorem wQ:zG wP ["_law_row_here","_law_lines","_law_the_slack"] (zr oR):=ae
abbrev oS:Stmt:=top 58
abbrev wR:List Str:=["_law_s","_law_names","_law_lines","_law_houses","_law_gates","_law_the_slack","_law_at","_law_first","_law_the_last","_law_ways","_law_the_every","_law_the_long","_law_row_here","_law_spare"]
theorem wS:zG wR ["_law_s","_law_names","_law_lines","_law_houses","_law_gates","_law_the_slack"] (zr oS):=ae
abbrev oT:Stmt:=top 59
abbrev wT:List Str:=["_law_s","_law_the_most","_law_names","_law_houses","_law_gates","_law_the_slack","_law_lines","_law_rows"]
theorem wU:zG wT ["_law_s","_law_the_most"] (zr oT):=ae
abbrev oU:Stmt:=top 60
abbrev wV:List Str:=["_law_world_here","_law_net_here","_law_name_here","_law_senders","_law_ears","_law_the_wire"]
theorem wW:zG wV ["_law_world_here"] (zr oU):=ae
abbrev oV:Stmt:=top 61
abbrev wX:List Str:=["_law_row_here"]
theorem wY:zG wX ["_law_row_here"] (zr oV):=ae
abbrev oW:Stmt:=top 62
abbrev wZ:List Str:=["_law_rows"]
theorem w6:zG wZ ["_law_rows"] (zr oW):=ae
abbrev oX:Stmt:=top 63
abbrev w8:List Str:=["_law_rows","_law_found","_law_row_here","_law_k","_law_way_here","_law_h","_law_line"]
theorem w_:zG w8 ["_law_rows"] (zr oX):=ae
abbrev oY:Stmt:=top 64
abbrev xa:List Str:=["_law_x"]
theorem xc:zG xa ["_law_x"] (zr oY):=ae
abbrev oZ:Stmt:=top 65
abbrev o4:List Str:=["_law_script","_law_s","_law_world_here","_law_frames_here","_law_turn","_law_names","_law_found","_law_due"]
theorem xf:zG o4 ["_law_script"] (zr oZ):=ae
section
variable{P:Program}{w:World}{base:Heap}
theorem GH(F:Fun K "_law_draw" "_law_draw" oM f fd)(B:Blt mg):zX P w K mg base CX0 1 f fd ["_law_s","_law_many"] mF:=by
 refine F.okq kK (λvs H Q E h=>?_) (λcdv A outer s H vs Q E hr h=>?_)
 .obtain⟨a,l,m,rfl,_⟩:=h;rfl
 obtain⟨a,l,many,rfl,⟨ns,i,b,c,ha,hl,hi,hb,hal⟩,hm,hm2,q⟩:=h;refine⟨_,(zc (ag (zH pY (cG (c6 K) (qv 0) zf (λ_ _=>rfl)) zf (aF _))
  (zc (jM (i:=2) kK.nd rfl (MP rfl) zf)
  (zc (ag (zH fq (cG (c6 K) (qv 0) zf (λ_ _=>rfl)) (zB (CW K) rfl B.len aG (zu (cG (c6 K) (qv 0) zf (λ_ _=>rfl)) dq)) (aF _))
  (zc (jM (i:=2) kK.nd rfl (MP rfl) (cG (c6 K) (cG (c6 K) (qv 0) zf (λ_ _=>rfl)) (cG (c6 K) (qv 0) zf (λ_ _=>rfl)) (λ_ _=>rfl)))
  (zg (iw (zW jv (cG (c6 K) (qv 0) zf (λ_ _=>rfl)) zf) (jL (qv 0) zf set_list))))
  zK)
  (zg (ag (WW.qt (eQ (zH lS (qv 2) (zW pS zf zf) (aF _)) (fG (zH ft (qv 2) (eP eN (zW pS zf zf)) (aF _)))))
  (zg (iw (zB Bc rfl B.abs CB (zu (qv 2) dq)) (jL (qv 0) zf set_list)))
  (zc (iw (zW gm (zW jv (zW jv (zW pR (cG (c6 K) (qv 0) zf (λ_ _=>rfl)) zf) (zW gm (qv 2) zf)) zf) zf) (jL (qv 0) zf set_list))
  (zg (aq (zW gm (zW ip (cG (c6 K) (qv 0) zf (λ_ _=>rfl)) zf) (qv 1)))))))))
  zK)
  (zc (jM (i:=3) kK.nd rfl (MP rfl) (zW gm (cG (c6 K) (qv 0) zf (λ_ _=>rfl)) (qv 1)))
  (zc (iw (zW ip (cG (c6 K) (qv 0) zf (λ_ _=>rfl)) (qv 1)) (jL (qv 0) zf set_list))
  (zg (aq (qv 3)))))),?_⟩
 have fin:∀(H1:Hp) (i1 b1 c1:Int) (x:Option V),H1 a=some (.lst [.ref l,.int i1,.int b1,.int c1])->0<=i1->0<=b1->jJ a H H1 ->
   (dh (bt (tOp (rI (λ_ j=>0 < j) λi j=> .int (i % j)) (tOp (cX K) (av 0) (tC (.int 2))) (av 1)) (cz 3))
    (dh (bt (tOp (rI fE λi j=> .int (i / j)) (tOp (cX K) (av 0) (tC (.int 2))) (av 1)) (eK (av 0) (tC (.int 2)) fz)) (fm (av 3)))) {nx:=λ_ H'=>Q .non H',rt:=Q} [some (.ref a),some (.int many),x,none] H1:=by
  intro H1 i1 b1 c1 x h1 hi1 hb1 o1;refine⟨_,rfl,_,_,_,_,rfl,rfl,SqL.of h1,rfl,_,rfl,_,_,rfl,rfl,hm,?_⟩;refine⟨_,rfl,_,_,_,_,rfl,rfl,SqL.of h1,rfl,_,rfl,_,_,rfl,rfl,⟨hm,hm2⟩,?_⟩;refine⟨_,rfl,_,_,_,_,rfl,rfl,h1,rfl,?_⟩;refine⟨_,rfl,?_⟩;refine q _ _ (PJ _ (by omega)) (OY _ hm) ⟨ns,i1,b1 / many,c1,zA,?_,hi1,Int.ediv_nonneg hb1 (by omega),hal⟩ λz hz=>?_
  .rw[zE hal.symm,o1 _ hal.symm];exact hl
  .rw[zE hz];exact o1 z hz
 refine⟨_,rfl,_,_,_,_,rfl,rfl,SqL.of ha,rfl,rfl,_,rfl,?_⟩;refine jD (λc0=>?_) (λc0=>?_)
 .refine⟨_,rfl,_,_,_,_,rfl,rfl,SqL.of ha,rfl,_,rfl,_,_,_,_,rfl,rfl,SqL.of ha,rfl,_,_,rfl,.inl (SqL.of hl),_,_,rfl,rfl,_,rfl,?_⟩;have cellEnd:∀(H1:Hp) (i1 cell:Int),H1 a=some (.lst [.ref l,.int i1,.int b,.int c])->0<=i1->jJ a H H1 ->
   (jq (tOr (fu (tOp (rI0 λi j=> .bl (decide (j<=i))) (av 2) (tOp (rI ju λi j=> .int (i^j.toNat)) (tC (.int 10)) (tC (.int 18)))))
     (fu (tOp (rI0 λi j=> .bl (decide (i<=j))) (av 2) (tUn (rU λi=> .int (-i)) (tOp (rI ju λi j=> .int (i^j.toNat)) (tC (.int 10)) (tC (.int 18)))))))
    (bt (tCB (λxs H Q=>∃i,xs=[.int i]/\Q (.int (if i < 0 then -i else i)) H) (cA (av 2) bL)) (eK (av 0) (tC (.int 2)) fz))
    (dh (bt (tOp (rI (λ_ j=>0 < j) λi j=> .int (i % j)) (tOp (rI0 λi j=> .int (i+j)) (tOp (rI0 λi j=> .int (i+j)) (tOp (rI dk λi j=> .int (i*j)) (tOp (cX K) (av 0) (tC (.int 3))) (tC (.int 48271))) (tOp (rI (λ_ j=>0 < j) λi j=> .int (i % j)) (av 2) (tC (.int 2147483647)))) (tC (.int 11))) (tC (.int 2147483647))) (eK (av 0) (tC (.int 3)) fz))
     (fm (tOp (rI (λ_ j=>0 < j) λi j=> .int (i % j)) (tOp (rI fE λi j=> .int (i / j)) (tOp (cX K) (av 0) (tC (.int 3))) (tC (.int 64))) (av 1)))))
    {nx:=(dh (bt (tOp (rI (λ_ j=>0 < j) λi j=> .int (i % j)) (tOp (cX K) (av 0) (tC (.int 2))) (av 1)) (cz 3))
    (dh (bt (tOp (rI fE λi j=> .int (i / j)) (tOp (cX K) (av 0) (tC (.int 2))) (av 1)) (eK (av 0) (tC (.int 2)) fz)) (fm (av 3)))) {nx:=λ_ H'=>Q .non H',rt:=Q},rt:=Q} [some (.ref a),some (.int many),some (.int cell),none] H1:=by
   intro H1 i1 cell h1 hi1 o1;have big:(bt (tCB (λxs H Q=>∃i,xs=[.int i]/\Q (.int (if i < 0 then -i else i)) H) (cA (av 2) bL)) (eK (av 0) (tC (.int 2)) fz))
     {nx:=(dh (bt (tOp (rI (λ_ j=>0 < j) λi j=> .int (i % j)) (tOp (cX K) (av 0) (tC (.int 2))) (av 1)) (cz 3))
    (dh (bt (tOp (rI fE λi j=> .int (i / j)) (tOp (cX K) (av 0) (tC (.int 2))) (av 1)) (eK (av 0) (tC (.int 2)) fz)) (fm (av 3)))) {nx:=λ_ H'=>Q .non H',rt:=Q},rt:=Q} [some (.ref a),some (.int many),some (.int cell),none] H1:=by
    refine⟨_,rfl,_,rfl,_,rfl,_,_,_,_,rfl,rfl,h1,rfl,?_⟩;exact fin _ i1 (if cell < 0 then -cell else cell) c _ zA hi1 (by split<;>omega) λz hz=>by rw[zE hz];exact o1 z hz
   refine⟨_,rfl,_,_,rfl,rfl,⟨by decide,by decide,by decide⟩,_,_,rfl,rfl,_,rfl,?_⟩;refine jD (λc1=>?_) (λc1=>?_)
   .exact Co big
   .refine⟨_,rfl,_,_,rfl,rfl,⟨by decide,by decide,by decide⟩,_,rfl,_,_,rfl,rfl,_,rfl,?_⟩;refine jD (λc2=>big) (λc2=>?_);refine⟨_,rfl,_,_,_,_,rfl,rfl,SqL.of h1,rfl,_,_,rfl,rfl,.inr ⟨by decide,by decide⟩,_,rfl,_,_,rfl,rfl,(show(0:Int) < 2147483647 by decide),_,_,rfl,rfl,_,_,rfl,rfl,_,_,rfl,rfl,(show(0:Int) < 2147483647 by decide),?_⟩;refine⟨_,rfl,_,_,_,_,rfl,rfl,h1,rfl,?_⟩;refine⟨_,rfl,_,_,_,_,rfl,rfl,SqL.of zA,rfl,_,_,rfl,rfl,⟨by decide,by decide⟩,_,rfl,_,_,rfl,rfl,hm,?_⟩;refine q _ _ (PJ _ (by omega)) (OY _ hm) ⟨ns,i1,b,_,zA,?_,hi1,hb,hal⟩ λz hz=>?_
    .rw[zE hal.symm,o1 _ hal.symm];exact hl
    .rw[zE hz];exact o1 z hz
  refine jD (λc1=>?_) (λc1=>?_)
  .have c1':i < ((ns.map V.int).length:Int):=of_decide_eq_true c1;rw[L0] at c1';have hget:(ns.map V.int)[i.toNat]? = some (.int (ns[i.toNat]'(by omega))):=by rw[L4,L3 (by omega)];rfl
   have hat:=dS hget;rw[show((i.toNat:Nat):Int)=i by omega] at hat;refine⟨_,rfl,_,_,_,_,rfl,rfl,SqL.of ha,rfl,_,rfl,_,_,_,_,rfl,rfl,SqL.of ha,rfl,_,_,_,_,rfl,rfl,SqL.of hl,hat,?_⟩;refine⟨_,rfl,_,_,_,_,rfl,rfl,SqL.of ha,rfl,_,_,rfl,rfl,_,rfl,_,_,_,_,rfl,rfl,ha,rfl,?_⟩;exact cellEnd _ (i+1) _ zA (by omega) λz hz=>by rw[zE hz]
  .exact cellEnd H i 0 ha hi λz hz=>rfl
 .exact fin H i b c none ha hi hb λz hz=>rfl
theorem GI(F:Fun K "_law_start" "_law_start" oK f fd)(B:Blt mg):zX P w K mg base CX0 1 f fd ["_law_script"] (mG K):=by
 refine F.okq GG (λvs H Q E h=>?_) (λcdv A outer s H vs Q E hr h=>?_)
 .obtain⟨a,m,rfl,_⟩:=h;rfl
 obtain⟨a,ns,rfl,hS,q⟩:=h;refine⟨_,(zg (aq (bM (zu (dr (rn K) rfl B.list mz (zu (fK (CT K) (qv 0) fJ (cu zf)) dq)) (zu zf (zu zf (zu zf dq))))))),?_⟩;refine⟨_,rfl,_,rfl,_,_,rfl,hS,λp1 h1=>?_⟩;refine⟨_,_,rfl,.inl (SqL.of zA),λp2 h2=>⟨by show 4<=sizeLine;decide,λp3 h3=>?_⟩⟩;have n21:p2≠p1:=λz=>by rw[z,zA] at h2;cases h2
 have n32:p3≠p2:=λz=>by rw[z,zA] at h3;cases h3
 rw[zE n32] at h3;have n31:p3≠p1:=λz=>by rw[z,zA] at h3;cases h3
 rw[zE n31] at h3;rw[zE n21] at h2;have cut:cB (ns.map V.int) none (some 63)=((ns.drop (HT.sIx (ns.map V.int).length 0 none)).take (HT.sIx (ns.map V.int).length (ns.map V.int).length (some 63) - HT.sIx (ns.map V.int).length 0 none)).map V.int:=by
  unfold cB;rw[Qk,Ql]
 refine q p3 p2 _ h3 h2 ⟨((ns.drop (HT.sIx (ns.map V.int).length 0 none)).take (HT.sIx (ns.map V.int).length (ns.map V.int).length (some 63) - HT.sIx (ns.map V.int).length 0 none)),0,0,90210,zA,?_,by decide,by decide,n32⟩ λb o e=>?_
 .rw[zE n32.symm,zA,cut]
 .rw[zE (zY e h3),zE (zY e h2),zE (zY e h1)];exact e
end
abbrev tab:Tab:=[("Frame",["name","ways","every","long","release","last"]),("Net",["kinds","lines"])]
abbrev eG:List Str:=["name","ways","every","long","release","last"]
theorem o5:cg tab "Frame" "name"=true:=by decide+kernel
theorem K8{R:D->Prop}:bY tab "name" "Frame" eG [v0,v1,v2,v3,v4,v5] R=R v0:=by
 simp only[bY,o5,true_and,LV,M5,beq_self_eq_true,fW]
theorem K9{w:D}:bC tab "name" w "Frame" [] [] R=R ["name"] [w]:=by
 rw[bC,o5,show putN "name" []=(["name"]:List Str) from by simp only[putN,if_false],show putD "name" w [] []=[w] from by simp only[putD,if_false]];exact propext ⟨λh=>h.2.2,λh=>⟨rfl,by show 0 < 1000;decide,h⟩⟩
theorem xh:cg tab "Frame" "ways"=true:=by decide+kernel
theorem K_{R:D->Prop}:bY tab "ways" "Frame" eG [v0,v1,v2,v3,v4,v5] R=R v1:=by
 simp only[bY,xh,true_and,LV,M5,show(("ways":Str)=="name")=false from by decide+kernel,beq_self_eq_true,fW]
theorem La{w:D}:bC tab "ways" w "Frame" ["name"] [v0] R=R ["name","ways"] [v0,w]:=by
 rw[bC,xh,show putN "ways" ["name"]=(["name","ways"]:List Str) from by simp only[putN,show(("name":Str)="ways")=False from eq_false (by decide+kernel),if_false],show putD "ways" w ["name"] [v0]=[v0,w] from by simp only[putD,show(("name":Str)="ways")=False from eq_false (by decide+kernel),if_false]];exact propext ⟨λh=>h.2.2,λh=>⟨rfl,by show 1 < 1000;decide,h⟩⟩
theorem xi:cg tab "Frame" "every"=true:=by decide+kernel
theorem Lb{R:D->Prop}:bY tab "every" "Frame" eG [v0,v1,v2,v3,v4,v5] R=R v2:=by
 simp only[bY,xi,true_and,LV,M5,show(("every":Str)=="name")=false from by decide+kernel,show(("every":Str)=="ways")=false from by decide+kernel,beq_self_eq_true,fW]
theorem Lc{w:D}:bC tab "every" w "Frame" ["name","ways"] [v0,v1] R=R ["name","ways","every"] [v0,v1,w]:=by
 rw[bC,xi,show putN "every" ["name","ways"]=(["name","ways","every"]:List Str) from by simp only[putN,show(("name":Str)="every")=False from eq_false (by decide+kernel),show(("ways":Str)="every")=False from eq_false (by decide+kernel),if_false],show putD "every" w ["name","ways"] [v0,v1]=[v0,v1,w] from by simp only[putD,show(("name":Str)="every")=False from eq_false (by decide+kernel),show(("ways":Str)="every")=False from eq_false (by decide+kernel),if_false]];exact propext ⟨λh=>h.2.2,λh=>⟨rfl,by show 2 < 1000;decide,h⟩⟩
theorem xj:cg tab "Frame" "long"=true:=by decide+kernel
theorem Ld{R:D->Prop}:bY tab "long" "Frame" eG [v0,v1,v2,v3,v4,v5] R=R v3:=by
 simp only[bY,xj,true_and,LV,M5,show(("long":Str)=="name")=false from by decide+kernel,show(("long":Str)=="ways")=false from by decide+kernel,show(("long":Str)=="every")=false from by decide+kernel,beq_self_eq_true,fW]
theorem Le{w:D}:bC tab "long" w "Frame" ["name","ways","every"] [v0,v1,v2] R=R ["name","ways","every","long"] [v0,v1,v2,w]:=by
 rw[bC,xj,show putN "long" ["name","ways","every"]=(["name","ways","every","long"]:List Str) from by simp only[putN,show(("name":Str)="long")=False from eq_false (by decide+kernel),show(("ways":Str)="long")=False from eq_false (by decide+kernel),show(("every":Str)="long")=False from eq_false (by decide+kernel),if_false],show putD "long" w ["name","ways","every"] [v0,v1,v2]=[v0,v1,v2,w] from by simp only[putD,show(("name":Str)="long")=False from eq_false (by decide+kernel),show(("ways":Str)="long")=False from eq_false (by decide+kernel),show(("every":Str)="long")=False from eq_false (by decide+kernel),if_false]];exact propext ⟨λh=>h.2.2,λh=>⟨rfl,by show 3 < 1000;decide,h⟩⟩
theorem GJ:cg tab "Frame" "release"=true:=by decide+kernel
theorem Lf{w:D}:bC tab "release" w "Frame" ["name","ways","every","long"] [v0,v1,v2,v3] R=R ["name","ways","every","long","release"] [v0,v1,v2,v3,w]:=by
 rw[bC,GJ,show putN "release" ["name","ways","every","long"]=(["name","ways","every","long","release"]:List Str) from by simp only[putN,show(("name":Str)="release")=False from eq_false (by decide+kernel),show(("ways":Str)="release")=False from eq_false (by decide+kernel),show(("every":Str)="release")=False from eq_false (by decide+kernel),show(("long":Str)="release")=False from eq_false (by decide+kernel),if_false],show putD "release" w ["name","ways","every","long"] [v0,v1,v2,v3]=[v0,v1,v2,v3,w] from by simp only[putD,show(("name":Str)="release")=False from eq_false (by decide+kernel),show(("ways":Str)="release")=False from eq_false (by decide+kernel),show(("every":Str)="release")=False from eq_false (by decide+kernel),show(("long":Str)="release")=False from eq_false (by decide+kernel),if_false]];exact propext ⟨λh=>h.2.2,λh=>⟨rfl,by show 4 < 1000;decide,h⟩⟩
theorem xk:cg tab "Frame" "last"=true:=by decide+kernel
theorem Lg{R:D->Prop}:bY tab "last" "Frame" eG [v0,v1,v2,v3,v4,v5] R=R v5:=by
 simp only[bY,xk,true_and,LV,M5,show(("last":Str)=="name")=false from by decide+kernel,show(("last":Str)=="ways")=false from by decide+kernel,show(("last":Str)=="every")=false from by decide+kernel,show(("last":Str)=="long")=false from by decide+kernel,show(("last":Str)=="release")=false from by decide+kernel,beq_self_eq_true,fW]
theorem Lh{w:D}:bC tab "last" w "Frame" ["name","ways","every","long","release"] [v0,v1,v2,v3,v4] R=R ["name","ways","every","long","release","last"] [v0,v1,v2,v3,v4,w]:=by
 rw[bC,xk,show putN "last" ["name","ways","every","long","release"]=(["name","ways","every","long","release","last"]:List Str) from by simp only[putN,show(("name":Str)="last")=False from eq_false (by decide+kernel),show(("ways":Str)="last")=False from eq_false (by decide+kernel),show(("every":Str)="last")=False from eq_false (by decide+kernel),show(("long":Str)="last")=False from eq_false (by decide+kernel),show(("release":Str)="last")=False from eq_false (by decide+kernel),if_false],show putD "last" w ["name","ways","every","long","release"] [v0,v1,v2,v3,v4]=[v0,v1,v2,v3,v4,w] from by simp only[putD,show(("name":Str)="last")=False from eq_false (by decide+kernel),show(("ways":Str)="last")=False from eq_false (by decide+kernel),show(("every":Str)="last")=False from eq_false (by decide+kernel),show(("long":Str)="last")=False from eq_false (by decide+kernel),show(("release":Str)="last")=False from eq_false (by decide+kernel),if_false]];exact propext ⟨λh=>h.2.2,λh=>⟨rfl,by show 5 < 1000;decide,h⟩⟩
abbrev cn:List Str:=["kinds","lines"]
theorem xl:cg tab "Net" "kinds"=true:=by decide+kernel
theorem Li{R:D->Prop}:bY tab "kinds" "Net" cn [v0,v1] R=R v0:=by
 simp only[bY,xl,true_and,LV,M5,beq_self_eq_true,fW]
theorem Lj{w:D}:bC tab "kinds" w "Net" [] [] R=R ["kinds"] [w]:=by
 rw[bC,xl,show putN "kinds" []=(["kinds"]:List Str) from by simp only[putN,if_false],show putD "kinds" w [] []=[w] from by simp only[putD,if_false]];exact propext ⟨λh=>h.2.2,λh=>⟨rfl,by show 0 < 1000;decide,h⟩⟩
theorem xm:cg tab "Net" "lines"=true:=by decide+kernel
theorem Lk{R:D->Prop}:bY tab "lines" "Net" cn [v0,v1] R=R v1:=by
 simp only[bY,xm,true_and,LV,M5,show(("lines":Str)=="kinds")=false from by decide+kernel,beq_self_eq_true,fW]
theorem Ll{w:D}:bC tab "lines" w "Net" ["kinds"] [v0] R=R ["kinds","lines"] [v0,w]:=by
 rw[bC,xm,show putN "lines" ["kinds"]=(["kinds","lines"]:List Str) from by simp only[putN,show(("kinds":Str)="lines")=False from eq_false (by decide+kernel),if_false],show putD "lines" w ["kinds"] [v0]=[v0,w] from by simp only[putD,show(("kinds":Str)="lines")=False from eq_false (by decide+kernel),if_false]];exact propext ⟨λh=>h.2.2,λh=>⟨rfl,by show 1 < 1000;decide,h⟩⟩
theorem Lm:MJ ("check_new":Str) (cn.zip [v0,v1])=none:=by
 simp only[LV,Na,M5,Nn,show(("check_new":Str)=="kinds")=false from by decide+kernel,show(("check_new":Str)=="lines")=false from by decide+kernel]
theorem Ln:MJ ("check_nodes":Str) (cn.zip [v0,v1])=none:=by
 simp only[LV,Na,M5,Nn,show(("check_nodes":Str)=="kinds")=false from by decide+kernel,show(("check_nodes":Str)=="lines")=false from by decide+kernel]
theorem Lo:MJ ("ends":Str) (cn.zip [v0,v1])=none:=by
 simp only[LV,Na,M5,Nn,show(("ends":Str)=="kinds")=false from by decide+kernel,show(("ends":Str)=="lines")=false from by decide+kernel]
theorem Lp:MJ ("gate":Str) (cn.zip [v0,v1])=none:=by
 simp only[LV,Na,M5,Nn,show(("gate":Str)=="kinds")=false from by decide+kernel,show(("gate":Str)=="lines")=false from by decide+kernel]
theorem Lq:MJ ("house":Str) (cn.zip [v0,v1])=none:=by
 simp only[LV,Na,M5,Nn,show(("house":Str)=="kinds")=false from by decide+kernel,show(("house":Str)=="lines")=false from by decide+kernel]
theorem Lr:MJ ("kind":Str) (cn.zip [v0,v1])=none:=by
 simp only[LV,Na,M5,Nn,show(("kind":Str)=="kinds")=false from by decide+kernel,show(("kind":Str)=="lines")=false from by decide+kernel]
theorem Ls:MJ ("line":Str) (cn.zip [v0,v1])=none:=by
 simp only[LV,Na,M5,Nn,show(("line":Str)=="kinds")=false from by decide+kernel,show(("line":Str)=="lines")=false from by decide+kernel]
theorem Lu:MJ ("names":Str) (cn.zip [v0,v1])=none:=by
 simp only[LV,Na,M5,Nn,show(("names":Str)=="kinds")=false from by decide+kernel,show(("names":Str)=="lines")=false from by decide+kernel]
theorem Lv:MJ ("put_node":Str) (cn.zip [v0,v1])=none:=by
 simp only[LV,Na,M5,Nn,show(("put_node":Str)=="kinds")=false from by decide+kernel,show(("put_node":Str)=="lines")=false from by decide+kernel]
abbrev xo:List Str:=[]
abbrev xp:List Str:=[]
abbrev xq:List Str:=[]
abbrev xr:List Str:=[]
abbrev kL:Ct:= .lam 0 "by_name" 125 30 "by_name.<locals>.<lambda>"
abbrev GK:DSp:=vm "by_name" 125 30 "by_name.<locals>.<lambda>"
@[reducible] def xu:DS:=(al (fP (iE dLe dLe (dC (.int 1)) (dCB aI (za (zb 0) zm)) (zb 2)) (dCB d_ (za (aY ["sign"] [1] [0] (aE (zb 0)) (zp 0) aD (dOp ka (zb 0) (zb 1))) zm))))
def o6:DSp:=zL xu vn 3
@[reducible] def xv:DS:=(al (fP (dCB bJ (za (zb 0) (za (dC (.ty "int")) zm))) (mK (dCB bJ (za (zb 0) (za (dC (.ty "bool")) zm))))))
def kM:DSp:=zL xv vy 1
@[reducible] def xx:DS:=(zJ (ah (dOr (zP (dOp dNe (dOp dIx (zb 0) (dC (.int 0))) (dOp dIx (zb 1) (dC (.int 0))))) (zP (dOp dNe (dOp dIx (zb 0) (dUn c_ (dC (.int 1)))) (dOp dIx (zb 1) (dUn c_ (dC (.int 1)))))))
  aV
  aj)
  (ah (zP (dCB iJ (za (aY ["name"] [1] [0] (aE (dSl ax (zb 0) (aQ (dC (.int 1))) (aQ (dUn c_ (dC (.int 1)))))) (zp 0) aD (dOp (aC false) (zb 0) (zb 1))) zm)))
  aV
  aj))
def kN:DSp:=zL xx vK 2
@[reducible] def xy:DS:=(al (nX tab "by_name" 125 30 "by_name.<locals>.<lambda>" "name" (zb 0)))
def ja:DSp:=zL xy vQ 1
@[reducible] def xz:DS:=(al (iZ (zb 0) (aQ (dC (.int 1))) bB (aQ (dC (.int 2)))))
def jb:DSp:=zL xz vS 1
@[reducible] def xA:DS:=(zJ (dG tab (zb 0) iX "kinds")
  (dG tab (zb 0) iX "lines"))
def kO:DSp:=zL xA v8 1
@[reducible] def xB:DS:=(al (dCB fb (za (aK tab (zb 0) "kinds") zm)))
def kP:DSp:=zL xB wn 1
@[reducible] def xC:DS:=(zJ (ah (zP (dOp (e_ true) (zb 1) (aK tab (zb 0) "kinds")))
  aV
  aj)
  (al (kg (aK tab (zb 0) "kinds") (zb 1))))
def kQ:DSp:=zL xC wq 2
@[reducible] def xD:DS:=(zJ (ah (zP (dOp (e_ true) (zb 1) (aK tab (zb 0) "lines")))
  aV
  aj)
  (al (kg (aK tab (zb 0) "lines") (zb 1))))
def jc:DSp:=zL xD wu 2
@[reducible] def xE:DS:=(bN (aE (zb 1)) (zp 2)
  (ah (dOr (zP (dOp (e_ true) (zb 2) (aK tab (zb 0) "kinds"))) (zP (dOp (e_ false) (zb 2) (aK tab (zb 0) "lines"))))
  aV
  aj))
def jd:DSp:=zL xE wD 2
@[reducible] def xF:DS:=(zJ (ah (eV (zP (iE dLe dLe (dC (.int 1)) (dCB aI (za (zb 0) zm)) (dC (.int 6)))))
  aV
  aj)
  (ah (zP (dOp dLt (nh (zb 0)) (dCB aI (za (zb 0) zm))))
  aV
  aj))
def je:DSp:=zL xF wF 1
@[reducible] def xG:DS:=(zJ (ac (dC (.int 0)) (zp 3))
  (zJ (bN (aE (dOp dIx (zb 0) (dC (.int 1)))) (zp 4)
  (zJ (ac (dC (.int 0)) (zp 5))
  (zJ (bN (aE (zb 1)) (zp 6)
  (ah (zP (dOp (aC false) (dOp dIx (zb 6) (dC (.int 0))) (zb 4)))
  (ac (dOp ay (dOp ay (dOp ay (zb 5) (dOp dIx (zb 0) (dC (.int 3)))) (dOp dIx (zb 6) (dC (.int 3)))) (zb 2)) (zp 5))
  aj))
  (ac (dCB fT (za (zb 3) (za (zb 5) zm))) (zp 3)))))
  (al (zb 3))))
def kR:DSp:=zL xG wP 3
@[reducible] def xH:DS:=(zJ (ac (dB zm) (zp 1))
  (zJ (bN (aE (dCB kD (za (zb 0) zm))) (zp 2)
  (bN (gb (za (dOp dIx (zb 2) (dC (.int 1))) zm)) (dX 2 (a_ (zp 3) (a_ (zp 4) eW)))
  (bN (gb (za (iZ (zb 4) (aQ (dC (.int 1))) bB (aQ (dC (.int 2)))) zm)) (dX 2 (a_ (zp 5) (a_ (zp 6) eW)))
  (ak (dBM "list" bW (zb 1) (za (dTup (za (zb 2) (za (zb 3) (za (zb 5) (za (zb 6) zm))))) zm))))))
  (mN 1 (al (zb 1)))))
def kT:DSp:=zL xH w8 1
@[reducible] def xI:DS:=(al (fP (dCB bJ (za (zb 0) (za (dC (.ty "int")) zm))) (mK (dCB bJ (za (zb 0) (za (dC (.ty "bool")) zm))))))
def jf:DSp:=zL xI xa 1
@[reducible] def xJ:DS:=(al (dCall o6 (za (zb 0) (za (dC (.str "abcdefghijklmnopqrstuvwxyz")) (za (dC (.int 8)) zm)))))
def jg:DSp:=zL xJ vp 1
@[reducible] def xK:DS:=(ah (eV (zP (dCall kM (za (zb 0) zm))))
  aV
  aj)
def kU:DSp:=zL xK vA 1
@[reducible] def xM:DS:=(zJ (ac (ci "Net" "ends" jc 2 0 [.p 0,.p 1] [] (zb 0) (za (dOp dIx (zb 1) (zb 2)) zm) zm) (dX 3 (a_ (zp 3) (a_ (zp 4) (a_ (zp 5) eW)))))
  (al (fP (dOp (aC false) (dOp dIx (zb 1) (dOp eX (zb 2) (dC (.int 1)))) (zb 3)) (dOp (aC false) (dOp dIx (zb 1) (dOp ay (zb 2) (dC (.int 1)))) (zb 4)))))
def kW:DSp:=zL xM vO 3
@[reducible] def xN:DS:=(al (nQ ["frame","at","way","h"] [] [0] (aE (dCall ja (za (zb 0) zm))) (zp 0) aD (gZ (["frame","at","way","h"]:List Str).length ([]++[0]) ([1]++([2]++[])) (gb (za (aK tab (zb 0) "ways") zm)) (dX 2 (a_ (zp 1) (a_ (zp 2) eW))) aD (gZ (["frame","at","way","h"]:List Str).length (([]++[0])++([1]++([2]++[]))) [3] (dE (za (dCB aI (za (dCall jb (za (zb 2) zm)) zm)) zm)) (zp 3) aD (i7 (dTup (za (aK tab (zb 0) "name") (za (zb 1) (za (zb 3) zm)))))))))
def kX:DSp:=zL xN vU 1
@[reducible] def xO:DS:=(al (aY ["line"] [1,0,3] [0] (aE (dCall jb (za (zb 2) zm))) (zp 0) aD (dOp ay (dOp ay (aK tab (zb 1) "long") (dOp dIx (ci "Net" "ends" jc 2 0 [.p 0,.p 1] [] (zb 2) (za (zb 0) zm) zm) (dC (.int 2)))) (zb 3))))
def kY:DSp:=zL xO v6 4
@[reducible] def xP:DS:=(al (dOp dIx (zb 1) (dCall aX (za (zb 0) (za (dCB aI (za (zb 1) zm)) zm)))))
def jh:DSp:=zL xP wH 2
@[reducible] def xQ:DS:=(zJ (ac (dC (.str "abcdefghijklmnopqrstuvwxyz")) (zp 2))
  (zJ (bN (dE (za (dC (.int 4)) zm)) (zp 3)
  (zJ (ac (dOp ay (dC (.int 1)) (dCall aX (za (zb 0) (za (dC (.int 3)) zm)))) (zp 4))
  (zJ (ah (zP (dOp dEq (zb 4) (dC (.int 3))))
  (ac (dOp ay (dC (.int 1)) (dCall aX (za (zb 0) (za (dC (.int 8)) zm)))) (zp 4))
  aj)
  (zJ (ac (dBM "str" m9 (dC (.str "")) (za (aY ["_law_k"] [2,0] [0] (dE (za (zb 4) zm)) (zp 0) aD (dOp dIx (zb 1) (dCall aX (za (zb 2) (za (dC (.int 26)) zm))))) zm)) (zp 5))
  (ah (zP (dOp (aC true) (zb 5) (zb 1)))
  (zJ (ak (dBM "list" bW (zb 1) (za (zb 5) zm)))
  (al (zb 5)))
  aj)))))
  (zJ (bN (dE (za (dC (.int 104)) zm)) (zp 6)
  (zJ (ac (dOp e9 (dOp dIx (zb 2) (dOp mO (zb 6) (dC (.int 26)))) (dOp ay (dC (.int 1)) (dOp jV (zb 6) (dC (.int 26))))) (zp 5))
  (ah (zP (dOp (aC true) (zb 5) (zb 1)))
  (zJ (ak (dBM "list" bW (zb 1) (za (zb 5) zm)))
  (al (zb 5)))
  aj)))
  (al (dC (.str "zzzzzzzz"))))))
def eI:DSp:=zL xQ wJ 2
@[reducible] def xR:DS:=(ah (eV (zP (dCall jg (za (zb 0) zm))))
  aV
  aj)
def ji:DSp:=zL xR vt 1
@[reducible] def xS:DS:=(zJ (ak (dCall kU (za (zb 0) zm)))
  (ah (eV (zP (iE dLe dLe (zb 1) (zb 0) (zb 2))))
  aV
  aj))
def fg:DSp:=zL xS vC 3
@[reducible] def xT:DS:=(zJ (ah (zP (dOp (aC true) (dCB aI (za (zb 0) zm)) (dC (.tup (On D.int [3,5,7])))))
  aV
  aj)
  (zJ (ah (eV (zP (dCB d_ (za (aY ["text"] [] [0] (aE (zb 0)) (zp 0) aD (dCall jg (za (zb 0) zm))) zm))))
  aV
  aj)
  (ah (zP (dOp dLt (nh (zb 0)) (dCB aI (za (zb 0) zm))))
  aV
  aj)))
def kZ:DSp:=zL xT vI 1
@[reducible] def xU:DS:=(zJ (ac (nz ["name"] [0] [0] (aE (ci "Net" "names" kP 1 0 [.p 0] [] (zb 0) zm zm)) (zp 0) aD (zb 0) (ci "Net" "kind" kQ 2 0 [.p 0,.p 1] [] (zb 1) (za (zb 0) zm) zm)) (zp 2))
  (zJ (ac (dOp e9 (c9 (za (dC (.str "line")) (za (dC (.str "gate")) zm))) (dOp jV (dOp eX (dCB aI (za (zb 1) zm)) (dC (.int 3))) (dC (.int 2)))) (zp 3))
  (zJ (ac (dOp ay (dOp ay (c9 (za (dC (.str "house")) zm)) (zb 3)) (c9 (za (dC (.str "line")) (za (dC (.str "house")) zm)))) (zp 4))
  (zJ (ah (zP (dOp dNe (aY ["name"] [2] [0] (aE (zb 1)) (zp 0) aD (nA (zb 1) (zb 0) (dC (.str "")))) (zb 4)))
  (al (dC (.bl false)))
  aj)
  (al (dCB d_ (za (aY ["at"] [0,1] [0] (nB (za (dC (.int 1)) (za (dCB aI (za (zb 1) zm)) (za (dC (.int 2)) zm)))) (zp 0) aD (dCall kW (za (zb 1) (za (zb 2) (za (zb 0) zm))))) zm)))))))
def k6:DSp:=zL xU vM 2
@[reducible] def xV:DS:=(zJ (ac (aY ["_law_line"] [5,3] [0] (aE (zb 2)) (zp 0) (mJ (zP (dOp (aC true) (dOp dIx (zb 0) (dC (.int 0))) (zb 1))) (dOr (zP (dOp (aC false) (zb 2) (dOp dIx (zb 0) (dC (.int 1))))) (zP (dOp dLt (dCB aI (za (dOp dIx (zb 0) (dC (.int 1))) zm)) (dC (.int 6)))))) (zb 0)) (zp 6))
  (zJ (ac (aY ["_law_line"] [4] [0] (aE (zb 6)) (zp 0) (dOr (zP (dOp (aC false) (zb 1) (dOp dIx (zb 0) (dC (.int 2))))) (zP (dOp dLt (dCB aI (za (dOp dIx (zb 0) (dC (.int 2))) zm)) (dC (.int 6))))) (zb 0)) (zp 6))
  (zJ (ah (mJ (zP (dOp dLt (dCB aI (za (zb 2) zm)) (dC (.int 14)))) (dOr (zP (dOp dEq (dCB aI (za (zb 6) zm)) (dC (.int 0)))) (zP (dOp dEq (dCall aX (za (zb 0) (za (dC (.int 3)) zm))) (dC (.int 0))))))
  (zJ (ak (dBM "list" bW (zb 2) (za (c9 (za (dCall eI (za (zb 0) (za (zb 1) zm))) (za (dB (za (zb 3) zm)) (za (dB (za (zb 4) zm)) (za (dCall aX (za (zb 0) (za (dC (.int 4)) zm))) zm))))) zm)))
  (al (dOp dIx (dOp dIx (zb 2) (dUn c_ (dC (.int 1)))) (dC (.int 0)))))
  aj)
  (zJ (ac (dCall jh (za (zb 0) (za (zb 6) zm))) (zp 7))
  (zJ (ah (zP (dOp (aC true) (zb 3) (dOp dIx (zb 7) (dC (.int 1)))))
  (ak (dBM "list" bW (dOp dIx (zb 7) (dC (.int 1))) (za (zb 3) zm)))
  aj)
  (zJ (ah (zP (dOp (aC true) (zb 4) (dOp dIx (zb 7) (dC (.int 2)))))
  (ak (dBM "list" bW (dOp dIx (zb 7) (dC (.int 2))) (za (zb 4) zm)))
  aj)
  (al (dOp dIx (zb 7) (dC (.int 0))))))))))
def jj:DSp:=zL xV wL 6
@[reducible] def xW:DS:=(zJ (ah (zP (dOp (aC true) (dCB aI (za (zb 0) zm)) (dTup (za (dC (.int 1)) (za (dC (.int 2)) zm)))))
  aV
  aj)
  (zJ (bN (aE (zb 0)) (zp 1)
  (ak (dCall kZ (za (zb 1) zm))))
  (ah (zP (dOp dEq (dCB aI (za (zb 0) zm)) (dC (.int 2))))
  (ak (dCall kN (za (dOp dIx (zb 0) (dC (.int 0))) (za (dOp dIx (zb 0) (dC (.int 1))) zm))))
  aj)))
def k7:DSp:=zL xW vG 1
@[reducible] def xX:DS:=(zJ (ah (eV (zP (dCB d_ (za (aY ["way"] [0] [0] (aE (aK tab (zb 1) "ways")) (zp 0) aD (dCall k6 (za (zb 1) (za (zb 0) zm)))) zm))))
  aV
  aj)
  (zJ (ah (zP (dOp dGt (dOp ay (aK tab (zb 1) "long") (zb 2)) (aK tab (zb 1) "every")))
  aV
  aj)
  (zJ (ac (dCB fT (za (aY ["way"] [1,0,2] [0] (aE (aK tab (zb 1) "ways")) (zp 0) aD (dCB iI (za (dCall kY (za (zb 2) (za (zb 1) (za (zb 0) (za (zb 3) zm))))) zm))) zm)) (zp 3))
  (ah (zP (dOp dLt (aK tab (zb 1) "last") (zb 3)))
  aV
  aj))))
def k8:DSp:=zL xX vY 3
@[reducible] def xY:DS:=(zJ (ak (dCall ji (za (zb 1) zm)))
  (ah (zP (dOp (e_ false) (zb 1) (aK tab (zb 0) "kinds")))
  aV
  aj))
def jk:DSp:=zL xY wB 2
@[reducible] def xZ:DS:=(zJ (ac (aY ["_law_gate"] [6] [0] (aE (zb 3)) (zp 0) (zP (dOp (aC true) (zb 0) (zb 1))) (zb 0)) (zp 7))
  (zJ (ac (dB (za (zb 4) zm)) (zp 8))
  (zJ (bN (dE (za (dCB fU (za (dCall aX (za (zb 0) (za (dC (.int 3)) zm))) (za (dCB aI (za (zb 7) zm)) zm))) zm)) (zp 9)
  (zJ (ac (dCall jh (za (zb 0) (za (zb 7) zm))) (zp 10))
  (zJ (ac (aY ["_law_other"] [10] [0] (aE (zb 7)) (zp 0) (zP (dOp dNe (zb 0) (zb 1))) (zb 0)) (zp 7))
  (zJ (ak (dBM "list" bW (zb 8) (za (dCall jj (za (zb 0) (za (zb 1) (za (zb 2) (za (dOp dIx (zb 8) (dUn c_ (dC (.int 1)))) (za (zb 10) (za (dOp ay (zb 6) (zb 8)) zm))))))) zm)))
  (ak (dBM "list" bW (zb 8) (za (zb 10) zm)))))))
  (zJ (ak (dBM "list" bW (zb 8) (za (dCall jj (za (zb 0) (za (zb 1) (za (zb 2) (za (dOp dIx (zb 8) (dUn c_ (dC (.int 1)))) (za (zb 5) (za (dOp ay (zb 6) (zb 8)) zm))))))) zm)))
  (zJ (ak (dBM "list" bW (zb 8) (za (zb 5) zm)))
  (al (dCB cR (za (zb 8) zm))))))))
def jl:DSp:=zL xZ wN 7
@[reducible] def x8:DS:=(zJ (ak (dCall ji (za (zb 1) zm)))
  (zJ (ak (dCall k7 (za (zb 2) zm)))
  (zJ (ah (zP (dOp (aC true) (zb 3) (dC (.tup (On D.int [4,5,6,8,10,12,15,20,24,30,40,60,120])))))
  aV
  aj)
  (zJ (ak (dCall fg (za (zb 4) (za (dC (.int 1)) (za (dC (.int 30)) zm)))))
  (zJ (ak (dCall fg (za (zb 5) (za (dC (.int 0)) (za (dOp eX (zb 3) (dC (.int 1))) zm)))))
  (zJ (ak (dCall fg (za (zb 6) (za (dC (.int 1)) (za (dC (.int 480)) zm)))))
  (zJ (dG tab (zb 0) (zb 1) "name")
  (zJ (dG tab (zb 0) (zb 2) "ways")
  (zJ (dG tab (zb 0) (zb 3) "every")
  (zJ (dG tab (zb 0) (zb 4) "long")
  (zJ (dG tab (zb 0) (zb 5) "release")
  (dG tab (zb 0) (zb 6) "last"))))))))))))
def g9:DSp:=zL x8 vE 7
@[reducible] def x_:DS:=(zJ (ak (dCall fg (za (zb 2) (za (dC (.int 0)) (za (dC (.int 30)) zm)))))
  (zJ (ah (zP (dOp dGt (dCB aI (za (zb 1) zm)) (dC (.int 8))))
  aV
  aj)
  (zJ (ac (dCall ja (za (zb 1) zm)) (zp 3))
  (zJ (bN (mW (za (zb 3) (za (dSl ax (zb 3) (aQ (dC (.int 1))) bB) zm))) (dX 2 (a_ (zp 4) (a_ (zp 5) eW)))
  (ah (zP (dOp dEq (aK tab (zb 4) "name") (aK tab (zb 5) "name")))
  aV
  aj))
  (bN (aE (zb 3)) (zp 6)
  (ak (dCall k8 (za (zb 0) (za (zb 6) (za (zb 2) zm))))))))))
def k9:DSp:=zL x_ vW 3
@[reducible] def ya:DS:=(zJ (ak (ci "Net" "check_new" jk 2 0 [.p 0,.p 1] [] (zb 0) (za (zb 1) zm) zm))
  (zJ (ah (zP (dOp dGe (dCB gS (za (aK tab (zb 0) "lines") zm)) (dC (.int 16))))
  aV
  aj)
  (zJ (ak (dCall je (za (zb 2) zm)))
  (zJ (ak (dCall je (za (zb 3) zm)))
  (zJ (ak (ci "Net" "check_nodes" jd 2 0 [.p 0,.p 1] [] (zb 0) (za (zb 2) zm) zm))
  (zJ (ak (ci "Net" "check_nodes" jd 2 0 [.p 0,.p 1] [] (zb 0) (za (zb 3) zm) zm))
  (zJ (ak (dCall fg (za (zb 4) (za (dC (.int 0)) (za (dC (.int 30)) zm)))))
  (zJ (fZ (aK tab (zb 0) "kinds") (zb 1) (dC (.str "line")))
  (fZ (aK tab (zb 0) "lines") (zb 1) (dTup (za (dCB cR (za (dCB fb (za (zb 2) zm)) zm)) (za (dCB cR (za (dCB fb (za (zb 3) zm)) zm)) (za (zb 4) zm)))))))))))))
def k_:DSp:=zL ya wj 5
@[reducible] def yb:DS:=(zJ (ak (ci "Net" "check_new" jk 2 0 [.p 0,.p 1] [] (zb 0) (za (zb 1) zm) zm))
  (zJ (ah (zP (dOp dGe (dOp eX (dCB gS (za (aK tab (zb 0) "kinds") zm)) (dCB gS (za (aK tab (zb 0) "lines") zm))) (dC (.int 16))))
  aV
  aj)
  (fZ (aK tab (zb 0) "kinds") (zb 1) (zb 2))))
def jm:DSp:=zL yb wy 3
@[reducible] def yc:DS:=(zJ (ac (dCall aX (za (zb 0) (za (dCB aI (za (zb 3) zm)) zm))) (zp 6))
  (zJ (ac (dOp dIx (zb 3) (zb 6)) (zp 7))
  (zJ (ac (dOp dIx (zb 3) (dOp mO (dOp ay (dOp ay (zb 6) (dC (.int 1))) (dCall aX (za (zb 0) (za (dOp eX (dCB aI (za (zb 3) zm)) (dC (.int 1))) zm)))) (dCB aI (za (zb 3) zm)))) (zp 8))
  (zJ (ac (dB (za (dCall jl (za (zb 0) (za (zb 1) (za (zb 2) (za (zb 4) (za (zb 7) (za (zb 8) (za (c9 zm) zm)))))))) zm)) (zp 9))
  (zJ (ah (zP (dOp dEq (dCall aX (za (zb 0) (za (dC (.int 4)) zm))) (dC (.int 1))))
  (ak (dBM "list" bW (zb 9) (za (dCall jl (za (zb 0) (za (zb 1) (za (zb 2) (za (zb 4) (za (zb 7) (za (zb 8) (za (dCB iK (za (dSl ax (dOp dIx (zb 9) (dC (.int 0))) (aQ (dC (.int 1))) (aQ (dUn c_ (dC (.int 1))))) zm)) zm)))))))) zm)))
  aj)
  (zJ (ac (dOp dIx (c9 (mL [12,8,20,24,10,30,15,40,60,12,120])) (dCall aX (za (zb 0) (za (dC (.int 11)) zm)))) (zp 10))
  (zJ (ac (dOp ay (dC (.int 1)) (dCall aX (za (zb 0) (za (dCB fU (za (dC (.int 4)) (za (dOp eX (zb 10) (zb 5)) zm))) zm)))) (zp 11))
  (zJ (ac (dTup (za (dCall eI (za (zb 0) (za (zb 1) zm))) (za (dCB cR (za (zb 9) zm)) (za (zb 10) (za (zb 11) (za (dCall aX (za (zb 0) (za (zb 10) zm))) (za (dC (.int 0)) zm))))))) (zp 12))
  (zJ (ac (dOp dIx (c9 (za (dC (.int 0)) (za (dC (.int 1)) (za (dC (.int 2)) (za (dOp jV (zb 10) (dC (.int 2))) (za (dC (.int 3)) (za (dOp eX (zb 10) (dC (.int 1))) (za (dC (.int 6)) zm)))))))) (dCall aX (za (zb 0) (za (dC (.int 7)) zm)))) (zp 13))
  (al (dOp ay (dSl ax (zb 12) bB (aQ (dC (.int 5)))) (dTup (za (dOp ay (dCall kR (za (zb 12) (za (zb 2) (za (zb 5) zm)))) (zb 13)) zm)))))))))))))
def ld:DSp:=zL yc wR 6
@[reducible] def yd:DS:=(ak (ci "Net" "put_node" jm 3 0 [.p 0,.p 1,.p 2] [] (zb 0) (za (zb 1) (za (dC (.str "house")) zm)) zm))
def lf:DSp:=zL yd v_ 2
@[reducible] def ye:DS:=(ak (ci "Net" "put_node" jm 3 0 [.p 0,.p 1,.p 2] [] (zb 0) (za (zb 1) (za (dC (.str "gate")) zm)) zm))
def lg:DSp:=zL ye wf 2
@[reducible] def yf:DS:=(zJ (ac (dB zm) (zp 2))
  (zJ (ac (aY ["_law_k"] [2,0] [0] (dE (za (dOp ay (dC (.int 2)) (dCall aX (za (zb 0) (za (dC (.int 3)) zm)))) zm)) (zp 0) aD (dCall eI (za (zb 2) (za (zb 1) zm)))) (zp 3))
  (zJ (ac (aY ["_law_k"] [2,0] [0] (dE (za (dCall aX (za (zb 0) (za (dC (.int 4)) zm))) zm)) (zp 0) aD (dCall eI (za (zb 2) (za (zb 1) zm)))) (zp 4))
  (zJ (ac (dOp dIx (c9 (mL [0,1,2,0,3,1,5,7])) (dCall aX (za (zb 0) (za (dC (.int 8)) zm)))) (zp 5))
  (zJ (ac (dB zm) (zp 6))
  (zJ (ac (aY ["_law_k"] [4,3,6,2,0,5] [0] (dE (za (dOp ay (dC (.int 1)) (dCall aX (za (zb 0) (za (zb 1) zm)))) zm)) (zp 0) aD (dCall ld (za (zb 5) (za (zb 4) (za (zb 3) (za (zb 2) (za (zb 1) (za (zb 6) zm)))))))) (zp 7))
  (al (dTup (za (zb 3) (za (zb 4) (za (zb 6) (za (zb 7) (za (zb 5) (za (zb 2) zm))))))))))))))
def lh:DSp:=zL yf wT 2
@[reducible] def yg:DS:=(zJ (ac (tR "Net" kO 1 0 [.p 0] [] zm zm) (zp 1))
  (zJ (bN (aE (dOp dIx (zb 0) (dC (.int 0)))) (zp 2)
  (ak (ci "Net" "house" lf 2 0 [.p 0,.p 1] [] (zb 1) (za (zb 2) zm) zm)))
  (zJ (bN (aE (dOp dIx (zb 0) (dC (.int 1)))) (zp 2)
  (ak (ci "Net" "gate" lg 2 0 [.p 0,.p 1] [] (zb 1) (za (zb 2) zm) zm)))
  (zJ (bN (aE (dOp dIx (zb 0) (dC (.int 2)))) (nw 4 (a_ (zp 2) (a_ (zp 3) (a_ (zp 4) (a_ (zp 5) eW)))))
  (ak (ci "Net" "line" k_ 4 1 [.p 0,.p 1,.p 2,.p 3,.k 0] [] (zb 1) (za (zb 2) (za (dCB cR (za (zb 3) zm)) (za (dCB cR (za (zb 4) zm)) zm))) (za (zb 5) zm))))
  (al (zb 1))))))
def li:DSp:=zL yg wV 1
@[reducible] def yh:DS:=(al (iR "Frame" g9 3 4 [.p 0,.p 1,.p 2,.k 0,.k 1,.k 2,.k 3] [] (za (dOp dIx (zb 0) (dC (.int 0))) (za (dOp dIx (zb 0) (dC (.int 1))) zm)) (za (dOp dIx (zb 0) (dC (.int 2))) (za (dOp dIx (zb 0) (dC (.int 3))) (za (dOp dIx (zb 0) (dC (.int 4))) (za (dOp dIx (zb 0) (dC (.int 5))) zm))))))
def lj:DSp:=zL yh wX 1
@[reducible] def yi:DS:=(al (aY ["_law_row_here"] [] [0] (aE (zb 0)) (zp 0) aD (dCall lj (za (zb 0) zm))))
def lq:DSp:=zL yi wZ 1
@[reducible] def o7:DS:=(zJ (ac (dCall j4 (za (zb 0) zm)) (zp 1))
  (zJ (ac (dCall lh (za (zb 1) (za (dC (.int 8)) zm))) (zp 2))
  (zJ (ac (dCall lq (za (dOp dIx (zb 2) (dC (.int 3))) zm)) (zp 3))
  (zJ (ac (dCall aX (za (zb 1) (za (dCB aI (za (zb 3) zm)) zm))) (zp 4))
  (zJ (ac (dOp ay (dSl ax (zb 3) (aQ (zb 4)) bB) (dSl ax (zb 3) bB (aQ (zb 4)))) (zp 3))
  (zJ (ac (aY ["_law_frame_here"] [] [0] (aE (zb 3)) (zp 0) aD (aK tab (zb 0) "name")) (zp 5))
  (zJ (ah (zP (dOp jZ (tK k9 2 1 [.p 0,.p 1,.k 0] [] (za (dCall li (za (zb 2) zm)) (za (zb 3) zm)) (za (dOp dIx (zb 2) (dC (.int 4))) zm)) (dC .non)))
  (al (dC (.bl false)))
  aj)
  (zJ (ac (dCall kX (za (zb 3) zm)) (zp 6))
  (zJ (ac (aY ["_law_row_here","_law_k","_law_h","_law_line"] [] ([0]++([1]++([2]++([3]++[])))) (aE (dCall kT (za (dOp dIx (zb 2) (dC (.int 3))) zm))) (dX 4 (a_ (zp 0) (a_ (zp 1) (a_ (zp 2) (a_ (zp 3) eW))))) aD (dTup (za (dOp dIx (zb 0) (dC (.int 0))) (za (zb 1) (za (zb 2) zm))))) (zp 7))
  (zJ (ah (dOr (zP (dOp dNe (aY ["_law_frame_here"] [] [0] (aE (zb 3)) (zp 0) aD (aK tab (zb 0) "name")) (zb 5))) (dOr (eV (zP (dCB bJ (za (zb 6) (za (dC (.ty "list")) zm))))) (zP (dOp dNe (zb 6) (zb 7)))))
  (al (dC (.bl false)))
  aj)
  (al (dCB d_ (za (aY ["_law_x"] [] [0] (aE (zb 6)) (zp 0) aD (fP (dCB bJ (za (zb 0) (za (dC (.ty "tuple")) zm))) (fP (dCall jf (za (dOp dIx (zb 0) (dC (.int 1))) zm)) (dCall jf (za (dOp dIx (zb 0) (dC (.int 2))) zm))))) zm)))))))))))))
local macro_rules | `(tactic| rw_mod_cast [$rs,*])=>do
 let ts:Array (Lean.TSyntax `term):=rs.getElems.map λr=>⟨r.raw[1]⟩
 let ids:Array (Lean.TSyntax `term):=(("zJ ac zb dC dOp dUn Jm mJ dOr eV fP IN mK dIf Jn Jg mZ Jf zm za mL dTup c9 dB aj IP IQ ak al IR ah aV zp eW Jp Er Jq Jr IS mN Es Ji Jj Jk Ep bN dCall dCB aY IT J5 J6 J7 J8 J9 J_ aE JY JZ J3 J4 Jh fW Je dSl bB Jo dF JB aD IY Kj Kf dBM IX Kg Kh Ki Kc Jl Kd Ke Et Ju Eu Jv Jw eX jV mO IU dLt dGt dLe dGe IV IW Js e_i Jt Jx Ey Jy tu Ez Jz JA JC JD JE JF JG JH JI JJ EA JK JL JM JN JO JP JQ JR JS JT JU JV mQ JW JX mR Kk Kl Ko Kp Kq Kr Ks Kt Ku Nat.reduceAdd Int.cast_ofNat_Int Int.reduceEq decide_true decide_false List.all_cons List.all_nil List.any_cons List.any_nil id_eq Bool.and_true Bool.true_and Bool.or_false Kv Kw Kx Ky Kz KA KB KC KD Km Kn tK KQ KR KP KS Go KU KW KY KZ K7 K4 K5 K6 K0 K1 K2 K3 nh KM KJ KK KL aK EM KF KG KE KH KI ci tR KO E8 K8 K9 K_ La Lb Lc Ld Le Lf Lg Lh Li Lj Lk Ll Lm Ln Lo Lp Lq Lr Ls Lu Lv sel pick List.getD_cons_zero List.getD_cons_succ beq_self_eq_true Bool.and_self cond_true Ec IZ I0 Ka Kb jU ends cO zF sY sZ El Em En I_ Ja Jb Jc Jd Eo List.length_cons List.length_nil List.map_cons List.map_nil List.set_cons_zero List.set_cons_succ List.getElem?_cons_zero List.getElem?_cons_succ List.cons_append List.nil_append List.replicate Option.join_some Option.join_none true_and and_true if_true Bool.true_eq_false Bool.false_eq_true if_false Bool.not_true Bool.not_false".splitOn " ").map λs=>(⟨Lean.mkIdent s.toName⟩:Lean.TSyntax `term)).toArray
 let all:=ids++ts
 `(tactic| simp only[↓EY, ↓EZ, ↓E1, ↓E2, ↓E4, ↓E5, ↓E6, ↓E7, $[$all:term],*])
local macro_rules | `(tactic| walk_at "e")=> `(tactic| rw_mod_cast [])
local macro_rules | `(tactic| walk_at "x")=> `(tactic| repeat' first|exact E_|exact Fb|exact E9 rfl|with_reducible apply Fc|with_reducible apply Fa|exact gR sY|exact gR sZ|exact gR El|exact gR Em|exact gR En|exact gR E8|exact ud sY|exact ud sZ|exact Fi|exact Fh|apply Fg|with_reducible apply Fd|with_reducible apply Fe|with_reducible apply Ff|exact Fj|with_reducible apply Fl|with_reducible apply Fm|with_reducible apply Fn|with_reducible apply Fo|with_reducible apply Fp|with_reducible apply Fq|with_reducible apply Fr|with_reducible apply Fs|with_reducible apply Ft|with_reducible apply Fu | (show _≠[];simp;done) | (show _ < NL _;simp;done) | (show NL _<=1000;simp;done) | (show NL _+NL _<=1000;simp;done))
def letters:Str:="abcdefghijklmnopqrstuvwxyz"
theorem GL:∀i:_root_.Fin 26,letters.cps.toList[i.val]? = some (97+i.val):=by decide+kernel
theorem yj(h0:0<=v)(h1:v < 26):atI letters.cps.toList v=some (97+v.toNat):=by
 have h:=dS (GL ⟨v.toNat,by omega⟩);rw[show((v.toNat:Nat):Int)=v by omega] at h;exact h
def dO(k:Nat):Str:=⟨(LF (1+k / 26) (97+k % 26)).toArray⟩
def o8:List Str:=(Mz 104).map dO
theorem GM:o8.Nodup:=by decide+kernel
theorem GN:∀k:_root_.Fin 104,((dO k.val).cps.toList.length<=8/\1<=(dO k.val).cps.toList.length)/\(dO k.val).cps.toList.all (λc=>decide (97<=c/\c<=122))=true:=by decide+kernel
theorem GO(h:ns.length < 104)(all:∀k,k < 104->dO k∈ns):False:=by
 have hs:o8 ⊆ ns:=λx hx=>by
  obtain⟨k,hk,rfl⟩:=M8.mp hx;exact all k (MS.mp hk)
 have:=OI GM hs;have e:o8.length=104:=by decide+kernel
 omega
theorem yk{s:Nat}(hs:μ s=some .draw)(h0:ds≠[])(hl:ds.length<=1000)(q:∀(i:Nat) d,ds[i]? = some d->Q d μ):jh [.cell s,.lst ds] μ Q:=by
 have hp:0 < ds.length:=OP.mpr h0;refine⟨rfl,?_⟩;walk_at "e"
 refine⟨hs,by omega,by omega,λv v0 v1=>?_⟩;obtain⟨d,e1,e2⟩:=mY v0 v1;rw_mod_cast [e1];exact⟨_,.refl _,q _ d e2⟩
theorem o9(cs:List Nat):(NM (L6 "") (cs.map λc=>(⟨#[c]⟩:Str))).cps.toList=cs:=by
 show(NM Mv (cs.map λc=>(⟨#[c]⟩:Str))).cps.toList=cs;rw[rC,MK];induction cs with
 |nil=>rfl
 |cons c r ih=>rw[LQ,Nj,ih];rfl
theorem GP(cs:List Nat):iz (cs.map λc=>(⟨#[c]⟩:Str))=cs.length+cs.length:=by
 unfold iz;rw[MK,L0];congr 1
 induction cs with
 |nil=>rfl
 |cons c r ih=>rw[LQ,MX,ih,LY];show 1+r.length=_;omega
theorem o_{s:Nat}(hs:μ s=some .draw)(hn:μ na=some (.lst (ns.map D.str)))(hl:ns.length < 100)(q:∀x,Nm x->x∉ns->Q (.str x) (zO μ na (.lst ((ns++[x]).map D.str)))):eI [.cell s,.cell na] μ Q:=by
 have hz:(200:Nat)<=sizeLine:=by decide
 have el:(L6 "abcdefghijklmnopqrstuvwxyz")=letters:=rfl;have ll:letters.length<=sizeLine:=by decide
 refine⟨rfl,stp λN1 h1=>?_⟩;walk_at "e"
 refine h1 _ _ (eZ (λρ μ'=>∃x3 x4 x5,ρ=[some (.cell s),some (.cell na),some (.str letters),x3,x4,x5,none]/\μ'=μ) (λN hN=>?_) ?_)
 .walk_at "e"
  refine⟨by decide,by decide,?_⟩;refine bX (λi ρ μ'=>∃x3 x4 x5,ρ=[some (.cell s),some (.cell na),some (.str letters),x3,x4,x5,none]/\μ'=μ) ⟨_,_,_,rfl,rfl⟩ ?_ (λρ μ' h=>hN _ _ h);rintro i d ρ μ' hd ⟨x3,x4,x5,rfl,rfl⟩ M hM;refine stp λM1 g1=>?_
  walk_at "e"
  refine⟨hs,by decide,by decide,λv v0 v1=>g1 _ _ (eZ (λρ μ2=>∃x3 x5 size,ρ=[some (.cell s),some (.cell na),some (.str letters),x3,some (.int size),x5,none]/\μ2=μ'/\1<=size/\size<=8) (λN hN=>?_) ?_)⟩
  .walk_at "e"
   split
   .exact⟨hs,by decide,by decide,λv v0 v1=>hN _ _ ⟨_,_,_,rfl,rfl,by omega,by omega⟩⟩
   .exact hN _ _ ⟨_,_,_,rfl,rfl,by omega,by omega⟩
  rintro ρ μ2 ⟨y3,y5,size,rfl,rfl,z1,z8⟩;refine stp λM2 g2=>?_
  walk_at "e"
  refine⟨by decide,by omega,by omega,?_⟩;refine ez (λi ys μ3=>μ3=μ2/\∃cs:List Nat,ys=(cs.map λc=>(⟨#[c]⟩:Str)).map D.str/\cs.length=i/\∀c∈cs,97<=c/\c<=122) ⟨rfl,[],rfl,rfl,λc hc=>by cases hc⟩ ?_ ?_
  .rintro i d ys μ3 hd ⟨rfl,cs,rfl,hc,hcs⟩;obtain⟨hi,rfl⟩:=gH hd;refine⟨by rw[L0,L0];omega,λN hN=>?_⟩;walk_at "e"
   refine⟨hs,by decide,by decide,λv v0 v1=>?_⟩;rw_mod_cast [yj v0 v1];refine⟨ll,hN _ _ ⟨rfl,cs++[97+v.toNat],by rw[LM,LM];rfl,by rw[LG,hc];rfl,λc h=>?_⟩⟩;rcases LX.mp h with h|h
   .exact hcs c h
   .rw[Lz.mp h];omega
  rintro ys μ3 ⟨rfl,cs,rfl,hc,hcs⟩;rw[iN] at hc;refine⟨cs.map λc=>(⟨#[c]⟩:Str),rfl,by decide,by rw[GP];omega,g2 _ _ ?_⟩;have nm:Nm (NM (L6 "") (cs.map λc=>(⟨#[c]⟩:Str))):=⟨by rw[o9];omega,by rw[o9];omega,by rw[o9];exact hcs⟩;generalize NM (L6 "") (cs.map λc=>(⟨#[c]⟩:Str))=x at nm
  rw_mod_cast [gQ hn,MM];split
  .rename_i c;have c':x∉ns:=by simpa using c
   rw_mod_cast [hn];refine⟨by rw[L0];omega,_,.refl _,?_⟩;have:=q x nm c';rw[LM] at this;exact this
  .exact hM _ _ ⟨_,_,_,rfl,rfl⟩
 rintro ρ μ' ⟨x3,x4,x5,rfl,rfl⟩;refine stp λM1 g1=>?_
 walk_at "e"
 refine⟨by decide,by decide,?_⟩;refine bX (λi ρ μ2=>∃x5 x6,ρ=[some (.cell s),some (.cell na),some (.str letters),x3,x4,x5,x6]/\μ2=μ'/\∀k,k < i->dO k∈ns) ⟨_,_,rfl,rfl,λk hk=>absurd hk (Ry k)⟩ ?_ ?_
 .rintro j d ρ μ2 hd ⟨x5,x6,rfl,rfl,hb⟩ M hM;obtain⟨hj,rfl⟩:=gH hd;have hj':j < 104:=hj;refine stp λM2 g2=>?_
  have e0:(0:Int)+(j:Int)=j:=by omega
  rw[e0];rw_mod_cast [yj (v:=(j:Int) % 26) (by omega) (by omega)];refine⟨by decide,ll,⟨by decide,by decide⟩,by omega,by omega,λy hy=>g2 _ _ ?_⟩;have ex:y=dO j:=C_ (by
   rw[hy];show LF (1+(j:Int) / 26).toNat (97+((j:Int) % 26).toNat)=LF (1+j / 26) (97+j % 26);congr 1<;>omega)
  subst ex;have nm:Nm (dO j):=by
   obtain⟨⟨h8,h1⟩,ha⟩:=GN ⟨j,hj'⟩;exact⟨h1,h8,λc hc=>of_decide_eq_true (Mp.mp ha c hc)⟩
  rw_mod_cast [gQ hn,MM];split
  .rename_i c;have c':dO j∉ns:=by simpa using c
   rw_mod_cast [hn];refine⟨by rw[L0];omega,_,.refl _,?_⟩;have:=q _ nm c';rw[LM] at this;exact this
  .rename_i c;have c':dO j∈ns:=by simpa using c
   refine hM _ _ ⟨_,_,rfl,rfl,λk hk=>?_⟩;by_cases e:k=j
   .rw[e];exact c'
   .exact hb k (by omega)
 .rintro ρ μ2 ⟨x5,x6,rfl,rfl,hb⟩;rw[iN] at hb;exact(GO (by omega) hb).elim
def bc(r:LR):D:= .lst [.str r.nm,.cell r.sa,.cell r.ea,.int r.w]
structure WD(μ:Mu)(s na la:Nat)(ns:List Str)(ls:List LR):Prop where
 ds:μ s=some .draw
 dn:μ na=some (.lst (ns.map D.str))
 dl:μ la=some (.lst (ls.map bc))
 nl:na≠la
 rs:∀r∈ls,μ r.sa=some (.lst (r.S.map D.str))/\μ r.ea=some (.lst (r.E.map D.str))
 ap:∀r∈ls,r.sa≠na/\r.sa≠la/\r.ea≠na/\r.ea≠la
 nd:∀(i j:Nat) (r r':LR),ls[i]? = some r->ls[j]? = some r'->(r.sa=r'.sa->i=j)/\(r.ea=r'.ea->i=j)/\r.sa≠r'.ea
def be(na la:Nat)(μ:Mu)(ls:List LR)(μ':Mu)(ls':List LR):Prop:=∀k c,μ k=some c->k≠na->k≠la->(∀r∈ls,k≠r.sa/\k≠r.ea)->μ' k=some c/\∀r∈ls',k≠r.sa/\k≠r.ea
theorem be.refl:be na la μ ls μ ls:=λ_ _ e _ _ h=>⟨e,h⟩
theorem be.trans{μ1 μ2:Mu}{ls1 ls2:List LR}(a:be na la μ ls μ1 ls1)(b:be na la μ1 ls1 μ2 ls2):be na la μ ls μ2 ls2:=λk c e h1 h2 h3=>by
 obtain⟨e1,n1⟩:=a k c e h1 h2 h3;exact b k c e1 h1 h2 n1
theorem WD.sna{s:Nat}(W:WD μ s na la ns ls):s≠na:=λz=>by have:=W.ds;rw[z,W.dn] at this;cases this
theorem WD.sla{s:Nat}(W:WD μ s na la ns ls):s≠la:=λz=>by have:=W.ds;rw[z,W.dl] at this;cases this
theorem WD.names{s:Nat}{ns':List Str}(W:WD μ s na la ns ls):WD (zO μ na (.lst (ns'.map D.str))) s na la ns' ls where
 ds:=by rw[zj W.sna];exact W.ds
 dn:=zF
 dl:=by rw[zj (Ne.symm W.nl)];exact W.dl
 nl:=W.nl
 rs:=λr hr=>by
  obtain⟨a1,a2,a3,a4⟩:=W.ap r hr;rw[zj a1,zj a3];exact W.rs r hr
 ap:=W.ap
 nd:=W.nd
theorem be.names{c:Ct}:be na la μ ls (zO μ na c) ls:=λk c e h1 h2 h3=>⟨by rw[zj h1];exact e,h3⟩
theorem WD.cell{s k:Nat}{c:Ct}(W:WD μ s na la ns ls)(hk:μ k=none):WD (zO μ k c) s na la ns ls where
 ds:=by rw[zj (λz=>by have:=W.ds;rw[z,hk] at this;cases this)];exact W.ds
 dn:=by rw[zj (λz=>by have:=W.dn;rw[z,hk] at this;cases this)];exact W.dn
 dl:=by rw[zj (λz=>by have:=W.dl;rw[z,hk] at this;cases this)];exact W.dl
 nl:=W.nl
 rs:=λr hr=>by
  obtain⟨a1,a2⟩:=W.rs r hr;rw[zj (λz=>by rw[z,hk] at a1;cases a1),zj (λz=>by rw[z,hk] at a2;cases a2)];exact⟨a1,a2⟩
 ap:=W.ap
 nd:=W.nd
theorem pb{r:LR}(h:r∈ls):∃i:Nat,ls[i]? = some r:=List.getElem?_of_mem h
theorem WD.line{s k1 k2:Nat}{w:Int}{a0:Addr}(W:WD μ s na la ns ls)(h1:μ k1=some (.lst (S.map D.str)))(h2:μ k2=some (.lst (E.map D.str)))(n12:k1≠k2)
  (f1:k1≠na/\k1≠la/\∀r∈ls,k1≠r.sa/\k1≠r.ea)(f2:k2≠na/\k2≠la/\∀r∈ls,k2≠r.sa/\k2≠r.ea):WD (zO μ la (.lst ((ls++[(⟨a0,k1,k2,x,S,E,w⟩:LR)]).map bc))) s na la ns (ls++[(⟨a0,k1,k2,x,S,E,w⟩:LR)]) where
 ds:=by rw[zj W.sla];exact W.ds
 dn:=by rw[zj W.nl];exact W.dn
 dl:=zF
 nl:=W.nl
 rs:=λr hr=>by
  rcases LX.mp hr with hr|hr
  .obtain⟨a1,a2,a3,a4⟩:=W.ap r hr;rw[zj a2,zj a4];exact W.rs r hr
  .rw[Lz.mp hr];exact⟨by rw[zj f1.2.1];exact h1,by rw[zj f2.2.1];exact h2⟩
 ap:=λr hr=>by
  rcases LX.mp hr with hr|hr
  .exact W.ap r hr
  .rw[Lz.mp hr];exact⟨f1.1,f1.2.1,f2.1,f2.2.1⟩
 nd:=λi j r r' hi hj=>by
  have key:∀{i:Nat} {r:LR},(ls++[(⟨a0,k1,k2,x,S,E,w⟩:LR)])[i]? = some r->ls[i]? = some r\/(i=ls.length/\r=⟨a0,k1,k2,x,S,E,w⟩):=λ{i r} h=>by
   by_cases hl:i < ls.length
   .rw[Me hl] at h;exact .inl h
   .rw[Mc (by omega)] at h;by_cases e:i - ls.length=0
    .rw[e] at h;cases h;exact .inr ⟨by omega,rfl⟩
    .rw[LZ (by simp;omega)] at h;cases h
  rcases key hi with a|⟨a,rfl⟩<;>rcases key hj with b|⟨b,rfl⟩
  .exact W.nd i j r r' a b
  .obtain⟨p1,p2⟩:=f1.2.2 r (LA a);obtain⟨p3,p4⟩:=f2.2.2 r (LA a);exact⟨λz=>absurd z.symm p1,λz=>absurd z.symm p4,λz=>p3 z.symm⟩
  .obtain⟨p1,p2⟩:=f1.2.2 r' (LA b);obtain⟨p3,p4⟩:=f2.2.2 r' (LA b);exact⟨λz=>absurd z p1,λz=>absurd z p4,λz=>p2 z⟩
  .exact⟨λ_=>by omega,λ_=>by omega,n12⟩
theorem lT{i:Nat}{r r':LR}(hr:ls[i]? = some r)(h:bc r'=bc r):(ls.set i r').map bc=ls.map bc:=by
 rw[QO,h];apply Nv;intro j;by_cases e:i=j
 .subst e;rw[MZ (by rw[L0];exact(L7.mp hr).1),L4,hr];rfl
 .rw[MT e]
theorem WD.ends{s i:Nat}{r:LR}(W:WD μ s na la ns ls)(hr:ls[i]? = some r)(h1:μ' r.sa=some (.lst (S.map D.str)))(h2:μ' r.ea=some (.lst (E.map D.str)))(ho:∀k,k≠r.sa->k≠r.ea->μ' k=μ k):WD μ' s na la ns (ls.set i {r with S:=S,E:=E}):=by
 have hm:=LA hr;obtain⟨a1,a2,a3,a4⟩:=W.ap r hm;obtain⟨b1,b2⟩:=W.rs r hm;have key:∀{j:Nat} {q:LR},(ls.set i {r with S:=S,E:=E})[j]? = some q->(j=i/\q={r with S:=S,E:=E})\/(j≠i/\ls[j]? = some q):=λ{j q} h=>by
  by_cases e:i=j
  .subst e;rw[MZ (L7.mp hr).1] at h;cases h;exact .inl ⟨rfl,rfl⟩
  .rw[MT e] at h;exact .inr ⟨λz=>e z.symm,h⟩
 refine⟨?_,?_,?_,W.nl,?_,?_,?_⟩
 .rw[ho s (λz=>by have:=W.ds;rw[z,b1] at this;cases this) (λz=>by have:=W.ds;rw[z,b2] at this;cases this)];exact W.ds
 .rw[ho na (Ne.symm a1) (Ne.symm a3)];exact W.dn
 .rw[ho la (Ne.symm a2) (Ne.symm a4),lT (r':={r with S:=S,E:=E}) hr rfl];exact W.dl
 .intro q hq;obtain⟨j,hj⟩:=pb hq;rcases key hj with⟨rfl,rfl⟩|⟨hne,hj'⟩
  .exact⟨h1,h2⟩
  .obtain⟨c1,c2,c3⟩:=W.nd j i q r hj' hr;obtain⟨d1,d2,d3⟩:=W.nd i j r q hr hj';rw[ho q.sa (λz=>hne (c1 z)) c3,ho q.ea (Ne.symm d3) (λz=>hne (c2 z))];exact W.rs q (LA hj')
 .intro q hq;obtain⟨j,hj⟩:=pb hq;rcases key hj with⟨rfl,rfl⟩|⟨hne,hj'⟩
  .exact⟨a1,a2,a3,a4⟩
  .exact W.ap q (LA hj')
 .intro j j' q q' hj hj';rcases key hj with⟨rfl,rfl⟩|⟨hne,hj1⟩<;>rcases key hj' with⟨rfl,rfl⟩|⟨hne',hj2⟩
  .exact⟨λ_=>rfl,λ_=>rfl,(W.nd _ _ r r hr hr).2.2⟩
  .exact W.nd _ j' r q' hr hj2
  .exact W.nd j _ q r hj1 hr
  .exact W.nd j j' q q' hj1 hj2
theorem GQ{c:DT}{t u:DS}{D0:cM}{ρ:ad}(P:Bool->Mu->Prop)(hc:∀R:Bool->Mu->Prop,(∀b μ1,P b μ1->R b μ1)->c ρ μ R)(h:∀b μ1,P b μ1->if b=true then t D0 ρ μ1 else u D0 ρ μ1):ah c t u D0 ρ μ:=hc _ h
theorem yl{s:Nat}{bd:List Str}{one two:Str}(W:WD μ s na la ns ls)(hn:ns.length < 100)(h14:ls.length<=14)(hfit:ls.length=14->∃r∈ls,cI one bd r=true/\dv two r=true)(h6:∀r∈ls,r.S.length<=6/\r.E.length<=6)
  (q:∀x μ' ns' ls',WD μ' s na la ns' ls'->be na la μ ls μ' ls'->iB one two bd ns ls x ns' ls'->Q (.str x) μ'):jj [.cell s,.cell na,.cell la,.str one,.str two,.lst (bd.map D.str)] μ Q:=by
 have hz:(200:Nat)<=sizeLine:=by decide
 refine⟨rfl,stp λN1 h1=>?_⟩;rw_mod_cast [W.dl];refine⟨by decide,j_ ls bc (cI one bd) bc (by omega) (λr hr Y Z hY hZ=>?_) (h1 _ _ (stp λN2 h2=>?_)) W.dl⟩
 .obtain⟨r1,r2⟩:=W.rs r hr;unfold bc at hY ⊢;rw_mod_cast [t3,gQ r1,r1,L0,MM,ND];unfold cI at hY hZ;by_cases c1:r.nm∈bd
  .rw_mod_cast [decide_eq_true c1];exact hZ (by simp[c1])
  .rw_mod_cast [decide_eq_false c1];by_cases c2:one∈r.S
   .rw_mod_cast [decide_eq_true c2];exact hY (by simp[c1,c2])
   .rw_mod_cast [decide_eq_false c2];by_cases c3:r.S.length < 6
    .rw_mod_cast [show decide ((r.S.length:Int) < 6)=true from decide_eq_true (by omega)];exact hY (by simp[c1,c3])
    .rw_mod_cast [show decide ((r.S.length:Int) < 6)=false from decide_eq_false (by omega)];exact hZ (by simp[c2,c3])
 walk_at "e"
 have hl1:(ls.filter (cI one bd)).length<=ls.length:=NH _ _;refine⟨by decide,j_ (ls.filter (cI one bd)) bc (dv two) bc (by omega) (λr hr Y Z hY hZ=>?_) (h2 _ _ (stp λN3 h3=>?_)) trivial⟩
 .obtain⟨r1,r2⟩:=W.rs r (MB.mp hr).1;unfold bc at hY ⊢;rw_mod_cast [gQ r2,r2,L0,ND];unfold dv at hY hZ;by_cases c2:two∈r.E
  .rw_mod_cast [decide_eq_true c2];exact hY (by simp[c2])
  .rw_mod_cast [decide_eq_false c2];by_cases c3:r.E.length < 6
   .rw_mod_cast [show decide ((r.E.length:Int) < 6)=true from decide_eq_true (by omega)];exact hY (by simp[c3])
   .rw_mod_cast [show decide ((r.E.length:Int) < 6)=false from decide_eq_false (by omega)];exact hZ (by simp[c2,c3])
 generalize hfl:(ls.filter (cI one bd)).filter (dv two)=fl
 have hfm:∀r∈fl,r∈ls/\cI one bd r=true/\dv two r=true:=λr hr=>by
  rw[<- hfl] at hr;obtain⟨a,b⟩:=MB.mp hr;obtain⟨c,d⟩:=MB.mp a;exact⟨c,d,b⟩
 have hfn:ls.length=14->fl≠[]:=λe z=>by
  obtain⟨r,hr,f1,f2⟩:=hfit e;have:r∈fl:=by rw[<- hfl];exact MB.mpr ⟨MB.mpr ⟨hr,f1⟩,f2⟩
  rw[z] at this;cases this
 have hfl14:fl.length<=14:=by rw[<- hfl];exact M6 (NH _ _) (M6 hl1 h14)
 have new:ls.length < 14->zJ (ak (dBM "list" bW (zb 2) (za (c9 (za (dCall eI (za (zb 0) (za (zb 1) zm))) (za (dB (za (zb 3) zm)) (za (dB (za (zb 4) zm)) (za (dCall aX (za (zb 0) (za (dC (.int 4)) zm))) zm))))) zm)))
  (al (dOp dIx (dOp dIx (zb 2) (dUn c_ (dC (.int 1)))) (dC (.int 0)))) {(ends Q) with nx:=N3} [some (.cell s),some (.cell na),some (.cell la),some (.str one),some (.str two),some (.lst (bd.map D.str)),some (.lst (fl.map bc)),none] μ:=by
  intro hlt;refine stp λM1 g1=>?_
  rw_mod_cast [W.dl];refine o_ W.ds W.dn hn λx nm hx=>?_
  refine⟨by decide,λk1 hk1=>⟨by decide,λk2 hk2=>?_⟩⟩;have W1:WD _ s na la (ns++[x]) ls:=W.names (ns':=ns++[x]);have W2:WD _ s na la (ns++[x]) ls:=W1.cell (c:= .lst [.str one]) hk1;have W3:WD _ s na la (ns++[x]) ls:=W2.cell (c:= .lst [.str two]) hk2;refine⟨W3.ds,by decide,by decide,λw w0 w1=>⟨by decide,?_⟩⟩;rw[W3.dl];walk_at "e"
  refine⟨by rw[L0];omega,g1 _ _ ?_⟩;have n1:∀k c,μ k=some c->k1≠k:=λk c e z=>by
   subst z;by_cases e2:k1=na
   .subst e2;rw[zF] at hk1;cases hk1
   .rw[zj e2,e] at hk1;cases hk1
  have n12:k1≠k2:=λz=>by subst z;rw[zF] at hk2;cases hk2
  have n2:∀k c,μ k=some c->k2≠k:=λk c e z=>by
   subst z;rw[zj (Ne.symm n12)] at hk2;by_cases e2:k2=na
   .subst e2;rw[zF] at hk2;cases hk2
   .rw[zj e2,e] at hk2;cases hk2
  have WL:=W3.line (x:=x) (S:=[one]) (E:=[two]) (w:=w) (a0:=0) (k1:=k1) (k2:=k2) (by rw[zj n12,zF];rfl) (by rw[zF];rfl) n12 ⟨n1 _ _ W.dn,n1 _ _ W.dl,λr hr=>⟨n1 _ _ (W.rs r hr).1,n1 _ _ (W.rs r hr).2⟩⟩ ⟨n2 _ _ W.dn,n2 _ _ W.dl,λr hr=>⟨n2 _ _ (W.rs r hr).1,n2 _ _ (W.rs r hr).2⟩⟩;have eL:On bc (ls++[({a:=0,sa:=k1,ea:=k2,nm:=x,S:=[one],E:=[two],w:=w}:LR)])=ls.map bc++[.lst [.str x,.cell k1,.cell k2,.int w]]:=by rw[LM];rfl
  rw[eL] at WL;rw_mod_cast [qz];refine⟨_,.refl _,q x _ _ _ WL ?_ (.new 0 k1 k2 w hx nm hlt w0 w1)⟩;intro k c e hna hla hr;refine⟨?_,λr hr'=>?_⟩
  .rw[zj hla,zj (λz=>n2 k c e z.symm),zj (λz=>n1 k c e z.symm),zj hna];exact e
  .rcases LX.mp hr' with hr' |hr'
   .exact hr r hr'
   .rw[Lz.mp hr'];exact⟨λz=>n1 k c e z.symm,λz=>n2 k c e z.symm⟩
 have old:fl≠[]->N3 [some (.cell s),some (.cell na),some (.cell la),some (.str one),some (.str two),some (.lst (bd.map D.str)),some (.lst (fl.map bc)),none] μ:=by
  intro hne;refine h3 _ _ (stp λM1 g1=>?_);walk_at "e"
  refine yk W.ds (by simpa using hne) (by rw[L0];omega) λi d hd=>?_
  rw[L4] at hd;cases hr:fl[i]? with
  |none=>rw[hr] at hd;cases hd
  |some r =>
   rw[hr] at hd;cases hd;obtain⟨hm,f1,f2⟩:=hfm r (LA hr);obtain⟨j,hj⟩:=pb hm;obtain⟨r1,r2⟩:=W.rs r hm;obtain⟨c1,c2,c3⟩:=W.nd j j r r hj hj;obtain⟨l1,l2⟩:=h6 r hm;unfold bc;refine g1 _ _ (eZ (λρ μ'=>ρ=[some (.cell s),some (.cell na),some (.cell la),some (.str one),some (.str two),some (.lst (bd.map D.str)),some (.lst (fl.map bc)),some (.lst [.str r.nm,.cell r.sa,.cell r.ea,.int r.w])]/\μ' r.sa=some (.lst ((aN one r.S).map D.str))/\∀k,k≠r.sa->μ' k=μ k) (λN hN=>?_) ?_)
   .rw_mod_cast [gQ r1,MM];by_cases c:one∈r.S
    .rw_mod_cast [decide_eq_true c];exact hN _ _ ⟨rfl,by rw[aN,if_pos c];exact r1,λ_ _=>rfl⟩
    .rw_mod_cast [decide_eq_false c,r1];refine⟨by rw[L0];omega,hN _ _ ⟨rfl,?_,λk hk=>zj hk⟩⟩;rw[zF,aN,if_neg c,LM];rfl
   rintro ρ μ1 ⟨rfl,e1,e2⟩;have r2':μ1 r.ea=some (.lst (r.E.map D.str)):=by rw[e2 _ (Ne.symm c3)];exact r2
   refine eZ (λρ μ'=>ρ=[some (.cell s),some (.cell na),some (.cell la),some (.str one),some (.str two),some (.lst (bd.map D.str)),some (.lst (fl.map bc)),some (.lst [.str r.nm,.cell r.sa,.cell r.ea,.int r.w])]/\μ' r.ea=some (.lst ((aN two r.E).map D.str))/\∀k,k≠r.ea->μ' k=μ1 k) (λN hN=>?_) ?_
   .rw_mod_cast [gQ r2',MM];by_cases c:two∈r.E
    .rw_mod_cast [decide_eq_true c];exact hN _ _ ⟨rfl,by rw[aN,if_pos c];exact r2',λ_ _=>rfl⟩
    .rw_mod_cast [decide_eq_false c,r2'];refine⟨by rw[L0];omega,hN _ _ ⟨rfl,?_,λk hk=>zj hk⟩⟩;rw[zF,aN,if_neg c,LM];rfl
   rintro ρ μ2 ⟨rfl,e3,e4⟩;walk_at "e"
   refine⟨_,.refl _,q r.nm μ2 ns _ (W.ends hj (by rw[e4 _ c3];exact e1) e3 λk hk1 hk2=>by rw[e4 k hk2,e2 k hk1]) ?_ (.old j r hj rfl f1 f2)⟩;intro k c e hna hla hrr;obtain⟨p1,p2⟩:=hrr r hm;refine⟨by rw[e4 k p2,e2 k p1];exact e,λq' hq'=>?_⟩;rcases rH hq' with h|h
   .exact hrr q' h
   .rw[h];exact⟨p1,p2⟩
 refine GQ (λb μ1=>μ1=μ/\(b=true->ls.length < 14)/\(b=false->fl≠[])) (λR hR=>?_) (λb μ1 h=>?_)
 .rw_mod_cast [W.dl,L0];by_cases c14:ls.length < 14
  .rw_mod_cast [show decide ((ls.length:Int) < 14)=true from decide_eq_true (by omega)];by_cases c0:fl=[]
   .rw_mod_cast [show decide ((fl.length:Int)=0)=true from decide_eq_true (by rw[c0];rfl)];exact hR _ _ ⟨rfl,λ_=>c14,λz=>(by cases z)⟩
   .rw_mod_cast [show decide ((fl.length:Int)=0)=false from decide_eq_false (λz=>c0 (OC.mp (by omega)))];exact⟨W.ds,by decide,by decide,λv v0 v1=>hR _ _ ⟨rfl,λ_=>c14,λ_=>c0⟩⟩
  .rw_mod_cast [show decide ((ls.length:Int) < 14)=false from decide_eq_false (by omega)];exact hR _ _ ⟨rfl,λz=>(by cases z),λ_=>hfn (by omega)⟩
 .obtain⟨rfl,hb1,hb2⟩:=h;cases b with
  |true=>exact new (hb1 rfl)
  |false=>exact old (hb2 rfl)
theorem WD.other{s k:Nat}{c c':Ct}(W:WD μ s na la ns ls)(hk:μ k=some c')(hd:c'≠ .draw)(h:k≠na/\k≠la/\∀r∈ls,k≠r.sa/\k≠r.ea):WD (zO μ k c) s na la ns ls where
 ds:=by rw[zj (λz=>by have:=W.ds;rw[z,hk] at this;cases this;exact hd rfl)];exact W.ds
 dn:=by rw[zj (Ne.symm h.1)];exact W.dn
 dl:=by rw[zj (Ne.symm h.2.1)];exact W.dl
 nl:=W.nl
 rs:=λr hr=>by
  obtain⟨a1,a2⟩:=h.2.2 r hr;rw[zj (Ne.symm a1),zj (Ne.symm a2)];exact W.rs r hr
 ap:=W.ap
 nd:=W.nd
theorem be.put{k:Nat}{ls':List LR}{c:Ct}(T:be na la μ ls μ' ls')(hk:μ k=none):be na la μ ls (zO μ' k c) ls':=λj d e h1 h2 h3=>by
 obtain⟨a,b⟩:=T j d e h1 h2 h3;exact⟨by rw[zj (λz=>by rw[z,hk] at e;cases e)];exact a,b⟩
theorem WD.free{s k:Nat}(W:WD μ s na la ns ls)(hk:μ k=none):k≠na/\k≠la/\∀r∈ls,k≠r.sa/\k≠r.ea :=
 ⟨λz=>(by have:=W.dn;rw[<- z,hk] at this;cases this),λz=>(by have:=W.dl;rw[<- z,hk] at this;cases this),λr hr=>⟨λz=>(by have:=(W.rs r hr).1;rw[<- z,hk] at this;cases this),λz=>(by have:=(W.rs r hr).2;rw[<- z,hk] at this;cases this)⟩⟩
theorem ym{s:Nat}{bd:List Str}{c:Nat}(W:WD μ s na la ns ls)(N:aO ho ga ns ls h c)(hh:h+3<=48)(hc:c<=60)(hfi:first∈ho)(hla:last∈ho)(hfl:first≠last)(hbs:beside ho ga bd<=3)(hbn:∀y∈bd,y∈ns)(hgl:ga.length<=3)(hbl:bd.length<=10)
  (q:∀way k μ' ns' ls',WD μ' s na la ns' ls'->be na la μ ls μ' ls'->aO ho ga ns' ls' (h+3) c->a9 ns ls ls'->(∀y∈ns,y∈ns')->1<=k->k<=3->Way ho ga ns' ls' bd first k (2*k) way->way[2*k]? = some last->Q (.tup (way.map D.str)) μ') :
  jl [.cell s,.cell na,.cell la,.lst (ga.map D.str),.str first,.str last,.lst (bd.map D.str)] μ Q:=by
 have hz:(200:Nat)<=sizeLine:=by decide
 refine⟨rfl,stp λN1 h1=>?_⟩;walk_at "e"
 refine⟨by decide,j_ ga D.str (λx=> !decide (x∈bd)) D.str (by omega) (λx hx Y Z hY hZ=>?_) (h1 _ _ (stp λN2 h2=>?_)) trivial⟩
 .rw_mod_cast [t3,MM];by_cases c1:x∈bd
  .rw_mod_cast [decide_eq_true c1];exact hZ (by simp[c1])
  .rw_mod_cast [decide_eq_false c1];exact hY (by simp[c1])
 walk_at "e"
 refine⟨by decide,λkw hkw=>h2 _ _ ?_⟩;have gnd:ga.Nodup:=(LK.mp (LK.mp N.nd).1).2.1;have fr0:∀x∈ga.filter (λx=> !decide (x∈bd)),x∈ga/\x∉bd:=λx hx=>by
  obtain⟨m1,m2⟩:=MB.mp hx;exact⟨m1,by simpa using m2⟩
 have frd:(ga.filter λx=> !decide (x∈bd)).Nodup:=gnd.sublist Of;have frl:(ga.filter λx=> !decide (x∈bd)).length<=3:=M6 (NH _ _) hgl;generalize ga.filter (λx=> !decide (x∈bd))=fr at fr0 frd frl
 have hop:∀(ns':List Str) (ls':List LR) (k:Nat) (wh:List Str) (one two:Str),aO ho ga ns' ls' (h+k) c->(∀y∈ns,y∈ns')->k<=2->Way ho ga ns' ls' bd first k (2*k+1) wh->wh[2*k]? = some one->two∈ho++ga->two∉wh ->
   (ns'.length < 100/\(ls'.length=14->∃r∈ls',cI one (bd++wh) r=true/\dv two r=true)/\∀r∈ls',r.S.length<=6/\r.E.length<=6) /\
   ∀x ns2 ls2,iB one two (bd++wh) ns' ls' x ns2 ls2->aO ho ga ns2 ls2 (h+(k+1)) c/\a9 ns' ls' ls2/\(∀y∈ns,y∈ns2)/\Way ho ga ns2 ls2 bd first (k+1) (2*k+2) (wh++[x,two])/\(two∈ga->two∉bd->Way ho ga ns2 ls2 bd first (k+1) (2*k+3) (wh++[x,two])):=by
  intro ns' ls' k wh one two N' sub' hk Y h1 ht htw;refine⟨⟨?_,λh14=>Dc N' (by omega) one two ?_ h14,λr hr=>⟨(N'.ends r hr).s6,(N'.ends r hr).e6⟩⟩,λx ns2 ls2 R=>?_⟩
  .have:=N'.cnt;have:=N'.len;omega
  .rw[rJ];have:=Y.bs;omega
  .have bsub:∀y∈bd++wh,y∈ns':=λy hy=>(LX.mp hy).elim (λz=>sub' y (hbn y z)) (Y.sub y)
   obtain⟨N2,G2,J2,xb,sub2,xg,xn⟩:=Db N' (Y.nn k one h1) ht bsub R;have xb1:x∉bd:=λz=>xb (LL _ z)
   have xb2:x∉wh:=λz=>xb (L8 _ z)
   obtain⟨Y1,Y2⟩:=(Y.grow G2 sub2).step h1 J2 xg xb1 xb2 xn htw ht (N2.sub two (LL _ ht));exact⟨N2,G2,λy hy=>sub2 y (sub' y hy),Y1,Y2⟩
 have lastOf:∀(k:Nat) (wh:List Str),wh.length=2*k+1->∃one,wh[2*k]? = some one/\atI (wh.map D.str) (-1)=some (.str one):=λk wh e=>by
  have hlt:2*k < wh.length:=by omega
  refine⟨wh[2*k],L3 hlt,?_⟩;rw[tm,P4,L0,L4,show wh.length - 1=2*k by omega,L3 hlt];rfl
 refine eZ (λρ μ'=>∃(k:Nat) (ns' wh:List Str) (ls':List LR) (x7 x9 x10:Option D),ρ=[some (.cell s),some (.cell na),some (.cell la),some (.lst (ga.map D.str)),some (.str first),some (.str last),some (.lst (bd.map D.str)),x7,some (.cell kw),x9,x10]/\k<=2 /\
  WD μ' s na la ns' ls'/\be na la μ ls μ' ls'/\aO ho ga ns' ls' (h+k) c/\a9 ns ls ls'/\(∀y∈ns,y∈ns')/\Way ho ga ns' ls' bd first k (2*k+1) wh/\μ' kw=some (.lst (wh.map D.str))/\(kw≠na/\kw≠la/\∀r∈ls',kw≠r.sa/\kw≠r.ea)) (λNX hNX=>?_) ?_
 .have W1:WD (zO μ kw (.lst [.str first])) s na la ns ls:=W.cell hkw;walk_at "e"
  refine⟨W1.ds,by decide,by decide,λv v0 v1=>?_⟩;rw[L0];have bn:(if (fr.length:Int) < v then(fr.length:Int) else v)<=2/\0<=(if (fr.length:Int) < v then(fr.length:Int) else v)/\(if (fr.length:Int) < v then(fr.length:Int) else v)<=fr.length:=by split<;>omega
  generalize (if (fr.length:Int) < v then(fr.length:Int) else v)=n at bn
  obtain⟨n2,n0,nl⟩:=bn;refine⟨by omega,by omega,?_⟩;refine bX (λj ρ μ'=>∃(ns' wh fr':List Str) (ls':List LR) (x9 x10:Option D),ρ=[some (.cell s),some (.cell na),some (.cell la),some (.lst (ga.map D.str)),some (.str first),some (.str last),some (.lst (bd.map D.str)),some (.lst (fr'.map D.str)),some (.cell kw),x9,x10] /\
   WD μ' s na la ns' ls'/\be na la μ ls μ' ls'/\aO ho ga ns' ls' (h+j) c/\a9 ns ls ls'/\(∀y∈ns,y∈ns')/\Way ho ga ns' ls' bd first j (2*j+1) wh/\μ' kw=some (.lst (wh.map D.str))/\(kw≠na/\kw≠la/\∀r∈ls',kw≠r.sa/\kw≠r.ea)/\fr'.Nodup/\(∀x∈fr',x∈ga/\x∉bd/\x∉wh)/\n<=fr'.length+j/\fr'.length<=3)
   ⟨ns,[first],fr,ls,_,_,rfl,W1,be.refl.put hkw,N,a9.refl _ _,λ_ h=>h,.one (LL _ hfi) (N.sub _ (LL _ (LL _ hfi))),zF,W.free hkw,frd,λx hx=>⟨(fr0 x hx).1,(fr0 x hx).2,λz=>?_⟩,by omega,frl⟩ ?_ ?_
  .rw[Lz.mp z] at hx;exact N.nd2 hfi (fr0 _ hx).1
  .rintro j d ρ μ1 hd ⟨ns',wh,fr',ls',x9,x10,rfl,W5,T5,N5,G5,sub5,Y,hw5,f5,fnd,fin,fn,fl⟩ M hM;obtain⟨hj,rfl⟩:=gH hd;refine stp λM1 g1=>?_
   walk_at "e"
   refine yk W5.ds ?_ (by rw[L0];omega) λi d hd=>?_
   .intro z;have:=congrArg NL z;rw[L0] at this;simp at this;subst this;simp at fn;omega
   rw[L4] at hd;cases hgt:fr'[i]? with
   |none=>rw[hgt] at hd;cases hd
   |some gt =>
    rw[hgt] at hd;cases hd;obtain⟨g1',g2',g3'⟩:=fin gt (LA hgt);refine g1 _ _ (stp λM2 g2=>?_);walk_at "e"
    refine⟨by decide,j_ fr' D.str (λy=> !decide (y=gt)) D.str (by omega) (λx hx Y Z hY hZ=>?_) (g2 _ _ (stp λM3 g3=>?_)) trivial⟩
    .walk_at "e"
     by_cases c1:x=gt
     .rw_mod_cast [decide_eq_true c1];exact hZ (by simp[c1])
     .rw_mod_cast [decide_eq_false c1];exact hY (by simp[c1])
    have fnd':(fr'.filter λy=> !decide (y=gt)).Nodup:=fnd.sublist Of;have fin':∀x∈fr'.filter (λy=> !decide (y=gt)),x∈fr'/\x≠gt:=λx hx=>by
     obtain⟨m1,m2⟩:=MB.mp hx;exact⟨m1,by simpa using m2⟩
    have fl':fr'.length<=(fr'.filter λy=> !decide (y=gt)).length+1:=rL fnd;have fl3:(fr'.filter λy=> !decide (y=gt)).length<=3:=M6 (NH _ _) fl;generalize fr'.filter (λy=> !decide (y=gt))=fr2 at fnd' fin' fl' fl3
    obtain⟨one,h1',hlast⟩:=lastOf j wh Y.len;obtain⟨⟨c1,c2,c3⟩,post⟩:=hop ns' ls' j wh one gt N5 sub5 (by omega) Y h1' (L8 _ g1') g3';rw_mod_cast [hw5,hlast];refine⟨by rw[L0,L0,Y.len];omega,?_⟩;rw[<- LM];refine yl W5 c1 N5.len c2 c3 λx μ2 ns2 ls2 W9 T9 R=>?_
    obtain⟨N9,G9,sub9,Y1,Y2⟩:=post x ns2 ls2 R;obtain⟨hw9,f9⟩:=T9 kw _ hw5 f5.1 f5.2.1 f5.2.2;rw_mod_cast [hw9];refine⟨by rw[L0,Y.len];omega,g3 _ _ ?_⟩;rw_mod_cast [zF];refine⟨by rw[LG,L0,Y.len];show 2*j+1+1 < sizeLine;omega,hM _ _ ?_⟩;have em:wh.map D.str++[.str x]++[.str gt]=(wh++[x,gt]).map D.str:=by rw[LM (l₂:=[x,gt]),M7];rfl
    rw[cK,em];refine⟨ns2,wh++[x,gt],fr2,ls2,_,_,rfl,W9.other hw9 (by simp) ⟨f5.1,f5.2.1,f9⟩,(T5.trans T9).put hkw,N9,G5.trans sub5 G9,sub9,Y2 g1' g2',zF,⟨f5.1,f5.2.1,f9⟩,fnd',λy hy=>⟨(fin y (fin' y hy).1).1,(fin y (fin' y hy).1).2.1,λz=>?_⟩,by omega,fl3⟩;rcases LX.mp z with z|z
    .exact(fin y (fin' y hy).1).2.2 z
    .rcases LD.mp z with e|z
     .have:=(Y1.ln j x (by rw[Mc (by rw[Y.len];omega),Y.len,QP];rfl)).1;exact this (L8 _ (e▸(fin y (fin' y hy).1).1))
     .exact(fin' y hy).2 (Lz.mp z)
  .rintro ρ μ1 ⟨ns',wh,fr',ls',x9,x10,rfl,W5,T5,N5,G5,sub5,Y,hw5,f5,fnd,fin,fn,fl⟩;rw[iN] at *;exact hNX _ _ ⟨n.toNat,ns',wh,ls',_,_,_,rfl,by omega,W5,T5,N5,G5,sub5,Y,hw5,f5⟩
 .rintro ρ μ1 ⟨k,ns',wh,ls',x7,x9,x10,rfl,hk,W7,T7,N7,G7,sub7,Y,hw7,f7⟩;have lw:last∉wh:=λz=>by
   rcases Y.mem z (Lx _) with e|e|e
   .exact hfl e.symm
   .exact e (LL _ hla)
   .exact N.nd2 hla e
  obtain⟨one,h1',hlast⟩:=lastOf k wh Y.len;obtain⟨⟨c1,c2,c3⟩,post⟩:=hop ns' ls' k wh one last N7 sub7 (by omega) Y h1' (LL _ hla) lw;refine stp λM1 g1=>?_
  rw_mod_cast [hw7,hlast];refine⟨by rw[L0,L0,Y.len];omega,?_⟩;rw[<- LM];refine yl W7 c1 N7.len c2 c3 λx μ2 ns2 ls2 W9 T9 R=>?_
  obtain⟨N9,G9,sub9,Y1,Y2⟩:=post x ns2 ls2 R;obtain⟨hw9,f9⟩:=T9 kw _ hw7 f7.1 f7.2.1 f7.2.2;rw_mod_cast [hw9];refine⟨by rw[L0,Y.len];omega,g1 _ _ (stp λM2 g2=>?_)⟩;rw_mod_cast [zF];refine⟨by rw[LG,L0,Y.len];show 2*k+1+1 < sizeLine;omega,g2 _ _ ?_⟩;have em:wh.map D.str++[.str x]++[.str last]=(wh++[x,last]).map D.str:=by rw[LM (l₂:=[x,last]),M7];rfl
  rw[cK,em];rw_mod_cast [zF];refine⟨_,.refl _,q (wh++[x,last]) (k+1) _ ns2 ls2 (W9.other hw9 (by simp) ⟨f7.1,f7.2.1,f9⟩) ((T7.trans T9).put hkw) (N9.more (by omega)) (G7.trans sub7 G9) sub9 (by omega) (by omega) Y1 ?_⟩;rw[Mc (by rw[Y.len];omega),Y.len,show 2*(k+1) - (2*k+1)=1 by omega];rfl
def aL(w:List Str):D:= .tup (w.map D.str)
def bQ(r:RW):D:= .tup [.str r.nm,.tup (r.ways.map aL),.int r.e,.int r.lo,.int r.re,.int r.lst]
theorem foldl_take_succ(f:β->α->β)(b:β){xs:List α}{i:Nat}{x:α}(h:xs[i]? = some x):(xs.take (i+1)).foldl f b=f ((xs.take i).foldl f b) x:=by
 rw[Mm,h,P8];rfl
theorem GR{s:Nat}{ways:List (List Str)}{nm:Str}{e re x5:Int}(W:WD μ s na la ns ls)(q:Q (.int (c7 ls ways lo sl)) μ):kR [.tup [.str nm,.tup (ways.map aL),.int e,.int lo,.int re,.int x5],.cell la,.int sl] μ Q:=by
 refine⟨rfl,stp λN1 h1=>?_⟩;walk_at "e"
 refine h1 _ _ (stp λN2 h2=>?_);walk_at "e"
 refine bX (λi ρ μ'=>∃x4 x5' x6,ρ=[some (.tup [.str nm,.tup (ways.map aL),.int e,.int lo,.int re,.int x5]),some (.cell la),some (.int sl),some (.int ((ways.take i).foldl (λm way=>if zV ls way lo sl > m then zV ls way lo sl else m) 0)),x4,x5',x6]/\μ'=μ) ⟨_,_,_,rfl,rfl⟩ ?_ ?_
 .rintro i d ρ μ' hd ⟨x4,x5',x6,rfl,rfl⟩ N hN;rw[L4] at hd;cases hw:ways[i]? with
  |none=>rw[hw] at hd;cases hd
  |some way =>
   rw[hw] at hd;cases hd;unfold aL;refine stp λM1 g1=>?_
   walk_at "e"
   refine g1 _ _ (stp λM2 g2=>?_);rw_mod_cast [W.dl];refine bX (λj ρ μ2=>∃x6,ρ=[some (.tup [.str nm,.tup (ways.map aL),.int e,.int lo,.int re,.int x5]),some (.cell la),some (.int sl),some (.int ((ways.take i).foldl (λm way=>if zV ls way lo sl > m then zV ls way lo sl else m) 0)),some (.tup (way.map D.str)),some (.int ((ls.take j).foldl (λm r=>if r.nm∈way then m+lo+r.w+sl else m) 0)),x6]/\μ2=μ') ⟨_,rfl,rfl⟩ ?_ ?_ (λ_ _ _ h=>by obtain⟨_,_,rfl⟩:=h;exact W.dl)
   .rintro j d ρ μ2 hd ⟨x6,rfl,rfl⟩ M hM;rw[L4] at hd;cases hr:ls[j]? with
    |none=>rw[hr] at hd;cases hd
    |some r =>
     rw[hr] at hd;cases hd;unfold bc;rw_mod_cast [nc,ND];have fs:=foldl_take_succ (λm (r:LR)=>if r.nm∈way then m+lo+r.w+sl else m) (0:Int) hr;by_cases c:r.nm∈way
     .rw_mod_cast [decide_eq_true c];rw[fs,if_pos c] at hM;exact hM _ _ ⟨_,rfl,rfl⟩
     .rw_mod_cast [decide_eq_false c];rw[fs,if_neg c] at hM;exact hM _ _ ⟨_,rfl,rfl⟩
   .rintro ρ μ2 ⟨x6,rfl,rfl⟩;refine g2 _ _ ?_;walk_at "e"
    rw[foldl_take_succ _ _ hw] at hN;rw[L0,N0];exact hN _ _ ⟨_,_,_,rfl,rfl⟩
 .rintro ρ μ' ⟨x4,x5',x6,rfl,rfl⟩;refine h2 _ _ ?_;walk_at "e"
  rw[L0,N0];exact⟨_,.refl _,q⟩
theorem yn(w:List Str)(h:2<=w.length):cutD (w.map D.str) (some 1) (some (-1))=(inner w).map D.str:=by
 unfold cutD inner;have e1:HT.sIx (w.map D.str).length 0 (some 1)=1:=by
  have:=HT.bR (w.map D.str).length 0 1;rw[L0,Oq (by omega)] at this;rw[L0];exact this
 have e2:HT.sIx (w.map D.str).length (w.map D.str).length (some (-1))=w.length - 1:=by
  rw[L0];unfold HT.sIx;simp;omega
 rw[e1,e2,Qk,Ql];congr 1
theorem pc{xs:List Int}(h0:0<=v)(h1:v < xs.length):∃e,atI (xs.map D.int) v=some (.int e)/\e∈xs:=by
 obtain⟨e,a,b⟩:=mY h0 h1;exact⟨e,by rw[s_,a];rfl,LA b⟩
theorem kj{xs:List Str}(h0:0<=v)(h1:v < xs.length):∃e,atI (xs.map D.str) v=some (.str e)/\xs[v.toNat]? = some e:=by
 obtain⟨e,a,b⟩:=mY h0 h1;exact⟨e,by rw[s_,a];rfl,b⟩
theorem GS{s:Nat}{c:Nat}(W:WD μ s na la ns ls)(N:aO ho ga ns ls h c)(hh:h+6<=48)(hc:c<=50)(ho2:2<=ho.length)(ho4:ho.length<=4)(ga3:ga.length<=3)(sl0:0<=sl)(sl7:sl<=7)
  (q:∀r μ' ns' ls',WD μ' s na la ns' ls'->be na la μ ls μ' ls'->aO ho ga ns' ls' (h+6) (c+1)->a9 ns ls ls'->(∀y∈ns,y∈ns')->cw ho ga ns' ls' sl r->r.nm∉ns->Q (bQ r) μ') :
  ld [.cell s,.cell na,.cell la,.lst (ho.map D.str),.lst (ga.map D.str),.int sl] μ Q:=by
 have hz:(200:Nat)<=sizeLine:=by decide
 have hnd:ho.Nodup:=(LK.mp (LK.mp N.nd).1).1;refine⟨rfl,stp λN1 h1=>?_⟩;rw_mod_cast [L0];refine⟨W.ds,by omega,by omega,λv v0 v1=>h1 _ _ (stp λN2 h2=>?_)⟩;obtain⟨first,e1,f1⟩:=kj v0 v1;rw_mod_cast [e1];refine h2 _ _ (stp λN3 h3=>?_);rw_mod_cast [L0];refine⟨W.ds,by omega,by omega,λu u0 u1=>⟨by omega,?_⟩⟩;have m0:0<=(v+1+u) % (ho.length:Int):=PJ _ (by omega);have m1:(v+1+u) % (ho.length:Int) < ho.length:=OY _ (by omega);obtain⟨last,e2,f2⟩:=kj m0 m1;have hfl:first≠last:=λz=>by
  subst z;have:=Dh hnd f1 f2;have e3:v=(v+1+u) % (ho.length:Int):=by omega
  by_cases hlt:v+1+u < ho.length
  .rw[QS (by omega) hlt] at e3;omega
  .have e4:(v+1+u) % (ho.length:Int)=v+1+u - ho.length:=by
    rw[<- Int.sub_emod_right,QS (by omega) (by omega)]
   omega
 have hfi:=LA f1;have hla:=LA f2;rw_mod_cast [e2];refine h3 _ _ (stp λN4 h4=>?_);walk_at "e"
 refine⟨by decide,ym (bd:=[]) W N (by omega) (by omega) hfi hla hfl (by simp[beside]) (λy hy=>by cases hy) ga3 (by decide) λw1 k1 μ4 ns4 ls4 W4 T4 N4 G4 sub4 k1a k1b Y1 hl1=>?_⟩;refine⟨by decide,λkw hkw=>h4 _ _ ?_⟩;have W5:WD (zO μ4 kw (.lst [.tup (w1.map D.str)])) s na la ns4 ls4:=W4.cell hkw;have f5:=W4.free hkw;have hkw0:∀k c,μ k=some c->k≠na->k≠la->(∀r∈ls,k≠r.sa/\k≠r.ea)->k≠kw:=λk c e a1 a2 a3 z=>by
  have:=(T4 k c e a1 a2 a3).1;rw[z,hkw] at this;cases this
 refine eZ (λρ μ'=>∃(ns6:List Str) (ls6:List LR) (ways:List (List Str)),ρ=[some (.cell s),some (.cell na),some (.cell la),some (.lst (ho.map D.str)),some (.lst (ga.map D.str)),some (.int sl),some (.int v),some (.str first),some (.str last),some (.cell kw),none,none,none,none] /\
  WD μ' s na la ns6 ls6/\be na la μ ls μ' ls6/\aO ho ga ns6 ls6 (h+6) c/\a9 ns ls ls6/\(∀y∈ns,y∈ns6)/\μ' kw=some (.lst (ways.map aL))/\(kw≠na/\kw≠la/\∀r∈ls6,kw≠r.sa/\kw≠r.ea)/\ways.length<=2 /\
  ∃first last w1 k1,first∈ho/\last∈ho/\first≠last/\1<=k1/\k1<=3/\Way ho ga ns6 ls6 [] first k1 (2*k1) w1/\w1[2*k1]? = some last/\(ways=[w1]\/∃w2 k2,ways=[w1,w2]/\1<=k2/\k2<=3/\Way ho ga ns6 ls6 (inner w1) first k2 (2*k2) w2/\w2[2*k2]? = some last)) (λNX hNX=>?_) ?_
 .have T5:be na la μ ls (zO μ4 kw (.lst [.tup (w1.map D.str)])) ls4:=λk c e a1 a2 a3=>by
   obtain⟨b1,b2⟩:=T4 k c e a1 a2 a3;exact⟨by rw[zj (hkw0 k c e a1 a2 a3)];exact b1,b2⟩
  walk_at "e"
  refine⟨W5.ds,by decide,by decide,λx x0 x1=>?_⟩;split
  .have wl1:w1.length=2*k1+1:=Y1.len;have ns1:¬ (HT.sIx (w1.map D.str).length 0 (some 1)=0/\HT.sIx (w1.map D.str).length (w1.map D.str).length (some (-1))=(w1.map D.str).length):=by
    rintro⟨z,_⟩;have:=HT.bR (w1.map D.str).length 0 1;rw[L0,Oq (by omega)] at this;rw[L0] at z;have e:HT.sIx w1.length 0 (some 1)=1:=this;omega
   refine⟨ns1,?_⟩;rw[yn w1 (by omega)];refine ym (bd:=inner w1) W5 N4 (by omega) (by omega) hfi hla hfl (M6 (De _ _ _) (M6 Y1.bs k1b)) (λy hy=>Y1.sub y (Dd hy)) ga3 (M6 (rM _) (by omega)) λw2 k2 μ9 ns9 ls9 W9 T9 N9 G9 sub9 k2a k2b Y2 hl2=>?_
   obtain⟨hw9,f9⟩:=T9 kw _ zF f5.1 f5.2.1 f5.2.2;rw_mod_cast [hw9];refine⟨by decide,hNX _ _ ⟨ns9,ls9,[w1,w2],rfl,W9.other hw9 (by simp) ⟨f5.1,f5.2.1,f9⟩,λk c e a1 a2 a3=>?_,N9.more (by omega),G4.trans sub4 G9,λy hy=>sub9 y (sub4 y hy),zF,⟨f5.1,f5.2.1,f9⟩,show 2<=2 by decide,first,last,w1,k1,hfi,hla,hfl,k1a,k1b,Y1.grow G9 sub9,hl1,.inr ⟨w2,k2,rfl,k2a,k2b,Y2,hl2⟩⟩⟩;obtain⟨b1,b2⟩:=(T5.trans T9) k c e a1 a2 a3;exact⟨by rw[zj (hkw0 k c e a1 a2 a3)];exact b1,b2⟩
  .exact hNX _ _ ⟨ns4,ls4,[w1],rfl,W5,T5,N4.more (by omega),G4,sub4,zF,f5,show 1<=2 by decide,first,last,w1,k1,hfi,hla,hfl,k1a,k1b,Y1,hl1,.inl rfl⟩
 rintro ρ μ6 ⟨ns6,ls6,ways,rfl,W6,T6,N6,G6,sub6,hw6,f6,wl,shape⟩;refine stp λN6' h6=>?_
 walk_at "e"
 refine⟨by decide,W6.ds,by decide,by decide,λa a0 a1=>?_⟩;obtain⟨e,ge,he⟩:=pc (xs:=jQ) a0 (show a < 11 from a1);have eb:8<=e/\e<=120:=by
  have:∀e∈jQ,8<=e/\e<=120:=by decide
  exact this e he
 have ge':atI [D.int 12,D.int 8,D.int 20,D.int 24,D.int 10,D.int 30,D.int 15,D.int 40,D.int 60,D.int 12,D.int 120] a=some (.int e):=ge;rw_mod_cast [ge'];refine h6 _ _ (stp λN7 h7=>?_);walk_at "e"
 have mb:0 < (if e - sl < 4 then e - sl else 4)/\(if e - sl < 4 then e - sl else 4)<=4:=by split<;>omega
 refine⟨W6.ds,mb.1,by omega,λb b0 b1=>h7 _ _ (stp λN8 h8=>?_)⟩;have u9:1+b<=4/\1+b+sl<=e:=by split at b1<;>omega
 walk_at "e"
 refine o_ W6.ds W6.dn (by have:=N6.cnt;have:=N6.len;omega) λx nm hx=>?_
 have W7:WD _ s na la (ns6++[x]) ls6:=W6.names (ns':=ns6++[x]);have hw7:zO μ6 na (.lst ((ns6++[x]).map D.str)) kw=some (.lst (ways.map aL)):=by rw[zj f6.1];exact hw6
 rw_mod_cast [hw7];refine⟨W7.ds,by omega,by omega,λd d0 d1=>⟨by decide,h8 _ _ (stp λN9 h9=>?_)⟩⟩;walk_at "e"
 refine⟨⟨by decide,by decide⟩,by decide,W7.ds,by decide,by decide,λt t0 t1=>?_⟩;obtain⟨spare,gs,hs⟩:=pc (xs:=[0,1,2,e / 2,3,e - 1,6]) t0 (show t < 7 from t1);have gs':atI [D.int 0,D.int 1,D.int 2,D.int (e / 2),D.int 3,D.int (e - 1),D.int 6] t=some (.int spare):=gs;rw_mod_cast [gs'];refine h9 _ _ ?_;walk_at "e"
 refine⟨by decide,GR W7 ?_⟩;walk_at "e"
 rw[show cutD [D.str x,D.tup (On aL ways),D.int e,D.int (1+b),D.int d,D.int 0] none (some 5)=[D.str x,D.tup (On aL ways),D.int e,D.int (1+b),D.int d] from rfl];refine⟨by decide,by simp,show 6<=sizeLine by decide,_,.refl _,?_⟩;have N10:=N6.named hx nm;have hxn:x∉ns:=λz=>hx (sub6 x z)
 have G18:a9 ns6 ls6 ls6:=a9.refl _ _;refine q ⟨x,ways,e,1+b,d,c7 ls6 ways (1+b) sl+spare⟩ _ (ns6++[x]) ls6 W7 (T6.trans be.names) N10 G6 (λy hy=>LL _ (sub6 y hy)) ⟨by simp,λz=>hx (N6.sub x z),?_,he,by show 1<=1+b;omega,u9.1,u9.2,d0,d1,spare,rfl,hs⟩ hxn;obtain⟨f',l',w1',k1',a1,a2,a3,a4,a5,Y,a6,hh'⟩:=shape;refine⟨f',l',w1',k1',a1,a2,a3,a4,a5,Y.grow G18 (λy hy=>LL _ hy),a6,?_⟩;rcases hh' with z|⟨w2,k2,z,b1,b2,Y2,b3⟩
 .exact .inl z
 .exact .inr ⟨w2,k2,z,b1,b2,Y2.grow G18 (λy hy=>LL _ hy),b3⟩
def yo:List Int:=[0,1,2,0,3,1,5,7]
structure WorldD(μ:Mu)(s na la:Nat)(ho ga ns:List Str)(ls:List LR)(rows:List RW)(sl:Int)(most:Nat):Prop where
 W:WD μ s na la ns ls
 N:aO ho ga ns ls 48 (ho.length+ga.length+rows.length)
 ho2:2<=ho.length
 ho4:ho.length<=4
 ga3:ga.length<=3
 r1:1<=rows.length
 rm:rows.length<=most
 ok:∀r∈rows,cw ho ga ns ls sl r
 nd:(rows.map RW.nm).Nodup
 sl0:0<=sl
 sl7:sl<=7
theorem yp{s:Nat}{pre:List Str}{n:Nat}(hs:μ s=some .draw)(hn:μ na=some (.lst (pre.map D.str)))(hp:pre.Nodup)(hpn:∀x∈pre,Nm x)(hl:pre.length+n < 100)
  (q:∀xs:List Str,xs.length=n->(pre++xs).Nodup->(∀x∈pre++xs,Nm x)->Fin (xs.map D.str) (zO μ na (.lst ((pre++xs).map D.str)))) :
  bO (zp 0) aD (dCall eI (za (zb 2) (za (zb 1) zm))) [none,some (.cell na),some (.cell s)] (λ_=>True) Fin ((b_ 0 n).map D.int) [] μ:=by
 have hz:(200:Nat)<=sizeLine:=by decide
 have sna:s≠na:=λz=>by rw[z,hn] at hs;cases hs
 refine ez (λi ys μ'=>∃xs:List Str,ys=xs.map D.str/\xs.length=i/\(pre++xs).Nodup/\(∀x∈pre++xs,Nm x)/\μ'=zO μ na (.lst ((pre++xs).map D.str))) ⟨[],rfl,rfl,by rw[MW];exact hp,by rw[MW];exact hpn,?_⟩ ?_ ?_
 .funext k;unfold zO;split
  .rename_i e;rw[e,MW];exact hn
  .rfl
 .rintro i d ys μ' hd ⟨xs,rfl,hx,nd,nm,rfl⟩;obtain⟨hi,rfl⟩:=gH hd;refine⟨by rw[L0];omega,λN hN=>?_⟩;walk_at "e"
  refine o_ (by rw[zj sna];exact hs) zF (by rw[LG];omega) λx hnm hxn=>hN _ _ ⟨xs++[x],by rw[LM];rfl,by rw[LG,hx];rfl,?_,?_,?_⟩
  .rw[<- M7];exact LK.mpr ⟨nd,by simp,λa ha b hb e=>by rw[Lz.mp hb] at e;exact hxn (e▸ha)⟩
  .intro y hy;rw[<- M7] at hy;rcases LX.mp hy with h|h
   .exact nm y h
   .rw[Lz.mp h];exact hnm
  .rw[cK,M7]
 .rintro ys μ' ⟨xs,rfl,hx,nd,nm,rfl⟩;rw[iN] at hx;exact q xs hx nd nm
theorem GT{s most:Nat}(hs:μ s=some .draw)(m1:1<=most)(m8:most<=8)
  (q:∀ μ' na la ho ga ns ls rows sl,WorldD μ' s na la ho ga ns ls rows sl most->(∀k c,μ k=some c->μ' k=some c/\k≠na/\k≠la/\∀r∈ls,k≠r.sa/\k≠r.ea) ->
   Q (.tup [.lst (ho.map D.str),.lst (ga.map D.str),.cell la,.lst (rows.map bQ),.int sl,.cell na]) μ'):lh [.cell s,.int (most:Int)] μ Q:=by
 have hz:(200:Nat)<=sizeLine:=by decide
 refine⟨rfl,stp λN1 h1=>?_⟩;walk_at "e"
 refine⟨by decide,λna hna=>h1 _ _ (stp λN2 h2=>?_)⟩;have sna:s≠na:=λz=>by rw[z,hna] at hs;cases hs
 have hs1:∀c,zO μ na c s=some .draw:=λc=>by rw[zj sna];exact hs
 walk_at "e"
 refine⟨by decide,hs1 _,by decide,by decide,λa a0 a1=>⟨by omega,by omega,?_⟩⟩;refine yp (pre:=[]) (hs1 _) zF PZ (λx hx=>by cases hx) (by simp;omega) λho hol hod hon=>h2 _ _ (stp λN3 h3=>?_)
 rw[cK,OM];rw[OM] at hod hon;walk_at "e"
 refine⟨by decide,hs1 _,by decide,by decide,λb b0 b1=>⟨by omega,by omega,?_⟩⟩;refine yp (pre:=ho) (hs1 _) zF hod hon (by omega) λga gal gad gan=>h3 _ _ (stp λN4 h4=>?_)
 rw[cK];walk_at "e"
 refine⟨by decide,hs1 _,by decide,by decide,λt t0 t1=>?_⟩;obtain⟨sl,gs,hsl⟩:=pc (xs:=yo) t0 (show t < 8 from t1);have gs':atI [D.int 0,D.int 1,D.int 2,D.int 0,D.int 3,D.int 1,D.int 5,D.int 7] t=some (.int sl):=gs;have slb:0<=sl/\sl<=7:=by
  have:∀e∈yo,0<=e/\e<=7:=by decide
  exact this sl hsl
 rw_mod_cast [gs'];refine h4 _ _ (stp λN5 h5=>?_);walk_at "e"
 refine⟨by decide,λla hla=>h5 _ _ (stp λN6 h6=>?_)⟩;have nal:na≠la:=λz=>by rw[<- z,zF] at hla;cases hla
 have W0:WD (zO (zO μ na (.lst ((ho++ga).map D.str))) la (.lst [])) s na la (ho++ga) []:=⟨by
   rw[zj (λz=>by rw[<- z,hs1] at hla;cases hla)];exact hs1 _,by rw[zj nal,zF],zF,nal,λr hr=>(by cases hr),λr hr=>(by cases hr),λi j r r' hi=>(by simp at hi)⟩
 have NT0:aO ho ga (ho++ga) [] (6*0) (ho.length+ga.length+0):=⟨by simpa using gad,by simp,gan,gad,λr hr=>(by cases hr),by decide,by decide,by rw[LG];exact Lx _⟩;have keep0:∀k c,μ k=some c->(zO (zO μ na (.lst ((ho++ga).map D.str))) la (.lst [])) k=some c/\k≠na/\k≠la:=λk c e=>by
  have k1:k≠na:=λz=>by rw[z,hna] at e;cases e
  have k2:k≠la:=λz=>by rw[<- z,zj k1,e] at hla;cases hla
  exact⟨by rw[zj k2,zj k1];exact e,k1,k2⟩
 generalize zO (zO μ na (.lst ((ho++ga).map D.str))) la (.lst [])=μ0 at W0 keep0
 walk_at "e"
 refine⟨by decide,W0.ds,by omega,by omega,λv v0 v1=>⟨by omega,by omega,?_⟩⟩;refine ez (λi ys μ'=>∃(rows:List RW) (ns:List Str) (ls:List LR),ys=rows.map bQ/\rows.length=i/\WD μ' s na la ns ls/\be na la μ0 [] μ' ls/\aO ho ga ns ls (6*i) (ho.length+ga.length+i)/\(∀r∈rows,cw ho ga ns ls sl r)/\(rows.map RW.nm).Nodup) ⟨[],ho++ga,[],rfl,rfl,W0,.refl,NT0,λr hr=>(by cases hr),PZ⟩ ?_ ?_
 .rintro i d ys μ' hd ⟨rows,ns,ls,rfl,hr,W,T,NT,ok,nd⟩;obtain⟨hi,rfl⟩:=gH hd;refine⟨by rw[L0];omega,λN hN=>?_⟩;walk_at "e"
  refine GS W NT (by omega) (by omega) (by omega) (by omega) (by omega) slb.1 slb.2 λr μ2 ns2 ls2 W2 T2 NT2 G2 sub2 R2 hn2=>hN _ _ ⟨rows++[r],ns2,ls2,by rw[LM];rfl,by rw[LG,hr];rfl,W2,T.trans T2,?_,?_,?_⟩
  .have:6*(i+1)=6*i+6:=by omega
   rw[this];exact NT2
  .intro r' hr';rcases LX.mp hr' with h|h
   .exact(ok r' h).grow G2 sub2
   .rw[Lz.mp h];exact R2
  .rw[LM];refine LK.mpr ⟨nd,by simp,λa ha b hb e=>?_⟩;obtain⟨r',hr',rfl⟩:=M8.mp ha;have:b=r.nm:=by simpa using hb
   rw[this] at e;exact hn2 (e▸(ok r' hr').nmn)
 .rintro ys μ' ⟨rows,ns,ls,rfl,hr,W,T,NT,ok,nd⟩;rw[iN] at hr NT;refine h6 _ _ ?_;walk_at "e"
  refine⟨by decide,_,.refl _,q μ' na la ho ga ns ls rows sl ⟨W,?_,by omega,by omega,by omega,by omega,by omega,ok,nd,slb.1,slb.2⟩ λk c e=>?_⟩
  .rw[hr];exact NT.more (by omega)
  .obtain⟨b1,b2,b3⟩:=keep0 k c e;obtain⟨c1,c2⟩:=T k c b1 b2 b3 (λr hr=>by cases hr);exact⟨c1,b2,b3,c2⟩
theorem GU{i:Int}(q:Q (.bl true) μ):kM [.int i] μ Q:=by
 refine⟨rfl,?_⟩;walk_at "e"
 exact⟨_,.refl _,q⟩
theorem GV{i:Int}(q:Q .non μ):kU [.int i] μ Q:=by
 refine⟨rfl,?_⟩;walk_at "e"
 refine GU ?_;walk_at "e"
 exact⟨_,.refl _,q⟩
theorem yq{i:Int}(q:Q (.bl true) μ):jf [.int i] μ Q:=by
 refine⟨rfl,?_⟩;walk_at "e"
 exact⟨_,.refl _,q⟩
theorem GW{y:Str}{R:List D->(Mu->Prop)->Prop}(h:y.cps.all (· < 128)=true):eY μ (.str y) R=R (y.cps.toList.map λc=> .str ⟨#[c]⟩) λ_=>True:=by
 unfold eY j3;simp only[h,if_true]
theorem GX:∀c:_root_.Fin 128,iS letters ⟨#[c.val]⟩=decide (97<=c.val/\c.val<=122):=by decide+kernel
theorem GY(h:Nm x):x.cps.all (· < 128)=true:=by
 rw[<- Rf];exact Mp.mpr λc hc=>decide_eq_true (by have:=h.az c hc;omega)
theorem GZ(h:Nm x):1<=x.length/\x.length<=8:=by
 have h1:=h.l1;have h2:=h.l8;rw[M9] at h1 h2;exact⟨h1,h2⟩
theorem yr(h:Nm x)(q:Q (.bl true) μ):jg [.str x] μ Q:=by
 obtain⟨l1,l8⟩:=GZ h;have hz:(1000:Nat)<=sizeLine:=by decide
 refine⟨rfl,?_⟩;walk_at "e"
 refine⟨rfl,?_⟩;walk_at "e"
 refine⟨by omega,?_⟩;rw_mod_cast [show decide ((1:Int)<=x.length)=true from decide_eq_true (by omega),show decide ((x.length:Int)<=8)=true from decide_eq_true (by omega),GW (GY h)];refine⟨by decide,nv x.cps.toList _ (by have:=h.l8;omega) (λc hc Q' q'=>?_) (λbs hb=>?_) trivial⟩
 .have:=h.az c hc;have e:=GX ⟨c,by omega⟩;walk_at "e"
  rw[show iS (L6 "abcdefghijklmnopqrstuvwxyz") ⟨#[c]⟩=true from by
   show iS letters ⟨#[c]⟩=true;rw[e];exact decide_eq_true this]
  exact q'
 .rw_mod_cast [hb];exact⟨_,.refl _,_,.refl _,q⟩
theorem yt(h:Nm x)(q:Q .non μ):ji [.str x] μ Q:=by
 refine⟨rfl,?_⟩;walk_at "e"
 refine yr h ?_;walk_at "e"
 exact⟨_,.refl _,q⟩
theorem jo{i hi:Int}(h1:lo<=i)(h2:i<=hi)(q:Q .non μ):fg [.int i,.int lo,.int hi] μ Q:=by
 refine⟨rfl,?_⟩;walk_at "e"
 refine GV ?_;rw_mod_cast [decide_eq_true h1,decide_eq_true h2];exact⟨_,.refl _,q⟩
theorem G0(h:Nm x):PyData.strOk x=true:=by
 unfold PyData.strOk;rw[<- Rf];exact Mp.mpr λc hc=>decide_eq_true (by have:=h.az c hc;omega)
def sLe(a b:Str):Prop:=a.cps.toList<=b.cps.toList
theorem G1{a b:Str}(h:sLe a b)(h':sLe b a):a=b:=by
 have e:a.cps.toList=b.cps.toList:=Rb h h';cases a;cases b;simp only[Pu];exact NV.mp e
abbrev SL(β:Type):=List (Str×β)
variable{kn:SL Str}
def aA{β:Type}:SL β->Str->Option β
 | [],_=>none
 |p::r,j=>if p.1=j then some p.2 else aA r j
def ksS(l:SL β):List Key:=l.map λp=>(NW p.1:Key)
def vsS(f:β->D)(l:SL β):List D:=l.map λp=>f p.2
section
theorem lu{l:SL β}:(aA l j).isSome=true↔j∈l.map (·.1):=by
 induction l with
 |nil=>simp[aA]
 |cons p r ih =>
  rw[aA,LQ,LD];by_cases h:p.1=j
  .simp[h]
  .rw[if_neg h,ih];exact⟨λz=> .inr z,λz=>z.resolve_left λe=>h e.symm⟩
theorem gc{l:SL β}:(NW j:Key)∈ksS l↔j∈l.map (·.1):=by
 unfold ksS;rw[M8,M8];constructor
 .rintro⟨p,hp,e⟩;exact⟨p,hp,Rl e⟩
 .rintro⟨p,hp,e⟩;exact⟨p,hp,by rw[e]⟩
theorem pd{f:β->D}{l:SL β}:bG (ksS l) (vsS f l) (.inr j)=(aA l j).map f:=by
 induction l with
 |nil=>rfl
 |cons p r ih =>
  show(if (NW p.1:Key)= .inr j then some (f p.2) else bG (ksS r) (vsS f r) (.inr j))=_;rw[aA];by_cases h:p.1=j
  .rw[if_pos (by rw[h]),if_pos h];rfl
  .rw[if_neg (λz=>h (Rl z)),if_neg h];exact ih
theorem lv{f:β->D}{l:SL β}{b:β}(h:j∉l.map (·.1)):Ct.dct (dH (ksS l) (.inr j)) (eA (ksS l) (vsS f l) (.inr j) (f b))= .dct (ksS (l++[(j,b)])) (vsS f (l++[(j,b)])):=by
 unfold dH eA;rw[if_neg (λz=>h (gc.mp z)),if_neg (λz=>h (gc.mp z))];unfold ksS vsS;rw[LM,LM];rfl
theorem g_{l:SL β}{b:β}(hn:(l.map (·.1)).Nodup)(h:(j,b)∈l):aA l j=some b:=by
 induction l with
 |nil=>cases h
 |cons p r ih =>
  rw[LQ] at hn;obtain⟨h1,h2⟩:=NK.mp hn;rw[aA];rcases LD.mp h with rfl|h
  .simp
  .have hne:¬ p.1=j:=λe=>h1 (by rw[e];exact Md (f:=λq:Str×β=>q.1) h)
   rw[if_neg hne,ih h2 h]
theorem yu{l:SL β}{b:β}(h:aA l j=some b):(j,b)∈l:=by
 induction l with
 |nil=>cases h
 |cons p r ih =>
  rw[aA] at h;by_cases e:p.1=j
  .rw[if_pos e] at h;cases h;rw[<- e];exact LO
  .rw[if_neg e] at h;exact LN _ (ih h)
theorem hG{l:SL β}:(ksS l).length=l.length:=by unfold ksS;rw[L0]
end
abbrev EN:=List Str×List Str×Int
variable{ln:SL EN}
def enD(e:EN):D:= .tup [.tup (e.1.map D.str),.tup (e.2.1.map D.str),.int e.2.2]
structure au(μ:Mu)(k ck cl:Nat)(kn:SL Str)(ln:SL EN):Prop where
 o:μ k=some (.ins "Net" cn [.cell ck,.cell cl])
 a:μ ck=some (.dct (ksS kn) (vsS D.str kn))
 b:μ cl=some (.dct (ksS ln) (vsS enD ln))
 ne:ck≠cl
 nd:(kn.map (·.1)).Nodup
theorem au.k1{k:Nat}(h:au μ k ck cl kn ln):k≠ck:=λz=>by have:=h.o;rw[z,h.a] at this;cases this
theorem au.k2{k:Nat}(h:au μ k ck cl kn ln):k≠cl:=λz=>by have:=h.o;rw[z,h.b] at this;cases this
section
variable{k:Nat}
theorem yv(N:au μ k ck cl kn ln)(hx:Nm x)(h:x∉kn.map (·.1))(q:Q .non μ):jk [.cell k,.str x] μ Q:=by
 refine⟨rfl,?_⟩;rw_mod_cast [];refine yt hx ?_;rw_mod_cast [ki,N.o,iW,N.a,iV,eD,decide_eq_false (λz=>h (gc.mp z)),ND];exact⟨_,.refl _,q⟩
theorem yw{es:List Str}(N:au μ k ck cl kn ln)(h:∀y∈es,y∈kn.map (·.1)/\y∉ln.map (·.1))(q:Q .non μ):jd [.cell k,.tup (es.map D.str)] μ Q:=by
 refine⟨rfl,?_⟩;rw_mod_cast [];refine bX (λi ρ μ'=>∃x2,ρ=[some (.cell k),some (.tup (es.map D.str)),x2]/\μ'=μ) ⟨_,rfl,rfl⟩ ?_ ?_
 .rintro i d ρ μ' hd ⟨x2,rfl,rfl⟩ N' hN;rw[L4] at hd;obtain⟨y,hy,rfl⟩:=LH.mp hd;obtain⟨h1,h2⟩:=h y (LA hy);rw_mod_cast [ki,N.o,iW,N.a,N.b,iV,eD,decide_eq_true (gc.mpr h1),decide_eq_false (λz=>h2 (gc.mp z)),ND,MM];exact hN _ _ ⟨_,rfl,rfl⟩
 .rintro ρ μ' ⟨x2,rfl,rfl⟩;exact⟨_,.refl _,q⟩
theorem yx{kd:Str}(N:au μ k ck cl kn ln)(hx:Nm x)(h:x∉kn.map (·.1))(hl:kn.length < 16+ln.length)(hz:kn.length<=900)(q:∀ μ',au μ' k ck cl (kn++[(x,kd)]) ln->(∀j,j≠ck->μ' j=μ j)->Q .non μ'):jm [.cell k,.str x,.str kd] μ Q:=by
 refine⟨rfl,stp λN1 h1=>?_⟩;rw_mod_cast [N.o];refine yv N hx h ?_;rw_mod_cast [];refine h1 _ _ ?_;rw_mod_cast [N.o,ut,nk,N.a,N.b,fY,hG,decide_eq_false (show ¬ (16:Int)<=(kn.length:Int) - (ln.length:Int) by omega)];unfold fZ;rw_mod_cast [N.o,N.a,fY,eD,hG];rw[lv (f:=D.str) h];refine⟨by omega,_,.refl _,q _ ⟨?_,zF,?_,N.ne,?_⟩ λj hj=>zj hj⟩
 .rw[zj N.k1];exact N.o
 .rw[zj N.ne.symm];exact N.b
 .rw[LM];refine LK.mpr ⟨N.nd,by simp,λa ha b hb=>?_⟩;simp at hb;subst hb;exact λz=>h (z▸ha)
theorem G3(N:au μ k ck cl kn ln)(hx:Nm x)(h:x∉kn.map (·.1))(hl:kn.length < 16+ln.length)(hz:kn.length<=900)(q:∀ μ',au μ' k ck cl (kn++[(x,("house":Str))]) ln->(∀j,j≠ck->μ' j=μ j)->Q .non μ'):lf [.cell k,.str x] μ Q:=by
 refine⟨rfl,?_⟩;rw_mod_cast [N.o];refine yx N hx h hl hz λμ' N' e=>?_
 exact⟨_,.refl _,q μ' N' e⟩
theorem G8(N:au μ k ck cl kn ln)(hx:Nm x)(h:x∉kn.map (·.1))(hl:kn.length < 16+ln.length)(hz:kn.length<=900)(q:∀ μ',au μ' k ck cl (kn++[(x,("gate":Str))]) ln->(∀j,j≠ck->μ' j=μ j)->Q .non μ'):lg [.cell k,.str x] μ Q:=by
 refine⟨rfl,?_⟩;rw_mod_cast [N.o];refine yx N hx h hl hz λμ' N' e=>?_
 exact⟨_,.refl _,q μ' N' e⟩
theorem yy{es:List Str}(h1:es≠[])(h6:es.length<=6)(hn:es.Nodup)(q:Q .non μ):je [.tup (es.map D.str)] μ Q:=by
 have hz:(1000:Nat)<=sizeLine:=by decide
 have hp:0 < es.length:=OP.mpr h1;refine⟨rfl,stp λN1 h1=>?_⟩;rw_mod_cast [L0,decide_eq_true (show(1:Int)<=(es.length:Int) by omega),decide_eq_true (show(es.length:Int)<=6 by omega)];refine h1 _ _ ?_;rw_mod_cast [];refine⟨es,rfl,by omega,?_⟩;rw[rV hn,L0];rw_mod_cast [show decide ((es.length:Int) < es.length)=false from decide_eq_false (by omega)];exact⟨_,.refl _,q⟩
def Srt(xs ys:List Str):Prop:=MH ys xs/\SQ ys=true
theorem G_{wr:Int}(N:au μ k ck cl kn ln)(hx:Nm x)(h:x∉kn.map (·.1))(hl:ln.length < 16)(hz:kn.length<=900)
  (s1:S≠[])(s6:S.length<=6)(sn:S.Nodup)(e1:E≠[])(e6:E.length<=6)(en:E.Nodup)(hs:∀y∈S,y∈kn.map (·.1)/\y∉ln.map (·.1))(he:∀y∈E,y∈kn.map (·.1)/\y∉ln.map (·.1))(w0:0<=wr)(w1:wr<=30)(hxl:x∉ln.map (·.1))
  (q:∀ μ' S' E',Srt S S'->Srt E E'->au μ' k ck cl (kn++[(x,("line":Str))]) (ln++[(x,S',E',wr)])->(∀j,j≠ck->j≠cl->μ' j=μ j)->Q .non μ'):k_ [.cell k,.str x,.tup (S.map D.str),.tup (E.map D.str),.int wr] μ Q:=by
 have hzz:(1000:Nat)<=sizeLine:=by decide
 refine⟨rfl,stp λN1 h1=>?_⟩;rw_mod_cast [N.o];refine yv N hx h (h1 _ _ (stp λN2 h2=>?_));rw_mod_cast [N.o,ut,nk,N.b,fY,hG,decide_eq_false (show ¬ (16:Int)<=(ln.length:Int) by omega)];refine h2 _ _ (stp λN3 h3=>?_);rw_mod_cast [];refine yy s1 s6 sn (h3 _ _ (stp λN4 h4=>?_));rw_mod_cast [];refine yy e1 e6 en (h4 _ _ (stp λN5 h5=>?_));rw_mod_cast [N.o];refine yw N hs (h5 _ _ (stp λN6 h6=>?_));rw_mod_cast [N.o];refine yw N he (h6 _ _ (stp λN7 h7=>?_));rw_mod_cast [];refine jo w0 w1 (h7 _ _ (stp λN8 h8=>?_));unfold fZ;rw_mod_cast [N.o,N.a,fY,eD,hG];rw[lv (f:=D.str) h];refine⟨by omega,h8 _ _ ?_⟩;have o':zO μ ck (.dct (ksS (kn++[(x,("line":Str))])) (vsS D.str (kn++[(x,("line":Str))]))) k=some (.ins "Net" cn [.cell ck,.cell cl]):=by rw[zj N.k1];exact N.o
 have b':zO μ ck (.dct (ksS (kn++[(x,("line":Str))])) (vsS D.str (kn++[(x,("line":Str))]))) cl=some (.dct (ksS ln) (vsS enD ln)):=by rw[zj N.ne.symm];exact N.b
 unfold fZ;rw_mod_cast [];refine uy (by omega) λS' p1 p2=>?_
 rw_mod_cast [];refine uy (by omega) λE' p3 p4=>?_
 rw_mod_cast [o',b',fY,eD,hG];have e:D.tup [.tup (S'.map D.str),.tup (E'.map D.str),.int wr]=enD (S',E',wr):=rfl;rw[e,lv (f:=enD) hxl];refine⟨by omega,by omega,_,.refl _,q _ S' E' ⟨p1,p2⟩ ⟨p3,p4⟩ ⟨?_,?_,zF,N.ne,?_⟩ λj a b=>?_⟩
 .rw[zj N.k2];exact o'
 .rw[zj N.ne,zF]
 .rw[LM];refine LK.mpr ⟨N.nd,by simp,λa ha b hb=>?_⟩;simp at hb;subst hb;exact λz=>h (z▸ha)
 .rw[zj b,zj a]
theorem Ha{l:SL β}:ksS l=(l.map (·.1)).map NW:=by unfold ksS;rw[MK];rfl
theorem Hb(h:∀ck cl μ',μ ck=none->μ cl=none->au μ' k ck cl [] []->(∀j c,μ j=some c->j≠k->μ' j=some c)->Q .non μ')(hk:μ k=some (.ins "Net" [] [])):kO [.cell k] μ Q:=by
 refine⟨rfl,stp λN1 h1=>?_⟩;rw_mod_cast [iX];intro ck hck;have kne:k≠ck:=λz=>by rw[z,hck] at hk;cases hk
 rw_mod_cast [zj kne,hk];refine h1 _ _ ?_;rw_mod_cast [iX];intro cl hcl;have n1:cl≠ck:=λz=>by
  rw[z,zj (λy=>kne y.symm),zF] at hcl;cases hcl
 have n2:cl≠k:=λz=>by rw[z,zF] at hcl;cases hcl
 have hcl':μ cl=none:=by rw[zj n2,zj n1] at hcl;exact hcl
 rw_mod_cast [zj (λy:k=cl=>n2 y.symm)];refine⟨_,.refl _,h ck cl _ hck hcl' ⟨zF,?_,?_,λz=>n1 z.symm,by simp⟩ λj c e hj=>?_⟩
 .rw[zj (λy=>kne y.symm),zj (λy=>n1 y.symm),zj (λy=>kne y.symm),zF];rfl
 .rw[zj n2,zF];rfl
 .rw[zj hj,zj (λy=>by rw[y,hcl'] at e;cases e),zj hj,zj (λy=>by rw[y,hck] at e;cases e)];exact e
end
theorem yz{k:Nat}{v:EN}(N:au μ k ck cl kn ln)(h:aA ln x=some v)(q:Q (enD v) μ):jc [.cell k,.str x] μ Q:=by
 refine⟨rfl,?_⟩;have hm:x∈ln.map (·.1):=lu.mp (by rw[h];rfl);rw_mod_cast [ki,ur,N.o,iW,N.b,iV,eD,decide_eq_true (gc.mpr hm),pd,h,Nw,MM];exact⟨_,.refl _,q⟩
def kindsOf(ho ga:List Str)(ls:List LR):SL Str:=ho.map (λx=>(x,("house":Str)))++ga.map (λx=>(x,("gate":Str)))++ls.map (λr=>(r.nm,("line":Str)))
def cU(ls:List LR)(ln:SL EN):Prop:=ln.length=ls.length/\∀(i:Nat) r,ls[i]? = some r->∃S' E',ln[i]? = some (r.nm,S',E',r.w)/\Srt r.S S'/\Srt r.E E'
theorem gf:(kindsOf ho ga ls).map (·.1)=ho++ga++ls.map LR.nm:=by
 unfold kindsOf;rw[LM,LM,MK,MK,MK];have e1:∀l:List Str,l.map ((λp:Str×Str=>p.1)∘λx=>(x,("house":Str)))=l:=λl=>by
  rw[show((λp:Str×Str=>p.1)∘λx=>(x,("house":Str)))=id from rfl,Rn]
 have e2:∀l:List Str,l.map ((λp:Str×Str=>p.1)∘λx=>(x,("gate":Str)))=l:=λl=>by
  rw[show((λp:Str×Str=>p.1)∘λx=>(x,("gate":Str)))=id from rfl,Rn]
 rw[e1,e2];rfl
theorem cU.fst(h:cU ls ln):ln.map (·.1)=ls.map LR.nm:=by
 apply Nv;intro i;rw[L4,L4];by_cases hi:i < ls.length
 .obtain⟨S',E',e,_⟩:=h.2 i ls[i] (L3 hi);rw[e,L3 hi];rfl
 .rw[LZ (show ln.length<=i by rw[h.1];omega),LZ (show ls.length<=i by omega)];rfl
theorem cU.snoc{r:LR}{S' E':List Str}(h:cU ls ln)(h1:Srt r.S S')(h2:Srt r.E E'):cU (ls++[r]) (ln++[(r.nm,S',E',r.w)]):=by
 refine⟨by simp[h.1],λi q e=>?_⟩;rw[Q6] at e ⊢;rw[h.1];split at e
 .rename_i hi;rw[if_pos hi];exact h.2 i q e
 .rename_i hi;rw[if_neg hi];have:i - ls.length=0:=by
   have:=(L7.mp e).1;simpa using this
  rw[this] at e ⊢;simp at e;subst e;exact⟨S',E',rfl,h1,h2⟩
theorem Hc{s:Nat}{c:Nat}{rowsD slD:D}(W:WD μ s na la ns ls)(N:aO ho ga ns ls h c)(h4:ho.length<=4)(g3:ga.length<=3)
  (q:∀ μ' k ck cl ln,μ k=none->μ ck=none->μ cl=none->au μ' k ck cl (kindsOf ho ga ls) ln->cU ls ln->(∀j c,μ j=some c->μ' j=some c)->Q (.cell k) μ') :
  li [.tup [.lst (ho.map D.str),.lst (ga.map D.str),.cell la,rowsD,slD,.cell na]] μ Q:=by
 have hz:(1000:Nat)<=sizeLine:=by decide
 have l14:=N.len;have nd:=N.nd;have nmx:∀x∈ho++ga++ls.map LR.nm,Nm x:=λx hx=>N.nms x (N.sub x hx)
 refine⟨rfl,stp λN1 h1=>?_⟩;rw_mod_cast [];intro k hk;refine Hb (λck cl μ1 hck hcl A keep=>?_) zF;have kck:k≠ck:=A.k1;have kcl:k≠cl:=A.k2;have hck':μ ck=none:=by rw[zj (λz=>kck z.symm)] at hck;exact hck
 have hcl':μ cl=none:=by rw[zj (λz=>kcl z.symm)] at hcl;exact hcl
 have keep1:∀j c,μ j=some c->μ1 j=some c/\j≠k/\j≠ck/\j≠cl:=λj c e=>by
  have n1:j≠k:=λz=>by rw[z,hk] at e;cases e
  exact⟨keep j c (by rw[zj n1];exact e) n1,n1,λz=>(by rw[z,hck'] at e;cases e),λz=>(by rw[z,hcl'] at e;cases e)⟩
 clear keep hck hcl;refine⟨rfl,h1 _ _ ?_⟩;refine eZ (λρ μ'=>∃x2,ρ=[some (.tup [.lst (ho.map D.str),.lst (ga.map D.str),.cell la,rowsD,slD,.cell na]),some (.cell k),x2,none,none,none]/\au μ' k ck cl (kindsOf ho [] []) []/\∀j c,μ j=some c->μ' j=some c) (λN2 k2=>?_) ?_
 .rw_mod_cast [];refine bX (λi ρ μ'=>∃x2,ρ=[some (.tup [.lst (ho.map D.str),.lst (ga.map D.str),.cell la,rowsD,slD,.cell na]),some (.cell k),x2,none,none,none]/\au μ' k ck cl (kindsOf (ho.take i) [] []) []/\∀j c,μ j=some c->μ' j=some c) ⟨_,rfl,A,λj c e=>(keep1 j c e).1⟩ ?_ ?_
  .rintro i d ρ μ' hd ⟨x2,rfl,A',ke⟩ N3 hN;rw[L4] at hd;obtain⟨x,hx,rfl⟩:=LH.mp hd;have hi:=(L7.mp hx).1;rw_mod_cast [A'.o];refine G3 A' (nmx x (by simp[LA hx])) ?_ ?_ ?_ λμ2 A2 ke2=>?_
   .rw[gf];simp only[MW,OR];intro hm;have hd2:(ho.take i++[x]).Nodup:=by
     have:ho.take (i+1)=ho.take i++[x]:=by rw[Mm,hx];rfl
     rw[<- this];exact(Nt _ _).nodup ((LK.mp (LK.mp nd).1).1)
    exact(LK.mp hd2).2.2 x hm x (by simp) rfl
   .simp[kindsOf];omega
   .simp[kindsOf];omega
   .refine hN _ _ ⟨_,rfl,?_,λj c e=>?_⟩
    .have e:kindsOf (ho.take (i+1)) [] []=kindsOf (ho.take i) [] []++[(x,("house":Str))]:=by
      unfold kindsOf;rw[Mm,hx];simp
     rw[e];exact A2
    .rw[ke2 j (keep1 j c e).2.2.1];exact ke j c e
  .rintro ρ μ' ⟨x2,rfl,A',ke⟩;rw[L0,N0] at A';exact k2 _ _ ⟨_,rfl,A',ke⟩
 rintro ρ μ2 ⟨x2,rfl,A2,ke2⟩;refine eZ (λρ μ'=>∃x2,ρ=[some (.tup [.lst (ho.map D.str),.lst (ga.map D.str),.cell la,rowsD,slD,.cell na]),some (.cell k),x2,none,none,none]/\au μ' k ck cl (kindsOf ho ga []) []/\∀j c,μ j=some c->μ' j=some c) (λN2 k2=>?_) ?_
 .rw_mod_cast [];refine bX (λi ρ μ'=>∃x2,ρ=[some (.tup [.lst (ho.map D.str),.lst (ga.map D.str),.cell la,rowsD,slD,.cell na]),some (.cell k),x2,none,none,none]/\au μ' k ck cl (kindsOf ho (ga.take i) []) []/\∀j c,μ j=some c->μ' j=some c) ⟨_,rfl,A2,ke2⟩ ?_ ?_
  .rintro i d ρ μ' hd ⟨x2,rfl,A',ke⟩ N3 hN;rw[L4] at hd;obtain⟨x,hx,rfl⟩:=LH.mp hd;have hi:=(L7.mp hx).1;rw_mod_cast [A'.o];refine G8 A' (nmx x (by simp[LA hx])) ?_ ?_ ?_ λμ2 A2 ke2=>?_
   .rw[gf];simp only[MW,OR];intro hm;have hd2:(ho++(ga.take i++[x])).Nodup:=by
     have:ga.take (i+1)=ga.take i++[x]:=by rw[Mm,hx];rfl
     rw[<- this];exact((QT ho).append (Nt _ _)).nodup (LK.mp nd).1
    rw[<- M7] at hd2;exact(LK.mp hd2).2.2 x hm x (by simp) rfl
   .simp[kindsOf];omega
   .simp[kindsOf];omega
   .refine hN _ _ ⟨_,rfl,?_,λj c e=>?_⟩
    .have e:kindsOf ho (ga.take (i+1)) []=kindsOf ho (ga.take i) []++[(x,("gate":Str))]:=by
      unfold kindsOf;rw[Mm,hx];simp
     rw[e];exact A2
    .rw[ke2 j (keep1 j c e).2.2.1];exact ke j c e
  .rintro ρ μ' ⟨x2,rfl,A',ke⟩;rw[L0,N0] at A';exact k2 _ _ ⟨_,rfl,A',ke⟩
 clear A2 ke2 x2 A;rintro ρ μ2 ⟨x2,rfl,A2,ke2⟩;refine stp λN4 k4=>?_
 rw_mod_cast [ke2 la _ W.dl];refine bX (λi ρ μ'=>∃x2 x3 x4 x5 ln,ρ=[some (.tup [.lst (ho.map D.str),.lst (ga.map D.str),.cell la,rowsD,slD,.cell na]),some (.cell k),x2,x3,x4,x5]/\au μ' k ck cl (kindsOf ho ga (ls.take i)) ln/\cU (ls.take i) ln/\∀j c,μ j=some c->μ' j=some c) ⟨_,_,_,_,[],rfl,A2,⟨rfl,λi r e=>by simp at e⟩,ke2⟩ ?_ ?_ ?_
 .rintro i d ρ μ' hd ⟨x2,x3,x4,x5,ln,rfl,A',L',ke⟩ N3 hN;rw[L4] at hd;obtain⟨r,hr,rfl⟩:=LH.mp hd;have hm:=LA hr;have hi:=(L7.mp hr).1;have E:=N.ends r hm;obtain⟨c1,c2⟩:=W.rs r hm;have tk:ls.take (i+1)=ls.take i++[r]:=by rw[Mm,hr];rfl
  have hsub:(ho++ga++((ls.take i).map LR.nm++[r.nm])).Nodup:=by
   have:ho++ga++(ls.take (i+1)).map LR.nm=ho++ga++((ls.take i).map LR.nm++[r.nm]):=by rw[tk,LM];rfl
   rw[<- this];exact((QT _).append ((Nt _ _).map _)).nodup nd
  have hnew:r.nm∉ho++ga++(ls.take i).map LR.nm:=λhh=>by
   rw[<- M7] at hsub;exact(LK.mp hsub).2.2 _ hh _ (by simp) rfl
  have fs:=L'.fst;have nodes:∀y∈ho++ga,y∈(kindsOf ho ga (ls.take i)).map (·.1)/\y∉ln.map (·.1):=λy hy=>by
   rw[gf,fs];refine⟨LL _ hy,λhh=>?_⟩;have:=LK.mp nd;exact this.2.2 y hy y (((Nt i ls).map LR.nm).subset hh) rfl
  unfold bc;rw_mod_cast [FG,ke _ _ c1,ke _ _ c2,A'.o];refine G_ A' (nmx _ (by simp[Md (f:=LR.nm) hm])) (by rw[gf];exact hnew) ?_ ?_ E.s0 E.s6 E.sn E.e0 E.e6 E.en (λy hy=>nodes y (E.ss y hy)) (λy hy=>nodes y (E.es y hy)) E.w0 (by have:=E.w3;omega) ?_ λμ3 S' E' p1 p2 A3 ke3=>?_
  .rw[L'.1,Mo];omega
  .simp[kindsOf];omega
  .rw[fs];exact λhh=>hnew (L8 _ hh)
  .refine hN _ _ ⟨_,_,_,_,ln++[(r.nm,S',E',r.w)],rfl,?_,?_,λj c e=>?_⟩
   .have e:kindsOf ho ga (ls.take (i+1))=kindsOf ho ga (ls.take i)++[(r.nm,("line":Str))]:=by
     unfold kindsOf;rw[tk];simp
    rw[e];exact A3
   .rw[tk];exact L'.snoc p1 p2
   .rw[ke3 j (keep1 j c e).2.2.1 (keep1 j c e).2.2.2];exact ke j c e
 .rintro ρ μ' ⟨x2,x3,x4,x5,ln,rfl,A',L',ke⟩;rw[L0,N0] at A' L';refine k4 _ _ ?_;rw_mod_cast [];exact⟨_,.refl _,q μ' k ck cl ln hk hck' hcl' A' L' ke⟩
 .rintro i ρ μ' ⟨x2,x3,x4,x5,ln,rfl,A',L',ke⟩;exact ke la _ W.dl
structure hJ(way:List Str):Prop where
 len:way.length=3\/way.length=5\/way.length=7
 nms:∀x∈way,Nm x
 nd:way.Nodup
theorem Hd(h:hJ way)(q:Q .non μ):kZ [.tup (way.map D.str)] μ Q:=by
 have l7:way.length<=7:=by rcases h.len with e|e|e<;>omega
 have hm:((way.length:Int))∈([3,5,7]:List Int):=by rcases h.len with e|e|e<;>rw[e]<;>decide
 have e3:aC true (.int (way.length:Int)) (.tup [D.int 3,D.int 5,D.int 7]) μ=aC true (.int (way.length:Int)) (.tup (On D.int [3,5,7])) μ:=rfl;refine⟨rfl,stp λN1 h1=>?_⟩;walk_at "e"
 rw[L0,e3];simp only[ng,mZ,MM,decide_eq_true hm,Qm,Mr,if_false];refine h1 _ _ (stp λN2 h2=>?_);walk_at "e"
 refine⟨by decide,nv way D.str (by omega) (λx hx Q' q'=>?_) (λbs hb=>?_) trivial⟩
 .walk_at "e"
  exact yr (h.nms x hx) q'
 .rw_mod_cast [hb];refine h2 _ _ ?_;walk_at "e"
  refine⟨way,rfl,by omega,?_⟩;rw[rV h.nd,L0];rw_mod_cast [show decide ((way.length:Int) < way.length)=false from decide_eq_false (by omega)];exact⟨_,.refl _,q⟩
structure pf(w1 w2:List Str):Prop where
 l1:3<=w1.length
 l1':w1.length<=7
 l2:3<=w2.length
 fst:w1[0]? = w2[0]?
 lst:w1[w1.length - 1]? = w2[w2.length - 1]?
 dj:∀x∈inner w1,x∉w2
theorem yA(h:3<=w.length):∃a b,w[0]? = some a/\w[w.length - 1]? = some b/\atI (w.map D.str) 0=some (.str a)/\atI (w.map D.str) (-1)=some (.str b):=by
 have h0:0 < w.length:=by omega
 have h1:w.length - 1 < w.length:=by omega
 refine⟨w[0],w[w.length - 1],L3 h0,L3 h1,mX (j:=0) rfl (by rw[L4,L3 h0];rfl),?_⟩;rw[tm,P4,L0,L4,L3 h1];rfl
theorem He{w1 w2:List Str}(h:pf w1 w2)(q:Q .non μ):kN [.tup (w1.map D.str),.tup (w2.map D.str)] μ Q:=by
 have l1:=h.l1;have l1':=h.l1';obtain⟨a,b,e1,e2,e3,e4⟩:=yA h.l1;obtain⟨a',b',f1,f2,f3,f4⟩:=yA h.l2;have ea:a=a':=by have:=h.fst;rw[e1,f1] at this;cases this;rfl
 have eb:b=b':=by have:=h.lst;rw[e2,f2] at this;cases this;rfl
 subst ea eb;refine⟨rfl,stp λN1 h1=>?_⟩;rw_mod_cast [e3,e4,f3,f4];refine h1 _ _ ?_;walk_at "e"
 have ns1:¬ (HT.sIx (w1.map D.str).length 0 (some 1)=0/\HT.sIx (w1.map D.str).length (w1.map D.str).length (some (-1))=(w1.map D.str).length):=by
  rintro⟨z,_⟩;have:=HT.bR (w1.map D.str).length 0 1;rw[L0,Oq (by omega)] at this;rw[L0] at z;have e:HT.sIx w1.length 0 (some 1)=1:=this;omega
 refine⟨by decide,ns1,?_⟩;rw[yn w1 (by omega)];have hil:(inner w1).length<=7:=M6 (rM _) l1';have hz:(1000:Nat)<=sizeLine:=by decide
 refine ez (λi ys μ'=>μ'=μ/\ys=(LF i false).map D.bl) ⟨rfl,rfl⟩ ?_ ?_
 .rintro i d ys μ' hd ⟨rfl,rfl⟩;rw[L4] at hd;cases hx:(inner w1)[i]? with
  |none=>rw[hx] at hd;cases hd
  |some x =>
   rw[hx] at hd;cases hd;have hi:=(L7.mp hx).1;refine⟨by rw[L0,NF];omega,λN hN=>?_⟩;rw_mod_cast [nc,ND,decide_eq_false (h.dj x (LA hx))];refine hN _ _ ⟨rfl,?_⟩;rw[Q4,LM];rfl
 .rintro ys μ' ⟨rfl,rfl⟩;rw_mod_cast [show ∀n,(LF n false).any id=false from λn=>by simp];exact⟨_,.refl _,q⟩
def yB(ways:List (List Str)):Prop:=(∃w1,ways=[w1]/\hJ w1)\/∃w1 w2,ways=[w1,w2]/\hJ w1/\hJ w2/\pf w1 w2
theorem Hf{ways:List (List Str)}(h:yB ways)(q:Q .non μ):k7 [.tup (ways.map aL)] μ Q:=by
 have l12:ways.length=1\/ways.length=2:=by rcases h with⟨w1,rfl,_⟩|⟨w1,w2,rfl,_⟩<;>simp
 have hm:((ways.length:Int))∈([1,2]:List Int):=by rcases l12 with e|e<;>rw[e]<;>decide
 have wok:∀w∈ways,hJ w:=by
  rcases h with⟨w1,rfl,a⟩|⟨w1,w2,rfl,a,b,_⟩
  .intro w hw;rw[Lz.mp hw];exact a
  .intro w hw;rcases LD.mp hw with e|e
   .rw[e];exact a
   .rw[Lz.mp e];exact b
 refine⟨rfl,stp λN1 h1=>?_⟩;walk_at "e"
 refine⟨by decide,?_⟩;have e12:aC true (.int (ways.length:Int)) (.tup [D.int 1,D.int 2]) μ=aC true (.int (ways.length:Int)) (.tup (On D.int [1,2])) μ:=rfl;rw[L0,e12];simp only[ng,mZ,MM,decide_eq_true hm,Qm,Mr,if_false];refine h1 _ _ (stp λN2 h2=>?_);walk_at "e"
 refine bX (λi ρ μ'=>∃x,ρ=[some (.tup (ways.map aL)),x]/\μ'=μ) ⟨_,rfl,rfl⟩ ?_ ?_
 .rintro i d ρ μ' hd ⟨x,rfl,rfl⟩ N hN;rw[L4] at hd;cases hx:ways[i]? with
  |none=>rw[hx] at hd;cases hd
  |some w =>
   rw[hx] at hd;cases hd;unfold aL;walk_at "e"
   exact Hd (wok w (LA hx)) (hN _ _ ⟨_,rfl,rfl⟩)
 rintro ρ μ' ⟨x,rfl,rfl⟩;refine h2 _ _ ?_;rcases h with⟨w1,rfl,a⟩|⟨w1,w2,rfl,a,b,c⟩
 .walk_at "e"
  exact⟨_,.refl _,q⟩
 .rw_mod_cast [aL];exact He c ⟨_,.refl _,q⟩
set_option maxHeartbeats 400000
def ly:List Int:=[4,5,6,8,10,12,15,20,24,30,40,60,120]
structure hU(r:RW):Prop where
 nm:Nm r.nm
 ways:yB r.ways
 ev:r.e∈ly
 l1:1<=r.lo
 l2:r.lo<=30
 r0:0<=r.re
 r1:r.re<=r.e - 1
 t1:1<=r.lst
 t2:r.lst<=480
def dP(r:RW):List D:=[.str r.nm,.tup (r.ways.map aL),.int r.e,.int r.lo,.int r.re,.int r.lst]
def frO(r:RW):D:= .obj "Frame" eG (dP r)
theorem Hg{k:Nat}(h:hU r)(q:Q .non (zO μ k (.ins "Frame" eG (dP r)))):g9 [.cell k,.str r.nm,.tup (r.ways.map aL),.int r.e,.int r.lo,.int r.re,.int r.lst] (zO μ k (.ins "Frame" [] [])) Q:=by
 refine⟨rfl,stp λN1 h1=>?_⟩;walk_at "e"
 refine yt h.nm (h1 _ _ (stp λN2 h2=>?_));walk_at "e"
 refine Hf h.ways (h2 _ _ (stp λN3 h3=>?_));walk_at "e"
 have e1:∀(μ:Mu) (Q:DK),aC true (.int r.e) (.tup [D.int 4,D.int 5,D.int 6,D.int 8,D.int 10,D.int 12,D.int 15,D.int 20,D.int 24,D.int 30,D.int 40,D.int 60,D.int 120]) μ Q=aC true (.int r.e) (.tup (On D.int ly)) μ Q:=λ_ _=>rfl
 rw[e1];simp only[ng,mZ,MM,decide_eq_true h.ev,Qm,Mr,if_false];refine h3 _ _ (stp λN4 h4=>?_);walk_at "e"
 refine jo h.l1 h.l2 (h4 _ _ (stp λN5 h5=>?_));walk_at "e"
 refine jo h.r0 h.r1 (h5 _ _ (stp λN6 h6=>?_));walk_at "e"
 refine jo h.t1 h.t2 (h6 _ _ (stp λN7 h7=>?_));walk_at "e"
 refine h7 _ _ (stp λN8 h8=>?_);rw_mod_cast [cK];refine h8 _ _ (stp λN9 h9=>?_);rw_mod_cast [cK];refine h9 _ _ (stp λN10 h10=>?_);rw_mod_cast [cK];refine h10 _ _ (stp λN11 h11=>?_);rw_mod_cast [cK];refine h11 _ _ ?_;rw_mod_cast [cK];exact⟨_,.refl _,q⟩
theorem Hh{k:Nat}(h:hU r)(hk:μ k=none)(q:Q (frO r) μ):g9 [.cell k,.str r.nm,.tup (r.ways.map aL),.int r.e,.int r.lo,.int r.re,.int r.lst] (zO μ k (.ins "Frame" [] [])) λd μ3=>d= .non/\dY μ3 (.cell k) Q:=by
 refine Hg h ⟨rfl,?_⟩;rw[Es,zF,Ep,rX hk];exact q
theorem fmk{n j:Nat}{pat:List Src}{cs es:List D}(h:hU r)(hs:∀k,sel n j pat .non cs (.cell k::ds) es=[.cell k,.str r.nm,.tup (r.ways.map aL),.int r.e,.int r.lo,.int r.re,.int r.lst])(q:Q (frO r) μ):ni "Frame" g9 n j pat cs ds es μ Q:=λk hk=>by
 rw[hs k];exact Hh h hk q
theorem Hi(h:hU r)(q:Q (frO r) μ):lj [bQ r] μ Q:=by
 refine⟨rfl,?_⟩;unfold bQ;refine Fk (ds:=[.str r.nm,.tup (r.ways.map aL)]) (es:=[.int r.e,.int r.lo,.int r.re,.int r.lst]) ?_ ?_ (fmk h (λk=>rfl) ⟨_,.refl _,q⟩)
 .walk_at "x"
 .walk_at "x"
theorem Hj(h:x∈inner w):∃j,1<=j/\j+1 < w.length/\w[j]? = some x:=by
 unfold inner at h;obtain⟨j,hj⟩:=Mg.mp h;rw[List.getElem?_take] at hj;split at hj
 .rename_i hlt;rw[Ox] at hj;exact⟨1+j,by omega,by omega,hj⟩
 .cases hj
theorem yC(h:w.Nodup){i j:Nat}(h1:w[i]? = some x)(h2:w[j]? = some x):i=j:=by
 obtain⟨a,ea⟩:=L7.mp h1;obtain⟨b,eb⟩:=L7.mp h2;exact(Pg h).mp (ea.trans eb.symm)
theorem ph{c:Nat}{bd:List Str}{k:Nat}(N:aO ho ga ns ls h c)(k1:1<=k)(k3:k<=3)(W:Way ho ga ns ls bd first k (2*k) w):hJ w:=⟨by rw[W.len];omega,λx hx=>N.nms x (W.sub x hx),W.nd⟩
theorem Hk{k1 k2:Nat}{w1 w2:List Str}(a1:1<=k1)(a3:k1<=3)(b1:1<=k2)(b3:k2<=3)(W1:Way ho ga ns ls [] first k1 (2*k1) w1)(e1:w1[2*k1]? = some last)(W2:Way ho ga ns ls (inner w1) first k2 (2*k2) w2)(e2:w2[2*k2]? = some last):pf w1 w2:=by
 have l1:=W1.len;have l2:=W2.len;refine⟨by omega,by omega,by omega,by rw[W1.hd,W2.hd],?_,λx hx hx2=>?_⟩
 .rw[show w1.length - 1=2*k1 from by omega,show w2.length - 1=2*k2 from by omega,e1,e2]
 .obtain⟨i,i1,i2,hi⟩:=Hj hx;obtain⟨j,hj⟩:=Mg.mp hx2;have hlt:j < 2*k2+1:=by have:=(L7.mp hj).1;omega
  by_cases z:j=0
  .subst z;rw[W2.hd] at hj;cases hj;have:=yC W1.nd hi W1.hd;omega
  .by_cases z2:j=2*k2
   .subst z2;rw[e2] at hj;cases hj;have:=yC W1.nd hi e1;omega
   .rcases O8 j with e|e
    .obtain⟨m,rfl⟩:∃m,j=2*m+2:=⟨j / 2 - 1,by omega⟩;exact(W2.gt m x (by omega) hj).2 hx
    .obtain⟨m,rfl⟩:∃m,j=2*m+1:=⟨j / 2,by omega⟩;exact(W2.ln m x hj).2 hx
theorem lz{way:List Str}{lo sl:Int}(h0:1<=lo)(h4:lo<=4)(s0:0<=sl)(s7:sl<=7):∀(ls:List LR) (m:Int),(∀r∈ls,0<=r.w/\r.w<=3)->m<=ls.foldl (λm r=>if r.nm∈way then m+lo+r.w+sl else m) m/\ls.foldl (λm r=>if r.nm∈way then m+lo+r.w+sl else m) m<=m+14*ls.length/\((∃r∈ls,r.nm∈way)->m+1<=ls.foldl (λm r=>if r.nm∈way then m+lo+r.w+sl else m) m)
 | [],m,_=>⟨by simp,by simp,λ⟨r,hr,_⟩=>by cases hr⟩
 |r::t,m,h=>by
  obtain⟨w0,w3⟩:=h r LO;have h':∀r∈t,0<=r.w/\r.w<=3:=λx hx=>h x (LN _ hx)
  rw[Nf,LY];by_cases hm:r.nm∈way
  .rw[if_pos hm];obtain⟨a,b,c⟩:=lz (way:=way) h0 h4 s0 s7 t (m+lo+r.w+sl) h';exact⟨by omega,by omega,λ_=>by omega⟩
  .rw[if_neg hm];obtain⟨a,b,c⟩:=lz (way:=way) h0 h4 s0 s7 t m h';refine⟨a,by omega,λ⟨x,hx,hxw⟩=>?_⟩;rcases LD.mp hx with rfl|hx
   .exact absurd hxw hm
   .exact c ⟨x,hx,hxw⟩
theorem Hl{c:Nat}(N:aO ho ga ns ls h c)(s0:0<=sl)(s7:sl<=7)(R:cw ho ga ns ls sl r):hU r:=by
 have ev:8<=r.e/\r.e<=120/\r.e∈ly:=by
  have:∀e∈jQ,8<=e/\e<=120/\e∈ly:=by decide
  exact this _ R.ev
 have wl:∀q∈ls,0<=q.w/\q.w<=3:=λq hq=>⟨(N.ends q hq).w0,(N.ends q hq).w3⟩
 have l14:=N.len;obtain⟨first,last,w1,k1,hf,hl,hfl,k11,k13,W1,e1,hw⟩:=R.way;have ls1:1<=zV ls w1 r.lo sl:=by
  have le:=W1.len;have i0:2*0 < w1.length:=by omega
  have i1:2*0+1 < w1.length:=by omega
  have i2:2*0+2 < w1.length:=by omega
  obtain⟨q,hq,en,_,_⟩:=W1.jn 0 _ _ _ (L3 i0) (L3 i1) (L3 i2);have:=(lz (way:=w1) R.l1 R.l4 s0 s7 ls 0 wl).2.2 ⟨q,hq,by rw[en];exact NU _⟩;unfold zV;omega
 have lsb:∀w,0<=zV ls w r.lo sl/\zV ls w r.lo sl<=196:=λw=>by
  obtain⟨a,b,_⟩:=lz (way:=w) R.l1 R.l4 s0 s7 ls 0 wl;unfold zV;exact⟨a,by omega⟩
 have nb:1<=c7 ls r.ways r.lo sl/\c7 ls r.ways r.lo sl<=196:=by
  have b1:=lsb w1;rcases hw with e|⟨w2,k2,e,_⟩
  .rw[e];unfold c7;simp only[Nf,RJ];split<;>omega
  .have b2:=lsb w2;rw[e];unfold c7;simp only[Nf,RJ];split<;>split<;>omega
 obtain⟨sp,es,hs⟩:=R.lst;have sb:0<=sp/\sp<=119:=by
  simp only[LD,Mb,or_false] at hs;rcases hs with e|e|e|e|e|e|e<;>omega
 refine⟨N.nms _ R.nmn,?_,ev.2.2,R.l1,by have:=R.l4;omega,R.r0,by have:=R.re;omega,by omega,by omega⟩;rcases hw with e|⟨w2,k2,e,b1,b3,W2,e2⟩
 .exact .inl ⟨w1,e,ph N k11 k13 W1⟩
 .exact .inr ⟨w1,w2,e,ph N k11 k13 W1,ph N b1 b3 W2,Hk k11 k13 b1 b3 W1 e1 W2 e2⟩
theorem yD{f:α->β}:∀{l:List α} {l':List β},MH l' (l.map f)->∃l2,MH l2 l/\l'=l2.map f:=λ{l l'} h=>by
 generalize hm:l.map f=m at h
 induction h generalizing l with
 |nil=>cases l with
  |nil=>exact⟨[],.refl _,rfl⟩
  |cons _ _=>cases hm
 |cons x _ ih =>
  cases l with
  |nil=>cases hm
  |cons a l =>
   cases hm;obtain⟨l2,p,rfl⟩:=ih rfl;exact⟨a::l2,p.cons a,rfl⟩
 |swap x y _ =>
  match l,hm with
  |a::b::l,hm =>
   cases hm;exact⟨b::a::l,.swap _ _ _,rfl⟩
 |trans _ _ ih1 ih2 =>
  obtain⟨l2,p,rfl⟩:=ih2 hm;obtain⟨l3,p3,rfl⟩:=ih1 rfl;exact⟨l3,p3.trans p,rfl⟩
theorem yE{α:Type}{r:α->α->Prop}:∀{l1 l2:List α},MH l1 l2->Ol r l1->Ol r l2->(∀a∈l1,∀b∈l1,r a b->r b a->a=b)->l1=l2
 | [],l2,h,_,_,_=>h.nil_eq
 |a::r1,[],h,_,_,_=>absurd h.length_eq (by simp)
 |a::r1,b::r2,h,h1,h2,anti=>by
  obtain⟨a1,p1⟩:=Qy.mp h1;obtain⟨b1,p2⟩:=Qy.mp h2;have e:a=b:=by
   rcases LD.mp (h.mem_iff.mp LO) with z|z
   .exact z
   .rcases LD.mp (h.mem_iff.mpr (LO (a:=b))) with y|y
    .exact y.symm
    .exact anti a (.head _) b (.tail _ y) (a1 b y) (b1 a z)
  subst e;rw[yE (List.perm_cons a |>.mp h) p1 p2 λx hx y hy=>anti x (.tail _ hx) y (.tail _ hy)]
def db(r:RW):List D:=[.str r.nm,.tup (r.ways.map aL),.int r.e,.int r.lo,.int r.re,.int r.lst]
theorem yF(rows:List RW):rows.map bQ=(rows.map db).map D.tup:=by rw[MK];rfl
structure fh(rows l:List RW):Prop where
 p:MH l rows
 s:l.Pairwise λa b=>sLe a.nm b.nm
theorem Hm(nd:(rows.map RW.nm).Nodup){b:RW}(ha:a∈rows)(hb:b∈rows)(e:a.nm=b.nm):a=b:=by
 obtain⟨i,hi,rfl⟩:=OQ ha;obtain⟨j,hj,rfl⟩:=OQ hb;by_cases h:i=j
 .subst h;rfl
 .exfalso;have hk:(rows.map RW.nm)[i]'(by simpa using hi)=(rows.map RW.nm)[j]'(by simpa using hj):=by rw[OK,OK];exact e
  rcases OX h with z|z
  .exact(MA.mp nd) i j _ _ z hk
  .exact(MA.mp nd) j i _ _ z hk.symm
theorem fh.uniq{l1 l2:List RW}(nd:(rows.map RW.nm).Nodup)(h1:fh rows l1)(h2:fh rows l2):l1=l2 :=
 yE (h1.p.trans h2.p.symm) h1.s h2.s λa ha b hb x y=>Hm nd (h1.p.mem_iff.mp ha) (h1.p.mem_iff.mp hb) (G1 x y)
theorem Hn(nd:(rows.map RW.nm).Nodup):∀i j,i≠j->(bZ ((rows.map db).getD i []) ((rows.map db).getD j [])).isSome:=by
 intro i j hij;have out:∀{n},¬ n < rows.length->(rows.map db).getD n []=[]:=λ{n} h=>by simp[Pj h]
 have inn:∀{n} (h:n < rows.length),(rows.map db).getD n []=db rows[n]:=λ{n} h=>by simp[h]
 by_cases hi:i < rows.length
 .by_cases hj:j < rows.length
  .rw[inn hi,inn hj];unfold db;by_cases e1:rows[i].nm=rows[j].nm
   .exfalso;have hk:(rows.map RW.nm)[i]'(by simpa using hi)=(rows.map RW.nm)[j]'(by simpa using hj):=by rw[OK,OK];exact e1
    rcases OX hij with z|z
    .exact(MA.mp nd) i j _ _ z hk
    .exact(MA.mp nd) j i _ _ z hk.symm
   .simp[bZ,e1]
  .rw[out hj,inn hi];rfl
 .rw[out hi];by_cases hj:j < rows.length
  .rw[inn hj];rfl
  .rw[out hj];rfl
theorem Ho{b:RW}(h:rLe (db a) (db b)):sLe a.nm b.nm:=by
 unfold rLe db at h;unfold bZ at h;by_cases e:b.nm=a.nm
 .rw[e];exact List.le_refl _
 .rw[if_neg e] at h;have h':sLt b.nm a.nm=false:=by
   cases z:sLt b.nm a.nm with
   |false=>rfl
   |true=>exact absurd (by rw[z]) h
  unfold sLt at h';rw[decide_eq_false_iff_not] at h';exact h'
theorem Hq(hl:af μ d=some (rows.map bQ))(nd:(rows.map RW.nm).Nodup)(hz:rows.length < 64)(q:∀l,fh rows l->Q (.lst (l.map bQ)) μ):kD [d] μ Q:=by
 refine Gd (rows:=rows.map db) (.inl (by rw[hl,yF])) (by rw[L0];exact hz) (.inl λr hr=>?_) (Hn nd) λrows' p s=>?_
 .obtain⟨t,_,rfl⟩:=M8.mp hr;exact⟨_,_,rfl⟩
 .obtain⟨l,p',rfl⟩:=yD p;rw[<- yF];refine q l ⟨p',?_⟩;rw[QR] at s;exact s.imp λh=>Ho h
section
variable{k:Nat}{out:Str}{X0:DX}
theorem Hr{v:Str}(N:au μ k ck cl kn ln)(h:aA kn x=some v)(q:Q (.str v) μ):kQ [.cell k,.str x] μ Q:=by
 refine⟨rfl,?_⟩;have hm:x∈kn.map (·.1):=lu.mp (by rw[h];rfl);rw_mod_cast [ki,ur,N.o,iW,N.a,iV,eD,decide_eq_true (gc.mpr hm),pd,h,Nw,MM];exact⟨_,.refl _,q⟩
end
theorem Hs{b:RW}(h:frO a=frO b):a.nm=b.nm:=by
 unfold frO dP at h;simp at h;exact h.1
theorem yG:∀rows:List RW,nW tab "name" (rows.map frO) (rows.map RW.nm)
 | []=> .nil
 |r::rows=> .cons ⟨"Frame",eG,dP r,rfl,o5,by
   show MJ (L6 "name") ((L6 "name",D.str r.nm)::_)=_;rw[M5,beq_self_eq_true]⟩ (yG rows)
theorem yH(hl:rows.length < 64)(h0:μ 0=some kL)(q:∀l,fh rows l->Q (.lst (l.map frO)) μ):ja [.lst (rows.map frO)] μ Q:=by
 refine⟨rfl,?_⟩;show al _ _ _ _;unfold nX;rw_mod_cast [];refine⟨h0,rows.map frO,rows.map RW.nm,rfl,by rw[L0];exact hl,yG rows,λp pn sr=>⟨_,.refl _,?_⟩⟩;have ln:(rows.map frO).length=rows.length:=L0 ..;rw[ln] at pn sr;have pm:MH (p.toList.map λi=>(rows.map frO).getD i .non) (rows.map frO):=by
  have h1:MH (p.toList.map λi=>(rows.map frO).getD i .non) ((Mz rows.length).map λi=>(rows.map frO).getD i .non):=Sm _ pn;have h2:((Mz rows.length).map λi=>(rows.map frO).getD i .non)=rows.map frO:=by
   apply Nv;intro i;rw[L4];by_cases hi:i < rows.length
   .rw[NQ hi,Nw,LI,L3 (by rw[ln];exact hi)];rfl
   .rw[LZ (by rw[OE];omega),LZ (by rw[ln];omega)];rfl
  rw[h2] at h1;exact h1
 obtain⟨l,pl,el⟩:=yD pm;rw[el];refine q l ⟨pl,?_⟩;have psz:p.toList.length=rows.length:=by rw[pn.length_eq,OE]
 have at_:∀i (hi:i < l.length),∃(hj:gN p i < rows.length),l[i].nm=(rows[gN p i]).nm:=λi hi=>by
  have hi2:i < p.toList.length:=by rw[psz,<- pl.length_eq];exact hi
  have eg:gN p i=p.toList[i]:=by
   rw[fe];have:p[i]? = some p.toList[i]:=by rw[<- NG,L3 hi2]
   rw[this];rfl
  have hj:p.toList[i] < rows.length:=MS.mp (pn.mem_iff.mp (NU hi2));have e1:(l.map frO)[i]? = some (frO l[i]):=by rw[L4,L3 hi];rfl
  rw[<- el,L4,L3 hi2,Nw,LI,L4,L3 hj] at e1;refine⟨by rw[eg];exact hj,?_⟩;have:=Hs (Mq e1);rw[<- this];simp only[eg]
 rw[MA];intro i j hi hj hij;obtain⟨a1,a2⟩:=at_ i hi;obtain⟨b1,b2⟩:=at_ j hj;rw[a2,b2];have h:=sr i j hij (by rw[<- pl.length_eq];exact hj);unfold sAt at h;rw[LI,LI,L4,L4,L3 b1,L3 a1] at h;have h':sLt (rows[gN p j]).nm (rows[gN p i]).nm=false:=h;unfold sLt at h';rw[decide_eq_false_iff_not] at h';exact h'
abbrev SP:=RW×Nat×Nat×Str
def spD(p:SP):D:= .tup [bQ p.1,.int p.2.1,.int p.2.2.1,.str p.2.2.2]
def aR{α:Type}:List α->List α
 |_::x::r=>x::aR r
 |_=>[]
def blk(r:RW)(k:Nat)(w:List Str):List SP:=(aR w).zipIdx.map λp=>(r,k,p.2,p.1)
def spR(r:RW):List SP:=(r.ways.zipIdx.map λp=>blk r p.2 p.1).flatten
def bD(l:List RW):List SP:=(l.map spR).flatten
theorem jp{α:Type}:∀(n:Nat) (l:List α),l.length=2*n+1->(aR l).length=n
 |0,[_],_=>rfl
 |0,[],h=>by simp at h
 |0,_::_::_,h=>by simp at h
 |n+1,[],h=>by simp at h
 |n+1,[_],h=>by simp at h
 |n+1,_::x::r,h=>by
  show(x::aR r).length=n+1;rw[LY,jp n r (by simp at h;omega)]
theorem pj{α:Type}{m:Nat}:∀{L:List (List α)},(∀x∈L,x.length<=m)->L.flatten.length<=m*L.length
 | [],_=>by simp
 |x::L,h=>by
  have a:=h x (.head _);have b:=pj (L:=L) λy hy=>h y (.tail _ hy)
  rw[Nj,LG,LY,Nat.mul_succ];omega
theorem pp{k:Nat}(h:∃n,w.length=2*n+1/\1<=n/\n<=3):(blk r k w).length<=3:=by
 obtain⟨n,h1,_,h3⟩:=h;unfold blk;rw[L0,NE,jp n w h1];exact h3
def wys(r:RW)(j:Nat):List SP:=((r.ways.zipIdx.take j).map λp=>blk r p.2 p.1).flatten
theorem Ht{l:List α}{p:α×Nat}(h:p∈l.zipIdx):p.1∈l:=by
 have:=List.mem_zipIdx h;rw[this.2.2];exact NU _
theorem pq{j:Nat}(h2:r.ways.length<=2)(hw:∀w∈r.ways,∃n,w.length=2*n+1/\1<=n/\n<=3):(wys r j).length<=6:=by
 have:=pj (m:=3) (L:=(r.ways.zipIdx.take j).map λp=>blk r p.2 p.1) λx hx=>by
  obtain⟨p,hp,rfl⟩:=M8.mp hx;exact pp (hw _ (Ht (O9 hp)))
 rw[L0,Mo,NE] at this;unfold wys;omega
theorem pv(r:RW):wys r r.ways.length=spR r:=by
 unfold wys spR;rw[MC (by rw[NE];exact Lx _)]
theorem yI{j:Nat}(h:r.ways[j]? = some w):wys r (j+1)=wys r j++blk r j w:=by
 unfold wys;rw[Mm,Q7,h];simp
theorem pw{l:List RW}(hw:∀r∈l,r.ways.length<=2/\∀w∈r.ways,∃n,w.length=2*n+1/\1<=n/\n<=3):(bD l).length<=6*l.length:=by
 have:=pj (m:=6) (L:=l.map spR) λx hx=>by
  obtain⟨r,hr,rfl⟩:=M8.mp hx;rw[<- pv];exact pq (hw r hr).1 (hw r hr).2
 rw[L0] at this;exact this
theorem yJ{l:List RW}{i:Nat}(h:l[i]? = some r):bD (l.take (i+1))=bD (l.take i)++spR r:=by
 unfold bD;rw[Mm,h];simp
theorem yK(h:∃n,w.length=2*n+1/\1<=n/\n<=3):stepT (w.map D.str) (some 1) none 2=(aR w).map D.str:=by
 obtain⟨n,h1,h2,h3⟩:=h;rcases(show n=1\/n=2\/n=3 by omega) with rfl|rfl|rfl
 .match w,h1 with
  | [a,b,c],_ =>
   unfold stepT;rw[show(On D.str [a,b,c]).length=3 from rfl,show LP (some 1) none 2 ((3:Nat):Int)=(1,3) from by decide+kernel];dsimp only;rw[show Mf 1 3 2=1 from by decide+kernel];rfl
 .match w,h1 with
  | [a,b,c,d,e],_ =>
   unfold stepT;rw[show(On D.str [a,b,c,d,e]).length=5 from rfl,show LP (some 1) none 2 ((5:Nat):Int)=(1,5) from by decide+kernel];dsimp only;rw[show Mf 1 5 2=2 from by decide+kernel];rfl
 .match w,h1 with
  | [a,b,c,d,e,f,g],_ =>
   unfold stepT;rw[show(On D.str [a,b,c,d,e,f,g]).length=7 from rfl,show LP (some 1) none 2 ((7:Nat):Int)=(1,7) from by decide+kernel];dsimp only;rw[show Mf 1 7 2=3 from by decide+kernel];rfl
theorem yL{k:Nat}(e:(aR w)[h]? = some x):(blk r k w).take (h+1)=(blk r k w).take h++[(r,k,h,x)]:=by
 unfold blk;rw[Mm,L4,Q7,e];simp
theorem Hu(hl:af μ d=some (rows.map bQ))(hd:∀c k,μ k=none->af (zO μ k c) d=af μ d)(nd:(rows.map RW.nm).Nodup)(hz:rows.length<=60)(hw:∀r∈rows,r.ways.length<=2/\∀w∈r.ways,∃n,w.length=2*n+1/\1<=n/\n<=3)
  (q:∀l,fh rows l->Q (.lst ((bD l).map spD)) μ):kT [d] μ Q:=by
 refine⟨rfl,stp λN1 k1=>?_⟩;rw_mod_cast [];refine⟨by decide,λc hc=>k1 _ _ ?_⟩;refine stp λN2 k2=>?_
 rw_mod_cast [];refine Hq (by rw[hd _ _ hc];exact hl) nd (by omega) λl S=>?_
 rw_mod_cast [];refine bX (λi ρ μ'=>∃x2 x3 x4 x5 x6:Option D,ρ=[some d,some (.cell c),x2,x3,x4,x5,x6]/\μ'=zO μ c (.lst ((bD (l.take i)).map spD))) ⟨none,none,none,none,none,rfl,rfl⟩ ?_ ?_
 .rintro i e ρ μ' he ⟨x2,x3,x4,x5,x6,rfl,rfl⟩ N hN;rw[L4] at he;obtain⟨r,hr,rfl⟩:=LH.mp he;unfold bQ;rw_mod_cast [gb,nF,nC];have hm:r∈rows:=S.p.mem_iff.mp (LA hr);have il:i < l.length:=(L7.mp hr).1;have ll:l.length=rows.length:=S.p.length_eq;have bi:(bD (l.take i)).length<=6*i:=by
   have:=pw (l:=l.take i) λr hr=>hw r (S.p.mem_iff.mp (O9 hr))
   rw[Mo] at this;omega
  refine bX (λj ρ μ'=>∃x3 x4 x5 x6:Option D,ρ=[some d,some (.cell c),some (.tup [.str r.nm,.tup (r.ways.map aL),.int r.e,.int r.lo,.int r.re,.int r.lst]),x3,x4,x5,x6]/\μ'=zO μ c (.lst ((bD (l.take i)++wys r j).map spD))) ⟨x3,x4,x5,x6,rfl,by unfold wys;simp⟩ ?_ ?_
  .rintro j e ρ μ' he ⟨x3,x4,x5,x6,rfl,rfl⟩ N3 hN3;obtain⟨e2,he2,rfl⟩:=j5 he;rw[L4] at he2;obtain⟨w,hwj,rfl⟩:=LH.mp he2;unfold aL iZ;rw_mod_cast [gb,nF,dSt];have hww:=(hw r hm).2 w (LA hwj);have bw:(wys r j).length<=6:=pq (hw r hm).1 (hw r hm).2;have bb:=pp (r:=r) (k:=j) hww;have bo:(aR w).length<=3:=by
    have:(blk r j w).length=(aR w).length:=by unfold blk;rw[L0,NE]
    omega
   have hz1:(1001:Nat)<=sizeLine:=by decide
   rw[yK hww];refine⟨⟨by decide,by decide,by rw[L0];omega⟩,?_⟩;rw[nC];refine bX (λh ρ μ'=>∃x5 x6:Option D,ρ=[some d,some (.cell c),some (.tup [.str r.nm,.tup (r.ways.map aL),.int r.e,.int r.lo,.int r.re,.int r.lst]),some (.int j),some (.tup (w.map D.str)),x5,x6]/\μ'=zO μ c (.lst ((bD (l.take i)++wys r j++(blk r j w).take h).map spD))) ⟨x5,x6,rfl,by simp⟩ ?_ ?_
   .rintro h e ρ μ' he3 ⟨x5,x6,rfl,rfl⟩ N4 hN4;obtain⟨e3,he4,rfl⟩:=j5 he3;rw[L4] at he4;obtain⟨x,hx,rfl⟩:=LH.mp he4;have b4:(Sv h (blk r j w)).length<=3:=by rw[Mo];omega
    rw_mod_cast [cK];refine⟨by omega,by simp only[L0,LG];omega,hN4 _ _ ⟨_,_,rfl,?_⟩⟩;rw[yL hx,<- M7,LM (l₂:=[_])];rfl
   .rintro ρ μ' ⟨x5,x6,rfl,rfl⟩;refine hN3 _ _ ⟨_,_,_,_,rfl,?_⟩;have eb:(eh ((aR w).map D.str)).length=(blk r j w).length:=by
     rw[j6,L0];unfold blk;rw[L0,NE]
    rw[eb,MC (Lx _),yI hwj,M7]
  .rintro ρ μ' ⟨x3,x4,x5,x6,rfl,rfl⟩;rw[j6,L0,pv];refine hN _ _ ⟨_,_,_,_,_,rfl,?_⟩;rw[yJ hr]
 .rintro ρ μ' ⟨x2,x3,x4,x5,x6,rfl,rfl⟩;rw[L0,MC (Lx _)];refine k2 _ _ ?_;rw_mod_cast [rX hc];exact⟨_,.refl _,q l S⟩
theorem lA:∀(i:Nat) (w:List Str),(aR w)[i]? = w[2*i+1]?
 |_,[]=>by simp[aR]
 |_,[_]=>by simp[aR]
 |0,_::x::r=>rfl
 |i+1,_::x::r=>by
  show(aR r)[i]? = _;rw[lA i r,show 2*(i+1)+1=(2*i+1)+1+1 from by omega,OB,OB]
theorem hV{we:DE}(xs:List α)(f f':α->D)(hl:xs.length<=1000)(step:∀x∈xs,∀Q:DK,Q (f' x) μ->g (f x) ρb μ λρ2 μ2=>we ρ2 μ2 Q)(fin:Fin (xs.map f') μ)(hP:Pm μ:=by exact trivial):bO g aD we ρb Pm Fin (xs.map f) [] μ:=by
 have hz:(1001:Nat)<=sizeLine:=by decide
 refine ez (λi ys μ'=>μ'=μ/\ys=(xs.take i).map f') ⟨rfl,rfl⟩ ?_ ?_ (λi ys μ' h=>h.1▸hP)
 .rintro i d ys μ' hd ⟨rfl,rfl⟩;rw[L4] at hd;obtain⟨x,hx,rfl⟩:=LH.mp hd;have hi:=(L7.mp hx).1;refine⟨by rw[L0,Mo];omega,λN hN=>step x (LA hx) _ (hN _ _ ⟨rfl,?_⟩)⟩;rw[Mm,hx,LM];rfl
 .rintro ys μ' ⟨rfl,rfl⟩;rw[L0,MC (Lx _)];exact fin
abbrev fi(w:List Str):Prop:=∃n,w.length=2*n+1/\1<=n/\n<=3
theorem fi.o(h:fi w):(aR w).length<=3:=by
 obtain⟨n,h1,_,h3⟩:=h;rw[jp n w h1];exact h3
theorem yM(h:fi w)(q:Q (.tup ((aR w).map D.str)) μ):jb [.tup (w.map D.str)] μ Q:=by
 have hz:(1000:Nat)<=sizeLine:=by decide
 have:=h.o;refine⟨rfl,?_⟩;show al _ _ _ _;unfold iZ dSt;rw_mod_cast [];rw[yK h];exact⟨⟨by decide,by decide,by rw[L0];omega⟩,_,.refl _,q⟩
section
variable{k:Nat}
theorem Hv(N:au μ k ck cl kn ln)(hz:kn.length < 64)(q:∀ns',Srt (kn.map (·.1)) ns'->Q (.lst (ns'.map D.str)) μ):kP [.cell k] μ Q:=by
 refine⟨rfl,?_⟩;rw_mod_cast [N.o];refine Fy (ns:=kn.map (·.1)) (vs:=vsS D.str kn) (by rw[N.a,Ha]) (by rw[L0];exact hz) λns' p1 p2=>?_
 exact⟨_,.refl _,q ns' ⟨p1,p2⟩⟩
end
theorem yN(R:cw ho ga ns ls sl r):r.ways≠[]/\r.ways.length<=2/\∀w∈r.ways,(∃k,w.length=2*k+1/\1<=k/\k<=3)/\∀x∈aR w,x∈ls.map LR.nm:=by
 have one:∀{bd first k w},Way ho ga ns ls bd first k (2*k) w->1<=k->k<=3->(∃k,w.length=2*k+1/\1<=k/\k<=3)/\∀x∈aR w,x∈ls.map LR.nm:=λ{bd first k w} W a b=>by
  refine⟨⟨k,W.len,a,b⟩,λx hx=>?_⟩;obtain⟨i,hi⟩:=Mg.mp hx;have hlt:=(L7.mp hi).1;rw[jp k w W.len] at hlt;rw[lA] at hi;have wl:=W.len;have j0:2*i < w.length:=by omega
  have j2:2*i+2 < w.length:=by omega
  obtain⟨q,hq,en,_⟩:=W.jn i _ x _ (L3 j0) hi (L3 j2);rw[<- en];exact Md hq
 obtain⟨first,last,w1,k1,hf,hl,hfl,k11,k13,W1,e1,hw⟩:=R.way;rcases hw with e|⟨w2,k2,e,b1,b3,W2,e2⟩
 .rw[e];refine⟨by simp,by simp,λw hw=>?_⟩;rw[Lz.mp hw];exact one W1 k11 k13
 .rw[e];refine⟨by simp,by simp,λw hw=>?_⟩;rcases LD.mp hw with rfl|hw
  .exact one W1 k11 k13
  .rw[Lz.mp hw];exact one W2 b1 b3
theorem Hw(hl:rows.length<=60)(F:∀r∈rows,hU r)(q:Q (.lst (rows.map frO)) μ):lq [.lst (rows.map bQ)] μ Q:=by
 refine⟨rfl,?_⟩;rw_mod_cast [];refine⟨by decide,hV rows bQ frO (by omega) (λr hr Q1 q1=>?_) ⟨_,.refl _,q⟩⟩;rw_mod_cast [];exact Hi (F r hr) q1
section
variable{k:Nat}{X0:DX}
end
section
theorem Lw(nd:(ho++ga++ls.map LR.nm).Nodup):aA (kindsOf ho ga ls) x=some (L6 "line")↔x∈ls.map LR.nm:=by
 constructor
 .intro h;have:=yu h;unfold kindsOf at this;simp only[LX,M8,Pc] at this;rcases this with(⟨a,_,rfl,e⟩|⟨a,_,rfl,e⟩)|⟨r,hr,rfl,_⟩
  .exact absurd e (by decide+kernel)
  .exact absurd e (by decide+kernel)
  .exact Md hr
 .intro h;obtain⟨r,hr,rfl⟩:=M8.mp h;refine g_ (by rw[gf];exact nd) ?_;unfold kindsOf;simp only[LX,M8,Pc];exact .inr ⟨r,hr,rfl,trivial⟩
end
section
variable{i:Int}
end
theorem px{ws:List Str}{j:Nat}{i:Int}(hi:i=j)(h:ws[j]? = some x):atI (ws.map D.str) i=some (.str x):=mX hi (by rw[L4,h];rfl)
structure Lies(ho ga:List Str)(ls:List LR)(way:List Str)(k:Nat):Prop where
 fst:∀x,way[0]? = some x->x∈ho
 lst:∀x,way[2*k]? = some x->x∈ho
 gt:∀i x,i+1 < k->way[2*(i+1)]? = some x->x∈ga
 jn:∀i a l b,i < k->way[2*i]? = some a->way[2*i+1]? = some l->way[2*i+2]? = some b->Joins ls a l b
theorem kd_in(nd:(ho++ga++ls.map LR.nm).Nodup):(x∈ho->aA (kindsOf ho ga ls) x=some "house")/\(x∈ga->aA (kindsOf ho ga ls) x=some "gate")/\(x∈ls.map LR.nm->aA (kindsOf ho ga ls) x=some "line"):=by
 have hn:((kindsOf ho ga ls).map (·.1)).Nodup:=by rw[gf];exact nd
 refine⟨λh=>g_ hn ?_,λh=>g_ hn ?_,λh=>g_ hn ?_⟩<;>unfold kindsOf
 .exact LL _ (LL _ (Md (f:=λx=>(x,("house":Str))) h))
 .exact LL _ (L8 _ (Md (f:=λx=>(x,("gate":Str))) h))
 .obtain⟨r,hr,rfl⟩:=M8.mp h;exact L8 _ (Md (f:=λr:LR=>(r.nm,("line":Str))) hr)
theorem lB{v:Str}(h:aA (kindsOf ho ga ls) x=some v):(v="house"/\x∈ho)\/(v="gate"/\x∈ga)\/(v="line"/\x∈ls.map LR.nm):=by
 have:=yu h;unfold kindsOf at this;rcases LX.mp this with h1|h1
 .rcases LX.mp h1 with h2|h2
  .obtain⟨y,hy,e⟩:=M8.mp h2;cases e;exact .inl ⟨rfl,hy⟩
  .obtain⟨y,hy,e⟩:=M8.mp h2;cases e;exact .inr (.inl ⟨rfl,hy⟩)
 .obtain⟨r,hr,e⟩:=M8.mp h1;cases e;exact .inr (.inr ⟨rfl,Md hr⟩)
def kd(ho ga:List Str)(ls:List LR)(x:Str):Str:=(aA (kindsOf ho ga ls) x).getD (L6 "")
theorem Hx:(L6 "house":Str)≠"gate"/\(L6 "house":Str)≠"line"/\(L6 "gate":Str)≠"line"/\(L6 "":Str)≠"house"/\(L6 "":Str)≠"gate"/\(L6 "":Str)≠"line":=by decide+kernel
theorem Hy(nd:(ho++ga++ls.map LR.nm).Nodup):(kd ho ga ls x="house"↔x∈ho)/\(kd ho ga ls x="gate"↔x∈ga)/\(kd ho ga ls x="line"↔x∈ls.map LR.nm):=by
 obtain⟨i1,i2,i3⟩:=kd_in nd (x:=x);obtain⟨n1,n2,n3,n4,n5,n6⟩:=Hx;unfold kd;refine⟨⟨λh=>?_,λh=>by rw[i1 h];rfl⟩,⟨λh=>?_,λh=>by rw[i2 h];rfl⟩,⟨λh=>?_,λh=>by rw[i3 h];rfl⟩⟩
 .cases e:aA (kindsOf ho ga ls) x with
  |none=>rw[e] at h;exact absurd h n4
  |some v =>
   rw[e] at h;rcases lB e with⟨e1,h1⟩|⟨e1,h1⟩|⟨e1,h1⟩
   .exact h1
   .exact absurd (h.symm.trans e1) n1
   .exact absurd (h.symm.trans e1) n2
 .cases e:aA (kindsOf ho ga ls) x with
  |none=>rw[e] at h;exact absurd h n5
  |some v =>
   rw[e] at h;rcases lB e with⟨e1,h1⟩|⟨e1,h1⟩|⟨e1,h1⟩
   .exact absurd (e1.symm.trans h) n1
   .exact h1
   .exact absurd (h.symm.trans e1) n3
 .cases e:aA (kindsOf ho ga ls) x with
  |none=>rw[e] at h;exact absurd h n6
  |some v =>
   rw[e] at h;rcases lB e with⟨e1,h1⟩|⟨e1,h1⟩|⟨e1,h1⟩
   .exact absurd (e1.symm.trans h) n2
   .exact absurd (e1.symm.trans h) n3
   .exact h1
theorem Hz{k:Nat}{i:Nat}{at_:Int}{a l b:Str}(A:au μ k ck cl kn ln)(L:cU ls ln)(nd:(ls.map LR.nm).Nodup)(hat:at_=((2*i+1:Nat):Int))(ea:way[2*i]? = some a)(el:way[2*i+1]? = some l)(eb:way[2*i+2]? = some b)(hl:l∈ls.map LR.nm)
  (q:∀c:Bool,(c=true↔Joins ls a l b)->Q (.bl c) μ):kW [.cell k,.tup (way.map D.str),.int at_] μ Q:=by
 obtain⟨r,hr,en⟩:=M8.mp hl;obtain⟨j,hj⟩:=Mg.mp hr;obtain⟨S',E',e1,s1,s2⟩:=L.2 j r hj;have hs:aA ln l=some (S',E',r.w):=g_ (by rw[L.fst];exact nd) (by rw[<- en];exact LA e1);have hjn:Joins ls a l b↔a∈S'/\b∈E':=by
  constructor
  .rintro⟨r',hr',en',h1,h2⟩;have:r'=r:=by
    obtain⟨j',hj'⟩:=Mg.mp hr';have f1:(ls.map LR.nm)[j]? = some l:=by rw[L4,hj,<- en];rfl
    have f2:(ls.map LR.nm)[j']? = some l:=by rw[L4,hj',<- en'];rfl
    have:j=j':=by
     obtain⟨p1,q1⟩:=L7.mp f1;obtain⟨p2,q2⟩:=L7.mp f2;exact(Pg nd).mp (q1.trans q2.symm)
    subst this;rw[hj] at hj';cases hj';rfl
   subst this;exact⟨s1.1.mem_iff.mpr h1,s2.1.mem_iff.mpr h2⟩
  .rintro⟨h1,h2⟩;exact⟨r,hr,en,s1.1.mem_iff.mp h1,s2.1.mem_iff.mp h2⟩
 subst hat;refine⟨rfl,stp λN1 h1=>?_⟩;rw_mod_cast [A.o,px rfl el];refine yz A hs ?_;unfold enD;rw_mod_cast [];refine h1 _ _ ?_;rw_mod_cast [px (j:=2*i) (show(((2*i+1:Nat):Int)) - 1=((2*i:Nat):Int) by omega) ea,px (j:=2*i+2) (show(((2*i+1:Nat):Int))+1=((2*i+2:Nat):Int) by omega) eb,nc,ND];by_cases c1:a∈S'
 .rw_mod_cast [decide_eq_true c1];refine⟨_,.refl _,q _ ?_⟩;rw[hjn,decide_eq_true_iff];exact⟨λz=>⟨c1,z⟩,λz=>z.2⟩
 .rw_mod_cast [decide_eq_false c1];refine⟨_,.refl _,q _ ?_⟩;rw[hjn];exact⟨λz=>(by cases z),λz=>absurd z.1 c1⟩
theorem HA{c:Nat}{wk wv:DE}{Fin:Mu->Prop}(I:Nat->Mu->Prop)(h0:I 0 μ)
  (step:∀i d μ,ds[i]? = some d->I i μ->∀N:Mu->Prop,(∀ μ',I (i+1) μ'->N μ')->g d ρb μ λρ2 μ2=>wk ρ2 μ2 λk μ4=>wv ρ2 μ4 λv μ5=>eB (μ5 c) λks vs=>ai (da k) λkk=>ks.length<=1000/\N (zO μ5 c (.dct (dH ks kk) (eA ks vs kk v))))
  (fin:∀ μ,I ds.length μ->Fin μ)(hP:∀i μ,I i μ->Pm μ):f_ c g aD wk wv ρb Pm Fin ds μ:=by
 have key:∀(n i:Nat) μ,i+n=ds.length->I i μ->f_ c g aD wk wv ρb Pm Fin (ds.drop i) μ:=by
  intro n;induction n with
  |zero =>
   intro i μ hi h;rw[ML (by omega)];exact⟨hP i μ h,fin μ (by rw[<- hi];exact h)⟩
  |succ n ih =>
   intro i μ hi h;have hlt:i < ds.length:=by omega
   rw[Mt hlt];exact⟨hP i μ h,step i _ μ (L3 hlt) h _ λμ' h'=>ih (i+1) μ' (by omega) h'⟩
 exact key ds.length 0 μ (by omega) h0
def gg(k:Nat):List Str:=[L6 "house"]++(LF (k - 1) [L6 "line",L6 "gate"]).flatten++[L6 "line",L6 "house"]
theorem HB{f:Str->Str}{k:Nat}(hl:way.length=2*k+1)(k1:1<=k)(k3:k<=3):way.map f=gg k↔(∀x,way[0]? = some x->f x="house")/\(∀x,way[2*k]? = some x->f x="house")/\(∀i x,i+1 < k->way[2*(i+1)]? = some x->f x="gate")/\(∀i x,i < k->way[2*i+1]? = some x->f x="line"):=by
 rcases(show k=1\/k=2\/k=3 by omega) with rfl|rfl|rfl
 .match way,hl with
  | [a,b,c],_ =>
   show([f a,f b,f c]=[L6 "house",L6 "line",L6 "house"])↔_;constructor
   .intro h;simp only[Op,and_true] at h;obtain⟨h1,h2,h3⟩:=h;refine⟨λx e=>by cases e;exact h1,λx e=>by cases e;exact h3,λi x hi=>by omega,λi x hi e=>?_⟩;obtain rfl:i=0:=by omega
    cases e;exact h2
   .rintro⟨h1,h2,h3,h4⟩;rw[h1 a rfl,h2 c rfl,h4 0 b (by omega) rfl]
 .match way,hl with
  | [a,b,c,d,e],_ =>
   show([f a,f b,f c,f d,f e]=[L6 "house",L6 "line",L6 "gate",L6 "line",L6 "house"])↔_;constructor
   .intro h;simp only[Op,and_true] at h;obtain⟨h1,h2,h3,h4,h5⟩:=h;refine⟨λx e=>by cases e;exact h1,λx e=>by cases e;exact h5,λi x hi e=>?_,λi x hi e=>?_⟩
    .obtain rfl:i=0:=by omega
     cases e;exact h3
    .rcases(show i=0\/i=1 by omega) with rfl|rfl
     .cases e;exact h2
     .cases e;exact h4
   .rintro⟨h1,h2,h3,h4⟩;rw[h1 a rfl,h2 e rfl,h3 0 c (by omega) rfl,h4 0 b (by omega) rfl,h4 1 d (by omega) rfl]
 .match way,hl with
  | [a,b,c,d,e,g,h],_ =>
   show([f a,f b,f c,f d,f e,f g,f h]=[L6 "house",L6 "line",L6 "gate",L6 "line",L6 "gate",L6 "line",L6 "house"])↔_;constructor
   .intro h;simp only[Op,and_true] at h;obtain⟨h1,h2,h3,h4,h5,h6,h7⟩:=h;refine⟨λx e=>by cases e;exact h1,λx e=>by cases e;exact h7,λi x hi e=>?_,λi x hi e=>?_⟩
    .rcases(show i=0\/i=1 by omega) with rfl|rfl
     .cases e;exact h3
     .cases e;exact h5
    .rcases(show i=0\/i=1\/i=2 by omega) with rfl|rfl|rfl
     .cases e;exact h2
     .cases e;exact h4
     .cases e;exact h6
   .rintro⟨h1,h2,h3,h4⟩;rw[h1 a rfl,h2 h rfl,h3 0 c (by omega) rfl,h3 1 e (by omega) rfl,h4 0 b (by omega) rfl,h4 1 d (by omega) rfl,h4 2 g (by omega) rfl]
theorem yO{f:Str->Str}:∀{ns:List Str} {x:Str},aA (ns.map λy=>(y,f y)) x=if x∈ns then some (f x) else none
 | [],x=>by simp[aA]
 |y::r,x=>by
  rw[LQ,aA];by_cases h:y=x
  .subst h;simp
  .rw[if_neg h,yO];by_cases h2:x∈r
   .rw[if_pos h2,if_pos (LN _ h2)]
   .rw[if_neg h2,if_neg (λz=>(LD.mp z).elim (λe=>h e.symm) h2)]
theorem HC{we:DE}(xs:List α)(f f':α->D)(hl:xs.length<=1000)(step:∀x∈xs,∀Q:DK,Q (f' x) μ->g (f x) ρb μ λρ2 μ2=>we ρ2 μ2 Q)(fin:Fin (xs.map f') μ)(hP:Pm μ):bO g aD we ρb Pm Fin (xs.map f) [] μ:=by
 have hz:(1000:Nat)<=sizeLine:=by decide
 refine ez (λi ys μ'=>μ'=μ/\ys=(xs.take i).map f') ⟨rfl,rfl⟩ ?_ ?_ (λi ys μ' h=>h.1▸hP)
 .rintro i d ys μ' hd ⟨rfl,rfl⟩;rw[L4] at hd;cases hx:xs[i]? with
  |none=>rw[hx] at hd;cases hd
  |some x =>
   rw[hx] at hd;cases hd;have hi:=(L7.mp hx).1;refine⟨by rw[L0,Mo];omega,λN hN=>step x (LA hx) (λv μ4=>N _ μ4) (hN _ _ ⟨rfl,?_⟩)⟩;rw[Mm,hx];simp
 .rintro ys μ' ⟨rfl,rfl⟩;rw[L0,N0];exact fin
theorem HD:PyData.strOk (kd ho ga ls x)=true:=by
 unfold kd;cases e:aA (kindsOf ho ga ls) x with
 |none=>decide+kernel
 |some v =>
  rcases lB e with⟨rfl,_⟩|⟨rfl,_⟩|⟨rfl,_⟩
  .decide+kernel
  .decide+kernel
  .decide+kernel
theorem HE{k:Nat}{n:Nat}(A:au μ k ck cl (kindsOf ho ga ls) ln)(L:cU ls ln)(nd:(ho++ga++ls.map LR.nm).Nodup)(hz2:(kindsOf ho ga ls).length < 64)(hl:way.length=2*n+1)(k1:1<=n)(k3:n<=3)
  (q:∀(b:Bool) μ',(∀j c,μ j=some c->μ' j=some c)->(b=true↔Lies ho ga ls way n)->Q (.bl b) μ'):k6 [.cell k,.tup (way.map D.str)] μ Q:=by
 have hz:(1000:Nat)<=sizeLine:=by decide
 refine⟨rfl,stp λN1 h1=>?_⟩;unfold nz;rw_mod_cast [A.o];refine⟨by decide,Hv A hz2 λns' S=>?_⟩;rw_mod_cast [];intro c hc;have ck':c≠k:=λz=>by rw[z,A.o] at hc;cases hc
 have cck:c≠ck:=λz=>by rw[z,A.a] at hc;cases hc
 have ccl:c≠cl:=λz=>by rw[z,A.b] at hc;cases hc
 have A':∀ct,au (zO μ c ct) k ck cl (kindsOf ho ga ls) ln:=λct=>⟨by rw[zj ck'.symm];exact A.o,by rw[zj cck.symm];exact A.a,by rw[zj ccl.symm];exact A.b,A.ne,A.nd⟩
 have nsn:ns'.Nodup:=(S.1.nodup_iff).mpr (by rw[gf];exact nd);have nsl:ns'.length < 64:=by rw[S.1.length_eq,L0];exact hz2
 refine HA (λi μ'=>μ'=zO μ c (.dct (ksS ((ns'.take i).map λy=>(y,kd ho ga ls y))) (vsS D.str ((ns'.take i).map λy=>(y,kd ho ga ls y))))) rfl ?_ ?_ ?_
 .rintro i d μ' hd rfl N hN;rw[L4] at hd;obtain⟨y,hy,rfl⟩:=LH.mp hd;have hi:=(L7.mp hy).1;rw_mod_cast [(A' _).o];have hm:y∈(kindsOf ho ga ls).map (·.1):=S.1.mem_iff.mp (LA hy);obtain⟨v,hv⟩:=Oi.mp (lu.mpr hm);refine Hr (A' _) hv ?_;have ev:v=kd ho ga ls y:=by unfold kd;rw[hv];rfl
  rw_mod_cast [fY,eD,cK];have hnew:y∉((ns'.take i).map λy=>(y,kd ho ga ls y)).map (·.1):=by
   rw[MK];intro hm2;have e0:(ns'.take i).map ((λp:Str×Str=>p.1)∘λy=>(y,kd ho ga ls y))=ns'.take i:=by
    rw[show((λp:Str×Str=>p.1)∘λy=>(y,kd ho ga ls y))=id from rfl,Rn]
   rw[e0] at hm2;have hd2:(ns'.take i++[y]).Nodup:=by
    have:ns'.take (i+1)=ns'.take i++[y]:=by rw[Mm,hy];rfl
    rw[<- this];exact(Nt _ _).nodup nsn
   exact(LK.mp hd2).2.2 y hm2 y (by simp) rfl
  rw[ev,lv (f:=D.str) hnew];refine⟨by rw[hG,L0,Mo];omega,hN _ ?_⟩;rw[Mm,hy];simp
 .rintro μ' rfl;rw[L0,N0];refine h1 _ _ (stp λN2 h2=>?_);have hc2:zO μ c (.dct (ksS (ns'.map λy=>(y,kd ho ga ls y))) (vsS D.str (ns'.map λy=>(y,kd ho ga ls y)))) c=some (.dct (ksS (ns'.map λy=>(y,kd ho ga ls y))) (vsS D.str (ns'.map λy=>(y,kd ho ga ls y)))):=zF;have A2:=A' (.dct (ksS (ns'.map λy=>(y,kd ho ga ls y))) (vsS D.str (ns'.map λy=>(y,kd ho ga ls y))));have keep:∀j ct,μ j=some ct->zO μ c (.dct (ksS (ns'.map λy=>(y,kd ho ga ls y))) (vsS D.str (ns'.map λy=>(y,kd ho ga ls y)))) j=some ct:=λj ct e=>by
   rw[zj (λz=>by rw[z,hc] at e;cases e)];exact e
  generalize zO μ c (.dct (ksS (ns'.map λy=>(y,kd ho ga ls y))) (vsS D.str (ns'.map λy=>(y,kd ho ga ls y))))=μ2 at hc2 A2 keep ⊢
  have look:∀x,(aA (ns'.map λy=>(y,kd ho ga ls y)) x).getD (L6 "")=kd ho ga ls x:=λx=>by
   rw[yO];by_cases hx:x∈ns'
   .rw[if_pos hx];rfl
   .rw[if_neg hx];unfold kd;cases e:aA (kindsOf ho ga ls) x with
    |none=>rfl
    |some v=>exact absurd (S.1.mem_iff.mpr (lu.mp (by rw[e];rfl))) hx
  have qf:¬ Lies ho ga ls way n->∃ μ'',MLe μ'' μ2/\Q (.bl false) μ'':=λh=>⟨_,.refl _,q false _ keep ⟨λz=>(by cases z),λz=>absurd z h⟩⟩
  have hn:(((2*n+1:Nat):Int) - 3) / 2=((n - 1:Nat):Int):=by omega
  rw_mod_cast [L0,hl,hn,O7];refine⟨by decide,⟨by decide,by decide⟩,by omega,by omega,by omega,h2 _ _ (stp λN3 h3=>?_)⟩;have fl:(LF (n - 1) [D.str (L6 "line"),D.str (L6 "gate")]).flatten=(LF (n - 1) [L6 "line",L6 "gate"]).flatten.map D.str:=by
   rw[List.map_flatten,List.map_replicate];rfl
  have fll:(LF (n - 1) [L6 "line",L6 "gate"]).flatten.length<=4:=by
   rcases(show n=1\/n=2\/n=3 by omega) with rfl|rfl|rfl
   .exact Ms _
   .exact PV rfl
   .exact PV rfl
  rw[fl];rw_mod_cast [L0];refine⟨by decide,by omega,by decide,by first|omega | (simp only[LG,L0,LY,ON];omega),h3 _ _ (stp λN4 h4=>?_)⟩;have ew:D.lst (D.str (L6 "house")::((LF (n - 1) [L6 "line",L6 "gate"]).flatten.map D.str++[D.str (L6 "line"),D.str (L6 "house")]))= .lst ((gg n).map D.str):=by
   unfold gg;simp only[LM,LQ,OR,List.cons_append,OM,M7]
  rw[ew];rw_mod_cast [];refine⟨by decide,HC way D.str (λx=> .str (kd ho ga ls x)) (by omega) (λx hx Q' q'=>?_) ?_ trivial⟩
  .unfold nA;have eg:(Option.map D.str (aA (ns'.map λy=>(y,kd ho ga ls y)) x)).getD (.str (L6 ""))= .str (kd ho ga ls x):=by
    rw[<- look x];cases aA (ns'.map λy=>(y,kd ho ga ls y)) x<;>rfl
   rw_mod_cast [iW,hc2,iV,eD,pd,eg];exact q'
  have s1:SI 1 (.lst (way.map λx=>D.str (kd ho ga ls x))):=λd hd=>by
   obtain⟨x,_,rfl⟩:=M8.mp hd;exact HD
  have s2:SI 1 (.lst ((gg n).map D.str)):=λd hd=>by
   obtain⟨x,hx,rfl⟩:=M8.mp hd;show PyData.strOk x=true;have:∀x∈gg n,x=L6 "house"\/x=L6 "line"\/x=L6 "gate":=by
    intro x hx;unfold gg at hx;simp only[LX,Pn,List.mem_replicate,LD,Mb,or_false] at hx;rcases hx with(rfl|⟨l,⟨_,rfl⟩,hx⟩)|rfl|rfl
    .exact .inl rfl
    .simp only[LD,Mb,or_false] at hx;rcases hx with rfl|rfl
     .exact .inr (.inl rfl)
     .exact .inr (.inr rfl)
    .exact .inr (.inl rfl)
    .exact .inl rfl
   rcases this x hx with rfl|rfl|rfl
   .decide+kernel
   .decide+kernel
   .decide+kernel
  refine ub s1 s2 (by decide) λb hb=>?_
  have hb2:b=true↔way.map (kd ho ga ls)=gg n:=by
   rw[hb];constructor
   .intro e;have e2:=D.lst.inj e;rw[show(way.map λx=>D.str (kd ho ga ls x))=(way.map (kd ho ga ls)).map D.str from by rw[MK];rfl] at e2;exact(List.map_inj_right (λp q z=>D.str.inj z)).mp e2
   .intro e;rw[<- e,MK];rfl
  rw[HB hl k1 k3] at hb2;have kf:=λx=>Hy nd (x:=x)
  cases b with
  |false =>
   rw_mod_cast [];refine qf λY=>?_
   have:=hb2.mpr ⟨λx e=>(kf x).1.mpr (Y.fst x e),λx e=>(kf x).1.mpr (Y.lst x e),λi x hi e=>(kf x).2.1.mpr (Y.gt i x hi e),λi x hi e=>?_⟩
   .cases this
   .have j1:2*i < way.length:=by omega
    have j2:2*i+2 < way.length:=by omega
    obtain⟨r,hr,en,_⟩:=Y.jn i _ x _ hi (L3 j1) e (L3 j2);exact(kf x).2.2.mpr (by rw[<- en];exact Md hr)
  |true =>
   obtain⟨y1,y2,y3,y4⟩:=hb2.mp rfl;rw_mod_cast [];refine h4 _ _ ?_;rw_mod_cast [L0,hl,FS,FT];have t2:two 1 ((2*n+1:Nat):Int)=n:=by unfold two;omega
   rw[t2];refine⟨by decide,⟨by decide,by decide,by omega,by omega⟩,?_⟩;refine ez (λi ys μ'=>μ'=μ2/\∃bs:List Bool,ys=bs.map D.bl/\bs.length=i/\∀(j:Nat) b,bs[j]? = some b->(b=true↔∀a l e,way[2*j]? = some a->way[2*j+1]? = some l->way[2*j+2]? = some e->Joins ls a l e)) ⟨rfl,[],rfl,rfl,λj b e=>by simp at e⟩ ?_ ?_
   .rintro i d ys μ' hd ⟨rfl,bs,rfl,bl,hbs⟩;rw[L4] at hd;obtain⟨v,hv,rfl⟩:=LH.mp hd;have hi:i < n:=by
     have:=(L7.mp hv).1;rw[kt] at this;exact this
    rw[uG hi] at hv;cases hv;refine⟨by rw[L0];omega,λN hN=>?_⟩;have j0:2*i < way.length:=by omega
    have j1:2*i+1 < way.length:=by omega
    have j2:2*i+2 < way.length:=by omega
    have f0:=L3 j0;have f1:=L3 j1;have f2:=L3 j2;rw_mod_cast [];refine Hz A2 L (LK.mp nd).2.1 (show(1:Int)+2*(i:Int)=((2*i+1:Nat):Int) by omega) f0 f1 f2 ((kf _).2.2.mp (y4 i _ hi f1)) λb hb=>?_
    refine hN _ _ ⟨rfl,bs++[b],by simp,by simp[bl],λj b' e=>?_⟩;rw[Q6] at e;split at e
    .exact hbs j b' e
    .rename_i hlt;have:j - bs.length=0:=by
      have:=(L7.mp e).1;simpa using this
     rw[this] at e;simp at e;subst e;obtain rfl:j=i:=by omega
     rw[hb];exact⟨λz a l e' g0 g1 g2=>by rw[f0] at g0;rw[f1] at g1;rw[f2] at g2;cases g0;cases g1;cases g2;exact z,λz=>z _ _ _ f0 f1 f2⟩
   .rintro ys μ' ⟨rfl,bs,rfl,bl,hbs⟩;rw[L0,kt] at bl;rw_mod_cast [];refine⟨_,.refl _,q _ _ keep ?_⟩;rw[Mp];constructor
    .intro h;refine⟨λx e=>(kf x).1.mp (y1 x e),λx e=>(kf x).1.mp (y2 x e),λi x hi e=>(kf x).2.1.mp (y3 i x hi e),λi a l b hi=>?_⟩;have hlt:i < bs.length:=by omega
     exact(hbs i bs[i] (L3 hlt)).mp (h _ (NU hlt)) a l b
    .intro Y b hb;obtain⟨j,hj⟩:=Mg.mp hb;have hlt:=(L7.mp hj).1;exact(hbs j b hj).mpr λa l e=>Y.jn j a l e (by omega)
 .rintro i μ' _;trivial
def gk(ls:List LR)(x:Str):Int:=((ls.find? λr=>decide (r.nm=x)).map LR.w).getD 0
theorem HF(nd:(ls.map LR.nm).Nodup){a b:LR}(ha:a∈ls)(hb:b∈ls)(e:a.nm=b.nm):a=b:=by
 obtain⟨i,hi⟩:=Mg.mp ha;obtain⟨j,hj⟩:=Mg.mp hb;have h1:(ls.map LR.nm)[i]? = some a.nm:=by rw[L4,hi];rfl
 have h2:(ls.map LR.nm)[j]? = some a.nm:=by rw[L4,hj,e];rfl
 have:i=j:=(P9 (L7.mp h1).1 nd).mp (h1.trans h2.symm);subst this;rw[hi] at hj;exact Mq hj
theorem yP{r:LR}(nd:(ls.map LR.nm).Nodup)(hr:r∈ls):gk ls r.nm=r.w:=by
 unfold gk;cases e:ls.find? λq=>decide (q.nm=r.nm) with
 |none=>exact absurd (List.find?_eq_none.mp e r hr) (by simp)
 |some q =>
  have h1:=List.mem_of_find?_eq_some e;have h2:=List.find?_some e;rw[HF nd h1 hr (of_decide_eq_true h2)];rfl
theorem HG{l l':List Int}(h:MH l l'):l.sum=l'.sum:=by
 induction h with
 |nil=>rfl
 |cons a _ ih=>rw[MX,MX,ih]
 |swap a b l=>rw[MX,MX,MX,MX];omega
 |trans _ _ a b=>exact a.trans b
theorem yQ{way:List Str}{lo sl:Int}:∀{ls:List LR} (m:Int),ls.foldl (λm r=>if r.nm∈way then m+lo+r.w+sl else m) m=m+((ls.filter λr=>decide (r.nm∈way)).map λr=>lo+r.w+sl).sum
 | [],m=>by simp
 |r::t,m=>by
  rw[Nf,yQ (ls:=t),Np];by_cases h:r.nm∈way
  .rw[if_pos h,if_pos (decide_eq_true h),LQ,MX];omega
  .rw[if_neg h,if_neg (by simpa using h)]
section
variable{bd:List Str}{k:Nat}
theorem pz:∀(w:List Str),(aR w).Sublist w
 | []=> .slnil
 | [_]=>by show[].Sublist _;exact List.nil_sublist _
 |a::x::r=>by show(x::aR r).Sublist _;exact((pz r).cons₂ x).cons a
theorem HH(W:Way ho ga ns ls bd first k (2*k) w)(nd:(ho++ga++ls.map LR.nm).Nodup):x∈aR w↔x∈ls.map LR.nm/\x∈w:=by
 have wl:=W.len;constructor
 .intro hx;refine⟨?_,(pz w).subset hx⟩;obtain⟨i,hi⟩:=Mg.mp hx;have hlt:=(L7.mp hi).1;rw[jp k w W.len] at hlt;rw[lA] at hi;have j0:2*i < w.length:=by omega
  have j2:2*i+2 < w.length:=by omega
  obtain⟨q,hq,en,_⟩:=W.jn i _ x _ (L3 j0) hi (L3 j2);rw[<- en];exact Md hq
 .rintro⟨h1,h2⟩;obtain⟨i,hi⟩:=Mg.mp h2;have hlt:=(L7.mp hi).1;rcases O8 i with e|e
  .obtain⟨j,rfl⟩:∃j,i=2*j:=⟨i / 2,by omega⟩;exact absurd rfl ((LK.mp nd).2.2 x (W.nn j x hi) x h1)
  .obtain⟨j,rfl⟩:∃j,i=2*j+1:=⟨i / 2,by omega⟩;exact LA (by rw[lA];exact hi)
theorem HI(W:Way ho ga ns ls bd first k (2*k) w)(nd:(ho++ga++ls.map LR.nm).Nodup):zV ls w lo sl=((aR w).map λx=>lo+gk ls x+sl).sum:=by
 have ndl:(ls.map LR.nm).Nodup:=(LK.mp nd).2.1;unfold zV;rw[yQ,SD];have e:(ls.filter λr=>decide (r.nm∈w)).map (λr=>lo+r.w+sl)=((ls.filter λr=>decide (r.nm∈w)).map LR.nm).map λx=>lo+gk ls x+sl:=by
  rw[MK];exact Qg λr hr=>by
   show _=lo+gk ls r.nm+sl;rw[yP ndl (MB.mp hr).1]
 rw[e];refine HG (Sm _ ((List.perm_ext_iff_of_nodup ((Of.map _).nodup ndl) ((pz w).nodup W.nd)).mpr λx=>?_));rw[HH W nd];constructor
 .intro h;obtain⟨r,hr,rfl⟩:=M8.mp h;obtain⟨a,b⟩:=MB.mp hr;exact⟨Md a,of_decide_eq_true b⟩
 .rintro⟨a,b⟩;obtain⟨r,hr,rfl⟩:=M8.mp a;exact Md (MB.mpr ⟨hr,decide_eq_true b⟩)
theorem yR{lo sl:Int}:∀{ways:List (List Str)} (m:Int),m<=ways.foldl (λm way=>if zV ls way lo sl > m then zV ls way lo sl else m) m/\∀w∈ways,zV ls w lo sl<=ways.foldl (λm way=>if zV ls way lo sl > m then zV ls way lo sl else m) m
 | [],m=>⟨Int.le_refl _,λw h=>by cases h⟩
 |v::t,m=>by
  rw[Nf];obtain⟨a,b⟩:=yR (lo:=lo) (sl:=sl) (ways:=t) (if zV ls v lo sl > m then zV ls v lo sl else m);refine⟨SE (by split<;>omega) a,λw hw=>?_⟩;rcases LD.mp hw with rfl|hw
  .exact SE (by split<;>omega) a
  .exact b w hw
theorem pA(W:Way ho ga ns ls bd first k (2*k) w)(hf:first∈ho)(hl:last∈ho)(el:w[2*k]? = some last):Lies ho ga ls w k:=by
 refine⟨λx e=>?_,λx e=>?_,λi x hi e=>(W.gt i x (by omega) (by rw[show 2*i+2=2*(i+1) by omega];exact e)).1,λi a l b hi e1 e2 e3=>W.jn i a l b e1 e2 e3⟩
 .rw[W.hd] at e;cases e;exact hf
 .rw[el] at e;cases e;exact hl
end
theorem yS(R:cw ho ga ns ls sl r)(hw:w∈r.ways):∃bd first k,Way ho ga ns ls bd first k (2*k) w/\1<=k/\k<=3/\Lies ho ga ls w k:=by
 obtain⟨first,last,w1,k1,hf,hl,hfl,k11,k13,W1,e1,h⟩:=R.way;rcases h with e|⟨w2,k2,e,b1,b3,W2,e2⟩
 .rw[e,Lz] at hw;subst hw;exact⟨_,_,_,W1,k11,k13,pA W1 hf hl e1⟩
 .rw[e] at hw;rcases LD.mp hw with rfl|hw
  .exact⟨_,_,_,W1,k11,k13,pA W1 hf hl e1⟩
  .rw[Lz.mp hw];exact⟨_,_,_,W2,b1,b3,pA W2 hf hl e2⟩
section
variable{k:Nat}
theorem HJ(A:au μ k ck cl kn ln)(L:cU ls ln)(nd:(ls.map LR.nm).Nodup)(hw:fi w)(hx:∀x∈aR w,x∈ls.map LR.nm)(q:Q (.lst (((aR w).map λx=>r.lo+gk ls x+sl).map D.int)) μ):kY [.cell k,frO r,aL w,.int sl] μ Q:=by
 have hz:(1000:Nat)<=sizeLine:=by decide
 have:=hw.o;refine⟨rfl,?_⟩;unfold aL;rw_mod_cast [];refine⟨by decide,yM hw ?_⟩;rw_mod_cast [];refine hV (aR w) D.str (λx=> .int (r.lo+gk ls x+sl)) (by omega) (λx hxx Q1 q1=>?_) ?_
 .obtain⟨lr,hlr,rfl⟩:=M8.mp (hx x hxx);obtain⟨i,hi⟩:=Mg.mp hlr;obtain⟨S',E',e,_⟩:=L.2 i lr hi;have lk:aA ln lr.nm=some (S',E',lr.w):=g_ (by rw[L.fst];exact nd) (LA e);rw[yP nd hlr] at q1;unfold frO dP;rw_mod_cast [A.o];refine yz A lk ?_;unfold enD;rw_mod_cast [];exact q1
 rw[MK] at q;exact⟨_,.refl _,q⟩
def gl(μ μ':Mu):Prop:=∀(j:Nat) c,μ j=some c->μ' j=some c
theorem au.up(A:au μ k ck cl kn ln)(h:gl μ μ'):au μ' k ck cl kn ln:=⟨h _ _ A.o,h _ _ A.a,h _ _ A.b,A.ne,A.nd⟩
theorem HK(A:au μ k ck cl (kindsOf ho ga ls) ln)(L:cU ls ln)(nd:(ho++ga++ls.map LR.nm).Nodup)(hz2:(kindsOf ho ga ls).length < 64)(R:cw ho ga ns ls sl r)(q:∀ μ',gl μ μ'->Q .non μ'):k8 [.cell k,frO r,.int sl] μ Q:=by
 have hz:(1000:Nat)<=sizeLine:=by decide
 obtain⟨w0,w2,hw⟩:=yN R;have ndl:(ls.map LR.nm).Nodup:=(LK.mp nd).2.1;refine⟨rfl,stp λN1 h1=>?_⟩;unfold frO dP;rw_mod_cast [];refine⟨by decide,ez (λi ys μ'=>ys=(LF i true).map D.bl/\gl μ μ') ⟨rfl,λ_ _ h=>h⟩ ?_ ?_⟩
 .rintro i d ys μ1 hd ⟨rfl,sb⟩;have hi:=(L7.mp hd).1;rw[L0] at hi;rw[L4] at hd;obtain⟨w,hww,rfl⟩:=LH.mp hd;obtain⟨bd,first,kk,W,k1,k3,LW⟩:=yS R (LA hww);refine⟨by rw[L0,NF];omega,λN hN=>?_⟩;unfold aL;rw_mod_cast [];refine HE (A.up sb) L nd hz2 W.len k1 k3 λb μ2 sb2 hb=>?_
  obtain rfl:=hb.mpr LW;refine hN _ _ ⟨?_,λj c e=>sb2 j c (sb j c e)⟩;rw[<- List.replicate_append_replicate (n:=i) (m:=1),LM];rfl
 rintro ys μ1 ⟨rfl,sb⟩;rw[mR];rw_mod_cast [];rw[if_neg (by simp)];refine h1 _ _ (stp λN2 h2=>?_);have le:=R.le;rw_mod_cast [decide_eq_false (show ¬ r.e < r.lo+sl by omega)];refine h2 _ _ (stp λN3 h3=>?_);rw_mod_cast [];refine⟨by decide,hV r.ways aL (λw=> .int (zV ls w r.lo sl)) (by omega) (λw hww Q1 q1=>?_) ?_⟩
 .obtain⟨bd,first,kk,W,k1,k3,LW⟩:=yS R hww;rw_mod_cast [];refine HJ (r:=r) (A.up sb) L ndl (hw w hww).1 (hw w hww).2 ?_;rw_mod_cast [mQ];rw[HI W nd] at q1;exact q1
 rw[show r.ways.map (λw=>D.int (zV ls w r.lo sl))=(r.ways.map λw=>zV ls w r.lo sl).map D.int from by rw[MK];rfl,mQ];refine⟨λz=>w0 (List.map_eq_nil_iff.mp z),λM hM _=>h3 _ _ ?_⟩;obtain⟨w,hww,rfl⟩:=M8.mp hM;obtain⟨spare,el,sp⟩:=R.lst;have s0:0<=spare:=by
  have r0:=R.r0;have r1:=R.re;simp only[LD,Mb,or_false] at sp;omega
 have ge:=(yR (ls:=ls) (lo:=r.lo) (sl:=sl) (ways:=r.ways) 0).2 w hww;have ge':zV ls w r.lo sl<=r.lst:=by rw[el];unfold c7;omega
 rw_mod_cast [decide_eq_false (show ¬ r.lst < zV ls w r.lo sl by omega)];exact⟨_,.refl _,q _ sb⟩
theorem gl.refl(μ:Mu):gl μ μ:=λ_ _ h=>h
theorem judge_ok(A:au μ k ck cl (kindsOf ho ga ls) ln)(L:cU ls ln)(nd:(ho++ga++ls.map LR.nm).Nodup)(hz2:(kindsOf ho ga ls).length < 64)(R:∀r∈rows,cw ho ga ns ls sl r)(ndr:(rows.map RW.nm).Nodup)(r8:rows.length<=8)(s0:0<=sl)(s7:sl<=7)(h0:μ 0=some kL)(q:∀ μ',gl μ μ'->Q .non μ'):k9 [.cell k,.lst (rows.map frO),.int sl] μ Q:=by
 have hz:(1000:Nat)<=sizeLine:=by decide
 refine⟨rfl,stp λN1 h1=>?_⟩;rw_mod_cast [];refine jo s0 (by omega) (h1 _ _ (stp λN2 h2=>?_));rw_mod_cast [L0,decide_eq_false (show ¬ (8:Int) < (rows.length:Int) by omega)];refine h2 _ _ (stp λN3 h3=>?_);rw_mod_cast [];refine yH (by omega) h0 λl S=>h3 _ _ (stp λN4 h4=>?_)
 have ll:l.length=rows.length:=S.p.length_eq;have ndl:(l.map RW.nm).Nodup:=(S.p.map _).nodup_iff.mpr ndr;rw_mod_cast [Eo];refine bX (λi ρ μ'=>μ'=μ/\∃x4 x5:Option D,ρ=[some (.cell k),some (.lst (rows.map frO)),some (.int sl),some (.lst (l.map frO)),x4,x5,none]) ⟨rfl,_,_,rfl⟩ ?_ ?_
 .rintro i d ρ μ1 hd ⟨rfl,x4,x5,rfl⟩ N' hN;rw[L4] at hd;obtain⟨⟨u,v⟩,hp,rfl⟩:=LH.mp hd;obtain⟨hu,hv⟩:=Oe.mp hp;rw[Ox,L4] at hv;rw[L4] at hu;obtain⟨a,ha,rfl⟩:=LH.mp hu;obtain⟨b,hb,rfl⟩:=LH.mp hv;have hne:a.nm≠b.nm:=λz=>by
   have h1:(l.map RW.nm)[i]? = some a.nm:=by rw[L4,ha];rfl
   have h2:(l.map RW.nm)[1+i]? = some a.nm:=by rw[L4,hb,z];rfl
   have:=(P9 (L7.mp h1).1 ndl).mp (h1.trans h2.symm);omega
  unfold pairD frO dP;rw_mod_cast [decide_eq_false hne];exact hN _ _ ⟨rfl,_,_,rfl⟩
 rintro ρ μ1 ⟨rfl,x4,x5,rfl⟩;refine h4 _ _ ?_;rw_mod_cast [];refine bX (λi ρ μ'=>gl μ1 μ'/\∃x6:Option D,ρ=[some (.cell k),some (.lst (rows.map frO)),some (.int sl),some (.lst (l.map frO)),x4,x5,x6]) ⟨.refl _,_,rfl⟩ ?_ ?_
 .rintro i d ρ μ2 hd ⟨sb,x6,rfl⟩ N' hN;rw[L4] at hd;obtain⟨a,ha,rfl⟩:=LH.mp hd;rw_mod_cast [];exact HK (A.up sb) L nd hz2 (R a (S.p.mem_iff.mp (LA ha))) λμ3 sb3=>hN _ _ ⟨λj c e=>sb3 j c (sb j c e),_,rfl⟩
 .rintro ρ μ2 ⟨sb,x6,rfl⟩;exact⟨_,.refl _,q _ sb⟩
end
section
def opD(p:SP):D:= .tup [.str p.1.nm,.int p.2.1,.int p.2.2.1]
theorem HL(hz:rows.length<=60)(hw:∀r∈rows,r.ways.length<=2/\∀w∈r.ways,fi w)(h0:μ 0=some kL)(q:∀l,fh rows l->Q (.lst ((bD l).map opD)) μ):kX [.lst (rows.map frO)] μ Q:=by
 have hzz:(1000:Nat)<=sizeLine:=by decide
 refine⟨rfl,?_⟩;rw_mod_cast [nQ,gZ,i7];refine⟨by decide,yH (by omega) h0 λl S=>?_⟩;rw_mod_cast [];have hwl:∀r∈l,r.ways.length<=2/\∀w∈r.ways,fi w:=λr hr=>hw r (S.p.mem_iff.mp hr)
 have ll:l.length=rows.length:=S.p.length_eq;refine nR (λi ys μ'=>μ'=μ/\ys=(bD (l.take i)).map opD) ⟨rfl,rfl⟩ ?_ ?_
 .rintro i d ys μ1 hd ⟨rfl,rfl⟩ N hN;rw[L4] at hd;obtain⟨r,hr,rfl⟩:=LH.mp hd;have bi:(bD (l.take i)).length<=6*i:=by
   have:=pw (l:=l.take i) λr hr=>hwl r (O9 hr)
   rw[Mo] at this;omega
  unfold frO dP;rw_mod_cast [gZ];refine⟨by decide,?_⟩;rw_mod_cast [gb,nF];rw[nC];have hm:=LA hr;refine nR (λj ys μ'=>μ'=μ1/\ys=(bD (l.take i)++wys r j).map opD) ⟨rfl,by unfold wys;simp⟩ ?_ ?_
  .rintro j e ys μ2 he ⟨rfl,rfl⟩ N3 hN3;obtain⟨e2,he2,rfl⟩:=j5 he;rw[L4] at he2;obtain⟨w,hwj,rfl⟩:=LH.mp he2;have hww:=(hwl r hm).2 w (LA hwj);have bw:(wys r j).length<=6:=pq (hwl r hm).1 (hwl r hm).2;have bb:=pp (r:=r) (k:=j) hww;have bo:(aR w).length=(blk r j w).length:=by unfold blk;rw[L0,NE]
   unfold aL;rw_mod_cast [gZ,i7];refine⟨by decide,yM hww ?_⟩;have o3:=hww.o;rw_mod_cast [L0];refine⟨by omega,by omega,?_⟩;refine nR (λh ys μ'=>μ'=μ2/\ys=(bD (l.take i)++wys r j++(blk r j w).take h).map opD) ⟨rfl,by simp⟩ ?_ ?_
   .rintro h e ys μ3 he3 ⟨rfl,rfl⟩ N4 hN4;obtain⟨h3,rfl⟩:=gH he3;have hlt:h < (aR w).length:=by omega
    have b4:(Sv h (blk r j w)).length<=3:=by rw[Mo];omega
    rw_mod_cast [i7];have il:i < l.length:=(L7.mp hr).1;refine⟨by simp only[L0,LG];omega,?_⟩;refine⟨by omega,hN4 _ _ ⟨rfl,?_⟩⟩;rw[yL (L3 hlt),<- M7,LM (l₂:=[_]),SD];rfl
   .rintro ys μ3 ⟨rfl,rfl⟩;rw[L0,io,O7,bo,MC (Lx _)];exact hN3 _ _ ⟨rfl,by rw[yI hwj,M7]⟩
  .rintro ys μ2 ⟨rfl,rfl⟩;rw[j6,L0,pv];exact hN _ _ ⟨rfl,by rw[yJ hr]⟩
 .rintro ys μ1 ⟨rfl,rfl⟩;rw[L0,N0];exact⟨_,.refl _,q l S⟩
end
theorem HM{p:SP}{gs:DGs}{ρ:ad}{R:ad->Mu->Prop}:dX 4 gs (spD p) ρ μ R=gs [bQ p.1,.int p.2.1,.int p.2.2.1,.str p.2.2.2] ρ μ R:=by
 unfold spD;rw[Er];simp
theorem HN{l:List RW}{p:SP}(h:p∈bD l):p.1∈l:=by
 unfold bD spR blk at h;obtain⟨x,hx,hp⟩:=Pn.mp h;obtain⟨r,hr,rfl⟩:=M8.mp hx;obtain⟨y,hy,hp⟩:=Pn.mp hp;obtain⟨z,_,rfl⟩:=M8.mp hy;obtain⟨u,_,rfl⟩:=M8.mp hp;exact hr
theorem HP:dIx (bQ r) (.int 0) μ Q=Q (.str r.nm) μ:=by unfold bQ;rw[tu];rfl
theorem HQ:∀ds μ Q,GK ds μ Q->zL o7 o4 1 ds μ Q:=by
 rintro ds μ Q ⟨ns0,rfl,hl0,hL,q⟩;have hz:(1000:Nat)<=sizeLine:=by decide
 refine⟨rfl,stp λN1 h1=>?_⟩;walk_at "e"
 intro s hs0;refine h1 _ _ (stp λN2 h2=>?_);have hs:zO μ s .draw s=some .draw:=zF;have hL1:zO μ s .draw 0=some kL:=by rw[zj (λz=>by rw[<- z,hL] at hs0;cases hs0)];exact hL
 generalize zO μ s .draw=μ1 at hs hL1 ⊢
 walk_at "e"
 refine GT (most:=8) hs (by decide) (by decide) λμ2 na la ho ga ns ls rows sl W keep=>h2 _ _ (stp λN3 h3=>?_)
 have hL2:=(keep 0 _ hL1).1;have l14:=W.N.len;have hc:=W.N.cnt;have g1:=W.ho4;have g2:=W.ga3;have g0:=W.ho2;have rm:=W.rm;have r1:=W.r1;have nd:=W.N.nd;have ndl:(ls.map LR.nm).Nodup:=(LK.mp nd).2.1;have hwr:=λr hr=>yN (W.ok r hr)
 have hw2:∀r∈rows,r.ways.length<=2/\∀w∈r.ways,fi w:=λr hr=>⟨(hwr r hr).2.1,λw hw=>((hwr r hr).2.2 w hw).1⟩
 rw_mod_cast [];refine Hw (by omega) (λr hr=>Hl W.N W.sl0 W.sl7 (W.ok r hr)) (h3 _ _ (stp λN4 h4=>?_));rw_mod_cast [L0];refine⟨W.W.ds,by omega,by omega,λv v0 v1=>h4 _ _ (stp λN5 h5=>?_)⟩;obtain⟨n,rfl⟩:=Int.eq_ofNat_of_zero_le v0;rw_mod_cast [fV,gJ];rw[<- Ql,<- Qk];have pm:MH (rows.drop n++rows.take n) rows:=by
  have:=List.perm_append_comm (l₁:=rows.drop n) (l₂:=rows.take n);rwa [List.take_append_drop] at this
 rw_mod_cast [LG,L0];rw[<- LM];generalize rows.drop n++rows.take n=rw2 at pm ⊢
 have l2:=pm.length_eq;refine⟨by rw[NS,Mo];omega,h5 _ _ (stp λN6 h6=>?_)⟩;have hw3:∀r∈rw2,r.ways.length<=2/\∀w∈r.ways,fi w:=λr hr=>hw2 r (pm.mem_iff.mp hr)
 have ndr2:(rw2.map RW.nm).Nodup:=(pm.map _).nodup_iff.mpr W.nd;rw_mod_cast [];refine⟨by decide,hV rw2 frO (λr=> .str r.nm) (by omega) (λr hr Q1 q1=>?_) (h6 _ _ (stp λN7 h7=>?_))⟩
 .unfold frO dP;rw_mod_cast [];exact q1
 rw_mod_cast [];refine Hc W.W W.N g1 g2 λμ3 k ck cl ln hk hck hcl A L ke=>?_
 have kl:(kindsOf ho ga ls).length=ho.length+ga.length+ls.length:=by unfold kindsOf;simp;omega
 rw_mod_cast [];refine judge_ok A L nd (by omega) (λr hr=>W.ok r (pm.mem_iff.mp hr)) ndr2 (by omega) W.sl0 W.sl7 (ke 0 _ hL2) λμ4 sb=>?_
 rw_mod_cast [];refine h7 _ _ (stp λN8 h8=>?_);rw_mod_cast [];refine HL (by omega) hw3 (sb 0 _ (ke 0 _ hL2)) λl S2=>h8 _ _ (stp λN9 h9=>?_)
 rw_mod_cast [];refine⟨by decide,Hu rfl (λ_ _ _=>rfl) W.nd (by omega) hw2 λl' S=>?_⟩;obtain rfl:=fh.uniq W.nd S ⟨S2.p.trans pm,S2.s⟩;have sl6:(bD l').length<=6*l'.length:=pw λr hr=>hw2 r (S.p.mem_iff.mp hr)
 have ll:=S.p.length_eq;rw_mod_cast [];refine hV (bD l') spD opD (by omega) (λp hp Q1 q1=>?_) (h9 _ _ (stp λN10 h10=>?_))
 .rw_mod_cast [HM,HP];exact⟨by omega,q1⟩
 have nms:∀x∈rw2.map RW.nm,PyData.strOk x=true:=λx hx=>by
  obtain⟨r,hr,rfl⟩:=M8.mp hx;exact G0 (W.N.nms _ (W.ok r (pm.mem_iff.mp hr)).nmn)
 rw_mod_cast [];refine⟨by decide,hV rw2 frO (λr=> .str r.nm) (by omega) (λr hr Q1 q1=>?_) ?_⟩
 .unfold frO dP;rw_mod_cast [];exact q1
 refine uc (n:=1) (λd hd=>?_) (by decide) ?_
 .obtain⟨r,hr,rfl⟩:=M8.mp hd;exact nms _ (Md hr)
 rw_mod_cast [];refine uc (n:=2) (λd hd=>?_) (by decide) ?_
 .obtain⟨p,hp,rfl⟩:=M8.mp hd;intro e he;simp only[LD,Mb,or_false] at he;rcases he with rfl|rfl|rfl
  .exact nms _ (Md (pm.mem_iff.mpr (S.p.mem_iff.mp (HN hp))))
  .trivial
  .trivial
 rw_mod_cast [];refine h10 _ _ ?_;rw_mod_cast [];refine⟨by decide,nv (bD l') opD (by omega) (λp hp Q1 q1=>?_) (λbs hb=>?_) trivial⟩
 .unfold opD;rw_mod_cast [];refine yq ?_;rw_mod_cast [];exact yq q1
 .rw[mR];rw_mod_cast [];rw[hb];exact⟨_,.refl _,q _⟩
section
variable(P:Program)(w:World)(K:Frag)(mg:Str->Option Value)(base:Heap)
abbrev yT:Prop:=Has P w K mg base CX0 "is_made_of" 1 ["text","signs","most"] (lift K o6)
abbrev yU:Prop:=Has P w K mg base CX0 "is_number" 1 ["thing"] (lift K kM)
abbrev pB:Prop:=cS P w K mg base CX0 "Net" "ends" 1 ["self","name"] (lift K jc) [] (sel 2 0 [.p 0,.p 1] .non [])
abbrev pC:Prop:=Has P w K mg base CX0 "by_name" 1 ["frames"] (lift K ja)
abbrev pE:Prop:=Has P w K mg base CX0 "lines_of" 1 ["way"] (lift K jb)
abbrev fj:Prop:=Has P w K mg base CX0 "_law_draw" 1 ["_law_s","_law_many"] mF
abbrev pF:Prop:=Has P w K mg base CX0 "is_name" 2 ["text"] (lift K jg)
abbrev yV:Prop:=Has P w K mg base CX0 "check_whole" 2 ["thing"] (lift K kU)
abbrev yW:Prop:=Has P w K mg base CX0 "joins" 2 ["net","way","at"] (lift K kW)
abbrev yX:Prop:=cS P w K mg base CX0 "Net" "names" 1 ["self"] (lift K kP) [] (sel 1 0 [.p 0] .non [])
abbrev yY:Prop:=cS P w K mg base CX0 "Net" "kind" 1 ["self","name"] (lift K kQ) [] (sel 2 0 [.p 0,.p 1] .non [])
abbrev pG:Prop:=Has P w K mg base CX0 "_law_pick" 2 ["_law_s","_law_row_here"] (lift K jh)
abbrev lC:Prop:=Has P w K mg base CX0 "_law_name" 2 ["_law_s","_law_names"] (lift K eI)
abbrev yZ:Prop:=Has P w K mg base CX0 "check_both_ways" 1 ["one","two"] (lift K kN)
abbrev y0:Prop:=Has P w K mg base CX0 "check_way" 3 ["way"] (lift K kZ)
abbrev y6:Prop:=Has P w K mg base CX0 "line_times" 2 ["net","frame","way","slack"] (lift K kY)
abbrev y8:Prop:=Has P w K mg base CX0 "lies" 3 ["net","way"] (lift K k6)
abbrev pH:Prop:=Has P w K mg base CX0 "check_name" 3 ["text"] (lift K ji)
abbrev y9:Prop:=Has P w K mg base CX0 "_law_hop" 3 ["_law_s","_law_names","_law_lines","_law_one","_law_two","_law_barred"] (lift K jj)
abbrev lD:Prop:=Has P w K mg base CX0 "check_number" 3 ["number","least","most"] (lift K fg)
abbrev y_:Prop:=Has P w K mg base CX0 "check_ways" 4 ["ways"] (lift K k7)
abbrev zd:Prop:=Has P w K mg base CX0 "judge_frame" 4 ["net","frame","slack"] (lift K k8)
abbrev ze:Prop:=Has P w K mg base CX0 "check_ends" 1 ["ends"] (lift K je)
abbrev pI:Prop:=cS P w K mg base CX0 "Net" "check_new" 4 ["self","name"] (lift K jk) [] (sel 2 0 [.p 0,.p 1] .non [])
abbrev zh:Prop:=cS P w K mg base CX0 "Net" "check_nodes" 1 ["self","ends"] (lift K jd) [] (sel 2 0 [.p 0,.p 1] .non [])
abbrev zi:Prop:=Has P w K mg base CX0 "_law_need" 1 ["_law_row_here","_law_lines","_law_the_slack"] (lift K kR)
abbrev zk:Prop:=Has P w K mg base CX0 "_law_way" 4 ["_law_s","_law_names","_law_lines","_law_gates","_law_first","_law_the_last","_law_barred"] (lift K jl)
abbrev pJ:Prop:=cS P w K mg base CX0 "Net" "put_node" 5 ["self","name","kind"] (lift K jm) [] (sel 3 0 [.p 0,.p 1,.p 2] .non [])
abbrev zl:Prop:=Has P w K mg base CX0 "_law_row" 5 ["_law_s","_law_names","_law_lines","_law_houses","_law_gates","_law_the_slack"] (lift K ld)
abbrev zn:Prop:=iP P w K mg base CX0 "Net" 1 ["self"] (lift K kO) [] (sel 1 0 [.p 0] .non [])
abbrev zo:Prop:=cS P w K mg base CX0 "Net" "house" 6 ["self","name"] (lift K lf) [] (sel 2 0 [.p 0,.p 1] .non [])
abbrev zt:Prop:=cS P w K mg base CX0 "Net" "gate" 6 ["self","name"] (lift K lg) [] (sel 2 0 [.p 0,.p 1] .non [])
abbrev zv:Prop:=cS P w K mg base CX0 "Net" "line" 5 ["self","name","senders","ears","wire"] (lift K k_) ["wire"] (sel 4 1 [.p 0,.p 1,.p 2,.p 3,.k 0] .non [])
abbrev zw:Prop:=iP P w K mg base CX0 "Frame" 5 ["self","name","ways","every","long","release","last"] (lift K g9) ["every","long","release","last"] (sel 3 4 [.p 0,.p 1,.p 2,.k 0,.k 1,.k 2,.k 3] .non [])
abbrev zC:Prop:=Has P w K mg base CX0 "_law_frame" 7 ["_law_row_here"] (lift K lj)
abbrev zD:Prop:=Has P w K mg base CX0 "_law_start" 1 ["_law_script"] (mG K)
abbrev zI:Prop:=Has P w K mg base CX0 "_law_spots" 1 ["_law_rows"] (lift K kT)
abbrev zS:Prop:=Has P w K mg base CX0 "_law_whole" 1 ["_law_x"] (lift K jf)
abbrev z_:Prop:=Has P w K mg base CX0 "order" 2 ["frames"] (lift K kX)
abbrev Aa:Prop:=Has P w K mg base CX0 "_law_world" 6 ["_law_s","_law_the_most"] (lift K lh)
abbrev Ab:Prop:=Has P w K mg base CX0 "_law_net" 7 ["_law_world_here"] (lift K li)
abbrev Ac:Prop:=Has P w K mg base CX0 "_law_frames" 8 ["_law_rows"] (lift K lq)
abbrev Ad:Prop:=mE P w K mg base CX0 "judge_lot" 5 ["net","frames","slack"] (lift K k9) ["slack"] (sel 2 1 [.p 0,.p 1,.k 0] .non [])
end
section
variable{P:Program}{w:World}{base:Heap}[TabOk K tab]
theorem HR(F:Fun K "is_made_of" "is_made_of" nY f fd)(B:Blt mg):zX P w K mg base CX0 1 f fd ["text","signs","most"] (lift K o6) :=
 F.okB xu vo rfl λ_ _ _ _ _ _ hr=>have nd:=vo.nd;⟨_,(zg (aq (gv (CM ft ft zf (zB (zU K) rfl B.len aG (qa1 (qv 0))) (qv 2)) (iu (zB (iH K) rfl B.all ir (qa1 (cb ["sign"] ["signs"] [1] (.of rfl (by decide+kernel) rfl) rfl rfl (by decide+kernel) (aJ K (qv 0)) (λ_ _ _ _=>(zT (i:=0) (show Mj (["sign","signs"]:List Str) by decide+kernel) rfl (MP rfl))) (λ_ _ _ _=>a8) (λ_ _ _ _=>(jK EW (qv 0) (qv 1) (by with_unfolding_all rfl)))))))))),λ_=>by infer_instance⟩
theorem HS(F:Fun K "is_number" "is_number" n9 f fd)(B:Blt mg):zX P w K mg base CX0 1 f fd ["thing"] (lift K kM) :=
 F.okB xv vz rfl λ_ _ _ _ _ _ hr=>have nd:=vz.nd;⟨_,(zg (aq (gv (zB (gL K) rfl B.isinstance gq (qa2 (qv 0) (gr (v:= .ty "int") rfl B.int qZ rfl))) (iu (rk (zB (gL K) rfl B.isinstance gq (qa2 (qv 0) (gr (v:= .ty "bool") rfl B.bool q0 rfl)))))))),λ_=>by infer_instance⟩
theorem HU(F:Fun K "check_both_ways" "check_both_ways" oi f fd)(B:Blt mg):zX P w K mg base CX0 1 f fd ["one","two"] (lift K kN) :=
 F.okB xx vL rfl λ_ _ _ _ _ _ hr=>have nd:=vL.nd;⟨_,(zc (ag (WW.qt (eQ (zH (gD K hr) (qx K (qv 0) zf) (qx K (qv 1) zf) (aF _)) (fG (zH (gD K hr) (qx K (qv 0) (eP eN zf)) (qx K (qv 1) (eP eN zf)) (aF _)))))
  (zg zZ)
  zK)
  (zg (ag (gu (zB (DV K) rfl B.any CC (qa1 (cb ["name"] ["two"] [1] (.of rfl (by decide+kernel) rfl) rfl rfl (by decide+kernel) (aJ K (fK (gB K) (qv 0) (cu zf) (cu (eP eN zf)))) (λ_ _ _ _=>(zT (i:=0) (show Mj (["name","two"]:List Str) by decide+kernel) rfl (MP rfl))) (λ_ _ _ _=>a8) (λ_ _ _ _=>(jK (gG K hr) (qv 0) (qv 1) (by with_unfolding_all rfl)))))))
  (zg zZ)
  zK))),λ_=>by infer_instance⟩
theorem HV(F:Fun K "by_name" "by_name" on f fd)(B:Blt mg)(lb9:eF base mg cL PL)(hcL:fd.code= .ref cL)[nV K "by_name" PL]:zX P w K mg base CX0 1 f fd ["frames"] (lift K ja) :=
 F.okBL xy vR rfl λ_ _ _ _ _ _ hc9 hr=>have nd:=vR.nd;⟨_,(zg (aq (GF (ln:=125) (cl:=30) (qn:="by_name") (q:="by_name.<locals>.<lambda>") K lb9 (hc9.symm.trans hcL) hr (qv 0) rfl B.sorted))),λ_=>by infer_instance⟩
theorem HW(F:Fun K "lines_of" "lines_of" oo f fd)(B:Blt mg):zX P w K mg base CX0 1 f fd ["way"] (lift K jb) :=
 F.okB xz vT rfl λ_ _ _ _ _ _ hr=>have nd:=vT.nd;⟨_,(zg (aq (uB (uA K) (qv 0) (cu zf) fJ (cu zf)))),λ_=>by infer_instance⟩
theorem HX(F:Fun K "__init__" "Net.__init__" oy f fd)(B:Blt mg):zX P w K mg base CX0 1 f fd ["self"] (lift K kO) :=
 F.okB xA v9 rfl λ_ _ _ _ _ _ hr=>have nd:=v9.nd;⟨_,(zc (eT K (qv 0) uj)
  (zg (eT K (qv 0) uj))),λ_=>by infer_instance⟩
theorem HY(F:Fun K "names" "Net.names" oC f fd)(B:Blt mg):zX P w K mg base CX0 1 f fd ["self"] (lift K kP) :=
 F.okB xB wp rfl λ_ _ _ _ _ _ hr=>have nd:=wp.nd;⟨_,(zg (aq (zB (ko K) rfl B.sorted jI (qa1 (aM K (qv 0)))))),λ_=>by infer_instance⟩
theorem HZ(F:Fun K "kind" "Net.kind" oE f fd)(B:Blt mg):zX P w K mg base CX0 1 f fd ["self","name"] (lift K kQ) :=
 F.okB xC wt rfl λ_ _ _ _ _ _ hr=>have nd:=wt.nd;⟨_,(zc (ag (zH (nr (cC hr)) (qv 1) (aM K (qv 0)) (by with_unfolding_all rfl))
  (zg zZ)
  zK)
  (zg (aq (uk (cC hr) (aM K (qv 0)) (qv 1))))),λ_=>by infer_instance⟩
theorem H_(F:Fun K "ends" "Net.ends" oF f fd)(B:Blt mg):zX P w K mg base CX0 1 f fd ["self","name"] (lift K jc) :=
 F.okB xD ww rfl λ_ _ _ _ _ _ hr=>have nd:=ww.nd;⟨_,(zc (ag (zH (nr (cC hr)) (qv 1) (aM K (qv 0)) (by with_unfolding_all rfl))
  (zg zZ)
  zK)
  (zg (aq (uk (cC hr) (aM K (qv 0)) (qv 1))))),λ_=>by infer_instance⟩
theorem Ia(F:Fun K "check_nodes" "Net.check_nodes" oI f fd)(B:Blt mg):zX P w K mg base CX0 1 f fd ["self","ends"] (lift K jd) :=
 F.okB xE wE rfl λ_ _ _ _ _ _ hr=>have nd:=wE.nd;⟨_,(zg (bT PassesOwn.never rfl (aJ K (qv 1)) (qG 2 nd)
  (zg (ag (WW.qt (eQ (zH (nr (cC hr)) (qv 2) (aM K (qv 0)) (by with_unfolding_all rfl)) (fG (zH (uo (cC hr)) (qv 2) (aM K (qv 0)) (by with_unfolding_all rfl)))))
  (zg zZ)
  zK)))),λ_=>by infer_instance⟩
theorem Ib(F:Fun K "check_ends" "check_ends" oJ f fd)(B:Blt mg){u_MOST_ENDS:Value}(c_MOST_ENDS:mg "MOST_ENDS"=some u_MOST_ENDS)(c_MOST_ENDS_r:RelV (.int 6) u_MOST_ENDS):zX P w K mg base CX0 1 f fd ["ends"] (lift K je) :=
 F.okB xF wG rfl λ_ _ _ _ _ _ hr=>have nd:=wG.nd;⟨_,(zc (ag (fH (rg ft ft zf (zB (zU K) rfl B.len aG (qa1 (qv 0))) (cF rfl c_MOST_ENDS c_MOST_ENDS_r)))
  (zg zZ)
  zK)
  (zg (ag (zH fq (zB (ua) rfl B.len aG (qa1 (dr (t_ K) rfl B.set q_ (qa1 (qv 0))))) (zB (zU K) rfl B.len aG (qa1 (qv 0))) (aF _))
  (zg zZ)
  zK))),λ_=>by infer_instance⟩
theorem Ic(F:Fun K "_law_need" "_law_need" oR f fd)(B:Blt mg):zX P w K mg base CX0 1 f fd ["_law_row_here","_law_lines","_law_the_slack"] (lift K kR) :=
 F.okB xG wQ rfl λ_ _ _ _ _ _ hr=>have nd:=wQ.nd;⟨_,(zc (qS 3 nd zf)
  (zc (bT PassesOwn.never rfl (aJ K (qx K (qv 0) zf)) (qG 4 nd)
  (zc (qS 5 nd zf)
  (zc (bT PassesOwn.never rfl (aJ K (qv 1)) (qG 6 nd)
  (zg (ag (zH (gG K hr) (qx K (qv 6) zf) (qv 4) (by with_unfolding_all rfl))
  (zg (qS 5 nd (zW (a7 K) (zW (a7 K) (zW (a7 K) (qv 5) (qx K (qv 0) zf)) (qx K (qv 6) zf)) (qv 2))))
  zK)))
  (zg (qS 3 nd (zB (sE K) rfl B.max qX (qa2 (qv 3) (qv 5))))))))
  (zg (aq (qv 3))))),λ_=>by infer_instance⟩
theorem Ie(F:Fun K "_law_spots" "_law_spots" oX f fd)(B:Blt mg):zX P w K mg base CX0 1 f fd ["_law_rows"] (lift K kT) :=
 F.okB xH w_ rfl λ_ _ _ _ _ _ hr=>have nd:=w_.nd;⟨_,(zc (iM (qS 1 nd (bM dq)))
  (zc (bT PassesOwn.never rfl (aJ K (zB (Gc K) rfl B.sorted jI (qa1 (qv 0)))) (qG 2 nd)
  (zg (bT PassesOwn.never rfl (nD K rfl B.enumerate (qa1 (qx K (qv 2) zf))) (gx (n:=2) K rfl (bz (qG 3 nd) (bz (qG 4 nd) fL)))
  (zg (bT PassesOwn.never rfl (nD K rfl B.enumerate (qa1 (uB (uA K) (qv 4) (cu zf) fJ (cu zf)))) (gx (n:=2) K rfl (bz (qG 5 nd) (bz (qG 6 nd) fL)))
  (zg (zN (cH K Ml Mh Mi cY (qv 1) (qa1 (eR (zu (qv 2) (zu (qv 3) (qa2 (qv 5) (qv 6))))))))))))))
  (Dv 1 (zg (aq (qv 1)))))),λ_=>by infer_instance⟩
theorem Ig(F:Fun K "_law_whole" "_law_whole" oY f fd)(B:Blt mg):zX P w K mg base CX0 1 f fd ["_law_x"] (lift K jf) :=
 F.okB xI xc rfl λ_ _ _ _ _ _ hr=>have nd:=xc.nd;⟨_,(zg (aq (gv (zB (gL K) rfl B.isinstance gq (qa2 (qv 0) (gr (v:= .ty "int") rfl B.int qZ rfl))) (iu (rk (zB (gL K) rfl B.isinstance gq (qa2 (qv 0) (gr (v:= .ty "bool") rfl B.bool q0 rfl)))))))),λ_=>by infer_instance⟩
theorem Ih(F:Fun K "is_name" "is_name" nZ f fd)(B:Blt mg)(h_is_made_of:yT P w K mg base){u_LETTERS:Value}(c_LETTERS:mg "LETTERS"=some u_LETTERS)(c_LETTERS_r:RelV (.str "abcdefghijklmnopqrstuvwxyz") u_LETTERS){u_MOST_LETTERS:Value}(c_MOST_LETTERS:mg "MOST_LETTERS"=some u_MOST_LETTERS)(c_MOST_LETTERS_r:RelV (.int 8) u_MOST_LETTERS):zX P w K mg base CX0 2 f fd ["text"] (lift K jg) :=
 F.okB xJ vq rfl λ_ _ _ _ _ _ hr=>have nd:=vq.nd;⟨_,(zg (aq (zq h_is_made_of hr (zu (qv 0) (qa2 (cF rfl c_LETTERS c_LETTERS_r) (cF rfl c_MOST_LETTERS c_MOST_LETTERS_r)))))),λ_=>by infer_instance⟩
theorem Ii(F:Fun K "check_whole" "check_whole" n_ f fd)(B:Blt mg)(h_is_number:yU P w K mg base):zX P w K mg base CX0 2 f fd ["thing"] (lift K kU) :=
 F.okB xK vB rfl λ_ _ _ _ _ _ hr=>have nd:=vB.nd;⟨_,(zg (ag (fH (gu (zq h_is_number hr (qa1 (qv 0)))))
  (zg zZ)
  zK)),λ_=>by infer_instance⟩
theorem Ij(F:Fun K "joins" "joins" om f fd)(B:Blt mg)(hT_Net_ends_2:pB P w K mg base):zX P w K mg base CX0 2 f fd ["net","way","at"] (lift K kW) :=
 F.okB xM vP rfl λ_ _ _ _ _ _ hr=>have nd:=vP.nd;⟨_,(zc (iw (cT (pl:=_) K hT_Net_ends_2 hr (qv 0) (qa1 (qx K (qv 1) (qv 2))) ca) (gx (n:=3) K rfl (bz (qG 3 nd) (bz (qG 4 nd) (bz (qG 5 nd) fL)))))
  (zg (aq (gv (jK (gG K hr) (qx K (qv 1) (zW fo (qv 2) zf)) (qv 3) (by with_unfolding_all rfl)) (iu (jK (gG K hr) (qx K (qv 1) (zW (a7 K) (qv 2) zf)) (qv 4) (by with_unfolding_all rfl))))))),λ_=>by infer_instance⟩
theorem Ik(F:Fun K "order" "order" oq f fd)(B:Blt mg)(h_by_name:pC P w K mg base)(h_lines_of:pE P w K mg base):zX P w K mg base CX0 2 f fd ["frames"] (lift K kX) :=
 F.okB xN vV rfl λ_ _ _ _ _ _ hr=>have nd:=vV.nd;⟨_,(zg (aq (Gm ["frame","at","way","h"] [] [] (.of rfl (by decide+kernel) rfl) rfl rfl (by decide+kernel) (aJ K (zq h_by_name hr (qa1 (qv 0)))) (λ_ _ _ _=>(zT (i:=0) (show Mj (["frame","at","way","h"]:List Str) by decide+kernel) rfl (MP rfl))) (λ_ _ _ _=>a8) (λ_ _ _ _=>(uZ (nD K rfl B.enumerate (qa1 (aM K (qv 0)))) (gx (n:=2) K rfl (bz (zT (i:=1) (show Mj (["frame","at","way","h"]:List Str) by decide+kernel) rfl (MP rfl)) (bz (zT (i:=2) (show Mj (["frame","at","way","h"]:List Str) by decide+kernel) rfl (MP rfl)) fL))) a8 (uZ (eS rfl B.range (qa1 (zB (zU K) rfl B.len aG (qa1 (zq h_lines_of hr (qa1 (qv 2))))))) (zT (i:=3) (show Mj (["frame","at","way","h"]:List Str) by decide+kernel) rfl (MP rfl)) a8 (Gk (eR (zu (aM K (qv 0)) (qa2 (qv 1) (qv 3))))))))))),λ_=>by infer_instance⟩
theorem Il(F:Fun K "line_times" "line_times" ow f fd)(B:Blt mg)(h_lines_of:pE P w K mg base)(hT_Net_ends_2:pB P w K mg base):zX P w K mg base CX0 2 f fd ["net","frame","way","slack"] (lift K kY) :=
 F.okB xO v7 rfl λ_ _ _ _ _ _ hr=>have nd:=v7.nd;⟨_,(zg (aq (cb ["line"] ["frame","net","slack"] [1,0,3] (.of rfl (by decide+kernel) rfl) rfl rfl (by decide+kernel) (aJ K (zq h_lines_of hr (qa1 (qv 2)))) (λ_ _ _ _=>(zT (i:=0) (show Mj (["line","frame","net","slack"]:List Str) by decide+kernel) rfl (MP rfl))) (λ_ _ _ _=>a8) (λ_ _ _ _=>(zW (a7 K) (zW (a7 K) (aM K (qv 1)) (qx K (cT (pl:=_) K hT_Net_ends_2 hr (qv 2) (qa1 (qv 0)) ca) zf)) (qv 3)))))),λ_=>by infer_instance⟩
theorem Im(F:Fun K "_law_pick" "_law_pick" oN f fd)(B:Blt mg)(h_law_draw:fj P w K mg base):zX P w K mg base CX0 2 f fd ["_law_s","_law_row_here"] (lift K jh) :=
 F.okB xP wI rfl λ_ _ _ _ _ _ hr=>have nd:=wI.nd;⟨_,(zg (aq (qx K (qv 1) (zq h_law_draw hr (qa2 (qv 0) (zB (zU K) rfl B.len aG (qa1 (qv 1)))))))),λ_=>by infer_instance⟩
theorem Io(F:Fun K "_law_name" "_law_name" oO f fd)(B:Blt mg)(h_law_draw:fj P w K mg base):zX P w K mg base CX0 2 f fd ["_law_s","_law_names"] (lift K eI) :=
 F.okB xQ wK rfl λ_ _ _ _ _ _ hr=>have nd:=wK.nd;⟨_,(zc (qS 2 nd cE)
  (zc (bT PassesOwn.never rfl (eS rfl B.range (qa1 zf)) (qG 3 nd)
  (zc (qS 4 nd (zW (a7 K) zf (zq h_law_draw hr (qa2 (qv 0) zf))))
  (zc (ag (zH (gC K hr) (qv 4) zf (aF _))
  (zg (qS 4 nd (zW (a7 K) zf (zq h_law_draw hr (qa2 (qv 0) zf)))))
  zK)
  (zc (qS 5 nd (cH K PySem.F.plainAttrs_str PySem.F.slot_str_join PySem.F.type_str_join (EU K) cE (qa1 (cb ["_law_k"] ["_law_letters","_law_s"] [2,0] (.of rfl (by decide+kernel) rfl) rfl rfl (by decide+kernel) (eS rfl B.range (qa1 (qv 4))) (λ_ _ _ _=>(zT (i:=0) (show Mj (["_law_k","_law_letters","_law_s"]:List Str) by decide+kernel) rfl (MP rfl))) (λ_ _ _ _=>a8) (λ_ _ _ _=>(qx K (qv 1) (zq h_law_draw hr (qa2 (qv 2) zf))))))))
  (zg (ag (zH (ef K hr) (qv 5) (qv 1) (by with_unfolding_all rfl))
  (zc (zN (cH K Ml Mh Mi cY (qv 1) (qa1 (qv 5))))
  (zg (aq (qv 5))))
  zK))))))
  (zc (bT PassesOwn.never rfl (eS rfl B.range (qa1 zf)) (qG 6 nd)
  (zc (qS 5 nd (zW tY (qx K (qv 2) (zW gm (qv 6) zf)) (zW (a7 K) zf (zW ip (qv 6) zf))))
  (zg (ag (zH (ef K hr) (qv 5) (qv 1) (by with_unfolding_all rfl))
  (zc (zN (cH K Ml Mh Mi cY (qv 1) (qa1 (qv 5))))
  (zg (aq (qv 5))))
  zK))))
  (zg (aq cE))))),λ_=>by infer_instance⟩
theorem Ip(F:Fun K "check_name" "check_name" n8 f fd)(B:Blt mg)(h_is_name:pF P w K mg base):zX P w K mg base CX0 3 f fd ["text"] (lift K ji) :=
 F.okB xR vw rfl λ_ _ _ _ _ _ hr=>have nd:=vw.nd;⟨_,(zg (ag (fH (gu (zq h_is_name hr (qa1 (qv 0)))))
  (zg zZ)
  zK)),λ_=>by infer_instance⟩
theorem Iq(F:Fun K "check_number" "check_number" oa f fd)(B:Blt mg)(h_check_whole:yV P w K mg base):zX P w K mg base CX0 3 f fd ["number","least","most"] (lift K fg) :=
 F.okB xS vD rfl λ_ _ _ _ _ _ hr=>have nd:=vD.nd;⟨_,(zc (zN (zq h_check_whole hr (qa1 (qv 0))))
  (zg (ag (fH (rg ft ft (qv 1) (qv 0) (qv 2)))
  (zg zZ)
  zK))),λ_=>by infer_instance⟩
theorem Ir(F:Fun K "check_way" "check_way" oh f fd)(B:Blt mg)(h_is_name:pF P w K mg base){a_WAY_LENGTHS:Addr}(c_WAY_LENGTHS:mg "WAY_LENGTHS"=some (.ref a_WAY_LENGTHS))[KTup K a_WAY_LENGTHS [3,5,7]]:zX P w K mg base CX0 3 f fd ["way"] (lift K kZ) :=
 F.okB xT vJ rfl λ_ _ _ _ _ _ hr=>have nd:=vJ.nd;⟨_,(zc (ag (zH (ef K hr) (zB (zU K) rfl B.len aG (qa1 (qv 0))) (cF (v:= .ref a_WAY_LENGTHS) rfl c_WAY_LENGTHS rfl) (by with_unfolding_all rfl))
  (zg zZ)
  zK)
  (zc (ag (fH (gu (zB (iH K) rfl B.all ir (qa1 (cb ["text"] [] [] (.of rfl (by decide+kernel) rfl) rfl rfl (by decide+kernel) (aJ K (qv 0)) (λ_ _ _ _=>(zT (i:=0) (show Mj (["text"]:List Str) by decide+kernel) rfl (MP rfl))) (λ_ _ _ _=>a8) (λ_ _ _ _=>(zq h_is_name hr (qa1 (qv 0)))))))))
  (zg zZ)
  zK)
  (zg (ag (zH fq (zB (ua) rfl B.len aG (qa1 (dr (t_ K) rfl B.set q_ (qa1 (qv 0))))) (zB (zU K) rfl B.len aG (qa1 (qv 0))) (aF _))
  (zg zZ)
  zK)))),λ_=>by infer_instance⟩
theorem Is(F:Fun K "lies" "lies" oj f fd)(B:Blt mg)(h_joins:yW P w K mg base)(hT_Net_names_1:yX P w K mg base)(hT_Net_kind_2:yY P w K mg base):zX P w K mg base CX0 3 f fd ["net","way"] (lift K k6) :=
 F.okB xU vN rfl λ_ _ _ _ _ _ hr=>have nd:=vN.nd;⟨_,(zc (qS 2 nd (FM (o0:= .dK []) ["name"] ["net"] [0] (.inl rfl) (cC hr) (.of rfl (by decide+kernel) rfl) rfl rfl (by decide+kernel) (aJ K (EO (pl:=_) K hT_Net_names_1 hr (qv 0))) (λ_ _ _ _=>(zT (i:=0) (show Mj (["name","net"]:List Str) by decide+kernel) rfl (MP rfl))) (λ_ _ _ _=>a8) (λ_ _ _ _=>(qv 0)) (λ_ _ _ _=>(cT (pl:=_) K hT_Net_kind_2 hr (qv 1) (qa1 (qv 0)) ca))))
  (zc (qS 3 nd (zW tY (bM (qa2 cE cE)) (zW ip (zW fo (zB (zU K) rfl B.len aG (qa1 (qv 1))) zf) zf)))
  (zc (qS 4 nd (zW (a7 K) (zW (a7 K) (bM (qa1 cE)) (qv 3)) (bM (qa2 cE cE))))
  (zc (ag (zH (gD K hr) (cb ["name"] ["kinds"] [2] (.of rfl (by decide+kernel) rfl) rfl rfl (by decide+kernel) (aJ K (qv 1)) (λ_ _ _ _=>(zT (i:=0) (show Mj (["name","kinds"]:List Str) by decide+kernel) rfl (MP rfl))) (λ_ _ _ _=>a8) (λ_ _ _ _=>(FN (cC hr) (qv 1) (qv 0) cE ⟨rfl,rfl,rfl,rfl⟩))) (qv 4) (aF _))
  (zg (aq mD))
  zK)
  (zg (aq (zB (iH K) rfl B.all ir (qa1 (cb ["at"] ["net","way"] [0,1] (.of rfl (by decide+kernel) rfl) rfl rfl (by decide+kernel) (FR rfl B.range (zu zf (qa2 (zB (zU K) rfl B.len aG (qa1 (qv 1))) zf))) (λ_ _ _ _=>(zT (i:=0) (show Mj (["at","net","way"]:List Str) by decide+kernel) rfl (MP rfl))) (λ_ _ _ _=>a8) (λ_ _ _ _=>(zq h_joins hr (zu (qv 1) (qa2 (qv 2) (qv 0)))))))))))))),λ_=>by infer_instance⟩
theorem Iu(F:Fun K "_law_hop" "_law_hop" oP f fd)(B:Blt mg)(h_law_draw:fj P w K mg base)(h_law_pick:pG P w K mg base)(h_law_name:lC P w K mg base):zX P w K mg base CX0 3 f fd ["_law_s","_law_names","_law_lines","_law_one","_law_two","_law_barred"] (lift K jj) :=
 F.okB xV wM rfl λ_ _ _ _ _ _ hr=>have nd:=wM.nd;⟨_,(zc (fM ["_law_line"] ["_law_barred","_law_one"] [5,3] (i:=6) nd rfl rfl (.of rfl (by decide+kernel) rfl) rfl rfl (by decide+kernel) (aJ K (qv 2)) (λ_ _ _ _=>(zT (i:=0) (show Mj (["_law_line","_law_barred","_law_one"]:List Str) by decide+kernel) rfl (MP rfl))) (λ_ _ _ _=>(jN (WW.qt (rj (zH (ef K hr) (qx K (qv 0) zf) (qv 1) (by with_unfolding_all rfl)) (rh (WW.qt (eQ (zH (gG K hr) (qv 2) (qx K (qv 0) zf) (by with_unfolding_all rfl)) (fG (zH fq (zB (zU K) rfl B.len aG (qa1 (qx K (qv 0) zf))) zf (aF _)))))))))) (λ_ _ _ _=>(qv 0)))
  (zc (fM ["_law_line"] ["_law_two"] [4] (i:=6) nd rfl rfl (.of rfl (by decide+kernel) rfl) rfl rfl (by decide+kernel) (aJ K (qv 6)) (λ_ _ _ _=>(zT (i:=0) (show Mj (["_law_line","_law_two"]:List Str) by decide+kernel) rfl (MP rfl))) (λ_ _ _ _=>(jN (WW.qt (eQ (zH (gG K hr) (qv 1) (qx K (qv 0) zf) (by with_unfolding_all rfl)) (fG (zH fq (zB (zU K) rfl B.len aG (qa1 (qx K (qv 0) zf))) zf (aF _))))))) (λ_ _ _ _=>(qv 0)))
  (zc (ag (WW.qt (rj (zH fq (zB (zU K) rfl B.len aG (qa1 (qv 2))) zf (aF _)) (rh (WW.qt (eQ (zH (gC K hr) (zB (zU K) rfl B.len aG (qa1 (qv 6))) zf (aF _)) (fG (zH (gC K hr) (zq h_law_draw hr (qa2 (qv 0) zf)) zf (aF _))))))))
  (zc (zN (cH K Ml Mh Mi cY (qv 2) (qa1 (bM (zu (zq h_law_name hr (qa2 (qv 0) (qv 1))) (zu (r9 (bM (qa1 (qv 3)))) (qa2 (r9 (bM (qa1 (qv 4)))) (zq h_law_draw hr (qa2 (qv 0) zf)))))))))
  (zg (aq (qx K (qx K (qv 2) (eP eN zf)) zf))))
  zK)
  (zc (qS 7 nd (zq h_law_pick hr (qa2 (qv 0) (qv 6))))
  (zc (ag (zH (ef K hr) (qv 3) (qx K (qv 7) zf) (by with_unfolding_all rfl))
  (zg (zN (cH K Ml Mh Mi cY (qx K (qv 7) zf) (qa1 (qv 3)))))
  zK)
  (zc (ag (zH (ef K hr) (qv 4) (qx K (qv 7) zf) (by with_unfolding_all rfl))
  (zg (zN (cH K Ml Mh Mi cY (qx K (qv 7) zf) (qa1 (qv 4)))))
  zK)
  (zg (aq (qx K (qv 7) zf))))))))),λ_=>by infer_instance⟩
theorem Iv(F:Fun K "check_ways" "check_ways" og f fd)(B:Blt mg)(h_check_both_ways:yZ P w K mg base)(h_check_way:y0 P w K mg base):zX P w K mg base CX0 4 f fd ["ways"] (lift K k7) :=
 F.okB xW vH rfl λ_ _ _ _ _ _ hr=>have nd:=vH.nd;⟨_,(zc (ag (zH (ef K hr) (zB (zU K) rfl B.len aG (qa1 (qv 0))) (eR (qa2 zf zf)) (by with_unfolding_all rfl))
  (zg zZ)
  zK)
  (zc (bT PassesOwn.never rfl (aJ K (qv 0)) (qG 1 nd)
  (zg (zN (zq h_check_way hr (qa1 (qv 1))))))
  (zg (ag (zH (gC K hr) (zB (zU K) rfl B.len aG (qa1 (qv 0))) zf (aF _))
  (zg (zN (zq h_check_both_ways hr (qa2 (qx K (qv 0) zf) (qx K (qv 0) zf)))))
  zK)))),λ_=>by infer_instance⟩
theorem Iw(F:Fun K "judge_frame" "judge_frame" ou f fd)(B:Blt mg)(h_line_times:y6 P w K mg base)(h_lies:y8 P w K mg base):zX P w K mg base CX0 4 f fd ["net","frame","slack"] (lift K k8) :=
 F.okB xX vZ rfl λ_ _ _ _ _ _ hr=>have nd:=vZ.nd;⟨_,(zc (ag (fH (gu (zB (iH K) rfl B.all ir (qa1 (cb ["way"] ["net"] [0] (.of rfl (by decide+kernel) rfl) rfl rfl (by decide+kernel) (aJ K (aM K (qv 1))) (λ_ _ _ _=>(zT (i:=0) (show Mj (["way","net"]:List Str) by decide+kernel) rfl (MP rfl))) (λ_ _ _ _=>a8) (λ_ _ _ _=>(zq h_lies hr (qa2 (qv 1) (qv 0)))))))))
  (zg zZ)
  zK)
  (zc (ag (zH pZ (zW (a7 K) (aM K (qv 1)) (qv 2)) (aM K (qv 1)) (aF _))
  (zg zZ)
  zK)
  (zc (qS 3 nd (zB (sE K) rfl B.max qX (qa1 (cb ["way"] ["frame","net","slack"] [1,0,2] (.of rfl (by decide+kernel) rfl) rfl rfl (by decide+kernel) (aJ K (aM K (qv 1))) (λ_ _ _ _=>(zT (i:=0) (show Mj (["way","frame","net","slack"]:List Str) by decide+kernel) rfl (MP rfl))) (λ_ _ _ _=>a8) (λ_ _ _ _=>(zB (DU K) rfl B.sum CD (qa1 (zq h_line_times hr (zu (qv 2) (zu (qv 1) (qa2 (qv 0) (qv 3))))))))))))
  (zg (ag (zH fq (aM K (qv 1)) (qv 3) (aF _))
  (zg zZ)
  zK))))),λ_=>by infer_instance⟩
theorem Ix(F:Fun K "check_new" "Net.check_new" oH f fd)(B:Blt mg)(h_check_name:pH P w K mg base):zX P w K mg base CX0 4 f fd ["self","name"] (lift K jk) :=
 F.okB xY wC rfl λ_ _ _ _ _ _ hr=>have nd:=wC.nd;⟨_,(zc (zN (zq h_check_name hr (qa1 (qv 1))))
  (zg (ag (zH (uo (cC hr)) (qv 1) (aM K (qv 0)) (by with_unfolding_all rfl))
  (zg zZ)
  zK))),λ_=>by infer_instance⟩
theorem Iy(F:Fun K "_law_way" "_law_way" oQ f fd)(B:Blt mg)(h_law_draw:fj P w K mg base)(h_law_pick:pG P w K mg base)(h_law_hop:y9 P w K mg base):zX P w K mg base CX0 4 f fd ["_law_s","_law_names","_law_lines","_law_gates","_law_first","_law_the_last","_law_barred"] (lift K jl) :=
 F.okB xZ wO rfl λ_ _ _ _ _ _ hr=>have nd:=wO.nd;⟨_,(zc (fM ["_law_gate"] ["_law_barred"] [6] (i:=7) nd rfl rfl (.of rfl (by decide+kernel) rfl) rfl rfl (by decide+kernel) (aJ K (qv 3)) (λ_ _ _ _=>(zT (i:=0) (show Mj (["_law_gate","_law_barred"]:List Str) by decide+kernel) rfl (MP rfl))) (λ_ _ _ _=>(jN (zH (ef K hr) (qv 0) (qv 1) (by with_unfolding_all rfl)))) (λ_ _ _ _=>(qv 0)))
  (zc (iM (qS 8 nd (bM (qa1 (qv 4)))))
  (zc (bT PassesOwn.never rfl (eS rfl B.range (qa1 (zB (sF K) rfl B.min qY (qa2 (zq h_law_draw hr (qa2 (qv 0) zf)) (zB (zU K) rfl B.len aG (qa1 (qv 7))))))) (qG 9 nd)
  (zc (qS 10 nd (zq h_law_pick hr (qa2 (qv 0) (qv 7))))
  (zc (fM ["_law_other"] ["_law_gate"] [10] (i:=7) nd rfl rfl (.of rfl (by decide+kernel) rfl) rfl rfl (by decide+kernel) (aJ K (qv 7)) (λ_ _ _ _=>(zT (i:=0) (show Mj (["_law_other","_law_gate"]:List Str) by decide+kernel) rfl (MP rfl))) (λ_ _ _ _=>(jN (zH (gD K hr) (qv 0) (qv 1) (aF _)))) (λ_ _ _ _=>(qv 0)))
  (zc (zN (cH K Ml Mh Mi cY (qv 8) (qa1 (zq h_law_hop hr (zu (qv 0) (zu (qv 1) (zu (qv 2) (zu (qx K (qv 8) (eP eN zf)) (qa2 (qv 10) (zW (a7 K) (qv 6) (qv 8)))))))))))
  (zg (zN (cH K Ml Mh Mi cY (qv 8) (qa1 (qv 10)))))))))
  (zc (zN (cH K Ml Mh Mi cY (qv 8) (qa1 (zq h_law_hop hr (zu (qv 0) (zu (qv 1) (zu (qv 2) (zu (qx K (qv 8) (eP eN zf)) (qa2 (qv 5) (zW (a7 K) (qv 6) (qv 8)))))))))))
  (zc (zN (cH K Ml Mh Mi cY (qv 8) (qa1 (qv 5))))
  (zg (aq (dr (gE K) rfl B.tuple fF (qa1 (qv 8)))))))))),λ_=>by infer_instance⟩
theorem Iz(F:Fun K "__init__" "Frame.__init__" oe f fd)(B:Blt mg)(h_check_name:pH P w K mg base)(h_check_number:lD P w K mg base)(h_check_ways:y_ P w K mg base){u_MOST_LONG:Value}(c_MOST_LONG:mg "MOST_LONG"=some u_MOST_LONG)(c_MOST_LONG_r:RelV (.int 30) u_MOST_LONG){u_LAST:Value}(c_LAST:mg "LAST"=some u_LAST)(c_LAST_r:RelV (.int 480) u_LAST){a_ROUNDS:Addr}(c_ROUNDS:mg "ROUNDS"=some (.ref a_ROUNDS))[KTup K a_ROUNDS [4,5,6,8,10,12,15,20,24,30,40,60,120]]:zX P w K mg base CX0 5 f fd ["self","name","ways","every","long","release","last"] (lift K g9) :=
 F.okB x8 vF rfl λ_ _ _ _ _ _ hr=>have nd:=vF.nd;⟨_,(zc (zN (zq h_check_name hr (qa1 (qv 1))))
  (zc (zN (zq h_check_ways hr (qa1 (qv 2))))
  (zc (ag (zH (ef K hr) (qv 3) (cF (v:= .ref a_ROUNDS) rfl c_ROUNDS rfl) (by with_unfolding_all rfl))
  (zg zZ)
  zK)
  (zc (zN (zq h_check_number hr (zu (qv 4) (qa2 zf (cF rfl c_MOST_LONG c_MOST_LONG_r)))))
  (zc (zN (zq h_check_number hr (zu (qv 5) (qa2 zf (zW fo (qv 3) zf)))))
  (zc (zN (zq h_check_number hr (zu (qv 6) (qa2 zf (cF rfl c_LAST c_LAST_r)))))
  (zc (eT K (qv 0) (qv 1))
  (zc (eT K (qv 0) (qv 2))
  (zc (eT K (qv 0) (qv 3))
  (zc (eT K (qv 0) (qv 4))
  (zc (eT K (qv 0) (qv 5))
  (zg (eT K (qv 0) (qv 6)))))))))))))),λ_=>by infer_instance⟩
theorem IA(F:Fun K "judge_lot" "judge_lot" ot f fd)(B:Blt mg)(h_by_name:pC P w K mg base)(h_check_number:lD P w K mg base)(h_judge_frame:zd P w K mg base){u_MOST_SLACK:Value}(c_MOST_SLACK:mg "MOST_SLACK"=some u_MOST_SLACK)(c_MOST_SLACK_r:RelV (.int 30) u_MOST_SLACK){u_MOST_FRAMES:Value}(c_MOST_FRAMES:mg "MOST_FRAMES"=some u_MOST_FRAMES)(c_MOST_FRAMES_r:RelV (.int 8) u_MOST_FRAMES):zX P w K mg base CX0 5 f fd ["net","frames","slack"] (lift K k9) :=
 F.okB x_ vX rfl λ_ _ _ _ _ _ hr=>have nd:=vX.nd;⟨_,(zc (zN (zq h_check_number hr (zu (qv 2) (qa2 zf (cF rfl c_MOST_SLACK c_MOST_SLACK_r)))))
  (zc (ag (zH pZ (zB (zU K) rfl B.len aG (qa1 (qv 1))) (cF rfl c_MOST_FRAMES c_MOST_FRAMES_r) (aF _))
  (zg zZ)
  zK)
  (zc (qS 3 nd (zq h_by_name hr (qa1 (qv 1))))
  (zc (bT PassesOwn.never rfl (Eh K rfl B.zip (qa2 (qv 3) (fK (gB K) (qv 3) (cu zf) fJ))) (gx (n:=2) K rfl (bz (qG 4 nd) (bz (qG 5 nd) fL)))
  (zg (ag (zH (gC K hr) (aM K (qv 4)) (aM K (qv 5)) (aF _))
  (zg zZ)
  zK)))
  (zg (bT PassesOwn.never rfl (aJ K (qv 3)) (qG 6 nd)
  (zg (zN (zq h_judge_frame hr (zu (qv 0) (qa2 (qv 6) (qv 2)))))))))))),λ_=>by infer_instance⟩
theorem IB(F:Fun K "line" "Net.line" oB f fd)(B:Blt mg)(h_check_ends:ze P w K mg base)(h_check_number:lD P w K mg base)(hT_Net_check_new_2:pI P w K mg base)(hT_Net_check_nodes_2:zh P w K mg base){u_MOST_LINES:Value}(c_MOST_LINES:mg "MOST_LINES"=some u_MOST_LINES)(c_MOST_LINES_r:RelV (.int 16) u_MOST_LINES){u_MOST_WIRE:Value}(c_MOST_WIRE:mg "MOST_WIRE"=some u_MOST_WIRE)(c_MOST_WIRE_r:RelV (.int 30) u_MOST_WIRE):zX P w K mg base CX0 5 f fd ["self","name","senders","ears","wire"] (lift K k_) :=
 F.okB ya wm rfl λ_ _ _ _ _ _ hr=>have nd:=wm.nd;⟨_,(zc (zN (cT (pl:=_) K hT_Net_check_new_2 hr (qv 0) (qa1 (qv 1)) ca))
  (zc (ag (zH lS (zB nt rfl B.len aG (qa1 (aM K (qv 0)))) (cF rfl c_MOST_LINES c_MOST_LINES_r) (aF _))
  (zg zZ)
  zK)
  (zc (zN (zq h_check_ends hr (qa1 (qv 2))))
  (zc (zN (zq h_check_ends hr (qa1 (qv 3))))
  (zc (zN (cT (pl:=_) K hT_Net_check_nodes_2 hr (qv 0) (qa1 (qv 2)) ca))
  (zc (zN (cT (pl:=_) K hT_Net_check_nodes_2 hr (qv 0) (qa1 (qv 3)) ca))
  (zc (zN (zq h_check_number hr (zu (qv 4) (qa2 zf (cF rfl c_MOST_WIRE c_MOST_WIRE_r)))))
  (zc (nq (cC hr) (aM K (qv 0)) (qv 1) cE)
  (zg (nq (cC hr) (aM K (qv 0)) (qv 1) (eR (zu (dr (gE K) rfl B.tuple fF (qa1 (zB (ko K) rfl B.sorted jI (qa1 (qv 2))))) (qa2 (dr (gE K) rfl B.tuple fF (qa1 (zB (ko K) rfl B.sorted jI (qa1 (qv 3))))) (qv 4)))))))))))))),λ_=>by infer_instance⟩
theorem IC(F:Fun K "put_node" "Net.put_node" oG f fd)(B:Blt mg)(hT_Net_check_new_2:pI P w K mg base){u_MOST_NODES:Value}(c_MOST_NODES:mg "MOST_NODES"=some u_MOST_NODES)(c_MOST_NODES_r:RelV (.int 16) u_MOST_NODES):zX P w K mg base CX0 5 f fd ["self","name","kind"] (lift K jm) :=
 F.okB yb wz rfl λ_ _ _ _ _ _ hr=>have nd:=wz.nd;⟨_,(zc (zN (cT (pl:=_) K hT_Net_check_new_2 hr (qv 0) (qa1 (qv 1)) ca))
  (zc (ag (zH lS (zW fo (zB nt rfl B.len aG (qa1 (aM K (qv 0)))) (zB nt rfl B.len aG (qa1 (aM K (qv 0))))) (cF rfl c_MOST_NODES c_MOST_NODES_r) (aF _))
  (zg zZ)
  zK)
  (zg (nq (cC hr) (aM K (qv 0)) (qv 1) (qv 2))))),λ_=>by infer_instance⟩
theorem ID(F:Fun K "_law_row" "_law_row" oS f fd)(B:Blt mg)(h_law_draw:fj P w K mg base)(h_law_need:zi P w K mg base)(h_law_name:lC P w K mg base)(h_law_way:zk P w K mg base):zX P w K mg base CX0 5 f fd ["_law_s","_law_names","_law_lines","_law_houses","_law_gates","_law_the_slack"] (lift K ld) :=
 F.okB yc wS rfl λ_ _ _ _ _ _ hr=>have nd:=wS.nd;⟨_,(zc (qS 6 nd (zq h_law_draw hr (qa2 (qv 0) (zB (zU K) rfl B.len aG (qa1 (qv 3))))))
  (zc (qS 7 nd (qx K (qv 3) (qv 6)))
  (zc (qS 8 nd (qx K (qv 3) (zW gm (zW (a7 K) (zW (a7 K) (qv 6) zf) (zq h_law_draw hr (qa2 (qv 0) (zW fo (zB (zU K) rfl B.len aG (qa1 (qv 3))) zf)))) (zB (zU K) rfl B.len aG (qa1 (qv 3))))))
  (zc (iM (qS 9 nd (bM (qa1 (zq h_law_way hr (zu (qv 0) (zu (qv 1) (zu (qv 2) (zu (qv 4) (zu (qv 7) (qa2 (qv 8) (bM dq))))))))))))
  (zc (ag (zH (gC K hr) (zq h_law_draw hr (qa2 (qv 0) zf)) zf (aF _))
  (zg (zN (cH K Ml Mh Mi cY (qv 9) (qa1 (zq h_law_way hr (zu (qv 0) (zu (qv 1) (zu (qv 2) (zu (qv 4) (zu (qv 7) (qa2 (qv 8) (dr (DY K) rfl B.list mz (qa1 (fK (gB K) (qx K (qv 9) zf) (cu zf) (cu (eP eN zf))))))))))))))))
  zK)
  (zc (qS 10 nd (qx K (bM (rl [12,8,20,24,10,30,15,40,60,12,120] rfl)) (zq h_law_draw hr (qa2 (qv 0) zf))))
  (zc (qS 11 nd (zW (a7 K) zf (zq h_law_draw hr (qa2 (qv 0) (zB (sF K) rfl B.min qY (qa2 zf (zW fo (qv 10) (qv 5))))))))
  (zc (qS 12 nd (eR (zu (zq h_law_name hr (qa2 (qv 0) (qv 1))) (zu (dr (gE K) rfl B.tuple fF (qa1 (qv 9))) (zu (qv 10) (zu (qv 11) (qa2 (zq h_law_draw hr (qa2 (qv 0) (qv 10))) zf)))))))
  (zc (qS 13 nd (qx K (bM (zu zf (zu zf (zu zf (zu (zW ip (qv 10) zf) (zu zf (qa2 (zW fo (qv 10) zf) zf))))))) (zq h_law_draw hr (qa2 (qv 0) zf))))
  (zg (aq (zW (a7 K) (fK (gB K) (qv 12) fJ (cu zf)) (eR (qa1 (zW (a7 K) (zq h_law_need hr (zu (qv 12) (qa2 (qv 2) (qv 5)))) (qv 13)))))))))))))))),λ_=>by infer_instance⟩
theorem IE(F:Fun K "house" "Net.house" oz f fd)(B:Blt mg)(hT_Net_put_node_3:pJ P w K mg base):zX P w K mg base CX0 6 f fd ["self","name"] (lift K lf) :=
 F.okB yd wd rfl λ_ _ _ _ _ _ hr=>have nd:=wd.nd;⟨_,(zg (zN (cT (pl:=_) K hT_Net_put_node_3 hr (qv 0) (qa2 (qv 1) cE) ca))),λ_=>by infer_instance⟩
theorem IF(F:Fun K "gate" "Net.gate" oA f fd)(B:Blt mg)(hT_Net_put_node_3:pJ P w K mg base):zX P w K mg base CX0 6 f fd ["self","name"] (lift K lg) :=
 F.okB ye wg rfl λ_ _ _ _ _ _ hr=>have nd:=wg.nd;⟨_,(zg (zN (cT (pl:=_) K hT_Net_put_node_3 hr (qv 0) (qa2 (qv 1) cE) ca))),λ_=>by infer_instance⟩
theorem IG(F:Fun K "_law_world" "_law_world" oT f fd)(B:Blt mg)(h_law_draw:fj P w K mg base)(h_law_name:lC P w K mg base)(h_law_row:zl P w K mg base):zX P w K mg base CX0 6 f fd ["_law_s","_law_the_most"] (lift K lh) :=
 F.okB yf wU rfl λ_ _ _ _ _ _ hr=>have nd:=wU.nd;⟨_,(zc (iM (qS 2 nd (bM dq)))
  (zc (qS 3 nd (cb ["_law_k"] ["_law_names","_law_s"] [2,0] (.of rfl (by decide+kernel) rfl) rfl rfl (by decide+kernel) (eS rfl B.range (qa1 (zW (a7 K) zf (zq h_law_draw hr (qa2 (qv 0) zf))))) (λ_ _ _ _=>(zT (i:=0) (show Mj (["_law_k","_law_names","_law_s"]:List Str) by decide+kernel) rfl (MP rfl))) (λ_ _ _ _=>a8) (λ_ _ _ _=>(zq h_law_name hr (qa2 (qv 2) (qv 1))))))
  (zc (qS 4 nd (cb ["_law_k"] ["_law_names","_law_s"] [2,0] (.of rfl (by decide+kernel) rfl) rfl rfl (by decide+kernel) (eS rfl B.range (qa1 (zq h_law_draw hr (qa2 (qv 0) zf)))) (λ_ _ _ _=>(zT (i:=0) (show Mj (["_law_k","_law_names","_law_s"]:List Str) by decide+kernel) rfl (MP rfl))) (λ_ _ _ _=>a8) (λ_ _ _ _=>(zq h_law_name hr (qa2 (qv 2) (qv 1))))))
  (zc (qS 5 nd (qx K (bM (rl [0,1,2,0,3,1,5,7] rfl)) (zq h_law_draw hr (qa2 (qv 0) zf))))
  (zc (iM (qS 6 nd (bM dq)))
  (zc (fM ["_law_k"] ["_law_gates","_law_houses","_law_lines","_law_names","_law_s","_law_the_slack"] [4,3,6,2,0,5] (i:=7) nd rfl rfl (.of rfl (by decide+kernel) rfl) rfl rfl (by decide+kernel) (eS rfl B.range (qa1 (zW (a7 K) zf (zq h_law_draw hr (qa2 (qv 0) (qv 1)))))) (λ_ _ _ _=>(zT (i:=0) (show Mj (["_law_k","_law_gates","_law_houses","_law_lines","_law_names","_law_s","_law_the_slack"]:List Str) by decide+kernel) rfl (MP rfl))) (λ_ _ _ _=>a8) (λ_ _ _ _=>(zq h_law_row hr (zu (qv 5) (zu (qv 4) (zu (qv 3) (zu (qv 2) (qa2 (qv 1) (qv 6)))))))))
  (zg (aq (eR (zu (qv 3) (zu (qv 4) (zu (qv 6) (zu (qv 7) (qa2 (qv 5) (qv 2))))))))))))))),λ_=>by infer_instance⟩
theorem IH(F:Fun K "_law_net" "_law_net" oU f fd)(B:Blt mg)(hM_NetD_initD_1:zn P w K mg base)(hT_Net_house_2:zo P w K mg base)(hT_Net_gate_2:zt P w K mg base)(hT_Net_line_4_wire:zv P w K mg base):zX P w K mg base CX0 7 f fd ["_law_world_here"] (lift K li) :=
 F.okB yg wW rfl λ_ _ _ _ _ _ hr=>have nd:=wW.nd;⟨_,(zc (qS 1 nd (ER K hM_NetD_initD_1 hr))
  (zc (bT PassesOwn.never rfl (aJ K (qx K (qv 0) zf)) (qG 2 nd)
  (zg (zN (cT (pl:=_) K hT_Net_house_2 hr (qv 1) (qa1 (qv 2)) ca))))
  (zc (bT PassesOwn.never rfl (aJ K (qx K (qv 0) zf)) (qG 2 nd)
  (zg (zN (cT (pl:=_) K hT_Net_gate_2 hr (qv 1) (qa1 (qv 2)) ca))))
  (zc (bT PassesOwn.never rfl (aJ K (qx K (qv 0) zf)) (FF (n:=4) (K:=K) rfl (bz (qG 2 nd) (bz (qG 3 nd) (bz (qG 4 nd) (bz (qG 5 nd) fL)))))
  (zg (zN (cT (pl:=_) K hT_Net_line_4_wire hr (qv 1) (zu (qv 2) (qa2 (dr (gE K) rfl B.tuple fF (qa1 (qv 3))) (dr (gE K) rfl B.tuple fF (qa1 (qv 4))))) (gw (qv 5) ca)))))
  (zg (aq (qv 1))))))),λ_=>by infer_instance⟩
theorem II(F:Fun K "_law_frame" "_law_frame" oV f fd)(B:Blt mg)(hM_FrameD_initD_3_every_long_release_last:zw P w K mg base):zX P w K mg base CX0 7 f fd ["_law_row_here"] (lift K lj) :=
 F.okB yh wY rfl λ_ _ _ _ _ _ hr=>have nd:=wY.nd;⟨_,(zg (aq (EQ K hM_FrameD_initD_3_every_long_release_last hr (qa2 (qx K (qv 0) zf) (qx K (qv 0) zf)) (gw (qx K (qv 0) zf) (gw (qx K (qv 0) zf) (gw (qx K (qv 0) zf) (gw (qx K (qv 0) zf) ca))))))),λ_=>by infer_instance⟩
theorem IJ(F:Fun K "_law_frames" "_law_frames" oW f fd)(B:Blt mg)(h_law_frame:zC P w K mg base):zX P w K mg base CX0 8 f fd ["_law_rows"] (lift K lq) :=
 F.okB yi w6 rfl λ_ _ _ _ _ _ hr=>have nd:=w6.nd;⟨_,(zg (aq (cb ["_law_row_here"] [] [] (.of rfl (by decide+kernel) rfl) rfl rfl (by decide+kernel) (aJ K (qv 0)) (λ_ _ _ _=>(zT (i:=0) (show Mj (["_law_row_here"]:List Str) by decide+kernel) rfl (MP rfl))) (λ_ _ _ _=>a8) (λ_ _ _ _=>(zq h_law_frame hr (qa1 (qv 0))))))),λ_=>by infer_instance⟩
def IK:DSp:=zL o7 o4 1
theorem IL(F:Fun K "law" "law" oZ f fd)(B:Blt mg)(h_law_start:zD P w K mg base)(h_law_draw:fj P w K mg base)(h_law_spots:zI P w K mg base)(h_law_whole:zS P w K mg base)(h_order:z_ P w K mg base)(h_law_world:Aa P w K mg base)(h_law_net:Ab P w K mg base)(h_law_frames:Ac P w K mg base)(hK_judge_lot_2_slack:Ad P w K mg base):zX P w K mg base CX0 9 f fd ["_law_script"] (lift K IK) :=
 F.okB o7 xf rfl λ_ _ _ _ _ _ hr=>have nd:=xf.nd;⟨_,(zc (qS 1 nd (zq h_law_start hr (qa1 (qv 0))))
  (zc (qS 2 nd (zq h_law_world hr (qa2 (qv 1) zf)))
  (zc (qS 3 nd (zq h_law_frames hr (qa1 (qx K (qv 2) zf))))
  (zc (qS 4 nd (zq h_law_draw hr (qa2 (qv 1) (zB (zU K) rfl B.len aG (qa1 (qv 3))))))
  (zc (qS 3 nd (zW (a7 K) (fK (gB K) (qv 3) (cu (qv 4)) fJ) (fK (gB K) (qv 3) fJ (cu (qv 4)))))
  (zc (fM ["_law_frame_here"] [] [] (i:=5) nd rfl rfl (.of rfl (by decide+kernel) rfl) rfl rfl (by decide+kernel) (aJ K (qv 3)) (λ_ _ _ _=>(zT (i:=0) (show Mj (["_law_frame_here"]:List Str) by decide+kernel) rfl (MP rfl))) (λ_ _ _ _=>a8) (λ_ _ _ _=>(aM K (qv 0))))
  (zc (ag (zH Ea (CN hK_judge_lot_2_slack hr (qa2 (zq h_law_net hr (qa1 (qv 2))) (qv 3)) (gw (qx K (qv 2) zf) ca)) CL (aF _))
  (zg (aq mD))
  zK)
  (zc (qS 6 nd (zq h_order hr (qa1 (qv 3))))
  (zc (fM ["_law_row_here","_law_k","_law_h","_law_line"] [] [] (i:=7) nd rfl rfl (.of rfl (by decide+kernel) rfl) rfl rfl (by decide+kernel) (aJ K (zq h_law_spots hr (qa1 (qx K (qv 2) zf)))) (λ_ _ _ _=>(gx (n:=4) K rfl (bz (zT (i:=0) (show Mj (["_law_row_here","_law_k","_law_h","_law_line"]:List Str) by decide+kernel) rfl (MP rfl)) (bz (zT (i:=1) (show Mj (["_law_row_here","_law_k","_law_h","_law_line"]:List Str) by decide+kernel) rfl (MP rfl)) (bz (zT (i:=2) (show Mj (["_law_row_here","_law_k","_law_h","_law_line"]:List Str) by decide+kernel) rfl (MP rfl)) (bz (zT (i:=3) (show Mj (["_law_row_here","_law_k","_law_h","_law_line"]:List Str) by decide+kernel) rfl (MP rfl)) fL)))))) (λ_ _ _ _=>a8) (λ_ _ _ _=>(eR (zu (qx K (qv 0) zf) (qa2 (qv 1) (qv 2))))))
  (zc (ag (WW.qt (eQ (zH (gD K hr) (cb ["_law_frame_here"] [] [] (.of rfl (by decide+kernel) rfl) rfl rfl (by decide+kernel) (aJ K (qv 3)) (λ_ _ _ _=>(zT (i:=0) (show Mj (["_law_frame_here"]:List Str) by decide+kernel) rfl (MP rfl))) (λ_ _ _ _=>a8) (λ_ _ _ _=>(aM K (qv 0)))) (qv 5) (aF _)) (eQ (fH (gu (zB (gL K) rfl B.isinstance gq (qa2 (qv 6) (gr (v:= .ty "list") rfl B.list mz rfl))))) (fG (zH (gD K hr) (qv 6) (qv 7) (aF _))))))
  (zg (aq mD))
  zK)
  (zg (aq (zB (iH K) rfl B.all ir (qa1 (cb ["_law_x"] [] [] (.of rfl (by decide+kernel) rfl) rfl rfl (by decide+kernel) (aJ K (qv 6)) (λ_ _ _ _=>(zT (i:=0) (show Mj (["_law_x"]:List Str) by decide+kernel) rfl (MP rfl))) (λ_ _ _ _=>a8) (λ_ _ _ _=>(gv (zB (gL K) rfl B.isinstance gq (qa2 (qv 0) (gr (v:= .ty "tuple") rfl B.tuple fF rfl))) (gv (zq h_law_whole hr (qa1 (qx K (qv 0) zf))) (iu (zq h_law_whole hr (qa1 (qx K (qv 0) zf)))))))))))))))))))))),λ_=>by infer_instance⟩
end
theorem IM{l:PH}{w:World}{h:Heap}{fa:Addr}(X:K.In h)(G:h.Ns mainGlobals mg)(hfa:mg "law"=some (.ref fa))
  {C_Frame:Addr}(q_Frame:kJ K "Frame" C_Frame eG)
  {C_Net:Addr}(q_Net:kJ K "Net" C_Net cn)
  (et0:kH K xo xp xq xr=true)
  {f0:Addr}{d0:FuncData}(p0:ao K "is_made_of" nY f0 d0)
  {f1:Addr}{d1:FuncData}(p1:ao K "is_name" nZ f1 d1)
  {f2:Addr}{d2:FuncData}(p2:ao K "check_name" n8 f2 d2)
  {f3:Addr}{d3:FuncData}(p3:ao K "is_number" n9 f3 d3)
  {f4:Addr}{d4:FuncData}(p4:ao K "check_whole" n_ f4 d4)
  {f5:Addr}{d5:FuncData}(p5:ao K "check_number" oa f5 d5)
  {f6:Addr}{d6:FuncData}(p6:b8 K C_Frame "__init__" "Frame.__init__" oe f6 d6)
  {f7:Addr}{d7:FuncData}(p7:ao K "check_ways" og f7 d7)
  {f8:Addr}{d8:FuncData}(p8:ao K "check_way" oh f8 d8)
  {f9:Addr}{d9:FuncData}(p9:ao K "check_both_ways" oi f9 d9)
  {f10:Addr}{d10:FuncData}(p10:ao K "lies" oj f10 d10)
  {f11:Addr}{d11:FuncData}(p11:ao K "joins" om f11 d11)
  {f12:Addr}{d12:FuncData}(p12:ao K "by_name" on f12 d12)
  {f13:Addr}{d13:FuncData}(p13:ao K "lines_of" oo f13 d13)
  {f14:Addr}{d14:FuncData}(p14:ao K "order" oq f14 d14)
  {f15:Addr}{d15:FuncData}(p15:ao K "judge_lot" ot f15 d15)
  {f16:Addr}{d16:FuncData}(p16:ao K "judge_frame" ou f16 d16)
  {f17:Addr}{d17:FuncData}(p17:ao K "line_times" ow f17 d17)
  {f18:Addr}{d18:FuncData}(p18:b8 K C_Net "__init__" "Net.__init__" oy f18 d18)
  {f19:Addr}{d19:FuncData}(p19:b8 K C_Net "house" "Net.house" oz f19 d19)
  {f20:Addr}{d20:FuncData}(p20:b8 K C_Net "gate" "Net.gate" oA f20 d20)
  {f21:Addr}{d21:FuncData}(p21:b8 K C_Net "line" "Net.line" oB f21 d21)
  {f22:Addr}{d22:FuncData}(p22:b8 K C_Net "names" "Net.names" oC f22 d22)
  {f23:Addr}{d23:FuncData}(p23:b8 K C_Net "kind" "Net.kind" oE f23 d23)
  {f24:Addr}{d24:FuncData}(p24:b8 K C_Net "ends" "Net.ends" oF f24 d24)
  {f25:Addr}{d25:FuncData}(p25:b8 K C_Net "put_node" "Net.put_node" oG f25 d25)
  {f26:Addr}{d26:FuncData}(p26:b8 K C_Net "check_new" "Net.check_new" oH f26 d26)
  {f27:Addr}{d27:FuncData}(p27:b8 K C_Net "check_nodes" "Net.check_nodes" oI f27 d27)
  {f28:Addr}{d28:FuncData}(p28:ao K "check_ends" oJ f28 d28)
  {f29:Addr}{d29:FuncData}(p29:ao K "_law_start" oK f29 d29)
  {f30:Addr}{d30:FuncData}(p30:ao K "_law_draw" oM f30 d30)
  {f31:Addr}{d31:FuncData}(p31:ao K "_law_pick" oN f31 d31)
  {f32:Addr}{d32:FuncData}(p32:ao K "_law_name" oO f32 d32)
  {f33:Addr}{d33:FuncData}(p33:ao K "_law_hop" oP f33 d33)
  {f34:Addr}{d34:FuncData}(p34:ao K "_law_way" oQ f34 d34)
  {f35:Addr}{d35:FuncData}(p35:ao K "_law_need" oR f35 d35)
  {f36:Addr}{d36:FuncData}(p36:ao K "_law_row" oS f36 d36)
  {f37:Addr}{d37:FuncData}(p37:ao K "_law_world" oT f37 d37)
  {f38:Addr}{d38:FuncData}(p38:ao K "_law_net" oU f38 d38)
  {f39:Addr}{d39:FuncData}(p39:ao K "_law_frame" oV f39 d39)
  {f40:Addr}{d40:FuncData}(p40:ao K "_law_frames" oW f40 d40)
  {f41:Addr}{d41:FuncData}(p41:ao K "_law_spots" oX f41 d41)
  {f42:Addr}{d42:FuncData}(p42:ao K "_law_whole" oY f42 d42)
  {f43:Addr}{d43:FuncData}(p43:ao K "law" oZ f43 d43)
  (z_len:nsIn K mainGlobals "len"=some none)
  (z_abs:nsIn K mainGlobals "abs"=some none)
  (z_max:nsIn K mainGlobals "max"=some none)
  (z_min:nsIn K mainGlobals "min"=some none)
  (z_all:nsIn K mainGlobals "all"=some none)
  (z_any:nsIn K mainGlobals "any"=some none)
  (z_sum:nsIn K mainGlobals "sum"=some none)
  (z_sorted:nsIn K mainGlobals "sorted"=some none)
  (z_isinstance:nsIn K mainGlobals "isinstance"=some none)
  (z_list:nsIn K mainGlobals "list"=some none)
  (z_tuple:nsIn K mainGlobals "tuple"=some none)
  (z_int:nsIn K mainGlobals "int"=some none)
  (z_bool:nsIn K mainGlobals "bool"=some none)
  (z_str:nsIn K mainGlobals "str"=some none)
  (z_set:nsIn K mainGlobals "set"=some none)
  (z_dict:nsIn K mainGlobals "dict"=some none)
  (z_zip:nsIn K mainGlobals "zip"=some none)
  (z_range:nsIn K mainGlobals "range"=some none)
  (z_enumerate:nsIn K mainGlobals "enumerate"=some none)
  (z_reversed:nsIn K mainGlobals "reversed"=some none)
  (z_repr:nsIn K mainGlobals "repr"=some none)
  {u_MOST_SLACK:Value}(g_MOST_SLACK:nsIn K mainGlobals "MOST_SLACK"=some (some u_MOST_SLACK))
  (v_MOST_SLACK:cv u_MOST_SLACK=some 30)
  {u_MOST_FRAMES:Value}(g_MOST_FRAMES:nsIn K mainGlobals "MOST_FRAMES"=some (some u_MOST_FRAMES))
  (v_MOST_FRAMES:cv u_MOST_FRAMES=some 8)
  {u_MOST_LINES:Value}(g_MOST_LINES:nsIn K mainGlobals "MOST_LINES"=some (some u_MOST_LINES))
  (v_MOST_LINES:cv u_MOST_LINES=some 16)
  {u_MOST_WIRE:Value}(g_MOST_WIRE:nsIn K mainGlobals "MOST_WIRE"=some (some u_MOST_WIRE))
  (v_MOST_WIRE:cv u_MOST_WIRE=some 30)
  {u_LETTERS:Value}(g_LETTERS:nsIn K mainGlobals "LETTERS"=some (some u_LETTERS))
  (v_LETTERS:nj u_LETTERS=some "abcdefghijklmnopqrstuvwxyz")
  {u_MOST_LETTERS:Value}(g_MOST_LETTERS:nsIn K mainGlobals "MOST_LETTERS"=some (some u_MOST_LETTERS))
  (v_MOST_LETTERS:cv u_MOST_LETTERS=some 8)
  {u_MOST_ENDS:Value}(g_MOST_ENDS:nsIn K mainGlobals "MOST_ENDS"=some (some u_MOST_ENDS))
  (v_MOST_ENDS:cv u_MOST_ENDS=some 6)
  {u_MOST_NODES:Value}(g_MOST_NODES:nsIn K mainGlobals "MOST_NODES"=some (some u_MOST_NODES))
  (v_MOST_NODES:cv u_MOST_NODES=some 16)
  {u_MOST_LONG:Value}(g_MOST_LONG:nsIn K mainGlobals "MOST_LONG"=some (some u_MOST_LONG))
  (v_MOST_LONG:cv u_MOST_LONG=some 30)
  {u_LAST:Value}(g_LAST:nsIn K mainGlobals "LAST"=some (some u_LAST))
  (v_LAST:cv u_LAST=some 480)
  {aT_ROUNDS:Addr}(g_ROUNDS:nsIn K mainGlobals "ROUNDS"=some (some (.ref aT_ROUNDS)))
  {oT_ROUNDS:Obj}(lo_ROUNDS:K.lookup aT_ROUNDS=some oT_ROUNDS)
  (ti_ROUNDS:jO oT_ROUNDS=some ([4,5,6,8,10,12,15,20,24,30,40,60,120]:List Int))
  {aT_WAY_LENGTHS:Addr}(g_WAY_LENGTHS:nsIn K mainGlobals "WAY_LENGTHS"=some (some (.ref aT_WAY_LENGTHS)))
  {oT_WAY_LENGTHS:Obj}(lo_WAY_LENGTHS:K.lookup aT_WAY_LENGTHS=some oT_WAY_LENGTHS)
  (ti_WAY_LENGTHS : jO oT_WAY_LENGTHS = some ([3, 5, 7] : List Int))
   (d_judge_lot_2_slack:cy K d15 ["net","frames","slack"] ["slack"] 2 1 [.p 0,.p 1,.k 0] [])
   (d_Net_ends_2:cy K d24 ["self","name"] [] 2 0 [.p 0,.p 1] [])
   (d_Net_names_1:cy K d22 ["self"] [] 1 0 [.p 0] [])
   (d_Net_kind_2:cy K d23 ["self","name"] [] 2 0 [.p 0,.p 1] [])
   (d_NetD_initD_1:cy K d18 ["self"] [] 1 0 [.p 0] [])
   (d_Net_house_2:cy K d19 ["self","name"] [] 2 0 [.p 0,.p 1] [])
   (d_Net_gate_2:cy K d20 ["self","name"] [] 2 0 [.p 0,.p 1] [])
   (d_Net_line_4_wire:cy K d21 ["self","name","senders","ears","wire"] ["wire"] 4 1 [.p 0,.p 1,.p 2,.p 3,.k 0] [])
   (d_Net_check_new_2:cy K d26 ["self","name"] [] 2 0 [.p 0,.p 1] [])
   (d_Net_check_nodes_2:cy K d27 ["self","ends"] [] 2 0 [.p 0,.p 1] [])
   (d_Net_put_node_3:cy K d25 ["self","name","kind"] [] 3 0 [.p 0,.p 1,.p 2] [])
   (d_FrameD_initD_3_every_long_release_last:cy K d6 ["self","name","ways","every","long","release","last"] ["every","long","release","last"] 3 4 [.p 0,.p 1,.p 2,.k 0,.k 1,.k 2,.k 3] [])
  (lT9:tabIn K "by_name"=some (cL,PL))(hcL:d12.code= .ref cL)
  : ∃fd:FuncData,(∀(s:Shared) (v:Value),BindsTo s fd ⟨[v],[]⟩ [("_law_script",v)])/\∀base:Heap,K.In base->base.Ns mainGlobals mg->eF base mg cL PL->zX l.prog w K mg base CX0 9 fa fd ["_law_script"] (kI K PL):=by
 have e:=hfa.symm.trans (mg_of X G p43.at_);cases e;have B:Blt mg:=⟨MI X G z_len,MI X G z_abs,MI X G z_max,MI X G z_min,MI X G z_all,MI X G z_any,MI X G z_sum,MI X G z_sorted,MI X G z_isinstance,MI X G z_list,MI X G z_tuple,MI X G z_int,MI X G z_bool,MI X G z_str,MI X G z_set,MI X G z_dict,MI X G z_zip,MI X G z_range,MI X G z_enumerate,MI X G z_reversed,MI X G z_repr⟩;haveI tk:TabOk K tab:=tV (gO q_Frame.at_) q_Frame.cl q_Frame.na (tV (gO q_Net.at_) q_Net.cl q_Net.na (ET))
 haveI kt_ROUNDS:KTup K aT_ROUNDS [4,5,6,8,10,12,15,20,24,30,40,60,120]:=⟨λH=>rq lo_ROUNDS ti_ROUNDS H⟩
 haveI kt_WAY_LENGTHS:KTup K aT_WAY_LENGTHS [3,5,7]:=⟨λH=>rq lo_WAY_LENGTHS ti_WAY_LENGTHS H⟩
 haveI ic_Frame:jS K "Frame" C_Frame:=⟨gO q_Frame.at_,by decide+kernel⟩
 haveI ic_Net:jS K "Net" C_Net:=⟨gO q_Net.at_,by decide+kernel⟩
 haveI et:eE K xo xp xq xr:=⟨et0⟩
 refine⟨d43,λs v=>by obtain⟨e,y⟩:=p43;obtain⟨_,_,kV,_,_,_,_,_,_,rfl,_,_⟩:=e.F.ex;have y1:kV.1= .none:=y;exact .of_eq (by rw[y1];rfl),λbase _ _ lb9=>?_⟩;haveI lp9:nV K "by_name" PL:=⟨⟨_,lT9⟩⟩
 have h_is_made_of:yT l.prog w K mg base:=p0.has p0.bd X G (HR p0.F B );have h_is_number:yU l.prog w K mg base:=p3.has p3.bd X G (HS p3.F B );have h_check_both_ways:yZ l.prog w K mg base:=p9.has p9.bd X G (HU p9.F B );have h_by_name:pC l.prog w K mg base:=p12.has p12.bd X G (HV p12.F B  lb9 hcL);have h_lines_of:pE l.prog w K mg base:=p13.has p13.bd X G (HW p13.F B );have hM_NetD_initD_1:zn l.prog w K mg base:=p18.hasM q_Net X G (HX p18.F B ) (kbk d_NetD_initD_1 .nil);have hT_Net_names_1:yX l.prog w K mg base:=p22.hasT q_Net (HY p22.F B ) (kbk d_Net_names_1 .nil);have hT_Net_kind_2:yY l.prog w K mg base:=p23.hasT q_Net (HZ p23.F B ) (kbk d_Net_kind_2 .nil);have hT_Net_ends_2:pB l.prog w K mg base:=p24.hasT q_Net (H_ p24.F B ) (kbk d_Net_ends_2 .nil);have hT_Net_check_nodes_2:zh l.prog w K mg base:=p27.hasT q_Net (Ia p27.F B ) (kbk d_Net_check_nodes_2 .nil);have h_check_ends:ze l.prog w K mg base:=p28.has p28.bd X G (Ib p28.F B (mg_of X G g_MOST_ENDS) (du v_MOST_ENDS));have h_law_start:zD l.prog w K mg base:=p29.has p29.bd X G (GI p29.F B);have h_law_draw:fj l.prog w K mg base:=p30.has p30.bd X G (GH p30.F B);have h_law_need:zi l.prog w K mg base:=p35.has p35.bd X G (Ic p35.F B );have h_law_spots:zI l.prog w K mg base:=p41.has p41.bd X G (Ie p41.F B );have h_law_whole:zS l.prog w K mg base:=p42.has p42.bd X G (Ig p42.F B );have h_is_name:pF l.prog w K mg base:=p1.has p1.bd X G (Ih p1.F B h_is_made_of (mg_of X G g_LETTERS) (Fv v_LETTERS) (mg_of X G g_MOST_LETTERS) (du v_MOST_LETTERS));have h_check_whole:yV l.prog w K mg base:=p4.has p4.bd X G (Ii p4.F B h_is_number);have h_joins:yW l.prog w K mg base:=p11.has p11.bd X G (Ij p11.F B hT_Net_ends_2);have h_order:z_ l.prog w K mg base:=p14.has p14.bd X G (Ik p14.F B h_by_name h_lines_of);have h_line_times:y6 l.prog w K mg base:=p17.has p17.bd X G (Il p17.F B h_lines_of hT_Net_ends_2);have h_law_pick:pG l.prog w K mg base:=p31.has p31.bd X G (Im p31.F B h_law_draw);have h_law_name:lC l.prog w K mg base:=p32.has p32.bd X G (Io p32.F B h_law_draw);have h_check_name:pH l.prog w K mg base:=p2.has p2.bd X G (Ip p2.F B h_is_name);have h_check_number:lD l.prog w K mg base:=p5.has p5.bd X G (Iq p5.F B h_check_whole);have h_check_way:y0 l.prog w K mg base:=p8.has p8.bd X G (Ir p8.F B h_is_name (mg_of X G g_WAY_LENGTHS));have h_lies:y8 l.prog w K mg base:=p10.has p10.bd X G (Is p10.F B h_joins hT_Net_names_1 hT_Net_kind_2);have h_law_hop:y9 l.prog w K mg base:=p33.has p33.bd X G (Iu p33.F B h_law_draw h_law_pick h_law_name);have h_check_ways:y_ l.prog w K mg base:=p7.has p7.bd X G (Iv p7.F B h_check_both_ways h_check_way);have h_judge_frame:zd l.prog w K mg base:=p16.has p16.bd X G (Iw p16.F B h_line_times h_lies);have hT_Net_check_new_2:pI l.prog w K mg base:=p26.hasT q_Net (Ix p26.F B h_check_name) (kbk d_Net_check_new_2 .nil);have h_law_way:zk l.prog w K mg base:=p34.has p34.bd X G (Iy p34.F B h_law_draw h_law_pick h_law_hop);have hM_FrameD_initD_3_every_long_release_last:zw l.prog w K mg base:=p6.hasM q_Frame X G (Iz p6.F B h_check_name h_check_number h_check_ways (mg_of X G g_MOST_LONG) (du v_MOST_LONG) (mg_of X G g_LAST) (du v_LAST) (mg_of X G g_ROUNDS)) (kbk d_FrameD_initD_3_every_long_release_last .nil);have hK_judge_lot_2_slack:Ad l.prog w K mg base:=p15.hasK X G (IA p15.F B h_by_name h_check_number h_judge_frame (mg_of X G g_MOST_SLACK) (du v_MOST_SLACK) (mg_of X G g_MOST_FRAMES) (du v_MOST_FRAMES)) (kbk d_judge_lot_2_slack .nil);have hT_Net_line_4_wire:zv l.prog w K mg base:=p21.hasT q_Net (IB p21.F B h_check_ends h_check_number hT_Net_check_new_2 hT_Net_check_nodes_2 (mg_of X G g_MOST_LINES) (du v_MOST_LINES) (mg_of X G g_MOST_WIRE) (du v_MOST_WIRE)) (kbk d_Net_line_4_wire .nil);have hT_Net_put_node_3:pJ l.prog w K mg base:=p25.hasT q_Net (IC p25.F B hT_Net_check_new_2 (mg_of X G g_MOST_NODES) (du v_MOST_NODES)) (kbk d_Net_put_node_3 .nil);have h_law_row:zl l.prog w K mg base:=p36.has p36.bd X G (ID p36.F B h_law_draw h_law_need h_law_name h_law_way);have hT_Net_house_2:zo l.prog w K mg base:=p19.hasT q_Net (IE p19.F B hT_Net_put_node_3) (kbk d_Net_house_2 .nil);have hT_Net_gate_2:zt l.prog w K mg base:=p20.hasT q_Net (IF p20.F B hT_Net_put_node_3) (kbk d_Net_gate_2 .nil);have h_law_world:Aa l.prog w K mg base:=p37.has p37.bd X G (IG p37.F B h_law_draw h_law_name h_law_row);have h_law_net:Ab l.prog w K mg base:=p38.has p38.bd X G (IH p38.F B hM_NetD_initD_1 hT_Net_house_2 hT_Net_gate_2 hT_Net_line_4_wire);have h_law_frame:zC l.prog w K mg base:=p39.has p39.bd X G (II p39.F B hM_FrameD_initD_3_every_long_release_last);have h_law_frames:Ac l.prog w K mg base:=p40.has p40.bd X G (IJ p40.F B h_law_frame);exact(IL p43.F B h_law_start h_law_draw h_law_spots h_law_whole h_order h_law_world h_law_net h_law_frames hK_judge_lot_2_slack).imp λvs H Q E h=>Eb HQ (GE lT9 vs H Q E h)
theorem walk{l:PH}{q:Program}{loose:List Str}{XP:(Str->Option Value)->Heap->Prop}{YP:World->Heap->Prop}{d dL:DefRec}{K:Params->Frag}(hn:l.most=some 63)(hdf:d.params.defaults=[])
  (hY:∀(w:World) (h:Heap),YP w h->(K w.params).In h)(hf:SW (λe=>e.name==L6 "by_name") (SU q)=some dL)(hT:∀w:World,tabIn (K w.params) "by_name"=some (cL,PL))(hKP:∀w:World,(K w.params).lookup PL=none)
  (F:∀(w:World) (mg:Str->Option Value) (fa:Addr) (h:Heap),(K w.params).In h->h.Ns mainGlobals mg->mg d.name=some (.ref fa) ->
   ∃fd:FuncData,(∀(s:Shared) (u:Value),BindsTo s fd ⟨[u],[]⟩ [("_law_script",u)])/\∀base:Heap,(K w.params).In base->base.Ns mainGlobals mg->eF base mg cL PL->zX l.prog w (K w.params) mg base CX0 9 fa fd ["_law_script"] (kI (K w.params) PL)) :
  Sl q loose XP YP l.row.toRowW d [] (λf vs=>RF f vs) :=
 L2.GC (n:=63) (k:=9) (x:="_law_script") (CX:=λ_=>CX0) (sp:=λw=>kI (K w.params) PL) hn (by decide) hdf ⟨λ_=>rfl,by decide,by decide,rfl⟩ hY hf hT hKP F (λ_ _ a ns hl hP hS=>⟨a,ns,rfl,hS,hl,hP,λ_=>rfl⟩) λ_ _ _ _ _ z=>z
end M
open PySem PySem.W PyProof.Rows L2
set_option maxRecDepth 100000 in
set_option maxHeartbeats 0 in
theorem PySem.Challenge.cw_slotwright_k14_starts_in_order_holds : PySem.Challenge.rw_slotwright_k14_starts_in_order.Holds := by
 refine H0.hd0 ?_;k_fill
 refine M.walk (l:=PySem.Challenge.rw_slotwright_k14_starts_in_order) (cL:=297) (PL:=293) (dL:=?dL) rfl rfl (λw h Y=>PySem.W.km_in_of Y) ?hf ?hT ?hKP ?F
 case hf=>rfl
 case hT=>intro w;kernel_rfl
 case hKP=>intro w;kernel_rfl
 case F =>
  intro w mg fa h KX G hmg;refine' M.IM KX G hmg ⟨?z0,⟨?z1,?z2,?z3,?z4⟩,?z5,?z6,(L2.ff ?z7 (L2.ff ?z8 (L2.ff ?z9 (L2.ff ?z10 (L2.ff ?z11 (L2.ff ?z12 (Qh _)))))))⟩ ⟨?z13,⟨?z14,?z15,?z16,?z17⟩,?z18,?z19,(L2.ff ?z20 (L2.ff ?z21 (Qh _)))⟩ ?z22 ⟨⟨?z23,zM ?z24 ?z25 ?z26⟩,?z27⟩ ⟨⟨?z28,zM ?z29 ?z30 ?z31⟩,?z32⟩ ⟨⟨?z33,zM ?z34 ?z35 ?z36⟩,?z37⟩ ⟨⟨?z38,zM ?z39 ?z40 ?z41⟩,?z42⟩ ⟨⟨?z43,zM ?z44 ?z45 ?z46⟩,?z47⟩ ⟨⟨?z48,zM ?z49 ?z50 ?z51⟩,?z52⟩ ⟨?z53,?z54,zM ?z55 ?z56 ?z57⟩ ⟨⟨?z58,zM ?z59 ?z60 ?z61⟩,?z62⟩ ⟨⟨?z63,zM ?z64 ?z65 ?z66⟩,?z67⟩ ⟨⟨?z68,zM ?z69 ?z70 ?z71⟩,?z72⟩ ⟨⟨?z73,zM ?z74 ?z75 ?z76⟩,?z77⟩ ⟨⟨?z78,zM ?z79 ?z80 ?z81⟩,?z82⟩ ⟨⟨?z83,zM ?z84 ?z85 ?z86⟩,?z87⟩ ⟨⟨?z88,zM ?z89 ?z90 ?z91⟩,?z92⟩ ⟨⟨?z93,zM ?z94 ?z95 ?z96⟩,?z97⟩ ⟨⟨?z98,zM ?z99 ?z100 ?z101⟩,?z102⟩ ⟨⟨?z103,zM ?z104 ?z105 ?z106⟩,?z107⟩ ⟨⟨?z108,zM ?z109 ?z110 ?z111⟩,?z112⟩ ⟨?z113,?z114,zM ?z115 ?z116 ?z117⟩ ⟨?z118,?z119,zM ?z120 ?z121 ?z122⟩ ⟨?z123,?z124,zM ?z125 ?z126 ?z127⟩ ⟨?z128,?z129,zM ?z130 ?z131 ?z132⟩ ⟨?z133,?z134,zM ?z135 ?z136 ?z137⟩ ⟨?z138,?z139,zM ?z140 ?z141 ?z142⟩ ⟨?z143,?z144,zM ?z145 ?z146 ?z147⟩ ⟨?z148,?z149,zM ?z150 ?z151 ?z152⟩ ⟨?z153,?z154,zM ?z155 ?z156 ?z157⟩ ⟨?z158,?z159,zM ?z160 ?z161 ?z162⟩ ⟨⟨?z163,zM ?z164 ?z165 ?z166⟩,?z167⟩ ⟨⟨?z168,zM ?z169 ?z170 ?z171⟩,?z172⟩ ⟨⟨?z173,zM ?z174 ?z175 ?z176⟩,?z177⟩ ⟨⟨?z178,zM ?z179 ?z180 ?z181⟩,?z182⟩ ⟨⟨?z183,zM ?z184 ?z185 ?z186⟩,?z187⟩ ⟨⟨?z188,zM ?z189 ?z190 ?z191⟩,?z192⟩ ⟨⟨?z193,zM ?z194 ?z195 ?z196⟩,?z197⟩ ⟨⟨?z198,zM ?z199 ?z200 ?z201⟩,?z202⟩ ⟨⟨?z203,zM ?z204 ?z205 ?z206⟩,?z207⟩ ⟨⟨?z208,zM ?z209 ?z210 ?z211⟩,?z212⟩ ⟨⟨?z213,zM ?z214 ?z215 ?z216⟩,?z217⟩ ⟨⟨?z218,zM ?z219 ?z220 ?z221⟩,?z222⟩ ⟨⟨?z223,zM ?z224 ?z225 ?z226⟩,?z227⟩ ⟨⟨?z228,zM ?z229 ?z230 ?z231⟩,?z232⟩ ⟨⟨?z233,zM ?z234 ?z235 ?z236⟩,?z237⟩ ⟨⟨?z238,zM ?z239 ?z240 ?z241⟩,?z242⟩ ?z243 ?z244 ?z245 ?z246 ?z247 ?z248 ?z249 ?z250 ?z251 ?z252 ?z253 ?z254 ?z255 ?z256 ?z257 ?z258 ?z259 ?z260 ?z261 ?z262 ?z263 ?z264 ?z265 ?z266 ?z267 ?z268 ?z269 ?z270 ?z271 ?z272 ?z273 ?z274 ?z275 ?z276 ?z277 ?z278 ?z279 ?z280 ?z281 ?z282 ?z283 ?z284 ?z285 ?z286 ?z287 ?z288 ?z289 ?z290 ?z291 ?z292 ?z293 ?z294 ?z295 ?z296 ?z297 ?z298 ?z299 ?z300 ?z301 ?z302 ?z303
  case z0|z1|z2|z3|z4|z5|z6|z7|z8|z9|z10|z11|z12|z13|z14|z15|z16|z17|z18|z19|z20|z21=>k_is
  case z22=>kernel_rfl
  case z23|z24|z25|z26=>k_is
  case z27=>rfl
  case z28|z29|z30|z31=>k_is
  case z32=>rfl
  case z33|z34|z35|z36=>k_is
  case z37=>rfl
  case z38|z39|z40|z41=>k_is
  case z42=>rfl
  case z43|z44|z45|z46=>k_is
  case z47=>rfl
  case z48|z49|z50|z51=>k_is
  case z52=>rfl
  case z53|z54|z55|z56|z57|z58|z59|z60|z61=>k_is
  case z62=>rfl
  case z63|z64|z65|z66=>k_is
  case z67=>rfl
  case z68|z69|z70|z71=>k_is
  case z72=>rfl
  case z73|z74|z75|z76=>k_is
  case z77=>rfl
  case z78|z79|z80|z81=>k_is
  case z82=>rfl
  case z83|z84|z85|z86=>k_is
  case z87=>rfl
  case z88|z89|z90|z91=>k_is
  case z92=>rfl
  case z93|z94|z95|z96=>k_is
  case z97=>rfl
  case z98|z99|z100|z101=>k_is
  case z102=>rfl
  case z103|z104|z105|z106=>k_is
  case z107=>rfl
  case z108|z109|z110|z111=>k_is
  case z112=>rfl
  case z113|z114|z115|z116|z117|z118|z119|z120|z121|z122|z123|z124|z125|z126|z127|z128|z129|z130|z131|z132|z133|z134|z135|z136|z137|z138|z139|z140|z141|z142|z143|z144|z145|z146|z147|z148|z149|z150|z151|z152|z153|z154|z155|z156|z157|z158|z159|z160|z161|z162|z163|z164|z165|z166=>k_is
  case z167=>rfl
  case z168|z169|z170|z171=>k_is
  case z172=>rfl
  case z173|z174|z175|z176=>k_is
  case z177=>rfl
  case z178|z179|z180|z181=>k_is
  case z182=>rfl
  case z183|z184|z185|z186=>k_is
  case z187=>rfl
  case z188|z189|z190|z191=>k_is
  case z192=>rfl
  case z193|z194|z195|z196=>k_is
  case z197=>rfl
  case z198|z199|z200|z201=>k_is
  case z202=>rfl
  case z203|z204|z205|z206=>k_is
  case z207=>rfl
  case z208|z209|z210|z211=>k_is
  case z212=>rfl
  case z213|z214|z215|z216=>k_is
  case z217=>rfl
  case z218|z219|z220|z221=>k_is
  case z222=>rfl
  case z223|z224|z225|z226=>k_is
  case z227=>rfl
  case z228|z229|z230|z231=>k_is
  case z232=>rfl
  case z233|z234|z235|z236=>k_is
  case z237=>rfl
  case z238|z239|z240|z241=>k_is
  case z242=>rfl
  case z243|z244|z245|z246|z247|z248|z249|z250|z251|z252|z253|z254|z255|z256|z257|z258|z259|z260|z261|z262|z263|z264=>k_is
  case z265=>rfl
  case z266=>k_is
  case z267=>rfl
  case z268=>k_is
  case z269=>rfl
  case z270=>k_is
  case z271=>rfl
  case z272=>k_is
  case z273=>rfl
  case z274=>k_is
  case z275=>rfl
  case z276=>k_is
  case z277=>rfl
  case z278=>k_is
  case z279=>rfl
  case z280=>k_is
  case z281=>rfl
  case z282=>k_is
  case z283=>rfl
  case z284|z285=>k_is
  case z286=>rfl
  case z287|z288=>k_is
  case z289=>rfl
  case z290=>exact λS=>al2 λ_ _=>al1 λ_=>by with_unfolding_all rfl
  case z291=>exact λS=>al2 λ_ _=>al0 <| by with_unfolding_all rfl
  case z292=>exact λS=>al1 λ_=>al0 <| by with_unfolding_all rfl
  case z293=>exact λS=>al2 λ_ _=>al0 <| by with_unfolding_all rfl
  case z294=>exact λS=>al1 λ_=>al0 <| by with_unfolding_all rfl
  case z295|z296=>exact λS=>al2 λ_ _=>al0 <| by with_unfolding_all rfl
  case z297=>exact λS=>al4 λ_ _ _ _=>al1 λ_=>by with_unfolding_all rfl
  case z298|z299=>exact λS=>al2 λ_ _=>al0 <| by with_unfolding_all rfl
  case z300=>exact λS=>al3 λ_ _ _=>al0 <| by with_unfolding_all rfl
  case z301=>exact λS=>al3 λ_ _ _=>al4 λ_ _ _ _=>by with_unfolding_all rfl
  case z302=>kernel_rfl
  case z303=>rfl
