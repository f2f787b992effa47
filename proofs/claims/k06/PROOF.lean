import PyProof.Rows.All
import Wide.All
import OpenK.AllK
import Wide.FinOn
import Lean
import PyProof.EqAt
import PyProof.EqKinds
import PyProof.TupleCall
import PyProof.P3In
import PyProof.DictCompW
import PyProof.Rows.ReprR
import PyProof.ReprLen
import PySem.Challenge.RW_slotwright_k06_net_refusals
set_option Elab.async false
open PySem.W (Frag nsIn mg_of mg_none_of findIn kitOne kia_one emptyDict keepIn notFirst instObj fnOf isFn exmOne lookIn plainGet methodObj hasDictIn plainGet_of takerIn makesIn specialIn takesIn mroIn codeIn methodCall_KW callWith_KW)
namespace H0
open PySem PySem.W PyProof.Rows
def topT(tb:String→Option Builtin)(p:Program)(w:World)(n0:Nat)(ann:Option Value):Nat→SharedT→Thread→Option SharedT
 | 0,_,_=>none
 | n+1,s,t=>match through t with
  | true=>some s
  | false=>match stepOk n0 ann t with
   | false=>none
   | true=>match stepT (denote tb) p w s t with
    | some (s',t')=>topT tb p w n0 ann n s' t'
    | none=>none
theorem topT_run{tb:String→Option Builtin}{p:Program}{w:World}{n0:Nat}{ann:Option Value}:∀{n:Nat} {s s':SharedT} {t:Thread},topT tb p w n0 ann n s t=some s'→topRun tb p w n0 ann n s.abs t=some s'.abs:=by
 intro n;induction n with
 | zero=>intro s s' t h;cases h
 | succ n ih =>
  intro s s' t h;unfold topT at h;unfold topRun;cases ht:through t with
  | true=>rw[ht] at h;cases h;rfl
  | false =>
   rw[ht] at h;cases hk:stepOk n0 ann t with
   | false=>rw[hk] at h;cases h
   | true =>
    rw[hk] at h;cases hs:stepT (denote tb) p w s t with
    | none=>rw[hs] at h;cases h
    | some r=>obtain⟨s2,t2⟩:=r;rw[hs] at h;dsimp only;rw[stepT_spec hs];exact ih h
def treeOf:List Obj→BT→Nat→BT
 | [],t,_=>t
 | o::r,t,n=>treeOf r (t.ins n o) (n+1)
def looksAt(p:Program)(h0:Heap)(s:Shared):Bool:=staticsOk (importedModules p.main.body) h0 s.heap&&namesBound p s.heap&&gensDone s&&laidKept h0 s.heap
noncomputable def st0(m0:Nat)(w:World)(os:OsState):SharedT:=⟨treeOf (boot_heap w.params).objs.toList .nil 0,m0,(boot_heap w.params).life,Array.mk [],boot_drawn,boot_toks,os⟩
theorem left_tree{p q:Program}{loose:List Str}{Xt:Shared→Bool}{α:Type}{Yf:Shared→α}{Ya:World→α}{N:Nat}{g0:Bool}{m0:Nat}{ann:Option Value}
  (open_:∀w:World,(fencedOpening treeTable p w N).map (fun s=>(s.heap,s.gens,s.drawn,s.toks))=some (boot_heap w.params,Array.mk [],boot_drawn,boot_toks))
  (tree:∀w:World,absHeap (treeOf (boot_heap w.params).objs.toList .nil 0) m0 (boot_heap w.params).life=boot_heap w.params)
  (size:∀w:World,((boot_heap w.params).isNs mainGlobals,(boot_heap w.params).objs.size,(boot_heap w.params).nsMap mainGlobals "__annotations__")=(true,m0,ann))
  (runA:∀(w:World) (os:OsState),(topT treeTable p w m0 ann N (st0 m0 w os) (topStub p)).map (fun s=>(looksAt p (boot_heap w.params) s.abs,(openSeen q loose (importedModules p.main.body) Xt g0 s.abs).1,(openSeen q loose (importedModules p.main.body) Xt g0 s.abs).2.1,(openSeen q loose (importedModules p.main.body) Xt g0 s.abs).2.2.1))=some (true,(openGood q loose).1,(openGood q loose).2.1,(openGood q loose).2.2.1))
  (runB:∀(w:World) (os:OsState),(topT treeTable p w m0 ann N (st0 m0 w os) (topStub p)).map (fun s=>(openSeen q loose (importedModules p.main.body) Xt g0 s.abs).2.2.2)=some (openGood q loose).2.2.2)
  (runC:∀(w:World) (os:OsState),(topT treeTable p w m0 ann N (st0 m0 w os) (topStub p)).map (fun s=>Yf s.abs)=some (Ya w)) :
  LeftO p q loose Xt Yf Ya N g0:=fun w=>by
 obtain⟨⟨h,gs,d,k,os⟩,e,e'⟩:=Option.map_eq_some_iff.mp (open_ w);obtain⟨rfl,rfl,rfl,rfl⟩:h=boot_heap w.params∧gs=Array.mk []∧d=boot_drawn∧k=boot_toks:=by simpa using e'
 obtain⟨z1,z2,z3⟩:_∧_∧_:=by simpa only[Prod.mk.injEq] using size w
 obtain⟨s,r,la⟩:=Option.map_eq_some_iff.mp (runA w os);obtain⟨s1,r1,lb⟩:=Option.map_eq_some_iff.mp (runB w os);obtain⟨s2,r2,lc⟩:=Option.map_eq_some_iff.mp (runC w os);have q1:s=s1:=Option.some.inj (r.symm.trans r1);have q2:s=s2:=Option.some.inj (r.symm.trans r2);subst q1 q2;obtain⟨l1,a1,a2,a3⟩:_∧_∧_∧_:=by simpa only[Prod.mk.injEq] using la
 unfold looksAt at l1;have l2:openSeen q loose (importedModules p.main.body) Xt g0 s.abs=openGood q loose:=Prod.ext a1 (Prod.ext a2 (Prod.ext a3 lb));have l3:Yf s.abs=Ya w:=lc;have r2:=topT_run r;have r3:topRun treeTable p w m0 ann N ⟨boot_heap w.params,Array.mk [],boot_drawn,boot_toks,os⟩ (topStub p)=some s.abs:=by
  rw[← r2];show _=topRun treeTable p w m0 ann N ⟨absHeap (treeOf (boot_heap w.params).objs.toList .nil 0) m0 (boot_heap w.params).life,Array.mk [],boot_drawn,boot_toks,os⟩ (topStub p);rw[tree w]
 have z4:((boot_heap w.params).isNs mainGlobals&&(Array.mk []:Array GenState).size==0)=true:=by rw[z1];rfl
 have t:topFrom treeTable p w N ⟨boot_heap w.params,Array.mk [],boot_drawn,boot_toks,os⟩=some s.abs:=by
  unfold topFrom;dsimp only;rw[z4,z2,z3,r3];show(match staticsOk (importedModules p.main.body) (boot_heap w.params) s.abs.heap&&namesBound p s.abs.heap&&gensDone s.abs&&laidKept (boot_heap w.params) s.abs.heap with | true=>_ | false=>_)=_;rw[l1]
 unfold openEnds;rw[e];show(topFrom treeTable p w N _).map _=_;rw[t];exact congrArg some (Prod.ext l2 l3)
def bootSize:Nat:=11
def bootAnn:Option Value:=some (.ref 6)
theorem boot_tree:∀w:World,absHeap (treeOf (boot_heap w.params).objs.toList .nil 0) bootSize (boot_heap w.params).life=boot_heap w.params:=fun w=>by kernel_rfl
theorem boot_size:∀w:World,((boot_heap w.params).isNs mainGlobals,(boot_heap w.params).objs.size,(boot_heap w.params).nsMap mainGlobals "__annotations__")=(true,bootSize,bootAnn):=fun w=>by kernel_rfl
def view0:Program:={ PySem.Challenge.pw_slotwright_k06_net_refusals with main:={ PySem.Challenge.pw_slotwright_k06_net_refusals.main with body:=[PySem.Challenge.pw_slotwright_k06_net_refusals.main.body.getD 0 (.Pass ⟨0,0,0,0⟩),PySem.Challenge.pw_slotwright_k06_net_refusals.main.body.getD 2 (.Pass ⟨0,0,0,0⟩),PySem.Challenge.pw_slotwright_k06_net_refusals.main.body.getD 3 (.Pass ⟨0,0,0,0⟩),PySem.Challenge.pw_slotwright_k06_net_refusals.main.body.getD 4 (.Pass ⟨0,0,0,0⟩),PySem.Challenge.pw_slotwright_k06_net_refusals.main.body.getD 5 (.Pass ⟨0,0,0,0⟩),PySem.Challenge.pw_slotwright_k06_net_refusals.main.body.getD 6 (.Pass ⟨0,0,0,0⟩),PySem.Challenge.pw_slotwright_k06_net_refusals.main.body.getD 7 (.Pass ⟨0,0,0,0⟩),PySem.Challenge.pw_slotwright_k06_net_refusals.main.body.getD 8 (.Pass ⟨0,0,0,0⟩),PySem.Challenge.pw_slotwright_k06_net_refusals.main.body.getD 9 (.Pass ⟨0,0,0,0⟩),PySem.Challenge.pw_slotwright_k06_net_refusals.main.body.getD 10 (.Pass ⟨0,0,0,0⟩),PySem.Challenge.pw_slotwright_k06_net_refusals.main.body.getD 11 (.Pass ⟨0,0,0,0⟩),PySem.Challenge.pw_slotwright_k06_net_refusals.main.body.getD 12 (.Pass ⟨0,0,0,0⟩),PySem.Challenge.pw_slotwright_k06_net_refusals.main.body.getD 13 (.Pass ⟨0,0,0,0⟩),PySem.Challenge.pw_slotwright_k06_net_refusals.main.body.getD 14 (.Pass ⟨0,0,0,0⟩),PySem.Challenge.pw_slotwright_k06_net_refusals.main.body.getD 15 (.Pass ⟨0,0,0,0⟩),PySem.Challenge.pw_slotwright_k06_net_refusals.main.body.getD 16 (.Pass ⟨0,0,0,0⟩),PySem.Challenge.pw_slotwright_k06_net_refusals.main.body.getD 17 (.Pass ⟨0,0,0,0⟩),PySem.Challenge.pw_slotwright_k06_net_refusals.main.body.getD 18 (.Pass ⟨0,0,0,0⟩),PySem.Challenge.pw_slotwright_k06_net_refusals.main.body.getD 19 (.Pass ⟨0,0,0,0⟩),PySem.Challenge.pw_slotwright_k06_net_refusals.main.body.getD 21 (.Pass ⟨0,0,0,0⟩),PySem.Challenge.pw_slotwright_k06_net_refusals.main.body.getD 22 (.Pass ⟨0,0,0,0⟩),PySem.Challenge.pw_slotwright_k06_net_refusals.main.body.getD 23 (.Pass ⟨0,0,0,0⟩),PySem.Challenge.pw_slotwright_k06_net_refusals.main.body.getD 24 (.Pass ⟨0,0,0,0⟩),PySem.Challenge.pw_slotwright_k06_net_refusals.main.body.getD 25 (.Pass ⟨0,0,0,0⟩),PySem.Challenge.pw_slotwright_k06_net_refusals.main.body.getD 26 (.Pass ⟨0,0,0,0⟩),PySem.Challenge.pw_slotwright_k06_net_refusals.main.body.getD 27 (.Pass ⟨0,0,0,0⟩),PySem.Challenge.pw_slotwright_k06_net_refusals.main.body.getD 28 (.Pass ⟨0,0,0,0⟩),PySem.Challenge.pw_slotwright_k06_net_refusals.main.body.getD 30 (.Pass ⟨0,0,0,0⟩),PySem.Challenge.pw_slotwright_k06_net_refusals.main.body.getD 31 (.Pass ⟨0,0,0,0⟩),PySem.Challenge.pw_slotwright_k06_net_refusals.main.body.getD 32 (.Pass ⟨0,0,0,0⟩),PySem.Challenge.pw_slotwright_k06_net_refusals.main.body.getD 33 (.Pass ⟨0,0,0,0⟩),PySem.Challenge.pw_slotwright_k06_net_refusals.main.body.getD 34 (.Pass ⟨0,0,0,0⟩),PySem.Challenge.pw_slotwright_k06_net_refusals.main.body.getD 35 (.Pass ⟨0,0,0,0⟩),PySem.Challenge.pw_slotwright_k06_net_refusals.main.body.getD 37 (.Pass ⟨0,0,0,0⟩),PySem.Challenge.pw_slotwright_k06_net_refusals.main.body.getD 38 (.Pass ⟨0,0,0,0⟩),PySem.Challenge.pw_slotwright_k06_net_refusals.main.body.getD 39 (.Pass ⟨0,0,0,0⟩),PySem.Challenge.pw_slotwright_k06_net_refusals.main.body.getD 40 (.Pass ⟨0,0,0,0⟩),PySem.Challenge.pw_slotwright_k06_net_refusals.main.body.getD 41 (.Pass ⟨0,0,0,0⟩),PySem.Challenge.pw_slotwright_k06_net_refusals.main.body.getD 42 (.Pass ⟨0,0,0,0⟩),PySem.Challenge.pw_slotwright_k06_net_refusals.main.body.getD 43 (.Pass ⟨0,0,0,0⟩),PySem.Challenge.pw_slotwright_k06_net_refusals.main.body.getD 44 (.Pass ⟨0,0,0,0⟩),PySem.Challenge.pw_slotwright_k06_net_refusals.main.body.getD 45 (.Pass ⟨0,0,0,0⟩),PySem.Challenge.pw_slotwright_k06_net_refusals.main.body.getD 46 (.Pass ⟨0,0,0,0⟩),PySem.Challenge.pw_slotwright_k06_net_refusals.main.body.getD 47 (.Pass ⟨0,0,0,0⟩),PySem.Challenge.pw_slotwright_k06_net_refusals.main.body.getD 48 (.Pass ⟨0,0,0,0⟩),PySem.Challenge.pw_slotwright_k06_net_refusals.main.body.getD 49 (.Pass ⟨0,0,0,0⟩),PySem.Challenge.pw_slotwright_k06_net_refusals.main.body.getD 50 (.Pass ⟨0,0,0,0⟩),PySem.Challenge.pw_slotwright_k06_net_refusals.main.body.getD 51 (.Pass ⟨0,0,0,0⟩),PySem.Challenge.pw_slotwright_k06_net_refusals.main.body.getD 52 (.Pass ⟨0,0,0,0⟩)] } }
set_option maxRecDepth 100000
set_option maxHeartbeats 0
theorem runA(w:World)(os:OsState):(topT treeTable PySem.Challenge.pw_slotwright_k06_net_refusals w bootSize bootAnn 11428 (st0 bootSize w os) (topStub PySem.Challenge.pw_slotwright_k06_net_refusals)).map (fun s=>(looksAt PySem.Challenge.pw_slotwright_k06_net_refusals (boot_heap w.params) s.abs,(openSeen view0 [Str.ofString "Net"] (importedModules PySem.Challenge.pw_slotwright_k06_net_refusals.main.body) (fun s=>xlAt view0 [] s&&recOk (RowW.records (PySem.Challenge.rw_slotwright_k06_net_refusals.row.toRowW)) s) true s.abs).1,(openSeen view0 [Str.ofString "Net"] (importedModules PySem.Challenge.pw_slotwright_k06_net_refusals.main.body) (fun s=>xlAt view0 [] s&&recOk (RowW.records (PySem.Challenge.rw_slotwright_k06_net_refusals.row.toRowW)) s) true s.abs).2.1,(openSeen view0 [Str.ofString "Net"] (importedModules PySem.Challenge.pw_slotwright_k06_net_refusals.main.body) (fun s=>xlAt view0 [] s&&recOk (RowW.records (PySem.Challenge.rw_slotwright_k06_net_refusals.row.toRowW)) s) true s.abs).2.2.1))=some (true,(openGood view0 [Str.ofString "Net"]).1,(openGood view0 [Str.ofString "Net"]).2.1,(openGood view0 [Str.ofString "Net"]).2.2.1):=by rewrite [PySem.W.Fast.te14364793385576792824];kernel_rfl
theorem runB(w:World)(os:OsState):(topT treeTable PySem.Challenge.pw_slotwright_k06_net_refusals w bootSize bootAnn 11428 (st0 bootSize w os) (topStub PySem.Challenge.pw_slotwright_k06_net_refusals)).map (fun s=>(openSeen view0 [Str.ofString "Net"] (importedModules PySem.Challenge.pw_slotwright_k06_net_refusals.main.body) (fun s=>xlAt view0 [] s&&recOk (RowW.records (PySem.Challenge.rw_slotwright_k06_net_refusals.row.toRowW)) s) true s.abs).2.2.2)=some (openGood view0 [Str.ofString "Net"]).2.2.2:=by rewrite [PySem.W.Fast.te14364793385576792824];kernel_rfl
local macro_rules | `(tactic| o_head $H)=> `(tactic| (refine holds_open (q:=view0) (loose:=[Str.ofString "Net"]) (Xt:=fun s=>xlAt view0 [] s&&recOk (RowW.records (PySem.Challenge.rw_slotwright_k06_net_refusals.row.toRowW)) s) (XP:=XL view0 []) (Yf:=Hook.obs $H) (Ya:=Hook.val $H) (YP:=Hook.says $H) (N:=11428) ?hl (Hook.of $H) (Hook.keeps $H) (fun s e=>xl_of s (Bool.and_eq_true_iff.mp e).1) XL.keeps (by rfl) (by rfl) (by rfl) (fun s e=>recFacts_of (Bool.and_eq_true_iff.mp e).2) (by rfl) (by first | assumption | decide+kernel) (by decide+kernel) ⟨rfl,rfl,rfl,rfl,rfl,by decide+kernel⟩ ?hw ?hc;(case hl=>exact left_tree (m0:=bootSize) (ann:=bootAnn) (boot_open (by kernel_rfl) (by decide+kernel) (fun s=>by kernel_rfl)) boot_tree boot_size runA runB (fun w os=>by rewrite [PySem.W.Fast.te14364793385576792824];kernel_rfl))))
set_option maxRecDepth 100000
set_option maxHeartbeats 0
open_top hd0 for PySem.Challenge.rw_slotwright_k06_net_refusals
end H0
set_option linter.all false
set_option maxRecDepth 100000
namespace L2
open PySem PySem.Spec PyProof.Rows
abbrev Key:=Sum Int Str
def zjN:Key->Value->Bool
 | .inl k,v=>Value.isInt k v
 | .inr x,v=>Value.isStrOf x v
def zzH(w:World):Key->Int
 | .inl k=>hashInt k
 | .inr x=>hashStr w x
theorem zaK:∀{k:Key} {v:Value},zjN k v=true->(∃i t,k=Sum.inl i/\v=Value.int i t)\/(∃x t,k=Sum.inr x/\v=Value.str x t)
 | .inl i,v,h=>by
  obtain⟨t,e⟩:=Value.isInt_shape (k:=i) (v:=v) h;exact .inl ⟨i,t,rfl,e⟩
 | .inr x,v,h=>by
  obtain⟨t,e⟩:=Value.isStrOf_shape (x:=x) (v:=v) h;exact .inr ⟨x,t,rfl,e⟩
theorem zp0(i:Int)(t:Tok):zjN (.inl i) (.int i t)=true:=by simp[zjN,Value.isInt]
theorem zqg(x:Str)(t:Tok):zjN (.inr x) (.str x t)=true:=by simp[zjN,Value.isStrOf]
theorem zwN(a b:Int):decide ((Sum.inl a:Key)=Sum.inl b)=(a==b):=by
 by_cases e:a=b
 .subst e;simp
 .have h:¬ (Sum.inl a:Key)=Sum.inl b:=fun q=>e (Sum.inl.inj q)
  rw[decide_eq_false h];exact(beq_eq_false_iff_ne.mpr e).symm
theorem zxk(a b:Str):decide ((Sum.inr a:Key)=Sum.inr b)=decide (a=b):=by
 by_cases e:a=b
 .subst e;simp
 .have h:¬ (Sum.inr a:Key)=Sum.inr b:=fun q=>e (Sum.inr.inj q)
  rw[decide_eq_false h,decide_eq_false e]
theorem zwM(a:Int)(b:Str):decide ((Sum.inl a:Key)=Sum.inr b)=false:=decide_eq_false (fun q=>nomatch q)
theorem zxm(a:Str)(b:Int):decide ((Sum.inr a:Key)=Sum.inl b)=false:=decide_eq_false (fun q=>nomatch q)
def zaQ(prog:Program)(w:World):PySem.KeyKind prog w Key where
 is:=zjN
 hash:=zzH w
 inj:=fun v a b ha hb=>by
  rcases zaK ha with⟨i,t,rfl,rfl⟩ | ⟨x,t,rfl,rfl⟩
  .rcases zaK hb with⟨j,u,rfl,e⟩ | ⟨y,u,rfl,e⟩
   .injection e with e1 _;rw[e1]
   .exact nomatch e
  .rcases zaK hb with⟨j,u,rfl,e⟩ | ⟨y,u,rfl,e⟩
   .exact nomatch e
   .injection e with e1 _;rw[e1]
 byValue:=fun k v h=>by
  rcases zaK h with⟨i,t,rfl,rfl⟩ | ⟨x,t,rfl,rfl⟩<;>rfl
 pyHash:=fun hv h=>by
  rcases zaK hv with⟨i,t,rfl,rfl⟩ | ⟨x,t,rfl,rfl⟩
  .exact wpAny_pyHash_int h
  .exact wpAny_pyHash_str h
 eqBool:=fun hu hv h=>by
  rcases zaK hu with⟨i,t,rfl,rfl⟩ | ⟨x,t,rfl,rfl⟩
  .rcases zaK hv with⟨j,u,rfl,rfl⟩ | ⟨y,u,rfl,rfl⟩
   .rw[zwN] at h;exact wpAny_eqBool_int h
   .rw[zwM] at h;exact SeqAt.EqAt.int_str i t y u _ _ _ _ h
  .rcases zaK hv with⟨j,u,rfl,rfl⟩ | ⟨y,u,rfl,rfl⟩
   .rw[zxm] at h;exact SeqAt.EqAt.str_int x t j u _ _ _ _ h
   .rw[zxk] at h;exact wpAny_eqBool_str h
 «strs»:= fun k x t v h=>by
  rcases zaK h with⟨i,u,rfl,e⟩ | ⟨y,u,rfl,e⟩
  .exact nomatch e
  .injection e with e1 _;subst e1;cases v<;>rfl
theorem zng(prog:Program)(w:World)(i:Int)(t:Tok):(zaQ prog w).is (.inl i) (.int i t)=true:=zp0 i t
theorem zmk(prog:Program)(w:World)(x:Str)(t:Tok):(zaQ prog w).is (.inr x) (.str x t)=true:=zqg x t
inductive V where
 | non | bl (b:Bool) | int (i:Int) | str (x:Str) | byt (b:Array UInt8) | flt (b:UInt64) | ref (a:Addr) | ty (n:String)
 deriving DecidableEq
def RelV:V->Value->Prop
 | .non,u=>u=Value.none
 | .bl b,u=>u=Value.bool b
 | .int i,u=>∃t,u=Value.int i t
 | .str x,u=>∃t,u=Value.str x t
 | .byt b,u=>∃t,u=Value.bytes b t
 | .flt b,u=>∃t,u=Value.float b t
 | .ref a,u=>u=Value.ref a
 | .ty n,u=>u=Value.type n
abbrev Vals:List V->List Value->Prop:=Paired RelV
theorem Vals.length{xs:List V}{us:List Value}(r:Vals xs us):xs.length=us.length:=Paired.length r
theorem Vals.get:∀{xs:List V} {us:List Value} {i:Nat} {x:V},Vals xs us->xs[i]? = some x->∃u,us[i]? = some u/\RelV x u
 | _,_,_,_, .nil,e=>by simp at e
 | _,_,0,_, .cons r _,e=>by simp at e;subst e;exact⟨_,rfl,r⟩
 | _,_,i+1,x, .cons _ t,e=>by
  obtain⟨u,h1,h2⟩:=Vals.get (i:=i) (x:=x) t (by simpa using e);exact⟨u,by simpa using h1,h2⟩
theorem Vals.set{x:V}{u:Value}(r:RelV x u):∀{xs:List V} {us:List Value} (i:Nat),Vals xs us->Vals (xs.set i x) (us.set i u)
 | _,_,_, .nil=> .nil
 | _,_,0, .cons _ t=> .cons r t
 | _,_,i+1, .cons q t=> .cons q (Vals.set r i t)
theorem Vals.append:∀{xs ys:List V} {us ws:List Value},Vals xs us->Vals ys ws->Vals (xs++ys) (us++ws)
 | _,_,_,_, .nil,s=>s
 | _,_,_,_, .cons r t,s=> .cons r (Vals.append t s)
theorem Vals.take:∀{xs:List V} {us:List Value} (n:Nat),Vals xs us->Vals (xs.take n) (us.take n)
 | _,_,0,_=> .nil
 | _,_,_+1, .nil=> .nil
 | _,_,n+1, .cons r t=> .cons r (Vals.take n t)
theorem Vals.drop:∀{xs:List V} {us:List Value} (n:Nat),Vals xs us->Vals (xs.drop n) (us.drop n)
 | _,_,0,r=>r
 | _,_,_+1, .nil=> .nil
 | _,_,n+1, .cons _ t=>Vals.drop n t
def zes:Option V->Option Value->Prop
 | some v,some u=>RelV v u
 | none,none=>True
 | _,_=>False
def KV{κ:Type}:List (κ×V)->List (κ×Value)->Prop:=Paired fun(p:κ×V) (q:κ×Value)=>p.1=q.1/\RelV p.2 q.2
def kV:Key->V
 | .inl i=> .int i
 | .inr x=> .str x
inductive HO where
 | lst (xs:List V)
 | tup (xs:List V)
 | dK (kvs:List (Key×V)) | dT (kvs:List (List Key×V))
 | set (S:Int->Bool) (n:Nat)
 | ins (C dx:Addr) (fs:List (Str×V))
 | own (x:Addr)
 | xd (fs:List (Str×V))
 | met (f x:Addr)
 | rng (lo hi:Int)
 | frz (o:Obj) (u:HO)
 | tbl (ps:Array Value)
 | ext (φ:Heap->Prop)
abbrev Hp:=Addr->Option HO
def upd(H:Hp)(a:Addr)(o:HO):Hp:=fun b=>if b=a then some o else H b
theorem zH{H:Hp}{a:Addr}{o:HO}:upd H a o a=some o:=by unfold upd;rw[if_pos rfl]
theorem zJ{H:Hp}{a b:Addr}{o:HO}(h:b≠a):upd H a o b=H b:=by unfold upd;rw[if_neg h]
theorem zzz{H:Hp}{a b:Addr}{o u:HO}(h:H a=some o)(h':H b=some u)(d:o≠u):a≠b:=by
 intro e;subst e;rw[h] at h';exact d (Option.some.inj h')
theorem zai{H:Hp}{a b:Addr}{o:HO}(h:H a=some o)(h':H b=none):a≠b:=by
 intro e;subst e;rw[h] at h';cases h'
section
variable(P:Program)(w:World)
def zaF(H:Hp)(h:Heap)(a:Addr):HO->Prop
 | .lst xs=>xs.length<=sizeLine/\∃(its:List Value) (n:Nat),Vals xs its/\h.get? a=some { cls:= .type "list",data:= .seq its.toArray n }
 | .tup xs=>xs.length<=sizeLine/\∃its:List Value,Vals xs its/\IsTup h a its.toArray
 | .dK kvs=>kvs.length<=sizeLine/\(a==sysModules)=false/\∃vs,KV kvs vs/\h.DictOf (zaQ P w) a vs
 | .dT kvs=>kvs.length<=sizeLine/\(a==sysModules)=false/\∃xs:List (List Key×Addr×Value),
   Paired (fun(p:List Key×V) (q:List Key×Addr×Value)=>p.1=q.1/\H q.2.1=some (.tup (p.1.map kV))/\RelV p.2 q.2.2) kvs xs /\
   ∃o es ep,h.get? a=some o/\o.ExactDict/\o.data= .dict es ep/\es.toList=xs.map (entryOfKey (tupleKind (zaQ P w)))/\(xs.map (·.1)).Nodup
 | .set S n=>h.SetOf (intKind P w) a S n
 | .ins C dx fs=>H dx=some (.own a)/\fs.length<=1000/\dx≠a/\h.get? a=some (instObj C dx) /\
   ∃mA,h.Ns1 dx mA/\(∀f,zes (fs.lookup f) (mA f))/\PySem.Within mA (fs.map (·.1))
 | .own _=>∃o,h.get? a=some o
 | .xd fs=>∃mA,h.Ns1 a mA/\∀f,zes (fs.lookup f) (mA f)
 | .rng lo hi=>∃t u v,h.get? a=some { cls:= .type "range",data:= .fields #[.int lo t, .int hi u, .int 1 v] }
 | .frz o u=>h.get? a=some o/\zaF H h a u
 | .tbl ps=>h.get? a=some { cls:= .none,data:= .fields ps }
 | .met f x=>h.get? a=some (methodObj (.ref f) (.ref x))
 | .ext φ=>φ h/\(∃o,h.get? a=some o)/\∀h1 h2:Heap,φ h1->(∀o,h1.get? a=some o->h2.get? a=some o)->φ h2
def HOk(H:Hp)(h:Heap):Prop:=∀a o,H a=some o->zaF P w H h a o
end
section
variable{P:Program}{w:World}{H H':Hp}{h h':Heap}{a:Addr}{o:HO}
theorem zaF.lt(x:zaF P w H h a o):a < h.objs.size:=by
 cases o with
 | lst xs=>obtain⟨_,_,_,_,e⟩:=x;exact Heap.lt_size e
 | tup xs=>obtain⟨_,_,_,p⟩:=x;exact p.lt
 | dK kvs=>obtain⟨_,_,_,_,o,_,_,e,_⟩:=x;exact Heap.lt_size e
 | dT kvs=>obtain⟨_,_,_,_,o,_,_,e,_⟩:=x;exact Heap.lt_size e
 | set S n=>obtain⟨o,_,_,_,e,_⟩:=x;exact Heap.lt_size e
 | ins C dx fs=>obtain⟨_,_,_,e,_⟩:=x;exact Heap.lt_size e
 | own y=>obtain⟨_,e⟩:=x;exact Heap.lt_size e
 | xd fs=>obtain⟨_,⟨_,_,_,e,_⟩,_⟩:=x;exact Heap.lt_size e
 | rng lo hi=>obtain⟨_,_,_,e⟩:=x;exact Heap.lt_size e
 | frz ob u=>obtain⟨e,_⟩:=x;exact Heap.lt_size e
 | tbl ps=>exact Heap.lt_size (show h.get? a=some _ from x)
 | met f y=>exact Heap.lt_size (show h.get? a=some _ from x)
 | ext φ=>obtain⟨_,⟨_,e⟩,_⟩:=x;exact Heap.lt_size e
theorem Paired.mapP{α β:Type}{F G:α->β->Prop}:∀{l₁:List α} {l₂:List β},Paired F l₁ l₂->(∀a b,F a b->G a b)->Paired G l₁ l₂
 | _,_, .nil,_=> .nil
 | _,_, .cons r t,f=> .cons (f _ _ r) (Paired.mapP t f)
theorem zaF.stay(x:zaF P w H h a o)(k:∀b u,(b=a\/H b=some (.own a))->h.get? b=some u->h'.get? b=some u)
  (ho:∀b,H b=some (.own a)->H' b=some (.own a))(ht:∀b xs,H b=some (.tup xs)->H' b=some (.tup xs)):zaF P w H' h' a o:=by
 induction o with
 | lst xs=>obtain⟨z,its,n,r,e⟩:=x;exact⟨z,its,n,r,k _ _ (.inl rfl) e⟩
 | tup xs=>obtain⟨z,its,r,ob,e,c⟩:=x;exact⟨z,its,r,ob,k _ _ (.inl rfl) e,c⟩
 | dK kvs=>obtain⟨z,y,vs,r,ob,es,ep,e,c⟩:=x;exact⟨z,y,vs,r,ob,es,ep,k _ _ (.inl rfl) e,c⟩
 | dT kvs =>
  obtain⟨z,y,xs,r,ob,es,ep,e,c⟩:=x;exact⟨z,y,xs,Paired.mapP r fun p q z=>⟨z.1,ht _ _ z.2.1,z.2.2⟩,ob,es,ep,k _ _ (.inl rfl) e,c⟩
 | set S n=>obtain⟨ob,es,ep,t,e,c⟩:=x;exact⟨ob,es,ep,t,k _ _ (.inl rfl) e,c⟩
 | ins C dx fs =>
  obtain⟨d,z,ne,e,mA,⟨od,es,ep,e2,c⟩,r⟩:=x;exact⟨ho _ d,z,ne,k _ _ (.inl rfl) e,mA,⟨od,es,ep,k _ _ (.inr d) e2,c⟩,r⟩
 | own y=>obtain⟨ob,e⟩:=x;exact⟨ob,k _ _ (.inl rfl) e⟩
 | xd fs=>obtain⟨mA,⟨od,es,ep,e,c⟩,r⟩:=x;exact⟨mA,⟨od,es,ep,k _ _ (.inl rfl) e,c⟩,r⟩
 | rng lo hi=>obtain⟨t,u,v,e⟩:=x;exact⟨t,u,v,k _ _ (.inl rfl) e⟩
 | frz ob u ih=>obtain⟨e,q⟩:=x;exact⟨k _ _ (.inl rfl) e,ih q⟩
 | tbl ps =>
  have e:h.get? a=some { cls:= .none,data:= .fields ps }:=x;show h'.get? a=some { cls:= .none,data:= .fields ps };exact k a _ (.inl rfl) e
 | met f y =>
  have e:h.get? a=some (methodObj (.ref f) (.ref y)):=x;show h'.get? a=some (methodObj (.ref f) (.ref y));exact k a _ (.inl rfl) e
 | ext φ=>obtain⟨p,⟨o,e⟩,st⟩:=x;exact⟨st _ _ p fun o q=>k _ _ (.inl rfl) q,⟨o,k _ _ (.inl rfl) e⟩,st⟩
theorem HOk.lt(x:HOk P w H h)(e:H a=some o):a < h.objs.size:=(x a o e).lt
theorem HOk.fresh(x:HOk P w H h)(e:h.objs.size<=a):H a=none:=by
 cases q:H a with
 | none=>rfl
 | some u=>exact absurd (Nat.lt_of_lt_of_le (x.lt q) e) (Nat.lt_irrefl _)
theorem HOk.kept(x:HOk P w H h)(k:∀b u,h.get? b=some u->h'.get? b=some u):HOk P w H h':=fun a o e =>
 (x a o e).stay (fun b u _ q=>k b u q) (fun _ q=>q) fun _ _ q=>q
theorem HOk.laid(x:HOk P w H h)(k:∀b u,h.get? b=some u->h'.get? b=some u)(hp:h.objs.size<=a)(new:zaF P w (upd H a o) h' a o):HOk P w (upd H a o) h':=fun b u e=>by
 have hn:=x.fresh hp;by_cases hb:b=a
 .subst hb;rw[zH] at e;cases e;exact new
 .rw[zJ hb] at e;exact(x b u e).stay (fun c v _ q=>k c v q) (fun c q=>by rw[zJ (zai q hn)];exact q) fun c xs q=>by rw[zJ (zai q hn)];exact q
end
def Rd(H:Hp)(a:Addr)(u:HO):Prop:=H a=some u\/∃o,H a=some (.frz o u)
theorem Rd.ok{P:Program}{w:World}{H:Hp}{h:Heap}{a:Addr}{u:HO}(r:Rd H a u)(x:HOk P w H h):zaF P w H h a u:=by
 rcases r with r | ⟨o,r⟩
 .exact x a u r
 .obtain⟨_,q⟩:=x a _ r;exact q
def Mut:Option HO->Prop
 | some (.lst _)=>True
 | some (.dK _)=>True
 | some (.dT _)=>True
 | some (.set _ _)=>True
 | some (.ins _ _ _)=>True
 | some (.ext _)=>True
 | _=>False
section
variable{P:Program}{w:World}{H:Hp}{h h':Heap}{x e:Addr}{o':HO}
theorem HOk.write(ok:HOk P w H h)(mu:Mut (H x))(he:e=x\/H e=some (.own x))(k:∀b u,b≠e->h.get? b=some u->h'.get? b=some u)(heo:∃u,h'.get? e=some u)
  (new:zaF P w (upd H x o') h' x o'):HOk P w (upd H x o') h':=fun b u q=>by
 have nown:∀c y,H c=some (.own y)->c≠x:=fun c y r z=>by subst z;rw[r] at mu;exact mu
 have ntup:∀c xs,H c=some (.tup xs)->c≠x:=fun c xs r z=>by subst z;rw[r] at mu;exact mu
 by_cases hb:b=x
 .subst hb;rw[zH] at q;cases q;exact new
 .rw[zJ hb] at q;by_cases hbe:b=e
  .have q':H b=some (.own x):=by
    rcases he with z | z
    .exact absurd (hbe.trans z) hb
    .rw[hbe];exact z
   rw[q] at q';cases q';obtain⟨v,hv⟩:=heo;exact⟨v,by rw[hbe];exact hv⟩
  .refine(ok b u q).stay (fun c v hc r=>k c v ?_ r) (fun c r=>by rw[zJ (nown c b r)];exact r) fun c xs r=>by rw[zJ (ntup c xs r)];exact r
   rcases hc with rfl | hc
   .exact hbe
   .rintro rfl;rcases he with z | z
    .exact nown c b hc z
    .rw[hc] at z;cases z;exact hb rfl
end
structure Un(fs ex:List Addr)(H H':Hp)(h h':Heap):Prop where
 keep:∀b o,h.get? b=some o->H b=none->b∉fs->b∉ex->h'.get? b=some o
 slot:∀b o,h.get? b=some o->H b=none->b∈fs->b∉ex->∃sl,h'.get? b=some { o with slots:=sl }
 free:∀b o,h.get? b=some o->H b=none->b∉ex->H' b=none
 there:∀b o,h.get? b=some o->b∉ex->∃o',h'.get? b=some o'
 tups:∀b xs,H b=some (.tup xs)->H' b=some (.tup xs)
 frzs:∀b o u,H b=some (.frz o u)->H' b=some (.frz o u)
 tbls:∀b ps,H b=some (.tbl ps)->∃more,H' b=some (.tbl (ps++more))
section
variable{fs fs' ex ex':List Addr}{H H1 H2:Hp}{h h1 h2 h':Heap}{a x e:Addr}{o:HO}
theorem Un.any(u:Un fs ex H H1 h h1){b:Addr}{ob:Obj}(q:h.get? b=some ob)(n:H b=none)(hx:b∉ex):∃sl,h1.get? b=some { ob with slots:=sl }:=by
 by_cases hb:b∈fs
 .exact u.slot b ob q n hb hx
 .exact⟨ob.slots,u.keep b ob q n hb hx⟩
theorem Un.kept(k:∀b u,h.get? b=some u->h'.get? b=some u):Un fs ex H H h h' :=
 ⟨fun b ob q _ _ _=>k b ob q,fun b ob q _ _ _=>⟨ob.slots,k b ob q⟩,fun _ _ _ n _=>n,fun b ob q _=>⟨ob,k b ob q⟩,fun _ _ q=>q,fun _ _ _ q=>q,fun _ ps q=>⟨#[],by rw[q];simp⟩⟩
theorem Un.refl:Un fs ex H H h h:=Un.kept fun _ _ q=>q
theorem Un.laid(k:∀b u,h.get? b=some u->h'.get? b=some u)(hp:h.objs.size<=a)(hn:H a=none):Un fs ex H (upd H a o) h h' where
 keep:=fun b u q _ _ _=>k b u q
 slot:=fun b u q _ _ _=>⟨u.slots,k b u q⟩
 free:=fun b u q n _=>by rw[zJ (Nat.ne_of_lt (Nat.lt_of_lt_of_le (Heap.lt_size q) hp))];exact n
 there:=fun b u q _=>⟨u,k b u q⟩
 tups:=fun b xs q=>by rw[zJ (zai q hn)];exact q
 frzs:=fun b u xs q=>by rw[zJ (zai q hn)];exact q
 tbls:=fun b ps q=>⟨#[],by rw[zJ (zai q hn),q];simp⟩
theorem Un.write(mu:Mut (H x))(he:e=x\/H e=some (.own x))(k:∀b u,b≠e->h.get? b=some u->h'.get? b=some u)(heo:∃u,h'.get? e=some u):Un fs ex H (upd H x o) h h':=by
 have hx:∀b,H b=none->b≠x:=fun b n z=>by subst z;rw[n] at mu;exact mu
 have hb:∀b,H b=none->b≠e:=fun b n z=>by
  subst z;rcases he with r | r
  .exact hx b n r
  .rw[n] at r;cases r
 have hm:∀b u,H b=some u->¬ Mut (some u)->b≠x:=fun b u q nm z=>by subst z;rw[q] at mu;exact nm mu
 refine⟨fun b u q n _ _=>k b u (hb b n) q,fun b u q n _ _=>⟨u.slots,k b u (hb b n) q⟩,fun b u q n _=>by rw[zJ (hx b n)];exact n,fun b u q _=>?_,
  fun b xs q=>by rw[zJ (hm b _ q fun z=>z)];exact q,fun b u xs q=>by rw[zJ (hm b _ q fun z=>z)];exact q,fun b ps q=>⟨#[],by rw[zJ (hm b _ q fun z=>z),q];simp⟩⟩
 by_cases hbe:b=e
 .subst hbe;exact heo
 .exact⟨u,k b u hbe q⟩
end
def trk(h:Heap)(H:Hp):List Addr:=(List.range h.objs.size).filter fun a=>(H a).isSome
def zlr(h:Heap)(H:Hp):Heap:=PySem.W.hideAll h (trk h H)
theorem zqq(h:Heap)(H:Hp):(zlr h H).objs.size=h.objs.size:=PySem.W.hideAll_size _ _
theorem zr5{h:Heap}{H:Hp}{b:Addr}{o:Obj}(e:h.get? b=some o)(n:H b=none):(zlr h H).get? b=some o :=
 PySem.W.hideAll_get _ e fun hm=>by
  have q:(H b).isSome=true:=(List.mem_filter.mp hm).2;rw[n] at q;simp at q
theorem zuv{h:Heap}{H:Hp}{b:Addr}{o:Obj}(e:(zlr h H).get? b=some o):h.get? b=some o/\H b=none:=by
 have e':h.get? b=some o:=PySem.W.of_hideAll (trk h H) e;refine⟨e',?_⟩;cases q:H b with
 | none=>rfl
 | some x =>
  have hm:b∈trk h H:=List.mem_filter.mpr ⟨List.mem_range.mpr (Heap.lt_size e'),by simp[q]⟩;have z:(zlr h H).get? b=none:=PySem.W.hideAll_none (trk h H) hm;rw[z] at e;cases e
def ztD(g h:Heap)(L:Addr):List (Addr×Obj):=(List.range h.objs.size).filterMap fun a=>if a=L\/(g.get? a).isSome=true then none else(h.get? a).map fun o=>(a,o)
def rest(g h:Heap)(L d:Addr):List (Addr×Obj):=(ztD g h L).filter fun p=>decide (p.1≠d)
structure Mod(K:Frag)(mg:Str->Option Value)(base:Heap):Prop where
 kin:K.In base
 glob:base.Ns mainGlobals mg
 blt:∃mb,base.Ns builtinsNs mb/\∀x:Str,x≠"__name__"->mb x=bootBuiltins x
 nolimit:base.NoLimit
structure Cx where
 prog:Program
 w:World
 K:Frag
 mg:Str->Option Value
 base:Heap
 A:Around
 N:List Str
 s₀:Shared
 H₀:Hp
 env:Env
 outer:List Env
 stack:List Env
 ex:List Addr
 fn:Str->Bool
 calm:Bool
 pn:List (Addr×Obj)
 xe:Value->Shared->Prop
def frs(l:List Env):List Addr:=l.filterMap (·.frame)
abbrev Cx.fs(X:Cx):List Addr:=frs X.outer
def Vis(sc:Scope)(x:Str):Prop:=sc.names.lookup x=some .local\/sc.names.lookup x=some .cell\/sc.names.lookup x=some .free
def Loc(sc:Scope)(x:Str):Prop:=sc.names.lookup x=some .local\/sc.names.lookup x=some .cell
def Look(env:Env)(h:Heap)(m:Str->Option Value)(x:Str)(u:Value):Prop :=
 (env.kindOf x=some .local/\m x=some u)\/((env.kindOf x=some .cell\/env.kindOf x=some .free)/\∃c,env.cells.lookup x=some c/\h.IsCell c (some u))
structure Cx.Ok(X:Cx):Prop where
 mod:Mod X.K X.mg X.base
 kind:X.env.scope.kind= .function
 glob:X.env.globals=mainGlobals
 blt:X.env.builtins=builtinsNs
 above:X.s₀.heap.objs.size<=X.env.locals
 inj:∀x y c,X.env.cells.lookup x=some c->X.env.cells.lookup y=some c->x=y
 has:∀x,(X.env.kindOf x=some .cell\/X.env.kindOf x=some .free)->∃c,X.env.cells.lookup x=some c
 cab:∀x c,X.fn x=true->X.env.cells.lookup x=some c->X.s₀.heap.objs.size<=c
 hd:X.calm=true->X.A.handled=none
 frames:X.A.frames=some X.stack
 stk:X.stack=X.outer\/(X.stack=X.env::X.outer/\X.env.frame=some X.env.locals)
 exf:∀b∈X.ex,b≠X.env.locals/\∀x c,X.env.cells.lookup x=some c->c≠b
 bs:∀b o,X.base.get? b=some o->X.s₀.heap.get? b=some o/\X.H₀ b=none
 bsz:X.base.objs.size<=X.s₀.heap.objs.size
 noex:∀b o,X.base.get? b=some o->b∉X.ex
 exfs:∀b∈X.ex,b∉X.fs
 funs:X.s₀.heap.FunFrames X.base X.outer
 frf:∀b∈X.fs,X.H₀ b=none
structure Inv(X:Cx)(pins:List (Addr×Obj))(σ:List (Option V))(H:Hp)(s:Shared):Prop where
 ok:X.Ok
 os:s.os=X.s₀.os
 bare:AllBare s.gens
 base:Un X.fs X.ex X.H₀ H X.s₀.heap s.heap
 loc:∃m,s.heap.Ns X.env.locals m/\∀(i:Nat) (x:Str) (v:V),X.N[i]? = some x->σ[i]? = some (some v)->Vis X.env.scope x->∃u,RelV v u/\Look X.env s.heap m x u
 cell:∀x c,X.env.cells.lookup x=some c->∃v,s.heap.IsCell c v
 free:H X.env.locals=none
 freeC:∀x c,X.env.cells.lookup x=some c->H c=none
 pin:∀p∈X.pn++pins,s.heap.get? p.1=some p.2/\H p.1=none/\p.1≠X.env.locals/\p.1∉X.fs/\∀v,p.2.data≠ .cell v
 hok:HOk X.prog X.w H s.heap
 len:σ.length=X.N.length
section
variable{X:Cx}{pins:List (Addr×Obj)}{σ:List (Option V)}{H H':Hp}{s:Shared}{h':Heap}
theorem Cx.Ok.nofr(ok:X.Ok){b:Addr}{o:Obj}(e:X.base.get? b=some o):b∉X.fs:=fun hb=>by
 have:=(ok.funs.mem hb).1;rw[e] at this;cases this
theorem Inv.bs(I:Inv X pins σ H s):∀b o,X.base.get? b=some o->s.heap.get? b=some o/\H b=none:=fun b o e =>
 ⟨I.base.keep b o (I.ok.bs b o e).1 (I.ok.bs b o e).2 (I.ok.nofr e) (I.ok.noex b o e),I.base.free b o (I.ok.bs b o e).1 (I.ok.bs b o e).2 (I.ok.noex b o e)⟩
theorem Inv.bk(I:Inv X pins σ H s):∀b o,X.base.get? b=some o->s.heap.get? b=some o:=fun b o e=>(I.bs b o e).1
theorem Inv.mod(I:Inv X pins σ H s):Mod X.K X.mg X.base:=I.ok.mod
theorem Inv.kIn(I:Inv X pins σ H s):X.K.In s.heap:=I.ok.mod.kin.keeps I.bk
theorem Inv.nolimit(I:Inv X pins σ H s):s.heap.NoLimit:=I.ok.mod.nolimit.keeps I.bk
theorem Inv.lt(I:Inv X pins σ H s):X.env.locals < s.heap.objs.size:=let ⟨_,hn,_⟩:=I.loc;hn.lt
theorem Inv.sz(I:Inv X pins σ H s):X.s₀.heap.objs.size<=s.heap.objs.size:=Nat.le_trans I.ok.above (Nat.le_of_lt I.lt)
theorem Inv.nofs(I:Inv X pins σ H s){a:Addr}(h:s.heap.objs.size<=a):a∉X.fs:=fun hb=>by
 obtain⟨_,o,ho,_⟩:=I.ok.funs.mem hb;exact absurd (Nat.lt_of_lt_of_le (Heap.lt_size ho) (Nat.le_trans I.sz h)) (Nat.lt_irrefl _)
theorem Inv.cne(I:Inv X pins σ H s):∀x c,X.env.cells.lookup x=some c->c≠X.env.locals:=fun x c e z=>by
 obtain⟨v,o,ho,hd⟩:=I.cell x c e;obtain⟨m,⟨o',es,ep,ho',hd',_⟩,_⟩:=I.loc;rw[z,ho'] at ho;cases ho;rw[hd'] at hd;cases hd
theorem Inv.funs(I:Inv X pins σ H s):s.heap.FunFrames X.base X.outer:=by
 have all:∀(l:List Env),(∀b∈frs l,b∈X.fs)->X.s₀.heap.FunFrames X.base l->s.heap.FunFrames X.base l:=by
  intro l;induction l with
  | nil=>intro _ _;trivial
  | cons env r ih =>
   intro hs hl;obtain⟨hk,⟨L,o,hf,hn,ho,hd⟩,hr⟩:=hl;have hL:L∈X.fs:=hs L (by unfold frs;rw[List.filterMap_cons,hf];exact List.mem_cons_self);obtain⟨sl,e⟩:=I.base.slot L o ho (I.ok.frf L hL) hL fun z=>I.ok.exfs L z hL
   exact⟨hk,⟨L,_,hf,hn,e,hd⟩,ih (fun b hb=>hs b (by unfold frs;rw[List.filterMap_cons,hf];exact List.mem_cons_of_mem _ hb)) hr⟩
 exact all X.outer (fun _ hb=>hb) I.ok.funs
theorem Inv.stack(I:Inv X pins σ H s):s.heap.FunFrames X.base X.stack:=by
 rcases I.ok.stk with e | ⟨e,hf⟩
 .rw[e];exact I.funs
 .rw[e];obtain⟨m,hn,_⟩:=I.loc;refine .cons (by rw[I.ok.kind];decide) hf hn ?_ I.funs;exact Heap.get?_none_of_le (Nat.le_trans I.ok.bsz I.ok.above)
theorem Inv.stkSub(I:Inv X pins σ H s):∀b∈frs X.stack,b∈X.env.locals::X.fs:=fun b hb=>by
 rcases I.ok.stk with e | ⟨e,hf⟩
 .rw[e] at hb;exact List.mem_cons_of_mem _ hb
 .rw[e] at hb;unfold frs at hb;rw[List.filterMap_cons,hf] at hb;exact hb
theorem Inv.stkFree(I:Inv X pins σ H s):∀b∈frs X.stack,H b=none:=fun b hb=>by
 rcases List.mem_cons.mp (I.stkSub b hb) with e | hb
 .rw[e];exact I.free
 .obtain⟨_,o,ho,_⟩:=I.ok.funs.mem hb;exact I.base.free b o ho (I.ok.frf b hb) fun z=>I.ok.exfs b z hb
theorem Inv.step{g':Array GenState}{t':Nat}{d':Drawn}{ch:List Addr}(I:Inv X pins σ H s)
  (hch:∀b∈ch,(b∈X.ex\/X.s₀.heap.objs.size<=b)/\b≠X.env.locals/\(∀x c,X.env.cells.lookup x=some c->c≠b)/\∀p∈X.pn++pins,p.1≠b)
  (keep:∀b o,b≠X.env.locals->b∉X.fs->b∉ch->s.heap.get? b=some o->H b=none->h'.get? b=some o)
  (slot:∀b o,b≠X.env.locals->b∈X.fs->b∉ch->s.heap.get? b=some o->H b=none->∃sl,h'.get? b=some { o with slots:=sl })(free:∀b o,b∉ch->s.heap.get? b=some o->H b=none->H' b=none)
  (there:∀b o,b∉ch->s.heap.get? b=some o->∃o',h'.get? b=some o')
  (tups:∀b xs,H b=some (.tup xs)->H' b=some (.tup xs))(frzs:∀b o u,H b=some (.frz o u)->H' b=some (.frz o u))(tbls:∀b ps,H b=some (.tbl ps)->∃more,H' b=some (.tbl (ps++more)))
  (ns:∀m,s.heap.Ns X.env.locals m->h'.Ns X.env.locals m)(hok:HOk X.prog X.w H' h')(hg:AllBare g') :
  Inv X pins σ H' { s with heap:=h',gens:=g',drawn:=d',toks:=t' }:=by
 have neL:∀b o,X.s₀.heap.get? b=some o->b≠X.env.locals:=fun b o e=>Nat.ne_of_lt (Nat.lt_of_lt_of_le (Heap.lt_size e) I.ok.above)
 have neC:∀b o,X.s₀.heap.get? b=some o->b∉X.ex->b∉ch:=fun b o e hx hb=>by
  rcases(hch b hb).1 with z | z
  .exact hx z
  .exact absurd (Nat.lt_of_lt_of_le (Heap.lt_size e) z) (Nat.lt_irrefl _)
 have cellK:∀x c,X.env.cells.lookup x=some c->∀v,s.heap.IsCell c v->h'.IsCell c v:=fun x c e v ⟨o,ho,hd⟩=>by
  have nch:c∉ch:=fun z=>(hch c z).2.2.1 x c e rfl
  by_cases hc:c∈X.fs
  .obtain⟨sl,q⟩:=slot c o (I.cne x c e) hc nch ho (I.freeC x c e);exact⟨_,q,hd⟩
  .exact⟨o,keep c o (I.cne x c e) hc nch ho (I.freeC x c e),hd⟩
 refine⟨I.ok,I.os,hg,⟨fun b o e n hb hx=>?_,fun b o e n hb hx=>?_,fun b o e n hx=>?_,fun b o e hx=>?_,fun b xs e=>tups b xs (I.base.tups b xs e),fun b o xs e=>frzs b o xs (I.base.frzs b o xs e),fun b ps e=>?_⟩,?_,fun x c e=>?_,?_,fun x c e=>?_,fun p hp=>?_,hok,I.len⟩
 .exact keep b o (neL b o e) hb (neC b o e hx) (I.base.keep b o e n hb hx) (I.base.free b o e n hx)
 .obtain⟨sl,e1⟩:=I.base.slot b o e n hb hx;obtain⟨sl',e2⟩:=slot b _ (neL b o e) hb (neC b o e hx) e1 (I.base.free b o e n hx);exact⟨sl',e2⟩
 .obtain⟨o',e1⟩:=I.base.there b o e hx;exact free b o' (neC b o e hx) e1 (I.base.free b o e n hx)
 .obtain⟨o',e1⟩:=I.base.there b o e hx;exact there b o' (neC b o e hx) e1
 .obtain⟨m1,e1⟩:=I.base.tbls b ps e;obtain⟨m2,e2⟩:=tbls b _ e1;exact⟨m1++m2,by rw[e2,Array.append_assoc]⟩
 .obtain⟨m,hn,hl⟩:=I.loc;refine⟨m,ns m hn,fun i x v e1 e2 e3=>?_⟩;obtain⟨u,r,l⟩:=hl i x v e1 e2 e3;refine⟨u,r,?_⟩;rcases l with l | ⟨k,c,e,z⟩
  .exact .inl l
  .exact .inr ⟨k,c,e,cellK x c e _ z⟩
 .obtain⟨v,z⟩:=I.cell x c e;exact⟨v,cellK x c e v z⟩
 .obtain⟨m,⟨o,_,_,ho,_⟩,_⟩:=I.loc;exact free _ o (fun z=>(hch _ z).2.1 rfl) ho I.free
 .obtain⟨v,o,ho,hd⟩:=I.cell x c e;exact free c o (fun z=>(hch c z).2.2.1 x c e rfl) ho (I.freeC x c e)
 .obtain⟨e,n,ne,nf,d⟩:=I.pin p hp;have nch:p.1∉ch:=fun z=>(hch p.1 z).2.2.2 p hp rfl
  exact⟨keep p.1 p.2 ne nf nch e n,free p.1 p.2 nch e n,ne,nf,d⟩
theorem Inv.un{t':Nat}(I:Inv X pins σ H s)(u:Un X.fs [] H H' s.heap h')(hok:HOk X.prog X.w H' h'):Inv X pins σ H' { s with heap:=h',toks:=t' }:=by
 obtain⟨m,⟨o,es,ep,ho,r⟩,_⟩:=id I.loc;obtain⟨sl,hL⟩:=u.any ho I.free (by simp);exact I.step (g':=s.gens) (d':=s.drawn) (ch:=[]) (fun _ z=>nomatch z) (fun b o _ hb _ e n=>u.keep b o e n hb (by simp)) (fun b o _ hb _ e n=>u.slot b o e n hb (by simp)) (fun b o _ e n=>u.free b o e n (by simp)) (fun b o _ e=>u.there b o e (by simp)) u.tups u.frzs u.tbls (fun m' hm=>by
  obtain⟨o',es',ep',ho',r'⟩:=hm;rw[ho] at ho';cases ho';exact⟨_,es',ep',hL,r'⟩) hok I.bare
theorem Inv.call{g':Array GenState}{t':Nat}{d':Drawn}{ch:List Addr}(I:Inv X pins σ H s)(u:Un (frs X.stack) ch H H' s.heap h')(hok:HOk X.prog X.w H' h')(hg:AllBare g')
  (hch:∀b∈ch,(b∈X.ex\/X.s₀.heap.objs.size<=b)/\b≠X.env.locals/\(∀x c,X.env.cells.lookup x=some c->c≠b)/\∀p∈X.pn++pins,p.1≠b) :
  Inv X pins σ H' { s with heap:=h',gens:=g',drawn:=d',toks:=t' }:=by
 obtain⟨m,⟨o,es,ep,ho,r⟩,_⟩:=id I.loc;obtain⟨sl,hL⟩:=u.any ho I.free fun z=>(hch _ z).2.1 rfl
 exact I.step (ch:=ch) hch (fun b o hL hb hc e n=>u.keep b o e n (fun z=>(List.mem_cons.mp (I.stkSub b z)).elim hL hb) hc) (fun b o _ _ hc e n=>u.any e n hc) (fun b o hc e n=>u.free b o e n hc) (fun b o hc e=>u.there b o e hc) u.tups u.frzs u.tbls (fun m' hm=>by
  obtain⟨o',es',ep',ho',r'⟩:=hm;rw[ho] at ho';cases ho';exact⟨_,es',ep',hL,r'⟩) hok hg
theorem Inv.turned{t':Nat}{it:Addr}(I:Inv X pins σ H s)(k:∀b o,b≠it->s.heap.get? b=some o->h'.get? b=some o)(hn:H it=none)(hL:it≠X.env.locals)
  (h1:it∈X.ex\/X.s₀.heap.objs.size<=it)(h2:∀x c,X.env.cells.lookup x=some c->c≠it)(h3:∀p∈X.pn++pins,p.1≠it):Inv X pins σ H { s with heap:=h',toks:=t' }:=by
 have nit:∀b u,H b=some u->b≠it:=fun b u e z=>by rw[z,hn] at e;cases e
 refine I.step (g':=s.gens) (d':=s.drawn) (ch:=[it]) (fun b hb=>?_) (fun b o _ _ hc e _=>k b o (fun z=>hc (by simp[z])) e) (fun b o _ _ hc e _=>⟨o.slots,k b o (fun z=>hc (by simp[z])) e⟩) (fun _ _ _ _ n=>n)
  (fun b o hc e=>⟨o,k b o (fun z=>hc (by simp[z])) e⟩) (fun _ _ e=>e) (fun _ _ _ e=>e) (fun b ps e=>⟨#[],by rw[e];simp⟩) (fun m hm=>?_) (fun b u e=>?_) I.bare
 .have e:b=it:=by simpa using hb
  subst e;exact⟨h1,hL,h2,h3⟩
 .obtain⟨o,es,ep,ho,r⟩:=hm;exact⟨o,es,ep,k _ o (Ne.symm hL) ho,r⟩
 .refine(I.hok b u e).stay (fun c v hc q=>k c v ?_ q) (fun _ q=>q) fun _ _ q=>q
  rcases hc with z | z
  .rw[z];exact nit b u e
  .exact nit c _ z
theorem Inv.tok(I:Inv X pins σ H s)(t:Nat):Inv X pins σ H { s with toks:=t }:=I.un (h':=s.heap) (t':=t) Un.refl I.hok
theorem Inv.kept{t':Nat}(I:Inv X pins σ H s)(k:∀b u,s.heap.get? b=some u->h'.get? b=some u):Inv X pins σ H { s with heap:=h',toks:=t' }:=I.un (Un.kept k) (I.hok.kept k)
theorem Inv.laid{a:Addr}{o:HO}{t':Nat}(I:Inv X pins σ H s)(k:∀b u,s.heap.get? b=some u->h'.get? b=some u)(hp:s.heap.objs.size<=a)(new:zaF X.prog X.w (upd H a o) h' a o) :
  Inv X pins σ (upd H a o) { s with heap:=h',toks:=t' }:=I.un (Un.laid k hp (I.hok.fresh hp)) (I.hok.laid k hp new)
theorem Inv.write{x e:Addr}{o:HO}{t':Nat}(I:Inv X pins σ H s)(mu:Mut (H x))(he:e=x\/H e=some (.own x))(k:∀b u,b≠e->s.heap.get? b=some u->h'.get? b=some u)(heo:∃u,h'.get? e=some u)
  (new:zaF X.prog X.w (upd H x o) h' x o):Inv X pins σ (upd H x o) { s with heap:=h',toks:=t' }:=I.un (Un.write mu he k heo) (I.hok.write mu he k heo new)
theorem Inv.weak{σ':List (Option V)}(I:Inv X pins σ H s)(hl:σ'.length=σ.length)(w:∀(i:Nat) v,σ'[i]? = some (some v)->σ[i]? = some (some v)):Inv X pins σ' H s :=
 ⟨I.ok,I.os,I.bare,I.base,let ⟨m,hn,hl'⟩:=I.loc;⟨m,hn,fun i x v e1 e2 e3=>hl' i x v e1 (w i v e2) e3⟩,I.cell,I.free,I.freeC,I.pin,I.hok,hl.trans I.len⟩
theorem Inv.pins_of{pins':List (Addr×Obj)}(I:Inv X pins σ H s)(h:∀p∈pins',s.heap.get? p.1=some p.2/\H p.1=none/\p.1≠X.env.locals/\p.1∉X.fs/\∀v,p.2.data≠ .cell v):Inv X pins' σ H s :=
 ⟨I.ok,I.os,I.bare,I.base,I.loc,I.cell,I.free,I.freeC,fun p hp=>(List.mem_append.mp hp).elim (fun z=>I.pin p (List.mem_append_left _ z)) (h p),I.hok,I.len⟩
theorem zmP{N:List Str}(hN:N.Nodup){i j:Nat}{x:Str}(a:N[i]? = some x)(b:N[j]? = some x):i=j:=by
 obtain⟨h1,e1⟩:=List.getElem?_eq_some_iff.mp a;obtain⟨h2,e2⟩:=List.getElem?_eq_some_iff.mp b;exact(List.getElem_inj hN).mp (e1.trans e2.symm)
theorem zkk{M:Model}{A:Around}{E:Value->Shared->Prop}{i:Nat}{x:Str}{v:V}{u:Value}{Q:Unit->Shared->Prop}(I:Inv X pins σ H s)(hN:X.N.Nodup)(hi:X.N[i]? = some x)(hx:Loc X.env.scope x)(r:RelV v u)
  (h:∀s',Inv X pins (σ.set i (some v)) H s'->(∃a,Heap.SameBut a s.heap s'.heap/\(a=X.env.locals\/X.env.cells.lookup x=some a))->Q () s')(hf:X.fn x=true\/X.env.scope.names.lookup x=some .local:=by first | exact .inl rfl | exact .inr rfl | assumption):wpAny M A (storeName X.env x u) Q E s:=by
 obtain⟨m,hn,hl⟩:=id I.loc;have hcls:(X.env.scope.kind== .class||(X.env.scope.kind== .module&&X.env.locals !=X.env.globals))=false:=by rw[I.ok.kind];rfl
 have hiσ:i < σ.length:=by rw[I.len];exact(List.getElem?_eq_some_iff.mp hi).1
 have cne:=I.cne;have tracked:∀{a:Addr} {h':Heap},(∃o,s.heap.get? a=some o/\H a=none)->Heap.SameBut a s.heap h'->HOk X.prog X.w H h':=fun{a h'} ha hs b ob e=>by
  obtain⟨_,_,hfree⟩:=ha;refine(I.hok b ob e).stay (fun c w' hc q=>(hs.2 c ?_).trans q) (fun _ q=>q) fun _ _ q=>q
  rintro rfl;rcases hc with rfl | hc
  .rw[hfree] at e;cases e
  .rw[hfree] at hc;cases hc
 rcases hx with hk | hk
 .refine wpAny_storeName_local hk hn (fun h' hn' hs=>?_) hcls;obtain⟨oL,_,_,hoL,_⟩:=id hn;refine h _ ⟨I.ok,I.os,I.bare,⟨fun b o e n hb hx=>?_,fun b o e n hb hx=>?_,I.base.free,fun b o e hx=>?_,I.base.tups,I.base.frzs,I.base.tbls⟩,⟨_,hn',fun j y v' e1 e2 e3=>?_⟩,fun y c e=>?_,I.free,I.freeC,fun p hp=>?_,tracked ⟨oL,hoL,I.free⟩ hs,by simpa using I.len⟩ ⟨_,hs, .inl rfl⟩
  .exact(hs.2 b (Nat.ne_of_lt (Nat.lt_of_lt_of_le (Heap.lt_size e) I.ok.above))).trans (I.base.keep b o e n hb hx)
  .obtain⟨sl,e1⟩:=I.base.slot b o e n hb hx;exact⟨sl,(hs.2 b (Nat.ne_of_lt (Nat.lt_of_lt_of_le (Heap.lt_size e) I.ok.above))).trans e1⟩
  .obtain⟨o',e1⟩:=I.base.there b o e hx;exact⟨o',(hs.2 b (Nat.ne_of_lt (Nat.lt_of_lt_of_le (Heap.lt_size e) I.ok.above))).trans e1⟩
  .by_cases hj:j=i
   .subst hj;rw[hi] at e1;cases e1;rw[List.getElem?_set_self hiσ] at e2;cases e2;exact⟨u,r, .inl ⟨hk,by simp⟩⟩
   .rw[List.getElem?_set_ne (Ne.symm hj)] at e2;obtain⟨u',r',q⟩:=hl j y v' e1 e2 e3;refine⟨u',r',?_⟩;rcases q with⟨k,e⟩ | ⟨k,c,e,z⟩
    .refine .inl ⟨k,?_⟩;have:y≠x:=fun e=>hj (zmP hN e1 (e▸hi))
     simp[this,e]
    .exact .inr ⟨k,c,e,z.sameBut hs (cne y c e)⟩
  .obtain⟨w',z⟩:=I.cell y c e;exact⟨w',z.sameBut hs (cne y c e)⟩
  .obtain⟨e,n,ne,nf,d⟩:=I.pin p hp;exact⟨(hs.2 p.1 ne).trans e,n,ne,nf,d⟩
 .have hfn:X.fn x=true:=by
   rcases hf with z | z
   .exact z
   .rw[z] at hk;cases hk
  obtain⟨c,hc⟩:=I.ok.has x (.inl hk);obtain⟨w',z⟩:=I.cell x c hc;refine wpAny_storeName_cell I.ok.kind hk hc z (fun h' hc' hs=>?_);obtain⟨oc,hoc,hocd⟩:=id z;refine h { s with heap:=h' } ⟨I.ok,I.os,I.bare,⟨fun b o e n hb hx=>?_,fun b o e n hb hx=>?_,I.base.free,fun b o e hx=>?_,I.base.tups,I.base.frzs,I.base.tbls⟩,⟨m,hn.sameBut hs (Ne.symm (cne x c hc)),fun j y v' e1 e2 e3=>?_⟩,fun y c' e=>?_,I.free,I.freeC,fun p hp=>?_,tracked ⟨oc,hoc,I.freeC x c hc⟩ hs,by simpa using I.len⟩ ⟨c,hs, .inr hc⟩
  .exact(hs.2 b (Nat.ne_of_lt (Nat.lt_of_lt_of_le (Heap.lt_size e) (I.ok.cab x c hfn hc)))).trans (I.base.keep b o e n hb hx)
  .obtain⟨sl,e1⟩:=I.base.slot b o e n hb hx;exact⟨sl,(hs.2 b (Nat.ne_of_lt (Nat.lt_of_lt_of_le (Heap.lt_size e) (I.ok.cab x c hfn hc)))).trans e1⟩
  .obtain⟨o',e1⟩:=I.base.there b o e hx;exact⟨o',(hs.2 b (Nat.ne_of_lt (Nat.lt_of_lt_of_le (Heap.lt_size e) (I.ok.cab x c hfn hc)))).trans e1⟩
  .by_cases hj:j=i
   .subst hj;rw[hi] at e1;cases e1;rw[List.getElem?_set_self hiσ] at e2;cases e2;exact⟨u,r, .inr ⟨.inl hk,c,hc,hc'⟩⟩
   .rw[List.getElem?_set_ne (Ne.symm hj)] at e2;obtain⟨u',r',q⟩:=hl j y v' e1 e2 e3;refine⟨u',r',?_⟩;rcases q with q | ⟨k,c',e,z'⟩
    .exact .inl q
    .refine .inr ⟨k,c',e,z'.sameBut hs ?_⟩;rintro rfl;exact hj (zmP hN e1 (I.ok.inj _ _ _ e hc▸hi))
  .by_cases hcc:c'=c
   .subst hcc;exact⟨_,hc'⟩
   .obtain⟨w2,z2⟩:=I.cell y c' e;exact⟨w2,z2.sameBut hs hcc⟩
  .obtain⟨e,n,ne,nf,d⟩:=I.pin p hp;refine⟨(hs.2 p.1 ?_).trans e,n,ne,nf,d⟩;intro q;rw[q,hoc] at e;have q':oc=p.2:=Option.some.inj e;exact d w' (by rw[<- q'];exact hocd)
theorem ziK{M:Model}{A:Around}{E:Value->Shared->Prop}{i:Nat}{x:Str}{v:V}{u:Value}{Q:Unit->Shared->Prop}(I:Inv X pins σ H s)(hN:X.N.Nodup)(hi:X.N[i]? = some x)(hx:Loc X.env.scope x)(r:RelV v u)
  (h:∀s',Inv X pins (σ.set i (some v)) H s'->Q () s')(hf:X.fn x=true\/X.env.scope.names.lookup x=some .local:=by first | exact .inl rfl | exact .inr rfl | assumption):wpAny M A (storeName X.env x u) Q E s :=
 zkk I hN hi hx r (fun s' I' _=>h s' I') hf
theorem Inv.call'{s':Shared}{ch:List Addr}(I:Inv X pins σ H s)(ho:s'.os=s.os)(u:Un (frs X.stack) ch H H' s.heap s'.heap)(hok:HOk X.prog X.w H' s'.heap)(hg:AllBare s'.gens)
  (hch:∀b∈ch,(b∈X.ex\/X.s₀.heap.objs.size<=b)/\b≠X.env.locals/\(∀x c,X.env.cells.lookup x=some c->c≠b)/\∀p∈X.pn++pins,p.1≠b):Inv X pins σ H' s':=by
 obtain⟨h',g',d',t',o'⟩:=s';have e:o'=s.os:=ho;subst e;exact I.call (g':=g') (t':=t') (d':=d') u hok hg hch
end
abbrev XK:=Value->Option Addr->Hp->Prop
abbrev St:=List (Option V)
abbrev VK:=V->Hp->Prop
abbrev TE:=St->Hp->VK->Prop
abbrev TT:=St->Hp->(Bool->Hp->Prop)->Prop
abbrev TA:=St->Hp->(List V->Hp->Prop)->Prop
structure Ends where
 nx:St->Hp->Prop
 rt:VK
 bk:St->Hp->Prop:=fun _ _=>False
 ct:St->Hp->Prop:=fun _ _=>False
abbrev TS:=Ends->St->Hp->Prop
def EP(X:Cx)(pins:List (Addr×Obj))(σ:St)(Q:VK)(u:Value)(s':Shared):Prop:=∃v H',Inv X pins σ H' s'/\RelV v u/\Q v H'
def TP(X:Cx)(pins:List (Addr×Obj))(σ:St)(Q:Bool->Hp->Prop)(b:Bool)(s':Shared):Prop:=∃H',Inv X pins σ H' s'/\Q b H'
def AP(X:Cx)(pins:List (Addr×Obj))(σ:St)(Q:List V->Hp->Prop)(us:List Value)(s':Shared):Prop:=∃vs H',Inv X pins σ H' s'/\Vals vs us/\Q vs H'
def SP(X:Cx)(pins:List (Addr×Obj))(D:Ends)(f:Flow)(s':Shared):Prop :=
 match f with
 | .next=>∃ σ' H',Inv X pins σ' H' s'/\D.nx σ' H'
 | .brk=>∃ σ' H',Inv X pins σ' H' s'/\D.bk σ' H'
 | .cont=>∃ σ' H',Inv X pins σ' H' s'/\D.ct σ' H'
 | .ret u=>∃v σ' H',Inv X pins σ' H' s'/\RelV v u/\D.rt v H'
def PE(X:Cx)(e:Expr)(t:TE):Prop :=
 ∀(pins:List (Addr×Obj)) (s:Shared) (σ:St) (H:Hp) (Q:VK),Inv X pins σ H s->t σ H Q->wpAny (model X.prog X.w) X.A (eval e X.env) (EP X pins σ Q) X.xe s
def PT(X:Cx)(e:Expr)(t:TT):Prop :=
 ∀(pins:List (Addr×Obj)) (s:Shared) (σ:St) (H:Hp) (Q:Bool->Hp->Prop),Inv X pins σ H s->t σ H Q->wpAny (model X.prog X.w) X.A (isTrue e X.env (eval e X.env)) (TP X pins σ Q) X.xe s
def PW(X:Cx)(e:Expr)(t:TT):Prop :=
 ∀(whole:Sem Value) (pins:List (Addr×Obj)) (s:Shared) (σ:St) (H:Hp) (Q:Bool->Hp->Prop),Inv X pins σ H s->t σ H Q->wpAny (model X.prog X.w) X.A (isTrue e X.env whole) (TP X pins σ Q) X.xe s
theorem PW.pt{X:Cx}{e:Expr}{t:TT}(h:PW X e t):PT X e t:=h _
def PA(X:Cx)(es:List Expr)(t:TA):Prop :=
 ∀(pos:Pos) (pins:List (Addr×Obj)) (s:Shared) (σ:St) (H:Hp) (Q:List V->Hp->Prop),Inv X pins σ H s->t σ H Q->wpAny (model X.prog X.w) X.A (spliced (backTo pos (starEach es X.env))) (AP X pins σ Q) X.xe s
def PS(X:Cx)(st:Stmt)(t:TS):Prop :=
 ∀(pins:List (Addr×Obj)) (s:Shared) (σ:St) (H:Hp) (D:Ends),Inv X pins σ H s->t D σ H->wpAny (model X.prog X.w) X.A (exec st X.env) (SP X pins D) X.xe s
def PSs(X:Cx)(st:List Stmt)(t:TS):Prop :=
 ∀(pins:List (Addr×Obj)) (s:Shared) (σ:St) (H:Hp) (D:Ends),Inv X pins σ H s->t D σ H->wpAny (model X.prog X.w) X.A (execs st X.env) (SP X pins D) X.xe s
theorem thn{α:Type}{t:Sem α}{Q Q':α->Shared->Prop}{M:Model}{A:Around}{E:Value->Shared->Prop}{s:Shared}(h:wpAny M A t Q E s)(hQ:∀a s,Q a s->Q' a s):wpAny M A t Q' E s:=wpAny_mono h hQ fun _ _ x=>x
section
variable{X:Cx}
def zbJ(i:Nat):TE:=fun σ H Q=>∃v,σ[i]? = some (some v)/\Q v H
def tC(v:V):TE:=fun _ H Q=>Q v H
theorem zxp{i:Nat}{x:Str}{pos:Pos}(hN:X.N[i]? = some x)(hv:Vis X.env.scope x)(hd:(x==("__debug__":Str))=false:=by decide)(hcd:(x==("__classdict__":Str))=false:=by decide):PE X (.Name x pos) (zbJ i):=by
 intro pins s σ H Q I h;obtain⟨v,e,h⟩:=h;obtain⟨m,hn,hl⟩:=I.loc;obtain⟨u,r,l⟩:=hl i x v hN e hv;have fin:EP X pins σ Q u s:=⟨v,H,I,r,h⟩;rcases l with⟨hk,hm⟩ | ⟨hk,c,hc,hcell⟩
 .exact wpAny_Name (wpAny_loadName_local I.ok.kind hk hn hm fin) hd
 .rcases hk with hk | hk
  .exact wpAny_Name (wpAny_loadName_cell I.ok.kind hk hc hcell fin) hd
  .exact wpAny_Name (wpAny_loadName_free I.ok.kind hk hc hcell fin hcd) hd
theorem zrj{i j pos}:PE X (.Constant (.int i) j pos) (tC (.int i)):=fun _ _ _ H _ I h=>wpAny_Constant_int ⟨.int i,H,I.tok _,⟨_,rfl⟩,h⟩
theorem zzA{b j pos}:PE X (.Constant (.bool b) j pos) (tC (.bl b)):=fun _ _ _ H _ I h=>Constant_bool ⟨.bl b,H,I,rfl,h⟩
theorem zxo{x j pos}:PE X (.Constant (.str x) j pos) (tC (.str x)):=fun _ _ _ H _ I h=>Calls.Constant_str ⟨.str x,H,I.tok _,⟨_,rfl⟩,h⟩
def Gl(X:Cx)(x:Str):Prop:=X.env.kindOf x=some .globalImplicit
theorem zdH{E:Value->Shared->Prop}{pins:List (Addr×Obj)}{s:Shared}{σ:St}{H:Hp}{x:Str}{u:Value}{pos:Pos}{Q:Value->Shared->Prop}(I:Inv X pins σ H s)(hg:Gl X x)(hm:X.mg x=some u)(h:Q u s)
  (hd:(x==("__debug__":Str))=false:=by decide):wpAny (model X.prog X.w) X.A (eval (.Name x pos) X.env) Q E s :=
 Calls.Name_function_global I.ok.kind hg (Calls.loadGlobal_global (by rw[I.ok.glob];exact I.mod.glob.keeps I.bk) hm h) hd
theorem zln{E:Value->Shared->Prop}{pins:List (Addr×Obj)}{s:Shared}{σ:St}{H:Hp}{x:Str}{u:Value}{pos:Pos}{Q:Value->Shared->Prop}(I:Inv X pins σ H s)(hg:Gl X x)(hm:X.mg x=none)(hv:bootBuiltins x=some u)(h:Q u s)
  (hn:x≠"__name__":=by decide)(hd:(x==("__debug__":Str))=false:=by decide):wpAny (model X.prog X.w) X.A (eval (.Name x pos) X.env) Q E s:=by
 obtain⟨mb,h1,h2⟩:=I.mod.blt;exact Calls.Name_function_global I.ok.kind hg (Calls.loadGlobal_builtin (by rw[I.ok.glob];exact I.mod.glob.keeps I.bk) hm (by rw[I.ok.blt];exact h1.keeps I.bk) ((h2 x hn).trans hv) h) hd
theorem zuh{x:Str}{v:V}{u:Value}{pos:Pos}(hg:Gl X x)(hm:X.mg x=some u)(r:RelV v u)(hd:(x==("__debug__":Str))=false:=by decide):PE X (.Name x pos) (tC v) :=
 fun _ _ _ H _ I h=>zdH I hg hm ⟨v,H,I,r,h⟩ hd
theorem zvd{x:Str}{v:V}{u:Value}{pos:Pos}(hg:Gl X x)(hm:X.mg x=none)(hv:bootBuiltins x=some u)(r:RelV v u)(hn:x≠"__name__":=by decide)(hd:(x==("__debug__":Str))=false:=by decide):PE X (.Name x pos) (tC v) :=
 fun _ _ _ H _ I h=>zln I hg hm hv ⟨v,H,I,r,h⟩ hn hd
variable{a b:Expr}{ta tb:TE}{pos:Pos}
def tB(t:TE):TT:=fun σ H Q=>t σ H fun x H1=>∃c,x= .bl c/\Q c H1
theorem zxz{e:Expr}{t:TE}(h:PE X e t)(he:∀whole,isTrue e X.env whole=(do let v<-whole;standAt e.pos;holding [v] (truthy v)):=by intro _;rfl):PT X e (tB t):=by
 intro pins s σ H Q I hw;refine isTrue_plain (thn (h pins s σ H _ I hw) fun v s1 ⟨x,H1,I1,r1,q1⟩=>?_) (he _);obtain⟨d,rfl,q⟩:=q1;cases r1;exact wpAny_truthy_bool ⟨H1,I1,q⟩
variable{tA tB':TT}{rest:List Expr}
def zxa(t u:TT):TT:=fun σ H Q=>t σ H fun c H1=>if c=true then u σ H1 Q else Q false H1
def tOr(t u:TT):TT:=fun σ H Q=>t σ H fun c H1=>if c=true then Q true H1 else u σ H1 Q
def zv3(t:TT):TT:=fun σ H Q=>t σ H fun c H1=>Q (!c) H1
theorem zuy(ha:PT X a tA):PW X (.BoolOp .And [a] pos) tA:=by
 intro wh pins s σ H Q I h;refine isTrue_and (thn (ha pins s σ H Q I h) fun c s1 e=>?_);cases c with
 | true=>exact isTrue_and_nil e
 | false=>exact e
theorem zw5(ha:PT X a tA):PW X (.BoolOp .Or [a] pos) tA:=by
 intro wh pins s σ H Q I h;refine isTrue_or (thn (ha pins s σ H Q I h) fun c s1 e=>?_);cases c with
 | false=>exact isTrue_or_nil e
 | true=>exact e
theorem zxM(ha:PT X a tA)(hb:PW X (.BoolOp .And (b::rest) pos) tB'):PW X (.BoolOp .And (a::b::rest) pos) (zxa tA tB'):=by
 intro wh pins s σ H Q I h;refine isTrue_and (thn (ha pins s σ H _ I h) fun c s1 ⟨H1,I1,q1⟩=>?_);cases c with
 | true=>exact hb wh pins s1 σ H1 Q I1 q1
 | false=>exact⟨H1,I1,q1⟩
theorem zzh(ha:PT X a tA)(hb:PW X (.BoolOp .Or (b::rest) pos) tB'):PW X (.BoolOp .Or (a::b::rest) pos) (tOr tA tB'):=by
 intro wh pins s σ H Q I h;refine isTrue_or (thn (ha pins s σ H _ I h) fun c s1 ⟨H1,I1,q1⟩=>?_);cases c with
 | true=>exact⟨H1,I1,q1⟩
 | false=>exact hb wh pins s1 σ H1 Q I1 q1
theorem zxs(ha:PT X a tA):PT X (.UnaryOp .Not a pos) (zv3 tA):=by
 intro pins s σ H Q I h;exact isTrue_not (ha pins s σ H (fun c H1=>Q (!c) H1) I h)
def zr1(ta tb:TE):TE:=fun σ H Q=>ta σ H fun x H1=>∃c,x= .bl c/\if c=true then tb σ H1 Q else Q (.bl false) H1
def zr2(ta:TE):TE:=fun σ H Q=>ta σ H fun x H1=>∃c,x= .bl c/\Q (.bl (!c)) H1
theorem zxq{op}{t:TE}(h:PE X a t):PE X (.BoolOp op [a] pos) t:=fun pins s σ H Q I hw=>BoolOp_one (h pins s σ H Q I hw)
theorem zwq(ha:PE X a ta)(hb:PE X (.BoolOp .And (b::rest) pos) tb):PE X (.BoolOp .And (a::b::rest) pos) (zr1 ta tb):=by
 intro pins s σ H Q I h;refine BoolOp_and (thn (ha pins s σ H _ I h) fun v s1 ⟨x,H1,I1,r1,q1⟩=>?_);obtain⟨c,rfl,q1⟩:=q1;cases r1;refine wpAny_truthy_bool ?_;cases c with
 | true=>exact hb pins s1 σ H1 Q I1 q1
 | false=>exact⟨.bl false,H1,I1,rfl,q1⟩
theorem zwj(ha:PE X a ta):PE X (.UnaryOp .Not a pos) (zr2 ta):=by
 intro pins s σ H Q I h;refine UnaryOp_ (thn (ha pins s σ H _ I h) fun v s1 ⟨x,H1,I1,r1,q1⟩=>?_);obtain⟨c,rfl,q1⟩:=q1;cases r1;exact not_of (wpAny_truthy_bool ⟨.bl (!c),H1,I1,rfl,q1⟩)
end
def SqL(K:Frag)(H:Hp)(a:Addr)(xs:List V):Prop :=
 Rd H a (.lst xs) \/
  ∃(o:Obj) (its:Array Value) (n:Nat),K.lookup a=some o/\o.cls= .type "list"/\o.dict=none/\o.data= .seq its n/\its.size<=sizeLine/\Vals xs its.toList
def SqT(K:Frag)(H:Hp)(a:Addr)(xs:List V):Prop :=
 Rd H a (.tup xs) \/
  ∃(o:Obj) (its:Array Value) (n:Nat),K.lookup a=some o/\o.cls= .type "tuple"/\o.data= .seq its n/\its.size<=sizeLine/\Vals xs its.toList
def zzI:Value->Option V
 | .none=>some .non
 | .bool b=>some (.bl b)
 | .int i _=>some (.int i)
 | .str x _=>some (.str x)
 | .bytes b _=>some (.byt b)
 | .float b _=>some (.flt b)
 | .ref a=>some (.ref a)
 | .type n=>some (.ty n)
 | _=>none
theorem RelV.abs{x:V}{u:Value}(r:RelV x u):zzI u=some x:=by
 cases x with
 | non=>cases r;rfl
 | bl _=>cases r;rfl
 | int _=>obtain⟨t,rfl⟩:=r;rfl
 | str _=>obtain⟨t,rfl⟩:=r;rfl
 | byt _=>obtain⟨t,rfl⟩:=r;rfl
 | flt _=>obtain⟨t,rfl⟩:=r;rfl
 | ref _=>cases r;rfl
 | ty _=>cases r;rfl
theorem RelV.inj{x y:V}{u:Value}(r:RelV x u)(q:RelV y u):x=y:=Option.some.inj (r.abs.symm.trans q.abs)
theorem Vals.inj:∀{xs ys:List V} {us:List Value},Vals xs us->Vals ys us->xs=ys
 | _,_,_, .nil, .nil=>rfl
 | _,_,_, .cons r t, .cons r' t'=>by rw[r.inj r',Vals.inj t t']
section
variable{X:Cx}{pins:List (Addr×Obj)}{σ:St}{H:Hp}{s:Shared}{a:Addr}{xs ys:List V}
theorem SqL.of{K:Frag}(h:H a=some (.lst xs)):SqL K H a xs:= .inl (.inl h)
theorem SqT.of{K:Frag}(h:H a=some (.tup xs)):SqT K H a xs:= .inl (.inl h)
theorem Inv.list(I:Inv X pins σ H s)(h:SqL X.K H a xs):∃its:List Value,Vals xs its/\PlainL s.heap a its.toArray/\xs.length<=sizeLine:=by
 rcases h with h | ⟨o,its,n,hk,hc,hd,hs,hz,r⟩
 .obtain⟨z,its,n,r,e⟩:=h.ok I.hok;exact⟨its,r,⟨_,n,e,rfl,rfl,rfl⟩,z⟩
 .refine⟨its.toList,r,⟨o,n,I.kIn a o hk,hc,hd,by simpa using hs⟩,?_⟩;have e:=r.length;simp only[Array.length_toList] at e;omega
theorem Inv.tuple(I:Inv X pins σ H s)(h:SqT X.K H a xs):∃its:List Value,Vals xs its/\IsTup s.heap a its.toArray/\xs.length<=sizeLine:=by
 rcases h with h | ⟨o,its,n,hk,hc,hs,hz,r⟩
 .obtain⟨z,its,r,p⟩:=h.ok I.hok;exact⟨its,r,p,z⟩
 .refine⟨its.toList,r,⟨o,I.kIn a o hk,hc,n,by simpa using hs⟩,?_⟩;have e:=r.length;simp only[Array.length_toList] at e;omega
theorem Inv.list_inj(I:Inv X pins σ H s)(h:SqL X.K H a xs)(h':SqL X.K H a ys):xs=ys:=by
 obtain⟨its,r,⟨o,n,e,_,_,d⟩,_⟩:=I.list h;obtain⟨its',r',⟨o',n',e',_,_,d'⟩,_⟩:=I.list h';rw[e] at e';cases e';rw[d] at d';injection d' with d1 _;have:its=its':=by simpa using congrArg Array.toList d1
 subst this;exact r.inj r'
theorem Inv.tuple_inj(I:Inv X pins σ H s)(h:SqT X.K H a xs)(h':SqT X.K H a ys):xs=ys:=by
 obtain⟨its,r,⟨o,e,_,n,d⟩,_⟩:=I.tuple h;obtain⟨its',r',⟨o',e',_,n',d'⟩,_⟩:=I.tuple h';rw[e] at e';cases e';rw[d] at d';injection d' with d1 _;have:its=its':=by simpa using congrArg Array.toList d1
 subst this;exact r.inj r'
end
abbrev Cx.wish(X:Cx)(E:Value->Shared->Prop):Cx:={ X with xe:=E }
abbrev Cx.nox(X:Cx):Cx:=X.wish fun _ _=>False
theorem Cx.Ok.wish{X:Cx}(ok:X.Ok)(E:Value->Shared->Prop):(X.wish E).Ok :=
 ⟨ok.mod,ok.kind,ok.glob,ok.blt,ok.above,ok.inj,ok.has,ok.cab,ok.hd,ok.frames,ok.stk,ok.exf,ok.bs,ok.bsz,ok.noex,ok.exfs,ok.funs,ok.frf⟩
theorem Cx.Ok.unwish{X:Cx}{E:Value->Shared->Prop}(ok:(X.wish E).Ok):X.Ok :=
 ⟨ok.mod,ok.kind,ok.glob,ok.blt,ok.above,ok.inj,ok.has,ok.cab,ok.hd,ok.frames,ok.stk,ok.exf,ok.bs,ok.bsz,ok.noex,ok.exfs,ok.funs,ok.frf⟩
section
variable{X:Cx}{pins:List (Addr×Obj)}{σ:St}{H:Hp}{s:Shared}{E:Value->Shared->Prop}
theorem Inv.wish(I:Inv X pins σ H s)(E:Value->Shared->Prop):Inv (X.wish E) pins σ H s:=⟨I.ok.wish E,I.os,I.bare,I.base,I.loc,I.cell,I.free,I.freeC,I.pin,I.hok,I.len⟩
theorem Inv.unwish(I:Inv (X.wish E) pins σ H s):Inv X pins σ H s:=⟨I.ok.unwish,I.os,I.bare,I.base,I.loc,I.cell,I.free,I.freeC,I.pin,I.hok,I.len⟩
theorem SP.unwish{D:Ends}{f:Flow}{s':Shared}(h:SP (X.wish E) pins D f s'):SP X pins D f s':=by
 cases f with
 | next=>obtain⟨σ',H',I,q⟩:=h;exact⟨σ',H',I.unwish,q⟩
 | brk=>obtain⟨σ',H',I,q⟩:=h;exact⟨σ',H',I.unwish,q⟩
 | cont=>obtain⟨σ',H',I,q⟩:=h;exact⟨σ',H',I.unwish,q⟩
 | ret u=>obtain⟨v,σ',H',I,r,q⟩:=h;exact⟨v,σ',H',I.unwish,r,q⟩
theorem PSs.nox{st:List Stmt}{t:TS}(h:PSs X.nox st t):PSs X st t:=fun pins s σ H D I hw =>
 wpAny_mono (h pins s σ H D (I.wish _) hw) (fun _ _ q=>q.unwish) fun _ _ z=>False.elim z
end
section
variable{X:Cx}{st:Stmt}{rest:List Stmt}{t u:TS}{e:Expr}{te:TE}{pos:Pos}
def zqF:TS:=fun D σ H=>D.nx σ H
def zj7(t u:TS):TS:=fun D σ H=>t { D with nx:=u D } σ H
theorem zoS:PSs X [] zqF:=fun _ _ σ H _ I h=>wpAny_execs_nil ⟨σ,H,I,h⟩
theorem zr4(h1:PS X st t)(h2:PSs X rest u):PSs X (st::rest) (zj7 t u):=by
 intro pins s σ H D I h;refine wpAny_execs_cons (thn (h1 pins s σ H { D with nx:=u D } I h) fun f s1 q=>?_);cases f with
 | next =>
  obtain⟨σ',H',I',q⟩:=q;exact h2 pins s1 σ' H' D I' q
 | ret v=>exact q
 | brk=>exact q
 | cont=>exact q
theorem ztN(h1:PS X st t):PSs X [st] t:=by
 intro pins s σ H D I h;refine wpAny_execs_cons (thn (h1 pins s σ H D I h) fun f s1 q=>?_);cases f with
 | next=>exact wpAny_execs_nil q
 | ret v=>exact q
 | brk=>exact q
 | cont=>exact q
theorem Inv.quiet{pins:List (Addr×Obj)}{σ:St}{H:Hp}{s:Shared}(I:Inv X pins σ H s):interactive X.env=false:=by simp[interactive,I.ok.kind]
def zrl(te:TE):TS:=fun D σ H=>te σ H fun _ H1=>D.nx σ H1
theorem zvb(he:PE X e te)(hs:swapsWith e none pos.line X.env=pure false:=by rfl):PS X (.Expr e pos) (zrl te):=by
 intro pins s σ H D I h;exact wpAny_Expr_any (thn (he pins s σ H _ I h) fun v s1 ⟨x,H1,I1,r1,q1⟩=>⟨σ,H1,I1,q1⟩) I.quiet hs
def zn3(te:TE):TS:=fun D σ H=>te σ H D.rt
theorem zxC(he:PE X e te):PS X (.Return (some e) pos) (zn3 te):=by
 intro pins s σ H D I h;exact wpAny_Return_some (thn (he pins s σ H _ I h) fun v s1 ⟨x,H1,I1,r1,q1⟩=>⟨x,σ,H1,I1,r1,q1⟩)
def zvo(c:TT)(t u:TS):TS:=fun D σ H=>c σ H fun b H1=>if b=true then t D σ H1 else u D σ H1
theorem zzw{c:Expr}{a b:List Stmt}{tc:TT}(hc:PT X c tc)(ha:PSs X a t)(hb:PSs X b u):PS X (.If c a b pos) (zvo tc t u):=by
 intro pins s σ H D I h;refine wpAny_If (thn (hc pins s σ H _ I h) fun d s1 ⟨H1,I1,q1⟩=>?_);cases d with
 | true=>exact ha pins s1 σ H1 D I1 q1
 | false=>exact hb pins s1 σ H1 D I1 q1
def zoc:TS:=fun _ _ _=>False
theorem zri:PS X st zoc:=fun _ _ _ _ _ _ h=>h.elim
end
abbrev TG:=V->St->Hp->(St->Hp->Prop)->Prop
abbrev TGs:=List V->St->Hp->(St->Hp->Prop)->Prop
def PG(X:Cx)(target:Expr)(t:TG):Prop :=
 ∀(pins:List (Addr×Obj)) (s:Shared) (σ:St) (H:Hp) (v:V) (u:Value) (Q:St->Hp->Prop),Inv X pins σ H s->RelV v u->t v σ H Q ->
  wpAny (model X.prog X.w) X.A (assign target X.env u) (fun _ s'=>∃ σ' H',Inv X pins σ' H' s'/\Q σ' H') X.xe s
def PGs(X:Cx)(ts:List Expr)(t:TGs):Prop :=
 ∀(pins:List (Addr×Obj)) (s:Shared) (σ:St) (H:Hp) (vs:List V) (us:List Value) (Q:St->Hp->Prop),Inv X pins σ H s->Vals vs us->t vs σ H Q ->
  wpAny (model X.prog X.w) X.A (assignInOrder ((assignEach ts X.env).map (·.2)) us) (fun _ s'=>∃ σ' H',Inv X pins σ' H' s'/\Q σ' H') X.xe s
abbrev zuf:=V->V->V->Hp->(Hp->Prop)->Prop
def zxA(X:Cx)(t:zuf):Prop :=
 ∀(pins:List (Addr×Obj)) (s:Shared) (σ:St) (H:Hp) (o i v:V) (ov iv u:Value) (Q:Hp->Prop),Inv X pins σ H s->RelV o ov->RelV i iv->RelV v u->t o i v H Q ->
  wpAny (model X.prog X.w) X.A (setItem ov iv u) (fun _ s'=>∃H',Inv X pins σ H' s'/\Q H') X.xe s
section
variable{X:Cx}{pos:Pos}
def zex(i:Nat):TG:=fun v σ H Q=>Q (σ.set i (some v)) H
theorem ztz{i:Nat}{x:Str}(hN:X.N.Nodup)(hi:X.N[i]? = some x)(hx:Loc X.env.scope x)(hf:X.fn x=true\/X.env.scope.names.lookup x=some .local:=by first | exact .inl rfl | exact .inr rfl | assumption):PG X (.Name x pos) (zex i):=by
 intro pins s σ H v u Q I r h;exact wpAny_assign_Name (ziK I hN hi hx r (fun s' I'=>⟨_,H,I',h⟩) hf)
def zwX:TGs:=fun vs σ H Q=>vs=[]/\Q σ H
def zrU(t:TG)(u:TGs):TGs:=fun vs σ H Q=>∃v r,vs=v::r/\t v σ H fun σ' H'=>u r σ' H' Q
theorem zt8:PGs X [] zwX:=by
 intro pins s σ H vs us Q I r h;obtain⟨e,h⟩:=h;subst e;cases r;exact assignInOrder_nil ⟨σ,H,I,h⟩
theorem zq2{e:Expr}{es:List Expr}{t:TG}{u:TGs}(h1:PG X e t)(h2:PGs X es u)
  (hs:(assignEach (e::es) X.env).map (·.2)=assign e X.env::(assignEach es X.env).map (·.2):=by rfl):PGs X (e::es) (zrU t u):=by
 intro pins s σ H vs us Q I r h;obtain⟨v,vr,e1,h⟩:=h;subst e1;cases r with
 | cons r rr =>
  rw[hs];refine assignInOrder_cons (thn (h1 pins s σ H _ _ _ I r h) fun _ s1 ⟨σ1,H1,I1,q1⟩=>?_);exact h2 pins s1 σ1 H1 _ _ Q I1 rr q1
def zzN(K:Frag)(n:Nat)(t:TGs):TG:=fun v σ H Q=>∃a xs,v= .ref a/\SqT K H a xs/\xs.length=n/\t xs σ H Q
theorem zxG{es:List Expr}{k:Nat}{t:TGs}{n:Nat}(hc:X.calm=true)(h:PGs X es t)
  (hn:(assignEach es X.env).length=n:=by rfl)(hst:(assignEach es X.env).findIdx? (·.1)=none:=by rfl):PG X (.Tuple es k pos) (zzN X.K n t):=by
 intro pins s σ H v u Q I r hw;obtain⟨a,xs,e1,hq,hl,hw⟩:=hw;subst e1;cases r;obtain⟨its,rv,ht,hz⟩:=I.tuple hq;refine assign_Tuple_tuple (I.ok.hd hc) ht (by simp[hn,<- hl,rv.length]) hst fun h' hx=>?_
 have I1:Inv X pins σ H { s with heap:=h' }:=I.kept (t':=s.toks) fun b o e=>hx b o (Nat.ne_of_lt (Heap.lt_size e)) e
 exact h pins _ σ H xs _ Q I1 (by simpa using rv) hw
def zmq(to ti:TE)(t:zuf):TG:=fun v σ H Q=>to σ H fun o H1=>ti σ H1 fun i H2=>t o i v H2 fun H3=>Q σ H3
theorem zxS{o i:Expr}{to ti:TE}{t:zuf}(ho:PE X o to)(hi:PE X i ti)(hs:zxA X t)
  (ha:∀v,assign (.Subscript o i pos) X.env v=(do
   let ov<-holding [v] (eval o X.env)
   let iv<-holding [v,ov] (eval i X.env)
   standAt pos
   holding [v,ov,iv] (setItem ov iv v)
   release [v,ov,iv] []):=by intro _;rfl):PG X (.Subscript o i pos) (zmq to ti t):=by
 intro pins s σ H v u Q I r h;rw[ha];refine wpAny_bind (wpAny_holding (thn (ho pins s σ H _ I h) fun ov s1 ⟨x,H1,I1,r1,q1⟩=>?_));refine wpAny_bind (wpAny_holding (thn (hi pins s1 σ H1 _ I1 q1) fun iv s2 ⟨y,H2,I2,r2,q2⟩=>?_));refine wpAny_bind (wpAny_standAt (wpAny_bind (wpAny_holding (thn (hs pins s2 σ H2 x y v ov iv u _ I2 r1 r2 r q2) fun _ s3 ⟨H3,I3,q3⟩=>?_))));exact wpAny_release ⟨σ,H3,I3,q3⟩
def zeh(te:TE)(g:TG):TS:=fun D σ H=>te σ H fun x H1=>g x σ H1 D.nx
theorem zwh{tg e:Expr}{te:TE}{g:TG}(he:PE X e te)(hg:PG X tg g)(hs:swapsWithSole [tg] e pos.line X.env=pure false:=by rfl)(hw:swappedStores [tg] e X.env=pure none:=by rfl)
  (h1:(assignEach [tg] X.env).map (·.2)=[assign tg X.env]:=by rfl):PS X (.Assign [tg] e pos) (zeh te g):=by
 intro pins s σ H D I h;refine wpAny_Assign_stores (thn (he pins s σ H _ I h) fun v s1 ⟨x,H1,I1,r1,q1⟩=>?_) hs hw;rw[h1];exact thn (hg pins s1 σ H1 x v _ I1 r1 q1) fun _ s2 q=>q
theorem zya{i:Nat}{x:Str}{e:Expr}{te:TE}{pos':Pos}(hN:X.N.Nodup)(hi:X.N[i]? = some x)(hx:Loc X.env.scope x)(he:PE X e te)(hs:swapsWith e (some (.Name x pos')) pos.line X.env=pure false:=by rfl)(hf:X.fn x=true\/X.env.scope.names.lookup x=some .local:=by first | exact .inl rfl | exact .inr rfl | assumption) :
  PS X (.Assign [.Name x pos'] e pos) (zeh te (zex i)):=by
 intro pins s σ H D I h;refine wpAny_Assign_Name (thn (he pins s σ H _ I h) fun v s1 ⟨y,H1,I1,r1,q1⟩=>?_) hs;exact ziK I1 hN hi hx r1 (fun s2 I2=>⟨_,H1,I2,q1⟩) hf
end
section
variable{X:Cx}{pos:Pos}
end
structure It where
 go:Nat->Hp->Prop
 yld:Nat->Hp->V->Hp->Prop
 stop:Nat->Hp->Prop
def zj2(X:Cx)(pins:List (Addr×Obj))(H:Hp)(b:Addr):Prop :=
 H b=none/\b≠X.env.locals/\b∉X.fs/\(b∈X.ex\/X.s₀.heap.objs.size<=b)/\(∀x c,X.env.cells.lookup x=some c->c≠b)/\∀p∈X.pn++pins,p.1≠b
theorem Inv.fpOk{X:Cx}{pins:List (Addr×Obj)}{σ:St}{H H':Hp}{s:Shared}{b:Addr}(I:Inv X pins σ H s)(hb:s.heap.objs.size<=b)(hn:H' b=none):zj2 X pins H' b:=by
 refine⟨hn,Nat.ne_of_gt (Nat.lt_of_lt_of_le I.lt hb),I.nofs hb, .inr (Nat.le_trans I.sz hb),fun x c e z=>?_,fun p hp z=>?_⟩
 .obtain⟨v,q⟩:=I.cell x c e;exact absurd (Nat.lt_of_lt_of_le q.lt (by rw[z];exact hb)) (Nat.lt_irrefl _)
 .exact absurd (Nat.lt_of_lt_of_le (Heap.lt_size (I.pin p hp).1) (by rw[z];exact hb)) (Nat.lt_irrefl _)
structure Turn(P:Program)(w:World)(K:Frag)(tg:Expr)(J:It)(fp:List Addr)(it:Addr)(tn:Nat->Heap->Prop):Prop where
 mem:it∈fp
 obj:∀i h,tn i h->∀b∈fp,∃o,h.get? b=some o/\∀v,o.data≠ .cell v
 keep:∀i h h',tn i h->(∀b∈fp,∀o,h.get? b=some o->h'.get? b=some o)->tn i h'
 item:∀(X:Cx),X.prog=P->X.w=w->X.K=K->X.calm=true->∀(i:Nat) (pins:List (Addr×Obj)) (s:Shared) (σ:St) (H:Hp) (E:Value->Shared->Prop),Inv X pins σ H s->(∀b∈fp,zj2 X pins H b)->tn i s.heap->J.go i H ->
  wpAny (model P w) X.A (pyNext (.ref it)) (fun r s1=>∃u,r=some u /\
   wpAny (model P w) X.A (letOwnedTupleGo tg (.ref it) u) (fun _ s2=>∃x H',Inv X pins σ H' s2/\RelV x u/\J.yld i H x H'/\tn (i+1) s2.heap/\∀b∈fp,H' b=none) E s1) E s
 done:∀(X:Cx),X.prog=P->X.w=w->X.K=K->X.calm=true->∀(i:Nat) (pins:List (Addr×Obj)) (s:Shared) (σ:St) (H:Hp) (E:Value->Shared->Prop),Inv X pins σ H s->(∀b∈fp,zj2 X pins H b)->tn i s.heap->J.stop i H ->
  wpAny (model P w) X.A (pyNext (.ref it)) (fun r s1=>r=none/\Inv X pins σ H s1) E s
 self:∀(A:Around) (i:Nat) (s:Shared) (Q:Value->Shared->Prop) (E:Value->Shared->Prop),tn i s.heap->Q (.ref it) s->wpAny (model P w) A (pyIter (.ref it)) Q E s
abbrev TI:=St->Hp->(It->Hp->Prop)->Prop
def PIE(X:Cx)(pins:List (Addr×Obj))(σ:St)(tg:Expr)(R:It->Hp->Prop)(itv:Value)(s2:Shared):Prop :=
 ∃(it:Addr) (fp:List Addr) (tn:Nat->Heap->Prop) (J:It) (H':Hp),itv= .ref it/\Inv X pins σ H' s2/\Turn X.prog X.w X.K tg J fp it tn/\tn 0 s2.heap/\(∀b∈fp,zj2 X pins H' b)/\R J H'
def PI(X:Cx)(tg iter:Expr)(wi:TI):Prop :=
 ∀(pins:List (Addr×Obj)) (s:Shared) (σ:St) (H:Hp) (R:It->Hp->Prop),Inv X pins σ H s->wi σ H R ->
  wpAny (model X.prog X.w) X.A (eval iter X.env) (fun v s1=>wpAny (model X.prog X.w) X.A (pyIter v) (PIE X pins σ tg R) X.xe s1) X.xe s
theorem zoR{M:Model}{A:Around}{E:Value->Shared->Prop}{s:Shared}{tg:Expr}{it:Addr}{u:Value}{o:Obj}{n:String}{vs:Array Value}{Q:Unit->Shared->Prop}(ho:s.heap.get? it=some o)(hc:o.cls= .type n)(hd:o.data= .fields vs)
  (hn:["enumerate","zip","dict_itemiterator","dict_reverseitemiterator","odict_iterator","itertools.zip_longest","itertools.pairwise"].contains n=false)(hQ:Q () s):wpAny M A (letOwnedTupleGo tg (.ref it) u) Q E s:=by
 unfold letOwnedTupleGo;cases tg<;>first
  | exact wpAny_pure hQ
  | (cases u<;>first
    | exact wpAny_pure hQ
    | (refine wpAny_bind (wpAny_load ho ?_)
       rw[hc,hd];show wpAny M A (if (["enumerate","zip","dict_itemiterator","dict_reverseitemiterator","odict_iterator","itertools.zip_longest","itertools.pairwise"].contains n&&vs[0]? == some (rawInt _))=true then _ else _) Q E s;rw[if_neg (by intro h;rw[hn,Bool.false_and] at h;cases h)];exact wpAny_pure hQ))
def Itl(K:Frag)(a:Addr):It :=
 ⟨fun i H=>∃xs x,SqL K H a xs/\xs[i]? = some x,fun i H x H'=>H'=H/\∀xs,SqL K H a xs->xs[i]? = some x,fun i H=>∃xs,SqL K H a xs/\xs.length<=i⟩
def Itt(K:Frag)(a:Addr):It :=
 ⟨fun i H=>∃xs x,SqT K H a xs/\xs[i]? = some x,fun i H x H'=>H'=H/\∀xs,SqT K H a xs->xs[i]? = some x,fun i H=>∃xs,SqT K H a xs/\xs.length<=i⟩
def Itr(lo:Int)(n:Nat):It:=⟨fun i _=>i < n,fun i H x H'=>H'=H/\x= .int (lo+i),fun i _=>n<=i⟩
theorem zpI{P:Program}{w:World}{K:Frag}{tg:Expr}(a it:Addr):Turn P w K tg (Itl K a) [it] it (fun i h=>h.IsListIter it a i) where
 mem:=by simp
 obj:=fun i h st b hb=>by
  have e:b=it:=by simpa using hb
  subst e;obtain⟨o,e,c,d⟩:=st;exact⟨o,e,fun v z=>by rw[d] at z;cases z⟩
 keep:=fun i h h' st k=>st.at fun o e=>k it (by simp) o e
 item:=by
  intro X hP hw hK hc i pins s σ H E I hf st hg;subst hP hw hK;obtain⟨xs,x,hq,hx⟩:=hg;obtain⟨its,rv,p,hz⟩:=I.list hq;obtain⟨u,hu,ru⟩:=rv.get hx;obtain⟨f0,f1,f2,f3,f4,f5⟩:=hf it (by simp);refine wpAny_pyNext_list_item st p.isList (x:=u) (by simpa using hu) fun h' st' sb=>?_
  have I1:Inv X pins σ H { s with heap:=h' }:=I.turned (t':=s.toks) (fun b o hb e=>(sb.2 b hb).trans e) f0 f1 f3 f4 f5;obtain⟨o,e,c,d⟩:=id st';exact⟨u,rfl,zoR (s:={ s with heap:=h' }) e c d (by decide) ⟨x,H,I1,ru,⟨rfl,fun ys hy=>by rw[I.list_inj hy hq];exact hx⟩,st',fun b hb=>(hf b hb).1⟩⟩
 done:=by
  intro X hP hw hK hc i pins s σ H E I hf st hg;subst hP hw hK;obtain⟨xs,hq,hx⟩:=hg;obtain⟨its,rv,p,hz⟩:=I.list hq;obtain⟨f0,f1,f2,f3,f4,f5⟩:=hf it (by simp);have hl:=rv.length;exact wpAny_pyNext_list_end (I.ok.hd hc) st p.isList (by simp;omega) fun h' eb=>⟨rfl,I.turned (t':=s.toks) (fun b o hb e=>eb b o hb e) f0 f1 f3 f4 f5⟩
 self:=fun _ _ _ _ _ st h=>wpAny_pyIter_listiter st h
theorem znw{P:Program}{w:World}{K:Frag}{tg:Expr}(a it:Addr):Turn P w K tg (Itt K a) [it] it (fun i h=>h.IsTupleIter it a i) where
 mem:=by simp
 obj:=fun i h st b hb=>by
  have e:b=it:=by simpa using hb
  subst e;obtain⟨o,e,c,d⟩:=st;exact⟨o,e,fun v z=>by rw[d] at z;cases z⟩
 keep:=fun i h h' st k=>st.at fun o e=>k it (by simp) o e
 item:=by
  intro X hP hw hK hc i pins s σ H E I hf st hg;subst hP hw hK;obtain⟨xs,x,hq,hx⟩:=hg;obtain⟨its,rv,p,hz⟩:=I.tuple hq;obtain⟨u,hu,ru⟩:=rv.get hx;obtain⟨f0,f1,f2,f3,f4,f5⟩:=hf it (by simp);refine wpAny_pyNext_tuple_item st (show s.heap.IsTuple a its.toArray from p) (x:=u) (by simpa using hu) fun h' st' sb=>?_
  have I1:Inv X pins σ H { s with heap:=h' }:=I.turned (t':=s.toks) (fun b o hb e=>(sb.2 b hb).trans e) f0 f1 f3 f4 f5;obtain⟨o,e,c,d⟩:=id st';exact⟨u,rfl,zoR (s:={ s with heap:=h' }) e c d (by decide) ⟨x,H,I1,ru,⟨rfl,fun ys hy=>by rw[I.tuple_inj hy hq];exact hx⟩,st',fun b hb=>(hf b hb).1⟩⟩
 done:=by
  intro X hP hw hK hc i pins s σ H E I hf st hg;subst hP hw hK;obtain⟨xs,hq,hx⟩:=hg;obtain⟨its,rv,p,hz⟩:=I.tuple hq;obtain⟨f0,f1,f2,f3,f4,f5⟩:=hf it (by simp);have hl:=rv.length;exact wpAny_pyNext_tuple_end (I.ok.hd hc) st (show s.heap.IsTuple a its.toArray from p) (by simp;omega) fun h' eb=>⟨rfl,I.turned (t':=s.toks) (fun b o hb e=>eb b o hb e) f0 f1 f3 f4 f5⟩
 self:=fun _ _ _ _ _ st h=>wpAny_pyIter_tupleiter st h
theorem znI{P:Program}{w:World}{K:Frag}{tg:Expr}(it:Addr)(lo:Int)(n:Nat):Turn P w K tg (Itr lo n) [it] it (fun i h=>IsRangeIter h it (lo+(i:Nat)*1) ((n:Int) - (i:Nat)) 1) where
 mem:=by simp
 obj:=fun i h st b hb=>by
  have e:b=it:=by simpa using hb
  subst e;exact⟨_,st,fun v z=>by
   have z':Data.fields _=Data.cell v:=z;cases z'⟩
 keep:=fun i h h' st k=>k it (by simp) _ st
 item:=by
  intro X hP hw hK hc i pins s σ H E I hf st hg;subst hP hw hK;obtain⟨f0,f1,f2,f3,f4,f5⟩:=hf it (by simp);have W:=Walks.range (prog:=X.prog) (w:=X.w) (I.ok.hd hc) it lo 1 n;refine W.item i s _ _ hg st fun v h' tk hv st' kk=>?_
  obtain⟨t,rfl⟩:=hv;have I1:Inv X pins σ H { s with heap:=h',toks:=tk }:=I.turned (fun b o hb e=>kk b o (by simpa using hb) e) f0 f1 f3 f4 f5;refine⟨_,rfl,zoR (s:={ s with heap:=h',toks:=tk }) (n:="range_iterator") st' rfl rfl (by decide) ⟨.int (lo+i),H,I1,⟨t,?_⟩,⟨rfl,rfl⟩,st',fun b hb=>(hf b hb).1⟩⟩;rw[Int.mul_one]
 done:=by
  intro X hP hw hK hc i pins s σ H E I hf st hg;subst hP hw hK;obtain⟨f0,f1,f2,f3,f4,f5⟩:=hf it (by simp);exact wpAny_pyNext_range_end (I.ok.hd hc) st (by have:n<=i:=hg;omega) fun h' eb=>⟨rfl,I.turned (t':=s.toks) (fun b o hb e=>eb b o hb e) f0 f1 f3 f4 f5⟩
 self:=fun _ _ _ _ _ st h=>wpAny_pyIter_rangeiter st h
section
variable{X:Cx}{tg:Expr}
theorem zsh{pins:List (Addr×Obj)}{σ:St}{H:Hp}{s:Shared}{R:It->Hp->Prop}{E:Value->Shared->Prop}{lo hi:Int}{t u v:Tok}{tk:Nat}(I:Inv X pins σ H s)(h1: -(2^62)<=lo)(h2:lo < 2^62)(h3: -(2^62)<=hi)(h4:hi < 2^62)
  (q:R (Itr lo (hi - lo).toNat) H):wpAny (model X.prog X.w) X.A (pyIter (.ref s.heap.objs.size)) (PIE X pins σ tg R) E { s with heap:=s.heap.push { cls:= .type "range",data:= .fields #[.int lo t, .int hi u, .int 1 v] },toks:=tk }:=by
 refine wpAny_pyIter_range (IsRange.new ..) (small_one h1 h2 h3 h4) ?_;have I1:Inv X pins σ H { s with heap:=s.heap.push { cls:= .type "range",data:= .fields #[.int lo t, .int hi u, .int 1 v] },toks:=tk }:=I.kept fun b o e=>Heap.get?_push_of_some _ e
 refine⟨(s.heap.push { cls:= .type "range",data:= .fields #[.int lo t, .int hi u, .int 1 v] }).objs.size,[(s.heap.push { cls:= .type "range",data:= .fields #[.int lo t, .int hi u, .int 1 v] }).objs.size],_,_,H,rfl,
  I1.kept (t':=tk) fun b o e=>Heap.get?_push_of_some _ e,znI _ lo (hi - lo).toNat,?_,fun b hb=>?_,q⟩
 .have e1:lo+((0:Nat):Int)*1=lo:=by simp
  have e2:(((hi - lo).toNat:Nat):Int) - ((0:Nat):Int)=Builtin.Range.rangeSize lo hi 1:=by rw[rangeSize_one];split<;>omega
  show IsRangeIter _ _ (lo+((0:Nat):Int)*1) ((((hi - lo).toNat:Nat):Int) - ((0:Nat):Int)) 1;rw[e1,e2];exact Heap.get?_push_size _ rfl
 .have e:b=(s.heap.push { cls:= .type "range",data:= .fields #[.int lo t, .int hi u, .int 1 v] }).objs.size:=by simpa using hb
  subst e;exact I1.fpOk (Nat.le_refl _) (I1.hok.fresh (Nat.le_refl _))
def zre(ta:TA):TI:=fun σ H R=>ta σ H fun vs H1=>∃j:Int,vs=[.int j]/\ -(2^62)<=j/\j < 2^62/\R (Itr 0 j.toNat) H1
theorem zpA{a:Expr}{ta:TA}{p pos:Pos}(hg:Gl X "range")(hm:X.mg "range"=none)(ha:PA X [a] ta)(hs:starEach [a] X.env=[(false,eval a X.env)]:=by rfl):PI X tg (.Call (.Name "range" p) [a] [] pos) (zre ta):=by
 intro pins s σ H R I h;refine Call_ (zln I hg hm boot_range (PyProof.Rows.callWith_type1 (thn (ha pos pins s σ H _ I h) fun us s1 ⟨vs,H1,I1,r1,q1⟩=>?_) hs rfl));obtain⟨j,e,q1,q2,q⟩:=q1;subst e;cases r1 with
 | cons r rr =>
  cases rr;obtain⟨t,rfl⟩:=r;exact call_range_1 (zsh I1 (by omega) (by omega) q1 q2 (by simpa using q))
def zwY(wi:TI)(g:TG)(tb:TS):TS:=fun D σ H=>wi σ H fun J H1=>∃W:Nat->Nat->St->Hp->Prop,(∃m,W 0 m σ H1)/\∀i m σ H,W i m σ H ->
 (J.stop i H/\D.nx σ H)\/(J.go i H/\∃N:St->Hp->Prop,(∀ σ' H',N σ' H'->∃m',m' < m/\W (i+1) m' σ' H')/\∀x H',J.yld i H x H'->g x σ H' fun σ2 H2=>tb { D with nx:=N,ct:=N,bk:=D.nx } σ2 H2)
def zed(fp:List Addr)(h:Heap):List (Addr×Obj):=fp.filterMap fun b=>(h.get? b).map fun o=>(b,o)
theorem zet{fp:List Addr}{h:Heap}{b:Addr}{o:Obj}(hb:b∈fp)(e:h.get? b=some o):(b,o)∈zed fp h:=List.mem_filterMap.mpr ⟨b,hb,by rw[e];rfl⟩
theorem zkM{fp:List Addr}{h:Heap}{p:Addr×Obj}(hp:p∈zed fp h):p.1∈fp/\h.get? p.1=some p.2:=by
 obtain⟨b,hb,e⟩:=List.mem_filterMap.mp hp;cases q:h.get? b with
 | none=>rw[q] at e;cases e
 | some o =>
  rw[q] at e;have e':(b,o)=p:=Option.some.inj e;subst e';exact⟨hb,q⟩
theorem Inv.pinned{pins:List (Addr×Obj)}{σ:St}{H:Hp}{s:Shared}{fp:List Addr}(I:Inv X pins σ H s)(hf:∀b∈fp,zj2 X pins H b)(ho:∀b∈fp,∃o,s.heap.get? b=some o/\∀v,o.data≠ .cell v):Inv X (pins++zed fp s.heap) σ H s :=
 I.pins_of fun p hp=>(List.mem_append.mp hp).elim (fun z=>I.pin p (List.mem_append_right _ z)) fun z=>by
  obtain⟨hb,e⟩:=zkM z;obtain⟨f0,f1,f2,_⟩:=hf p.1 hb;obtain⟨o,e',d⟩:=ho p.1 hb;rw[e] at e';cases e';exact⟨e,f0,f1,f2,d⟩
theorem Inv.unpinned{pins pl:List (Addr×Obj)}{σ:St}{H:Hp}{s:Shared}(I:Inv X (pins++pl) σ H s):Inv X pins σ H s:=I.pins_of fun p hp=>I.pin p (List.mem_append_right _ (List.mem_append_left _ hp))
theorem zxB{iter:Expr}{body:List Stmt}{wi:TI}{g:TG}{tb:TS}{pos:Pos}(hp:PassesOwn (model X.prog X.w) X.A X.env X.xe)(hc:X.calm=true)(hi:PI X tg iter wi)(hg:PG X tg g)(hb:PSs X body tb)
  (hs:∀x,foldedSetIterable iter X.env x=pure x:=by intro _;rfl):PS X (.For tg iter body [] pos) (zwY wi g tb):=by
 intro pins s σ H D I h;refine wpAny_For (thn (hi pins s σ H _ I h) fun v s1 h1=>thn h1 fun itv s2 h2=>?_) hs;obtain⟨it,fp,tn,J,H2,e,I2,T,st2,f2,W,⟨m0,w0⟩,turn⟩:=h2;subst e;have stat:∀{H':Hp},(∀b∈fp,H' b=none)->∀b∈fp,zj2 X pins H' b:=fun hn b hb=>⟨hn b hb,(f2 b hb).2⟩
 refine codeAny_forLoop_any (fun n s'=>∃i σ' H',Inv X pins σ' H' s'/\tn i s'.heap/\(∀b∈fp,H' b=none)/\W i n σ' H') ?_ m0 ⟨0,σ,H2,I2,st2,fun b hb=>(f2 b hb).1,w0⟩;rintro n s3 ⟨i,σ3,H3,I3,st3,fr3,w3⟩;rcases turn i n σ3 H3 w3 with⟨stop,qn⟩ | ⟨go,N,hN,step⟩
 .refine wpAny_passesOwn hp (thn (T.done X rfl rfl rfl hc i pins s3 σ3 H3 X.xe I3 (stat fr3) st3 stop) fun r s4 ⟨hr,I4⟩=>?_);subst hr;exact wpAny_execs_nil ⟨σ3,H3,I4,qn⟩
 .refine wpAny_passesOwn hp (thn (T.item X rfl rfl rfl hc i pins s3 σ3 H3 X.xe I3 (stat fr3) st3 go) fun r s4 ⟨u,hr,h4⟩=>?_);subst hr;refine wpAny_passesOwn hp (thn h4 fun _ s5 ⟨x,H5,I5,r5,y5,st5,fr5⟩=>?_);have I5':=I5.pinned (stat fr5) (T.obj _ _ st5);refine wpAny_passesOwn hp (thn (hg _ s5 σ3 H5 x u _ I5' r5 (step x H5 y5)) fun _ s6 ⟨σ6,H6,I6,q6⟩=>?_);refine wpAny_passesOwn hp (thn (hb _ s6 σ6 H6 _ I6 q6) fun f s7 q7=>?_);have again:∀{σ7:St} {H7:Hp},Inv X (pins++zed fp s5.heap) σ7 H7 s7->N σ7 H7->∃m,m < n/\∃i σ' H',Inv X pins σ' H' s7/\tn i s7.heap/\(∀b∈fp,H' b=none)/\W i m σ' H':=fun{σ7 H7} I7 n7=>by
   obtain⟨m',hm,w7⟩:=hN σ7 H7 n7;refine⟨m',hm,i+1,σ7,H7,I7.unpinned,T.keep _ _ _ st5 fun b hb o e=>(I7.pin (b,o) (List.mem_append_right _ (List.mem_append_right _ (zet hb e)))).1,fun b hb=>?_,w7⟩;obtain⟨o,e,d⟩:=T.obj _ _ st5 b hb;exact(I7.pin (b,o) (List.mem_append_right _ (List.mem_append_right _ (zet hb e)))).2.1
  cases f with
  | next=>obtain⟨σ7,H7,I7,n7⟩:=q7;exact again I7 n7
  | cont=>obtain⟨σ7,H7,I7,n7⟩:=q7;exact again I7 n7
  | brk=>obtain⟨σ7,H7,I7,q7⟩:=q7;exact⟨σ7,H7,I7.unpinned,q7⟩
  | ret v=>obtain⟨x7,σ7,H7,I7,r7,q7⟩:=q7;exact⟨x7,σ7,H7,I7.unpinned,r7,q7⟩
end
abbrev R2:=V->V->Hp->VK->Prop
def OpR(X:Cx)(f:Value->Value->Sem Value)(r:R2):Prop :=
 ∀(pins:List (Addr×Obj)) (s:Shared) (σ:St) (H:Hp) (x y:V) (v u:Value) (Q:VK),Inv X pins σ H s->RelV x v->RelV y u->r x y H Q ->
  wpAny (model X.prog X.w) X.A (f v u) (EP X pins σ Q) X.xe s
def UnR(X:Cx)(f:Value->Sem Value)(r:V->Hp->VK->Prop):Prop :=
 ∀(pins:List (Addr×Obj)) (s:Shared) (σ:St) (H:Hp) (x:V) (v:Value) (Q:VK),Inv X pins σ H s->RelV x v->r x H Q ->
  wpAny (model X.prog X.w) X.A (f v) (EP X pins σ Q) X.xe s
def zaf(X:Cx)(f:Value)(r:List V->Hp->VK->Prop):Prop :=
 ∀(pins:List (Addr×Obj)) (s:Shared) (σ:St) (H:Hp) (xs:List V) (us:List Value) (Q:VK),Inv X pins σ H s->Vals xs us->r xs H Q ->
  wpAny (model X.prog X.w) X.A (call f us) (EP X pins σ Q) X.xe s
def tOp(r:R2)(ta tb:TE):TE:=fun σ H Q=>ta σ H fun x H1=>tb σ H1 fun y H2=>r x y H2 Q
def tUn(r:V->Hp->VK->Prop)(ta:TE):TE:=fun σ H Q=>ta σ H fun x H1=>r x H1 Q
def rI(C:Int->Int->Prop)(g:Int->Int->V):R2:=fun x y H Q=>∃i j,x= .int i/\y= .int j/\C i j/\Q (g i j) H
def rI0(g:Int->Int->V):R2:=fun x y H Q=>∃i j,x= .int i/\y= .int j/\Q (g i j) H
def rU(g:Int->V):V->Hp->VK->Prop:=fun x H Q=>∃i,x= .int i/\Q (g i) H
section
variable{X:Cx}{a b c:Expr}{ta tb tc:TE}{pos:Pos}
theorem zxn(ha:PE X a ta)(hb:PE X b tb){pins:List (Addr×Obj)}{s:Shared}{σ:St}{H:Hp}{R:V->V->Hp->Prop}(I:Inv X pins σ H s)
  (h:ta σ H fun x H1=>tb σ H1 fun y H2=>R x y H2){Q:Value->Shared->Prop}{f:Value->Value->Sem Value}
  (hf:∀v u s2 x y H2,Inv X pins σ H2 s2->RelV x v->RelV y u->R x y H2->wpAny (model X.prog X.w) X.A (f v u) Q X.xe s2) :
  wpAny (model X.prog X.w) X.A (eval a X.env) (fun v s₁=>wpAny (model X.prog X.w) X.A (eval b X.env) (fun u s₂=>wpAny (model X.prog X.w) X.A (f v u) Q X.xe s₂) X.xe s₁) X.xe s:=by
 refine thn (ha pins s σ H _ I h) fun v s1 ⟨x,H1,I1,r1,q1⟩=>?_
 refine thn (hb pins s1 σ H1 _ I1 q1) fun u s2 ⟨y,H2,I2,r2,q2⟩=>?_
 exact hf v u s2 x y H2 I2 r1 r2 q2
theorem zzp{op:Operator}{r:R2}(ho:OpR X (binaryOp op) r)(ha:PE X a ta)(hb:PE X b tb):PE X (.BinOp a op b pos) (tOp r ta tb):=by
 intro pins s σ H Q I h;exact wpAny_BinOp (zxn ha hb I h fun v u s2 x y H2 I2 rx ry q=>ho pins s2 σ H2 x y v u Q I2 rx ry q)
theorem zze{op:UnaryOp}{r:V->Hp->VK->Prop}(ho:UnR X (unaryOp op) r)(ha:PE X a ta):PE X (.UnaryOp op a pos) (tUn r ta):=by
 intro pins s σ H Q I h;exact UnaryOp_ (thn (ha pins s σ H _ I h) fun v s1 ⟨x,H1,I1,r1,q1⟩=>ho pins s1 σ H1 x v Q I1 r1 q1)
theorem opI{f:Value->Value->Sem Value}{C:Int->Int->Prop}{g:Int->Int->Int}
  (rule:∀(i j:Int) (t u:Tok) (s:Shared) (Q:Value->Shared->Prop) (E:Value->Shared->Prop),C i j->Q (.int (g i j) s.toks) { s with toks:=s.toks+1 }->wpAny (model X.prog X.w) X.A (f (.int i t) (.int j u)) Q E s) :
  OpR X f (rI C fun i j=> .int (g i j)):=by
 intro pins s σ H x y v u Q I rx ry h;obtain⟨i,j,rfl,rfl,hc,q⟩:=h;obtain⟨t,rfl⟩:=rx;obtain⟨t',rfl⟩:=ry;exact rule i j t t' s _ _ hc ⟨.int (g i j),H,I.tok _,⟨_,rfl⟩,q⟩
theorem zyw{f:Value->Value->Sem Value}{g:Int->Int->Int}
  (rule:∀(i j:Int) (t u:Tok) (s:Shared) (Q:Value->Shared->Prop) (E:Value->Shared->Prop),Q (.int (g i j) s.toks) { s with toks:=s.toks+1 }->wpAny (model X.prog X.w) X.A (f (.int i t) (.int j u)) Q E s) :
  OpR X f (rI0 fun i j=> .int (g i j)):=by
 intro pins s σ H x y v u Q I rx ry h;obtain⟨i,j,rfl,rfl,q⟩:=h;obtain⟨t,rfl⟩:=rx;obtain⟨t',rfl⟩:=ry;exact rule i j t t' s _ _ ⟨.int (g i j),H,I.tok _,⟨_,rfl⟩,q⟩
theorem zwR{f:Value->Value->Sem Value}{g:Int->Int->Bool}
  (rule:∀(i j:Int) (t u:Tok) (s:Shared) (Q:Value->Shared->Prop) (E:Value->Shared->Prop),Q (.bool (g i j)) s->wpAny (model X.prog X.w) X.A (f (.int i t) (.int j u)) Q E s) :
  OpR X f (rI0 fun i j=> .bl (g i j)):=by
 intro pins s σ H x y v u Q I rx ry h;obtain⟨i,j,rfl,rfl,q⟩:=h;obtain⟨t,rfl⟩:=rx;obtain⟨t',rfl⟩:=ry;exact rule i j t t' s _ _ ⟨.bl (g i j),H,I,rfl,q⟩
def zub(i j:Int):Prop:=0<=j/\j<=1000000/\i.natAbs < 2^64
def zj8(i j:Int):Prop:=(-(2^64) < i/\i < 2^64)\/(-(2^64) < j/\j < 2^64)
theorem zj8.ok{i j:Int}(h:zj8 i j):IntMulOk i j:=by
 rcases h with⟨h1,h2⟩ | ⟨h1,h2⟩
 .exact .of_left (intBits_le_64 h1 h2)
 .exact .of_right (intBits_le_64 h1 h2)
theorem zlv:OpR X (binaryOp .Add) (rI0 fun i j=> .int (i+j)):=zyw fun _ _ _ _ _ _ _ q=>add_int q
theorem zeU:OpR X (binaryOp .Sub) (rI0 fun i j=> .int (i - j)):=zyw fun _ _ _ _ _ _ _ q=>sub_int q
theorem zrA:OpR X (binaryOp .Mult) (rI zj8 fun i j=> .int (i*j)):=opI fun _ _ _ _ _ _ _ hc q=>mul_int q hc.ok
theorem zhC:OpR X (binaryOp .Mod) (rI (fun _ j=>0 < j) fun i j=> .int (i % j)):=opI fun i j _ _ _ _ _ hc q=>by
 have h1:(0:Int) < j:=hc;exact mod_int' (by omega) (by rw[Int.fmod_eq_emod_of_nonneg i (by omega)];exact q)
theorem zsm:OpR X (binaryOp .Pow) (rI zub fun i j=> .int (i^j.toNat)):=opI fun _ _ _ _ _ _ _ hc q=>pow_int_small hc.1 hc.2.1 hc.2.2 q
theorem unI{f:Value->Sem Value}{g:Int->Int}
  (rule:∀(i:Int) (t:Tok) (s:Shared) (Q:Value->Shared->Prop) (E:Value->Shared->Prop),Q (.int (g i) s.toks) { s with toks:=s.toks+1 }->wpAny (model X.prog X.w) X.A (f (.int i t)) Q E s) :
  UnR X f (rU fun i=> .int (g i)):=by
 intro pins s σ H x v Q I rx h;obtain⟨i,rfl,q⟩:=h;obtain⟨t,rfl⟩:=rx;exact rule i t s _ _ ⟨.int (g i),H,I.tok _,⟨_,rfl⟩,q⟩
theorem zgl:UnR X (unaryOp .USub) (rU fun i=> .int (-i)):=unI fun _ _ _ _ _ q=>neg_int q
end
def zzt:V->V->Bool
 | .non, .non=>true | .non, .int _=>true | .int _, .non=>true | .non, .bl _=>true | .bl _, .non=>true | .non, .str _=>true | .str _, .non=>true
 | .int _, .int _=>true | .bl _, .bl _=>true | .str _, .str _=>true | .byt _, .byt _=>true
 | .int _, .str _=>true | .str _, .int _=>true | .bl _, .str _=>true | .str _, .bl _=>true
 | _,_=>false
def rEq:R2:=fun x y H Q=>zzt x y=true/\Q (.bl (decide (x=y))) H
def rNe:R2:=fun x y H Q=>zzt x y=true/\Q (.bl (!decide (x=y))) H
theorem zoJ{i j:Int}:decide (V.int i=V.int j)=(i==j):=by
 rw[Bool.eq_iff_iff];simp
theorem zsS{i j:Bool}:decide (V.bl i=V.bl j)=(i==j):=by
 rw[Bool.eq_iff_iff];simp
theorem zoA{i j:Str}:decide (V.str i=V.str j)=(i==j):=by
 rw[Bool.eq_iff_iff];simp
theorem zo5{i j:Array UInt8}:decide (V.byt i=V.byt j)=(i.toList==j.toList):=by
 rw[Bool.eq_iff_iff];cases i;cases j;simp
section
variable{X:Cx}{a b c:Expr}{ta tb tc:TE}{pos:Pos}
theorem zar{pins:List (Addr×Obj)}{σ:St}{H:Hp}{s:Shared}{Q:VK}{k k':Bool}(I:Inv X pins σ H s)(q:Q (.bl k) H)(e:k=k'):EP X pins σ Q (.bool k') s:=by
 subst e;exact⟨.bl k,H,I,rfl,q⟩
theorem zvz:OpR X (compareOp .Eq) rEq:=by
 intro pins s σ H x y v u Q I rx ry h;obtain⟨hs,q⟩:=h;cases x with
 | non =>
  cases rx;cases y with
  | non=>cases ry;exact PySem.EqNone.eq_none_none (zar I q (by simp))
  | bl j=>cases ry;exact PySem.EqNone.eq_none_bool (zar I q (by simp))
  | int j=>obtain⟨t',rfl⟩:=ry;exact PySem.EqNone.eq_none_int (zar I q (by simp))
  | str j=>obtain⟨t',rfl⟩:=ry;exact PySem.EqNone.eq_none_str (zar I q (by simp))
  | _=>exact absurd (show false=true from hs) Bool.false_ne_true
 | bl i =>
  cases rx;cases y with
  | non=>cases ry;exact PySem.EqNone.eq_bool_none (zar I q (by simp))
  | bl j=>cases ry;exact eq_bool (zar I q zsS)
  | str j=>obtain⟨t',rfl⟩:=ry;exact PySem.EqMixed.eq_bool_str (zar I q (by simp))
  | _=>exact absurd (show false=true from hs) Bool.false_ne_true
 | int i =>
  obtain⟨t,rfl⟩:=rx;cases y with
  | non=>cases ry;exact PySem.EqNone.eq_int_none (zar I q (by simp))
  | int j=>obtain⟨t',rfl⟩:=ry;exact eq_int (zar I q zoJ)
  | str j=>obtain⟨t',rfl⟩:=ry;exact PySem.EqMixed.eq_int_str (zar I q (by simp))
  | _=>exact absurd (show false=true from hs) Bool.false_ne_true
 | str i =>
  obtain⟨t,rfl⟩:=rx;cases y with
  | non=>cases ry;exact PySem.EqNone.eq_str_none (zar I q (by simp))
  | bl j=>cases ry;exact PySem.EqMixed.eq_str_bool (zar I q (by simp))
  | int j=>obtain⟨t',rfl⟩:=ry;exact PySem.EqMixed.eq_str_int (zar I q (by simp))
  | str j=>obtain⟨t',rfl⟩:=ry;exact eq_str (zar I q zoA)
  | _=>exact absurd (show false=true from hs) Bool.false_ne_true
 | byt i =>
  obtain⟨t,rfl⟩:=rx;cases y with
  | byt j=>obtain⟨t',rfl⟩:=ry;exact PySem.W.eq_bytes (zar I q zo5)
  | _=>exact absurd (show false=true from hs) Bool.false_ne_true
 | _=>cases y<;>exact absurd (show false=true from hs) Bool.false_ne_true
theorem zyH:OpR X (compareOp .NotEq) rNe:=by
 intro pins s σ H x y v u Q I rx ry h;obtain⟨hs,q⟩:=h;cases x with
 | non =>
  cases rx;cases y with
  | non=>cases ry;exact PySem.EqNone.ne_none_none (zar I q (by simp))
  | bl j=>cases ry;exact PySem.EqNone.ne_none_bool (zar I q (by simp))
  | int j=>obtain⟨t',rfl⟩:=ry;exact PySem.EqNone.ne_none_int (zar I q (by simp))
  | str j=>obtain⟨t',rfl⟩:=ry;exact PySem.EqNone.ne_none_str (zar I q (by simp))
  | _=>exact absurd (show false=true from hs) Bool.false_ne_true
 | bl i =>
  cases rx;cases y with
  | non=>cases ry;exact PySem.EqNone.ne_bool_none (zar I q (by simp))
  | bl j=>cases ry;exact ne_bool (zar I q (congrArg not zsS))
  | str j=>obtain⟨t',rfl⟩:=ry;exact PySem.EqMixed.ne_bool_str (zar I q (by simp))
  | _=>exact absurd (show false=true from hs) Bool.false_ne_true
 | int i =>
  obtain⟨t,rfl⟩:=rx;cases y with
  | non=>cases ry;exact PySem.EqNone.ne_int_none (zar I q (by simp))
  | int j=>obtain⟨t',rfl⟩:=ry;exact ne_int (zar I q (congrArg not zoJ))
  | str j=>obtain⟨t',rfl⟩:=ry;exact PySem.EqMixed.ne_int_str (zar I q (by simp))
  | _=>exact absurd (show false=true from hs) Bool.false_ne_true
 | str i =>
  obtain⟨t,rfl⟩:=rx;cases y with
  | non=>cases ry;exact PySem.EqNone.ne_str_none (zar I q (by simp))
  | bl j=>cases ry;exact PySem.EqMixed.ne_str_bool (zar I q (by simp))
  | int j=>obtain⟨t',rfl⟩:=ry;exact PySem.EqMixed.ne_str_int (zar I q (by simp))
  | str j=>obtain⟨t',rfl⟩:=ry;exact ne_str (zar I q (congrArg not zoA))
  | _=>exact absurd (show false=true from hs) Bool.false_ne_true
 | byt i =>
  obtain⟨t,rfl⟩:=rx;cases y with
  | byt j=>obtain⟨t',rfl⟩:=ry;exact PySem.W.ne_bytes (zar I q (congrArg not zo5))
  | _=>exact absurd (show false=true from hs) Bool.false_ne_true
 | _=>cases y<;>exact absurd (show false=true from hs) Bool.false_ne_true
theorem zjq:OpR X (compareOp .Lt) (rI0 fun i j=> .bl (decide (i < j))):=zwR fun _ _ _ _ _ _ _ q=>lt_int q
theorem zfh:OpR X (compareOp .LtE) (rI0 fun i j=> .bl (decide (i<=j))):=zwR fun _ _ _ _ _ _ _ q=>le_int q
theorem zmM:OpR X (compareOp .GtE) (rI0 fun i j=> .bl (decide (j<=i))):=zwR fun _ _ _ _ _ _ _ q=>ge_int q
theorem zp1:OpR X (compareOp .In) (fun x y H Q=>∃i j,x= .str i/\y= .str j/\Q (.bl (!(Builtin.Str.occurrences j i 0 j.length 1).isEmpty)) H):=by
 intro pins s σ H x y v u Q I rx ry h;obtain⟨i,j,rfl,rfl,q⟩:=h;obtain⟨t,rfl⟩:=rx;obtain⟨t',rfl⟩:=ry;exact in_str (zar I q rfl)
theorem OpR.or{f:Value->Value->Sem Value}{r r':R2}(h:OpR X f r)(h':OpR X f r'):OpR X f (fun x y H Q=>r x y H Q\/r' x y H Q):=by
 intro pins s σ H x y v u Q I rx ry q;rcases q with q | q
 .exact h pins s σ H x y v u Q I rx ry q
 .exact h' pins s σ H x y v u Q I rx ry q
theorem zY(b:Expr){op:CmpOp}(h:op≠ .In:=by decide)(h2:op≠ .NotIn:=by decide):behindInMarks op b=false:=by
 have e1:(op==CmpOp.In)=false:=by cases op<;>first | rfl | exact absurd rfl h
 have e2:(op==CmpOp.NotIn)=false:=by cases op<;>first | rfl | exact absurd rfl h2
 cases b<;>simp[behindInMarks,e1,e2]
theorem zt1{op:CmpOp}{r:R2}(ho:OpR X (compareOp op) r)(ha:PE X a ta)(hb:PE X b tb)(hm:behindInMarks op b=false):PE X (.Compare a [op] [b] pos) (tOp r ta tb):=by
 intro pins s σ H Q I h;exact wpAny_Compare1 (zxn ha hb I h fun v u s2 x y H2 I2 rx ry q=>ho pins s2 σ H2 x y v u Q I2 rx ry q) hm
def zjg(t:TE):TT:=fun σ H Q=>t σ H fun x H'=>∃k,x= .bl k/\Q k H'
theorem zuz{op:CmpOp}{r:R2}(ho:OpR X (compareOp op) r)(ha:PE X a ta)(hb:PE X b tb)(hm:behindInMarks op b=false):PT X (.Compare a [op] [b] pos) (zjg (tOp r ta tb)):=by
 intro pins s σ H Q I h;refine wpAny_isTrue_Compare1 (thn (ha pins s σ H _ I h) fun v s1 ⟨x,H1,I1,r1,q1⟩=>thn (hb pins s1 σ H1 _ I1 q1) fun u s2 ⟨y,H2,I2,r2,q2⟩ =>
  thn (ho pins s2 σ H2 x y v u _ I2 r1 r2 q2) fun c s3 ⟨z,H3,I3,r3,k,e,q3⟩=>?_) hm
 subst e;cases r3;exact wpAny_truthy_bool ⟨H3,I3,q3⟩
def zi8(r r':R2)(ta tb tc:TE):TE:=fun σ H Q=>ta σ H fun x H1=>tb σ H1 fun y H2=>r x y H2 fun z H3=>∃k,z= .bl k /\
 (if k=true then tc σ H3 fun w' H4=>r' y w' H4 Q else Q (.bl false) H3)
theorem zs1{op op':CmpOp}{r r':R2}(ho:OpR X (compareOp op) r)(ho':OpR X (compareOp op') r')(ha:PE X a ta)(hb:PE X b tb)(hc:PE X c tc)
  (hm:lastMarks [op,op'] [b,c]=false:=by with_unfolding_all rfl):PE X (.Compare a [op,op'] [b,c] pos) (zi8 r r' ta tb tc):=by
 intro pins s σ H Q I h;refine Compare_chain (thn (ha pins s σ H _ I h) fun v s1 ⟨x,H1,I1,r1,q1⟩=>chain_link (thn (hb pins s1 σ H1 _ I1 q1) fun u s2 ⟨y,H2,I2,r2,q2⟩ =>
  thn (ho pins s2 σ H2 x y v u _ I2 r1 r2 q2) fun d s3 ⟨z,H3,I3,r3,k,e,q3⟩=>?_)) hm
 subst e;cases r3;refine wpAny_truthy_bool ?_;cases k with
 | false=>exact ite_ff ⟨.bl false,H3,I3,rfl,q3⟩
 | true=>exact ite_tt (chain_last (thn (hc pins s3 σ H3 _ I3 q3) fun w' s4 ⟨z',H4,I4,r4,q4⟩=>ho' pins s4 σ H4 y z' u w' Q I4 r2 r4 q4))
theorem zrx{op op':CmpOp}{r r':R2}(ho:OpR X (compareOp op) r)(ho':OpR X (compareOp op') r')(ha:PE X a ta)(hb:PE X b tb)(hc:PE X c tc)
  (hm:lastMarks [op,op'] [b,c]=false:=by with_unfolding_all rfl):PT X (.Compare a [op,op'] [b,c] pos) (zjg (zi8 r r' ta tb tc)):=by
 intro pins s σ H Q I h;refine isTrue_chain (thn (ha pins s σ H _ I h) fun v s1 ⟨x,H1,I1,r1,q1⟩=>test_link (thn (hb pins s1 σ H1 _ I1 q1) fun u s2 ⟨y,H2,I2,r2,q2⟩ =>
  thn (ho pins s2 σ H2 x y v u _ I2 r1 r2 q2) fun d s3 ⟨z,H3,I3,r3,k,e,q3⟩=>?_)) hm
 subst e;cases r3;refine wpAny_truthy_bool ?_;cases k with
 | false =>
  obtain⟨k',e',q'⟩:=q3;cases e';exact ite_ff ⟨H3,I3,q'⟩
 | true =>
  refine ite_tt (test_last (thn (hc pins s3 σ H3 _ I3 q3) fun w' s4 ⟨z',H4,I4,r4,q4⟩=>thn (ho' pins s4 σ H4 y z' u w' _ I4 r2 r4 q4) fun d' s5 ⟨z2,H5,I5,r5,k2,e2,q5⟩=>?_));subst e2;cases r5;exact wpAny_truthy_bool ⟨H5,I5,q5⟩
theorem zhp:(sizeLine:Nat) < 2^63:=by rw[sizeLine_eq];decide
theorem zor:OpR X (binaryOp .Add) (fun x y H Q=>∃i j,x= .str i/\y= .str j/\i.length+j.length<=sizeLine/\Q (.str (i++j)) H):=by
 intro pins s σ H x y v u Q I rx ry h;obtain⟨i,j,rfl,rfl,hz,q⟩:=h;obtain⟨t,rfl⟩:=rx;obtain⟨t',rfl⟩:=ry;exact add_str (fun t' tk=>⟨.str (i++j),H,I.tok _,⟨_,rfl⟩,q⟩) hz
theorem vals1{x:V}{us:List Value}(r:Vals [x] us):∃u,us=[u]/\RelV x u:=by
 cases r with
 | cons r1 r2=>cases r2;exact⟨_,rfl,r1⟩
theorem vals2{x y:V}{us:List Value}(r:Vals [x,y] us):∃u w',us=[u,w']/\RelV x u/\RelV y w':=by
 cases r with
 | cons r1 r2 =>
  cases r2 with
  | cons r3 r4=>cases r4;exact⟨_,_,rfl,r1,r3⟩
theorem zrm:zaf X (.builtin "abs") (fun xs H Q=>∃i,xs=[.int i]/\Q (.int (if i < 0 then -i else i)) H):=by
 intro pins s σ H xs us Q I r h;obtain⟨i,rfl,q⟩:=h;obtain⟨u,rfl,t,rfl⟩:=vals1 r;exact call_abs_int fun u tk=>⟨.int (if i < 0 then -i else i),H,I.tok _,⟨_,rfl⟩,q⟩
theorem zpu(hc:X.calm=true):zaf X (.builtin "max") (fun xs H Q=>∃i j,xs=[.int i, .int j]/\Q (.int (if j > i then j else i)) H):=by
 intro pins s σ H xs us Q I r h;obtain⟨i,j,rfl,q⟩:=h;obtain⟨u,w',rfl,⟨t,rfl⟩,⟨t',rfl⟩⟩:=vals2 r;refine max_two_ints (I.ok.hd hc) fun h' tk k=>⟨_,H,I.kept k,?_,q⟩
 by_cases hj:j > i
 .rw[if_pos hj,if_pos hj];exact⟨_,rfl⟩
 .rw[if_neg hj,if_neg hj];exact⟨_,rfl⟩
theorem zqn(hc:X.calm=true):zaf X (.builtin "min") (fun xs H Q=>∃i j,xs=[.int i, .int j]/\Q (.int (if j < i then j else i)) H):=by
 intro pins s σ H xs us Q I r h;obtain⟨i,j,rfl,q⟩:=h;obtain⟨u,w',rfl,⟨t,rfl⟩,⟨t',rfl⟩⟩:=vals2 r;refine min_two_ints (I.ok.hd hc) fun h' tk k=>⟨_,H,I.kept k,?_,q⟩
 by_cases hj:j < i
 .rw[if_pos hj,if_pos hj];exact⟨_,rfl⟩
 .rw[if_neg hj,if_neg hj];exact⟨_,rfl⟩
end
structure znL(h:Heap)(x dx C:Addr)(mA:Str->Option Value):Prop where
 obj:h.get? x=some (instObj C dx)
 ns:h.Ns1 dx mA
 ne:dx≠x
theorem zkm{h:Heap}{dx:Addr}{mA:Str->Option Value}(n:h.Ns1 dx mA):∃od,h.get? dx=some od/\∀name,lookIn name od=some (mA name):=by
 obtain⟨o,es,ep,ho,hd,hk,_,hm⟩:=n;refine⟨o,ho,fun name=>?_⟩;have e:=hm name;unfold nsFind findBy at e;rw[<- Array.find?_toList] at e;unfold lookIn;rw[hd];dsimp only;split
 .rename_i y q;rw[q] at e;exact congrArg some e
 .rename_i q;rw[q] at e;have a:es.toList.any (·.refKey)=false:=by
   rw[List.any_eq_false];intro y hy;obtain⟨z,t,hkey⟩:=hk y (Array.mem_toList_iff.mp hy);simp[DictEntry.refKey,hkey]
  have a':¬ es.toList.any (·.refKey)=true:=by rw[a];exact Bool.false_ne_true
  rw[if_neg a'];exact congrArg some e
theorem znL.look{h:Heap}{x dx C:Addr}{mA:Str->Option Value}(I:znL h x dx C mA):∃od,PySem.W.InstAt h x (instObj C dx) C (some od)/\∀name,lookIn name od=some (mA name) :=
 let ⟨od,ho,hl⟩:=zkm I.ns
 ⟨od,⟨I.obj,rfl,rfl,ho⟩,hl⟩
section
variable{prog:Program}{w:World}{A:Around}{E:Value->Shared->Prop}{s:Shared}{K:Frag}{x dx C f:Addr}{mA:Str->Option Value}{name:Str}{v:Value}
theorem zuM{expr:Bool}{Q:Value->Shared->Prop}(X:K.In s.heap)(I:znL s.heap x dx C mA)(hg:plainGet K C name=true)(hh:hasDictIn K C=true)
  (ha:findIn K (.ref C) name=some none)(hv:mA name=some v)(hv':PySem.W.handedIn v=true)(h:Q v { s with toks:=s.toks+1 }) :
  wpAny (model prog w) A (getAttr (.ref x) name expr) Q E s:=by
 obtain⟨od,J,hl⟩:=I.look;exact PySem.W.get_value X J (plainGet_of hg).1 (PySem.W.findObj_own hh ha rfl (by rw[hl,hv])) hv' h
theorem zsK{pl:Sem Bool}{Q:Value×List Value->Shared->Prop}(X:K.In s.heap)(I:znL s.heap x dx C mA)(hg:plainGet K C name=true)
  (hf:findIn K (.ref C) name=some (some (.ref f)))(ht:isFn K (.ref f)=true)(hv:mA name=none)(h:Q (.ref f,[.ref x]) s) :
  wpAny (model prog w) A (getMethod (.ref x) name pl) Q E s:=by
 obtain⟨od,J,hl⟩:=I.look;exact PySem.W.method_fn X J (plainGet_of hg).1 (plainGet_of hg).2 hf (beq_iff_eq.mp ht) (by show(lookIn name od).map (·.isSome)=some false;rw[hl,hv];rfl) h
theorem zlE{ns:List Str}{Q:Unit->Shared->Prop}(X:K.In s.heap)(I:znL s.heap x dx C mA)
  (hs:findIn K (.ref C) "__setattr__"=some (some (.builtin "object.__setattr__")))(hp:PySem.W.plainOver K C=true)(ht:takerIn K C name=some none)(hh:hasDictIn K C=true)
  (hw:PySem.Within mA ns)(hsz:ns.length<=sizeLine)
  (h:∀h',znL h' x dx C (fun y=>if y=name then some v else mA y)->Heap.SameBut dx s.heap h'->Q () { s with heap:=h',toks:=s.toks+2 }) :
  wpAny (model prog w) A (setAttr (.ref x) name v) Q E s:=by
 obtain⟨od,J,hl⟩:=I.look;refine PySem.W.set_plain X J hs (PySem.W.osa_open (s:={ s with toks:=s.toks+1 }) (r:=none) X J hp ht fun b=>?_);obtain⟨cd,hc,hd'⟩:=PySem.W.any_some hh;have hx:s.heap.get? x=some ⟨.ref C,some dx, .plain, #[]⟩:=I.obj;refine wpAny_bind (wpAny_pure (wpAny_bind (wpAny_bind (wpAny_loadPart hx (wpAny_bind (PySem.W.Looks.here (s:={ s with toks:=s.toks+1 }) (PySem.W.looks_clsIn X hc) ?_))))));rw[hd'];refine wpAny_pure (a:=some dx) (wpAny_bind (wpAny_pure (wpAny_bind ?_)));refine wpAny_nsSet1 (s:={ s with toks:=s.toks+1 }) I.ns fun h' hn2 hs2=>?_
 obtain⟨oD,esD,epD,hoD,hdD,hcD⟩:=hn2.count (PySem.Within.cons name v hw);refine wpAny_bind (wpAny_lookBehind hoD (by rw[hdD];exact pastItsLine_dict (Nat.le_trans hcD (by rw[List.length_cons];omega))) ?_);exact wpAny_pure (h _ ⟨(hs2.2 _ (Ne.symm I.ne)).trans I.obj,hn2,I.ne⟩ hs2)
theorem zsM{R:Result->Shared->Prop}{vs:List Value}{kw:List (Str×Value)}(X:K.In s.heap)(hm:makesIn K C=true)
  (hi:findIn K (.ref C) "__init__"=some (some (.ref f)))(hf:PySem.W.typeIn K (.ref f)=some (.type "function"))
  (h:codeAny (model prog w) (A.under (.builtin "type.__call__" ⟨.ref C::vs,kw⟩)) (.call (.ref f) ⟨.ref (s.heap.objs.size+1)::vs,kw⟩) (PySem.W.InitBack (s.heap.objs.size+1) R)
   {s with heap:=(s.heap.push emptyDict).push (instObj C s.heap.objs.size) }) :
  codeAny (model prog w) A (.call (.ref C) ⟨vs,kw⟩) R s:=by
 obtain⟨hh,g,d,t,os⟩:=s;exact PySem.W.make_core (PySem.W.makes_of X hm) (PySem.W.looks_findIn X hi) (fun self=>PySem.W.bind_fn X self hf) (.inl rfl) h
end
def zek(f:Str)(v:V):List (Str×V)->List (Str×V)
 | []=>[(f,v)]
 | (g,x)::r=>if g=f then(g,v)::r else(g,x)::zek f v r
theorem zic(f g:Str)(v:V):∀fs:List (Str×V),(zek f v fs).lookup g=if g=f then some v else fs.lookup g
 | []=>by
  show List.lookup g [(f,v)]=_;by_cases h:g=f
  .have hb:(g==f)=true:=beq_iff_eq.mpr h;simp only[List.lookup,hb,if_pos h]
  .have hb:(g==f)=false:=beq_eq_false_iff_ne.mpr h;simp only[List.lookup,hb,if_neg h]
 | (k,x)::r=>by
  have ih:=zic f g v r;rw[show zek f v ((k,x)::r)=(if k=f then(k,v)::r else(k,x)::zek f v r) from rfl];by_cases hk:k=f
  .rw[if_pos hk];by_cases h:g=k
   .have hb:(g==k)=true:=beq_iff_eq.mpr h;simp only[List.lookup,hb,if_pos (h.trans hk)]
   .have hb:(g==k)=false:=beq_eq_false_iff_ne.mpr h;simp only[List.lookup,hb,if_neg (fun e:g=f=>h (e.trans hk.symm))]
  .rw[if_neg hk];by_cases h:g=k
   .have hb:(g==k)=true:=beq_iff_eq.mpr h;simp only[List.lookup,hb,if_neg (fun e:g=f=>hk (h.symm.trans e))]
   .have hb:(g==k)=false:=beq_eq_false_iff_ne.mpr h;simp only[List.lookup,hb];exact ih
theorem zhG(f:Str)(v:V):∀fs:List (Str×V),f∈(zek f v fs).map (·.1)/\∀g,g∈fs.map (·.1)->g∈(zek f v fs).map (·.1)
 | []=>⟨by simp[zek],fun g h=>by simp at h⟩
 | (k,x)::r=>by
  obtain⟨i1,i2⟩:=zhG f v r;rw[show zek f v ((k,x)::r)=(if k=f then(k,v)::r else(k,x)::zek f v r) from rfl];by_cases hk:k=f
  .rw[if_pos hk];subst hk;exact⟨by simp,fun g h=>by simpa using h⟩
  .rw[if_neg hk];refine⟨?_,fun g h=>?_⟩
   .rw[List.map_cons];exact List.mem_cons_of_mem _ i1
   .rw[List.map_cons] at h ⊢;rcases List.mem_cons.mp h with e | e
    .exact List.mem_cons.mpr (.inl e)
    .exact List.mem_cons_of_mem _ (i2 g e)
theorem zh7(f:Str)(v:V):∀fs:List (Str×V),(zek f v fs).length<=fs.length+1
 | []=>by simp[zek]
 | (k,x)::r=>by
  have ih:=zh7 f v r;rw[show zek f v ((k,x)::r)=(if k=f then(k,v)::r else(k,x)::zek f v r) from rfl];by_cases hk:k=f
  .rw[if_pos hk,List.length_cons,List.length_cons];omega
  .rw[if_neg hk,List.length_cons,List.length_cons];omega
theorem zes.some_of{v:V}{o:Option Value}(r:zes (some v) o):∃u,o=some u/\RelV v u:=by
 cases o with
 | none=>exact(show False from r).elim
 | some u=>exact⟨u,rfl,r⟩
theorem zes.none_of{o:Option Value}(r:zes none o):o=none:=by
 cases o with
 | none=>rfl
 | some u=>exact(show False from r).elim
theorem zk1{v:V}{u:Value}(r:RelV v u):PySem.W.handedIn u=true:=by
 cases v with
 | non=>cases (show u=Value.none from r);rfl
 | bl b=>cases (show u=Value.bool b from r);rfl
 | int i=>obtain⟨t,e⟩:=(show ∃t,u=Value.int i t from r);cases e;rfl
 | str x=>obtain⟨t,e⟩:=(show ∃t,u=Value.str x t from r);cases e;rfl
 | byt b=>obtain⟨t,e⟩:=(show ∃t,u=Value.bytes b t from r);cases e;rfl
 | flt b=>obtain⟨t,e⟩:=(show ∃t,u=Value.float b t from r);cases e;rfl
 | ref a=>cases (show u=Value.ref a from r);rfl
 | ty n=>cases (show u=Value.type n from r);rfl
section
variable{P:Program}{w:World}{H H':Hp}{h h':Heap}{a C dx:Addr}{fs fs':List (Str×V)}
theorem zfz(hok:HOk P w H h)(e:H a=some (.ins C dx fs)):∃mA,znL h a dx C mA/\(∀f,zes (fs.lookup f) (mA f))/\PySem.Within mA (fs.map (·.1))/\fs.length<=1000/\H dx=some (.own a):=by
 obtain⟨d,z,ne,ob,mA,n,r,q⟩:=(show zaF P w H h a (.ins C dx fs) from hok a _ e);exact⟨mA,⟨ob,n,ne⟩,r,q,z,d⟩
end
structure Cls(K:Frag)(C:Addr):Prop where
 pg:plainGet K C Str.empty=true
 hd:hasDictIn K C=true
 po:PySem.W.plainOver K C=true
 sa:findIn K (.ref C) "__setattr__"=some (some (.builtin "object.__setattr__"))
theorem Cls.get{K:Frag}{C:Addr}(c:Cls K C)(f:Str):plainGet K C f=true:=c.pg
def zcn(K:Frag)(C:Addr)(f:Str):Prop:=findIn K (.ref C) f=some none
theorem zcn.taker{K:Frag}{C:Addr}{f:Str}(n:zcn K C f):takerIn K C f=some none:=by
 unfold takerIn;rw[show findIn K (.ref C) f=some none from n];rfl
structure Meth(K:Frag)(C:Addr)(m:Str)(f:Addr):Prop where
 at_:findIn K (.ref C) m=some (some (.ref f))
 fn:isFn K (.ref f)=true
 kp:keepIn K (.ref f)=true
section
variable{X:Cx}{pins:List (Addr×Obj)}{σ:St}{H:Hp}{s:Shared}{a C dx:Addr}{fs:List (Str×V)}{f:Str}{v:V}{A:Around}{E:Value->Shared->Prop}
theorem zox{b:Bool}{Q:Value->Shared->Prop}(I:Inv X pins σ H s)(e:H a=some (.ins C dx fs))(c:Cls X.K C)(n:zcn X.K C f)(l:fs.lookup f=some v)
  (h:∀u s',Inv X pins σ H s'->RelV v u->Q u s'):wpAny (model X.prog X.w) A (getAttr (.ref a) f b) Q E s:=by
 obtain⟨mA,O,r,_,_,_⟩:=zfz I.hok e;obtain⟨u,hu,ru⟩:=zes.some_of (v:=v) (o:=mA f) (by rw[<- l];exact r f);exact zuM I.kIn O (c.get f) c.hd n hu (zk1 ru) (h u _ (I.tok _) ru)
theorem zgd{m:Str}{g:Addr}{pl:Sem Bool}{Q:Value×List Value->Shared->Prop}(I:Inv X pins σ H s)(e:H a=some (.ins C dx fs))(c:Cls X.K C)(k:Meth X.K C m g)(l:fs.lookup m=none)
  (h:Q (.ref g,[.ref a]) s):wpAny (model X.prog X.w) A (getMethod (.ref a) m pl) Q E s:=by
 obtain⟨mA,O,r,_,_,_⟩:=zfz I.hok e;have hn:mA m=none:=zes.none_of (by rw[<- l];exact r m);exact zsK I.kIn O (c.get m) k.at_ k.fn hn h
theorem znZ{y:V}{u:Value}{Q:Unit->Shared->Prop}(I:Inv X pins σ H s)(e:H a=some (.ins C dx fs))(c:Cls X.K C)(n:zcn X.K C f)(hl:fs.length < 1000)(ry:RelV y u)
  (h:∀s',Inv X pins σ (upd H a (.ins C dx (zek f y fs))) s'->Q () s'):wpAny (model X.prog X.w) A (setAttr (.ref a) f u) Q E s:=by
 obtain⟨mA,O,r,wi,_,ho⟩:=zfz I.hok e;have hz:(fs.map (·.1)).length<=sizeLine:=by rw[List.length_map,sizeLine_eq];omega
 refine zlE I.kIn O c.sa c.po n.taker c.hd wi hz fun h' O' sb=>h _ ?_
 have hd:∃o,h'.get? dx=some o:=let ⟨o,_,_,e',_⟩:=O'.ns;⟨o,e'⟩;refine I.write (x:=a) (e:=dx) (by rw[e];exact True.intro) (.inr ho) (fun b q hb z=>(sb.2 b hb).trans z) hd ?_;refine⟨by rw[zJ O.ne];exact ho,?_,O.ne,O'.obj,_,O'.ns,fun g=>?_,fun g hg=>?_⟩
 .have:=zh7 f y fs;omega
 .show zes ((zek f y fs).lookup g) (if g=f then some u else mA g);rw[zic];by_cases q:g=f
  .rw[if_pos q,if_pos q];exact ry
  .rw[if_neg q,if_neg q];exact r g
 .by_cases q:g=f
  .rw[q];exact(zhG f y fs).1
  .refine(zhG f y fs).2 g (wi g fun z=>hg ?_);show(if g=f then some u else mA g)=none;rw[if_neg q];exact z
theorem Inv.made(I:Inv X pins σ H s):Inv X pins σ (upd (upd H s.heap.objs.size (.own (s.heap.objs.size+1))) (s.heap.objs.size+1) (.ins C s.heap.objs.size []))
  {s with heap:=(s.heap.push emptyDict).push (instObj C s.heap.objs.size) }:=by
 have e1:(s.heap.push emptyDict).get? s.heap.objs.size=some emptyDict:=Heap.get?_push_size s.heap rfl;have e2:((s.heap.push emptyDict).push (instObj C s.heap.objs.size)).get? (s.heap.objs.size+1)=some (instObj C s.heap.objs.size):=by
  have:=Heap.get?_push_size (s.heap.push emptyDict) (o:=instObj C s.heap.objs.size) rfl;rwa [Heap.size_push] at this
 have e3:(s.heap.push emptyDict).Ns s.heap.objs.size (fun _=>none):=⟨emptyDict, #[],_,e1,rfl,(fun e he=>absurd he (by simp)),fun _=>rfl⟩;have I1:=I.laid (a:=s.heap.objs.size) (o:= .own (s.heap.objs.size+1)) (h':=s.heap.push emptyDict) (t':=s.toks) (fun b u q=>Heap.get?_push_of_some _ q) (Nat.le_refl _) ⟨_,e1⟩;refine I1.laid (a:=s.heap.objs.size+1) (o:= .ins C s.heap.objs.size []) (t':=s.toks) (fun b u q=>Heap.get?_push_of_some _ q) (Nat.le_of_eq (Heap.size_push _ _)) ?_;have ne:s.heap.objs.size≠s.heap.objs.size+1:=Nat.ne_of_lt (Nat.lt_succ_self _);refine⟨by rw[zJ ne,zH],Nat.zero_le _,ne,e2,fun _=>none,(Heap.Ns1.of_empty e3).at fun o q=>Heap.get?_push_of_some _ q,fun _=>True.intro,fun y hy=>absurd rfl hy⟩
theorem zoz{prog:Program}{w:World}{env:Env}{e:Expr}{f:Str}{pos:Pos}{s:Shared}{Q:Value->Shared->Prop}(hb:attributeBase e f env (eval e env)=eval e env)
  (h:wpAny (model prog w) A (eval e env) (fun o s₁=>wpAny (model prog w) A (getAttr o f true) Q E s₁) E s):wpAny (model prog w) A (eval (.Attribute e f pos) env) Q E s :=
 Attribute_any_ h (by rw[arm_eval_Attribute,hb])
end
def zus(K:Frag)(ta:TE)(f:Str):TE:=fun σ H Q=>ta σ H fun x H1=>∃a C dx fs v,x= .ref a/\H1 a=some (.ins C dx fs)/\Cls K C/\zcn K C f/\fs.lookup f=some v/\Q v H1
def zt0(K:Frag)(ta tv:TE)(f:Str):TS:=fun D σ H=>tv σ H fun y H1=>ta σ H1 fun x H2=>∃a C dx fs,x= .ref a/\H2 a=some (.ins C dx fs)/\Cls K C/\zcn K C f/\fs.length < 1000 /\
 D.nx σ (upd H2 a (.ins C dx (zek f y fs)))
section
variable{X:Cx}{o e value:Expr}{f:Str}{pos pos' tpos:Pos}{ta tv:TE}
theorem zwn(he:PE X e ta)(hb:attributeBase e f X.env (eval e X.env)=eval e X.env):PE X (.Attribute e f pos) (zus X.K ta f):=by
 intro pins s σ H Q I h;refine zoz hb (thn (he pins s σ H _ I h) fun u s1 ⟨x,H1,I1,rx,a,C,dx,fs,v,ex,ea,c,n,l,q⟩=>?_);subst ex;obtain rfl:u=Value.ref a:=rx;exact zox I1 ea c n l fun u' s2 I2 ru=>⟨v,H1,I2,ru,q⟩
theorem zwg(ha:PE X o ta)(hv:PE X value tv)(hs:swapsWith value (some (.Attribute o f pos')) pos.line X.env=pure false):PS X (.Assign [.Attribute o f pos'] value pos) (zt0 X.K ta tv f):=by
 intro pins s σ H D I h;refine plainObj_wpAny_Assign_Attribute (thn (hv pins s σ H _ I h) fun u s1 ⟨y,H1,I1,ry,q⟩=>thn (ha pins s1 σ H1 _ I1 q) fun ov s2 ⟨x,H2,I2,rx,a,C,dx,fs,ex,ea,c,n,l,q2⟩=>?_) hs;subst ex;obtain rfl:ov=Value.ref a:=rx;exact znZ I2 ea c n l ry fun s3 I3=>⟨σ,_,I3,q2⟩
end
section
variable{X:Cx}{pins:List (Addr×Obj)}{σ:St}{H:Hp}{s:Shared}{A:Around}{E:Value->Shared->Prop}{Q:Value->Shared->Prop}{c:Value}{b:Bool}
inductive zfE(K:Frag)(H:Hp):V->Value->Prop where
 | non:zfE K H .non (.type "NoneType")
 | bl (x:Bool):zfE K H (.bl x) (.type "bool")
 | int (i:Int):zfE K H (.int i) (.type "int")
 | str (x:Str):zfE K H (.str x) (.type "str")
 | flt (x:UInt64):zfE K H (.flt x) (.type "float")
 | lst {a:Addr} {xs:List V} (e:H a=some (.lst xs)):zfE K H (.ref a) (.type "list")
 | frz {a:Addr} {o:Obj} {xs:List V} (e:H a=some (.frz o (.lst xs))):zfE K H (.ref a) (.type "list")
 | tup {a:Addr} {xs:List V} (e:H a=some (.tup xs)):zfE K H (.ref a) (.type "tuple")
 | dK {a:Addr} {kvs:List (Key×V)} (e:H a=some (.dK kvs)):zfE K H (.ref a) (.type "dict")
 | dT {a:Addr} {kvs:List (List Key×V)} (e:H a=some (.dT kvs)):zfE K H (.ref a) (.type "dict")
 | ins {a C dx:Addr} {fs:List (Str×V)} (e:H a=some (.ins C dx fs)) (cl:Cls K C) (ha:findIn K (.ref C) "__class__"=some (some (.builtin "object.__class__")))
   (hn:specialIn K (.builtin "object.__class__") "__get__"=some (some (.builtin "getset_descriptor.__get__"))) (htk:takesIn K (.builtin "object.__class__")=some true)
   (hm:mroIn K C (.type "object")=some true):zfE K H (.ref a) (.ref C)
theorem zpt{x:V}{u t:Value}(I:Inv X pins σ H s)(rx:RelV x u)(ty:zfE X.K H x t)(e:kitOne X.K t c=some b)(h:∀tk,Q (.bool b) { s with toks:=tk }) :
  wpAny (model X.prog X.w) A (call (.builtin "isinstance") [u,c]) Q E s:=by
 cases ty with
 | non=>cases (show u=Value.none from rx);exact kia_one PySem.W.kitx_none I.kIn True.intro e (fun z=>nomatch z) h
 | bl y=>cases (show u=Value.bool y from rx);exact kia_one PySem.W.kitx_bool I.kIn True.intro e (fun z=>nomatch z) h
 | int i=>obtain⟨t,q⟩:=(show ∃t,u=Value.int i t from rx);cases q;exact kia_one PySem.W.kitx_int I.kIn True.intro e (fun z=>nomatch z) h
 | str y=>obtain⟨t,q⟩:=(show ∃t,u=Value.str y t from rx);cases q;exact kia_one PySem.W.kitx_str I.kIn True.intro e (fun z=>nomatch z) h
 | flt y=>obtain⟨t,q⟩:=(show ∃t,u=Value.float y t from rx);cases q;exact kia_one PySem.W.kitx_float I.kIn True.intro e (fun z=>nomatch z) h
 | @lst a xs ea =>
  cases (show u=Value.ref a from rx);obtain⟨_,_,n,_,h1⟩:=(show zaF X.prog X.w H s.heap a (.lst xs) from I.hok a _ ea);exact kia_one PySem.W.kitx_list I.kIn ⟨_,h1,rfl⟩ e (fun z=>nomatch z) h
 | @frz a ob xs ea =>
  cases (show u=Value.ref a from rx);obtain⟨_,_,_,n,_,h1⟩:=(show zaF X.prog X.w H s.heap a (.frz ob (.lst xs)) from I.hok a _ ea);exact kia_one PySem.W.kitx_list I.kIn ⟨_,h1,rfl⟩ e (fun z=>nomatch z) h
 | @tup a xs ea =>
  cases (show u=Value.ref a from rx);obtain⟨_,_,_,p⟩:=(show zaF X.prog X.w H s.heap a (.tup xs) from I.hok a _ ea);obtain⟨o,h1,h2,_⟩:=p;exact kia_one PySem.W.kitx_tuple I.kIn ⟨o,h1,h2⟩ e (fun z=>nomatch z) h
 | @dK a kvs ea =>
  cases (show u=Value.ref a from rx);obtain⟨_,_,vs,_,p⟩:=(show zaF X.prog X.w H s.heap a (.dK kvs) from I.hok a _ ea);obtain⟨o,es,ep,h1,h2,_⟩:=p;exact kia_one PySem.W.kitx_dict I.kIn ⟨o,h1,h2.1⟩ e (fun z=>nomatch z) h
 | @dT a kvs ea =>
  cases (show u=Value.ref a from rx);obtain⟨_,_,xs,_,o,es,ep,h1,h2,_⟩:=(show zaF X.prog X.w H s.heap a (.dT kvs) from I.hok a _ ea);exact kia_one PySem.W.kitx_dict I.kIn ⟨o,h1,h2.1⟩ e (fun z=>nomatch z) h
 | @ins a C dx fs ea cl ha hn htk hm =>
  cases (show u=Value.ref a from rx);obtain⟨mA,O,_⟩:=zfz I.hok ea;obtain⟨od,J,_⟩:=O.look;exact kia_one (PySem.W.kitx_own (cl.get _) cl.hd ha hn htk hm) I.kIn J e (fun z=>nomatch z) h
end
structure zaC(cm:Bool)(k:Nat)(A:Around):Prop where
 hd:cm=true->A.handled=none
 dp:A.depth+3*k+5 < recursionLimit
 un:A.units+16*k+200 < cLine
 gd:A.guards=some []
abbrev zdA(k:Nat)(A:Around):Prop:=zaC true k A
theorem zaC.mono{cm:Bool}{j k:Nat}{A:Around}(r:zaC cm k A)(h:j<=k):zaC cm j A:=⟨r.hd,by have:=r.dp;omega,by have:=r.un;omega,r.gd⟩
theorem zaC.deeper{cm:Bool}{k:Nat}{A:Around}(r:zaC cm (k+1) A)(env:Env):zaC cm k (A.deeper env) :=
 ⟨r.hd,by have:=r.dp;show A.depth+1+3*k+5 < _;omega,by have:=r.un;show A.units+3+16*k+200 < _;omega,r.gd⟩
theorem znu{A:Around}{C:Addr}{us:List Value}{kw:List (Str×Value)}:(A.under (.builtin "type.__call__" ⟨.ref C::us,kw⟩)).depth=A.depth+1:=by
 first | rfl | simp[Around.under,Code.weight,Code.isCreation,Code.isGuard,Code.isCaller,Code.frames,Code.isFrame,guardIds]
theorem zoo{A:Around}{C:Addr}{us:List Value}{kw:List (Str×Value)}:(A.under (.builtin "type.__call__" ⟨.ref C::us,kw⟩)).units=A.units+1:=by
 first | rfl | simp[Around.under,Code.cUnits,Code.frames,Code.isFrame]
theorem znq{A:Around}{C:Addr}{us:List Value}{kw:List (Str×Value)}:(A.under (.builtin "type.__call__" ⟨.ref C::us,kw⟩)).guards=A.guards:=by
 first | rfl | simp[Around.under,Code.guards,Code.isGuard,guardIds,pushGuards]
theorem zaC.make{cm:Bool}{k:Nat}{A:Around}(r:zaC cm (k+1) A)(C:Addr)(us:List Value)(kw:List (Str×Value)):zaC cm k (A.under (.builtin "type.__call__" ⟨.ref C::us,kw⟩)) :=
 ⟨r.hd,by have:=r.dp;rw[znu];omega,by have:=r.un;rw[zoo];omega,by rw[znq];exact r.gd⟩
theorem zaC.depth{cm:Bool}{k:Nat}{A:Around}(r:zaC cm k A):A.depth < recursionLimit:=by have:=r.dp;omega
theorem zaC.units{cm:Bool}{k:Nat}{A:Around}(r:zaC cm k A):A.units+64 < cLine:=by have:=r.un;omega
def zga:TA:=fun _ H Q=>Q [] H
def zeH(ta:TE)(tr:TA):TA:=fun σ H Q=>ta σ H fun x H1=>tr σ H1 fun xs H2=>Q (x::xs) H2
section
variable{X:Cx}{e:Expr}{es:List Expr}{te:TE}{t:TA}{pos:Pos}
theorem zst:PA X [] zga:=fun _ _ _ _ H Q I h=>Calls.spliced_nil ⟨[],H,I, .nil,h⟩
theorem zoT(ha:PE X e te)(hr:PA X es t)(hs:starEach (e::es) X.env=(false,eval e X.env)::starEach es X.env:=by rfl):PA X (e::es) (zeH te t):=by
 intro pos pins s σ H Q I h;rw[hs];show wpAny _ _ (spliced ((false,eval e X.env)::backTo pos (starEach es X.env))) _ _ s;refine Calls.spliced_cons (thn (ha pins s σ H _ I h) fun u s1 ⟨x,H1,I1,r1,q1⟩=>?_);exact thn (hr pos pins s1 σ H1 _ I1 q1) fun us s2 ⟨xs,H2,I2,r2,q2⟩=>⟨x::xs,H2,I2, .cons r1 r2,q2⟩
def zww(t:TA):TE:=fun σ H Q=>t σ H fun xs H1=>xs.length<=sizeLine/\∀p,H1 p=none->Q (.ref p) (upd H1 p (.tup xs))
def zu0(t:TA):TE:=fun σ H Q=>t σ H fun xs H1=>xs.length<=sizeLine/\∀p,H1 p=none->Q (.ref p) (upd H1 p (.lst xs))
theorem zwD{x1}(h:PA X es t):PE X (.Tuple es x1 pos) (zww t):=by
 intro pins s σ H Q I hq;refine wpAny_Tuple_spliced (thn (h pos pins s σ H _ I hq) fun us s1 ⟨xs,H1,I1,r,z,q⟩=>⟨by rw[<- r.length];exact z,?_⟩);have hf:H1 s1.heap.objs.size=none:=I1.hok.fresh (Nat.le_refl _);refine⟨.ref s1.heap.objs.size,upd H1 s1.heap.objs.size (.tup xs),I1.laid (t':=s1.toks) (fun b u e=>Heap.get?_push_of_some _ e) (Nat.le_refl _) ?_,rfl,q _ hf⟩;exact⟨z,us,r,⟨_,Heap.get?_push_size _ rfl,rfl,_,rfl⟩⟩
theorem zwB(h:PA X es t):PE X (.List es pos) (zu0 t):=by
 intro pins s σ H Q I hq;refine wpAny_List_spliced (thn (h pos pins s σ H _ I hq) fun us s1 ⟨xs,H1,I1,r,z,q⟩=>⟨by rw[<- r.length];exact z,?_⟩);have hf:H1 s1.heap.objs.size=none:=I1.hok.fresh (Nat.le_refl _);refine⟨.ref s1.heap.objs.size,upd H1 s1.heap.objs.size (.lst xs),I1.laid (t':=s1.toks) (fun b u e=>Heap.get?_push_of_some _ e) (Nat.le_refl _) ?_,rfl,q _ hf⟩;exact⟨z,us,0,r,Heap.get?_push_size _ rfl⟩
end
abbrev Sp:=List V->Hp->VK->XK->Prop
abbrev CXT:=List Env->Hp->Shared->XK->Value->Shared->Prop
structure znP(P:Program)(w:World)(K:Frag)(mg:Str->Option Value)(base:Heap)(A:Around)(outer:List Env)(s:Shared)(H:Hp):Prop where
 frames:A.frames=some outer
 mod:Mod K mg base
 bs:∀b o,base.get? b=some o->s.heap.get? b=some o/\H b=none
 bsz:base.objs.size<=s.heap.objs.size
 funs:s.heap.FunFrames base outer
 frf:∀b∈frs outer,H b=none
 hok:HOk P w H s.heap
 bare:AllBare s.gens
def CE(outer:List Env)(P:Program)(w:World)(H:Hp)(s:Shared)(Q:VK)(u:Value)(s':Shared):Prop :=
 ∃v H',s'.os=s.os/\AllBare s'.gens/\Un (frs outer) [] H H' s.heap s'.heap/\HOk P w H' s'.heap/\RelV v u/\Q v H'
def CR(CX:CXT)(outer:List Env)(P:Program)(w:World)(H:Hp)(s:Shared)(Q:VK)(E:XK)(r:Result)(s':Shared):Prop :=
 match r with
 | .ok (.ret u)=>CE outer P w H s Q u s'
 | .ok _=>False
 | .error e=>CX outer H s E e s'
structure zac(P:Program)(w:World)(K:Frag)(mg:Str->Option Value)(base:Heap)(CX:CXT)(k:Nat)(f:Addr)(fd:FuncData)(ps:List Str)(sp:Sp)(cm:Bool:=true):Prop where
 len:∀vs H Q E,sp vs H Q E->vs.length=ps.length
 run:∀(A:Around) (outer:List Env) (s:Shared) (H:Hp) (args:Args) (us:List Value) (vs:List V) (Q:VK) (E:XK),zaC cm k A->znP P w K mg base A outer s H->BindsTo s fd args (ps.zip us)->Vals vs us->sp vs H Q E ->
  codeAny (model P w) A (.call (.ref f) args) (CR CX outer P w H s Q E) s
theorem zac.mono{P:Program}{w:World}{K:Frag}{mg:Str->Option Value}{base:Heap}{CX:CXT}{j k:Nat}{f:Addr}{fd:FuncData}{ps:List Str}{sp:Sp}(F:zac P w K mg base CX j f fd ps sp)(h:j<=k) :
  zac P w K mg base CX k f fd ps sp:=⟨F.len,fun A outer s H args us vs Q E hr=>F.run A outer s H args us vs Q E (hr.mono h)⟩
theorem zac.imp{P:Program}{w:World}{K:Frag}{mg:Str->Option Value}{base:Heap}{CX:CXT}{k:Nat}{f:Addr}{fd:FuncData}{ps:List Str}{sp sp':Sp}(F:zac P w K mg base CX k f fd ps sp)
  (h:∀vs H Q E,sp' vs H Q E->sp vs H Q E):zac P w K mg base CX k f fd ps sp' :=
 ⟨fun vs H Q E q=>F.len vs H Q E (h _ _ _ _ q),fun A outer s H args us vs Q E hr he hb hv hs=>F.run A outer s H args us vs Q E hr he hb hv (h _ _ _ _ hs)⟩
theorem znP.make{P:Program}{w:World}{K:Frag}{mg:Str->Option Value}{base:Heap}{A:Around}{outer:List Env}{s:Shared}{H:Hp}(e:znP P w K mg base A outer s H)(C:Addr)(us:List Value)(kw:List (Str×Value)) :
  znP P w K mg base (A.under (.builtin "type.__call__" ⟨.ref C::us,kw⟩)) outer s H:=⟨by first | exact e.frames | (simpa [Around.under,Code.envs,Code.isFrame,pushEnvs] using e.frames),e.mod,e.bs,e.bsz,e.funs,e.frf,e.hok,e.bare⟩
section
variable{X:Cx}{pins:List (Addr×Obj)}{σ:St}{H:Hp}{s s':Shared}
theorem Inv.env0(I:Inv X pins σ H s):znP X.prog X.w X.K X.mg X.base X.A X.stack s H :=
 ⟨I.ok.frames,I.ok.mod,I.bs,Nat.le_trans I.ok.bsz I.sz,I.stack,I.stkFree,I.hok,I.bare⟩
theorem Inv.after{Q:VK}{u:Value}(I:Inv X pins σ H s)(h:CE X.stack X.prog X.w H s Q u s'):EP X pins σ Q u s':=by
 obtain⟨v,H',os,bare,un,hok,r,q⟩:=h;obtain⟨hh,g,d,t,os'⟩:=s';obtain rfl:os'=s.os:=os;exact⟨v,H',I.call (h':=hh) (g':=g) (d':=d) (t':=t) (ch:=[]) un hok bare (fun b z=>absurd z (by simp)),r,q⟩
end
def zkq(sp:Sp)(dvs:List V)(E:XK)(t:TA):TE:=fun σ H Q=>t σ H fun vs H1=>sp (vs++dvs) H1 Q E
def Binds(K:Frag)(fd:FuncData)(ps:List Str)(ds:List Value):Prop :=
 ∀(s:Shared) (us:List Value),K.In s.heap->(us++ds).length=ps.length->BindsTo s fd ⟨us,[]⟩ (ps.zip (us++ds))
theorem Binds.all{K:Frag}{fd:FuncData}{ps:List Str}(h:∀us:List Value,us.length=ps.length->bindArgs fd ⟨us,[]⟩=pure (ps.zip us)):Binds K fd ps []:=fun s us _ hl=>by
 rw[List.append_nil] at hl ⊢;exact .of_eq (h us hl)
def zcS(CX:CXT)(X:Cx)(E:XK):Prop:=∀(pins:List (Addr×Obj)) (σ:St) (H:Hp) (s:Shared) (e:Value) (s':Shared),Inv X pins σ H s->CX X.stack H s E e s'->X.xe e s'
section
variable{X:Cx}{CX:CXT}{k:Nat}{f C:Addr}{fd:FuncData}{ps:List Str}{sp:Sp}{dvs:List V}{ds:List Value}{E:XK}{x m:Str}{p pos apos:Pos}{e o:Expr}{es:List Expr}{ta:TE}{t:TA}
theorem zrT{pins:List (Addr×Obj)}{σ:St}{H:Hp}{s:Shared}{Q:VK}{us:List Value}{vs:List V}(F:zac X.prog X.w X.K X.mg X.base CX k f fd ps sp)(hr:zdA k X.A)(hb:Binds X.K fd ps ds)(hd:Vals dvs ds)(hx:zcS CX X E)
  (I:Inv X pins σ H s)(r:Vals vs us)(h:sp (vs++dvs) H Q E):wpAny (model X.prog X.w) X.A (call (.ref f) us) (EP X pins σ Q) X.xe s:=by
 have r2:Vals (vs++dvs) (us++ds):=r.append hd;have hl:(us++ds).length=ps.length:=by rw[<- r2.length];exact F.len _ _ _ _ h
 refine wpAny_call (codeAny_mono (F.run X.A X.stack s H ⟨us,[]⟩ (us++ds) (vs++dvs) Q E hr I.env0 (hb s us I.kIn hl) r2 h) fun r s' hq=>?_);cases r with
 | error e=>exact hx pins σ H s e s' I hq
 | ok fl =>
  cases fl with
  | ret u=>exact I.after hq
  | next=>exact False.elim hq
  | brk=>exact False.elim hq
  | cont=>exact False.elim hq
theorem zva(F:zac X.prog X.w X.K X.mg X.base CX k f fd ps sp)(hr:zdA k X.A)(hg:Gl X x)(hm:X.mg x=some (.ref f))(hk:keepIn X.K (.ref f)=true)(hb:Binds X.K fd ps ds)(hd:Vals dvs ds)(hx:zcS CX X E)
  (ha:PA X (e::es) t)(hdb:(x==("__debug__":Str))=false:=by decide)(he:starEach (e::es) X.env=(false,eval e X.env)::starEach es X.env:=by rfl)(hpl:(backTo pos (starEach es X.env)).any (·.1)=false:=by rfl) :
  PE X (.Call (.Name x p) (e::es) [] pos) (zkq sp dvs E t):=by
 intro pins s σ H Q I h;refine wpAny_Call_Name_kw (zdH I hg hm ?_ hdb);refine PySem.W.callWith_K (h₀:=X.base) I.ok.mod.kin hk (thn (ha pos pins s σ H _ I h) fun us s1 ⟨vs,H1,I1,r,q⟩=>⟨I1.kIn,?_⟩) he hpl;exact zrT F hr hb hd hx I1 r q
structure Mk(K:Frag)(C f:Addr):Prop where
 makes:makesIn K C=true
 init:findIn K (.ref C) "__init__"=some (some (.ref f))
 fn:isFn K (.ref f)=true
 kp:keepIn K (.ref C)=true
end
def PK(X:Cx)(kws:List Keyword)(t:TA):Prop :=
 ∀(pos:Pos) (pins:List (Addr×Obj)) (s:Shared) (σ:St) (H:Hp) (Q:List V->Hp->Prop),Inv X pins σ H s->t σ H Q->wpAny (model X.prog X.w) X.A (evalAll ((backToKw pos (keywordEach kws X.env)).map (·.2))) (AP X pins σ Q) X.xe s
section
variable{X:Cx}{CX:CXT}{k:Nat}{f C:Addr}{fd:FuncData}{ps ks:List Str}{sp:Sp}{E:XK}{x m:Str}{p pos apos kpos:Pos}{e o:Expr}{es:List Expr}{kws:List Keyword}{te ta:TE}{t tk:TA}{nm:Option Str}
theorem zwZ:PK X [] zga:=fun _ _ _ _ H Q I h=>wpAny_evalAll_nil ⟨[],H,I, .nil,h⟩
theorem zt7(ha:PE X e te)(hr:PK X kws t):PK X (⟨nm,e,kpos⟩::kws) (zeH te t):=by
 intro pos pins s σ H Q I h;show wpAny _ _ (evalAll ((do let v<-eval e X.env;standAt pos;pure v)::(backToKw pos (keywordEach kws X.env)).map (·.2))) _ _ s;refine wpAny_evalAll_cons (wpAny_bind (thn (ha pins s σ H _ I h) fun u s1 ⟨x,H1,I1,r1,q1⟩=>wpAny_bind (wpAny_standAt (wpAny_pure ?_))));exact thn (hr pos pins s1 σ H1 _ I1 q1) fun us s2 ⟨xs,H2,I2,r2,q2⟩=>⟨x::xs,H2,I2, .cons r1 r2,q2⟩
structure zdj(K:Frag)(fd:FuncData)(ps ks:List Str)(g:List Value->List Value->List Value)(gV:List V->List V->List V):Prop where
 to:∀(s:Shared) (us ws:List Value),K.In s.heap->(g us ws).length=ps.length->BindsTo s fd ⟨us,ks.zip ws⟩ (ps.zip (g us ws))
 rel:∀{vs:List V} {us:List Value} {zs:List V} {ws:List Value},Vals vs us->Vals zs ws->Vals (gV vs zs) (g us ws)
variable{g:List Value->List Value->List Value}{gV:List V->List V->List V}
theorem zo3{pins:List (Addr×Obj)}{σ:St}{H:Hp}{s:Shared}{Q:VK}{us ws:List Value}{vs zs:List V}(F:zac X.prog X.w X.K X.mg X.base CX k f fd ps sp)(hr:zdA k X.A)(hb:zdj X.K fd ps ks g gV)(hx:zcS CX X E)
  (I:Inv X pins σ H s)(r:Vals vs us)(rz:Vals zs ws)(h:sp (gV vs zs) H Q E):wpAny (model X.prog X.w) X.A (call (.ref f) us (ks.zip ws)) (EP X pins σ Q) X.xe s:=by
 have r2:=hb.rel r rz;have hl:(g us ws).length=ps.length:=by rw[<- r2.length];exact F.len _ _ _ _ h
 refine wpAny_call (codeAny_mono (F.run X.A X.stack s H ⟨us,ks.zip ws⟩ (g us ws) (gV vs zs) Q E hr I.env0 (hb.to s us ws I.kIn hl) r2 h) fun r s' hq=>?_);cases r with
 | error e=>exact hx pins σ H s e s' I hq
 | ok fl =>
  cases fl with
  | ret u=>exact I.after hq
  | next=>exact False.elim hq
  | brk=>exact False.elim hq
  | cont=>exact False.elim hq
end
structure zP(N P:List Str)(sc:Scope):Prop where
 kind:sc.kind= .function
 co:sc.isCoroutine=false
 gen:sc.isGenerator=false
 nd:N.Nodup
 pre:N.take P.length=P
 par:∀x∈P,sc.names.lookup x=some .local\/sc.names.lookup x=some .cell
 nofree:∀y∈sc.names,y.2≠ .free
theorem zkC{kindOf:Str->Option NameKind}{x:Str}:∀{binds:List (Str×Value)} {m:Str->Option Value},(∀v,(x,v)∉binds)->bindL kindOf binds m x=m x
 | [],_,_=>rfl
 | (n,v)::r,m,h=>by
  unfold bindL;rw[zkC fun w hw=>h w (List.mem_cons_of_mem _ hw)];split
  .have:x≠n:=by rintro rfl;exact h v List.mem_cons_self
   simp[this]
  .rfl
theorem zkz{kindOf:Str->Option NameKind}{x:Str}:∀{binds:List (Str×Value)} {m:Str->Option Value},(∀v,(x,v)∉binds)->bindC kindOf binds m x=m x
 | [],_,_=>rfl
 | (n,v)::r,m,h=>by
  unfold bindC;rw[zkz fun w hw=>h w (List.mem_cons_of_mem _ hw)];split
  .rfl
  .have:x≠n:=by rintro rfl;exact h v List.mem_cons_self
   simp[this]
theorem zkv{kindOf:Str->Option NameKind}{x:Str}{v:Value}:∀{P:List Str} {vs:List Value} {i:Nat} {m:Str->Option Value},P.Nodup->P[i]? = some x->vs[i]? = some v->kindOf x=some .local ->
  bindL kindOf (P.zip vs) m x=some v
 | [],_,_,_,_,h,_,_=>by simp at h
 | _::_,[],_,_,_,_,h,_=>by simp at h
 | p::P,w::vs,0,m,nd,h1,h2,hk=>by
  simp at h1 h2;subst h1;subst h2;show bindL kindOf ((p,w)::P.zip vs) m p=_;unfold bindL;rw[zkC fun v hv=>(List.nodup_cons.mp nd).1 (List.of_mem_zip hv).1,if_pos hk];simp
 | p::P,w::vs,i+1,m,nd,h1,h2,hk=>by
  show bindL kindOf ((p,w)::P.zip vs) m x=_;unfold bindL;exact zkv (i:=i) (List.nodup_cons.mp nd).2 (by simpa using h1) (by simpa using h2) hk
theorem zku{kindOf:Str->Option NameKind}{x:Str}{v:Value}:∀{P:List Str} {vs:List Value} {i:Nat} {m:Str->Option Value},P.Nodup->P[i]? = some x->vs[i]? = some v->kindOf x≠some .local ->
  bindC kindOf (P.zip vs) m x=some v
 | [],_,_,_,_,h,_,_=>by simp at h
 | _::_,[],_,_,_,_,h,_=>by simp at h
 | p::P,w::vs,0,m,nd,h1,h2,hk=>by
  simp at h1 h2;subst h1;subst h2;show bindC kindOf ((p,w)::P.zip vs) m p=_;unfold bindC;rw[zkz fun v hv=>(List.nodup_cons.mp nd).1 (List.of_mem_zip hv).1,if_neg hk];simp
 | p::P,w::vs,i+1,m,nd,h1,h2,hk=>by
  show bindC kindOf ((p,w)::P.zip vs) m x=_;unfold bindC;exact zku (i:=i) (List.nodup_cons.mp nd).2 (by simpa using h1) (by simpa using h2) hk
def start(N:List Str)(vs:List V):St:=vs.map some++List.replicate (N.length - vs.length) none
def zfi(CX:CXT)(P:Program)(w:World)(K:Frag)(mg:Str->Option Value)(base:Heap)(N:List Str)(qual:Str)(scope:Scope)(f:Addr)(cd:Value)(A:Around)(outer:List Env)(s:Shared)(H:Hp)(E:XK)(cm:Bool:=true):Cx where
 prog:=P
 w:=w
 K:=K
 mg:=mg
 base:=base
 A:=A.deeper (envOfC qual scope s.heap.objs.size f cd)
 N:=N
 s₀:=s
 H₀:=H
 env:=envOfC qual scope s.heap.objs.size f cd
 outer:=outer
 stack:=envOfC qual scope s.heap.objs.size f cd::outer
 ex:=[]
 calm:=cm
 fn:=fun _=>true
 pn:=[]
 xe:=fun e s'=>wpAny (model P w) (A.deeper (envOfC qual scope s.heap.objs.size f cd)) (leaving (envOfC qual scope s.heap.objs.size f cd) e) (fun _ s''=>CX outer H s E e s'') (fun e' s''=>CX outer H s E e' s'') s'
theorem znm{sc:Scope}{n:Nat}{x:Str}(h:sc.names.lookup x=some .cell):∃c,(cellsFrom n sc.names []).lookup x=some c:=by
 have q:=PySem.W.cellsFrom_some sc.names n [] (.inl h);exact Option.isSome_iff_exists.mp q
theorem zqm{cm:Bool}{CX:CXT}{P:Program}{w:World}{K:Frag}{mg:Str->Option Value}{base:Heap}{N ps:List Str}{qual:Str}{scope:Scope}{f:Addr}{cd:Value}{A:Around}{outer:List Env}{s s1:Shared}{H:Hp}{E:XK}{us:List Value}{vs:List V}
  (S:zP N ps scope)(hd:cm=true->A.handled=none)(e0:znP P w K mg base A outer s H)(hl:vs.length=ps.length)(r:Vals vs us)
  (x:InCallC s s.heap.objs.size (bindL (envOfC qual scope s.heap.objs.size f cd).kindOf (ps.zip us) fun _=>none) (cellsFrom (s.heap.objs.size+1) scope.names []) (bindC (envOfC qual scope s.heap.objs.size f cd).kindOf (ps.zip us) fun _=>none) s1) :
  Inv (zfi CX P w K mg base N qual scope f cd A outer s H E cm) [] (start N vs) H s1:=by
 have hpl:ps.length<=N.length:=by have:=congrArg List.length S.pre;rw[List.length_take] at this;omega
 obtain⟨h1,tk,rfl,hk⟩:=x.done;have noA:∀b:Addr,b∉(zfi CX P w K mg base N qual scope f cd A outer s H E cm).ex:=fun b z=>absurd (show b∈([]:List Addr) from z) (by simp)
 refine⟨⟨e0.mod,S.kind,rfl,rfl,Nat.le_refl _,fun y z c h1 h2=>?_,fun y hy=>?_,fun y c _ h=>?_,hd,Around.frames_deeper e0.frames, .inr ⟨rfl,rfl⟩,fun b z=>absurd z (noA b),e0.bs,e0.bsz,fun b _ _=>noA b,fun b z=>absurd z (noA b),e0.funs,e0.frf⟩,
  rfl,e0.bare,Un.kept hk,⟨_,x.toInCall.ns,fun i y v h1 h2 h3=>?_⟩,fun y c h=>⟨_,x.cell y c h⟩,e0.hok.fresh (Nat.le_refl _),fun y c h=>?_,fun p hp=>absurd (show p∈([]:List (Addr×Obj)) from hp) (by simp),e0.hok.kept hk,?_⟩
 .exact name_of_addr x.apart (PySem.mem_of_lookup h1) (PySem.mem_of_lookup h2)
 .have hy:scope.names.lookup y=some .cell\/scope.names.lookup y=some .free:=hy;rcases hy with hy | hy
  .exact znm hy
  .exact absurd rfl (S.nofree _ (PySem.mem_of_lookup hy))
 .exact Nat.le_of_lt (x.above y c (PySem.mem_of_lookup h))
 .have hi:i < vs.length:=by
   unfold start at h2;by_cases hi:i < vs.length
   .exact hi
   .rw[List.getElem?_append_right (by simpa using hi)] at h2;rw[List.getElem?_replicate] at h2;split at h2<;>cases h2
  have ha:vs[i]? = some v:=by
   unfold start at h2;rw[List.getElem?_append_left (by simpa using hi),List.getElem?_map] at h2;cases e:vs[i]? with
   | none=>rw[e] at h2;cases h2
   | some a=>rw[e] at h2;cases h2;rfl
  obtain⟨u,hu,rv⟩:=r.get ha;have hp:ps[i]? = some y:=by
   rw[<- S.pre,List.getElem?_take_of_lt (by omega)];exact h1
  have ndP:ps.Nodup:=by rw[<- S.pre];exact S.nd.sublist (List.take_sublist _ _)
  refine⟨u,rv,?_⟩;rcases S.par y (List.mem_of_getElem? hp) with k | k
  .exact .inl ⟨k,zkv ndP hp hu k⟩
  .obtain⟨c,e⟩:=znm (n:=s.heap.objs.size+1) k;refine .inr ⟨.inl k,c,e,?_⟩;have q:=x.cell y c e;rw[zku ndP hp hu (by show scope.names.lookup y≠_;rw[k];decide)] at q;exact q
 .exact e0.hok.fresh (Nat.le_of_lt (x.above y c (PySem.mem_of_lookup h)))
 .unfold start;show _=N.length;rw[List.length_append,List.length_map,List.length_replicate];omega
theorem zrV{cm:Bool}{CX:CXT}{P:Program}{w:World}{K:Frag}{mg:Str->Option Value}{base:Heap}{k:Nat}{f:Addr}{name qual:Str}{params:Arguments}{body:List Stmt}{scope:Scope}{dV kV doc pm cdv ct oc:Value}{an od:Option Addr}
  {osl:Array (Option Value)}{N ps:List Str}{sp:Sp}(lk:K.lookup f=some ⟨oc,od, .func (fnOf name qual params body scope dV kV doc pm an cdv ct),osl⟩)(hcd:codeIn K cdv qual=true)(S:zP N ps scope)
  (len:∀vs H Q E,sp vs H Q E->vs.length=ps.length)
  (hbody:∀(A:Around) (outer:List Env) (s:Shared) (H:Hp) (vs:List V) (Q:VK) (E:XK),zaC cm k (A.deeper (envOfC qual scope s.heap.objs.size f cdv))->sp vs H Q E ->
   ∃t,PSs (zfi CX P w K mg base N qual scope f cdv A outer s H E cm) body t/\t { nx:=fun _ H'=>Q .non H',rt:=Q } (start N vs) H) :
  zac P w K mg base CX (k+1) f (fnOf name qual params body scope dV kV doc pm an cdv ct) ps sp cm:=by
 refine⟨len,fun A outer s H args us vs Q E hr e0 hb r hsp=>?_⟩;have hl:=len _ _ _ _ hsp;have KX:K.In s.heap:=e0.mod.kin.keeps fun b o e=>(e0.bs b o e).1
 have lim:s.heap.NoLimit:=e0.mod.nolimit.keeps fun b o e=>(e0.bs b o e).1
 have hkind:∀y∈ps.zip us,scope.names.lookup y.1=some .local\/(scope.names.lookup y.1=some .cell/\((cellsFrom (s.heap.objs.size+1) scope.names []).lookup y.1).isSome=true):=fun⟨n,v⟩ hy=>by
  rcases S.par n (List.of_mem_zip hy).1 with q | q
  .exact .inl q
  .exact .inr ⟨q,PySem.W.cellsFrom_some _ _ _ (.inl q)⟩
 refine codeAny_call_function hr.depth (KX _ _ lk) rfl S.co S.gen rfl (PySem.W.codeRec_of KX hcd) (hb _ _ _ _ ?_);refine wpAny_newFunctionEnv_cells S.kind hkind fun env he s1 x=>?_
 subst he;refine⟨lim.keeps x.toInCall.keep,codeAny_func ?_⟩;obtain⟨t,ht,hq⟩:=hbody A outer s H vs Q E (hr.deeper _) hsp;have I:Inv (zfi CX P w K mg base N qual scope f cdv A outer s H E cm) [] (start N vs) H s1:=zqm S hr.hd e0 hl r x;refine wpAny_mono (ht [] s1 (start N vs) H _ I hq) (fun fl s' hs=>?_) fun e s' hs=>hs
 have fin:∀{σ':St} {H':Hp} {v:V} {u:Value},Inv (zfi CX P w K mg base N qual scope f cdv A outer s H E cm) [] σ' H' s'->RelV v u->Q v H'->CE outer P w H s Q u s' :=
  fun{σ' H' v u} J rv q=>⟨v,H',J.os,J.bare,J.base,J.hok,rv,q⟩
 cases fl with
 | ret u =>
  obtain⟨v,σ',H',J,rv,q⟩:=hs;exact fin J rv q
 | next =>
  obtain⟨σ',H',J,q⟩:=hs;exact fin (v:=V.non) (u:=Value.none) J rfl q
 | brk =>
  obtain⟨_,_,_,q⟩:=hs;exact False.elim q
 | cont =>
  obtain⟨_,_,_,q⟩:=hs;exact False.elim q
section
variable{X:Cx}{x:Str}{p pos:Pos}{e:Expr}{es:List Expr}{t:TA}{id T:String}{r:List V->Hp->VK->Prop}
def tCB(r:List V->Hp->VK->Prop)(t:TA):TE:=fun σ H Q=>t σ H fun vs H1=>r vs H1 Q
theorem zqP(hc:zaf X (.builtin id) r)(hg:Gl X x)(hm:X.mg x=none)(hv:bootBuiltins x=some (.builtin id))(ha:PA X (e::es) t)(hn:x≠"__name__":=by decide)(hdb:(x==("__debug__":Str))=false:=by decide)
  (he:starEach (e::es) X.env=(false,eval e X.env)::starEach es X.env:=by rfl)(hpl:(backTo pos (starEach es X.env)).any (·.1)=false:=by rfl):PE X (.Call (.Name x p) (e::es) [] pos) (tCB r t):=by
 intro pins s σ H Q I h;refine wpAny_Call_Name_kw (zln I hg hm hv ?_ hn hdb);exact PyProof.Rows.callWith_builtin1 (thn (ha pos pins s σ H _ I h) fun us s1 ⟨vs,H1,I1,r1,q1⟩=>hc pins s1 σ H1 vs us Q I1 r1 q1) he hpl
theorem zpD(hc:zaf X (.type T) r)(hg:Gl X x)(hm:X.mg x=none)(hv:bootBuiltins x=some (.type T))(ha:PA X (e::es) t)(hn:x≠"__name__":=by decide)(hdb:(x==("__debug__":Str))=false:=by decide)
  (he:starEach (e::es) X.env=(false,eval e X.env)::starEach es X.env:=by rfl)(hpl:(backTo pos (starEach es X.env)).any (·.1)=false:=by rfl):PE X (.Call (.Name x p) (e::es) [] pos) (tCB r t):=by
 intro pins s σ H Q I h;refine wpAny_Call_Name_kw (zln I hg hm hv ?_ hn hdb);exact PyProof.Rows.callWith_type1 (thn (ha pos pins s σ H _ I h) fun us s1 ⟨vs,H1,I1,r1,q1⟩=>hc pins s1 σ H1 vs us Q I1 r1 q1) he hpl
end
end L2
namespace HT
open PySem PyProof.Rows
section
open PySem.SeqAt
open PySem.AutoSeq1 (wpAny_loadPart')
open PySem.MeetsSeq PySem.MeetsSeq2 PySem.MeetsSeq3
end
section
variable{prog:Program}{w:World}{A:Around}{E:Value->Shared->Prop}{s:Shared}
theorem zuL{t b:Addr}{vs ws:List Value}{Q:Value->Shared->Prop}(ht:IsTup s.heap t vs.toArray)(hb:IsTup s.heap b ws.toArray)(hv:vs≠[])
  (h1:ws=[]->Q (.ref t) s)(h2:ws≠[]->Q (.ref s.heap.objs.size) { s with heap:=s.heap.push { cls:= .type "tuple",data:= .seq (vs++ws).toArray } })
  (hsz:vs.length+ws.length<=sizeLine):wpAny (model prog w) A (binaryOp .Add (.ref t) (.ref b)) Q E s:=by
 obtain⟨⟨cls,dd,data,sl⟩,ho,hc,n,hd⟩:=id ht;obtain⟨⟨cls2,dd2,data2,sl2⟩,ho2,hc2,n2,hd2⟩:=id hb;simp only at hc hd hc2 hd2;subst hc hd hc2 hd2;have e:vs.toArray++ws.toArray=(vs++ws).toArray:=by simp
 by_cases hw:ws=[]
 .exact concat_meets ⟨_,ho,rfl⟩ ⟨_,ho2,rfl⟩ noFill_tuple_add seq_tuple_add PySem.F.slot_tuple_add PySem.F.entry_tuple_add (PySem.F.args_tuple_add_2 _ _)
   (tuple_addW1 t b vs.toArray ws.toArray n n2 dd dd2 sl sl2 (by simpa using hv) (by simp[hw])) ⟨ho,ho2,h1 hw⟩
 .refine concat_meets ⟨_,ho,rfl⟩ ⟨_,ho2,rfl⟩ noFill_tuple_add seq_tuple_add PySem.F.slot_tuple_add PySem.F.entry_tuple_add (PySem.F.args_tuple_add_2 _ _)
   (tuple_addW2 t b vs.toArray ws.toArray n n2 dd dd2 sl sl2 (by simpa using hv) (by simpa using hw) (by rw[List.size_toArray,List.size_toArray];exact hsz)) ⟨ho,ho2,?_⟩
  rw[e];exact h2 hw
def sIx(n d:Nat):Option Int->Nat
 | none=>d
 | some v=>if v < 0 then(v+(n:Int)).toNat else min v.toNat n
theorem zmH(n d:Nat):sIx n d none=d:=rfl
theorem zbn(n d k:Nat):sIx n d (some (k:Int))=min k n:=by
 show(if (k:Int) < 0 then((k:Int)+(n:Int)).toNat else min (k:Int).toNat n)=min k n;rw[if_neg (by omega),Int.toNat_natCast]
theorem zx5(n d:Nat)(hd:d<=n)(o:Option Int):sIx n d o<=n:=by
 cases o with
 | none=>exact hd
 | some v =>
  show(if v < 0 then(v+(n:Int)).toNat else min v.toNat n)<=n;by_cases hv:v < 0
  .rw[if_pos hv];omega
  .rw[if_neg hv];exact Nat.min_le_right _ _
theorem zoD(v:Int)(n d:Nat):(if v < 0 then max (v+(n:Int)) 0 else min v (n:Int))=((sIx n d (some v):Nat):Int):=by
 show(if v < 0 then max (v+(n:Int)) 0 else min v (n:Int))=(((if v < 0 then(v+(n:Int)).toNat else min v.toNat n):Nat):Int);by_cases hv:v < 0
 .simp only[if_pos hv];omega
 .simp only[if_neg hv];omega
theorem zny(lo hi:Option Int)(n:Nat):Builtin.Slice.sliceAdjust lo hi 1 (n:Int)=(((sIx n 0 lo:Nat):Int),((sIx n n hi:Nat):Int)):=by
 have h1:¬ ((1:Int) < 0):=by omega
 unfold Builtin.Slice.sliceAdjust;simp only[h1,if_false];refine Prod.ext ?_ ?_
 .cases lo with
  | none=>rfl
  | some v=>exact zoD v n 0
 .cases hi with
  | none=>rfl
  | some v=>exact zoD v n n
theorem zou(i j:Nat):Builtin.Slice.slicePlaces (i:Int) (j:Int) 1=j - i:=by
 unfold Builtin.Slice.slicePlaces;have h1:(1:Int) > 0:=by omega
 simp only[h1,if_true,Int.ediv_one];split<;>omega
theorem zjE{v:Value}{o:Option Int}{Q:Option Int->Shared->Prop}(p:IsPart v o)(h:Q o s):wpAny (model prog w) A (Builtin.Slice.slicePartIndex v) Q E s:=by
 cases p with
 | none=>exact slicePart_none h
 | int i t=>exact slicePart_int h
theorem zhx{sl:Addr}{vl vu:Value}{lo hi:Option Int}{n:Nat}{Q:Int×Int×Nat->Shared->Prop}(hs:s.heap.IsSliceOf sl vl vu .none)(pl:IsPart vl lo)(pu:IsPart vu hi)
  (h:Q (((sIx n 0 lo:Nat):Int),1,sIx n n hi - sIx n 0 lo) s):wpAny (model prog w) A (Builtin.Slice.sliceApplied (.ref sl) (pure (n:Int))) Q E s:=by
 obtain⟨os,hos,hcs,hds⟩:=id hs;unfold Builtin.Slice.sliceApplied Builtin.Slice.sliceFields;refine wpAny_bind (wpAny_bind (wpAny_field hos hds (x:=vl) rfl (wpAny_bind (wpAny_field hos hds (x:=vu) rfl (wpAny_bind (wpAny_field hos hds (x:= .none) rfl (wpAny_pure ?_)))))));refine wpAny_bind (slicePart_none ?_);show wpAny _ _ (if ((1:Int)==0)=true then _ else _) _ _ s;rw[if_neg (by decide)];refine wpAny_bind (zjE pl (wpAny_bind (zjE pu (wpAny_bind (wpAny_pure ?_)))));show wpAny _ _ (match Builtin.Slice.sliceAdjust lo hi 1 (n:Int) with | (lo,hi)=>pure (lo,(1:Int),Builtin.Slice.slicePlaces lo hi 1)) _ _ s;rw[zny lo hi n];show wpAny _ _ (pure (((sIx n 0 lo:Nat):Int),(1:Int),Builtin.Slice.slicePlaces ((sIx n 0 lo:Nat):Int) ((sIx n n hi:Nat):Int) 1)) _ _ s;rw[zou];exact wpAny_pure h
theorem zr0(xs:Array Value)(i k:Nat):((List.range k).filterMap fun(m:Nat)=>xs[((i:Int)+(m:Int)*1).toNat]?).toArray=((xs.toList.drop i).take k).toArray:=by
 have e:(fun(m:Nat)=>xs[((i:Int)+(m:Int)*1).toNat]?)=fun m=>xs[i+m]? := by
  funext m;have:((i:Int)+(m:Int)*1).toNat=i+m:=by omega
  rw[this]
 rw[e];have:=pick_run xs i k;rw[List.filterMap_map] at this;have e2:((fun x=>xs[x]?)∘fun x=>i+x)=fun m=>xs[i+m]? := rfl
 rw[e2] at this;rw[this]
theorem zhf{t sl:Addr}{items:Array Value}{vl vu:Value}{lo hi:Option Int}{Q:Value->Shared->Prop}(ht:IsTup s.heap t items)(hs:s.heap.IsSliceOf sl vl vu .none)(pl:IsPart vl lo)(pu:IsPart vu hi)
  (hw:¬ (sIx items.size 0 lo=0/\sIx items.size items.size hi=items.size))
  (h:Q (.ref s.heap.objs.size) { s with heap:=s.heap.push { cls:= .type "tuple",data:= .seq ((items.toList.drop (sIx items.size 0 lo)).take (sIx items.size items.size hi - sIx items.size 0 lo)).toArray } })
  (hsz:items.size<=sizeLine):wpAny (model prog w) A (getItem (.ref t) (.ref sl)) Q E s:=by
 have htake:sizeOk (.seq ((items.toList.drop (sIx items.size 0 lo)).take (sIx items.size items.size hi - sIx items.size 0 lo)).toArray):=by
  show((items.toList.drop (sIx items.size 0 lo)).take (sIx items.size items.size hi - sIx items.size 0 lo)).toArray.size<=sizeLine;rw[List.size_toArray,List.length_take,List.length_drop,Array.length_toList];omega
 have hj:sIx items.size items.size hi<=items.size:=zx5 _ _ (Nat.le_refl _) hi;obtain⟨os,hos,hcs,hds⟩:=id hs;have hTs:s.TypeIs (.ref sl) "slice":=⟨os,hos,hcs⟩;unfold getItem;try with_reducible refine wpAny_holding ?_
 first | refine wpAny_bind (wpAny_pure ?_) | skip
 refine wpAny_bind (wpAny_sequenceKey ht.typeIs (by decide) ?_);refine wpAny_bind (wpAny_callSpecial?_slot (name:=Str.ofString "__getitem__") ht.typeIs PyProof.Rows.slot_tuple_getitem
  (wpAny_call_entry PyProof.Rows.slot_tuple_getitem ht.typeIs entry_tuple_getitem ?_ (args_tuple_getitem _ _)))
 show wpAny _ _ (Builtin.Tuple.tupleItemsOf (.ref t) >>= _) _ _ s;refine wpAny_bind (tupleItemsOf_ ht ?_);refine wpAny_bind (wpAny_typeOf hTs ?_);rw[if_pos (by decide)];refine wpAny_bind (zhx hs pl pu ?_);have hno:¬ ((((sIx items.size 0 lo:Nat):Int)==0&&(1:Int)==1&&(sIx items.size items.size hi - sIx items.size 0 lo)==items.size)=true):=by
  intro q;rw[Bool.and_eq_true,Bool.and_eq_true] at q;have q1:((sIx items.size 0 lo:Nat):Int)=0:=eq_of_beq q.1.1;have q2:sIx items.size items.size hi - sIx items.size 0 lo=items.size:=eq_of_beq q.2;exact hw ⟨by omega,by omega⟩
 show wpAny _ _ (if (((sIx items.size 0 lo:Nat):Int)==0&&(1:Int)==1&&(sIx items.size items.size hi - sIx items.size 0 lo)==items.size)=true then _ else _) _ _ s;rw[if_neg hno,zr0];first
  | exact wpAny_bind (m:=Builtin.Tuple.tupleExact _) (wpAny_newObj_type (wpAny_pure ⟨_,rfl,wpAny_pure h⟩) htake)
  | exact wpAny_bind (m:=Builtin.Tuple.tupleExact _) (wpAny_newObj_type (wpAny_bind (wpAny_pure (wpAny_pure ⟨_,rfl,wpAny_pure h⟩))) htake)
  | exact wpAny_bind (wpAny_bind (m:=Builtin.Tuple.tupleExact _) (wpAny_newObj_type (wpAny_pure (wpAny_pure ⟨_,rfl,wpAny_pure h⟩)) htake))
  | exact wpAny_bind (wpAny_bind (m:=Builtin.Tuple.tupleExact _) (wpAny_newObj_type (wpAny_pure ⟨_,rfl,wpAny_pure h⟩) htake))
end
end HT
namespace L2
open PySem PySem.Spec PyProof.Rows
abbrev TO:=St->Hp->(Option Int->Hp->Prop)->Prop
def PO(X:Cx)(e:Option Expr)(t:TO):Prop :=
 ∀(pins:List (Addr×Obj)) (s:Shared) (σ:St) (H:Hp) (Q:Option Int->Hp->Prop),Inv X pins σ H s->t σ H Q ->
  wpAny (model X.prog X.w) X.A (evalPart e X.env) (fun u s'=>∃o H',Inv X pins σ H' s'/\IsPart u o/\Q o H') X.xe s
def zlc:TO:=fun _ H Q=>Q none H
def zqZ(t:TE):TO:=fun σ H Q=>t σ H fun x H1=>∃i,x= .int i/\Q (some i) H1
section
variable{X:Cx}{e:Expr}{te:TE}{lo hi:Option Expr}{tl th:TO}{pos p2:Pos}
theorem ztL:PO X none zlc:=by
 intro pins s σ H Q I h;rw[evalPart_none];exact wpAny_pure ⟨none,H,I, .none,h⟩
theorem ztA(h:PE X e te):PO X (some e) (zqZ te):=by
 intro pins s σ H Q I hw;rw[evalPart_some];refine thn (h pins s σ H _ I hw) fun u s1 ⟨x,H1,I1,r1,q1⟩=>?_
 obtain⟨i,rfl,q⟩:=q1;obtain⟨t,rfl⟩:=r1;exact⟨some i,H1,I1, .int i t,q⟩
def SlR(X:Cx)(r:V->Option Int->Option Int->Hp->VK->Prop):Prop :=
 ∀(pins:List (Addr×Obj)) (s:Shared) (σ:St) (H:Hp) (x:V) (v vl vu:Value) (lo hi:Option Int) (sl:Addr) (Q:VK),Inv X pins σ H s->RelV x v->s.heap.IsSliceOf sl vl vu .none->IsPart vl lo->IsPart vu hi->r x lo hi H Q ->
  ∃T id,typeLookup (.type T) "__getitem__"=pure (some (.builtin id))/\s.TypeIs v T/\wpAny (model X.prog X.w) X.A (getItem v (.ref sl)) (EP X pins σ Q) X.xe s
theorem SlR.or{r r':V->Option Int->Option Int->Hp->VK->Prop}(h:SlR X r)(h':SlR X r'):SlR X (fun x lo hi H Q=>r x lo hi H Q\/r' x lo hi H Q):=by
 intro pins s σ H x v vl vu lo hi sl Q I rx hs pl pu q;rcases q with q | q
 .exact h pins s σ H x v vl vu lo hi sl Q I rx hs pl pu q
 .exact h' pins s σ H x v vl vu lo hi sl Q I rx hs pl pu q
def tSl(r:V->Option Int->Option Int->Hp->VK->Prop)(te:TE)(tl th:TO):TE:=fun σ H Q=>te σ H fun x H1=>tl σ H1 fun l H2=>th σ H2 fun u H3=>r x l u H3 Q
theorem ztd{r:V->Option Int->Option Int->Hp->VK->Prop}(hr:SlR X r)(he:PE X e te)(hl:PO X lo tl)(hu:PO X hi th):PE X (.Subscript e (.Slice lo hi none p2) pos) (tSl r te tl th):=by
 intro pins s σ H Q I h;refine Subscript_ (thn (he pins s σ H _ I h) fun v s1 ⟨x,H1,I1,r1,q1⟩=>?_);refine wpAny_Slice (thn (hl pins s1 σ H1 _ I1 q1) fun vl s2 ⟨l,H2,I2,pl,q2⟩=>thn (hu pins s2 σ H2 _ I2 q2) fun vu s3 ⟨u,H3,I3,pu,q3⟩=>?_);rw[evalPart_none];refine wpAny_pure ?_;have I4:Inv X pins σ H3 { s3 with heap:=s3.heap.push { cls:= .type "slice",data:= .fields #[vl,vu, .none] } }:=I3.kept (t':=s3.toks) fun b ob q=>Heap.get?_push_of_some _ q
 obtain⟨T,id,hT,ht,hg⟩:=hr pins { s3 with heap:=s3.heap.push { cls:= .type "slice",data:= .fields #[vl,vu, .none] } } σ H3 x v vl vu l u s3.heap.objs.size Q I4 r1 (Heap.IsSliceOf.new ..) pl pu q3;show wpAny (model X.prog X.w) X.A (subscriptTail e (.Slice lo hi none p2) v (.ref s3.heap.objs.size)) (EP X pins σ Q) X.xe { s3 with heap:=s3.heap.push { cls:= .type "slice",data:= .fields #[vl,vu, .none] } };exact tail_any (ops:=[.ref s3.heap.objs.size,v]) ht hT hg (by with_unfolding_all rfl)
def zir(xs:List V)(lo hi:Option Int):List V:=(xs.drop (HT.sIx xs.length 0 lo)).take (HT.sIx xs.length xs.length hi - HT.sIx xs.length 0 lo)
theorem zh5(xs:List V)(lo hi:Option Int):(zir xs lo hi).length<=xs.length:=by
 unfold zir;rw[List.length_take,List.length_drop];omega
def zyx(K:Frag):V->Option Int->Option Int->Hp->VK->Prop:=fun x lo hi H Q=>∃a xs,x= .ref a/\SqT K H a xs /\
 ¬ (HT.sIx xs.length 0 lo=0/\HT.sIx xs.length xs.length hi=xs.length)/\∀p,H p=none->Q (.ref p) (upd H p (.tup (zir xs lo hi)))
theorem zw8:SlR X (zyx X.K):=by
 intro pins s σ H x v vl vu lo hi sl Q I rx hs pl pu h;obtain⟨a,xs,rfl,hx,hw,q⟩:=h;cases rx;obtain⟨its,r,ht,hz⟩:=I.tuple hx;have hlen:its.toArray.size=xs.length:=by rw[List.size_toArray];exact r.length.symm
 refine⟨"tuple",_,PyProof.Rows.slot_tuple_getitem.lookup,ht.typeIs,?_⟩;refine HT.zhf ht hs pl pu (by rw[hlen];exact hw) ?_ (by rw[hlen];exact hz);rw[hlen];refine⟨.ref s.heap.objs.size,_,I.laid (t':=s.toks) (o:= .tup (zir xs lo hi)) (fun b ob q=>Heap.get?_push_of_some _ q) (Nat.le_refl _) ?_,rfl,q _ (I.hok.fresh (Nat.le_refl _))⟩;exact⟨Nat.le_trans (zh5 xs lo hi) hz,_,(r.drop (HT.sIx xs.length 0 lo)).take (HT.sIx xs.length xs.length hi - HT.sIx xs.length 0 lo),IsTup.new _ _⟩
def zvR(K:Frag):R2:=fun x y H Q=>∃a b xs ys,x= .ref a/\y= .ref b/\SqT K H a xs/\SqT K H b ys/\xs≠[]/\xs.length+ys.length<=sizeLine /\
 (ys=[]->Q (.ref a) H)/\(ys≠[]->∀p,H p=none->Q (.ref p) (upd H p (.tup (xs++ys))))
theorem Vals.nil_iff{xs:List V}{us:List Value}(r:Vals xs us):us=[]↔xs=[]:=by
 cases r with
 | nil=>simp
 | cons _ _=>simp
theorem zvk:OpR X (binaryOp .Add) (zvR X.K):=by
 intro pins s σ H x y v u Q I rx ry h;obtain⟨a,b,xs,ys,rfl,rfl,ha,hb,hx,hz,q1,q2⟩:=h;cases rx;cases ry;obtain⟨its,r1,p1,_⟩:=I.tuple ha;obtain⟨its2,r2,p2,_⟩:=I.tuple hb;refine HT.zuL p1 p2 (fun z=>hx (r1.nil_iff.mp z)) (fun z=>⟨.ref a,H,I,rfl,q1 (r2.nil_iff.mp z)⟩) (fun z=>?_) (by rw[<- r1.length,<- r2.length];exact hz);refine⟨.ref s.heap.objs.size,_,I.laid (t':=s.toks) (o:= .tup (xs++ys)) (fun b ob q=>Heap.get?_push_of_some _ q) (Nat.le_refl _) ?_,rfl,q2 (fun w=>z (r2.nil_iff.mpr w)) _ (I.hok.fresh (Nat.le_refl _))⟩;exact⟨by rw[List.length_append];exact hz,_,r1.append r2,IsTup.new _ _⟩
end
def ixN(n:Nat)(i:Int):Option Nat:=if 0<=i then(if i < n then some i.toNat else none) else if -(n:Int)<=i then some (i+n).toNat else none
def atI{α:Type}(xs:List α)(i:Int):Option α:=(ixN xs.length i).bind fun j=>xs[j]?
theorem zpl{n:Nat}{i:Int}{j:Nat}(h:ixN n i=some j):seqIndex? i n=some j/\j < n/\ -(n:Int)<=i/\i < n:=by
 unfold ixN at h;by_cases h0:0<=i
 .rw[if_pos h0] at h;by_cases h1:i < n
  .rw[if_pos h1] at h;have e:i.toNat=j:=Option.some.inj h;exact⟨by rw[seqIndex_of h0 h1,e],by omega,by omega,h1⟩
  .rw[if_neg h1] at h;cases h
 .rw[if_neg h0] at h;by_cases h1: -(n:Int)<=i
  .rw[if_pos h1] at h;have e:(i+n).toNat=j:=Option.some.inj h;exact⟨by rw[seqIndex_neg (by omega) h1,e],by omega,h1,by omega⟩
  .rw[if_neg h1] at h;cases h
theorem zlV{α:Type}{xs:List α}{i:Int}{v:α}(h:atI xs i=some v):∃j,seqIndex? i xs.length=some j/\xs[j]? = some v/\j < xs.length/\ -(xs.length:Int)<=i/\i < xs.length:=by
 unfold atI at h;cases e:ixN xs.length i with
 | none=>rw[e] at h;cases h
 | some j =>
  rw[e] at h;obtain⟨h1,h2,h3,h4⟩:=zpl e;exact⟨j,h1,h,h2,h3,h4⟩
theorem zc2{α:Type}{xs:List α}{j:Nat}{v:α}(h:xs[j]? = some v):atI xs (j:Int)=some v:=by
 have hj:j < xs.length:=(List.getElem?_eq_some_iff.mp h).1;have e:ixN xs.length (j:Int)=some j:=by
  unfold ixN;rw[if_pos (by omega),if_pos (by omega)];simp
 unfold atI;rw[e];exact h
theorem zm6{α:Type}(xs:List α)(v:α):atI (xs++[v]) (-1)=some v:=by
 have hl:(xs++[v]).length=xs.length+1:=by simp
 have e:ixN (xs++[v]).length (-1)=some xs.length:=by
  unfold ixN;rw[hl,if_neg (by decide),if_pos (by omega)];congr 1
  omega
 unfold atI;rw[e];show(xs++[v])[xs.length]? = some v;simp
def zlA(b:Expr):Prop:=∀o i,subscripted b false o i=operate [o,i] (getItem o i)
def IxR(X:Cx)(r:R2):Prop :=
 ∀(value slice:Expr) (pins:List (Addr×Obj)) (s:Shared) (σ:St) (H:Hp) (x y:V) (v u:Value) (Q:VK),Inv X pins σ H s->RelV x v->RelV y u->r x y H Q ->
  subscripted slice false v u=operate [v,u] (getItem v u)->wpAny (model X.prog X.w) X.A (subscriptTail value slice v u) (EP X pins σ Q) X.xe s
def MtR(X:Cx)(id:String)(r:V->List V->Hp->VK->Prop):Prop :=
 ∀(pins:List (Addr×Obj)) (s:Shared) (σ:St) (H:Hp) (x:V) (xs:List V) (v:Value) (us:List Value) (Q:VK),Inv X pins σ H s->RelV x v->Vals xs us->r x xs H Q ->
  wpAny (model X.prog X.w) X.A (call (.builtin id) (v::us)) (EP X pins σ Q) X.xe s
section
variable{X:Cx}{a b:Expr}{ta tb:TE}{pos:Pos}
theorem IxR.or{r r':R2}(h:IxR X r)(h':IxR X r'):IxR X (fun x y H Q=>r x y H Q\/r' x y H Q):=by
 intro value slice pins s σ H x y v u Q I rx ry q hs;rcases q with q | q
 .exact h value slice pins s σ H x y v u Q I rx ry q hs
 .exact h' value slice pins s σ H x y v u Q I rx ry q hs
theorem zzg{r:R2}(hr:IxR X r)(ha:PE X a ta)(hb:PE X b tb)(hs:zlA b):PE X (.Subscript a b pos) (tOp r ta tb):=by
 intro pins s σ H Q I h;exact Subscript_ (zxn ha hb I h fun v u s2 x y H2 I2 rx ry q=>hr a b pins s2 σ H2 x y v u Q I2 rx ry q (hs _ _))
def ziX(K:Frag):R2:=fun x y H Q=>∃p xs i v,x= .ref p/\y= .int i/\SqL K H p xs/\atI xs i=some v/\Q v H
def zyr(K:Frag):R2:=fun x y H Q=>∃p xs i v,x= .ref p/\y= .int i/\SqT K H p xs/\atI xs i=some v/\Q v H
def zy5:R2:=fun x y H Q=>∃z i c,x= .str z/\y= .int i/\z.length<=sizeLine/\atI z.cps.toList i=some c/\Q (.str ⟨#[c]⟩) H
theorem zpj:IxR X (ziX X.K):=by
 intro value slice pins s σ H x y v u Q I rx ry h hs;obtain⟨p,xs,i,z,rfl,rfl,hq,he,q⟩:=h;cases rx;obtain⟨t,rfl⟩:=ry;obtain⟨its,r,pl,hz⟩:=I.list hq;obtain⟨j,h1,h2,h3,h4,h5⟩:=zlV he;obtain⟨w,ew,rw'⟩:=r.get h2;have hl:=r.length;have hn:=zhp;have fin:EP X pins σ Q w s:=⟨z,H,I,rw',q⟩;by_cases h0:0<=i
 .have hj:i.toNat=j:=by
   rw[seqIndex_of h0 h5] at h1;exact Option.some.inj h1
  exact item_listR pl.isList h0 (by omega) (by rw[hj];simpa using ew) fin hs
 .have hj:(i+(its.toArray.size:Int)).toNat=j:=by
   rw[seqIndex_neg (by omega) h4] at h1;rw[List.size_toArray,<- hl];exact Option.some.inj h1
  exact subscriptTail_builtinR (x:=w) pl.isList.typeIs slot_list_getitem.lookup
   (wpAny_getItem_list_neg (Q:=fun r s'=>r=w/\EP X pins σ Q r s') pl.isList (by omega) (by rw[List.size_toArray]<;>omega) (by omega) (by rw[hj];simpa using ew) ⟨rfl,fin⟩) hs
theorem zxU:IxR X (zyr X.K):=by
 intro value slice pins s σ H x y v u Q I rx ry h hs;obtain⟨p,xs,i,z,rfl,rfl,hq,he,q⟩:=h;cases rx;obtain⟨t,rfl⟩:=ry;obtain⟨its,r,pl,hz⟩:=I.tuple hq;obtain⟨j,h1,h2,h3,h4,h5⟩:=zlV he;obtain⟨w,ew,rw'⟩:=r.get h2;have hl:=r.length;have hn:=zhp;have fin:EP X pins σ Q w s:=⟨z,H,I,rw',q⟩;exact subscriptTail_builtinR (x:=w) pl.typeIs slot_tuple_getitem.lookup
  (getItem_tuple (j:=j) (Q:=fun r s'=>r=w/\EP X pins σ Q r s') pl (by omega) (by omega) (by rw[List.size_toArray,<- hl];exact h1) (by simpa using ew) ⟨rfl,fin⟩) hs
theorem zwx:IxR X zy5:=by
 intro value slice pins s σ H x y v u Q I rx ry h hs;obtain⟨z,i,c,rfl,rfl,hz,he,q⟩:=h;obtain⟨t,rfl⟩:=rx;obtain⟨t',rfl⟩:=ry;obtain⟨j,h1,h2,h3,h4,h5⟩:=zlV he;have hl:z.cps.toList.length=z.length:=by simp[Str.length]
 rw[hl] at h1 h4 h5;have hn:=zhp;exact tail_any (typeIs_str s z t) slot_str_getitem.lookup (getItem_str (c:=c) (by
  have e1:decide (i < -(2^63:Int))=false:=decide_eq_false (by omega);have e2:decide (i ≥ 2^63)=false:=decide_eq_false (by omega);rw[e1,e2,Bool.or_false]) (by rw[h1];simpa using h2) ⟨.str ⟨#[c]⟩,H,I.tok _,⟨_,rfl⟩,q⟩) hs
def rIx(K:Frag):R2:=fun x y H Q=>ziX K x y H Q\/zyr K x y H Q\/zy5 x y H Q
theorem zwG:IxR X (rIx X.K):=zpj.or (zxU.or zwx)
theorem zok(its:List Value)(n j:Nat)(u:Value):Obj.mapSeq (·.setIfInBounds j u) { cls:= .type "list",data:= .seq its.toArray n }={ cls:= .type "list",data:= .seq (its.set j u).toArray n }:=by
 simp[Obj.mapSeq]
theorem Inv.lst{pins:List (Addr×Obj)}{σ:St}{H:Hp}{s:Shared}{p:Addr}{xs:List V}(I:Inv X pins σ H s)(h:H p=some (.lst xs)) :
  ∃(its:List Value) (n:Nat),Vals xs its/\s.heap.get? p=some { cls:= .type "list",data:= .seq its.toArray n }/\xs.length<=sizeLine:=by
 obtain⟨z,its,n,r,e⟩:=I.hok p _ h;exact⟨its,n,r,e,z⟩
theorem Inv.lstUpd{pins:List (Addr×Obj)}{σ:St}{H:Hp}{s:Shared}{p:Addr}{xs ys:List V}{its its':List Value}{n n':Nat}{f:Obj->Obj}(I:Inv X pins σ H s)(h:H p=some (.lst xs))
  (ho:s.heap.get? p=some { cls:= .type "list",data:= .seq its.toArray n })(hf:f { cls:= .type "list",data:= .seq its.toArray n }={ cls:= .type "list",data:= .seq its'.toArray n' })(r:Vals ys its')(hz:ys.length<=sizeLine)(t:Nat) :
  Inv X pins σ (upd H p (.lst ys)) { s with heap:=s.heap.update p f,toks:=t }:=by
 have e:(s.heap.update p f).get? p=some { cls:= .type "list",data:= .seq its'.toArray n' }:=by
  rw[Heap.get?_update_self f ho (by rw[hf]<;>rfl),hf]
 refine I.write (x:=p) (e:=p) (by rw[h];trivial) (.inl rfl) (fun b u hb q=>(Heap.get?_update_other _ _ (Ne.symm hb)).trans q) ⟨_,e⟩ ?_;exact⟨hz,its',n',r,e⟩
def zi6:V->V->V->Hp->(Hp->Prop)->Prop:=fun o i v H Q=>∃p xs k j,o= .ref p/\i= .int k/\H p=some (.lst xs)/\ixN xs.length k=some j/\Q (upd H p (.lst (xs.set j v)))
theorem set_list:zxA X zi6:=by
 intro pins s σ H o i v ov iv u Q I ro ri rv h;obtain⟨p,xs,k,j,rfl,rfl,hp,hj,q⟩:=h;cases ro;obtain⟨t,rfl⟩:=ri;obtain⟨its,n,r,ho,hz⟩:=I.lst hp;obtain⟨h1,h2,h3,h4⟩:=zpl hj;have hl:=r.length;have hn:=zhp;have I':Inv X pins σ (upd H p (.lst (xs.set j v))) { s with heap:=s.heap.update p (Obj.mapSeq (·.setIfInBounds j u)) } :=
  I.lstUpd hp ho (zok its n j u) (r.set rv j) (by rw[List.length_set];exact hz) s.toks
 by_cases h0:0<=k
 .have hk:k.toNat=j:=by
   rw[seqIndex_of h0 h4] at h1;exact Option.some.inj h1
  exact PySem.W.ki_setAt ho h0 (by omega) (by rw[List.size_toArray,<- hl];exact h4) (by rw[hk];exact⟨_,I',q⟩)
 .have hk:(k+(its.toArray.size:Int)).toNat=j:=by
   rw[seqIndex_neg (by omega) h3] at h1;rw[List.size_toArray,<- hl];exact Option.some.inj h1
  exact PySem.W.ki_setBack ho (by omega) (by rw[List.size_toArray,<- hl];exact h3) (by omega) (by rw[hk];exact⟨_,I',q⟩)
theorem zlC(lo hi:Option Int)(n:Nat):(sliceBounds lo hi none n).1=((HT.sIx n 0 lo:Nat):Int)/\(sliceBounds lo hi none n).2.1=((HT.sIx n n hi:Nat):Int)/\(sliceBounds lo hi none n).2.2=1:=by
 refine⟨?_,?_,rfl⟩
 .cases lo with
  | none=>simp[sliceBounds,HT.sIx]
  | some i =>
   simp only[sliceBounds,HT.sIx,Option.getD_none,show(1:Int) > 0 by decide,if_true];by_cases h:i < 0
   .simp only[h,if_true]<;>omega
   .simp only[h,if_false]<;>omega
 .cases hi with
  | none=>simp[sliceBounds,HT.sIx]
  | some i =>
   simp only[sliceBounds,HT.sIx,Option.getD_none,show(1:Int) > 0 by decide,if_true];by_cases h:i < 0
   .simp only[h,if_true]<;>omega
   .simp only[h,if_false]<;>omega
theorem zjW(its:List Value)(lo hi:Option Int):slicePick its.toArray lo hi none=((its.drop (HT.sIx its.length 0 lo)).take (HT.sIx its.length its.length hi - HT.sIx its.length 0 lo)).toArray:=by
 obtain⟨h1,h2,h3⟩:=zlC lo hi its.toArray.size;unfold slicePick;rw[h1,h2,h3];simp only[sliceRange_one,pick_run,List.size_toArray]<;>rfl
def zwS(K:Frag):V->Option Int->Option Int->Hp->VK->Prop:=fun x lo hi H Q=>∃a xs,x= .ref a/\SqL K H a xs/\∀p,H p=none->Q (.ref p) (upd H p (.lst (zir xs lo hi)))
theorem zpf:SlR X (zwS X.K):=by
 intro pins s σ H x v vl vu lo hi sl Q I rx hs pl pu h;obtain⟨a,xs,rfl,hx,q⟩:=h;cases rx;obtain⟨its,r,ht,hz⟩:=I.list hx;have hlen:=r.length;refine⟨"list",_,slot_list_getitem.lookup,ht.isList.typeIs,?_⟩;refine wpAny_getItem_list_slice ht.isList hs pl pu .none (by simp) ?_ (by rw[List.size_toArray]<;>omega);rw[zjW,<- hlen];refine⟨.ref s.heap.objs.size,_,I.laid (t':=s.toks) (o:= .lst (zir xs lo hi)) (fun b ob q=>Heap.get?_push_of_some _ q) (Nat.le_refl _) ?_,rfl,q _ (I.hok.fresh (Nat.le_refl _))⟩;exact⟨Nat.le_trans (zh5 xs lo hi) hz,_,0,(r.drop (HT.sIx xs.length 0 lo)).take (HT.sIx xs.length xs.length hi - HT.sIx xs.length 0 lo),Heap.get?_push_size _ rfl⟩
def zfK:V->Bool
 | .non=>true
 | .bl _=>true
 | .int _=>true
 | .str _=>true
 | _=>false
def eqV:V->V->Bool
 | .non, .non=>true
 | .bl a, .bl b=>a==b
 | .bl a, .int b=>(if a then 1 else 0)==b
 | .int a, .bl b=>a==(if b then 1 else 0)
 | .int a, .int b=>a==b
 | .str a, .str b=>a==b
 | _,_=>false
theorem zwF{A:Around}{s:Shared}{y x:V}{u v:Value}(ry:RelV y u)(rx:RelV x v)(fy:zfK y=true)(fx:zfK x=true):SeqAt.EqAt A s u v (eqV y x):=by
 cases y with
 | non =>
  cases ry;cases x with
  | non=>cases rx;exact SeqAt.EqAt.same _
  | bl b=>cases rx;exact SeqAt.EqAt.none_bool b
  | int b=>obtain⟨t,rfl⟩:=rx;exact SeqAt.EqAt.none_int b t
  | str b=>obtain⟨t,rfl⟩:=rx;exact SeqAt.EqAt.none_str b t
  | _=>exact absurd (show false=true from fx) Bool.false_ne_true
 | bl a =>
  cases ry;cases x with
  | non=>cases rx;exact SeqAt.EqAt.bool_none a
  | bl b=>cases rx;exact SeqAt.EqAt.bool_bool a b
  | int b=>obtain⟨t,rfl⟩:=rx;exact SeqAt.EqAt.bool_int a b t
  | str b=>obtain⟨t,rfl⟩:=rx;exact SeqAt.EqAt.bool_str a b t
  | _=>exact absurd (show false=true from fx) Bool.false_ne_true
 | int a =>
  obtain⟨t',rfl⟩:=ry;cases x with
  | non=>cases rx;exact SeqAt.EqAt.int_none a t'
  | bl b=>cases rx;exact SeqAt.EqAt.int_bool a t' b
  | int b=>obtain⟨t,rfl⟩:=rx;exact SeqAt.EqAt.int_int a t' b t
  | str b=>obtain⟨t,rfl⟩:=rx;exact SeqAt.EqAt.int_str a t' b t
  | _=>exact absurd (show false=true from fx) Bool.false_ne_true
 | str a =>
  obtain⟨t',rfl⟩:=ry;cases x with
  | non=>cases rx;exact SeqAt.EqAt.str_none a t'
  | bl b=>cases rx;exact SeqAt.EqAt.str_bool a t' b
  | int b=>obtain⟨t,rfl⟩:=rx;exact SeqAt.EqAt.str_int a t' b t
  | str b=>obtain⟨t,rfl⟩:=rx;exact SeqAt.EqAt.str_str a t' b t
  | _=>exact absurd (show false=true from fx) Bool.false_ne_true
 | _=>exact absurd (show false=true from fy) Bool.false_ne_true
def eqU(x:V)(u:Value):Bool:=match u with
 | .none=>eqV .non x
 | .bool b=>eqV (.bl b) x
 | .int i _=>eqV (.int i) x
 | .str z _=>eqV (.str z) x
 | _=>false
theorem zs0{x y:V}{u:Value}(r:RelV y u)(f:zfK y=true):eqU x u=eqV y x:=by
 cases y with
 | non=>cases r;rfl
 | bl b=>cases r;rfl
 | int i=>obtain⟨t,rfl⟩:=r;rfl
 | str z=>obtain⟨t,rfl⟩:=r;rfl
 | _=>exact absurd (show false=true from f) Bool.false_ne_true
theorem zgy{x:V}:∀{xs:List V} {us:List Value},Vals xs us->xs.all zfK=true->us.any (eqU x)=xs.any fun y=>eqV y x
 | _,_, .nil,_=>rfl
 | y::xs,u::us, .cons r t,f=>by
  rw[List.all_cons,Bool.and_eq_true] at f;rw[List.any_cons,List.any_cons,zs0 r f.1,zgy t f.2]
theorem ze2{A:Around}{s:Shared}{x:V}{v:Value}(rx:RelV x v)(fx:zfK x=true):∀{xs:List V} {us:List Value},Vals xs us->xs.all zfK=true->∀u∈us,SeqAt.EqAt A s u v (eqU x u)
 | _,_, .nil,_=>fun u hu=>by cases hu
 | y::xs,u::us, .cons r t,f=>fun u' hu=>by
  rw[List.all_cons,Bool.and_eq_true] at f;rcases List.mem_cons.mp hu with rfl | hu
  .rw[zs0 r f.1];exact zwF r rx f.1 fx
  .exact ze2 rx fx t f.2 u' hu
def inV(x:V)(xs:List V):Bool:=xs.any fun y=>eqV y x
def rIn(K:Frag)(neg:Bool):R2:=fun x y H Q=>∃p xs,y= .ref p/\(SqL K H p xs\/SqT K H p xs)/\zfK x=true/\xs.all zfK=true/\Q (.bl (if neg then !inV x xs else inV x xs)) H
theorem zqv:OpR X (compareOp .In) (rIn X.K false):=by
 intro pins s σ H x y v u Q I rx ry h;obtain⟨p,xs,rfl,hq,fx,fs,q⟩:=h;cases ry;rcases hq with hq | hq
 .obtain⟨its,r,pl,hz⟩:=I.list hq;refine SeqAt.in_listAt (eqU x) pl.isList (fun w hw=>ze2 rx fx r fs w (by simpa using hw)) ⟨.bl _,H,I,rfl,?_⟩;rw[show its.toArray.any (eqU x)=its.any (eqU x) by simp,zgy r fs];exact q
 .obtain⟨its,r,pl,hz⟩:=I.tuple hq;refine SeqAt.in_tupleAt (eqU x) pl (fun w hw=>ze2 rx fx r fs w (by simpa using hw)) ⟨.bl _,H,I,rfl,?_⟩;rw[show its.toArray.any (eqU x)=its.any (eqU x) by simp,zgy r fs];exact q
theorem zlQ:OpR X (compareOp .NotIn) (rIn X.K true):=by
 intro pins s σ H x y v u Q I rx ry h;obtain⟨p,xs,rfl,hq,fx,fs,q⟩:=h;cases ry;rcases hq with hq | hq
 .obtain⟨its,r,pl,hz⟩:=I.list hq;refine SeqAt.notIn_listAt (eqU x) pl.isList (fun w hw=>ze2 rx fx r fs w (by simpa using hw)) ⟨.bl _,H,I,rfl,?_⟩;rw[show its.toArray.any (eqU x)=its.any (eqU x) by simp,zgy r fs];exact q
 .obtain⟨its,r,pl,hz⟩:=I.tuple hq;refine SeqAt.notIn_tupleAt (eqU x) pl (fun w hw=>ze2 rx fx r fs w (by simpa using hw)) ⟨.bl _,H,I,rfl,?_⟩;rw[show its.toArray.any (eqU x)=its.any (eqU x) by simp,zgy r fs];exact q
theorem zhg:zaf X (.builtin "len") (fun xs H Q=>∃p ys,xs=[.ref p]/\(SqL X.K H p ys\/SqT X.K H p ys)/\Q (.int ys.length) H):=by
 intro pins s σ H xs us Q I r h;obtain⟨p,ys,rfl,hq,q⟩:=h;obtain⟨u,rfl,rx⟩:=vals1 r;cases rx;have hn:=zhp;rcases hq with hq | hq
 .obtain⟨its,r',pl,hz⟩:=I.list hq;have hlen:=r'.length;exact Calls.call_len_list pl.isList (by simp only[List.size_toArray]<;>omega) ⟨.int ys.length,H,I.tok _,⟨s.toks+1,by rw[List.size_toArray,hlen]⟩,q⟩
 .obtain⟨its,r',pl,hz⟩:=I.tuple hq;have hlen:=r'.length;exact len_tuple pl (by simp only[List.size_toArray]<;>omega) ⟨.int ys.length,H,I.tok _,⟨s.toks+1,by rw[List.size_toArray,hlen]⟩,q⟩
theorem zlZ:zaf X (.builtin "len") (fun xs H Q=>∃z,xs=[.str z]/\z.length<=sizeLine/\Q (.int z.length) H):=by
 intro pins s σ H xs us Q I r h;obtain⟨z,rfl,hz,q⟩:=h;obtain⟨u,rfl,t,rfl⟩:=vals1 r;have hn:=zhp;exact len_str (by omega) ⟨.int z.length,H,I.tok _,⟨_,rfl⟩,q⟩
theorem zaf.or{f:Value}{r r':List V->Hp->VK->Prop}(h:zaf X f r)(h':zaf X f r'):zaf X f (fun xs H Q=>r xs H Q\/r' xs H Q):=by
 intro pins s σ H xs us Q I rs q;rcases q with q | q
 .exact h pins s σ H xs us Q I rs q
 .exact h' pins s σ H xs us Q I rs q
theorem zlm:zaf X (.type "list") (fun xs H Q=>∃p ys,xs=[.ref p]/\(SqL X.K H p ys\/SqT X.K H p ys)/\∀l,H l=none->Q (.ref l) (upd H l (.lst ys))):=by
 intro pins s σ H xs us Q I r h;obtain⟨p,ys,rfl,hq,q⟩:=h;obtain⟨u,rfl,rx⟩:=vals1 r;cases rx;have fin:∀(its:List Value),Vals ys its->ys.length<=sizeLine->∀(h':Heap) (c':Nat),(∀b o',s.heap.get? b=some o'->h'.get? b=some o') ->
   h'.get? s.heap.objs.size=some { cls:= .type "list",dict:=none,data:= .seq its.toArray c',slots:= #[] }->EP X pins σ Q (.ref s.heap.objs.size) { s with heap:=h' }:=fun its r' hz h' c' kp e =>
  ⟨.ref s.heap.objs.size,_,I.laid (t':=s.toks) kp (Nat.le_refl _) (show zaF X.prog X.w _ h' _ (.lst ys) from ⟨hz,its,c',r',e⟩),rfl,q _ (I.hok.fresh (Nat.le_refl _))⟩
 rcases hq with hq | hq
 .obtain⟨its,r',pl,hz⟩:=I.list hq;have hlen:=r'.length;obtain⟨o,ho,hc,n,hd⟩:=pl.isList;exact call_list_seq p (.inl rfl) ho hc hd (fun h' c' kp e=>fin its r' hz h' c' kp e) (by simp only[List.size_toArray]<;>omega)
 .obtain⟨its,r',pl,hz⟩:=I.tuple hq;have hlen:=r'.length;obtain⟨o,ho,hc,n,hd⟩:=pl;exact call_list_seq p (.inr rfl) ho hc hd (fun h' c' kp e=>fin its r' hz h' c' kp e) (by simp only[List.size_toArray]<;>omega)
theorem zj5:zaf X (.type "tuple") (fun xs H Q=>∃p ys,xs=[.ref p]/\((SqL X.K H p ys/\∀l,H l=none->Q (.ref l) (upd H l (.tup ys)))\/(SqT X.K H p ys/\Q (.ref p) H))):=by
 intro pins s σ H xs us Q I r h;obtain⟨p,ys,rfl,h⟩:=h;obtain⟨u,rfl,rx⟩:=vals1 r;cases rx;rcases h with⟨hq,q⟩ | ⟨hq,q⟩
 .obtain⟨its,r',pl,hz⟩:=I.list hq;have hlen:=r'.length;refine call_tuple_list pl.isList (fun h' kp=>?_) (by simp only[List.size_toArray]<;>omega);have I1:Inv X pins σ H { s with heap:=h' }:=I.kept (t':=s.toks) kp;have I2:Inv X pins σ (upd H h'.objs.size (.tup ys)) { s with heap:=h'.push { cls:= .type "tuple",data:= .seq its.toArray } } :=
   I1.laid (t':=s.toks) (fun b o e=>Heap.get?_push_of_some _ e) (Nat.le_refl _) (show zaF X.prog X.w _ _ _ (.tup ys) from ⟨hz,its,r',IsTup.new _ _⟩)
  exact⟨.ref h'.objs.size,_,I2,rfl,q _ (I1.hok.fresh (Nat.le_refl _))⟩
 .obtain⟨its,r',pl,hz⟩:=I.tuple hq;exact call_tuple_same pl ⟨.ref p,H,I,rfl,q⟩
def tyV(K:Frag)(T:String)(x:V)(H:Hp):Prop:=match x with
 | .str _=>T="str"
 | .int _=>T="int"
 | .ref p=>(T="list"/\∃xs,SqL K H p xs)\/(T="tuple"/\∃o,K.lookup p=some o/\o.cls= .type "tuple"/\o.dict=none) \/
   (T="dict"/\((∃kvs,H p=some (.dK kvs))\/∃kvs,H p=some (.dT kvs)))\/(T="set"/\∃S n,H p=some (.set S n))
 | _=>False
theorem zwU{pins:List (Addr×Obj)}{σ:St}{H:Hp}{s:Shared}{T:String}{x:V}{v:Value}(I:Inv X pins σ H s)(r:RelV x v)(ty:tyV X.K T x H) :
  s.TypeIs v T/\∀a,v= .ref a->∃ob,s.heap.get? a=some ob/\ob.dict=none:=by
 cases x with
 | str z =>
  obtain⟨t,rfl⟩:=r;cases (show T="str" from ty);exact⟨typeIs_str s z t,fun _ e=>nomatch e⟩
 | int i =>
  obtain⟨t,rfl⟩:=r;cases (show T="int" from ty);exact⟨typeIs_int s i t,fun _ e=>nomatch e⟩
 | ref p =>
  cases r;rcases ty with⟨rfl,xs,hq⟩ | ⟨rfl,o,hk,hc,hd⟩ | ⟨rfl,hk⟩ | ⟨rfl,S,n,hk⟩
  .obtain⟨its,_,pl,_⟩:=I.list hq;refine⟨pl.isList.typeIs,fun a e=>?_⟩;cases e;obtain⟨o,n,e,c,hd,_⟩:=pl;exact⟨o,e,hd⟩
  .refine⟨⟨o,I.kIn p o hk,hc⟩,fun a e=>?_⟩;cases e;exact⟨o,I.kIn _ o hk,hd⟩
  .have z:∃o,s.heap.get? p=some o/\o.ExactDict:=by
    rcases hk with⟨kvs,hk⟩ | ⟨kvs,hk⟩
    .obtain⟨_,_,_,_,o,_,_,e,ex,_⟩:=I.hok p _ hk;exact⟨o,e,ex⟩
    .obtain⟨_,_,_,_,o,_,_,e,ex,_⟩:=I.hok p _ hk;exact⟨o,e,ex⟩
   obtain⟨o,e,ex⟩:=z;refine⟨⟨o,e,ex.1⟩,fun a e2=>?_⟩;cases e2;exact⟨o,e,ex.2.1⟩
  .obtain⟨o,_,_,_,e,ex,_⟩:=I.hok p _ hk;refine⟨⟨o,e,ex.1⟩,fun a e2=>?_⟩;cases e2;exact⟨o,e,ex.2.1⟩
 | _=>exact False.elim ty
def tBM(K:Frag)(T:String)(r:V->List V->Hp->VK->Prop)(to:TE)(t:TA):TE:=fun σ H Q=>to σ H fun x H1=>tyV K T x H1/\t σ H1 fun xs H2=>r x xs H2 Q
variable{o e:Expr}{es:List Expr}{to:TE}{t:TA}{name:Str}{apos cpos:Pos}{T id:String}{r:V->List V->Hp->VK->Prop}
theorem zyj(pa:PlainAttrs T)(slot:Slot T name id)(hty:typeOf (.builtin id)=pure (.type "method_descriptor"))(hm:MtR X id r)(ho:PE X o to)(ha:PA X (e::es) t)
  (hbase:attributeBase o name X.env (eval o X.env)=eval o X.env:=by rfl)
  (hfew:((backTo cpos (starEach (e::es) X.env)).all (fun x=> !x.1)&&(backToKw cpos (keywordEach [] X.env)).all (fun x=>x.1.isSome)
   && decide ((e::es).length+([]:List Keyword).length+(if ([]:List Keyword).isEmpty then 0 else 1) < 30))=true:=by rfl)
  (hline:(apos.endLine==cpos.line)=true:=by rfl) (hs:starEach (e::es) X.env=(false,eval e X.env)::starEach es X.env:=by rfl) (hplain:(backTo cpos (starEach es X.env)).any (·.1)=false:=by rfl) :
  PE X (.Call (.Attribute o name apos) (e::es) [] cpos) (tBM X.K T r to t):=by
 intro pins s σ H Q I h;refine wpAny_Call_method_late hbase hfew hline rfl (thn (ho pins s σ H _ I h) fun v s1 ⟨x,H1,I1,r1,ty,q1⟩=>?_);obtain⟨h1,h2⟩:=zwU I1 r1 ty;refine⟨T,id,pa,slot,hty,h1,h2,?_⟩;have hA:=ha cpos pins s1 σ H1 _ I1 q1;rw[hs] at hA ⊢;refine Calls.callWith_builtin (by show(false||(backTo cpos (starEach es X.env)).any (·.1))=false;rw[hplain]<;>rfl) (Calls.evalArgs_plain ?_);exact thn hA fun us s2 ⟨vs,H2,I2,r2,q2⟩=>hm pins s2 σ H2 x vs v us Q I2 r1 r2 q2
end
def MtM(X:Cx)(id:String)(r:V->List V->Hp->VK->Prop):Prop :=
 ∀(pins:List (Addr×Obj)) (s:Shared) (σ:St) (H:Hp) (x:V) (xs:List V) (v:Value) (us:List Value) (Q:VK),Inv X pins σ H s->RelV x v->Vals xs us->r x xs H Q ->
  wpAny (model X.prog X.w) X.A (call (.builtin id) (v::us)) (EP X pins σ Q) X.xe s
theorem Vals.one:∀{x:V} {us:List Value},Vals [x] us->∃u,us=[u]/\RelV x u
 | _,_, .cons r .nil=>⟨_,rfl,r⟩
theorem Vals.rep{xs:List V}{us:List Value}(h:Vals xs us):∀k:Nat,Vals (List.replicate k xs).flatten (List.replicate k us).flatten
 | 0=> .nil
 | k+1=>by
  rw[List.replicate_succ,List.replicate_succ,List.flatten_cons,List.flatten_cons];exact Vals.append h (Vals.rep h k)
theorem foldl_rep(its:List Value):∀(k:Nat) (acc:List Value),
  List.foldl (fun x1 x2=>x1++x2) acc.toArray (List.replicate k its.toArray)=(acc++(List.replicate k its).flatten).toArray
 | 0,acc=>by simp
 | k+1,acc=>by
  have e:acc.toArray++its.toArray=(acc++its).toArray:=by simp
  have e2:(acc++its)++(List.replicate k its).flatten=acc++(List.replicate (k+1) its).flatten:=by
   rw[List.replicate_succ,List.flatten_cons,List.append_assoc]
  rw[<- e2,<- foldl_rep its k (acc++its),<- e,List.replicate_succ,List.foldl_cons]
section
variable{X:Cx}{pins:List (Addr×Obj)}{σ:St}{H:Hp}{s:Shared}{l b:Addr}{xs ys zs:List V}
theorem Inv.lset{its its':List Value}{n:Nat}{f:Array Value->Array Value}{t':Nat}(I:Inv X pins σ H s)(hH:H l=some (.lst xs))
  (e:s.heap.get? l=some { cls:= .type "list",data:= .seq its.toArray n })(hf:f its.toArray=its'.toArray)(hv:Vals ys its')(hz:ys.length<=sizeLine) :
  Inv X pins σ (upd H l (.lst ys)) { s with heap:=s.heap.update l (Obj.mapSeq f),toks:=t' }:=by
 have q:=PySem.IsL.update e f;rw[hf] at q;refine I.write (x:=l) (e:=l) (by rw[hH];exact trivial) (.inl rfl) (fun b' u hb hu=>(Heap.get?_update_other s.heap (Obj.mapSeq f) (Ne.symm hb)).trans hu) ⟨_,q⟩ ?_;exact⟨hz,its',_,hv,q⟩
theorem Inv.lnew{its:List Value}{t':Nat}(I:Inv X pins σ H s)(hv:Vals ys its)(hz:ys.length<=sizeLine) :
  Inv X pins σ (upd H s.heap.objs.size (.lst ys)) { s with heap:=s.heap.push { cls:= .type "list",data:= .seq its.toArray },toks:=t' } :=
 I.laid (fun _ _ q=>Heap.get?_push_of_some _ q) (Nat.le_refl _) ⟨hz,its,0,hv,Heap.get?_push_size _ rfl⟩
theorem Inv.fresh(I:Inv X pins σ H s):H s.heap.objs.size=none:=I.hok.fresh (Nat.le_refl _)
theorem Inv.lstM(I:Inv X pins σ H s)(hH:H l=some (.lst xs)):xs.length<=sizeLine/\∃(its:List Value) (n:Nat),Vals xs its/\xs.length=its.length/\s.heap.get? l=some { cls:= .type "list",data:= .seq its.toArray n }:=by
 obtain⟨z,its,n,r,e⟩:=I.hok l _ hH;exact⟨z,its,n,r,r.length,e⟩
theorem zsJ{n:Nat}(h:n<=sizeLine):Builtin.List.listTooLong n=false:=by
 unfold Builtin.List.listTooLong;exact decide_eq_false (by omega)
end
section
variable{X:Cx}
def zpa:V->List V->Hp->VK->Prop:=fun x vs H Q=>∃l xs y,x= .ref l/\vs=[y]/\H l=some (.lst xs)/\xs.length < sizeLine/\Q .non (upd H l (.lst (xs++[y])))
theorem zR:MtM X "list.append" zpa:=by
 intro pins s σ H x vs v us Q I rx rv h;obtain⟨l,xs,y,rfl,rfl,hH,hz,q⟩:=h;cases rx;obtain⟨u,rfl,ru⟩:=rv.one;obtain⟨z,its,n,r,hl,e⟩:=I.lstM hH;refine call_meets F.slot_list_append ⟨_,e,rfl⟩ F.entry_list_append (F.args_list_append_2 _ _) (PySem.list_append l its.toArray n u (by rw[List.size_toArray];omega)) ⟨e,?_⟩;refine⟨.non,_,I.lset (its':=its++[u]) hH e (by simp) (r.append (.cons ru .nil)) ?_,rfl,q⟩;rw[List.length_append,List.length_singleton];omega
def zzr:R2:=fun x y H Q=>∃l b xs zs,x= .ref l/\y= .ref b/\H l=some (.lst xs)/\H b=some (.lst zs)/\xs.length+zs.length<=sizeLine/\∀p,H p=none->Q (.ref p) (upd H p (.lst (xs++zs)))
theorem zw2:OpR X (binaryOp .Add) zzr:=by
 intro pins s σ H x y v u Q I rx ry h;obtain⟨l,b,xs,zs,rfl,rfl,hH,hB,hz,q⟩:=h;cases rx;cases ry;obtain⟨z,its,n,r,hl,e⟩:=I.lstM hH;obtain⟨z2,its2,n2,r2,hl2,e2⟩:=I.lstM hB;refine PySem.P.add_list e e2 ?_ (by rw[List.size_toArray,List.size_toArray];omega);have ea:its.toArray++its2.toArray=(its++its2).toArray:=by simp
 rw[ea];exact⟨.ref _,_,I.lnew (t':=s.toks) (r.append r2) (by rw[List.length_append];omega),rfl,q _ I.fresh⟩
def zyf:R2:=fun x y H Q=>∃l k xs,x= .ref l/\y= .int k/\H l=some (.lst xs)/\ -(2^63)<=k/\k < 2^63/\xs.length*k.toNat<=sizeLine /\
 ∀p,H p=none->Q (.ref p) (upd H p (.lst (List.replicate k.toNat xs).flatten))
theorem len_rep{α:Type}(xs:List α)(k:Nat):(List.replicate k xs).flatten.length=k*xs.length:=by
 induction k with
 | zero=>simp
 | succ k ih=>rw[List.replicate_succ,List.flatten_cons,List.length_append,ih,Nat.succ_mul,Nat.add_comm]
theorem zwL:OpR X (binaryOp .Mult) zyf:=by
 intro pins s σ H x y v u Q I rx ry h;obtain⟨l,k,xs,rfl,rfl,hH,h1,h2,hz,q⟩:=h;cases rx;obtain⟨t,rfl⟩:=ry;obtain⟨z,its,n,r,hl,e⟩:=I.lstM hH;have hlen:its.toArray.size*k.toNat<=sizeLine:=by rw[List.size_toArray,<- hl];exact hz
 have hcap:¬ its.toArray.size*k.toNat > (2^63 - 1) / 8:=by
  have:(sizeLine:Nat)<=(2^63 - 1) / 8:=by decide
  omega
 have hfit:¬ (!Builtin.List.listFitsIndex k)=true:=by
  rw[fitsIndex_both h1 h2];exact Bool.false_ne_true
 have hlong:¬ Builtin.List.listTooLong (its.toArray.size*k.toNat)=true:=by
  rw[zsJ hlen];exact Bool.false_ne_true
 have hnew:List.foldl (fun x1 x2=>x1++x2) #[] (List.replicate (if its.toArray.isEmpty=true then 0 else k.toNat) its.toArray)=(List.replicate k.toNat its).flatten.toArray:=by
  have f0:∀m:Nat,List.foldl (fun x1 x2=>x1++x2) #[] (List.replicate m its.toArray)=(List.replicate m its).flatten.toArray:=fun m=>by
   have:=foldl_rep its m [];rw[List.nil_append] at this;exact this
  rw[f0];cases its with
  | nil=>simp
  | cons a r'=>rw[if_neg (by simp)]
 refine wpAny_binaryOp_repeat_ref (T:="list") (U:="int") (by decide) ⟨_,e,rfl⟩ (fun s'=>typeIs_int s' k t) noFill_list_mul F.fills_int_mul F.slot_int_rmul repeat_list F.slot_int_index.lookup
  (call_meets F.slot_int_rmul (typeIs_int s k t) F.entry_int_rmul (F.args_int_rmul_2 _ _) (int___rmul___int_list k t l its.toArray n)
   ⟨e,rfl,⟨_,e,rfl⟩,call_meets F.slot_list_mul ⟨_,e,rfl⟩ F.entry_list_mul (F.args_list_mul_2 _ _) (AutoListH.list___mul___list_int_3 l its.toArray n k t hfit hcap hlong) ⟨e,?_⟩⟩)
 rw[hnew];exact⟨.ref _,_,I.lnew (t':=s.toks) (r.rep k.toNat) (by rw[len_rep,Nat.mul_comm];exact hz),rfl,q _ I.fresh⟩
end
section
variable{prog:Program}{w:World}{A:Around}{E:Value->Shared->Prop}{s:Shared}
end
section
variable{X:Cx}
end
section
variable{κ:Type}[DecidableEq κ]
def zfp(kvs:List (κ×V))(k:κ):Option V:=(kvs.find? fun kv=>decide (kv.1=k)).map (·.2)
def putK(kvs:List (κ×V))(k:κ)(v:V):List (κ×V) :=
 if (kvs.any fun kv=>decide (kv.1=k))=true then kvs.map (fun kv=>if kv.1=k then(kv.1,v) else kv) else kvs++[(k,v)]
theorem zg0{p:κ×V}{r:List (κ×V)}{k:κ}(e:p.1=k):zfp (p::r) k=some p.2:=by simp[zfp,List.find?_cons,e]
theorem zgR{p:κ×V}{r:List (κ×V)}{k:κ}(e:¬ p.1=k):zfp (p::r) k=zfp r k:=by simp[zfp,List.find?_cons,e]
theorem zmI(k:κ):∀kvs:List (κ×V),(kvs.any fun kv=>decide (kv.1=k))=(zfp kvs k).isSome
 | []=>rfl
 | p::r=>by
  rw[List.any_cons];by_cases e:p.1=k
  .simp only[zg0 e,decide_eq_true e,Bool.true_or,Option.isSome_some]
  .rw[zgR e,decide_eq_false e,Bool.false_or];exact zmI k r
theorem ze3(kvs:List (κ×V))(k:κ)(v:V):(putK kvs k v).length<=kvs.length+1:=by
 unfold putK;split
 .rw[List.length_map];omega
 .rw[List.length_append,List.length_cons,List.length_nil];omega
theorem zes.isSome_eq{o:Option V}{u:Option Value}(r:zes o u):o.isSome=u.isSome:=by
 cases o with
 | none=>cases u with
  | none=>rfl
  | some _=>exact(show False from r).elim
 | some _=>cases u with
  | none=>exact(show False from r).elim
  | some _=>rfl
theorem zes.getD{o:Option V}{u:Option Value}{d:V}{d':Value}(r:zes o u)(rd:RelV d d'):RelV (o.getD d) (u.getD d'):=by
 cases o with
 | none=>cases u with
  | none=>exact rd
  | some _=>exact(show False from r).elim
 | some _=>cases u with
  | none=>exact(show False from r).elim
  | some _=>exact r
theorem KV.val{kvs:List (κ×V)}{vs:List (κ×Value)}(r:KV kvs vs)(k:κ):zes (zfp kvs k) (valueAt vs k):=by
 unfold KV at r;induction r with
 | nil=>exact True.intro
 | @cons p q ps qs h t ih =>
  obtain⟨h1,h2⟩:=h;by_cases e:p.1=k
  .have e':q.1=k:=h1.symm.trans e;have b:valueAt (q::qs) k=some q.2:=by simp[valueAt,List.find?_cons,e']
   rw[zg0 e,b];exact h2
  .have e':¬ q.1=k:=fun z=>e (h1.trans z)
   have b:valueAt (q::qs) k=valueAt qs k:=by simp[valueAt,List.find?_cons,e']
   rw[zgR e,b];exact ih
theorem KV.any{kvs:List (κ×V)}{vs:List (κ×Value)}(r:KV kvs vs)(k:κ):(kvs.any fun kv=>decide (kv.1=k))=vs.any fun kv=>decide (kv.1=k):=by
 unfold KV at r;induction r with
 | nil=>rfl
 | cons h t ih=>rw[List.any_cons,List.any_cons,ih,h.1]
theorem KV.repl{kvs:List (κ×V)}{vs:List (κ×Value)}(r:KV kvs vs)(k:κ){y:V}{u:Value}(ry:RelV y u) :
  KV (kvs.map fun kv=>if kv.1=k then(kv.1,y) else kv) (vs.map fun kv=>if kv.1=k then(kv.1,u) else kv):=by
 unfold KV at r ⊢;induction r with
 | nil=>exact .nil
 | @cons p q ps qs h t ih =>
  rw[List.map_cons,List.map_cons];refine .cons ?_ ih;obtain⟨h1,h2⟩:=h;by_cases e:p.1=k
  .rw[if_pos e,if_pos (h1.symm.trans e)];exact⟨h1,ry⟩
  .rw[if_neg e,if_neg (fun z=>e (h1.trans z))];exact⟨h1,h2⟩
theorem KV.put{kvs:List (κ×V)}{vs:List (κ×Value)}(r:KV kvs vs)(k:κ){y:V}{u:Value}(ry:RelV y u):KV (putK kvs k y) (stored vs k u):=by
 unfold putK stored;rw[r.any k];by_cases e:(vs.any fun kv=>decide (kv.1=k))=true
 .rw[if_pos e,if_pos e];exact r.repl k ry
 .rw[if_neg e,if_neg e];exact Paired.snoc r ⟨rfl,ry⟩
theorem KV.length{kvs:List (κ×V)}{vs:List (κ×Value)}(r:KV kvs vs):kvs.length=vs.length:=Paired.length r
end
theorem zje{P:Program}{w:World}{k:Key}{u:Value}(r:RelV (kV k) u):(zaQ P w).is k u=true:=by
 cases k with
 | inl i=>obtain⟨t,e⟩:=(show ∃t,u=Value.int i t from r);subst e;exact zng P w i t
 | inr x=>obtain⟨t,e⟩:=(show ∃t,u=Value.str x t from r);subst e;exact zmk P w x t
theorem zkJ{P:Program}{w:World}:∀{ks:List Key} {us:List Value},Vals (ks.map kV) us->ItemsAre (zaQ P w) ks us
 | [],_,r=>by rw[List.map_nil] at r;cases r;exact .nil
 | k::ks,_,r=>by
  rw[List.map_cons] at r;cases r with
  | cons h t=>exact .cons (zje h) (zkJ t)
abbrev KT(H:Hp):List (List Key×V)->List (List Key×Addr×Value)->Prop:=Paired fun p q=>p.1=q.1/\H q.2.1=some (.tup (p.1.map kV))/\RelV p.2 q.2.2
theorem KT.val{H:Hp}{kvs:List (List Key×V)}{xs:List (List Key×Addr×Value)}(r:KT H kvs xs)(k:List Key):zes (zfp kvs k) ((atKey xs k).map (·.2)):=by
 induction r with
 | nil=>exact True.intro
 | @cons p q ps qs h t ih =>
  obtain⟨h1,_,h2⟩:=h;by_cases e:p.1=k
  .have e':q.1=k:=h1.symm.trans e;have b:atKey (q::qs) k=some q.2:=by simp[atKey,List.find?_cons,e']
   rw[zg0 e,b];exact h2
  .have e':¬ q.1=k:=fun z=>e (h1.trans z)
   have b:atKey (q::qs) k=atKey qs k:=by simp[atKey,List.find?_cons,e']
   rw[zgR e,b];exact ih
theorem KT.repl{H:Hp}{kvs:List (List Key×V)}{xs:List (List Key×Addr×Value)}(r:KT H kvs xs)(k:List Key){y:V}{u:Value}(ry:RelV y u) :
  KT H (kvs.map fun kv=>if kv.1=k then(kv.1,y) else kv) (xs.map (putAt k u)):=by
 induction r with
 | nil=>exact .nil
 | @cons p q ps qs h t ih =>
  rw[List.map_cons,List.map_cons];refine .cons ?_ ih;obtain⟨h1,h2,h3⟩:=h;unfold putAt;by_cases e:p.1=k
  .rw[if_pos e,if_pos (h1.symm.trans e)];exact⟨h1,h2,ry⟩
  .rw[if_neg e,if_neg (fun z=>e (h1.trans z))];exact⟨h1,h2,h3⟩
theorem KT.put{H:Hp}{kvs:List (List Key×V)}{xs:List (List Key×Addr×Value)}(r:KT H kvs xs)(k:List Key){b:Addr}{y:V}{u:Value}(hb:H b=some (.tup (k.map kV)))(ry:RelV y u) :
  KT H (putK kvs k y) (storedH xs k b u):=by
 have e:(kvs.any fun kv=>decide (kv.1=k))=(atKey xs k).isSome:=by
  rw[zmI,(r.val k).isSome_eq,Option.isSome_map]
 unfold putK storedH;rw[e];by_cases q:(atKey xs k).isSome=true
 .rw[if_pos q,if_pos q];exact r.repl k ry
 .rw[if_neg q,if_neg q];exact Paired.snoc r ⟨rfl,hb,ry⟩
theorem KT.keeps{H H':Hp}{kvs:List (List Key×V)}{xs:List (List Key×Addr×Value)}(r:KT H kvs xs)(ht:∀b ys,H b=some (.tup ys)->H' b=some (.tup ys)):KT H' kvs xs :=
 Paired.mapP r fun _ _ z=>⟨z.1,ht _ _ z.2.1,z.2.2⟩
section
variable{P:Program}{w:World}{H:Hp}{h:Heap}{a:Addr}
theorem zvG{u:HO}(ok:HOk P w H h)(e:Rd H a u):zaF P w H h a u:=e.ok ok
theorem zg8{kvs:List (Key×V)}(ok:HOk P w H h)(e:Rd H a (.dK kvs)):kvs.length<=sizeLine/\(a==sysModules)=false/\∃vs,KV kvs vs/\h.DictOf (zaQ P w) a vs :=
 show zaF P w H h a (.dK kvs) from zvG ok e
theorem zvU{kvs:List (Key×V)}(ok:HOk P w H h)(e:H a=some (.dK kvs)):kvs.length<=sizeLine/\(a==sysModules)=false/\∃vs,KV kvs vs/\h.DictOf (zaQ P w) a vs:=zg8 ok (.inl e)
theorem zhz{ks:List Key}(ok:HOk P w H h)(e:H a=some (.tup (ks.map kV))):(tupleKind (zaQ P w)).is h ks a:=by
 obtain⟨_,its,r,o,h1,h2,n,h3⟩:=(show zaF P w H h a (.tup (ks.map kV)) from ok a _ e);exact⟨o,its.toArray,n,h1,h2,h3,by simpa using zkJ r⟩
theorem zjA{kvs:List (List Key×V)}(ok:HOk P w H h)(e:Rd H a (.dT kvs)):kvs.length<=sizeLine/\(a==sysModules)=false /\
  ∃xs,KT H kvs xs/\h.DictOfH (tupleKind (zaQ P w)) a xs:=by
 obtain⟨z,y,xs,r,o,es,ep,h1,h2,h3,h4,h5⟩:=(show zaF P w H h a (.dT kvs) from zvG ok e);refine⟨z,y,xs,r,o,es,ep,h1,h2,h3,h4,fun x hx=>?_,h5⟩;have all:∀{l:List (List Key×V)} {m:List (List Key×Addr×Value)},KT H l m->∀x∈m,(tupleKind (zaQ P w)).is h x.1 x.2.1:=by
  intro l m q;induction q with
  | nil=>intro x hx;exact nomatch hx
  | @cons p q ps qs hq t ih =>
   intro x hx;rcases List.mem_cons.mp hx with e | hx
   .subst e;exact zhz ok (by rw[<- hq.1];exact hq.2.1)
   .exact ih x hx
 exact all r x hx
theorem zyP{kvs:List (List Key×V)}(ok:HOk P w H h)(e:H a=some (.dT kvs)):kvs.length<=sizeLine/\(a==sysModules)=false /\
  ∃xs,KT H kvs xs/\h.DictOfH (tupleKind (zaQ P w)) a xs:=zjA ok (.inl e)
end
def zfY(H:Hp)(a:Addr)(y:V)(r:Option V):Prop :=
 (∃kvs k,Rd H a (.dK kvs)/\y=kV k/\r=zfp kvs k)\/∃kvs k b,Rd H a (.dT kvs)/\y= .ref b/\H b=some (.tup (k.map kV))/\r=zfp kvs k
def zqX(H:Hp)(a:Addr)(y v:V)(H':Hp):Prop :=
 (∃kvs k,H a=some (.dK kvs)/\y=kV k/\kvs.length < sizeLine/\H'=upd H a (.dK (putK kvs k v))) \/
 ∃kvs k b,H a=some (.dT kvs)/\y= .ref b/\H b=some (.tup (k.map kV))/\kvs.length < sizeLine/\H'=upd H a (.dT (putK kvs k v))
theorem zqX.k{H:Hp}{a:Addr}{kvs:List (Key×V)}{k:Key}{v:V}(e:H a=some (.dK kvs))(hl:kvs.length < sizeLine):zqX H a (kV k) v (upd H a (.dK (putK kvs k v))):= .inl ⟨kvs,k,e,rfl,hl,rfl⟩
section
variable{X:Cx}{pins:List (Addr×Obj)}{σ:St}{H:Hp}{s:Shared}{a:Addr}{y v:V}{u r:Value}{o:Option V}{A:Around}{E:Value->Shared->Prop}
theorem Inv.big(I:Inv X pins σ H s):sysModules < s.heap.objs.size:=by
 have h:mainGlobals < s.heap.objs.size:=(I.mod.glob.keeps I.bk).lt;exact Nat.lt_trans (by decide) h
theorem zpP{Q:Value->Shared->Prop}(hu:A.units+1 < cLine)(I:Inv X pins σ H s)(g:zfY H a y (some v))(ry:RelV y u)(h:∀w' s',Inv X pins σ H s'->RelV v w'->Q w' s') :
  wpAny (model X.prog X.w) A (getItem (.ref a) u) Q E s:=by
 rcases g with⟨kvs,k,e,ey,l⟩ | ⟨kvs,k,b,e,ey,eb,l⟩
 .subst ey;obtain⟨z,hd,vs,rel,dd⟩:=zg8 I.hok e;obtain⟨w',hw,rw'⟩:=zes.some_of (v:=v) (o:=valueAt vs k) (by rw[l];exact rel.val k);exact wpAny_getItem_of (zje ry) dd.mapOf hw (h w' _ (I.tok _) rw')
 .subst ey;cases (show u=Value.ref b from ry);obtain⟨z,hd,xs,rel,dd⟩:=zjA I.hok e;obtain⟨w',hw,rw'⟩:=zes.some_of (v:=v) (o:=(atKey xs k).map (·.2)) (by rw[l];exact rel.val k);obtain⟨p,hp,hp2⟩:=Option.map_eq_some_iff.mp hw;refine wpAny_getItem_heap (tupleKind_room_in1 hu) (zhz I.hok eb) dd hp ?_;rw[hp2];exact h w' _ (I.tok _) rw'
theorem zzM{Q:Value->Shared->Prop}(hu:A.units+1 < cLine)(I:Inv X pins σ H s)(g:zfY H a y o)(ry:RelV y u)(h:∀s',Inv X pins σ H s'->Q (.bool o.isSome) s') :
  wpAny (model X.prog X.w) A (compareOp .In u (.ref a)) Q E s:=by
 rcases g with⟨kvs,k,e,ey,l⟩ | ⟨kvs,k,b,e,ey,eb,l⟩
 .subst ey;obtain⟨z,hd,vs,rel,dd⟩:=zg8 I.hok e;refine wpAny_in_of (zje ry) hd dd.mapOf ?_;rw[<- (rel.val k).isSome_eq,<- l];exact h _ (I.tok _)
 .subst ey;cases (show u=Value.ref b from ry);obtain⟨z,hd,xs,rel,dd⟩:=zjA I.hok e;refine wpAny_in_heap (tupleKind_room_in1 hu) (zhz I.hok eb) hd dd ?_;have q:=(rel.val k).isSome_eq;rw[Option.isSome_map] at q;rw[<- q,<- l];exact h _ (I.tok _)
theorem zun{Q:Value->Shared->Prop}(hu:A.units+1 < cLine)(I:Inv X pins σ H s)(g:zfY H a y o)(ry:RelV y u)(h:∀s',Inv X pins σ H s'->Q (.bool (!o.isSome)) s') :
  wpAny (model X.prog X.w) A (compareOp .NotIn u (.ref a)) Q E s:=by
 rcases g with⟨kvs,k,e,ey,l⟩ | ⟨kvs,k,b,e,ey,eb,l⟩
 .subst ey;obtain⟨z,hd,vs,rel,dd⟩:=zg8 I.hok e;refine wpAny_notIn_of (zje ry) hd dd.mapOf ?_;rw[<- (rel.val k).isSome_eq,<- l];exact h _ (I.tok _)
 .subst ey;cases (show u=Value.ref b from ry);obtain⟨z,hd,xs,rel,dd⟩:=zjA I.hok e;refine wpAny_notIn_heap (tupleKind_room_in1 hu) (zhz I.hok eb) hd dd ?_;have q:=(rel.val k).isSome_eq;rw[Option.isSome_map] at q;rw[<- q,<- l];exact h _ (I.tok _)
theorem zlR{h':Heap}{t':Nat}{ob:HO}(I:Inv X pins σ H s)(mu:Mut (H a))(hs:Heap.SameBut a s.heap h')(he:∃q,h'.get? a=some q)(new:zaF X.prog X.w (upd H a ob) h' a ob) :
  Inv X pins σ (upd H a ob) { s with heap:=h',toks:=t' } :=
 I.write (x:=a) (e:=a) mu (.inl rfl) (fun b q hb z=>(hs.2 b hb).trans z) he new
theorem zrO{P:Program}{w:World}{H':Hp}{h':Heap}{kvs:List (Key×V)}{vs:List (Key×Value)}(z:kvs.length<=sizeLine)(hd:(a==sysModules)=false)(rel:KV kvs vs)(dd:h'.DictOf (zaQ P w) a vs) :
  zaF P w H' h' a (.dK kvs):=⟨z,hd,vs,rel,dd⟩
theorem zqb{H':Hp}{Q:Unit->Shared->Prop}(hu:A.units+1 < cLine)(I:Inv X pins σ H s)(g:zqX H a y v H')(ry:RelV y u)(rv:RelV v r)(h:∀s',Inv X pins σ H' s'->Q () s') :
  wpAny (model X.prog X.w) A (setItem (.ref a) u r) Q E s:=by
 rcases g with⟨kvs,k,e,ey,l,eH⟩ | ⟨kvs,k,b,e,ey,eb,l,eH⟩
 .subst ey eH;obtain⟨z,hd,vs,rel,dd⟩:=zvU I.hok e;have hz:vs.length<=sizeLine:=by rw[<- rel.length];exact z
  have hl:(putK kvs k v).length<=sizeLine:=by have:=ze3 kvs k v;omega
  refine wpAny_setItem_pairs (hsz:=hz) (zje ry) dd fun h' dd' hs=>h _ ?_
  have he:∃q,h'.get? a=some q:=let ⟨q,_,_,hq,_⟩:=dd';⟨q,hq⟩;exact zlR I (by rw[e];exact True.intro) hs he (zrO hl hd (rel.put k rv) dd')
 .subst ey eH;cases (show u=Value.ref b from ry);obtain⟨z,hd,xs,rel,dd⟩:=zyP I.hok e;have hz:xs.length<=sizeLine:=by rw[<- Paired.length rel];exact z
  have hl:(putK kvs k v).length<=sizeLine:=by have:=ze3 kvs k v;omega
  refine wpAny_setItem_heap (hsz:=hz) (tupleKind_room_in1 hu) (zhz I.hok eb) dd fun h' dd' hs=>h _ ?_
  obtain⟨q,es,ep,hq,h2,h3,h4,_,h5⟩:=dd';refine zlR I (by rw[e];exact True.intro) hs ⟨q,hq⟩ ⟨hl,hd,_,(rel.put k eb rv).keeps fun c ys ec=>?_,q,es,ep,hq,h2,h3,h4,h5⟩;rw[zJ (zzz ec e (fun z=>nomatch z))];exact ec
end
section
variable{X:Cx}{pins:List (Addr×Obj)}{σ:St}{H:Hp}{s:Shared}{a:Addr}{kvs:List (Key×V)}{k:Key}{u:Value}{A:Around}{E:Value->Shared->Prop}
theorem zzi{Q:Value->Shared->Prop}(I:Inv X pins σ H s)(e:Rd H a (.dK kvs))(h:∀t s',Inv X pins σ H s'->Q (.int kvs.length t) s'):wpAny (model X.prog X.w) A (call (.builtin "len") [.ref a]) Q E s:=by
 obtain⟨z,hd,vs,rel,dd⟩:=zg8 I.hok e;refine call_len_dict hd dd (by rw[<- rel.length];rw[sizeLine_eq] at z;omega) ?_;rw[<- rel.length];exact h _ _ (I.tok _)
end
def zxT(i:Expr):Prop:=∀ov iv,subscripted i false ov iv=operate [ov,iv] (getItem ov iv)
theorem ztw{prog:Program}{w:World}{A:Around}{E:Value->Shared->Prop}{s:Shared}{env:Env}{value slice:Expr}{pos:Pos}{T id:String}{Q:Value->Shared->Prop}
  (hl:typeLookup (.type T) "__getitem__"=pure (some (.builtin id)))(hs:zxT slice)
  (h:wpAny (model prog w) A (eval value env) (fun o s₁=>wpAny (model prog w) A (eval slice env) (fun i s₂=>s₂.TypeIs o T/\wpAny (model prog w) A (getItem o i) Q E s₂) E s₁) E s) :
  wpAny (model prog w) A (eval (.Subscript value slice pos) env) Q E s:=by
 refine Subscript_ (wpAny_mono h (fun o s₁ h₁=>wpAny_mono h₁ (fun i s₂ h₂=>?_) fun _ _ x=>x) fun _ _ x=>x);obtain⟨hT,h₂⟩:=h₂;unfold subscriptTail;refine wpAny_bind ?_;rw[getitemInPython_of_ne hT.not_modules];refine wpAny_bind (wpAny_specialOf hT hl ?_);have fin:wpAny (model prog w) A (subscripted slice false o i) (fun r s₃=>wpAny (model prog w) A (letTemporaryGo value o r >>= fun _=>pure r) Q E s₃) E s₂:=by
  rw[hs o i];exact wpAny_operating (wpAny_mono h₂ (fun r s₃ h₃=>wpAny_bind (wpAny_letTemporaryGo (wpAny_pure h₃))) fun _ _ x=>x)
 first
  | exact wpAny_pure (wpAny_bind fin)
  | exact wpAny_bind (wpAny_pure (wpAny_bind fin))
  | exact wpAny_bind fin
theorem zmh{X:Cx}{pins:List (Addr×Obj)}{σ:St}{H:Hp}{s:Shared}{a:Addr}{y:V}{o:Option V}(I:Inv X pins σ H s)(g:zfY H a y o):s.TypeIs (.ref a) "dict":=by
 rcases g with⟨kvs,k,e,_,_⟩ | ⟨kvs,k,b,e,_,_,_⟩
 .obtain⟨_,_,vs,_,dd⟩:=zg8 I.hok e;exact dd.typeIs
 .obtain⟨_,_,xs,_,dd⟩:=zjA I.hok e;exact dd.typeIs
def zrL(td ty:TE):TE:=fun σ H Q=>td σ H fun x H1=>ty σ H1 fun y H2=>∃a v,x= .ref a/\zfY H2 a y (some v)/\Q v H2
def zrd(td ty tv:TE):TS:=fun D σ H=>tv σ H fun v H1=>td σ H1 fun x H2=>ty σ H2 fun y H3=>∃a H4,x= .ref a/\zqX H3 a y v H4/\D.nx σ H4
section
variable{X:Cx}{o i e value:Expr}{pos pos' tpos:Pos}{td ty tv:TE}
theorem ztB(hu:X.A.units+1 < cLine)(ho:PE X o td)(hi:PE X i ty)(hs:zxT i):PE X (.Subscript o i pos) (zrL td ty):=by
 intro pins s σ H Q I h;refine ztw PySem.F.slot_dict_getitem.lookup hs (thn (ho pins s σ H _ I h) fun u s1 ⟨x,H1,I1,rx,q1⟩=>thn (hi pins s1 σ H1 _ I1 q1) fun iv s2 ⟨y,H2,I2,ry,a,v,ex,g,q2⟩=>?_);subst ex;obtain rfl:u=Value.ref a:=rx;exact⟨zmh I2 g,zpP hu I2 g ry fun w' s3 I3 rw'=>⟨v,H2,I3,rw',q2⟩⟩
theorem ztK(hu:X.A.units+1 < cLine)(ho:PE X o td)(hi:PE X i ty)(hv:PE X value tv)(hs:swapsWith value (some (.Subscript o i pos')) pos.line X.env=pure false) :
  PS X (.Assign [.Subscript o i pos'] value pos) (zrd td ty tv):=by
 intro pins s σ H D I h;refine wpAny_Assign_Subscript (thn (hv pins s σ H _ I h) fun r s1 ⟨v,H1,I1,rv,q1⟩=>thn (ho pins s1 σ H1 _ I1 q1) fun u s2 ⟨x,H2,I2,rx,q2⟩=>thn (hi pins s2 σ H2 _ I2 q2) fun iv s3 ⟨y,H3,I3,ry,a,H4,ex,g,q3⟩=>?_) hs;subst ex;obtain rfl:u=Value.ref a:=rx;exact zqb hu I3 g ry rv fun s4 I4=>⟨σ,H4,I4,q3⟩
end
theorem zns{P:Program}{w:World}{H:Hp}(h:Heap)(hb:sysModules < h.objs.size):zaF P w H (h.push { cls:= .type "dict",data:= .dict #[] }) h.objs.size (.dK []) :=
 ⟨Nat.zero_le _,beq_eq_false_iff_ne.mpr (Ne.symm (Nat.ne_of_lt hb)),[], .nil,Heap.DictOf.new h⟩
def znK:TE:=fun _ H Q=>∀p,H p=none->Q (.ref p) (upd H p (.dK []))
section
variable{X:Cx}{pos:Pos}
theorem zrN:PE X (.Dict [] [] pos) znK:=fun pins s σ H Q I h =>
 wpAny_Dict_empty ⟨.ref s.heap.objs.size,_,I.laid (a:=s.heap.objs.size) (o:= .dK []) (t':=s.toks) (fun _ _ q=>Heap.get?_push_of_some _ q) (Nat.le_refl _) (zns s.heap I.big),rfl,h _ (I.hok.fresh (Nat.le_refl _))⟩
end
def zl6:List (TE×TE)->St->Hp->(List (V×V)->Hp->Prop)->Prop
 | [],_,H,Q=>Q [] H
 | (tk,tv)::r,σ,H,Q=>tk σ H fun x H1=>tv σ H1 fun y H2=>zl6 r σ H2 fun ps H3=>Q ((x,y)::ps) H3
abbrev VV:List (V×V)->List (Value×Value)->Prop:=Paired fun p q=>RelV p.1 q.1/\RelV p.2 q.2
def PPs(X:Cx)(pos:Pos)(keys:List (Option Expr))(values:List Expr)(trs:List (TE×TE)):Prop :=
 ∀(pins:List (Addr×Obj)) (s:Shared) (σ:St) (H:Hp) (Q:List (V×V)->Hp->Prop),Inv X pins σ H s->zl6 trs σ H Q ->
  wpAny (model X.prog X.w) X.A (evalPairs (pairTrees keys values X.env pos)) (fun vs s'=>∃ps H',Inv X pins σ H' s'/\VV ps vs/\Q ps H') X.xe s
theorem ztM{X:Cx}{pos:Pos}:PPs X pos [] [] []:=fun pins s σ H Q I h=>pairTrees_nil_walk ⟨[],H,I, .nil,h⟩
theorem zrZ{X:Cx}{pos:Pos}{k v:Expr}{ks:List (Option Expr)}{vs:List Expr}{tk tv:TE}{trs:List (TE×TE)}(hk:PE X k tk)(hv:PE X v tv)(hr:PPs X pos ks vs trs) :
  PPs X pos (some k::ks) (v::vs) ((tk,tv)::trs):=fun pins s σ H Q I h =>
 pairTrees_cons_walk (thn (hk pins s σ H _ I h) fun u s1 ⟨x,H1,I1,rx,q1⟩=>thn (hv pins s1 σ H1 _ I1 q1) fun w2 s2 ⟨y,H2,I2,ry,q2⟩ =>
  thn (hr pins s2 σ H2 _ I2 q2) fun ws s3 ⟨ps,H3,I3,rel,q3⟩=>⟨(x,y)::ps,H3,I3, .cons ⟨rx,ry⟩ rel,q3⟩)
def zgm(kvs more:List (Key×V)):List (Key×V):=more.foldl (fun acc kv=>putK acc kv.1 kv.2) kvs
theorem KV.merge:∀{more:List (Key×V)} {rs:List (Key×Value)} {kvs:List (Key×V)} {vs:List (Key×Value)},KV more rs->KV kvs vs->KV (zgm kvs more) (merged vs rs):=by
 intro more rs kvs vs r;unfold KV at r;induction r generalizing kvs vs with
 | nil=>intro q;exact q
 | @cons p q ps qs h t ih =>
  intro r0;have e:KV (putK kvs p.1 p.2) (stored vs q.1 q.2):=by
   have:=r0.put p.1 h.2;rw[<- h.1];exact this
  exact ih e
theorem zfL:∀(more kvs:List (Key×V)),(zgm kvs more).length<=kvs.length+more.length
 | [],kvs=>by show kvs.length<=kvs.length+0;omega
 | p::r,kvs=>by
  have h1:=zfL r (putK kvs p.1 p.2);have h2:=ze3 kvs p.1 p.2;show(zgm (putK kvs p.1 p.2) r).length<=_;rw[List.length_cons];omega
theorem zi1{P:Program}{w:World}:∀{kvs:List (Key×V)} {ws:List (Value×Value)},VV (kvs.map fun kv=>(kV kv.1,kv.2)) ws->∃rs,Carries (zaQ P w) ws rs/\KV kvs rs
 | [],_,r=>by rw[List.map_nil] at r;cases r;exact⟨[],True.intro, .nil⟩
 | p::kvs,_,r=>by
  rw[List.map_cons] at r;cases r with
  | @cons a b as bs h t =>
   obtain⟨rs,c,q⟩:=zi1 (P:=P) (w:=w) t;obtain⟨b1,b2⟩:=b;exact⟨(p.1,b2)::rs,⟨zje h.1,rfl,c⟩, .cons ⟨rfl,h.2⟩ q⟩
def zsY(trs:List (TE×TE)):TE:=fun σ H Q=>∀p,H p=none->zl6 trs σ (upd H p (.dK [])) fun ps H2=>H2 p=some (.dK [])/\∃kvs:List (Key×V),ps=kvs.map (fun kv=>(kV kv.1,kv.2))/\kvs.length<=15/\Q (.ref p) (upd H2 p (.dK (zgm [] kvs)))
theorem ztR{X:Cx}{pos:Pos}{keys:List (Option Expr)}{values:List Expr}{trs:List (TE×TE)}(h:PPs X pos keys values trs)(hall:keys.all (·.isSome)=true)(hl:keys.length=values.length)(h0:keys≠[])
  (h15:keys.length<=15):PE X (.Dict keys values pos) (zsY trs):=by
 intro pins s σ H Q I q;have hn:=I.hok.fresh (Nat.le_refl s.heap.objs.size);have I1:=I.laid (a:=s.heap.objs.size) (o:= .dK []) (h':=s.heap.push { cls:= .type "dict",data:= .dict #[] }) (t':=s.toks) (fun _ _ q=>Heap.get?_push_of_some _ q) (Nat.le_refl _) (zns s.heap I.big);refine wpAny_Dict_walk (knd:=zaQ X.prog X.w) hall hl h0 h15 (thn (h pins _ σ _ _ I1 (q _ hn)) fun ws s2 ⟨ps,H2,I2,rel,e,kvs,ep,lk,q2⟩=>?_);subst ep;obtain⟨rs,c,rk⟩:=zi1 (P:=X.prog) (w:=X.w) rel;obtain⟨z,hd,vs0,r0,dd⟩:=zvU I2.hok e;cases r0;refine⟨rs,c,dd,fun h' dd' hs=>⟨.ref s.heap.objs.size,_,?_,rfl,q2⟩⟩;have hz:(zgm [] kvs).length<=sizeLine:=by
  have h1:=zfL kvs [];rw[List.length_nil] at h1;rw[sizeLine_eq];omega
 have he:∃q,h'.get? s.heap.objs.size=some q:=let ⟨q,_,_,hq,_⟩:=dd';⟨q,hq⟩;exact zlR I2 (by rw[e];exact True.intro) hs he (zrO hz hd (rk.merge .nil) dd')
structure M1(X:Cx)(o:Expr)(m:Str)(apos:Pos)(e:Expr)(cpos:Pos):Prop where
 base:attributeBase o m X.env (eval o X.env)=eval o X.env
 few:((backTo cpos (starEach [e] X.env)).all (fun x=> !x.1)&&(backToKw cpos (keywordEach [] X.env)).all (fun x=>x.1.isSome)
  && decide (([e]:List Expr).length+([]:List Keyword).length+(if ([]:List Keyword).isEmpty then 0 else 1) < 30))=true
 line:(apos.endLine==cpos.line)=true
 trees:backTo cpos (starEach [e] X.env)=[(false,eval e X.env)]
structure M2(X:Cx)(o:Expr)(m:Str)(apos:Pos)(e f:Expr)(cpos:Pos):Prop where
 base:attributeBase o m X.env (eval o X.env)=eval o X.env
 few:((backTo cpos (starEach [e,f] X.env)).all (fun x=> !x.1)&&(backToKw cpos (keywordEach [] X.env)).all (fun x=>x.1.isSome)
  && decide (([e,f]:List Expr).length+([]:List Keyword).length+(if ([]:List Keyword).isEmpty then 0 else 1) < 30))=true
 line:(apos.endLine==cpos.line)=true
 trees:backTo cpos (starEach [e,f] X.env)=[(false,eval e X.env),(false,eval f X.env)]
def IsD(H:Hp)(a:Addr):Prop:=(∃kvs,Rd H a (.dK kvs))\/∃kvs,Rd H a (.dT kvs)
theorem zxZ{X:Cx}{pins:List (Addr×Obj)}{σ:St}{H:Hp}{s:Shared}{a:Addr}(I:Inv X pins σ H s)(d:IsD H a) :
  s.TypeIs (.ref a) "dict"/\(∀b,Value.ref a= .ref b->∃ob,s.heap.get? b=some ob/\ob.dict=none)/\(a==sysModules)=false:=by
 rcases d with⟨kvs,e⟩ | ⟨kvs,e⟩
 .obtain⟨_,hd,vs,_,dd⟩:=zg8 I.hok e;refine⟨dd.typeIs,fun b q=>?_,hd⟩;cases q;obtain⟨ob,_,_,h1,h2,_⟩:=dd;exact⟨ob,h1,h2.2.1⟩
 .obtain⟨_,hd,xs,_,dd⟩:=zjA I.hok e;refine⟨dd.typeIs,fun b q=>?_,hd⟩;cases q;obtain⟨ob,_,_,h1,h2,_⟩:=dd;exact⟨ob,h1,h2.2.1⟩
section
variable{X:Cx}{pins:List (Addr×Obj)}{σ:St}{H:Hp}{s:Shared}{a:Addr}{y d:V}{u r:Value}{o:Option V}{A:Around}{E:Value->Shared->Prop}
theorem zwu{Q:Value->Shared->Prop}(hu:A.units+1 < cLine)(I:Inv X pins σ H s)(g:zfY H a y o)(ry:RelV y u)(rd:RelV d r)(h:∀w' s',Inv X pins σ H s'->RelV (o.getD d) w'->Q w' s') :
  wpAny (model X.prog X.w) A (call (.builtin "dict.get") [.ref a,u,r]) Q E s:=by
 rcases g with⟨kvs,k,e,ey,l⟩ | ⟨kvs,k,b,e,ey,eb,l⟩
 .subst ey;obtain⟨z,hd,vs,rel,dd⟩:=zg8 I.hok e;refine call_meetsIn PySem.F.slot_dict_get dd.typeIs PySem.F.entry_dict_get (PySem.F.args_dict_get_3 _ _ _) (meets_dict_get_default (zaQ X.prog X.w) a (zje ry) hd r) ⟨_,dd.mapOf,h _ _ (I.tok _) ?_⟩;rw[l];exact(rel.val k).getD rd
 .subst ey;cases (show u=Value.ref b from ry);obtain⟨z,hd,xs,rel,dd⟩:=zjA I.hok e;refine call_meetsIn PySem.F.slot_dict_get dd.typeIs PySem.F.entry_dict_get (PySem.F.args_dict_get_3 _ _ _) (meetsH_dict_get_default (tupleKind (zaQ X.prog X.w)) a b hd r) ⟨tupleKind_room_in1 hu,k,xs,zhz I.hok eb,dd,h _ _ (I.tok _) ?_⟩;rw[l];exact(rel.val k).getD rd
end
def zn6(td ty tx:TE):TE:=fun σ H Q=>td σ H fun x H1=>∃a,x= .ref a/\IsD H1 a/\ty σ H1 fun y H2=>tx σ H2 fun z H3=>∃o,zfY H3 a y o/\Q (o.getD z) H3
section
variable{X:Cx}{o e f:Expr}{apos cpos:Pos}{td ty tx:TE}
theorem zqQ(hu:X.A.units+1 < cLine)(ho:PE X o td)(he:PE X e ty)(hf:PE X f tx)(m:M2 X o "get" apos e f cpos):PE X (.Call (.Attribute o "get" apos) [e,f] [] cpos) (zn6 td ty tx):=by
 intro pins s σ H Q I h;refine wpAny_Call_method m.base m.few m.line PySem.F.plainAttrs_dict PySem.F.slot_dict_get PySem.F.type_dict_get (thn (ho pins s σ H _ I h) fun u s1 ⟨x,H1,I1,rx,a,ex,d,q1⟩=>?_);subst ex;obtain rfl:u=Value.ref a:=rx;obtain⟨t1,t2,_⟩:=zxZ I1 d;refine⟨t1,t2,?_⟩;rw[m.trees];refine Calls.callWith_builtin rfl (Calls.evalArgs_plain (Calls.spliced_cons (thn (he pins s1 σ H1 _ I1 q1) fun iv s2 ⟨y,H2,I2,ry,q2⟩ =>
  Calls.spliced_cons (thn (hf pins s2 σ H2 _ I2 q2) fun fv s3 ⟨z,H3,I3,rz,ov,g,q3⟩=>Calls.spliced_nil ?_))))
 exact zwu hu I3 g ry rz fun w' s4 I4 rw'=>⟨_,H3,I4,rw',q3⟩
end
section
variable{X:Cx}{pins:List (Addr×Obj)}{σ:St}{H:Hp}{s:Shared}{a:Addr}{kvs:List (Key×V)}{A:Around}{E:Value->Shared->Prop}
end
section
variable{X:Cx}{pins:List (Addr×Obj)}{σ:St}{H:Hp}{s:Shared}{a:Addr}{y:V}{u:Value}{A:Around}{E:Value->Shared->Prop}
end
end L2
namespace Att
open PySem PySem.W PySem.Calls PyProof.Rows
theorem zim{P:Params}{h:Heap}:∀(ns:List Int) (vs:List Value),WellAll P h vs (ns.map WData.int)->IntsAre vs ns:=by
 intro ns;induction ns with
 | nil =>
  intro vs w;rw[List.map_nil] at w;cases w;exact .nil
 | cons n ns ih =>
  intro vs w;rw[List.map_cons] at w;cases w with
  | cons a b =>
   cases a;exact .cons _ _ (ih _ b)
theorem zqr{l:OpenLaw}{n:Nat}(hn:l.most=some n){P:Params}{h:Heap}{args:List WData}{vals:List Value}
  (hpre:l.row.toRowW.claim.pre args=true)(hwl:WellAll P h vals args) :
  ∃a vs ns,vals=[Value.ref a]/\args=[WData.list (ns.map WData.int)]/\h.get? a=some { cls:= .type "list",data:= .seq vs.toArray }/\IntsAre vs ns/\ns.length<=n:=by
 have hsh:WShape.hasAll [] args [.list .int]=true:=(pre_splitW hpre).1;have hc:l.pre.holds [] { args:=args }=true:=(pre_splitW hpre).2;obtain⟨d,r,rfl,h1,h2⟩:=hasAllW_cons hsh;obtain rfl:=hasAllW_nil h2;obtain⟨xs,rfl,h3⟩:=hasW_list h1;obtain⟨ns,rfl⟩:=items_int h3;have hlen:ns.length<=n:=by
  unfold OpenLaw.pre at hc;have h4:(WTm.not (.lt (.lit (.int (n:Int))) (.len (.arg 0)))).holds [] { args:=[.list (ns.map .int)] }=true:=by
   have h4:=(holds_andW hc).1;rw[hn] at h4;exact h4
  have h5:=condW_of h4 (w_not (w_lt w_lit (w_len_list (w_arg rfl))));rw[List.length_map] at h5;refine Nat.le_of_not_lt fun q=>?_
  have q':(n:Int) < ((ns.length:Nat):Int):=by omega
  first
   | (rw[decide_eq_true q'] at h5;exact absurd h5 (by decide))
   | (simp at h5;omega)
 cases hwl with
 | cons w1 w2 =>
  cases w2;cases w1 with
  | list ho hall=>exact⟨_,_,ns,rfl,rfl,ho,zim ns _ hall,hlen⟩
theorem zpq(l:OpenLaw)(args:List WData):l.row.toRowW.claim.post args (.bool true) args=true :=
 postW_of (r:=l.row.toRowW) (X:=(true==true))
  (show WShape.has [] (.bool true) .bool=true by first | rfl | decide | simp[WShape.has,WShape.arms,WShape.armsAll])
  (show(WTm.eq .res (.lit (.bool true))).value [] { args:=args,res:=some (.bool true),after:=args }=some (.bool (true==true)) from w_eq_bool (w_res rfl) w_lit) rfl
theorem znf{l:OpenLaw}{n:Nat}{q:Program}{loose:List Str}{XP:(Str->Option Value)->Heap->Prop}{YP:World->Heap->Prop}{d:DefRec}
  (hn:l.most=some n)(hdf:d.params.defaults=[])
  (call:∀(w:World) (s₀ s₁:Shared) (mg mb:Str->Option Value) (fa:Addr) (o:Obj) (pm cd doc:Value) (a:Addr) (vs:List Value) (ns:List Int),
   Ground q loose [] XP w s₀ mg mb s₁.heap->YP w s₁.heap ->
   s₁.heap.get? fa=some o->o.data= .func (docDef d.name d.params d.body d.scope pm cd doc)->s₁.heap.CodeRec cd d.name->mg d.name=some (.ref fa) ->
   s₁.heap.get? a=some { cls:= .type "list",data:= .seq vs.toArray }->IntsAre vs ns->ns.length<=n->s₁.gens= #[] ->
   codeAny (model l.prog w) callerA (.call (.ref fa) ⟨[.ref a],[]⟩) (fun r s'=>r= .ok (.ret (.bool true))/\OldK s₁.heap s'.heap/\s'.os=s₁.os/\AllBare s'.gens) s₁) :
  WalkO q loose XP YP l.row.toRowW d [] (fun f vs=>PySem.call f vs):=by
 intro w s₀ s₁ mg mb G Y fa o pm cd doc dV kV ho hd hcd hD hmg hg args vals as hpre hlay hrd hwl hlo;obtain rfl:dV= .none:=Dflts.none hD hdf;obtain rfl:kV= .none:=Dflts.noKw hD;obtain⟨a,vs,ns,rfl,rfl,hobj,hints,hlen⟩:=zqr hn hpre hwl;refine enter_call (codeAny_mono (call w s₀ s₁ mg mb fa o pm cd doc a vs ns G Y ho (fd_plain hd) hcd hmg hobj hints hlen hg) fun r s' hq=>?_);obtain⟨rfl,h2,h3,h4⟩:=hq;exact⟨.inl ⟨.bool true, .bool true,[],rfl,fun _=>rfl, .bool true,zpq l _,fun _=>⟨List.Pairwise.nil,fun _ hm=>(nomatch hm)⟩⟩,h2,h3,h4⟩
section
variable{prog:Program}{w:World}{A:Around}{E:Value->Shared->Prop}{s:Shared}{K:Frag}
end
end Att
namespace L2
open PySem PySem.Spec PyProof.Rows
theorem zk5:∀{vs:List Value} {ns:List Int},IntsAre vs ns->Vals (ns.map V.int) vs
 | _,_, .nil=> .nil
 | _,_, .cons n t h=> .cons ⟨t,rfl⟩ (zk5 h)
def Only(H:Hp):Prop:=∀b,H b=none\/∃o xs,H b=some (.frz o (.lst xs))
theorem zsF{P:Program}{w:World}{K:Frag}{mg mb:Str->Option Value}{CX:CXT}{k:Nat}{fa a:Addr}{fd:FuncData}{x:Str}{sp:Sp}{s₁:Shared}{vs:List Value}{ns:List Int}
  (KX:K.In s₁.heap)(hns:s₁.heap.Ns mainGlobals mg)(hb:s₁.heap.Ns builtinsNs mb)(hbb:∀x:Str,x≠"__name__"->mb x=bootBuiltins x)(hlim:s₁.heap.NoLimit)(hg:s₁.gens= #[])
  (ha:s₁.heap.get? a=some { cls:= .type "list",data:= .seq vs.toArray })(hi:IntsAre vs ns)(hl:ns.length<=sizeLine)(hr:zdA k callerA)
  (F:∀base:Heap,K.In base->base.Ns mainGlobals mg->zac P w K mg base CX k fa fd [x] sp)(hbind:∀(s:Shared) (u:Value),BindsTo s fd ⟨[u],[]⟩ [(x,u)])
  (hsp:∀H:Hp,Only H->SqL K H a (ns.map V.int)->sp [.ref a] H (fun v _=>v= .bl true) fun _ _ _=>False)
  (hCX:∀H e s',CX [] H s₁ (fun _ _ _=>False) e s'->False) :
  codeAny (model P w) callerA (.call (.ref fa) ⟨[.ref a],[]⟩) (fun r s'=>r= .ok (.ret (.bool true))/\OldK s₁.heap s'.heap/\s'.os=s₁.os/\AllBare s'.gens) s₁:=by
 have rv:=zk5 hi;have lenV:=hi.length;have core:∀H:Hp,Only H->SqL K H a (ns.map V.int)->HOk P w H s₁.heap->(∀b,H b≠none->b=a)->(H a≠none->K.lookup a=none) ->
   codeAny (model P w) callerA (.call (.ref fa) ⟨[.ref a],[]⟩) (fun r s'=>r= .ok (.ret (.bool true))/\OldK s₁.heap s'.heap/\s'.os=s₁.os/\AllBare s'.gens) s₁:=by
  intro H hO hS hok hA hK;have base_of:∀{b:Addr} {o:Obj},s₁.heap.get? b=some o->H b=none->(zlr s₁.heap H).get? b=some o:=fun e n=>zr5 e n
  have noA:∀{b:Addr} {o:Obj} {es:Array DictEntry} {ep:Nat},s₁.heap.get? b=some o->o.data= .dict es ep->H b=none:=fun{b o es ep} e d=>by
   cases q:H b with
   | none=>rfl
   | some u =>
    have e':b=a:=hA b (by rw[q];simp);subst e';rw[ha] at e;cases e;have d':Data.seq vs.toArray _=Data.dict es ep:=d;cases d'
  have nsK:∀{b:Addr} {m:Str->Option Value},s₁.heap.Ns b m->(zlr s₁.heap H).Ns b m:=fun{b m} ⟨o,es,ep,e,d,r⟩=>⟨o,es,ep,base_of e (noA e d),d,r⟩
  have hKb:K.In (zlr s₁.heap H):=fun b o e=>base_of (KX b o e) (by
   cases q:H b with
   | none=>rfl
   | some u =>
    have e':b=a:=hA b (by rw[q];simp);subst e';rw[hK (by rw[q];simp)] at e;cases e)
  have hM:Mod K mg (zlr s₁.heap H):=⟨hKb,nsK hns,⟨mb,nsK hb,hbb⟩,let ⟨mc,h1,h2⟩:=hlim;⟨mc,nsK h1,h2⟩⟩;have e0:znP P w K mg (zlr s₁.heap H) callerA [] s₁ H:=⟨rfl,hM,fun b o e=>zuv e,Nat.le_of_eq (zqq _ _),trivial,fun b hb=>absurd (show b∈([]:List Addr) from hb) (by simp),hok, .of_eq hg⟩;refine codeAny_mono ((F _ hKb (nsK hns)).run callerA [] s₁ H ⟨[.ref a],[]⟩ [.ref a] [.ref a] _ _ hr e0 (hbind s₁ (.ref a)) (.cons rfl .nil) (hsp H hO hS)) fun r s' h=>?_
  cases r with
  | error e=>exact(hCX H e s' h).elim
  | ok fl =>
   cases fl with
   | next=>exact False.elim h
   | brk=>exact False.elim h
   | cont=>exact False.elim h
   | ret u =>
    obtain⟨v,H',os,bare,un,hok',r',q⟩:=h;have q':v= .bl true:=q;subst q';obtain rfl:u=Value.bool true:=r';refine⟨rfl,OldK.of_keep fun b o e=>?_,os,bare⟩;cases q:H b with
    | none=>exact un.keep b o e q (by intro z;exact absurd (show b∈([]:List Addr) from z) (by simp)) (by simp)
    | some u =>
     rcases hO b with z | ⟨ob,xs,z⟩
     .rw[q] at z;cases z
     .have z2:=un.frzs b ob _ z;obtain⟨e1,_⟩:=hok b _ z;obtain⟨e2,_⟩:=hok' b _ z2;rw[e] at e1;cases e1;exact e2
 cases hk:K.lookup a with
 | some o =>
  have e:=KX a o hk;rw[ha] at e;cases e;refine core (fun _=>none) (fun _=> .inl rfl) (.inr ⟨_,vs.toArray,_,hk,rfl,rfl,rfl,by rw[List.size_toArray,lenV];exact hl,by simpa using rv⟩) (fun b u z=>by have z':(none:Option HO)=some u:=z;cases z') (fun b z=>absurd rfl z) fun z=>absurd rfl z
 | none =>
  refine core (fun b=>if b=a then some (.frz { cls:= .type "list",data:= .seq vs.toArray } (.lst (ns.map V.int))) else none) (fun b=>?_) (.inl (.inr ⟨{ cls:= .type "list",data:= .seq vs.toArray },if_pos rfl⟩)) (fun b u z=>?_) (fun b z=>?_) fun _=>hk
  .by_cases hb:b=a
   .exact .inr ⟨_,_,if_pos hb⟩
   .exact .inl (if_neg hb)
  .by_cases hb:b=a
   .have z':=(if_pos hb).symm.trans z;cases z';subst hb;exact⟨ha,by rw[List.length_map];exact hl,vs,_,rv,ha⟩
   .have z':=(if_neg hb).symm.trans z;cases z'
  .by_cases hb:b=a
   .exact hb
   .exact absurd (if_neg hb) z
theorem zu6{l:PySem.W.OpenLaw}{n k:Nat}{q:Program}{loose:List Str}{XP:(Str->Option Value)->Heap->Prop}{YP:World->Heap->Prop}{d:DefRec}{K:Params->Frag}{CX:World->CXT}{sp:World->Sp}{x:Str}
  (hn:l.most=some n)(hn2:n<=sizeLine)(hdf:d.params.defaults=[])(hr:zdA k callerA)
  (hY:∀(w:World) (h:Heap),YP w h->(K w.params).In h)
  (F:∀(w:World) (mg:Str->Option Value) (fa:Addr) (h:Heap),(K w.params).In h->h.Ns mainGlobals mg->mg d.name=some (.ref fa) ->
   ∃fd:FuncData,(∀(s:Shared) (u:Value),BindsTo s fd ⟨[u],[]⟩ [(x,u)]) /\
    ∀base:Heap,(K w.params).In base->base.Ns mainGlobals mg->zac l.prog w (K w.params) mg base (CX w) k fa fd [x] (sp w))
  (hsp:∀(w:World) (H:Hp) (a:Addr) (ns:List Int),ns.length<=n->Only H->SqL (K w.params) H a (ns.map V.int)->sp w [.ref a] H (fun v _=>v= .bl true) fun _ _ _=>False)
  (hCX:∀(w:World) (H:Hp) (s:Shared) (e:Value) (s':Shared),CX w [] H s (fun _ _ _=>False) e s'->False) :
  PySem.W.WalkO q loose XP YP l.row.toRowW d [] (fun f vs=>PySem.call f vs):=by
 refine Att.znf hn hdf fun w s₀ s₁ mg mb fa o pm cd doc a vs ns G Y ho hd hcd hmg hobj hints hlen hg=>?_
 have KX:=hY w _ Y;obtain⟨fd,hb,hF⟩:=F w mg fa _ KX G.T.g hmg;exact zsF KX G.T.g G.T.b G.T.builtins G.T.nolimit hg hobj hints (Nat.le_trans hlen hn2) hr hF hb (fun H hO hS=>hsp w H a ns hlen hO hS) fun H e s'=>hCX w H s₁ e s'
def inClass(s:Stmt)(j:Nat):Stmt:=match s with
 | .ClassDef _ _ _ body _ _ _ _ _ _ _=>body.getD j (.Pass ⟨0,0,0,0⟩)
 | _=> .Pass ⟨0,0,0,0⟩
def zgE(s:Stmt):Arguments:=match s with
 | .FunctionDef _ a _ _ _ _ _ _ _ _=>a
 | _=>{ posonlyargs:=[],args:=[],vararg:=none,kwonlyargs:=[],kw_defaults:=[],kwarg:=none,defaults:=[] }
def zbo(s:Stmt):List Stmt:=match s with
 | .FunctionDef _ _ b _ _ _ _ _ _ _=>b
 | _=>[]
def zx(s:Stmt):Scope:=match s with
 | .FunctionDef _ _ _ _ _ _ sc _ _ _=>sc
 | _=>{ kind:= .function,names:=[],isGenerator:=false,isCoroutine:=false }
abbrev CX0:CXT:=fun _ _ _ _ _ _=>False
abbrev E0:XK:=fun _ _ _=>False
theorem ziT{X:Cx}:zcS CX0 X E0:=fun _ _ _ _ _ _ _ h=>h.elim
structure Fun(K:Frag)(x qual:Str)(st:Stmt)(f:Addr)(fd:FuncData):Prop where
 ex:∃(oc:Value) (od:Option Addr) (kV:Value×Value) (doc pm:Value) (an:Option Addr) (cdv ct:Value) (osl:Array (Option Value)),
  fd=fnOf x qual (zgE st) (zbo st) (zx st) kV.1 kV.2 doc pm an cdv ct/\K.lookup f=some ⟨oc,od, .func fd,osl⟩/\codeIn K cdv qual=true
 kp:keepIn K (.ref f)=true
section
variable{P:Program}{w:World}{K:Frag}{mg:Str->Option Value}{base:Heap}
theorem Fun.ok{x qual:Str}{st:Stmt}{f:Addr}{fd:FuncData}{N ps:List Str}{k:Nat}{sp:Sp}(F:Fun K x qual st f fd)(S:zP N ps (zx st))(len:∀vs H Q E,sp vs H Q E->vs.length=ps.length)
  (hbody:∀(cdv:Value) (A:Around) (outer:List Env) (s:Shared) (H:Hp) (vs:List V) (Q:VK) (E:XK),zdA k (A.deeper (envOfC qual (zx st) s.heap.objs.size f cdv))->sp vs H Q E ->
   ∃t,PSs (zfi CX0 P w K mg base N qual (zx st) f cdv A outer s H E).nox (zbo st) t/\t { nx:=fun _ H'=>Q .non H',rt:=Q } (start N vs) H):zac P w K mg base CX0 (k+1) f fd ps sp:=by
 obtain⟨oc,od,kV,doc,pm,an,cdv,ct,osl,rfl,lk,hcd⟩:=F.ex;refine zrV lk hcd S len fun A outer s H vs Q E hr hsp=>?_
 obtain⟨t,h,q⟩:=hbody cdv A outer s H vs Q E hr hsp;exact⟨t,h.nox,q⟩
theorem Fun.binds{x qual:Str}{st:Stmt}{f:Addr}{fd:FuncData}{ps:List Str}(F:Fun K x qual st f fd)
  (h:∀(kV doc pm:Value) (an:Option Addr) (cdv ct:Value) (us:List Value),us.length=ps.length->bindArgs (fnOf x qual (zgE st) (zbo st) (zx st) .none kV doc pm an cdv ct) ⟨us,[]⟩=pure (ps.zip us))(hd:fd.defaults= .none:=by rfl):Binds K fd ps []:=by
 obtain⟨oc,od,kV,doc,pm,an,cdv,ct,osl,rfl,lk,hcd⟩:=F.ex;have e:kV.1= .none:=hd;rw[e];exact .all (h kV.2 doc pm an cdv ct)
theorem zal{x qual:Str}{st:Stmt}{f:Addr}{oc:Value}{od an:Option Addr}{osl:Array (Option Value)}{dV kV doc pm cdv ct:Value}(l:K.lookup f=some ⟨oc,od, .func (fnOf x qual (zgE st) (zbo st) (zx st) dV kV doc pm an cdv ct),osl⟩)
  (c:codeIn K cdv qual=true)(k:keepIn K (.ref f)=true):Fun K x qual st f (fnOf x qual (zgE st) (zbo st) (zx st) dV kV doc pm an cdv ct):=⟨⟨oc,od,(dV,kV),doc,pm,an,cdv,ct,osl,rfl,l,c⟩,k⟩
end
theorem zdt{cm:Bool}{A:Around}{k:Nat}(hr:zaC cm k A):A.units+1 < cLine:=Nat.lt_of_le_of_lt (Nat.add_le_add_left (by decide:1<=64) _) hr.units
section
variable{X:Cx}
end
theorem zzQ{A B:Prop}(h:A):if true=true then A else B:=by
 rw[if_pos rfl];exact h
theorem zu7{c A B:Prop}[Decidable c](h1:c->A)(h2:¬ c->B):if c then A else B:=by
 by_cases h:c
 .rw[if_pos h];exact h1 h
 .rw[if_neg h];exact h2 h
def zj3(H H':Hp):Prop:=∀b o,H b=some o->H' b=some o
section
variable{X:Cx}
theorem zpR:zaf X (.builtin "len") (fun xs H Q=>∃a kvs,xs=[V.ref a]/\H a=some (.dK kvs)/\Q (.int kvs.length) H):=by
 intro pins s σ H xs us Q I r h;obtain⟨a,kvs,rfl,ha,q⟩:=h;obtain⟨u,rfl,ru⟩:=vals1 r;cases ru;exact zzi I (.inl ha) fun t s' I'=>⟨.int kvs.length,H,I',⟨t,rfl⟩,q⟩
end
section
variable{κ:Type}[DecidableEq κ]
end
def zaW(env:Env):List (Str×NameKind)->List (Str×Addr)->List (Str×Addr)
 | [],acc=>acc
 | (n,k)::r,acc=>if k== .free then zaW env r ((n,(env.cells.lookup n).getD 0)::acc) else zaW env r acc
theorem zjG{env:Env}(f:Str×NameKind->List (Str×Addr)->Sem (ForInStep (List (Str×Addr))))
  (hf:∀n k cs,f (n,k) cs=if k== .free then(do let a<-cellOf env n;pure (.yield ((n,a)::cs))) else pure (.yield cs)) :
  ∀(names:List (Str×NameKind)) (acc:List (Str×Addr)),(∀x∈names,x.2= .free->(env.cells.lookup x.1).isSome=true)->forIn names acc f=(pure (zaW env names acc):Sem _)
 | [],acc,_=>rfl
 | (n,k)::r,acc,h=>by
  have hr:∀x∈r,x.2= .free->(env.cells.lookup x.1).isSome=true:=fun x hx=>h x (List.mem_cons_of_mem _ hx)
  rw[List.forIn_cons,hf];unfold zaW;cases hk:k==NameKind.free with
  | true =>
   obtain⟨c,hc⟩:=Option.isSome_iff_exists.mp (h (n,k) List.mem_cons_self (by simpa using hk));have e:cellOf env n=pure c:=by unfold cellOf;rw[hc]
   simp only[if_true];rw[e,pure_bind,pure_bind,hc];exact zjG f hf r _ hr
  | false =>
   simp only[Bool.false_eq_true,if_false];rw[pure_bind];exact zjG f hf r _ hr
theorem zfP{scope:Scope}{env:Env}(h:∀x∈scope.names,x.2= .free->(env.cells.lookup x.1).isSome=true):closureFor scope env=pure (zaW env scope.names []):=by
 simp only[closureFor];rw[zjG (env:=env) _ (fun n k cs=>by
  cases hk:k==NameKind.free<;>simp[hk]) _ _ h]
 rfl
theorem zcs{env:Env}:∀{names:List (Str×NameKind)} {acc:List (Str×Addr)} {n:Str} {c:Addr},(n,c)∈zaW env names acc->(n,c)∈acc\/((n, .free)∈names/\c=(env.cells.lookup n).getD 0)
 | [],_,_,_,h=> .inl h
 | (x,k)::r,acc,n,c,h=>by
  unfold zaW at h;cases hk:k==NameKind.free with
  | true =>
   rw[hk] at h;simp only[if_true] at h;have ek:k= .free:=by simpa using hk
   subst ek;rcases zcs h with h | h
   .rcases List.mem_cons.mp h with e | h
    .cases e;exact .inr ⟨List.mem_cons_self,rfl⟩
    .exact .inl h
   .exact .inr ⟨List.mem_cons_of_mem _ h.1,h.2⟩
  | false =>
   rw[hk] at h;simp only[Bool.false_eq_true,if_false] at h;rcases zcs h with h | h
   .exact .inl h
   .exact .inr ⟨List.mem_cons_of_mem _ h.1,h.2⟩
theorem zgi{env:Env}:∀{names:List (Str×NameKind)} {acc:List (Str×Addr)} {p:Str×Addr},p∈acc->p∈zaW env names acc
 | [],_,_,h=>h
 | (x,k)::r,acc,p,h=>by
  unfold zaW;split
  .exact zgi (List.mem_cons_of_mem _ h)
  .exact zgi h
theorem zf4{env:Env}:∀{names:List (Str×NameKind)} {acc:List (Str×Addr)} {n:Str},(n, .free)∈names->(n,(env.cells.lookup n).getD 0)∈zaW env names acc
 | (x,k)::r,acc,n,h=>by
  unfold zaW;rcases List.mem_cons.mp h with e | h
  .cases e;exact zgi List.mem_cons_self
  .split<;>exact zf4 h
theorem zdR:∀{names:List (Str×NameKind)} {m:Nat} {acc:List (Str×Addr)} {n:Str} {c:Addr},(n,c)∈cellsFrom m names acc->(n,c)∈acc\/((n, .cell)∈names/\m<=c)
 | [],_,_,_,_,h=> .inl h
 | (x,k)::r,m,acc,n,c,h=>by
  unfold cellsFrom at h;cases hk:k==NameKind.cell with
  | true =>
   rw[hk] at h;simp only[if_true] at h;have ek:k= .cell:=by simpa using hk
   subst ek;rcases zdR h with h | h
   .rcases List.mem_cons.mp h with e | h
    .cases e;exact .inr ⟨List.mem_cons_self,Nat.le_refl _⟩
    .exact .inl h
   .exact .inr ⟨List.mem_cons_of_mem _ h.1,Nat.le_of_succ_le h.2⟩
  | false =>
   rw[hk] at h;simp only[Bool.false_eq_true,if_false] at h;rcases zdR h with h | h
   .exact .inl h
   .exact .inr ⟨List.mem_cons_of_mem _ h.1,h.2⟩
theorem zbK:∀{names:List (Str×NameKind)} {m:Nat} {acc:List (Str×Addr)} {p:Str×Addr},p∈acc->p∈cellsFrom m names acc
 | [],_,_,_,h=>h
 | (x,k)::r,m,acc,p,h=>by
  unfold cellsFrom;split
  .exact zbK (List.mem_cons_of_mem _ h)
  .exact zbK h
theorem zfT:∀{names:List (Str×NameKind)} {m:Nat} {acc:List (Str×Addr)} {n:Str},(n, .cell)∈names->∃c,(n,c)∈cellsFrom m names acc
 | (x,k)::r,m,acc,n,h=>by
  unfold cellsFrom;rcases List.mem_cons.mp h with e | h
  .cases e;exact⟨m,zbK List.mem_cons_self⟩
  .split<;>exact zfT h
theorem zaL{α:Type}:∀{l:List (Str×α)} {n:Str} {c:α},(n,c)∈l->∃c',l.lookup n=some c'/\(n,c')∈l
 | (k,v)::r,n,c,h=>by
  rw[List.lookup_cons];cases hb:n==k with
  | true=>exact⟨v,rfl,by rw[beq_iff_eq.mp hb];exact List.mem_cons_self⟩
  | false =>
   rcases List.mem_cons.mp h with e | h
   .cases e;simp at hb
   .obtain⟨c',e,m⟩:=zaL h;exact⟨c',e,List.mem_cons_of_mem _ m⟩
theorem zgF{α:Type}:∀{l:List (Str×α)} {n:Str} {a b:α},(l.map (·.1)).Nodup->(n,a)∈l->(n,b)∈l->a=b
 | x::r,n,a,b,nd,h,h'=>by
  rw[List.map_cons,List.nodup_cons] at nd;have no:∀c,(n,c)∈r->n≠x.1:=fun c hc e=>nd.1 (by rw[<- e];exact List.mem_map_of_mem (f:=(·.1)) hc)
  rcases List.mem_cons.mp h with e | h<;>rcases List.mem_cons.mp h' with e' | h'
  .rw[<- e] at e';cases e';rfl
  .exact absurd (by rw[<- e]) (no b h')
  .exact absurd (by rw[<- e']) (no a h)
  .exact zgF nd.2 h h'
theorem zie{α:Type}{l:List (Str×α)}{n:Str}{a:α}(nd:(l.map (·.1)).Nodup)(h:(n,a)∈l):l.lookup n=some a:=by
 obtain⟨c,e,m⟩:=zaL h;rw[e,zgF nd h m]
theorem zcT:∀{names:List (Str×NameKind)} {m:Nat} {acc:List (Str×Addr)},(∀p∈acc,p.2 < m)->(∀n n' c,(n,c)∈acc->(n',c)∈acc->n=n') ->
  ∀n n' c,(n,c)∈cellsFrom m names acc->(n',c)∈cellsFrom m names acc->n=n'
 | [],_,_,_,h,n,n',c,a,b=>h n n' c a b
 | (x,k)::r,m,acc,lt,h,n,n',c,a,b=>by
  unfold cellsFrom at a b;cases hk:k==NameKind.cell with
  | true =>
   rw[hk] at a b;simp only[if_true] at a b;refine zcT (m:=m+1) (acc:=(x,m)::acc) (fun p hp=>?_) (fun n n' c a b=>?_) n n' c a b
   .rcases List.mem_cons.mp hp with rfl | hp
    .exact Nat.lt_succ_self _
    .exact Nat.lt_succ_of_lt (lt p hp)
   .rcases List.mem_cons.mp a with e | a<;>rcases List.mem_cons.mp b with e' | b
    .cases e;cases e';rfl
    .cases e;exact absurd (lt _ b) (Nat.lt_irrefl _)
    .cases e';exact absurd (lt _ a) (Nat.lt_irrefl _)
    .exact h n n' c a b
  | false =>
   rw[hk] at a b;simp only[Bool.false_eq_true,if_false] at a b;exact zcT lt h n n' c a b
theorem zcq:∀(names:List (Str×NameKind)) (h:Heap) (acc:List (Str×Addr)) (n:Str) (c:Addr),(n,c)∈cellsFrom h.objs.size names acc->(n,c)∈acc\/(pushCells h names).IsCell c none
 | [],_,_,_,_,h=> .inl h
 | (x,k)::r,h,acc,n,c,hm=>by
  unfold cellsFrom at hm;unfold pushCells;cases hk:k==NameKind.cell with
  | true =>
   rw[hk] at hm;simp only[if_true] at hm ⊢;rw[show h.objs.size+1=(h.push { cls:= .type "cell",data:= .cell none }).objs.size from (Heap.size_push ..).symm] at hm;rcases zcq r _ _ n c hm with h1 | h1
   .rcases List.mem_cons.mp h1 with e | h1
    .cases e;exact .inr (Heap.IsCell.keeps ⟨_,Heap.get?_push_size _ rfl,rfl⟩ (pushCells_keeps r _))
    .exact .inl h1
   .exact .inr h1
  | false =>
   rw[hk] at hm;simp only[Bool.false_eq_true,if_false] at hm ⊢;exact zcq r h acc n c hm
def zcK(scope:Scope)(C:Addr)(env:Env):Env:=compEnvC scope (cellsFrom (C+1) scope.names (zaW env scope.names [])) C env
theorem zoe{M:Model}{A:Around}{E:Value->Shared->Prop}{s:Shared}{scope:Scope}{globals:Addr}{cl:List (Str×Addr)}{qual:Str}{env:Env}{Q:Env->Shared->Prop}
  (h:Q (newEnv scope s.heap.objs.size globals (cellsFrom (s.heap.objs.size+1) scope.names cl) qual none .none (some env) builtinsNs) { s with heap:=pushCells (s.heap.push { cls:= .type "dict",data:= .dict #[] }) scope.names }) :
  wpAny M A (newFunctionEnv scope globals cl [] qual none .none (some env)) Q E s:=by
 simp only[newFunctionEnv,Option.isSome_some,if_true];refine wpAny_bind (wpAny_alloc ?_);refine wpAny_bind (wpAny_layCells _ (fun name kind cells=>by cases hkc:kind==NameKind.cell<;>simp[hkc]) _ _ _ _ ?_);rw[show({ s with heap:=s.heap.push { cls:= .type "dict",data:= .dict #[] } }:Shared).heap.objs.size=s.heap.objs.size+1 from Heap.size_push ..];rw[List.forIn_nil];exact wpAny_bind (wpAny_pure (wpAny_pure h))
def zad(X:Cx)(N:List Str)(scope:Scope)(C:Addr)(s:Shared)(H:Hp)(ex:List Addr):Cx where
 prog:=X.prog
 w:=X.w
 K:=X.K
 mg:=X.mg
 base:=X.base
 A:=X.A
 N:=N
 s₀:=s
 H₀:=H
 env:=zcK scope C X.env
 outer:=X.stack
 stack:=X.stack
 ex:=ex
 fn:=fun x=>scope.names.lookup x==some .cell
 calm:=X.calm
 pn:=[]
 xe:=fun _ _=>False
structure zeS(X:Cx)(scope:Scope):Prop where
 kind:scope.kind= .function
 nd:(scope.names.map (·.1)).Nodup
 free:∀x∈scope.names,x.2= .free->(X.env.kindOf x.1=some .cell\/X.env.kindOf x.1=some .free)
def freeOk(sc:Scope)(scope:Scope):Bool:=scope.names.all fun x=>x.2 != .free||(sc.names.lookup x.1==some .cell||sc.names.lookup x.1==some .free)
theorem zeS.of{X:Cx}{scope:Scope}(k:scope.kind= .function)(nd:(scope.names.map (·.1)).Nodup)(f:freeOk X.env.scope scope=true):zeS X scope:=⟨k,nd,fun x hx e=>by
 have q:=List.all_eq_true.mp f x hx;rw[e] at q;show X.env.scope.names.lookup x.1=_\/X.env.scope.names.lookup x.1=_;simpa using q⟩
theorem zcb{env:Env}:∀{names:List (Str×NameKind)} {x:Str} {k:NameKind},
  (names.map fun(n,k)=>if (k==NameKind.free&&env.scope.kind== .function&&env.kindOf n==some .cell) then(n,NameKind.cell) else(n,k)).lookup x=some k ->
  (∃k',names.lookup x=some k'/\(k'=k\/(k'= .free/\k= .cell/\env.kindOf x=some .cell)))
 | [],_,_,h=>by simp at h
 | (n,k0)::r,x,k,h=>by
  rw[List.map_cons,List.lookup_cons] at h;rw[List.lookup_cons];have hn:(if (k0==NameKind.free&&env.scope.kind== .function&&env.kindOf n==some .cell)=true then(n,NameKind.cell) else(n,k0)).1=n:=by split<;>rfl
  dsimp only at h;rw[hn] at h;cases hx:x==n with
  | false =>
   rw[hx] at h;exact zcb h
  | true =>
   rw[hx] at h;simp only[Option.some.injEq] at h;refine⟨k0,rfl,?_⟩;have ex:x=n:=beq_iff_eq.mp hx;subst ex;by_cases hc:(k0==NameKind.free&&env.scope.kind== .function&&env.kindOf x==some .cell)=true
   .rw[if_pos hc] at h;simp only[Bool.and_eq_true,beq_iff_eq] at hc;exact .inr ⟨hc.1.1,h.symm,hc.2⟩
   .rw[if_neg hc] at h;exact .inl h
def zbs(σ:St)(fr:List Nat):St:=fr.map fun j=>(σ[j]?).join
theorem zsv{X:Cx}{pins:List (Addr×Obj)}{σ:St}{H:Hp}{s s3:Shared}{scope:Scope}{own free:List Str}{fr:List Nat}{ex:List Addr}(S:zeS X scope)
  (I:Inv X pins σ H s)(hex:∀b∈ex,zj2 X pins H b)(hob:∀b∈ex,∃o,s.heap.get? b=some o)(hfr:fr.map (fun j=>X.N[j]?)=free.map some)(hff:∀x∈free,scope.names.lookup x=some .free)
  (hs3:∀b o,s.heap.get? b=some o->s3.heap.get? b=some o)(hsz:s.heap.objs.size<=s3.heap.objs.size)(ho:s3.os=s.os)(hg:s3.gens=s.gens) :
  Inv (zad X (own++free) scope s3.heap.objs.size s H ex) [] (own.map (fun _=>none)++zbs σ fr) H { s3 with heap:=pushCells (s3.heap.push { cls:= .type "dict",data:= .dict #[] }) scope.names }:=by
 have hsome:∀x∈scope.names,x.2= .free->∃c,X.env.cells.lookup x.1=some c:=fun x hx e=>I.ok.has x.1 (S.free x hx e)
 have keep:∀b o,s3.heap.get? b=some o->(pushCells (s3.heap.push { cls:= .type "dict",data:= .dict #[] }) scope.names).get? b=some o:=fun b o e=>pushCells_keeps _ _ b o (Heap.get?_push_of_some _ e)
 have hkeep:∀b o,s.heap.get? b=some o->(pushCells (s3.heap.push { cls:= .type "dict",data:= .dict #[] }) scope.names).get? b=some o:=fun b o e=>keep b o (hs3 b o e)
 have cells:∀n c,(n,c)∈(zcK scope s3.heap.objs.size X.env).cells->((n,NameKind.free)∈scope.names/\X.env.cells.lookup n=some c)\/((n,NameKind.cell)∈scope.names/\s3.heap.objs.size+1<=c/\(pushCells (s3.heap.push { cls:= .type "dict",data:= .dict #[] }) scope.names).IsCell c none):=fun n c h=>by
  have h':(n,c)∈cellsFrom (s3.heap.objs.size+1) scope.names (zaW X.env scope.names []):=h;have hc:=zdR h';have e:=zcq scope.names (s3.heap.push { cls:= .type "dict",data:= .dict #[] }) (zaW X.env scope.names []) n c (by rw[Heap.size_push];exact h');have fromClos:(n,c)∈zaW X.env scope.names []->(n,NameKind.free)∈scope.names/\X.env.cells.lookup n=some c:=fun hm=>by
   rcases zcs hm with h | ⟨hn,rfl⟩
   .exact absurd h (by simp)
   .obtain⟨c',ec⟩:=hsome _ hn rfl;rw[ec];exact⟨hn,rfl⟩
  rcases hc with hc | hc
  .exact .inl (fromClos hc)
  .rcases e with e | e
   .exact .inl (fromClos e)
   .exact .inr ⟨hc.1,hc.2,e⟩
 have cell_lt:∀n c,X.env.cells.lookup n=some c->c < s.heap.objs.size:=fun n c e=>by
  obtain⟨v,o,ho,_⟩:=I.cell n c e;exact Heap.lt_size ho
 have apart:∀n n' c,(n,c)∈(zcK scope s3.heap.objs.size X.env).cells->(n',c)∈(zcK scope s3.heap.objs.size X.env).cells->n=n':=fun n n' c a b=>by
  refine zcT (acc:=zaW X.env scope.names []) (m:=s3.heap.objs.size+1) (fun p hp=>?_) (fun n n' c a b=>?_) n n' c a b
  .obtain⟨n,c⟩:=p;rcases zcs hp with h | ⟨hn,e⟩
   .exact absurd h (by simp)
   .obtain⟨c',ec⟩:=hsome _ hn rfl;rw[ec] at e;cases e;exact Nat.lt_succ_of_lt (Nat.lt_of_lt_of_le (cell_lt n _ ec) hsz)
  .rcases zcs a with h | ⟨hn,e⟩
   .exact absurd h (by simp)
   .rcases zcs b with h | ⟨hn',e'⟩
    .exact absurd h (by simp)
    .obtain⟨c1,e1⟩:=hsome _ hn rfl;obtain⟨c2,e2⟩:=hsome _ hn' rfl;have e1':X.env.cells.lookup n=some c1:=e1;have e2':X.env.cells.lookup n'=some c2:=e2;rw[e1'] at e;rw[e2'] at e';exact I.ok.inj n n' c (by rw[e1',e];rfl) (by rw[e2',e'];rfl)
 have vis:∀x,((zcK scope s3.heap.objs.size X.env).kindOf x=some .cell\/(zcK scope s3.heap.objs.size X.env).kindOf x=some .free)->(x,NameKind.cell)∈scope.names\/(x,NameKind.free)∈scope.names:=fun x h=>by
  rcases h with h | h
  .obtain⟨k',e,q⟩:=zcb h;rcases q with q | q
   .exact .inl (by rw[<- q];exact PySem.mem_of_lookup e)
   .exact .inr (by rw[<- q.1];exact PySem.mem_of_lookup e)
  .obtain⟨k',e,q⟩:=zcb h;rcases q with q | q
   .exact .inr (by rw[<- q];exact PySem.mem_of_lookup e)
   .exact .inr (by rw[<- q.1];exact PySem.mem_of_lookup e)
 have fsub:∀b∈frs X.stack,b=X.env.locals\/b∈X.fs:=fun b hb=>by
  have:=I.stkSub b hb;simpa using this
 have fresh:∀b,s.heap.objs.size<=b->s.heap.get? b=none:=fun b hb=>by
  cases e:s.heap.get? b with
  | none=>rfl
  | some o=>exact absurd (Heap.lt_size e) (Nat.not_lt.mpr hb)
 have exlt:∀b∈ex,b < s.heap.objs.size:=fun b hb=>by obtain⟨o,e⟩:=hob b hb;exact Heap.lt_size e
 refine⟨⟨I.ok.mod,S.kind,I.ok.glob,I.ok.blt,hsz,fun x y c a b=>apart x y c (PySem.mem_of_lookup a) (PySem.mem_of_lookup b),fun x hx=>?_,fun x c hx hc=>?_,I.ok.hd,I.ok.frames, .inl rfl,fun b hb=>?_,I.bs,?_,fun b o e hb=>?_,fun b hb hf=>?_,I.stack,I.stkFree⟩,
  ho,?_,Un.kept hkeep,?_,fun x c hc=>?_,I.hok.fresh hsz,fun x c hc=>?_,fun p hp=>absurd hp (by simp[zad]),I.hok.kept hkeep,?_⟩
 .rcases vis x hx with h | h
  .obtain⟨c,hc⟩:=zfT (m:=s3.heap.objs.size+1) (acc:=zaW X.env scope.names []) h;obtain⟨c',e,_⟩:=zaL hc;exact⟨c',e⟩
  .obtain⟨c',e,_⟩:=zaL (zbK (names:=scope.names) (m:=s3.heap.objs.size+1) (zf4 (env:=X.env) (acc:=[]) h));exact⟨c',e⟩
 .have hx':scope.names.lookup x=some .cell:=by simpa [zad] using hx
  rcases cells x c (PySem.mem_of_lookup hc) with h | h
  .have:=zgF S.nd h.1 (PySem.mem_of_lookup hx');cases this
  .show s.heap.objs.size<=c;omega
 .refine⟨Nat.ne_of_lt (Nat.lt_of_lt_of_le (exlt b hb) hsz),fun x c hc=>?_⟩;rcases cells x c (PySem.mem_of_lookup hc) with h | h
  .exact(hex b hb).2.2.2.2.1 x c h.2
  .have:=exlt b hb;intro e;have e':Nat.lt c s.heap.objs.size:=by rw[e];exact this
   exact absurd (Nat.lt_of_lt_of_le e' hsz) (Nat.not_lt.mpr (Nat.le_of_succ_le h.2.1))
 .exact Nat.le_trans I.ok.bsz I.sz
 .have hb':b∈ex:=hb;rcases(hex b hb').2.2.2.1 with h | h
  .exact I.ok.noex b o e h
  .exact absurd (Heap.lt_size (I.ok.bs b o e).1) (Nat.not_lt.mpr h)
 .have hb':b∈ex:=hb;rcases fsub b hf with h | h
  .exact(hex b hb').2.1 h
  .exact(hex b hb').2.2.1 h
 .show AllBare s3.gens;rw[hg];exact I.bare
 .
  refine⟨_,(Heap.Ns.new s3.heap (.type "dict")).keeps (pushCells_keeps _ _),fun i x v hi hv vx=>?_⟩;have hN:(own++free)[i]? = some x:=hi;have hio:own.length<=i:=by
   rcases Nat.lt_or_ge i own.length with h | h
   .rw[List.getElem?_append_left (by simpa using h),List.getElem?_map,List.getElem?_eq_getElem h] at hv;cases hv
   .exact h
  rw[List.getElem?_append_right hio] at hN;rw[List.getElem?_append_right (by simpa using hio)] at hv;simp only[List.length_map] at hv;unfold zbs at hv;rw[List.getElem?_map] at hv;have hx2:=hff x (List.mem_of_getElem? hN);have hmem:(x,NameKind.free)∈scope.names:=PySem.mem_of_lookup hx2;cases ej:fr[i - own.length]? with
  | none=>rw[ej] at hv;cases hv
  | some j =>
   rw[ej] at hv;simp only[Option.map_some,Option.some.injEq] at hv;have hj:X.N[j]? = some x:=by
    have q:=congrArg (fun l=>l[i - own.length]?) hfr;simp only[List.getElem?_map,ej,hN,Option.map_some,Option.some.injEq] at q;exact q
   have hσ:σ[j]? = some (some v):=by
    cases e:σ[j]? with
    | none=>rw[e] at hv;cases hv
    | some w=>rw[e] at hv;simp at hv;rw[hv]
   obtain⟨m,hm,hl⟩:=I.loc;have kx:=S.free _ hmem rfl;obtain⟨u,ru,lk⟩:=hl j x v hj hσ (by rcases kx with k | k;exact .inr (.inl k);exact .inr (.inr k));refine⟨u,ru,?_⟩;rcases lk with⟨k,_⟩ | ⟨_,c,hc,hcell⟩
   .rcases kx with q | q<;>(have q':X.env.kindOf x=_:=q;rw[k] at q';cases q')
   .obtain⟨c',e',m'⟩:=zaL (zbK (names:=scope.names) (m:=s3.heap.objs.size+1) (zf4 (env:=X.env) (acc:=[]) hmem));have hcc:c'=c:=by
     rcases cells x c' m' with h | h
     .rw[h.2] at hc;cases hc;rfl
     .have:=zgF S.nd h.1 hmem;cases this
    subst hcc;refine .inr ⟨?_,c',e',hcell.keeps hkeep⟩;rcases vx with q | q | q
    .obtain⟨k',ek,qq⟩:=zcb (env:=X.env) (names:=scope.names) q;rw[hx2] at ek;cases ek;rcases qq with qq | qq
     .cases qq
     .cases qq.2.1
    .exact .inl q
    .exact .inr q
 .rcases cells x c (PySem.mem_of_lookup hc) with h | h
  .obtain⟨v,hv⟩:=I.cell x c h.2;exact⟨v,hv.keeps hkeep⟩
  .exact⟨_,h.2.2⟩
 .rcases cells x c (PySem.mem_of_lookup hc) with h | h
  .exact I.freeC x c h.2
  .exact I.hok.fresh (by omega)
 .show _=(own++free).length;have q:=congrArg List.length hfr;simp only[List.length_map] at q;simp[zbs,q]
def PTs(X:Cx)(ifs:List Expr)(t:TT):Prop :=
 ∀(pins:List (Addr×Obj)) (s:Shared) (σ:St) (H:Hp) (Q:Bool->Hp->Prop),Inv X pins σ H s->t σ H Q ->
  wpAny (model X.prog X.w) X.A (forIn ifs true fun c r=>if r=true then do let ok<-isTrue c X.env (eval c X.env);pure (ForInStep.yield ok) else pure (ForInStep.yield r)) (TP X pins σ Q) X.xe s
def zx1:TT:=fun _ H Q=>Q true H
theorem zu3{X:Cx}:PTs X [] zx1:=fun pins s σ H Q I h=>wpAny_tests_nil ⟨H,I,h⟩
theorem ztS{X:Cx}{c:Expr}{t:TT}(h:PT X c t):PTs X [c] t:=fun pins s σ H Q I q=>wpAny_tests_one (h pins s σ H Q I q)
theorem zl4{prog:Program}{w:World}{A:Around}{R:Result->Shared->Prop}{s:Shared}{elt target iter:Expr}{ifs:List Expr}{scope:Scope}{pos:Pos}{it acc:Value}{env:Env}(I:Nat->Shared->Prop)
  (turn:∀n s,I n s->wpAny (model prog w) A (pyNext it) (fun r s₁=>match r with
   | none=>R (.ok .next) s₁
   | some v=>wpAny (model prog w) A (letOwnedTupleGo target it v) (fun _ s₁'=>wpAny (model prog w) A (assign target env v) (fun _ s₂ =>
     wpAny (model prog w) A (forIn ifs true fun c r=>if r=true then do let ok<-isTrue c env (eval c env);pure (ForInStep.yield ok) else pure (ForInStep.yield r)) (fun ok s₃ =>
      if ok=true then wpAny (model prog w) A (eval elt env) (fun x s₄ =>
       wpAny (model prog w) A (call (.builtin "list.append") [acc,x]) (fun _ s₅=>∃m,m < n/\I m s₅) (notedBy (model prog w) A env fun e s'=>R (.error e) s') s₄) (notedBy (model prog w) A env fun e s'=>R (.error e) s') s₃
      else ∃m,m < n/\I m s₃) (notedBy (model prog w) A env fun e s'=>R (.error e) s') s₂) (notedBy (model prog w) A env fun e s'=>R (.error e) s') s₁') (notedBy (model prog w) A env fun e s'=>R (.error e) s') s₁) (notedBy (model prog w) A env fun e s'=>R (.error e) s') s)
  (n:Nat) (h:I n s) :
  codeAny (model prog w) A (.compLoop (.ListComp elt [⟨target,iter,ifs,0⟩] scope pos) 0 it acc env) R s:=by
 refine codeAny_loop rfl I (fun n s hI=>?_) n h;show wpAny _ A ((compTurn (.ListComp elt [⟨target,iter,ifs,0⟩] scope pos) 0 it acc env).onRaise (fun x=>do noteFrame x env;theTreesLotGoes x)) _ _ s;refine wpAny_noted ?_;rw[compTurn_list];refine wpAny_bind (wpAny_standAt (wpAny_bind (wpAny_mono (turn n s hI) (fun r s₁ h₁=>?_) fun _ _ h'=>h')));cases r with
 | none=>exact wpAny_pure h₁
 | some v =>
  refine wpAny_bind (wpAny_mono h₁ (fun _ s₁' h₁'=>?_) fun _ _ h'=>h');refine wpAny_bind (wpAny_mono h₁' (fun _ s₂ h₂=>wpAny_bind (wpAny_mono h₂ (fun ok s₃ h₃=>?_) fun _ _ h'=>h')) fun _ _ h'=>h');cases ok with
  | false=>exact wpAny_pure ⟨rfl,h₃⟩
  | true =>
   exact wpAny_bind (wpAny_bind (wpAny_mono h₃ (fun x s₄ h₄=>wpAny_bind (wpAny_mono h₄ (fun _ s₅ h₅=>wpAny_pure (wpAny_pure ⟨rfl,h₅⟩)) fun _ _ h'=>h')) fun _ _ h'=>h'))
def Sub(σ σ2:St):Prop:=σ.length=σ2.length/\∀(i:Nat) v,σ[i]? = some (some v)->σ2[i]? = some (some v)
abbrev lobj(its:List Value)(n:Nat):Obj:={ cls:= .type "list",data:= .seq its.toArray n }
section
variable{X:Cx}{tg iter elt:Expr}{ifs:List Expr}{scope:Scope}{pos:Pos}{own free:List Str}{fr:List Nat}
def zhE(J:It)(g:TG)(tc:TT)(te:TE)(σb:St)(Fin:List V->Hp->Prop)(W:Nat->Nat->List V->Hp->Prop):Prop :=
 ∀i m ys H,W i m ys H->(J.stop i H/\Fin ys H)\/(J.go i H/\ys.length < sizeLine/\∃N:List V->Hp->Prop,(∀ys' H',N ys' H'->∃m',m' < m/\W (i+1) m' ys' H')/\∀x H',J.yld i H x H'->g x σb H' fun σ2 H3=>Sub σb σ2/\tc σ2 H3 fun b H4 =>
  if b=true then te σ2 H4 fun v H5=>N (ys++[v]) H5 else N ys H4)
theorem zm9{pins:List (Addr×Obj)}{σ:St}{H2:Hp}{s2:Shared}{J:It}{fp:List Addr}{it:Addr}{tn:Nat->Heap->Prop}{g:TG}{tc:TT}{te:TE}{Fin:List V->Hp->Prop}{W:Nat->Nat->List V->Hp->Prop}{m0:Nat}
  {RR:Value->Addr->Result->Shared->Prop}{E:Value->Shared->Prop}
  (S:zeS X scope)(hc:X.calm=true)(hfr:fr.map (fun j=>X.N[j]?)=free.map some)(hff:∀x∈free,scope.names.lookup x=some .free)
  (hg:∀C s H ex,PG (zad X (own++free) scope C s H ex) tg g)(ht:∀C s H ex,PTs (zad X (own++free) scope C s H ex) ifs tc)(he:∀C s H ex,PE (zad X (own++free) scope C s H ex) elt te)
  (I2:Inv X pins σ H2 s2)(T:Turn X.prog X.w X.K tg J fp it tn)(st2:tn 0 s2.heap)(f2:∀b∈fp,zj2 X pins H2 b)
  (w0:W 0 m0 [] H2)(turn:zhE J g tc te (own.map (fun _=>none)++zbs σ fr) Fin W)
  (hRR:∀D C its n ys H' s',Inv (zad X (own++free) scope C s2 H2 fp) [(D,lobj its n)] (own.map (fun _=>none)++zbs σ fr) H' s'->Vals ys its->ys.length<=sizeLine->Fin ys H'->s2.heap.objs.size<=D->RR (.ref D) C (.ok .next) s') :
  wpAny (model X.prog X.w) X.A (newList []) (fun acc s₃=>wpAny (model X.prog X.w) X.A (newFunctionEnv scope X.env.globals (zaW X.env scope.names []) [] X.env.qual none .none (some X.env)) (fun cenv s₄ =>
   codeAny (model X.prog X.w) X.A (.compStart (.ListComp elt [⟨tg,iter,ifs,0⟩] scope pos) 0 (.ref it) acc { cenv with scope:=relabel scope X.env }) (RR acc cenv.locals) s₄) E s₃) E s2:=by
 refine wpAny_newObj_type (zoe ?_);have hob:∀b∈fp,∃o,s2.heap.get? b=some o:=fun b hb=>by obtain⟨o,e,_⟩:=T.obj _ _ st2 b hb;exact⟨o,e⟩
 have fplt:∀b∈fp,b < s2.heap.objs.size:=fun b hb=>by obtain⟨o,e⟩:=hob b hb;exact Heap.lt_size e
 generalize hs3:({ s2 with heap:=s2.heap.push { cls:= .type "list",dict:=none,data:= .seq ([]:List Value).toArray } }:Shared)=s3
 have hh3:s3.heap=s2.heap.push (lobj [] 0):=by rw[<- hs3]
 have hC:s3.heap.objs.size=s2.heap.objs.size+1:=by rw[hh3,Heap.size_push]
 have keep3:∀b o,s2.heap.get? b=some o->s3.heap.get? b=some o:=fun b o e=>by rw[hh3];exact Heap.get?_push_of_some _ e
 have I3:=zsv (own:=own) (ex:=fp) (s3:=s3) S I2 f2 hob hfr hff keep3 (by rw[hC];exact Nat.le_succ _) (by rw[<- hs3]) (by rw[<- hs3]);generalize hs4:({ s3 with heap:=pushCells (s3.heap.push { cls:= .type "dict",data:= .dict #[] }) scope.names }:Shared)=s4 at I3
 have keep4:∀b o,s3.heap.get? b=some o->s4.heap.get? b=some o:=fun b o e=>by rw[<- hs4];exact pushCells_keeps _ _ b o (Heap.get?_push_of_some _ e)
 have hD4:s4.heap.get? s2.heap.objs.size=some (lobj [] 0):=keep4 _ _ (by rw[hh3];exact Heap.get?_push_size _ rfl);have nf:s2.heap.objs.size∉frs X.stack:=fun hb=>by
  obtain⟨_,o,e,_⟩:=I2.stack.mem hb;exact absurd (Heap.lt_size e) (Nat.lt_irrefl _)
 have hDC:s2.heap.objs.size≠s3.heap.objs.size:=by rw[hC];exact Nat.ne_of_lt (Nat.lt_succ_self _)
 have cellD:∀{P:List (Addr×Obj)} {σ' H' s'} {its:List Value} {n:Nat},Inv (zad X (own++free) scope s3.heap.objs.size s2 H2 fp) P σ' H' s'->s'.heap.get? s2.heap.objs.size=some (lobj its n)->∀x c,(zcK scope s3.heap.objs.size X.env).cells.lookup x=some c->c≠s2.heap.objs.size:=fun I e x c hc z=>by
  obtain⟨v,o,eo,ed⟩:=I.cell x c hc;rw[z,e] at eo;cases eo;cases ed
 have pinD:∀{σ' H' s'} {its:List Value} {n:Nat},Inv (zad X (own++free) scope s3.heap.objs.size s2 H2 fp) [] σ' H' s'->s'.heap.get? s2.heap.objs.size=some (lobj its n)->H' s2.heap.objs.size=none ->
   Inv (zad X (own++free) scope s3.heap.objs.size s2 H2 fp) [(s2.heap.objs.size,lobj its n)] σ' H' s':=fun{σ' H' s' its n} I e hn=>I.pins_of fun p hp=>by
  have hp':p=(s2.heap.objs.size,lobj its n):=List.mem_singleton.mp hp;subst hp';exact⟨e,hn,hDC,nf,fun v=>by intro z;cases z⟩
 have I4:=pinD I3 hD4 (I2.hok.fresh (Nat.le_refl _));have fpOk:∀{σ' H' s'} {its:List Value} {n:Nat},Inv (zad X (own++free) scope s3.heap.objs.size s2 H2 fp) [(s2.heap.objs.size,lobj its n)] σ' H' s'->(∀b∈fp,H' b=none)->∀b∈fp,zj2 (zad X (own++free) scope s3.heap.objs.size s2 H2 fp) [(s2.heap.objs.size,lobj its n)] H' b:=fun{σ' H' s' its n} I hn b hb=>by
  refine⟨hn b hb,(I.ok.exf b hb).1,I.ok.exfs b hb, .inl hb,(I.ok.exf b hb).2,fun p hp=>?_⟩;have hp':p=(s2.heap.objs.size,lobj its n):=List.mem_singleton.mp hp;subst hp';exact Ne.symm (Nat.ne_of_lt (fplt b hb))
 have stn4:tn 0 s4.heap:=T.keep _ _ _ st2 fun b hb o e=>keep4 b o (keep3 b o e)
 have loop:∀s',s'=s4->codeAny (model X.prog X.w) X.A (.compLoop (.ListComp elt [⟨tg,iter,ifs,0⟩] scope pos) 0 (.ref it) (.ref s2.heap.objs.size) (zcK scope s3.heap.objs.size X.env)) (RR (.ref s2.heap.objs.size) s3.heap.objs.size) s':=by
  rintro s' rfl;refine zl4 (fun k s'=>∃i ys its n H',Inv (zad X (own++free) scope s3.heap.objs.size s2 H2 fp) [(s2.heap.objs.size,lobj its n)] (own.map (fun _=>none)++zbs σ fr) H' s'/\tn i s'.heap/\(∀b∈fp,H' b=none)/\Vals ys its/\ys.length<=sizeLine/\W i k ys H') ?_ m0
   ⟨0,[],[],0,H2,I4,stn4,fun b hb=>(f2 b hb).1, .nil,Nat.zero_le _,w0⟩
  rintro k s5 ⟨i,ys,its,n,H5,I5,st5,fr5,r5,len5,w5⟩;rcases turn i k ys H5 w5 with⟨stop,fin⟩ | ⟨go,hlt,N,hN,step⟩
  .refine wpAny_mono (T.done (zad X (own++free) scope s3.heap.objs.size s2 H2 fp) rfl rfl rfl hc i _ s5 _ H5 (fun _ _=>False) I5 (fpOk I5 fr5) st5 stop) (fun r s6 ⟨hr,I6⟩=>?_) fun _ _ f=>f.elim
   subst hr;exact hRR _ _ its n ys H5 s6 I6 r5 len5 fin (Nat.le_refl _)
  .refine wpAny_mono (T.item (zad X (own++free) scope s3.heap.objs.size s2 H2 fp) rfl rfl rfl hc i _ s5 _ H5 (fun _ _=>False) I5 (fpOk I5 fr5) st5 go) (fun r s6 ⟨u,hr,h6⟩=>?_) fun _ _ f=>f.elim
   subst hr;refine wpAny_mono h6 (fun _ s7 ⟨x,H7,I7,r7,y7,st7,fr7⟩=>?_) fun _ _ f=>f.elim
   have I7':=I7.pinned (fpOk I7 fr7) (T.obj _ _ st7);refine wpAny_mono (hg _ _ _ _ _ s7 _ H7 x u _ I7' r7 (step x H7 y7)) (fun _ s8 ⟨σ8,H8,I8,sub8,q8⟩=>?_) fun _ _ f=>f.elim
   refine wpAny_mono (ht _ _ _ _ _ s8 σ8 H8 _ I8 q8) (fun b s9 ⟨H9,I9,q9⟩=>?_) fun _ _ f=>f.elim
   have back:∀{H' s'},Inv (zad X (own++free) scope s3.heap.objs.size s2 H2 fp) ([(s2.heap.objs.size,lobj its n)]++zed fp s7.heap) σ8 H' s'->tn (i+1) s'.heap/\(∀b∈fp,H' b=none):=fun{H' s'} I=>by
    refine⟨T.keep _ _ _ st7 fun b hb o e=>(I.pin (b,o) (List.mem_append_right _ (List.mem_append_right _ (zet hb e)))).1,fun b hb=>?_⟩;obtain⟨o,e,d⟩:=T.obj _ _ st7 b hb;exact(I.pin (b,o) (List.mem_append_right _ (List.mem_append_right _ (zet hb e)))).2.1
   cases b with
   | false =>
    obtain⟨m',hm,w9⟩:=hN _ _ q9;obtain⟨st9,fr9⟩:=back I9;exact⟨m',hm,i+1,ys,its,n,H9,I9.unpinned.weak sub8.1 sub8.2,st9,fr9,r5,len5,w9⟩
   | true =>
    refine wpAny_mono (he _ _ _ _ _ s9 σ8 H9 _ I9 q9) (fun v s10 ⟨y,H10,I10,r10,q10⟩=>?_) fun _ _ f=>f.elim
    obtain⟨m',hm,w10⟩:=hN _ _ q10;obtain⟨st10,fr10⟩:=back I10;have pD:=I10.pin (s2.heap.objs.size,lobj its n) (List.mem_append_right _ (List.mem_append_left _ List.mem_cons_self));refine append_at (hsz:=by rw[List.size_toArray,<- r5.length];exact len5) pD.1 fun h' hsb hnew=>?_
    have J0:Inv (zad X (own++free) scope s3.heap.objs.size s2 H2 fp) (zed fp s7.heap) σ8 H10 s10:=I10.pins_of fun p hp=>I10.pin p (by
     have hp':p∈zed fp s7.heap:=by simpa [zad] using hp
     exact List.mem_append_right _ (List.mem_append_right _ hp'))
    have J1:Inv (zad X (own++free) scope s3.heap.objs.size s2 H2 fp) (zed fp s7.heap) σ8 H10 { s10 with heap:=h' }:=J0.turned (it:=s2.heap.objs.size) (t':=s10.toks) (fun b o hb e=>hsb.extBut b o hb e) pD.2.1 hDC (.inr (Nat.le_refl _)) (cellD J0 pD.1) (fun p hp=>by
     have hp':p∈zed fp s7.heap:=by simpa [zad] using hp
     exact Nat.ne_of_lt (fplt _ (zkM hp').1))
    have J2:Inv (zad X (own++free) scope s3.heap.objs.size s2 H2 fp) [] σ8 H10 { s10 with heap:=h' }:=J1.pins_of fun p hp=>absurd hp (by simp[zad])
    have st11:tn (i+1) h':=T.keep _ _ _ st10 fun b hb o e=>hsb.extBut b o (Nat.ne_of_lt (fplt b hb)) e
    have e11:h'.get? s2.heap.objs.size=some (lobj (its++[v]) (n+1)):=by rw[hnew,List.push_toArray]
    refine⟨m',hm,i+1,ys++[y],its++[v],n+1,H10,(pinD J2 e11 pD.2.1).weak sub8.1 sub8.2,st11,fr10,r5.append (.cons r10 .nil),?_,w10⟩;rw[List.length_append,List.length_singleton];exact hlt
 refine codeAny_compStart_list (loop _ rfl) (T.self X.A 0 _ _ _ stn4 (loop _ rfl))
theorem zmQ{pins:List (Addr×Obj)}{σ σ':St}{H2 H':Hp}{s2 s':Shared}{fp:List Addr}{C D:Addr}{its:List Value}{n:Nat}{ys:List V}{N:List Str}{h'':Heap}
  (I2:Inv X pins σ H2 s2)(f2:∀b∈fp,zj2 X pins H2 b)(I:Inv (zad X N scope C s2 H2 fp) [(D,lobj its n)] σ' H' s')(r:Vals ys its)(hz:ys.length<=sizeLine)(hD:s2.heap.objs.size<=D)(hs:Heap.SameBut C s'.heap h'') :
  Inv X pins σ (upd H' D (.lst ys)) { s' with heap:=h'' }/\H' D=none:=by
 have pD:=I.pin (D,lobj its n) (List.mem_append_right _ List.mem_cons_self);have hCs:s2.heap.objs.size<=C:=I.ok.above;have hDC:D≠C:=pD.2.2.1;have u:Un (frs X.stack) fp H2 H' s2.heap s'.heap:=I.base;have lt2:∀b o,s2.heap.get? b=some o->b≠C/\b≠D:=fun b o e=>by
  have:=Heap.lt_size e;exact⟨Nat.ne_of_lt (Nat.lt_of_lt_of_le this hCs),Nat.ne_of_lt (Nat.lt_of_lt_of_le this hD)⟩
 have tD:∀b o,H2 b=some o->b≠D:=fun b o e z=>by
  have:=I2.hok.lt e;rw[z] at this;exact absurd this (Nat.not_lt.mpr hD)
 have hC':∀b o,H' b=some o->b≠C:=fun b o e z=>by
  have:=I.free;rw[show(zad X N scope C s2 H2 fp).env.locals=C from rfl,<- z,e] at this;cases this
 have hok1:HOk X.prog X.w H' h'':=fun a o e=>(I.hok a o e).stay (fun b ob hb eb=>by
   rcases hb with hb | hb
   .rw[hb];rw[hb] at eb;exact hs.extBut _ _ (hC' a o e) eb
   .exact hs.extBut _ _ (hC' b _ hb) eb) (fun _ h=>h) (fun _ _ h=>h)
 have oD:h''.get? D=some (lobj its n):=hs.extBut _ _ hDC pD.1;have hok:HOk X.prog X.w (upd H' D (.lst ys)) h'':=fun a o e=>by
  by_cases ha:a=D
  .subst ha;rw[zH] at e;cases e;exact⟨hz,its,n,r,oD⟩
  .rw[zJ ha] at e;refine(hok1 a o e).stay (fun b ob _ eb=>eb) (fun b h=>?_) (fun b xs h=>?_)
   .rw[zJ (fun z=>by rw[z,pD.2.1] at h;cases h)];exact h
   .rw[zJ (fun z=>by rw[z,pD.2.1] at h;cases h)];exact h
 have u2:Un (frs X.stack) fp H2 (upd H' D (.lst ys)) s2.heap h'' :=
  {keep:=fun b o e hn hf hx=>hs.extBut b o (lt2 b o e).1 (u.keep b o e hn hf hx)
   slot:=fun b o e hn hf hx=>by
    obtain⟨sl,q⟩:=u.slot b o e hn hf hx;exact⟨sl,hs.extBut b _ (lt2 b o e).1 q⟩
   free:=fun b o e hn hx=>by rw[zJ (lt2 b o e).2];exact u.free b o e hn hx
   there:=fun b o e hx=>by
    obtain⟨o',q⟩:=u.there b o e hx;exact⟨o',hs.extBut b _ (lt2 b o e).1 q⟩
   tups:=fun b xs e=>by rw[zJ (tD b _ e)];exact u.tups b xs e
   frzs:=fun b o v e=>by rw[zJ (tD b _ e)];exact u.frzs b o v e
   tbls:=fun b ps e=>by rw[zJ (tD b _ e)];exact u.tbls b ps e }
 refine⟨I2.call' (s':={ s' with heap:=h'' }) (ch:=fp) I.os u2 hok I.bare fun b hb=>?_,pD.2.1⟩;have q:=f2 b hb;exact⟨q.2.2.2.1,q.2.1,q.2.2.2.2.1,q.2.2.2.2.2⟩
def znh(own:List Str)(fr:List Nat)(wi:TI)(g:TG)(tc:TT)(te:TE):TE:=fun σ H Q=>wi σ H fun J H1=>∃W:Nat->Nat->List V->Hp->Prop,(∃m,W 0 m [] H1) /\
 zhE J g tc te (own.map (fun _=>none)++zbs σ fr) (fun ys H'=>∀p,H' p=none->Q (.ref p) (upd H' p (.lst ys))) W
theorem ztY{wi:TI}{g:TG}{tc:TT}{te:TE}(own free:List Str)(fr:List Nat)(S:zeS X scope)(hc:X.calm=true)(hfr:fr.map (fun j=>X.N[j]?)=free.map some)(hff:∀x∈free,scope.names.lookup x=some .free)
  (hi:PI X tg iter wi)
  (hg:∀C s H ex,PG (zad X (own++free) scope C s H ex) tg g)(ht:∀C s H ex,PTs (zad X (own++free) scope C s H ex) ifs tc)(he:∀C s H ex,PE (zad X (own++free) scope C s H ex) elt te)
  (hs:∀x,foldedSetIterable iter X.env x=pure x:=by intro _;rfl) :
  PE X (.ListComp elt [⟨tg,iter,ifs,0⟩] scope pos) (znh own fr wi g tc te):=by
 intro pins s σ H Q I h;have hcl:closureFor scope X.env=pure (zaW X.env scope.names []):=zfP fun x hx e=>by
  obtain⟨c,hc⟩:=I.ok.has x.1 (S.free x hx e);rw[hc];rfl
 rw[eval_ListComp];refine wpAny_comprehension_free (use:=none) rfl hs hcl S.kind (fun x hx e=>by have:=zie S.nd (show(x.1,x.2)∈scope.names from hx);rw[this,e]) (thn (hi pins s σ H _ I h) fun v s1 h1=>thn h1 fun itv s2 h2=>?_);obtain⟨it,fp,tn,J,H2,e,I2,T,st2,f2,W,⟨m0,w0⟩,turn⟩:=h2;subst e;refine zm9 (RR:=fun acc C=>compPost (model X.prog X.w) X.A X.xe none (EP X pins σ Q) acc C) S hc hfr hff hg ht he I2 T st2 f2 w0 turn ?_;intro D C its n ys H' s' I' r hz fin hD;obtain⟨m,hm,_⟩:=I'.loc;refine⟨m,hm,fun h'' hsb=>?_⟩;obtain⟨J',hn⟩:=zmQ I2 f2 I' r hz hD hsb;exact⟨.ref D,_,J',rfl,fin D hn⟩
theorem ztU{wi:TI}{g:TG}{tc:TT}{te:TE}{i:Nat}{x:Str}{pos' spos:Pos}(own free:List Str)(fr:List Nat)(hN:X.N.Nodup)(hx:X.N[i]? = some x)(hl:X.env.scope.names.lookup x=some .local)
  (S:zeS X scope)(hc:X.calm=true)(hfr:fr.map (fun j=>X.N[j]?)=free.map some)(hff:∀x∈free,scope.names.lookup x=some .free)
  (hi:PI X tg iter wi)
  (hg:∀C s H ex,PG (zad X (own++free) scope C s H ex) tg g)(ht:∀C s H ex,PTs (zad X (own++free) scope C s H ex) ifs tc)(he:∀C s H ex,PE (zad X (own++free) scope C s H ex) elt te)
  (hsw:swapsWith (.ListComp elt [⟨tg,iter,ifs,0⟩] scope pos) (some (.Name x pos')) spos.line X.env=pure true:=by rfl)
  (hs:∀x,foldedSetIterable iter X.env x=pure x:=by intro _;rfl) :
  PS X (.Assign [.Name x pos'] (.ListComp elt [⟨tg,iter,ifs,0⟩] scope pos) spos) (zeh (znh own fr wi g tc te) (zex i)):=by
 intro pins s σ H D0 I h;have hcl:closureFor scope X.env=pure (zaW X.env scope.names []):=zfP fun x hx e=>by
  obtain⟨c,hc⟩:=I.ok.has x.1 (S.free x hx e);rw[hc];rfl
 rw[exec_Assign_Name_used _ _ _ _ hsw];refine wpAny_bind (wpAny_standAt (wpAny_bind ?_));show wpAny _ X.A (do let _<-comprehension (.ListComp elt [⟨tg,iter,ifs,0⟩] scope pos) scope X.env _ (newList []) false (eval iter X.env) (some (assign (.Name x pos') X.env))) _ _ s;refine wpAny_bind (thn (wpAny_comprehension_free (use:=some (assign (.Name x pos') X.env)) (Q:=fun _ s'=>SP X pins D0 .next s') rfl hs hcl S.kind (fun x hx e=>by have:=zie S.nd (show(x.1,x.2)∈scope.names from hx);rw[this,e])
  (thn (hi pins s σ H _ I h) fun v s1 h1=>thn h1 fun itv s2 h2=>?_)) (fun _ s' hq=>wpAny_pure (wpAny_pure hq)))
 obtain⟨it,fp,tn,J,H2,e,I2,T,st2,f2,W,⟨m0,w0⟩,turn⟩:=h2;subst e;refine zm9 (RR:=fun acc C=>compPost (model X.prog X.w) X.A X.xe (some (assign (.Name x pos') X.env)) (fun _ s'=>SP X pins D0 .next s') acc C) S hc hfr hff hg ht he I2 T st2 f2 w0 turn ?_;intro D C its n ys H' s' I' r hz fin hD;obtain⟨m,hm,_⟩:=I'.loc;obtain⟨J',hn⟩:=zmQ I2 f2 I' r hz hD (Heap.SameBut.refl C s'.heap);show wpAny _ _ (assign (.Name x pos') X.env (.ref D)) _ _ _;have hCx:(zad X (own++free) scope C s2 H2 fp).env.locals=C:=rfl;have hCl:C≠X.env.locals:=by
  have:=I2.lt;have h2:s2.heap.objs.size<=C:=I'.ok.above;exact Ne.symm (Nat.ne_of_lt (Nat.lt_of_lt_of_le this h2))
 refine wpAny_assign_Name (zkk (s:={ s' with heap:=s'.heap }) J' hN hx (.inl hl) (show RelV (.ref D) (.ref D) from rfl) (fun s3 I3 ⟨a,sb,ha⟩=>?_) (.inr hl));have haC:C≠a:=by
  rcases ha with rfl | ha
  .exact hCl
  .intro z;obtain⟨v,o,eo,_⟩:=I2.cell x a ha;have h2:s2.heap.objs.size<=C:=I'.ok.above;have:=Heap.lt_size eo;rw[<- z] at this;exact absurd this (Nat.not_lt.mpr h2)
 have nsC:s3.heap.Ns C m:=hm.sameBut sb haC;refine⟨m,nsC,fun h'' hsb=>?_⟩;refine⟨_,_,?_,fin D hn⟩;have hC2:s2.heap.objs.size<=C:=I'.ok.above;have hCn:(upd H' D (.lst ys)) C=none:=by
  rw[zJ (fun z=>?_)]
  .exact I'.free
  .exact(I'.pin (D,lobj its n) (List.mem_append_right _ List.mem_cons_self)).2.2.1 z.symm
 have:=I3.turned (it:=C) (h':=h'') (t':=s3.toks) (fun b o hb e=>hsb.extBut b o hb e) hCn hCl (.inr (Nat.le_trans I2.sz hC2)) (fun y c hc z=>by
   obtain⟨v,o,eo,_⟩:=I2.cell y c hc;have:=Heap.lt_size eo;rw[z] at this;exact absurd this (Nat.not_lt.mpr hC2)) (fun p hp z=>by
   have:=Heap.lt_size (I2.pin p hp).1;rw[z] at this;exact absurd this (Nat.not_lt.mpr hC2))
 exact this
end
def zca(lo:Int)(n:Nat):List Int:=(List.range n).map fun(i:Nat)=>lo+(i:Int)
theorem zjD{lo:Int}{n i:Nat}(h:i < n):(zca lo n)[i]? = some (lo+i):=by
 unfold zca;rw[List.getElem?_map,List.getElem?_range h];rfl
theorem zcG(lo:Int)(n:Nat):(zca lo n).length=n:=by simp[zca]
section
variable{X:Cx}
def ziH(i j:Int):Prop:=0 < j/\j < 2^250
theorem zg9:OpR X (binaryOp .FloorDiv) (rI ziH fun i j=> .int (i / j)):=opI fun i j t u s Q E h q=>by
 have e:i.fdiv j=i / j:=Int.fdiv_eq_ediv_of_nonneg i (Int.le_of_lt h.1);rw[<- e] at q;refine floordiv_int (by have:=h.1;omega) q (Or.inl (PyProof.noPylong_of_log2 ?_));have h2:=h.2;have hn:j.natAbs < 2^250:=by have:=h.1;omega
 exact Nat.lt_trans (Nat.log2_lt (by have:=h.1;omega) |>.mpr hn) (by decide)
theorem zeo:∀{ns:List Int} {us:List Value},Vals (ns.map V.int) us->IntsAre us ns
 | [],_, .nil=> .nil
 | _::_,_, .cons ⟨t,rfl⟩ r=> .cons _ _ (zeo r)
theorem zp8(hc:X.calm=true):zaf X (.builtin "max") (fun xs H Q=>∃p ns,xs=[.ref p]/\SqL X.K H p (ns.map V.int)/\ns≠[]/\∀M∈ns,(∀a∈ns,a<=M)->Q (.int M) H):=by
 intro pins s σ H xs us Q I r h;obtain⟨p,ns,rfl,hl,hne,q⟩:=h;obtain⟨u,rfl,rx⟩:=vals1 r;cases rx;obtain⟨its,r',pl,hz⟩:=I.list hl;have hi:=zeo r';obtain⟨ys,e⟩:=hi.allInts.items;have hns:ns=ys.toList.map (·.1):=by rw[<- hi.numsOf,<- nums_intItems,<- e]
 have hsz:0 < ys.size:=by
  rcases Nat.eq_zero_or_pos ys.size with h0 | h0
  .have:ys.toList=[]:=by simpa using h0
   rw[this] at hns;exact absurd hns hne
  .exact h0
 have hl':=pl.isList;rw[e] at hl';refine max_intList (I.ok.hd hc) hl' hsz fun v h' tk hv hk=>?_
 obtain⟨t,rfl⟩:=intItems_at hv;obtain⟨h1,h2⟩:=argBest_gt (numAt ys) (ys.size - 1);refine⟨.int _,H,I.kept hk,⟨t,rfl⟩,q _ ?_ fun a ha=>?_⟩
 .rw[hns,numAt_eq];exact getD_mem (by rw[List.length_map,Array.length_toList];omega)
 .rw[hns] at ha;obtain⟨j,hj,rfl⟩:=mem_getD ha;rw[List.length_map,Array.length_toList] at hj;rw[<- numAt_eq];exact h2 j (by omega)
theorem zqi(hc:X.calm=true):zaf X (.builtin "min") (fun xs H Q=>∃p ns,xs=[.ref p]/\SqL X.K H p (ns.map V.int)/\ns≠[]/\∀M∈ns,(∀a∈ns,M<=a)->Q (.int M) H):=by
 intro pins s σ H xs us Q I r h;obtain⟨p,ns,rfl,hl,hne,q⟩:=h;obtain⟨u,rfl,rx⟩:=vals1 r;cases rx;obtain⟨its,r',pl,hz⟩:=I.list hl;have hi:=zeo r';obtain⟨ys,e⟩:=hi.allInts.items;have hns:ns=ys.toList.map (·.1):=by rw[<- hi.numsOf,<- nums_intItems,<- e]
 have hsz:0 < ys.size:=by
  rcases Nat.eq_zero_or_pos ys.size with h0 | h0
  .have:ys.toList=[]:=by simpa using h0
   rw[this] at hns;exact absurd hns hne
  .exact h0
 have hl':=pl.isList;rw[e] at hl';refine min_intList (I.ok.hd hc) hl' hsz fun v h' tk hv hk=>?_
 obtain⟨t,rfl⟩:=intItems_at hv;obtain⟨h1,h2⟩:=argBest_lt (numAt ys) (ys.size - 1);refine⟨.int _,H,I.kept hk,⟨t,rfl⟩,q _ ?_ fun a ha=>?_⟩
 .rw[hns,numAt_eq];exact getD_mem (by rw[List.length_map,Array.length_toList];omega)
 .rw[hns] at ha;obtain⟨j,hj,rfl⟩:=mem_getD ha;rw[List.length_map,Array.length_toList] at hj;rw[<- numAt_eq];exact h2 j (by omega)
theorem zmW:zaf X (.builtin "isinstance") (fun xs H Q=>∃x c t b,xs=[x,c]/\zfE X.K H x t/\(∀u,RelV c u->kitOne X.K t u=some b)/\Q (.bl b) H):=by
 intro pins s σ H xs us Q I r h;obtain⟨x,c,t,b,rfl,ty,e,q⟩:=h;obtain⟨u,v,rfl,ru,rv⟩:=vals2 r;exact zpt I ru ty (e v rv) fun tk=>⟨.bl b,H,I.tok tk,rfl,q⟩
end
theorem zpy{prog:Program}{w:World}{A:Around}{E:Value->Shared->Prop}{s:Shared}{l:Addr}{items:Array Value}{Q:Value->Shared->Prop}(hl:s.heap.IsList l items)
  (h:∀s₂:Shared,s₂={ s with heap:=s.heap.push { cls:= .type "list_iterator",data:= .fields #[.ref l, .int 0 0] } }->(s₂.heap.IsListIter s.heap.objs.size l 0/\s₂.heap.IsList l items)->l≠s.heap.objs.size->Q (.ref s.heap.objs.size) s₂) :
  wpAny (model prog w) A (pyIter (.ref l)) Q E s:=by
 have hlt:l < s.heap.objs.size:=by obtain⟨_,e,_⟩:=hl;exact Heap.lt_size e
 exact wpAny_pyIter_list hl (h _ rfl ⟨⟨_,Heap.get?_push_size _ rfl,rfl,rfl⟩,hl.push _⟩ (Nat.ne_of_lt hlt))
structure Has(P:Program)(w:World)(K:Frag)(mg:Str->Option Value)(base:Heap)(CX:CXT)(x:Str)(k:Nat)(ps:List Str)(sp:Sp):Prop where
 ex:∃f fd,zac P w K mg base CX k f fd ps sp/\Binds K fd ps []/\keepIn K (.ref f)=true/\mg x=some (.ref f)
section
variable{X:Cx}{CX:CXT}{j k:Nat}{ps:List Str}{sp:Sp}{E:XK}{x:Str}{p pos:Pos}{e:Expr}{es:List Expr}{t:TA}
theorem zsp(h:Has X.prog X.w X.K X.mg X.base CX x j ps sp)(hr:zdA k X.A)(ha:PA X (e::es) t)(hj:j<=k:=by decide)(hg:Gl X x:=by rfl)(hx:zcS CX X E:=by exact ziT)(hdb:(x==("__debug__":Str))=false:=by decide)
  (he:starEach (e::es) X.env=(false,eval e X.env)::starEach es X.env:=by rfl)(hpl:(backTo pos (starEach es X.env)).any (·.1)=false:=by rfl):PE X (.Call (.Name x p) (e::es) [] pos) (zkq sp [] E t):=by
 obtain⟨f,fd,F,b,kp,m⟩:=h.ex;exact zva (F.mono hj) hr hg m kp b .nil hx ha hdb he hpl
end
theorem zaG:bootBuiltins "len"=some (.builtin "len"):=by decide+kernel
theorem zv2:bootBuiltins "abs"=some (.builtin "abs"):=by decide+kernel
theorem zw9:bootBuiltins "max"=some (.builtin "max"):=by decide+kernel
theorem zqE:bootBuiltins "min"=some (.builtin "min"):=by decide+kernel
theorem zxi:bootBuiltins "all"=some (.builtin "all"):=by decide+kernel
theorem zcv:bootBuiltins "sorted"=some (.builtin "sorted"):=by decide+kernel
theorem zM:bootBuiltins "isinstance"=some (.builtin "isinstance"):=by decide+kernel
theorem zoK:bootBuiltins "list"=some (.type "list"):=by decide+kernel
theorem zaY:bootBuiltins "tuple"=some (.type "tuple"):=by decide+kernel
theorem zwc:bootBuiltins "int"=some (.type "int"):=by decide+kernel
theorem zu9:bootBuiltins "bool"=some (.type "bool"):=by decide+kernel
theorem zrE:bootBuiltins "set"=some (.type "set"):=by decide+kernel
structure Blt(mg:Str->Option Value):Prop where
 len:mg "len"=none
 abs:mg "abs"=none
 max:mg "max"=none
 min:mg "min"=none
 all:mg "all"=none
 any:mg "any"=none
 sum:mg "sum"=none
 sorted:mg "sorted"=none
 isinstance:mg "isinstance"=none
 list:mg "list"=none
 tuple:mg "tuple"=none
 int:mg "int"=none
 bool:mg "bool"=none
 str:mg "str"=none
 set:mg "set"=none
 dict:mg "dict"=none
 zip:mg "zip"=none
 range:mg "range"=none
 enumerate:mg "enumerate"=none
 reversed:mg "reversed"=none
 repr:mg "repr"=none
theorem zrW{N:List Str}{vs:List V}:start N vs=vs.map some++List.replicate (N.length - vs.length) none:=rfl
def zld(a:Addr)(H H':Hp):Prop:=∀b,b≠a->H' b=H b
def intOf:Expr->Option Int
 | .Constant (.int i) _ _=>some i
 | _=>none
theorem znG{e:Expr}{i:Int}(h:intOf e=some i):∃k pos,e= .Constant (.int i) k pos:=by
 unfold intOf at h;split at h
 .cases h;exact⟨_,_,rfl⟩
 .cases h
def zrM(ks:List Int):TA:=fun _ H Q=>Q (ks.map V.int) H
theorem zo7{X:Cx}:∀(ks:List Int) {es:List Expr},es.map intOf=ks.map some->PA X es (zrM ks)
 | [],[],_=>zst
 | k::ks,e::es,h=>by
  simp only[List.map_cons,List.cons.injEq] at h;obtain⟨n,p,rfl⟩:=znG h.1;have ih:=zo7 (X:=X) ks h.2;intro pos pins s σ H Q I q;exact zoT (X:=X) zrj ih rfl pos pins s σ H Q I q
 | [],_::_,h=>by simp at h
 | _::_,[],h=>by simp at h
mutual
def Dat(K:Frag)(H:Hp):PyData->V->Prop
 | .none,v=>v= .non
 | .bool b,v=>v= .bl b
 | .int i,v=>v= .int i
 | .str x,v=>v= .str x
 | .list ds,v=>∃a xs,v= .ref a/\SqL K H a xs/\zbH K H ds xs
 | .tuple ds,v=>∃a xs,v= .ref a/\SqT K H a xs/\zbH K H ds xs
 | .dict _,_=>False
def zbH(K:Frag)(H:Hp):List PyData->List V->Prop
 | [],xs=>xs=[]
 | d::ds,xs=>∃x r,xs=x::r/\Dat K H d x/\zbH K H ds r
end
theorem zbH.nil{K:Frag}{H:Hp}:zbH K H [] []:=by unfold zbH;rfl
theorem zbH.cons{K:Frag}{H:Hp}{d:PyData}{ds:List PyData}{x:V}{xs:List V}(a:Dat K H d x)(b:zbH K H ds xs):zbH K H (d::ds) (x::xs):=by unfold zbH;exact⟨x,xs,rfl,a,b⟩
theorem Dat.i{K:Frag}{H:Hp}{i:Int}:Dat K H (.int i) (.int i):=by unfold Dat;rfl
theorem Dat.s{K:Frag}{H:Hp}{x:Str}:Dat K H (.str x) (.str x):=by unfold Dat;rfl
theorem Dat.b{K:Frag}{H:Hp}{x:Bool}:Dat K H (.bool x) (.bl x):=by unfold Dat;rfl
theorem Dat.n{K:Frag}{H:Hp}:Dat K H .none .non:=by unfold Dat;rfl
theorem Dat.tup{K:Frag}{H:Hp}{a:Addr}{xs:List V}{ds:List PyData}(h:SqT K H a xs)(b:zbH K H ds xs):Dat K H (.tuple ds) (.ref a):=by unfold Dat;exact⟨a,xs,rfl,h,b⟩
theorem Dat.lst{K:Frag}{H:Hp}{a:Addr}{xs:List V}{ds:List PyData}(h:SqL K H a xs)(b:zbH K H ds xs):Dat K H (.list ds) (.ref a):=by unfold Dat;exact⟨a,xs,rfl,h,b⟩
section
variable{X:Cx}{pins:List (Addr×Obj)}{σ:St}{H:Hp}{s:Shared}
mutual
theorem Dat.reads(I:Inv X pins σ H s):∀{d:PyData} {v:V} {u:Value},Dat X.K H d v->RelV v u->∃as,Reads s.heap u d as
 | .none,v,u,h,r=>by unfold Dat at h;subst h;cases r;exact⟨_, .none⟩
 | .bool b,v,u,h,r=>by unfold Dat at h;subst h;cases r;exact⟨_, .bool b⟩
 | .int i,v,u,h,r=>by unfold Dat at h;subst h;obtain⟨t,rfl⟩:=r;exact⟨_, .int i t⟩
 | .str x,v,u,h,r=>by unfold Dat at h;subst h;obtain⟨t,rfl⟩:=r;exact⟨_, .str x t⟩
 | .list ds,v,u,h,r=>by
  unfold Dat at h;obtain⟨a,xs,rfl,hl,hd⟩:=h;cases r;obtain⟨its,r',pl,hz⟩:=I.list hl;obtain⟨as,q⟩:=zbH.reads I hd r';obtain⟨o,ho,hc,n,hdt⟩:=pl.isList;exact⟨_, .list ho hc hdt (by simpa using q)⟩
 | .tuple ds,v,u,h,r=>by
  unfold Dat at h;obtain⟨a,xs,rfl,hl,hd⟩:=h;cases r;obtain⟨its,r',pl,hz⟩:=I.tuple hl;obtain⟨as,q⟩:=zbH.reads I hd r';obtain⟨o,ho,hc,n,hdt⟩:=pl;exact⟨_, .tuple ho hc hdt (by simpa using q)⟩
 | .dict _,v,u,h,r=>by unfold Dat at h;exact h.elim
theorem zbH.reads(I:Inv X pins σ H s):∀{ds:List PyData} {xs:List V} {us:List Value},zbH X.K H ds xs->Vals xs us->∃as,ReadsAll s.heap us ds as
 | [],xs,us,h,r=>by unfold zbH at h;subst h;cases r;exact⟨_, .nil⟩
 | d::ds,xs,us,h,r=>by
  unfold zbH at h;obtain⟨x,rs,rfl,h1,h2⟩:=h;cases r with
  | cons ru rr =>
   obtain⟨as,q⟩:=Dat.reads I h1 ru;obtain⟨bs,q2⟩:=zbH.reads I h2 rr;exact⟨_, .cons q q2⟩
end
end
structure zdP(d:PyData):Prop where
 lay:d.canLay0=true
 deep:d.depth<=60
section
variable{X:Cx}{k:Nat}
theorem zv8{cm:Bool}(hr:zaC cm k X.A):OpR X (compareOp .Eq) (fun x y H Q=>∃d d',Dat X.K H d x/\Dat X.K H d' y/\zdP d/\zdP d'/\Q (.bl (PyData.eqv d d')) H):=by
 intro pins s σ H x y v u Q I rx ry h;obtain⟨d,d',h1,h2,o1,o2,q⟩:=h;obtain⟨as,r1⟩:=h1.reads I rx;obtain⟨bs,r2⟩:=h2.reads I ry;refine SeqAt.compareEq_reads r1 r2 o1.lay o2.lay ?_ ⟨.bl _,H,I,rfl,q⟩;have:=hr.units;have:=o1.deep;omega
theorem zxJ{cm:Bool}(hr:zaC cm k X.A):OpR X (compareOp .NotEq) (fun x y H Q=>∃d d',Dat X.K H d x/\Dat X.K H d' y/\zdP d/\zdP d'/\Q (.bl (!PyData.eqv d d')) H):=by
 intro pins s σ H x y v u Q I rx ry h;obtain⟨d,d',h1,h2,o1,o2,q⟩:=h;obtain⟨as,r1⟩:=h1.reads I rx;obtain⟨bs,r2⟩:=h2.reads I ry;refine SeqAt.compareNe_reads r1 r2 o1.lay o2.lay ?_ ⟨.bl _,H,I,rfl,q⟩;have:=hr.units;have:=o1.deep;omega
end
theorem all_range(bs:List Bool):(List.range bs.length).all (fun i=>bs.getD i true)=bs.all id:=by
 rw[Bool.eq_iff_iff,List.all_eq_true,List.all_eq_true];constructor
 .intro h x hx;obtain⟨i,hi,e⟩:=List.mem_iff_getElem.mp hx;have:=h i (List.mem_range.mpr hi);rw[List.getD_eq_getElem?_getD,List.getElem?_eq_getElem hi] at this;rw[<- e];exact this
 .intro h i hi;have hi':=List.mem_range.mp hi;rw[List.getD_eq_getElem?_getD,List.getElem?_eq_getElem hi'];exact h _ (List.getElem_mem hi')
theorem zmT:∀{bs:List Bool} {us:List Value},Vals (bs.map V.bl) us->us=bs.map Value.bool
 | [],_, .nil=>rfl
 | _::_,_, .cons r t=>by cases r;rw[zmT t];rfl
section
variable{X:Cx}
theorem zqs(hc:X.calm=true):zaf X (.builtin "all") (fun xs H Q=>∃(p:Addr) (bs:List Bool),xs=[.ref p]/\SqL X.K H p (bs.map V.bl)/\Q (.bl (bs.all id)) H):=by
 intro pins s σ H xs us Q I r h;obtain⟨p,bs,rfl,hl,q⟩:=h;obtain⟨u,rfl,rx⟩:=vals1 r;cases rx;obtain⟨its,r',pl,hz⟩:=I.list hl;have e:=zmT r';subst e;refine call_all_walk (zpy pl.isList fun s₂ e2 st hne=>?_);subst e2;refine⟨_,_,_,_,_,_,fun i=>bs.getD i true,rfl,Walks.list (A:=X.A.in1) (I.ok.hd hc) s.heap.objs.size p hne _,st,fun i v s3 Q3 E3 hP hQ=>?_,fun h' tk hk=>?_⟩
 .have hP':(bs.map Value.bool)[i]? = some v:=by simpa using hP
  rw[List.getElem?_map] at hP';cases eb:bs[i]? with
  | none=>rw[eb] at hP';cases hP'
  | some b =>
   rw[eb] at hP';cases hP';refine wpAny_truthy_bool ?_;dsimp only at hQ;rw[List.getD_eq_getElem?_getD,eb] at hQ;exact hQ
 .rw[List.size_toArray,List.length_map,all_range];refine⟨.bl _,H,I.kept (fun b o e=>hk b o (fun z=>?_) (Heap.get?_push_of_some _ e)),rfl,q⟩;rw[List.mem_singleton] at z;exact absurd (z▸Heap.lt_size e) (Nat.lt_irrefl _)
end
structure WE(X:Cx)(e:Expr)(t:TE):Prop where out:PE X e t
structure WT(X:Cx)(e:Expr)(t:TT):Prop where out:PT X e t
structure WW(X:Cx)(e:Expr)(t:TT):Prop where out:PW X e t
structure WA(X:Cx)(es:List Expr)(t:TA):Prop where out:PA X es t
structure WS(X:Cx)(s:Stmt)(t:TS):Prop where out:PS X s t
structure WSs(X:Cx)(s:List Stmt)(t:TS):Prop where out:PSs X s t
structure WG(X:Cx)(e:Expr)(t:TG):Prop where out:PG X e t
structure WGs(X:Cx)(e:List Expr)(t:TGs):Prop where out:PGs X e t
structure WI(X:Cx)(tg e:Expr)(t:TI):Prop where out:PI X tg e t
structure WTs(X:Cx)(e:List Expr)(t:TT):Prop where out:PTs X e t
structure WK(X:Cx)(e:List Keyword)(t:TA):Prop where out:PK X e t
structure WO(X:Cx)(e:Option Expr)(t:TO):Prop where out:PO X e t
section
variable{X:Cx}{a b c e o:Expr}{es rest:List Expr}{ta tb tc te to:TE}{t u:TT}{pos pos' p apos cpos p2:Pos}{tA:TA}{x:Str}
theorem qv(i:Nat){x:Str}{pos:Pos}(hN:X.N[i]? = some x:=by rfl)(hv:Vis X.env.scope x:=by first | exact Or.inl rfl | exact Or.inr (Or.inl rfl) | exact Or.inr (Or.inr rfl))(hd:(x==("__debug__":Str))=false:=by decide)
  (hcd:(x==("__classdict__":Str))=false:=by decide):WE X (.Name x pos) (zbJ i):=⟨zxp hN hv hd hcd⟩
theorem zj{i j pos}:WE X (.Constant (.int i) j pos) (tC (.int i)):=⟨zrj⟩
theorem zvD{b j pos}:WE X (.Constant (.bool b) j pos) (tC (.bl b)):=⟨zzA⟩
theorem zB{x j pos}:WE X (.Constant (.str x) j pos) (tC (.str x)):=⟨zxo⟩
theorem zah{x:Str}{v:V}{u:Value}{pos:Pos}(hg:Gl X x)(hm:X.mg x=some u)(r:RelV v u)(hd:(x==("__debug__":Str))=false:=by decide):WE X (.Name x pos) (tC v):=⟨zuh hg hm r hd⟩
theorem zlX{x:Str}{v:V}{u:Value}{pos:Pos}(hg:Gl X x)(hm:X.mg x=none)(hv:bootBuiltins x=some u)(r:RelV v u)(hn:x≠"__name__":=by decide)(hd:(x==("__debug__":Str))=false:=by decide):WE X (.Name x pos) (tC v):=⟨zvd hg hm hv r hn hd⟩
theorem zaj{op:Operator}{r:R2}(ho:OpR X (binaryOp op) r)(ha:WE X a ta)(hb:WE X b tb):WE X (.BinOp a op b pos) (tOp r ta tb):=⟨zzp ho ha.out hb.out⟩
theorem zjv{op:UnaryOp}{r:V->Hp->VK->Prop}(ho:UnR X (unaryOp op) r)(ha:WE X a ta):WE X (.UnaryOp op a pos) (tUn r ta):=⟨zze ho ha.out⟩
theorem zgD{op:CmpOp}{r:R2}(ho:OpR X (compareOp op) r)(ha:WE X a ta)(hb:WE X b tb)(hm:behindInMarks op b=false):WE X (.Compare a [op] [b] pos) (tOp r ta tb):=⟨zt1 ho ha.out hb.out hm⟩
theorem zG{op:CmpOp}{r:R2}(ho:OpR X (compareOp op) r)(ha:WE X a ta)(hb:WE X b tb)(hm:behindInMarks op b=false):WT X (.Compare a [op] [b] pos) (zjg (tOp r ta tb)):=⟨zuz ho ha.out hb.out hm⟩
theorem zsW{op op':CmpOp}{r r':R2}(ho:OpR X (compareOp op) r)(ho':OpR X (compareOp op') r')(ha:WE X a ta)(hb:WE X b tb)(hc:WE X c tc)(hm:lastMarks [op,op'] [b,c]=false:=by with_unfolding_all rfl):WE X (.Compare a [op,op'] [b,c] pos) (zi8 r r' ta tb tc):=⟨zs1 ho ho' ha.out hb.out hc.out hm⟩
theorem zhd{op op':CmpOp}{r r':R2}(ho:OpR X (compareOp op) r)(ho':OpR X (compareOp op') r')(ha:WE X a ta)(hb:WE X b tb)(hc:WE X c tc)(hm:lastMarks [op,op'] [b,c]=false:=by with_unfolding_all rfl):WT X (.Compare a [op,op'] [b,c] pos) (zjg (zi8 r r' ta tb tc)):=⟨zrx ho ho' ha.out hb.out hc.out hm⟩
theorem zaR{t:TE}(h:WE X e t)(he:∀whole,isTrue e X.env whole=(do let v<-whole;standAt e.pos;holding [v] (truthy v)):=by intro _;rfl):WT X e (tB t):=⟨zxz h.out he⟩
theorem zlt(ha:WT X a t):WW X (.BoolOp .And [a] pos) t:=⟨zuy ha.out⟩
theorem zee(ha:WT X a t):WW X (.BoolOp .Or [a] pos) t:=⟨zw5 ha.out⟩
theorem zn4(ha:WT X a t)(hb:WW X (.BoolOp .And (b::rest) pos) u):WW X (.BoolOp .And (a::b::rest) pos) (zxa t u):=⟨zxM ha.out hb.out⟩
theorem zfQ(ha:WT X a t)(hb:WW X (.BoolOp .Or (b::rest) pos) u):WW X (.BoolOp .Or (a::b::rest) pos) (tOr t u):=⟨zzh ha.out hb.out⟩
theorem WW.qt(h:WW X e t):WT X e t:=⟨h.out.pt⟩
theorem zeq(ha:WT X a t):WT X (.UnaryOp .Not a pos) (zv3 t):=⟨zxs ha.out⟩
theorem zlI{op}{t:TE}(h:WE X a t):WE X (.BoolOp op [a] pos) t:=⟨zxq h.out⟩
theorem zja(ha:WE X a ta)(hb:WE X (.BoolOp .And (b::rest) pos) tb):WE X (.BoolOp .And (a::b::rest) pos) (zr1 ta tb):=⟨zwq ha.out hb.out⟩
theorem zs2(ha:WE X a ta):WE X (.UnaryOp .Not a pos) (zr2 ta):=⟨zwj ha.out⟩
theorem zcc:WA X [] zga:=⟨zst⟩
theorem zp(ha:WE X e te)(hr:WA X es tA)(hs:starEach (e::es) X.env=(false,eval e X.env)::starEach es X.env:=by rfl):WA X (e::es) (zeH te tA):=⟨zoT ha.out hr.out hs⟩
theorem zoI(ks:List Int){es:List Expr}(h:es.map intOf=ks.map some):WA X es (zrM ks):=⟨zo7 ks h⟩
theorem zaX{x1}(h:WA X es tA):WE X (.Tuple es x1 pos) (zww tA):=⟨zwD h.out⟩
theorem za2(h:WA X es tA):WE X (.List es pos) (zu0 tA):=⟨zwB h.out⟩
theorem zeC{r:R2}(hr:IxR X r)(ha:WE X a ta)(hb:WE X b tb)(hs:zlA b):WE X (.Subscript a b pos) (tOp r ta tb):=⟨zzg hr ha.out hb.out hs⟩
theorem zgw:WO X none zlc:=⟨ztL⟩
theorem zeb(h:WE X e te):WO X (some e) (zqZ te):=⟨ztA h.out⟩
theorem zdY{lo hi:Option Expr}{tl th:TO}{r:V->Option Int->Option Int->Hp->VK->Prop}(hr:SlR X r)(he:WE X e te)(hl:WO X lo tl)(hu:WO X hi th):WE X (.Subscript e (.Slice lo hi none p2) pos) (tSl r te tl th):=⟨ztd hr he.out hl.out hu.out⟩
theorem zr{id:String}{r:List V->Hp->VK->Prop}(hc:zaf X (.builtin id) r)(hg:Gl X x)(hm:X.mg x=none)(hv:bootBuiltins x=some (.builtin id))(ha:WA X (e::es) tA)(hn:x≠"__name__":=by decide)(hdb:(x==("__debug__":Str))=false:=by decide)
  (he:starEach (e::es) X.env=(false,eval e X.env)::starEach es X.env:=by rfl)(hpl:(backTo pos (starEach es X.env)).any (·.1)=false:=by rfl):WE X (.Call (.Name x p) (e::es) [] pos) (tCB r tA):=⟨zqP hc hg hm hv ha.out hn hdb he hpl⟩
theorem zau{T:String}{r:List V->Hp->VK->Prop}(hc:zaf X (.type T) r)(hg:Gl X x)(hm:X.mg x=none)(hv:bootBuiltins x=some (.type T))(ha:WA X (e::es) tA)(hn:x≠"__name__":=by decide)(hdb:(x==("__debug__":Str))=false:=by decide)
  (he:starEach (e::es) X.env=(false,eval e X.env)::starEach es X.env:=by rfl)(hpl:(backTo pos (starEach es X.env)).any (·.1)=false:=by rfl):WE X (.Call (.Name x p) (e::es) [] pos) (tCB r tA):=⟨zpD hc hg hm hv ha.out hn hdb he hpl⟩
theorem zz{CX:CXT}{j k:Nat}{ps:List Str}{sp:Sp}{E:XK}(h:Has X.prog X.w X.K X.mg X.base CX x j ps sp)(hr:zdA k X.A)(ha:WA X (e::es) tA)(hj:j<=k:=by decide)(hg:Gl X x:=by rfl)(hx:zcS CX X E:=by exact ziT)(hdb:(x==("__debug__":Str))=false:=by decide)
  (he:starEach (e::es) X.env=(false,eval e X.env)::starEach es X.env:=by rfl)(hpl:(backTo pos (starEach es X.env)).any (·.1)=false:=by rfl):WE X (.Call (.Name x p) (e::es) [] pos) (zkq sp [] E tA):=⟨zsp h hr ha.out hj hg hx hdb he hpl⟩
theorem zak:WK X [] zga:=⟨zwZ⟩
theorem zc9{nm:Option Str}{kpos:Pos}{kws:List Keyword}{tk:TA}(ha:WE X e te)(hr:WK X kws tk):WK X (⟨nm,e,kpos⟩::kws) (zeH te tk):=⟨zt7 ha.out hr.out⟩
structure znA(P:Program)(w:World)(K:Frag)(mg:Str->Option Value)(base:Heap)(CX:CXT)(x:Str)(k:Nat)(ps:List Str)(sp:Sp)(ks:List Str)(gV:List V->List V->List V):Prop where
 ex:∃f fd g,zac P w K mg base CX k f fd ps sp/\zdj K fd ps ks g gV/\keepIn K (.ref f)=true/\mg x=some (.ref f)
theorem zwV{f:Str}(he:WE X e ta)(hb:attributeBase e f X.env (eval e X.env)=eval e X.env):WE X (.Attribute e f pos) (zus X.K ta f):=⟨zwn he.out hb⟩
theorem zzn{name:Str}{T id:String}{r:V->List V->Hp->VK->Prop}(pa:PlainAttrs T)(slot:Slot T name id)(hty:typeOf (.builtin id)=pure (.type "method_descriptor"))(hm:MtR X id r)(ho:WE X o to)(ha:WA X (e::es) tA)
  (hbase:attributeBase o name X.env (eval o X.env)=eval o X.env:=by rfl)
  (hfew:((backTo cpos (starEach (e::es) X.env)).all (fun x=> !x.1)&&(backToKw cpos (keywordEach [] X.env)).all (fun x=>x.1.isSome)&&decide ((e::es).length+([]:List Keyword).length+(if ([]:List Keyword).isEmpty then 0 else 1) < 30))=true:=by rfl)
  (hline:(apos.endLine==cpos.line)=true:=by rfl)(hs:starEach (e::es) X.env=(false,eval e X.env)::starEach es X.env:=by rfl)(hplain:(backTo cpos (starEach es X.env)).any (·.1)=false:=by rfl) :
  WE X (.Call (.Attribute o name apos) (e::es) [] cpos) (tBM X.K T r to tA):=⟨zyj pa slot hty hm ho.out ha.out hbase hfew hline hs hplain⟩
variable{st:Stmt}{sts:List Stmt}{ts us:TS}
theorem zL:WSs X [] zqF:=⟨zoS⟩
theorem zf(h1:WS X st ts)(h2:WSs X sts us):WSs X (st::sts) (zj7 ts us):=⟨zr4 h1.out h2.out⟩
theorem zg(h1:WS X st ts):WSs X [st] ts:=⟨ztN h1.out⟩
theorem zbM:WS X st zoc:=⟨zri⟩
theorem zu(he:WE X e te)(hs:swapsWith e none pos.line X.env=pure false:=by rfl):WS X (.Expr e pos) (zrl te):=⟨zvb he.out hs⟩
theorem zaA(he:WE X e te):WS X (.Return (some e) pos) (zn3 te):=⟨zxC he.out⟩
theorem zU{ba bb:List Stmt}(hc:WT X c t)(ha:WSs X ba ts)(hb:WSs X bb us):WS X (.If c ba bb pos) (zvo t ts us):=⟨zzw hc.out ha.out hb.out⟩
theorem zdS{tg iter:Expr}{body:List Stmt}{wi:TI}{g:TG}(hp:PassesOwn (model X.prog X.w) X.A X.env X.xe)(hc:X.calm=true)(hi:WI X tg iter wi)(hg:WG X tg g)(hb:WSs X body ts)
  (hs:∀x,foldedSetIterable iter X.env x=pure x:=by intro _;rfl):WS X (.For tg iter body [] pos) (zwY wi g ts):=⟨zxB hp hc hi.out hg.out hb.out hs⟩
theorem zb9{i:Nat}{x:Str}(hN:X.N.Nodup)(hi:X.N[i]? = some x)(hx:Loc X.env.scope x)(hf:X.fn x=true\/X.env.scope.names.lookup x=some .local:=by first | exact .inl rfl | exact .inr rfl | assumption):WG X (.Name x pos) (zex i):=⟨ztz hN hi hx hf⟩
theorem zoy:WGs X [] zwX:=⟨zt8⟩
theorem zdW{g:TG}{gs:TGs}(h1:WG X e g)(h2:WGs X es gs)(hs:(assignEach (e::es) X.env).map (·.2)=assign e X.env::(assignEach es X.env).map (·.2):=by rfl):WGs X (e::es) (zrU g gs):=⟨zq2 h1.out h2.out hs⟩
theorem zlj{i:Expr}{ti:TE}{tS:zuf}(ho:WE X o to)(hi:WE X i ti)(hs:zxA X tS)
  (ha:∀v,assign (.Subscript o i pos) X.env v=(do
    let ov<-holding [v] (eval o X.env)
    let iv<-holding [v,ov] (eval i X.env)
    standAt pos
    holding [v,ov,iv] (setItem ov iv v)
    release [v,ov,iv] []):=by intro _;rfl):WG X (.Subscript o i pos) (zmq to ti tS):=⟨zxS ho.out hi.out hs ha⟩
theorem zjc{tg:Expr}{g:TG}(he:WE X e te)(hg:WG X tg g)(hs:swapsWithSole [tg] e pos.line X.env=pure false:=by rfl)(hw:swappedStores [tg] e X.env=pure none:=by rfl)(h1:(assignEach [tg] X.env).map (·.2)=[assign tg X.env]:=by rfl):WS X (.Assign [tg] e pos) (zeh te g):=⟨zwh he.out hg.out hs hw h1⟩
theorem zl5{i:Nat}{x:Str}(hN:X.N.Nodup)(hi:X.N[i]? = some x)(hx:Loc X.env.scope x)(he:WE X e te)(hs:swapsWith e (some (.Name x pos')) pos.line X.env=pure false:=by rfl)
  (hf:X.fn x=true\/X.env.scope.names.lookup x=some .local:=by first | exact .inl rfl | exact .inr rfl | assumption):WS X (.Assign [.Name x pos'] e pos) (zeh te (zex i)):=⟨zya hN hi hx he.out hs hf⟩
theorem zw6{value:Expr}{tv:TE}{f:Str}(ha:WE X o ta)(hv:WE X value tv)(hs:swapsWith value (some (.Attribute o f pos')) pos.line X.env=pure false):WS X (.Assign [.Attribute o f pos'] value pos) (zt0 X.K ta tv f):=⟨zwg ha.out hv.out hs⟩
theorem zco{tg:Expr}(hg:Gl X "range")(hm:X.mg "range"=none)(ha:WA X [a] tA)(hs:starEach [a] X.env=[(false,eval a X.env)]:=by rfl):WI X tg (.Call (.Name "range" p) [a] [] pos) (zre tA):=⟨zpA hg hm ha.out hs⟩
theorem zfu:WTs X [] zx1:=⟨zu3⟩
theorem ziB(h:WT X c t):WTs X [c] t:=⟨ztS h.out⟩
theorem zg5{tg iter elt:Expr}{ifs:List Expr}{scope:Scope}{wi:TI}{g:TG}{tc:TT}{te:TE}(own free:List Str)(fr:List Nat)(S:zeS X scope)(hc:X.calm=true)(hfr:fr.map (fun j=>X.N[j]?)=free.map some)(hff:∀x∈free,scope.names.lookup x=some .free)
  (hi:WI X tg iter wi)(hg:∀C s H ex,WG (zad X (own++free) scope C s H ex) tg g)(ht:∀C s H ex,WTs (zad X (own++free) scope C s H ex) ifs tc)(he:∀C s H ex,WE (zad X (own++free) scope C s H ex) elt te)
  (hs:∀x,foldedSetIterable iter X.env x=pure x:=by intro _;rfl):WE X (.ListComp elt [⟨tg,iter,ifs,0⟩] scope pos) (znh own fr wi g tc te) :=
 ⟨ztY own free fr S hc hfr hff hi.out (fun C s H ex=>(hg C s H ex).out) (fun C s H ex=>(ht C s H ex).out) (fun C s H ex=>(he C s H ex).out) hs⟩
theorem zgT{tg iter elt:Expr}{ifs:List Expr}{scope:Scope}{wi:TI}{g:TG}{tc:TT}{te:TE}{i:Nat}{x:Str}{spos:Pos}(own free:List Str)(fr:List Nat)(hN:X.N.Nodup)(hx:X.N[i]? = some x)(hl:X.env.scope.names.lookup x=some .local)
  (S:zeS X scope)(hc:X.calm=true)(hfr:fr.map (fun j=>X.N[j]?)=free.map some)(hff:∀x∈free,scope.names.lookup x=some .free)
  (hi:WI X tg iter wi)(hg:∀C s H ex,WG (zad X (own++free) scope C s H ex) tg g)(ht:∀C s H ex,WTs (zad X (own++free) scope C s H ex) ifs tc)(he:∀C s H ex,WE (zad X (own++free) scope C s H ex) elt te)
  (hsw:swapsWith (.ListComp elt [⟨tg,iter,ifs,0⟩] scope pos) (some (.Name x pos')) spos.line X.env=pure true:=by rfl)
  (hs:∀x,foldedSetIterable iter X.env x=pure x:=by intro _;rfl):WS X (.Assign [.Name x pos'] (.ListComp elt [⟨tg,iter,ifs,0⟩] scope pos) spos) (zeh (znh own fr wi g tc te) (zex i)) :=
 ⟨ztU own free fr hN hx hl S hc hfr hff hi.out (fun C s H ex=>(hg C s H ex).out) (fun C s H ex=>(ht C s H ex).out) (fun C s H ex=>(he C s H ex).out) hsw hs⟩
end
section
variable{X:Cx}(K:Frag)
theorem zbp(h:X.K=K:=by rfl):IxR X (ziX K):=h▸zpj
theorem zqR(h:X.K=K:=by rfl):SlR X (zwS K):=h▸zpf
theorem zwd(h:X.K=K:=by rfl):OpR X (compareOp .In) (rIn K false):=h▸zqv
theorem zpF(h:X.K=K:=by rfl):OpR X (compareOp .NotIn) (rIn K true):=h▸zlQ
theorem zpL(h:X.K=K:=by rfl):zaf X (.builtin "len") (fun xs H Q=>∃p ys,xs=[.ref p]/\(SqL K H p ys\/SqT K H p ys)/\Q (.int ys.length) H):=h▸zhg
theorem zjH(h:X.K=K:=by rfl):zaf X (.type "list") (fun xs H Q=>∃p ys,xs=[.ref p]/\(SqL K H p ys\/SqT K H p ys)/\∀l,H l=none->Q (.ref l) (upd H l (.lst ys))):=h▸zlm
theorem zm2(h:X.K=K:=by rfl):zaf X (.type "tuple") (fun xs H Q=>∃p ys,xs=[.ref p]/\((SqL K H p ys/\∀l,H l=none->Q (.ref l) (upd H l (.tup ys)))\/(SqT K H p ys/\Q (.ref p) H))):=h▸zj5
theorem zpv(hc:X.calm=true)(h:X.K=K:=by rfl):zaf X (.builtin "max") (fun xs H Q=>∃p ns,xs=[.ref p]/\SqL K H p (ns.map V.int)/\ns≠[]/\∀M∈ns,(∀a∈ns,a<=M)->Q (.int M) H):=h▸zp8 hc
theorem zpT(hc:X.calm=true)(h:X.K=K:=by rfl):zaf X (.builtin "min") (fun xs H Q=>∃p ns,xs=[.ref p]/\SqL K H p (ns.map V.int)/\ns≠[]/\∀M∈ns,(∀a∈ns,M<=a)->Q (.int M) H):=h▸zqi hc
theorem zpW(hc:X.calm=true)(h:X.K=K:=by rfl):zaf X (.builtin "all") (fun xs H Q=>∃(p:Addr) (bs:List Bool),xs=[.ref p]/\SqL K H p (bs.map V.bl)/\Q (.bl (bs.all id)) H):=h▸zqs hc
theorem zlq(h:X.K=K:=by rfl):zaf X (.builtin "isinstance") (fun xs H Q=>∃x c t b,xs=[x,c]/\zfE K H x t/\(∀u,RelV c u->kitOne K t u=some b)/\Q (.bl b) H):=h▸zmW
theorem zv5{k:Nat}{cm:Bool}(hr:zaC cm k X.A)(h:X.K=K:=by rfl):OpR X (compareOp .Eq) (fun x y H Q=>∃d d',Dat K H d x/\Dat K H d' y/\zdP d/\zdP d'/\Q (.bl (PyData.eqv d d')) H):=h▸zv8 hr
theorem zwr{k:Nat}{cm:Bool}(hr:zaC cm k X.A)(h:X.K=K:=by rfl):OpR X (compareOp .NotEq) (fun x y H Q=>∃d d',Dat K H d x/\Dat K H d' y/\zdP d/\zdP d'/\Q (.bl (!PyData.eqv d d')) H):=h▸zxJ hr
variable{a e o:Expr}{es:List Expr}{ta te to:TE}{tA:TA}{pos pos' apos cpos:Pos}
theorem zap{f:Str}(he:WE X e ta)(h:X.K=K:=by rfl)(hb:attributeBase e f X.env (eval e X.env)=eval e X.env:=by rfl):WE X (.Attribute e f pos) (zus K ta f):=h▸zwV he hb
theorem zo2{value:Expr}{tv:TE}{f:Str}(ha:WE X o ta)(hv:WE X value tv)(h:X.K=K:=by rfl)(hs:swapsWith value (some (.Attribute o f pos')) pos.line X.env=pure false:=by rfl):WS X (.Assign [.Attribute o f pos'] value pos) (zt0 K ta tv f):=h▸zw6 ha hv hs
theorem zax{name:Str}{T id:String}{r:V->List V->Hp->VK->Prop}(pa:PlainAttrs T)(slot:Slot T name id)(hty:typeOf (.builtin id)=pure (.type "method_descriptor"))(hm:MtR X id r)(ho:WE X o to)(ha:WA X (e::es) tA)(h:X.K=K:=by rfl)
  (hbase:attributeBase o name X.env (eval o X.env)=eval o X.env:=by rfl)
  (hfew:((backTo cpos (starEach (e::es) X.env)).all (fun x=> !x.1)&&(backToKw cpos (keywordEach [] X.env)).all (fun x=>x.1.isSome)&&decide ((e::es).length+([]:List Keyword).length+(if ([]:List Keyword).isEmpty then 0 else 1) < 30))=true:=by rfl)
  (hline:(apos.endLine==cpos.line)=true:=by rfl)(hs:starEach (e::es) X.env=(false,eval e X.env)::starEach es X.env:=by rfl)(hplain:(backTo cpos (starEach es X.env)).any (·.1)=false:=by rfl) :
  WE X (.Call (.Attribute o name apos) (e::es) [] cpos) (tBM K T r to tA):=h▸zzn pa slot hty hm ho ha hbase hfew hline hs hplain
end
def zgc:Value->Option Int
 | .int i _=>some i
 | _=>none
theorem zaO{u:Value}{i:Int}(h:zgc u=some i):RelV (.int i) u:=by
 cases u<;>simp[zgc] at h
 subst h;exact⟨_,rfl⟩
section
variable{P:Program}{w:World}{K:Frag}{mg:Str->Option Value}{base:Heap}
theorem Fun.okq{x qual:Str}{st:Stmt}{f:Addr}{fd:FuncData}{N ps:List Str}{k:Nat}{sp:Sp}(F:Fun K x qual st f fd)(S:zP N ps (zx st))(len:∀vs H Q E,sp vs H Q E->vs.length=ps.length)
  (hbody:∀(cdv:Value) (A:Around) (outer:List Env) (s:Shared) (H:Hp) (vs:List V) (Q:VK) (E:XK),zdA k (A.deeper (envOfC qual (zx st) s.heap.objs.size f cdv))->sp vs H Q E ->
   ∃t,WSs (zfi CX0 P w K mg base N qual (zx st) f cdv A outer s H E).nox (zbo st) t/\t { nx:=fun _ H'=>Q .non H',rt:=Q } (start N vs) H):zac P w K mg base CX0 (k+1) f fd ps sp :=
 F.ok S len fun cdv A outer s H vs Q E hr h=>by
  obtain⟨t,ht,q⟩:=hbody cdv A outer s H vs Q E hr h;exact⟨t,ht.out,q⟩
end
section
variable{X:Cx}{tg:Expr}
end
theorem zsI{x y:Str}(h:x.cps.toList=y.cps.toList):x=y:=by
 cases x;cases y;simp only[Str.mk.injEq];exact Array.toList_inj.mp h
theorem zft:∀{ys:List Str} {us:List Value},Vals (ys.map V.str) us->StrsAre us ys
 | [],_, .nil=> .nil
 | _::_,_, .cons ⟨t,rfl⟩ r=> .cons _ _ (zft r)
theorem zif(sep:Str):∀(rest:List Str) (x:Str),(⟨rest.foldl (fun acc p=>acc++sep.cps++p.cps) x.cps⟩:Str)=Str.join sep (x::rest)
 | [],x=>rfl
 | y::r,x=>by
  have ih:=zif sep r ⟨x.cps++sep.cps++y.cps⟩;show(⟨r.foldl (fun acc p=>acc++sep.cps++p.cps) (x.cps++sep.cps++y.cps)⟩:Str)=x++sep++Str.join sep (y::r);rw[ih];cases r with
  | nil=>rfl
  | cons z r' =>
   show(⟨x.cps++sep.cps++y.cps⟩:Str)++sep++Str.join sep (z::r')=x++sep++(y++sep++Str.join sep (z::r'));apply zsI;have e:∀a b:Str,(a++b).cps.toList=a.cps.toList++b.cps.toList:=fun a b=>by
    show(a.cps++b.cps).toList=_;simp
   simp only[e,Array.toList_append,List.append_assoc]
theorem zjF(sep:Str):∀parts,PySem.Builtin.Str.glued sep parts=Str.join sep parts
 | []=>rfl
 | x::r=>zif sep r x
def zg4(ys:List Str):Nat:=(ys.map (·.length)).sum+ys.length
section
variable{X:Cx}(K:Frag)
theorem zs7(h:X.K=K:=by rfl):MtR X "str.join" (fun x xs H Q=>∃sep p ys,x= .str sep/\xs=[.ref p]/\(SqL K H p (ys.map V.str)\/SqT K H p (ys.map V.str))/\sep.length<=16/\zg4 ys<=1048576/\Q (.str (Str.join sep ys)) H):=by
 subst h;intro pins s σ H x xs v us Q I rx r h;obtain⟨sep,p,ys,rfl,rfl,hl,h1,h2,q⟩:=h;obtain⟨t,rfl⟩:=rx;obtain⟨u,rfl,ru⟩:=vals1 r;cases ru;rcases hl with hl | hl
 .obtain⟨its,r',pl,hz⟩:=I.list hl;refine join_listW pl.isList (by simpa using zft r') h1 h2 fun t' k=>⟨.str _,H,I.tok k,⟨t',?_⟩,q⟩
  show Value.str (PySem.Builtin.Str.glued sep ys) t'=_;rw[zjF]
 .obtain⟨its,r',pl,hz⟩:=I.tuple hl;refine join_tupleW pl (by simpa using zft r') h1 h2 fun t' k=>⟨.str _,H,I.tok k,⟨t',?_⟩,q⟩
  show Value.str (PySem.Builtin.Str.glued sep ys) t'=_;rw[zjF]
end
section
variable{X:Cx}
theorem zos:OpR X (binaryOp .Mult) (fun x y H Q=>∃c n,x= .str ⟨#[c]⟩/\y= .int n/\0<=n/\n<=1000/\∀z:Str,z.cps.toList=List.replicate n.toNat c->Q (.str z) H):=by
 intro pins s σ H x y v u Q I rx ry h;obtain⟨c,n,rfl,rfl,h0,h1,q⟩:=h;obtain⟨t,rfl⟩:=rx;obtain⟨t',rfl⟩:=ry;refine SB.mul ⟨?_,?_,?_⟩ fun t' k=>⟨.str _,H,I.tok k,⟨t',rfl⟩,q _ (mul_one_list c n)⟩
 .rw[decide_eq_false (by omega),decide_eq_false (by omega)];rfl
 .intro a _;have e:(⟨#[c]⟩:Str).length=1:=rfl;rw[e];have:1<=(2^63 - 1) / n:=Int.le_ediv_of_mul_le (by omega) (by omega);omega
 .intro a _;have e:(⟨#[c]⟩:Str).length=1:=rfl;rw[e];unfold PySem.Builtin.Str.tooLong;simp only[Nat.one_mul,decide_eq_false_iff_not];have:n.toNat<=1000:=by omega
  first
   | omega
   | (intro z;have:=Nat.lt_of_lt_of_le z this;revert this;decide)
end
theorem zfa:∀ys:List Str,(Str.join Str.empty ys).cps.toList=(ys.map fun y=>y.cps.toList).flatten
 | []=>rfl
 | [y]=>by simp[Str.join]
 | y::z::r=>by
  have ih:=zfa (z::r);show((y++Str.empty++Str.join Str.empty (z::r):Str)).cps.toList=_;have e:∀a b:Str,(a++b).cps.toList=a.cps.toList++b.cps.toList:=fun a b=>by
   show(a.cps++b.cps).toList=_;simp
  rw[e,e,ih];simp[Str.empty]
theorem zu4{x y:Str}(h:x.cps.toList=y.cps.toList):x=y:=by
 cases x;cases y;simp only[Str.mk.injEq];exact Array.toList_inj.mp h
def zjf(H:Hp)(a l:Addr):Prop:=∃(ns:List Int) (i b c:Int),H a=some (.lst [.ref l, .int i, .int b, .int c])/\H l=some (.lst (ns.map V.int))/\0<=i/\0<=b/\a≠l
def zlL:Sp:=fun vs H Q _=>∃(a l:Addr) (many:Int),vs=[.ref a, .int many]/\zjf H a l/\0 < many/\many < 2^250/\∀v H',0<=v->v < many->zjf H' a l->zld a H H'->Q (.int v) H'
def zjK(K:Frag):Sp:=fun vs H Q _=>∃(a:Addr) (ns:List Int),vs=[.ref a]/\SqL K H a (ns.map V.int)/\∀(r l:Addr) (H':Hp),H r=none->H l=none->zjf H' r l->zj3 H H'->Q (.ref r) H'
theorem zm4(x:Str):∀xs:List Str,inV (.str x) (xs.map V.str)=decide (x∈xs)
 | []=>by simp[inV]
 | y::r=>by
  have ih:=zm4 x r;unfold inV at ih ⊢;rw[List.map_cons,List.any_cons,ih];show((y==x)||decide (x∈r))=decide (x∈y::r);by_cases h:y=x
  .subst h;simp
  .have h':¬ x=y:=fun e=>h e.symm
   simp[h,h']
structure Nm(x:Str):Prop where
 l1:1<=x.cps.toList.length
 l8:x.cps.toList.length<=8
 az:∀c∈x.cps.toList,97<=c/\c<=122
structure LR where
 a:Addr
 sa:Addr
 ea:Addr
 nm:Str
 S:List Str
 E:List Str
 w:Int
section
variable{κ:Addr->Nat}{H H':Hp}{s l na la:Addr}{ns ns':List Str}{ls:List LR}
end
def zeF(one:Str)(bd:List Str)(r:LR):Bool:= !decide (r.nm∈bd)&&(decide (one∈r.S)||decide (r.S.length < 6))
def zfW(two:Str)(r:LR):Bool:=decide (two∈r.E)||decide (r.E.length < 6)
def za5(x:Str)(S:List Str):List Str:=if x∈S then S else S++[x]
inductive zqM(one two:Str)(bd:List Str)(ns:List Str)(ls:List LR)(x:Str):List Str->List LR->Prop
 | new (pa ps pe:Addr) (w:Int):x∉ns->Nm x->ls.length < 14->0<=w->w < 4->zqM one two bd ns ls x (ns++[x]) (ls++[⟨pa,ps,pe,x,[one],[two],w⟩])
 | old (i:Nat) (r:LR):ls[i]? = some r->r.nm=x->zeF one bd r=true->zfW two r=true->zqM one two bd ns ls x ns (ls.set i { r with S:=za5 one r.S,E:=za5 two r.E })
theorem zb5{x y:Str}{S:List Str}:y∈za5 x S↔y∈S\/y=x:=by
 unfold za5;split
 .exact⟨.inl,fun h=>h.elim id (fun e=>by rw[e];assumption)⟩
 .rw[List.mem_append,List.mem_singleton]
theorem zh8{x:Str}{S:List Str}(h:S.Nodup):(za5 x S).Nodup:=by
 unfold za5;split
 .exact h
 .rename_i c;exact List.nodup_append.mpr ⟨h,by simp,fun a ha b hb e=>by rw[List.mem_singleton.mp hb] at e;exact c (e▸ha)⟩
theorem zkO{x:Str}{S:List Str}:(za5 x S).length<=S.length+1:=by
 unfold za5;split
 .omega
 .rw[List.length_append];exact Nat.le_refl _
theorem zk4{x:Str}{S:List Str}(h:x∈S\/S.length < 6)(h6:S.length<=6):(za5 x S).length<=6:=by
 unfold za5;split
 .omega
 .rw[List.length_append];rcases h with h | h
  .contradiction
  .show S.length+1<=6;omega
def wide(r:LR):Nat:=max r.S.length r.E.length
def zdQ(ls:List LR):Nat:=(ls.map wide).sum
structure zzk(ho ga:List Str)(r:LR):Prop where
 sn:r.S.Nodup
 en:r.E.Nodup
 s0:r.S≠[]
 e0:r.E≠[]
 s6:r.S.length<=6
 e6:r.E.length<=6
 ss:∀x∈r.S,x∈ho++ga
 es:∀x∈r.E,x∈ho++ga
 w0:0<=r.w
 w3:r.w<=3
structure zc5(ho ga ns:List Str)(ls:List LR)(h c:Nat):Prop where
 nd:(ho++ga++ls.map LR.nm).Nodup
 sub:∀x∈ho++ga++ls.map LR.nm,x∈ns
 nms:∀x∈ns,Nm x
 nsd:ns.Nodup
 ends:∀r∈ls,zzk ho ga r
 len:ls.length<=14
 hops:zdQ ls<=h
 cnt:ns.length<=c+ls.length
def sig(ls:List LR):List (Str×Int):=ls.map fun r=>(r.nm,r.w)
def zdV(ns:List Str)(ls ls':List LR):Prop:=(∀r∈ls,∃r'∈ls',r'.nm=r.nm/\r'.w=r.w/\(∀x∈r.S,x∈r'.S)/\(∀x∈r.E,x∈r'.E))/\∃ext,sig ls'=sig ls++ext/\∀p∈ext,p.1∉ns
theorem zdV.refl(ns:List Str)(ls:List LR):zdV ns ls ls:=⟨fun r h=>⟨r,h,rfl,rfl,fun _ h=>h,fun _ h=>h⟩,[],by rw[List.append_nil],fun p hp=>by cases hp⟩
theorem zdV.trans{ns ns':List Str}{a b c:List LR}(x:zdV ns a b)(n:∀y∈ns,y∈ns')(y:zdV ns' b c):zdV ns a c:=⟨fun r h=>by
 obtain⟨r1,h1,e1,e2,e3,e4⟩:=x.1 r h;obtain⟨r2,h2,f1,f2,f3,f4⟩:=y.1 r1 h1;exact⟨r2,h2,f1.trans e1,f2.trans e2,fun z hz=>f3 z (e3 z hz),fun z hz=>f4 z (e4 z hz)⟩,by
 obtain⟨u,hu,hu'⟩:=x.2;obtain⟨v,hv,hv'⟩:=y.2;exact⟨u++v,by rw[hv,hu,List.append_assoc],fun p hp=>(List.mem_append.mp hp).elim (hu' p) fun z q=>hv' p z (n _ q)⟩⟩
def Joins(ls:List LR)(one x two:Str):Prop:=∃r∈ls,r.nm=x/\one∈r.S/\two∈r.E
theorem Joins.grow{ls ls':List LR}{one x two:Str}(h:Joins ls one x two){ns0:List Str}(g:zdV ns0 ls ls'):Joins ls' one x two:=by
 obtain⟨r,hr,e,h1,h2⟩:=h;obtain⟨r',hr',f1,f2,f3,f4⟩:=g.1 r hr;exact⟨r',hr',f1.trans e,f3 _ h1,f4 _ h2⟩
theorem sum_set:∀{ls:List LR} {i:Nat} {r r':LR},ls[i]? = some r->wide r'<=wide r+1->zdQ (ls.set i r')<=zdQ ls+1
 | [],_,_,_,h,_=>by simp at h
 | a::t,0,r,r',h,hw=>by
  cases h;unfold zdQ;rw[List.set_cons_zero,List.map_cons,List.map_cons,List.sum_cons,List.sum_cons];omega
 | a::t,i+1,r,r',h,hw=>by
  have ih:=sum_set (ls:=t) (i:=i) (by simpa using h) hw;unfold zdQ at ih ⊢;rw[List.set_cons_succ,List.map_cons,List.map_cons,List.sum_cons,List.sum_cons];omega
theorem zjd{ls:List LR}{i:Nat}{q r':LR}(h:q∈ls.set i r'):q∈ls\/q=r':=List.mem_or_eq_of_mem_set h
theorem zvh{ho ga ns ns':List Str}{ls ls':List LR}{h c:Nat}{one two x:Str}{bd:List Str}(N:zc5 ho ga ns ls h c)(h1:one∈ho++ga)(h2:two∈ho++ga)(hb:∀y∈bd,y∈ns)(R:zqM one two bd ns ls x ns' ls') :
  zc5 ho ga ns' ls' (h+1) c/\zdV ns ls ls'/\Joins ls' one x two/\x∉bd/\(∀y∈ns,y∈ns')/\x∉ho++ga/\x∈ns':=by
 cases R with
 | new pa ps pe w hx nm hl w0 w4 =>
  refine⟨⟨?_,?_,?_,?_,?_,?_,?_,?_⟩,?_,?_,fun z=>hx (hb x z),fun y hy=>List.mem_append_left _ hy,fun z=>hx (N.sub x (List.mem_append_left _ z)),by simp⟩
  .rw[List.map_append,<- List.append_assoc];refine List.nodup_append.mpr ⟨N.nd,by simp,fun a ha b hb e=>?_⟩;rw[show b=x by simpa using hb] at e;exact hx (e▸N.sub a ha)
  .intro y hy;rw[List.map_append,<- List.append_assoc] at hy;rcases List.mem_append.mp hy with hy | hy
   .exact List.mem_append_left _ (N.sub y hy)
   .exact List.mem_append_right _ (by simpa using hy)
  .intro y hy;rcases List.mem_append.mp hy with hy | hy
   .exact N.nms y hy
   .rw[List.mem_singleton.mp hy];exact nm
  .exact List.nodup_append.mpr ⟨N.nsd,by simp,fun a ha b hb e=>by rw[List.mem_singleton.mp hb] at e;exact hx (e▸ha)⟩
  .intro r hr;rcases List.mem_append.mp hr with hr | hr
   .exact N.ends r hr
   .rw[List.mem_singleton.mp hr];exact⟨by simp,by simp,by simp,by simp,by simp,by simp,fun y hy=>by rw[List.mem_singleton.mp hy];exact h1,fun y hy=>by rw[List.mem_singleton.mp hy];exact h2,w0,by show w<=3;omega⟩
  .rw[List.length_append];exact hl
  .unfold zdQ;rw[List.map_append,List.sum_append];have:=N.hops;unfold zdQ at this;show _+(1+0)<=h+1;omega
  .rw[List.length_append,List.length_append];have:=N.cnt;show ns.length+1<=c+(ls.length+1);omega
  .exact⟨fun r hr=>⟨r,List.mem_append_left _ hr,rfl,rfl,fun _ h=>h,fun _ h=>h⟩,[(x,w)],by unfold sig;rw[List.map_append];rfl,fun p hp=>by rw[List.mem_singleton.mp hp];exact hx⟩
  .exact⟨_,List.mem_append_right _ (List.mem_singleton.mpr rfl),rfl,by simp,by simp⟩
 | old i r hi hn f1 f2 =>
  have hm:r∈ls:=List.mem_of_getElem? hi;have hlt:i < ls.length:=by
   by_cases h:i < ls.length
   .exact h
   .rw[List.getElem?_eq_none (by omega)] at hi;cases hi
  have em:(ls.set i { r with S:=za5 one r.S,E:=za5 two r.E }).map LR.nm=ls.map LR.nm:=by
   rw[List.map_set];apply List.ext_getElem?;intro j;rw[List.getElem?_set];split
   .rename_i e;subst e;rw[List.length_map,if_pos hlt,List.getElem?_map,hi];rfl
   .rfl
  have E:=N.ends r hm;unfold zeF at f1;unfold zfW at f2;simp only[Bool.and_eq_true,Bool.or_eq_true,decide_eq_true_eq,Bool.not_eq_true',decide_eq_false_iff_not] at f1 f2;have hnew:{ r with S:=za5 one r.S,E:=za5 two r.E }∈ls.set i { r with S:=za5 one r.S,E:=za5 two r.E }:=List.mem_of_getElem? (i:=i) (by rw[List.getElem?_set,if_pos rfl,if_pos hlt]);have hx:x∈ls.map LR.nm:=by rw[<- hn];exact List.mem_map.mpr ⟨r,hm,rfl⟩
  refine⟨⟨by rw[em];exact N.nd,by rw[em];exact N.sub,N.nms,N.nsd,fun q hq=>?_,by rw[List.length_set];exact N.len,?_,by rw[List.length_set];exact N.cnt⟩,?_,?_,by rw[<- hn];exact f1.1,fun y hy=>hy,fun z=>?_,N.sub x (List.mem_append_right _ hx)⟩
  .rcases zjd hq with hq | rfl
   .exact N.ends q hq
   .exact⟨zh8 E.sn,zh8 E.en,List.ne_nil_of_mem (zb5.mpr (.inr rfl)),List.ne_nil_of_mem (zb5.mpr (.inr rfl)),zk4 f1.2 E.s6,zk4 f2 E.e6,
     fun y hy=>(zb5.mp hy).elim (E.ss y) (fun e=>e▸h1),fun y hy=>(zb5.mp hy).elim (E.es y) (fun e=>e▸h2),E.w0,E.w3⟩
  .have:=sum_set (r':={ r with S:=za5 one r.S,E:=za5 two r.E }) hi (by
    unfold wide;have a:=zkO (x:=one) (S:=r.S);have b:=zkO (x:=two) (S:=r.E);show max (za5 one r.S).length (za5 two r.E).length<=_;omega)
   have:=N.hops;omega
  .refine⟨fun q hq=>?_,[],?_,fun p hp=>by cases hp⟩;rotate_left
   .rw[List.append_nil];unfold sig;rw[List.map_set];apply List.ext_getElem?;intro j;rw[List.getElem?_set];split
    .rename_i e;subst e;rw[List.length_map,if_pos hlt,List.getElem?_map,hi];rfl
    .rfl
   by_cases e:q=r
   .subst e;exact⟨_,hnew,rfl,rfl,fun y hy=>zb5.mpr (.inl hy),fun y hy=>zb5.mpr (.inl hy)⟩
   .obtain⟨j,hj⟩:=List.mem_iff_getElem?.mp hq;have hji:i≠j:=fun z=>by subst z;rw[hi] at hj;cases hj;exact e rfl
    exact⟨q,List.mem_of_getElem? (i:=j) (by rw[List.getElem?_set,if_neg hji];exact hj),rfl,rfl,fun _ h=>h,fun _ h=>h⟩
  .exact⟨_,hnew,hn,zb5.mpr (.inr rfl),zb5.mpr (.inr rfl)⟩
  .exact(List.nodup_append.mp N.nd).2.2 x z x hx rfl
def beside(ho ga bd:List Str):Nat:=(bd.filter fun x=> !decide (x∈ho++ga)).length
theorem zfX(ho ga a b:List Str):beside ho ga (a++b)=beside ho ga a+beside ho ga b:=by unfold beside;rw[List.filter_append,List.length_append]
theorem zm3:∀{ls:List LR},(∀r∈ls,1<=wide r)->ls.length+5*(ls.filter fun r=>decide (6<=wide r)).length<=zdQ ls
 | [],_=>by simp[zdQ]
 | r::t,h=>by
  have ih:=zm3 (ls:=t) fun q hq=>h q (List.mem_cons_of_mem _ hq)
  have h1:=h r List.mem_cons_self;unfold zdQ at ih ⊢;rw[List.map_cons,List.sum_cons,List.filter_cons,List.length_cons];split
  .rename_i c;have:=of_decide_eq_true c;rw[List.length_cons];omega
  .omega
theorem split_len{α:Type}(p q:α->Bool):∀{ls:List α},(∀r∈ls,p r=true\/q r=true)->ls.length<=(ls.filter p).length+(ls.filter q).length
 | [],_=>by simp
 | r::t,h=>by
  have ih:=split_len p q (ls:=t) fun x hx=>h x (List.mem_cons_of_mem _ hx)
  have h1:=h r List.mem_cons_self;rw[List.filter_cons,List.filter_cons,List.length_cons];split<;>split
  .rw[List.length_cons,List.length_cons];omega
  .rw[List.length_cons];omega
  .rw[List.length_cons];omega
  .rename_i a b;rcases h1 with h1 | h1
   .exact absurd h1 a
   .exact absurd h1 b
theorem zxl{ho ga ns:List Str}{ls:List LR}{h c:Nat}(N:zc5 ho ga ns ls h c)(hh:h<=47)(one two:Str){bd:List Str}(hb:beside ho ga bd<=5)(hl:ls.length=14):∃r∈ls,zeF one bd r=true/\zfW two r=true:=by
 apply Classical.byContradiction;intro no;have all:∀r∈ls,decide (r.nm∈bd)=true\/decide (6<=wide r)=true:=fun r hr=>by
  apply Classical.byContradiction;intro z;apply no;have z1:¬ r.nm∈bd:=fun y=>z (.inl (decide_eq_true y))
  have z2:¬ 6<=wide r:=fun y=>z (.inr (decide_eq_true y))
  unfold wide at z2;refine⟨r,hr,?_,?_⟩
  .unfold zeF;simp only[Bool.and_eq_true,Bool.or_eq_true,decide_eq_true_eq,Bool.not_eq_true',decide_eq_false_iff_not];exact⟨z1, .inr (by omega)⟩
  .unfold zfW;simp only[Bool.or_eq_true,decide_eq_true_eq];exact .inr (by omega)
 have a:=split_len _ _ all;have b:=zm3 (ls:=ls) fun r hr=>by
  have E:=(N.ends r hr).s0;have:=List.length_pos_iff.mpr E;unfold wide;omega
 have hs:=N.hops;have nd2:(ls.map LR.nm).Nodup:=(List.nodup_append.mp N.nd).2.1;have d:(ls.filter fun r=>decide (r.nm∈bd)).length<=beside ho ga bd:=by
  have nd3:((ls.filter fun r=>decide (r.nm∈bd)).map LR.nm).Nodup:=nd2.sublist (List.Sublist.map _ List.filter_sublist);have:=List.Nodup.length_le_of_subset (l₂:=bd.filter fun x=> !decide (x∈ho++ga)) nd3 (fun x hx=>by
   obtain⟨r,hr,rfl⟩:=List.mem_map.mp hx;obtain⟨m1,m2⟩:=List.mem_filter.mp hr;refine List.mem_filter.mpr ⟨of_decide_eq_true m2,?_⟩;rw[decide_eq_false]
   .rfl
   .exact fun z=>(List.nodup_append.mp N.nd).2.2 _ z _ (List.mem_map.mpr ⟨r,m1,rfl⟩) rfl)
  rw[List.length_map] at this;exact this
 omega
structure Way(ho ga ns:List Str)(ls:List LR)(bd:List Str)(first:Str)(k m:Nat)(wh:List Str):Prop where
 len:wh.length=2*k+1
 hd:wh[0]? = some first
 nd:wh.Nodup
 jn:∀i x y z,wh[2*i]? = some x->wh[2*i+1]? = some y->wh[2*i+2]? = some z->Joins ls x y z
 ln:∀i y,wh[2*i+1]? = some y->y∉ho++ga/\y∉bd
 gt:∀i x,2*i+2 < m->wh[2*i+2]? = some x->x∈ga/\x∉bd
 nn:∀i x,wh[2*i]? = some x->x∈ho++ga
 sub:∀y∈wh,y∈ns
 bs:beside ho ga wh<=k
theorem Way.one{ho ga ns:List Str}{ls:List LR}{bd:List Str}{first:Str}(h:first∈ho++ga)(hn:first∈ns):Way ho ga ns ls bd first 0 1 [first] where
 len:=rfl
 hd:=rfl
 nd:=by simp
 jn:=fun i x y z _ e _=>by rw[List.getElem?_eq_none (by show 1<=_;omega)] at e;cases e
 ln:=fun i y e=>by rw[List.getElem?_eq_none (by show 1<=_;omega)] at e;cases e
 gt:=fun i y hm e=>by omega
 nn:=fun i x e=>by
  have:i=0:=Classical.byContradiction fun z=>by rw[List.getElem?_eq_none (by show 1<=_;omega)] at e;cases e
  subst this;cases e;exact h
 sub:=fun y hy=>by rw[List.mem_singleton.mp hy];exact hn
 bs:=by unfold beside;rw[List.filter_cons,if_neg (by rw[decide_eq_true h];decide)];exact Nat.le_refl _
theorem Way.grow{ho ga ns ns':List Str}{ls ls':List LR}{bd:List Str}{first:Str}{k m:Nat}{wh:List Str}(W:Way ho ga ns ls bd first k m wh){ns0:List Str}(g:zdV ns0 ls ls')(n:∀y∈ns,y∈ns'):Way ho ga ns' ls' bd first k m wh :=
 ⟨W.len,W.hd,W.nd,fun i x y z a b c=>(W.jn i x y z a b c).grow g,W.ln,W.gt,W.nn,fun y hy=>n y (W.sub y hy),W.bs⟩
theorem Way.step{ho ga ns:List Str}{ls:List LR}{bd:List Str}{first:Str}{k:Nat}{wh:List Str}(W:Way ho ga ns ls bd first k (2*k+1) wh){one x two:Str}(h1:wh[2*k]? = some one)(j:Joins ls one x two)(xg:x∉ho++ga)(xb:x∉bd)(xw:x∉wh)(xn:x∈ns)
  (tw:two∉wh)(tg:two∈ho++ga)(tn:two∈ns):Way ho ga ns ls bd first (k+1) (2*k+2) (wh++[x,two])/\(two∈ga->two∉bd->Way ho ga ns ls bd first (k+1) (2*k+3) (wh++[x,two])):=by
 have hl:=W.len;have L:∀i,i < 2*k+1->(wh++[x,two])[i]? = wh[i]? := fun i hi=>List.getElem?_append_left (by omega)
 have X:(wh++[x,two])[2*k+1]? = some x:=by rw[List.getElem?_append_right (by omega),hl,Nat.sub_self];rfl
 have T:(wh++[x,two])[2*k+2]? = some two:=by rw[List.getElem?_append_right (by omega),hl,show 2*k+2 - (2*k+1)=1 by omega];rfl
 have O:∀i,2*k+3<=i->(wh++[x,two])[i]? = none:=fun i hi=>List.getElem?_eq_none (by rw[List.length_append,hl];exact hi)
 have xt:x≠two:=fun e=>xg (e▸tg)
 have base:∀m,(∀i y,2*i+2 < m->(wh++[x,two])[2*i+2]? = some y->y∈ga/\y∉bd)->Way ho ga ns ls bd first (k+1) m (wh++[x,two]):=fun m hm=>by
  refine⟨by rw[List.length_append,hl];show 2*k+1+2=_;omega,by rw[L 0 (by omega)];exact W.hd,List.nodup_append.mpr ⟨W.nd,by simp[xt],fun a ha b hb e=>?_⟩,fun i a b c ea eb ec=>?_,fun i y e=>?_,hm,fun i y e=>?_,fun y hy=>?_,?_⟩
  .subst e;rcases List.mem_cons.mp hb with e | hb
   .exact xw (e▸ha)
   .exact tw (List.mem_singleton.mp hb▸ha)
  .rcases Nat.lt_trichotomy i k with hi | hi | hi
   .rw[L _ (by omega)] at ea eb ec;exact W.jn i a b c ea eb ec
   .subst hi;rw[L _ (by omega),h1] at ea;rw[X] at eb;rw[T] at ec;cases ea;cases eb;cases ec;exact j
   .rw[O _ (by omega)] at eb;cases eb
  .rcases Nat.lt_trichotomy i k with hi | hi | hi
   .rw[L _ (by omega)] at e;exact W.ln i y e
   .subst hi;rw[X] at e;cases e;exact⟨xg,xb⟩
   .rw[O _ (by omega)] at e;cases e
  .rcases Nat.lt_trichotomy i (k+1) with hi | hi | hi
   .rw[L _ (by omega)] at e;exact W.nn i y e
   .subst hi;rw[show 2*(k+1)=2*k+2 by omega,T] at e;cases e;exact tg
   .rw[O _ (by omega)] at e;cases e
  .rcases List.mem_append.mp hy with hy | hy
   .exact W.sub y hy
   .rcases List.mem_cons.mp hy with e | hy
    .exact e▸xn
    .exact List.mem_singleton.mp hy▸tn
  .rw[zfX];have:=W.bs;have e:beside ho ga [x,two]=1:=by
    unfold beside;rw[List.filter_cons,if_pos (by rw[decide_eq_false xg];rfl),List.filter_cons,if_neg (by rw[decide_eq_true tg];decide)];rfl
   omega
 refine⟨base _ fun i y hi e=>?_,fun g b=>base _ fun i y hi e=>?_⟩
 .rw[L _ (by omega)] at e;exact W.gt i y (by omega) e
 .by_cases c:i=k
  .subst c;rw[T] at e;cases e;exact⟨g,b⟩
  .rw[L _ (by omega)] at e;exact W.gt i y (by omega) e
theorem Way.mem{ho ga ns:List Str}{ls:List LR}{bd:List Str}{first:Str}{k m:Nat}{wh:List Str}(W:Way ho ga ns ls bd first k m wh){y:Str}(hy:y∈wh)(hm:2*k+1<=m):y=first\/y∉ho++ga\/y∈ga:=by
 obtain⟨j,hj⟩:=List.mem_iff_getElem?.mp hy;have hlt:j < 2*k+1:=by
  by_cases h:j < 2*k+1
  .exact h
  .rw[List.getElem?_eq_none (by rw[W.len];omega)] at hj;cases hj
 rcases Nat.mod_two_eq_zero_or_one j with e | e
 .by_cases z:j=0
  .subst z;rw[W.hd] at hj;cases hj;exact .inl rfl
  .obtain⟨i,rfl⟩:∃i,j=2*i+2:=⟨j / 2 - 1,by omega⟩;exact .inr (.inr (W.gt i y (by omega) hj).1)
 .obtain⟨i,rfl⟩:∃i,j=2*i+1:=⟨j / 2,by omega⟩;exact .inr (.inl (W.ln i y hj).1)
theorem zfS{x:Str}:∀{l:List Str},l.Nodup->l.length<=(l.filter fun y=> !decide (y=x)).length+1
 | [],_=>by simp
 | y::t,h=>by
  obtain⟨h1,h2⟩:=List.nodup_cons.mp h;rw[List.filter_cons,List.length_cons];by_cases e:y=x
  .subst e;rw[if_neg (by simp),List.filter_eq_self.mpr (fun z hz=>by
    rw[decide_eq_false]
    .rfl
    .exact fun q=>h1 (q▸hz))]
   exact Nat.le_refl _
  .rw[if_pos (by rw[decide_eq_false e];rfl),List.length_cons];have:=zfS (x:=x) h2;omega
theorem zc5.nd2{ho ga ns:List Str}{ls:List LR}{h c:Nat}(N:zc5 ho ga ns ls h c){x:Str}(a:x∈ho)(b:x∈ga):False :=
 (List.nodup_append.mp (List.nodup_append.mp N.nd).1).2.2 x a x b rfl
theorem zc5.more{ho ga ns:List Str}{ls:List LR}{h h' c:Nat}(N:zc5 ho ga ns ls h c)(l:h<=h'):zc5 ho ga ns ls h' c:=⟨N.nd,N.sub,N.nms,N.nsd,N.ends,N.len,Nat.le_trans N.hops l,N.cnt⟩
def zcy(ls:List LR)(way:List Str)(lo sl:Int):Int:=ls.foldl (fun m r=>if r.nm∈way then m+lo+r.w+sl else m) 0
def zk7(ls:List LR)(ways:List (List Str))(lo sl:Int):Int:=ways.foldl (fun m way=>if zcy ls way lo sl > m then zcy ls way lo sl else m) 0
structure RW where
 nm:Str
 ways:List (List Str)
 e:Int
 lo:Int
 re:Int
 lst:Int
def inner(w:List Str):List Str:=(w.drop 1).take (w.length - 2)
theorem zqB{w:List Str}{x:Str}(h:x∈inner w):x∈w:=List.mem_of_mem_drop (List.mem_of_mem_take h)
theorem zqj(w:List Str):(inner w).length<=w.length:=by unfold inner;rw[List.length_take,List.length_drop];omega
theorem zlW(ho ga w:List Str):beside ho ga (inner w)<=beside ho ga w:=by
 unfold beside inner;exact(((List.take_sublist _ _).trans (List.drop_sublist _ _)).filter _).length_le
theorem zc5.named{ho ga ns:List Str}{ls:List LR}{h c:Nat}{x:Str}(N:zc5 ho ga ns ls h c)(hx:x∉ns)(nm:Nm x):zc5 ho ga (ns++[x]) ls h (c+1) where
 nd:=N.nd
 sub:=fun y hy=>List.mem_append_left _ (N.sub y hy)
 nms:=fun y hy=>(List.mem_append.mp hy).elim (N.nms y) fun z=>List.mem_singleton.mp z▸nm
 nsd:=List.nodup_append.mpr ⟨N.nsd,by simp,fun a ha b hb e=>by rw[List.mem_singleton.mp hb] at e;exact hx (e▸ha)⟩
 ends:=N.ends
 len:=N.len
 hops:=N.hops
 cnt:=by rw[List.length_append];have:=N.cnt;show ns.length+1<=_;omega
def zmd:List Int:=[12,8,20,24,10,30,15,40,60,12,120]
structure zia(ho ga ns:List Str)(ls:List LR)(sl:Int)(r:RW):Prop where
 nmn:r.nm∈ns
 nmo:r.nm∉ho++ga++ls.map LR.nm
 way:∃first last w1 k1,first∈ho/\last∈ho/\first≠last/\1<=k1/\k1<=3/\Way ho ga ns ls [] first k1 (2*k1) w1/\w1[2*k1]? = some last/\(r.ways=[w1]\/∃w2 k2,r.ways=[w1,w2]/\1<=k2/\k2<=3/\Way ho ga ns ls (inner w1) first k2 (2*k2) w2/\w2[2*k2]? = some last)
 ev:r.e∈zmd
 l1:1<=r.lo
 l4:r.lo<=4
 le:r.lo+sl<=r.e
 r0:0<=r.re
 re:r.re < r.e
 lst:∃spare,r.lst=zk7 ls r.ways r.lo sl+spare/\spare∈[0,1,2,r.e / 2,3,r.e - 1,6]
theorem zkK(ls:List LR):ls.map LR.nm=(sig ls).map Prod.fst:=by unfold sig;rw[List.map_map];rfl
theorem zh2(ls:List LR)(way:List Str)(lo sl:Int):zcy ls way lo sl=(sig ls).foldl (fun m r=>if r.1∈way then m+lo+r.2+sl else m) 0:=by
 unfold zcy sig;rw[List.foldl_map]
theorem zi9{way:List Str}{lo sl:Int}:∀{ext:List (Str×Int)} (m:Int),(∀p∈ext,p.1∉way)->ext.foldl (fun m r=>if r.1∈way then m+lo+r.2+sl else m) m=m
 | [],_,_=>rfl
 | p::t,m,h=>by
  rw[List.foldl_cons,if_neg (h p List.mem_cons_self)];exact zi9 m fun q hq=>h q (List.mem_cons_of_mem _ hq)
theorem zlh{ns:List Str}{ls ls':List LR}{way:List Str}{lo sl:Int}(g:zdV ns ls ls')(h:∀y∈way,y∈ns):zcy ls' way lo sl=zcy ls way lo sl:=by
 obtain⟨_,ext,e,hn⟩:=g;rw[zh2,zh2,e,List.foldl_append];exact zi9 _ fun p hp z=>hn p hp (h _ z)
theorem znE{ns:List Str}{ls ls':List LR}{lo sl:Int}(g:zdV ns ls ls'):∀{ways:List (List Str)},(∀way∈ways,∀y∈way,y∈ns)->zk7 ls' ways lo sl=zk7 ls ways lo sl:=by
 intro ways;unfold zk7;generalize (0:Int)=m
 induction ways generalizing m with
 | nil=>intro _;rfl
 | cons w t ih =>
  intro h;rw[List.foldl_cons,List.foldl_cons,zlh g (h w List.mem_cons_self)];exact ih _ fun v hv=>h v (List.mem_cons_of_mem _ hv)
theorem zia.sub{ho ga ns:List Str}{ls:List LR}{sl:Int}{r:RW}(R:zia ho ga ns ls sl r):∀way∈r.ways,∀y∈way,y∈ns:=by
 obtain⟨first,last,w1,k1,_,_,_,_,_,Y,_,h⟩:=R.way;intro way hw;rcases h with e | ⟨w2,k2,e,_,_,Y2,_⟩
 .rw[e] at hw;rw[List.mem_singleton.mp hw];exact Y.sub
 .rw[e] at hw;rcases List.mem_cons.mp hw with rfl | hw
  .exact Y.sub
  .rw[List.mem_singleton.mp hw];exact Y2.sub
theorem zia.grow{ho ga ns ns':List Str}{ls ls':List LR}{sl:Int}{r:RW}(R:zia ho ga ns ls sl r)(g:zdV ns ls ls')(n:∀y∈ns,y∈ns'):zia ho ga ns' ls' sl r where
 nmn:=n _ R.nmn
 nmo:=fun z=>by
  obtain⟨_,ext,e,hn⟩:=g;rw[zkK,e,List.map_append,<- zkK,<- List.append_assoc] at z;rcases List.mem_append.mp z with z | z
  .exact R.nmo z
  .obtain⟨p,hp,ep⟩:=List.mem_map.mp z;exact hn p hp (ep▸R.nmn)
 way:=by
  obtain⟨first,last,w1,k1,a1,a2,a3,a4,a5,Y,a6,h⟩:=R.way;refine⟨first,last,w1,k1,a1,a2,a3,a4,a5,Y.grow g n,a6,?_⟩;rcases h with e | ⟨w2,k2,e,b1,b2,Y2,b3⟩
  .exact .inl e
  .exact .inr ⟨w2,k2,e,b1,b2,Y2.grow g n,b3⟩
 ev:=R.ev
 l1:=R.l1
 l4:=R.l4
 le:=R.le
 r0:=R.r0
 re:=R.re
 lst:=by
  obtain⟨sp,e,h⟩:=R.lst;exact⟨sp,by rw[znE g R.sub];exact e,h⟩
theorem zsj{xs:List Str}{i j:Nat}{x:Str}(nd:xs.Nodup)(h1:xs[i]? = some x)(h2:xs[j]? = some x):i=j:=by
 have hi:i < xs.length:=by
  by_cases h:i < xs.length
  .exact h
  .rw[List.getElem?_eq_none (by omega)] at h1;cases h1
 exact(List.getElem?_inj hi nd).mp (h1.trans h2.symm)
def zdo(σ:List Str)(v:Str):List Str:=if σ.any (·== v)=true then σ else σ++[v]
def zd5(val:Nat->Str)(i:Nat):List Str:=((List.range i).map val).foldl zdo []
theorem zpH(val:Nat->Str):zd5 val 0=[]:=rfl
theorem zhs(val:Nat->Str)(i:Nat):zd5 val (i+1)=zdo (zd5 val i) (val i):=by
 unfold zd5;rw[List.range_succ,List.map_append,List.foldl_append];rfl
theorem zkE(σ:List Str)(v:Str):(zdo σ v).length=if σ.any (·== v)=true then σ.length else σ.length+1:=by
 unfold zdo;split<;>simp
theorem zid(val:Nat->Str):∀i,(zd5 val i).length<=i
 | 0=>by rw[zpH];exact Nat.le_refl _
 | i+1=>by
  rw[zhs,zkE];have ih:=zid val i;split<;>omega
theorem zpz(σ:List Str)(v k:Str):(zdo σ v).any (·== k)=(σ.any (·== k)||decide (k=v)):=by
 unfold zdo;by_cases h:σ.any (·== v)=true
 .rw[if_pos h];by_cases e:k=v
  .subst e;rw[h];simp
  .simp[e]
 .rw[if_neg h,List.any_append];by_cases e:k=v
  .subst e;simp
  .have hb:(v==k)=false:=by simpa [beq_iff_eq] using (fun h':v=k=>e h'.symm)
   simp[hb,e]
theorem zoM{σ:List Str}{v:Str}:σ.any (·== v)=true↔v∈σ:=by
 rw[List.any_eq_true];exact⟨fun⟨x,hx,e⟩=>by rw[beq_iff_eq] at e;exact e▸hx,fun h=>⟨v,h,by simp⟩⟩
theorem ze4:∀(ys acc:List Str),acc.Nodup->((ys.foldl zdo acc).length=acc.length+ys.length↔(acc++ys).Nodup)/\(ys.foldl zdo acc).length<=acc.length+ys.length
 | [],acc,h=>by simp[h]
 | y::t,acc,h=>by
  rw[List.foldl_cons];by_cases c:y∈acc
  .have e:zdo acc y=acc:=by unfold zdo;rw[if_pos (zoM.mpr c)]
   rw[e];obtain⟨_,ih⟩:=ze4 t acc h;refine⟨⟨fun z=>?_,fun z=>?_⟩,?_⟩
   .rw[List.length_cons] at z;omega
   .exact absurd rfl ((List.nodup_append.mp z).2.2 y c y List.mem_cons_self)
   .rw[List.length_cons];omega
  .have e:zdo acc y=acc++[y]:=by unfold zdo;rw[if_neg (fun z=>c (zoM.mp z))]
   have h':(acc++[y]).Nodup:=List.nodup_append.mpr ⟨h,by simp,fun a ha b hb q=>by rw[List.mem_singleton.mp hb] at q;exact c (q▸ha)⟩;obtain⟨ih1,ih2⟩:=ze4 t (acc++[y]) h';rw[e];rw[List.length_append,List.append_assoc] at ih1;rw[List.length_append] at ih2;rw[List.length_cons];have l1:([y]:List Str).length=1:=rfl;rw[l1] at ih1 ih2;refine⟨⟨fun z=>ih1.mp (by omega),fun z=>?_⟩,by omega⟩;have:=ih1.mpr z;omega
def zgG(ys:List Str):Nat:=(ys.foldl zdo []).length
theorem zh0{ys:List Str}(h:ys.Nodup):zgG ys=ys.length:=by
 have:=(ze4 ys [] (by simp)).1.mpr (by simpa using h);unfold zgG;simpa using this
theorem zrX{ys:List Str}(h:¬ ys.Nodup):zgG ys < ys.length:=by
 have a:=(ze4 ys [] (by simp)).1;have b:=(ze4 ys [] (by simp)).2;simp only[List.length_nil,Nat.zero_add,List.nil_append] at a b;unfold zgG;have:¬ (ys.foldl zdo []).length=ys.length:=fun z=>h (a.mp z)
 omega
theorem zsf(ys:List Str):zd5 (fun i=>ys.getD i Str.empty) ys.length=ys.foldl zdo []:=by
 unfold zd5;congr 1
 apply List.ext_getElem?;intro i;rw[List.getElem?_map];by_cases h:i < ys.length
 .rw[List.getElem?_range h,List.getElem?_eq_getElem h];show some (ys.getD i Str.empty)=_;rw[List.getD_eq_getElem?_getD,List.getElem?_eq_getElem h];rfl
 .rw[List.getElem?_eq_none (by rw[List.length_range];omega),List.getElem?_eq_none (by omega)];rfl
theorem StrsAre.str_at:∀{vs:List Value} {ns:List Str},StrsAre vs ns->∀(i:Nat) (v:Value),vs[i]? = some v->∃t,v= .str (ns.getD i Str.empty) t
 | _,_, .nil,i,v,h=>by simp at h
 | _,_, .cons n t hr,0,v,h=>by simp at h;exact⟨t,by rw[<- h];rfl⟩
 | _,_, .cons n t hr,i+1,v,h=>by
  simp only[List.getElem?_cons_succ] at h;obtain⟨t',e⟩:=StrsAre.str_at hr i v h;exact⟨t',by rw[e];rfl⟩
section
variable{prog:Program}{w:World}{A:Around}{R:Result->Shared->Prop}{I:Addr}{fp wr:List Addr}{G:Array GenState->Array GenState->Prop}{n:Nat}{P:Nat->Value->Prop}{St:Nat->Shared->Prop}
theorem zpJ(W:WalksS prog w A.in1 I fp wr G n P St)(S:Addr)(hSf:S∉fp)
  (val:Nat->Str)(hval:∀i v,P i v->∃t,v= .str (val i) t)(hb:n+1 < scanBound) :
  ∀(k i:Nat) (s:Shared),n - i=k->i<=n->St i s ->
   s.heap.SetOf (strKind prog w) S (fun k'=>(zd5 val i).any (·== k')) (zd5 val i).length ->
   (∀s',Moved (S::wr) G s s'->s'.heap.SetOf (strKind prog w) S (fun k'=>(zd5 val n).any (·== k')) (zd5 val n).length->R (.ok (.ret .none)) s') ->
   codeAny (model prog w) A (.builtin "set.update.loop" ⟨[.ref S, .ref I],[]⟩) R s:=by
 have hSw:S∉wr:=fun h=>hSf (W.sub _ h)
 have hsub:∀b∈wr,b∈S::wr:=fun b hb=>List.mem_cons_of_mem _ hb
 intro k;induction k with
 | zero =>
  intro i s hk hi hst hS hR;have hin:i=n:=by omega
  subst hin;refine codeAny_builtin PyProof.Rows.F.entry_set_update_loop ?_;rw[Around.under_plainId PyProof.Rows.F.plain_set_update_loop _];show wpAny _ A.in1 (pyNext (.ref I) >>= _) _ _ s;refine wpAny_bind (W.done s _ _ hst fun s' hm=>?_);show wpAny _ A.in1 (ret Value.none) _ _ s';exact wpAny_pure (hR s' (hm.mono hsub) (by
   obtain⟨o,es,ep,t,ho,rest⟩:=hS;exact⟨o,es,ep,t,hm.heap S _ hSw ho,rest⟩))
 | succ k ih =>
  intro i s hk hi hst hS hR;have hlt:i < n:=by omega
  refine codeAny_builtin PyProof.Rows.F.entry_set_update_loop ?_;rw[Around.under_plainId PyProof.Rows.F.plain_set_update_loop _];show wpAny _ A.in1 (pyNext (.ref I) >>= _) _ _ s;refine wpAny_bind (W.item i s _ _ hlt hst fun v s' hP hst' hm=>?_);obtain⟨t,rfl⟩:=hval i v hP;have hS':s'.heap.SetOf (strKind prog w) S (fun k'=>(zd5 val i).any (·== k')) (zd5 val i).length:=by
   obtain⟨o,es,ep,tb,ho,rest⟩:=hS;exact⟨o,es,ep,tb,hm.heap S _ hSw ho,rest⟩
  show wpAny _ A.in1 (holding [Value.str (val i) t] (setAdd S (.str (val i) t)) >>= _) _ _ s';refine wpAny_bind (wpAny_holding ?_);unfold setAdd;refine wpAny_holding ?_;refine wpAny_bind ((strKind prog w).pyHash (k:=val i) (strKind_is _ _ _ _) ?_);have hroom:(zd5 val i).length+1 < scanBound:=by have:=zid val i;omega
  refine wpAny_setAddHashed_of (knd:=strKind prog w) (s:={ s' with toks:=s'.toks+1 }) (strKind_is _ _ _ _) rfl hS' hroom fun h' hsb hS2=>?_
  have hSi:h'.SetOf (strKind prog w) S (fun k'=>(zd5 val (i+1)).any (·== k')) (zd5 val (i+1)).length :=
   SetOf_congr hS2 (fun k'=>by rw[zhs,zpz]) (by rw[zhs,zkE])
  refine wpAny_pure ⟨plainId_quiet PyProof.Rows.F.plain_set_update_loop _,ih (i+1) _ (by omega) hlt (W.frame _ s' _ _ hst' (Nat.le_succ _) fun b hb o e=>?_) hSi fun s'' hm'' hS''=>?_⟩
  .rw[hsb.2 b (fun h:b=S=>hSf (by rw[<- h];exact hb))];exact e
  .refine hR s'' (Moved.trans W.gtrans ((hm.mono hsub).then_heap (Nat.le_succ _) fun b o hb e=>?_) hm'') hS'';rw[hsb.2 b (fun h:b=S=>hb (by rw[h];exact List.mem_cons_self))];exact e
end
end L2
namespace PySem
open PyProof.Rows
theorem zjp:isSubtype (.type "tuple") (.type "set")=pure false:=by rw[isSubtype_type];kernel_rfl
theorem zeT:isSubtype (.type "tuple") (.type "frozenset")=pure false:=by rw[isSubtype_type];kernel_rfl
section
variable{prog:Program}{w:World}{A:Around}{E:Value->Shared->Prop}{s:Shared}
set_option maxHeartbeats 3200000 in
theorem ziw{l:Addr}{items:Array Value}{ns:List Str}{Q:Value->Shared->Prop}
  (hh:A.handled=none)(hl:s.heap.IsTuple l items)(hi:PyProof.Rows.StrsAre items.toList ns)(hb:items.size+1 < scanBound)
  (h:∀(h':Heap) (tk:Nat),h'.SetOf (strKind prog w) s.heap.objs.size (fun k'=>(L2.zd5 (fun i=>ns.getD i Str.empty) items.size).any (·== k')) (L2.zd5 (fun i=>ns.getD i Str.empty) items.size).length ->
   (∀b o,b < s.heap.objs.size->s.heap.get? b=some o->h'.get? b=some o)->Q (.ref s.heap.objs.size) { s with heap:=h',toks:=tk }) :
  wpAny (model prog w) A (call (.type "set") [.ref l]) Q E s:=by
 obtain⟨c,tl,hmro⟩:=F.called_set.mro;have hmade:=F.called_set.made;have hsub:=F.called_set.sub;refine wpAny_call (codeAny_of_tree ?_);show wpAny _ _ (callAny (.type "set") _) _ _ _;refine wpAny_pure ⟨Code.quiet_builtin _ (by decide+kernel),codeAny_builtin F.entry_type_call ?_⟩;rw[Around.under_plain (weight_type_call_type "set" [.ref l] []) rfl];have h1:=F.called_set.notType;have h2:=F.called_set.canCreate;have hct:=F.typeCall_set_1 (.ref l);repeat (any_goals (first | assumption | wp_step))
 refine codeAny_mono (code_set_new_1 (.ref l) (E:=E) (Q₁:=fun obj s₁=>∃led:Bool,obj= .ref s.heap.objs.size/\s₁={ s with heap:=s.heap.push { cls:= .type "set",dict:=none,data:= .set #[] 0 (.fresh 0 0 led) } }) fun led=>⟨led,rfl,rfl⟩) fun r s₁ hr=>?_
 cases r with
 | error e=>exact hr
 | ok fl =>
  cases fl with
  | ret obj =>
   obtain⟨led,rfl,rfl⟩:=hr;have hS:(s.heap.push { cls:= .type "set",dict:=none,data:= .set #[] 0 (.fresh 0 0 led) }).get? s.heap.objs.size=some { cls:= .type "set",dict:=none,data:= .set #[] 0 (.fresh 0 0 led) }:=Heap.get?_push_size _ rfl;have hT:Shared.TypeIs { s with heap:=s.heap.push { cls:= .type "set",dict:=none,data:= .set #[] 0 (.fresh 0 0 led) } } (.ref s.heap.objs.size) "set":=⟨_,hS,rfl⟩;have hli:=F.called_set.init.lookup;have hbi:=F.called_set.init.bind (.ref s.heap.objs.size);repeat (any_goals (first | assumption | wp_step))
   refine codeAny_mono (codeAny_call_builtin (R:=wants (fun r s₂=>r= .none/\∃h' tk,s₂={ s with heap:=h',toks:=tk } /\
     h'.SetOf (strKind prog w) s.heap.objs.size (fun k'=>(L2.zd5 (fun i=>ns.getD i Str.empty) items.size).any (·== k')) (L2.zd5 (fun i=>ns.getD i Str.empty) items.size).length /\
     (∀b o,b < s.heap.objs.size->s.heap.get? b=some o->h'.get? b=some o)) E) F.called_set.init.plain F.entry_set_init (check_set_init_1 hT ?_)) fun r₂ s₂ hr₂=>?_
   .have hl1:(s.heap.push { cls:= .type "set",dict:=none,data:= .set #[] 0 (.fresh 0 0 led) }).IsTuple l items:=hl.push _;obtain⟨ol,hol,hcl,nl,hdl⟩:=id hl;obtain⟨ocls,odict,odata,oslots⟩:=ol;simp only at hcl hdl;subst hcl;subst hdl;have hol':(s.heap.push { cls:= .type "set",dict:=none,data:= .set #[] 0 (.fresh 0 0 led) }).get? l=some { cls:= .type "tuple",dict:=odict,data:= .seq items nl,slots:=oslots }:=Heap.get?_push_of_some _ hol;have hsls:=zjp;have hslf:=zeT;have hne:(Value.type "tuple"==Value.type "dict")=false:=by decide
    unfold Builtin.«set.__init__» noKeywords Builtin.Frozenset.updateFrom;generalize hPI:pyIter=PI
    wp_walk
    subst hPI;refine wpAny_pyIter_tuple hl1 ?_;refine wpAny_bind (wpAny_runValue ?_);have hlS:l < s.heap.objs.size:=Heap.lt_size hol;have hh3:A.in1.in1.in1.handled=none:=by simp[hh]
    have hneI:l≠(s.heap.push { cls:= .type "set",dict:=none,data:= .set #[] 0 (.fresh 0 0 led) }).objs.size:=by
     rw[Heap.size_push];exact Nat.ne_of_lt (Nat.lt_succ_of_lt hlS)
    have hSf:s.heap.objs.size∉[(s.heap.push { cls:= .type "set",dict:=none,data:= .set #[] 0 (.fresh 0 0 led) }).objs.size,l]:=by
     rw[Heap.size_push];simp only[List.mem_cons,List.mem_singleton,List.not_mem_nil,or_false,not_or];exact⟨Nat.ne_of_lt (Nat.lt_succ_self _),Nat.ne_of_gt hlS⟩
    have hval:∀(i:Nat) (v:Value),items[i]? = some v->∃t,v= .str ((fun i=>ns.getD i Str.empty) i) t:=fun i v hv =>
     L2.StrsAre.str_at hi i v (by rw[Array.getElem?_toList];exact hv)
    refine L2.zpJ ((Walks.tuple hh3 _ l hneI items).toS) s.heap.objs.size
     hSf (fun i=>ns.getD i Str.empty) hval hb (items.size - 0) 0 _ (by omega) (Nat.zero_le _)
     ⟨⟨_,Heap.get?_push_size _ rfl,rfl,rfl⟩,(hl1.push _)⟩ ?hS0 ?hR
    case hS0 =>
     have hget:((s.heap.push { cls:= .type "set",dict:=none,data:= .set #[] 0 (.fresh 0 0 led) }).push { cls:= .type "tuple_iterator",data:= .fields #[.ref l, .int 0 0] }).get? s.heap.objs.size
       = some { cls:= .type "set",dict:=none,data:= .set #[] 0 (.fresh 0 0 led) }:=Heap.get?_push_of_some _ hS
     exact PyProof.Rows.SetOf_congr ((PyProof.Rows.setObjOf_fresh (knd:=strKind prog w) led).setOf hget (by unfold scanBound;omega)) (fun _=>rfl) rfl
    case hR =>
     intro s' hm hS';obtain⟨h',g',d',tk',os'⟩:=s';have eg:g'=s.gens:=hm.gens;have ed:d'=s.drawn:=hm.drawn;have eo:os'=s.os:=hm.os;subst eg;subst ed;subst eo;show wpAny _ _ _ _ _ _;refine wpAny_pure ?_;show wpAny _ _ (ret Value.none) _ _ _;refine wpAny_pure ⟨rfl,h',tk',rfl,hS',fun b o hb e=>?_⟩;have hb1:b≠s.heap.objs.size:=Nat.ne_of_lt hb;have hb2:b≠(s.heap.push { cls:= .type "set",dict:=none,data:= .set #[] 0 (.fresh 0 0 led) }).objs.size:=by
      rw[Heap.size_push];exact Nat.ne_of_lt (Nat.lt_succ_of_lt hb)
     exact hm.heap b o (by simp only[List.mem_cons,List.mem_singleton,List.not_mem_nil,or_false,not_or];exact⟨hb1,hb2⟩) (Heap.get?_push_of_some _ (Heap.get?_push_of_some _ e))
   .cases r₂ with
    | error e=>exact hr₂
    | ok fl₂ =>
     cases fl₂ with
     | ret r =>
      obtain⟨rfl,h',tk,rfl,hS',hk'⟩:=hr₂;repeat (any_goals (first | assumption | wp_step))
      exact h _ _ hS' hk'
     | _=>exact hr₂.elim
  | _=>exact hr.elim
end
end PySem
namespace L2
open PySem PySem.Spec PyProof.Rows
def zpU(P:Program)(w:World)(a:Addr)(ys:List Str):HO:= .ext fun h=>∃S,h.SetOf (strKind P w) a S (zgG ys)
section
variable{X:Cx}(K:Frag)
theorem zqo(hc:X.calm=true)(h:X.K=K:=by rfl):zaf X (.type "set") (fun xs H Q=>∃p ys,xs=[.ref p]/\SqT K H p (ys.map V.str)/\ys.length<=100/\∀a,H a=none->Q (.ref a) (upd H a (zpU X.prog X.w a ys))):=by
 subst h;intro pins s σ H xs us Q I r h;obtain⟨p,ys,rfl,hl,hz,q⟩:=h;obtain⟨u,rfl,rx⟩:=vals1 r;cases rx;obtain⟨its,r',pl,_⟩:=I.tuple hl;have hlen:its.toArray.size=ys.length:=by rw[List.size_toArray,<- r'.length,List.length_map]
 refine ziw (I.ok.hd hc) (show s.heap.IsTuple p its.toArray from pl) (by simpa using zft r') (by rw[hlen];unfold scanBound;omega) fun h' tk hS hk=>?_
 rw[hlen,zsf] at hS;have hk':∀b u,s.heap.get? b=some u->h'.get? b=some u:=fun b u e=>hk b u (Heap.lt_size e) e
 refine⟨.ref s.heap.objs.size,_,I.laid (o:=zpU X.prog X.w s.heap.objs.size ys) hk' (Nat.le_refl _) ?_,rfl,q _ (I.hok.fresh (Nat.le_refl _))⟩;refine⟨⟨_,hS⟩,?_,fun h1 h2 ⟨S,o,es,ep,t,e,r⟩ k=>⟨S,o,es,ep,t,k o e,r⟩⟩;obtain⟨o,_,_,_,e,_⟩:=hS;exact⟨o,e⟩
theorem zpY:zaf X (.builtin "len") (fun xs H Q=>∃a ys,xs=[.ref a]/\H a=some (zpU X.prog X.w a ys)/\Q (.int (zgG ys:Nat)) H):=by
 intro pins s σ H xs us Q I r h;obtain⟨a,ys,rfl,ha,q⟩:=h;obtain⟨u,rfl,rx⟩:=vals1 r;cases rx;obtain⟨⟨S,o,es,ep,t,ho,hex,hd,_,_,hsb,hf,hn⟩,_,_⟩:=(show zaF X.prog X.w H s.heap a (zpU X.prog X.w a ys) from I.hok a _ ha);have hb:(es.size:Int) < 2^63:=by unfold scanBound at hsb;omega
 refine call_len_set ho hex hd hf hb ⟨.int _,H,I.tok _,⟨_,rfl⟩,?_⟩;rw[hn];exact q
end
def Its(x:Str):It:=⟨fun i _=>i < x.cps.size,fun i H v H'=>H'=H/\∃c,x.cps.toList[i]? = some c/\v= .str ⟨#[c]⟩,fun i _=>x.cps.size<=i⟩
theorem ztg{P:Program}{w:World}{K:Frag}{tg:Expr}(it:Addr)(x:Str)(t:Tok):Turn P w K tg (Its x) [it] it (fun i h=>h.IsStrIter it "str_ascii_iterator" x t i) where
 mem:=by simp
 obj:=fun i h st b hb=>by
  have e:b=it:=by simpa using hb
  subst e;obtain⟨o,e,c,d⟩:=st;exact⟨o,e,fun v z=>by rw[d] at z;cases z⟩
 keep:=fun i h h' st k=>let ⟨o,ho,r⟩:=st;⟨o,k it (by simp) o ho,r⟩
 item:=by
  intro X hP hw hK hc i pins s σ H E I hf st hg;subst hP hw hK;obtain⟨f0,f1,f2,f3,f4,f5⟩:=hf it (by simp);have W:=Walks.strAscii (prog:=X.prog) (w:=X.w) (I.ok.hd hc) it x t;refine W.item i s _ _ hg st fun v h' tk hv st' kk=>?_
  obtain⟨c,u,hcu,rfl⟩:=hv;have I1:Inv X pins σ H { s with heap:=h',toks:=tk }:=I.turned (fun b o hb e=>kk b o (by simpa using hb) e) f0 f1 f3 f4 f5;obtain⟨o,e,c',d⟩:=id st';exact⟨_,rfl,zoR (s:={ s with heap:=h',toks:=tk }) e c' d (by decide) ⟨.str ⟨#[c]⟩,H,I1,⟨u,rfl⟩,⟨rfl,c,by rw[Array.getElem?_toList];exact hcu,rfl⟩,st',fun b hb=>(hf b hb).1⟩⟩
 done:=by
  intro X hP hw hK hc i pins s σ H E I hf st hg;subst hP hw hK;obtain⟨f0,f1,f2,f3,f4,f5⟩:=hf it (by simp);exact wpAny_pyNext_ascii_end (I.ok.hd hc) st (Array.getElem?_eq_none hg) fun h' eb=>⟨rfl,I.turned (t':=s.toks) (fun b o hb e=>eb b o hb e) f0 f1 f3 f4 f5⟩
 self:=fun _ _ _ _ _ st h=>wpAny_pyIter_striter_ascii st h
section
variable{X:Cx}{tg:Expr}
end
section
variable{X:Cx}{CX:CXT}{k:Nat}{f C:Addr}{fd:FuncData}{ps ks:List Str}{sp:Sp}{E:XK}{x:Str}{p pos:Pos}{e:Expr}{es:List Expr}{kws:List Keyword}{t tk:TA}{g:List Value->List Value->List Value}{gV:List V->List V->List V}
theorem zp6{pins:List (Addr×Obj)}{σ:St}{H:Hp}{s:Shared}{Q:VK}{us ws:List Value}{vs zs:List V}(M:Mk X.K C f)(F:zac X.prog X.w X.K X.mg X.base CX k f fd ps sp)(hr:zdA (k+1) X.A)(hb:zdj X.K fd ps ks g gV)
  (hx:zcS CX X E)(I:Inv X pins σ H s)(r:Vals vs us)(rz:Vals zs ws)
  (h:∀x dx,H x=none->H dx=none->dx≠x->sp (gV (.ref x::vs) zs) (upd (upd H dx (.own x)) x (.ins C dx [])) (fun v H2=>v= .non/\Q (.ref x) H2) E) :
  wpAny (model X.prog X.w) X.A (call (.ref C) us (ks.zip ws)) (EP X pins σ Q) X.xe s:=by
 have hq:=h (s.heap.objs.size+1) s.heap.objs.size (I.hok.fresh (Nat.le_succ _)) (I.hok.fresh (Nat.le_refl _)) (Nat.ne_of_lt (Nat.lt_succ_self _));have I2:=Inv.made (C:=C) I;have r2:Vals (gV (V.ref (s.heap.objs.size+1)::vs) zs) (g (Value.ref (s.heap.objs.size+1)::us) ws):=hb.rel (.cons rfl r) rz;have hl:(g (Value.ref (s.heap.objs.size+1)::us) ws).length=ps.length:=by rw[<- r2.length];exact F.len _ _ _ _ hq
 refine wpAny_call (zsM (f:=f) I.kIn M.makes M.init (beq_iff_eq.mp M.fn) (codeAny_mono (F.run _ X.stack _ _ ⟨Value.ref (s.heap.objs.size+1)::us,ks.zip ws⟩ _ _ _ E (hr.make C us (ks.zip ws))
  (I2.env0.make C us (ks.zip ws)) (hb.to _ (Value.ref (s.heap.objs.size+1)::us) ws I2.kIn hl) r2 hq) fun r s' hq'=>?_))
 cases r with
 | error e=>exact hx pins σ _ _ e s' I2 hq'
 | ok fl =>
  cases fl with
  | ret u =>
   obtain⟨v,H',I3,rv,ev,q3⟩:=I2.after hq';subst ev;exact⟨rv,⟨V.ref (s.heap.objs.size+1),H',I3,rfl,q3⟩⟩
  | next=>exact False.elim hq'
  | brk=>exact False.elim hq'
  | cont=>exact False.elim hq'
end
section
variable{X:Cx}{CX:CXT}
theorem zvZ{prog:Program}{w:World}{A:Around}{E:Value->Shared->Prop}{s:Shared}{K:Frag}{x C f:Addr}{ox:Obj}{od:Option Obj}{b tb:Value}{Q:Value->Shared->Prop}(hu:A.units < cLine)(KI:K.In s.heap)(I:PySem.W.InstAt s.heap x ox C od)
  (hb:PySem.W.Looks (model prog w) s.heap (typeOf b) tb)(hn:notFirst K C tb=true)
  (hs:findIn K (.ref C) "__eq__"=some (some (.ref f)))(hf:isFn K (.ref f)=true)
  (h:wpAny (model prog w) A (call (.ref f) [.ref x,b]) (PySem.W.CmpBack Q) E s):wpAny (model prog w) A (richCompare .Eq (.ref x) b) Q E s:=by
 have one:wpAny (model prog w) A (tryCompare (.ref x) (cmpInfo .Eq).2.1 b) (fun r s'=>∃v,r=some v/\Q v s') E s:=by
  unfold tryCompare;refine wpAny_bind (PySem.W.ifBound_K KI I hs hf (wpAny_mono h (fun v s' hv=>?_) fun _ _ e=>e));cases v<;>first | exact hv.elim | exact wpAny_pure ⟨_,rfl,hv⟩
 unfold richCompare;simp only[oneThing_ref];refine wpAny_holding (wpAny_bind (wpAny_cRoomFor hu ?_));refine wpAny_bind (I.type.here (wpAny_bind (hb.here ?_)));split
 .rename_i q;have e:PySem.W.subIn K tb (.ref C)=some false:=by
   rcases Bool.or_eq_true_iff.mp hn with e | e
   .rw[beq_iff_eq.mp e] at q;simp at q
   .exact beq_iff_eq.mp e
  refine wpAny_bind ((PySem.W.looks_subIn KI e).here ?_);simp only[Bool.false_eq_true,if_false];refine wpAny_bind (wpAny_mono one (fun r s' z=>?_) fun _ _ e=>e);obtain⟨v,rfl,hq⟩:=z;exact wpAny_pure hq
 .refine wpAny_bind (wpAny_pure ?_);simp only[Bool.false_eq_true,if_false];refine wpAny_bind (wpAny_mono one (fun r s' z=>?_) fun _ _ e=>e);obtain⟨v,rfl,hq⟩:=z;exact wpAny_pure hq
structure zvN(P:Program)(w:World)(K:Frag)(mg:Str->Option Value)(base:Heap)(CX:CXT)(C:Addr)(k:Nat)(ps:List Str)(sp:Sp):Prop where
 ex:∃f fd,zac P w K mg base CX k f fd ps sp/\Binds K fd ps []/\findIn K (.ref C) "__eq__"=some (some (.ref f))/\isFn K (.ref f)=true
def ztv(K:Frag)(C:Addr)(H:Hp)(y:V):Prop:=(∃b dx fs,y= .ref b/\H b=some (.ins C dx fs))\/((∃z,y= .str z)/\notFirst K C (.type "str")=true)\/((∃z,y= .int z)/\notFirst K C (.type "int")=true)
theorem zwO{C:Addr}{j k:Nat}{ps:List Str}{sp:Sp}{E:XK}(h:zvN X.prog X.w X.K X.mg X.base CX C j ps sp)(hr:zdA k X.A)(hj:j<=k:=by decide)(hx:zcS CX X E:=by exact ziT) :
  OpR X (compareOp .Eq) (fun x y H Q=>∃a dx fs,x= .ref a/\H a=some (.ins C dx fs)/\ztv X.K C H y/\sp [x,y] H Q E):=by
 obtain⟨f,fd,F,b,hs,hf⟩:=h.ex;intro pins s σ H x y v u Q I rx ry h;obtain⟨a,dx,fs,rfl,ha,ho,q⟩:=h;cases rx;obtain⟨mA,O,_,_,_,_⟩:=zfz I.hok ha;obtain⟨od,ia,_⟩:=O.look;have call:=zrT (us:=[.ref a,u]) (vs:=[.ref a,y]) (ds:=[]) (dvs:=[]) (F.mono hj) hr b .nil hx I (.cons rfl (.cons ry .nil)) q;have back:∀v s',EP X pins σ Q v s'->PySem.W.CmpBack (EP X pins σ Q) v s':=fun v s' h=>by
  cases v with
  | notImplemented =>
   obtain⟨z,H',I',rz,_⟩:=h;cases z with
   | non=>cases rz
   | bl _=>cases rz
   | int _=>obtain⟨_,rz⟩:=rz;cases rz
   | str _=>obtain⟨_,rz⟩:=rz;cases rz
   | byt _=>obtain⟨_,rz⟩:=rz;cases rz
   | flt _=>obtain⟨_,rz⟩:=rz;cases rz
   | ref _=>cases rz
   | ty _=>cases rz
  | _=>exact h
 show wpAny _ _ (richCompare .Eq (.ref a) u) _ _ _;have fin:∀tb,PySem.W.Looks (model X.prog X.w) s.heap (typeOf u) tb->notFirst X.K C tb=true->wpAny (model X.prog X.w) X.A (richCompare .Eq (.ref a) u) (EP X pins σ Q) X.xe s:=fun tb h1 h2 =>
  zvZ (by have:=hr.units;omega) I.kIn ia h1 h2 hs hf (wpAny_mono call back fun _ _ e=>e)
 rcases ho with⟨b',dx',fs',rfl,hb'⟩ | ⟨⟨z,rfl⟩,hn⟩ | ⟨⟨z,rfl⟩,hn⟩
 .cases ry;obtain⟨mB,O',_⟩:=zfz I.hok hb';obtain⟨od',ib,_⟩:=O'.look;exact fin (.ref C) ib.type (by unfold notFirst;simp)
 .obtain⟨t,rfl⟩:=ry;exact fin _ (.of_pure rfl) hn
 .obtain⟨t,rfl⟩:=ry;exact fin _ (.of_pure rfl) hn
end
inductive D where
 | non | bl (b:Bool) | int (i:Int) | str (x:Str) | ty (n:String)
 | cls (c:Str) | scr (ns:List Int) | cell (k:Nat)
 | tup (ds:List D) | lst (ds:List D)
 | dct (ks:List Key) (vs:List D) | dtt (ks:List (List Key)) (vs:List D)
 | obj (c:Str) (ns:List Str) (vs:List D)
 | exc (c:Str)
inductive Ct where
 | lst (ds:List D) | dct (ks:List Key) (vs:List D) | dtt (ks:List (List Key)) (vs:List D)
 | ins (c:Str) (ns:List Str) (vs:List D) | draw
 | fdct (o:Obj) (ks:List Key) (vs:List D) | fdtt (o:Obj) (ks:List (List Key)) (vs:List D)
 | lam (k0:Nat) (x:Str) (ln cl:Nat) (q:Str)
def zwe(ln cl:Nat)(c':Addr):Array Value:= #[rawInt ln,rawInt cl, .ref c']
def zym(c':Addr)(qual:Str):HO:= .ext fun h=>h.CodeRec (.ref c') qual
def clsOf(K:Frag)(c:Str):Option Addr:=match nsIn K mainGlobals c with
 | some (some (.ref C))=>some C
 | _=>none
def zl0(a C:Addr)(dx:Option Addr):HO:= .ext fun h=>∃ox,h.get? a=some ox/\ox.cls= .ref C/\ox.dict=dx/\PySem.W.notCls ox=true
structure Wd where
 b:Nat->Option Addr
 F:Hp
structure Wd.le(W W':Wd):Prop where
 b:∀k a,W.b k=some a->W'.b k=some a
 F:zj3 W.F W'.F
theorem Wd.le.refl(W:Wd):W.le W:=⟨fun _ _ h=>h,fun _ _ h=>h⟩
theorem Wd.le.trans{W W' W'':Wd}(a:W.le W')(b:W'.le W''):W.le W'':=⟨fun k x h=>b.b k x (a.b k x h),fun k x h=>b.F k x (a.F k x h)⟩
abbrev Mu:=Nat->Option Ct
abbrev zag:=List (Option D)
def zV(μ:Mu)(k:Nat)(c:Ct):Mu:=fun j=>if j=k then some c else μ j
def zjS(μ:Mu)(k:Nat):Mu:=fun j=>if j=k then none else μ j
theorem zA{μ:Mu}{k:Nat}{c:Ct}:zV μ k c k=some c:=if_pos rfl
theorem zq{μ:Mu}{k j:Nat}{c:Ct}(h:j≠k):zV μ k c j=μ j:=if_neg h
theorem zcp{μ:Mu}{k:Nat}{c c':Ct}:zV (zV μ k c) k c'=zV μ k c':=by funext j;unfold zV;split<;>rfl
theorem zkH{μ:Mu}{k:Nat}{c:Ct}(h:μ k=none):zjS (zV μ k c) k=μ:=by
 funext j;unfold zV zjS;by_cases e:j=k
 .subst e;rw[if_pos rfl,h]
 .show(if j=k then none else if j=k then some c else μ j)=μ j;rw[if_neg e,if_neg e]
def MLe(μ μ':Mu):Prop:=∀k c,μ k=some c->μ' k=some c
theorem MLe.refl(μ:Mu):MLe μ μ:=fun _ _ h=>h
theorem MLe.zV{μ:Mu}{k:Nat}{c:Ct}(h:μ k=none):MLe μ (L2.zV μ k c):=fun j d e=>by
 rw[zq (fun z=>by subst z;rw[h] at e;cases e)];exact e
theorem zfn{H:Hp}{p:Addr}{o:HO}(h:H p=none):zj3 H (upd H p o):=fun b u q=>by rw[zJ (zai q h)];exact q
theorem Rd.sm{F F':Hp}{a:Addr}{o:HO}(s:zj3 F F')(h:Rd F a o):Rd F' a o:=by
 rcases h with h | ⟨u,h⟩
 .exact .inl (s _ _ h)
 .exact .inr ⟨u,s _ _ h⟩
theorem SqL.sm{K:Frag}{F F':Hp}{a:Addr}{xs:List V}(s:zj3 F F')(h:SqL K F a xs):SqL K F' a xs:=h.imp (Rd.sm s) id
theorem SqT.sm{K:Frag}{F F':Hp}{a:Addr}{xs:List V}(s:zj3 F F')(h:SqT K F a xs):SqT K F' a xs:=h.imp (Rd.sm s) id
def zdT(c:Str):Bool:= !c.cps.contains 58
def zbz(b z:Str):Str:=⟨b.cps++ #[58]++z.cps⟩
def XAt(K:Frag)(W:Wd)(lab:Str)(C:Addr)(dx:Option Addr):Prop:=(clsOf K lab=some C/\dx=none/\zdT lab=true)\/∃b z d,lab=zbz b z/\zdT b=true/\clsOf K b=some C/\dx=some d/\W.F d=some (.xd [("name", .str z)])
theorem XAt.mono{K:Frag}{W W':Wd}{lab:Str}{C:Addr}{dx:Option Addr}(h:W.le W')(x:XAt K W lab C dx):XAt K W' lab C dx:=x.imp id fun⟨b,z,d,e,c,k,f,g⟩=>⟨b,z,d,e,c,k,f,h.F _ _ g⟩
theorem zlx(b z:Str):zdT (zbz b z)=false:=by
 unfold zdT zbz;simp
theorem XAt.plain{K:Frag}{W:Wd}{lab:Str}{C:Addr}{dx:Option Addr}(x:XAt K W lab C dx)(h:zdT lab=true):clsOf K lab=some C/\dx=none:=by
 rcases x with x | ⟨b,z,d,e,_⟩
 .exact⟨x.1,x.2.1⟩
 .rw[e,zlx] at h;cases h
theorem zks{b z b' z':Str}(h:zbz b z=zbz b' z')(hb:zdT b=true)(hb':zdT b'=true):b=b'/\z=z':=by
 have key:∀(l l' r r':List Nat),l++58::r=l'++58::r'->58∉l->58∉l'->l=l'/\r=r':=by
  intro l;induction l with
  | nil =>
   intro l' r r' e _ n';cases l' with
   | nil=>exact⟨rfl,(List.cons.inj e).2⟩
   | cons a l'=>exact absurd (by rw[<- (List.cons.inj e).1];exact List.mem_cons_self) n'
  | cons a l ih =>
   intro l' r r' e n n';cases l' with
   | nil=>exact absurd (by rw[(List.cons.inj e).1];exact List.mem_cons_self) n
   | cons a' l' =>
    obtain⟨e1,e2⟩:=List.cons.inj e;obtain⟨q1,q2⟩:=ih l' r r' e2 (fun z=>n (List.mem_cons_of_mem _ z)) (fun z=>n' (List.mem_cons_of_mem _ z));exact⟨by rw[e1,q1],q2⟩
 have e:=congrArg (fun s:Str=>s.cps.toList) h;simp only[zbz,Array.toList_append,List.append_assoc,List.cons_append,List.nil_append] at e;have n1:∀{c:Str},zdT c=true->58∉c.cps.toList:=fun{c} q z=>by
  unfold zdT at q;rw[Array.mem_toList_iff] at z;simp[z] at q
 obtain⟨q1,q2⟩:=key _ _ _ _ e (n1 hb) (n1 hb');cases b;cases z;cases b';cases z';exact⟨congrArg Str.mk (Array.toList_inj.mp q1),congrArg Str.mk (Array.toList_inj.mp q2)⟩
mutual
def Rep(K:Frag)(W:Wd):D->V->Prop
 | .non,v=>v= .non
 | .bl b,v=>v= .bl b
 | .int i,v=>v= .int i
 | .str x,v=>v= .str x
 | .ty n,v=>v= .ty n
 | .cls c,v=>∃C,clsOf K c=some C/\v= .ref C
 | .scr ns,v=>∃a,v= .ref a/\SqL K W.F a (ns.map V.int)
 | .cell k,v=>∃a,v= .ref a/\W.b k=some a
 | .tup ds,v=>∃a xs,v= .ref a/\SqT K W.F a xs/\zE K W ds xs
 | .lst ds,v=>∃a xs,v= .ref a/\W.F a=some (.lst xs)/\zE K W ds xs
 | .dct ks vs,v=>∃a xs,v= .ref a/\W.F a=some (.dK (ks.zip xs))/\ks.length=xs.length/\zE K W vs xs
 | .dtt ks vs,v=>∃a xs,v= .ref a/\W.F a=some (.dT (ks.zip xs))/\ks.length=xs.length/\zE K W vs xs
 | .obj c ns vs,v=>∃C a dx xs,clsOf K c=some C/\v= .ref a/\W.F a=some (.ins C dx (ns.zip xs))/\ns.length=xs.length/\zE K W vs xs
 | .exc c,v=>∃C a dx,v= .ref a/\W.F a=some (zl0 a C dx)/\XAt K W c C dx
def zE(K:Frag)(W:Wd):List D->List V->Prop
 | [],xs=>xs=[]
 | d::ds,xs=>∃x r,xs=x::r/\Rep K W d x/\zE K W ds r
end
section
variable{K:Frag}{fl:Wd}{W W':Wd}
mutual
theorem Rep.mono(h:W.le W'):∀{d:D} {x:V},Rep K W d x->Rep K W' d x
 | .non,_,r=>by unfold Rep at *; exact r
 | .bl _,_,r=>by unfold Rep at *; exact r
 | .int _,_,r=>by unfold Rep at *; exact r
 | .str _,_,r=>by unfold Rep at *; exact r
 | .ty _,_,r=>by unfold Rep at *; exact r
 | .cls _,_,r=>by unfold Rep at *; exact r
 | .scr _,_,r=>by unfold Rep at *; obtain⟨a,e,q⟩:=r;exact⟨a,e,q.sm h.F⟩
 | .cell _,_,r=>by unfold Rep at *; obtain⟨a,e,q⟩:=r;exact⟨a,e,h.b _ _ q⟩
 | .tup _,_,r=>by unfold Rep at *; obtain⟨a,xs,e,q,z⟩:=r;exact⟨a,xs,e,q.sm h.F,zE.mono h z⟩
 | .lst _,_,r=>by unfold Rep at *; obtain⟨a,xs,e,q,z⟩:=r;exact⟨a,xs,e,h.F _ _ q,zE.mono h z⟩
 | .dct _ _,_,r=>by unfold Rep at *; obtain⟨a,xs,e,q,l,z⟩:=r;exact⟨a,xs,e,h.F _ _ q,l,zE.mono h z⟩
 | .dtt _ _,_,r=>by unfold Rep at *; obtain⟨a,xs,e,q,l,z⟩:=r;exact⟨a,xs,e,h.F _ _ q,l,zE.mono h z⟩
 | .obj _ _ _,_,r=>by unfold Rep at *; obtain⟨C,a,dx,xs,hc,e,q,l,z⟩:=r;exact⟨C,a,dx,xs,hc,e,h.F _ _ q,l,zE.mono h z⟩
 | .exc _,_,r=>by unfold Rep at *; obtain⟨C,a,dx,e,q,x⟩:=r;exact⟨C,a,dx,e,h.F _ _ q,x.mono h⟩
theorem zE.mono(h:W.le W'):∀{ds:List D} {xs:List V},zE K W ds xs->zE K W' ds xs
 | [],_,r=>by unfold zE at *; exact r
 | _::_,_,r=>by unfold zE at *; obtain⟨x,t,e,q,z⟩:=r;exact⟨x,t,e,Rep.mono h q,zE.mono h z⟩
end
theorem zE.nil:zE K W [] []:=by unfold zE;rfl
theorem zE.cons{d:D}{ds:List D}{x:V}{xs:List V}(a:Rep K W d x)(b:zE K W ds xs):zE K W (d::ds) (x::xs):=by unfold zE;exact⟨x,xs,rfl,a,b⟩
theorem zE.nil'{xs:List V}(h:zE K W [] xs):xs=[]:=by unfold zE at h;exact h
theorem zE.uncons{d:D}{ds:List D}{xs:List V}(h:zE K W (d::ds) xs):∃x r,xs=x::r/\Rep K W d x/\zE K W ds r:=by unfold zE at h;exact h
theorem zE.length:∀{ds:List D} {xs:List V},zE K W ds xs->xs.length=ds.length
 | [],_,h=>by rw[h.nil'];rfl
 | _::_,_,h=>by obtain⟨x,r,rfl,_,q⟩:=h.uncons;rw[List.length_cons,List.length_cons,q.length]
theorem zE.get:∀{ds:List D} {xs:List V} {i:Nat} {d:D},zE K W ds xs->ds[i]? = some d->∃x,xs[i]? = some x/\Rep K W d x
 | [],_,_,_,_,e=>by simp at e
 | _::_,_,0,_,h,e=>by obtain⟨x,r,rfl,q,_⟩:=h.uncons;simp at e;subst e;exact⟨x,rfl,q⟩
 | _::_,_,i+1,d,h,e=>by obtain⟨x,r,rfl,_,q⟩:=h.uncons;simpa using q.get (i:=i) (d:=d) (by simpa using e)
theorem zE.append:∀{ds es:List D} {xs ys:List V},zE K W ds xs->zE K W es ys->zE K W (ds++es) (xs++ys)
 | [],_,_,_,h,g=>by rw[h.nil'];exact g
 | _::_,_,_,_,h,g=>by obtain⟨x,r,rfl,q,z⟩:=h.uncons;exact .cons q (z.append g)
theorem zE.take:∀{ds:List D} {xs:List V} (n:Nat),zE K W ds xs->zE K W (ds.take n) (xs.take n)
 | _,_,0,_=>by simp[zE.nil]
 | [],_,_+1,h=>by rw[h.nil'];exact .nil
 | _::_,_,n+1,h=>by obtain⟨x,r,rfl,q,z⟩:=h.uncons;exact .cons q (z.take n)
theorem zE.drop:∀{ds:List D} {xs:List V} (n:Nat),zE K W ds xs->zE K W (ds.drop n) (xs.drop n)
 | _,_,0,h=>h
 | [],_,_+1,h=>by rw[h.nil'];exact .nil
 | _::_,_,n+1,h=>by obtain⟨x,r,rfl,q,z⟩:=h.uncons;exact z.drop n
theorem zE.ints:∀{ns:List Int} {xs:List V},zE K W (ns.map D.int) xs->xs=ns.map V.int
 | [],_,h=>h.nil'
 | _::_,_,h=>by obtain⟨x,r,rfl,q,z⟩:=h.uncons;unfold Rep at q;rw[q,z.ints];rfl
theorem zE.strs:∀{ns:List Str} {xs:List V},zE K W (ns.map D.str) xs->xs=ns.map V.str
 | [],_,h=>h.nil'
 | _::_,_,h=>by obtain⟨x,r,rfl,q,z⟩:=h.uncons;unfold Rep at q;rw[q,z.strs];rfl
theorem zE.bls:∀{ns:List Bool} {xs:List V},zE K W (ns.map D.bl) xs->xs=ns.map V.bl
 | [],_,h=>h.nil'
 | _::_,_,h=>by obtain⟨x,r,rfl,q,z⟩:=h.uncons;unfold Rep at q;rw[q,z.bls];rfl
theorem Rep.i{i:Int}:Rep K W (.int i) (.int i):=by unfold Rep;rfl
theorem Rep.s{x:Str}:Rep K W (.str x) (.str x):=by unfold Rep;rfl
theorem Rep.b{x:Bool}:Rep K W (.bl x) (.bl x):=by unfold Rep;rfl
theorem Rep.n:Rep K W .non .non:=by unfold Rep;rfl
theorem Rep.g{c:Str}{C:Addr}(h:clsOf K c=some C):Rep K W (.cls c) (.ref C):=by unfold Rep;exact⟨C,h,rfl⟩
theorem Rep.t{x:String}:Rep K W (.ty x) (.ty x):=by unfold Rep;rfl
theorem Rep.i'{i:Int}{x:V}(h:Rep K W (.int i) x):x= .int i:=by unfold Rep at h;exact h
theorem Rep.s'{i:Str}{x:V}(h:Rep K W (.str i) x):x= .str i:=by unfold Rep at h;exact h
theorem Rep.b'{i:Bool}{x:V}(h:Rep K W (.bl i) x):x= .bl i:=by unfold Rep at h;exact h
theorem Rep.n'{x:V}(h:Rep K W .non x):x= .non:=by unfold Rep at h;exact h
theorem Rep.cell'{k:Nat}{x:V}(h:Rep K W (.cell k) x):∃a,x= .ref a/\W.b k=some a:=by unfold Rep at h;exact h
theorem Rep.lst'{ds:List D}{x:V}(h:Rep K W (.lst ds) x):∃a xs,x= .ref a/\W.F a=some (.lst xs)/\zE K W ds xs:=by unfold Rep at h;exact h
theorem Rep.tup'{ds:List D}{x:V}(h:Rep K W (.tup ds) x):∃a xs,x= .ref a/\SqT K W.F a xs/\zE K W ds xs:=by unfold Rep at h;exact h
theorem Rep.lst{ds:List D}{a:Addr}{xs:List V}(h:W.F a=some (.lst xs))(r:zE K W ds xs):Rep K W (.lst ds) (.ref a):=by unfold Rep;exact⟨a,xs,rfl,h,r⟩
theorem Rep.tup{ds:List D}{a:Addr}{xs:List V}(h:SqT K W.F a xs)(r:zE K W ds xs):Rep K W (.tup ds) (.ref a):=by unfold Rep;exact⟨a,xs,rfl,h,r⟩
end
def Ctn(K:Frag)(W:Wd)(c:Ct)(o:Option HO):Prop:=match c with
 | .lst ds=>∃xs,o=some (.lst xs)/\zE K W ds xs
 | .dct ks vs=>∃xs,o=some (.dK (ks.zip xs))/\ks.length=xs.length/\zE K W vs xs
 | .dtt ks vs=>∃xs,o=some (.dT (ks.zip xs))/\ks.length=xs.length/\zE K W vs xs
 | .fdct ob ks vs=>∃xs,o=some (.frz ob (.dK (ks.zip xs)))/\ks.length=xs.length/\zE K W vs xs
 | .fdtt ob ks vs=>∃xs,o=some (.frz ob (.dT (ks.zip xs)))/\ks.length=xs.length/\zE K W vs xs
 | .ins c ns vs=>∃C dx xs,clsOf K c=some C/\o=some (.ins C dx (ns.zip xs))/\ns.length=xs.length/\zE K W vs xs
 | .draw=>∃(l:Addr) (ns:List Int) (i b c:Int),o=some (.lst [.ref l, .int i, .int b, .int c])/\W.F l=some (.lst (ns.map V.int))/\0<=i/\0<=b
 | .lam k0 x ln cl q=>∃(c P:Addr) (ps:Array Value),PySem.W.tabIn K x=some (c,P)/\W.b k0=some P/\o=some (.tbl ps)/\(ps= #[]\/∃c',ps=zwe ln cl c'/\W.F c'=some (zym c' q))
theorem Ctn.mono{K:Frag}{W W':Wd}{c:Ct}{o:Option HO}(h:W.le W')(r:Ctn K W c o):Ctn K W' c o:=by
 cases c with
 | lst ds=>obtain⟨xs,e,q⟩:=r;exact⟨xs,e,q.mono h⟩
 | dct ks vs=>obtain⟨xs,e,l,q⟩:=r;exact⟨xs,e,l,q.mono h⟩
 | dtt ks vs=>obtain⟨xs,e,l,q⟩:=r;exact⟨xs,e,l,q.mono h⟩
 | fdct ob ks vs=>obtain⟨xs,e,l,q⟩:=r;exact⟨xs,e,l,q.mono h⟩
 | fdtt ob ks vs=>obtain⟨xs,e,l,q⟩:=r;exact⟨xs,e,l,q.mono h⟩
 | ins C ns vs=>obtain⟨C',dx,xs,hc,e,l,q⟩:=r;exact⟨C',dx,xs,hc,e,l,q.mono h⟩
 | draw=>obtain⟨l,ns,i,b,c,e,q,z⟩:=r;exact⟨l,ns,i,b,c,e,h.F _ _ q,z⟩
 | lam k0 x ln cl q=>obtain⟨c,P,ps,e1,e2,e3,e4⟩:=r;exact⟨c,P,ps,e1,h.b _ _ e2,e3,e4.imp id fun⟨c',e5,e6⟩=>⟨c',e5,h.F _ _ e6⟩⟩
theorem Ctn.some{K:Frag}{W:Wd}{c:Ct}{o:Option HO}(r:Ctn K W c o):∃u,o=some u:=by
 cases c with
 | lst ds=>obtain⟨xs,e,q⟩:=r;exact⟨_,e⟩
 | dct ks vs=>obtain⟨xs,e,l,q⟩:=r;exact⟨_,e⟩
 | dtt ks vs=>obtain⟨xs,e,l,q⟩:=r;exact⟨_,e⟩
 | fdct ob ks vs=>obtain⟨xs,e,l,q⟩:=r;exact⟨_,e⟩
 | fdtt ob ks vs=>obtain⟨xs,e,l,q⟩:=r;exact⟨_,e⟩
 | ins C ns vs=>obtain⟨C',dx,xs,hc,e,l,q⟩:=r;exact⟨_,e⟩
 | draw=>obtain⟨l,ns,i,b,c,e,q,z⟩:=r;exact⟨_,e⟩
 | lam k0 x ln cl q=>obtain⟨c,P,ps,e1,e2,e3,e4⟩:=r;exact⟨_,e3⟩
structure Rel(K:Frag)(fl:Wd)(W:Wd)(μ:Mu)(H:Hp):Prop where
 sub:zj3 W.F H
 fin:∃n,∀k,n<=k->W.b k=none
 cel:∀k c,μ k=some c->∃a,W.b k=some a/\W.F a=none/\Ctn K W c (H a)
 inj:∀k k' c c' a,μ k=some c->μ k'=some c'->W.b k=some a->W.b k'=some a->k=k'
 up:fl.le W
def zbc(K:Frag)(W:Wd)(ρ:zag)(σ:St):Prop:=ρ.length=σ.length/\∀(i:Nat) d,ρ[i]? = some (some d)->∃x,σ[i]? = some (some x)/\Rep K W d x
section
variable{K:Frag}{fl:Wd}{W W':Wd}{μ μ':Mu}{H:Hp}{ρ:zag}{σ:St}
theorem Rel.floor{fl':Wd}(r:Rel K fl W μ H)(h:fl'.le W):Rel K fl' W μ H:=⟨r.sub,r.fin,r.cel,r.inj,h⟩
theorem zbc.mono(h:W.le W')(r:zbc K W ρ σ):zbc K W' ρ σ:=⟨r.1,fun i d e=>by obtain⟨x,e',q⟩:=r.2 i d e;exact⟨x,e',q.mono h⟩⟩
theorem zbc.set{i:Nat}{d:D}{x:V}(r:zbc K W ρ σ)(q:Rep K W d x):zbc K W (ρ.set i (some d)) (σ.set i (some x)):=⟨by simp[r.1],fun j d' e=>by
 by_cases hj:i=j
 .subst hj;by_cases hl:i < ρ.length
  .rw[List.getElem?_set_self hl] at e;cases e;exact⟨x,List.getElem?_set_self (r.1▸hl),q⟩
  .rw[List.getElem?_eq_none (by simp;omega)] at e;cases e
 .rw[List.getElem?_set_ne hj] at e;rw[List.getElem?_set_ne hj];exact r.2 j d' e⟩
theorem Rel.less(r:Rel K fl W μ' H)(h:MLe μ μ'):Rel K fl W μ H:=⟨r.sub,r.fin,fun k c e=>r.cel k c (h k c e),fun k k' c c' a e e'=>r.inj k k' c c' a (h _ _ e) (h _ _ e'),r.up⟩
theorem Rel.newF{p:Addr}{o:HO}(r:Rel K fl W μ H)(hp:H p=none):Rel K fl ⟨W.b,upd W.F p o⟩ μ (upd H p o)/\W.le ⟨W.b,upd W.F p o⟩:=by
 have hF:W.F p=none:=by
  cases e:W.F p with
  | none=>rfl
  | some u=>rw[r.sub _ _ e] at hp;cases hp
 have le:W.le ⟨W.b,upd W.F p o⟩:=⟨fun _ _ h=>h,zfn hF⟩;refine⟨⟨fun b u e=>?_,r.fin,fun k c e=>?_,r.inj,r.up.trans le⟩,le⟩
 .by_cases hb:b=p
  .subst hb;have e':(upd W.F b o) b=some u:=e;rw[zH] at e' ⊢; exact e'
  .have e':(upd W.F p o) b=some u:=e;rw[zJ hb] at e' ⊢; exact r.sub _ _ e'
 .obtain⟨a,e1,e2,q⟩:=r.cel k c e;obtain⟨u,eu⟩:=q.some;have ha:a≠p:=zai eu hp;exact⟨a,e1,by show upd W.F p o a=none;rw[zJ ha];exact e2,by rw[zJ ha];exact q.mono le⟩
theorem Rel.newC{p:Addr}{o:HO}{c:Ct}(r:Rel K fl W μ H)(hp:H p=none)(hc:Ctn K W c (some o)):∃(k:Nat) (W':Wd),μ k=none/\W.le W'/\Rel K fl W' (zV μ k c) (upd H p o)/\W'.b k=some p:=by
 obtain⟨n,hn⟩:=r.fin;have hF:W.F p=none:=by
  cases e:W.F p with
  | none=>rfl
  | some u=>rw[r.sub _ _ e] at hp;cases hp
 have hk:μ n=none:=by
  cases e:μ n with
  | none=>rfl
  | some c=>obtain⟨a,e1,_⟩:=r.cel n c e;rw[hn n (Nat.le_refl _)] at e1;cases e1
 have le:W.le ⟨fun j=>if j=n then some p else W.b j,W.F⟩:=⟨fun k a e=>by
  show(if k=n then some p else W.b k)=some a;rw[if_neg (fun z=>by rw[z,hn n (Nat.le_refl _)] at e;cases e)];exact e,fun _ _ h=>h⟩
 refine⟨n,⟨fun j=>if j=n then some p else W.b j,W.F⟩,hk,le,⟨fun b u e=>?_,⟨n+1,fun k hk=>?_⟩,fun k c' e=>?_,fun k k' c1 c2 a e e' q q'=>?_,r.up.trans le⟩,if_pos rfl⟩
 .have:b≠p:=fun z=>by
   have e':W.F b=some u:=e;rw[z,hF] at e';cases e'
  rw[zJ this];exact r.sub _ _ e
 .show(if k=n then some p else W.b k)=none;rw[if_neg (by omega)];exact hn k (by omega)
 .by_cases ek:k=n
  .subst ek;rw[zA] at e;cases e;exact⟨p,if_pos rfl,hF,by rw[zH];exact hc.mono le⟩
  .rw[zq ek] at e;obtain⟨a,e1,e2,q⟩:=r.cel k c' e;obtain⟨u,eu⟩:=q.some;have ha:a≠p:=zai eu hp;exact⟨a,by show(if k=n then some p else W.b k)=some a;rw[if_neg ek];exact e1,e2,by rw[zJ ha];exact q.mono le⟩
 .have key:∀k c,zV μ n c k=some c->True:=fun _ _ _=>trivial
  have at':∀{j:Nat} {cj:Ct},zV μ n c j=some cj->j≠n->(∃a',W.b j=some a'/\a'≠p):=fun{j cj} ej hj=>by
   rw[zq hj] at ej;obtain⟨a',e1,e2,q⟩:=r.cel j cj ej;obtain⟨u,eu⟩:=q.some;exact⟨a',e1,zai eu hp⟩
  have q1:(if k=n then some p else W.b k)=some a:=q;have q2:(if k'=n then some p else W.b k')=some a:=q';by_cases ek:k=n
  .by_cases ek':k'=n
   .rw[ek,ek']
   .rw[if_pos ek] at q1;rw[if_neg ek'] at q2;obtain⟨a',f1,f2⟩:=at' e' ek';rw[f1] at q2;cases q1;cases q2;exact absurd rfl f2
  .by_cases ek':k'=n
   .rw[if_neg ek] at q1;rw[if_pos ek'] at q2;obtain⟨a',f1,f2⟩:=at' e ek;rw[f1] at q1;cases q2;cases q1;exact absurd rfl f2
   .rw[if_neg ek] at q1;rw[if_neg ek'] at q2;rw[zq ek] at e;rw[zq ek'] at e';exact r.inj k k' _ _ a e e' q1 q2
theorem Rel.setC{k:Nat}{a:Addr}{c c':Ct}{o:HO}(r:Rel K fl W μ H)(hk:μ k=some c)(ha:W.b k=some a)(hc:Ctn K W c' (some o)):Rel K fl W (zV μ k c') (upd H a o):=by
 obtain⟨a',e1,e2,_⟩:=r.cel k c hk;rw[ha] at e1;cases e1;refine⟨fun b u e=>?_,r.fin,fun j d e=>?_,fun j j' d d' x e e'=>?_,r.up⟩
 .rw[zJ (fun z=>by rw[z,e2] at e;cases e)];exact r.sub _ _ e
 .by_cases ek:j=k
  .subst ek;rw[zA] at e;cases e;exact⟨a,ha,e2,by rw[zH];exact hc⟩
  .rw[zq ek] at e;obtain⟨x,f1,f2,q⟩:=r.cel j d e;have hx:x≠a:=fun z=>ek (r.inj j k _ _ a e hk (z▸f1) ha)
   exact⟨x,f1,f2,by rw[zJ hx];exact q⟩
 .have g:∀{j d},zV μ k c' j=some d->∃d,μ j=some d:=fun{j d} e=>by
   by_cases ek:j=k
   .subst ek;exact⟨_,hk⟩
   .rw[zq ek] at e;exact⟨_,e⟩
  obtain⟨d1,f1⟩:=g e;obtain⟨d2,f2⟩:=g e';exact r.inj j j' _ _ x f1 f2
theorem Rel.freeze{k:Nat}{a:Addr}{c:Ct}{o:HO}(r:Rel K fl W μ H)(hk:μ k=some c)(ha:W.b k=some a)(ho:H a=some o):Rel K fl ⟨W.b,upd W.F a o⟩ (zjS μ k) H/\W.le ⟨W.b,upd W.F a o⟩:=by
 obtain⟨a',e1,e2,_⟩:=r.cel k c hk;rw[ha] at e1;cases e1;have le:W.le ⟨W.b,upd W.F a o⟩:=⟨fun _ _ h=>h,zfn e2⟩;have g:∀{j d},zjS μ k j=some d->j≠k/\μ j=some d:=fun{j d} e=>by
  unfold zjS at e;by_cases ek:j=k
  .rw[if_pos ek] at e;cases e
  .rw[if_neg ek] at e;exact⟨ek,e⟩
 refine⟨⟨fun b u e=>?_,r.fin,fun j d e=>?_,fun j j' d d' x e e'=>r.inj j j' _ _ x (g e).2 (g e').2,r.up.trans le⟩,le⟩
 .by_cases hb:b=a
  .subst hb;have e':(upd W.F b o) b=some u:=e;rw[zH] at e';cases e';exact ho
  .have e':(upd W.F a o) b=some u:=e;rw[zJ hb] at e';exact r.sub _ _ e'
 .obtain⟨hj,ej⟩:=g e;obtain⟨x,f1,f2,q⟩:=r.cel j d ej;have hx:x≠a:=fun z=>hj (r.inj j k _ _ a ej hk (z▸f1) ha)
  exact⟨x,f1,by show upd W.F a o x=none;rw[zJ hx];exact f2,q.mono le⟩
end
abbrev DK:=D->Mu->Prop
abbrev DE:=zag->Mu->DK->Prop
abbrev DT:=zag->Mu->(Bool->Mu->Prop)->Prop
abbrev DA:=zag->Mu->(List D->Mu->Prop)->Prop
structure zba where
 nx:zag->Mu->Prop
 rt:DK
 bk:zag->Mu->Prop:=fun _ _=>False
 ct:zag->Mu->Prop:=fun _ _=>False
abbrev DS:=zba->zag->Mu->Prop
abbrev DG:=D->zag->Mu->(zag->Mu->Prop)->Prop
abbrev DGs:=List D->zag->Mu->(zag->Mu->Prop)->Prop
abbrev DR2:=D->D->Mu->DK->Prop
abbrev DR1:=D->Mu->DK->Prop
abbrev DRs:=List D->Mu->DK->Prop
abbrev DO:=zag->Mu->(Option Int->Mu->Prop)->Prop
abbrev DI:=zag->Mu->(List D->(Mu->Prop)->Mu->Prop)->Prop
abbrev DSp:=List D->Mu->DK->Prop
section
variable(K:Frag)(fl:Wd)
abbrev KV'(W:Wd)(Q:DK)(Q':VK):Prop:=∀W' d μ' x H',W.le W'->Rel K fl W' μ' H'->Rep K W' d x->Q d μ'->Q' x H'
class zZ(t:TE)(w:DE):Prop where
 run:∀{W ρ μ σ H Q Q'},Rel K fl W μ H->zbc K W ρ σ->w ρ μ Q->KV' K fl W Q Q'->t σ H Q'
class zgv(t:TT)(w:DT):Prop where
 run:∀{W ρ μ σ H} {Q:Bool->Mu->Prop} {Q':Bool->Hp->Prop},Rel K fl W μ H->zbc K W ρ σ->w ρ μ Q->(∀W' b μ' H',W.le W'->Rel K fl W' μ' H'->Q b μ'->Q' b H')->t σ H Q'
class zdp(t:TA)(w:DA):Prop where
 run:∀{W ρ μ σ H} {Q:List D->Mu->Prop} {Q':List V->Hp->Prop},Rel K fl W μ H->zbc K W ρ σ->w ρ μ Q->(∀W' ds μ' xs H',W.le W'->Rel K fl W' μ' H'->zE K W' ds xs->Q ds μ'->Q' xs H')->t σ H Q'
structure ze7(W:Wd)(D':zba)(D:Ends):Prop where
 nx:∀W' ρ μ σ H,W.le W'->Rel K fl W' μ H->zbc K W' ρ σ->D'.nx ρ μ->D.nx σ H
 bk:∀W' ρ μ σ H,W.le W'->Rel K fl W' μ H->zbc K W' ρ σ->D'.bk ρ μ->D.bk σ H
 ct:∀W' ρ μ σ H,W.le W'->Rel K fl W' μ H->zbc K W' ρ σ->D'.ct ρ μ->D.ct σ H
 rt:∀W' d μ x H,W.le W'->Rel K fl W' μ H->Rep K W' d x->D'.rt d μ->D.rt x H
class zcU(t:TS)(w:DS):Prop where
 run:∀{W ρ μ σ H D' D},Rel K fl W μ H->zbc K W ρ σ->w D' ρ μ->ze7 K fl W D' D->t D σ H
class zow(g:TG)(dg:DG)(S:outParam (List Nat)):Prop where
 run:∀{W ρ μ σ H d x} {Q:zag->Mu->Prop} {Q':St->Hp->Prop},Rel K fl W μ H->zbc K W ρ σ->Rep K W d x->dg d ρ μ Q ->
  (∀W' ρ' μ' σ' H',W.le W'->Rel K fl W' μ' H'->zbc K W' ρ' σ'->σ'.length=σ.length->(∀i,i∉S->σ'[i]? = σ[i]?)->Q ρ' μ'->Q' σ' H')->g x σ H Q'
class zpk(g:TGs)(dg:DGs)(S:outParam (List Nat)):Prop where
 run:∀{W ρ μ σ H ds xs} {Q:zag->Mu->Prop} {Q':St->Hp->Prop},Rel K fl W μ H->zbc K W ρ σ->zE K W ds xs->dg ds ρ μ Q ->
  (∀W' ρ' μ' σ' H',W.le W'->Rel K fl W' μ' H'->zbc K W' ρ' σ'->σ'.length=σ.length->(∀i,i∉S->σ'[i]? = σ[i]?)->Q ρ' μ'->Q' σ' H')->g xs σ H Q'
class zbk(r:R2)(q:DR2):Prop where
 run:∀{W μ H d e x y Q Q'},Rel K fl W μ H->Rep K W d x->Rep K W e y->q d e μ Q->KV' K fl W Q Q'->r x y H Q'
class zvq(r:V->Hp->VK->Prop)(q:DR1):Prop where
 run:∀{W μ H d x Q Q'},Rel K fl W μ H->Rep K W d x->q d μ Q->KV' K fl W Q Q'->r x H Q'
class zcX(r:List V->Hp->VK->Prop)(q:DRs):Prop where
 run:∀{W μ H ds xs Q Q'},Rel K fl W μ H->zE K W ds xs->q ds μ Q->KV' K fl W Q Q'->r xs H Q'
class zuO(t:TO)(w:DO):Prop where
 run:∀{W ρ μ σ H} {Q:Option Int->Mu->Prop} {Q':Option Int->Hp->Prop},Rel K fl W μ H->zbc K W ρ σ->w ρ μ Q->(∀W' b μ' H',W.le W'->Rel K fl W' μ' H'->Q b μ'->Q' b H')->t σ H Q'
def ItR(W:Wd)(J:It)(ds:List D)(Pm:Mu->Prop):Prop:=∀W1 μ H,W.le W1->Rel K fl W1 μ H->Pm μ->∀i:Nat,(∀d,ds[i]? = some d->J.go i H/\∀x H',J.yld i H x H'->∃W2,W1.le W2/\Rel K fl W2 μ H'/\Rep K W2 d x)/\(ds.length<=i->J.stop i H)
class zu5(t:TI)(w:DI):Prop where
 run:∀{W ρ μ σ H} {Q:List D->(Mu->Prop)->Mu->Prop} {Q':It->Hp->Prop},Rel K fl W μ H->zbc K W ρ σ->w ρ μ Q->(∀W' J ds Pm μ' H',W.le W'->Rel K fl W' μ' H'->ItR K fl W' J ds Pm->Q ds Pm μ'->Q' J H')->t σ H Q'
end
def zc(i:Nat):DE:=fun ρ μ Q=>match ρ[i]? with
 | some (some d)=>Q d μ
 | _=>False
def dC(d:D):DE:=fun _ μ Q=>Q d μ
section
variable{K:Frag}{fl:Wd}
instance{i:Nat}:zZ K fl (zbJ i) (zc i):=⟨fun{W ρ μ σ H Q Q'} r e h k=>by
 unfold zc at h;split at h
 .rename_i d hd;obtain⟨x,ex,q⟩:=e.2 i d hd;exact⟨x,ex,k W d μ x H (.refl W) r q h⟩
 .exact h.elim⟩
instance{i:Int}:zZ K fl (tC (.int i)) (dC (.int i)):=⟨fun{W ρ μ σ H Q Q'} r e h k=>k W _ μ _ H (.refl W) r .i h⟩
instance{i:Str}:zZ K fl (tC (.str i)) (dC (.str i)):=⟨fun{W ρ μ σ H Q Q'} r e h k=>k W _ μ _ H (.refl W) r .s h⟩
instance{i:Bool}:zZ K fl (tC (.bl i)) (dC (.bl i)):=⟨fun{W ρ μ σ H Q Q'} r e h k=>k W _ μ _ H (.refl W) r .b h⟩
instance{i:String}:zZ K fl (tC (.ty i)) (dC (.ty i)):=⟨fun{W ρ μ σ H Q Q'} r e h k=>k W _ μ _ H (.refl W) r .t h⟩
class zaa(K:Frag)(c:Str)(C:Addr):Prop where
 at_:clsOf K c=some C
 cf:zdT c=true:=by decide+kernel
instance{c:Str}{C:Addr}[i:zaa K c C]:zZ K fl (tC (.ref C)) (dC (.cls c)):=⟨fun{W ρ μ σ H Q Q'} r e h k=>k W _ μ _ H (.refl W) r (.g i.at_) h⟩
end
def dOp(q:DR2)(wa wb:DE):DE:=fun ρ μ Q=>wa ρ μ fun d μ1=>wb ρ μ1 fun e μ2=>q d e μ2 Q
def dUn(q:DR1)(wa:DE):DE:=fun ρ μ Q=>wa ρ μ fun d μ1=>q d μ1 Q
def zK(w:DE):DT:=fun ρ μ Q=>w ρ μ fun d μ1=>match d with
 | .bl b=>Q b μ1
 | _=>False
def zrS(t u:DT):DT:=fun ρ μ Q=>t ρ μ fun c μ1=>if c=true then u ρ μ1 Q else Q false μ1
def dOr(t u:DT):DT:=fun ρ μ Q=>t ρ μ fun c μ1=>if c=true then Q true μ1 else u ρ μ1 Q
def ziI(t:DT):DT:=fun ρ μ Q=>t ρ μ fun c μ1=>Q (!c) μ1
def zjh(ta tb:DE):DE:=fun ρ μ Q=>zK ta ρ μ fun c μ1=>if c=true then tb ρ μ1 Q else Q (.bl false) μ1
def zzJ(ta tb:DE):DE:=fun ρ μ Q=>zK ta ρ μ fun c μ1=>if c=true then Q (.bl true) μ1 else tb ρ μ1 Q
def zoW(ta:DE):DE:=fun ρ μ Q=>zK ta ρ μ fun c μ1=>Q (.bl (!c)) μ1
def dIf(t:DT)(ta tb:DE):DE:=fun ρ μ Q=>t ρ μ fun c μ1=>if c=true then ta ρ μ1 Q else tb ρ μ1 Q
def zgn(q q':DR2)(wa wb wc:DE):DE:=fun ρ μ Q=>wa ρ μ fun d μ1=>wb ρ μ1 fun e μ2=>q d e μ2 fun z μ3=>match z with
 | .bl k=>if k=true then wc ρ μ3 fun f μ4=>q' e f μ4 Q else Q (.bl false) μ3
 | _=>False
section
variable{K:Frag}{fl:Wd}{r r':R2}{q q':DR2}{ta tb tc:TE}{wa wb wc:DE}{t u:TT}{v w:DT}
instance[a:zZ K fl ta wa][b:zZ K fl tb wb][o:zbk K fl r q]:zZ K fl (tOp r ta tb) (dOp q wa wb):=⟨fun r e h k =>
 a.run r e h fun W1 d μ1 x H1 le1 r1 q1 h1=>b.run r1 (e.mono le1) h1 fun W2 d' μ2 y H2 le2 r2 q2 h2=>o.run r2 (q1.mono le2) q2 h2 fun W3 d3 μ3 z H3 le3 r3 q3 h3=>k W3 d3 μ3 z H3 (le1.trans (le2.trans le3)) r3 q3 h3⟩
instance{r:V->Hp->VK->Prop}{q:DR1}[a:zZ K fl ta wa][o:zvq K fl r q]:zZ K fl (tUn r ta) (dUn q wa):=⟨fun r e h k =>
 a.run r e h fun W1 d μ1 x H1 le1 r1 q1 h1=>o.run r1 q1 h1 fun W3 d3 μ3 z H3 le3 r3 q3 h3=>k W3 d3 μ3 z H3 (le1.trans le3) r3 q3 h3⟩
theorem ziz[a:zZ K fl ta wa]{W ρ μ σ H}{Q:Bool->Mu->Prop}{Q':Bool->Hp->Prop}(r:Rel K fl W μ H)(e:zbc K W ρ σ)(h:zK wa ρ μ Q)(k:∀W' b μ' H',W.le W'->Rel K fl W' μ' H'->Q b μ'->Q' b H'):ta σ H fun x H'=>∃k,x= .bl k/\Q' k H' :=
 a.run r e h fun W1 d μ1 x H1 le1 r1 q1 h1=>by
  cases d<;>first | exact h1.elim | skip
  rename_i b;exact⟨b,q1.b',k W1 b μ1 H1 le1 r1 h1⟩
instance[a:zZ K fl ta wa]:zgv K fl (zjg ta) (zK wa):=⟨fun r e h k=>ziz r e h k⟩
instance[a:zZ K fl ta wa]:zgv K fl (tB ta) (zK wa):=⟨fun r e h k=>ziz r e h k⟩
instance[a:zgv K fl t v][b:zgv K fl u w]:zgv K fl (zxa t u) (zrS v w):=⟨fun r e h k=>a.run r e h fun W1 c μ1 H1 le1 r1 h1=>by
 cases c with
 | true=>exact b.run r1 (e.mono le1) h1 fun W2 c2 μ2 H2 le2 r2 h2=>k W2 c2 μ2 H2 (le1.trans le2) r2 h2
 | false=>exact k W1 false μ1 H1 le1 r1 h1⟩
instance[a:zgv K fl t v][b:zgv K fl u w]:zgv K fl (tOr t u) (dOr v w):=⟨fun r e h k=>a.run r e h fun W1 c μ1 H1 le1 r1 h1=>by
 cases c with
 | false=>exact b.run r1 (e.mono le1) h1 fun W2 c2 μ2 H2 le2 r2 h2=>k W2 c2 μ2 H2 (le1.trans le2) r2 h2
 | true=>exact k W1 true μ1 H1 le1 r1 h1⟩
instance[a:zgv K fl t v]:zgv K fl (zv3 t) (ziI v):=⟨fun r e h k=>a.run r e h fun W1 c μ1 H1 le1 r1 h1=>k W1 (!c) μ1 H1 le1 r1 h1⟩
instance[a:zZ K fl ta wa][b:zZ K fl tb wb]:zZ K fl (zr1 ta tb) (zjh wa wb):=⟨fun r e h k=>ziz r e h fun W1 c μ1 H1 le1 r1 h1=>by
 cases c with
 | true=>exact b.run r1 (e.mono le1) h1 fun W2 c2 μ2 x H2 le2 r2 q2 h2=>k W2 c2 μ2 x H2 (le1.trans le2) r2 q2 h2
 | false=>exact k W1 (.bl false) μ1 _ H1 le1 r1 .b h1⟩
instance[a:zZ K fl ta wa]:zZ K fl (zr2 ta) (zoW wa):=⟨fun r e h k=>ziz r e h fun W1 c μ1 H1 le1 r1 h1=>k W1 (.bl (!c)) μ1 _ H1 le1 r1 .b h1⟩
instance[a:zZ K fl ta wa][b:zZ K fl tb wb][c:zZ K fl tc wc][o:zbk K fl r q][o':zbk K fl r' q']:zZ K fl (zi8 r r' ta tb tc) (zgn q q' wa wb wc):=⟨fun r e h k =>
 a.run r e h fun W1 d μ1 x H1 le1 r1 q1 h1=>b.run r1 (e.mono le1) h1 fun W2 d' μ2 y H2 le2 r2 q2 h2=>o.run r2 (q1.mono le2) q2 h2 fun W3 d3 μ3 z H3 le3 r3 q3 h3=>by
  cases d3<;>first | exact h3.elim | skip
  rename_i kk;refine⟨kk,q3.b',?_⟩;cases kk with
  | false=>exact k W3 (.bl false) μ3 _ H3 (le1.trans (le2.trans le3)) r3 .b h3
  | true=>exact c.run r3 (e.mono (le1.trans (le2.trans le3))) h3 fun W4 d4 μ4 x4 H4 le4 r4 q4 h4=>o'.run r4 (q2.mono (le3.trans le4)) q4 h4 fun W5 d5 μ5 x5 H5 le5 r5 q5 h5=>k W5 d5 μ5 x5 H5 (le1.trans (le2.trans (le3.trans (le4.trans le5)))) r5 q5 h5⟩
end
def zm:DA:=fun _ μ Q=>Q [] μ
def za(wa:DE)(wr:DA):DA:=fun ρ μ Q=>wa ρ μ fun d μ1=>wr ρ μ1 fun ds μ2=>Q (d::ds) μ2
def dTup(w:DA):DE:=fun ρ μ Q=>w ρ μ fun ds μ1=>ds.length<=sizeLine/\Q (.tup ds) μ1
def zf2(w:DA):DE:=fun ρ μ Q=>w ρ μ fun ds μ1=>ds.length<=sizeLine/\Q (.lst ds) μ1
def zeJ(w:DA):DE:=fun ρ μ Q=>w ρ μ fun ds μ1=>ds.length<=sizeLine/\∀k,μ1 k=none->Q (.cell k) (zV μ1 k (.lst ds))
def zph(ks:List Int):DA:=fun _ μ Q=>Q (ks.map D.int) μ
def zr3(t:TE):TE:=t
section
variable{K:Frag}{fl:Wd}{ta:TE}{wa:DE}{t:TA}{w:DA}
instance:zdp K fl zga zm:=⟨fun{W ρ μ σ H Q Q'} r e h k=>k W [] μ [] H (.refl W) r .nil h⟩
instance[a:zZ K fl ta wa][b:zdp K fl t w]:zdp K fl (zeH ta t) (za wa w):=⟨fun r e h k =>
 a.run r e h fun W1 d μ1 x H1 le1 r1 q1 h1=>b.run r1 (e.mono le1) h1 fun W2 ds μ2 xs H2 le2 r2 q2 h2=>k W2 (d::ds) μ2 (x::xs) H2 (le1.trans le2) r2 (.cons (q1.mono le2) q2) h2⟩
theorem zE.of_ints{W:Wd}:∀ns:List Int,zE K W (ns.map D.int) (ns.map V.int)
 | []=> .nil
 | _::r=> .cons .i (zE.of_ints r)
theorem zE.of_strs{W:Wd}:∀ns:List Str,zE K W (ns.map D.str) (ns.map V.str)
 | []=> .nil
 | _::r=> .cons .s (zE.of_strs r)
instance{ks:List Int}:zdp K fl (zrM ks) (zph ks):=⟨fun{W ρ μ σ H Q Q'} r e h k=>k W _ μ _ H (.refl W) r (.of_ints ks) h⟩
instance[a:zdp K fl t w]:zZ K fl (zww t) (dTup w):=⟨fun r e h k=>a.run r e h fun W1 ds μ1 xs H1 le1 r1 q1 h1=>⟨by rw[q1.length];exact h1.1,fun p hp=>by
 obtain⟨r2,le2⟩:=r1.newF (o:= .tup xs) hp;exact k _ _ _ _ _ (le1.trans le2) r2 (.tup (SqT.of zH) (q1.mono le2)) h1.2⟩⟩
instance[a:zdp K fl t w]:zZ K fl (zu0 t) (zf2 w):=⟨fun r e h k=>a.run r e h fun W1 ds μ1 xs H1 le1 r1 q1 h1=>⟨by rw[q1.length];exact h1.1,fun p hp=>by
 obtain⟨r2,le2⟩:=r1.newF (o:= .lst xs) hp;exact k _ _ _ _ _ (le1.trans le2) r2 (.lst zH (q1.mono le2)) h1.2⟩⟩
theorem zrK{W W1:Wd}{μ1:Mu}{H1:Hp}{p:Addr}{xs:List V}{ds:List D}{Q:DK}{Q':VK}(le1:W.le W1)(r1:Rel K fl W1 μ1 H1)(q1:zE K W1 ds xs)(hp:H1 p=none)(k:KV' K fl W Q Q')(h:∀k,μ1 k=none->Q (.cell k) (zV μ1 k (.lst ds))):Q' (.ref p) (upd H1 p (.lst xs)):=by
 obtain⟨c,W2,hk,le2,r2,e2⟩:=r1.newC (o:= .lst xs) (c:= .lst ds) hp ⟨xs,rfl,q1⟩;exact k W2 (.cell c) _ _ _ (le1.trans le2) r2 (by unfold Rep;exact⟨p,rfl,e2⟩) (h c hk)
instance[a:zdp K fl t w]:zZ K fl (zr3 (zu0 t)) (zeJ w):=⟨fun r e h k=>a.run r e h fun W1 ds μ1 xs H1 le1 r1 q1 h1=>⟨by rw[q1.length];exact h1.1,fun p hp=>zrK le1 r1 q1 hp k h1.2⟩⟩
end
def zab:DS:=fun D ρ μ=>D.nx ρ μ
def zF(t u:DS):DS:=fun D ρ μ=>t { D with nx:=u D } ρ μ
def zxf:DS:=fun D ρ μ=>D.bk ρ μ
def zyE:DS:=fun D ρ μ=>D.ct ρ μ
def zO(w:DE):DS:=fun D ρ μ=>w ρ μ fun _ μ1=>D.nx ρ μ1
def zcu(w:DE):DS:=fun D ρ μ=>w ρ μ D.rt
def zyh:DS:=fun D _ μ=>D.rt .non μ
def zat(c:DT)(t u:DS):DS:=fun D ρ μ=>c ρ μ fun b μ1=>if b=true then t D ρ μ1 else u D ρ μ1
def zcW:DS:=fun _ _ _=>False
def zy(i:Nat):DG:=fun d ρ μ Q=>Q (ρ.set i (some d)) μ
def zpp:DGs:=fun ds ρ μ Q=>ds=[]/\Q ρ μ
def zfm(g:DG)(gs:DGs):DGs:=fun ds ρ μ Q=>match ds with
 | d::r=>g d ρ μ fun ρ' μ'=>gs r ρ' μ' Q
 | []=>False
def zyu(n:Nat)(gs:DGs):DG:=fun d ρ μ Q=>match d with
 | .tup ds=>ds.length=n/\gs ds ρ μ Q
 | _=>False
def zaB(w:DE)(g:DG):DS:=fun D ρ μ=>w ρ μ fun d μ1=>g d ρ μ1 D.nx
def dPar(i j:Nat)(w:DA):DS:=fun D ρ μ=>w ρ μ fun ds μ1=>match ds with
 | [d,e]=>D.nx ((ρ.set i (some d)).set j (some e)) μ1
 | _=>False
def zzP(i:Nat)(w:DE)(q:DR2):DS:=fun D ρ μ=>zc i ρ μ fun x _=>w ρ μ fun y μ1=>q x y μ1 fun z μ2=>D.nx (ρ.set i (some z)) μ2
def zoL(i:Nat)(t:TS):TS:=t
theorem ziS{X:Cx}{sts:List Stmt}{t:TS}(i:Nat)(h:WSs X sts t):WSs X sts (zoL i t):=h
theorem zpg{X:Cx}{e:Expr}{t:TE}(h:WE X e t):WE X e (zr3 t):=h
def znr(μ:Mu)(d:D)(Q:DK):Prop:=match d with
 | .cell k=>match μ k with
  | some (.lst ds)=>Q (.lst ds) (zjS μ k)
  | some (.dct ks vs)=>Q (.dct ks vs) (zjS μ k)
  | some (.dtt ks vs)=>Q (.dtt ks vs) (zjS μ k)
  | some (.ins C ns vs)=>Q (.obj C ns vs) (zjS μ k)
  | _=>False
 | _=>False
def zgQ(i:Nat)(w:DS):DS:=fun D ρ μ=>match ρ[i]? with
 | some (some d)=>znr μ d fun d' μ'=>w D (ρ.set i (some d')) μ'
 | _=>False
section
variable{K:Frag}{fl:Wd}{ta:TE}{wa:DE}{t u:TS}{v w:DS}
theorem ze7.mono{W W':Wd}{D':zba}{D:Ends}(le:W.le W')(h:ze7 K fl W D' D):ze7 K fl W' D' D :=
 ⟨fun W2 ρ μ σ H l=>h.nx W2 ρ μ σ H (le.trans l),fun W2 ρ μ σ H l=>h.bk W2 ρ μ σ H (le.trans l),fun W2 ρ μ σ H l=>h.ct W2 ρ μ σ H (le.trans l),fun W2 ρ μ σ H l=>h.rt W2 ρ μ σ H (le.trans l)⟩
instance:zcU K fl zqF zab:=⟨fun{W ρ μ σ H D' D} r e h k=>k.nx W ρ μ σ H (.refl W) r e h⟩
instance:zcU K fl zoc zcW:=⟨fun r e h k=>h.elim⟩
instance[a:zcU K fl t v][b:zcU K fl u w]:zcU K fl (zj7 t u) (zF v w):=⟨fun r e h k=>a.run r e h ⟨fun W1 ρ1 μ1 σ1 H1 le1 r1 e1 h1=>b.run r1 e1 h1 (k.mono le1),k.bk,k.ct,k.rt⟩⟩
instance[a:zZ K fl ta wa]:zcU K fl (zrl ta) (zO wa):=⟨fun r e h k=>a.run r e h fun W1 d μ1 x H1 le1 r1 q1 h1=>k.nx W1 _ μ1 _ H1 le1 r1 (e.mono le1) h1⟩
instance[a:zZ K fl ta wa]:zcU K fl (zn3 ta) (zcu wa):=⟨fun r e h k=>a.run r e h fun W1 d μ1 x H1 le1 r1 q1 h1=>k.rt W1 d μ1 x H1 le1 r1 q1 h1⟩
instance{c:TT}{wc:DT}[a:zgv K fl c wc][x:zcU K fl t v][y:zcU K fl u w]:zcU K fl (zvo c t u) (zat wc v w):=⟨fun r e h k=>a.run r e h fun W1 b μ1 H1 le1 r1 h1=>by
 cases b with
 | true=>exact x.run r1 (e.mono le1) h1 (k.mono le1)
 | false=>exact y.run r1 (e.mono le1) h1 (k.mono le1)⟩
instance{i:Nat}:zow K fl (zex i) (zy i) [i]:=⟨fun{W ρ μ σ H d x Q Q'} r e q h k=>k W _ μ _ H (.refl W) r (e.set q) (by simp) (fun j hj=>by rw[List.getElem?_set_ne (fun z=>hj (by simp[z]))]) h⟩
instance:zpk K fl zwX zpp []:=⟨fun{W ρ μ σ H ds xs Q Q'} r e q h k=>by obtain⟨rfl,h⟩:=h;exact⟨q.nil',k W _ μ _ H (.refl W) r e rfl (fun _ _=>rfl) h⟩⟩
instance{g:TG}{dg:DG}{S S':List Nat}{gs:TGs}{dgs:DGs}[a:zow K fl g dg S][b:zpk K fl gs dgs S']:zpk K fl (zrU g gs) (zfm dg dgs) (S++S'):=⟨fun{W ρ μ σ H ds xs Q Q'} r e q h k=>by
 cases ds with
 | nil=>exact h.elim
 | cons d ds =>
  obtain⟨x,xs,rfl,q1,q2⟩:=q.uncons;exact⟨x,xs,rfl,a.run r e q1 h fun W1 ρ1 μ1 σ1 H1 le1 r1 e1 l1 s1 h1=>b.run r1 e1 (q2.mono le1) h1 fun W2 ρ2 μ2 σ2 H2 le2 r2 e2 l2 s2 h2=>k W2 ρ2 μ2 σ2 H2 (le1.trans le2) r2 e2 (l2.trans l1) (fun i hi=>by rw[s2 i (fun z=>hi (List.mem_append_right _ z)),s1 i (fun z=>hi (List.mem_append_left _ z))]) h2⟩⟩
instance{g:TG}{dg:DG}{S:List Nat}[a:zZ K fl ta wa][b:zow K fl g dg S]:zcU K fl (zeh ta g) (zaB wa dg):=⟨fun r e h k=>a.run r e h fun W1 d μ1 x H1 le1 r1 q1 h1=>b.run r1 (e.mono le1) q1 h1 fun W2 ρ2 μ2 σ2 H2 le2 r2 e2 _ _ h2=>k.nx W2 ρ2 μ2 σ2 H2 (le1.trans le2) r2 e2 h2⟩
theorem zux{W:Wd}{μ:Mu}{H:Hp}{d:D}{x:V}{Q:DK}(r:Rel K fl W μ H)(q:Rep K W d x)(h:znr μ d Q):∃W' d' μ',W.le W'/\Rel K fl W' μ' H/\Rep K W' d' x/\Q d' μ':=by
 unfold znr at h;split at h
 .rename_i k;obtain⟨a,rfl,hb⟩:=q.cell';split at h
  .rename_i ds hk;obtain⟨a',e1,e2,xs,e3,q3⟩:=r.cel k _ hk;rw[hb] at e1;cases e1;obtain⟨r2,le2⟩:=r.freeze hk hb e3;exact⟨_,_,_,le2,r2, .lst zH (q3.mono le2),h⟩
  .rename_i ks vs hk;obtain⟨a',e1,e2,xs,e3,l3,q3⟩:=r.cel k _ hk;rw[hb] at e1;cases e1;obtain⟨r2,le2⟩:=r.freeze hk hb e3;exact⟨_,_,_,le2,r2,by unfold Rep;exact⟨a,xs,rfl,zH,l3,q3.mono le2⟩,h⟩
  .rename_i ks vs hk;obtain⟨a',e1,e2,xs,e3,l3,q3⟩:=r.cel k _ hk;rw[hb] at e1;cases e1;obtain⟨r2,le2⟩:=r.freeze hk hb e3;exact⟨_,_,_,le2,r2,by unfold Rep;exact⟨a,xs,rfl,zH,l3,q3.mono le2⟩,h⟩
  .rename_i C ns vs hk;obtain⟨a',e1,e2,C',dx,xs,hc,e3,l3,q3⟩:=r.cel k _ hk;rw[hb] at e1;cases e1;obtain⟨r2,le2⟩:=r.freeze hk hb e3;exact⟨_,_,_,le2,r2,by unfold Rep;exact⟨C',a,dx,xs,hc,rfl,zH,l3,q3.mono le2⟩,h⟩
  .exact h.elim
 .exact h.elim
theorem zbc.set_left{W:Wd}{ρ:zag}{σ:St}{i:Nat}{d:D}{x:V}(r:zbc K W ρ σ)(hx:σ[i]? = some (some x))(q:Rep K W d x):zbc K W (ρ.set i (some d)) σ:=⟨by simp[r.1],fun j d' e=>by
 by_cases hj:i=j
 .subst hj;by_cases hl:i < ρ.length
  .rw[List.getElem?_set_self hl] at e;cases e;exact⟨x,hx,q⟩
  .rw[List.getElem?_eq_none (by simp;omega)] at e;cases e
 .rw[List.getElem?_set_ne hj] at e;exact r.2 j d' e⟩
instance{i:Nat}[a:zcU K fl t v]:zcU K fl (zoL i t) (zgQ i v):=⟨fun{W ρ μ σ H D' D} r e h k=>by
 unfold zgQ at h;split at h
 .rename_i d hd;obtain⟨x,ex,qx⟩:=e.2 i d hd;obtain⟨W',d',μ',le,r',q',h'⟩:=zux r qx h;exact a.run r' ((e.mono le).set_left ex q') h' (k.mono le)
 .exact h.elim⟩
end
def zji(g:DG)(wb:DS)(D:zba)(Pm:Mu->Prop):List L2.D->zag->Mu->Prop
 | [],ρ,μ=>Pm μ/\D.nx ρ μ
 | d::r,ρ,μ=>Pm μ/\g d ρ μ fun ρ2 μ2=>wb { D with nx:=zji g wb D Pm r,ct:=zji g wb D Pm r,bk:=D.nx } ρ2 μ2
def zix(wi:DI)(g:DG)(wb:DS):DS:=fun D ρ μ=>wi ρ μ fun ds Pm μ1=>zji g wb D Pm ds ρ μ1
section
variable{K:Frag}{fl:Wd}{tb:TS}{wb:DS}
instance{wi:TI}{di:DI}{g:TG}{dg:DG}{S:List Nat}[a:zu5 K fl wi di][b:zow K fl g dg S][c:zcU K fl tb wb]:zcU K fl (zwY wi g tb) (zix di dg wb):=⟨fun{W ρ μ σ H D' D} r e h k =>
 a.run r e h fun W1 J ds Pm μ1 H1 le1 r1 it1 h1=>by
  refine⟨fun i m σ H=>∃W2 ρ2 μ2,W1.le W2/\Rel K fl W2 μ2 H/\zbc K W2 ρ2 σ/\m=ds.length - i/\zji dg wb D' Pm (ds.drop i) ρ2 μ2,⟨_,W1,ρ,μ1, .refl _,r1,e.mono le1,rfl,h1⟩,?_⟩;rintro i m σ2 H2 ⟨W2,ρ2,μ2,le2,r2,e2,rfl,h2⟩;have hPm:Pm μ2:=by
   cases hdr:ds.drop i with
   | nil=>rw[hdr] at h2;exact h2.1
   | cons _ _=>rw[hdr] at h2;exact h2.1
  obtain⟨go,stop⟩:=it1 W2 μ2 H2 le2 r2 hPm i;by_cases hi:i < ds.length
  .refine .inr ?_;have hd:ds[i]? = some ds[i]:=List.getElem?_eq_getElem hi;obtain⟨g1,g2⟩:=go _ hd;rw[List.drop_eq_getElem_cons hi] at h2;obtain⟨_,h2⟩:=h2;refine⟨g1,fun σ' H'=>∃W3 ρ3 μ3,W1.le W3/\Rel K fl W3 μ3 H'/\zbc K W3 ρ3 σ'/\zji dg wb D' Pm (ds.drop (i+1)) ρ3 μ3,fun σ' H' ⟨W3,ρ3,μ3,l3,r3,e3,h3⟩=>⟨ds.length - (i+1),by omega,W3,ρ3,μ3,l3,r3,e3,rfl,h3⟩,fun x H' y=>?_⟩;obtain⟨W3,le3,r3,q3⟩:=g2 x H' y;refine b.run r3 (e2.mono le3) q3 h2 fun W4 ρ4 μ4 σ4 H4 le4 r4 e4 _ _ h4=>c.run r4 e4 h4 ⟨fun W5 ρ5 μ5 σ5 H5 le5 r5 e5 h5=>?_,fun W5 ρ5 μ5 σ5 H5 le5 r5 e5 h5=>?_,fun W5 ρ5 μ5 σ5 H5 le5 r5 e5 h5=>?_,fun W5 d5 μ5 x5 H5 le5 r5 e5 h5=>?_⟩
   .exact⟨W5,ρ5,μ5,le2.trans (le3.trans (le4.trans le5)),r5,e5,h5⟩
   .exact k.nx W5 ρ5 μ5 σ5 H5 (le1.trans (le2.trans (le3.trans (le4.trans le5)))) r5 e5 h5
   .exact⟨W5,ρ5,μ5,le2.trans (le3.trans (le4.trans le5)),r5,e5,h5⟩
   .exact k.rt W5 d5 μ5 x5 H5 (le1.trans (le2.trans (le3.trans (le4.trans le5)))) r5 e5 h5
  .rw[List.drop_eq_nil_of_le (by omega)] at h2;exact .inl ⟨stop (by omega),k.nx W2 ρ2 μ2 σ2 H2 (le1.trans le2) r2 e2 h2.2⟩⟩
end
def zhh(ρ:zag)(fr:List Nat):zag:=fr.map fun j=>(ρ[j]?).join
def zbD(g:DG)(wc:DT)(we:DE)(ρb:zag)(Pm:Mu->Prop)(Fin:List D->Mu->Prop):List D->List D->Mu->Prop
 | [],ys,μ=>Pm μ/\Fin ys μ
 | d::r,ys,μ=>Pm μ/\ys.length < sizeLine/\g d ρb μ fun ρ2 μ2=>wc ρ2 μ2 fun b μ3=>if b=true then we ρ2 μ3 fun v μ4=>zbD g wc we ρb Pm Fin r (ys++[v]) μ4 else zbD g wc we ρb Pm Fin r ys μ3
def zhr:DT:=fun _ μ Q=>Q true μ
instance{K:Frag}{fl:Wd}:zgv K fl zx1 zhr:=⟨fun{W ρ μ σ H Q Q'} r e h k=>k W _ μ H (.refl W) r h⟩
def zez(own:List Str)(fr:List Nat)(S:List Nat)(wi:DI)(g:DG)(wc:DT)(we:DE):DE:=fun ρ μ Q=>(S.all fun i=>decide (i < own.length))=true/\wi ρ μ fun ds Pm μ1 =>
 zbD g wc we (List.replicate own.length none++zhh ρ fr) Pm (fun ys μ2=>Q (.lst ys) μ2) ds [] μ1
def zvX(own:List Str)(fr:List Nat)(S:List Nat)(wi:DI)(g:DG)(wc:DT)(we:DE):DE:=fun ρ μ Q=>(S.all fun i=>decide (i < own.length))=true/\wi ρ μ fun ds Pm μ1 =>
 zbD g wc we (List.replicate own.length none++zhh ρ fr) Pm (fun ys μ2=>∀k,μ2 k=none->Q (.cell k) (zV μ2 k (.lst ys))) ds [] μ1
section
variable{K:Frag}{fl:Wd}{te:TE}{we:DE}{tc:TT}{wc:DT}{wi:TI}{di:DI}{g:TG}{dg:DG}{S:List Nat}
theorem zbc.comp{W:Wd}{ρ:zag}{σ:St}(e:zbc K W ρ σ)(own:List Str)(fr:List Nat):zbc K W (List.replicate own.length none++zhh ρ fr) (own.map (fun _=>none)++zbs σ fr):=by
 refine⟨by simp[zhh,zbs],fun i d h=>?_⟩;by_cases hi:i < own.length
 .rw[List.getElem?_append_left (by simp;exact hi),List.getElem?_replicate] at h;rw[if_pos hi] at h;cases h
 .rw[List.getElem?_append_right (by simp;omega)] at h;rw[List.getElem?_append_right (by simp;omega)];simp only[List.length_replicate,zhh,List.getElem?_map] at h;simp only[List.length_map,zbs,List.getElem?_map];cases hj:fr[i - own.length]? with
  | none=>rw[hj] at h;cases h
  | some j =>
   rw[hj] at h;simp only[Option.map_some,Option.some.injEq] at h ⊢;cases hd:ρ[j]? with
   | none=>rw[hd] at h;cases h
   | some o =>
    rw[hd] at h;obtain⟨x,hx,q⟩:=e.2 j d (by rw[hd];simpa using h);exact⟨x,by rw[hx];rfl,q⟩
theorem zsc(own:List Str)(fr:List Nat)[b:zow K fl g dg S][c:zgv K fl tc wc][v:zZ K fl te we]{W1:Wd}{ρ:zag}{μ1:Mu}{σ:St}{H1:Hp}{J:It}{ds:List D}{Pm:Mu->Prop}{Fin:List D->Mu->Prop}{Fin':List V->Hp->Prop}(e:zbc K W1 ρ σ)(r1:Rel K fl W1 μ1 H1)(it1:ItR K fl W1 J ds Pm)
  (hS:(S.all fun i=>decide (i < own.length))=true)(h:zbD dg wc we (List.replicate own.length none++zhh ρ fr) Pm Fin ds [] μ1)
  (hF:∀W2 ys μ2 xs H2,W1.le W2->Rel K fl W2 μ2 H2->zE K W2 ys xs->Fin ys μ2->Fin' xs H2) :
  ∃W:Nat->Nat->List V->Hp->Prop,(∃m,W 0 m [] H1)/\zhE J g tc te (own.map (fun _=>none)++zbs σ fr) Fin' W:=by
 refine⟨fun i m xs H=>∃W2 ys μ2,W1.le W2/\Rel K fl W2 μ2 H/\zE K W2 ys xs/\m=ds.length - i/\zbD dg wc we (List.replicate own.length none++zhh ρ fr) Pm Fin (ds.drop i) ys μ2,⟨_,W1,[],μ1, .refl _,r1, .nil,rfl,h⟩,?_⟩;rintro i m xs H2 ⟨W2,ys,μ2,le2,r2,q2,rfl,h2⟩;have hPm:Pm μ2:=by
  cases hdr:ds.drop i with
  | nil=>rw[hdr] at h2;exact h2.1
  | cons _ _=>rw[hdr] at h2;exact h2.1
 obtain⟨go,stop⟩:=it1 W2 μ2 H2 le2 r2 hPm i;by_cases hi:i < ds.length
 .refine .inr ?_;have hd:ds[i]? = some ds[i]:=List.getElem?_eq_getElem hi;obtain⟨g1,g2⟩:=go _ hd;rw[List.drop_eq_getElem_cons hi] at h2;obtain⟨_,hz,h2⟩:=h2;refine⟨g1,by rw[q2.length];exact hz,fun xs' H'=>∃W3 ys3 μ3,W1.le W3/\Rel K fl W3 μ3 H'/\zE K W3 ys3 xs'/\zbD dg wc we (List.replicate own.length none++zhh ρ fr) Pm Fin (ds.drop (i+1)) ys3 μ3,fun xs' H' ⟨W3,ρ3,μ3,l3,r3,e3,h3⟩=>⟨ds.length - (i+1),by omega,W3,ρ3,μ3,l3,r3,e3,rfl,h3⟩,fun x H' y=>?_⟩;obtain⟨W3,le3,r3,q3⟩:=g2 x H' y;refine b.run r3 (((e.comp own fr).mono le2).mono le3) q3 h2 fun W4 ρ4 μ4 σ4 H4 le4 r4 e4 l4 s4 h4=>⟨⟨l4.symm,fun j v hj=>?_⟩,?_⟩
  .by_cases hjS:j∈S
   .have:j < own.length:=of_decide_eq_true (List.all_eq_true.mp hS j hjS);rw[List.getElem?_append_left (by simp;exact this),List.getElem?_map,List.getElem?_eq_getElem this] at hj;cases hj
   .rw[s4 j hjS];exact hj
  .refine c.run r4 e4 h4 fun W5 bb μ5 H5 le5 r5 h5=>?_
   cases bb with
   | true=>exact v.run r5 (e4.mono le5) h5 fun W6 d6 μ6 x6 H6 le6 r6 q6 h6=>⟨W6,_,μ6,le2.trans (le3.trans (le4.trans (le5.trans le6))),r6,(q2.mono (le3.trans (le4.trans (le5.trans le6)))).append (.cons q6 .nil),h6⟩
   | false=>exact⟨W5,ys,μ5,le2.trans (le3.trans (le4.trans le5)),r5,q2.mono (le3.trans (le4.trans le5)),h5⟩
 .rw[List.drop_eq_nil_of_le (by omega)] at h2;exact .inl ⟨stop (by omega),hF W2 ys μ2 xs H2 le2 r2 q2 h2.2⟩
instance{own:List Str}{fr:List Nat}[a:zu5 K fl wi di][b:zow K fl g dg S][c:zgv K fl tc wc][v:zZ K fl te we]:zZ K fl (znh own fr wi g tc te) (zez own fr S di dg wc we):=⟨fun{W ρ μ σ H Q Q'} r e h k =>
 a.run r e h.2 fun W1 J ds Pm μ1 H1 le1 r1 it1 h1=>zsc own fr (e.mono le1) r1 it1 h.1 h1 fun W2 ys μ2 xs H2 le2 r2 q2 h2 p hp=>by
  obtain⟨r3,le3⟩:=r2.newF (o:= .lst xs) hp;exact k _ _ _ _ _ (le1.trans (le2.trans le3)) r3 (.lst zH (q2.mono le3)) h2⟩
end
def lift(K:Frag)(dsp:DSp):Sp:=fun vs H Q _=>∃fl W μ ds Q0,Rel K fl W μ H/\zE K W ds vs/\dsp ds μ Q0/\KV' K fl W Q0 Q
def dCall(dsp:DSp)(w:DA):DE:=fun ρ μ Q=>w ρ μ fun ds μ1=>dsp ds μ1 Q
instance{K:Frag}{fl:Wd}{dsp:DSp}{E:XK}{t:TA}{w:DA}[a:zdp K fl t w]:zZ K fl (zkq (lift K dsp) [] E t) (dCall dsp w):=⟨fun{W ρ μ σ H Q Q'} r e h k =>
 a.run r e h fun W1 ds μ1 xs H1 le1 r1 q1 h1=>⟨fl,W1,μ1,ds,Q,r1,by rw[List.append_nil];exact q1,h1,fun W2 d μ2 x H2 le2=>k W2 d μ2 x H2 (le1.trans le2)⟩⟩
def zhw(N:List Str)(ds:List D):zag:=ds.map some++List.replicate (N.length - ds.length) none
theorem zbc.start{K:Frag}{W:Wd}{N:List Str}{ds:List D}{vs:List V}(h:zE K W ds vs):zbc K W (zhw N ds) (start N vs):=by
 refine⟨by simp[zhw,zrW,h.length],fun i d e=>?_⟩;unfold zhw at e;rw[zrW];by_cases hi:i < ds.length
 .rw[List.getElem?_append_left (by simp;exact hi),List.getElem?_map,List.getElem?_eq_getElem hi] at e;simp only[Option.map_some,Option.some.injEq] at e;obtain⟨x,hx,q⟩:=h.get (i:=i) (d:=d) (by rw[List.getElem?_eq_getElem hi,e]);exact⟨x,by rw[List.getElem?_append_left (by simp[h.length];exact hi),List.getElem?_map,hx];rfl,q⟩
 .rw[List.getElem?_append_right (by simp;omega),List.getElem?_replicate] at e;split at e<;>cases e
section
variable{P:Program}{w:World}{K:Frag}{fl:Wd}{mg:Str->Option Value}{base:Heap}
end
section
variable{X:Cx}
end
def zaM(μ:Mu):D->Option (List D)
 | .lst ds=>some ds
 | .cell k=>match μ k with
  | some (.lst ds)=>some ds
  | _=>none
 | _=>none
def zb2(μ:Mu):D->Option (List D)
 | .tup ds=>some ds
 | d=>zaM μ d
section
variable{K:Frag}{fl:Wd}{W:Wd}{μ:Mu}{H:Hp}{d:D}{x:V}{ds:List D}
theorem zbg(r:Rel K fl W μ H)(q:Rep K W d x)(h:zaM μ d=some ds):∃a xs,x= .ref a/\H a=some (.lst xs)/\zE K W ds xs:=by
 unfold zaM at h;split at h
 .cases h;obtain⟨a,xs,rfl,e,z⟩:=q.lst';exact⟨a,xs,rfl,r.sub _ _ e,z⟩
 .rename_i k;obtain⟨a,rfl,hb⟩:=q.cell';split at h
  .rename_i ds' hk;cases h;obtain⟨a',e1,e2,xs,e3,q3⟩:=r.cel k _ hk;rw[hb] at e1;cases e1;exact⟨a,xs,rfl,e3,q3⟩
  .cases h
 .cases h
theorem zdb(r:Rel K fl W μ H)(q:Rep K W d x)(h:zb2 μ d=some ds):∃a xs,x= .ref a/\(SqL K H a xs\/SqT K H a xs)/\zE K W ds xs:=by
 unfold zb2 at h;split at h
 .cases h;obtain⟨a,xs,rfl,e,z⟩:=q.tup';exact⟨a,xs,rfl, .inr (e.sm r.sub),z⟩
 .obtain⟨a,xs,rfl,e,z⟩:=zbg r q h;exact⟨a,xs,rfl, .inl (SqL.of e),z⟩
end
section
variable{X:Cx}
end
def zyB:R2:=fun x y H Q=>∃i j,x= .str i/\y= .str j/\i.length+j.length<=sizeLine/\Q (.str (i++j)) H
def zye:R2:=rI0 fun i j=> .int (i+j)
def zvO(K:Frag):R2:=fun x y H Q=>zye x y H Q\/zyB x y H Q\/zzr x y H Q\/zvR K x y H Q
theorem zay{X:Cx}(K:Frag)(h:X.K=K:=by rfl):OpR X (binaryOp .Add) (zvO K):=h▸zlv.or (zor.or (zw2.or zvk))
def zbX:DR2:=fun d e μ Q=>match d,e with
 | .int i, .int j=>Q (.int (i+j)) μ
 | .str a, .str b=>a.length+b.length<=sizeLine/\Q (.str (a++b)) μ
 | .tup a, .tup b=>a≠[]/\a.length+b.length<=sizeLine/\Q (.tup (a++b)) μ
 | d,e=>∃a b,zaM μ d=some a/\zaM μ e=some b/\a.length+b.length<=sizeLine/\Q (.lst (a++b)) μ
instance{K:Frag}{fl:Wd}:zbk K fl (zvO K) zbX:=⟨fun{W μ H d e x y Q Q'} r q1 q2 h k=>by
 unfold zbX at h;split at h
 .rw[q1.i',q2.i'];exact .inl ⟨_,_,rfl,rfl,k _ _ _ _ _ (.refl _) r .i h⟩
 .rw[q1.s',q2.s'];exact .inr (.inl ⟨_,_,rfl,rfl,h.1,k _ _ _ _ _ (.refl _) r .s h.2⟩)
 .rename_i a b;obtain⟨p,xs,rfl,s1,z1⟩:=q1.tup';obtain⟨p',ys,rfl,s2,z2⟩:=q2.tup';obtain⟨hn,hz,h⟩:=h;refine .inr (.inr (.inr ⟨p,p',xs,ys,rfl,rfl,s1.sm r.sub,s2.sm r.sub,fun z=>?_,by rw[z1.length,z2.length];exact hz,fun z=>?_,fun _ q hq=>?_⟩))
  .have:=z1.length;rw[z] at this;exact hn (List.length_eq_zero_iff.mp this.symm)
  .have:=z2.length;rw[z] at this;have e:b=[]:=List.length_eq_zero_iff.mp this.symm;subst e;rw[List.append_nil] at h;exact k _ _ _ _ _ (.refl _) r q1 h
  .obtain⟨r2,le2⟩:=r.newF (o:= .tup (xs++ys)) hq;exact k _ _ _ _ _ le2 r2 (.tup (SqT.of zH) ((z1.mono le2).append (z2.mono le2))) h
 .obtain⟨a,b,e1,e2,hz,h⟩:=h;obtain⟨p,xs,rfl,s1,z1⟩:=zbg r q1 e1;obtain⟨p',ys,rfl,s2,z2⟩:=zbg r q2 e2;refine .inr (.inr (.inl ⟨p,p',xs,ys,rfl,rfl,s1,s2,by rw[z1.length,z2.length];exact hz,fun q hq=>?_⟩));obtain⟨r2,le2⟩:=r.newF (o:= .lst (xs++ys)) hq;exact k _ _ _ _ _ le2 r2 (.lst zH ((z1.mono le2).append (z2.mono le2))) h⟩
def dI(C:Int->Int->Prop)(g:Int->Int->D):DR2:=fun d e μ Q=>match d,e with
 | .int i, .int j=>C i j/\Q (g i j) μ
 | _,_=>False
def dI0(g:Int->Int->D):DR2:=fun d e μ Q=>match d,e with
 | .int i, .int j=>Q (g i j) μ
 | _,_=>False
section
variable{K:Frag}{fl:Wd}
theorem zrk{C:Int->Int->Prop}{g:Int->Int->V}{g':Int->Int->D}(hg:∀W i j,Rep K W (g' i j) (g i j)):zbk K fl (rI C g) (dI C g'):=⟨fun{W μ H d e x y Q Q'} r q1 q2 h k=>by
 unfold dI at h;split at h
 .rw[q1.i',q2.i'];exact⟨_,_,rfl,rfl,h.1,k _ _ _ _ _ (.refl _) r (hg _ _ _) h.2⟩
 .exact h.elim⟩
theorem ziD{g:Int->Int->V}{g':Int->Int->D}(hg:∀W i j,Rep K W (g' i j) (g i j)):zbk K fl (rI0 g) (dI0 g'):=⟨fun{W μ H d e x y Q Q'} r q1 q2 h k=>by
 unfold dI0 at h;split at h
 .rw[q1.i',q2.i'];exact⟨_,_,rfl,rfl,k _ _ _ _ _ (.refl _) r (hg _ _ _) h⟩
 .exact h.elim⟩
end
def zjZ:DR2:=dI0 fun i j=> .int (i - j)
def zo8:DR2:=dI ziH fun i j=> .int (i / j)
def zuG:DR2:=dI (fun _ j=>0 < j) fun i j=> .int (i % j)
def zzL:DR2:=dI zub fun i j=> .int (i^j.toNat)
def dLt:DR2:=dI0 fun i j=> .bl (decide (i < j))
def dLe:DR2:=dI0 fun i j=> .bl (decide (i<=j))
def dGt:DR2:=dI0 fun i j=> .bl (decide (j < i))
def dGe:DR2:=dI0 fun i j=> .bl (decide (j<=i))
def zj6:DR1:=fun d μ Q=>match d with
 | .int i=>Q (.int (-i)) μ
 | _=>False
section
variable{K:Frag}{fl:Wd}
instance:zbk K fl (rI0 fun i j=> .int (i - j)) zjZ:=ziD fun _ _ _=> .i
instance:zbk K fl (rI ziH fun i j=> .int (i / j)) zo8:=zrk fun _ _ _=> .i
instance:zbk K fl (rI (fun _ j=>0 < j) fun i j=> .int (i % j)) zuG:=zrk fun _ _ _=> .i
instance:zbk K fl (rI0 fun i j=> .bl (decide (i < j))) dLt:=ziD fun _ _ _=> .b
instance:zbk K fl (rI0 fun i j=> .bl (decide (i<=j))) dLe:=ziD fun _ _ _=> .b
instance:zbk K fl (rI0 fun i j=> .bl (decide (j<=i))) dGe:=ziD fun _ _ _=> .b
instance:zvq K fl (rU fun i=> .int (-i)) zj6:=⟨fun{W μ H d x Q Q'} r q h k=>by
 unfold zj6 at h;split at h
 .rw[q.i'];exact⟨_,rfl,k _ _ _ _ _ (.refl _) r .i h⟩
 .exact h.elim⟩
end
def zy3:R2:=rI zj8 fun i j=> .int (i*j)
def zoZ:R2:=fun x y H Q=>zy3 x y H Q\/zyf x y H Q
theorem ztP{X:Cx}:OpR X (binaryOp .Mult) zoZ:=zrA.or zwL
def zrf:DR2:=fun d e μ Q=>match d,e with
 | .int i, .int j=>zj8 i j/\Q (.int (i*j)) μ
 | d, .int j=>∃a,zaM μ d=some a/\ -(2^63)<=j/\j < 2^63/\a.length*j.toNat<=sizeLine/\Q (.lst (List.replicate j.toNat a).flatten) μ
 | _,_=>False
theorem zE.rep{K:Frag}{W:Wd}{ds:List D}{xs:List V}(h:zE K W ds xs):∀n:Nat,zE K W (List.replicate n ds).flatten (List.replicate n xs).flatten
 | 0=> .nil
 | n+1=>by rw[List.replicate_succ,List.replicate_succ,List.flatten_cons,List.flatten_cons];exact h.append (zE.rep h n)
instance{K:Frag}{fl:Wd}:zbk K fl zoZ zrf:=⟨fun{W μ H d e x y Q Q'} r q1 q2 h k=>by
 unfold zrf at h;split at h
 .rw[q1.i',q2.i'];exact .inl ⟨_,_,rfl,rfl,h.1,k _ _ _ _ _ (.refl _) r .i h.2⟩
 .rename_i j _;obtain⟨a,e1,h1,h2,hz,h⟩:=h;obtain⟨p,xs,rfl,s1,z1⟩:=zbg r q1 e1;rw[q2.i'];refine .inr ⟨p,_,xs,rfl,rfl,s1,h1,h2,by rw[z1.length];exact hz,fun q hq=>?_⟩;obtain⟨r2,le2⟩:=r.newF (o:= .lst (List.replicate j.toNat xs).flatten) hq;exact k _ _ _ _ _ le2 r2 (.lst zH ((z1.mono le2).rep _)) h
 .exact h.elim⟩
def zyV:DR2:=fun d e μ Q=>match d,e with
 | .int i, .int j=>Q (.int (i+j)) μ
 | .cell k,e=>∃a b,μ k=some (.lst a)/\zaM μ e=some b/\a.length+b.length<=sizeLine/\Q (.cell k) (zV μ k (.lst (a++b)))
 | _,_=>False
def zzf:DR2:=dI0 fun i j=> .int (i - j)
def zyW:DR2:=dI zj8 fun i j=> .int (i*j)
theorem zE.atI{K:Frag}{W:Wd}{ds:List D}{xs:List V}{i:Int}{d:D}(h:zE K W ds xs)(e:L2.atI ds i=some d):∃x,L2.atI xs i=some x/\Rep K W d x:=by
 unfold L2.atI at *;rw[h.length];cases hn:ixN ds.length i with
 | none=>rw[hn] at e;cases e
 | some j =>
  rw[hn] at e;exact h.get e
def dIx:DR2:=fun d e μ Q=>match d,e with
 | .str z, .int i=>z.length<=sizeLine/\(match L2.atI z.cps.toList i with
  | some c=>Q (.str ⟨#[c]⟩) μ
  | none=>False)
 | d, .int i=>match zb2 μ d with
  | some ds=>match L2.atI ds i with
   | some v=>Q v μ
   | none=>False
  | none=>False
 | _,_=>False
instance{K:Frag}{fl:Wd}:zbk K fl (rIx K) dIx:=⟨fun{W μ H d e x y Q Q'} r q1 q2 h k=>by
 unfold dIx at h;split at h
 .rename_i z i;obtain⟨hz,h⟩:=h;split at h
  .rename_i c hc;rw[q1.s',q2.i'];exact .inr (.inr ⟨z,i,c,rfl,rfl,hz,hc,k _ _ _ _ _ (.refl _) r .s h⟩)
  .exact h.elim
 .rename_i i _;split at h
  .rename_i ds hds;obtain⟨p,xs,rfl,s1,z1⟩:=zdb r q1 hds;split at h
   .rename_i v hv;obtain⟨w,ew,qw⟩:=z1.atI hv;rw[q2.i'];rcases s1 with s1 | s1
    .exact .inl ⟨p,xs,i,w,rfl,rfl,s1,ew,k _ _ _ _ _ (.refl _) r qw h⟩
    .exact .inr (.inl ⟨p,xs,i,w,rfl,rfl,s1,ew,k _ _ _ _ _ (.refl _) r qw h⟩)
   .exact h.elim
  .exact h.elim
 .exact h.elim⟩
theorem zuS{X:Cx}(K:Frag)(h:X.K=K:=by rfl):IxR X (rIx K):=h▸zwG
def zaP:DO:=fun _ μ Q=>Q none μ
def zb3(w:DE):DO:=fun ρ μ Q=>w ρ μ fun d μ1=>match d with
 | .int i=>Q (some i) μ1
 | _=>False
abbrev DSl:=D->Option Int->Option Int->Mu->DK->Prop
class zvI(K:Frag)(fl:Wd)(r:V->Option Int->Option Int->Hp->VK->Prop)(q:DSl):Prop where
 run:∀{W μ H d x lo hi Q Q'},Rel K fl W μ H->Rep K W d x->q d lo hi μ Q->KV' K fl W Q Q'->r x lo hi H Q'
def dSl(q:DSl)(we:DE)(wl wh:DO):DE:=fun ρ μ Q=>we ρ μ fun d μ1=>wl ρ μ1 fun l μ2=>wh ρ μ2 fun u μ3=>q d l u μ3 Q
section
variable{K:Frag}{fl:Wd}{te:TE}{we:DE}{tl th:TO}{wl wh:DO}
instance:zuO K fl zlc zaP:=⟨fun{W ρ μ σ H Q Q'} r e h k=>k W _ μ H (.refl W) r h⟩
instance[a:zZ K fl te we]:zuO K fl (zqZ te) (zb3 we):=⟨fun r e h k=>a.run r e h fun W1 d μ1 x H1 le1 r1 q1 h1=>by
 cases d<;>first | exact h1.elim | skip
 exact⟨_,q1.i',k W1 _ μ1 H1 le1 r1 h1⟩⟩
instance{r:V->Option Int->Option Int->Hp->VK->Prop}{q:DSl}[a:zZ K fl te we][b:zuO K fl tl wl][c:zuO K fl th wh][o:zvI K fl r q]:zZ K fl (tSl r te tl th) (dSl q we wl wh):=⟨fun r e h k =>
 a.run r e h fun W1 d μ1 x H1 le1 r1 q1 h1=>b.run r1 (e.mono le1) h1 fun W2 l μ2 H2 le2 r2 h2=>c.run r2 (e.mono (le1.trans le2)) h2 fun W3 u μ3 H3 le3 r3 h3=>o.run r3 (q1.mono (le2.trans le3)) h3 fun W4 d4 μ4 x4 H4 le4 r4 q4 h4=>k W4 d4 μ4 x4 H4 (le1.trans (le2.trans (le3.trans le4))) r4 q4 h4⟩
end
def cutD{α:Type}(xs:List α)(lo hi:Option Int):List α:=(xs.drop (HT.sIx xs.length 0 lo)).take (HT.sIx xs.length xs.length hi - HT.sIx xs.length 0 lo)
theorem zE.cut{K:Frag}{W:Wd}{ds:List D}{xs:List V}(h:zE K W ds xs)(lo hi:Option Int):zE K W (cutD ds lo hi) (zir xs lo hi):=by
 unfold cutD zir;rw[h.length];exact(h.drop _).take _
def zyY(K:Frag):V->Option Int->Option Int->Hp->VK->Prop:=fun x lo hi H Q=>zwS K x lo hi H Q\/zyx K x lo hi H Q
theorem zhe{X:Cx}(K:Frag)(h:X.K=K:=by rfl):SlR X (zyY K):=h▸zpf.or zw8
def zb0:DSl:=fun d lo hi μ Q=>match d with
 | .tup ds=>¬ (HT.sIx ds.length 0 lo=0/\HT.sIx ds.length ds.length hi=ds.length)/\Q (.tup (cutD ds lo hi)) μ
 | d=>match zaM μ d with
  | some ds=>Q (.lst (cutD ds lo hi)) μ
  | none=>False
instance{K:Frag}{fl:Wd}:zvI K fl (zyY K) zb0:=⟨fun{W μ H d x lo hi Q Q'} r q1 h k=>by
 unfold zb0 at h;split at h
 .obtain⟨p,xs,rfl,s1,z1⟩:=q1.tup';refine .inr ⟨p,xs,rfl,s1.sm r.sub,by rw[z1.length];exact h.1,fun q hq=>?_⟩;obtain⟨r2,le2⟩:=r.newF (o:= .tup (zir xs lo hi)) hq;exact k _ _ _ _ _ le2 r2 (.tup (SqT.of zH) ((z1.mono le2).cut _ _)) h.2
 .split at h
  .rename_i ds hds;obtain⟨p,xs,rfl,s1,z1⟩:=zbg r q1 hds;refine .inl ⟨p,xs,rfl,SqL.of s1,fun q hq=>?_⟩;obtain⟨r2,le2⟩:=r.newF (o:= .lst (zir xs lo hi)) hq;exact k _ _ _ _ _ le2 r2 (.lst zH ((z1.mono le2).cut _ _)) h
  .exact h.elim⟩
mutual
def toPy:D->Option PyData
 | .non=>some .none
 | .bl b=>some (.bool b)
 | .int i=>some (.int i)
 | .str x=>some (.str x)
 | .tup ds=>(zaS ds).map .tuple
 | .lst ds=>(zaS ds).map .list
 | _=>none
def zaS:List D->Option (List PyData)
 | []=>some []
 | d::ds=>match toPy d,zaS ds with
  | some p,some ps=>some (p::ps)
  | _,_=>none
end
def zno(μ:Mu):D->Option PyData
 | .cell k=>match μ k with
  | some (.lst ds)=>(zaS ds).map .list
  | _=>none
 | d=>toPy d
section
variable{K:Frag}{fl:Wd}{W:Wd}{H:Hp}
mutual
theorem zna(s:zj3 W.F H):∀{d:D} {p:PyData} {x:V},toPy d=some p->Rep K W d x->Dat K H p x
 | .non,_,_,e,q=>by unfold toPy at e;cases e;rw[q.n'];exact .n
 | .bl _,_,_,e,q=>by unfold toPy at e;cases e;rw[q.b'];exact .b
 | .int _,_,_,e,q=>by unfold toPy at e;cases e;rw[q.i'];exact .i
 | .str _,_,_,e,q=>by unfold toPy at e;cases e;rw[q.s'];exact .s
 | .tup ds,_,_,e,q=>by
  unfold toPy at e;obtain⟨a,xs,rfl,h,z⟩:=q.tup';cases e1:zaS ds with
  | none=>rw[e1] at e;cases e
  | some ps=>rw[e1] at e;cases e;exact .tup (h.sm s) (zdf s e1 z)
 | .lst ds,_,_,e,q=>by
  unfold toPy at e;obtain⟨a,xs,rfl,h,z⟩:=q.lst';cases e1:zaS ds with
  | none=>rw[e1] at e;cases e
  | some ps=>rw[e1] at e;cases e;exact .lst (SqL.of (s _ _ h)) (zdf s e1 z)
 | .ty _,_,_,e,_=>by unfold toPy at e;cases e
 | .cls _,_,_,e,_=>by unfold toPy at e;cases e
 | .scr _,_,_,e,_=>by unfold toPy at e;cases e
 | .cell _,_,_,e,_=>by unfold toPy at e;cases e
 | .dct _ _,_,_,e,_=>by unfold toPy at e;cases e
 | .dtt _ _,_,_,e,_=>by unfold toPy at e;cases e
 | .obj _ _ _,_,_,e,_=>by unfold toPy at e;cases e
theorem zdf(s:zj3 W.F H):∀{ds:List D} {ps:List PyData} {xs:List V},zaS ds=some ps->zE K W ds xs->zbH K H ps xs
 | [],_,_,e,q=>by unfold zaS at e;cases e;rw[q.nil'];exact .nil
 | d::ds,_,_,e,q=>by
  unfold zaS at e;obtain⟨x,r,rfl,q1,q2⟩:=q.uncons;cases e1:toPy d with
  | none=>rw[e1] at e;cases e
  | some p =>
   cases e2:zaS ds with
   | none=>rw[e1,e2] at e;cases e
   | some ps=>rw[e1,e2] at e;cases e;exact .cons (zna s e1 q1) (zdf s e2 q2)
end
theorem zfs{μ:Mu}{d:D}{p:PyData}{x:V}(r:Rel K fl W μ H)(e:zno μ d=some p)(q:Rep K W d x):Dat K H p x:=by
 unfold zno at e;split at e
 .rename_i k;obtain⟨a,rfl,hb⟩:=q.cell';split at e
  .rename_i ds hk;obtain⟨a',e1,e2,xs,e3,q3⟩:=r.cel k _ hk;rw[hb] at e1;cases e1;cases e4:zaS ds with
   | none=>rw[e4] at e;cases e
   | some ps=>rw[e4] at e;cases e;exact .lst (SqL.of e3) (zdf r.sub e4 q3)
  .cases e
 .exact zna r.sub e q
end
def zyA(K:Frag)(neg:Bool):R2:=fun x y H Q=>∃d d',Dat K H d x/\Dat K H d' y/\zdP d/\zdP d'/\Q (.bl (if neg then !PyData.eqv d d' else PyData.eqv d d')) H
def zyz(K:Frag):R2:=fun x y H Q=>rEq x y H Q\/zyA K false x y H Q
def zyJ(K:Frag):R2:=fun x y H Q=>rNe x y H Q\/zyA K true x y H Q
theorem zbh{X:Cx}(K:Frag){k:Nat}{cm:Bool}(hr:zaC cm k X.A)(h:X.K=K:=by rfl):OpR X (compareOp .Eq) (zyz K):=zvz.or (zv5 K hr h)
theorem znY{X:Cx}(K:Frag){k:Nat}{cm:Bool}(hr:zaC cm k X.A)(h:X.K=K:=by rfl):OpR X (compareOp .NotEq) (zyJ K):=zyH.or (zwr K hr h)
def zmy(neg:Bool):DR2:=fun d e μ Q=>match d,e with
 | .int i, .int j=>Q (.bl (neg ^^ decide (i=j))) μ
 | .str i, .str j=>Q (.bl (neg ^^ decide (i=j))) μ
 | .bl i, .bl j=>Q (.bl (neg ^^ decide (i=j))) μ
 | d,e=>match zno μ d,zno μ e with
  | some p,some q=>zdP p/\zdP q/\Q (.bl (neg ^^ PyData.eqv p q)) μ
  | _,_=>False
def dEq:DR2:=zmy false
def dNe:DR2:=zmy true
theorem ztj(i j:Int):decide (V.int i=V.int j)=decide (i=j):=by by_cases h:i=j<;>simp[h]
theorem zsV(i j:Str):decide (V.str i=V.str j)=decide (i=j):=by by_cases h:i=j<;>simp[h]
theorem zvv(i j:Bool):decide (V.bl i=V.bl j)=decide (i=j):=by by_cases h:i=j<;>simp[h]
instance{K:Frag}{fl:Wd}:zbk K fl (zyz K) dEq:=⟨fun{W μ H d e x y Q Q'} r q1 q2 h k=>by
 unfold dEq zmy at h;simp only[Bool.false_xor] at h;split at h
 .rw[q1.i',q2.i'];exact .inl ⟨rfl,k _ _ _ _ _ (.refl _) r (by rw[ztj];exact .b) h⟩
 .rw[q1.s',q2.s'];exact .inl ⟨rfl,k _ _ _ _ _ (.refl _) r (by rw[zsV];exact .b) h⟩
 .rw[q1.b',q2.b'];exact .inl ⟨rfl,k _ _ _ _ _ (.refl _) r (by rw[zvv];exact .b) h⟩
 .split at h
  .rename_i p q e1 e2;exact .inr ⟨p,q,zfs r e1 q1,zfs r e2 q2,h.1,h.2.1,k _ _ _ _ _ (.refl _) r .b h.2.2⟩
  .exact h.elim⟩
instance{K:Frag}{fl:Wd}:zbk K fl (zyJ K) dNe:=⟨fun{W μ H d e x y Q Q'} r q1 q2 h k=>by
 unfold dNe zmy at h;simp only[Bool.true_xor] at h;split at h
 .rw[q1.i',q2.i'];exact .inl ⟨rfl,k _ _ _ _ _ (.refl _) r (by rw[ztj];exact .b) h⟩
 .rw[q1.s',q2.s'];exact .inl ⟨rfl,k _ _ _ _ _ (.refl _) r (by rw[zsV];exact .b) h⟩
 .rw[q1.b',q2.b'];exact .inl ⟨rfl,k _ _ _ _ _ (.refl _) r (by rw[zvv];exact .b) h⟩
 .split at h
  .rename_i p q e1 e2;exact .inr ⟨p,q,zfs r e1 q1,zfs r e2 q2,h.1,h.2.1,k _ _ _ _ _ (.refl _) r .b h.2.2⟩
  .exact h.elim⟩
def zfo:D->Bool
 | .non=>true
 | _=>false
def dIs:DR2:=fun d e μ Q=>match e with
 | .non=>Q (.bl (zfo d)) μ
 | _=>False
def zv1:DR2:=fun d e μ Q=>match e with
 | .non=>Q (.bl (!zfo d)) μ
 | _=>False
def zko:D->Option V
 | .non=>some .non
 | .bl b=>some (.bl b)
 | .int i=>some (.int i)
 | .str x=>some (.str x)
 | _=>none
def ze9:List D->Option (List V)
 | []=>some []
 | d::ds=>match zko d,ze9 ds with
  | some x,some xs=>some (x::xs)
  | _,_=>none
theorem zki{K:Frag}{W:Wd}{d:D}{x v:V}(e:zko d=some v)(q:Rep K W d x):x=v/\zfK v=true:=by
 cases d<;>simp only[zko,Option.some.injEq,reduceCtorEq] at e
 .rw[<- e];exact⟨q.n',rfl⟩
 .rw[<- e];exact⟨q.b',rfl⟩
 .rw[<- e];exact⟨q.i',rfl⟩
 .rw[<- e];exact⟨q.s',rfl⟩
theorem zjw{K:Frag}{W:Wd}:∀{ds:List D} {xs vs:List V},ze9 ds=some vs->zE K W ds xs->xs=vs/\vs.all zfK=true
 | [],_,_,e,q=>by unfold ze9 at e;cases e;exact⟨q.nil',rfl⟩
 | d::ds,_,_,e,q=>by
  unfold ze9 at e;obtain⟨x,r,rfl,q1,q2⟩:=q.uncons;cases e1:zko d with
  | none=>rw[e1] at e;cases e
  | some v =>
   cases e2:ze9 ds with
   | none=>rw[e1,e2] at e;cases e
   | some vs =>
    rw[e1,e2] at e;cases e;obtain⟨a,b⟩:=zki e1 q1;obtain⟨c,f⟩:=zjw e2 q2;exact⟨by rw[a,c],by rw[List.all_cons,b,f];rfl⟩
def zfD(neg:Bool):DR2:=fun d e μ Q=>match zb2 μ e with
 | some ds=>match zko d,ze9 ds with
  | some v,some vs=>Q (.bl (if neg then !inV v vs else inV v vs)) μ
  | _,_=>False
 | none=>False
instance{K:Frag}{fl:Wd}{neg:Bool}:zbk K fl (rIn K neg) (zfD neg):=⟨fun{W μ H d e x y Q Q'} r q1 q2 h k=>by
 unfold zfD at h;split at h
 .rename_i ds hds;obtain⟨p,xs,rfl,s1,z1⟩:=zdb r q2 hds;split at h
  .rename_i v vs e1 e2;obtain⟨a,b⟩:=zki e1 q1;obtain⟨c,f⟩:=zjw e2 z1;subst a c;exact⟨p,_,rfl,s1,b,f,k _ _ _ _ _ (.refl _) r .b h⟩
  .exact h.elim
 .exact h.elim⟩
def dCB(q:DRs)(w:DA):DE:=fun ρ μ Q=>w ρ μ fun ds μ1=>q ds μ1 Q
instance{K:Frag}{fl:Wd}{r:List V->Hp->VK->Prop}{q:DRs}{t:TA}{w:DA}[a:zdp K fl t w][o:zcX K fl r q]:zZ K fl (tCB r t) (dCB q w):=⟨fun r e h k =>
 a.run r e h fun W1 ds μ1 xs H1 le1 r1 q1 h1=>o.run r1 q1 h1 fun W2 d μ2 x H2 le2=>k W2 d μ2 x H2 (le1.trans le2)⟩
section
variable{X:Cx}(K:Frag)
def zzs:List V->Hp->VK->Prop:=fun xs H Q=>∃p ys,xs=[.ref p]/\(SqL K H p ys\/SqT K H p ys)/\Q (.int ys.length) H
def zyk:List V->Hp->VK->Prop:=fun xs H Q=>∃z,xs=[.str z]/\z.length<=sizeLine/\Q (.int z.length) H
def zvF:List V->Hp->VK->Prop:=fun xs H Q=>zzs K xs H Q\/zyk xs H Q
theorem zaw(h:X.K=K:=by rfl):zaf X (.builtin "len") (zvF K):=h▸zhg.or zlZ
def zyi:List V->Hp->VK->Prop:=fun xs H Q=>∃i j,xs=[.int i, .int j]/\Q (.int (if j > i then j else i)) H
def zzo:List V->Hp->VK->Prop:=fun xs H Q=>∃p ns,xs=[.ref p]/\SqL K H p (ns.map V.int)/\ns≠[]/\∀M∈ns,(∀a∈ns,a<=M)->Q (.int M) H
def zvx:List V->Hp->VK->Prop:=fun xs H Q=>zyi xs H Q\/zzo K xs H Q
def zyn:List V->Hp->VK->Prop:=fun xs H Q=>∃i j,xs=[.int i, .int j]/\Q (.int (if j < i then j else i)) H
def zy2:List V->Hp->VK->Prop:=fun xs H Q=>∃p ns,xs=[.ref p]/\SqL K H p (ns.map V.int)/\ns≠[]/\∀M∈ns,(∀a∈ns,M<=a)->Q (.int M) H
def zvr:List V->Hp->VK->Prop:=fun xs H Q=>zyn xs H Q\/zy2 K xs H Q
theorem zpE(hc:X.calm=true:=by rfl)(h:X.K=K:=by rfl):zaf X (.builtin "max") (zvx K):=(zpu hc).or (zpv K hc h)
theorem zkR(hc:X.calm=true:=by rfl)(h:X.K=K:=by rfl):zaf X (.builtin "min") (zvr K):=(zqn hc).or (zpT K hc h)
def zyv:List V->Hp->VK->Prop:=fun xs H Q=>∃(p:Addr) (bs:List Bool),xs=[.ref p]/\SqL K H p (bs.map V.bl)/\Q (.bl (bs.all id)) H
def ztZ:List V->Hp->VK->Prop:=fun xs H Q=>∃x c t b,xs=[x,c]/\zfE K H x t/\(∀u,RelV c u->kitOne K t u=some b)/\Q (.bl b) H
def zvL:List V->Hp->VK->Prop:=fun xs H Q=>∃p ys,xs=[.ref p]/\(SqL K H p ys\/SqT K H p ys)/\∀l,H l=none->Q (.ref l) (upd H l (.lst ys))
def zqC:List V->Hp->VK->Prop:=fun xs H Q=>∃p ys,xs=[.ref p]/\((SqL K H p ys/\∀l,H l=none->Q (.ref l) (upd H l (.tup ys)))\/(SqT K H p ys/\Q (.ref p) H))
theorem zqc(hc:X.calm=true:=by rfl)(h:X.K=K:=by rfl):zaf X (.builtin "all") (zyv K):=zpW K hc h
theorem zkW(h:X.K=K:=by rfl):zaf X (.builtin "isinstance") (ztZ K):=zlq K h
theorem zn7(h:X.K=K:=by rfl):zaf X (.type "list") (zvL K):=zjH K h
theorem zas(h:X.K=K:=by rfl):zaf X (.type "tuple") (zqC K):=zm2 K h
end
def zdz:DRs:=fun ds μ Q=>match ds with
 | [.str z]=>z.length<=sizeLine/\Q (.int z.length) μ
 | [d]=>match zb2 μ d with
  | some es=>Q (.int es.length) μ
  | none=>False
 | _=>False
def zzE:DRs:=fun ds μ Q=>match ds with
 | [.int i]=>Q (.int (if i < 0 then -i else i)) μ
 | _=>False
def intsOf:List D->Option (List Int)
 | []=>some []
 | .int i::r=>match intsOf r with
  | some l=>some (i::l)
  | none=>none
 | _=>none
def zcl:List D->Option (List Bool)
 | []=>some []
 | .bl i::r=>match zcl r with
  | some l=>some (i::l)
  | none=>none
 | _=>none
theorem zkU:∀{ds:List D} {ns:List Int},intsOf ds=some ns->ds=ns.map D.int
 | [],_,h=>by cases h;rfl
 | d::r,ns,h=>by
  cases d<;>simp only[intsOf,reduceCtorEq] at h
  cases e:intsOf r with
  | none=>rw[e] at h;cases h
  | some l=>rw[e] at h;cases h;rw[zkU e];rfl
theorem zmU:∀{ds:List D} {ns:List Bool},zcl ds=some ns->ds=ns.map D.bl
 | [],_,h=>by cases h;rfl
 | d::r,ns,h=>by
  cases d<;>simp only[zcl,reduceCtorEq] at h
  cases e:zcl r with
  | none=>rw[e] at h;cases h
  | some l=>rw[e] at h;cases h;rw[zmU e];rfl
theorem zk6:∀ns:List Bool,zcl (ns.map D.bl)=some ns
 | []=>rfl
 | _::r=>by rw[List.map_cons,zcl,zk6 r]
def zqt:DRs:=fun ds μ Q=>match ds with
 | [.int i, .int j]=>Q (.int (if j > i then j else i)) μ
 | [d]=>match (zaM μ d).bind intsOf with
  | some ns=>ns≠[]/\∀M∈ns,(∀a∈ns,a<=M)->Q (.int M) μ
  | none=>False
 | _=>False
def znC:DRs:=fun ds μ Q=>match ds with
 | [.int i, .int j]=>Q (.int (if j < i then j else i)) μ
 | [d]=>match (zaM μ d).bind intsOf with
  | some ns=>ns≠[]/\∀M∈ns,(∀a∈ns,M<=a)->Q (.int M) μ
  | none=>False
 | _=>False
def zyN:DRs:=fun ds μ Q=>match ds with
 | [d]=>match (zaM μ d).bind intsOf with
  | some ns=>Q (.int ns.sum) μ
  | none=>False
 | _=>False
def zsQ:DRs:=fun ds μ Q=>match ds with
 | [d]=>match (zaM μ d).bind zcl with
  | some bs=>Q (.bl (bs.all id)) μ
  | none=>False
 | _=>False
def zyZ:DRs:=fun ds μ Q=>match ds with
 | [d]=>match (zaM μ d).bind zcl with
  | some bs=>Q (.bl (bs.any id)) μ
  | none=>False
 | _=>False
def zmi:DRs:=fun ds μ Q=>match ds with
 | [d]=>match zb2 μ d with
  | some es=>Q (.lst es) μ
  | none=>False
 | _=>False
def zs3:DRs:=fun ds μ Q=>match ds with
 | [d]=>match zb2 μ d with
  | some es=>∀k,μ k=none->Q (.cell k) (zV μ k (.lst es))
  | none=>False
 | _=>False
def za8:DRs:=fun ds μ Q=>match ds with
 | [d]=>match zb2 μ d with
  | some es=>Q (.tup es) μ
  | none=>False
 | _=>False
def tyD(μ:Mu):D->Option String
 | .non=>some "NoneType"
 | .bl _=>some "bool"
 | .int _=>some "int"
 | .str _=>some "str"
 | .lst _=>some "list"
 | .cell k=>match μ k with
  | some (.lst _)=>some "list"
  | some (.dct _ _)=>some "dict"
  | some (.dtt _ _)=>some "dict"
  | _=>none
 | .dct _ _=>some "dict"
 | .dtt _ _=>some "dict"
 | _=>none
def zan:List String:=["int","bool","str","list","tuple","dict"]
def zfC(t T:String):Bool:=t==T||(t=="bool"&&T=="int")
def znD:DRs:=fun ds μ Q=>match ds with
 | [d, .ty T]=>match tyD μ d with
  | some t=>T∈zan/\Q (.bl (zfC t T)) μ
  | none=>False
 | _=>False
section
variable{K:Frag}{fl:Wd}{W:Wd}{μ:Mu}{H:Hp}
theorem zE.one{d:D}{xs:List V}(h:zE K W [d] xs):∃x,xs=[x]/\Rep K W d x:=by
 obtain⟨x,r,rfl,q,z⟩:=h.uncons;rw[z.nil'];exact⟨x,rfl,q⟩
theorem zE.two{d e:D}{xs:List V}(h:zE K W [d,e] xs):∃x y,xs=[x,y]/\Rep K W d x/\Rep K W e y:=by
 obtain⟨x,r,rfl,q,z⟩:=h.uncons;obtain⟨y,rfl,q2⟩:=z.one;exact⟨x,y,rfl,q,q2⟩
instance:zcX K fl (zvF K) zdz:=⟨fun{W μ H ds xs Q Q'} r z h k=>by
 unfold zdz at h;split at h
 .obtain⟨x,rfl,q⟩:=z.one;rw[q.s'];exact .inr ⟨_,rfl,h.1,k _ _ _ _ _ (.refl _) r .i h.2⟩
 .obtain⟨x,rfl,q⟩:=z.one;split at h
  .rename_i es he;obtain⟨p,ys,rfl,s1,z1⟩:=zdb r q he;exact .inl ⟨p,ys,rfl,s1,k _ _ _ _ _ (.refl _) r (by rw[z1.length];exact .i) h⟩
  .exact h.elim
 .exact h.elim⟩
theorem zkA{d:D}{x:V}{ns:List Int}(r:Rel K fl W μ H)(q:Rep K W d x)(h:(zaM μ d).bind intsOf=some ns):∃a,x= .ref a/\SqL K H a (ns.map V.int):=by
 cases e:zaM μ d with
 | none=>rw[e] at h;cases h
 | some ds =>
  rw[e] at h;obtain⟨a,xs,rfl,e1,z⟩:=zbg r q e;have:=zkU h;subst this;rw[z.ints] at e1;exact⟨a,rfl,SqL.of e1⟩
theorem zq3{d:D}{x:V}{ns:List Bool}(r:Rel K fl W μ H)(q:Rep K W d x)(h:(zaM μ d).bind zcl=some ns):∃a,x= .ref a/\SqL K H a (ns.map V.bl):=by
 cases e:zaM μ d with
 | none=>rw[e] at h;cases h
 | some ds =>
  rw[e] at h;obtain⟨a,xs,rfl,e1,z⟩:=zbg r q e;have:=zmU h;subst this;rw[z.bls] at e1;exact⟨a,rfl,SqL.of e1⟩
instance:zcX K fl (zvx K) zqt:=⟨fun{W μ H ds xs Q Q'} r z h k=>by
 unfold zqt at h;split at h
 .obtain⟨x,y,rfl,q1,q2⟩:=z.two;rw[q1.i',q2.i'];exact .inl ⟨_,_,rfl,k _ _ _ _ _ (.refl _) r .i h⟩
 .obtain⟨x,rfl,q⟩:=z.one;split at h
  .rename_i ns hn;obtain⟨a,rfl,s⟩:=zkA r q hn;exact .inr ⟨a,ns,rfl,s,h.1,fun M hM hb=>k _ _ _ _ _ (.refl _) r .i (h.2 M hM hb)⟩
  .exact h.elim
 .exact h.elim⟩
instance:zcX K fl (zvr K) znC:=⟨fun{W μ H ds xs Q Q'} r z h k=>by
 unfold znC at h;split at h
 .obtain⟨x,y,rfl,q1,q2⟩:=z.two;rw[q1.i',q2.i'];exact .inl ⟨_,_,rfl,k _ _ _ _ _ (.refl _) r .i h⟩
 .obtain⟨x,rfl,q⟩:=z.one;split at h
  .rename_i ns hn;obtain⟨a,rfl,s⟩:=zkA r q hn;exact .inr ⟨a,ns,rfl,s,h.1,fun M hM hb=>k _ _ _ _ _ (.refl _) r .i (h.2 M hM hb)⟩
  .exact h.elim
 .exact h.elim⟩
instance:zcX K fl (zyv K) zsQ:=⟨fun{W μ H ds xs Q Q'} r z h k=>by
 unfold zsQ at h;split at h
 .obtain⟨x,rfl,q⟩:=z.one;split at h
  .rename_i ns hn;obtain⟨a,rfl,s⟩:=zq3 r q hn;exact⟨a,ns,rfl,s,k _ _ _ _ _ (.refl _) r .b h⟩
  .exact h.elim
 .exact h.elim⟩
instance:zcX K fl (zvL K) zmi:=⟨fun{W μ H ds xs Q Q'} r z h k=>by
 unfold zmi at h;split at h
 .obtain⟨x,rfl,q⟩:=z.one;split at h
  .rename_i es he;obtain⟨p,ys,rfl,s1,z1⟩:=zdb r q he;refine⟨p,ys,rfl,s1,fun l hl=>?_⟩;obtain⟨r2,le2⟩:=r.newF (o:= .lst ys) hl;exact k _ _ _ _ _ le2 r2 (.lst zH (z1.mono le2)) h
  .exact h.elim
 .exact h.elim⟩
instance:zcX K fl (zqC K) za8:=⟨fun{W μ H ds xs Q Q'} r z h k=>by
 unfold za8 at h;split at h
 .obtain⟨x,rfl,q⟩:=z.one;split at h
  .rename_i es he;unfold zb2 at he;split at he
   .cases he;obtain⟨p,ys,rfl,t,z2⟩:=q.tup';exact⟨p,ys,rfl, .inr ⟨t.sm r.sub,k _ _ _ _ _ (.refl _) r q h⟩⟩
   .obtain⟨p,ys,rfl,t,z2⟩:=zbg r q he;refine⟨p,ys,rfl, .inl ⟨SqL.of t,fun l hl=>?_⟩⟩;obtain⟨r2,le2⟩:=r.newF (o:= .tup ys) hl;exact k _ _ _ _ _ le2 r2 (.tup (SqT.of zH) (z2.mono le2)) h
  .exact h.elim
 .exact h.elim⟩
theorem zsb{d:D}{x:V}{t:String}(r:Rel K fl W μ H)(q:Rep K W d x)(h:tyD μ d=some t):zfE K H x (.type t):=by
 unfold tyD at h;split at h<;>try cases h
 .rw[q.n'];exact .non
 .rw[q.b'];exact .bl _
 .rw[q.i'];exact .int _
 .rw[q.s'];exact .str _
 .obtain⟨a,xs,rfl,e,z⟩:=q.lst';exact .lst (r.sub _ _ e)
 .rename_i k;obtain⟨a,rfl,hb⟩:=q.cell';split at h<;>try cases h
  .rename_i ds hk;obtain⟨a',e1,e2,xs,e3,q3⟩:=r.cel k _ hk;rw[hb] at e1;cases e1;exact .lst e3
  .rename_i ks vs hk;obtain⟨a',e1,e2,xs,e3,l3,q3⟩:=r.cel k _ hk;rw[hb] at e1;cases e1;exact .dK e3
  .rename_i ks vs hk;obtain⟨a',e1,e2,xs,e3,l3,q3⟩:=r.cel k _ hk;rw[hb] at e1;cases e1;exact .dT e3
 .unfold Rep at q;obtain⟨a,xs,rfl,e,_⟩:=q;exact .dK (r.sub _ _ e)
 .unfold Rep at q;obtain⟨a,xs,rfl,e,_⟩:=q;exact .dT (r.sub _ _ e)
theorem zrw{d:D}{t:String}(h:tyD μ d=some t):t∈["NoneType","bool","int","str","list","dict"]:=by
 unfold tyD at h;split at h<;>(try cases h)<;>(try decide)
 split at h<;>(try cases h)<;>decide
theorem zwP{t T:String}(h:t∈["NoneType","bool","int","str","list","dict"])(h':T∈zan):kitOne K (.type t) (.type T)=some (zfC t T):=by
 simp only[zan,List.mem_cons,List.not_mem_nil,or_false] at h h';rcases h with rfl | rfl | rfl | rfl | rfl | rfl<;>rcases h' with rfl | rfl | rfl | rfl | rfl | rfl<;>rfl
instance:zcX K fl (ztZ K) znD:=⟨fun{W μ H ds xs Q Q'} r z h k=>by
 unfold znD at h;split at h
 .rename_i d T;obtain⟨x,y,rfl,q1,q2⟩:=z.two;split at h
  .rename_i t ht;unfold Rep at q2;subst q2;exact⟨x, .ty T, .type t,zfC t T,rfl,zsb r q1 ht,fun u hu=>by cases hu;exact zwP (zrw ht) h.1,k _ _ _ _ _ (.refl _) r .b h.2⟩
  .exact h.elim
 .exact h.elim⟩
end
def zyT(K:Frag)(tl:TE):TI:=fun σ H R=>tl σ H fun x H1=>(∃a,x= .ref a/\(∃xs,SqL K H1 a xs)/\R (Itl K a) H1)\/(∃a,x= .ref a/\(∃xs,SqT K H1 a xs)/\R (Itt K a) H1)\/∃y,x= .str y/\y.cps.all (· < 128)=true/\R (Its y) H1
theorem zbw{X:Cx}{tg l:Expr}{tl:TE}(K:Frag)(hl:WE X l tl)(h:X.K=K:=by rfl):WI X tg l (zyT K tl):=⟨by
 subst h;intro pins s σ H R I h;refine thn (hl.out pins s σ H _ I h) fun v s1 ⟨x,H1,I1,r1,q1⟩=>?_
 rcases q1 with⟨a,e,⟨xs,hq⟩,q⟩ | ⟨a,e,⟨xs,hq⟩,q⟩ | ⟨y,e,ha,q⟩
 .subst e;cases r1;obtain⟨its,rv,p,hz⟩:=I1.list hq;refine wpAny_pyIter_list p.isList ?_;refine⟨s1.heap.objs.size,[s1.heap.objs.size],_,_,H1,rfl,I1.kept (t':=s1.toks) fun b o e=>Heap.get?_push_of_some _ e,zpI a _,⟨_,Heap.get?_push_size _ rfl,rfl,rfl⟩,fun b hb=>?_,q⟩;have e:b=s1.heap.objs.size:=by simpa using hb
  subst e;exact I1.fpOk (Nat.le_refl _) (I1.hok.fresh (Nat.le_refl _))
 .subst e;cases r1;obtain⟨its,rv,p,hz⟩:=I1.tuple hq;refine wpAny_pyIter_tuple (show s1.heap.IsTuple a its.toArray from p) ?_;refine⟨s1.heap.objs.size,[s1.heap.objs.size],_,_,H1,rfl,I1.kept (t':=s1.toks) fun b o e=>Heap.get?_push_of_some _ e,znw a _,⟨_,Heap.get?_push_size _ rfl,rfl,rfl⟩,fun b hb=>?_,q⟩;have e:b=s1.heap.objs.size:=by simpa using hb
  subst e;exact I1.fpOk (Nat.le_refl _) (I1.hok.fresh (Nat.le_refl _))
 .subst e;obtain⟨t,rfl⟩:=r1;refine wpAny_pyIter_ascii ha ?_;refine⟨s1.heap.objs.size,[s1.heap.objs.size],_,_,H1,rfl,I1.kept (t':=s1.toks) fun b o e=>Heap.get?_push_of_some _ e,ztg _ y t,⟨_,Heap.get?_push_size _ rfl,rfl,rfl⟩,fun b hb=>?_,q⟩;have e:b=s1.heap.objs.size:=by simpa using hb
  subst e;exact I1.fpOk (Nat.le_refl _) (I1.hok.fresh (Nat.le_refl _))⟩
def zuk:D->Option (List D)
 | .lst ds=>some ds
 | .tup ds=>some ds
 | .str y=>if y.cps.all (· < 128)=true then some (y.cps.toList.map fun c=> .str ⟨#[c]⟩) else none
 | _=>none
def zmt(μ:Mu)(d:D)(Q:List D->(Mu->Prop)->Prop):Prop:=match d with
 | .cell k=>match μ k with
  | some (.lst ds)=>Q ds fun μ'=>μ' k=some (.lst ds)
  | _=>False
 | d=>match zuk d with
  | some ds=>Q ds fun _=>True
  | none=>False
def zds(w:DE):DI:=fun ρ μ Q=>w ρ μ fun d μ1=>zmt μ1 d fun ds Pm=>Q ds Pm μ1
def zec(w:DA):DI:=fun ρ μ Q=>w ρ μ fun ds μ1=>match ds with
 | [.int j]=> -(2^62)<=j/\j < 2^62/\Q ((zca 0 j.toNat).map D.int) (fun _=>True) μ1
 | _=>False
def zvW(w:DA):DI:=fun ρ μ Q=>w ρ μ fun ds μ1=>match ds with
 | [.int i, .int j]=>(-(2^62)<=i/\i < 2^62/\ -(2^62)<=j/\j < 2^62)/\Q ((zca i (j - i).toNat).map D.int) (fun _=>True) μ1
 | _=>False
section
variable{K:Frag}{fl:Wd}{te:TE}{we:DE}{ta:TA}{wa:DA}
theorem zs4(W:Wd)(lo:Int)(n:Nat)(Pm:Mu->Prop):ItR K fl W (Itr lo n) ((zca lo n).map D.int) Pm:=fun W1 μ H le r _ i=>by
 constructor
 .intro d hd;rw[List.getElem?_map] at hd;by_cases hi:i < n
  .rw[zjD hi] at hd;cases hd;refine⟨hi,fun x H' y=>?_⟩;obtain⟨e,y⟩:=y;subst e y;exact⟨W1, .refl _,r, .i⟩
  .rw[List.getElem?_eq_none (by rw[zcG];omega)] at hd;cases hd
 .intro h;rw[List.length_map,zcG] at h;exact h
theorem zui{W:Wd}{p:Addr}{xs:List V}{ds:List D}{Pm:Mu->Prop}(z1:zE K W ds xs)(hp:∀W1 μ H,W.le W1->Rel K fl W1 μ H->Pm μ->H p=some (.lst xs)):ItR K fl W (Itl K p) ds Pm:=fun W2 μ2 H2 le2 r2 pm i=>by
 have s2:=hp W2 μ2 H2 le2 r2 pm;constructor
 .intro d hd;obtain⟨x,ex,qx⟩:=z1.get hd;refine⟨⟨xs,x,SqL.of s2,ex⟩,fun y H' hy=>?_⟩;obtain⟨e',y'⟩:=hy;have ey:=y' xs (SqL.of s2);rw[ex] at ey;cases ey;exact⟨W2, .refl _,e'▸r2,qx.mono le2⟩
 .intro hl;exact⟨xs,SqL.of s2,by rw[z1.length];exact hl⟩
theorem zkZ{W:Wd}{μ:Mu}{H:Hp}{k:Nat}{a:Addr}{ds:List D}(r:Rel K fl W μ H)(hb:W.b k=some a)(hk:μ k=some (.lst ds)):∃xs,H a=some (.lst xs)/\zE K W ds xs:=by
 obtain⟨a',e1,e2,xs,e3,q3⟩:=r.cel k _ hk;rw[hb] at e1;cases e1;exact⟨xs,e3,q3⟩
theorem zt4{W:Wd}{k:Nat}{a:Addr}{ds:List D}(hb:W.b k=some a):ItR K fl W (Itl K a) ds (fun μ'=>μ' k=some (.lst ds)):=fun W2 μ2 H2 le2 r2 pm i=>by
 obtain⟨xs,s2,z1⟩:=zkZ r2 (le2.b _ _ hb) pm;constructor
 .intro d hd;obtain⟨x,ex,qx⟩:=z1.get hd;refine⟨⟨xs,x,SqL.of s2,ex⟩,fun y H' hy=>?_⟩;obtain⟨e',y'⟩:=hy;have ey:=y' xs (SqL.of s2);rw[ex] at ey;cases ey;exact⟨W2, .refl _,e'▸r2,qx⟩
 .intro hl;exact⟨xs,SqL.of s2,by rw[z1.length];exact hl⟩
instance[a:zZ K fl te we]:zu5 K fl (zyT K te) (zds we):=⟨fun{W ρ μ σ H Q Q'} r e h k=>a.run r e h fun W1 d μ1 x H1 le1 r1 q1 h1=>by
 unfold zmt at h1;split at h1
 .rename_i c;obtain⟨p,rfl,hb⟩:=q1.cell';split at h1
  .rename_i ds hk;obtain⟨xs,s1,z1⟩:=zkZ r1 hb hk;exact .inl ⟨p,rfl,⟨xs,SqL.of s1⟩,k W1 _ ds _ μ1 H1 le1 r1 (zt4 hb) h1⟩
  .exact h1.elim
 .cases hd:zuk d with
  | none=>rw[hd] at h1;exact h1.elim
  | some ds =>
   rw[hd] at h1;have h1:Q ds (fun _=>True) μ1:=h1;unfold zuk at hd;split at hd
   .cases hd;obtain⟨p,xs,rfl,s1,z1⟩:=q1.lst';exact .inl ⟨p,rfl,⟨xs,SqL.of (r1.sub _ _ s1)⟩,k W1 _ ds _ μ1 H1 le1 r1 (zui z1 fun W2 μ2 H2 le2 r2 _=>r2.sub _ _ (le2.F _ _ s1)) h1⟩
   .cases hd;obtain⟨p,xs,rfl,s1,z1⟩:=q1.tup';refine .inr (.inl ⟨p,rfl,⟨xs,s1.sm r1.sub⟩,k W1 _ ds _ μ1 H1 le1 r1 (fun W2 μ2 H2 le2 r2 _ i=>?_) h1⟩);have s2:SqT K H2 p xs:=(s1.sm le2.F).sm r2.sub;constructor
    .intro d hd;obtain⟨x,ex,qx⟩:=z1.get hd;refine⟨⟨xs,x,s2,ex⟩,fun y H' hy=>?_⟩;obtain⟨e',y'⟩:=hy;have ey:=y' xs s2;rw[ex] at ey;cases ey;exact⟨W2, .refl _,e'▸r2,qx.mono le2⟩
    .intro hl;exact⟨xs,s2,by rw[z1.length];exact hl⟩
   .rename_i y _;split at hd
    .rename_i ha;cases hd;rw[q1.s'];refine .inr (.inr ⟨y,rfl,ha,k W1 _ _ _ μ1 H1 le1 r1 (fun W2 μ2 H2 le2 r2 _ i=>?_) h1⟩);constructor
     .intro d hd;rw[List.getElem?_map] at hd;cases hc:y.cps.toList[i]? with
      | none=>rw[hc] at hd;cases hd
      | some c =>
       rw[hc] at hd;cases hd;have hi:i < y.cps.size:=by have:=(List.getElem?_eq_some_iff.mp hc).1;rwa [Array.length_toList] at this
       refine⟨hi,fun x H' hy=>?_⟩;obtain⟨e',c',hc',rfl⟩:=hy;rw[hc] at hc';cases hc';exact⟨W2, .refl _,e'▸r2, .s⟩
     .intro hl;rw[List.length_map,Array.length_toList] at hl;exact hl
    .cases hd
   .cases hd⟩
instance[a:zdp K fl ta wa]:zu5 K fl (zre ta) (zec wa):=⟨fun{W ρ μ σ H Q Q'} r e h k=>a.run r e h fun W1 ds μ1 xs H1 le1 r1 q1 h1=>by
 split at h1
 .obtain⟨x,rfl,q⟩:=q1.one;rw[q.i'];exact⟨_,rfl,h1.1,h1.2.1,k W1 _ _ _ μ1 H1 le1 r1 (zs4 _ _ _ _) h1.2.2⟩
 .exact h1.elim⟩
end
abbrev DM:=D->List D->Mu->DK->Prop
class zrh(K:Frag)(fl:Wd)(T:String)(r:V->List V->Hp->VK->Prop)(q:DM):Prop where
 run:∀{W μ H d x ds xs Q Q'},Rel K fl W μ H->Rep K W d x->zE K W ds xs->q d ds μ Q->KV' K fl W Q Q'->r x xs H Q'
def tyM(T:String)(μ:Mu)(d:D):Prop:=tyD μ d=some T
def dBM(T:String)(q:DM)(wo:DE)(w:DA):DE:=fun ρ μ Q=>wo ρ μ fun d μ1=>tyM T μ1 d/\w ρ μ1 fun ds μ2=>q d ds μ2 Q
def zzC(T:String)(q:DM)(wo:DE):DE:=fun ρ μ Q=>wo ρ μ fun d μ1=>tyM T μ1 d/\q d [] μ1 Q
theorem zug{K:Frag}{fl:Wd}{W:Wd}{μ:Mu}{H:Hp}{d:D}{x:V}{T:String}(hT:T="list"\/T="str"\/T="dict")(r:Rel K fl W μ H)(q:Rep K W d x)(h:tyM T μ d):tyV K T x H:=by
 have ty:=zsb r q h;cases ty with
 | non=>rcases hT with h | h | h<;>exact absurd h (by decide)
 | bl=>rcases hT with h | h | h<;>exact absurd h (by decide)
 | int=>rcases hT with h | h | h<;>exact absurd h (by decide)
 | str=>rfl
 | flt=>rcases hT with h | h | h<;>exact absurd h (by decide)
 | lst e=>exact .inl ⟨rfl,_,SqL.of e⟩
 | frz e=>exact .inl ⟨rfl,_, .inl (.inr ⟨_,e⟩)⟩
 | tup=>rcases hT with h | h | h<;>exact absurd h (by decide)
 | dK e=>exact .inr (.inr (.inl ⟨rfl, .inl ⟨_,e⟩⟩))
 | dT e=>exact .inr (.inr (.inl ⟨rfl, .inr ⟨_,e⟩⟩))
section
variable{K:Frag}{fl:Wd}{to:TE}{wo:DE}{t:TA}{w:DA}{r:V->List V->Hp->VK->Prop}{q:DM}
theorem zrY{T:String}(hT:T="list"\/T="str"\/T="dict")[a:zZ K fl to wo][b:zdp K fl t w][o:zrh K fl T r q]:zZ K fl (tBM K T r to t) (dBM T q wo w):=⟨fun r e h k=>a.run r e h fun W1 d μ1 x H1 le1 r1 q1 h1 =>
 ⟨zug hT r1 q1 h1.1,b.run r1 (e.mono le1) h1.2 fun W2 ds μ2 xs H2 le2 r2 q2 h2=>o.run r2 (q1.mono le2) q2 h2 fun W3 d3 μ3 x3 H3 le3=>k W3 d3 μ3 x3 H3 (le1.trans (le2.trans le3))⟩⟩
instance[a:zZ K fl to wo][b:zdp K fl t w][o:zrh K fl "list" r q]:zZ K fl (tBM K "list" r to t) (dBM "list" q wo w):=zrY (.inl rfl)
instance[a:zZ K fl to wo][b:zdp K fl t w][o:zrh K fl "str" r q]:zZ K fl (tBM K "str" r to t) (dBM "str" q wo w):=zrY (.inr (.inl rfl))
end
def zdv(μ:Mu)(d:D)(Q:Nat->List D->Prop):Prop:=match d with
 | .cell k=>match μ k with
  | some (.lst ds)=>Q k ds
  | _=>False
 | _=>False
theorem zqz{K:Frag}{fl:Wd}{W:Wd}{μ:Mu}{H:Hp}{d:D}{x:V}{Q:Nat->List D->Prop}(r:Rel K fl W μ H)(q:Rep K W d x)(h:zdv μ d Q):∃k ds a xs,x= .ref a/\W.b k=some a/\μ k=some (.lst ds)/\H a=some (.lst xs)/\zE K W ds xs/\Q k ds:=by
 unfold zdv at h;split at h
 .rename_i k;obtain⟨a,rfl,hb⟩:=q.cell';split at h
  .rename_i ds hk;obtain⟨a',e1,e2,xs,e3,q3⟩:=r.cel k _ hk;rw[hb] at e1;cases e1;exact⟨k,ds,a,xs,rfl,hb,hk,e3,q3,h⟩
  .exact h.elim
 .exact h.elim
def zW:DM:=fun d es μ Q=>match es with
 | [e]=>zdv μ d fun k ds=>ds.length < sizeLine/\Q .non (zV μ k (.lst (ds++[e])))
 | _=>False
def zvA:DM:=fun d es μ Q=>match es with
 | []=>zdv μ d fun k ds=>match ds[ds.length - 1]? with
  | some y=>Q y (zV μ k (.lst ds.dropLast))
  | none=>False
 | [.int i]=>zdv μ d fun k ds=> -(2^63)<=i/\i < 2^63/\match ixN ds.length i with
  | some j=>match ds[j]? with
   | some y=>Q y (zV μ k (.lst (ds.eraseIdx j)))
   | none=>False
  | none=>False
 | _=>False
def zxD:D->D->D->Mu->(Mu->Prop)->Prop:=fun d i v μ Q=>match i with
 | .int i=>zdv μ d fun k ds=>match ixN ds.length i with
  | some j=>Q (zV μ k (.lst (ds.set j v)))
  | none=>False
 | _=>False
def zyl(wo wi:DE)(q:D->D->D->Mu->(Mu->Prop)->Prop):DG:=fun v ρ μ Q=>wo ρ μ fun d μ1=>wi ρ μ1 fun i μ2=>q d i v μ2 fun μ3=>Q ρ μ3
section
variable{K:Frag}{fl:Wd}
instance:zrh K fl "list" zpa zW:=⟨fun{W μ H d x ds xs Q Q'} r q z h k=>by
 unfold zW at h;split at h
 .obtain⟨y,rfl,qy⟩:=z.one;obtain⟨c,es,a,ys,rfl,hb,hk,ha,z2,hz,h⟩:=zqz r q h;exact⟨a,ys,y,rfl,rfl,ha,by rw[z2.length];exact hz,k _ _ _ _ _ (.refl _) (r.setC (c':= .lst _) hk hb ⟨_,rfl,z2.append (.cons qy .nil)⟩) .n h⟩
 .exact h.elim⟩
end
theorem zpK{K:Frag}{fl:Wd}{W:Wd}{μ:Mu}{H:Hp}{k:Nat}{a:Addr}(r:Rel K fl W μ H)(hk:μ k=some .draw)(ha:W.b k=some a):∃l,zjf H a l/\W.F a=none/\(∃ns:List Int,W.F l=some (.lst (ns.map V.int))) /\
  ∀H',zjf H' a l->zld a H H'->Rel K fl W μ H':=by
 obtain⟨a',e1,e2,l,ns,i,b,c,e3,e4,hi,hb⟩:=r.cel k _ hk;rw[ha] at e1;cases e1;have hal:a≠l:=fun z=>by rw[<- z,e2] at e4;cases e4
 refine⟨l,⟨ns,i,b,c,e3,r.sub _ _ e4,hi,hb,hal⟩,e2,⟨ns,e4⟩,fun H' d o=>⟨fun x u e=>?_,r.fin,fun j ct e=>?_,r.inj,r.up⟩⟩
 .rw[o x (fun z=>by rw[z,e2] at e;cases e)];exact r.sub _ _ e
 .by_cases hj:j=k
  .subst hj;rw[hk] at e;cases e;obtain⟨ns',i',b',c',f1,f2,f3,f4,f5⟩:=d;exact⟨a,ha,e2,l,ns,i',b',c',f1,e4,f3,f4⟩
  .obtain⟨x,f1,f2,q⟩:=r.cel j ct e;have hx:x≠a:=fun z=>hj (r.inj j k _ _ a e hk (z▸f1) ha)
   exact⟨x,f1,f2,by rw[o x hx];exact q⟩
class zsd(K:Frag)(fl:Wd)(sp:Sp)(dsp:DSp):Prop where
 run:∀{W μ H ds vs Q Q'} (E:XK),Rel K fl W μ H->zE K W ds vs->dsp ds μ Q->KV' K fl W Q Q'->sp vs H Q' E
instance{K:Frag}{fl:Wd}{sp:Sp}{dsp:DSp}{E:XK}{t:TA}{w:DA}[a:zdp K fl t w][o:zsd K fl sp dsp]:zZ K fl (zkq sp [] E t) (dCall dsp w):=⟨fun{W ρ μ σ H Q Q'} r e h k =>
 a.run r e h fun W1 ds μ1 xs H1 le1 r1 q1 h1=>o.run E r1 (by rw[List.append_nil];exact q1) h1 fun W2 d μ2 x H2 le2=>k W2 d μ2 x H2 (le1.trans le2)⟩
def zaq:DSp:=fun ds μ Q=>match ds with
 | [.cell k, .int many]=>μ k=some .draw/\0 < many/\many < 2^250/\∀v,0<=v->v < many->Q (.int v) μ
 | _=>False
instance{K:Frag}{fl:Wd}:zsd K fl zlL zaq:=⟨fun{W μ H ds vs Q Q'} E r z h k=>by
 unfold zaq at h;split at h
 .rename_i c many;obtain⟨x,y,rfl,q1,q2⟩:=z.two;obtain⟨a,rfl,hb⟩:=q1.cell';rw[q2.i'];obtain⟨hk,h1,h2,h⟩:=h;obtain⟨l,d,_,_,fin⟩:=zpK r hk hb;exact⟨a,l,many,rfl,d,h1,h2,fun v H' l1 l2 d' o=>k W _ μ _ H' (.refl _) (fin H' d' o) .i (h v l1 l2)⟩
 .exact h.elim⟩
def zgL:DSp:=fun ds μ Q=>match ds with
 | [.scr _]=>∀k,μ k=none->Q (.cell k) (zV μ k .draw)
 | _=>False
section
variable{K:Frag}{fl:Wd}{W W':Wd}{μ μ':Mu}{H H':Hp}
theorem Rel.same(r:Rel K fl W μ H)(s:zj3 H H'):Rel K fl W μ H':=⟨fun b o e=>s _ _ (r.sub _ _ e),r.fin,fun k c e=>by
 obtain⟨a,e1,e2,q⟩:=r.cel k c e;obtain⟨u,eu⟩:=q.some;exact⟨a,e1,e2,by rw[s _ _ eu,<- eu];exact q⟩,r.inj,r.up⟩
theorem Rel.newAt{p:Addr}(r:Rel K fl W μ H)(hp:H p=none):W.F p=none/\∀k c,μ k=some c->W.b k≠some p:=by
 constructor
 .cases e:W.F p with
  | none=>rfl
  | some u=>rw[r.sub _ _ e] at hp;cases hp
 .intro k c e h;obtain⟨a,e1,_,q⟩:=r.cel k c e;obtain⟨u,eu⟩:=q.some;rw[h] at e1;cases e1;rw[hp] at eu;cases eu
theorem Rel.adoptF{p:Addr}{o:HO}(r:Rel K fl W μ H)(hp:H p=some o)(hF:W.F p=none)(hc:∀k c,μ k=some c->W.b k≠some p):Rel K fl ⟨W.b,upd W.F p o⟩ μ H/\W.le ⟨W.b,upd W.F p o⟩:=by
 have le:W.le ⟨W.b,upd W.F p o⟩:=⟨fun _ _ h=>h,zfn hF⟩;refine⟨⟨fun b u e=>?_,r.fin,fun k c e=>?_,r.inj,r.up.trans le⟩,le⟩
 .have e':(upd W.F p o) b=some u:=e;by_cases hb:b=p
  .subst hb;rw[zH] at e';cases e';exact hp
  .rw[zJ hb] at e';exact r.sub _ _ e'
 .obtain⟨a,e1,e2,q⟩:=r.cel k c e;have ha:a≠p:=fun z=>hc k c e (z▸e1)
  exact⟨a,e1,by show upd W.F p o a=none;rw[zJ ha];exact e2,q.mono le⟩
theorem Rel.adoptC{p:Addr}{c:Ct}(r:Rel K fl W μ H)(hF:W.F p=none)(hc:∀k c,μ k=some c->W.b k≠some p)(hq:Ctn K W c (H p)):∃(k:Nat) (W':Wd),μ k=none/\W.le W'/\Rel K fl W' (zV μ k c) H/\W'.b k=some p:=by
 obtain⟨n,hn⟩:=r.fin;have hk:μ n=none:=by
  cases e:μ n with
  | none=>rfl
  | some c=>obtain⟨a,e1,_⟩:=r.cel n c e;rw[hn n (Nat.le_refl _)] at e1;cases e1
 have le:W.le ⟨fun j=>if j=n then some p else W.b j,W.F⟩:=⟨fun k a e=>by
  show(if k=n then some p else W.b k)=some a;rw[if_neg (fun z=>by rw[z,hn n (Nat.le_refl _)] at e;cases e)];exact e,fun _ _ h=>h⟩
 refine⟨n,⟨fun j=>if j=n then some p else W.b j,W.F⟩,hk,le,⟨r.sub,⟨n+1,fun k hk=>?_⟩,fun k c' e=>?_,fun k k' c1 c2 a e e' q q'=>?_,r.up.trans le⟩,if_pos rfl⟩
 .show(if k=n then some p else W.b k)=none;rw[if_neg (by omega)];exact hn k (by omega)
 .by_cases ek:k=n
  .subst ek;rw[zA] at e;cases e;exact⟨p,if_pos rfl,hF,hq.mono le⟩
  .rw[zq ek] at e;obtain⟨a,e1,e2,q⟩:=r.cel k c' e;exact⟨a,by show(if k=n then some p else W.b k)=some a;rw[if_neg ek];exact e1,e2,q.mono le⟩
 .have q1:(if k=n then some p else W.b k)=some a:=q;have q2:(if k'=n then some p else W.b k')=some a:=q';by_cases ek:k=n
  .by_cases ek':k'=n
   .rw[ek,ek']
   .rw[if_pos ek] at q1;rw[if_neg ek'] at q2;rw[zq ek'] at e';cases q1;exact absurd q2 (hc _ _ e')
  .by_cases ek':k'=n
   .rw[if_neg ek] at q1;rw[if_pos ek'] at q2;rw[zq ek] at e;cases q2;exact absurd q1 (hc _ _ e)
   .rw[if_neg ek] at q1;rw[if_neg ek'] at q2;rw[zq ek] at e;rw[zq ek'] at e';exact r.inj k k' _ _ a e e' q1 q2
end
instance{K:Frag}{fl:Wd}:zsd K fl (zjK K) zgL:=⟨fun{W μ H ds vs Q Q'} E r z h k=>by
 unfold zgL at h;split at h
 .rename_i ns;obtain⟨x,rfl,q⟩:=z.one;unfold Rep at q;obtain⟨a,rfl,hs⟩:=q;refine⟨a,ns,rfl,hs.sm r.sub,fun p l H' hp hl d sm=>?_⟩;obtain⟨ns',i,b,c,e1,e2,hi,hb,hne⟩:=d;have r1:=r.same sm;obtain⟨f1,g1⟩:=r.newAt hl;obtain⟨r2,le2⟩:=r1.adoptF e2 f1 g1;obtain⟨f2,g2⟩:=r.newAt hp;have f2':(upd W.F l (.lst (ns'.map V.int))) p=none:=by rw[zJ hne];exact f2
  obtain⟨j,W3,hj,le3,r3,e3⟩:=r2.adoptC (c:= .draw) (p:=p) f2' g2 ⟨l,ns',i,b,c,e1,zH,hi,hb⟩;exact k W3 _ _ _ _ (le2.trans le3) r3 (by unfold Rep;exact⟨p,rfl,e3⟩) (h j hj)
 .exact h.elim⟩
def zsZ:DSp:=fun ds μ Q=>∃ns,ds=[.scr ns]/\ns.length<=63/\∀ μ',Q (.bl true) μ'
def zpe(K:Frag):Sp:=fun vs H Q _=>∃(a:Addr) (ns:List Int),vs=[.ref a]/\SqL K H a (ns.map V.int)/\ns.length<=63/\∀H',Q (.bl true) H'
theorem zrt{K:Frag}(vs:List V)(H:Hp)(Q:VK)(E:XK)(h:zpe K vs H Q E):lift K zsZ vs H Q E:=by
 obtain⟨a,ns,rfl,hs,hl,q⟩:=h;refine⟨⟨fun _=>none,fun _=>none⟩,⟨fun _=>none,fun b=>if b=a then H a else none⟩,fun _=>none,[.scr ns],fun d _=>d= .bl true,⟨fun b o e=>?_,⟨0,fun _ _=>rfl⟩,fun k c e=>(by cases e),fun k k' c c' x e=>(by cases e),⟨fun _ _ e=>(by cases e),fun _ _ e=>(by cases e)⟩⟩, .cons ?_ .nil,⟨ns,rfl,hl,fun _=>rfl⟩,fun W' d μ' x H' _ _ r e=>?_⟩
 .have e':(if b=a then H a else none)=some o:=e;by_cases hb:b=a
  .rw[if_pos hb] at e';rw[hb];exact e'
  .rw[if_neg hb] at e';cases e'
 .unfold Rep;refine⟨a,rfl,?_⟩;rcases hs with h | h
  .refine .inl ?_;rcases h with h | ⟨o,h⟩
   .exact .inl (by show(if a=a then H a else none)=_;rw[if_pos rfl];exact h)
   .exact .inr ⟨o,by show(if a=a then H a else none)=_;rw[if_pos rfl];exact h⟩
  .exact .inr h
 .subst e;rw[r.b'];exact q H'
theorem zcr{X:Cx}{s:Stmt}{t:TE}{g:TG}(h:WS X s (zeh t g)):WS X s (zeh (zr3 t) g):=h
theorem zod{X:Cx}(K:Frag){k:Nat}{cm:Bool}(hr:zaC cm k X.A)(h:X.K=K:=by rfl):OpR X (compareOp .In) (rIn K false):=zwd K h
theorem zdc{X:Cx}(K:Frag){k:Nat}{cm:Bool}(hr:zaC cm k X.A)(h:X.K=K:=by rfl):OpR X (compareOp .NotIn) (rIn K true):=zpF K h
def ends(Q:DK):zba:={ nx:=fun _ μ'=>∃ μ'',MLe μ'' μ'/\Q .non μ'',rt:=fun d μ'=>∃ μ'',MLe μ'' μ'/\Q d μ'' }
def zam(w:DS)(N:List Str)(n:Nat):DSp:=fun ds μ Q=>ds.length=n/\w (ends Q) (zhw N ds) μ
section
variable{P:Program}{w:World}{K:Frag}{fl:Wd}{mg:Str->Option Value}{base:Heap}
theorem Fun.okB{x qual:Str}{st:Stmt}{f:Addr}{fd:FuncData}{N ps:List Str}{k n:Nat}(dw:DS)(F:Fun K x qual st f fd)(S:zP N ps (zx st))(len:ps.length=n)
  (hbody:∀(cdv:Value) (A:Around) (outer:List Env) (s:Shared) (H:Hp) (E:XK),zdA k (A.deeper (envOfC qual (zx st) s.heap.objs.size f cdv)) ->
   ∃t,WSs (zfi CX0 P w K mg base N qual (zx st) f cdv A outer s H E).nox (zbo st) t/\∀fl,zcU K fl t dw):zac P w K mg base CX0 (k+1) f fd ps (lift K (zam dw N n)):=by
 refine F.okq S (fun vs H Q E h=>?_) (fun cdv A outer s H vs Q E hr h=>?_)
 .obtain⟨_,W,μ,ds,Q0,_,r,h,_⟩:=h;rw[r.length,h.1,len]
 .obtain⟨fl,W,μ,ds,Q0,rel,r,h,k⟩:=h;obtain⟨t,ht,sm⟩:=hbody cdv A outer s H E hr;refine⟨t,ht,(sm W).run (rel.floor (.refl W)) (.start r) h.2 ⟨fun W' ρ μ σ H le rr ee hh=>?_,fun _ _ _ _ _ _ _ _ hh=>hh.elim,fun _ _ _ _ _ _ _ _ hh=>hh.elim,fun W' d μ x H le rr ee hh=>?_⟩⟩
  .obtain⟨μ'',l,hh⟩:=hh;exact k W' .non μ'' _ H le ((rr.floor (rel.up.trans le)).less l) .n hh
  .obtain⟨μ'',l,hh⟩:=hh;exact k W' d μ'' x H le ((rr.floor (rel.up.trans le)).less l) ee hh
end
theorem zqJ{K:Frag}{dsp dsp':DSp}(h:∀ds μ Q,dsp ds μ Q->dsp' ds μ Q){vs:List V}{H:Hp}{Q:VK}{E:XK}(q:lift K dsp vs H Q E):lift K dsp' vs H Q E:=by
 obtain⟨fl,W,μ,ds,Q0,a,b,c,d⟩:=q;exact⟨fl,W,μ,ds,Q0,a,b,h _ _ _ c,d⟩
section
variable{Pm:Mu->Prop}{g:DG}{wb:DS}{D':zba}{ds:List D}{ρ:zag}{μ:Mu}{wc:DT}{we:DE}{ρb:zag}{Fin:List D->Mu->Prop}{ys:List D}
theorem zbF(I:Nat->zag->Mu->Prop)(h0:I 0 ρ μ)
  (step:∀i d ρ μ,ds[i]? = some d->I i ρ μ->∀N:zag->Mu->Prop,(∀ ρ' μ',I (i+1) ρ' μ'->N ρ' μ')->g d ρ μ fun ρ2 μ2=>wb { D' with nx:=N,ct:=N,bk:=D'.nx } ρ2 μ2)
  (fin:∀ ρ μ,I ds.length ρ μ->D'.nx ρ μ)(hP:∀i ρ μ,I i ρ μ->Pm μ:=by exact fun _ _ _ _=>trivial):zji g wb D' Pm ds ρ μ:=by
 have key:∀(n i:Nat) ρ μ,i+n=ds.length->I i ρ μ->zji g wb D' Pm (ds.drop i) ρ μ:=by
  intro n;induction n with
  | zero =>
   intro i ρ μ hi hI;rw[List.drop_eq_nil_of_le (by omega)];have:i=ds.length:=by omega
   subst this;exact⟨hP _ _ _ hI,fin ρ μ hI⟩
  | succ n ih =>
   intro i ρ μ hi hI;rw[List.drop_eq_getElem_cons (by omega)];exact⟨hP _ _ _ hI,step i _ ρ μ (List.getElem?_eq_getElem (by omega)) hI _ fun ρ' μ' h=>ih (i+1) ρ' μ' (by omega) h⟩
 exact key ds.length 0 ρ μ (by omega) h0
theorem zhl(I:Nat->List D->Mu->Prop)(h0:I 0 ys μ)
  (step:∀i d ys μ,ds[i]? = some d->I i ys μ->ys.length < sizeLine/\∀N:List D->Mu->Prop,(∀ys' μ',I (i+1) ys' μ'->N ys' μ')->g d ρb μ fun ρ2 μ2=>wc ρ2 μ2 fun b μ3=>if b=true then we ρ2 μ3 fun v μ4=>N (ys++[v]) μ4 else N ys μ3)
  (fin:∀ys μ,I ds.length ys μ->Fin ys μ)(hP:∀i ys μ,I i ys μ->Pm μ:=by exact fun _ _ _ _=>trivial):zbD g wc we ρb Pm Fin ds ys μ:=by
 have key:∀(n i:Nat) ys μ,i+n=ds.length->I i ys μ->zbD g wc we ρb Pm Fin (ds.drop i) ys μ:=by
  intro n;induction n with
  | zero =>
   intro i ys μ hi hI;rw[List.drop_eq_nil_of_le (by omega)];have:i=ds.length:=by omega
   subst this;exact⟨hP _ _ _ hI,fin ys μ hI⟩
  | succ n ih =>
   intro i ys μ hi hI;rw[List.drop_eq_getElem_cons (by omega)];obtain⟨hz,st⟩:=step i _ ys μ (List.getElem?_eq_getElem (by omega)) hI;exact⟨hP _ _ _ hI,hz,st (fun ys' μ'=>zbD g wc we ρb Pm Fin (ds.drop (i+1)) ys' μ') fun ys' μ' h=>ih (i+1) ys' μ' (by omega) h⟩
 exact key ds.length 0 ys μ (by omega) h0
theorem znH(f:D->D)(hl:ds.length<=sizeLine)(step:∀d∈ds,∀Q:DK,Q (f d) μ->g d ρb μ fun ρ2 μ2=>we ρ2 μ2 Q)(fin:Fin (ds.map f) μ)(hP:Pm μ:=by exact trivial):zbD g zhr we ρb Pm Fin ds [] μ:=by
 refine zhl (fun i ys μ'=>μ'=μ/\ys=(ds.take i).map f) ⟨rfl,rfl⟩ (fun i d ys μ' hd hI=>?_) (fun ys μ' hI=>?_) (fun i ys μ' h=>h.1▸hP)
 .obtain⟨rfl,rfl⟩:=hI;have hi:=(List.getElem?_eq_some_iff.mp hd).1;refine⟨by rw[List.length_map,List.length_take];omega,fun N hN=>?_⟩;refine step d (List.mem_of_getElem? hd) (fun v μ4=>N ((ds.take i).map f++[v]) μ4) (hN _ _ ⟨rfl,?_⟩);rw[List.take_add_one,hd];simp
 .obtain⟨rfl,rfl⟩:=hI;rw[List.take_length];exact fin
end
theorem zcJ{lo:Int}{n i:Nat}{d:D}(h:((zca lo n).map D.int)[i]? = some d):i < n/\d= .int (lo+i):=by
 rw[List.getElem?_map] at h;by_cases hi:i < n
 .rw[zjD hi] at h;cases h;exact⟨hi,rfl⟩
 .rw[List.getElem?_eq_none (by rw[zcG];omega)] at h;cases h
theorem zbG(lo:Int)(n:Nat):((zca lo n).map D.int).length=n:=by rw[List.length_map,zcG]
theorem zoH{i j:Int}{μ:Mu}{Q:DK}:dEq (.int i) (.int j) μ Q=Q (.bl (decide (i=j))) μ:=by simp[dEq,zmy]
theorem zuc{i j:Str}{μ:Mu}{Q:DK}:dNe (.str i) (.str j) μ Q=Q (.bl (!decide (i=j))) μ:=by simp[dNe,zmy]
theorem zde{μ:Mu}{ds:List D}:zaM μ (.lst ds)=some ds:=rfl
theorem zov{μ:Mu}{k:Nat}{ds:List D}(h:μ k=some (.lst ds)):zb2 μ (.cell k)=some ds:=by simp[zb2,zaM,h]
def Pl:Nat->D->Prop
 | _, .non=>True
 | _, .bl _=>True
 | _, .int _=>True
 | _, .str x=>PyData.strOk x=true
 | n+1, .tup ds=>∀d∈ds,Pl n d
 | n+1, .lst ds=>∀d∈ds,Pl n d
 | _,_=>False
theorem Pl.pys{n:Nat}(ih:∀d,Pl n d->∃p,toPy d=some p/\p.canLay0=true/\p.depth<=n):∀ds:List D,(∀d∈ds,Pl n d)->∃ps,zaS ds=some ps/\PyData.canLayAll0 ps=true/\PyData.depthAll ps<=n
 | [],_=>⟨[],by unfold zaS;rfl,by unfold PyData.canLayAll0;rfl,by unfold PyData.depthAll;omega⟩
 | d::ds,h=>by
  obtain⟨p,e,c,b⟩:=ih d (h d List.mem_cons_self);obtain⟨ps,e',c',b'⟩:=Pl.pys ih ds fun x hx=>h x (List.mem_cons_of_mem _ hx)
  refine⟨p::ps,by unfold zaS;rw[e,e'],by unfold PyData.canLayAll0;rw[c,c'];rfl,?_⟩;unfold PyData.depthAll;omega
theorem Pl.py:∀(n:Nat) (d:D),Pl n d->∃p,toPy d=some p/\p.canLay0=true/\p.depth<=n:=by
 intro n;induction n with
 | zero =>
  intro d h;cases d<;>first | exact h.elim | skip
  .exact⟨_,by unfold toPy;rfl,by simp[PyData.canLay0],by simp[PyData.depth]⟩
  .exact⟨_,by unfold toPy;rfl,by simp[PyData.canLay0],by simp[PyData.depth]⟩
  .exact⟨_,by unfold toPy;rfl,by simp[PyData.canLay0],by simp[PyData.depth]⟩
  .exact⟨_,by unfold toPy;rfl,by rw[PyData.canLay0];exact h,by simp[PyData.depth]⟩
 | succ n ih =>
  intro d h;cases d<;>first | exact h.elim | skip
  .exact⟨_,by unfold toPy;rfl,by simp[PyData.canLay0],by simp[PyData.depth]⟩
  .exact⟨_,by unfold toPy;rfl,by simp[PyData.canLay0],by simp[PyData.depth]⟩
  .exact⟨_,by unfold toPy;rfl,by simp[PyData.canLay0],by simp[PyData.depth]⟩
  .exact⟨_,by unfold toPy;rfl,by rw[PyData.canLay0];exact h,by simp[PyData.depth]⟩
  .rename_i ds;obtain⟨ps,e,c,b⟩:=Pl.pys ih ds h;exact⟨.tuple ps,by unfold toPy;rw[e];rfl,by rw[PyData.canLay0];exact c,by rw[PyData.depth];omega⟩
  .rename_i ds;obtain⟨ps,e,c,b⟩:=Pl.pys ih ds h;exact⟨.list ps,by unfold toPy;rw[e];rfl,by rw[PyData.canLay0];exact c,by rw[PyData.depth];omega⟩
theorem zmC{μ:Mu}{d:D}{p:PyData}(h:toPy d=some p):zno μ d=some p:=by
 cases d<;>first | exact h | (unfold toPy at h;cases h)
section
variable{D':zba}{ρ:zag}{μ:Mu}
theorem zyt{s1 s2 u:DS}(R:zag->Mu->Prop)(h1:∀N:zag->Mu->Prop,(∀ ρ' μ',R ρ' μ'->N ρ' μ')->zF s1 s2 { D' with nx:=N } ρ μ)(h2:∀ ρ' μ',R ρ' μ'->u D' ρ' μ'):zF s1 (zF s2 u) D' ρ μ:=h1 _ h2
theorem zzO{s1 s2 s3 s4 s5 u:DS}(R:zag->Mu->Prop)(h1:∀N:zag->Mu->Prop,(∀ ρ' μ',R ρ' μ'->N ρ' μ')->zF s1 (zF s2 (zF s3 (zF s4 s5))) { D' with nx:=N } ρ μ)(h2:∀ ρ' μ',R ρ' μ'->u D' ρ' μ'):zF s1 (zF s2 (zF s3 (zF s4 (zF s5 u)))) D' ρ μ:=h1 _ h2
end
theorem zen{α:Type}(xs:List α)(n:Nat):cutD xs none (some (n:Int))=xs.take n:=by
 unfold cutD;rw[HT.zmH,HT.zbn,List.drop_zero,Nat.sub_zero];rcases Nat.le_total n xs.length with h | h
 .rw[Nat.min_eq_left h]
 .rw[Nat.min_eq_right h,List.take_length,List.take_of_length_le h]
theorem zgu{α:Type}(xs:List α)(n:Nat):cutD xs (some (n:Int)) none=xs.drop n:=by
 unfold cutD;rw[HT.zmH,HT.zbn];rcases Nat.le_total n xs.length with h | h
 .rw[Nat.min_eq_left h,List.take_of_length_le (by rw[List.length_drop];omega)]
 .rw[Nat.min_eq_right h,Nat.sub_self,List.take_zero,List.drop_eq_nil_of_le h]
section
variable{X:Cx}{pins:List (Addr×Obj)}{σ:St}{H:Hp}{s:Shared}{h':Heap}
end
def lsM(μ:Mu)(d:D)(Q:List D->(Mu->Prop)->Prop):Prop:=match d with
 | .cell k=>match μ k with
  | some (.lst ds)=>Q ds fun μ'=>μ' k=some (.lst ds)
  | _=>False
 | .lst ds=>Q ds fun _=>True
 | _=>False
def pairD(p:D×D):D:= .tup [p.1,p.2]
def zzl(w:DA):DI:=fun ρ μ Q=>w ρ μ fun es μ1=>match es with
 | [d,e]=>lsM μ1 d fun ds P1=>lsM μ1 e fun es P2=>Q ((ds.zip es).map pairD) (fun μ'=>P1 μ'/\P2 μ') μ1
 | _=>False
section
variable{μ:Mu}{Q:DK}{α:Type}
theorem ztE{ds:List D}{i:Int}:dIx (.tup ds) (.int i) μ Q=match atI ds i with
  | some v=>Q v μ
  | none=>False:=rfl
theorem zvf{ds:List D}{i:Int}:dIx (.lst ds) (.int i) μ Q=match atI ds i with
  | some v=>Q v μ
  | none=>False:=rfl
theorem zq9{a:α}{r:List α}:atI (a::r) 0=some a:=zc2 (j:=0) rfl
theorem zsy{a b:α}{r:List α}:atI (a::b::r) 1=some b:=zc2 (j:=1) rfl
theorem zvT{a b c:α}{r:List α}:atI (a::b::c::r) 2=some c:=zc2 (j:=2) rfl
theorem zvS{a b c d:α}{r:List α}:atI (a::b::c::d::r) 3=some d:=zc2 (j:=3) rfl
theorem zvs{a b c d e:α}{r:List α}:atI (a::b::c::d::e::r) 4=some e:=zc2 (j:=4) rfl
theorem zwW{a:α}:atI [a] (-1)=some a:=rfl
theorem zx4{a b:α}:atI [a,b] (-1)=some b:=rfl
theorem zv9{a b c:α}:atI [a,b,c] (-1)=some c:=rfl
theorem zwk{a b c d:α}:atI [a,b,c,d] (-1)=some d:=rfl
theorem zxx{a b c d e:α}:atI [a,b,c,d,e] (-1)=some e:=rfl
theorem zoX{β:Type}{f:α->β}{xs:List α}{i:Int}:atI (xs.map f) i=(atI xs i).map f:=by
 unfold atI;rw[List.length_map];cases ixN xs.length i with
 | none=>rfl
 | some j=>simp[List.getElem?_map]
theorem zw1{xs:List α}{i:Int}{j:Nat}{v:α}(hi:i=j)(h:xs[j]? = some v):atI xs i=some v:=by subst hi;exact zc2 h
theorem zhm{xs:List α}{i:Int}(h0:0<=i)(h1:i < xs.length):∃v,atI xs i=some v/\xs[i.toNat]? = some v:=by
 have hi:i.toNat < xs.length:=by omega
 exact⟨xs[i.toNat],zw1 (by omega) (List.getElem?_eq_getElem hi),List.getElem?_eq_getElem hi⟩
theorem zrg{xs:List α}:atI xs (-1)=xs.getLast? := by
 rcases List.eq_nil_or_concat xs with rfl | ⟨ys,v,rfl⟩
 .rfl
 .rw[List.concat_eq_append,zm6];simp
theorem ztk{xs:List α}:cutD xs none (some 1)=xs.take 1:=zen xs 1
end
theorem zmO{s1 u:DS}{D':zba}{ρ:zag}{μ:Mu}(R:zag->Mu->Prop)(h1:∀N:zag->Mu->Prop,(∀ ρ' μ',R ρ' μ'->N ρ' μ')->s1 { D' with nx:=N } ρ μ)(h2:∀ ρ' μ',R ρ' μ'->u D' ρ' μ'):zF s1 u D' ρ μ:=h1 _ h2
def blK(Q:Bool->Mu->Prop):DK:=fun d μ=>match d with
 | .bl b=>Q b μ
 | _=>False
def zza(Q:Int->Mu->Prop):DK:=fun d μ=>match d with
 | .int b=>Q b μ
 | _=>False
def chK(q':DR2)(e:D)(wc:DE)(ρ:zag)(Q:DK):DK:=fun z μ3=>match z with
 | .bl k=>if k=true then wc ρ μ3 fun f μ4=>q' e f μ4 Q else Q (.bl false) μ3
 | _=>False
def cellK(c:Option Ct)(Q:List D->Prop):Prop:=match c with
 | some (.lst ds)=>Q ds
 | _=>False
def zbe{α:Type}(o:Option α)(Q:α->Prop):Prop:=match o with
 | some a=>Q a
 | none=>False
def zsA{α β:Type}(o:Option α)(f:α->β):Option β:=match o with
 | some a=>some (f a)
 | none=>none
theorem zqk{α β:Type}{a:α}{f:α->β}:zsA (some a) f=some (f a):=rfl
def zp5(c:Option Ct)(Q:DK)(μ:Mu):Prop:=match c with
 | some (.lst ds)=>Q (.lst ds) μ
 | some (.dct ks vs)=>Q (.dct ks vs) μ
 | some (.dtt ks vs)=>Q (.dtt ks vs) μ
 | some (.ins C ns vs)=>Q (.obj C ns vs) μ
 | _=>False
def tyC(T:String)(c:Option Ct):Prop:=match c with
 | some (.lst _)=>"list"=T
 | some (.dct _ _)=>"dict"=T
 | some (.dtt _ _)=>"dict"=T
 | _=>False
section
variable{μ μ':Mu}{Q:DK}{ρ:zag}{w wa wb wc:DE}{k:Nat}{d e:D}{ds es:List D}{i j:Int}{q q':DR2}{α:Type}{D':zba}
theorem zxK{b:Bool}{R:Bool->Mu->Prop}:blK R (.bl b) μ=R b μ:=rfl
theorem zru{R:Int->Mu->Prop}:zza R (.int i) μ=R i μ:=rfl
theorem zxt{b:Bool}:chK q' e wc ρ Q (.bl b) μ=if b=true then wc ρ μ fun f μ4=>q' e f μ4 Q else Q (.bl false) μ:=rfl
theorem zqe{R:List D->Prop}:cellK (some (.lst ds)) R=R ds:=rfl
theorem zhL{a:α}{R:α->Prop}:zbe (some a) R=R a:=rfl
theorem zrv:zp5 (some (.lst ds)) Q μ=Q (.lst ds) μ:=rfl
theorem zqH{ks:List Key}:zp5 (some (.dct ks ds)) Q μ=Q (.dct ks ds) μ:=rfl
theorem zsr{ks:List (List Key)}:zp5 (some (.dtt ks ds)) Q μ=Q (.dtt ks ds) μ:=rfl
theorem zq8{C:Str}{ns:List Str}:zp5 (some (.ins C ns ds)) Q μ=Q (.obj C ns ds) μ:=rfl
theorem zt6:tyC "list" (some (.lst ds))=True:=eq_true rfl
theorem zxX{R:Bool->Mu->Prop}:zK w ρ μ R=w ρ μ (blK R):=rfl
theorem ztJ:zgn q q' wa wb wc ρ μ Q=wa ρ μ fun d μ1=>wb ρ μ1 fun e μ2=>q d e μ2 (chK q' e wc ρ Q):=rfl
theorem zwb{R:Option Int->Mu->Prop}:zb3 w ρ μ R=w ρ μ (zza fun i=>R (some i)):=rfl
theorem ztO{g:DG}{gs:DGs}{R:zag->Mu->Prop}:zfm g gs (d::ds) ρ μ R=g d ρ μ fun ρ' μ'=>gs ds ρ' μ' R:=rfl
theorem zwl{n:Nat}{gs:DGs}{R:zag->Mu->Prop}:zyu n gs (.tup ds) ρ μ R=(ds.length=n/\gs ds ρ μ R):=rfl
def zyI(i j:Nat)(D0:zba)(ρ:zag):List D->Mu->Prop:=fun ds μ1=>match ds with
 | [d,e]=>D0.nx ((ρ.set i (some d)).set j (some e)) μ1
 | _=>False
theorem zyC{i j:Nat}{wA:DA}:dPar i j wA D' ρ μ=wA ρ μ (zyI i j D' ρ):=rfl
theorem zsE{i j:Nat}:zyI i j D' ρ [d,e] μ=D'.nx ((ρ.set i (some d)).set j (some e)) μ:=rfl
theorem zyG:znr μ (.cell k) Q=zp5 (μ k) Q (zjS μ k):=by
 unfold znr zp5;cases h:μ k with
 | none=>simp[h]
 | some c=>cases c<;>simp[h]
theorem zzR{g:Int->Int->D}:dI0 g (.int i) (.int j) μ Q=Q (g i j) μ:=rfl
theorem e_i{C:Int->Int->Prop}{g:Int->Int->D}:dI C g (.int i) (.int j) μ Q=(C i j/\Q (g i j) μ):=rfl
theorem zyd:zj6 (.int i) μ Q=Q (.int (-i)) μ:=rfl
theorem zvy:zbX (.int i) (.int j) μ Q=Q (.int (i+j)) μ:=rfl
theorem zw7{a b:Str}:zbX (.str a) (.str b) μ Q=(a.length+b.length<=sizeLine/\Q (.str (a++b)) μ):=rfl
theorem zrq:zbX (.tup ds) (.tup es) μ Q=(ds≠[]/\ds.length+es.length<=sizeLine/\Q (.tup (ds++es)) μ):=rfl
theorem zv6:zbX (.lst ds) (.lst es) μ Q=(ds.length+es.length<=sizeLine/\Q (.lst (ds++es)) μ):=by
 show(∃a b,zaM μ (.lst ds)=some a/\zaM μ (.lst es)=some b/\a.length+b.length<=sizeLine/\Q (.lst (a++b)) μ)=_;simp only[zde,Option.some.injEq];refine propext ⟨fun⟨a,b,e1,e2,h⟩=>by subst e1 e2;exact h,fun h=>⟨_,_,rfl,rfl,h⟩⟩
theorem zzm(μ:Mu)(k:Nat)(R:List D->Prop):(∃a,zaM μ (.cell k)=some a/\R a)=cellK (μ k) R:=by
 unfold zaM cellK;cases h:μ k with
 | none=>simp[h]
 | some c=>cases c<;>simp[h]
theorem zup:zbX (.lst ds) (.cell k) μ Q=cellK (μ k) fun es=>ds.length+es.length<=sizeLine/\Q (.lst (ds++es)) μ:=by
 rw[<- zzm];show(∃a b,zaM μ (.lst ds)=some a/\zaM μ (.cell k)=some b/\a.length+b.length<=sizeLine/\Q (.lst (a++b)) μ)=_;refine propext ⟨fun⟨a,b,e1,e2,h⟩=>by cases e1;exact⟨_,e2,h⟩,fun⟨b,e2,h⟩=>⟨_,_,rfl,e2,h⟩⟩
theorem zyq:zrf (.int i) (.int j) μ Q=(zj8 i j/\Q (.int (i*j)) μ):=rfl
theorem zxP:zyV (.int i) (.int j) μ Q=Q (.int (i+j)) μ:=rfl
theorem zvC:dIx (.tup ds) (.int i) μ Q=zbe (atI ds i) fun v=>Q v μ:=by
 rw[ztE];cases atI ds i<;>rfl
theorem zvE:dIx (.lst ds) (.int i) μ Q=zbe (atI ds i) fun v=>Q v μ:=by
 rw[zvf];cases atI ds i<;>rfl
theorem zzj:dIx (.cell k) (.int i) μ Q=cellK (μ k) fun ds=>zbe (atI ds i) fun v=>Q v μ:=by
 show(match zb2 μ (.cell k) with | some ds=>(match L2.atI ds i with | some v=>Q v μ | none=>False) | none=>False)=_;unfold cellK zb2 zaM zbe;cases h:μ k with
 | none=>simp[h]
 | some c =>
  cases c<;>simp[h]
  rename_i ds;cases atI ds i<;>simp
theorem zyg{z:Str}:dIx (.str z) (.int i) μ Q=(z.length<=sizeLine/\zbe (L2.atI z.cps.toList i) fun c=>Q (.str ⟨#[c]⟩) μ):=by
 show(z.length<=sizeLine/\(match L2.atI z.cps.toList i with | some c=>Q (.str ⟨#[c]⟩) μ | none=>False))=_;cases L2.atI z.cps.toList i<;>rfl
theorem ze0{lo hi:Option Int}:zb0 (.tup ds) lo hi μ Q=(¬ (HT.sIx ds.length 0 lo=0/\HT.sIx ds.length ds.length hi=ds.length)/\Q (.tup (cutD ds lo hi)) μ):=rfl
theorem zyy{lo hi:Option Int}:zb0 (.lst ds) lo hi μ Q=Q (.lst (cutD ds lo hi)) μ:=rfl
theorem zxE{z:Str}:zdz [.str z] μ Q=(z.length<=sizeLine/\Q (.int z.length) μ):=rfl
theorem zwQ:zdz [.lst ds] μ Q=Q (.int ds.length) μ:=rfl
theorem zxe:zdz [.tup ds] μ Q=Q (.int ds.length) μ:=rfl
theorem zwt:zdz [.cell k] μ Q=cellK (μ k) fun ds=>Q (.int ds.length) μ:=by
 show(match zb2 μ (.cell k) with | some es=>Q (.int es.length) μ | none=>False)=_;unfold cellK zb2 zaM;cases h:μ k with
 | none=>simp[h]
 | some c=>cases c<;>simp[h]
theorem zvm:zmi [.lst ds] μ Q=Q (.lst ds) μ:=rfl
theorem zuH:zmi [.tup ds] μ Q=Q (.lst ds) μ:=rfl
theorem zrJ:zs3 [.lst ds] μ Q=∀k,μ k=none->Q (.cell k) (zV μ k (.lst ds)):=rfl
theorem ztm:zs3 [.tup ds] μ Q=∀k,μ k=none->Q (.cell k) (zV μ k (.lst ds)):=rfl
theorem znb:za8 [.lst ds] μ Q=Q (.tup ds) μ:=rfl
theorem zsl:za8 [.tup ds] μ Q=Q (.tup ds) μ:=rfl
theorem zsH:za8 [.cell k] μ Q=cellK (μ k) fun ds=>Q (.tup ds) μ:=by
 show(match zb2 μ (.cell k) with | some es=>Q (.tup es) μ | none=>False)=_;unfold cellK zb2 zaM;cases h:μ k with
 | none=>simp[h]
 | some c=>cases c<;>simp[h]
theorem zyo:zzE [.int i] μ Q=Q (.int (if i < 0 then -i else i)) μ:=rfl
theorem zxH:zqt [.int i, .int j] μ Q=Q (.int (if j > i then j else i)) μ:=rfl
theorem zwm:znC [.int i, .int j] μ Q=Q (.int (if j < i then j else i)) μ:=rfl
theorem zxr:zqt [.lst ds] μ Q=zbe (intsOf ds) fun ns=>ns≠[]/\∀M∈ns,(∀a∈ns,a<=M)->Q (.int M) μ:=by
 unfold zqt zbe;simp only[zde,Option.bind_some];cases intsOf ds<;>rfl
theorem zx0:znC [.lst ds] μ Q=zbe (intsOf ds) fun ns=>ns≠[]/\∀M∈ns,(∀a∈ns,M<=a)->Q (.int M) μ:=by
 unfold znC zbe;simp only[zde,Option.bind_some];cases intsOf ds<;>rfl
theorem zwA:zyN [.lst ds] μ Q=zbe (intsOf ds) fun ns=>Q (.int ns.sum) μ:=by
 unfold zyN zbe;simp only[zde,Option.bind_some];cases intsOf ds<;>rfl
theorem zwE:zsQ [.lst ds] μ Q=zbe (zcl ds) fun ns=>Q (.bl (ns.all id)) μ:=by
 unfold zsQ zbe;simp only[zde,Option.bind_some];cases zcl ds<;>rfl
theorem zxu:zyZ [.lst ds] μ Q=zbe (zcl ds) fun ns=>Q (.bl (ns.any id)) μ:=by
 unfold zyZ zbe;simp only[zde,Option.bind_some];cases zcl ds<;>rfl
theorem zoi:intsOf []=some []:=rfl
theorem zmS:intsOf (.int i::ds)=zsA (intsOf ds) (fun l=>i::l):=by
 unfold zsA;simp only[intsOf];cases intsOf ds<;>rfl
theorem zqy:zcl []=some []:=rfl
theorem znV{b:Bool}:zcl (.bl b::ds)=zsA (zcl ds) (fun l=>b::l):=by
 unfold zsA;simp only[zcl];cases zcl ds<;>rfl
theorem zv4{R:List D->(Mu->Prop)->Prop}:zmt μ (.lst ds) R=R ds fun _=>True:=rfl
theorem zyc{R:List D->(Mu->Prop)->Prop}:zmt μ (.tup ds) R=R ds fun _=>True:=rfl
theorem zwK{R:List D->(Mu->Prop)->Prop}:zmt μ (.cell k) R=cellK (μ k) fun ds=>R ds fun μ'=>μ' k=some (.lst ds):=by
 first
  | (unfold zmt cellK
     cases h:μ k with
     | none=>simp[h]
     | some c=>cases c<;>simp[h])
  | (unfold lsM cellK
     cases h:μ k with
     | none=>simp[h]
     | some c=>cases c<;>simp[h])
theorem zyK{R:List D->(Mu->Prop)->Prop}:lsM μ (.lst ds) R=R ds fun _=>True:=rfl
def zvQ(R:List D->(Mu->Prop)->Mu->Prop):List D->Mu->Prop:=fun ds μ1=>match ds with
 | [.int j]=> -(2^62)<=j/\j < 2^62/\R ((zca 0 j.toNat).map D.int) (fun _=>True) μ1
 | _=>False
def zvp(R:List D->(Mu->Prop)->Mu->Prop):List D->Mu->Prop:=fun ds μ1=>match ds with
 | [.int i, .int j]=>(-(2^62)<=i/\i < 2^62/\ -(2^62)<=j/\j < 2^62)/\R ((zca i (j - i).toNat).map D.int) (fun _=>True) μ1
 | _=>False
theorem zxd{wA:DA}{R:List D->(Mu->Prop)->Mu->Prop}:zec wA ρ μ R=wA ρ μ (zvQ R):=rfl
theorem zuR{R:List D->(Mu->Prop)->Mu->Prop}:zvQ R [.int j] μ=(-(2^62)<=j/\j < 2^62/\R ((zca 0 j.toNat).map D.int) (fun _=>True) μ):=rfl
theorem zw4{wA:DA}{R:List D->(Mu->Prop)->Mu->Prop}:zvW wA ρ μ R=wA ρ μ (zvp R):=rfl
theorem ztT{R:List D->(Mu->Prop)->Mu->Prop}:zvp R [.int i, .int j] μ=((-(2^62)<=i/\i < 2^62/\ -(2^62)<=j/\j < 2^62)/\R ((zca i (j - i).toNat).map D.int) (fun _=>True) μ):=rfl
def zy6(R:List D->(Mu->Prop)->Mu->Prop):List D->Mu->Prop:=fun es μ1=>match es with
 | [d,e]=>lsM μ1 d fun ds P1=>lsM μ1 e fun es P2=>R ((ds.zip es).map pairD) (fun μ'=>P1 μ'/\P2 μ') μ1
 | _=>False
theorem zzb{wA:DA}{R:List D->(Mu->Prop)->Mu->Prop}:zzl wA ρ μ R=wA ρ μ (zy6 R):=rfl
theorem zxb{R:List D->(Mu->Prop)->Mu->Prop}:zy6 R [d,e] μ=lsM μ d fun ds P1=>lsM μ e fun es P2=>R ((ds.zip es).map pairD) (fun μ'=>P1 μ'/\P2 μ') μ:=rfl
theorem zv0{many:Int}:zaq [.cell k, .int many] μ Q=(μ k=some .draw/\0 < many/\many < 2^250/\∀v,0<=v->v < many->Q (.int v) μ):=rfl
theorem zt2{ns:List Int}:zgL [.scr ns] μ Q=∀k,μ k=none->Q (.cell k) (zV μ k .draw):=rfl
theorem zyX{T:String}:tyM T μ (.cell k)=tyC T (μ k):=by
 unfold tyM tyD tyC;cases h:μ k with
 | none=>simp[h]
 | some c=>cases c<;>simp[h]
theorem zyL:tyM "list" μ (.lst ds)=True:=eq_true rfl
theorem zy0{z:Str}:tyM "str" μ (.str z)=True:=eq_true rfl
theorem zuN{R:Nat->List D->Prop}:zdv μ (.cell k) R=cellK (μ k) (R k):=by
 unfold zdv cellK;cases h:μ k with
 | none=>simp[h]
 | some c=>cases c<;>simp[h]
theorem zte:zW d [e] μ Q=zdv μ d fun k ds=>ds.length < sizeLine/\Q .non (zV μ k (.lst (ds++[e]))):=rfl
theorem zxL:zvA d [] μ Q=zdv μ d fun k ds=>zbe ds[ds.length - 1]? fun y=>Q y (zV μ k (.lst ds.dropLast)):=by
 refine congrArg (zdv μ d) (funext fun k=>funext fun ds=>?_);cases ds[ds.length - 1]? <;> rfl
theorem zwv:zvA d [.int i] μ Q=zdv μ d fun k ds=> -(2^63)<=i/\i < 2^63/\zbe (ixN ds.length i) fun j=>zbe ds[j]? fun y=>Q y (zV μ k (.lst (ds.eraseIdx j))):=by
 refine congrArg (zdv μ d) (funext fun k=>funext fun ds=>?_);refine congrArg (And _) (congrArg (And _) ?_);unfold zbe;cases ixN ds.length i with
 | none=>rfl
 | some j =>
  generalize ds.eraseIdx j=ee
  simp only;cases ds[j]? <;> rfl
theorem ztF{R:Mu->Prop}:zxD d (.int i) e μ R=zdv μ d fun k ds=>zbe (ixN ds.length i) fun j=>R (zV μ k (.lst (ds.set j e))):=by
 refine congrArg (zdv μ d) (funext fun k=>funext fun ds=>?_);cases ixN ds.length i<;>rfl
theorem zzS:dIs d .non μ Q=Q (.bl (zfo d)) μ:=rfl
theorem zu2:zv1 d .non μ Q=Q (.bl (!zfo d)) μ:=rfl
theorem znW{x:Bool}:znD [(.bl x), .ty "int"] μ Q=Q (.bl true) μ:=by show("int"∈zan/\Q (.bl (zfC "bool" "int")) μ)=_;rw[show("int"∈zan)=True from eq_true (by decide),true_and];rfl
theorem znt{x:Bool}:znD [(.bl x), .ty "bool"] μ Q=Q (.bl true) μ:=by show("bool"∈zan/\Q (.bl (zfC "bool" "bool")) μ)=_;rw[show("bool"∈zan)=True from eq_true (by decide),true_and];rfl
theorem zmZ{x:Int}:znD [(.int x), .ty "int"] μ Q=Q (.bl true) μ:=by show("int"∈zan/\Q (.bl (zfC "int" "int")) μ)=_;rw[show("int"∈zan)=True from eq_true (by decide),true_and];rfl
theorem zla{x:Int}:znD [(.int x), .ty "bool"] μ Q=Q (.bl false) μ:=by show("bool"∈zan/\Q (.bl (zfC "int" "bool")) μ)=_;rw[show("bool"∈zan)=True from eq_true (by decide),true_and];rfl
end
def zvw(ds:List D):List D:=((List.range ds.length).zip ds).map fun p=> .tup [.int p.1,p.2]
def zvM(R:List D->(Mu->Prop)->Mu->Prop):List D->Mu->Prop:=fun es μ1=>match es with
 | [d]=>lsM μ1 d fun ds P1=>R (zvw ds) P1 μ1
 | _=>False
def zwH(w:DA):DI:=fun ρ μ Q=>w ρ μ (zvM Q)
theorem zuT{d:D}{μ:Mu}{R:List D->(Mu->Prop)->Mu->Prop}:zvM R [d] μ=lsM μ d fun ds P1=>R (zvw ds) P1 μ:=rfl
section
variable{X:Cx}(K:Frag)
def zy4:List V->Hp->VK->Prop:=fun xs H Q=>∃a ys c b,xs=[.ref a,c]/\SqT K H a ys/\(∀u,RelV c u->kitOne K (.type "tuple") u=some b)/\Q (.bl b) H
def zzv:List V->Hp->VK->Prop:=fun xs H Q=>ztZ K xs H Q\/zy4 K xs H Q
theorem zpS(h:X.K=K:=by rfl):zaf X (.builtin "isinstance") (zy4 K):=by
 subst h;intro pins s σ H xs us Q I r h;obtain⟨a,ys,c,b,rfl,hq,hk,q⟩:=h;obtain⟨u,w,rfl,ra,rc⟩:=vals2 r;cases ra;obtain⟨its,rv,p,hz⟩:=I.tuple hq;obtain⟨o,h1,h2,_⟩:=p;exact kia_one PySem.W.kitx_tuple I.kIn ⟨o,h1,h2⟩ (hk w rc) (fun z=>nomatch z) fun tk=>⟨.bl b,H,I.tok _,rfl,q⟩
theorem ziJ(h:X.K=K:=by rfl):zaf X (.builtin "isinstance") (zzv K):=(zkW K h).or (zpS K h)
end
def zgq:DRs:=fun ds μ Q=>match ds with
 | [.tup _, .ty T]=>T∈zan/\Q (.bl (zfC "tuple" T)) μ
 | ds=>znD ds μ Q
theorem zuJ{K:Frag}{T:String}(h':T∈zan):kitOne K (.type "tuple") (.type T)=some (zfC "tuple" T):=by
 simp only[zan,List.mem_cons,List.not_mem_nil,or_false] at h';rcases h' with rfl | rfl | rfl | rfl | rfl | rfl<;>rfl
instance{K:Frag}{fl:Wd}:zcX K fl (zzv K) zgq:=⟨fun{W μ H ds xs Q Q'} r z h k=>by
 unfold zgq at h;split at h
 .rename_i es T;obtain⟨x,y,rfl,q1,q2⟩:=z.two;obtain⟨a,ys,rfl,hs,_⟩:=q1.tup';unfold Rep at q2;subst q2;exact .inr ⟨a,ys, .ty T,zfC "tuple" T,rfl,hs.sm r.sub,fun u hu=>by cases hu;exact zuJ h.1,k _ _ _ _ _ (.refl _) r .b h.2⟩
 .exact .inl (zcX.run (K:=K) r z h k)⟩
inductive Src where
 | p (i:Nat) | k (i:Nat) | c (i:Nat)
def pick{α:Type}(d:α)(cs us ws:List α):Src->α
 | .p i=>us.getD i d
 | .k i=>ws.getD i d
 | .c i=>cs.getD i d
def sel{α:Type}(n m:Nat)(pat:List Src)(d:α)(cs us ws:List α):List α:=bif (us.length==n&&ws.length==m) then pat.map (pick d cs us ws) else[]
theorem Vals.getD{vs:List V}{us:List Value}(h:Vals vs us)(i:Nat):RelV (vs.getD i .non) (us.getD i .none):=by
 rw[List.getD_eq_getElem?_getD,List.getD_eq_getElem?_getD];cases e:vs[i]? with
 | none =>
  have:us[i]? = none:=by
   rw[List.getElem?_eq_none_iff] at e ⊢;rw[<- h.length];exact e
  rw[this];rfl
 | some v =>
  obtain⟨u,hu,rv⟩:=h.get e;rw[hu];exact rv
theorem Vals.mapS{f:Src->V}{g:Src->Value}(h:∀x,RelV (f x) (g x)):∀pat:List Src,Vals (pat.map f) (pat.map g)
 | []=> .nil
 | x::r=> .cons (h x) (Vals.mapS h r)
theorem zrr{n m:Nat}{pat:List Src}{csV vs zs:List V}{csU us ws:List Value}(hc:Vals csV csU)(h1:Vals vs us)(h2:Vals zs ws):Vals (sel n m pat .non csV vs zs) (sel n m pat .none csU us ws):=by
 unfold sel;rw[h1.length,h2.length];cases (us.length==n&&ws.length==m) with
 | false=>exact .nil
 | true =>
  refine Vals.mapS (fun x=>?_) pat;cases x with
  | p i=>exact h1.getD i
  | k i=>exact h2.getD i
  | c i=>exact hc.getD i
section
variable{K:Frag}{fl:Wd}{W:Wd}
theorem zE.getD{ds:List D}{xs:List V}(h:zE K W ds xs)(i:Nat):Rep K W (ds.getD i .non) (xs.getD i .non):=by
 rw[List.getD_eq_getElem?_getD,List.getD_eq_getElem?_getD];cases e:ds[i]? with
 | none =>
  have:xs[i]? = none:=by
   rw[List.getElem?_eq_none_iff] at e ⊢;rw[h.length];exact e
  rw[this];exact .n
 | some v =>
  obtain⟨u,hu,rv⟩:=h.get e;rw[hu];exact rv
theorem zE.mapS{f:Src->D}{g:Src->V}(h:∀x,Rep K W (f x) (g x)):∀pat:List Src,zE K W (pat.map f) (pat.map g)
 | []=> .nil
 | x::r=> .cons (h x) (zE.mapS h r)
theorem zgY{n m:Nat}{pat:List Src}{csV vs zs:List V}{csD ds es:List D}(hc:zE K W csD csV)(h1:zE K W ds vs)(h2:zE K W es zs):zE K W (sel n m pat .non csD ds es) (sel n m pat .non csV vs zs):=by
 unfold sel;rw[h1.length,h2.length];cases (ds.length==n&&es.length==m) with
 | false=>exact .nil
 | true =>
  refine zE.mapS (fun x=>?_) pat;cases x with
  | p i=>exact h1.getD i
  | k i=>exact h2.getD i
  | c i=>exact hc.getD i
end
theorem zxj{K:Frag}{fd:FuncData}{ps ks:List Str}{n m:Nat}{pat:List Src}{csV:List V}{csU:List Value}(hc:Vals csV csU)(hp:ps.length≠0)
  (h:∀(S:Setting) (us ws:List Value),us.length=n->ws.length=m->PySem.W.peek K S (bindArgs fd ⟨us,ks.zip ws⟩)=some (ps.zip (sel n m pat .none csU us ws))):zdj K fd ps ks (sel n m pat .none csU) (sel n m pat .non csV) where
 to:=fun s us ws hK hl=>by
  by_cases c:us.length=n/\ws.length=m
  .exact PySem.W.kp_binds hK fun S=>h S us ws c.1 c.2
  .have:(us.length==n&&ws.length==m)=false:=by
    rw[Bool.and_eq_false_iff];by_cases c1:us.length=n
    .exact .inr (by rw[beq_eq_false_iff_ne];exact fun z=>c ⟨c1,z⟩)
    .exact .inl (by rw[beq_eq_false_iff_ne];exact c1)
   unfold sel at hl;rw[this] at hl;exact absurd hl.symm hp
 rel:=fun r rz=>zrr hc r rz
class zot(K:Frag)(ds:List D)(xs:List V):Prop where
 run:∀W,zE K W ds xs
instance{K:Frag}:zot K [] []:=⟨fun _=> .nil⟩
instance{K:Frag}{i:Int}{ds:List D}{xs:List V}[a:zot K ds xs]:zot K (.int i::ds) (.int i::xs):=⟨fun W=> .cons .i (a.run W)⟩
def zxc(dsp:DSp)(n m:Nat)(pat:List Src)(cs:List D)(w wk:DA):DE:=fun ρ μ Q=>w ρ μ fun ds μ1=>wk ρ μ1 fun es μ2=>dsp (sel n m pat .non cs ds es) μ2 Q
theorem zfZ:∀{us:List Value} {ns:List Str},StrsAre us ns->Vals (ns.map V.str) us
 | _,_, .nil=> .nil
 | _,_, .cons n t h=> .cons ⟨t,rfl⟩ (zfZ h)
theorem zi2:∀{us:List Value} {ns:List Int},IntsAre us ns->Vals (ns.map V.int) us
 | _,_, .nil=> .nil
 | _,_, .cons n t h=> .cons ⟨t,rfl⟩ (zi2 h)
theorem zf9:∀{ns:List Str} {us:List Value},Vals (ns.map V.str) us->StrsAre us ns
 | [],_,h=>by cases h;exact .nil
 | y::r,_,h=>by
  cases h with
  | cons a b=>obtain⟨t,rfl⟩:=a;exact .cons y t (zf9 b)
section
variable{X:Cx}(K:Frag)
def zqV:List V->Hp->VK->Prop:=fun xs H Q=>∃p ns,xs=[.ref p]/\SqL K H p (ns.map V.int)/\ns.length < 64/\∀ns' l,List.Perm ns' ns->List.Pairwise (·<= ·) ns'->H l=none->Q (.ref l) (upd H l (.lst (ns'.map V.int)))
def zsx:List V->Hp->VK->Prop:=fun xs H Q=>∃p ns,xs=[.ref p]/\SqL K H p (ns.map V.str)/\ns.length < 64/\∀ns' l,List.Perm ns' ns->sortedS ns'=true->H l=none->Q (.ref l) (upd H l (.lst (ns'.map V.str)))
theorem znU(h:X.K=K:=by rfl):zaf X (.builtin "sorted") (zqV K):=by
 subst h;intro pins s σ H xs us Q I r h;obtain⟨p,ns,rfl,hl,hz,q⟩:=h;obtain⟨u,rfl,rx⟩:=vals1 r;cases rx;obtain⟨its,r',pl,hz'⟩:=I.list hl;have hi:=zeo r';refine sorted_ints pl.isList hi (by rw[<- r'.length,List.length_map];exact hz) fun out ns' h1 h2 h3=>?_
 obtain⟨e,he⟩:=sortedAll_at s.heap its out;have hf:H (s.heap.objs.size+1)=none:=I.hok.fresh (Nat.le_succ _);refine⟨.ref (s.heap.objs.size+1),_,I.laid (a:=s.heap.objs.size+1) (o:= .lst (ns'.map V.int)) (t':=s.toks) (fun b o e=>sortedAll_old e) (Nat.le_succ _) ?_,rfl,q ns' _ h2 h3 hf⟩;refine⟨by rw[List.length_map,h2.length_eq];exact Nat.le_trans (Nat.le_of_lt hz) (by decide),out.toList,e,zi2 h1,?_⟩;rw[he]
theorem zn1(h:X.K=K:=by rfl):zaf X (.builtin "sorted") (zsx K):=by
 subst h;intro pins s σ H xs us Q I r h;obtain⟨p,ns,rfl,hl,hz,q⟩:=h;obtain⟨u,rfl,rx⟩:=vals1 r;cases rx;obtain⟨its,r',pl,hz'⟩:=I.list hl;have hi:=zf9 r';refine sorted_strs pl.isList hi (by rw[<- r'.length,List.length_map];exact hz) fun out ns' h1 h2 h3=>?_
 obtain⟨e,he⟩:=sortedAll_at s.heap its out;have hf:H (s.heap.objs.size+1)=none:=I.hok.fresh (Nat.le_succ _);refine⟨.ref (s.heap.objs.size+1),_,I.laid (a:=s.heap.objs.size+1) (o:= .lst (ns'.map V.str)) (t':=s.toks) (fun b o e=>sortedAll_old e) (Nat.le_succ _) ?_,rfl,q ns' _ h2 h3 hf⟩;refine⟨by rw[List.length_map,h2.length_eq];exact Nat.le_trans (Nat.le_of_lt hz) (by decide),out.toList,e,zfZ h1,?_⟩;rw[he]
def zle:List V->Hp->VK->Prop:=fun xs H Q=>zqV K xs H Q\/zsx K xs H Q
theorem zlT(h:X.K=K:=by rfl):zaf X (.builtin "sorted") (zle K):=(znU K h).or (zn1 K h)
end
def ziA:DRs:=fun ds μ Q=>match ds with
 | [d]=>(∃ns,zaM μ d=some (ns.map D.int)/\ns.length < 64/\∀ns',List.Perm ns' ns->List.Pairwise (·<= ·) ns'->Q (.lst (ns'.map D.int)) μ) \/
   (∃ns,zaM μ d=some (ns.map D.str)/\ns.length < 64/\∀ns',List.Perm ns' ns->sortedS ns'=true->Q (.lst (ns'.map D.str)) μ)
 | _=>False
instance{K:Frag}{fl:Wd}:zcX K fl (zle K) ziA:=⟨fun{W μ H ds xs Q Q'} r z h k=>by
 unfold ziA at h;split at h
 .obtain⟨x,rfl,q⟩:=z.one;rcases h with⟨ns,hl,hz,h⟩ | ⟨ns,hl,hz,h⟩
  .obtain⟨a,xs,rfl,e1,z1⟩:=zbg r q hl;rw[z1.ints] at e1;refine .inl ⟨a,ns,rfl,SqL.of e1,hz,fun ns' l h1 h2 hl=>?_⟩;obtain⟨r2,le2⟩:=r.newF (o:= .lst (ns'.map V.int)) hl;exact k _ _ _ _ _ le2 r2 (.lst zH (.of_ints ns')) (h ns' h1 h2)
  .obtain⟨a,xs,rfl,e1,z1⟩:=zbg r q hl;rw[z1.strs] at e1;refine .inr ⟨a,ns,rfl,SqL.of e1,hz,fun ns' l h1 h2 hl=>?_⟩;obtain⟨r2,le2⟩:=r.newF (o:= .lst (ns'.map V.str)) hl;exact k _ _ _ _ _ le2 r2 (.lst zH (.of_strs ns')) (h ns' h1 h2)
 .exact h.elim⟩
theorem zp7:zfo .non=true:=rfl
theorem zqA{i:Int}:zfo (.int i)=false:=rfl
theorem zpw{i:Str}:zfo (.str i)=false:=rfl
theorem zq0{i:Bool}:zfo (.bl i)=false:=rfl
theorem zpx{i:List D}:zfo (.lst i)=false:=rfl
theorem zpM{i:List D}:zfo (.tup i)=false:=rfl
theorem zob{i:Nat}:zfo (.cell i)=false:=rfl
section
variable{μ:Mu}{Q:DK}
theorem zoh{x:Bool}:zgq [(.bl x), .ty "int"] μ Q=Q (.bl true) μ:=znW (x:=x)
theorem zmN{x:Bool}:zgq [(.bl x), .ty "bool"] μ Q=Q (.bl true) μ:=znt (x:=x)
theorem zmr{x:Int}:zgq [(.int x), .ty "int"] μ Q=Q (.bl true) μ:=zmZ (x:=x)
theorem zli{x:Int}:zgq [(.int x), .ty "bool"] μ Q=Q (.bl false) μ:=zla (x:=x)
theorem zmE{x:List D}:zgq [.tup x, .ty "int"] μ Q=Q (.bl false) μ:=by show("int"∈zan/\Q (.bl (zfC "tuple" "int")) μ)=_;rw[show("int"∈zan)=True from eq_true (by decide),true_and];rfl
theorem zlf{x:List D}:zgq [.tup x, .ty "bool"] μ Q=Q (.bl false) μ:=by show("bool"∈zan/\Q (.bl (zfC "tuple" "bool")) μ)=_;rw[show("bool"∈zan)=True from eq_true (by decide),true_and];rfl
theorem zmo{x:List D}:zgq [.tup x, .ty "str"] μ Q=Q (.bl false) μ:=by show("str"∈zan/\Q (.bl (zfC "tuple" "str")) μ)=_;rw[show("str"∈zan)=True from eq_true (by decide),true_and];rfl
theorem zlP{x:List D}:zgq [.tup x, .ty "list"] μ Q=Q (.bl false) μ:=by show("list"∈zan/\Q (.bl (zfC "tuple" "list")) μ)=_;rw[show("list"∈zan)=True from eq_true (by decide),true_and];rfl
theorem zkb{x:List D}:zgq [.tup x, .ty "tuple"] μ Q=Q (.bl true) μ:=by show("tuple"∈zan/\Q (.bl (zfC "tuple" "tuple")) μ)=_;rw[show("tuple"∈zan)=True from eq_true (by decide),true_and];rfl
theorem zlD{x:List D}:zgq [.tup x, .ty "dict"] μ Q=Q (.bl false) μ:=by show("dict"∈zan/\Q (.bl (zfC "tuple" "dict")) μ)=_;rw[show("dict"∈zan)=True from eq_true (by decide),true_and];rfl
end
theorem stp{s u:DS}{D':zba}{ρ:zag}{μ:Mu}(h:∀N:zag->Mu->Prop,(∀ ρ' μ',u D' ρ' μ'->N ρ' μ')->s { D' with nx:=N } ρ μ):zF s u D' ρ μ:=h _ fun _ _ z=>z
section
variable{Pm:Mu->Prop}{g:DG}{we:DE}{ρb:zag}{Fin:List D->Mu->Prop}{d:D}{r ys:List D}{μ:Mu}
end
abbrev Tab:=List (Str×List Str)
def ziV(tab:Tab)(c f:Str):Bool:=tab.any fun p=>p.1==c&&p.2.contains f
class TabOk(K:Frag)(tab:Tab):Prop where
 run:∀c f C,ziV tab c f=true->clsOf K c=some C->Cls K C/\zcn K C f
def zsB(tab:Tab)(f c:Str)(ns:List Str)(vs:List D)(R:D->Prop):Prop:=ziV tab c f=true/\zbe ((ns.zip vs).lookup f) R
def zlK(c:Option Ct)(R:Str->List Str->List D->Prop):Prop:=match c with
 | some (.ins c ns vs)=>R c ns vs
 | _=>False
def ziq(μ:Mu)(d:D)(R:Str->List Str->List D->Prop):Prop:=match d with
 | .obj c ns vs=>R c ns vs
 | .cell k=>zlK (μ k) R
 | _=>False
theorem zgo{c:Str}{ns:List Str}{vs:List D}{R:Str->List Str->List D->Prop}:zlK (some (.ins c ns vs)) R=R c ns vs:=rfl
theorem zqD{o:Option Ct}{R:Str->List Str->List D->Prop}(h:zlK o R):∃c ns vs,o=some (.ins c ns vs)/\R c ns vs:=by
 unfold zlK at h;split at h
 .exact⟨_,_,_,rfl,h⟩
 .exact h.elim
theorem zts{μ:Mu}{c:Str}{ns:List Str}{vs:List D}{R:Str->List Str->List D->Prop}:ziq μ (.obj c ns vs) R=R c ns vs:=rfl
theorem zfA{μ:Mu}{k:Nat}{R:Str->List Str->List D->Prop}:ziq μ (.cell k) R=zlK (μ k) R:=rfl
def zzu(tab:Tab)(f:Str)(Q:DK):DK:=fun d μ=>ziq μ d fun c ns vs=>zsB tab f c ns vs fun v=>Q v μ
def zct(tab:Tab)(w:DE)(f:Str):DE:=fun ρ μ Q=>w ρ μ (zzu tab f Q)
section
variable{K:Frag}{fl:Wd}{W:Wd}{μ:Mu}{H:Hp}
theorem zdZ{d:D}{x:V}{R:Str->List Str->List D->Prop}(r:Rel K fl W μ H)(q:Rep K W d x)(h:ziq μ d R):∃c C a dx ns vs xs,clsOf K c=some C/\x= .ref a/\H a=some (.ins C dx (ns.zip xs))/\ns.length=xs.length/\zE K W vs xs/\R c ns vs:=by
 unfold ziq at h;split at h
 .rename_i c ns vs;unfold Rep at q;obtain⟨C,a,dx,xs,hc,rfl,e,l,z⟩:=q;exact⟨c,C,a,dx,ns,vs,xs,hc,rfl,r.sub _ _ e,l,z,h⟩
 .rename_i k;obtain⟨a,rfl,hb⟩:=q.cell';unfold zlK at h;split at h
  .rename_i c ns vs hk;obtain⟨a',e1,e2,C,dx,xs,hc,e3,l3,q3⟩:=r.cel k _ hk;rw[hb] at e1;cases e1;exact⟨c,C,a,dx,ns,vs,xs,hc,rfl,e3,l3,q3,h⟩
  .exact h.elim
 .exact h.elim
theorem zE.lookup{f:Str}:∀{ns:List Str} {vs:List D} {xs:List V} {v:D},zE K W vs xs->(ns.zip vs).lookup f=some v->∃x,(ns.zip xs).lookup f=some x/\Rep K W v x
 | [],_,_,_,_,h=>by simp at h
 | _::_,[],_,_,_,h=>by simp at h
 | n::ns,d::vs,xs,v,r,h=>by
  obtain⟨x,xs,rfl,q,z⟩:=r.uncons;simp only[List.zip_cons_cons,List.lookup_cons] at h ⊢;cases e:(f==n) with
  | true=>rw[e] at h;cases h;exact⟨x,rfl,q⟩
  | false=>rw[e] at h;exact zE.lookup z h
theorem zE.lookup_none{f:Str}:∀{ns:List Str} {vs:List D} {xs:List V},zE K W vs xs->(ns.zip vs).lookup f=none->(ns.zip xs).lookup f=none
 | [],_,_,_,_=>by simp
 | _::_,[],_,r,_=>by rw[r.nil'];simp
 | n::ns,d::vs,xs,r,h=>by
  obtain⟨x,xs,rfl,q,z⟩:=r.uncons;simp only[List.zip_cons_cons,List.lookup_cons] at h ⊢;cases e:(f==n) with
  | true=>rw[e] at h;cases h
  | false=>rw[e] at h;exact zE.lookup_none z h
instance{tab:Tab}{ta:TE}{wa:DE}{f:Str}[t:TabOk K tab][a:zZ K fl ta wa]:zZ K fl (zus K ta f) (zct tab wa f):=⟨fun{W ρ μ σ H Q Q'} r e h k=>a.run r e h fun W1 d μ1 x H1 le1 r1 q1 h1=>by
 obtain⟨c,C,a,dx,ns,vs,xs,hc,rfl,ea,l,z,hi,hl⟩:=zdZ r1 q1 h1;unfold zbe at hl;split at hl
 .rename_i v hv;obtain⟨x,hx,q⟩:=z.lookup hv;obtain⟨c1,c2⟩:=t.run c f C hi hc;exact⟨a,C,dx,_,x,rfl,ea,c1,c2,hx,k _ _ _ _ _ le1 r1 q hl⟩
 .exact hl.elim⟩
end
def putN(f:Str):List Str->List Str
 | []=>[f]
 | g::r=>if g=f then g::r else g::putN f r
def putD(f:Str)(v:D):List Str->List D->List D
 | g::r,x::xs=>if g=f then v::xs else x::putD f v r xs
 | _,_=>[v]
def znx(tab:Tab)(f:Str)(v:D)(c:Str)(ns:List Str)(vs:List D)(R:List Str->List D->Prop):Prop:=ziV tab c f=true/\ns.length < 1000/\R (putN f ns) (putD f v ns vs)
def zpc(tab:Tab)(wo w:DE)(f:Str):DS:=fun D ρ μ=>w ρ μ fun v μ1=>wo ρ μ1 fun d μ2=>match d with
 | .cell k=>zlK (μ2 k) fun c ns vs=>znx tab f v c ns vs fun ns' vs'=>D.nx ρ (zV μ2 k (.ins c ns' vs'))
 | _=>False
def zzc(tab:Tab)(f:Str)(v:D)(D0:zba)(ρ:zag):DK:=fun d μ2=>match d with
 | .cell k=>zlK (μ2 k) fun c ns vs=>znx tab f v c ns vs fun ns' vs'=>D0.nx ρ (zV μ2 k (.ins c ns' vs'))
 | _=>False
theorem zxg{tab:Tab}{wo w:DE}{f:Str}{D0:zba}{ρ:zag}{μ:Mu}:zpc tab wo w f D0 ρ μ=w ρ μ fun v μ1=>wo ρ μ1 (zzc tab f v D0 ρ):=rfl
theorem zpC{tab:Tab}{f:Str}{v:D}{D0:zba}{ρ:zag}{k:Nat}{μ:Mu}:zzc tab f v D0 ρ (.cell k) μ=zlK (μ k) fun c ns vs=>znx tab f v c ns vs fun ns' vs'=>D0.nx ρ (zV μ k (.ins c ns' vs')):=rfl
section
variable{K:Frag}{fl:Wd}{W:Wd}
theorem zo4{f:Str}{y:V}:∀{ns:List Str} {xs:List V},ns.length=xs.length->∃xs',zek f y (ns.zip xs)=(putN f ns).zip xs'/\(putN f ns).length=xs'.length/\∀{vs:List D} {v:D},zE K W vs xs->Rep K W v y->zE K W (putD f v ns vs) xs'
 | [],[],_=>⟨[y],rfl,rfl,fun{vs v} r q=>by
   cases vs with
   | nil=>exact .cons q .nil
   | cons d vs=>obtain⟨x,r',e,_⟩:=r.uncons;cases e⟩
 | [],_::_,h=>by simp at h
 | _::_,[],h=>by simp at h
 | n::ns,x::xs,h=>by
  obtain⟨xs',e1,e2,e3⟩:=zo4 (f:=f) (y:=y) (ns:=ns) (xs:=xs) (by simpa using h);by_cases hn:n=f
  .refine⟨y::xs,?_,?_,fun{vs v} r q=>?_⟩
   .simp[zek,putN,hn]
   .simp only[putN,if_pos hn];simpa using h
   .cases vs with
    | nil=>have:=r.nil';cases this
    | cons d vs =>
     obtain⟨x',r',e,q1,z⟩:=r.uncons;cases e;simp only[putD,if_pos hn];exact .cons q z
  .refine⟨x::xs',?_,?_,fun{vs v} r q=>?_⟩
   .simp only[List.zip_cons_cons,zek,putN,if_neg hn,e1]
   .simp only[putN,if_neg hn,List.length_cons,e2]
   .cases vs with
    | nil=>have:=r.nil';cases this
    | cons d vs =>
     obtain⟨x',r',e,q1,z⟩:=r.uncons;cases e;simp only[putD,if_neg hn];exact .cons q1 (e3 z q)
instance{tab:Tab}{ta tv:TE}{wa wv:DE}{f:Str}[t:TabOk K tab][a:zZ K fl ta wa][b:zZ K fl tv wv]:zcU K fl (zt0 K ta tv f) (zpc tab wa wv f):=⟨fun{W ρ μ σ H D' D} r e h k=>b.run r e h fun W1 v μ1 y H1 le1 r1 qv h1=>a.run r1 (e.mono le1) h1 fun W2 d μ2 x H2 le2 r2 q2 h2=>by
 cases d<;>first | exact h2.elim | skip
 rename_i kk;obtain⟨a,rfl,hb⟩:=q2.cell';obtain⟨c,ns,vs,hk,h2⟩:=zqD (o:=μ2 kk) h2;obtain⟨a',e1,e2,C,dx,xs,hc,e3,l3,q3⟩:=r2.cel kk _ hk;rw[hb] at e1;cases e1;obtain⟨hi,hz,h2⟩:=h2;obtain⟨c1,c2⟩:=t.run c f C hi hc;obtain⟨xs',p1,p2,p3⟩:=zo4 (K:=K) (W:=W2) (f:=f) (y:=y) l3;refine⟨a,C,dx,_,rfl,e3,c1,c2,by rw[List.length_zip,<- l3,Nat.min_self];exact hz,?_⟩;rw[p1];exact k.nx W2 ρ _ σ _ (le1.trans le2) (r2.setC (c':= .ins c (putN f ns) (putD f v ns vs)) hk hb ⟨C,dx,xs',hc,rfl,p2,p3 q3 (qv.mono le2)⟩) (e.mono (le1.trans le2)) h2⟩
end
structure zb8(P:Program)(w:World)(K:Frag)(mg:Str->Option Value)(base:Heap)(CX:CXT)(c m:Str)(k:Nat)(ps:List Str)(sp:Sp)(ks:List Str)(gV:List V->List V->List V):Prop where
 ex:∃C f fd g,clsOf K c=some C/\Cls K C/\Meth K C m f/\zac P w K mg base CX k f fd ps sp/\zdj K fd ps ks g gV
def znv(K:Frag)(c m:Str)(sp:Sp)(gV:List V->List V->List V)(E:XK)(ta:TE)(t tk:TA):TE:=fun σ H Q=>ta σ H fun x H1=>∃C a dx fs,clsOf K c=some C/\x= .ref a/\H1 a=some (.ins C dx fs)/\fs.lookup m=none /\
 t σ H1 fun vs H2=>tk σ H2 fun zs H3=>sp (gV (x::vs) zs) H3 Q E
section
variable{X:Cx}{CX:CXT}{j k:Nat}{ps ks:List Str}{sp:Sp}{E:XK}{c m:Str}{pos apos:Pos}{e o:Expr}{es:List Expr}{ta:TE}{t tk:TA}{kws:List Keyword}{gV:List V->List V->List V}
theorem zbq{pl:Sem Bool}(K:Frag)(hh:zb8 X.prog X.w X.K X.mg X.base CX c m j ps sp ks gV)(hr:zdA k X.A)(he:WE X o ta)(ha:WA X (e::es) t)(hkw:WK X kws tk)(hK:X.K=K:=by rfl)(hj:j<=k:=by decide)(hx:zcS CX X E:=by exact ziT)
  (hall:(backToKw pos (keywordEach kws X.env)).all (·.1.isSome)=true:=by rfl)(hks:(backToKw pos (keywordEach kws X.env)).filterMap (·.1)=ks:=by rfl)
  (hst:starEach (e::es) X.env=(false,eval e X.env)::starEach es X.env:=by rfl)
  (hpl:((backTo pos (starEach (e::es) X.env)).any (·.1)||(backToKw pos (keywordEach kws X.env)).any (·.1.isNone))=false:=by rfl)
  (ht:eval (.Call (.Attribute o m apos) (e::es) kws pos) X.env=(do
   let ov<-eval o X.env
   standAt apos.atName
   let (f,first)<-holding [ov] (getMethod ov m pl)
   callWith pos f first (backTo pos (starEach (e::es) X.env)) (backToKw pos (keywordEach kws X.env))):=by rfl) :
  WE X (.Call (.Attribute o m apos) (e::es) kws pos) (znv K c m sp gV E ta t tk):=⟨by
 subst hK;obtain⟨C0,f,fd,g,hc0,hcl,hm,F,hb⟩:=hh.ex;intro pins s σ H Q I h;refine methodCall_KW (pl:=pl) (thn (he.out pins s σ H _ I h) fun u s1 ⟨x,H1,I1,rx,C,a,dx,fs,hc,ex,ea,l,q⟩=>?_) ht;rw[hc0] at hc;cases hc;subst ex;obtain rfl:u=Value.ref a:=rx;refine zgd I1 ea hcl hm l ?_;refine callWith_KW (first:=[.ref a]) (h₀:=X.base) I.ok.mod.kin hm.kp hall (thn (ha.out pos pins s1 σ H1 _ I1 q) fun us s2 ⟨vs,H2,I2,r,q2⟩=>?_) hpl hst;refine thn (hkw.out pos pins s2 σ H2 _ I2 q2) fun ws s3 ⟨zs,H3,I3,rz,q3⟩=>⟨I3.kIn,?_⟩
 rw[hks];exact zo3 (us:= .ref a::us) (vs:= .ref a::vs) (F.mono hj) hr hb hx I3 (.cons rfl r) rz q3⟩
theorem zk3{pl:Sem Bool}(K:Frag)(hh:zb8 X.prog X.w X.K X.mg X.base CX c m j ps sp [] gV)(hr:zdA k X.A)(he:WE X o ta)(hK:X.K=K:=by rfl)(hj:j<=k:=by decide)(hx:zcS CX X E:=by exact ziT)
  (ht:eval (.Call (.Attribute o m apos) [] [] pos) X.env=(do
   let ov<-eval o X.env
   standAt apos.atName
   let (f,first)<-holding [ov] (getMethod ov m pl)
   callWith pos f first (backTo pos (starEach [] X.env)) (backToKw pos (keywordEach [] X.env))):=by rfl) :
  WE X (.Call (.Attribute o m apos) [] [] pos) (znv K c m sp gV E ta zga zga):=⟨by
 subst hK;obtain⟨C0,f,fd,g,hc0,hcl,hm,F,hb⟩:=hh.ex;intro pins s σ H Q I h;refine methodCall_KW (pl:=pl) (thn (he.out pins s σ H _ I h) fun u s1 ⟨x,H1,I1,rx,C,a,dx,fs,hc,ex,ea,l,q⟩=>?_) ht;rw[hc0] at hc;cases hc;subst ex;obtain rfl:u=Value.ref a:=rx;refine zgd I1 ea hcl hm l ?_;exact PySem.W.callWith_K0 (first:=[.ref a]) I1.kIn hm.kp (zo3 (us:=[.ref a]) (vs:=[.ref a]) (ws:=[]) (zs:=[]) (F.mono hj) hr hb hx I1 (.cons rfl .nil) .nil q)⟩
end
def zdx(c m:Str)(dsp:DSp)(n j:Nat)(pat:List Src)(cs:List D)(wo:DE)(w wk:DA):DE:=fun ρ μ Q=>wo ρ μ fun d μ1=>(ziq μ1 d fun c' ns vs=>c'=c/\(ns.zip vs).lookup m=none)/\w ρ μ1 fun ds μ2=>wk ρ μ2 fun es μ3=>dsp (sel n j pat .non cs (d::ds) es) μ3 Q
instance{K:Frag}{fl:Wd}{c m:Str}{dsp:DSp}{n j:Nat}{pat:List Src}{csD:List D}{csV:List V}{E:XK}{ta:TE}{wa:DE}{t tk:TA}{w wk:DA}[o:zZ K fl ta wa][a:zdp K fl t w][b:zdp K fl tk wk][cr:zot K csD csV]:zZ K fl (znv K c m (lift K dsp) (sel n j pat .non csV) E ta t tk) (zdx c m dsp n j pat csD wa w wk):=⟨fun{W ρ μ σ H Q Q'} r e h k =>
 o.run r e h fun W1 d μ1 x H1 le1 r1 q1 h1=>by
  obtain⟨c',C,p,dx,ns,vs,xs,hc,rfl,ea,l,z,rfl,hl⟩:=zdZ r1 q1 h1.1;refine⟨C,p,dx,_,hc,rfl,ea,z.lookup_none hl,a.run r1 (e.mono le1) h1.2 fun W2 ds μ2 xs H2 le2 r2 q2 h2=>b.run r2 (e.mono (le1.trans le2)) h2 fun W3 es μ3 ys H3 le3 r3 q3 h3=>?_⟩;exact⟨fl,W3,μ3,_,Q,r3,zgY (cr.run W3) (.cons (q1.mono (le2.trans le3)) (q2.mono le3)) q3,h3,fun W4 d4 μ4 x4 H4 le4=>k W4 d4 μ4 x4 H4 (le1.trans (le2.trans (le3.trans le4)))⟩⟩
structure zse(P:Program)(w:World)(K:Frag)(mg:Str->Option Value)(base:Heap)(CX:CXT)(c:Str)(k:Nat)(ps:List Str)(sp:Sp)(ks:List Str)(gV:List V->List V->List V):Prop where
 ex:∃C f fd g,clsOf K c=some C/\Mk K C f/\zac P w K mg base CX k f fd ps sp/\zdj K fd ps ks g gV/\mg c=some (.ref C)
def zsG(K:Frag)(c:Str)(sp:Sp)(gV:List V->List V->List V)(E:XK)(t tk:TA):TE:=fun σ H Q=>t σ H fun vs H1=>tk σ H1 fun zs H2=>∀C x dx,clsOf K c=some C->H2 x=none->H2 dx=none->dx≠x ->
 sp (gV (.ref x::vs) zs) (upd (upd H2 dx (.own x)) x (.ins C dx [])) (fun v H3=>v= .non/\Q (.ref x) H3) E
section
variable{X:Cx}{CX:CXT}{j k:Nat}{ps ks:List Str}{sp:Sp}{E:XK}{c:Str}{p pos:Pos}{e:Expr}{es:List Expr}{t tk:TA}{kws:List Keyword}{gV:List V->List V->List V}
theorem zqp(K:Frag)(h:zse X.prog X.w X.K X.mg X.base CX c j ps sp [] gV)(hr:zdA k X.A)(hK:X.K=K:=by rfl)(hj:j+1<=k:=by decide)(hg:Gl X c:=by rfl)(hx:zcS CX X E:=by exact ziT)
  (hdb:(c==("__debug__":Str))=false:=by decide):WE X (.Call (.Name c p) [] [] pos) (zsG K c sp gV E zga zga):=⟨by
 subst hK;obtain⟨C,f,fd,g,hc,M,F,b,m⟩:=h.ex;intro pins s σ H Q I h;refine wpAny_Call_Name_kw (zdH I hg m ?_ hdb);exact PySem.W.callWith_K0 I.kIn M.kp (zp6 (us:=[]) (vs:=[]) (ws:=[]) (zs:=[]) M F (hr.mono hj) b hx I .nil .nil fun x dx h1 h2 h3=>h C x dx hc h1 h2 h3)⟩
end
def zsk(c:Str)(dsp:DSp)(n j:Nat)(pat:List Src)(cs:List D)(w wk:DA):DE:=fun ρ μ Q=>w ρ μ fun ds μ1=>wk ρ μ1 fun es μ2=>∀k,μ2 k=none->dsp (sel n j pat .non cs (.cell k::ds) es) (zV μ2 k (.ins c [] [])) fun d μ3=>d= .non/\Q (.cell k) μ3
def zxR(c:Str)(dsp:DSp)(n j:Nat)(pat:List Src)(cs:List D)(w wk:DA):DE:=fun ρ μ Q=>w ρ μ fun ds μ1=>wk ρ μ1 fun es μ2=>∀k,μ2 k=none->dsp (sel n j pat .non cs (.cell k::ds) es) (zV μ2 k (.ins c [] [])) fun d μ3=>d= .non/\znr μ3 (.cell k) Q
section
variable{K:Frag}{fl:Wd}{c:Str}{dsp:DSp}{n j:Nat}{pat:List Src}{csD:List D}{csV:List V}{E:XK}{t tk:TA}{w wk:DA}
theorem zum{W:Wd}{μ:Mu}{H:Hp}{C x dx:Addr}(r:Rel K fl W μ H)(hc:clsOf K c=some C)(h1:H x=none)(h2:H dx=none)(h3:dx≠x):∃(k:Nat) (W':Wd),μ k=none/\W.le W'/\Rel K fl W' (zV μ k (.ins c [] [])) (upd (upd H dx (.own x)) x (.ins C dx []))/\W'.b k=some x:=by
 have r1:Rel K fl W μ (upd H dx (.own x)):=r.same (zfn h2);have hx:upd H dx (.own x) x=none:=by rw[zJ (Ne.symm h3)];exact h1
 exact r1.newC (o:= .ins C dx []) (c:= .ins c [] []) hx ⟨C,dx,[],hc,rfl,rfl, .nil⟩
instance[a:zdp K fl t w][b:zdp K fl tk wk][cr:zot K csD csV]:zZ K fl (zsG K c (lift K dsp) (sel n j pat .non csV) E t tk) (zsk c dsp n j pat csD w wk):=⟨fun{W ρ μ σ H Q Q'} r e h k =>
 a.run r e h fun W1 ds μ1 xs H1 le1 r1 q1 h1=>b.run r1 (e.mono le1) h1 fun W2 es μ2 ys H2 le2 r2 q2 h2 C x dx hc g1 g2 g3=>by
  obtain⟨kk,W3,hk,le3,r3,e3⟩:=zum r2 hc g1 g2 g3;refine⟨fl,W3,_,_,_,r3,zgY (cr.run W3) (.cons (by unfold Rep;exact⟨x,rfl,e3⟩) (q1.mono (le2.trans le3))) (q2.mono le3),h2 kk hk,fun W4 d4 μ4 x4 H4 le4 r4 q4 h4=>?_⟩;obtain⟨rfl,h4⟩:=h4;exact⟨q4.n',k W4 (.cell kk) μ4 _ H4 (le1.trans (le2.trans (le3.trans le4))) r4 (by unfold Rep;exact⟨x,rfl,le4.b _ _ e3⟩) h4⟩⟩
end
theorem zT{K:Frag}{c:Str}{C:Addr}(h:nsIn K mainGlobals c=some (some (.ref C))):clsOf K c=some C:=by unfold clsOf;rw[h]
theorem zpr{K:Frag}:TabOk K []:=⟨fun _ _ _ h=>by simp[ziV] at h⟩
theorem zom{K:Frag}{c:Str}{fs:List Str}{tab:Tab}{C:Addr}(hc:clsOf K c=some C)(cl:Cls K C)(hf:∀f∈fs,zcn K C f)(t:TabOk K tab):TabOk K ((c,fs)::tab):=⟨fun c' f C' hi h=>by
 simp only[ziV,List.any_cons,Bool.or_eq_true,Bool.and_eq_true] at hi;rcases hi with⟨h1,h2⟩ | h1
 .have e:=eq_of_beq h1;subst e;rw[hc] at h;cases h;exact⟨cl,hf f (List.contains_iff_mem.mp h2)⟩
 .exact t.run c' f C' h1 h⟩
def zq1(K:Frag):V->List V->Hp->VK->Prop:=fun x xs H Q=>∃sep p ys,x= .str sep/\xs=[.ref p]/\(SqL K H p (ys.map V.str)\/SqT K H p (ys.map V.str))/\sep.length<=16/\zg4 ys<=1048576/\Q (.str (Str.join sep ys)) H
theorem zsR{X:Cx}(K:Frag)(h:X.K=K:=by rfl):MtR X "str.join" (zq1 K):=zs7 K h
def ztf:DM:=fun d es μ Q=>match d,es with
 | .str sep,[e]=>∃ys,zb2 μ e=some (ys.map D.str)/\sep.length<=16/\zg4 ys<=1048576/\Q (.str (Str.join sep ys)) μ
 | _,_=>False
instance{K:Frag}{fl:Wd}:zrh K fl "str" (zq1 K) ztf:=⟨fun{W μ H d x ds xs Q Q'} r q z h k=>by
 unfold ztf at h;split at h
 .obtain⟨y,rfl,qy⟩:=z.one;obtain⟨ys,hl,h1,h2,h⟩:=h;obtain⟨a,vs,rfl,e1,z1⟩:=zdb r qy hl;rw[z1.strs] at e1;rw[q.s'];exact⟨_,a,ys,rfl,rfl,e1,h1,h2,k _ _ _ _ _ (.refl _) r .s h⟩
 .exact h.elim⟩
def zyO:R2:=fun x y H Q=>∃c n,x= .str ⟨#[c]⟩/\y= .int n/\0<=n/\n<=1000/\∀z:Str,z.cps.toList=List.replicate n.toNat c->Q (.str z) H
def zq6:R2:=fun x y H Q=>zoZ x y H Q\/zyO x y H Q
theorem ztr{X:Cx}:OpR X (binaryOp .Mult) zq6:=ztP.or zos
def zkS:DR2:=fun d e μ Q=>match d,e with
 | .str z, .int n=>∃c,z=⟨#[c]⟩/\0<=n/\n<=1000/\∀y:Str,y.cps.toList=List.replicate n.toNat c->Q (.str y) μ
 | d,e=>zrf d e μ Q
instance{K:Frag}{fl:Wd}:zbk K fl zq6 zkS:=⟨fun{W μ H d e x y Q Q'} r q1 q2 h k=>by
 unfold zkS at h;split at h
 .obtain⟨c,rfl,h1,h2,h⟩:=h;rw[q1.s',q2.i'];exact .inr ⟨c,_,rfl,rfl,h1,h2,fun z hz=>k _ _ _ _ _ (.refl _) r .s (h z hz)⟩
 .exact .inl (zbk.run (K:=K) (r:=zoZ) (q:=zrf) r q1 q2 h k)⟩
section
variable{μ:Mu}{Q:DK}{i j:Int}{ds:List D}
theorem zwI:zkS (.int i) (.int j) μ Q=(zj8 i j/\Q (.int (i*j)) μ):=rfl
theorem ztW{c:Nat}:zkS (.str ⟨#[c]⟩) (.int j) μ Q=(0<=j/\j<=1000/\∀y:Str,y.cps.toList=List.replicate j.toNat c->Q (.str y) μ):=by
 show(∃c',(⟨#[c]⟩:Str)=⟨#[c']⟩/\0<=j/\j<=1000/\∀y:Str,y.cps.toList=List.replicate j.toNat c'->Q (.str y) μ)=_;refine propext ⟨fun⟨c',e,h⟩=>?_,fun h=>⟨c,rfl,h⟩⟩;have:c=c':=by
  have:=congrArg (fun s:Str=>s.cps.toList) e;simpa using this
 subst this;exact h
end
theorem zdm{Pm:Mu->Prop}{g:DG}{ds:List D}{μ:Mu}{we:DE}{ρb:zag}{Fin:List D->Mu->Prop}{ys:List D}(I:Nat->List D->Mu->Prop)(h0:I 0 ys μ)
  (step:∀i d ys μ,ds[i]? = some d->I i ys μ->ys.length < sizeLine/\∀N:List D->Mu->Prop,(∀ys' μ',I (i+1) ys' μ'->N ys' μ')->g d ρb μ fun ρ2 μ2=>we ρ2 μ2 fun v μ4=>N (ys++[v]) μ4)
  (fin:∀ys μ,I ds.length ys μ->Fin ys μ)(hP:∀i ys μ,I i ys μ->Pm μ:=by exact fun _ _ _ _=>trivial):zbD g zhr we ρb Pm Fin ds ys μ :=
 zhl I h0 (fun i d ys μ hd hI=>⟨(step i d ys μ hd hI).1,fun N hN=>(step i d ys μ hd hI).2 N hN⟩) fin hP
theorem zc1{α:Type}{Pm:Mu->Prop}{g:DG}{μ:Mu}{wc:DT}{we:DE}{ρb:zag}{Fin:List D->Mu->Prop}(xs:List α)(f:α->D)(p:α->Bool)(f':α->D)(hl:xs.length<=sizeLine)
  (step:∀x∈xs,∀(Y:DK) (Z:Mu->Prop),(p x=true->Y (f' x) μ)->(p x=false->Z μ)->g (f x) ρb μ fun ρ2 μ2=>wc ρ2 μ2 fun b μ3=>if b=true then we ρ2 μ3 Y else Z μ3)
  (fin:Fin ((xs.filter p).map f') μ)(hP:Pm μ:=by exact trivial):zbD g wc we ρb Pm Fin (xs.map f) [] μ:=by
 refine zhl (fun i ys μ'=>μ'=μ/\ys=((xs.take i).filter p).map f') ⟨rfl,by simp⟩ (fun i d ys μ' hd hI=>?_) (fun ys μ' hI=>?_) (fun i ys μ' h=>h.1▸hP)
 .obtain⟨rfl,rfl⟩:=hI;rw[List.getElem?_map] at hd;cases hx:xs[i]? with
  | none=>rw[hx] at hd;cases hd
  | some x =>
   rw[hx] at hd;cases hd;have hi:=(List.getElem?_eq_some_iff.mp hx).1;refine⟨?_,fun N hN=>?_⟩
   .have:=List.length_filter_le p (xs.take i);rw[List.length_map];rw[List.length_take] at this;omega
   .refine step x (List.mem_of_getElem? hx) (fun v μ4=>N (((xs.take i).filter p).map f'++[v]) μ4) (fun μ3=>N (((xs.take i).filter p).map f') μ3) (fun hp=>hN _ _ ⟨rfl,?_⟩) (fun hp=>hN _ _ ⟨rfl,?_⟩)
    .rw[List.take_add_one,hx];simp[hp]
    .rw[List.take_add_one,hx];simp[hp]
 .obtain⟨rfl,rfl⟩:=hI;rw[List.length_map,List.take_length];exact fin
theorem zih:∀xs:List Str,ze9 (xs.map D.str)=some (xs.map V.str)
 | []=>rfl
 | x::r=>by rw[List.map_cons,ze9,zih r];rfl
theorem zl3{x:Str}{xs:List Str}{μ:Mu}{Q:DK}{neg:Bool}{e:D}(h:zb2 μ e=some (xs.map D.str)):zfD neg (.str x) e μ Q=Q (.bl (neg ^^ decide (x∈xs))) μ:=by
 have h2:zko (.str x)=some (.str x):=rfl;unfold zfD;simp only[h,h2,zih,zm4];cases neg<;>simp
theorem zdd{x:Str}{xs:List Str}{μ:Mu}{Q:DK}{neg:Bool}{k:Nat}(h:μ k=some (.lst (xs.map D.str))):zfD neg (.str x) (.cell k) μ Q=Q (.bl (neg ^^ decide (x∈xs))) μ:=zl3 (zov h)
theorem zk2{x:Str}{xs:List Str}{μ:Mu}{Q:DK}{neg:Bool}:zfD neg (.str x) (.lst (xs.map D.str)) μ Q=Q (.bl (neg ^^ decide (x∈xs))) μ:=zl3 rfl
theorem zqf{x:Str}{xs:List Str}{μ:Mu}{Q:DK}{neg:Bool}:zfD neg (.str x) (.tup (xs.map D.str)) μ Q=Q (.bl (neg ^^ decide (x∈xs))) μ:=zl3 rfl
def zyD:R2:=fun x y H Q=>∃i j,x= .str i/\y= .str j/\Q (.bl (!(Builtin.Str.occurrences j i 0 j.length 1).isEmpty)) H
theorem zuC{X:Cx}:OpR X (compareOp .In) zyD:=zp1
def zkx(signs x:Str):Bool:= !(Builtin.Str.occurrences signs x 0 signs.length 1).isEmpty
def zt5:DR2:=fun d e μ Q=>match d,e with
 | .str i, .str j=>Q (.bl (zkx j i)) μ
 | _,_=>False
instance{K:Frag}{fl:Wd}:zbk K fl zyD zt5:=⟨fun{W μ H d e x y Q Q'} r q1 q2 h k=>by
 unfold zt5 at h;split at h
 .rw[q1.s',q2.s'];exact⟨_,_,rfl,rfl,k _ _ _ _ _ (.refl _) r .b h⟩
 .exact h.elim⟩
theorem zyR{i j:Str}{μ:Mu}{Q:DK}:zt5 (.str i) (.str j) μ Q=Q (.bl (zkx j i)) μ:=rfl
def zvH(P:Program)(w:World)(K:Frag):List V->Hp->VK->Prop:=fun xs H Q=>∃p ys,xs=[.ref p]/\SqT K H p (ys.map V.str)/\ys.length<=100/\∀a,H a=none->Q (.ref a) (upd H a (zpU P w a ys))
def zpi(P:Program)(w:World):List V->Hp->VK->Prop:=fun xs H Q=>∃a ys,xs=[.ref a]/\H a=some (zpU P w a ys)/\Q (.int (zgG ys:Nat)) H
theorem zkI{X:Cx}{P:Program}{w:World}(K:Frag)(h:X.K=K:=by rfl)(hP:X.prog=P:=by rfl)(hw:X.w=w:=by rfl)(hc:X.calm=true:=by rfl):zaf X (.type "set") (zvH P w K):=by subst hP hw;exact zqo K hc h
theorem zgS{X:Cx}{P:Program}{w:World}(hP:X.prog=P:=by rfl)(hw:X.w=w:=by rfl):zaf X (.builtin "len") (zpi P w):=by subst hP hw;exact zpY
def ziy(w:DE):DE:=fun ρ μ Q=>w ρ μ fun d μ1=>match d with
 | .tup ds=>∃ys,ds=ys.map D.str/\ys.length<=100/\Q (.int (zgG ys:Nat)) μ1
 | _=>False
instance{P:Program}{w:World}{K:Frag}{fl:Wd}{te:TE}{we:DE}[a:zZ K fl te we]:zZ K fl (tCB (zpi P w) (zeH (tCB (zvH P w K) (zeH te zga)) zga)) (ziy we):=⟨fun{W ρ μ σ H Q Q'} r e h k=>a.run r e h fun W1 d μ1 x H1 le1 r1 q1 h1=>by
 cases d<;>first | exact h1.elim | skip
 obtain⟨ys,rfl,hl,h1⟩:=h1;obtain⟨p,xs,rfl,s1,z1⟩:=q1.tup';rw[z1.strs] at s1;refine⟨p,ys,rfl,s1.sm r1.sub,hl,fun b hb=>⟨b,ys,rfl,zH,?_⟩⟩;exact k W1 _ μ1 _ _ le1 (r1.same (zfn hb)) .i h1⟩
structure zzG(K:Frag)(C:Addr):Prop where
 cl:Cls K C
 ha:findIn K (.ref C) "__class__"=some (some (.builtin "object.__class__"))
 hn:specialIn K (.builtin "object.__class__") "__get__"=some (some (.builtin "getset_descriptor.__get__"))
 htk:takesIn K (.builtin "object.__class__")=some true
 hm:mroIn K C (.type "object")=some true
 self:kitOne K (.ref C) (.ref C)=some true
 str:kitOne K (.type "str") (.ref C)=some false
 int:kitOne K (.type "int") (.ref C)=some false
class IsI(K:Frag)(c:Str):Prop where
 ex:∃C,clsOf K c=some C/\zzG K C
def zul(c:Str):DRs:=fun ds μ Q=>match ds with
 | [.str _, .cls c']=>c'=c/\Q (.bl false) μ
 | [.int _, .cls c']=>c'=c/\Q (.bl false) μ
 | [d, .cls c']=>c'=c/\ziq μ d fun c2 _ _=>c2=c/\Q (.bl true) μ
 | _=>False
instance{K:Frag}{fl:Wd}{c:Str}[i:IsI K c]:zcX K fl (ztZ K) (zul c):=⟨fun{W μ H ds xs Q Q'} r z h k=>by
 obtain⟨C,hC,ci⟩:=i.ex;have cls:∀{y:V},Rep K W (.cls c) y->y= .ref C:=fun{y} q=>by
  unfold Rep at q;obtain⟨C',e,rfl⟩:=q;rw[hC] at e;cases e;rfl
 unfold zul at h;split at h
 .obtain⟨x,y,rfl,q1,q2⟩:=z.two;obtain⟨rfl,h⟩:=h;rw[q1.s',cls q2];exact⟨_,_,_,false,rfl, .str _,fun u hu=>by cases hu;exact ci.str,k _ _ _ _ _ (.refl _) r .b h⟩
 .obtain⟨x,y,rfl,q1,q2⟩:=z.two;obtain⟨rfl,h⟩:=h;rw[q1.i',cls q2];exact⟨_,_,_,false,rfl, .int _,fun u hu=>by cases hu;exact ci.int,k _ _ _ _ _ (.refl _) r .b h⟩
 .obtain⟨x,y,rfl,q1,q2⟩:=z.two;obtain⟨rfl,h⟩:=h;obtain⟨c2,C2,a,dx,ns,vs,xs,hc2,rfl,ea,l,z1,e5,h5⟩:=zdZ r q1 h;subst e5;rw[hC] at hc2;cases hc2;rw[cls q2];exact⟨_,_,_,true,rfl, .ins ea ci.cl ci.ha ci.hn ci.htk ci.hm,fun u hu=>by cases hu;exact ci.self,k _ _ _ _ _ (.refl _) r .b h5⟩
 .exact h.elim⟩
section
variable{μ:Mu}{Q:DK}{c:Str}
end
structure znF(P:Program)(w:World)(K:Frag)(mg:Str->Option Value)(base:Heap)(CX:CXT)(c:Str)(k:Nat)(ps:List Str)(sp:Sp):Prop where
 ex:∃C,clsOf K c=some C/\zvN P w K mg base CX C k ps sp/\notFirst K C (.type "str")=true/\notFirst K C (.type "int")=true
def zy9(K:Frag)(c:Str)(sp:Sp)(E:XK):R2:=fun x y H Q=>∃C a dx fs,clsOf K c=some C/\x= .ref a/\H a=some (.ins C dx fs)/\((∃b dx fs,y= .ref b/\H b=some (.ins C dx fs))\/(∃z,y= .str z)\/(∃z,y= .int z))/\sp [x,y] H Q E
theorem zr7{X:Cx}{CX:CXT}(K:Frag){c:Str}{j k:Nat}{ps:List Str}{sp:Sp}{E:XK}(h:znF X.prog X.w X.K X.mg X.base CX c j ps sp)(hr:zdA k X.A)(hK:X.K=K:=by rfl)(hj:j<=k:=by decide)(hx:zcS CX X E:=by exact ziT):OpR X (compareOp .Eq) (zy9 K c sp E):=by
 subst hK;obtain⟨C,hC,hE,n1,n2⟩:=h.ex;intro pins s σ H x y v u Q I rx ry q;obtain⟨C',a,dx,fs,hC',rfl,ea,ho,q⟩:=q;rw[hC] at hC';cases hC';exact zwO hE hr hj hx pins s σ H _ y v u Q I rx ry ⟨a,dx,fs,rfl,ea,ho.imp id (Or.imp (fun z=>⟨z,n1⟩) fun z=>⟨z,n2⟩),q⟩
def zpN(c:Str)(dsp:DSp):DR2:=fun d e μ Q=>(ziq μ d fun c' _ _=>c'=c)/\(match e with
 | .str _=>True
 | .int _=>True
 | e=>ziq μ e fun c' _ _=>c'=c)/\dsp [d,e] μ Q
instance{K:Frag}{fl:Wd}{c:Str}{dsp:DSp}{E:XK}:zbk K fl (zy9 K c (lift K dsp) E) (zpN c dsp):=⟨fun{W μ H d e x y Q Q'} r q1 q2 h k=>by
 obtain⟨h1,h2,h3⟩:=h;obtain⟨c2,C,a,dx,ns,vs,xs,hC,rfl,ea,l,z,rfl⟩:=zdZ r q1 h1;refine⟨C,a,dx,_,hC,rfl,ea,?_,fl,W,μ,[d,e],Q,r, .cons q1 (.cons q2 .nil),h3,fun W2 d2 μ2 x2 H2 le2=>k W2 d2 μ2 x2 H2 le2⟩;split at h2
 .exact .inr (.inl ⟨_,q2.s'⟩)
 .exact .inr (.inr ⟨_,q2.i'⟩)
 .obtain⟨c3,C3,a3,dx3,ns3,vs3,xs3,hC3,rfl,ea3,l3,z3,rfl⟩:=zdZ r q2 h2;rw[hC] at hC3;cases hC3;exact .inl ⟨a3,dx3,_,rfl,ea3⟩⟩
def SI:Nat->D->Prop
 | _, .int _=>True
 | _, .str x=>PyData.strOk x=true
 | n+1, .tup ds=>∀d∈ds,SI n d
 | n+1, .lst ds=>∀d∈ds,SI n d
 | _,_=>False
theorem SI.pl:∀{n:Nat} {d:D},SI n d->Pl n d:=by
 intro n;induction n with
 | zero=>intro d h;cases d<;>first | exact h.elim | exact h
 | succ n ih=>intro d h;cases d<;>first | exact h.elim | exact h | exact fun x hx=>ih (h x hx)
theorem SI.eqvs{n:Nat}(ih:∀d e p q,SI n d->SI n e->toPy d=some p->toPy e=some q->(PyData.eqv p q=true↔d=e)):∀(ds es:List D) (ps qs:List PyData),(∀d∈ds,SI n d)->(∀d∈es,SI n d)->zaS ds=some ps->zaS es=some qs->(PyData.eqvAll ps qs=true↔ds=es)
 | [],[],ps,qs,_,_,h1,h2=>by
  unfold zaS at h1 h2;cases h1;cases h2;simp[PyData.eqvAll]
 | [],e::es,ps,qs,_,_,h1,h2=>by
  unfold zaS at h1 h2;split at h2
  .cases h1;cases h2;simp[PyData.eqvAll]
  .cases h2
 | d::ds,[],ps,qs,_,_,h1,h2=>by
  unfold zaS at h1 h2;split at h1
  .cases h1;cases h2;simp[PyData.eqvAll]
  .cases h1
 | d::ds,e::es,ps,qs,s1,s2,h1,h2=>by
  unfold zaS at h1 h2;split at h1
  .rename_i p ps' e1 e2;split at h2
   .rename_i q qs' e3 e4;cases h1;cases h2;have a:=ih d e p q (s1 d List.mem_cons_self) (s2 e List.mem_cons_self) e1 e3;have b:=SI.eqvs ih ds es ps' qs' (fun x hx=>s1 x (List.mem_cons_of_mem _ hx)) (fun x hx=>s2 x (List.mem_cons_of_mem _ hx)) e2 e4;unfold PyData.eqvAll;rw[Bool.and_eq_true,a,b,List.cons.injEq]
   .cases h2
  .cases h1
theorem SI.eqv:∀(n:Nat) (d e:D) (p q:PyData),SI n d->SI n e->toPy d=some p->toPy e=some q->(PyData.eqv p q=true↔d=e):=by
 intro n;induction n with
 | zero =>
  intro d e p q h1 h2 t1 t2;cases d<;>first | exact h1.elim | skip
  all_goals cases e<;>first | exact h2.elim | skip
  all_goals (unfold toPy at t1 t2;cases t1;cases t2;simp[PyData.eqv])
 | succ n ih =>
  intro d e p q h1 h2 t1 t2;cases d<;>first | exact h1.elim | skip
  all_goals cases e<;>first | exact h2.elim | skip
  all_goals unfold toPy at t1 t2
  all_goals first
   | (cases t1;cases t2;simp[PyData.eqv];done)
   | (cases t1
      obtain⟨qs,e2,rfl⟩:=Option.map_eq_some_iff.mp t2;simp[PyData.eqv];done)
   | (cases t2
      obtain⟨ps,e1,rfl⟩:=Option.map_eq_some_iff.mp t1;simp[PyData.eqv];done)
   | (obtain ⟨ps, e1, rfl⟩ := Option.map_eq_some_iff.mp t1
      obtain⟨qs,e2,rfl⟩:=Option.map_eq_some_iff.mp t2;first
       | (simp[PyData.eqv];done)
       | (unfold PyData.eqv
          rw[SI.eqvs ih _ _ ps qs h1 h2 e1 e2];simp))
theorem zoO{neg:Bool}{d e:D}{μ:Mu}{Q:DK}{n:Nat}(h1:SI n d)(h2:SI n e)(hn:n<=60)(q:∀b:Bool,(b=true↔d=e)->Q (.bl (neg ^^ b)) μ):zmy neg d e μ Q:=by
 obtain⟨p,t1,c1,b1⟩:=Pl.py n d h1.pl;obtain⟨p',t2,c2,b2⟩:=Pl.py n e h2.pl;unfold zmy;split
 .exact q _ (by simp)
 .exact q _ (by simp)
 .exact q _ (by simp)
 .rw[zmC t1,zmC t2];exact⟨⟨c1,by omega⟩,⟨c2,by omega⟩,q _ (SI.eqv n d e p p' h1 h2 t1 t2)⟩
theorem zxO{d e:D}{μ:Mu}{Q:DK}{n:Nat}(h1:SI n d)(h2:SI n e)(hn:n<=60)(q:∀b:Bool,(b=true↔d=e)->Q (.bl b) μ):dEq d e μ Q:=zoO h1 h2 hn fun b hb=>by rw[Bool.false_xor];exact q b hb
theorem zxQ{d e:D}{μ:Mu}{Q:DK}{n:Nat}(h1:SI n d)(h2:SI n e)(hn:n<=60)(q:∀b:Bool,(b=true↔d=e)->Q (.bl (!b)) μ):dNe d e μ Q:=zoO h1 h2 hn fun b hb=>by rw[Bool.true_xor];exact q b hb
theorem zsT{d:D}{μ:Mu}{Q:DK}{n:Nat}(h1:SI n d)(hn:n<=60)(q:Q (.bl true) μ):dEq d d μ Q:=zxO h1 h1 hn fun b hb=>by rw[hb.mpr rfl];exact q
theorem zmm{d:D}{μ:Mu}{Q:DK}{n:Nat}(h1:SI n d)(hn:n<=60)(q:Q (.bl false) μ):dNe d d μ Q:=zxQ h1 h1 hn fun b hb=>by rw[hb.mpr rfl];exact q
def zzK(c:Str)(dsp:DSp)(n j:Nat)(pat:List Src)(cs ds es:List D)(μ:Mu)(Q:DK):Prop:=∀k,μ k=none->dsp (sel n j pat .non cs (.cell k::ds) es) (zV μ k (.ins c [] [])) fun d μ3=>d= .non/\znr μ3 (.cell k) Q
theorem zuP{c:Str}{dsp:DSp}{n j:Nat}{pat:List Src}{cs:List D}{w wk:DA}{ρ:zag}{μ:Mu}{Q:DK}:zxR c dsp n j pat cs w wk ρ μ Q=w ρ μ fun ds μ1=>wk ρ μ1 fun es μ2=>zzK c dsp n j pat cs ds es μ2 Q:=rfl
theorem zvl{a b c d e f:D}{μ:Mu}{Q:DK}:zb0 (.tup [a,b,c,d,e,f]) none (some 2) μ Q=Q (.tup [a,b]) μ:=by
 rw[ze0];simp only[show cutD [a,b,c,d,e,f] none (some 2)=[a,b] from zen _ 2,eq_iff_iff,and_iff_right_iff_imp];intro _ ⟨_,h⟩;have h3:HT.sIx 6 6 (some 2)=2:=HT.zbn 6 6 2;have h2:HT.sIx 6 6 (some 2)=6:=h;rw[h3] at h2;omega
theorem zty{a b c d e f:D}{μ:Mu}{Q:DK}:zb0 (.tup [a,b,c,d,e,f]) none (some 3) μ Q=Q (.tup [a,b,c]) μ:=by
 rw[ze0];simp only[show cutD [a,b,c,d,e,f] none (some 3)=[a,b,c] from zen _ 3,eq_iff_iff,and_iff_right_iff_imp];intro _ ⟨_,h⟩;have h3:HT.sIx 6 6 (some 3)=3:=HT.zbn 6 6 3;have h2:HT.sIx 6 6 (some 3)=6:=h;rw[h3] at h2;omega
theorem zue{a b c d e f:D}{μ:Mu}{Q:DK}:zb0 (.tup [a,b,c,d,e,f]) none (some 4) μ Q=Q (.tup [a,b,c,d]) μ:=by
 rw[ze0];simp only[show cutD [a,b,c,d,e,f] none (some 4)=[a,b,c,d] from zen _ 4,eq_iff_iff,and_iff_right_iff_imp];intro _ ⟨_,h⟩;have h3:HT.sIx 6 6 (some 4)=4:=HT.zbn 6 6 4;have h2:HT.sIx 6 6 (some 4)=6:=h;rw[h3] at h2;omega
theorem ztx{a b c d e f:D}{μ:Mu}{Q:DK}:zb0 (.tup [a,b,c,d,e,f]) none (some 5) μ Q=Q (.tup [a,b,c,d,e]) μ:=by
 rw[ze0];simp only[show cutD [a,b,c,d,e,f] none (some 5)=[a,b,c,d,e] from zen _ 5,eq_iff_iff,and_iff_right_iff_imp];intro _ ⟨_,h⟩;have h3:HT.sIx 6 6 (some 5)=5:=HT.zbn 6 6 5;have h2:HT.sIx 6 6 (some 5)=6:=h;rw[h3] at h2;omega
theorem zpQ{a b c d e f:D}{μ:Mu}{Q:DK}:zb0 (.tup [a,b,c,d,e,f]) (some 1) none μ Q=Q (.tup [b,c,d,e,f]) μ:=by
 rw[ze0];simp only[show cutD [a,b,c,d,e,f] (some 1) none=[b,c,d,e,f] from zgu _ 1,eq_iff_iff,and_iff_right_iff_imp];intro _ ⟨h,_⟩;have h3:HT.sIx 6 0 (some 1)=1:=HT.zbn 6 0 1;have h2:HT.sIx 6 0 (some 1)=0:=h;rw[h3] at h2;omega
theorem zqa{a b c d e f:D}{μ:Mu}{Q:DK}:zb0 (.tup [a,b,c,d,e,f]) (some 2) none μ Q=Q (.tup [c,d,e,f]) μ:=by
 rw[ze0];simp only[show cutD [a,b,c,d,e,f] (some 2) none=[c,d,e,f] from zgu _ 2,eq_iff_iff,and_iff_right_iff_imp];intro _ ⟨h,_⟩;have h3:HT.sIx 6 0 (some 2)=2:=HT.zbn 6 0 2;have h2:HT.sIx 6 0 (some 2)=0:=h;rw[h3] at h2;omega
theorem zp2{a b c d e f:D}{μ:Mu}{Q:DK}:zb0 (.tup [a,b,c,d,e,f]) (some 4) none μ Q=Q (.tup [e,f]) μ:=by
 rw[ze0];simp only[show cutD [a,b,c,d,e,f] (some 4) none=[e,f] from zgu _ 4,eq_iff_iff,and_iff_right_iff_imp];intro _ ⟨h,_⟩;have h3:HT.sIx 6 0 (some 4)=4:=HT.zbn 6 0 4;have h2:HT.sIx 6 0 (some 4)=0:=h;rw[h3] at h2;omega
theorem zql{a b c d e f:D}{μ:Mu}{Q:DK}:zb0 (.tup [a,b,c,d,e,f]) (some 5) none μ Q=Q (.tup [f]) μ:=by
 rw[ze0];simp only[show cutD [a,b,c,d,e,f] (some 5) none=[f] from zgu _ 5,eq_iff_iff,and_iff_right_iff_imp];intro _ ⟨h,_⟩;have h3:HT.sIx 6 0 (some 5)=5:=HT.zbn 6 0 5;have h2:HT.sIx 6 0 (some 5)=0:=h;rw[h3] at h2;omega
theorem zvt{α:Type}{a b c d e f:α}{r:List α}:atI (a::b::c::d::e::f::r) 5=some f:=zc2 (j:=5) rfl
def Ev(w:DE)(ρ:zag)(μ:Mu)(d:D):Prop:=∀Q:DK,Q d μ->w ρ μ Q
def Evs(w:DA)(ρ:zag)(μ:Mu)(ds:List D):Prop:=∀Q:List D->Mu->Prop,Q ds μ->w ρ μ Q
def EvO(q:DR2)(d e:D)(μ:Mu)(v:D):Prop:=∀Q:DK,Q v μ->q d e μ Q
def EvB(q:DRs)(ds:List D)(μ:Mu)(v:D):Prop:=∀Q:DK,Q v μ->q ds μ Q
section
variable{w wa wb:DE}{wr:DA}{ρ:zag}{μ:Mu}{d e v:D}{ds es:List D}{i:Nat}{q:DR2}{D':zba}
theorem zwi(h:ρ[i]? = some (some d)):Ev (zc i) ρ μ d:=fun Q z=>by unfold zc;rw[h];exact z
theorem zzB:Ev (dC d) ρ μ d:=fun Q z=>z
theorem zyF(h1:Ev wa ρ μ d)(h2:Ev wb ρ μ e)(h3:EvO q d e μ v):Ev (dOp q wa wb) ρ μ v:=fun Q z=>h1 _ (h2 _ (h3 _ z))
theorem zuV:Evs zm ρ μ []:=fun Q z=>z
theorem ztq(h1:Ev wa ρ μ d)(h2:Evs wr ρ μ ds):Evs (za wa wr) ρ μ (d::ds):=fun Q z=>h1 _ (h2 _ z)
theorem zv7(h:Evs wr ρ μ ds)(hl:ds.length<=1000):Ev (dTup wr) ρ μ (.tup ds):=fun Q z=>h _ ⟨Nat.le_trans hl (by decide),z⟩
theorem zx9(h:Evs wr ρ μ ds)(hl:ds.length<=1000):Ev (zf2 wr) ρ μ (.lst ds):=fun Q z=>h _ ⟨Nat.le_trans hl (by decide),z⟩
theorem zyS{q:DRs}(h:Evs wr ρ μ ds)(h3:EvB q ds μ v):Ev (dCB q wr) ρ μ v:=fun Q z=>h _ (h3 _ z)
theorem zhF{j:Int}(h:atI ds j=some v):EvO dIx (.tup ds) (.int j) μ v:=fun Q z=>by rw[zvC,h];exact z
theorem zs6{j:Int}(h:atI ds j=some v):EvO dIx (.lst ds) (.int j) μ v:=fun Q z=>by rw[zvE,h];exact z
theorem zuD(h1:ds≠[])(hl:ds.length+es.length<=1000):EvO zbX (.tup ds) (.tup es) μ (.tup (ds++es)):=fun Q z=>by
 rw[zrq];exact⟨h1,Nat.le_trans hl (by decide),z⟩
theorem zxF{a b:Int}:EvO zbX (.int a) (.int b) μ (.int (a+b)):=fun Q z=>by rw[zvy];exact z
theorem zxN{a b:Int}:EvO dEq (.int a) (.int b) μ (.bl (decide (a=b))):=fun Q z=>by rw[zoH];exact z
theorem zpB:EvB za8 [.lst ds] μ (.tup ds):=fun Q z=>by rw[znb];exact z
theorem zgr{n:Nat}{m:Int}(h:Ev w ρ μ (.tup ds))(hm:m=n)(hl:n < ds.length):Ev (dSl zb0 w zaP (zb3 (dC (.int m)))) ρ μ (.tup (ds.take n)):=fun Q z=>h _ (by
 subst hm;show zb0 (.tup ds) none (some (n:Int)) μ Q;rw[ze0,zen];refine⟨fun⟨_,h2⟩=>?_,z⟩;rw[HT.zbn] at h2;omega)
theorem zd2{n:Nat}{m:Int}(h:Ev w ρ μ (.tup ds))(hm:m=n)(h0:0 < n)(hl:n < ds.length):Ev (dSl zb0 w (zb3 (dC (.int m))) zaP) ρ μ (.tup (ds.drop n)):=fun Q z=>h _ (by
 subst hm;show zb0 (.tup ds) (some (n:Int)) none μ Q;rw[ze0,zgu];refine⟨fun⟨h2,_⟩=>?_,z⟩;rw[HT.zbn] at h2;omega)
theorem zxI(h:Ev w ρ μ (.tup ds))(hl:1 < ds.length):Ev (dSl zb0 w zaP (zb3 (dC (.int 1)))) ρ μ (.tup (ds.take 1)):=zgr h rfl hl
theorem zxY(h:Ev w ρ μ (.tup ds))(hl:2 < ds.length):Ev (dSl zb0 w zaP (zb3 (dC (.int 2)))) ρ μ (.tup (ds.take 2)):=zgr h rfl hl
theorem zxy(h:Ev w ρ μ (.tup ds))(hl:3 < ds.length):Ev (dSl zb0 w zaP (zb3 (dC (.int 3)))) ρ μ (.tup (ds.take 3)):=zgr h rfl hl
theorem zxw(h:Ev w ρ μ (.tup ds))(hl:4 < ds.length):Ev (dSl zb0 w zaP (zb3 (dC (.int 4)))) ρ μ (.tup (ds.take 4)):=zgr h rfl hl
theorem zxh(h:Ev w ρ μ (.tup ds))(hl:5 < ds.length):Ev (dSl zb0 w zaP (zb3 (dC (.int 5)))) ρ μ (.tup (ds.take 5)):=zgr h rfl hl
theorem zrb(h:Ev w ρ μ (.tup ds))(hl:1 < ds.length):Ev (dSl zb0 w (zb3 (dC (.int 1))) zaP) ρ μ (.tup (ds.drop 1)):=zd2 h rfl (by decide) hl
theorem zsq(h:Ev w ρ μ (.tup ds))(hl:2 < ds.length):Ev (dSl zb0 w (zb3 (dC (.int 2))) zaP) ρ μ (.tup (ds.drop 2)):=zd2 h rfl (by decide) hl
theorem zqY(h:Ev w ρ μ (.tup ds))(hl:3 < ds.length):Ev (dSl zb0 w (zb3 (dC (.int 3))) zaP) ρ μ (.tup (ds.drop 3)):=zd2 h rfl (by decide) hl
theorem zso(h:Ev w ρ μ (.tup ds))(hl:4 < ds.length):Ev (dSl zb0 w (zb3 (dC (.int 4))) zaP) ρ μ (.tup (ds.drop 4)):=zd2 h rfl (by decide) hl
theorem zrG(h:Ev w ρ μ (.tup ds))(hl:5 < ds.length):Ev (dSl zb0 w (zb3 (dC (.int 5))) zaP) ρ μ (.tup (ds.drop 5)):=zd2 h rfl (by decide) hl
end
def zn5:Value->Option Str
 | .str x _=>some x
 | _=>none
theorem znT{u:Value}{x:Str}(h:zn5 u=some x):RelV (.str x) u:=by
 cases u<;>simp[zn5] at h
 subst h;exact⟨_,rfl⟩
instance decKey(k:Key)(ks:List Key):Decidable (k∈ks):=@List.instDecidableMemOfLawfulBEq Key instBEqOfDecidableEq inferInstance k ks
def ziv:D->Option Key
 | .int i=>some (.inl i)
 | .str x=>some (.inr x)
 | _=>none
def zbN:List Key->List D->Key->Option D
 | k::ks,v::vs,q=>if k=q then some v else zbN ks vs q
 | _,_,_=>none
def zjs(ks:List Key)(k:Key):List Key:=if k∈ks then ks else ks++[k]
def zkF(ks:List Key)(vs:List D)(k:Key)(v:D):List D:=if k∈ks then List.zipWith (fun k' v'=>if k'=k then v else v') ks vs else vs++[v]
def zp3(c:Option Ct)(R:List Key->List D->Prop):Prop:=match c with
 | some (.dct ks vs)=>R ks vs
 | _=>False
def znM(μ:Mu)(d:D)(R:List Key->List D->Prop):Prop:=match d with
 | .cell k=>zp3 (μ k) R
 | .dct ks vs=>R ks vs
 | _=>False
def zoN(c:Option Ct)(R:List Key->List D->Prop):Prop:=match c with
 | some (.dct ks vs)=>R ks vs
 | some (.fdct _ ks vs)=>R ks vs
 | _=>False
def zgg(μ:Mu)(d:D)(R:List Key->List D->Prop):Prop:=match d with
 | .cell k=>zoN (μ k) R
 | .dct ks vs=>R ks vs
 | _=>False
theorem zcd{ks:List Key}{vs:List D}{R:List Key->List D->Prop}:zoN (some (.dct ks vs)) R=R ks vs:=rfl
theorem zdl{μ:Mu}{k:Nat}{R:List Key->List D->Prop}:zgg μ (.cell k) R=zoN (μ k) R:=rfl
theorem zfY.kr{H:Hp}{a:Addr}{kvs:List (Key×V)}{k:Key}(e:Rd H a (.dK kvs)):zfY H a (kV k) (zfp kvs k):= .inl ⟨kvs,k,e,rfl,rfl⟩
theorem zf8{ks:List Key}{vs:List D}{R:List Key->List D->Prop}:zp3 (some (.dct ks vs)) R=R ks vs:=rfl
theorem zlS{μ:Mu}{k:Nat}{R:List Key->List D->Prop}:znM μ (.cell k) R=zp3 (μ k) R:=rfl
theorem zdw{x:Str}:ziv (.str x)=some (.inr x):=rfl
theorem zwz{i:Int}:ziv (.int i)=some (.inl i):=rfl
def zmz:DE:=fun _ μ Q=>∀k,μ k=none->Q (.cell k) (zV μ k (.dct [] []))
def zs9(wo wi:DE):DE:=fun ρ μ Q=>wo ρ μ fun d μ1=>wi ρ μ1 fun e μ2=>zgg μ2 d fun ks vs=>zbe (ziv e) fun k=>zbe (zbN ks vs k) fun v=>Q v μ2
def zjY(wo wi wv:DE):DS:=fun D' ρ μ=>wv ρ μ fun v μ1=>wo ρ μ1 fun d μ2=>wi ρ μ2 fun e μ3=>zbe (match d with | .cell c=>some c | _=>none) fun c=>zp3 (μ3 c) fun ks vs=>zbe (ziv e) fun k=>ks.length<=1000/\D'.nx ρ (zV μ3 c (.dct (zjs ks k) (zkF ks vs k v)))
def zgP:DRs:=fun ds μ Q=>match ds with
 | [d]=>znM μ d fun ks _=>Q (.int ks.length) μ
 | _=>False
section
variable{K:Frag}{fl:Wd}{W:Wd}
theorem zha{k:Key}:∀{ks:List Key} {vs:List D} {xs:List V},ks.length=xs.length->zE K W vs xs->(∀v,zbN ks vs k=some v->∃y,zfp (ks.zip xs) k=some y/\Rep K W v y)/\(zbN ks vs k=none->zfp (ks.zip xs) k=none)
 | [],vs,xs,_,_=>⟨fun v h=>by cases vs<;>simp[zbN] at h,fun _=>rfl⟩
 | q::ks,[],xs,h,r=>by rw[r.nil'] at h;simp at h
 | q::ks,d::vs,xs,h,r=>by
  obtain⟨x,t,rfl,q1,q2⟩:=r.uncons;have ih:=zha (k:=k) (ks:=ks) (vs:=vs) (xs:=t) (by simpa using h) q2;by_cases e:q=k
  .have hv:zfp ((q::ks).zip (x::t)) k=some x:=by rw[List.zip_cons_cons];exact zg0 (p:=(q,x)) e
   rw[hv];exact⟨fun v hl=>by rw[zbN,if_pos e] at hl;cases hl;exact⟨x,rfl,q1⟩,fun hl=>by rw[zbN,if_pos e] at hl;cases hl⟩
  .have hv:zfp ((q::ks).zip (x::t)) k=zfp (ks.zip t) k:=by rw[List.zip_cons_cons];exact zgR (p:=(q,x)) e
   rw[hv,zbN,if_neg e];exact ih
theorem zkV{k:Key}:∀{ks:List Key} {vs:List D},ks.length=vs.length->(zbN ks vs k).isSome=decide (k∈ks)
 | [],vs,_=>by simp[zbN]
 | q::ks,[],h=>by simp at h
 | q::ks,d::vs,h=>by
  have ih:=zkV (k:=k) (ks:=ks) (vs:=vs) (by simpa using h);by_cases e:q=k
  .simp[zbN,e]
  .have e':¬ k=q:=fun z=>e z.symm
   simp[zbN,e,e',ih]
theorem zqS{k:Key}{ks:List Key}{vs:List D}{xs:List V}(h:ks.length=xs.length)(r:zE K W vs xs):(zfp (ks.zip xs) k).isSome=decide (k∈ks):=by
 have hl:ks.length=vs.length:=by rw[h,r.length]
 rw[<- zkV hl];obtain⟨a,b⟩:=zha (k:=k) h r;cases e:zbN ks vs k with
 | none=>rw[b e];rfl
 | some v=>obtain⟨y,ey,_⟩:=a v e;rw[ey];rfl
theorem zoV{k:Key}:∀{ks:List Key} {xs:List V},ks.length=xs.length->((ks.zip xs).any fun kv=>decide (kv.1=k))=decide (k∈ks)
 | [],_,_=>by simp
 | q::ks,[],h=>by simp at h
 | q::ks,x::xs,h=>by
  have ih:=zoV (k:=k) (ks:=ks) (xs:=xs) (by simpa using h);rw[List.zip_cons_cons,List.any_cons,ih];by_cases e:q=k
  .simp[e]
  .have e':¬ k=q:=fun z=>e z.symm
   simp[e,e']
theorem zud{k:Key}{y:V}{v:D}{ks:List Key}{vs:List D}{xs:List V}(h:ks.length=xs.length)(r:zE K W vs xs)(q:Rep K W v y):∃xs',putK (ks.zip xs) k y=(zjs ks k).zip xs'/\(zjs ks k).length=xs'.length/\zE K W (zkF ks vs k v) xs':=by
 unfold putK zjs zkF;rw[zoV h];by_cases m:k∈ks
 .rw[if_pos (decide_eq_true m),if_pos m,if_pos m];clear m;induction ks generalizing vs xs with
  | nil=>exact⟨[],rfl,rfl,by simp[zE.nil]⟩
  | cons a ks ih =>
   cases xs with
   | nil=>simp at h
   | cons x xs =>
    cases vs with
    | nil=>rw[r.nil'] at h;simp at h
    | cons d vs =>
     obtain⟨x',t,e,q1,q2⟩:=r.uncons;cases e;obtain⟨xs',e1,e2,e3⟩:=ih (by simpa using h) q2;refine⟨(if a=k then y else x)::xs',?_,by simp[e2],?_⟩
     .rw[List.zip_cons_cons,List.map_cons,e1];by_cases e:a=k
      .simp[e]
      .simp[e]
     .rw[List.zipWith_cons_cons];refine .cons ?_ e3;by_cases e:a=k
      .simp only[if_pos e];exact q
      .simp only[if_neg e];exact q1
 .rw[if_neg (by simpa using m),if_neg m,if_neg m];refine⟨xs++[y],?_,by simp[h],r.append (.cons q .nil)⟩;rw[List.zip_append h];rfl
theorem zo9{μ:Mu}{H:Hp}{d:D}{x:V}{R:List Key->List D->Prop}(r:Rel K fl W μ H)(q:Rep K W d x)(h:znM μ d R):∃a ks vs xs,x= .ref a/\H a=some (.dK (ks.zip xs))/\ks.length=xs.length/\zE K W vs xs/\R ks vs:=by
 unfold znM at h;split at h
 .rename_i k;obtain⟨a,rfl,hb⟩:=q.cell';unfold zp3 at h;split at h
  .rename_i ks vs hk;obtain⟨a',e1,e2,xs,e3,l,z⟩:=r.cel k _ hk;rw[hb] at e1;cases e1;exact⟨a,ks,vs,xs,rfl,e3,l,z,h⟩
  .exact h.elim
 .unfold Rep at q;obtain⟨a,xs,rfl,e,l,z⟩:=q;exact⟨a,_,_,xs,rfl,r.sub _ _ e,l,z,h⟩
 .exact h.elim
theorem zdk{μ:Mu}{H:Hp}{d:D}{x:V}{R:List Key->List D->Prop}(r:Rel K fl W μ H)(q:Rep K W d x)(h:zgg μ d R):∃a ks vs xs,x= .ref a/\Rd H a (.dK (ks.zip xs))/\ks.length=xs.length/\zE K W vs xs/\R ks vs:=by
 unfold zgg at h;split at h
 .rename_i k;obtain⟨a,rfl,hb⟩:=q.cell';unfold zoN at h;split at h
  .rename_i ks vs hk;obtain⟨a',e1,e2,xs,e3,l,z⟩:=r.cel k _ hk;rw[hb] at e1;cases e1;exact⟨a,ks,vs,xs,rfl, .inl e3,l,z,h⟩
  .rename_i ob ks vs hk;obtain⟨a',e1,e2,xs,e3,l,z⟩:=r.cel k _ hk;rw[hb] at e1;cases e1;exact⟨a,ks,vs,xs,rfl, .inr ⟨ob,e3⟩,l,z,h⟩
  .exact h.elim
 .unfold Rep at q;obtain⟨a,xs,rfl,e,l,z⟩:=q;exact⟨a,_,_,xs,rfl, .inl (r.sub _ _ e),l,z,h⟩
 .exact h.elim
theorem zfB{e:D}{y:V}{k:Key}(q:Rep K W e y)(h:ziv e=some k):y=kV k:=by
 unfold ziv at h;split at h<;>cases h
 .rw[q.i'];rfl
 .rw[q.s'];rfl
theorem zcg{α:Type}{o:Option α}{R:α->Prop}(h:zbe o R):∃a,o=some a/\R a:=by
 cases o with
 | none=>exact h.elim
 | some a=>exact⟨a,rfl,h⟩
instance:zZ K fl znK zmz:=⟨fun{W ρ μ σ H Q Q'} r e h k p hp=>by
 obtain⟨c,W',hc,le,r',eb⟩:=r.newC (o:= .dK []) (c:= .dct [] []) hp ⟨[],rfl,rfl, .nil⟩;exact k W' (.cell c) _ _ _ le r' (by unfold Rep;exact⟨p,rfl,eb⟩) (h c hc)⟩
instance{ta tb:TE}{wa wb:DE}[a:zZ K fl ta wa][b:zZ K fl tb wb]:zZ K fl (zrL ta tb) (zs9 wa wb):=⟨fun{W ρ μ σ H Q Q'} r e h k=>a.run r e h fun W1 d μ1 x H1 le1 r1 q1 h1=>b.run r1 (e.mono le1) h1 fun W2 d2 μ2 y H2 le2 r2 q2 h2=>by
 obtain⟨p,ks,vs,xs,rfl,ea,l,z,h3⟩:=zdk r2 (q1.mono le2) h2;obtain⟨kk,ek,h3⟩:=zcg h3;obtain⟨v,ev,h3⟩:=zcg h3;obtain⟨y',ey,qy⟩:=(zha (k:=kk) l z).1 v ev;rw[zfB q2 ek];exact⟨p,y',rfl,ey▸zfY.kr ea,k W2 v μ2 y' H2 (le1.trans le2) r2 qy h3⟩⟩
instance{ta tb tv:TE}{wa wb wv:DE}[a:zZ K fl ta wa][b:zZ K fl tb wb][c:zZ K fl tv wv]:zcU K fl (zrd ta tb tv) (zjY wa wb wv):=⟨fun{W ρ μ σ H D' D} r e h k=>c.run r e h fun W1 v μ1 x H1 le1 r1 q1 h1=>a.run r1 (e.mono le1) h1 fun W2 d2 μ2 y H2 le2 r2 q2 h2=>b.run r2 (e.mono (le1.trans le2)) h2 fun W3 d3 μ3 z3 H3 le3 r3 q3 h3=>by
 have hz:(1001:Nat)<=sizeLine:=by decide
 obtain⟨cc,ec,h4⟩:=zcg h3;have ed:d2= .cell cc:=by
  cases d2<;>simp at ec
  subst ec;rfl
 subst ed;obtain⟨p,rfl,hb⟩:=(q2.mono le3).cell';unfold zp3 at h4;split at h4
 .rename_i ks vs hk;obtain⟨a',e1,e2,xs,e3,l,z⟩:=r3.cel cc _ hk;rw[hb] at e1;cases e1;obtain⟨kk,ek,hl,h5⟩:=zcg h4;rw[zfB q3 ek];obtain⟨xs',p1,p2,p3⟩:=zud (k:=kk) l z (q1.mono (le2.trans le3));refine⟨p,_,rfl,zqX.k e3 (by rw[List.length_zip,<- l,Nat.min_self];omega),?_⟩;rw[p1];exact k.nx W3 ρ _ σ _ (le1.trans (le2.trans le3)) (r3.setC (c':= .dct (zjs ks kk) (zkF ks vs kk v)) hk hb ⟨xs',rfl,p2,p3⟩) (e.mono (le1.trans (le2.trans le3))) h5
 .exact h4.elim⟩
end
section
variable{X:Cx}{o i e value:Expr}{pos pos' apos cpos:Pos}{td ty tv:TE}
theorem zo1:WE X (.Dict [] [] pos) znK:=⟨zrN⟩
theorem zra(hu:X.A.units+1 < cLine)(ho:WE X o td)(hi:WE X i ty)(hs:zxT i:=by exact fun _ _=>rfl):WE X (.Subscript o i pos) (zrL td ty):=⟨ztB hu ho.out hi.out hs⟩
theorem zd7(hu:X.A.units+1 < cLine)(ho:WE X o td)(hi:WE X i ty)(hv:WE X value tv)(hs:swapsWith value (some (.Subscript o i pos')) pos.line X.env=pure false:=by rfl):WS X (.Assign [.Subscript o i pos'] value pos) (zrd td ty tv):=⟨ztK hu ho.out hi.out hv.out hs⟩
def zy1:R2:=fun y x H Q=>∃a o,x= .ref a/\zfY H a y o/\Q (.bl o.isSome) H
def zoE:R2:=fun y x H Q=>∃a o,x= .ref a/\zfY H a y o/\Q (.bl (!o.isSome)) H
theorem zll(hu:X.A.units+1 < cLine):OpR X (compareOp .In) zy1:=by
 intro pins s σ H x y v u Q I rx ry h;obtain⟨a,o,rfl,g,q⟩:=h;cases ry;exact zzM hu I g rx fun s3 I3=>⟨.bl o.isSome,H,I3,rfl,q⟩
theorem zhA(hu:X.A.units+1 < cLine):OpR X (compareOp .NotIn) zoE:=by
 intro pins s σ H x y v u Q I rx ry h;obtain⟨a,o,rfl,g,q⟩:=h;cases ry;exact zun hu I g rx fun s3 I3=>⟨.bl (!o.isSome),H,I3,rfl,q⟩
def zvB:List V->Hp->VK->Prop:=fun xs H Q=>∃a kvs,xs=[V.ref a]/\H a=some (.dK kvs)/\Q (.int kvs.length) H
theorem zcw:zaf X (.builtin "len") zvB:=zpR
end
def zfN(neg:Bool):DR2:=fun e d μ Q=>zgg μ d fun ks vs=>zbe (ziv e) fun k=>Q (.bl (neg ^^ decide (k∈ks))) μ
theorem zhU{neg:Bool}{e d:D}{μ:Mu}{Q:DK}:zfN neg e d μ Q=zgg μ d fun ks vs=>zbe (ziv e) fun k=>Q (.bl (neg ^^ decide (k∈ks))) μ:=rfl
theorem zx8{wo wi:DE}{ρ:zag}{μ:Mu}{Q:DK}:zs9 wo wi ρ μ Q=wo ρ μ fun d μ1=>wi ρ μ1 fun e μ2=>zgg μ2 d fun ks vs=>zbe (ziv e) fun k=>zbe (zbN ks vs k) fun v=>Q v μ2:=rfl
theorem znS{d:D}{μ:Mu}{Q:DK}:zgP [d] μ Q=znM μ d fun ks _=>Q (.int ks.length) μ:=rfl
section
variable{K:Frag}{fl:Wd}
instance:zbk K fl zy1 (zfN false):=⟨fun{W μ H d e x y Q Q'} r q1 q2 h k=>by
 obtain⟨p,ks,vs,xs,rfl,ea,l,z,h3⟩:=zdk r q2 h;obtain⟨kk,ek,h3⟩:=zcg h3;rw[zfB q1 ek];refine⟨p,_,rfl,zfY.kr ea,?_⟩;rw[zqS l z];exact k W _ μ _ H (.refl _) r .b (by simpa using h3)⟩
instance:zbk K fl zoE (zfN true):=⟨fun{W μ H d e x y Q Q'} r q1 q2 h k=>by
 obtain⟨p,ks,vs,xs,rfl,ea,l,z,h3⟩:=zdk r q2 h;obtain⟨kk,ek,h3⟩:=zcg h3;rw[zfB q1 ek];refine⟨p,_,rfl,zfY.kr ea,?_⟩;rw[zqS l z];exact k W _ μ _ H (.refl _) r .b (by simpa using h3)⟩
instance:zcX K fl zvB zgP:=⟨fun{W μ H ds xs Q Q'} r z h k=>by
 unfold zgP at h;split at h
 .obtain⟨y,rfl,qy⟩:=z.one;obtain⟨p,ks,vs,xs,rfl,ea,l,z,h3⟩:=zo9 r qy h;refine⟨p,_,rfl,ea,?_⟩;rw[List.length_zip,<- l,Nat.min_self];exact k W _ μ _ H (.refl _) r .i h3
 .exact h.elim⟩
end
section
variable{prog:Program}{w:World}{A:Around}{E:Value->Shared->Prop}{s:Shared}
theorem zhV{v:Value}{ss:List Str}{Q:Value->Shared->Prop}
  (hc:∀R:List Value->Shared->Prop,(∀(h':Heap) (tk:Nat) (vs:List Value),(∀b o,s.heap.get? b=some o->h'.get? b=some o)->StrsAre vs ss->R vs { s with heap:=h',toks:=tk })->wpAny (model prog w) A.in1 (collect v) R E s)(h64:ss.length < 64)
  (h:∀(h1 h2:Heap) (tk:Nat) (out:Array Value) (ss':List Str) (e:Nat),(∀b o,s.heap.get? b=some o->h1.get? b=some o)->(∀b o,h1.get? b=some o->h2.get? b=some o)->h2.get? h1.objs.size=some (seqObj "list" out e)->StrsAre out.toList ss'->ss'.Perm ss->sortedS ss'=true->Q (.ref h1.objs.size) { s with heap:=h2,toks:=tk }) :
  wpAny (model prog w) A (call (.builtin "sorted") [v]) Q E s:=by
 refine Calls.call_function_entry kind_sorted plain_sorted entry_sorted (args_sorted1 _) ?_;unfold Builtin.«sorted»;refine wpAny_bind (m:=checkCount "sorted" 1 1 _) (wpAny_pure ?_);refine wpAny_bind (hc _ fun h' tk vs hk hS=>?_);have hl:vs.length=ss.length:=by
  clear h hc h64;induction hS with
  | nil=>rfl
  | cons _ _ _ ih=>simp[ih]
 refine wpAny_bind (wpAny_newList ?_ (by rw[hl];exact Nat.le_trans (Nat.le_of_lt h64) (by decide)));have hoL:(h'.push (seqObj "list" vs.toArray 0)).get? h'.objs.size=some (seqObj "list" vs.toArray 0):=Heap.get?_push_size _ rfl;refine wpAny_bind (wpAny_holding (wpAny_call_entry slot_list_sort ⟨_,hoL,rfl⟩ entry_list_sort (list_sort_treeK strKind_oneLt hoL hS.keysOf (fun v₁ v₂ rest e=>keyKind_strs (by rw[<- e];exact hS)) (by rw[hl];exact h64) fun st' a1 a2=>⟨_,rfl,?_⟩) (args_list_sort _)));obtain⟨ss',h1,h2,h3⟩:=sorted_out_str hS a1 a2;obtain⟨e,he⟩:=sortedHeap_at (out:=(arrOf st').map (·.2)) hoL;refine wpAny_pure ⟨_,rfl,h h' _ tk _ ss' e hk (fun b o q'=>?_) he h1 h2 h3⟩;have hlt:=Heap.lt_size q';rw[sortedHeap_old (Nat.ne_of_lt hlt) (by rw[size_push'];exact Nat.lt_succ_of_lt hlt),Heap.get?_push_ne _ _ _ (Nat.ne_of_lt hlt)];exact q'
end
section
variable{X:Cx}(K:Frag)
def zrC:List V->Hp->VK->Prop:=fun xs H Q=>∃p ns,xs=[.ref p]/\SqT K H p (ns.map V.str)/\ns.length < 64/\∀ns' l,List.Perm ns' ns->sortedS ns'=true->H l=none->Q (.ref l) (upd H l (.lst (ns'.map V.str)))
def ztc:List V->Hp->VK->Prop:=fun xs H Q=>∃p kvs ns,xs=[.ref p]/\H p=some (.dK kvs)/\kvs.map (·.1)=ns.map Sum.inr/\ns.length < 64/\∀ns' l,List.Perm ns' ns->sortedS ns'=true->H l=none->Q (.ref l) (upd H l (.lst (ns'.map V.str)))
theorem zoG{pins:List (Addr×Obj)}{σ:St}{H:Hp}{s:Shared}{h2:Heap}{tk:Nat}{ns ss':List Str}{out:Array Value}{e:Nat}{Q:VK}(I:Inv X pins σ H s)(hz:ns.length < 64)(hk:∀b o,s.heap.get? b=some o->h2.get? b=some o)(he:h2.get? s.heap.objs.size=some (seqObj "list" out e))(g1:StrsAre out.toList ss')(g2:ss'.Perm ns)(g3:sortedS ss'=true)(q:H s.heap.objs.size=none->Q (.ref s.heap.objs.size) (upd H s.heap.objs.size (.lst (ss'.map V.str)))):EP X pins σ Q (.ref s.heap.objs.size) { s with heap:=h2,toks:=tk }:=by
 have hf:H s.heap.objs.size=none:=I.hok.fresh (Nat.le_refl _);refine⟨.ref s.heap.objs.size,_,I.laid (a:=s.heap.objs.size) (o:= .lst (ss'.map V.str)) (t':=tk) hk (Nat.le_refl _) ?_,rfl,q hf⟩;refine⟨by rw[List.length_map,g2.length_eq];exact Nat.le_trans (Nat.le_of_lt hz) (by decide),out.toList,e,zfZ g1,?_⟩;rw[he]
theorem ziE{P:Program}{w:World}:∀{kvs:List (Key×V)} {vs:List (Key×Value)} {ns:List Str} {acc:Array Value},ItemsOf (fun i v=>∃k x,vs[i]? = some (k,x)/\(zaQ P w).is k v=true) acc vs.length->KV kvs vs->kvs.map (·.1)=ns.map Sum.inr->StrsAre acc.toList ns:=by
 intro kvs vs ns acc hacc rel hn;have hk:vs.map (·.1)=ns.map Sum.inr:=by
  rw[<- hn];clear hn hacc;induction rel with
  | nil=>rfl
  | cons a _ ih=>simp only[List.map_cons,ih,a.1]
 have hl:vs.length=ns.length:=by
  have:=congrArg List.length hk;simpa using this
 have hat:∀(i:Nat) (v:Value),acc.toList[i]? = some v->∃y t,ns[i]? = some y/\v= .str y t:=fun i v hv=>by
  obtain⟨k,x,hx,hi⟩:=hacc.2 i v (by rw[<- Array.getElem?_toList];exact hv);have h1:(vs.map (·.1))[i]? = some k:=by rw[List.getElem?_map,hx];rfl
  rw[hk,List.getElem?_map] at h1;obtain⟨y,hy,rfl⟩:=Option.map_eq_some_iff.mp h1;have:zjN (.inr y) v=true:=hi;obtain⟨t,rfl⟩:∃t,v= .str y t:=by
   rcases zaK this with⟨i,t,e,_⟩ | ⟨x',t,e,rfl⟩
   .cases e
   .cases e;exact⟨t,rfl⟩
  exact⟨y,t,hy,rfl⟩
 have hsz:acc.toList.length=ns.length:=by rw[Array.length_toList,hacc.1,hl]
 clear hacc rel hn hk hl;generalize acc.toList=l at hat hsz
 induction l generalizing ns with
 | nil=>cases ns with
  | nil=>exact .nil
  | cons y r=>simp at hsz
 | cons v l ih=>cases ns with
  | nil=>simp at hsz
  | cons y r =>
   obtain⟨y',t,e1,rfl⟩:=hat 0 v rfl;cases e1;exact .cons y t (ih (fun i v hv=>hat (i+1) v (by simpa using hv)) (by simpa using hsz))
theorem znJ(h:X.K=K:=by rfl):zaf X (.builtin "sorted") (zrC K):=by
 subst h;intro pins s σ H xs us Q I r h;obtain⟨p,ns,rfl,hl,hz,q⟩:=h;obtain⟨u,rfl,rx⟩:=vals1 r;cases rx;obtain⟨its,r',⟨o,ho,hcl,n,hd⟩,hz'⟩:=I.tuple hl;refine zhV (ss:=ns) (fun R hR=>?_) hz fun h1 h2 tk out ss' e k1 k2 he g1 g2 g3=>?_
 .refine wpAny_collect_seq p (.inr rfl) ho hcl hd (fun h' hk=>?_) (by rw[List.size_toArray,<- r'.length,List.length_map];exact Nat.le_trans (Nat.le_of_lt hz) (by decide));have:=hR h' s.toks its hk (zf9 r');simpa using this
 .exact zoG (I.kept (t':=tk) k1) hz k2 he g1 g2 g3 (q ss' h1.objs.size g2 g3)
theorem zn9(hc:X.calm=true:=by rfl):zaf X (.builtin "sorted") ztc:=by
 intro pins s σ H xs us Q I r h;obtain⟨p,kvs,ns,rfl,hp,hn,hz,q⟩:=h;obtain⟨u,rfl,rx⟩:=vals1 r;cases rx;obtain⟨z,hd,vs,rel,dd⟩:=zg8 I.hok (.inl hp);obtain⟨ep,dd⟩:=dd.dictAt;have hlen:vs.length=ns.length:=by
  have e1:=Paired.length rel;have e2:=congrArg List.length hn;simp only[List.length_map] at e2;omega
 refine zhV (ss:=ns) (fun R hR=>?_) hz fun h1 h2 tk out ss' e k1 k2 he g1 g2 g3=>?_
 .refine PySem.W.kdu_collect (PySem.W.kdl_dict hd) (by first | exact I.ok.hd hc | exact(I.ok.hd hc)) dd (by rw[hlen];exact Nat.le_trans (Nat.le_of_lt hz) (by decide)) fun h' tk acc hk hacc=>?_
  refine hR h' tk acc.toList hk ?_;exact ziE hacc rel hn
 .exact zoG (I.kept (t':=tk) k1) hz k2 he g1 g2 g3 (q ss' h1.objs.size g2 g3)
def zrR:List V->Hp->VK->Prop:=fun xs H Q=>(zle K xs H Q\/zrC K xs H Q)\/ztc xs H Q
theorem zbY(h:X.K=K:=by rfl)(hc:X.calm=true:=by rfl):zaf X (.builtin "sorted") (zrR K):=((zlT K h).or (znJ K h)).or (zn9 hc)
end
def zdn:DRs:=fun ds μ Q=>ziA ds μ Q\/match ds with
 | [.tup es]=>∃ns,es=ns.map D.str/\ns.length < 64/\∀ns',List.Perm ns' ns->sortedS ns'=true->Q (.lst (ns'.map D.str)) μ
 | [d]=>znM μ d fun ks _=>∃ns,ks=ns.map Sum.inr/\ns.length < 64/\∀ns',List.Perm ns' ns->sortedS ns'=true->Q (.lst (ns'.map D.str)) μ
 | _=>False
instance{K:Frag}{fl:Wd}:zcX K fl (zrR K) zdn:=⟨fun{W μ H ds xs Q Q'} r z h k=>by
 have fin:∀ns':List Str,Q (.lst (ns'.map D.str)) μ->∀l,H l=none->Q' (.ref l) (upd H l (.lst (ns'.map V.str))):=fun ns' hq l hl=>by
  obtain⟨r2,le⟩:=r.newF (o:= .lst (ns'.map V.str)) hl;exact k _ _ _ _ _ le r2 (.lst zH (zE.of_strs ns')) hq
 rcases h with h | h
 .exact .inl (.inl (zcX.run (K:=K) (r:=zle K) (q:=ziA) r z h k))
 .split at h
  .obtain⟨ns,rfl,hz,h⟩:=h;obtain⟨y,rfl,qy⟩:=z.one;obtain⟨p,xs,rfl,s1,z1⟩:=qy.tup';rw[z1.strs] at s1;exact .inl (.inr ⟨p,ns,rfl,s1.sm r.sub,hz,fun ns' l g1 g2 hl=>fin ns' (h ns' g1 g2) l hl⟩)
  .obtain⟨y,rfl,qy⟩:=z.one;obtain⟨p,ks,vs,xs,rfl,ea,l,z1,h3⟩:=zo9 r qy h;obtain⟨ns,rfl,hz,h⟩:=h3;refine .inr ⟨p,_,ns,rfl,ea,?_,hz,fun ns' l g1 g2 hl=>fin ns' (h ns' g1 g2) l hl⟩;rw[List.map_fst_zip];omega
  .exact h.elim⟩
theorem znc{ns:List Str}{μ:Mu}{Q:DK}(hz:ns.length < 64)(h:∀ns',List.Perm ns' ns->sortedS ns'=true->Q (.lst (ns'.map D.str)) μ):zdn [.tup (ns.map D.str)] μ Q:= .inr ⟨ns,rfl,hz,h⟩
theorem zrz{k:Nat}{ns:List Str}{vs:List D}{μ:Mu}{Q:DK}(hk:μ k=some (.dct (ns.map Sum.inr) vs))(hz:ns.length < 64)(h:∀ns',List.Perm ns' ns->sortedS ns'=true->Q (.lst (ns'.map D.str)) μ):zdn [.cell k] μ Q:= .inr (by
 show znM μ (.cell k) _;rw[zlS,hk,zf8];exact⟨ns,rfl,hz,h⟩)
section
variable{P:Program}{w:World}{H:Hp}{h:Heap}{a:Addr}{u u':HO}
end
section
variable{X:Cx}{pins:List (Addr×Obj)}{σ:St}{H:Hp}{s:Shared}{a:Addr}{u u':HO}
end
section
variable{K:Frag}{fl:Wd}{tl:TE}{w:DE}
end
section
variable{prog:Program}{w:World}{A:Around}{E:Value->Shared->Prop}{s:Shared}
end
section
variable{X:Cx}{e ke:Expr}{lo hi:Option Expr}{te:TE}{tl th tk:TO}{p2 pos:Pos}
end
section
variable{X:Cx}{k:Nat}(K:Frag)
end
theorem zta{α:Type}{g:DG}{we:DE}{ρb:zag}{μ:Mu}{Fin:List D->Mu->Prop}{Pm:Mu->Prop}(xs:List α)(f:α->D)(hl:xs.length<=1000)(step:∀x∈xs,∀Q:DK,Q (.bl true) μ->g (f x) ρb μ fun ρ2 μ2=>we ρ2 μ2 Q)(fin:∀bs:List Bool,bs.all id=true->Fin (bs.map D.bl) μ)(hP:Pm μ):zbD g zhr we ρb Pm Fin (xs.map f) [] μ:=by
 have hz:(1000:Nat)<=sizeLine:=by decide
 refine zdm (fun i ys μ'=>μ'=μ/\ys=(List.replicate i true).map D.bl) ⟨rfl,rfl⟩ ?_ ?_ (fun i ys μ' h=>h.1▸hP)
 .rintro i d ys μ' hd ⟨rfl,rfl⟩;rw[List.getElem?_map] at hd;cases hx:xs[i]? with
  | none=>rw[hx] at hd;cases hd
  | some x =>
   rw[hx] at hd;cases hd;have hi:=(List.getElem?_eq_some_iff.mp hx).1;refine⟨by rw[List.length_map,List.length_replicate];omega,fun N hN=>step x (List.mem_of_getElem? hx) (fun v μ4=>N _ μ4) (hN _ _ ⟨rfl,?_⟩)⟩;rw[List.replicate_succ',List.map_append];rfl
 .rintro ys μ' ⟨rfl,rfl⟩;exact fin _ (by simp)
section
variable{X:Cx}{CX:CXT}{k:Nat}{f:Addr}{fd:FuncData}{ps:List Str}{sp:Sp}{ds:List Value}{dvs:List V}{E:XK}
end
section
variable{prog:Program}{w:World}{A:Around}{E:Value->Shared->Prop}{s:Shared}
theorem zvV{it l:Addr}{its:Array Value}(hne:l≠it):∀(n i:Nat) (s:Shared) (Q:List Value->Shared->Prop),s.heap.IsListIter it l i->s.heap.IsList l its->i+n<=its.size ->
  (∀h',h'.IsListIter it l (i+n)->Heap.SameBut it s.heap h'->Q ((its.toList.drop i).take n) { s with heap:=h' })->wpAny (model prog w) A (draw (.ref it) n) Q E s
 | 0,i,s,Q,hi,_,_,hq=>by
  show wpAny _ _ (pure []) Q E s;exact wpAny_pure (by simpa using hq s.heap hi (Heap.SameBut.refl ..))
 | n+1,i,s,Q,hi,hl,hle,hq=>by
  have hlt:i < its.size:=by omega
  show wpAny _ _ (pyNext (.ref it) >>= _) Q E s;refine wpAny_bind (wpAny_pyNext_list_item hi hl (x:=its[i]) (by simp[hlt]) fun h1 hi1 sb1=>wpAny_bind (wpAny_holding (zvV (its:=its) hne n (i+1) _ _ hi1 ?_ (by omega) fun h2 hi2 sb2=>wpAny_pure ?_)))
  .obtain⟨o,e,r⟩:=hl;exact⟨o,sb1.extBut l o hne e,r⟩
  have hd:its.toList.drop i=its[i]::its.toList.drop (i+1):=by simp[List.drop_eq_getElem_cons,hlt]
  have z:=hq h2 (by rw[show i+(n+1)=i+1+n by omega];exact hi2) (sb1.trans sb2);rw[hd,List.take_succ_cons] at z;exact z
theorem zpV{l:Addr}{its:Array Value}{Q:List Value->Shared->Prop}(hh:A.handled=none)(hl:s.heap.IsList l its)
  (hq:∀h',Heap.ExtBut s.heap.objs.size s.heap h'->Q its.toList { s with heap:=h' }):wpAny (model prog w) A (unpackItems (.ref l) its.size none) Q E s:=by
 have hlt:l≠s.heap.objs.size:=by obtain⟨o,ho,_⟩:=hl;exact Nat.ne_of_lt (Heap.lt_size ho)
 have hl1:(s.heap.push { cls:= .type "list_iterator",data:= .fields #[.ref l, .int 0 0] }).IsList l its:=by obtain⟨o,e,r⟩:=hl;exact⟨o,Heap.get?_push_of_some _ e,r⟩
 unfold unpackItems;refine wpAny_bind ?_;unfold notIterableAtAll;refine wpAny_bind (wpAny_specialOf hl.typeIs PySem.F.slot_list_iter.lookup (wpAny_pure ?_));simp only[Bool.false_eq_true,if_false];refine wpAny_bind (wpAny_holding (wpAny_pyIter_list hl (wpAny_bind (wpAny_holding (zvV hlt its.size 0 _ _ ⟨_,Heap.get?_push_size _ rfl,rfl,rfl⟩ hl1 (by omega) fun h1 hi1 sb1=>?_)))));rw[show List.take its.size (List.drop 0 its.toList)=its.toList by rw[List.drop_zero];exact List.take_of_length_le (by simp),if_neg (by simp)];have hl2:h1.IsList l its:=by obtain⟨o,e,r⟩:=hl1;exact⟨o,sb1.extBut l o hlt e,r⟩
 refine wpAny_bind (wpAny_holding (wpAny_pyNext_list_end hh hi1 hl2 (by simp) fun h2 he2=>?_));simp only[Option.isSome_none,Bool.false_eq_true,if_false];refine wpAny_pure (hq h2 fun b o hb e=>he2 b o hb (sb1.extBut b o hb (Heap.get?_push_of_some _ e)))
theorem znO{env:Env}{es:List Expr}{x1}{pos:Pos}{l:Addr}{its:Array Value}{Q:Unit->Shared->Prop}(hh:A.handled=none)(hl:s.heap.IsList l its)
  (hn:(assignEach es env).length=its.size)(hst:(assignEach es env).findIdx? (·.1)=none)
  (h:∀h',Heap.ExtBut s.heap.objs.size s.heap h'->wpAny (model prog w) A (assignInOrder ((assignEach es env).map (·.2)) its.toList) Q E { s with heap:=h' }) :
  wpAny (model prog w) A (assign (.Tuple es x1 pos) env (.ref l)) Q E s:=by
 rw[assign_Tuple];refine wpAny_bind (wpAny_standAt ?_);unfold unpack;rw[hn,hst];exact wpAny_bind (wpAny_holding (zpV hh hl h))
end
def gSq(K:Frag)(n:Nat)(t:TGs):TG:=fun v σ H Q=>∃a xs,v= .ref a/\(SqT K H a xs\/SqL K H a xs)/\xs.length=n/\t xs σ H Q
theorem zqL{X:Cx}{es:List Expr}{k:Nat}{gs:TGs}{n:Nat}{pos:Pos}{K:Frag}(hc:X.calm=true)(hg:WGs X es gs)(hK:X.K=K:=by rfl)(hn:(assignEach es X.env).length=n:=by rfl)(hst:(assignEach es X.env).findIdx? (·.1)=none:=by rfl):WG X (.Tuple es k pos) (gSq K n gs):=⟨by
 subst hK;intro pins s σ H v u Q I r hw;obtain⟨a,xs,e1,hq,hl,hw⟩:=hw;rcases hq with hq | hq
 .exact zxG hc hg.out hn hst pins s σ H v u Q I r ⟨a,xs,e1,hq,hl,hw⟩
 .subst e1;cases r;obtain⟨its,rv,ht,hz⟩:=I.list hq;refine znO (I.ok.hd hc) ht.isList (by simp[hn,<- hl,rv.length]) hst fun h' hx=>?_
  have I1:Inv X pins σ H { s with heap:=h' }:=I.kept (t':=s.toks) fun b o e=>hx b o (Nat.ne_of_lt (Heap.lt_size e)) e
  exact hg.out pins _ σ H xs _ Q I1 (by simpa using rv) hw⟩
def ztX(n:Nat)(gs:DGs):DG:=fun d ρ μ Q=>zbe (zb2 μ d) fun ds=>ds.length=n/\gs ds ρ μ Q
instance{K:Frag}{fl:Wd}{n:Nat}{gs:TGs}{dgs:DGs}{S:List Nat}[b:zpk K fl gs dgs S]:zow K fl (gSq K n gs) (ztX n dgs) S:=⟨fun{W ρ μ σ H d x Q Q'} r e q h k=>by
 obtain⟨ds,hd,hl,h⟩:=zcg h;obtain⟨a,xs,rfl,hs,z⟩:=zdb r q hd;exact⟨a,xs,rfl,hs.symm,by rw[z.length];exact hl,b.run r e z h k⟩⟩
theorem zuw{n:Nat}{gs:DGs}{ds:List D}{ρ:zag}{μ:Mu}{R:zag->Mu->Prop}:ztX n gs (.lst ds) ρ μ R=(ds.length=n/\gs ds ρ μ R):=rfl
theorem zmj{d:D}{ns:List Str}{μ:Mu}{Q:DK}(hd:zaM μ d=some (ns.map D.str))(hz:ns.length < 64)(h:∀ns',List.Perm ns' ns->sortedS ns'=true->Q (.lst (ns'.map D.str)) μ):zdn [d] μ Q:= .inl (.inr ⟨ns,hd,hz,h⟩)
section
variable{X:Cx}{pins:List (Addr×Obj)}{σ:St}{H:Hp}{s:Shared}{a:Addr}{y v:V}{u r:Value}{A:Around}{E:Value->Shared->Prop}
end
section
variable{X:Cx}{tg iter kx vx:Expr}{ifs:List Expr}{scope:Scope}{pos:Pos}{own free:List Str}{fr:List Nat}
end
section
variable{X:Cx}{tg iter kx vx:Expr}{ifs:List Expr}{scope:Scope}{pos:Pos}{wi:TI}{g:TG}{tc:TT}{tk tv:TE}{o0:HO}
end
section
variable{K:Frag}{fl:Wd}{tk tv:TE}{wk wv:DE}{tc:TT}{wc:DT}{wi:TI}{di:DI}{g:TG}{dg:DG}{S:List Nat}
end
def zn0(wo wi wx:DE):DE:=fun ρ μ Q=>wo ρ μ fun d μ1=>zgg μ1 d (fun _ _=>True)/\wi ρ μ1 fun e μ2=>wx ρ μ2 fun x μ3=>zgg μ3 d fun ks vs=>zbe (ziv e) fun k=>Q ((zbN ks vs k).getD x) μ3
theorem zsw{X:Cx}{o e f:Expr}{apos cpos:Pos}{td ty tx:TE}(hu:X.A.units+1 < cLine)(ho:WE X o td)(he:WE X e ty)(hf:WE X f tx)(m:M2 X o "get" apos e f cpos):WE X (.Call (.Attribute o "get" apos) [e,f] [] cpos) (zn6 td ty tx):=⟨zqQ hu ho.out he.out hf.out m⟩
instance{K:Frag}{fl:Wd}{ta tb tx:TE}{wa wb wx:DE}[a:zZ K fl ta wa][b:zZ K fl tb wb][c:zZ K fl tx wx]:zZ K fl (zn6 ta tb tx) (zn0 wa wb wx):=⟨fun{W ρ μ σ H Q Q'} r e h k=>a.run r e h fun W1 d μ1 x H1 le1 r1 q1 h1=>by
 obtain⟨h1,h1'⟩:=h1;obtain⟨p,ks,vs,xs,rfl,ea,l,z,_⟩:=zdk r1 q1 h1;refine⟨p,rfl, .inl ⟨_,ea⟩,b.run r1 (e.mono le1) h1' fun W2 d2 μ2 y H2 le2 r2 q2 h2=>c.run r2 (e.mono (le1.trans le2)) h2 fun W3 d3 μ3 y3 H3 le3 r3 q3 h3=>?_⟩;obtain⟨p',ks',vs',xs',e',ea',l',z',h4⟩:=zdk r3 (q1.mono (le2.trans le3)) h3;cases e';obtain⟨kk,ek,h4⟩:=zcg h4;rw[zfB (q2.mono le3) ek];refine⟨_,zfY.kr ea',?_⟩;obtain⟨f1,f2⟩:=zha (k:=kk) l' z';cases eo:zbN ks' vs' kk with
 | none =>
  rw[f2 eo];rw[eo] at h4;exact k W3 d3 μ3 _ H3 (le1.trans (le2.trans le3)) r3 q3 h4
 | some v =>
  obtain⟨y',ey,qy⟩:=f1 v eo;rw[ey];rw[eo] at h4;exact k W3 v μ3 y' H3 (le1.trans (le2.trans le3)) r3 qy h4⟩
def two(a b:Int):Nat:=((b - a+1) / 2).toNat
section
variable{X:Cx}{tg:Expr}
end
section
variable{X:Cx}{CX:CXT}{k:Nat}{f:Addr}{fd:FuncData}{ps:List Str}{sp:Sp}{ds:List Value}{dvs:List V}{E:XK}
end
section
open PySem.Builtin PySem.Builtin.Str
end
section
variable{prog:Program}{w:World}{A:Around}{E:Value->Shared->Prop}{s:Shared}{b b1 b2:Bool}
end
section
variable{wA:DA}{ρ:zag}{μ:Mu}{R:List D->(Mu->Prop)->Mu->Prop}{d e:D}{ds:List D}{Q:List D->(Mu->Prop)->Prop}
end
def zeY:List Key->List PyData->Key->Option PyData
 | k::ks,p::ps,j=>if k=j then some p else zeY ks ps j
 | _,_,_=>none
def zjV(ks':List Key)(ps':List PyData):List Key->List PyData->Bool
 | k::ks,p::ps=>match zeY ks' ps' k with
  | none=>false
  | some q=>PyData.eqv p q&&zjV ks' ps' ks ps
 | _,_=>true
theorem zbH.uncons{K:Frag}{H:Hp}{d:PyData}{ds:List PyData}{xs:List V}(h:zbH K H (d::ds) xs):∃x r,xs=x::r/\Dat K H d x/\zbH K H ds r:=by unfold zbH at h;exact h
theorem zbH.nil0{K:Frag}{H:Hp}{xs:List V}(h:zbH K H [] xs):xs=[]:=by unfold zbH at h;exact h
section
variable{X:Cx}{pins:List (Addr×Obj)}{σ:St}{H:Hp}{s:Shared}
theorem zmx(I:Inv X pins σ H s):∀{ks:List Key} {xs:List V} {ps:List PyData} {vs:List (Key×Value)} (j:Key),ks.length=xs.length->zbH X.K H ps xs->KV (ks.zip xs) vs ->
  (zeY ks ps j=none->valueAt vs j=none)/\∀q,zeY ks ps j=some q->q∈ps/\∃y as,valueAt vs j=some y/\Reads s.heap y q as
 | [],xs,ps,vs,j,hl,hd,hv=>by
  cases xs with
  | cons _ _=>cases hl
  | nil =>
   cases hv;exact⟨fun _=>rfl,fun q e=>by cases ps<;>simp[zeY] at e⟩
 | k::ks,xs,ps,vs,j,hl,hd,hv=>by
  cases xs with
  | nil=>cases hl
  | cons x xs =>
   cases ps with
   | nil=>have:=hd.nil0;cases this
   | cons p ps =>
    obtain⟨x',r',e,d1,d2⟩:=hd.uncons;cases e;cases hv with
    | cons f hv =>
     rename_i b l2;obtain⟨e1,rv⟩:=f;obtain⟨kb,vb⟩:=b;have e1:k=kb:=e1;have rv:RelV x vb:=rv;subst e1;have ih:=zmx I (ks:=ks) (xs:=xs) (ps:=ps) (vs:=l2) j (by simpa using hl) d2 hv;unfold valueAt at ih ⊢;rw[List.find?_cons];by_cases h:k=j
     .subst h;simp only[zeY,if_true,decide_true,Option.map_some];refine⟨fun z=>(by cases z),fun q e=>?_⟩;cases e;obtain⟨as,r⟩:=d1.reads I rv;exact⟨List.mem_cons_self,vb,as,rfl,r⟩
     .simp only[zeY,if_neg h,decide_false,h];exact⟨ih.1,fun q e=>let ⟨m,y⟩:=ih.2 q e;⟨List.mem_cons_of_mem _ m,y⟩⟩
theorem zpn(I:Inv X pins σ H s){A:Around}(hu:A.units+61 < cLine){ks':List Key}{xs':List V}{ps':List PyData}{vs':List (Key×Value)}(hl':ks'.length=xs'.length)(hd':zbH X.K H ps' xs')(hv':KV (ks'.zip xs') vs')(ok':∀p∈ps',zdP p) :
  ∀{ks:List Key} {xs:List V} {ps:List PyData} {vs:List (Key×Value)},ks.length=xs.length->zbH X.K H ps xs->KV (ks.zip xs) vs->(∀p∈ps,zdP p)->PySem.W.KeqHits A s vs' vs (zjV ks' ps' ks ps)
 | [],xs,ps,vs,hl,hd,hv,ok=>by
  cases xs with
  | cons _ _=>cases hl
  | nil =>
   cases hv;cases ps<;>exact .nil
 | k::ks,xs,ps,vs,hl,hd,hv,ok=>by
  cases xs with
  | nil=>cases hl
  | cons x xs =>
   cases ps with
   | nil=>have:=hd.nil0;cases this
   | cons p ps =>
    obtain⟨x',r',e,d1,d2⟩:=hd.uncons;cases e;cases hv with
    | cons f hv =>
     rename_i b l2;obtain⟨e1,rv⟩:=f;obtain⟨kb,vb⟩:=b;have e1:k=kb:=e1;have rv:RelV x vb:=rv;subst e1;have ih:=zpn I hu hl' hd' hv' ok' (ks:=ks) (xs:=xs) (ps:=ps) (vs:=l2) (by simpa using hl) d2 hv (fun p hp=>ok p (List.mem_cons_of_mem _ hp));obtain⟨n1,n2⟩:=zmx I k hl' hd' hv';unfold zjV;cases e:zeY ks' ps' k with
     | none=>exact .miss (n1 e)
     | some q =>
      obtain⟨hm,y,bs,ey,ry⟩:=n2 q e;obtain⟨as,rx⟩:=d1.reads I rv;refine .hit ey (SeqAt.eqAt_reads p q A s vb y as bs rx ry (ok p List.mem_cons_self).lay (ok' q hm).lay ?_) ih;have:=(ok p List.mem_cons_self).deep;have:=Nat.min_le_left p.depth q.depth;omega
end
def zy7(K:Frag):R2:=fun x y H Q=>∃a b ks xs ks' xs' ps ps',x= .ref a/\y= .ref b/\Rd H a (.dK (ks.zip xs))/\Rd H b (.dK (ks'.zip xs'))/\ks.length=xs.length/\ks'.length=xs'.length/\zbH K H ps xs/\zbH K H ps' xs'/\(∀p∈ps,zdP p)/\(∀p∈ps',zdP p)/\Q (.bl (ks.length==ks'.length&&zjV ks' ps' ks ps)) H
theorem zr9{X:Cx}(K:Frag){k:Nat}{cm:Bool}(hr:zaC cm k X.A)(h:X.K=K:=by rfl):OpR X (compareOp .Eq) (zy7 K):=by
 subst h;intro pins s σ H x y v u Q I rx ry h;obtain⟨a,b,ks,xs,ks',xs',ps,ps',rfl,rfl,ea,eb,l1,l2,d1,d2,o1,o2,q⟩:=h;cases rx;cases ry;obtain⟨_,sa,va,ra,da⟩:_/\_/\∃vs,_/\_:=ea.ok I.hok;obtain⟨_,sb,vb,rb,db⟩:_/\_/\∃vs,_/\_:=eb.ok I.hok;have hu:=hr.units;have iu:X.A.in1.units+61 < cLine:=by
  have:=hr.un;have e:X.A.in1.units<=X.A.units+1:=by first | exact Nat.le_refl _ | (simp[Around.in1,Around.units])
  omega
 have len:∀{ks:List Key} {xs:List V} {vs:List (Key×Value)},ks.length=xs.length->KV (ks.zip xs) vs->vs.length=ks.length:=fun{ks xs vs} hl hv=>by
  have:=hv.length;rw[List.length_zip] at this;omega
 refine PySem.W.keq_eq (r:=zjV ks' ps' ks ps) sa sb da db (by omega) (fun _=>zpn I iu l2 d2 rb o2 l1 d1 ra o1) ⟨.bl _,H,I,?_,q⟩;rw[len l1 ra,len l2 rb];rfl
def zqh:DR2:=fun d e μ Q=>zgg μ d fun ks vs=>zgg μ e fun ks' vs'=>∃ps ps',zaS vs=some ps/\zaS vs'=some ps'/\(∀p∈ps,zdP p)/\(∀p∈ps',zdP p)/\Q (.bl (ks.length==ks'.length&&zjV ks' ps' ks ps)) μ
instance{K:Frag}{fl:Wd}:zbk K fl (zy7 K) zqh:=⟨fun{W μ H d e x y Q Q'} r q1 q2 h k=>by
 unfold zqh at h;obtain⟨p,ks,vs,xs,rfl,ea,l,z,h⟩:=zdk r q1 h;obtain⟨p',ks',vs',xs',rfl,ea',l',z',h⟩:=zdk r q2 h;obtain⟨ps,ps',e1,e2,o1,o2,hq⟩:=h;exact⟨p,p',ks,xs,ks',xs',ps,ps',rfl,rfl,ea,ea',l,l',zdf r.sub e1 z,zdf r.sub e2 z',o1,o2,k _ _ _ _ _ (.refl _) r .b hq⟩⟩
theorem zyU{d e:D}{μ:Mu}{Q:DK}:zqh d e μ Q=zgg μ d fun ks vs=>zgg μ e fun ks' vs'=>∃ps ps',zaS vs=some ps/\zaS vs'=some ps'/\(∀p∈ps,zdP p)/\(∀p∈ps',zdP p)/\Q (.bl (ks.length==ks'.length&&zjV ks' ps' ks ps)) μ:=rfl
section
variable{prog:Program}{w:World}{A:Around}{E:Value->Shared->Prop}{s:Shared}{b:Bool}
end
abbrev gN(p:Array Nat)(i:Nat):Nat:=p.getD i 0
section
variable{n:Nat}{lt:Nat->Nat->Bool}
def Srt(lt:Nat->Nat->Bool)(p:Array Nat)(m:Nat):Prop:=∀i j,i < j->j < m->lt (gN p j) (gN p i)=false
structure Ord(lt:Nat->Nat->Bool):Prop where
 as:∀a b,lt a b=true->lt b a=false
 tr:∀a b c,lt b a=false->lt c b=false->lt c a=false
variable(O:Ord lt)
include O
end
section
variable{prog:Program}{w:World}{A:Around}{E:Value->Shared->Prop}{s:Shared}{κ:SortKind}{lt:Nat->Nat->Bool}{h0:Heap}
end
section
variable{prog:Program}{w:World}{A:Around}{E:Value->Shared->Prop}{s:Shared}
end
section
variable{X:Cx}{pins:List (Addr×Obj)}{σ:St}{H:Hp}{s:Shared}
end
section
variable{X:Cx}(K:Frag)
end
section
variable{K:Frag}{W:Wd}
end
abbrev zzT:=List Key
def zmG:List D->Option zzT
 | []=>some []
 | d::r=>match ziv d,zmG r with
  | some k,some ks=>some (k::ks)
  | _,_=>none
section
variable{K:Frag}{fl:Wd}{W:Wd}
end
section
variable{K:Frag}{fl:Wd}{t:TA}{tv:TE}{w:DA}{wv:DE}{tc:TT}{wc:DT}{wi:TI}{di:DI}{g:TG}{dg:DG}{S:List Nat}
end
section
variable{prog:Program}{w:World}{A:Around}{R:Result->Shared->Prop}{I:Addr}{fp wr:List Addr}{n:Nat}{P:Nat->Value->Prop}{St:Nat->Heap->Prop}{h0:Heap}
end
section
variable{prog:Program}{w:World}{A:Around}{E:Value->Shared->Prop}{s:Shared}
end
section
variable{X:Cx}(K:Frag)
end
theorem zaF.there{P:Program}{w:World}{H:Hp}{h:Heap}{a:Addr}{o:HO}(x:zaF P w H h a o):∃u,h.get? a=some u:=by
 cases o with
 | lst xs=>obtain⟨_,_,_,_,e⟩:=x;exact⟨_,e⟩
 | tup xs=>obtain⟨_,_,_,o,e,_⟩:=x;exact⟨_,e⟩
 | dK kvs=>obtain⟨_,_,_,_,o,_,_,e,_⟩:=x;exact⟨_,e⟩
 | dT kvs=>obtain⟨_,_,_,_,o,_,_,e,_⟩:=x;exact⟨_,e⟩
 | set S n=>obtain⟨o,_,_,_,e,_⟩:=x;exact⟨_,e⟩
 | ins C dx fs=>obtain⟨_,_,_,e,_⟩:=x;exact⟨_,e⟩
 | own y=>obtain⟨_,e⟩:=x;exact⟨_,e⟩
 | xd fs=>obtain⟨_,⟨_,_,_,e,_⟩,_⟩:=x;exact⟨_,e⟩
 | rng lo hi=>obtain⟨_,_,_,e⟩:=x;exact⟨_,e⟩
 | frz ob u=>obtain⟨e,_⟩:=x;exact⟨_,e⟩
 | tbl ps=>exact⟨_,(show h.get? a=some _ from x)⟩
 | met f y=>exact⟨_,(show h.get? a=some _ from x)⟩
 | ext φ=>obtain⟨_,⟨_,e⟩,_⟩:=x;exact⟨_,e⟩
theorem HOk.keptT{P:Program}{w:World}{H:Hp}{h h':Heap}(x:HOk P w H h)(k:∀b u,H b≠none->h.get? b=some u->h'.get? b=some u):HOk P w H h':=fun a o e =>
 (x a o e).stay (fun b u hb q=>k b u (hb.elim (fun z=>by rw[z,e];simp) fun z=>by rw[z];simp) q) (fun _ q=>q) fun _ _ q=>q
theorem zqK{M:Model}{A:Around}{E:Value->Shared->Prop}{s:Shared}{base:Heap}{env:Env}{outer:List Env}{L e:Addr}{oe:Obj}{vs:Array Value}{hd:Value}{Q:Unit->Shared->Prop}
  (hfr:A.frames=some (env::outer))(hL:env.frame=some L)(ff:s.heap.FunFrames base (env::outer))(he:s.heap.get? e=some oe)(hv:oe.data= .fields vs)(h1:vs[1]? = some hd)
  (hhd:hd= .none\/∃T oT ts f3,hd= .ref T/\T≠e/\s.heap.get? T=some oT/\oT.data= .fields ts/\ts[3]? = some f3/\(f3==rawInt L)=false)
  (k:∀(h':Heap) (tb:Addr),h'.get? e=some (Obj.mapFields (fun x=>x.setIfInBounds 1 (.ref tb)) oe)->tb≠e->(∃ts,h'.get? tb=some { cls:= .type "traceback",data:= .fields ts }/\ts[3]? = some (rawInt L))->s.heap.get? tb=none ->
   (∀b o,b∉frs (env::outer)->b≠e->hd≠ .ref b->s.heap.get? b=some o->h'.get? b=some o)->(∀b o,b∈frs (env::outer)->s.heap.get? b=some o->∃sl,h'.get? b=some { o with slots:=sl })->Q () { s with heap:=h' }) :
  wpAny M A (noteFrame (.ref e) env) Q E s:=by
 have nfe:e∉frs (env::outer):=fun z=>by
  obtain⟨_,o,ho,nf⟩:=ff.mem (b:=e) z;rw[he] at ho;cases ho;exact nf vs hv
 have main:∀(g:Heap),g.objs.size=s.heap.objs.size->g.FunFrames base (env::outer)->g.get? e=some oe->(∀b o,b≠e->hd≠ .ref b->s.heap.get? b=some o->g.get? b=some o) ->
   (∀b o,b∈frs (env::outer)->s.heap.get? b=some o->g.get? b=some o)->(∀b,s.heap.get? b=none->g.get? b=none) ->
   ∀hn,wpAny M A (do
    let a<-PySem.frameOf env
    let pl<-entryPlaceOf L hn
    let b<-EntryCells.newEntry hd a Value.none (rawInt L) Value.none pl
    setField (.ref e) 1 b) Q E { s with heap:=g }:=fun g sz fg eg kg kf ng hn=>by
  refine wpAny_bind (wpAny_frameOf_fun hfr fg hL fun h2 so=>?_);refine wpAny_bind (wpAny_entryPlaceOf fun pl hp=>?_);unfold EntryCells.newEntry newFields;obtain⟨so1,so2,so3⟩:=so;have e2:h2.get? e=some oe:=by rw[so2 e nfe];exact eg
  have hsz0:sizeOk (Data.fields ([hd,Value.ref L,Value.none,rawInt L,Value.none]++if pl.isEmpty=true then List.replicate 6 Value.none else pl).toArray):=by
   rcases hp with rfl | ⟨_,_,_,_,_,_,_,rfl⟩
   .show 11<=sizeLine+2;decide
   .show 11<=sizeLine+2;decide
  refine wpAny_bind (wpAny_newObj_type ?_ hsz0);have hvs:1 < vs.size:=by
   rcases Nat.lt_or_ge 1 vs.size with z | z
   .exact z
   .rw[Array.getElem?_eq_none z] at h1;cases h1
  have htb:h2.objs.size=s.heap.objs.size:=so1.trans sz;have hne:h2.objs.size≠e:=fun z=>absurd (Heap.lt_size e2) (by rw[z];exact Nat.lt_irrefl _)
  refine wpAny_setField (Heap.get?_push_of_some _ e2) hv hvs ?_;refine k _ h2.objs.size ?_ hne ⟨([hd,Value.ref L,Value.none,rawInt L,Value.none]++if pl.isEmpty=true then List.replicate 6 Value.none else pl).toArray,?_,?_⟩ (Heap.get?_none_of_le (Nat.le_of_eq htb.symm)) (fun b o hb h1 h2' q=>?_) (fun b o hb q=>?_)
  .exact Heap.get?_update_self _ (Heap.get?_push_of_some _ e2) (by
    obtain⟨c,d,dt,sl⟩:=oe;have hv':dt= .fields vs:=hv;subst hv';rfl)
  .rw[Heap.get?_update_other _ _ (Ne.symm hne)];exact Heap.get?_push_size _ rfl
  .rfl
  .rw[Heap.get?_update_other _ _ (Ne.symm h1)];exact Heap.get?_push_of_some _ (by rw[so2 b hb];exact kg b o h1 h2' q)
  .have hbe:b≠e:=fun z=>nfe (z▸hb)
   obtain⟨sl,q2⟩:=so3 b o (kf b o hb q);exact⟨sl,by rw[Heap.get?_update_other _ _ (Ne.symm hbe)];exact Heap.get?_push_of_some _ q2⟩
 unfold noteFrame;rw[hL];refine wpAny_bind (wpAny_field he hv h1 ?_);rcases hhd with rfl | ⟨T,oT,ts,f3,rfl,hTe,hT,hTd,h3,hf3⟩
 .exact main s.heap rfl ff he (fun b o _ _ q=>q) (fun b o _ q=>q) (fun b q=>q) _
 .refine(show wpAny M A (do
    let h3<-field (.ref T) 3
    if (h3==rawInt L)=true then pure () else do
     let _<-setField (.ref T) 3 .none
     (do
      let a<-PySem.frameOf env
      let pl<-entryPlaceOf L true
      let b<-EntryCells.newEntry (.ref T) a Value.none (rawInt L) Value.none pl
      setField (.ref e) 1 b)) Q E s from ?_)
  refine wpAny_bind (wpAny_field hT hTd h3 ?_);rw[if_neg (by rw[hf3];decide)];have hsz:3 < ts.size:=by
   rcases Nat.lt_or_ge 3 ts.size with z | z
   .exact z
   .rw[Array.getElem?_eq_none z] at h3;cases h3
  have nfT:T∉frs (env::outer):=fun z=>by
   obtain⟨_,o,ho,nf⟩:=ff.mem (b:=T) z;rw[hT] at ho;cases ho;exact nf ts hTd
  refine wpAny_bind (wpAny_setField hT hTd hsz ?_);refine main _ (Heap.size_update _ _ _) ?_ (by rw[Heap.get?_update_other _ _ hTe];exact he) (fun b o _ hb q=>?_) (fun b o hb q=>?_) (fun b q=>?_) _
  .refine ff.of_keeps fun b o q nf=>⟨o,?_,rfl⟩
   refine Heap.get?_update_of_ne _ (fun z=>?_) q;subst z;rw[hT] at q;cases q;exact nf ts hTd
  .exact Heap.get?_update_of_ne _ (fun z=>hb (by rw[z])) q
  .exact Heap.get?_update_of_ne _ (fun z=>nfT (z▸hb)) q
  .rw[Heap.get?_update_other _ _ (fun z=>by subst z;rw[hT] at q;cases q)];exact q
def Fly(g:Heap)(H:Hp)(h:Heap)(e C:Addr)(dx:Option Addr)(f3:Value):Prop :=
 ∃oe vs T oT ts,h.get? e=some oe/\oe.cls= .ref C/\oe.dict=dx/\oe.data= .fields vs/\vs[1]? = some (.ref T)/\T≠e/\h.get? T=some oT/\oT.data= .fields ts/\ts[3]? = some f3/\H e=none/\H T=none/\g.get? e=none/\g.get? T=none
def Made(g:Heap)(H:Hp)(h:Heap)(e C:Addr)(dx:Option Addr):Prop :=
 ∃oe vs,h.get? e=some oe/\oe.cls= .ref C/\oe.dict=dx/\oe.data= .fields vs/\vs[1]? = some .none/\H e=none/\g.get? e=none
structure zdE(g:Heap)(H:Hp)(fs:List Addr)(h h':Heap):Prop where
 keep:∀b o,h.get? b=some o->b∉fs->(H b≠none\/g.get? b≠none)->h'.get? b=some o
 slot:∀b o,h.get? b=some o->b∈fs->∃sl,h'.get? b=some { o with slots:=sl }
theorem zdE.trans{g:Heap}{H:Hp}{fs:List Addr}{h h1 h2:Heap}(a:zdE g H fs h h1)(b:zdE g H fs h1 h2):zdE g H fs h h2:=⟨fun c o e n t=>b.keep c o (a.keep c o e n t) n t,fun c o e n=>by
 obtain⟨sl,e1⟩:=a.slot c o e n;obtain⟨sl2,e2⟩:=b.slot c _ e1 n;exact⟨sl2,e2⟩⟩
theorem zdE.hok{P:Program}{w:World}{g:Heap}{H:Hp}{fs:List Addr}{h h':Heap}(k:zdE g H fs h h')(hf:∀b∈fs,H b=none)(x:HOk P w H h):HOk P w H h' :=
 x.keptT fun b u hb q=>k.keep b u q (fun z=>hb (hf b z)) (.inl hb)
theorem zyp{f:Array Value->Array Value}{o:Obj}{vs:Array Value}(h:o.data= .fields vs):(Obj.mapFields f o).cls=o.cls/\(Obj.mapFields f o).dict=o.dict/\(Obj.mapFields f o).data= .fields (f vs)/\(Obj.mapFields f o).isFreed=false:=by
 obtain⟨c,d,dt,sl⟩:=o;have h':dt= .fields vs:=h;subst h';exact⟨rfl,rfl,rfl,rfl⟩
theorem zro{vs:Array Value}{i:Nat}{x y:Value}(h:vs[i]? = some y):(vs.setIfInBounds i x)[i]? = some x:=by
 have hi:i < vs.size:=by
  rcases Nat.lt_or_ge i vs.size with z | z
  .exact z
  .rw[Array.getElem?_eq_none z] at h;cases h
 rw[Array.getElem?_setIfInBounds_self_of_lt hi]
section
variable{P:Program}{w:World}{M:Model}{A:Around}{E:Value->Shared->Prop}{s:Shared}{base g:Heap}{env:Env}{outer:List Env}{L e C:Addr}{dx:Option Addr}{H:Hp}{f3:Value}
theorem znd{oe:Obj}{vs:Array Value}{hd:Value}{Q:Unit->Shared->Prop}(hfr:A.frames=some (env::outer))(hL:env.frame=some L)(ff:s.heap.FunFrames base (env::outer))(hok:HOk P w H s.heap)(hg:∀b,s.heap.get? b=none->g.get? b=none)
  (he:s.heap.get? e=some oe)(hc:oe.cls= .ref C)(hd':oe.dict=dx)(hv:oe.data= .fields vs)(h1:vs[1]? = some hd)(hHe:H e=none)(hge:g.get? e=none)
  (hhd:hd= .none\/∃T oT ts f3,hd= .ref T/\T≠e/\s.heap.get? T=some oT/\oT.data= .fields ts/\ts[3]? = some f3/\(f3==rawInt L)=false/\H T=none/\g.get? T=none)
  (k:∀h',Fly g H h' e C dx (rawInt L)->zdE g H (frs (env::outer)) s.heap h'->Q () { s with heap:=h' }):wpAny M A (noteFrame (.ref e) env) Q E s:=by
 refine zqK hfr hL ff he hv h1 (hhd.imp_right fun⟨T,oT,ts,f3,a,b,c,d,f,f',_,_⟩=>⟨T,oT,ts,f3,a,b,c,d,f,f'⟩) fun h' tb e1 ne ⟨ts',t1,t2⟩ tn kp sl=>?_
 obtain⟨m1,m2,m3,_⟩:=zyp (f:=fun x=>x.setIfInBounds 1 (.ref tb)) hv;have hT:H tb=none:=by
  cases r:H tb with
  | none=>rfl
  | some o=>obtain⟨u,hu⟩:=(hok tb o r).there;rw[tn] at hu;cases hu
 refine k h' ⟨_,_,tb,_,ts',e1,m1.trans hc,m2.trans hd',m3,zro h1,ne,t1,rfl,t2,hHe,hT,hge,hg tb tn⟩ ⟨fun b o q hb hn=>kp b o hb (fun z=>?_) (fun z=>?_) q,fun b o q hb=>sl b o hb q⟩
 .subst z;rcases hn with n | n
  .exact n hHe
  .exact n hge
 .rcases hhd with h0 | ⟨T,oT,ts,f3,h0,_,_,_,_,_,n1,n2⟩
  .rw[h0] at z;cases z
  .rw[h0] at z;cases z;rcases hn with n | n
   .exact n n1
   .exact n n2
theorem zmD{Q:Unit->Shared->Prop}(hfr:A.frames=some (env::outer))(hL:env.frame=some L)(ff:s.heap.FunFrames base (env::outer))(hok:HOk P w H s.heap)(hg:∀b,s.heap.get? b=none->g.get? b=none)(F:Fly g H s.heap e C dx .none)
  (k:∀h',Fly g H h' e C dx (rawInt L)->zdE g H (frs (env::outer)) s.heap h'->Q () { s with heap:=h' }):wpAny M A (noteFrame (.ref e) env) Q E s:=by
 obtain⟨oe,vs,T,oT,ts,h1,h2,h3,h4,h5,h6,h7,h8,h9,h10,h11,h12,h13⟩:=F;exact znd (P:=P) (w:=w) hfr hL ff hok hg h1 h2 h3 h4 h5 h10 h12 (.inr ⟨T,oT,ts,_,rfl,h6,h7,h8,h9,rfl,h11,h13⟩) k
theorem ziC{Q:Unit->Shared->Prop}{l:List Env}(ff:s.heap.FunFrames base l)(F:Fly g H s.heap e C dx f3)
  (k:∀h',Fly g H h' e C dx .none->zdE g H (frs l) s.heap h'->(∀b,s.heap.get? b=none->h'.get? b=none)->h'.FunFrames base l->Q () { s with heap:=h' }):wpAny M A (setFlight (.ref e) none) Q E s:=by
 obtain⟨oe,vs,T,oT,ts,h1,h2,h3,h4,h5,h6,h7,h8,h9,h10,h11,h12,h13⟩:=F;have hsz:3 < ts.size:=by
  rcases Nat.lt_or_ge 3 ts.size with z | z
  .exact z
  .rw[Array.getElem?_eq_none z] at h9;cases h9
 obtain⟨m1,m2,m3,m4⟩:=zyp (f:=fun x=>x.setIfInBounds 3 .none) h8;refine wpAny_setFlight_none h1 h4 h5 h7 h8 hsz (k _ ⟨oe,vs,T,_,_,?_,h2,h3,h4,h5,h6,Heap.get?_update_self _ h7 m4,m3,zro h9,h10,h11,h12,h13⟩ ⟨fun b o q hb hn=>?_,fun b o q hb=>?_⟩ (fun b q=>?_) ?_)
 .rw[Heap.get?_update_other _ _ h6];exact h1
 .refine Heap.get?_update_of_ne _ (fun z=>?_) q;subst z;rcases hn with n | n
  .exact n h11
  .exact n h13
 .obtain⟨_,o2,ho2,nf⟩:=ff.mem (b:=b) hb;refine⟨o.slots,Heap.get?_update_of_ne _ (fun z=>?_) q⟩;subst z;rw[h7] at ho2;cases ho2;exact nf ts h8
 .rw[Heap.get?_update_other _ _ (fun z=>by subst z;rw[h7] at q;cases q)];exact q
 .refine ff.of_keeps fun b o q nf=>⟨o,Heap.get?_update_of_ne _ (fun z=>?_) q,rfl⟩
  subst z;rw[h7] at q;cases q;exact nf ts h8
theorem zdE.ff{l:List Env}{h h':Heap}(k:zdE g H (frs l) h h')(ff:h.FunFrames base l):h'.FunFrames base l:=by
 have all:∀l':List Env,(∀b∈frs l',b∈frs l)->h.FunFrames base l'->h'.FunFrames base l':=by
  intro l';induction l' with
  | nil=>intro _ _;trivial
  | cons env r ih =>
   intro hs hl;obtain⟨hk,⟨L,o,hf,hn,ho,hd⟩,hr⟩:=hl;have hL:L∈frs l:=hs L (by unfold frs;rw[List.filterMap_cons,hf];exact List.mem_cons_self);obtain⟨sl,e⟩:=k.slot L o ho hL;exact⟨hk,⟨L,_,hf,hn,e,hd⟩,ih (fun b hb=>hs b (by unfold frs;rw[List.filterMap_cons,hf];exact List.mem_cons_of_mem _ hb)) hr⟩
 exact all l (fun _ h=>h) ff
theorem zpO{Q:Unit->Shared->Prop}(hfr:A.frames=some (env::outer))(hL:env.frame=some L)(ff:s.heap.FunFrames base (env::outer))(hok:HOk P w H s.heap)(hg:∀b,s.heap.get? b=none->g.get? b=none)(F:Fly g H s.heap e C dx .none)
  (k:∀h',Fly g H h' e C dx .none->zdE g H (frs (env::outer)) s.heap h'->Q () { s with heap:=h' }):wpAny M A (leaving env (.ref e)) Q E s:=by
 unfold leaving;refine wpAny_bind (zmD (P:=P) (w:=w) hfr hL ff hok hg F fun h1 F1 S1=>?_);exact ziC (S1.ff ff) F1 fun h2 F2 S2 _ _=>k h2 F2 (S1.trans S2)
theorem znz{Q:Unit->Shared->Prop}(hfr:A.frames=some (env::outer))(hL:env.frame=some L)(ff:s.heap.FunFrames base (env::outer))(hok:HOk P w H s.heap)(hg:∀b,s.heap.get? b=none->g.get? b=none)(F:Made g H s.heap e C dx)
  (k:∀h',Fly g H h' e C dx .none->zdE g H (frs (env::outer)) s.heap h'->Q () { s with heap:=h' }):wpAny M A (leaving env (.ref e)) Q E s:=by
 obtain⟨oe,vs,h1,h2,h3,h4,h5,h6,h7⟩:=F;unfold leaving;refine wpAny_bind (znd (P:=P) (w:=w) hfr hL ff hok hg h1 h2 h3 h4 h5 h6 h7 (.inl rfl) fun h1 F1 S1=>?_);exact ziC (S1.ff ff) F1 fun h2 F2 S2 _ _=>k h2 F2 (S1.trans S2)
end
theorem zpZ{prog:Program}{w:World}{A:Around}{E:Value->Shared->Prop}{s:Shared}{K:W.Frag}{x D:Addr}{ox:Obj}{odo:Option Obj}{Q:Option Value->Shared->Prop}(KX:K.In s.heap)(J:W.InstAt s.heap x ox D odo)
  (hga:W.findIn K (.ref D) "__getattribute__"=some (some (.builtin "BaseException.__getattribute__")))(hgh:W.findIn K (.ref D) "__getattr__"=some none)
  (hb:W.mroIn K D (.type "BaseException")=some true)(ho:W.mroIn K D (.type "object")=some true)
  (hf:W.findObj K D odo "__class__"=some (.bind (.builtin "getset_descriptor.__get__") (.builtin "object.__class__")))
  (q:Q (some (.ref D)) { s with toks:=s.toks+1 }):wpAny (model prog w) A (getAttr? (.ref x) "__class__") Q E s:=by
 unfold getAttr?;refine wpAny_bind (wpAny_mkText ?_);unfold getAttrBy?;refine wpAny_bind (wpAny_attempt ?_);unfold getAttrBy;refine wpAny_holding (wpAny_bind (J.type.at ?_));refine wpAny_bind ((W.looks_findIn KX hga).at ?_);refine(show wpAny (model prog w) A (getAttrByItsOwn (.ref x) (.str "__class__" s.toks) (.ref D) (.builtin "BaseException.__getattribute__") false false) _ _ _ from ?_);unfold getAttrByItsOwn;refine wpAny_bind ((W.looks_findIn KX hgh).at ?_);refine wpAny_bind (wpAny_attempt (wpAny_holding ?_));refine(show wpAny (model prog w) A (boundAndCalled (.builtin "BaseException.__getattribute__") (.ref x) (.str "__class__" s.toks)) _ _ _ from ?_);unfold boundAndCalled;rw[F.excAttr_ValueError.ga.bind];refine wpAny_bind (wpAny_pure ?_);refine wpAny_call (codeAny_call_builtin (by decide+kernel) F.entry_bexc_ga ?_);have hck:∀{A:Around} {Q:Unit->Shared->Prop} {E:Value->Shared->Prop} {tk:Nat},Q () { s with toks:=tk }->wpAny (model prog w) A (checkBuiltinCall "BaseException.__getattribute__" ⟨[.ref x, .str "__class__" s.toks],[]⟩) Q E { s with toks:=tk }:=by
  intro A Q E tk hq;refine(show wpAny (model prog w) A (isInstance (.ref x) (.type "BaseException") >>= _) _ _ _ from ?_);refine wpAny_bind ?_;unfold isInstance;refine wpAny_bind (J.type.at ((W.looks_mroIn KX hb).at ?_));have e:(match Manifest.signature? "BaseException.__getattribute__" with
   | some sig=>Bind.checkArgs "BaseException.__getattribute__" sig ⟨[.ref x, .str "__class__" s.toks],[]⟩
   | none=>pure ())=pure ():=F.args_bexc_ga (.ref x) (.str "__class__" s.toks)
  refine(show wpAny (model prog w) A (match Manifest.signature? "BaseException.__getattribute__" with
   | some sig=>Bind.checkArgs "BaseException.__getattribute__" sig ⟨[.ref x, .str "__class__" s.toks],[]⟩
   | none=>pure ()) _ _ _ from ?_)
  rw[e];exact wpAny_pure hq
 refine hck ?_;unfold Builtin.«object.__getattribute__»;refine wpAny_bind (show wpAny _ _ (pure (Value.ref x,[Value.str "__class__" s.toks])) _ _ _ from wpAny_pure ?_);refine wpAny_bind (show wpAny _ _ (pure ("__class__":Str)) _ _ _ from wpAny_pure ?_);refine wpAny_bind (J.type.at (wpAny_bind ((W.looks_find KX J hf).at ?_)));unfold Builtin.ObjectAttr.bindTo;refine(show wpAny (model prog w) A.in1 (holding [Value.builtin "object.__class__"] (call (Value.builtin "getset_descriptor.__get__") [Value.builtin "object.__class__", .ref x, .ref D]) >>= fun v=>ret v) _ _ _ from ?_);refine wpAny_bind (wpAny_holding (wpAny_call (W.class_get KX J ho ?_)));refine(show wpAny (model prog w) A.in1 (pure _) _ _ _ from wpAny_pure ?_);refine(show wpAny (model prog w) A (handedOut (Value.ref D)) _ _ _ from ?_);rw[W.handedOut_of rfl];exact wpAny_pure (wpAny_pure q)
structure zkc(K:W.Frag)(D:Addr):Prop where
 ga:W.findIn K (.ref D) "__getattribute__"=some (some (.builtin "BaseException.__getattribute__"))
 gh:W.findIn K (.ref D) "__getattr__"=some none
 hb:W.mroIn K D (.type "BaseException")=some true
 ho:W.mroIn K D (.type "object")=some true
 fc:W.findIn K (.ref D) "__class__"=some (some (.builtin "object.__class__"))
 sp:W.specialIn K (.builtin "object.__class__") "__get__"=some (some (.builtin "getset_descriptor.__get__"))
 tk:W.takesIn K (.builtin "object.__class__")=some true
 hk:W.kitCls K (.ref D) (.ref D)=some true
theorem zkc.cls{K:W.Frag}{D:Addr}(c:zkc K D):∃cd,W.clsIn K D=some cd:=by
 have h:=c.hk;unfold W.kitCls at h;cases e:W.clsIn K D with
 | some cd=>exact⟨cd,rfl⟩
 | none=>simp[e] at h
theorem zkc.find{K:W.Frag}{D:Addr}(c:zkc K D)(od:Option Obj):W.findObj K D od "__class__"=some (.bind (.builtin "getset_descriptor.__get__") (.builtin "object.__class__")):=by
 obtain⟨cd,e⟩:=c.cls;unfold W.findObj;rw[e];simp only[Option.bind_some];rw[show W.findIn K (Value.ref D) (Str.ofString "__class__")=_ from c.fc];simp only[Option.bind_some];rw[show W.specialIn K (.builtin "object.__class__") (Str.ofString "__get__")=_ from c.sp];simp only[Option.bind_some];rw[c.tk];rfl
theorem zkc.kit{K:W.Frag}{x D:Addr}{ox:Obj}{od:Option Obj}(c:zkc K D):W.KitX K (.ref x) (.ref D) (fun h=>W.InstAt h x ox D od) where
 ty:=fun M h KX J=>J.type
 it:=fun M h KX J=>(W.kit_cls KX c.hk).2.1
 ne:=fun h tp dd its n sl KX hh=>by
  obtain⟨cd,e⟩:=c.cls;unfold W.clsIn at e;split at e
  .rename_i q;have:=KX _ _ q;refine beq_eq_false_iff_ne.mpr fun z=>?_
   cases z;rw[hh] at this;cases this
  .cases e
 ca:=fun KX J q=>zpZ KX J c.ga c.gh c.hb c.ho (c.find od) q
theorem zqd{K:W.Frag}{h:Heap}{C:Addr}{bmB:List Value}{newId:String}(KX:K.In h)(e:W.excIn K C bmB newId=true) :
  ∃bm N nm q bs hdct sn sub ab col dd k0 k1 k2 k3 k5 mN,h.get? C=some (excClassObj nm q C N bs bm hdct sn sub ab col dd k0 k1 k2 k3 k5 newId)/\h.Ns N mN/\mN "__init__"=none/\OwnTail h bmB bm:=by
 unfold W.excIn at e;split at e
 .rename_i dict cd sl hl;split at e
  .rename_i C' bm k0 k1 k2 k3 n k5 hm hs;simp only[Bool.and_eq_true,beq_iff_eq,Bool.not_eq_true'] at e;obtain⟨⟨⟨⟨⟨e1,e2⟩,e3⟩,e4⟩,e5⟩,e6⟩:=e;subst e1;subst e2;obtain⟨nm,bs,mro,ns,qn,hdct,sn,sub,ab,col,hdel⟩:=cd;have hm':mro= .ref C'::bm:=hm;have e3':hdel=false:=e3;subst hm';subst e3';have hsl:sl= #[k0,k1,k2,k3,some (.builtin n),k5]:=by
    have:=congrArg List.toArray hs;simpa using this
   subst hsl;refine⟨bm,ns,nm,qn,bs,hdct,sn,sub,ab,col,dict,k0,k1,k2,k3,k5,h.nsMap ns,KX _ _ hl,?_,W.nsMap_none_of_in KX e5 e6,W.tail_of_in KX e4⟩;have:=W.isNs_of_in KX e5;exact Heap.Ns.of_isNs this
  .cases e
 .cases e
def CX1(P:Program)(w:World):CXT:=fun outer H s E e s'=>∃a C dx H',e= .ref a/\s'.os=s.os/\AllBare s'.gens/\Un (frs outer) [] H H' s.heap s'.heap/\HOk P w H' s'.heap/\Fly s.heap H' s'.heap a C dx .none/\E (.ref C) dx H'
theorem Fly.old{g g':Heap}{H:Hp}{h:Heap}{e C:Addr}{dx:Option Addr}{f3:Value}(F:Fly g H h e C dx f3)(k:∀b,g.get? b=none->g'.get? b=none):Fly g' H h e C dx f3:=by
 obtain⟨oe,vs,T,oT,ts,h1,h2,h3,h4,h5,h6,h7,h8,h9,h10,h11,h12,h13⟩:=F;exact⟨oe,vs,T,oT,ts,h1,h2,h3,h4,h5,h6,h7,h8,h9,h10,h11,k _ h12,k _ h13⟩
structure Fr0(X:Cx)(pins:List (Addr×Obj))(g:Heap):Prop where
 loc:g.get? X.env.locals≠none
 cell:∀x c,X.env.cells.lookup x=some c->g.get? c≠none
 pin:∀p∈X.pn++pins,g.get? p.1≠none
 old:∀b o,X.s₀.heap.get? b=some o->g.get? b≠none
section
variable{X:Cx}{pins:List (Addr×Obj)}{σ:St}{H:Hp}{s:Shared}{g h':Heap}
theorem Inv.fr0(I:Inv X pins σ H s)(hx:∀b∈X.ex,∃o,(b,o)∈X.pn):Fr0 X pins s.heap where
 loc:=by obtain⟨m,⟨o,es,ep,ho,_⟩,_⟩:=I.loc;rw[ho];simp
 cell:=fun x c e=>by obtain⟨v,o,ho,_⟩:=I.cell x c e;rw[ho];simp
 pin:=fun p hp=>by rw[(I.pin p hp).1];simp
 old:=fun b o e=>by
  by_cases hb:b∈X.ex
  .obtain⟨o',ho⟩:=hx b hb;rw[(I.pin (b,o') (List.mem_append_left _ ho)).1];simp
  .obtain⟨o',e'⟩:=I.base.there b o e hb;rw[e'];simp
theorem Fr0.none(F0:Fr0 X pins g):∀b,g.get? b=none->X.s₀.heap.get? b=none:=fun b q=>by
 cases r:X.s₀.heap.get? b with
 | none=>rfl
 | some o=>exact absurd q (F0.old b o r)
theorem Inv.noted{t':Nat}(I:Inv X pins σ H s)(F0:Fr0 X pins g)(S:zdE g H (frs X.stack) s.heap h'):Inv X pins σ H { s with heap:=h',toks:=t' }:=by
 have kp:∀b o,s.heap.get? b=some o->b∉frs X.stack->g.get? b≠none->h'.get? b=some o:=fun b o e n hg=>S.keep b o e n (.inr hg)
 have sl:∀b o,s.heap.get? b=some o->g.get? b≠none->∃sl,h'.get? b=some { o with slots:=sl }:=fun b o e hg=>by
  by_cases hb:b∈frs X.stack
  .exact S.slot b o e hb
  .exact⟨o.slots,kp b o e hb hg⟩
 have cellK:∀x c,X.env.cells.lookup x=some c->∀v,s.heap.IsCell c v->h'.IsCell c v:=fun x c e v ⟨o,ho,hd⟩=>by
  obtain⟨sl,q⟩:=sl c o ho (F0.cell x c e);exact⟨_,q,hd⟩
 have neL:∀b o,X.s₀.heap.get? b=some o->b≠X.env.locals:=fun b o e=>Nat.ne_of_lt (Nat.lt_of_lt_of_le (Heap.lt_size e) I.ok.above)
 have nst:∀b,b≠X.env.locals->b∉X.fs->b∉frs X.stack:=fun b h1 h2 z=>(List.mem_cons.mp (I.stkSub b z)).elim h1 h2
 refine⟨I.ok,I.os,I.bare,⟨fun b o e n hb hx=>kp b o (I.base.keep b o e n hb hx) (nst b (neL b o e) hb) (F0.old b o e),fun b o e n hb hx=>?_,I.base.free,fun b o e hx=>?_,I.base.tups,I.base.frzs,I.base.tbls⟩,?_,fun x c e=>?_,I.free,I.freeC,fun p hp=>?_,S.hok I.stkFree I.hok,I.len⟩
 .obtain⟨sl1,e1⟩:=I.base.slot b o e n hb hx;obtain⟨sl2,e2⟩:=sl b _ e1 (F0.old b o e);exact⟨sl2,e2⟩
 .obtain⟨o1,e1⟩:=I.base.there b o e hx;obtain⟨sl2,e2⟩:=sl b _ e1 (F0.old b o e);exact⟨_,e2⟩
 .obtain⟨m,⟨o,es,ep,ho,r⟩,hl⟩:=I.loc;obtain⟨sl2,e2⟩:=sl _ o ho F0.loc;refine⟨m,⟨_,es,ep,e2,r⟩,fun i x v e1 e2 e3=>?_⟩;obtain⟨u,r,l⟩:=hl i x v e1 e2 e3;refine⟨u,r,?_⟩;rcases l with l | ⟨k,c,e,z⟩
  .exact .inl l
  .exact .inr ⟨k,c,e,cellK x c e _ z⟩
 .obtain⟨v,z⟩:=I.cell x c e;exact⟨v,cellK x c e v z⟩
 .obtain⟨e,n,ne,nf,d⟩:=I.pin p hp;exact⟨kp p.1 p.2 e (nst _ ne nf) (F0.pin p hp),n,ne,nf,d⟩
theorem Inv.track{a:Addr}{o:HO}(I:Inv X pins σ H s)(F0:Fr0 X pins g)(hg:g.get? a=none)(hn:H a=none)(new:zaF X.prog X.w (upd H a o) s.heap a o):Inv X pins σ (upd H a o) s:=by
 have ne:∀b,g.get? b≠none->b≠a:=fun b h z=>h (z▸hg)
 refine⟨I.ok,I.os,I.bare,⟨I.base.keep,I.base.slot,fun b o e n hx=>by rw[zJ (ne b (F0.old b o e))];exact I.base.free b o e n hx,I.base.there,fun b xs e=>by rw[zJ (zai (I.base.tups b xs e) hn)];exact I.base.tups b xs e,fun b o u e=>by rw[zJ (zai (I.base.frzs b o u e) hn)];exact I.base.frzs b o u e,fun b ps e=>?_⟩,I.loc,I.cell,?_,fun x c e=>?_,fun p hp=>?_,fun b u e=>?_,I.len⟩
 .obtain⟨m,e1⟩:=I.base.tbls b ps e;exact⟨m,by rw[zJ (zai e1 hn)];exact e1⟩
 .rw[zJ (ne _ F0.loc)];exact I.free
 .rw[zJ (ne _ (F0.cell x c e))];exact I.freeC x c e
 .obtain⟨e,n,q⟩:=I.pin p hp;exact⟨e,by rw[zJ (ne _ (F0.pin p hp))];exact n,q⟩
 .by_cases hb:b=a
  .subst hb;rw[zH] at e;cases e;exact new
  .rw[zJ hb] at e;exact(I.hok b u e).stay (fun c v _ q=>q) (fun c q=>by rw[zJ (zai q hn)];exact q) fun c xs q=>by rw[zJ (zai q hn)];exact q
theorem Inv.unset{i:Nat}{x:Str}{v:Option Value}{m:Str->Option Value}{t':Nat}(I:Inv X pins σ H s)(hN:X.N.Nodup)(hi:X.N[i]? = some x)(hx:X.env.scope.names.lookup x=some .local)
  (hm:∀(i:Nat) (y:Str) (w:V),X.N[i]? = some y->σ[i]? = some (some w)->Vis X.env.scope y->∃u,RelV w u/\Look X.env s.heap m y u)
  (hn:h'.Ns X.env.locals fun y=>if y=x then v else m y)(sb:Heap.SameBut X.env.locals s.heap h'):Inv X pins (σ.set i none) H { s with heap:=h',toks:=t' }:=by
 have kp:∀b o,b≠X.env.locals->s.heap.get? b=some o->h'.get? b=some o:=fun b o n e=>(sb.2 b n).trans e
 have neL:∀b o,X.s₀.heap.get? b=some o->b≠X.env.locals:=fun b o e=>Nat.ne_of_lt (Nat.lt_of_lt_of_le (Heap.lt_size e) I.ok.above)
 have cellK:∀x c,X.env.cells.lookup x=some c->∀v,s.heap.IsCell c v->h'.IsCell c v:=fun x c e v ⟨o,ho,hd⟩=>⟨o,kp c o (I.cne x c e) ho,hd⟩
 refine⟨I.ok,I.os,I.bare,⟨fun b o e n hb hx=>kp b o (neL b o e) (I.base.keep b o e n hb hx),fun b o e n hb hx=>?_,I.base.free,fun b o e hx=>?_,I.base.tups,I.base.frzs,I.base.tbls⟩,⟨_,hn,fun j y w e1 e2 e3=>?_⟩,fun x c e=>?_,I.free,I.freeC,fun p hp=>?_,fun b u e=>?_,by simp[I.len]⟩
 .obtain⟨sl1,e1⟩:=I.base.slot b o e n hb hx;exact⟨sl1,kp b _ (neL b o e) e1⟩
 .obtain⟨o1,e1⟩:=I.base.there b o e hx;exact⟨o1,kp b _ (neL b o e) e1⟩
 .have hij:i≠j:=fun z=>by
   subst z;by_cases hl:i < σ.length
   .rw[List.getElem?_set_self hl] at e2;cases e2
   .rw[List.getElem?_eq_none (by simp;omega)] at e2;cases e2
  rw[List.getElem?_set_ne hij] at e2;obtain⟨u,r,l⟩:=hm j y w e1 e2 e3;refine⟨u,r,?_⟩;have hyx:y≠x:=fun z=>by
   subst z;obtain⟨a1,b1⟩:=List.getElem?_eq_some_iff.mp hi;obtain⟨a2,b2⟩:=List.getElem?_eq_some_iff.mp e1;exact hij ((List.getElem_inj hN).mp (b1.trans b2.symm))
  rcases l with⟨k,l⟩ | ⟨k,c,e,z⟩
  .exact .inl ⟨k,by show(if y=x then v else m y)=_;rw[if_neg hyx];exact l⟩
  .exact .inr ⟨k,c,e,cellK y c e _ z⟩
 .obtain⟨v,z⟩:=I.cell x c e;exact⟨v,cellK x c e v z⟩
 .obtain⟨e,n,ne,nf,d⟩:=I.pin p hp;exact⟨kp p.1 p.2 ne e,n,ne,nf,d⟩
 .refine(I.hok b u e).stay (fun c w hc q=>kp c w (fun z=>?_) q) (fun _ q=>q) fun _ _ q=>q
  have hf:=I.free;rw[<- z] at hf;rcases hc with rfl | hc
  .rw[hf] at e;cases e
  .rw[hf] at hc;cases hc
end
structure XOk(X:Cx)(E:St->XK):Prop where
 ex:∀b∈X.ex,∃o,(b,o)∈X.pn
 fly:∀{pins σ H s g e C dx},Inv X pins σ H s->Fr0 X pins g->(∀b,s.heap.get? b=none->g.get? b=none)->Fly g H s.heap e C dx .none->E σ (.ref C) dx H->X.xe (.ref e) s
structure XMk(X:Cx)(E:St->XK):Prop where
 ex:∀b∈X.ex,∃o,(b,o)∈X.pn
 made:∀{pins σ H s g e C dx},Inv X pins σ H s->Fr0 X pins g->(∀b,s.heap.get? b=none->g.get? b=none)->Made g H s.heap e C dx->E σ (.ref C) dx H->X.xe (.ref e) s
theorem XOk.pass{X:Cx}{E:St->XK}(x:XOk X E){pins σ H s e s'}(I:Inv X pins σ H s)(h:CX1 X.prog X.w X.stack H s (E σ) e s'):X.xe e s':=by
 obtain⟨a,C,dx,H',rfl,os,bare,un,hok,fl,hE⟩:=h;have I':=I.call' (ch:=[]) os un hok bare (fun b z=>absurd z (by simp));exact x.fly I' (I.fr0 x.ex) (fun b q=>by
  cases r:s.heap.get? b with
  | none=>rfl
  | some o=>obtain⟨o',e⟩:=un.there b o r (by simp);rw[q] at e;cases e) fl hE
section
variable{P:Program}{w:World}{K:Frag}{mg:Str->Option Value}{base:Heap}{N:List Str}{qual:Str}{scope:Scope}{f:Addr}{cd:Value}{A:Around}{outer:List Env}{s:Shared}{H:Hp}{E:XK}{cm:Bool}
theorem zaZ:XOk (zfi (CX1 P w) P w K mg base N qual scope f cd A outer s H E cm) (fun _=>E):=⟨(fun _ z=>nomatch z),fun{pins σ H1 s1 g e C dx} I F0 hg F hE=>by
 refine zpO (P:=P) (w:=w) (outer:=outer) I.ok.frames rfl I.stack I.hok hg F fun h' F' S=>?_
 have I1:=I.noted (t':=s1.toks) F0 S;exact⟨e,C,dx,H1,rfl,I1.os,I1.bare,I1.base,I1.hok,F'.old F0.none,hE⟩⟩
theorem zea:XMk (zfi (CX1 P w) P w K mg base N qual scope f cd A outer s H E cm) (fun _=>E):=⟨(fun _ z=>nomatch z),fun{pins σ H1 s1 g e C dx} I F0 hg F hE=>by
 refine znz (P:=P) (w:=w) (outer:=outer) I.ok.frames rfl I.stack I.hok hg F fun h' F' S=>?_
 have I1:=I.noted (t':=s1.toks) F0 S;exact⟨e,C,dx,H1,rfl,I1.os,I1.bare,I1.base,I1.hok,F'.old F0.none,hE⟩⟩
end
abbrev bmV:List Value:=[.type "ValueError", .type "Exception", .type "BaseException", .type "object"]
abbrev newV:String:="ValueError.__new__"
def zn8(C:Addr)(E:St->XK)(t:TA):TS:=fun _ σ H=>t σ H fun vs H1=>vs.length<=sizeLine/\E σ (.ref C) none H1
section
variable{X:Cx}{E:St->XK}{x:Str}{C:Addr}{np cpos pos:Pos}{a:Expr}{as:List Expr}{t:TA}
theorem ztt(xm:XMk X E)(hc:X.calm=true)(hg:Gl X x)(hm:X.mg x=some (.ref C))(hC:W.excIn X.K C bmV newV=true)(ha:PA X (a::as) t)(hdb:(x==("__debug__":Str))=false:=by decide)
  (hst:∃y r,backTo cpos (starEach (a::as) X.env)=(false,y)::r:=by exact⟨_,_,rfl⟩)(hpl:(backTo cpos (starEach (a::as) X.env)).any (·.1)=false:=by rfl) :
  PS X (.Raise (some (.Call (.Name x np) (a::as) [] cpos)) none pos) (zn8 C E t):=by
 intro pins s σ H D I h;obtain⟨bm,N,nm,q,bs,hdct,sn,sub,ab,col,dd,k0,k1,k2,k3,k5,mN,o1,o2,o3,o4⟩:=zqd I.ok.mod.kin hC;have hb:bm.contains (Value.type "BaseException")=true:=o4.hasType (by decide+kernel);refine wpAny_Raise_call_subT F.excBase_ValueError (nm:=nm) (q:=q) (C:=C) (N:=N) (bs:=bs) (bm:=bm) (hdct:=hdct) (sn:=sn) (sub:=sub) (ab:=ab) (col:=col) (dd:=dd) (k0:=k0) (k1:=k1) (k2:=k2) (k3:=k3) (k5:=k5) (mN:=mN) hb (I.ok.hd hc) hpl o3 (zdH I hg hm ⟨rfl,?_⟩ hdb);obtain⟨y,r,hst⟩:=hst;rw[hst];refine Calls.evalArgs_plain ?_;rw[<- hst];refine thn (ha cpos pins s σ H _ I h) fun us s2 ⟨vs,H2,I2,rv,hl,hE⟩=>⟨rfl,by show us.length<=_;rw[<- rv.length];exact hl,I2.bk _ _ o1,?_,o4.keeps I2.bk,fun h' e mk=>?_⟩
 .obtain⟨o,es,ep,ho,r⟩:=o2;exact⟨o,es,ep,I2.bk _ _ ho,r⟩
 .obtain⟨kp,nw,tt,he,_,_⟩:=mk;have hHe:H2 e=none:=by
   cases r:H2 e with
   | none=>rfl
   | some o=>obtain⟨u,hu⟩:=(I2.hok e o r).there;rw[nw] at hu;cases hu
  refine xm.made (I2.kept (t':=s2.toks) kp) (I2.fr0 xm.ex) (fun b z=>?_) ⟨_,_,he,rfl,rfl,rfl,rfl,hHe,nw⟩ hE;cases r:s2.heap.get? b with
  | none=>rfl
  | some o=>have e1:=kp b o r;rw[show h'.get? b=none from z] at e1;cases e1
end
section
variable{X:Cx}{E:St->XK}{k j:Nat}{f C:Addr}{fd:FuncData}{ps ks:List Str}{sp:Sp}{x c m:Str}{p pos apos:Pos}{e o:Expr}{es:List Expr}{kws:List Keyword}{ta:TE}{t tk:TA}{g:List Value->List Value->List Value}{gV:List V->List V->List V}
theorem zmp{pins:List (Addr×Obj)}{σ:St}{H:Hp}{s:Shared}{Q:VK}{us ws:List Value}{vs zs:List V}(F:zac X.prog X.w X.K X.mg X.base (CX1 X.prog X.w) k f fd ps sp)(hr:zdA k X.A)(hb:zdj X.K fd ps ks g gV)(hx:XOk X E)
  (I:Inv X pins σ H s)(r:Vals vs us)(rz:Vals zs ws)(h:sp (gV vs zs) H Q (E σ)):wpAny (model X.prog X.w) X.A (call (.ref f) us (ks.zip ws)) (EP X pins σ Q) X.xe s:=by
 have r2:=hb.rel r rz;have hl:(g us ws).length=ps.length:=by rw[<- r2.length];exact F.len _ _ _ _ h
 refine wpAny_call (codeAny_mono (F.run X.A X.stack s H ⟨us,ks.zip ws⟩ (g us ws) (gV vs zs) Q (E σ) hr I.env0 (hb.to s us ws I.kIn hl) r2 h) fun r s' hq=>?_);cases r with
 | error e=>exact hx.pass I hq
 | ok fl =>
  cases fl with
  | ret u=>exact I.after hq
  | next=>exact False.elim hq
  | brk=>exact False.elim hq
  | cont=>exact False.elim hq
def zss(sp:Sp)(gV:List V->List V->List V)(E:St->XK)(t tk:TA):TE:=fun σ H Q=>t σ H fun vs H1=>tk σ H1 fun zs H2=>sp (gV vs zs) H2 Q (E σ)
theorem zd4(h:znA X.prog X.w X.K X.mg X.base (CX1 X.prog X.w) x j ps sp ks gV)(hr:zdA k X.A)(hx:XOk X E)(ha:WA X (e::es) t)(hkw:WK X kws tk)(hj:j<=k:=by decide)(hg:Gl X x:=by rfl)
  (hall:(backToKw pos (keywordEach kws X.env)).all (·.1.isSome)=true:=by rfl)(hks:(backToKw pos (keywordEach kws X.env)).filterMap (·.1)=ks:=by rfl)
  (hdb:(x==("__debug__":Str))=false:=by decide)(he:starEach (e::es) X.env=(false,eval e X.env)::starEach es X.env:=by rfl)
  (hpl:((backTo pos (starEach (e::es) X.env)).any (·.1)||(backToKw pos (keywordEach kws X.env)).any (·.1.isNone))=false:=by rfl):WE X (.Call (.Name x p) (e::es) kws pos) (zss sp gV E t tk):=⟨by
 obtain⟨f,fd,g,F,b,kp,m⟩:=h.ex;intro pins s σ H Q I h;refine wpAny_Call_Name_kw (zdH I hg m ?_ hdb);refine callWith_KW (h₀:=X.base) I.ok.mod.kin kp hall (thn (ha.out pos pins s σ H _ I h) fun us s1 ⟨vs,H1,I1,r,q⟩=>?_) hpl he;refine thn (hkw.out pos pins s1 σ H1 _ I1 q) fun ws s2 ⟨zs,H2,I2,rz,q2⟩=>⟨I2.kIn,?_⟩
 rw[hks];exact zmp (F.mono hj) hr b hx I2 r rz q2⟩
def zrB(K:Frag)(c m:Str)(sp:Sp)(gV:List V->List V->List V)(E:St->XK)(ta:TE)(t tk:TA):TE:=fun σ H Q=>ta σ H fun x H1=>∃C a dx fs,clsOf K c=some C/\x= .ref a/\H1 a=some (.ins C dx fs)/\fs.lookup m=none /\
 t σ H1 fun vs H2=>tk σ H2 fun zs H3=>sp (gV (x::vs) zs) H3 Q (E σ)
theorem zaz{pl:Sem Bool}(K:Frag)(hh:zb8 X.prog X.w X.K X.mg X.base (CX1 X.prog X.w) c m j ps sp ks gV)(hr:zdA k X.A)(hx:XOk X E)(he:WE X o ta)(ha:WA X (e::es) t)(hkw:WK X kws tk)(hK:X.K=K:=by rfl)(hj:j<=k:=by decide)
  (hall:(backToKw pos (keywordEach kws X.env)).all (·.1.isSome)=true:=by rfl)(hks:(backToKw pos (keywordEach kws X.env)).filterMap (·.1)=ks:=by rfl)
  (hst:starEach (e::es) X.env=(false,eval e X.env)::starEach es X.env:=by rfl)
  (hpl:((backTo pos (starEach (e::es) X.env)).any (·.1)||(backToKw pos (keywordEach kws X.env)).any (·.1.isNone))=false:=by rfl)
  (ht:eval (.Call (.Attribute o m apos) (e::es) kws pos) X.env=(do
   let ov<-eval o X.env
   standAt apos.atName
   let (f,first)<-holding [ov] (getMethod ov m pl)
   callWith pos f first (backTo pos (starEach (e::es) X.env)) (backToKw pos (keywordEach kws X.env))):=by rfl) :
  WE X (.Call (.Attribute o m apos) (e::es) kws pos) (zrB K c m sp gV E ta t tk):=⟨by
 subst hK;obtain⟨C0,f,fd,g,hc0,hcl,hm,F,hb⟩:=hh.ex;intro pins s σ H Q I h;refine methodCall_KW (pl:=pl) (thn (he.out pins s σ H _ I h) fun u s1 ⟨x,H1,I1,rx,C,a,dx,fs,hc,ex,ea,l,q⟩=>?_) ht;rw[hc0] at hc;cases hc;subst ex;obtain rfl:u=Value.ref a:=rx;refine zgd I1 ea hcl hm l ?_;refine callWith_KW (first:=[.ref a]) (h₀:=X.base) I.ok.mod.kin hm.kp hall (thn (ha.out pos pins s1 σ H1 _ I1 q) fun us s2 ⟨vs,H2,I2,r,q2⟩=>?_) hpl hst;refine thn (hkw.out pos pins s2 σ H2 _ I2 q2) fun ws s3 ⟨zs,H3,I3,rz,q3⟩=>⟨I3.kIn,?_⟩
 rw[hks];exact zmp (us:= .ref a::us) (vs:= .ref a::vs) (F.mono hj) hr hb hx I3 (.cons rfl r) rz q3⟩
end
abbrev Cx.tr(X:Cx)(xe:Value->Shared->Prop)(pn:List (Addr×Obj)):Cx:={ X with xe:=xe,pn:=pn }
abbrev Cx.hand(X:Cx)(e:Addr):Cx:={ X with A:=X.A.mark (some (.ref e)),calm:=false,xe:=fun _ _=>False }
section
variable{X:Cx}{pins pn:List (Addr×Obj)}{σ:St}{H:Hp}{s:Shared}{xe:Value->Shared->Prop}{e:Addr}{g:Heap}
theorem Cx.Ok.tr(ok:X.Ok):(X.tr xe pn).Ok:=⟨ok.mod,ok.kind,ok.glob,ok.blt,ok.above,ok.inj,ok.has,ok.cab,ok.hd,ok.frames,ok.stk,ok.exf,ok.bs,ok.bsz,ok.noex,ok.exfs,ok.funs,ok.frf⟩
theorem Cx.Ok.untr(ok:(X.tr xe pn).Ok):X.Ok:=⟨ok.mod,ok.kind,ok.glob,ok.blt,ok.above,ok.inj,ok.has,ok.cab,ok.hd,ok.frames,ok.stk,ok.exf,ok.bs,ok.bsz,ok.noex,ok.exfs,ok.funs,ok.frf⟩
theorem Inv.tr(I:Inv X pins σ H s):Inv (X.tr xe (X.pn++pins)) [] σ H s:=⟨I.ok.tr,I.os,I.bare,I.base,I.loc,I.cell,I.free,I.freeC,fun p hp=>I.pin p (by simpa using hp),I.hok,I.len⟩
theorem Inv.untr{pins':List (Addr×Obj)}(I:Inv (X.tr xe (X.pn++pins)) pins' σ H s):Inv X pins σ H s:=⟨I.ok.untr,I.os,I.bare,I.base,I.loc,I.cell,I.free,I.freeC,fun p hp=>I.pin p (List.mem_append_left _ hp),I.hok,I.len⟩
theorem Fr0.untr{pins':List (Addr×Obj)}(F:Fr0 (X.tr xe (X.pn++pins)) pins' g):Fr0 X pins g:=⟨F.loc,F.cell,fun p hp=>F.pin p (List.mem_append_left _ hp),F.old⟩
theorem SP.untr{D:Ends}{f:Flow}{s':Shared}(h:SP (X.tr xe (X.pn++pins)) [] D f s'):SP X pins D f s':=by
 cases f with
 | next=>obtain⟨σ',H',I,q⟩:=h;exact⟨σ',H',I.untr,q⟩
 | brk=>obtain⟨σ',H',I,q⟩:=h;exact⟨σ',H',I.untr,q⟩
 | cont=>obtain⟨σ',H',I,q⟩:=h;exact⟨σ',H',I.untr,q⟩
 | ret u=>obtain⟨v,σ',H',I,r,q⟩:=h;exact⟨v,σ',H',I.untr,r,q⟩
theorem Inv.hand(I:Inv X pins σ H s):Inv (X.hand e) pins σ H s:=⟨⟨I.ok.mod,I.ok.kind,I.ok.glob,I.ok.blt,I.ok.above,I.ok.inj,I.ok.has,I.ok.cab,fun z=>(nomatch z),I.ok.frames,I.ok.stk,I.ok.exf,I.ok.bs,I.ok.bsz,I.ok.noex,I.ok.exfs,I.ok.funs,I.ok.frf⟩,I.os,I.bare,I.base,I.loc,I.cell,I.free,I.freeC,I.pin,I.hok,I.len⟩
theorem Inv.unhand(ok:X.Ok)(I:Inv (X.hand e) pins σ H s):Inv X pins σ H s:=⟨ok,I.os,I.bare,I.base,I.loc,I.cell,I.free,I.freeC,I.pin,I.hok,I.len⟩
end
def zpb(D:Ends)(i:Nat):Ends:={ nx:=fun σ' H'=>D.nx (σ'.set i none) H',rt:=D.rt,bk:=fun σ' H'=>D.bk (σ'.set i none) H',ct:=fun σ' H'=>D.ct (σ'.set i none) H' }
section
variable{X:Cx}{i:Nat}{n x:Str}{Ch:Addr}{body suite:List Stmt}{b₀:Stmt}{np hpos pos:Pos}{tb:(St->XK)->TS}{th:TS}
end
theorem zaC.hand{cm:Bool}{k:Nat}{A:Around}(r:zaC cm k A)(v:Option Value):zaC false k (A.mark v):=⟨fun z=>(nomatch z),r.dp,r.un,r.gd⟩
theorem zaC.lax{cm:Bool}{k:Nat}{A:Around}(r:zaC cm k A):zaC false k A:=⟨fun z=>(nomatch z),r.dp,r.un,r.gd⟩
structure zuB(P:Program)(w:World)(K:Frag)(mg:Str->Option Value)(base:Heap)(x:Str)(k:Nat)(ps:List Str)(sp:Sp):Prop where
 ex:∃f fd,zac P w K mg base CX0 k f fd ps sp false/\Binds K fd ps []/\keepIn K (.ref f)=true/\mg x=some (.ref f)
section
variable{X:Cx}{cm:Bool}{j k:Nat}{f:Addr}{fd:FuncData}{ps:List Str}{sp:Sp}{x:Str}{p pos:Pos}{e:Expr}{es:List Expr}{t:TA}
theorem zut{pins:List (Addr×Obj)}{σ:St}{H:Hp}{s:Shared}{Q:VK}{us:List Value}{vs:List V}(F:zac X.prog X.w X.K X.mg X.base CX0 j f fd ps sp false)(hr:zaC cm k X.A)(hj:j<=k)(hb:Binds X.K fd ps [])
  (I:Inv X pins σ H s)(r:Vals vs us)(h:sp (vs++[]) H Q E0):wpAny (model X.prog X.w) X.A (call (.ref f) us) (EP X pins σ Q) X.xe s:=by
 have r2:Vals (vs++[]) (us++[]):=r.append .nil;have hl:(us++[]).length=ps.length:=by rw[<- r2.length];exact F.len _ _ _ _ h
 refine wpAny_call (codeAny_mono (F.run X.A X.stack s H ⟨us,[]⟩ (us++[]) (vs++[]) Q E0 (hr.lax.mono hj) I.env0 (hb s us I.kIn hl) r2 h) fun r s' hq=>?_);cases r with
 | error e=>exact False.elim hq
 | ok fl =>
  cases fl with
  | ret u=>exact I.after hq
  | next=>exact False.elim hq
  | brk=>exact False.elim hq
  | cont=>exact False.elim hq
theorem zi5(h:zuB X.prog X.w X.K X.mg X.base x j ps sp)(hr:zaC cm k X.A)(ha:WA X (e::es) t)(hj:j<=k:=by decide)(hg:Gl X x:=by rfl)(hdb:(x==("__debug__":Str))=false:=by decide)
  (he:starEach (e::es) X.env=(false,eval e X.env)::starEach es X.env:=by rfl)(hpl:(backTo pos (starEach es X.env)).any (·.1)=false:=by rfl) :
  WE X (.Call (.Name x p) (e::es) [] pos) (zkq sp [] E0 t):=⟨by
 obtain⟨f,fd,F,b,kp,m⟩:=h.ex;intro pins s σ H Q I h;refine wpAny_Call_Name_kw (zdH I hg m ?_ hdb);refine PySem.W.callWith_K (h₀:=X.base) I.ok.mod.kin kp (thn (ha.out pos pins s σ H _ I h) fun us s1 ⟨vs,H1,I1,r,q⟩=>⟨I1.kIn,?_⟩) he hpl;exact zut F hr hj b I1 r q⟩
end
section
variable{P:Program}{w:World}{K:Frag}{fl:Wd}{mg:Str->Option Value}{base:Heap}
theorem Fun.okU{x qual:Str}{st:Stmt}{f:Addr}{fd:FuncData}{N ps:List Str}{k n:Nat}(dw:DS)(F:Fun K x qual st f fd)(S:zP N ps (zx st))(len:ps.length=n)
  (hbody:∀(cdv:Value) (A:Around) (outer:List Env) (s:Shared) (H:Hp) (E:XK),zaC false k (A.deeper (envOfC qual (zx st) s.heap.objs.size f cdv)) ->
   ∃t,WSs (zfi CX0 P w K mg base N qual (zx st) f cdv A outer s H E false).nox (zbo st) t/\∀fl,zcU K fl t dw):zac P w K mg base CX0 (k+1) f fd ps (lift K (zam dw N n)) false:=by
 obtain⟨oc,od,kV,doc,pm,an,cdv,ct,osl,rfl,lk,hcd⟩:=F.ex;refine zrV lk hcd S (fun vs H Q E h=>?_) fun A outer s H vs Q E hr h=>?_
 .obtain⟨_,W,μ,ds,Q0,_,r,h,_⟩:=h;rw[r.length,h.1,len]
 .obtain⟨fl,W,μ,ds,Q0,rel,r,h,k⟩:=h;obtain⟨t,ht,sm⟩:=hbody cdv A outer s H E hr;refine⟨t,ht.out.nox,(sm W).run (rel.floor (.refl W)) (.start r) h.2 ⟨fun W' ρ μ σ H le rr ee hh=>?_,fun _ _ _ _ _ _ _ _ hh=>hh.elim,fun _ _ _ _ _ _ _ _ hh=>hh.elim,fun W' d μ x H le rr ee hh=>?_⟩⟩
  .obtain⟨μ'',l,hh⟩:=hh;exact k W' .non μ'' _ H le ((rr.floor (rel.up.trans le)).less l) .n hh
  .obtain⟨μ'',l,hh⟩:=hh;exact k W' d μ'' x H le ((rr.floor (rel.up.trans le)).less l) ee hh
end
def zsP(K:Frag)(D:Addr):Bool :=
 W.findIn K (.ref D) "__getattribute__"==some (some (.builtin "BaseException.__getattribute__"))&&W.findIn K (.ref D) "__getattr__"==some none&&W.mroIn K D (.type "BaseException")==some true&&W.mroIn K D (.type "object")==some true &&
 W.findIn K (.ref D) "__class__"==some (some (.builtin "object.__class__"))&&W.specialIn K (.builtin "object.__class__") "__get__"==some (some (.builtin "getset_descriptor.__get__"))&&W.takesIn K (.builtin "object.__class__")==some true&&W.kitCls K (.ref D) (.ref D)==some true
theorem zkc.of{K:Frag}{D:Addr}(h:zsP K D=true):zkc K D:=by
 unfold zsP at h;simp only[Bool.and_eq_true,beq_iff_eq] at h;obtain⟨⟨⟨⟨⟨⟨⟨h1,h2⟩,h3⟩,h4⟩,h5⟩,h6⟩,h7⟩,h8⟩:=h;exact⟨h1,h2,h3,h4,h5,h6,h7,h8⟩
def zl2(K:Frag)(es ps ks hs:List Str):Bool:=es.all fun c=>match clsOf K c with
 | none=>false
 | some C=>zdT c&&zsP K C&&(!ps.contains c||W.excIn K C bmV newV)&&W.kitOne K (.ref C) (.type "ValueError")==some true &&
  (ks.all fun k=>match clsOf K k with
   | none=>false
   | some D=>W.kitOne K (.ref C) (.ref D)==some (c==k)) &&
  hs.all fun k=>match clsOf K k with
   | none=>false
   | some D=>W.exmOne K (.ref C) (.ref D)==some true
class ziZ(K:Frag)(es:List Str)(ps:outParam (List Str))(ks:List Str)(hs:outParam (List Str)):Prop where
 ok:zl2 K es ps ks hs=true
section
variable{K:Frag}{es ps ks hs:List Str}{c k:Str}{C D:Addr}
theorem ziZ.row(t:ziZ K es ps ks hs)(hc:c∈es)(h:clsOf K c=some C):(zdT c=true/\zkc K C)/\(c∈ps->W.excIn K C bmV newV=true)/\W.kitOne K (.ref C) (.type "ValueError")=some true /\
  (∀k∈ks,∀D,clsOf K k=some D->W.kitOne K (.ref C) (.ref D)=some (c==k))/\∀k∈hs,∀D,clsOf K k=some D->W.exmOne K (.ref C) (.ref D)=some true:=by
 have e:=t.ok;unfold zl2 at e;have e:=List.all_eq_true.mp e c hc;rw[h] at e;simp only[Bool.and_eq_true,beq_iff_eq,List.all_eq_true,Bool.or_eq_true,Bool.not_eq_true'] at e;obtain⟨⟨⟨⟨⟨e0,e1⟩,e2⟩,e3⟩,e4⟩,e5⟩:=e;refine⟨⟨e0, .of e1⟩,fun hp=>e2.resolve_left (by rw[List.contains_iff_mem.mpr hp];simp),e3,fun k hk D hD=>?_,fun k hk D hD=>?_⟩
 .have:=e4 k hk;rw[hD] at this;simpa using this
 .have:=e5 k hk;rw[hD] at this;simpa using this
theorem ziZ.cf(t:ziZ K es ps ks hs)(hc:c∈es):zdT c=true:=by
 have e:=t.ok;unfold zl2 at e;have e:=List.all_eq_true.mp e c hc;cases h:clsOf K c with
 | none=>rw[h] at e;cases e
 | some C=>exact(t.row hc h).1.1
theorem ziZ.exc(t:ziZ K es ps ks hs)(i:zaa K c C)(hc:c∈es)(hp:c∈ps):W.excIn K C bmV newV=true:=(t.row hc i.at_).2.1 hp
end
def zzq(K:Frag):List V->Hp->VK->Prop:=fun xs H Q=>∃a c C b,xs=[.ref a,c]/\H a=some (zl0 a C none)/\zkc K C/\(∀u,RelV c u->W.kitOne K (.ref C) u=some b)/\Q (.bl b) H
theorem zao{X:Cx}(K:Frag)(h:X.K=K:=by rfl):zaf X (.builtin "isinstance") (zzq K):=by
 subst h;intro pins s σ H xs us Q I r h;obtain⟨a,c,C,b,rfl,ea,ec,e,q⟩:=h;obtain⟨u,v,rfl,ru,rv⟩:=vals2 r;obtain⟨⟨ox,e1,e2,e3,e4⟩,_⟩:=(show zaF X.prog X.w H s.heap a (zl0 a C none) from I.hok a _ ea);cases (show u=Value.ref a from ru);exact kia_one (ec.kit (od:=none)) I.kIn (W.InstAt.mk (od:=none) e1 e2 e4 (by rw[e3];trivial)) (e v rv) (fun z=>nomatch z) fun tk=>⟨.bl b,H,I.tok tk,rfl,q⟩
def zc0(es ks:List Str):DRs:=fun ds μ Q=>match ds with
 | [.exc c, .cls k]=>c∈es/\k∈ks/\Q (.bl (c==k)) μ
 | [.exc c, .ty n]=>c∈es/\n="ValueError"/\Q (.bl true) μ
 | _=>False
instance{K:Frag}{fl:Wd}{es ps ks hs:List Str}[t:ziZ K es ps ks hs]:zcX K fl (zzq K) (zc0 es ks):=⟨fun{W μ H ds xs Q Q'} r z h k=>by
 unfold zc0 at h;split at h
 .obtain⟨x,y,rfl,q1,q2⟩:=z.two;obtain⟨hc,hk,h⟩:=h;unfold Rep at q1 q2;obtain⟨C,a,dx,rfl,ea,hX⟩:=q1;obtain⟨hC,rfl⟩:=hX.plain (t.cf hc);obtain⟨D,hD,rfl⟩:=q2;obtain⟨⟨_,r1⟩,_,_,r4,_⟩:=t.row hc hC;exact⟨a,_,C,_,rfl,r.sub _ _ ea,r1,fun u hu=>by cases hu;exact r4 _ hk D hD,k _ _ _ _ _ (.refl _) r .b h⟩
 .obtain⟨x,y,rfl,q1,q2⟩:=z.two;obtain⟨hc,rfl,h⟩:=h;unfold Rep at q1 q2;obtain⟨C,a,dx,rfl,ea,hX⟩:=q1;obtain⟨hC,rfl⟩:=hX.plain (t.cf hc);subst q2;obtain⟨⟨_,r1⟩,_,r3,_,_⟩:=t.row hc hC;exact⟨a,_,C,true,rfl,r.sub _ _ ea,r1,fun u hu=>by cases hu;exact r3,k _ _ _ _ _ (.refl _) r .b h⟩
 .exact h.elim⟩
abbrev DX:=Str->Mu->Prop
abbrev DXE:=zag->DX
abbrev zel:=List D->Mu->DK->DX->Prop
class XR(K:Frag)(fl:Wd)(Ex:DXE)(E:St->XK):Prop where
 run:∀{W ρ μ σ H c C dx},Rel K fl W μ H->zbc K W ρ σ->Ex ρ c μ->XAt K W c C dx->E σ (.ref C) dx H
def za6(K:Frag)(dsp:zel):Sp:=fun vs H Q E=>∃fl W μ ds Q0 X0,Rel K fl W μ H/\zE K W ds vs/\dsp ds μ Q0 X0/\KV' K fl W Q0 Q/\∀W' c C μ' H' dx,W.le W'->Rel K fl W' μ' H'->X0 c μ'->XAt K W' c C dx->E (.ref C) dx H'
def zer(c:Str)(Ex:DXE)(w:DA):DS:=fun _ ρ μ=>w ρ μ fun ds μ1=>ds.length<=sizeLine/\Ex ρ c μ1
def zeZ(dsp:zel)(Ex:DXE)(n m:Nat)(pat:List Src)(cs:List D)(w wk:DA):DE:=fun ρ μ Q=>w ρ μ fun ds μ1=>wk ρ μ1 fun es μ2=>dsp (sel n m pat .non cs ds es) μ2 Q (Ex ρ)
def za4(c m:Str)(dsp:zel)(Ex:DXE)(n j:Nat)(pat:List Src)(cs:List D)(wo:DE)(w wk:DA):DE:=fun ρ μ Q=>wo ρ μ fun d μ1=>(ziq μ1 d fun c' ns vs=>c'=c/\(ns.zip vs).lookup m=none)/\w ρ μ1 fun ds μ2=>wk ρ μ2 fun es μ3=>dsp (sel n j pat .non cs (d::ds) es) μ3 Q (Ex ρ)
def zjO(D:zba)(i:Nat):zba:={ nx:=fun ρ μ=>D.nx (ρ.set i none) μ,rt:=D.rt,bk:=fun ρ μ=>D.bk (ρ.set i none) μ,ct:=fun ρ μ=>D.ct (ρ.set i none) μ }
def zzF(es:List Str)(i:Nat)(wb:DXE->DS)(wh:DS):DS:=fun D ρ μ=>wb (fun ρ' c μ'=>c∈es/\wh (zjO D i) (ρ'.set i (some (.exc c))) μ') D ρ μ
section
variable{K:Frag}{fl:Wd}{Ex:DXE}{E:St->XK}{t tk:TA}{w wk:DA}{n j m:Nat}{pat:List Src}{csD:List D}{csV:List V}{c:Str}{C:Addr}{dsp:zel}
instance[x:XR K fl Ex E][i:zaa K c C][a:zdp K fl t w]:zcU K fl (zn8 C E t) (zer c Ex w):=⟨fun{W ρ μ σ H D' D} r e h k=>a.run r e h fun W1 ds μ1 xs H1 le1 r1 q1 h1=>⟨by rw[q1.length];exact h1.1,x.run r1 (e.mono le1) h1.2 (.inl ⟨i.at_,rfl,i.cf⟩)⟩⟩
instance[x:XR K fl Ex E][a:zdp K fl t w][b:zdp K fl tk wk][cr:zot K csD csV]:zZ K fl (zss (za6 K dsp) (sel n m pat .non csV) E t tk) (zeZ dsp Ex n m pat csD w wk):=⟨fun{W ρ μ σ H Q Q'} r e h k =>
 a.run r e h fun W1 ds μ1 xs H1 le1 r1 q1 h1=>b.run r1 (e.mono le1) h1 fun W2 es μ2 ys H2 le2 r2 q2 h2=>⟨fl,W2,μ2,_,Q,_,r2,zgY (cr.run W2) (q1.mono le2) q2,h2,fun W3 d μ3 x H3 le3=>k W3 d μ3 x H3 (le1.trans (le2.trans le3)),
  fun W3 c C μ3 H3 dx3 le3 r3 h3 hc=>x.run r3 (e.mono (le1.trans (le2.trans le3))) h3 hc⟩⟩
instance{mt:Str}{ta:TE}{wa:DE}[x:XR K fl Ex E][o:zZ K fl ta wa][a:zdp K fl t w][b:zdp K fl tk wk][cr:zot K csD csV]:zZ K fl (zrB K c mt (za6 K dsp) (sel n j pat .non csV) E ta t tk) (za4 c mt dsp Ex n j pat csD wa w wk):=⟨fun{W ρ μ σ H Q Q'} r e h k =>
 o.run r e h fun W1 d μ1 xx H1 le1 r1 q1 h1=>by
  obtain⟨c',C,p,dx,ns,vs,xs,hc,rfl,ea,l,z,rfl,hl⟩:=zdZ r1 q1 h1.1;refine⟨C,p,dx,_,hc,rfl,ea,z.lookup_none hl,a.run r1 (e.mono le1) h1.2 fun W2 ds μ2 xs H2 le2 r2 q2 h2=>b.run r2 (e.mono (le1.trans le2)) h2 fun W3 es μ3 ys H3 le3 r3 q3 h3=>?_⟩;exact⟨fl,W3,μ3,_,Q,_,r3,zgY (cr.run W3) (.cons (q1.mono (le2.trans le3)) (q2.mono le3)) q3,h3,fun W4 d4 μ4 x4 H4 le4=>k W4 d4 μ4 x4 H4 (le1.trans (le2.trans (le3.trans le4))),
   fun W4 c C μ4 H4 dx4 le4 r4 h4 hc=>x.run r4 (e.mono (le1.trans (le2.trans (le3.trans le4)))) h4 hc⟩⟩
theorem zbc.unset{W:Wd}{ρ:zag}{σ:St}{i:Nat}(e:zbc K W ρ σ):zbc K W (ρ.set i none) (σ.set i none):=⟨by simp[e.1],fun j d h=>by
 by_cases hj:i=j
 .subst hj;by_cases hl:i < ρ.length
  .rw[List.getElem?_set_self hl] at h;cases h
  .rw[List.getElem?_eq_none (by simp;omega)] at h;cases h
 .rw[List.getElem?_set_ne hj] at h ⊢;exact e.2 j d h⟩
theorem ze7.zpb{W:Wd}{D':zba}{D:Ends}{i:Nat}(k:ze7 K fl W D' D):ze7 K fl W (zjO D' i) (zpb D i) :=
 ⟨fun W' ρ μ σ H le r e h=>k.nx W' _ μ _ H le r e.unset h,fun W' ρ μ σ H le r e h=>k.bk W' _ μ _ H le r e.unset h,fun W' ρ μ σ H le r e h=>k.ct W' _ μ _ H le r e.unset h,k.rt⟩
theorem ze7.lower{W:Wd}{fl':Wd}{D':zba}{D:Ends}(k:ze7 K fl W D' D)(h:fl.le W):ze7 K fl' W D' D :=
 ⟨fun W' ρ μ σ H le r e hh=>k.nx W' _ μ _ H le (r.floor (h.trans le)) e hh,fun W' ρ μ σ H le r e hh=>k.bk W' _ μ _ H le (r.floor (h.trans le)) e hh,fun W' ρ μ σ H le r e hh=>k.ct W' _ μ _ H le (r.floor (h.trans le)) e hh,fun W' d μ x H le r e hh=>k.rt W' d μ x H le (r.floor (h.trans le)) e hh⟩
end
structure XP(K:Frag)(fl:Wd) where
 Ex:DXE
 E:St->XK
 ok:XR K fl Ex E
instance{K:Frag}{fl:Wd}(p:XP K fl):XR K fl p.Ex p.E:=p.ok
def zbT(w:DXE->DS)(N:List Str)(n:Nat):zel:=fun ds μ Q X0=>ds.length=n/\w (fun _ c μ'=>∃ μ'',MLe μ'' μ'/\X0 c μ'') (ends Q) (zhw N ds) μ
section
variable{P:Program}{w:World}{K:Frag}{fl:Wd}{mg:Str->Option Value}{base:Heap}
theorem Fun.okX{x qual:Str}{st:Stmt}{f:Addr}{fd:FuncData}{N ps:List Str}{k n:Nat}(dw:DXE->DS)(F:Fun K x qual st f fd)(S:zP N ps (zx st))(len:ps.length=n)
  (hbody:∀(cdv:Value) (A:Around) (outer:List Env) (s:Shared) (H:Hp) (E:XK),zdA k (A.deeper (envOfC qual (zx st) s.heap.objs.size f cdv)) ->
   ∃t,WSs (zfi (CX1 P w) P w K mg base N qual (zx st) f cdv A outer s H E) (zbo st) t/\∀fl Ex,XR K fl Ex (fun _=>E)->zcU K fl t (dw Ex)):zac P w K mg base (CX1 P w) (k+1) f fd ps (za6 K (zbT dw N n)):=by
 obtain⟨oc,od,kV,doc,pm,an,cdv,ct,osl,rfl,lk,hcd⟩:=F.ex;refine zrV lk hcd S (fun vs H Q E h=>?_) fun A outer s H vs Q E hr h=>?_
 .obtain⟨_,W,μ,ds,Q0,X0,_,r,h,_⟩:=h;rw[r.length,h.1,len]
 .obtain⟨fl,W,μ,ds,Q0,X0,rel,r,h,k,kx⟩:=h;obtain⟨t,ht,sm⟩:=hbody cdv A outer s H E hr;refine⟨t,ht.out,(sm W _ ⟨fun{W1 ρ1 μ1 σ1 H1 c C dx} r1 e1 ⟨μ'',l,h1⟩ hC=>kx W1 c C μ'' H1 dx r1.up ((r1.floor (rel.up.trans r1.up)).less l) h1 hC⟩).run (rel.floor (.refl W)) (.start r) h.2 ⟨fun W' ρ μ σ H le rr ee hh=>?_,fun _ _ _ _ _ _ _ _ hh=>hh.elim,fun _ _ _ _ _ _ _ _ hh=>hh.elim,fun W' d μ x H le rr ee hh=>?_⟩⟩
  .obtain⟨μ'',l,hh⟩:=hh;exact k W' .non μ'' _ H le ((rr.floor (rel.up.trans le)).less l) .n hh
  .obtain⟨μ'',l,hh⟩:=hh;exact k W' d μ'' x H le ((rr.floor (rel.up.trans le)).less l) ee hh
end
section
variable{X:Cx}{E:St->XK}
theorem zdi{x:Str}{C:Addr}{np cpos pos:Pos}{a:Expr}{as:List Expr}{t:TA}(xm:XMk X E)(hm:X.mg x=some (.ref C))(hC:W.excIn X.K C bmV newV=true)(ha:WA X (a::as) t)(hc:X.calm=true:=by rfl)(hg:Gl X x:=by rfl)(hdb:(x==("__debug__":Str))=false:=by decide)
  (hst:∃y r,backTo cpos (starEach (a::as) X.env)=(false,y)::r:=by exact⟨_,_,rfl⟩)(hpl:(backTo cpos (starEach (a::as) X.env)).any (·.1)=false:=by rfl) :
  WS X (.Raise (some (.Call (.Name x np) (a::as) [] cpos)) none pos) (zn8 C E t):=⟨ztt xm hc hg hm hC ha.out hdb hst hpl⟩
end
theorem zj0:bootBuiltins "ValueError"=some (.type "ValueError"):=by decide+kernel
section
variable{P:Program}{w:World}{K:Frag}{mg:Str->Option Value}{base:Heap}
end
section
variable{P:Program}{w:World}{K:Frag}{mg:Str->Option Value}{base:Heap}{N:List Str}{qual:Str}{scope:Scope}{f:Addr}{cd:Value}{A:Around}{outer:List Env}{s:Shared}{H:Hp}{E:XK}{cm:Bool}
theorem zyM:PassesOwn (model (zfi (CX1 P w) P w K mg base N qual scope f cd A outer s H E cm).prog (zfi (CX1 P w) P w K mg base N qual scope f cd A outer s H E cm).w) (zfi (CX1 P w) P w K mg base N qual scope f cd A outer s H E cm).A (zfi (CX1 P w) P w K mg base N qual scope f cd A outer s H E cm).env (zfi (CX1 P w) P w K mg base N qual scope f cd A outer s H E cm).xe:= .leaving
end
section
variable{K:Frag}{fl:Wd}
end
theorem zw3{es ks:List Str}{c k:Str}{μ:Mu}{Q:DK}:zc0 es ks [.exc c, .cls k] μ Q=(c∈es/\k∈ks/\Q (.bl (c==k)) μ):=rfl
theorem zws{es ks:List Str}{c:Str}{n:String}{μ:Mu}{Q:DK}:zc0 es ks [.exc c, .ty n] μ Q=(c∈es/\n="ValueError"/\Q (.bl true) μ):=rfl
def zys:DR2:=fun d e μ Q=>match d,e with
 | .int _, .bl _=>Q (.bl false) μ
 | .bl a, .bl b=>Q (.bl (a==b)) μ
 | _,_=>False
theorem zyb{i:Int}{b:Bool}{μ:Mu}{Q:DK}:zys (.int i) (.bl b) μ Q=Q (.bl false) μ:=rfl
theorem zx3{a b:Bool}{μ:Mu}{Q:DK}:zys (.bl a) (.bl b) μ Q=Q (.bl (a==b)) μ:=rfl
section
variable{X:Cx}{E:St->XK}{j k:Nat}{f C:Addr}{fd:FuncData}{ps ks:List Str}{sp:Sp}{c:Str}{p pos:Pos}{e:Expr}{es:List Expr}{t tk:TA}{kws:List Keyword}{g:List Value->List Value->List Value}{gV:List V->List V->List V}
end
def zx7(c:Str)(dsp:zel)(Ex:DXE)(n j:Nat)(pat:List Src)(cs:List D)(w wk:DA):DE:=fun ρ μ Q=>w ρ μ fun ds μ1=>wk ρ μ1 fun es μ2=>∀k,μ2 k=none->dsp (sel n j pat .non cs (.cell k::ds) es) (zV μ2 k (.ins c [] [])) (fun d μ3=>d= .non/\Q (.cell k) μ3) (fun x μ3=>∃ μ4,MLe μ4 μ3/\Ex ρ x μ4)
def zuU(c:Str)(dsp:zel)(Ex:DXE)(n j:Nat)(pat:List Src)(cs:List D)(w wk:DA):DE:=fun ρ μ Q=>w ρ μ fun ds μ1=>wk ρ μ1 fun es μ2=>∀k,μ2 k=none->dsp (sel n j pat .non cs (.cell k::ds) es) (zV μ2 k (.ins c [] [])) (fun d μ3=>d= .non/\znr μ3 (.cell k) Q) (fun x μ3=>∃ μ4,MLe μ4 μ3/\Ex ρ x μ4)
section
variable{K:Frag}{fl:Wd}{Ex:DXE}{E:St->XK}{c:Str}{dsp:zel}{n j:Nat}{pat:List Src}{csD:List D}{csV:List V}{t tk:TA}{w wk:DA}
end
def zvu:DR2:=fun d e μ Q=>match d,e with
 | .int i, .bl b=>Q (.int (i*if b=true then 1 else 0)) μ
 | d,e=>zkS d e μ Q
theorem zt9{i:Int}{b:Bool}{μ:Mu}{Q:DK}:zvu (.int i) (.bl b) μ Q=Q (.int (i*if b=true then 1 else 0)) μ:=rfl
theorem zua{i j:Int}{μ:Mu}{Q:DK}:zvu (.int i) (.int j) μ Q=(zj8 i j/\Q (.int (i*j)) μ):=rfl
abbrev TJ:=St->Hp->Str->(Str->Hp->Prop)->Prop
def zvK:TJ:=fun _ H acc R=>R acc H
def zqU(te:TE)(r:TJ):TJ:=fun σ H acc R=>te σ H fun v H1=>∃y,v= .str y/\(acc++y).length<=sizeLine/\r σ H1 (acc++y) R
def zy8(te:TE):TE:=fun σ H Q=>te σ H fun v H1=>∃y,v= .str y/\y.length<=sizeLine/\Q (.str y) H1
def zvP(l:TJ):TE:=fun σ H Q=>l σ H Str.empty fun out H1=>out.length<=sizeLine/\Q (.str out) H1
structure WJ(X:Cx)(es:List Expr)(t:TJ):Prop where
 out:∀(pins:List (Addr×Obj)) (s:Shared) (σ:St) (H:Hp) (acc:Str) (Q:VK),Inv X pins σ H s->t σ H acc (fun out H1=>out.length<=sizeLine/\Q (.str out) H1)->wpAny (model X.prog X.w) X.A (joinParts acc (evalEach es X.env)) (EP X pins σ Q) X.xe s
section
variable{X:Cx}{e e2:Expr}{es:List Expr}{te:TE}{t:TJ}{pos:Pos}
theorem zx2:WJ X [] zvK:=⟨fun pins s σ H acc Q I h=>joinParts_nil ⟨.str acc,H,I.tok _,⟨_,rfl⟩,h.2⟩ h.1⟩
theorem zpo(a:WE X e te)(b:WJ X es t):WJ X (e::es) (zqU te t):=⟨fun pins s σ H acc Q I h=>joinParts_cons (thn (a.out pins s σ H _ I h) fun v s1 ⟨x,H1,I1,r,y,e,hz,q⟩=>by
 subst e;obtain⟨u,rfl⟩:=r;exact⟨hz,b.out pins s1 σ H1 _ _ I1 q⟩)⟩
theorem zwJ(a:WE X e te):WE X (.FormattedValue e (-1) none pos) (zy8 te):=⟨fun pins s σ H Q I h=>FormattedValue_plain (thn (a.out pins s σ H _ I h) fun v s1 ⟨x,H1,I1,r,y,e,hz,q⟩=>by
 subst e;obtain⟨u,rfl⟩:=r;exact formatField_str (fun t' tk=>⟨.str y,H1,I1.tok tk,⟨_,rfl⟩,q⟩) hz)⟩
theorem zu8(a:WJ X (e::e2::es) t):WE X (.JoinedStr (e::e2::es) pos) (zvP t):=⟨fun pins s σ H Q I h=>JoinedStr_many (a.out pins s σ H _ _ I h)⟩
end
abbrev DJ:=zag->Mu->Str->(Str->Mu->Prop)->Prop
def zti:DJ:=fun _ μ acc R=>R acc μ
def zly(w:DE)(r:DJ):DJ:=fun ρ μ acc R=>w ρ μ fun d μ1=>match d with
 | .str y=>(acc++y).length<=sizeLine/\r ρ μ1 (acc++y) R
 | _=>False
def zwy(w:DE):DE:=fun ρ μ Q=>w ρ μ fun d μ1=>match d with
 | .str y=>y.length<=sizeLine/\Q (.str y) μ1
 | _=>False
def zsz(l:DJ):DE:=fun ρ μ Q=>l ρ μ Str.empty fun out μ1=>out.length<=sizeLine/\Q (.str out) μ1
class zuX(K:Frag)(fl:Wd)(t:TJ)(w:DJ):Prop where
 run:∀{W ρ μ σ H acc} {R:Str->Mu->Prop} {R':Str->Hp->Prop},Rel K fl W μ H->zbc K W ρ σ->w ρ μ acc R->(∀W' out μ' H',W.le W'->Rel K fl W' μ' H'->R out μ'->R' out H')->t σ H acc R'
section
variable{K:Frag}{fl:Wd}{te:TE}{we:DE}{t:TJ}{w:DJ}
instance:zuX K fl zvK zti:=⟨fun{W ρ μ σ H acc R R'} r e h k=>k W acc μ H (.refl W) r h⟩
instance[a:zZ K fl te we][b:zuX K fl t w]:zuX K fl (zqU te t) (zly we w):=⟨fun r e h k=>a.run r e h fun W1 d μ1 x H1 le1 r1 q1 h1=>by
 cases d<;>first | exact h1.elim | skip
 rename_i y;exact⟨y,q1.s',h1.1,b.run r1 (e.mono le1) h1.2 fun W2 out μ2 H2 le2=>k W2 out μ2 H2 (le1.trans le2)⟩⟩
instance[a:zZ K fl te we]:zZ K fl (zy8 te) (zwy we):=⟨fun r e h k=>a.run r e h fun W1 d μ1 x H1 le1 r1 q1 h1=>by
 cases d<;>first | exact h1.elim | skip
 rename_i y;exact⟨y,q1.s',h1.1,k W1 (.str y) μ1 _ H1 le1 r1 .s h1.2⟩⟩
instance[b:zuX K fl t w]:zZ K fl (zvP t) (zsz w):=⟨fun r e h k=>b.run r e h fun W1 out μ1 H1 le1 r1 h1=>⟨h1.1,k W1 (.str out) μ1 _ H1 le1 r1 .s h1.2⟩⟩
end
section
variable{X:Cx}{tg iter elt:Expr}{ifs:List Expr}{scope:Scope}{pos:Pos}{own free:List Str}{fr:List Nat}
end
section
variable{X:Cx}{pos pos':Pos}
end
section
variable{K:Frag}{fl:Wd}{te:(St->XK)->TE}{we:DXE->DE}{tc:TT}{wc:DT}{wi:TI}{di:DI}{g:TG}{dg:DG}{S:List Nat}{Ex:DXE}{E:St->XK}
end
end L2
set_option maxHeartbeats 1000000
namespace L2
open PySem PySem.Spec PyProof.Rows
section
variable{prog:Program}{w:World}{A:Around}{E:Value->Shared->Prop}{h:Heap}{g:Array GenState}{d:Drawn}{t:Nat}{os:OsState}
variable{nm q:Str}{C N:Addr}{bs bm bmB:List Value}{hdct:Bool}{sn:List Str}{sub:List Value}{ab:Bool}{col:Option Bool}{dd:Option Addr}{k0 k1 k2 k3 k5:Option Value}{B newId initId:String}
theorem zjz(F:ExcBaseFacts B newId initId bmB)(T:OwnTail h bmB bm){mN:Str->Option Value}{rest:List Value}{fI:Addr}{oI:Obj}{Q:Fin->Shared->Prop}
  (hC:h.get? C=some (excClassObj nm q C N bs bm hdct sn sub ab col dd k0 k1 k2 k3 k5 newId))(hn:h.Ns N mN)(hi:mN "__init__"=some (.ref fI))
  (hfI:h.get? fI=some oI)(hfc:oI.cls= .type "function")
  (hq:∀h' e,Heap.MadeExcOf h h' e (.ref C) rest ->
   wpAny (model prog w) A (call (.ref fI) (.ref e::rest)) (fun r s'=>r= .none/\Q (.done (.ret (.ref e))) s') E ⟨h',g,d,t,os⟩) (hrest:rest.length<=sizeLine) :
  wpAny (model prog w) A (Builtin.«type.__call__» ⟨.ref C::rest,[]⟩) Q E ⟨h,g,d,t,os⟩:=by
 repeat (first | with_reducible refine wpAny_loadPart_at hC ?_ | with_reducible refine wpAny_madeBy_exc hC ?_ | wp_step)
 refine codeAny_call_builtin_code (Code.quiet_builtin _ F.quiet) (wpAny_check_new_subT F T hC ?_);refine codeAny_exc_new_subT F T hC ?_ hrest;show wpAny _ _ _ _ _ _;have hC₁:=Heap.get?_push_of_some { cls:= .ref C,data:= .fields #[.ref h.objs.size, .none, .none, .none, .bool false, .none] }
  (Heap.get?_push_of_some { cls:= .type "tuple",data:= .seq rest.toArray } hC)
 have hfI₁:=Heap.get?_push_of_some { cls:= .ref C,data:= .fields #[.ref h.objs.size, .none, .none, .none, .bool false, .none] }
  (Heap.get?_push_of_some { cls:= .type "tuple",data:= .seq rest.toArray } hfI)
 have hn₁:((h.push { cls:= .type "tuple",data:= .seq rest.toArray }).push { cls:= .ref C,data:= .fields #[.ref h.objs.size, .none, .none, .none, .bool false, .none] }).Ns N mN :=
  let ⟨o,es,ep,e,r⟩:=hn;⟨o,es,ep,Heap.get?_push_of_some _ (Heap.get?_push_of_some _ e),r⟩
 have hget:((h.push { cls:= .type "tuple",data:= .seq rest.toArray }).push
   {cls:= .ref C,data:= .fields #[.ref h.objs.size, .none, .none, .none, .bool false, .none] }).get? (h.objs.size+1)=some
   {cls:= .ref C,data:= .fields #[.ref h.objs.size, .none, .none, .none, .bool false, .none] }:=by heap_get
 have hcC:(Value.ref C::bm).contains (.ref C)=true:=by simp
 have T₁:=T.keeps (h':=(h.push { cls:= .type "tuple",data:= .seq rest.toArray }).push { cls:= .ref C,data:= .fields #[.ref h.objs.size, .none, .none, .none, .bool false, .none] })
  fun b o e=>Heap.get?_push_of_some _ (Heap.get?_push_of_some _ e)
 unfold isInstance;repeat (first | with_reducible refine wpAny_loadPart_at hget ?_ | (with_reducible refine wpAny_isSubtype_exc hC₁ ?_;rw[hcC]) | wp_step)
 show wpAny _ _ (typeLookup (.ref C) _) _ _ _;refine wpAny_typeLookup_tail hC₁ hn₁ T₁ F.mroIs F.init.lookup ?_;rw[hi];refine wpAny_holding (wpAny_bind ?_);unfold bindSpecial;refine wpAny_bind (wpAny_typeOf (T:="function") ⟨_,hfI₁,hfc⟩ ?_);rw[if_pos (by decide)];refine wpAny_pure (wpAny_bind (wpAny_mono (hq _ (h.objs.size+1) ⟨fun b o hb=>Heap.get?_push_of_some _ (Heap.get?_push_of_some _ hb),Heap.get?_none_of_le (Nat.le_succ _),h.objs.size,hget,Heap.get?_none_of_le (Nat.le_refl _),?_⟩) (fun r s' hr=>?_) fun _ _ x=>x))
 .exact Heap.get?_push_of_some _ (Heap.get?_push_at rfl rfl)
 .obtain⟨rfl,hQ⟩:=hr;wp_walk
  exact hQ
theorem zjU(F:ExcBaseFacts B newId initId bmB)(T:OwnTail h bmB bm){mN:Str->Option Value}{rest:List Value}{fI:Addr}{oI:Obj}{Q:Value->Shared->Prop}
  (hC:h.get? C=some (excClassObj nm q C N bs bm hdct sn sub ab col dd k0 k1 k2 k3 k5 newId))(hn:h.Ns N mN)(hi:mN "__init__"=some (.ref fI))
  (hfI:h.get? fI=some oI)(hfc:oI.cls= .type "function")
  (hq:∀h' e,Heap.MadeExcOf h h' e (.ref C) rest ->
   wpAny (model prog w) (A.under (.builtin "type.__call__" ⟨.ref C::rest,[]⟩)) (call (.ref fI) (.ref e::rest)) (fun r s'=>r= .none/\Q (.ref e) s') E ⟨h',g,d,t,os⟩) (hrest:rest.length<=sizeLine) :
  wpAny (model prog w) A (call (.ref C) rest) Q E ⟨h,g,d,t,os⟩:=by
 have f1:=tc_lookup;have f2:=tc_bind (.ref C);have hT:(⟨h,g,d,t,os⟩:Shared).TypeIs (.ref C) "type":=⟨_,hC,rfl⟩;refine wpAny_call (codeAny_of_tree ?_);show wpAny _ _ (callAny (.ref C) _) _ _ _;repeat (any_goals (first | assumption | with_reducible refine wpAny_loadPart_at hC ?_ | wp_step))
 refine⟨rfl,?_⟩;refine codeAny_call_builtin_at (Code.quiet_builtin _ (by decide+kernel)) entry_typeCall (wpAny_check_type_call_sub hC (zjz (hrest:=hrest) F T hC hn hi hfI hfc fun h' e hm=>?_));exact hq h' e hm
end
section
variable{M:Model}{A:Around}{E:Value->Shared->Prop}{env:Env}
variable{nm q:Str}{C N:Addr}{bs bm:List Value}{hdct:Bool}{sn:List Str}{sub:List Value}{ab:Bool}{col:Option Bool}{dd:Option Addr}{k0 k1 k2 k3 k5:Option Value}{newId:String}
theorem zn2{s:Shared}{x:Sem Value}{Q:Flow->Shared->Prop}(hbase:bm.contains (.type "BaseException")=true)(hh:A.handled=none)
  (h:wpAny M A x (fun v s₁=>∃e t od sl,v= .ref e/\s₁.heap.get? C=some (excClassObj nm q C N bs bm hdct sn sub ab col dd k0 k1 k2 k3 k5 newId) /\
   s₁.heap.get? e=some { cls:= .ref C,dict:=od,data:= .fields #[.ref t, .none, .none, .none, .bool false, .none],slots:=sl }/\E (.ref e) s₁) E s) :
  wpAny M A (raiseStmt env (some x) none) Q E s:=by
 have hcB:(Value.ref C::bm).contains (.type "BaseException")=true:=by rw[List.contains_cons,hbase,Bool.or_true]
 unfold raiseStmt;refine wpAny_bind (wpAny_mono h (fun v s₁ h₁=>?_) fun _ _ x=>x);obtain⟨e,t,od,sl,rfl,hC,he,hE⟩:=h₁;obtain⟨hp,g,d,tk,os⟩:=s₁;repeat (first | with_reducible refine wpAny_loadPart_at he ?_ | with_reducible refine wpAny_loadPart_at hC ?_ | (with_reducible refine wpAny_isSubtype_exc hC ?_;rw[hcB]) | wp_step)
 exact wpAny_raiseNew_none hh hE
end
theorem zig:Slot "wrapper_descriptor" "__get__" "wrapper_descriptor.__get__":= .of (owner:="wrapper_descriptor") (n:="__get__") (by rw[typeLookup_type,builtinLookup_eq_fast];kernel_rfl) (by decide+kernel) (by decide+kernel) (by decide+kernel)
 (by first | exact .inl (by decide+kernel) | exact .inr (by decide+kernel)) (by rw[isSubtype_type];kernel_rfl)
theorem zlo:entryFor table "wrapper_descriptor.__get__"=some Builtin.«wrapper_descriptor.__get__»:= entryFor_of_tree (by kernel_rfl)
theorem ztQ(a b c:Value):argsOk "wrapper_descriptor.__get__" ⟨[a,b,c],[]⟩:=by unfold argsOk;kernel_rfl
theorem zvi:typeOf (.builtin "ValueError.__init__")=pure (.type "wrapper_descriptor"):=by kernel_rfl
theorem zmA:".".intercalate ("ValueError.__init__".cutAt '.').dropLast="ValueError":=by decide+kernel
section
variable{prog:Program}{w:World}{M:Model}{A:Around}{E:Value->Shared->Prop}{h:Heap}{g:Array GenState}{d:Drawn}{t:Nat}{os:OsState}
theorem zm8{so D x C:Addr}{l₀ l:List Value}{K:W.Frag}{name:Str}{tk:Tok}{Q:Fin->Shared->Prop}
  (hso:h.get? so=some { cls:= .type "super",dict:=none,data:= .fields #[.ref D, .ref x, .ref C],slots:= #[] })(hno:W.Looks (model prog w) h (opaqueClassAbove (.ref C)) none)
  (hC:W.Looks (model prog w) h (mroOf (.ref C)) l₀)(hl:(l₀.dropWhile (· != .ref D)).drop 1=l)(X:K.In h)(hx:W.Looks (model prog w) h (typeOf (.ref x)) (.ref C))(hv:W.Looks (model prog w) h (isSubtype (.ref C) (.type "ValueError")) true)
  (hf:W.alongIn K name l=some (some (.builtin "ValueError.__init__")))(hxC:x≠C)(hn:(name==("__class__":Str))=false)
  (hq:Q (.done (.ret (.ref h.objs.size))) ⟨h.push { cls:= .type "method-wrapper",data:= .fields #[.builtin "ValueError.__init__", .ref x] },g,d,t,os⟩) :
  wpAny (model prog w) A (Builtin.«super.__getattribute__» ⟨[.ref so, .str name tk],[]⟩) Q E ⟨h,g,d,t,os⟩:=by
 have hlk:=zig.lookup;have hne:(Value.ref x==Value.ref C)=false:=by simp[hxC]
 have hTf:(⟨h,g,d,t,os⟩:Shared).TypeIs (.builtin "ValueError.__init__") "wrapper_descriptor":=zvi;have hdt:({ cls:= .type "super",dict:=none,data:= .fields #[.ref D, .ref x, .ref C],slots:= #[] }:Obj).data= .fields #[.ref D, .ref x, .ref C]:=rfl;have f0:(#[.ref D, .ref x, .ref C]:Array Value)[0]? = some (.ref D):=rfl;have f1:(#[.ref D, .ref x, .ref C]:Array Value)[1]? = some (.ref x):=rfl;have f2:(#[.ref D, .ref x, .ref C]:Array Value)[2]? = some (.ref C):=rfl;have hov:=zmA;unfold Builtin.«super.__getattribute__»;repeat (first
  | (with_reducible refine wpAny_field hso hdt f0 ?_) | (with_reducible refine wpAny_field hso hdt f1 ?_) | (with_reducible refine wpAny_field hso hdt f2 ?_)
  | (with_reducible refine ks_wpAny_notOpaque hno ?_)
  | (with_reducible refine W.Looks.at hC ?_;rw[hl])
  | (with_reducible refine W.Looks.at hx ?_)
  | (rw[zmA];with_reducible refine W.Looks.at hv ?_)
  | (refine ks_forIn_along X (fun _ _=>rfl) rfl ?_ hf)
  | (with_reducible refine wpAny_typeOf hTf ?_)
  | (with_reducible refine wpAny_call_entry zig hTf zlo ?_ (ztQ _ _ _))
  | (with_reducible refine⟨_,rfl,?_⟩)
  | (simp only[hn,hne,Bool.or_false,Bool.false_eq_true,if_false])
  | wp_step
  | dsimp only)
 all_goals exact hq
end
def zkw:List Value->Bool
 | .ref _::r=>zkw r
 | l=>l==bmV
theorem zjy(self:Value):∀{l:List Value},zkw l=true->refuseLoop self "__setattr__" l=pure ()
 | .ref c::r,e=>by rw[refuseLoop_ref];exact zjy self e
 | [],e=>nomatch (show([]:List Value)=bmV from beq_iff_eq.mp e)
 | .type n::r,e=>by rw[show Value.type n::r=bmV from beq_iff_eq.mp e];kernel_rfl
 | .none::r,e=>nomatch (show Value.none::r=bmV from beq_iff_eq.mp e)
 | .bool b::r,e=>nomatch (show Value.bool b::r=bmV from beq_iff_eq.mp e)
 | .int i t::r,e=>nomatch (show Value.int i t::r=bmV from beq_iff_eq.mp e)
 | .float i t::r,e=>nomatch (show Value.float i t::r=bmV from beq_iff_eq.mp e)
 | .str i t::r,e=>nomatch (show Value.str i t::r=bmV from beq_iff_eq.mp e)
 | .builtin i::r,e=>nomatch (show Value.builtin i::r=bmV from beq_iff_eq.mp e)
 | .bytes i t::r,e=>nomatch (show Value.bytes i t::r=bmV from beq_iff_eq.mp e)
 | .ellipsis::r,e=>nomatch (show Value.ellipsis::r=bmV from beq_iff_eq.mp e)
section
variable{prog:Program}{w:World}{A:Around}{E:Value->Shared->Prop}{s:Shared}{K:W.Frag}{x C:Addr}{ox:Obj}{cd:ClassData}{name:Str}{v:Value}
theorem zuW{R:Result->Shared->Prop}{tk:Tok}(X:K.In s.heap)(I:W.InstAt s.heap x ox C none)(hc:W.clsIn K C=some cd)(hp:zkw cd.mro=true)(ho:W.mroIn K C (.type "object")=some true)(ht:W.takerIn K C name=some none)
  (h:∀b,wpAny (model prog w) A.in1 (Builtin.ObjectAttr.storeInOwnDict (.ref x) (.ref C) (.str name tk) name v b)
   (fun fin s'=>match fin with | .done f=>R (.ok f) s' | .again c'=>c'.quiet=true/\codeAny (model prog w) A c' R s') (fun e s'=>R (.error e) s') s) :
  codeAny (model prog w) A (.call (.builtin "object.__setattr__") ⟨[.ref x, .str name tk,v],[]⟩) R s:=by
 have SF:=PySem.F.store_object;have sub:W.Looks (model prog w) s.heap (isInstance (.ref x) (.type "object")) true:=I.type.andThen (W.looks_mroIn X ho);refine codeAny_call_builtin SF.slot.plain SF.entry (@W.check_slot (model prog w) _ _ s "object.__setattr__" "object" "__setattr__" (.ref x) [.str name tk,v] [] _ SF.kind SF.split sub (SF.args (.ref x) (.str name tk) v) ?_);obtain⟨attr,ha,hr⟩:=Option.bind_eq_some_iff.mp ht;have hm:W.Looks (model prog w) s.heap (mroOf (.ref C)) cd.mro:=(W.looks_clsIn X hc).andThen .now;have L3:W.Looks (model prog w) s.heap (Builtin.ObjectAttr.storeTaker? attr) none:=by
  cases attr with
  | none=>exact .now
  | some a =>
   obtain⟨b,hb,hq⟩:=Option.map_eq_some_iff.mp hr;refine(W.looks_takesIn X hb).andThen ?_;cases b
   .exact .now
   .cases hq
 rw[W.osa_eq,refuse_eq];refine wpAny_bind (wpAny_bind (I.type.here (wpAny_bind (hm.here ?_))));rw[zjy _ hp];refine wpAny_pure (wpAny_bind (I.type.here (wpAny_bind ((W.looks_findIn X ha).here (wpAny_bind (L3.here ?_))))));exact h _
theorem zqu{Q:Unit->Shared->Prop}(X:K.In s.heap)(I:W.InstAt s.heap x ox C none)(hc:W.clsIn K C=some cd)(hd:cd.hasDict=true)(hp:zkw cd.mro=true)(ho:W.mroIn K C (.type "object")=some true)(ht:W.takerIn K C name=some none)
  (hs:W.findIn K (.ref C) "__setattr__"=some (some (.builtin "object.__setattr__")))
  (hq:∀(h':Heap) (tk':Nat),h'.get? x=some { ox with dict:=some s.heap.objs.size }->h'.Ns1 s.heap.objs.size (fun y=>if y=name then some v else none) ->
   (∀b o,b≠x->s.heap.get? b=some o->h'.get? b=some o)->Q () { s with heap:=h',toks:=tk' }) :
  wpAny (model prog w) A (setAttr (.ref x) name v) Q E s:=by
 refine W.set_plain X I hs (zuW (s:={ s with toks:=s.toks+1 }) X I hc hp ho ht fun b=>?_);obtain⟨hx,hxc,hno,hdn⟩:=id I;obtain⟨hh,g,d,t,os⟩:=s;obtain⟨oc,od,odt,osl⟩:=ox;have hdn':od=none:=by cases od with | none=>rfl | some _=>exact hdn.elim
 subst hdn';have hxc':oc= .ref C:=hxc;subst hxc';have hx₁:(hh.push { cls:= .type "dict",data:= .dict #[] }).get? x=some ⟨.ref C,none,odt,osl⟩:=Heap.get?_push_of_some _ hx;have hxs:x≠hh.objs.size:=Nat.ne_of_lt (Heap.lt_size hx);have hgd:((hh.push { cls:= .type "dict",data:= .dict #[] }).update x fun o=>{ o with dict:=some hh.objs.size }).get? hh.objs.size=some { cls:= .type "dict",data:= .dict #[] } :=
  (Heap.get?_update_ne _ _ _ _ hxs.symm).trans (Heap.get?_push_at rfl rfl)
 have hnd:((hh.push { cls:= .type "dict",data:= .dict #[] }).update x fun o=>{ o with dict:=some hh.objs.size }).Ns hh.objs.size (fun _=>none) :=
  ⟨_, #[],_,hgd,rfl,fun e he=>absurd he (by simp),fun _=>rfl⟩
 refine wpAny_bind (wpAny_pure (wpAny_bind (wpAny_bind (wpAny_loadPart hx (wpAny_bind (PySem.W.Looks.here (s:=⟨hh,g,d,t+1,os⟩) (PySem.W.looks_clsIn X hc) ?_))))));rw[hd];rw[if_neg (by decide)];dsimp only;rw[if_neg (by simp[typeHasDict])];have go:∀{QQ:Option Addr->Shared->Prop} {EE:Value->Shared->Prop},(QQ (some hh.objs.size) ⟨(hh.push { cls:= .type "dict",data:= .dict #[] }).update x fun o=>{ o with dict:=some hh.objs.size },g,d,t+1,os⟩) ->
   wpAny (model prog w) A.in1 (do
    let d<-alloc { cls:=Value.type "dict",data:=Data.dict #[] }
    update x fun o=>{ cls:=o.cls,dict:=some d,data:=o.data,slots:=o.slots }
    dictMade (.ref C) x d) QQ EE ⟨hh,g,d,t+1,os⟩:=fun h=>wpAny_bind (wpAny_alloc (wpAny_bind (wpAny_update hx₁ (wpAny_pure h))))
 split
 .rename_i c;exact absurd hno (by unfold W.notCls;simp)
 .refine go ?_;show wpAny _ _ (Builtin.ObjectAttr.storeInDict hh.objs.size (.str name _) name v) _ _ _;unfold Builtin.ObjectAttr.storeInDict Builtin.ObjectAttr.newKeyGuard;refine wpAny_bind (wpAny_pure (wpAny_bind (wpAny_nsSet1 (Heap.Ns1.of_empty hnd) fun h' hn' hs=>?_)));obtain⟨oD,esD,epD,hoD,hdD,hcD⟩:=hn'.count (Within.cons name v Within.nil);refine wpAny_bind (wpAny_lookBehind hoD (by rw[hdD];exact pastItsLine_dict (Nat.le_trans hcD (by rw[List.length_cons,List.length_nil,sizeLine_eq];omega))) ?_);refine wpAny_pure (hq h' (t+1+1) ((hs.2 x hxs).trans (Heap.get?_update_self _ hx₁ ?_)) hn' fun b o hbx hb=>(hs.2 b (Nat.ne_of_lt (Heap.lt_size hb))).trans ((Heap.get?_update_ne _ _ _ _ hbx).trans (Heap.get?_push_of_some _ hb)));have hfr:=(Heap.get?_some_iff.mp hx).2;cases odt<;>first | rfl | exact hfr
end
section
variable{prog:Program}{w:World}{M:Model}{A:Around}{E:Value->Shared->Prop}{h:Heap}{g:Array GenState}{d:Drawn}{t:Nat}{os:OsState}
theorem zka{so D x C:Addr}{l₀ l:List Value}{K:W.Frag}{name:Str}{pl:Sem Bool}{Q:Value×List Value->Shared->Prop}
  (hso:h.get? so=some { cls:= .type "super",dict:=none,data:= .fields #[.ref D, .ref x, .ref C],slots:= #[] })(hno:W.Looks (model prog w) h (opaqueClassAbove (.ref C)) none)
  (hC:W.Looks (model prog w) h (mroOf (.ref C)) l₀)(hl:(l₀.dropWhile (· != .ref D)).drop 1=l)(X:K.In h)(hx:W.Looks (model prog w) h (typeOf (.ref x)) (.ref C))(hv:W.Looks (model prog w) h (isSubtype (.ref C) (.type "ValueError")) true)
  (hf:W.alongIn K name l=some (some (.builtin "ValueError.__init__")))(hxC:x≠C)(hn:(name==("__class__":Str))=false)
  (hq:Q (.ref h.objs.size,[]) ⟨h.push { cls:= .type "method-wrapper",data:= .fields #[.builtin "ValueError.__init__", .ref x] },g,d,t+1,os⟩) :
  wpAny (model prog w) A (getMethod (.ref so) name pl) Q E ⟨h,g,d,t,os⟩:=by
 have hlk:=F.ks_slot_super_ga.lookup;have hcan:=F.ks_canon_super_ga;have hT:∀t',(⟨h,g,d,t',os⟩:Shared).TypeIs (.ref so) "super":=fun _=>⟨_,hso,rfl⟩
 unfold getMethod;refine wpAny_bind (wpAny_specialOf (hT _) hlk ?_);show wpAny _ _ (if (Manifest.canonical "super.__getattribute__" !="object.__getattribute__")=true then _ else _) _ _ _;rw[if_pos hcan];unfold getAttr getAttrBy;refine wpAny_bind (wpAny_bind (wpAny_mkText (wpAny_holding (wpAny_bind (wpAny_typeOf (hT _) (wpAny_bind (wpAny_of_eq hlk ?_)))))));show wpAny _ _ (getAttrByItsOwn (.ref so) (.str name t) (.type "super") (.builtin "super.__getattribute__") true false) _ _ _;unfold getAttrByItsOwn hookBefore callGetattribute boundAndCalled;refine wpAny_bind (wpAny_of_eq (show(if onTheHeap (.type "super") then typeLookup (.type "super") "__getattr__" else pure none)=pure none from rfl) ?_);refine wpAny_bind (wpAny_attempt (wpAny_holding ?_));show wpAny _ _ (bindSpecial (.builtin "super.__getattribute__") (.ref so) >>= _) _ _ _;refine wpAny_bind (wpAny_of_eq (F.ks_slot_super_ga.bind _) ?_);refine wpAny_mono (Q:=fun v s'=>v= .ref h.objs.size/\s'=⟨h.push { cls:= .type "method-wrapper",data:= .fields #[.builtin "ValueError.__init__", .ref x] },g,d,t+1,os⟩) (E:=fun _ _=>False)
  (wpAny_call_entry F.ks_slot_super_ga (hT _) F.ks_entry_super_ga (zm8 hso hno hC hl X hx hv hf hxC hn ⟨_,rfl,rfl,rfl⟩) (F.ks_gaArgs_super _ _)) (fun v s' hv=>?_) fun _ _ z=>z.elim
 obtain⟨rfl,rfl⟩:=hv;exact wpAny_pure (wpAny_pure hq)
theorem zyQ{nm q:Str}{C N x:Addr}{bs bm:List Value}{hdct:Bool}{sn:List Str}{sub:List Value}{ab:Bool}{col:Option Bool}{dd:Option Addr}{k0 k1 k2 k3 k5:Option Value}{newId:String}{ox:Obj}{a:Value}{Q:Unit->Shared->Prop}
  (hC:h.get? C=some (excClassObj nm q C N bs bm hdct sn sub ab col dd k0 k1 k2 k3 k5 newId))(T:OwnTail h bmV bm)(he:h.get? x=some ox)(hcls:ox.cls= .ref C)(hq:Q () ⟨h,g,d,t,os⟩) :
  wpAny M A (checkBoundCall "ValueError.__init__" ⟨[.ref x,a],[]⟩) Q E ⟨h,g,d,t,os⟩:=by
 have F:=F.excBase_ValueError;have hcB:(Value.ref C::bm).contains (.type "ValueError")=true:=by rw[List.contains_cons,T.hasType F.hasB,Bool.or_true]
 have hshort:=F.noStar;simp only[checkBoundCall,F.initKind,F.initRow];repeat (first | (with_reducible refine wpAny_loadPart_at he ?_;rw[hcls]) | with_reducible refine wpAny_loadPart_at hC ?_ | (with_reducible refine wpAny_isSubtype_exc hC ?_;rw[hcB]) | wp_step)
 exact hq
theorem zlH{nm qn:Str}{N:Addr}{bs bm:List Value}{hdct:Bool}{sn:List Str}{sub:List Value}{ab:Bool}{col:Option Bool}{dd:Option Addr}{k0 k1 k2 k3 k5:Option Value}{newId:String}{q x C:Addr}{t0:Addr}{a:Value}{ox:Obj}{vs:Array Value}{Q:Value->Shared->Prop}(hC:h.get? C=some (excClassObj nm qn C N bs bm hdct sn sub ab col dd k0 k1 k2 k3 k5 newId))(T:OwnTail h bmV bm)(hxc:ox.cls= .ref C)(hq:h.get? q=some { cls:= .type "method-wrapper",data:= .fields #[.builtin "ValueError.__init__", .ref x] })
  (hx:h.get? x=some ox)(hd:ox.data= .fields vs)(h0:vs[0]? = some (.ref t0))
  (k:Q .none ⟨(h.push { cls:= .type "tuple",data:= .seq #[a] }).update x (Obj.mapFields fun y=>y.setIfInBounds 0 (.ref h.objs.size)),g,d,t,os⟩) :
  wpAny (model prog w) A (call (.ref q) [a]) Q E ⟨h,g,d,t,os⟩:=by
 refine wpAny_call (codeAny_of_tree ?_);show wpAny _ A.in1 (callAny (.ref q) ⟨[a],[]⟩) _ _ _;unfold callAny;refine wpAny_bind (wpAny_load hq ?_);show wpAny _ _ (checkBoundCall "ValueError.__init__" ⟨[.ref x,a],[]⟩ >>= fun _=>again (.builtin "ValueError.__init__" ⟨[.ref x,a],[]⟩)) _ _ _;refine wpAny_bind (zyQ hC T hx hxc (wpAny_pure ⟨plainId_quiet (by decide+kernel) _,codeAny_builtin F.excBase_ValueError.initEntry ?_⟩));rw[Around.under_plainId (by decide+kernel) _];have hsz:0 < vs.size:=by
  rcases Nat.lt_or_ge 0 vs.size with z | z
  .exact z
  .rw[Array.getElem?_eq_none z] at h0;cases h0
 have hxp:(h.push { cls:= .type "tuple",data:= .seq #[a] }).get? x=some ox:=Heap.get?_push_of_some _ hx;unfold Builtin.«BaseException.__init__»;dsimp only;rw[if_neg (by decide)];refine wpAny_bind (wpAny_newObj_type ?_ (by size_fits));unfold Builtin.BaseException.bexcPut;refine wpAny_bind (wpAny_bind (wpAny_field hxp hd h0 (wpAny_bind (wpAny_setField hxp hd hsz ?_))));wp_walk
 exact k
end
theorem ztI{M:Model}{A:Around}{E:Value->Shared->Prop}{s:Shared}{env:Env}{pos:Pos}{q:Addr}{fs:Array Value}{arg:Expr}{Q:Value->Shared->Prop}
  (h:wpAny M A (eval arg env) (fun v s₁=>s₁.heap.get? q=some { cls:= .type "method-wrapper",data:= .fields fs }/\wpAny M A (call (.ref q) [v]) Q E s₁) E s)
  (he:starEach [arg] env=[(false,eval arg env)]:=by rfl):wpAny M A (callWith pos (.ref q) [] (backTo pos (starEach [arg] env)) []) Q E s:=by
 refine W.callWith_of (P:=fun h=>h.get? q=some { cls:= .type "method-wrapper",data:= .fields fs }) (by rw[he];rfl) (fun h ho=>⟨.machine, .inr (.inl rfl),(W.Looks.ld (part:=none) ho).andThen .now⟩) ?_;rw[he];refine Calls.evalArgs_plain ?_;show wpAny _ _ (spliced ((false,eval arg env)::backTo pos [])) _ _ s;exact Calls.spliced_cons (wpAny_mono h (fun v s₁ h₁=>wpAny_pure h₁) fun _ _ z=>z)
def fText(x z:Str):List Expr->Str->Option Str
 | [],acc=>some acc
 | .Constant (.str y) _ _::r,acc=>if (acc++y).length<=sizeLine then fText x z r (acc++y) else none
 | .FormattedValue (.Name n _) (-1) none _::r,acc=>if n=x/\(n==("__debug__":Str))=false/\(acc++z).length<=sizeLine/\z.length<=sizeLine then fText x z r (acc++z) else none
 | _::_,_=>none
section
variable{prog:Program}{w:World}{A:Around}{E:Value->Shared->Prop}{env:Env}{m:Str->Option Value}{x z out:Str}{tk:Tok}{Q:Value->Shared->Prop}
theorem ztp(hk:env.scope.kind= .function)(hl:env.kindOf x=some .local)(hv:m x=some (.str z tk)):∀{es:List Expr} {acc:Str} {s:Shared},s.heap.Ns env.locals m->fText x z es acc=some out->out.length<=sizeLine->(∀t1 t2,Q (.str out t1) { s with toks:=t2 }) ->
  wpAny (model prog w) A (joinParts acc (evalEach es env)) Q E s
 | [],acc,s,hn,e,hz,h=>by
  cases e;exact joinParts_nil (h _ _) hz
 | e::r,acc,s,hn,hf,hz,h=>by
  refine(show wpAny (model prog w) A (joinParts acc (eval e env::evalEach r env)) Q E s from joinParts_cons ?_);unfold fText at hf;split at hf
  .rename_i he;cases he
  .rename_i y k p r' acc' he;cases he;split at hf
   .rename_i hle;exact Calls.Constant_str ⟨hle,ztp hk hl hv (s:={ s with toks:=s.toks+1 }) hn hf hz fun t1 t2=>h t1 t2⟩
   .cases hf
  .rename_i n p1 p2 r' acc' he;cases he;split at hf
   .rename_i hc;obtain⟨hx,hd,hle,hzl⟩:=hc;rw[hx] at hd;rw[hx];refine FormattedValue_plain (wpAny_Name (wpAny_loadName_local hk hl hn hv (formatField_str (fun t' tk'=>⟨hle,ztp hk hl hv (s:={ s with toks:=tk' }) hn hf hz fun t1 t2=>h t1 t2⟩) hzl)) hd)
   .cases hf
  .cases hf
theorem zzx{e1 e2:Expr}{es:List Expr}{pos:Pos}{s:Shared}(hk:env.scope.kind= .function)(hl:env.kindOf x=some .local)(hv:m x=some (.str z tk))(hn:s.heap.Ns env.locals m)(hf:fText x z (e1::e2::es) Str.empty=some out)(hz:out.length<=sizeLine)
  (h:∀t1 t2,Q (.str out t1) { s with toks:=t2 }):wpAny (model prog w) A (eval (.JoinedStr (e1::e2::es) pos) env) Q E s:=JoinedStr_many (ztp hk hl hv hn hf hz h)
end
abbrev zoC(e1 e2:Expr)(es:List Expr)(x:Str)(p0 p1 p2 p3 p4 p5 p6 p7 p8 p9:Pos):List Stmt :=
 [.Expr (.Call (.Attribute (.Call (.Name "super" p0) [] [] p1) "__init__" p2) [.JoinedStr (e1::e2::es) p3] [] p4) p5, .Assign [.Attribute (.Name "self" p6) x p7] (.Name x p8) p9]
abbrev zlY(C t:Addr):Obj:={ cls:= .ref C,data:= .fields #[.ref t, .none, .none, .none, .bool false, .none] }
theorem zvn{o:Expr}{name:Str}{apos pos:Pos}{e:Expr}{env:Env}(hl:apos.endLine=pos.line)(he:starEach [e] env=[(false,eval e env)]:=by rfl):eval (.Call (.Attribute o name apos) [e] [] pos) env=(do
  let ov<-attributeBase o name env (eval o env)
  standAt apos.atName
  let (f,first)<-holding [ov] (getMethod ov name (do return (<- importBound o env).getD true))
  callWith pos f first (backTo pos (starEach [e] env)) []):=by
 have hpos:methodCallPos true o env apos pos=pure pos:=by unfold methodCallPos;simp[hl]
 have hform:methodCallForm ([e].length+([]:List Keyword).length) (backTo pos (starEach [e] env)) (backToKw pos (keywordEach [] env))=true:=by rw[he];rfl
 rw[arm_eval_Call];unfold methodCall calleeOf;rw[hform,hpos];simp only[if_true,pure_bind];rfl
section
variable{prog:Program}{w:World}{A:Around}{E:Value->Shared->Prop}{s:Shared}{K:W.Frag}{mg mb:Str->Option Value}{e1 e2:Expr}{es:List Expr}{x z out qual:Str}{tk:Tok}{p0 p1 p2 p3 p4 p5 p6 p7 p8 p9:Pos}{Q:Value->Shared->Prop}
 {fI C cda cc e t:Addr}{od cdd cld an:Option Addr}{oc ccl cl dV kV doc pm ct:Value}{osl ccs csl:Array (Option Value)}{params:Arguments}{scope:Scope}{vs:Array Value}{file:Str}{tf:Tok}{cd:ClassData}{ar:Arg}
 {nm qn:Str}{N:Addr}{bs bm:List Value}{hdct:Bool}{sn:List Str}{sub:List Value}{ab:Bool}{col:Option Bool}{dd:Option Addr}{k0 k1 k2 k3 k5:Option Value}{newId:String}
theorem zrc(X:K.In s.heap)(hg:s.heap.Ns mainGlobals mg)(hsup:mg "super"=none)(hb:s.heap.Ns builtinsNs mb)(hbs:mb "super"=some (.type "super"))(hlim:s.heap.NoLimit)(hroom:A.depth < recursionLimit)
  (lk:K.lookup fI=some ⟨oc,od, .func (W.ksFn "__init__" qual params (zoC e1 e2 es x p0 p1 p2 p3 p4 p5 p6 p7 p8 p9) scope dV kV doc pm an (.ref cda) ct cc),osl⟩)(hcd:W.codeIn K (.ref cda) qual=true)
  (hcda:K.lookup cda=some ⟨ccl,cdd, .fields vs,ccs⟩)(hvs:vs[2]? = some (.str file tf))(hfile:((prog.main.file:Str)==file)=true)(htop:(prog.main.scope.names.lookup ("super":Str)).isSome=false)
  (hcc:K.lookup cc=some ⟨cl,cld, .cell (some (.ref C)),csl⟩)(hC:W.clsIn K C=some cd)(hhd:cd.hasDict=true)(hpe:zkw cd.mro=true)(hself:W.mroIn K C (.ref C)=some true)(hobj:W.mroIn K C (.type "object")=some true)(hve:W.mroIn K C (.type "ValueError")=some true)
  (hop:W.nsIn K cStatics "thirdparty.any"=some none)(hal:W.ks_superIn K C C "__init__"=some (some (.builtin "ValueError.__init__")))(htk:W.takerIn K C x=some none)(hsa:W.findIn K (.ref C) "__setattr__"=some (some (.builtin "object.__setattr__")))
  (hcls:s.heap.get? C=some (excClassObj nm qn C N bs bm hdct sn sub ab col dd k0 k1 k2 k3 k5 newId))(hT:OwnTail s.heap bmV bm)(hce:C≠e)
  (hbind:BindsTo s (W.ksFn "__init__" qual params (zoC e1 e2 es x p0 p1 p2 p3 p4 p5 p6 p7 p8 p9) scope dV kV doc pm an (.ref cda) ct cc) ⟨[.ref e, .str z tk],[]⟩ [("self", .ref e),(x, .str z tk)])(hp:(params.posonlyargs++params.args).head? = some ar)(har:ar.arg="self")
  (hks:scope.names.lookup ("super":Str)=some .globalImplicit)(hkc:scope.names.lookup ("__class__":Str)=some .free)(hsl:scope.names.lookup ("self":Str)=some .local)(hxl:scope.names.lookup x=some .local)(hxs:x≠"self")(hxd:(x==("__debug__":Str))=false)
  (hcell:∀y∈scope.names,y.2≠ .cell)(hk:scope.kind= .function)(hco:scope.isCoroutine=false)(hgen:scope.isGenerator=false)
  (hf:fText x z (e1::e2::es) Str.empty=some out)(hz:out.length<=sizeLine)
  (hx:s.heap.get? e=some (zlY C t))(hln:p2.endLine=p4.line)(hKe:K.lookup e=none)
  (q:∀(h':Heap) (tk':Nat) (t2 dx:Addr),h'.get? e=some { zlY C t2 with dict:=some dx }->h'.Ns1 dx (fun y=>if y=x then some (.str z tk) else none)->s.heap.get? dx=none->(∀b o,b≠e->s.heap.get? b=some o->h'.get? b=some o)->Q .none { s with heap:=h',toks:=tk' }) :
  wpAny (model prog w) A (call (.ref fI) [.ref e, .str z tk]) Q E s:=by
 obtain⟨sk,sns,sg,sco,smo⟩:=scope;obtain rfl:sk= .function:=hk;obtain rfl:sg=false:=hgen;obtain rfl:sco=false:=hco;refine wpAny_call (ks_codeAny_call_defAt hroom (X _ _ lk) rfl hlim (W.codeRec_of X hcd) rfl hbind hcell (fun y hy=>?_) (fun h1 hns1 kp1=>?_))
 .rcases List.mem_cons.mp hy with rfl | hy
  .exact hsl
  .rw[List.mem_singleton.mp hy];exact hxl
 have hm1:∀v,([("self",Value.ref e),(x,v)]:List (Str×Value)).reverse.lookup ("self":Str)=some (.ref e):=fun v=>by
  simp[List.lookup_cons,beq_eq_false_iff_ne.mpr (Ne.symm hxs)]
 have hm2:∀v,([("self",Value.ref e),(x,v)]:List (Str×Value)).reverse.lookup x=some v:=fun v=>by simp[List.lookup_cons]
 have X1:K.In h1:=X.keeps kp1;have ksup:∀{Q':Value->Shared->Prop} {E':Value->Shared->Prop} {A':Around} {s':Shared},(∀b o,h1.get? b=some o->s'.heap.get? b=some o)->Q' (.type "super") s'->wpAny (model prog w) A' (loadName (W.ksEnv qual ⟨.function,sns,false,false,smo⟩ s.heap.objs.size fI (.ref cda) cc) "super") Q' E' s':=fun k hq =>
  W.ks_loadName_global rfl hks (Calls.loadGlobal_builtin ((hg.keeps kp1).keeps k) hsup ((hb.keeps kp1).keeps k) hbs hq)
 obtain⟨oD,hD1,hD2⟩:∃oD,h1.get? C=some oD/\oD.data= .cls cd:=by
  unfold W.clsIn at hC;split at hC
  .rename_i c d cd' sl ho;cases hC;exact⟨_,X1 _ _ ho,rfl⟩
  .cases hC
 have I1:W.InstAt h1 e (zlY C t) C none:=⟨kp1 _ _ hx,rfl,rfl,trivial⟩;refine ks_wpAt_execs_cons (ks_wpAt_Expr_any (ks_wpAt_MethodCall (he:=zvn hln) (ks_wpAt_super_base (env:=W.ksEnv qual ⟨.function,sns,false,false,smo⟩ s.heap.objs.size fI (.ref cda) cc) hks hkc (by decide+kernel) rfl (X1 _ _ lk) rfl hp rfl (X1 _ _ hcda) rfl hvs hfile htop ?_)));refine ksup (fun _ _ z=>z) ⟨rfl,?_⟩;refine wpAny_loadName_free rfl hkc rfl ⟨_,X1 _ _ hcc,rfl⟩ ?_;rw[har];refine wpAny_loadName_local rfl hsl hns1 (hm1 _) ?_;refine ks_wpAny_isType_cls hD1 hD2 ⟨rfl,?_⟩;refine ks_wpAny_call_super hD1 hD2 I1.at_ rfl (fun c h=>nomatch h) (W.looks_mroIn X1 hself) (fun h2 e2' k2=>?_);have X2:K.In h2:=X1.keeps k2;have I2:W.InstAt h2 e (zlY C t) C none:=⟨k2 _ _ I1.at_,rfl,rfl,trivial⟩;unfold W.ks_superIn at hal;rw[hC] at hal;refine zka e2' (W.looks_opaque X2 hop) (l₀:=cd.mro) (fun A Q E s k q=>wpAny_bind ((W.looks_clsIn X2 hC) A _ E s k (wpAny_pure q))) rfl X2 I2.type (W.looks_mroIn X2 hve) hal (Ne.symm hce) (by decide+kernel) ?_;have hq3:(h2.push { cls:= .type "method-wrapper",data:= .fields #[.builtin "ValueError.__init__", .ref e] }).get? h2.objs.size=some { cls:= .type "method-wrapper",data:= .fields #[.builtin "ValueError.__init__", .ref e] }:=Heap.get?_push_size h2 rfl;have k3:∀b o,h2.get? b=some o->(h2.push { cls:= .type "method-wrapper",data:= .fields #[.builtin "ValueError.__init__", .ref e] }).get? b=some o:=fun b o q=>Heap.get?_push_of_some _ q
 generalize (h2.push { cls:= .type "method-wrapper",data:= .fields #[.builtin "ValueError.__init__", .ref e] })=h3 at hq3 k3 ⊢
 have k13:∀b o,h1.get? b=some o->h3.get? b=some o:=fun b o q=>k3 b o (k2 b o q)
 refine ztI (zzx rfl hxl (hm2 _) (hns1.keeps k13) hf hz fun t1 t2=>⟨hq3,?_⟩);refine zlH (k13 _ _ (kp1 _ _ hcls)) ((hT.keeps kp1).keeps k13) (ox:=zlY C t) rfl hq3 (k13 _ _ I1.at_) rfl rfl ?_;have hsz3:h3.objs.size≠e:=fun z=>absurd (Heap.lt_size (k13 _ _ I1.at_)) (by rw[z];exact Nat.lt_irrefl _)
 have he4:((h3.push { cls:= .type "tuple",data:= .seq #[Value.str out t1] }).update e (Obj.mapFields fun y=>y.setIfInBounds 0 (.ref h3.objs.size))).get? e=some (zlY C h3.objs.size):=Heap.get?_update_self _ (Heap.get?_push_of_some _ (k13 _ _ I1.at_)) rfl;have k4:∀b o,b≠e->h3.get? b=some o->((h3.push { cls:= .type "tuple",data:= .seq #[Value.str out t1] }).update e (Obj.mapFields fun y=>y.setIfInBounds 0 (.ref h3.objs.size))).get? b=some o:=fun b o hb q=>(Heap.get?_update_other _ _ (Ne.symm hb)).trans (Heap.get?_push_of_some _ q)
 generalize ((h3.push { cls:= .type "tuple",data:= .seq #[Value.str out t1] }).update e (Obj.mapFields fun y=>y.setIfInBounds 0 (.ref h3.objs.size)))=h4 at he4 k4 ⊢
 have k14:∀b o,b≠e->h1.get? b=some o->h4.get? b=some o:=fun b o hb q=>k4 b o hb (k13 b o q)
 have X4:K.In h4:=fun a o ho=>k14 a o (fun z=>by subst z;rw[hKe] at ho;cases ho) (X1 a o ho)
 have hLe:s.heap.objs.size≠e:=fun z=>absurd (Heap.lt_size hx) (by rw[z];exact Nat.lt_irrefl _)
 have hns4:h4.Ns s.heap.objs.size (fun y=>([("self",Value.ref e),(x,Value.str z tk)]:List (Str×Value)).reverse.lookup y):=by
  obtain⟨o,es',ep,ho,r⟩:=hns1;exact⟨o,es',ep,k14 _ _ hLe ho,r⟩
 refine ks_wpAt_execs_cons (ks_wpAt_Assign_Attr (wpAt_of_wpAny (wpAny_Name (wpAny_loadName_local rfl hxl hns4 (hm2 _) (wpAny_Name (wpAny_loadName_local rfl hsl hns4 (hm1 _) ?_))) hxd)));refine zqu X4 (ox:=zlY C h3.objs.size) ⟨he4,rfl,rfl,trivial⟩ hC hhd hpe hobj htk hsa (fun h5 tk5 o5 n5 k5=>?_);refine wpAt_of_wpAny (wpAny_pure ?_);refine q h5 tk5 h3.objs.size h4.objs.size o5 n5 ?_ fun b o hb e'=>k5 b o hb (k14 b o hb (kp1 b o e'))
 cases r:s.heap.get? h4.objs.size with
 | none=>rfl
 | some o=>exact absurd (Heap.lt_size (k14 _ _ (fun z=>absurd (Heap.lt_size he4) (by rw[<- z];exact Nat.lt_irrefl _)) (kp1 _ _ r))) (Nat.lt_irrefl _)
end
theorem zuu{K:W.Frag}{h:Heap}{N:Addr}{m:Str->Option Value}{n:Str}{v:Value}(X:K.In h)(G:h.Ns N m)(e:W.nsIn K N n=some (some v)):m n=some v:=by
 obtain⟨o,es,ep,ho,hd,_,hf⟩:=G;unfold W.nsIn at e;split at e
 .rename_i c d es' n' sl q;have:=X _ _ q;rw[ho] at this;cases this;cases hd;split at e
  .rename_i en he;cases e;rw[<- hf];unfold nsFind findBy;rw[<- Array.find?_toList,he];rfl
  .split at e<;>cases e
 .cases e
def zls(K:W.Frag)(C:Addr)(bmB:List Value)(newId:String)(fI:Addr):Bool:=match K.lookup C with
 | some ⟨.type "type",_, .cls cd,sl⟩=>(match cd.mro,sl.toList with
  | .ref C'::bm,[_,_,_,_,some (.builtin n),_]=>C'==C&&n==newId&& !cd.hasDel&&W.tailIn K bmB bm&&W.nsOkIn K cd.ns&&W.nsIn K cd.ns "__init__"==some (some (.ref fI))
  | _,_=>false)
 | _=>false
theorem zjn{K:W.Frag}{h:Heap}{C fI:Addr}{bmB:List Value}{newId:String}(KX:K.In h)(e:zls K C bmB newId fI=true) :
  ∃bm N nm q bs hdct sn sub ab col dd k0 k1 k2 k3 k5 mN,h.get? C=some (excClassObj nm q C N bs bm hdct sn sub ab col dd k0 k1 k2 k3 k5 newId)/\h.Ns N mN/\mN "__init__"=some (.ref fI)/\OwnTail h bmB bm:=by
 unfold zls at e;split at e
 .rename_i dict cd sl hl;split at e
  .rename_i C' bm k0 k1 k2 k3 n k5 hm hs;simp only[Bool.and_eq_true,beq_iff_eq,Bool.not_eq_true'] at e;obtain⟨⟨⟨⟨⟨e1,e2⟩,e3⟩,e4⟩,e5⟩,e6⟩:=e;subst e1;subst e2;obtain⟨nm,bs,mro,ns,qn,hdct,sn,sub,ab,col,hdel⟩:=cd;have hm':mro= .ref C'::bm:=hm;have e3':hdel=false:=e3;subst hm';subst e3';have hsl:sl= #[k0,k1,k2,k3,some (.builtin n),k5]:=by
    have:=congrArg List.toArray hs;simpa using this
   subst hsl;have hN:=Heap.Ns.of_isNs (W.isNs_of_in KX e5);exact⟨bm,ns,nm,qn,bs,hdct,sn,sub,ab,col,dict,k0,k1,k2,k3,k5,h.nsMap ns,KX _ _ hl,hN,zuu KX hN e6,W.tail_of_in KX e4⟩
  .cases e
 .cases e
structure zof(P:Program)(w:World)(K:W.Frag)(mg:Str->Option Value)(c fld:Str)(f:Str->Option Str):Prop where
 ex:∃C fI oI,clsOf K c=some C/\mg c=some (.ref C)/\zls K C bmV newV fI=true/\K.lookup fI=some oI/\oI.cls= .type "function"/\W.mroIn K C (.type "BaseException")=some true /\
  ∀{A:Around} {E:Value->Shared->Prop} {s:Shared} {z out:Str} {tk:Tok} {e t:Addr} {Q:Value->Shared->Prop},K.In s.heap->s.heap.Ns mainGlobals mg->(∃mb,s.heap.Ns builtinsNs mb/\∀x:Str,x≠"__name__"->mb x=bootBuiltins x)->s.heap.NoLimit->A.depth < recursionLimit->K.lookup e=none ->
   f z=some out->out.length<=sizeLine->s.heap.get? e=some (zlY C t) ->
   (∀(h':Heap) (tk':Nat) (t2 dx:Addr),h'.get? e=some { zlY C t2 with dict:=some dx }->h'.Ns1 dx (fun y=>if y=fld then some (.str z tk) else none)->s.heap.get? dx=none->(∀b o,b≠e->s.heap.get? b=some o->h'.get? b=some o)->Q .none { s with heap:=h',toks:=tk' }) ->
   wpAny (model P w) A (call (.ref fI) [.ref e, .str z tk]) Q E s
def zlk(K:W.Frag)(c fld:Str)(f:Str->Option Str)(E:St->XK)(t:TE):TS:=fun _ σ H=>t σ H fun v H1=>∃z out C,v= .str z/\f z=some out/\out.length<=sizeLine/\clsOf K c=some C/\∀dx,H1 dx=none->E σ (.ref C) (some dx) (upd H1 dx (.xd [(fld, .str z)]))
section
variable{X:Cx}{E:St->XK}{k:Nat}{c fld:Str}{f:Str->Option Str}{np cpos pos:Pos}{a:Expr}{t:TE}
theorem zp4(xm:XMk X E)(hc:X.calm=true)(hI:zof X.prog X.w X.K X.mg c fld f)(hr:zdA (k+1) X.A)(hg:Gl X c)(ha:PE X a t)(hdb:(c==("__debug__":Str))=false:=by decide)
  (hst:starEach [a] X.env=[(false,eval a X.env)]:=by rfl) :
  PS X (.Raise (some (.Call (.Name c np) [a] [] cpos)) none pos) (zlk X.K c fld f E t):=by
 intro pins s σ H D I h;obtain⟨C,fI,oI,hC,hm,hin,hfI,hfc,hbase,run⟩:=hI.ex;obtain⟨bm,N,nm,q,bs,hdct,sn,sub,ab,col,dd,k0,k1,k2,k3,k5,mN,o1,o2,o3,o4⟩:=zjn I.ok.mod.kin hin;have hb:bm.contains (Value.type "BaseException")=true:=o4.hasType (by decide+kernel);rw[arm_exec_Raise];simp only[evalOpt,Option.map];refine wpAny_bind (wpAny_standAt (zn2 (C:=C) (nm:=nm) (q:=q) (N:=N) (bs:=bs) (bm:=bm) (hdct:=hdct) (sn:=sn) (sub:=sub) (ab:=ab) (col:=col) (dd:=dd) (k0:=k0) (k1:=k1) (k2:=k2) (k3:=k3) (k5:=k5) (newId:=newV) hb (I.ok.hd hc) ?_));refine wpAny_bind (wpAny_mono (wpAny_Call_ofName (zdH I hg hm ?_ hdb)) (fun v s₃ h₃=>wpAny_bind (wpAny_standAt (wpAny_pure h₃))) fun _ _ x=>x);refine W.callWith_of (P:=fun h=>h.get? C=some (excClassObj nm q C N bs bm hdct sn sub ab col dd k0 k1 k2 k3 k5 newV)) (by rw[hst];rfl) (fun h ho=>⟨.machine, .inr (.inl rfl),fun A Q E s k q=>by
  obtain⟨hp,g,d,tk,os⟩:=s;exact wpAny_keeperOf_exc (k _ _ ho) q⟩) ?_
 rw[hst];refine Calls.evalArgs_plain ?_;show wpAny _ _ (spliced ((false,eval a X.env)::backTo cpos [])) _ _ s;refine Calls.spliced_cons (thn (ha pins s σ H _ I h) fun u s2 ⟨v,H2,I2,rv,z,out,C',e1,hf,hz,hC',hE⟩=>wpAny_pure ⟨I2.bk _ _ o1,?_⟩);rw[hC] at hC';cases hC';subst e1;obtain⟨tk,rfl⟩:=rv;have o2':=o2.keeps I2.bk;obtain⟨hp2,g2,d2,tk2,os2⟩:=s2;refine zjU F.excBase_ValueError (o4.keeps I2.bk) (I2.bk _ _ o1) o2' o3 (I2.kIn _ _ hfI) hfc (fun h' e mk=>?_) (by simp[sizeLine_eq]);obtain⟨kp,nw,tt,he,_,_⟩:=mk;have hKe:X.K.lookup e=none:=by
  cases r:X.K.lookup e with
  | none=>rfl
  | some o=>have:=I2.kIn _ _ r;rw[nw] at this;cases this
 obtain⟨mb,hb1,hb2⟩:=I.ok.mod.blt;refine run (fun a o r=>kp _ _ (I2.kIn a o r)) ((I.ok.mod.glob.keeps I2.bk).keeps kp) ⟨mb,(hb1.keeps I2.bk).keeps kp,hb2⟩ (I2.nolimit.keeps kp) (hr.make C [.str z tk] []).depth hKe hf hz he (fun h5 tk5 t2 dx o5 n5 dn k5=>⟨rfl,?_⟩);have kA:∀b o,hp2.get? b=some o->h5.get? b=some o:=fun b o r=>k5 b o (fun z=>by subst z;rw[nw] at r;cases r) (kp b o r)
 have dn2:hp2.get? dx=none:=by
  cases r:hp2.get? dx with
  | none=>rfl
  | some o=>have:=kp _ _ r;rw[dn] at this;cases this
 have hHe:H2 e=none:=by
  cases r:H2 e with
  | none=>rfl
  | some o=>obtain⟨u,hu⟩:=(I2.hok e o r).there;rw[nw] at hu;cases hu
 have hHd:H2 dx=none:=by
  cases r:H2 dx with
  | none=>rfl
  | some o=>obtain⟨u,hu⟩:=(I2.hok dx o r).there;rw[dn2] at hu;cases hu
 have hne:e≠dx:=fun z=>by subst z;rw[he] at dn;cases dn
 have F0:=I2.fr0 xm.ex;have I5:Inv X pins σ (upd H2 dx (.xd [(fld, .str z)])) _:=(I2.kept (t':=tk5) kA).track F0 dn2 hHd ⟨_,n5,fun y=>?_⟩
 .refine⟨e,t2,some dx, #[],rfl,kA _ _ (I2.bk _ _ o1),o5,xm.made (g:=hp2) I5 F0 (fun b zb=>?_) ⟨_,_,o5,rfl,rfl,rfl,rfl,?_,nw⟩ (hE dx hHd)⟩
  .cases r:hp2.get? b with
   | none=>rfl
   | some o=>have e1:=kA b o r;rw[show h5.get? b=none from zb] at e1;cases e1
  .rw[zJ hne];exact hHe
 .by_cases hy:y=fld
  .subst hy;rw[if_pos rfl,List.lookup_cons,beq_self_eq_true];exact⟨_,rfl⟩
  .rw[if_neg hy,List.lookup_cons,beq_eq_false_iff_ne.mpr hy];trivial
end
section
variable{P:Program}{w:World}{K:W.Frag}{mg:Str->Option Value}{e1 e2:Expr}{es:List Expr}{c x qual:Str}{p0 p1 p2 p3 p4 p5 p6 p7 p8 p9:Pos}
 {fI C cda cc:Addr}{od cdd cld an:Option Addr}{oc ccl cl dV kV doc pm ct:Value}{osl ccs csl:Array (Option Value)}{params:Arguments}{scope:Scope}{vs:Array Value}{file:Str}{tf:Tok}{cd:ClassData}{ar:Arg}
theorem zrp(a:clsOf K c=some C)(hm:mg c=some (.ref C))(_hfi:W.findIn K (.ref C) "__init__"=some (some (.ref fI)))(hin:zls K C bmV newV fI=true)(hfn:oc= .type "function")(hbe:W.mroIn K C (.type "BaseException")=some true)(hsup:mg "super"=none)
  (lk:K.lookup fI=some ⟨oc,od, .func (W.ksFn "__init__" qual params (zoC e1 e2 es x p0 p1 p2 p3 p4 p5 p6 p7 p8 p9) scope dV kV doc pm an (.ref cda) ct cc),osl⟩)(hcd:W.codeIn K (.ref cda) qual=true)
  (hcda:K.lookup cda=some ⟨ccl,cdd, .fields vs,ccs⟩)(hvs:vs[2]? = some (.str file tf))(hfile:((P.main.file:Str)==file)=true)(htop:(P.main.scope.names.lookup ("super":Str)).isSome=false)
  (hcc:K.lookup cc=some ⟨cl,cld, .cell (some (.ref C)),csl⟩)(hC:W.clsIn K C=some cd)(hhd:cd.hasDict=true)(hpe:zkw cd.mro=true)(hself:W.mroIn K C (.ref C)=some true)(hobj:W.mroIn K C (.type "object")=some true)(hve:W.mroIn K C (.type "ValueError")=some true)
  (hop:W.nsIn K cStatics "thirdparty.any"=some none)(hal:W.ks_superIn K C C "__init__"=some (some (.builtin "ValueError.__init__")))(htk:W.takerIn K C x=some none)(hsa:W.findIn K (.ref C) "__setattr__"=some (some (.builtin "object.__setattr__")))
  (hbind:∀(s:Shared) (u v:Value),BindsTo s (W.ksFn "__init__" qual params (zoC e1 e2 es x p0 p1 p2 p3 p4 p5 p6 p7 p8 p9) scope dV kV doc pm an (.ref cda) ct cc) ⟨[u,v],[]⟩ [("self",u),(x,v)])(hp:(params.posonlyargs++params.args).head? = some ar)(har:ar.arg="self")
  (hks:scope.names.lookup ("super":Str)=some .globalImplicit)(hkc:scope.names.lookup ("__class__":Str)=some .free)(hsl:scope.names.lookup ("self":Str)=some .local)(hxl:scope.names.lookup x=some .local)(hxs:x≠"self")(hxd:(x==("__debug__":Str))=false)
  (hcell:∀y∈scope.names,y.2≠ .cell)(hk:scope.kind= .function)(hco:scope.isCoroutine=false)(hgen:scope.isGenerator=false)(hln:p2.endLine=p4.line) :
  zof P w K mg c x (fun z=>fText x z (e1::e2::es) Str.empty):=⟨C,fI,_,a,hm,hin,lk,hfn,hbe,fun{A E s z out tk e t Q} X hg hbl hlim hroom hKe hf hz hx q=>by
 obtain⟨mb,hb,hbs⟩:=hbl;obtain⟨bm,N,nm,qn,bs,hdct,sn,sub,ab,col,dd,k0,k1,k2,k3,k5,mN,o1,o2,o3,o4⟩:=zjn X hin;have hce:C≠e:=fun h=>by subst h;rw[hx] at o1;cases o1
 exact zrc X hg hsup hb ((hbs _ (by decide+kernel)).trans (by decide+kernel)) hlim hroom lk hcd hcda hvs hfile htop hcc hC hhd hpe hself hobj hve hop hal htk hsa o1 o4 hce (hbind _ _ _) hp har hks hkc hsl hxl hxs hxd hcell hk hco hgen hf hz hx hln hKe q⟩
end
def zlw:List Stmt->List Expr
 | .Expr (.Call _ [.JoinedStr l _] _ _) _::_=>l
 | _=>[]
theorem zsO{prog:Program}{w:World}{A:Around}{E:Value->Shared->Prop}{s:Shared}{K:W.Frag}{x D:Addr}{ox:Obj}{odo:Option Obj}{name:Str}{v:Value}{expr:Bool}{Q:Value->Shared->Prop}(KX:K.In s.heap)(J:W.InstAt s.heap x ox D odo)
  (hga:W.findIn K (.ref D) "__getattribute__"=some (some (.builtin "BaseException.__getattribute__")))(hgh:W.findIn K (.ref D) "__getattr__"=some none)
  (hb:W.mroIn K D (.type "BaseException")=some true)(hf:W.findObj K D odo name=some (.value v))(hv:W.handedIn v=true)
  (q:Q v { s with toks:=s.toks+1 }):wpAny (model prog w) A (getAttr (.ref x) name expr) Q E s:=by
 unfold getAttr;refine wpAny_bind (wpAny_mkText ?_);unfold getAttrBy;refine wpAny_holding (wpAny_bind (J.type.at ?_));refine wpAny_bind ((W.looks_findIn KX hga).at ?_);refine(show wpAny (model prog w) A (getAttrByItsOwn (.ref x) (.str name s.toks) (.ref D) (.builtin "BaseException.__getattribute__") true expr) _ _ _ from ?_);unfold getAttrByItsOwn;refine wpAny_bind ((W.looks_findIn KX hgh).at ?_);refine wpAny_bind (wpAny_attempt (wpAny_holding ?_));have e1:callGetattribute (.ref x) (.str name s.toks) (.builtin "BaseException.__getattribute__") expr=boundAndCalled (.builtin "BaseException.__getattribute__") (.ref x) (.str name s.toks):=by
  unfold callGetattribute;rw[show onTheHeap (.builtin "BaseException.__getattribute__")=false from rfl,Bool.and_false];rfl
 rw[e1];unfold boundAndCalled;rw[F.excAttr_ValueError.ga.bind];refine wpAny_bind (wpAny_pure ?_);refine wpAny_call (codeAny_call_builtin (by decide+kernel) F.entry_bexc_ga ?_);have hck:∀{A:Around} {Q:Unit->Shared->Prop} {E:Value->Shared->Prop} {tk:Nat},Q () { s with toks:=tk }->wpAny (model prog w) A (checkBuiltinCall "BaseException.__getattribute__" ⟨[.ref x, .str name s.toks],[]⟩) Q E { s with toks:=tk }:=by
  intro A Q E tk hq;refine(show wpAny (model prog w) A (isInstance (.ref x) (.type "BaseException") >>= _) _ _ _ from ?_);refine wpAny_bind ?_;unfold isInstance;refine wpAny_bind (J.type.at ((W.looks_mroIn KX hb).at ?_));have e:(match Manifest.signature? "BaseException.__getattribute__" with
   | some sig=>Bind.checkArgs "BaseException.__getattribute__" sig ⟨[.ref x, .str name s.toks],[]⟩
   | none=>pure ())=pure ():=F.args_bexc_ga (.ref x) (.str name s.toks)
  refine(show wpAny (model prog w) A (match Manifest.signature? "BaseException.__getattribute__" with
   | some sig=>Bind.checkArgs "BaseException.__getattribute__" sig ⟨[.ref x, .str name s.toks],[]⟩
   | none=>pure ()) _ _ _ from ?_)
  rw[e];exact wpAny_pure hq
 refine hck ?_;unfold Builtin.«object.__getattribute__»;refine wpAny_bind (show wpAny _ _ (pure (Value.ref x,[Value.str name s.toks])) _ _ _ from wpAny_pure ?_);refine wpAny_bind (show wpAny _ _ (pure name) _ _ _ from wpAny_pure ?_);refine wpAny_bind (J.type.at (wpAny_bind ((W.looks_find KX J hf).at ?_)));refine(show wpAny (model prog w) A.in1 (pure _) _ _ _ from wpAny_pure ?_);refine(show wpAny (model prog w) A (handedOut v) _ _ _ from ?_);rw[W.handedOut_of hv];exact wpAny_pure q
structure zoB(K:Frag)(D:Addr):Prop where
 ga:W.findIn K (.ref D) "__getattribute__"=some (some (.builtin "BaseException.__getattribute__"))
 gh:W.findIn K (.ref D) "__getattr__"=some none
 hb:W.mroIn K D (.type "BaseException")=some true
 hd:W.hasDictIn K D=true
 nn:W.findIn K (.ref D) "name"=some none
def zm7(K:Frag)(D:Addr):Bool:=W.findIn K (.ref D) "__getattribute__"==some (some (.builtin "BaseException.__getattribute__"))&&W.findIn K (.ref D) "__getattr__"==some none&&W.mroIn K D (.type "BaseException")==some true&&W.hasDictIn K D&&W.findIn K (.ref D) "name"==some none
theorem zoB.of{K:Frag}{D:Addr}(h:zm7 K D=true):zoB K D:=by
 unfold zm7 at h;simp only[Bool.and_eq_true,beq_iff_eq] at h;obtain⟨⟨⟨⟨h1,h2⟩,h3⟩,h4⟩,h5⟩:=h;exact⟨h1,h2,h3,h4,h5⟩
def zog(K:Frag)(te:TE):TE:=fun σ H Q=>te σ H fun v H1=>∃a C dx z,v= .ref a/\H1 a=some (zl0 a C (some dx))/\H1 dx=some (.xd [("name", .str z)])/\zoB K C/\Q (.str z) H1
section
variable{X:Cx}{e:Expr}{te:TE}{pos:Pos}
theorem zsC(he:PE X e te)(hb:attributeBase e "name" X.env (eval e X.env)=eval e X.env):PE X (.Attribute e "name" pos) (zog X.K te):=by
 intro pins s σ H Q I h;refine zoz hb (thn (he pins s σ H _ I h) fun u s1 ⟨x,H1,I1,rx,a,C,dx,z,ex,ea,ed,c,q⟩=>?_);subst ex;obtain rfl:u=Value.ref a:=rx;obtain⟨⟨ox,o1,o2,o3,o4⟩,_⟩:=(show zaF X.prog X.w H1 s1.heap a (zl0 a C (some dx)) from I1.hok a _ ea);obtain⟨mA,n1,n2⟩:=(show zaF X.prog X.w H1 s1.heap dx (.xd [("name", .str z)]) from I1.hok dx _ ed);obtain⟨od,hod,hlk⟩:=zkm n1;have J:W.InstAt s1.heap a ox C (some od):=⟨o1,o2,o4,by rw[o3];exact hod⟩;obtain⟨u,hu,ru⟩:=zes.some_of (v:= .str z) (o:=mA "name") (by have:=n2 "name";rwa [List.lookup_cons,beq_self_eq_true] at this);exact zsO I1.kIn J c.ga c.gh c.hb (W.findObj_own c.hd c.nn rfl (by rw[hlk,hu])) (zk1 ru) ⟨.str z,H1,I1.tok _,ru,q⟩
theorem zmn(K:Frag)(he:WE X e te)(h:X.K=K:=by rfl)(hb:attributeBase e "name" X.env (eval e X.env)=eval e X.env:=by rfl):WE X (.Attribute e "name" pos) (zog K te):=h▸⟨zsC he.out hb⟩
theorem zkN{E:St->XK}{k:Nat}{c fld:Str}{f:Str->Option Str}{np cpos:Pos}{a:Expr}{t:TE}(K:Frag)(xm:XMk X E)(hI:zof X.prog X.w X.K X.mg c fld f)(hr:zdA k X.A)(ha:WE X a t)(hK:X.K=K:=by rfl)(hj:1<=k:=by decide)(hc:X.calm=true:=by rfl)(hg:Gl X c:=by rfl)(hdb:(c==("__debug__":Str))=false:=by decide)
  (hst:starEach [a] X.env=[(false,eval a X.env)]:=by rfl):WS X (.Raise (some (.Call (.Name c np) [a] [] cpos)) none pos) (zlk K c fld f E t):=hK▸⟨zp4 xm hc hI (k:=0) (hr.mono hj) hg ha.out hdb hst⟩
end
class zto(K:Frag)(c:Str):Prop where
 at_:∃C,clsOf K c=some C
 cf:zdT c=true:=by decide+kernel
def zfy(c:Str)(f:Str->Option Str)(Ex:DXE)(w:DE):DS:=fun _ ρ μ=>w ρ μ fun d μ1=>match d with
 | .str z=>(∃out,f z=some out/\out.length<=sizeLine)/\Ex ρ (zbz c z) μ1
 | _=>False
def zfg(es:List Str)(w:DE):DE:=fun ρ μ Q=>w ρ μ fun d μ1=>match d with
 | .exc lab=>∃b z,lab=zbz b z/\zdT b=true/\b∈es/\Q (.str z) μ1
 | _=>False
class ENm(K:Frag)(es:List Str):Prop where
 run:∀b∈es,∀C,clsOf K b=some C->zoB K C
section
variable{K:Frag}{fl:Wd}{Ex:DXE}{E:St->XK}{t:TE}{w:DE}{c:Str}{f:Str->Option Str}
instance[x:XR K fl Ex E][i:zto K c][a:zZ K fl t w]:zcU K fl (zlk K c "name" f E t) (zfy c f Ex w):=⟨fun{W ρ μ σ H D' D} r e h k=>a.run r e h fun W1 d μ1 v H1 le1 r1 q1 h1=>by
 cases d<;>first | exact h1.elim | skip
 rename_i z;obtain⟨⟨out,hf,hz⟩,hE⟩:=h1;obtain⟨C,hC⟩:=i.at_;refine⟨z,out,C,q1.s',hf,hz,hC,fun dx hd=>?_⟩;obtain⟨r2,le2⟩:=r1.newF (o:= .xd [("name", .str z)]) hd;exact x.run r2 ((e.mono le1).mono le2) hE (.inr ⟨c,z,dx,rfl,i.cf,hC,rfl,zH⟩)⟩
instance{es:List Str}[n:ENm K es][a:zZ K fl t w]:zZ K fl (zog K t) (zfg es w):=⟨fun{W ρ μ σ H Q Q'} r e h k=>a.run r e h fun W1 d μ1 v H1 le1 r1 q1 h1=>by
 cases d<;>first | exact h1.elim | skip
 rename_i lab;obtain⟨b,z,rfl,hb,hes,hQ⟩:=h1;unfold Rep at q1;obtain⟨C,p,dx,rfl,ea,hX⟩:=q1;rcases hX with⟨_,_,h3⟩ | ⟨b',z',d,h1,h2,h3,h4,h5⟩
 .rw[zlx] at h3;cases h3
 .obtain⟨rfl,rfl⟩:=zks h1 hb h2;subst h4;exact⟨p,C,d,z,rfl,r1.sub _ _ ea,r1.sub _ _ h5,n.run b hes C h3,k W1 (.str z) μ1 _ H1 le1 r1 .s hQ⟩⟩
end
theorem ENm.nil{K:Frag}:ENm K []:=⟨fun _ h=>by cases h⟩
theorem ENm.cons{K:Frag}{c:Str}{C:Addr}{es:List Str}(a:clsOf K c=some C)(h:zm7 K C=true)(t:ENm K es):ENm K (c::es):=⟨fun b hb D hD=>by
 rcases List.mem_cons.mp hb with rfl | hb
 .rw[a] at hD;cases hD;exact .of h
 .exact t.run b hb D hD⟩
section
variable{prog:Program}{w:World}{A:Around}{E:Value->Shared->Prop}{s:Shared}
end
section
variable{prog:Program}{w:World}{A:Around}{E:Value->Shared->Prop}{s:Shared}{K:Frag}
end
section
variable{X:Cx}{pins:List (Addr×Obj)}{σ:St}{H:Hp}{s:Shared}{P c:Addr}{lp:Pos}{params:Arguments}{body:Expr}{scope:Scope}{Q:Value->Shared->Prop}
end
section
variable{prog:Program}{w:World}{A:Around}{E:Value->Shared->Prop}{s:Shared}
end
section
variable{X:Cx}{P c:Addr}{lp np pos kp:Pos}{params:Arguments}{body:Expr}{scope:Scope}{x fld:Str}{e:Expr}{te:TE}{k:Nat}
end
section
variable{K:Frag}{fl W:Wd}{μ:Mu}{H:Hp}{tab:Tab}{fld:Str}
end
section
variable{Pr:Program}{w:World}{K:Frag}{mg:Str->Option Value}{base:Heap}
end
def zg2(K:Frag):List (Addr×Nat×TS)->Ends->St->XK
 | [],_=>fun _ _ _ _=>False
 | (Ch,i,th)::r,D=>fun σ c dx H=>∃C,c= .ref C/\((W.exmOne K (.ref C) (.ref Ch)=some true/\∀a,H a=none->th (zpb D i) (σ.set i (some (.ref a))) (upd H a (zl0 a C dx)))\/(W.exmOne K (.ref C) (.ref Ch)=some false/\zg2 K r D σ c dx H))
def zrI(K:Frag)(hs:List (Addr×Nat×TS))(tb:(St->XK)->TS):TS:=fun D σ0 H0=>tb (zg2 K hs D) D σ0 H0
inductive zjX(X:Cx):List ExceptHandler->List (Addr×Nat×TS)->Prop
 | nil:zjX X [] []
 | cons {x n:Str} {np hpos:Pos} {b₀:Stmt} {suite:List Stmt} {Ch:Addr} {i:Nat} {th:TS} {hs:List ExceptHandler} {ds:List (Addr×Nat×TS)} (hi:X.N[i]? = some n) (hn:X.env.scope.names.lookup n=some .local) (hg:Gl X x) (hm:X.mg x=some (.ref Ch)) (hdb:(x==("__debug__":Str))=false)
   (hh:∀a,PSs (X.hand a) (b₀::suite) th) (r:zjX X hs ds):zjX X (.ExceptHandler (some (.Name x np)) (some n) (b₀::suite) hpos::hs) ((Ch,i,th)::ds)
section
variable{X:Cx}{pins:List (Addr×Obj)}{σ:St}{H:Hp}{s:Shared}{g:Heap}{a C:Addr}{dx:Option Addr}{D:Ends}
theorem ziN(hs:X.stack=X.env::X.outer)(hN:X.N.Nodup)(I:Inv X pins σ H s)(F0:Fr0 X pins g)(F:Fly g H s.heap a C dx .none):∀{hl:List ExceptHandler} {ds:List (Addr×Nat×TS)},zjX X hl ds->zg2 X.K ds D σ (.ref C) dx H ->
  wpAny (model X.prog X.w) X.A (handleBy (.ref a) X.env hl) (SP X pins D) X.xe s
 | _,_, .nil,h=>h.elim
 | _,_, .cons (x:=x) (n:=n) (Ch:=Ch) (i:=i) (th:=th) hi hn hg hm hdb hh r,⟨C',eC,h⟩=>by
  cases eC;have ok:=I.ok;refine wpAny_handleBy_cons (codeAny_handlers_test ?_) (fun z=>nomatch z);refine zdH (X:=X.hand a) I.hand hg hm ?_ hdb;have ty:W.Looks (model X.prog X.w) s.heap (typeOf (.ref a)) (.ref C):=by
   obtain⟨oe,vs,T,oT,ts,e1,e2,e3,e4,_⟩:=F;exact e2▸(W.Looks.ld e1).andThen .now
  rcases h with⟨hex,hE⟩ | ⟨hex,hr⟩
  .refine(W.exm_one I.kIn ty hex).at ?_;refine codeAny_handlers_suite_as ?_;have ff3:s.heap.FunFrames X.base (X.env::X.outer):=by rw[<- hs];exact I.stack
   have fE:frs (X.env::X.outer)=frs X.stack:=by rw[hs]
   refine ziC ff3 F fun h4 F4 S4 _ _=>?_
   rw[fE] at S4;have I4:=I.noted (t':=s.toks) F0 S4;obtain⟨oe,vs,T,oT,ts,e1,e2,e3,e4,_,_,_,_,_,hHa,_,hga,_⟩:=F4;have I5:Inv X pins σ (upd H a (zl0 a C dx)) _:=I4.track (o:=zl0 a C dx) F0 hga hHa ⟨⟨oe,e1,e2,e3,by unfold W.notCls;rw[e4]⟩,⟨oe,e1⟩,fun h1 h2 ⟨ox,q1,q2⟩ k=>⟨ox,k _ q1,q2⟩⟩;refine ziK I5 hN hi (.inl hn) (show RelV (.ref a) (.ref a) from rfl) (fun s6 I6=>?_) (.inr hn);refine wpAny_mono (hh a pins s6 _ _ _ I6.hand (hE a hHa)) (fun f s7 hf=>?_) (fun _ _ z=>z.elim);have fin:∀{σ7:St} {H7:Hp} {hpos:Pos} {Q:Unit->Shared->Prop},Inv (X.hand a) pins σ7 H7 s7->(∀s8,Inv X pins (σ7.set i none) H7 s8->Q () s8)->wpAny (model X.prog X.w) X.A (do
     bindName X.env n Value.none
     unbindBehindTheSuite X.env n hpos) Q X.xe s7:=fun{σ7 H7 hpos Q} I7 k=>by
    have I7':=I7.unhand ok;obtain⟨m,hns,hl⟩:=I7'.loc;refine wpAny_nameGoes_keeps hn hns (by rw[ok.kind];rfl) fun h8 v n8 sb=>k _ (I7'.unset (t':=s7.toks+1) hN hi hn hl n8 sb)
   cases f with
   | next=>obtain⟨σ7,H7,I7,q⟩:=hf;exact fin I7 fun s8 I8=>⟨_,_,I8,q⟩
   | brk=>obtain⟨σ7,H7,I7,q⟩:=hf;exact fin I7 fun s8 I8=>⟨_,_,I8,q⟩
   | cont=>obtain⟨σ7,H7,I7,q⟩:=hf;exact fin I7 fun s8 I8=>⟨_,_,I8,q⟩
   | ret u=>obtain⟨v,σ7,H7,I7,r,q⟩:=hf;exact fin I7 fun s8 I8=>⟨v,_,_,I8,r,q⟩
  .refine(W.exm_one I.kIn ty hex).at ?_;exact ziN hs hN I F0 F r hr
theorem zuQ{body:List Stmt}{h₀:ExceptHandler}{hl:List ExceptHandler}{ds:List (Addr×Nat×TS)}{pos:Pos}{tb:(St->XK)->TS}(hx:X.ex=[])(hs:X.stack=X.env::X.outer)(hL:X.env.frame=some X.env.locals)(hN:X.N.Nodup)
  (hb:∀E xe pn,XOk (X.tr xe pn) E->PSs (X.tr xe pn) body (tb E))(hh:zjX X (h₀::hl) ds):PS X (.Try body (h₀::hl) [] [] pos) (zrI X.K ds tb):=by
 intro pins s σ0 H0 D I h;have ok:=I.ok;refine wpAny_Try_except ?_;have ref_:∀{ds:List (Addr×Nat×TS)} {hl:List ExceptHandler} {σ c dx H},zjX X hl ds->zg2 X.K ds D σ c dx H->∃C,c= .ref C:=fun{ds hl σ c dx H} o h=>by
  cases o with
  | nil=>exact h.elim
  | cons _ _ _ _ _ _ _=>obtain⟨C,e,_⟩:=h;exact⟨C,e⟩
 have xo:XOk (X.tr (fun e s1=>∃ σ H g a C dx,e= .ref a/\Inv X pins σ H s1/\Fr0 X pins g/\(∀b,s1.heap.get? b=none->g.get? b=none)/\Fly g H s1.heap a C dx .none/\zg2 X.K ds D σ (.ref C) dx H) (X.pn++pins)) (zg2 X.K ds D) :=
  ⟨(fun b z=>by rw[show(X.tr _ _).ex=X.ex from rfl,hx] at z;cases z),fun{pins' σ H s g e C dx} I F0 hg F hE=>⟨σ,H,g,e,C,dx,rfl,I.untr,F0.untr,hg,F,hE⟩⟩
 refine wpAny_mono (hb _ _ _ xo [] s σ0 H0 D I.tr h) (fun f s1 hf=>?_) (fun e s1 he=>?_)
 .have hf':=SP.untr hf;cases f with
  | next=>obtain⟨σ',H',I',q⟩:=hf';exact zoS pins s1 σ' H' D I' q
  | brk=>exact hf'
  | cont=>exact hf'
  | ret u=>exact hf'
 .obtain⟨σ,H,g,a,C,dx,rfl,I1,F0,hg1,F,hE⟩:=he;have hfr:X.A.frames=some (X.env::X.outer):=by rw[<- hs];exact I1.ok.frames
  have ff:s1.heap.FunFrames X.base (X.env::X.outer):=by rw[<- hs];exact I1.stack
  have fE:frs (X.env::X.outer)=frs X.stack:=by rw[hs]
  refine zmD (P:=X.prog) (w:=X.w) hfr hL ff I1.hok hg1 F fun h2 F2 S2=>?_
  rw[fE] at S2;have I2:=I1.noted (t':=s1.toks) F0 S2;have ff2:h2.FunFrames X.base (X.env::X.outer):=by rw[<- hs];exact I2.stack
  refine ziC ff2 F2 fun h3 F3 S3 _ _=>?_
  rw[fE] at S3;have I3:=I2.noted (t':=s1.toks) F0 S3;exact ziN hs hN I3 F0 F3 hh hE
end
def zmB(es:List Str)(lab:Str):Prop:=lab∈es\/∃b z,lab=zbz b z/\zdT b=true/\b∈es
def zkT:List (List Str×List Str×Nat×DS)->zba->DXE
 | [],_=>fun _ _ _=>False
 | (ys,ns,i,wh)::r,D=>fun ρ lab μ=>(zmB ys lab/\wh (zjO D i) (ρ.set i (some (.exc lab))) μ)\/(zmB ns lab/\zkT r D ρ lab μ)
def ztb(hs:List (List Str×List Str×Nat×DS))(wb:DXE->DS):DS:=fun D ρ μ=>wb (zkT hs D) D ρ μ
class zms(K:Frag)(ys ns:List Str)(Ch:Addr):Prop where
 y:∀c∈ys,∀C,clsOf K c=some C->exmOne K (.ref C) (.ref Ch)=some true
 n:∀c∈ns,∀C,clsOf K c=some C->exmOne K (.ref C) (.ref Ch)=some false
 cy:∀c∈ys,zdT c=true
 cn:∀c∈ns,zdT c=true
theorem zo0{K:Frag}{W:Wd}{es:List Str}{lab:Str}{C Ch:Addr}{dx:Option Addr}{b:Bool}(hl:zmB es lab)(hX:XAt K W lab C dx)(hy:∀c∈es,∀C,clsOf K c=some C->exmOne K (.ref C) (.ref Ch)=some b)(cf:∀c∈es,zdT c=true):exmOne K (.ref C) (.ref Ch)=some b:=by
 rcases hl with hc | ⟨b,z,rfl,cb,hb⟩
 .exact hy _ hc C (hX.plain (cf _ hc)).1
 .rcases hX with⟨_,_,h3⟩ | ⟨b',z',d,g1,g2,g3,_,_⟩
  .rw[zlx] at h3;cases h3
  .obtain⟨rfl,rfl⟩:=zks g1 cb g2;exact hy _ hb C g3
class zoY(K:Frag)(fl:Wd)(ds:List (Addr×Nat×TS))(ws:List (List Str×List Str×Nat×DS)):Prop where
 run:∀{W W1:Wd} {D':zba} {D:Ends} {ρ:zag} {μ:Mu} {σ:St} {H:Hp} {lab:Str} {C:Addr} {dx:Option Addr},fl.le W->Rel K W W1 μ H->zbc K W1 ρ σ->ze7 K fl W D' D->zkT ws D' ρ lab μ->XAt K W1 lab C dx->zg2 K ds D σ (.ref C) dx H
section
variable{K:Frag}{fl:Wd}
instance:zoY K fl [] []:=⟨fun _ _ _ _ h _=>h.elim⟩
instance{ys ns:List Str}{Ch:Addr}{i:Nat}{th:TS}{wh:DS}{ds:List (Addr×Nat×TS)}{ws:List (List Str×List Str×Nat×DS)}[hd:zms K ys ns Ch][a:zcU K fl th wh][rest:zoY K fl ds ws]:zoY K fl ((Ch,i,th)::ds) ((ys,ns,i,wh)::ws):=⟨fun{W W1 D' D ρ μ σ H lab C dx} up r1 e1 k h hX=>by
 rcases h with⟨hl,h⟩ | ⟨hl,h⟩
 .refine⟨C,rfl, .inl ⟨zo0 hl hX hd.y hd.cy,fun p hp=>?_⟩⟩;have r1':Rel K fl W1 μ H:=r1.floor (up.trans r1.up);obtain⟨r2,le2⟩:=r1'.newF (o:=zl0 p C dx) hp;refine a.run r2 ((e1.mono le2).set (x:= .ref p) (d:= .exc lab) ?_) h ((k.mono (r1.up.trans le2)).zpb);unfold Rep;exact⟨C,p,dx,rfl,zH,hX.mono le2⟩
 .exact⟨C,rfl, .inr ⟨zo0 hl hX hd.n hd.cn,rest.run up r1 e1 k h hX⟩⟩⟩
instance{hs:List (Addr×Nat×TS)}{ws:List (List Str×List Str×Nat×DS)}{tb:(St->XK)->TS}{wb:DXE->DS}[b:∀fl (p:XP K fl),zcU K fl (tb p.E) (wb p.Ex)][a:zoY K fl hs ws]:zcU K fl (zrI K hs tb) (ztb ws wb):=⟨fun{W ρ μ σ H D' D} r e h k=>by
 have xr:XR K W (zkT ws D') (zg2 K hs D):=⟨fun{W1 ρ1 μ1 σ1 H1 c C dx} r1 e1 h1 hX=>a.run r.up r1 e1 k h1 hX⟩;exact(b W ⟨_,zg2 K hs D,xr⟩).run (r.floor (.refl W)) e h (k.lower r.up)⟩
end
section
variable{X:Cx}
theorem zxW:zjX X [] []:= .nil
theorem zl1(i:Nat){n x:Str}{Ch:Addr}{suite:List Stmt}{b₀:Stmt}{np hpos:Pos}{th:TS}{hs:List ExceptHandler}{ds:List (Addr×Nat×TS)}(hm:X.mg x=some (.ref Ch))(hh:∀a,WSs (X.hand a) (b₀::suite) th)(r:zjX X hs ds)(hi:X.N[i]? = some n:=by rfl)(hn:X.env.scope.names.lookup n=some .local:=by rfl)(hg:Gl X x:=by rfl)(hdb:(x==("__debug__":Str))=false:=by decide) :
  zjX X (.ExceptHandler (some (.Name x np)) (some n) (b₀::suite) hpos::hs) ((Ch,i,th)::ds):= .cons hi hn hg hm hdb (fun a=>(hh a).out) r
theorem zuE{body:List Stmt}{h₀:ExceptHandler}{hl:List ExceptHandler}{ds:List (Addr×Nat×TS)}{pos:Pos}{tb:(St->XK)->TS}(K:Frag)(hN:X.N.Nodup)(hb:∀E xe pn,XOk (X.tr xe pn) E->WSs (X.tr xe pn) body (tb E))(hh:zjX X (h₀::hl) ds)
  (hK:X.K=K:=by rfl)(hx:X.ex=[]:=by rfl)(hs:X.stack=X.env::X.outer:=by rfl)(hL:X.env.frame=some X.env.locals:=by rfl):WS X (.Try body (h₀::hl) [] [] pos) (zrI K ds tb):=hK▸⟨zuQ hx hs hL hN (fun E xe pn xo=>(hb E xe pn xo).out) hh⟩
end
def zvJ(K:Frag)(ms:List (Str×List Str×List Str)):Bool:=ms.all fun m=>match clsOf K m.1 with
 | none=>false
 | some Ch=>(m.2.1.all fun c=>zdT c&&match clsOf K c with
   | none=>false
   | some C=>exmOne K (.ref C) (.ref Ch)==some true) &&
  m.2.2.all fun c=>zdT c&&match clsOf K c with
   | none=>false
   | some C=>exmOne K (.ref C) (.ref Ch)==some false
theorem ziU{K:Frag}{ms:List (Str×List Str×List Str)}{h:Str}{ys ns:List Str}{Ch:Addr}(t:zvJ K ms=true)(i:zaa K h Ch)(hm:(h,ys,ns)∈ms):zms K ys ns Ch:=by
 have e:=List.all_eq_true.mp t _ hm;simp only[i.at_,Bool.and_eq_true,List.all_eq_true] at e;obtain⟨e1,e2⟩:=e;exact⟨fun c hc C hC=>by simpa [hC] using (e1 c hc).2,fun c hc C hC=>by simpa [hC] using (e2 c hc).2,fun c hc=>(e1 c hc).1,fun c hc=>(e2 c hc).1⟩
def zf5:List (DE×DE)->zag->Mu->(List D->List D->Mu->Prop)->Prop
 | [],_,μ,Q=>Q [] [] μ
 | (wk,wv)::r,ρ,μ,Q=>wk ρ μ fun x μ1=>wv ρ μ1 fun y μ2=>zf5 r ρ μ2 fun ds vs μ3=>Q (x::ds) (y::vs) μ3
def ztl(ps:List (DE×DE)):DE:=fun ρ μ Q=>∀c,μ c=none->zf5 ps ρ (zV μ c (.dct [] [])) fun ds vs μ2=>μ2 c=some (.dct [] [])/\zbe (zmG ds) fun ks=>ks.Nodup/\ks.length<=15/\Q (.cell c) (zV μ2 c (.dct ks vs))
theorem zg3:∀(more acc:List (Key×V)),((acc++more).map (·.1)).Nodup->zgm acc more=acc++more
 | [],acc,_=>(List.append_nil _).symm
 | p::r,acc,h=>by
  have hf:¬ (acc.any fun kv=>decide (kv.1=p.1))=true:=by
   intro z;obtain⟨q,hq,e⟩:=List.any_eq_true.mp z;have e:=of_decide_eq_true e;rw[List.map_append,List.map_cons,List.nodup_append] at h;exact h.2.2 _ (List.mem_map_of_mem hq) _ (List.mem_cons_self ..) e
  have e1:putK acc p.1 p.2=acc++[p]:=by unfold putK;rw[if_neg hf]
  show zgm (putK acc p.1 p.2) r=_;rw[e1,zg3 r (acc++[p]) (by simpa using h)];simp
class zoP(K:Frag)(fl:Wd)(trs:List (TE×TE))(ws:List (DE×DE)):Prop where
 run:∀{W:Wd} {ρ:zag} {μ:Mu} {σ:St} {H:Hp} {Q:List (V×V)->Hp->Prop} {Q':List D->List D->Mu->Prop},Rel K fl W μ H->zbc K W ρ σ->zf5 ws ρ μ Q' ->
  (∀W' ds vs μ' ps H',W.le W'->Rel K fl W' μ' H'->zE K W' ds (ps.map (·.1))->zE K W' vs (ps.map (·.2))->Q' ds vs μ'->Q ps H')->zl6 trs σ H Q
section
variable{K:Frag}{fl:Wd}
instance:zoP K fl [] []:=⟨fun{W ρ μ σ H Q Q'} r e h k=>k W [] [] μ [] H (.refl W) r .nil .nil h⟩
instance{tk tv:TE}{wk wv:DE}{trs:List (TE×TE)}{ws:List (DE×DE)}[a:zZ K fl tk wk][b:zZ K fl tv wv][c:zoP K fl trs ws]:zoP K fl ((tk,tv)::trs) ((wk,wv)::ws):=⟨fun{W ρ μ σ H Q Q'} r e h k =>
 a.run r e h fun W1 d μ1 x H1 le1 r1 q1 h1=>b.run r1 (e.mono le1) h1 fun W2 d2 μ2 y H2 le2 r2 q2 h2=>c.run r2 (e.mono (le1.trans le2)) h2 fun W3 ds vs μ3 ps H3 le3 r3 z1 z2 h3 =>
  k W3 _ _ μ3 ((x,y)::ps) H3 (le1.trans (le2.trans le3)) r3 (.cons (q1.mono (le2.trans le3)) z1) (.cons (q2.mono le3) z2) h3⟩
theorem znl{W:Wd}:∀{ds:List D} {ks:List Key} {ps:List (V×V)},zE K W ds (ps.map (·.1))->zmG ds=some ks->ps=(ks.zip (ps.map (·.2))).map (fun kv=>(kV kv.1,kv.2))/\ks.length=ps.length
 | [],ks,[],_,e=>by cases e;exact⟨rfl,rfl⟩
 | [],_,_::_,r,_=>by unfold zE at r;simp at r
 | d::ds,ks,[],r,_=>by unfold zE at r;simp at r
 | d::ds,ks,p::ps,z,e=>by
  rw[List.map_cons] at z;unfold zE at z;obtain⟨y,ys,ey,q,r⟩:=z;cases ey;unfold zmG at e;split at e
  .rename_i k ks' e1 e2;cases e;obtain⟨i1,i2⟩:=znl r e2;have h1:=zfB q e1;refine⟨?_,by simp[i2]⟩;obtain⟨p1,p2⟩:=p;cases (show p1=_ from h1);show _::ps=_::_;congr 1
  .cases e
instance{trs:List (TE×TE)}{ws:List (DE×DE)}[a:zoP K fl trs ws]:zZ K fl (zsY trs) (ztl ws):=⟨fun{W ρ μ σ H Q Q'} r e h k p hp=>by
 obtain⟨c,W1,hc,le,r1,eb⟩:=r.newC (o:= .dK []) (c:= .dct [] []) hp ⟨[],rfl,rfl, .nil⟩;refine a.run r1 (e.mono le) (h c hc) fun W2 ds vs μ2 ps H2 le2 r2 z1 z2 h2=>?_
 obtain⟨hk,h3⟩:=h2;obtain⟨ks,ek,hn,hl,h4⟩:=zcg h3;obtain⟨i1,i2⟩:=znl z1 ek;have eb2:=le2.1 _ _ eb;obtain⟨a',e1,e2,xs,e3,l,z⟩:=r2.cel c _ hk;rw[eb2] at e1;cases e1;have ex:xs=[]:=by cases xs with | nil=>rfl | cons _ _=>simp at l
 subst ex;have hlz:(ks.zip (ps.map (·.2))).map (·.1)=ks:=List.map_fst_zip (by rw[List.length_map];omega);refine⟨e3,ks.zip (ps.map (·.2)),i1,by rw[List.length_zip,List.length_map];omega,?_⟩;rw[zg3 _ [] (by rw[List.nil_append,hlz];exact hn),List.nil_append];exact k W2 (.cell c) _ _ _ (le.trans le2) (r2.setC (c':= .dct ks vs) hk eb2 ⟨ps.map (·.2),rfl,by rw[List.length_map];exact i2,z2⟩) (by unfold Rep;exact⟨p,rfl,eb2⟩) h4⟩
end
section
variable{X:Cx}{pos:Pos}
theorem zuo:PPs X pos [] [] []:=ztM
theorem zfc{k v:Expr}{ks:List (Option Expr)}{vs:List Expr}{tk tv:TE}{trs:List (TE×TE)}(hk:WE X k tk)(hv:WE X v tv)(hr:PPs X pos ks vs trs):PPs X pos (some k::ks) (v::vs) ((tk,tv)::trs):=zrZ hk.out hv.out hr
theorem zvj{k:Option Expr}{keys:List (Option Expr)}{values:List Expr}{trs:List (TE×TE)}(h:PPs X pos (k::keys) values trs)(hall:(k::keys).all (·.isSome)=true:=by rfl)(hl:(k::keys).length=values.length:=by rfl)(h15:(k::keys).length<=15:=by decide):WE X (.Dict (k::keys) values pos) (zsY trs):=⟨ztR h hall hl (fun z=>nomatch z) h15⟩
end
theorem zxV{ps:List (DE×DE)}{ρ:zag}{μ:Mu}{Q:DK}:ztl ps ρ μ Q=∀c,μ c=none->zf5 ps ρ (zV μ c (.dct [] [])) fun ds vs μ2=>μ2 c=some (.dct [] [])/\zbe (zmG ds) fun ks=>ks.Nodup/\ks.length<=15/\Q (.cell c) (zV μ2 c (.dct ks vs)):=rfl
end L2
set_option maxHeartbeats 4000000
namespace L2
open PySem PySem.Spec PyProof.Rows
theorem zaI{N Q:List Str}{sc:Scope}(a:sc.kind= .function:=by rfl)(b:sc.isCoroutine=false:=by rfl)(c:sc.isGenerator=false:=by rfl)(d:N.Nodup:=by decide+kernel)(e:N.take Q.length=Q:=by rfl)
  (f:∀x∈Q,sc.names.lookup x=some .local\/sc.names.lookup x=some .cell:=by decide+kernel)(g:∀y∈sc.names,y.2≠ .free:=by decide+kernel):zP N Q sc:=⟨a,b,c,d,e,f,g⟩
section
variable{p:List Value->Prop}
theorem al0(h:p []):∀us,us.length=0->p us:=fun us e=>match us,e with | [],_=>h
theorem alS{n:Nat}(h:∀a us,us.length=n->p (a::us)):∀us,us.length=n+1->p us:=fun us e=>match us,e with | a::us,e=>h a us (Nat.succ.inj e)
theorem al1(h:∀a,p [a]):∀us,us.length=1->p us:=alS fun a=>al0 (h a)
theorem al2(h:∀a b,p [a,b]):∀us,us.length=2->p us:=alS fun a=>al1 (p:=fun us=>p (a::us)) (h a)
theorem al3(h:∀a b c,p [a,b,c]):∀us,us.length=3->p us:=alS fun a=>al2 (p:=fun us=>p (a::us)) (h a)
theorem al4(h:∀a b c d,p [a,b,c,d]):∀us,us.length=4->p us:=alS fun a=>al3 (p:=fun us=>p (a::us)) (h a)
theorem al5(h:∀a b c d e,p [a,b,c,d,e]):∀us,us.length=5->p us:=alS fun a=>al4 (p:=fun us=>p (a::us)) (h a)
theorem al6(h:∀a b c d e f,p [a,b,c,d,e,f]):∀us,us.length=6->p us:=alS fun a=>al5 (p:=fun us=>p (a::us)) (h a)
theorem al7(h:∀a b c d e f g,p [a,b,c,d,e,f,g]):∀us,us.length=7->p us:=alS fun a=>al6 (p:=fun us=>p (a::us)) (h a)
theorem al8(h:∀a b c d e f g i,p [a,b,c,d,e,f,g,i]):∀us,us.length=8->p us:=alS fun a=>al7 (p:=fun us=>p (a::us)) (h a)
end
section
variable{K:Frag}{x q m c:Str}{C f:Addr}{fd:FuncData}{st:Stmt}{fs:List Str}
structure zsL(K:Frag)(x:Str)(st:Stmt)(f:Addr)(fd:FuncData):Prop where
 at_:nsIn K mainGlobals x=some (some (.ref f))
 F:Fun K x x st f fd
structure zcV(K:Frag)(x:Str)(st:Stmt)(f:Addr)(fd:FuncData):Prop extends zsL K x st f fd where
 df:fd.defaults= .none
structure zgB(K:Frag)(C:Addr)(x q:Str)(st:Stmt)(f:Addr)(fd:FuncData):Prop where
 at_:findIn K (.ref C) x=some (some (.ref f))
 fn:isFn K (.ref f)=true
 F:Fun K x q st f fd
structure zwf(K:Frag)(c:Str)(C:Addr)(fs:List Str):Prop where
 at_:nsIn K mainGlobals c=some (some (.ref C))
 cl:Cls K C
 ms:makesIn K C=true
 kp:keepIn K (.ref C)=true
 na:∀f∈fs,zcn K C f
theorem zoF{f:Str}(h:findIn K (.ref C) f=some none)(t:∀x∈fs,zcn K C x):∀x∈f::fs,zcn K C x:=List.forall_mem_cons.mpr ⟨h,t⟩
abbrev zbA(K:Frag)(fd:FuncData)(ps ks:List Str)(n m:Nat)(pat:List Src)(cs:List Value):Prop:=∀(S:Setting) (us:List Value),us.length=n->∀ws:List Value,ws.length=m->PySem.W.peek K S (bindArgs fd ⟨us,ks.zip ws⟩)=some (ps.zip (sel n m pat .none cs us ws))
theorem kbk{ps ks:List Str}{n j:Nat}{pat:List Src}{csV:List V}{csU:List Value}(h:zbA K fd ps ks n j pat csU)(hc:Vals csV csU)(hp:ps.length≠0:=by decide):zdj K fd ps ks (sel n j pat .none csU) (sel n j pat .non csV):=zxj hc hp fun S us ws a b=>h S us a ws b
variable{P:Program}{w:World}{mg:Str->Option Value}{base h:Heap}{CX:CXT}{k:Nat}{ps ks:List Str}{sp:Sp}{g:List Value->List Value->List Value}{gV:List V->List V->List V}
theorem zcV.bd(A:zcV K x st f fd)(b:∀(kV doc pm:Value) (an:Option Addr) (cdv ct:Value) (us:List Value),us.length=ps.length->bindArgs (fnOf x x (zgE st) (zbo st) (zx st) .none kV doc pm an cdv ct) ⟨us,[]⟩=pure (ps.zip us):=by intro _ _ _ _ _ _;first | exact al1 fun _=>rfl | exact al2 fun _ _=>rfl | exact al3 fun _ _ _=>rfl | exact al4 fun _ _ _ _=>rfl | exact al5 fun _ _ _ _ _=>rfl | exact al6 fun _ _ _ _ _ _=>rfl | exact al7 fun _ _ _ _ _ _ _=>rfl | exact al8 fun _ _ _ _ _ _ _ _=>rfl):Binds K fd ps []:=A.F.binds b A.df
theorem zsL.has(A:zsL K x st f fd)(b:Binds K fd ps [])(X:K.In h)(G:h.Ns mainGlobals mg)(ok:zac P w K mg base CX k f fd ps sp):Has P w K mg base CX x k ps sp:=⟨_,_,ok,b,A.F.kp,mg_of X G A.at_⟩
theorem zsL.hasK(A:zsL K x st f fd)(X:K.In h)(G:h.Ns mainGlobals mg)(ok:zac P w K mg base CX k f fd ps sp)(kb:zdj K fd ps ks g gV):znA P w K mg base CX x k ps sp ks gV:=⟨⟨_,_,_,ok,kb,A.F.kp,mg_of X G A.at_⟩⟩
theorem zgB.hasT(A:zgB K C m q st f fd)(a:zwf K c C fs)(ok:zac P w K mg base CX k f fd ps sp)(kb:zdj K fd ps ks g gV):zb8 P w K mg base CX c m k ps sp ks gV:=⟨⟨C,_,_,_,zT a.at_,a.cl,⟨A.at_,A.fn,A.F.kp⟩,ok,kb⟩⟩
theorem zgB.hasM(A:zgB K C "__init__" q st f fd)(a:zwf K c C fs)(X:K.In h)(G:h.Ns mainGlobals mg)(ok:zac P w K mg base CX k f fd ps sp)(kb:zdj K fd ps ks g gV):zse P w K mg base CX c k ps sp ks gV:=⟨⟨C,_,_,_,zT a.at_,⟨a.ms,A.at_,A.fn,a.kp⟩,ok,kb,mg_of X G a.at_⟩⟩
end
section
variable{X:Cx}{a b e:Expr}{x:Str}{pos pos':Pos}{ta tb te:TE}
theorem qS(i:Nat)(hN:X.N.Nodup)(he:WE X e te)(hi:X.N[i]? = some x:=by rfl)(hx:Loc X.env.scope x:=by first | exact Or.inl rfl | exact Or.inr rfl)(hs:swapsWith e (some (.Name x pos')) pos.line X.env=pure false:=by rfl)
  (hf:X.fn x=true\/X.env.scope.names.lookup x=some .local:=by first | exact .inl rfl | exact .inr rfl | assumption):WS X (.Assign [.Name x pos'] e pos) (zeh te (zex i)):=zl5 hN hi hx he hs hf
theorem qG(i:Nat)(hN:X.N.Nodup)(hi:X.N[i]? = some x:=by rfl)(hx:Loc X.env.scope x:=by first | exact Or.inl rfl | exact Or.inr rfl)(hf:X.fn x=true\/X.env.scope.names.lookup x=some .local:=by first | exact .inl rfl | exact .inr rfl | assumption):WG X (.Name x pos) (zex i):=zb9 hN hi hx hf
theorem qx(K:Frag)(ha:WE X a ta)(hb:WE X b tb)(h:X.K=K:=by rfl)(hs:zlA b:=by exact fun _ _=>rfl):WE X (.Subscript a b pos) (tOp (rIx K) ta tb):=zeC (zuS K h) ha hb hs
theorem qa1(ha:WE X a ta)(h1:starEach [a] X.env=(false,eval a X.env)::starEach [] X.env:=by rfl):WA X [a] (zeH ta zga):=zp ha zcc h1
theorem qa2(ha:WE X a ta)(hb:WE X b tb)(h1:starEach [a,b] X.env=(false,eval a X.env)::starEach [b] X.env:=by rfl)(h2:starEach [b] X.env=(false,eval b X.env)::starEach [] X.env:=by rfl):WA X [a,b] (zeH ta (zeH tb zga)):=zp ha (zp hb zcc h2) h1
end
end L2
set_option synthInstance.maxHeartbeats 4000000
set_option synthInstance.maxSize 100000
namespace M
open PySem L2
def top(i:Nat):Stmt:=PySem.Challenge.pw_slotwright_k06_net_refusals.main.body.getD i (.Pass ⟨0,0,0,0⟩)
abbrev zew:Stmt:=top 23
abbrev zgA:List Str:=["text","signs","most"]
theorem zfJ:zP zgA ["text","signs","most"] (zx zew):=zaI
abbrev zhH:Stmt:=top 24
abbrev zkr:List Str:=["text"]
theorem zi7:zP zkr ["text"] (zx zhH):=zaI
abbrev zcZ:Stmt:=top 25
abbrev zei:List Str:=["text"]
theorem zcz:zP zei ["text"] (zx zcZ):=zaI
abbrev ze5:Stmt:=top 26
abbrev zh4:List Str:=["thing"]
theorem zhi:zP zh4 ["thing"] (zx ze5):=zaI
abbrev zcD:Stmt:=top 27
abbrev zdO:List Str:=["thing"]
theorem zb6:zP zdO ["thing"] (zx zcD):=zaI
abbrev zci:Stmt:=top 28
abbrev zdq:List Str:=["number","least","most"]
theorem zbQ:zP zdq ["number","least","most"] (zx zci):=zaI
abbrev zef:Stmt:=inClass (top 34) 0
abbrev zg6:List Str:=["self"]
theorem zfR:zP zg6 ["self"] (zx zef):=zaI
abbrev zdB:Stmt:=inClass (top 34) 1
abbrev zeP:List Str:=["self","name"]
theorem zda:zP zeP ["self","name"] (zx zdB):=zaI
abbrev zem:Stmt:=inClass (top 34) 2
abbrev zf3:List Str:=["self","name"]
theorem zdD:zP zf3 ["self","name"] (zx zem):=zaI
abbrev zep:Stmt:=inClass (top 34) 3
abbrev zf7:List Str:=["self","name","senders","ears","wire"]
theorem zdC:zP zf7 ["self","name","senders","ears","wire"] (zx zep):=zaI
abbrev zeQ:Stmt:=inClass (top 34) 5
abbrev zh3:List Str:=["self"]
theorem zgs:zP zh3 ["self"] (zx zeQ):=zaI
abbrev zf6:Stmt:=inClass (top 34) 7
abbrev ziP:List Str:=["self","name"]
theorem zii:zP ziP ["self","name"] (zx zf6):=zaI
abbrev zgb:Stmt:=inClass (top 34) 10
abbrev ziR:List Str:=["self","other"]
theorem zhP:zP ziR ["self","other"] (zx zgb):=zaI
abbrev zch:Stmt:=inClass (top 34) 11
abbrev zdu:List Str:=["self","name","kind"]
theorem zbS:zP zdu ["self","name","kind"] (zx zch):=zaI
abbrev zbP:Stmt:=inClass (top 34) 12
abbrev zcQ:List Str:=["self","name"]
theorem zbx:zP zcQ ["self","name"] (zx zbP):=zaI
abbrev zbl:Stmt:=inClass (top 34) 13
abbrev zb7:List Str:=["self","ends","text"]
theorem za7:zP zb7 ["self","ends"] (zx zbl):=zaI
abbrev zc7:Stmt:=top 35
abbrev zeg:List Str:=["ends"]
theorem zcA:zP zeg ["ends"] (zx zc7):=zaI
abbrev zfe:Stmt:=top 37
theorem zl7:zP ["_law_script"] ["_law_script"] (zx zfe):=zaI
abbrev zge:Stmt:=top 38
theorem zdF:zP ["_law_s","_law_many","_law_cell","_law_found"] ["_law_s","_law_many"] (zx zge):=zaI
abbrev zgk:Stmt:=top 39
abbrev zi3:List Str:=["_law_s","_law_row_here"]
theorem zh6:zP zi3 ["_law_s","_law_row_here"] (zx zgk):=zaI
abbrev zf1:Stmt:=top 40
abbrev ziL:List Str:=["_law_s","_law_names","_law_letters","_law_turn","_law_size","_law_word","_law_k"]
theorem zhY:zP ziL ["_law_s","_law_names"] (zx zf1):=zaI
abbrev zhy:Stmt:=top 41
abbrev zkX:List Str:=["_law_s","_law_names","_law_lines","_law_one","_law_two","_law_barred","_law_fit","_law_line"]
theorem zi0:zP zkX ["_law_s","_law_names","_law_lines","_law_one","_law_two","_law_barred"] (zx zhy):=zaI
abbrev zhj:Stmt:=top 42
abbrev zkG:List Str:=["_law_s","_law_names","_law_lines","_law_gates","_law_first","_law_the_last","_law_barred","_law_free","_law_way_here","_law_k","_law_gate"]
theorem zju:zP zkG ["_law_s","_law_names","_law_lines","_law_gates","_law_first","_law_the_last","_law_barred"] (zx zhj):=zaI
abbrev zgh:Stmt:=top 43
abbrev ziO:List Str:=["_law_row_here","_law_lines","_law_the_slack","_law_the_most","_law_way_here","_law_sums","_law_line"]
theorem zhW:zP ziO ["_law_row_here","_law_lines","_law_the_slack"] (zx zgh):=zaI
abbrev zhI:Stmt:=top 44
abbrev zkt:List Str:=["_law_s","_law_names","_law_lines","_law_houses","_law_gates","_law_the_slack","_law_at","_law_first","_law_the_last","_law_ways","_law_the_every","_law_the_long","_law_row_here","_law_spare"]
theorem zjo:zP zkt ["_law_s","_law_names","_law_lines","_law_houses","_law_gates","_law_the_slack"] (zx zhI):=zaI
abbrev zfj:Stmt:=top 45
abbrev zhR:List Str:=["_law_s","_law_the_most","_law_names","_law_houses","_law_gates","_law_the_slack","_law_lines","_law_rows"]
theorem zgp:zP zhR ["_law_s","_law_the_most"] (zx zfj):=zaI
abbrev zho:Stmt:=top 46
abbrev zkD:List Str:=["_law_world_here","_law_net_here","_law_name_here","_law_senders","_law_ears","_law_the_wire"]
theorem ziF:zP zkD ["_law_world_here"] (zx zho):=zaI
abbrev zcP:Stmt:=top 47
abbrev zeE:List Str:=["_law_e","_law_kinds"]
theorem zd8:zP zeE ["_law_e"] (zx zcP):=zaI
abbrev zcR:Stmt:=top 48
abbrev zeK:List Str:=["_law_e","_law_kinds"]
theorem zd9:zP zeK ["_law_e"] (zx zcR):=zaI
abbrev zf0:Stmt:=top 49
abbrev zjI:List Str:=["_law_e","_law_kinds"]
theorem zh1:zP zjI ["_law_e"] (zx zf0):=zaI
abbrev zfd:Stmt:=top 50
abbrev zhT:List Str:=["_law_s","_law_world_here","_law_bad"]
theorem zgz:zP zhT ["_law_s","_law_world_here"] (zx zfd):=zaI
abbrev zhD:Stmt:=top 51
abbrev zkQ:List Str:=["_law_way_here","_law_net_here","_law_name_here","_law_other","_law_there","_law_line","_law_nodes"]
theorem zjr:zP zkQ ["_law_way_here","_law_net_here","_law_name_here","_law_other","_law_there","_law_line"] (zx zhD):=zaI
abbrev zqN:Stmt:=top 52
abbrev zqG:List Str:=["_law_script","_law_s","_law_world_here","_law_net_here","_law_the_kept","_law_there","_law_name_here","_law_other","_law_line","_law_bad","_law_taken","_law_way_here","_law_due_here","_law_got","_law_named","_law_e"]
theorem zs8:zP zqG ["_law_script"] (zx zqN):=zaI
abbrev zeD:Stmt:=inClass (top 9) 0
abbrev zeX:Stmt:=inClass (top 8) 0
section
variable{P:Program}{w:World}{K:Frag}{mg:Str->Option Value}{base:Heap}
theorem zuF{f:Addr}{fd:FuncData}(F:Fun K "_law_draw" "_law_draw" zge f fd)(B:Blt mg):zac P w K mg base CX0 1 f fd ["_law_s","_law_many"] zlL:=by
 refine F.okq zdF (fun vs H Q E h=>?_) (fun cdv A outer s H vs Q E hr h=>?_)
 .obtain⟨a,l,m,rfl,_⟩:=h;rfl
 obtain⟨a,l,many,rfl,⟨ns,i,b,c,ha,hl,hi,hb,hal⟩,hm,hm2,q⟩:=h;refine⟨_,(zf (zU (zG zvz (zeC (zbp K) (qv 0) zj (fun _ _=>rfl)) zj (zY _))
  (zf (zl5 (i:=2) zdF.nd rfl (Or.inl rfl) zj)
  (zf (zU (zG zjq (zeC (zbp K) (qv 0) zj (fun _ _=>rfl)) (zr (zpL K) rfl B.len zaG (zp (zeC (zbp K) (qv 0) zj (fun _ _=>rfl)) zcc)) (zY _))
  (zf (zl5 (i:=2) zdF.nd rfl (Or.inl rfl) (zeC (zbp K) (zeC (zbp K) (qv 0) zj (fun _ _=>rfl)) (zeC (zbp K) (qv 0) zj (fun _ _=>rfl)) (fun _ _=>rfl)))
  (zg (zjc (zaj zlv (zeC (zbp K) (qv 0) zj (fun _ _=>rfl)) zj) (zlj (qv 0) zj set_list))))
  zL)
  (zg (zU (WW.qt (zfQ (zG zmM (qv 2) (zaj zsm zj zj) (zY _)) (zee (zG zfh (qv 2) (zjv zgl (zaj zsm zj zj)) (zY _)))))
  (zg (zjc (zr zrm rfl B.abs zv2 (zp (qv 2) zcc)) (zlj (qv 0) zj set_list)))
  (zf (zjc (zaj zhC (zaj zlv (zaj zlv (zaj zrA (zeC (zbp K) (qv 0) zj (fun _ _=>rfl)) zj) (zaj zhC (qv 2) zj)) zj) zj) (zlj (qv 0) zj set_list))
  (zg (zaA (zaj zhC (zaj zg9 (zeC (zbp K) (qv 0) zj (fun _ _=>rfl)) zj) (qv 1)))))))))
  zL)
  (zf (zl5 (i:=3) zdF.nd rfl (Or.inl rfl) (zaj zhC (zeC (zbp K) (qv 0) zj (fun _ _=>rfl)) (qv 1)))
  (zf (zjc (zaj zg9 (zeC (zbp K) (qv 0) zj (fun _ _=>rfl)) (qv 1)) (zlj (qv 0) zj set_list))
  (zg (zaA (qv 3)))))),?_⟩
 have fin:∀(H1:Hp) (i1 b1 c1:Int) (x:Option V),H1 a=some (.lst [.ref l, .int i1, .int b1, .int c1])->0<=i1->0<=b1->zld a H H1 ->
   (zj7 (zeh (tOp (rI (fun _ j=>0 < j) fun i j=> .int (i % j)) (tOp (ziX K) (zbJ 0) (tC (.int 2))) (zbJ 1)) (zex 3))
    (zj7 (zeh (tOp (rI ziH fun i j=> .int (i / j)) (tOp (ziX K) (zbJ 0) (tC (.int 2))) (zbJ 1)) (zmq (zbJ 0) (tC (.int 2)) zi6)) (zn3 (zbJ 3)))) { nx:=fun _ H'=>Q .non H',rt:=Q } [some (.ref a),some (.int many),x,none] H1:=by
  intro H1 i1 b1 c1 x h1 hi1 hb1 o1;refine⟨_,rfl,_,_,_,_,rfl,rfl,SqL.of h1,rfl,_,rfl,_,_,rfl,rfl,hm,?_⟩;refine⟨_,rfl,_,_,_,_,rfl,rfl,SqL.of h1,rfl,_,rfl,_,_,rfl,rfl,⟨hm,hm2⟩,?_⟩;refine⟨_,rfl,_,_,_,_,rfl,rfl,h1,rfl,?_⟩;refine⟨_,rfl,?_⟩;refine q _ _ (Int.emod_nonneg _ (by omega)) (Int.emod_lt_of_pos _ hm) ⟨ns,i1,b1 / many,c1,zH,?_,hi1,Int.ediv_nonneg hb1 (by omega),hal⟩ fun z hz=>?_
  .rw[zJ hal.symm,o1 _ hal.symm];exact hl
  .rw[zJ hz];exact o1 z hz
 refine⟨_,rfl,_,_,_,_,rfl,rfl,SqL.of ha,rfl,rfl,_,rfl,?_⟩;refine zu7 (fun c0=>?_) (fun c0=>?_)
 .refine⟨_,rfl,_,_,_,_,rfl,rfl,SqL.of ha,rfl,_,rfl,_,_,_,_,rfl,rfl,SqL.of ha,rfl,_,_,rfl, .inl (SqL.of hl),_,_,rfl,rfl,_,rfl,?_⟩;have cellEnd:∀(H1:Hp) (i1 cell:Int),H1 a=some (.lst [.ref l, .int i1, .int b, .int c])->0<=i1->zld a H H1 ->
   (zvo (tOr (zjg (tOp (rI0 fun i j=> .bl (decide (j<=i))) (zbJ 2) (tOp (rI zub fun i j=> .int (i^j.toNat)) (tC (.int 10)) (tC (.int 18)))))
     (zjg (tOp (rI0 fun i j=> .bl (decide (i<=j))) (zbJ 2) (tUn (rU fun i=> .int (-i)) (tOp (rI zub fun i j=> .int (i^j.toNat)) (tC (.int 10)) (tC (.int 18)))))))
    (zeh (tCB (fun xs H Q=>∃i,xs=[.int i]/\Q (.int (if i < 0 then -i else i)) H) (zeH (zbJ 2) zga)) (zmq (zbJ 0) (tC (.int 2)) zi6))
    (zj7 (zeh (tOp (rI (fun _ j=>0 < j) fun i j=> .int (i % j)) (tOp (rI0 fun i j=> .int (i+j)) (tOp (rI0 fun i j=> .int (i+j)) (tOp (rI zj8 fun i j=> .int (i*j)) (tOp (ziX K) (zbJ 0) (tC (.int 3))) (tC (.int 48271))) (tOp (rI (fun _ j=>0 < j) fun i j=> .int (i % j)) (zbJ 2) (tC (.int 2147483647)))) (tC (.int 11))) (tC (.int 2147483647))) (zmq (zbJ 0) (tC (.int 3)) zi6))
     (zn3 (tOp (rI (fun _ j=>0 < j) fun i j=> .int (i % j)) (tOp (rI ziH fun i j=> .int (i / j)) (tOp (ziX K) (zbJ 0) (tC (.int 3))) (tC (.int 64))) (zbJ 1)))))
    {nx:=(zj7 (zeh (tOp (rI (fun _ j=>0 < j) fun i j=> .int (i % j)) (tOp (ziX K) (zbJ 0) (tC (.int 2))) (zbJ 1)) (zex 3))
    (zj7 (zeh (tOp (rI ziH fun i j=> .int (i / j)) (tOp (ziX K) (zbJ 0) (tC (.int 2))) (zbJ 1)) (zmq (zbJ 0) (tC (.int 2)) zi6)) (zn3 (zbJ 3)))) { nx:=fun _ H'=>Q .non H',rt:=Q },rt:=Q } [some (.ref a),some (.int many),some (.int cell),none] H1:=by
   intro H1 i1 cell h1 hi1 o1;have big:(zeh (tCB (fun xs H Q=>∃i,xs=[.int i]/\Q (.int (if i < 0 then -i else i)) H) (zeH (zbJ 2) zga)) (zmq (zbJ 0) (tC (.int 2)) zi6))
     {nx:=(zj7 (zeh (tOp (rI (fun _ j=>0 < j) fun i j=> .int (i % j)) (tOp (ziX K) (zbJ 0) (tC (.int 2))) (zbJ 1)) (zex 3))
    (zj7 (zeh (tOp (rI ziH fun i j=> .int (i / j)) (tOp (ziX K) (zbJ 0) (tC (.int 2))) (zbJ 1)) (zmq (zbJ 0) (tC (.int 2)) zi6)) (zn3 (zbJ 3)))) { nx:=fun _ H'=>Q .non H',rt:=Q },rt:=Q } [some (.ref a),some (.int many),some (.int cell),none] H1:=by
    refine⟨_,rfl,_,rfl,_,rfl,_,_,_,_,rfl,rfl,h1,rfl,?_⟩;exact fin _ i1 (if cell < 0 then -cell else cell) c _ zH hi1 (by split<;>omega) fun z hz=>by rw[zJ hz];exact o1 z hz
   refine⟨_,rfl,_,_,rfl,rfl,⟨by decide,by decide,by decide⟩,_,_,rfl,rfl,_,rfl,?_⟩;refine zu7 (fun c1=>?_) (fun c1=>?_)
   .exact zzQ big
   .refine⟨_,rfl,_,_,rfl,rfl,⟨by decide,by decide,by decide⟩,_,rfl,_,_,rfl,rfl,_,rfl,?_⟩;refine zu7 (fun c2=>big) (fun c2=>?_);refine⟨_,rfl,_,_,_,_,rfl,rfl,SqL.of h1,rfl,_,_,rfl,rfl, .inr ⟨by decide,by decide⟩,_,rfl,_,_,rfl,rfl,(show(0:Int) < 2147483647 by decide),_,_,rfl,rfl,_,_,rfl,rfl,_,_,rfl,rfl,(show(0:Int) < 2147483647 by decide),?_⟩;refine⟨_,rfl,_,_,_,_,rfl,rfl,h1,rfl,?_⟩;refine⟨_,rfl,_,_,_,_,rfl,rfl,SqL.of zH,rfl,_,_,rfl,rfl,⟨by decide,by decide⟩,_,rfl,_,_,rfl,rfl,hm,?_⟩;refine q _ _ (Int.emod_nonneg _ (by omega)) (Int.emod_lt_of_pos _ hm) ⟨ns,i1,b,_,zH,?_,hi1,hb,hal⟩ fun z hz=>?_
    .rw[zJ hal.symm,o1 _ hal.symm];exact hl
    .rw[zJ hz];exact o1 z hz
  refine zu7 (fun c1=>?_) (fun c1=>?_)
  .have c1':i < ((ns.map V.int).length:Int):=of_decide_eq_true c1;rw[List.length_map] at c1';have hget:(ns.map V.int)[i.toNat]? = some (.int (ns[i.toNat]'(by omega))):=by rw[List.getElem?_map,List.getElem?_eq_getElem (by omega)];rfl
   have hat:=zc2 hget;rw[show((i.toNat:Nat):Int)=i by omega] at hat;refine⟨_,rfl,_,_,_,_,rfl,rfl,SqL.of ha,rfl,_,rfl,_,_,_,_,rfl,rfl,SqL.of ha,rfl,_,_,_,_,rfl,rfl,SqL.of hl,hat,?_⟩;refine⟨_,rfl,_,_,_,_,rfl,rfl,SqL.of ha,rfl,_,_,rfl,rfl,_,rfl,_,_,_,_,rfl,rfl,ha,rfl,?_⟩;exact cellEnd _ (i+1) _ zH (by omega) fun z hz=>by rw[zJ hz]
  .exact cellEnd H i 0 ha hi fun z hz=>rfl
 .exact fin H i b c none ha hi hb fun z hz=>rfl
theorem zqT{f:Addr}{fd:FuncData}(F:Fun K "_law_start" "_law_start" zfe f fd)(B:Blt mg):zac P w K mg base CX0 1 f fd ["_law_script"] (zjK K):=by
 refine F.okq zl7 (fun vs H Q E h=>?_) (fun cdv A outer s H vs Q E hr h=>?_)
 .obtain⟨a,m,rfl,_⟩:=h;rfl
 obtain⟨a,ns,rfl,hS,q⟩:=h;refine⟨_,(zg (zaA (za2 (zp (zau (zjH K) rfl B.list zoK (zp (zdY (zqR K) (qv 0) zgw (zeb zj)) zcc)) (zp zj (zp zj (zp zj zcc))))))),?_⟩;refine⟨_,rfl,_,rfl,_,_,rfl,hS,fun p1 h1=>?_⟩;refine⟨_,_,rfl, .inl (SqL.of zH),fun p2 h2=>⟨by show 4<=sizeLine;decide,fun p3 h3=>?_⟩⟩;have n21:p2≠p1:=fun z=>by rw[z,zH] at h2;cases h2
 have n32:p3≠p2:=fun z=>by rw[z,zH] at h3;cases h3
 rw[zJ n32] at h3;have n31:p3≠p1:=fun z=>by rw[z,zH] at h3;cases h3
 rw[zJ n31] at h3;rw[zJ n21] at h2;have cut:zir (ns.map V.int) none (some 63)=((ns.drop (HT.sIx (ns.map V.int).length 0 none)).take (HT.sIx (ns.map V.int).length (ns.map V.int).length (some 63) - HT.sIx (ns.map V.int).length 0 none)).map V.int:=by
  unfold zir;rw[List.map_take,List.map_drop]
 refine q p3 p2 _ h3 h2 ⟨((ns.drop (HT.sIx (ns.map V.int).length 0 none)).take (HT.sIx (ns.map V.int).length (ns.map V.int).length (some 63) - HT.sIx (ns.map V.int).length 0 none)),0,0,90210,zH,?_,by decide,by decide,n32⟩ fun b o e=>?_
 .rw[zJ n32.symm,zH,cut]
 .rw[zJ (zai e h3),zJ (zai e h2),zJ (zai e h1)];exact e
end
abbrev tab:Tab:=[("Net",["kinds","lines"])]
abbrev zcx:List Str:=["kinds","lines"]
theorem zgt:ziV tab "Net" "kinds"=true:=by decide+kernel
theorem zlU{v0 v1:D}{R:D->Prop}:zsB tab "kinds" "Net" zcx [v0,v1] R=R v0:=by
 simp only[zsB,zgt,true_and,List.zip_cons_cons,List.lookup_cons,beq_self_eq_true,zhL]
theorem zlF{w:D}{R:List Str->List D->Prop}:znx tab "kinds" w "Net" [] [] R=R ["kinds"] [w]:=by
 rw[znx,zgt,show putN "kinds" []=(["kinds"]:List Str) from by simp only[putN,if_false],show putD "kinds" w [] []=[w] from by simp only[putD,if_false]];exact propext ⟨fun h=>h.2.2,fun h=>⟨rfl,by show 0 < 1000;decide,h⟩⟩
theorem zgW:ziV tab "Net" "lines"=true:=by decide+kernel
theorem zk9{v0 v1:D}{R:D->Prop}:zsB tab "lines" "Net" zcx [v0,v1] R=R v1:=by
 simp only[zsB,zgW,true_and,List.zip_cons_cons,List.lookup_cons,show(("lines":Str)=="kinds")=false from by decide+kernel,beq_self_eq_true,zhL]
theorem zlG{w v0:D}{R:List Str->List D->Prop}:znx tab "lines" w "Net" ["kinds"] [v0] R=R ["kinds","lines"] [v0,w]:=by
 rw[znx,zgW,show putN "lines" ["kinds"]=(["kinds","lines"]:List Str) from by simp only[putN,show(("kinds":Str)="lines")=False from eq_false (by decide+kernel),if_false],show putD "lines" w ["kinds"] [v0]=[v0,w] from by simp only[putD,show(("kinds":Str)="lines")=False from eq_false (by decide+kernel),if_false]];exact propext ⟨fun h=>h.2.2,fun h=>⟨rfl,by show 1 < 1000;decide,h⟩⟩
theorem zhk{v0 v1:D}:List.lookup ("check_new":Str) (zcx.zip [v0,v1])=none:=by
 simp only[List.zip_cons_cons,List.zip_nil_left,List.lookup_cons,List.lookup_nil,show(("check_new":Str)=="kinds")=false from by decide+kernel,show(("check_new":Str)=="lines")=false from by decide+kernel]
theorem zgj{v0 v1:D}:List.lookup ("check_nodes":Str) (zcx.zip [v0,v1])=none:=by
 simp only[List.zip_cons_cons,List.zip_nil_left,List.lookup_cons,List.lookup_nil,show(("check_nodes":Str)=="kinds")=false from by decide+kernel,show(("check_nodes":Str)=="lines")=false from by decide+kernel]
theorem zmJ{v0 v1:D}:List.lookup ("ends":Str) (zcx.zip [v0,v1])=none:=by
 simp only[List.zip_cons_cons,List.zip_nil_left,List.lookup_cons,List.lookup_nil,show(("ends":Str)=="kinds")=false from by decide+kernel,show(("ends":Str)=="lines")=false from by decide+kernel]
theorem zmX{v0 v1:D}:List.lookup ("gate":Str) (zcx.zip [v0,v1])=none:=by
 simp only[List.zip_cons_cons,List.zip_nil_left,List.lookup_cons,List.lookup_nil,show(("gate":Str)=="kinds")=false from by decide+kernel,show(("gate":Str)=="lines")=false from by decide+kernel]
theorem zlu{v0 v1:D}:List.lookup ("house":Str) (zcx.zip [v0,v1])=none:=by
 simp only[List.zip_cons_cons,List.zip_nil_left,List.lookup_cons,List.lookup_nil,show(("house":Str)=="kinds")=false from by decide+kernel,show(("house":Str)=="lines")=false from by decide+kernel]
theorem zmg{v0 v1:D}:List.lookup ("line":Str) (zcx.zip [v0,v1])=none:=by
 simp only[List.zip_cons_cons,List.zip_nil_left,List.lookup_cons,List.lookup_nil,show(("line":Str)=="kinds")=false from by decide+kernel,show(("line":Str)=="lines")=false from by decide+kernel]
theorem zlM{v0 v1:D}:List.lookup ("names":Str) (zcx.zip [v0,v1])=none:=by
 simp only[List.zip_cons_cons,List.zip_nil_left,List.lookup_cons,List.lookup_nil,show(("names":Str)=="kinds")=false from by decide+kernel,show(("names":Str)=="lines")=false from by decide+kernel]
theorem zit{v0 v1:D}:List.lookup ("put_node":Str) (zcx.zip [v0,v1])=none:=by
 simp only[List.zip_cons_cons,List.zip_nil_left,List.lookup_cons,List.lookup_nil,show(("put_node":Str)=="kinds")=false from by decide+kernel,show(("put_node":Str)=="lines")=false from by decide+kernel]
abbrev zaN:List Str:=["BadEnds","BadName","BadNumber","Full","NoName","Taken"]
abbrev zmY:List Str:=["BadEnds","BadName","BadNumber","Full"]
abbrev za1:List Str:=["Tight","Late","Heavy","NoPlan","NoRoom","NoStep","TooFew","BadPage","BadName","BadNumber","BadWay","BadEnds","BadLine","Taken","NoName","InUse","Full"]
abbrev zmF:List Str:=[]
abbrev zpd:List Str:=["NoName","Taken"]
abbrev zdM:List Str:=["BadEnds","BadName","BadNumber","Full","NoName","Taken"]
abbrev zdL:List Str:=[]
abbrev zfx:List Str:=["NoName"]
abbrev zfr:List Str:=["BadEnds","BadName","BadNumber","Full","Taken"]
abbrev zhb:List Str:=["Taken"]
abbrev zgM:List Str:=["BadEnds","BadName","BadNumber","Full","NoName"]
abbrev zzy:List (Str×List Str×List Str):=[("NetError",zdM,zdL),("NoName",zfx,zfr),("Taken",zhb,zgM)]
def zeV(z:Str):Option Str:=fText "name" z (zlw (zbo zeD)) Str.empty
def zgH(z:Str):Option Str:=fText "name" z (zlw (zbo zeX)) Str.empty
@[reducible] def zgX:DS:=(zcu (zjh (zgn dLe dLe (dC (.int 1)) (dCB zdz (za (zc 0) zm)) (zc 2)) (dCB zsQ (za (zez ["sign"] [1] [0] (zds (zc 0)) (zy 0) zhr (dOp zt5 (zc 0) (zc 1))) zm))))
def zdy:DSp:=zam zgX zgA 3
@[reducible] def zh9:DS:=(zcu (zjh (dCB zgq (za (zc 0) (za (dC (.ty "int")) zm))) (zoW (dCB zgq (za (zc 0) (za (dC (.ty "bool")) zm))))))
def zbf:DSp:=zam zh9 zh4 1
@[reducible] def zgJ:DS:=(zF (zpc tab (zc 0) zmz "kinds")
  (zpc tab (zc 0) zmz "lines"))
def zce:DSp:=zam zgJ zg6 1
@[reducible] def zhZ:DS:=(zcu (dCB zdn (za (zct tab (zc 0) "kinds") zm)))
def zbE:DSp:=zam zhZ zh3 1
@[reducible] def zjb:DS:=(zF (zat (zK (dOp (zfN true) (zc 1) (zct tab (zc 0) "lines")))
  zcW
  zab)
  (zcu (zs9 (zct tab (zc 0) "lines") (zc 1))))
def zcY:DSp:=zam zjb ziP 2
@[reducible] def zjL:DS:=(zcu (zjh (dCB (zul "Net") (za (zc 1) (za (dC (.cls "Net")) zm))) (zjh (dOp zqh (zct tab (zc 0) "kinds") (zct tab (zc 1) "kinds")) (dOp zqh (zct tab (zc 0) "lines") (zct tab (zc 1) "lines")))))
def zaJ:DSp:=zam zjL ziR 2
@[reducible] def zdN:DS:=(zix (zds (zc 1)) (zy 2)
  (zat (dOr (zK (dOp (zfN true) (zc 2) (zct tab (zc 0) "kinds"))) (zK (dOp (zfN false) (zc 2) (zct tab (zc 0) "lines"))))
  zcW
  zab))
def zaH:DSp:=zam zdN zb7 2
@[reducible] def zgU:DS:=(zF (zat (ziI (zK (zgn dLe dLe (dC (.int 1)) (dCB zdz (za (zc 0) zm)) (dC (.int 6)))))
  zcW
  zab)
  (zat (zK (dOp dLt (ziy (zc 0)) (dCB zdz (za (zc 0) zm))))
  zcW
  zab))
def zbr:DSp:=zam zgU zeg 1
@[reducible] def zfM(Ex:DXE):DS:=(zF (zat (ziI (zK (zgn dLe dLe (dC (.int 1)) (dCB zdz (za (zc 0) zm)) (dC (.int 6)))))
  (zer "BadEnds" Ex (za (dC (.str "not one to six names")) zm))
  zab)
  (zat (zK (dOp dLt (ziy (zc 0)) (dCB zdz (za (zc 0) zm))))
  (zer "BadEnds" Ex (za (dC (.str "a name twice")) zm))
  zab))
def zbd:zel:=zbT zfM zeg 1
@[reducible] def zjM:DS:=(zF (zaB (dC (.int 0)) (zy 3))
  (zF (zix (zds (dOp dIx (zc 0) (dC (.int 1)))) (zy 4)
  (zF (zaB (dC (.int 0)) (zy 5))
  (zF (zix (zds (zc 1)) (zy 6)
  (zat (zK (dOp (zfD false) (dOp dIx (zc 6) (dC (.int 0))) (zc 4)))
  (zaB (dOp zbX (dOp zbX (dOp zbX (zc 5) (dOp dIx (zc 0) (dC (.int 3)))) (dOp dIx (zc 6) (dC (.int 3)))) (zc 2)) (zy 5))
  zab))
  (zaB (dCB zqt (za (zc 3) (za (zc 5) zm))) (zy 3)))))
  (zcu (zc 3))))
def zc8:DSp:=zam zjM ziO 3
@[reducible] def zeA:DS:=(zF (zaB (zeJ zm) (zy 1))
  (zF (zat (zK (dCB (zc0 zaN za1) (za (zc 0) (za (dC (.cls "BadName")) zm))))
  (zO (dBM "list" zW (zc 1) (za (dC (.str "BadName")) zm)))
  zab)
  (zF (zat (zK (dCB (zc0 zaN za1) (za (zc 0) (za (dC (.cls "BadNumber")) zm))))
  (zO (dBM "list" zW (zc 1) (za (dC (.str "BadNumber")) zm)))
  zab)
  (zF (zat (zK (dCB (zc0 zaN za1) (za (zc 0) (za (dC (.cls "BadWay")) zm))))
  (zO (dBM "list" zW (zc 1) (za (dC (.str "BadWay")) zm)))
  zab)
  (zF (zat (zK (dCB (zc0 zaN za1) (za (zc 0) (za (dC (.cls "BadEnds")) zm))))
  (zO (dBM "list" zW (zc 1) (za (dC (.str "BadEnds")) zm)))
  zab)
  (zF (zat (zK (dCB (zc0 zaN za1) (za (zc 0) (za (dC (.cls "BadLine")) zm))))
  (zO (dBM "list" zW (zc 1) (za (dC (.str "BadLine")) zm)))
  zab)
  (zF (zat (zK (dCB (zc0 zaN za1) (za (zc 0) (za (dC (.cls "Taken")) zm))))
  (zO (dBM "list" zW (zc 1) (za (dC (.str "Taken")) zm)))
  zab)
  (zF (zat (zK (dCB (zc0 zaN za1) (za (zc 0) (za (dC (.cls "NoName")) zm))))
  (zO (dBM "list" zW (zc 1) (za (dC (.str "NoName")) zm)))
  zab)
  (zF (zat (zK (dCB (zc0 zaN za1) (za (zc 0) (za (dC (.cls "InUse")) zm))))
  (zO (dBM "list" zW (zc 1) (za (dC (.str "InUse")) zm)))
  zab)
  (zF (zat (zK (dCB (zc0 zaN za1) (za (zc 0) (za (dC (.cls "Full")) zm))))
  (zO (dBM "list" zW (zc 1) (za (dC (.str "Full")) zm)))
  zab)
  (zgQ 1 (zcu (zc 1)))))))))))))
def zbj:DSp:=zam zeA zeE 1
@[reducible] def zeM:DS:=(zF (zaB (zeJ zm) (zy 1))
  (zF (zat (zK (dCB (zc0 zaN za1) (za (zc 0) (za (dC (.cls "Tight")) zm))))
  (zO (dBM "list" zW (zc 1) (za (dC (.str "Tight")) zm)))
  zab)
  (zF (zat (zK (dCB (zc0 zaN za1) (za (zc 0) (za (dC (.cls "Late")) zm))))
  (zO (dBM "list" zW (zc 1) (za (dC (.str "Late")) zm)))
  zab)
  (zF (zat (zK (dCB (zc0 zaN za1) (za (zc 0) (za (dC (.cls "Heavy")) zm))))
  (zO (dBM "list" zW (zc 1) (za (dC (.str "Heavy")) zm)))
  zab)
  (zF (zat (zK (dCB (zc0 zaN za1) (za (zc 0) (za (dC (.cls "NoPlan")) zm))))
  (zO (dBM "list" zW (zc 1) (za (dC (.str "NoPlan")) zm)))
  zab)
  (zF (zat (zK (dCB (zc0 zaN za1) (za (zc 0) (za (dC (.cls "NoRoom")) zm))))
  (zO (dBM "list" zW (zc 1) (za (dC (.str "NoRoom")) zm)))
  zab)
  (zF (zat (zK (dCB (zc0 zaN za1) (za (zc 0) (za (dC (.cls "NoStep")) zm))))
  (zO (dBM "list" zW (zc 1) (za (dC (.str "NoStep")) zm)))
  zab)
  (zF (zat (zK (dCB (zc0 zaN za1) (za (zc 0) (za (dC (.cls "TooFew")) zm))))
  (zO (dBM "list" zW (zc 1) (za (dC (.str "TooFew")) zm)))
  zab)
  (zF (zat (zK (dCB (zc0 zaN za1) (za (zc 0) (za (dC (.cls "BadPage")) zm))))
  (zO (dBM "list" zW (zc 1) (za (dC (.str "BadPage")) zm)))
  zab)
  (zgQ 1 (zcu (zc 1))))))))))))
def zbi:DSp:=zam zeM zeK 1
@[reducible] def zkf:DS:=(zcu (dCall zdy (za (zc 0) (za (dC (.str "abcdefghijklmnopqrstuvwxyz")) (za (dC (.int 8)) zm)))))
def zb4:DSp:=zam zkf zkr 1
@[reducible] def zfI:DS:=(zat (ziI (zK (dCall zbf (za (zc 0) zm))))
  zcW
  zab)
def zbR:DSp:=zam zfI zdO 1
@[reducible] def zfb(Ex:DXE):DS:=(zat (ziI (zK (dCall zbf (za (zc 0) zm))))
  (zer "BadNumber" Ex (za (dC (.str "not a number")) zm))
  zab)
def zaV:zel:=zbT zfb zdO 1
@[reducible] def zdr(Ex:DXE):DS:=(zix (zds (zc 1)) (zy 2)
  (zat (dOr (zK (dOp (zfN true) (zc 2) (zct tab (zc 0) "kinds"))) (zK (dOp (zfN false) (zc 2) (zct tab (zc 0) "lines"))))
  (zfy "NoName" zeV Ex (zc 2))
  zab))
def zaD:zel:=zbT zdr zb7 2
@[reducible] def zjm:DS:=(zcu (dOp dIx (zc 1) (dCall zaq (za (zc 0) (za (dCB zdz (za (zc 1) zm)) zm)))))
def zbu:DSp:=zam zjm zi3 2
@[reducible] def ziY:DS:=(zF (zaB (dC (.str "abcdefghijklmnopqrstuvwxyz")) (zy 2))
  (zF (zix (zec (za (dC (.int 4)) zm)) (zy 3)
  (zF (zaB (dOp zbX (dC (.int 1)) (dCall zaq (za (zc 0) (za (dC (.int 3)) zm)))) (zy 4))
  (zF (zat (zK (dOp dEq (zc 4) (dC (.int 3))))
  (zaB (dOp zbX (dC (.int 1)) (dCall zaq (za (zc 0) (za (dC (.int 8)) zm)))) (zy 4))
  zab)
  (zF (zaB (dBM "str" ztf (dC (.str "")) (za (zez ["_law_k"] [2,0] [0] (zec (za (zc 4) zm)) (zy 0) zhr (dOp dIx (zc 1) (dCall zaq (za (zc 2) (za (dC (.int 26)) zm))))) zm)) (zy 5))
  (zat (zK (dOp (zfD true) (zc 5) (zc 1)))
  (zF (zO (dBM "list" zW (zc 1) (za (zc 5) zm)))
  (zcu (zc 5)))
  zab)))))
  (zF (zix (zec (za (dC (.int 104)) zm)) (zy 6)
  (zF (zaB (dOp zkS (dOp dIx (zc 2) (dOp zuG (zc 6) (dC (.int 26)))) (dOp zbX (dC (.int 1)) (dOp zo8 (zc 6) (dC (.int 26))))) (zy 5))
  (zat (zK (dOp (zfD true) (zc 5) (zc 1)))
  (zF (zO (dBM "list" zW (zc 1) (za (zc 5) zm)))
  (zcu (zc 5)))
  zab)))
  (zcu (dC (.str "zzzzzzzz"))))))
def zav:DSp:=zam ziY ziL 2
@[reducible] def ziM:DS:=(zF (zaB (dOp zbX (dCall zbj (za (zc 0) zm)) (dCall zbi (za (zc 0) zm))) (zy 1))
  (zF (zat (zrS (zK (dOp dEq (dCB zdz (za (zc 1) zm)) (dC (.int 1)))) (zK (dCB (zc0 zaN za1) (za (zc 0) (za (dC (.ty "ValueError")) zm)))))
  (zcu (dOp dIx (zc 1) (dC (.int 0))))
  zab)
  (zcu (dC (.str "mixed")))))
def zc4:DSp:=zam ziM zjI 1
@[reducible] def zgK:DS:=(zat (ziI (zK (dCall zb4 (za (zc 0) zm))))
  zcW
  zab)
def zcf:DSp:=zam zgK zei 1
@[reducible] def zfG(Ex:DXE):DS:=(zat (ziI (zK (dCall zb4 (za (zc 0) zm))))
  (zer "BadName" Ex (za (zsz (zly (dC (.str "not a name: ")) (zly (zwy (zc 0)) zti))) zm))
  zab)
def zbb:zel:=zbT zfG zei 1
@[reducible] def zff:DS:=(zF (zO (dCall zbR (za (zc 0) zm)))
  (zat (ziI (zK (zgn dLe dLe (zc 1) (zc 0) (zc 2))))
  zcW
  zab))
def zby:DSp:=zam zff zdq 3
@[reducible] def zeI(Ex:DXE):DS:=(zF (zO (zeZ zaV Ex 1 0 [.p 0] [] (za (zc 0) zm) zm))
  (zat (ziI (zK (zgn dLe dLe (zc 1) (zc 0) (zc 2))))
  (zer "BadNumber" Ex (za (dC (.str "not a number within its bounds")) zm))
  zab))
def zaE:zel:=zbT zeI zdq 3
@[reducible] def zkj:DS:=(zF (zaB (zez ["_law_line"] [5,3] [0] (zds (zc 2)) (zy 0) (zrS (zK (dOp (zfD true) (dOp dIx (zc 0) (dC (.int 0))) (zc 1))) (dOr (zK (dOp (zfD false) (zc 2) (dOp dIx (zc 0) (dC (.int 1))))) (zK (dOp dLt (dCB zdz (za (dOp dIx (zc 0) (dC (.int 1))) zm)) (dC (.int 6)))))) (zc 0)) (zy 6))
  (zF (zaB (zez ["_law_line"] [4] [0] (zds (zc 6)) (zy 0) (dOr (zK (dOp (zfD false) (zc 1) (dOp dIx (zc 0) (dC (.int 2))))) (zK (dOp dLt (dCB zdz (za (dOp dIx (zc 0) (dC (.int 2))) zm)) (dC (.int 6))))) (zc 0)) (zy 6))
  (zF (zat (zrS (zK (dOp dLt (dCB zdz (za (zc 2) zm)) (dC (.int 14)))) (dOr (zK (dOp dEq (dCB zdz (za (zc 6) zm)) (dC (.int 0)))) (zK (dOp dEq (dCall zaq (za (zc 0) (za (dC (.int 3)) zm))) (dC (.int 0))))))
  (zF (zO (dBM "list" zW (zc 2) (za (zf2 (za (dCall zav (za (zc 0) (za (zc 1) zm))) (za (zeJ (za (zc 3) zm)) (za (zeJ (za (zc 4) zm)) (za (dCall zaq (za (zc 0) (za (dC (.int 4)) zm))) zm))))) zm)))
  (zcu (dOp dIx (dOp dIx (zc 2) (dUn zj6 (dC (.int 1)))) (dC (.int 0)))))
  zab)
  (zF (zaB (dCall zbu (za (zc 0) (za (zc 6) zm))) (zy 7))
  (zF (zat (zK (dOp (zfD true) (zc 3) (dOp dIx (zc 7) (dC (.int 1)))))
  (zO (dBM "list" zW (dOp dIx (zc 7) (dC (.int 1))) (za (zc 3) zm)))
  zab)
  (zF (zat (zK (dOp (zfD true) (zc 4) (dOp dIx (zc 7) (dC (.int 2)))))
  (zO (dBM "list" zW (dOp dIx (zc 7) (dC (.int 2))) (za (zc 4) zm)))
  zab)
  (zcu (dOp dIx (zc 7) (dC (.int 0))))))))))
def zcO:DSp:=zam zkj zkX 6
@[reducible] def zhS:DS:=(zF (zaB (dOp dIx (zf2 (za (dC (.str "")) (za (dC (.str "abcdefghi")) (za (dC (.str "Ab")) (za (dC (.str "a b")) (za (dC (.str "a1")) (za (dC (.str "a_b")) (za (dC (.str "a.b")) (za (dC (.str "-")) zm))))))))) (dCall zaq (za (zc 0) (za (dC (.int 8)) zm)))) (zy 2))
  (zcu (zf2 (za (zc 2) (za (dCall zbu (za (zc 0) (za (dOp zbX (dOp zbX (dOp dIx (zc 1) (dC (.int 0))) (dOp dIx (zc 1) (dC (.int 1)))) (zez ["_law_line"] [] [0] (zds (dOp dIx (zc 1) (dC (.int 2)))) (zy 0) zhr (dOp dIx (zc 0) (dC (.int 0))))) zm))) zm)))))
def zcF:DSp:=zam zhS zhT 2
@[reducible] def zeL:DS:=(zF (zO (dCall zcf (za (zc 1) zm)))
  (zat (zK (dOp (zfN false) (zc 1) (zct tab (zc 0) "kinds")))
  zcW
  zab))
def zaT:DSp:=zam zeL zcQ 2
@[reducible] def zdX(Ex:DXE):DS:=(zF (zO (zeZ zbb Ex 1 0 [.p 0] [] (za (zc 1) zm) zm))
  (zat (zK (dOp (zfN false) (zc 1) (zct tab (zc 0) "kinds")))
  (zfy "Taken" zgH Ex (zc 1))
  zab))
def zX:zel:=zbT zdX zcQ 2
@[reducible] def zkh:DS:=(zF (zaB (zez ["_law_gate"] [6] [0] (zds (zc 3)) (zy 0) (zK (dOp (zfD true) (zc 0) (zc 1))) (zc 0)) (zy 7))
  (zF (zaB (zeJ (za (zc 4) zm)) (zy 8))
  (zF (zix (zec (za (dCB znC (za (dCall zaq (za (zc 0) (za (dC (.int 3)) zm))) (za (dCB zdz (za (zc 7) zm)) zm))) zm)) (zy 9)
  (zF (zaB (dCall zbu (za (zc 0) (za (zc 7) zm))) (zy 10))
  (zF (zaB (zez ["_law_other"] [10] [0] (zds (zc 7)) (zy 0) (zK (dOp dNe (zc 0) (zc 1))) (zc 0)) (zy 7))
  (zF (zO (dBM "list" zW (zc 8) (za (dCall zcO (za (zc 0) (za (zc 1) (za (zc 2) (za (dOp dIx (zc 8) (dUn zj6 (dC (.int 1)))) (za (zc 10) (za (dOp zbX (zc 6) (zc 8)) zm))))))) zm)))
  (zO (dBM "list" zW (zc 8) (za (zc 10) zm)))))))
  (zF (zO (dBM "list" zW (zc 8) (za (dCall zcO (za (zc 0) (za (zc 1) (za (zc 2) (za (dOp dIx (zc 8) (dUn zj6 (dC (.int 1)))) (za (zc 5) (za (dOp zbX (zc 6) (zc 8)) zm))))))) zm)))
  (zF (zO (dBM "list" zW (zc 8) (za (zc 5) zm)))
  (zcu (dCB za8 (za (zc 8) zm))))))))
def zcI:DSp:=zam zkh zkG 7
@[reducible] def ziQ:DS:=(zF (zO (zdx "Net" "check_new" zaT 2 0 [.p 0, .p 1] [] (zc 0) (za (zc 1) zm) zm))
  (zF (zat (zK (dOp dGe (dCB zgP (za (zct tab (zc 0) "lines") zm)) (dC (.int 16))))
  zcW
  zab)
  (zF (zO (dCall zbr (za (zc 2) zm)))
  (zF (zO (dCall zbr (za (zc 3) zm)))
  (zF (zO (zdx "Net" "check_nodes" zaH 2 0 [.p 0, .p 1] [] (zc 0) (za (zc 2) zm) zm))
  (zF (zO (zdx "Net" "check_nodes" zaH 2 0 [.p 0, .p 1] [] (zc 0) (za (zc 3) zm) zm))
  (zF (zO (dCall zby (za (zc 4) (za (dC (.int 0)) (za (dC (.int 30)) zm)))))
  (zF (zjY (zct tab (zc 0) "kinds") (zc 1) (dC (.str "line")))
  (zjY (zct tab (zc 0) "lines") (zc 1) (dTup (za (dCB za8 (za (dCB zdn (za (zc 2) zm)) zm)) (za (dCB za8 (za (dCB zdn (za (zc 3) zm)) zm)) (za (zc 4) zm)))))))))))))
def zck:DSp:=zam ziQ zf7 5
@[reducible] def zhQ(Ex:DXE):DS:=(zF (zO (za4 "Net" "check_new" zX Ex 2 0 [.p 0, .p 1] [] (zc 0) (za (zc 1) zm) zm))
  (zF (zat (zK (dOp dGe (dCB zgP (za (zct tab (zc 0) "lines") zm)) (dC (.int 16))))
  (zer "Full" Ex (za (dC (.str "there is no place for one more line")) zm))
  zab)
  (zF (zO (zeZ zbd Ex 1 0 [.p 0] [] (za (zc 2) zm) zm))
  (zF (zO (zeZ zbd Ex 1 0 [.p 0] [] (za (zc 3) zm) zm))
  (zF (zO (za4 "Net" "check_nodes" zaD Ex 2 0 [.p 0, .p 1] [] (zc 0) (za (zc 2) zm) zm))
  (zF (zO (za4 "Net" "check_nodes" zaD Ex 2 0 [.p 0, .p 1] [] (zc 0) (za (zc 3) zm) zm))
  (zF (zO (zeZ zaE Ex 3 0 [.p 0, .p 1, .p 2] [] (za (zc 4) (za (dC (.int 0)) (za (dC (.int 30)) zm))) zm))
  (zF (zjY (zct tab (zc 0) "kinds") (zc 1) (dC (.str "line")))
  (zjY (zct tab (zc 0) "lines") (zc 1) (dTup (za (dCB za8 (za (dCB zdn (za (zc 2) zm)) zm)) (za (dCB za8 (za (dCB zdn (za (zc 3) zm)) zm)) (za (zc 4) zm)))))))))))))
def zQ:zel:=zbT zhQ zf7 5
@[reducible] def ze6:DS:=(zF (zO (zdx "Net" "check_new" zaT 2 0 [.p 0, .p 1] [] (zc 0) (za (zc 1) zm) zm))
  (zF (zat (zK (dOp dGe (dOp zjZ (dCB zgP (za (zct tab (zc 0) "kinds") zm)) (dCB zgP (za (zct tab (zc 0) "lines") zm))) (dC (.int 16))))
  zcW
  zab)
  (zjY (zct tab (zc 0) "kinds") (zc 1) (zc 2))))
def za3:DSp:=zam ze6 zdu 3
@[reducible] def zey(Ex:DXE):DS:=(zF (zO (za4 "Net" "check_new" zX Ex 2 0 [.p 0, .p 1] [] (zc 0) (za (zc 1) zm) zm))
  (zF (zat (zK (dOp dGe (dOp zjZ (dCB zgP (za (zct tab (zc 0) "kinds") zm)) (dCB zgP (za (zct tab (zc 0) "lines") zm))) (dC (.int 16))))
  (zer "Full" Ex (za (dC (.str "there is no place for one more house or gate")) zm))
  zab)
  (zjY (zct tab (zc 0) "kinds") (zc 1) (zc 2))))
def zaU:zel:=zbT zey zdu 3
@[reducible] def zkp:DS:=(zF (zaB (dCall zaq (za (zc 0) (za (dCB zdz (za (zc 3) zm)) zm))) (zy 6))
  (zF (zaB (dOp dIx (zc 3) (zc 6)) (zy 7))
  (zF (zaB (dOp dIx (zc 3) (dOp zuG (dOp zbX (dOp zbX (zc 6) (dC (.int 1))) (dCall zaq (za (zc 0) (za (dOp zjZ (dCB zdz (za (zc 3) zm)) (dC (.int 1))) zm)))) (dCB zdz (za (zc 3) zm)))) (zy 8))
  (zF (zaB (zeJ (za (dCall zcI (za (zc 0) (za (zc 1) (za (zc 2) (za (zc 4) (za (zc 7) (za (zc 8) (za (zf2 zm) zm)))))))) zm)) (zy 9))
  (zF (zat (zK (dOp dEq (dCall zaq (za (zc 0) (za (dC (.int 4)) zm))) (dC (.int 1))))
  (zO (dBM "list" zW (zc 9) (za (dCall zcI (za (zc 0) (za (zc 1) (za (zc 2) (za (zc 4) (za (zc 7) (za (zc 8) (za (dCB zmi (za (dSl zb0 (dOp dIx (zc 9) (dC (.int 0))) (zb3 (dC (.int 1))) (zb3 (dUn zj6 (dC (.int 1))))) zm)) zm)))))))) zm)))
  zab)
  (zF (zaB (dOp dIx (zf2 (zph [12,8,20,24,10,30,15,40,60,12,120])) (dCall zaq (za (zc 0) (za (dC (.int 11)) zm)))) (zy 10))
  (zF (zaB (dOp zbX (dC (.int 1)) (dCall zaq (za (zc 0) (za (dCB znC (za (dC (.int 4)) (za (dOp zjZ (zc 10) (zc 5)) zm))) zm)))) (zy 11))
  (zF (zaB (dTup (za (dCall zav (za (zc 0) (za (zc 1) zm))) (za (dCB za8 (za (zc 9) zm)) (za (zc 10) (za (zc 11) (za (dCall zaq (za (zc 0) (za (zc 10) zm))) (za (dC (.int 0)) zm))))))) (zy 12))
  (zF (zaB (dOp dIx (zf2 (za (dC (.int 0)) (za (dC (.int 1)) (za (dC (.int 2)) (za (dOp zo8 (zc 10) (dC (.int 2))) (za (dC (.int 3)) (za (dOp zjZ (zc 10) (dC (.int 1))) (za (dC (.int 6)) zm)))))))) (dCall zaq (za (zc 0) (za (dC (.int 7)) zm)))) (zy 13))
  (zcu (dOp zbX (dSl zb0 (zc 12) zaP (zb3 (dC (.int 5)))) (dTup (za (dOp zbX (dCall zc8 (za (zc 12) (za (zc 2) (za (zc 5) zm)))) (zc 13)) zm)))))))))))))
def zdK:DSp:=zam zkp zkt 6
@[reducible] def zhO:DS:=(zO (zdx "Net" "put_node" za3 3 0 [.p 0, .p 1, .p 2] [] (zc 0) (za (zc 1) (za (dC (.str "house")) zm)) zm))
def zcC:DSp:=zam zhO zeP 2
@[reducible] def zgI(Ex:DXE):DS:=(zO (za4 "Net" "put_node" zaU Ex 3 0 [.p 0, .p 1, .p 2] [] (zc 0) (za (zc 1) (za (dC (.str "house")) zm)) zm))
def zbt:zel:=zbT zgI zeP 2
@[reducible] def zjC:DS:=(zO (zdx "Net" "put_node" za3 3 0 [.p 0, .p 1, .p 2] [] (zc 0) (za (zc 1) (za (dC (.str "gate")) zm)) zm))
def zc6:DSp:=zam zjC zf3 2
@[reducible] def zhN(Ex:DXE):DS:=(zO (za4 "Net" "put_node" zaU Ex 3 0 [.p 0, .p 1, .p 2] [] (zc 0) (za (zc 1) (za (dC (.str "gate")) zm)) zm))
def zbL:zel:=zbT zhN zf3 2
@[reducible] def zib:DS:=(zF (zaB (zeJ zm) (zy 2))
  (zF (zaB (zez ["_law_k"] [2,0] [0] (zec (za (dOp zbX (dC (.int 2)) (dCall zaq (za (zc 0) (za (dC (.int 3)) zm)))) zm)) (zy 0) zhr (dCall zav (za (zc 2) (za (zc 1) zm)))) (zy 3))
  (zF (zaB (zez ["_law_k"] [2,0] [0] (zec (za (dCall zaq (za (zc 0) (za (dC (.int 4)) zm))) zm)) (zy 0) zhr (dCall zav (za (zc 2) (za (zc 1) zm)))) (zy 4))
  (zF (zaB (dOp dIx (zf2 (zph [0,1,2,0,3,1,5,7])) (dCall zaq (za (zc 0) (za (dC (.int 8)) zm)))) (zy 5))
  (zF (zaB (zeJ zm) (zy 6))
  (zF (zaB (zez ["_law_k"] [4,3,6,2,0,5] [0] (zec (za (dOp zbX (dC (.int 1)) (dCall zaq (za (zc 0) (za (zc 1) zm)))) zm)) (zy 0) zhr (dCall zdK (za (zc 5) (za (zc 4) (za (zc 3) (za (zc 2) (za (zc 1) (za (zc 6) zm)))))))) (zy 7))
  (zcu (dTup (za (zc 3) (za (zc 4) (za (zc 6) (za (zc 7) (za (zc 5) (za (zc 2) zm))))))))))))))
def zcB:DSp:=zam zib zhR 2
@[reducible] def zjB(Ex:DXE):DS:=(zF (zaB (dCB za8 (za (zc 4) zm)) (zy 6))
  (zat (zK (dOp dEq (zc 0) (dC (.int 0))))
  (zO (za4 "Net" "line" zQ Ex 4 1 [.p 0, .p 1, .p 2, .p 3, .k 0] [] (zc 1) (za (zc 2) (za (dTup zm) (za (zc 6) zm))) (za (dC (.int 40)) zm)))
  (zat (zK (dOp dEq (zc 0) (dC (.int 1))))
  (zO (za4 "Net" "line" zQ Ex 4 0 [.p 0, .p 1, .p 2, .p 3, .c 0] [.int 1] (zc 1) (za (zc 2) (za (zc 6) (za (dOp zbX (dSl zb0 (zc 6) zaP (zb3 (dC (.int 1)))) (dSl zb0 (zc 6) zaP (zb3 (dC (.int 1))))) zm))) zm))
  (zat (zK (dOp dEq (zc 0) (dC (.int 2))))
  (zO (za4 "Net" "line" zQ Ex 4 1 [.p 0, .p 1, .p 2, .p 3, .k 0] [] (zc 1) (za (zc 2) (za (dOp zbX (zc 6) (dTup (za (zc 3) zm))) (za (dOp zbX (dTup (za (zc 5) zm)) (zc 6)) zm))) (za (dC (.int 31)) zm)))
  (zat (zK (dOp dEq (zc 0) (dC (.int 3))))
  (zO (za4 "Net" "line" zQ Ex 4 1 [.p 0, .p 1, .p 2, .p 3, .k 0] [] (zc 1) (za (zc 2) (za (zc 6) (za (dOp zbX (dTup (za (zc 5) zm)) (zc 6)) zm))) (za (dUn zj6 (dC (.int 1))) zm)))
  (zat (zK (dOp dEq (zc 0) (dC (.int 4))))
  (zO (za4 "Net" "line" zQ Ex 4 1 [.p 0, .p 1, .p 2, .p 3, .k 0] [] (zc 1) (za (zc 2) (za (zc 6) (za (zc 6) zm))) (za (dC (.int 31)) zm)))
  (zat (zK (dOp dEq (zc 0) (dC (.int 5))))
  (zO (za4 "Net" "line" zQ Ex 4 1 [.p 0, .p 1, .p 2, .p 3, .k 0] [] (zc 1) (za (zc 2) (za (zc 6) (za (zc 6) zm))) (za (dUn zj6 (dC (.int 1))) zm)))
  (zat (zK (dOp dEq (zc 0) (dC (.int 6))))
  (zO (za4 "Net" "line" zQ Ex 4 1 [.p 0, .p 1, .p 2, .p 3, .k 0] [] (zc 1) (za (zc 2) (za (zc 6) (za (zc 6) zm))) (za (dC (.bl true)) zm)))
  (zat (zK (dOp dEq (zc 0) (dC (.int 7))))
  (zO (za4 "Net" "line" zQ Ex 4 0 [.p 0, .p 1, .p 2, .p 3, .c 0] [.int 1] (zc 1) (za (zc 2) (za (dTup (za (zc 3) zm)) (za (dTup (za (zc 3) (za (zc 3) zm))) zm))) zm))
  (zO (za4 "Net" "line" zQ Ex 4 0 [.p 0, .p 1, .p 2, .p 3, .c 0] [.int 1] (zc 1) (za (zc 2) (za (dTup (za (dC (.str "a")) (za (dC (.str "b")) (za (dC (.str "c")) (za (dC (.str "d")) (za (dC (.str "e")) (za (dC (.str "f")) (za (dC (.str "g")) zm)))))))) (za (zc 6) zm))) zm)))))))))))
def zc3:zel:=zbT zjB zkQ 6
@[reducible] def zkn:DS:=(zF (zaB (zsk "Net" zce 1 0 [.p 0] [] zm zm) (zy 1))
  (zF (zix (zds (dOp dIx (zc 0) (dC (.int 0)))) (zy 2)
  (zO (zdx "Net" "house" zcC 2 0 [.p 0, .p 1] [] (zc 1) (za (zc 2) zm) zm)))
  (zF (zix (zds (dOp dIx (zc 0) (dC (.int 1)))) (zy 2)
  (zO (zdx "Net" "gate" zc6 2 0 [.p 0, .p 1] [] (zc 1) (za (zc 2) zm) zm)))
  (zF (zix (zds (dOp dIx (zc 0) (dC (.int 2)))) (ztX 4 (zfm (zy 2) (zfm (zy 3) (zfm (zy 4) (zfm (zy 5) zpp)))))
  (zO (zdx "Net" "line" zck 4 1 [.p 0, .p 1, .p 2, .p 3, .k 0] [] (zc 1) (za (zc 2) (za (dCB za8 (za (zc 3) zm)) (za (dCB za8 (za (zc 4) zm)) zm))) (za (zc 5) zm))))
  (zcu (zc 1))))))
def zcN:DSp:=zam zkn zkD 1
@[reducible] def zsU:DS:=(zF (zaB (dCall zgL (za (zc 0) zm)) (zy 1))
  (zF (zaB (dCall zcB (za (zc 1) (za (dC (.int 4)) zm))) (zy 2))
  (zF (zaB (dCall zcN (za (zc 2) zm)) (zy 3))
  (zF (zaB (dCall zcN (za (zc 2) zm)) (zy 4))
  (zF (zaB (dSl zb0 (dOp dIx (zc 2) (dC (.int 0))) zaP (zb3 (dC (.int 2)))) (zy 5))
  (zF (zaB (dCall zav (za (zc 1) (za (dOp dIx (zc 2) (dC (.int 5))) zm))) (zy 6))
  (zF (zaB (dCall zav (za (zc 1) (za (dOp dIx (zc 2) (dC (.int 5))) zm))) (zy 7))
  (zF (zaB (dOp dIx (dOp dIx (dOp dIx (zc 2) (dC (.int 2))) (dCall zaq (za (zc 1) (za (dCB zdz (za (dOp dIx (zc 2) (dC (.int 2))) zm)) zm)))) (dC (.int 0))) (zy 8))
  (zF (zaB (dCall zcF (za (zc 1) (za (zc 2) zm))) (ztX 2 (zfm (zy 9) (zfm (zy 10) zpp))))
  (zF (zaB (dCall zaq (za (zc 1) (za (dC (.int 15)) zm))) (zy 11))
  (zF (zaB (dOp dIx (zf2 (za (dC (.str "BadEnds")) (za (dC (.str "BadEnds")) (za (dC (.str "NoName")) (za (dC (.str "NoName")) (za (dC (.str "BadNumber")) (za (dC (.str "BadNumber")) (za (dC (.str "BadNumber")) (za (dC (.str "BadEnds")) (za (dC (.str "BadEnds")) (za (dC (.str "BadName")) (za (dC (.str "Taken")) (za (dC (.str "BadName")) (za (dC (.str "Taken")) (za (dC (.str "BadName")) (za (dC (.str "Taken")) zm)))))))))))))))) (zc 11)) (zy 12))
  (zF (zaB (dTup (za (dC (.str "none")) (za (dC (.str "")) zm))) (zy 13))
  (zF (zaB (zn0 (ztl [((dC (.int 2)),(zc 7)),((dC (.int 3)),(zc 8)),((dC (.int 10)),(zc 10)),((dC (.int 12)),(zc 10)),((dC (.int 14)),(zc 10))]) (zc 11) (dC (.str ""))) (zy 14))
  (zF (ztb [(zfx,zfr,15,(zaB (dTup (za (dC (.str "NoName")) (za (zfg zpd (zc 15)) zm))) (zy 13))),
  (zhb,zgM,15,(zaB (dTup (za (dC (.str "Taken")) (za (zfg zpd (zc 15)) zm))) (zy 13))),
  (zdM,zdL,15,(zaB (dTup (za (dCall zc4 (za (zc 15) zm)) (za (dC (.str "")) zm))) (zy 13)))] (fun Ex=>(zat (zK (dOp dLt (zc 11) (dC (.int 9))))
  (zO (zeZ zc3 Ex 6 0 [.p 0, .p 1, .p 2, .p 3, .p 4, .p 5] [] (za (zc 11) (za (zc 3) (za (zc 6) (za (zc 7) (za (zc 5) (za (zc 8) zm)))))) zm))
  (zat (dOr (zK (dOp dEq (zc 11) (dC (.int 9)))) (zK (dOp dEq (zc 11) (dC (.int 10)))))
  (zO (za4 "Net" "house" zbt Ex 2 0 [.p 0, .p 1] [] (zc 3) (za (dOp dIx (zf2 (za (zc 9) (za (zc 10) zm))) (dOp zjZ (zc 11) (dC (.int 9)))) zm) zm))
  (zat (dOr (zK (dOp dEq (zc 11) (dC (.int 11)))) (zK (dOp dEq (zc 11) (dC (.int 12)))))
  (zO (za4 "Net" "gate" zbL Ex 2 0 [.p 0, .p 1] [] (zc 3) (za (dOp dIx (zf2 (za (zc 9) (za (zc 10) zm))) (dOp zjZ (zc 11) (dC (.int 11)))) zm) zm))
  (zO (za4 "Net" "line" zQ Ex 4 1 [.p 0, .p 1, .p 2, .p 3, .k 0] [] (zc 3) (za (dOp dIx (zf2 (za (zc 9) (za (zc 10) zm))) (dOp zjZ (zc 11) (dC (.int 13)))) (za (dTup zm) (za (dTup zm) zm))) (za (dC (.int 99)) zm))))))))
  (zF (zat (dOr (zK (dOp dNe (zc 13) (dTup (za (zc 12) (za (zc 14) zm))))) (dOr (ziI (zK (dOp (zpN "Net" zaJ) (zc 3) (zc 4)))) (zK (dOp dNe (zdx "Net" "names" zbE 1 0 [.p 0] [] (zc 3) zm zm) (zdx "Net" "names" zbE 1 0 [.p 0] [] (zc 4) zm zm)))))
  (zcu (dC (.bl false)))
  zab)
  (zF (zO (zdx "Net" "line" zck 4 1 [.p 0, .p 1, .p 2, .p 3, .k 0] [] (zc 3) (za (zc 6) (za (dCB za8 (za (zc 5) zm)) (za (dCB za8 (za (zc 5) zm)) zm))) (za (dC (.int 30)) zm)))
  (zcu (zjh (dOp dEq (zdx "Net" "ends" zcY 2 0 [.p 0, .p 1] [] (zc 3) (za (zc 6) zm) zm) (dTup (za (dCB za8 (za (dCB zdn (za (zc 5) zm)) zm)) (za (dCB za8 (za (dCB zdn (za (zc 5) zm)) zm)) (za (dC (.int 30)) zm))))) (zoW (dOp (zpN "Net" zaJ) (zc 3) (zc 4)))))))))))))))))))))
local macro_rules | `(tactic| rw_mod_cast [$rs,*])=>do
 let ts:Array (Lean.TSyntax `term):=rs.getElems.map fun r=>⟨r.raw[1]⟩
 let ids:Array (Lean.TSyntax `term):=(("zF zaB zc dC dOp dUn zxX zrS dOr ziI zjh zzJ zoW dIf ztJ zxt zxK zru zm za zph dTup zf2 zeJ zab zxf zyE zO zcu zyh zat zcW zy zpp ztO zwl zyC zsE zzP zgQ zyG zrv zqH zsr zq8 zix dCall dCB zez zvX zxd zuR zw4 ztT zzb zxb zds zv4 zyc zwK zyK zqe zhL zqk dSl zaP zwb ze0 zyy zhr zyl ztF zuN dBM zzC zte zxL zwv zyX zt6 zyL zy0 zvy zw7 zrq zv6 zup zjZ zo8 zuG zzL dLt dGt dLe dGe zzf zyW zzR e_i zyd zyq zxP zvC zvE zzj zyg zxE zwQ zxe zwt zvm zuH zrJ ztm znb zsl zsH zyo zxH zwm zxr zx0 zwA zwE zxu zoi zmS zqy znV zk6 zzS zu2 zp7 zqA zpw zq0 zpx zpM zob Nat.reduceAdd Int.cast_ofNat_Int Int.reduceEq decide_true decide_false List.all_cons List.all_nil List.any_cons List.any_nil id_eq Bool.and_true Bool.true_and Bool.or_false zoh zmN zmr zli zmE zlf zmo zlP zkb zlD zwH zuT zxc zeZ za4 zer zzF zjO zw3 zws zyb zx3 zsz zti zly zwy zx7 zuU zt9 zua ziy zyR zwI ztW zct zzu zts zfA zgo zxg zpC zdx zsk zuP zvt zlU zlF zk9 zlG zhk zgj zmJ zmX zlu zmg zlM zit sel pick List.getD_cons_zero List.getD_cons_succ beq_self_eq_true Bool.and_self cond_true zoH zuc zv0 zt2 zhw ends zhh zA zq9 zsy zvT zvS zvs zwW zx4 zv9 zwk zxx ztk List.length_cons List.length_nil List.map_cons List.map_nil List.set_cons_zero List.set_cons_succ List.getElem?_cons_zero List.getElem?_cons_succ List.cons_append List.nil_append List.replicate Option.join_some Option.join_none true_and and_true if_true Bool.true_eq_false Bool.false_eq_true if_false Bool.not_true Bool.not_false".splitOn " ").map fun s=>(⟨Lean.mkIdent s.toName⟩:Lean.TSyntax `term)).toArray
 let all:=ids++ts
 `(tactic| simp only[↓zvl, ↓zty, ↓zue, ↓ztx, ↓zpQ, ↓zqa, ↓zp2, ↓zql, $[$all:term],*])
local macro_rules | `(tactic| walk_at "e")=> `(tactic| rw_mod_cast [])
local macro_rules | `(tactic| walk_at "x")=> `(tactic| repeat' first | exact zzB | exact zuV | exact zwi rfl | with_reducible apply ztq | with_reducible apply zyF | exact zhF zq9 | exact zhF zsy | exact zhF zvT | exact zhF zvS | exact zhF zvs | exact zhF zvt | exact zs6 zq9 | exact zs6 zsy | exact zxN | exact zxF | apply zuD | with_reducible apply zv7 | with_reducible apply zx9 | with_reducible apply zyS | exact zpB | with_reducible apply zxI | with_reducible apply zxY | with_reducible apply zxy | with_reducible apply zxw | with_reducible apply zxh | with_reducible apply zrb | with_reducible apply zsq | with_reducible apply zqY | with_reducible apply zso | with_reducible apply zrG | (show _≠[];simp;done) | (show _ < List.length _;simp;done) | (show List.length _<=1000;simp;done) | (show List.length _+List.length _<=1000;simp;done))
def letters:Str:="abcdefghijklmnopqrstuvwxyz"
theorem zmR:∀i:_root_.Fin 26,letters.cps.toList[i.val]? = some (97+i.val):=by decide+kernel
theorem ziW{v:Int}(h0:0<=v)(h1:v < 26):atI letters.cps.toList v=some (97+v.toNat):=by
 have h:=zc2 (zmR ⟨v.toNat,by omega⟩);rw[show((v.toNat:Nat):Int)=v by omega] at h;exact h
def zbI(k:Nat):Str:=⟨(List.replicate (1+k / 26) (97+k % 26)).toArray⟩
def zhB:List Str:=(List.range 104).map zbI
theorem zio:zhB.Nodup:=by decide+kernel
theorem zmf:∀k:_root_.Fin 104,((zbI k.val).cps.toList.length<=8/\1<=(zbI k.val).cps.toList.length)/\(zbI k.val).cps.toList.all (fun c=>decide (97<=c/\c<=122))=true:=by decide+kernel
theorem zps{ns:List Str}(h:ns.length < 104)(all:∀k,k < 104->zbI k∈ns):False:=by
 have hs:zhB ⊆ ns:=fun x hx=>by
  obtain⟨k,hk,rfl⟩:=List.mem_map.mp hx;exact all k (List.mem_range.mp hk)
 have:=List.Nodup.length_le_of_subset zio hs;have e:zhB.length=104:=by decide+kernel
 omega
theorem zme{s:Nat}{ds:List D}{μ:Mu}{Q:DK}(hs:μ s=some .draw)(h0:ds≠[])(hl:ds.length<=1000)(q:∀(i:Nat) d,ds[i]? = some d->Q d μ):zbu [.cell s, .lst ds] μ Q:=by
 have hp:0 < ds.length:=List.length_pos_iff.mpr h0;refine⟨rfl,?_⟩;walk_at "e"
 refine⟨hs,by omega,by omega,fun v v0 v1=>?_⟩;obtain⟨d,e1,e2⟩:=zhm v0 v1;rw_mod_cast [e1];exact⟨_, .refl _,q _ d e2⟩
theorem zhn(cs:List Nat):(Str.join (Str.ofString "") (cs.map fun c=>(⟨#[c]⟩:Str))).cps.toList=cs:=by
 show(Str.join Str.empty (cs.map fun c=>(⟨#[c]⟩:Str))).cps.toList=cs;rw[zfa,List.map_map];induction cs with
 | nil=>rfl
 | cons c r ih=>rw[List.map_cons,List.flatten_cons,ih];rfl
theorem zlB(cs:List Nat):zg4 (cs.map fun c=>(⟨#[c]⟩:Str))=cs.length+cs.length:=by
 unfold zg4;rw[List.map_map,List.length_map];congr 1
 induction cs with
 | nil=>rfl
 | cons c r ih=>rw[List.map_cons,List.sum_cons,ih,List.length_cons];show 1+r.length=_;omega
theorem zgV{s na:Nat}{ns:List Str}{μ:Mu}{Q:DK}(hs:μ s=some .draw)(hn:μ na=some (.lst (ns.map D.str)))(hl:ns.length < 100)(q:∀x,Nm x->x∉ns->Q (.str x) (zV μ na (.lst ((ns++[x]).map D.str)))):zav [.cell s, .cell na] μ Q:=by
 have hz:(200:Nat)<=sizeLine:=by decide
 have el:(Str.ofString "abcdefghijklmnopqrstuvwxyz")=letters:=rfl;have ll:letters.length<=sizeLine:=by decide
 refine⟨rfl,stp fun N1 h1=>?_⟩;walk_at "e"
 refine h1 _ _ (zmO (fun ρ μ'=>∃x3 x4 x5,ρ=[some (.cell s),some (.cell na),some (.str letters),x3,x4,x5,none]/\μ'=μ) (fun N hN=>?_) ?_)
 .walk_at "e"
  refine⟨by decide,by decide,?_⟩;refine zbF (fun i ρ μ'=>∃x3 x4 x5,ρ=[some (.cell s),some (.cell na),some (.str letters),x3,x4,x5,none]/\μ'=μ) ⟨_,_,_,rfl,rfl⟩ ?_ (fun ρ μ' h=>hN _ _ h);rintro i d ρ μ' hd ⟨x3,x4,x5,rfl,rfl⟩ M hM;refine stp fun M1 g1=>?_
  walk_at "e"
  refine⟨hs,by decide,by decide,fun v v0 v1=>g1 _ _ (zmO (fun ρ μ2=>∃x3 x5 size,ρ=[some (.cell s),some (.cell na),some (.str letters),x3,some (.int size),x5,none]/\μ2=μ'/\1<=size/\size<=8) (fun N hN=>?_) ?_)⟩
  .walk_at "e"
   split
   .exact⟨hs,by decide,by decide,fun v v0 v1=>hN _ _ ⟨_,_,_,rfl,rfl,by omega,by omega⟩⟩
   .exact hN _ _ ⟨_,_,_,rfl,rfl,by omega,by omega⟩
  rintro ρ μ2 ⟨y3,y5,size,rfl,rfl,z1,z8⟩;refine stp fun M2 g2=>?_
  walk_at "e"
  refine⟨by decide,by omega,by omega,?_⟩;refine zdm (fun i ys μ3=>μ3=μ2/\∃cs:List Nat,ys=(cs.map fun c=>(⟨#[c]⟩:Str)).map D.str/\cs.length=i/\∀c∈cs,97<=c/\c<=122) ⟨rfl,[],rfl,rfl,fun c hc=>by cases hc⟩ ?_ ?_
  .rintro i d ys μ3 hd ⟨rfl,cs,rfl,hc,hcs⟩;obtain⟨hi,rfl⟩:=zcJ hd;refine⟨by rw[List.length_map,List.length_map];omega,fun N hN=>?_⟩;walk_at "e"
   refine⟨hs,by decide,by decide,fun v v0 v1=>?_⟩;rw_mod_cast [ziW v0 v1];refine⟨ll,hN _ _ ⟨rfl,cs++[97+v.toNat],by rw[List.map_append,List.map_append];rfl,by rw[List.length_append,hc];rfl,fun c h=>?_⟩⟩;rcases List.mem_append.mp h with h | h
   .exact hcs c h
   .rw[List.mem_singleton.mp h];omega
  rintro ys μ3 ⟨rfl,cs,rfl,hc,hcs⟩;rw[zbG] at hc;refine⟨cs.map fun c=>(⟨#[c]⟩:Str),rfl,by decide,by rw[zlB];omega,g2 _ _ ?_⟩;have nm:Nm (Str.join (Str.ofString "") (cs.map fun c=>(⟨#[c]⟩:Str))):=⟨by rw[zhn];omega,by rw[zhn];omega,by rw[zhn];exact hcs⟩;generalize Str.join (Str.ofString "") (cs.map fun c=>(⟨#[c]⟩:Str))=x at nm
  rw_mod_cast [zdd hn,Bool.true_xor];split
  .rename_i c;have c':x∉ns:=by simpa using c
   rw_mod_cast [hn];refine⟨by rw[List.length_map];omega,_, .refl _,?_⟩;have:=q x nm c';rw[List.map_append] at this;exact this
  .exact hM _ _ ⟨_,_,_,rfl,rfl⟩
 rintro ρ μ' ⟨x3,x4,x5,rfl,rfl⟩;refine stp fun M1 g1=>?_
 walk_at "e"
 refine⟨by decide,by decide,?_⟩;refine zbF (fun i ρ μ2=>∃x5 x6,ρ=[some (.cell s),some (.cell na),some (.str letters),x3,x4,x5,x6]/\μ2=μ'/\∀k,k < i->zbI k∈ns) ⟨_,_,rfl,rfl,fun k hk=>absurd hk (Nat.not_lt_zero k)⟩ ?_ ?_
 .rintro j d ρ μ2 hd ⟨x5,x6,rfl,rfl,hb⟩ M hM;obtain⟨hj,rfl⟩:=zcJ hd;have hj':j < 104:=hj;refine stp fun M2 g2=>?_
  have e0:(0:Int)+(j:Int)=j:=by omega
  rw[e0];rw_mod_cast [ziW (v:=(j:Int) % 26) (by omega) (by omega)];refine⟨by decide,ll,⟨by decide,by decide⟩,by omega,by omega,fun y hy=>g2 _ _ ?_⟩;have ex:y=zbI j:=zu4 (by
   rw[hy];show List.replicate (1+(j:Int) / 26).toNat (97+((j:Int) % 26).toNat)=List.replicate (1+j / 26) (97+j % 26);congr 1<;>omega)
  subst ex;have nm:Nm (zbI j):=by
   obtain⟨⟨h8,h1⟩,ha⟩:=zmf ⟨j,hj'⟩;exact⟨h1,h8,fun c hc=>of_decide_eq_true (List.all_eq_true.mp ha c hc)⟩
  rw_mod_cast [zdd hn,Bool.true_xor];split
  .rename_i c;have c':zbI j∉ns:=by simpa using c
   rw_mod_cast [hn];refine⟨by rw[List.length_map];omega,_, .refl _,?_⟩;have:=q _ nm c';rw[List.map_append] at this;exact this
  .rename_i c;have c':zbI j∈ns:=by simpa using c
   refine hM _ _ ⟨_,_,rfl,rfl,fun k hk=>?_⟩;by_cases e:k=j
   .rw[e];exact c'
   .exact hb k (by omega)
 .rintro ρ μ2 ⟨x5,x6,rfl,rfl,hb⟩;rw[zbG] at hb;exact(zps (by omega) hb).elim
set_option synthInstance.maxHeartbeats 4000000
set_option synthInstance.maxSize 100000
set_option maxHeartbeats 4000000
def zbm(r:LR):D:= .lst [.str r.nm, .cell r.sa, .cell r.ea, .int r.w]
structure WD(μ:Mu)(s na la:Nat)(ns:List Str)(ls:List LR):Prop where
 ds:μ s=some .draw
 dn:μ na=some (.lst (ns.map D.str))
 dl:μ la=some (.lst (ls.map zbm))
 nl:na≠la
 rs:∀r∈ls,μ r.sa=some (.lst (r.S.map D.str))/\μ r.ea=some (.lst (r.E.map D.str))
 ap:∀r∈ls,r.sa≠na/\r.sa≠la/\r.ea≠na/\r.ea≠la
 nd:∀(i j:Nat) (r r':LR),ls[i]? = some r->ls[j]? = some r'->(r.sa=r'.sa->i=j)/\(r.ea=r'.ea->i=j)/\r.sa≠r'.ea
def zbO(na la:Nat)(μ:Mu)(ls:List LR)(μ':Mu)(ls':List LR):Prop:=∀k c,μ k=some c->k≠na->k≠la->(∀r∈ls,k≠r.sa/\k≠r.ea)->μ' k=some c/\∀r∈ls',k≠r.sa/\k≠r.ea
theorem zbO.refl{na la:Nat}{μ:Mu}{ls:List LR}:zbO na la μ ls μ ls:=fun _ _ e _ _ h=>⟨e,h⟩
theorem zbO.trans{na la:Nat}{μ μ1 μ2:Mu}{ls ls1 ls2:List LR}(a:zbO na la μ ls μ1 ls1)(b:zbO na la μ1 ls1 μ2 ls2):zbO na la μ ls μ2 ls2:=fun k c e h1 h2 h3=>by
 obtain⟨e1,n1⟩:=a k c e h1 h2 h3;exact b k c e1 h1 h2 n1
theorem WD.sna{μ:Mu}{s na la:Nat}{ns:List Str}{ls:List LR}(W:WD μ s na la ns ls):s≠na:=fun z=>by have:=W.ds;rw[z,W.dn] at this;cases this
theorem WD.sla{μ:Mu}{s na la:Nat}{ns:List Str}{ls:List LR}(W:WD μ s na la ns ls):s≠la:=fun z=>by have:=W.ds;rw[z,W.dl] at this;cases this
theorem WD.names{μ:Mu}{s na la:Nat}{ns ns':List Str}{ls:List LR}(W:WD μ s na la ns ls):WD (zV μ na (.lst (ns'.map D.str))) s na la ns' ls where
 ds:=by rw[zq W.sna];exact W.ds
 dn:=zA
 dl:=by rw[zq (Ne.symm W.nl)];exact W.dl
 nl:=W.nl
 rs:=fun r hr=>by
  obtain⟨a1,a2,a3,a4⟩:=W.ap r hr;rw[zq a1,zq a3];exact W.rs r hr
 ap:=W.ap
 nd:=W.nd
theorem zbO.names{na la:Nat}{μ:Mu}{ls:List LR}{c:Ct}:zbO na la μ ls (zV μ na c) ls:=fun k c e h1 h2 h3=>⟨by rw[zq h1];exact e,h3⟩
theorem WD.cell{μ:Mu}{s na la k:Nat}{ns:List Str}{ls:List LR}{c:Ct}(W:WD μ s na la ns ls)(hk:μ k=none):WD (zV μ k c) s na la ns ls where
 ds:=by rw[zq (fun z=>by have:=W.ds;rw[z,hk] at this;cases this)];exact W.ds
 dn:=by rw[zq (fun z=>by have:=W.dn;rw[z,hk] at this;cases this)];exact W.dn
 dl:=by rw[zq (fun z=>by have:=W.dl;rw[z,hk] at this;cases this)];exact W.dl
 nl:=W.nl
 rs:=fun r hr=>by
  obtain⟨a1,a2⟩:=W.rs r hr;rw[zq (fun z=>by rw[z,hk] at a1;cases a1),zq (fun z=>by rw[z,hk] at a2;cases a2)];exact⟨a1,a2⟩
 ap:=W.ap
 nd:=W.nd
theorem zma{ls:List LR}{r:LR}(h:r∈ls):∃i:Nat,ls[i]? = some r:=List.getElem?_of_mem h
theorem WD.line{μ:Mu}{s na la k1 k2:Nat}{ns:List Str}{ls:List LR}{x:Str}{S E:List Str}{w:Int}{a0:Addr}(W:WD μ s na la ns ls)(h1:μ k1=some (.lst (S.map D.str)))(h2:μ k2=some (.lst (E.map D.str)))(n12:k1≠k2)
  (f1:k1≠na/\k1≠la/\∀r∈ls,k1≠r.sa/\k1≠r.ea)(f2:k2≠na/\k2≠la/\∀r∈ls,k2≠r.sa/\k2≠r.ea):WD (zV μ la (.lst ((ls++[(⟨a0,k1,k2,x,S,E,w⟩:LR)]).map zbm))) s na la ns (ls++[(⟨a0,k1,k2,x,S,E,w⟩:LR)]) where
 ds:=by rw[zq W.sla];exact W.ds
 dn:=by rw[zq W.nl];exact W.dn
 dl:=zA
 nl:=W.nl
 rs:=fun r hr=>by
  rcases List.mem_append.mp hr with hr | hr
  .obtain⟨a1,a2,a3,a4⟩:=W.ap r hr;rw[zq a2,zq a4];exact W.rs r hr
  .rw[List.mem_singleton.mp hr];exact⟨by rw[zq f1.2.1];exact h1,by rw[zq f2.2.1];exact h2⟩
 ap:=fun r hr=>by
  rcases List.mem_append.mp hr with hr | hr
  .exact W.ap r hr
  .rw[List.mem_singleton.mp hr];exact⟨f1.1,f1.2.1,f2.1,f2.2.1⟩
 nd:=fun i j r r' hi hj=>by
  have key:∀{i:Nat} {r:LR},(ls++[(⟨a0,k1,k2,x,S,E,w⟩:LR)])[i]? = some r->ls[i]? = some r\/(i=ls.length/\r=⟨a0,k1,k2,x,S,E,w⟩):=fun{i r} h=>by
   by_cases hl:i < ls.length
   .rw[List.getElem?_append_left hl] at h;exact .inl h
   .rw[List.getElem?_append_right (by omega)] at h;by_cases e:i - ls.length=0
    .rw[e] at h;cases h;exact .inr ⟨by omega,rfl⟩
    .rw[List.getElem?_eq_none (by simp;omega)] at h;cases h
  rcases key hi with a | ⟨a,rfl⟩<;>rcases key hj with b | ⟨b,rfl⟩
  .exact W.nd i j r r' a b
  .obtain⟨p1,p2⟩:=f1.2.2 r (List.mem_of_getElem? a);obtain⟨p3,p4⟩:=f2.2.2 r (List.mem_of_getElem? a);exact⟨fun z=>absurd z.symm p1,fun z=>absurd z.symm p4,fun z=>p3 z.symm⟩
  .obtain⟨p1,p2⟩:=f1.2.2 r' (List.mem_of_getElem? b);obtain⟨p3,p4⟩:=f2.2.2 r' (List.mem_of_getElem? b);exact⟨fun z=>absurd z p1,fun z=>absurd z p4,fun z=>p2 z⟩
  .exact⟨fun _=>by omega,fun _=>by omega,n12⟩
theorem zlE{ls:List LR}{i:Nat}{r r':LR}(hr:ls[i]? = some r)(h:zbm r'=zbm r):(ls.set i r').map zbm=ls.map zbm:=by
 rw[List.map_set,h];apply List.ext_getElem?;intro j;by_cases e:i=j
 .subst e;rw[List.getElem?_set_self (by rw[List.length_map];exact(List.getElem?_eq_some_iff.mp hr).1),List.getElem?_map,hr];rfl
 .rw[List.getElem?_set_ne e]
theorem WD.ends{μ μ':Mu}{s na la i:Nat}{ns:List Str}{ls:List LR}{r:LR}{S E:List Str}(W:WD μ s na la ns ls)(hr:ls[i]? = some r)(h1:μ' r.sa=some (.lst (S.map D.str)))(h2:μ' r.ea=some (.lst (E.map D.str)))(ho:∀k,k≠r.sa->k≠r.ea->μ' k=μ k):WD μ' s na la ns (ls.set i { r with S:=S,E:=E }):=by
 have hm:=List.mem_of_getElem? hr;obtain⟨a1,a2,a3,a4⟩:=W.ap r hm;obtain⟨b1,b2⟩:=W.rs r hm;have key:∀{j:Nat} {q:LR},(ls.set i { r with S:=S,E:=E })[j]? = some q->(j=i/\q={ r with S:=S,E:=E })\/(j≠i/\ls[j]? = some q):=fun{j q} h=>by
  by_cases e:i=j
  .subst e;rw[List.getElem?_set_self (List.getElem?_eq_some_iff.mp hr).1] at h;cases h;exact .inl ⟨rfl,rfl⟩
  .rw[List.getElem?_set_ne e] at h;exact .inr ⟨fun z=>e z.symm,h⟩
 refine⟨?_,?_,?_,W.nl,?_,?_,?_⟩
 .rw[ho s (fun z=>by have:=W.ds;rw[z,b1] at this;cases this) (fun z=>by have:=W.ds;rw[z,b2] at this;cases this)];exact W.ds
 .rw[ho na (Ne.symm a1) (Ne.symm a3)];exact W.dn
 .rw[ho la (Ne.symm a2) (Ne.symm a4),zlE (r':={ r with S:=S,E:=E }) hr rfl];exact W.dl
 .intro q hq;obtain⟨j,hj⟩:=zma hq;rcases key hj with⟨rfl,rfl⟩ | ⟨hne,hj'⟩
  .exact⟨h1,h2⟩
  .obtain⟨c1,c2,c3⟩:=W.nd j i q r hj' hr;obtain⟨d1,d2,d3⟩:=W.nd i j r q hr hj';rw[ho q.sa (fun z=>hne (c1 z)) c3,ho q.ea (Ne.symm d3) (fun z=>hne (c2 z))];exact W.rs q (List.mem_of_getElem? hj')
 .intro q hq;obtain⟨j,hj⟩:=zma hq;rcases key hj with⟨rfl,rfl⟩ | ⟨hne,hj'⟩
  .exact⟨a1,a2,a3,a4⟩
  .exact W.ap q (List.mem_of_getElem? hj')
 .intro j j' q q' hj hj';rcases key hj with⟨rfl,rfl⟩ | ⟨hne,hj1⟩<;>rcases key hj' with⟨rfl,rfl⟩ | ⟨hne',hj2⟩
  .exact⟨fun _=>rfl,fun _=>rfl,(W.nd _ _ r r hr hr).2.2⟩
  .exact W.nd _ j' r q' hr hj2
  .exact W.nd j _ q r hj1 hr
  .exact W.nd j j' q q' hj1 hj2
set_option synthInstance.maxHeartbeats 4000000
set_option synthInstance.maxSize 100000
set_option maxHeartbeats 4000000
theorem ztC{c:DT}{t u:DS}{D0:zba}{ρ:zag}{μ:Mu}(P:Bool->Mu->Prop)(hc:∀R:Bool->Mu->Prop,(∀b μ1,P b μ1->R b μ1)->c ρ μ R)(h:∀b μ1,P b μ1->if b=true then t D0 ρ μ1 else u D0 ρ μ1):zat c t u D0 ρ μ:=hc _ h
theorem zth{s na la:Nat}{ns bd:List Str}{ls:List LR}{one two:Str}{μ:Mu}{Q:DK}(W:WD μ s na la ns ls)(hn:ns.length < 100)(h14:ls.length<=14)(hfit:ls.length=14->∃r∈ls,zeF one bd r=true/\zfW two r=true)(h6:∀r∈ls,r.S.length<=6/\r.E.length<=6)
  (q:∀x μ' ns' ls',WD μ' s na la ns' ls'->zbO na la μ ls μ' ls'->zqM one two bd ns ls x ns' ls'->Q (.str x) μ'):zcO [.cell s, .cell na, .cell la, .str one, .str two, .lst (bd.map D.str)] μ Q:=by
 have hz:(200:Nat)<=sizeLine:=by decide
 refine⟨rfl,stp fun N1 h1=>?_⟩;rw_mod_cast [W.dl];refine⟨by decide,zc1 ls zbm (zeF one bd) zbm (by omega) (fun r hr Y Z hY hZ=>?_) (h1 _ _ (stp fun N2 h2=>?_)) W.dl⟩
 .obtain⟨r1,r2⟩:=W.rs r hr;unfold zbm at hY ⊢;rw_mod_cast [zk2,zdd r1,r1,List.length_map,Bool.true_xor,Bool.false_xor];unfold zeF at hY hZ;by_cases c1:r.nm∈bd
  .rw_mod_cast [decide_eq_true c1];exact hZ (by simp[c1])
  .rw_mod_cast [decide_eq_false c1];by_cases c2:one∈r.S
   .rw_mod_cast [decide_eq_true c2];exact hY (by simp[c1,c2])
   .rw_mod_cast [decide_eq_false c2];by_cases c3:r.S.length < 6
    .rw_mod_cast [show decide ((r.S.length:Int) < 6)=true from decide_eq_true (by omega)];exact hY (by simp[c1,c3])
    .rw_mod_cast [show decide ((r.S.length:Int) < 6)=false from decide_eq_false (by omega)];exact hZ (by simp[c2,c3])
 walk_at "e"
 have hl1:(ls.filter (zeF one bd)).length<=ls.length:=List.length_filter_le _ _;refine⟨by decide,zc1 (ls.filter (zeF one bd)) zbm (zfW two) zbm (by omega) (fun r hr Y Z hY hZ=>?_) (h2 _ _ (stp fun N3 h3=>?_)) trivial⟩
 .obtain⟨r1,r2⟩:=W.rs r (List.mem_filter.mp hr).1;unfold zbm at hY ⊢;rw_mod_cast [zdd r2,r2,List.length_map,Bool.false_xor];unfold zfW at hY hZ;by_cases c2:two∈r.E
  .rw_mod_cast [decide_eq_true c2];exact hY (by simp[c2])
  .rw_mod_cast [decide_eq_false c2];by_cases c3:r.E.length < 6
   .rw_mod_cast [show decide ((r.E.length:Int) < 6)=true from decide_eq_true (by omega)];exact hY (by simp[c3])
   .rw_mod_cast [show decide ((r.E.length:Int) < 6)=false from decide_eq_false (by omega)];exact hZ (by simp[c2,c3])
 generalize hfl:(ls.filter (zeF one bd)).filter (zfW two)=fl
 have hfm:∀r∈fl,r∈ls/\zeF one bd r=true/\zfW two r=true:=fun r hr=>by
  rw[<- hfl] at hr;obtain⟨a,b⟩:=List.mem_filter.mp hr;obtain⟨c,d⟩:=List.mem_filter.mp a;exact⟨c,d,b⟩
 have hfn:ls.length=14->fl≠[]:=fun e z=>by
  obtain⟨r,hr,f1,f2⟩:=hfit e;have:r∈fl:=by rw[<- hfl];exact List.mem_filter.mpr ⟨List.mem_filter.mpr ⟨hr,f1⟩,f2⟩
  rw[z] at this;cases this
 have hfl14:fl.length<=14:=by rw[<- hfl];exact Nat.le_trans (List.length_filter_le _ _) (Nat.le_trans hl1 h14)
 have new:ls.length < 14->zF (zO (dBM "list" zW (zc 2) (za (zf2 (za (dCall zav (za (zc 0) (za (zc 1) zm))) (za (zeJ (za (zc 3) zm)) (za (zeJ (za (zc 4) zm)) (za (dCall zaq (za (zc 0) (za (dC (.int 4)) zm))) zm))))) zm)))
  (zcu (dOp dIx (dOp dIx (zc 2) (dUn zj6 (dC (.int 1)))) (dC (.int 0)))) { (ends Q) with nx:=N3 } [some (.cell s),some (.cell na),some (.cell la),some (.str one),some (.str two),some (.lst (bd.map D.str)),some (.lst (fl.map zbm)),none] μ:=by
  intro hlt;refine stp fun M1 g1=>?_
  rw_mod_cast [W.dl];refine zgV W.ds W.dn hn fun x nm hx=>?_
  refine⟨by decide,fun k1 hk1=>⟨by decide,fun k2 hk2=>?_⟩⟩;have W1:WD _ s na la (ns++[x]) ls:=W.names (ns':=ns++[x]);have W2:WD _ s na la (ns++[x]) ls:=W1.cell (c:= .lst [.str one]) hk1;have W3:WD _ s na la (ns++[x]) ls:=W2.cell (c:= .lst [.str two]) hk2;refine⟨W3.ds,by decide,by decide,fun w w0 w1=>⟨by decide,?_⟩⟩;rw[W3.dl];walk_at "e"
  refine⟨by rw[List.length_map];omega,g1 _ _ ?_⟩;have n1:∀k c,μ k=some c->k1≠k:=fun k c e z=>by
   subst z;by_cases e2:k1=na
   .subst e2;rw[zA] at hk1;cases hk1
   .rw[zq e2,e] at hk1;cases hk1
  have n12:k1≠k2:=fun z=>by subst z;rw[zA] at hk2;cases hk2
  have n2:∀k c,μ k=some c->k2≠k:=fun k c e z=>by
   subst z;rw[zq (Ne.symm n12)] at hk2;by_cases e2:k2=na
   .subst e2;rw[zA] at hk2;cases hk2
   .rw[zq e2,e] at hk2;cases hk2
  have WL:=W3.line (x:=x) (S:=[one]) (E:=[two]) (w:=w) (a0:=0) (k1:=k1) (k2:=k2) (by rw[zq n12,zA];rfl) (by rw[zA];rfl) n12 ⟨n1 _ _ W.dn,n1 _ _ W.dl,fun r hr=>⟨n1 _ _ (W.rs r hr).1,n1 _ _ (W.rs r hr).2⟩⟩ ⟨n2 _ _ W.dn,n2 _ _ W.dl,fun r hr=>⟨n2 _ _ (W.rs r hr).1,n2 _ _ (W.rs r hr).2⟩⟩;have eL:List.map zbm (ls++[({ a:=0,sa:=k1,ea:=k2,nm:=x,S:=[one],E:=[two],w:=w }:LR)])=ls.map zbm++[.lst [.str x, .cell k1, .cell k2, .int w]]:=by rw[List.map_append];rfl
  rw[eL] at WL;rw_mod_cast [zm6];refine⟨_, .refl _,q x _ _ _ WL ?_ (.new 0 k1 k2 w hx nm hlt w0 w1)⟩;intro k c e hna hla hr;refine⟨?_,fun r hr'=>?_⟩
  .rw[zq hla,zq (fun z=>n2 k c e z.symm),zq (fun z=>n1 k c e z.symm),zq hna];exact e
  .rcases List.mem_append.mp hr' with hr' | hr'
   .exact hr r hr'
   .rw[List.mem_singleton.mp hr'];exact⟨fun z=>n1 k c e z.symm,fun z=>n2 k c e z.symm⟩
 have old:fl≠[]->N3 [some (.cell s),some (.cell na),some (.cell la),some (.str one),some (.str two),some (.lst (bd.map D.str)),some (.lst (fl.map zbm)),none] μ:=by
  intro hne;refine h3 _ _ (stp fun M1 g1=>?_);walk_at "e"
  refine zme W.ds (by simpa using hne) (by rw[List.length_map];omega) fun i d hd=>?_
  rw[List.getElem?_map] at hd;cases hr:fl[i]? with
  | none=>rw[hr] at hd;cases hd
  | some r =>
   rw[hr] at hd;cases hd;obtain⟨hm,f1,f2⟩:=hfm r (List.mem_of_getElem? hr);obtain⟨j,hj⟩:=zma hm;obtain⟨r1,r2⟩:=W.rs r hm;obtain⟨c1,c2,c3⟩:=W.nd j j r r hj hj;obtain⟨l1,l2⟩:=h6 r hm;unfold zbm;refine g1 _ _ (zmO (fun ρ μ'=>ρ=[some (.cell s),some (.cell na),some (.cell la),some (.str one),some (.str two),some (.lst (bd.map D.str)),some (.lst (fl.map zbm)),some (.lst [.str r.nm, .cell r.sa, .cell r.ea, .int r.w])]/\μ' r.sa=some (.lst ((za5 one r.S).map D.str))/\∀k,k≠r.sa->μ' k=μ k) (fun N hN=>?_) ?_)
   .rw_mod_cast [zdd r1,Bool.true_xor];by_cases c:one∈r.S
    .rw_mod_cast [decide_eq_true c];exact hN _ _ ⟨rfl,by rw[za5,if_pos c];exact r1,fun _ _=>rfl⟩
    .rw_mod_cast [decide_eq_false c,r1];refine⟨by rw[List.length_map];omega,hN _ _ ⟨rfl,?_,fun k hk=>zq hk⟩⟩;rw[zA,za5,if_neg c,List.map_append];rfl
   rintro ρ μ1 ⟨rfl,e1,e2⟩;have r2':μ1 r.ea=some (.lst (r.E.map D.str)):=by rw[e2 _ (Ne.symm c3)];exact r2
   refine zmO (fun ρ μ'=>ρ=[some (.cell s),some (.cell na),some (.cell la),some (.str one),some (.str two),some (.lst (bd.map D.str)),some (.lst (fl.map zbm)),some (.lst [.str r.nm, .cell r.sa, .cell r.ea, .int r.w])]/\μ' r.ea=some (.lst ((za5 two r.E).map D.str))/\∀k,k≠r.ea->μ' k=μ1 k) (fun N hN=>?_) ?_
   .rw_mod_cast [zdd r2',Bool.true_xor];by_cases c:two∈r.E
    .rw_mod_cast [decide_eq_true c];exact hN _ _ ⟨rfl,by rw[za5,if_pos c];exact r2',fun _ _=>rfl⟩
    .rw_mod_cast [decide_eq_false c,r2'];refine⟨by rw[List.length_map];omega,hN _ _ ⟨rfl,?_,fun k hk=>zq hk⟩⟩;rw[zA,za5,if_neg c,List.map_append];rfl
   rintro ρ μ2 ⟨rfl,e3,e4⟩;walk_at "e"
   refine⟨_, .refl _,q r.nm μ2 ns _ (W.ends hj (by rw[e4 _ c3];exact e1) e3 fun k hk1 hk2=>by rw[e4 k hk2,e2 k hk1]) ?_ (.old j r hj rfl f1 f2)⟩;intro k c e hna hla hrr;obtain⟨p1,p2⟩:=hrr r hm;refine⟨by rw[e4 k p2,e2 k p1];exact e,fun q' hq'=>?_⟩;rcases zjd hq' with h | h
   .exact hrr q' h
   .rw[h];exact⟨p1,p2⟩
 refine ztC (fun b μ1=>μ1=μ/\(b=true->ls.length < 14)/\(b=false->fl≠[])) (fun R hR=>?_) (fun b μ1 h=>?_)
 .rw_mod_cast [W.dl,List.length_map];by_cases c14:ls.length < 14
  .rw_mod_cast [show decide ((ls.length:Int) < 14)=true from decide_eq_true (by omega)];by_cases c0:fl=[]
   .rw_mod_cast [show decide ((fl.length:Int)=0)=true from decide_eq_true (by rw[c0];rfl)];exact hR _ _ ⟨rfl,fun _=>c14,fun z=>(by cases z)⟩
   .rw_mod_cast [show decide ((fl.length:Int)=0)=false from decide_eq_false (fun z=>c0 (List.length_eq_zero_iff.mp (by omega)))];exact⟨W.ds,by decide,by decide,fun v v0 v1=>hR _ _ ⟨rfl,fun _=>c14,fun _=>c0⟩⟩
  .rw_mod_cast [show decide ((ls.length:Int) < 14)=false from decide_eq_false (by omega)];exact hR _ _ ⟨rfl,fun z=>(by cases z),fun _=>hfn (by omega)⟩
 .obtain⟨rfl,hb1,hb2⟩:=h;cases b with
  | true=>exact new (hb1 rfl)
  | false=>exact old (hb2 rfl)
set_option synthInstance.maxHeartbeats 4000000
set_option synthInstance.maxSize 100000
set_option maxHeartbeats 4000000
theorem WD.other{μ:Mu}{s na la k:Nat}{ns:List Str}{ls:List LR}{c c':Ct}(W:WD μ s na la ns ls)(hk:μ k=some c')(hd:c'≠ .draw)(h:k≠na/\k≠la/\∀r∈ls,k≠r.sa/\k≠r.ea):WD (zV μ k c) s na la ns ls where
 ds:=by rw[zq (fun z=>by have:=W.ds;rw[z,hk] at this;cases this;exact hd rfl)];exact W.ds
 dn:=by rw[zq (Ne.symm h.1)];exact W.dn
 dl:=by rw[zq (Ne.symm h.2.1)];exact W.dl
 nl:=W.nl
 rs:=fun r hr=>by
  obtain⟨a1,a2⟩:=h.2.2 r hr;rw[zq (Ne.symm a1),zq (Ne.symm a2)];exact W.rs r hr
 ap:=W.ap
 nd:=W.nd
theorem zbO.put{na la k:Nat}{μ μ':Mu}{ls ls':List LR}{c:Ct}(T:zbO na la μ ls μ' ls')(hk:μ k=none):zbO na la μ ls (zV μ' k c) ls':=fun j d e h1 h2 h3=>by
 obtain⟨a,b⟩:=T j d e h1 h2 h3;exact⟨by rw[zq (fun z=>by rw[z,hk] at e;cases e)];exact a,b⟩
theorem WD.free{μ:Mu}{s na la k:Nat}{ns:List Str}{ls:List LR}(W:WD μ s na la ns ls)(hk:μ k=none):k≠na/\k≠la/\∀r∈ls,k≠r.sa/\k≠r.ea :=
 ⟨fun z=>(by have:=W.dn;rw[<- z,hk] at this;cases this),fun z=>(by have:=W.dl;rw[<- z,hk] at this;cases this),fun r hr=>⟨fun z=>(by have:=(W.rs r hr).1;rw[<- z,hk] at this;cases this),fun z=>(by have:=(W.rs r hr).2;rw[<- z,hk] at this;cases this)⟩⟩
theorem zrF{s na la:Nat}{ho ga ns bd:List Str}{ls:List LR}{first last:Str}{h c:Nat}{μ:Mu}{Q:DK}(W:WD μ s na la ns ls)(N:zc5 ho ga ns ls h c)(hh:h+3<=48)(hc:c<=60)(hfi:first∈ho)(hla:last∈ho)(hfl:first≠last)(hbs:beside ho ga bd<=3)(hbn:∀y∈bd,y∈ns)(hgl:ga.length<=3)(hbl:bd.length<=10)
  (q:∀way k μ' ns' ls',WD μ' s na la ns' ls'->zbO na la μ ls μ' ls'->zc5 ho ga ns' ls' (h+3) c->zdV ns ls ls'->(∀y∈ns,y∈ns')->1<=k->k<=3->Way ho ga ns' ls' bd first k (2*k) way->way[2*k]? = some last->Q (.tup (way.map D.str)) μ') :
  zcI [.cell s, .cell na, .cell la, .lst (ga.map D.str), .str first, .str last, .lst (bd.map D.str)] μ Q:=by
 have hz:(200:Nat)<=sizeLine:=by decide
 refine⟨rfl,stp fun N1 h1=>?_⟩;walk_at "e"
 refine⟨by decide,zc1 ga D.str (fun x=> !decide (x∈bd)) D.str (by omega) (fun x hx Y Z hY hZ=>?_) (h1 _ _ (stp fun N2 h2=>?_)) trivial⟩
 .rw_mod_cast [zk2,Bool.true_xor];by_cases c1:x∈bd
  .rw_mod_cast [decide_eq_true c1];exact hZ (by simp[c1])
  .rw_mod_cast [decide_eq_false c1];exact hY (by simp[c1])
 walk_at "e"
 refine⟨by decide,fun kw hkw=>h2 _ _ ?_⟩;have gnd:ga.Nodup:=(List.nodup_append.mp (List.nodup_append.mp N.nd).1).2.1;have fr0:∀x∈ga.filter (fun x=> !decide (x∈bd)),x∈ga/\x∉bd:=fun x hx=>by
  obtain⟨m1,m2⟩:=List.mem_filter.mp hx;exact⟨m1,by simpa using m2⟩
 have frd:(ga.filter fun x=> !decide (x∈bd)).Nodup:=gnd.sublist List.filter_sublist;have frl:(ga.filter fun x=> !decide (x∈bd)).length<=3:=Nat.le_trans (List.length_filter_le _ _) hgl;generalize ga.filter (fun x=> !decide (x∈bd))=fr at fr0 frd frl
 have hop:∀(ns':List Str) (ls':List LR) (k:Nat) (wh:List Str) (one two:Str),zc5 ho ga ns' ls' (h+k) c->(∀y∈ns,y∈ns')->k<=2->Way ho ga ns' ls' bd first k (2*k+1) wh->wh[2*k]? = some one->two∈ho++ga->two∉wh ->
   (ns'.length < 100/\(ls'.length=14->∃r∈ls',zeF one (bd++wh) r=true/\zfW two r=true)/\∀r∈ls',r.S.length<=6/\r.E.length<=6) /\
   ∀x ns2 ls2,zqM one two (bd++wh) ns' ls' x ns2 ls2->zc5 ho ga ns2 ls2 (h+(k+1)) c/\zdV ns' ls' ls2/\(∀y∈ns,y∈ns2)/\Way ho ga ns2 ls2 bd first (k+1) (2*k+2) (wh++[x,two])/\(two∈ga->two∉bd->Way ho ga ns2 ls2 bd first (k+1) (2*k+3) (wh++[x,two])):=by
  intro ns' ls' k wh one two N' sub' hk Y h1 ht htw;refine⟨⟨?_,fun h14=>zxl N' (by omega) one two ?_ h14,fun r hr=>⟨(N'.ends r hr).s6,(N'.ends r hr).e6⟩⟩,fun x ns2 ls2 R=>?_⟩
  .have:=N'.cnt;have:=N'.len;omega
  .rw[zfX];have:=Y.bs;omega
  .have bsub:∀y∈bd++wh,y∈ns':=fun y hy=>(List.mem_append.mp hy).elim (fun z=>sub' y (hbn y z)) (Y.sub y)
   obtain⟨N2,G2,J2,xb,sub2,xg,xn⟩:=zvh N' (Y.nn k one h1) ht bsub R;have xb1:x∉bd:=fun z=>xb (List.mem_append_left _ z)
   have xb2:x∉wh:=fun z=>xb (List.mem_append_right _ z)
   obtain⟨Y1,Y2⟩:=(Y.grow G2 sub2).step h1 J2 xg xb1 xb2 xn htw ht (N2.sub two (List.mem_append_left _ ht));exact⟨N2,G2,fun y hy=>sub2 y (sub' y hy),Y1,Y2⟩
 have lastOf:∀(k:Nat) (wh:List Str),wh.length=2*k+1->∃one,wh[2*k]? = some one/\atI (wh.map D.str) (-1)=some (.str one):=fun k wh e=>by
  have hlt:2*k < wh.length:=by omega
  refine⟨wh[2*k],List.getElem?_eq_getElem hlt,?_⟩;rw[zrg,List.getLast?_eq_getElem?,List.length_map,List.getElem?_map,show wh.length - 1=2*k by omega,List.getElem?_eq_getElem hlt];rfl
 refine zmO (fun ρ μ'=>∃(k:Nat) (ns' wh:List Str) (ls':List LR) (x7 x9 x10:Option D),ρ=[some (.cell s),some (.cell na),some (.cell la),some (.lst (ga.map D.str)),some (.str first),some (.str last),some (.lst (bd.map D.str)),x7,some (.cell kw),x9,x10]/\k<=2 /\
  WD μ' s na la ns' ls'/\zbO na la μ ls μ' ls'/\zc5 ho ga ns' ls' (h+k) c/\zdV ns ls ls'/\(∀y∈ns,y∈ns')/\Way ho ga ns' ls' bd first k (2*k+1) wh/\μ' kw=some (.lst (wh.map D.str))/\(kw≠na/\kw≠la/\∀r∈ls',kw≠r.sa/\kw≠r.ea)) (fun NX hNX=>?_) ?_
 .have W1:WD (zV μ kw (.lst [.str first])) s na la ns ls:=W.cell hkw;walk_at "e"
  refine⟨W1.ds,by decide,by decide,fun v v0 v1=>?_⟩;rw[List.length_map];have bn:(if (fr.length:Int) < v then(fr.length:Int) else v)<=2/\0<=(if (fr.length:Int) < v then(fr.length:Int) else v)/\(if (fr.length:Int) < v then(fr.length:Int) else v)<=fr.length:=by split<;>omega
  generalize (if (fr.length:Int) < v then(fr.length:Int) else v)=n at bn
  obtain⟨n2,n0,nl⟩:=bn;refine⟨by omega,by omega,?_⟩;refine zbF (fun j ρ μ'=>∃(ns' wh fr':List Str) (ls':List LR) (x9 x10:Option D),ρ=[some (.cell s),some (.cell na),some (.cell la),some (.lst (ga.map D.str)),some (.str first),some (.str last),some (.lst (bd.map D.str)),some (.lst (fr'.map D.str)),some (.cell kw),x9,x10] /\
   WD μ' s na la ns' ls'/\zbO na la μ ls μ' ls'/\zc5 ho ga ns' ls' (h+j) c/\zdV ns ls ls'/\(∀y∈ns,y∈ns')/\Way ho ga ns' ls' bd first j (2*j+1) wh/\μ' kw=some (.lst (wh.map D.str))/\(kw≠na/\kw≠la/\∀r∈ls',kw≠r.sa/\kw≠r.ea)/\fr'.Nodup/\(∀x∈fr',x∈ga/\x∉bd/\x∉wh)/\n<=fr'.length+j/\fr'.length<=3)
   ⟨ns,[first],fr,ls,_,_,rfl,W1,zbO.refl.put hkw,N,zdV.refl _ _,fun _ h=>h, .one (List.mem_append_left _ hfi) (N.sub _ (List.mem_append_left _ (List.mem_append_left _ hfi))),zA,W.free hkw,frd,fun x hx=>⟨(fr0 x hx).1,(fr0 x hx).2,fun z=>?_⟩,by omega,frl⟩ ?_ ?_
  .rw[List.mem_singleton.mp z] at hx;exact N.nd2 hfi (fr0 _ hx).1
  .rintro j d ρ μ1 hd ⟨ns',wh,fr',ls',x9,x10,rfl,W5,T5,N5,G5,sub5,Y,hw5,f5,fnd,fin,fn,fl⟩ M hM;obtain⟨hj,rfl⟩:=zcJ hd;refine stp fun M1 g1=>?_
   walk_at "e"
   refine zme W5.ds ?_ (by rw[List.length_map];omega) fun i d hd=>?_
   .intro z;have:=congrArg List.length z;rw[List.length_map] at this;simp at this;subst this;simp at fn;omega
   rw[List.getElem?_map] at hd;cases hgt:fr'[i]? with
   | none=>rw[hgt] at hd;cases hd
   | some gt =>
    rw[hgt] at hd;cases hd;obtain⟨g1',g2',g3'⟩:=fin gt (List.mem_of_getElem? hgt);refine g1 _ _ (stp fun M2 g2=>?_);walk_at "e"
    refine⟨by decide,zc1 fr' D.str (fun y=> !decide (y=gt)) D.str (by omega) (fun x hx Y Z hY hZ=>?_) (g2 _ _ (stp fun M3 g3=>?_)) trivial⟩
    .walk_at "e"
     by_cases c1:x=gt
     .rw_mod_cast [decide_eq_true c1];exact hZ (by simp[c1])
     .rw_mod_cast [decide_eq_false c1];exact hY (by simp[c1])
    have fnd':(fr'.filter fun y=> !decide (y=gt)).Nodup:=fnd.sublist List.filter_sublist;have fin':∀x∈fr'.filter (fun y=> !decide (y=gt)),x∈fr'/\x≠gt:=fun x hx=>by
     obtain⟨m1,m2⟩:=List.mem_filter.mp hx;exact⟨m1,by simpa using m2⟩
    have fl':fr'.length<=(fr'.filter fun y=> !decide (y=gt)).length+1:=zfS fnd;have fl3:(fr'.filter fun y=> !decide (y=gt)).length<=3:=Nat.le_trans (List.length_filter_le _ _) fl;generalize fr'.filter (fun y=> !decide (y=gt))=fr2 at fnd' fin' fl' fl3
    obtain⟨one,h1',hlast⟩:=lastOf j wh Y.len;obtain⟨⟨c1,c2,c3⟩,post⟩:=hop ns' ls' j wh one gt N5 sub5 (by omega) Y h1' (List.mem_append_right _ g1') g3';rw_mod_cast [hw5,hlast];refine⟨by rw[List.length_map,List.length_map,Y.len];omega,?_⟩;rw[<- List.map_append];refine zth W5 c1 N5.len c2 c3 fun x μ2 ns2 ls2 W9 T9 R=>?_
    obtain⟨N9,G9,sub9,Y1,Y2⟩:=post x ns2 ls2 R;obtain⟨hw9,f9⟩:=T9 kw _ hw5 f5.1 f5.2.1 f5.2.2;rw_mod_cast [hw9];refine⟨by rw[List.length_map,Y.len];omega,g3 _ _ ?_⟩;rw_mod_cast [zA];refine⟨by rw[List.length_append,List.length_map,Y.len];show 2*j+1+1 < sizeLine;omega,hM _ _ ?_⟩;have em:wh.map D.str++[.str x]++[.str gt]=(wh++[x,gt]).map D.str:=by rw[List.map_append (l₂:=[x,gt]),List.append_assoc];rfl
    rw[zcp,em];refine⟨ns2,wh++[x,gt],fr2,ls2,_,_,rfl,W9.other hw9 (by simp) ⟨f5.1,f5.2.1,f9⟩,(T5.trans T9).put hkw,N9,G5.trans sub5 G9,sub9,Y2 g1' g2',zA,⟨f5.1,f5.2.1,f9⟩,fnd',fun y hy=>⟨(fin y (fin' y hy).1).1,(fin y (fin' y hy).1).2.1,fun z=>?_⟩,by omega,fl3⟩;rcases List.mem_append.mp z with z | z
    .exact(fin y (fin' y hy).1).2.2 z
    .rcases List.mem_cons.mp z with e | z
     .have:=(Y1.ln j x (by rw[List.getElem?_append_right (by rw[Y.len];omega),Y.len,Nat.sub_self];rfl)).1;exact this (List.mem_append_right _ (e▸(fin y (fin' y hy).1).1))
     .exact(fin' y hy).2 (List.mem_singleton.mp z)
  .rintro ρ μ1 ⟨ns',wh,fr',ls',x9,x10,rfl,W5,T5,N5,G5,sub5,Y,hw5,f5,fnd,fin,fn,fl⟩;rw[zbG] at *;exact hNX _ _ ⟨n.toNat,ns',wh,ls',_,_,_,rfl,by omega,W5,T5,N5,G5,sub5,Y,hw5,f5⟩
 .rintro ρ μ1 ⟨k,ns',wh,ls',x7,x9,x10,rfl,hk,W7,T7,N7,G7,sub7,Y,hw7,f7⟩;have lw:last∉wh:=fun z=>by
   rcases Y.mem z (Nat.le_refl _) with e | e | e
   .exact hfl e.symm
   .exact e (List.mem_append_left _ hla)
   .exact N.nd2 hla e
  obtain⟨one,h1',hlast⟩:=lastOf k wh Y.len;obtain⟨⟨c1,c2,c3⟩,post⟩:=hop ns' ls' k wh one last N7 sub7 (by omega) Y h1' (List.mem_append_left _ hla) lw;refine stp fun M1 g1=>?_
  rw_mod_cast [hw7,hlast];refine⟨by rw[List.length_map,List.length_map,Y.len];omega,?_⟩;rw[<- List.map_append];refine zth W7 c1 N7.len c2 c3 fun x μ2 ns2 ls2 W9 T9 R=>?_
  obtain⟨N9,G9,sub9,Y1,Y2⟩:=post x ns2 ls2 R;obtain⟨hw9,f9⟩:=T9 kw _ hw7 f7.1 f7.2.1 f7.2.2;rw_mod_cast [hw9];refine⟨by rw[List.length_map,Y.len];omega,g1 _ _ (stp fun M2 g2=>?_)⟩;rw_mod_cast [zA];refine⟨by rw[List.length_append,List.length_map,Y.len];show 2*k+1+1 < sizeLine;omega,g2 _ _ ?_⟩;have em:wh.map D.str++[.str x]++[.str last]=(wh++[x,last]).map D.str:=by rw[List.map_append (l₂:=[x,last]),List.append_assoc];rfl
  rw[zcp,em];rw_mod_cast [zA];refine⟨_, .refl _,q (wh++[x,last]) (k+1) _ ns2 ls2 (W9.other hw9 (by simp) ⟨f7.1,f7.2.1,f9⟩) ((T7.trans T9).put hkw) (N9.more (by omega)) (G7.trans sub7 G9) sub9 (by omega) (by omega) Y1 ?_⟩;rw[List.getElem?_append_right (by rw[Y.len];omega),Y.len,show 2*(k+1) - (2*k+1)=1 by omega];rfl
set_option synthInstance.maxHeartbeats 4000000
set_option synthInstance.maxSize 100000
set_option maxHeartbeats 4000000
def zlb(w:List Str):D:= .tup (w.map D.str)
def zuK(r:RW):D:= .tup [.str r.nm, .tup (r.ways.map zlb), .int r.e, .int r.lo, .int r.re, .int r.lst]
theorem foldl_take_succ{α β:Type}(f:β->α->β)(b:β){xs:List α}{i:Nat}{x:α}(h:xs[i]? = some x):(xs.take (i+1)).foldl f b=f ((xs.take i).foldl f b) x:=by
 rw[List.take_add_one,h,List.foldl_append];rfl
theorem zur{s na la:Nat}{ns:List Str}{ls:List LR}{ways:List (List Str)}{nm:Str}{e lo re x5 sl:Int}{μ:Mu}{Q:DK}(W:WD μ s na la ns ls)(q:Q (.int (zk7 ls ways lo sl)) μ):zc8 [.tup [.str nm, .tup (ways.map zlb), .int e, .int lo, .int re, .int x5], .cell la, .int sl] μ Q:=by
 refine⟨rfl,stp fun N1 h1=>?_⟩;walk_at "e"
 refine h1 _ _ (stp fun N2 h2=>?_);walk_at "e"
 refine zbF (fun i ρ μ'=>∃x4 x5' x6,ρ=[some (.tup [.str nm, .tup (ways.map zlb), .int e, .int lo, .int re, .int x5]),some (.cell la),some (.int sl),some (.int ((ways.take i).foldl (fun m way=>if zcy ls way lo sl > m then zcy ls way lo sl else m) 0)),x4,x5',x6]/\μ'=μ) ⟨_,_,_,rfl,rfl⟩ ?_ ?_
 .rintro i d ρ μ' hd ⟨x4,x5',x6,rfl,rfl⟩ N hN;rw[List.getElem?_map] at hd;cases hw:ways[i]? with
  | none=>rw[hw] at hd;cases hd
  | some way =>
   rw[hw] at hd;cases hd;unfold zlb;refine stp fun M1 g1=>?_
   walk_at "e"
   refine g1 _ _ (stp fun M2 g2=>?_);rw_mod_cast [W.dl];refine zbF (fun j ρ μ2=>∃x6,ρ=[some (.tup [.str nm, .tup (ways.map zlb), .int e, .int lo, .int re, .int x5]),some (.cell la),some (.int sl),some (.int ((ways.take i).foldl (fun m way=>if zcy ls way lo sl > m then zcy ls way lo sl else m) 0)),some (.tup (way.map D.str)),some (.int ((ls.take j).foldl (fun m r=>if r.nm∈way then m+lo+r.w+sl else m) 0)),x6]/\μ2=μ') ⟨_,rfl,rfl⟩ ?_ ?_ (fun _ _ _ h=>by obtain⟨_,_,rfl⟩:=h;exact W.dl)
   .rintro j d ρ μ2 hd ⟨x6,rfl,rfl⟩ M hM;rw[List.getElem?_map] at hd;cases hr:ls[j]? with
    | none=>rw[hr] at hd;cases hd
    | some r =>
     rw[hr] at hd;cases hd;unfold zbm;rw_mod_cast [zqf,Bool.false_xor];have fs:=foldl_take_succ (fun m (r:LR)=>if r.nm∈way then m+lo+r.w+sl else m) (0:Int) hr;by_cases c:r.nm∈way
     .rw_mod_cast [decide_eq_true c];rw[fs,if_pos c] at hM;exact hM _ _ ⟨_,rfl,rfl⟩
     .rw_mod_cast [decide_eq_false c];rw[fs,if_neg c] at hM;exact hM _ _ ⟨_,rfl,rfl⟩
   .rintro ρ μ2 ⟨x6,rfl,rfl⟩;refine g2 _ _ ?_;walk_at "e"
    rw[foldl_take_succ _ _ hw] at hN;rw[List.length_map,List.take_length];exact hN _ _ ⟨_,_,_,rfl,rfl⟩
 .rintro ρ μ' ⟨x4,x5',x6,rfl,rfl⟩;refine h2 _ _ ?_;walk_at "e"
  rw[List.length_map,List.take_length];exact⟨_, .refl _,q⟩
set_option synthInstance.maxHeartbeats 4000000
set_option synthInstance.maxSize 100000
set_option maxHeartbeats 4000000
theorem zoa(w:List Str)(h:2<=w.length):cutD (w.map D.str) (some 1) (some (-1))=(inner w).map D.str:=by
 unfold cutD inner;have e1:HT.sIx (w.map D.str).length 0 (some 1)=1:=by
  have:=HT.zbn (w.map D.str).length 0 1;rw[List.length_map,Nat.min_eq_left (by omega)] at this;rw[List.length_map];exact this
 have e2:HT.sIx (w.map D.str).length (w.map D.str).length (some (-1))=w.length - 1:=by
  rw[List.length_map];unfold HT.sIx;simp;omega
 rw[e1,e2,List.map_take,List.map_drop];congr 1
theorem zk8{xs:List Int}{v:Int}(h0:0<=v)(h1:v < xs.length):∃e,atI (xs.map D.int) v=some (.int e)/\e∈xs:=by
 obtain⟨e,a,b⟩:=zhm h0 h1;exact⟨e,by rw[zoX,a];rfl,List.mem_of_getElem? b⟩
theorem ziE{xs:List Str}{v:Int}(h0:0<=v)(h1:v < xs.length):∃e,atI (xs.map D.str) v=some (.str e)/\xs[v.toNat]? = some e:=by
 obtain⟨e,a,b⟩:=zhm h0 h1;exact⟨e,by rw[zoX,a];rfl,b⟩
theorem zvY{s na la:Nat}{ho ga ns:List Str}{ls:List LR}{h c:Nat}{sl:Int}{μ:Mu}{Q:DK}(W:WD μ s na la ns ls)(N:zc5 ho ga ns ls h c)(hh:h+6<=48)(hc:c<=50)(ho2:2<=ho.length)(ho4:ho.length<=4)(ga3:ga.length<=3)(sl0:0<=sl)(sl7:sl<=7)
  (q:∀r μ' ns' ls',WD μ' s na la ns' ls'->zbO na la μ ls μ' ls'->zc5 ho ga ns' ls' (h+6) (c+1)->zdV ns ls ls'->(∀y∈ns,y∈ns')->zia ho ga ns' ls' sl r->r.nm∉ns->Q (zuK r) μ') :
  zdK [.cell s, .cell na, .cell la, .lst (ho.map D.str), .lst (ga.map D.str), .int sl] μ Q:=by
 have hz:(200:Nat)<=sizeLine:=by decide
 have hnd:ho.Nodup:=(List.nodup_append.mp (List.nodup_append.mp N.nd).1).1;refine⟨rfl,stp fun N1 h1=>?_⟩;rw_mod_cast [List.length_map];refine⟨W.ds,by omega,by omega,fun v v0 v1=>h1 _ _ (stp fun N2 h2=>?_)⟩;obtain⟨first,e1,f1⟩:=ziE v0 v1;rw_mod_cast [e1];refine h2 _ _ (stp fun N3 h3=>?_);rw_mod_cast [List.length_map];refine⟨W.ds,by omega,by omega,fun u u0 u1=>⟨by omega,?_⟩⟩;have m0:0<=(v+1+u) % (ho.length:Int):=Int.emod_nonneg _ (by omega);have m1:(v+1+u) % (ho.length:Int) < ho.length:=Int.emod_lt_of_pos _ (by omega);obtain⟨last,e2,f2⟩:=ziE m0 m1;have hfl:first≠last:=fun z=>by
  subst z;have:=zsj hnd f1 f2;have e3:v=(v+1+u) % (ho.length:Int):=by omega
  by_cases hlt:v+1+u < ho.length
  .rw[Int.emod_eq_of_lt (by omega) hlt] at e3;omega
  .have e4:(v+1+u) % (ho.length:Int)=v+1+u - ho.length:=by
    rw[<- Int.sub_emod_right,Int.emod_eq_of_lt (by omega) (by omega)]
   omega
 have hfi:=List.mem_of_getElem? f1;have hla:=List.mem_of_getElem? f2;rw_mod_cast [e2];refine h3 _ _ (stp fun N4 h4=>?_);walk_at "e"
 refine⟨by decide,zrF (bd:=[]) W N (by omega) (by omega) hfi hla hfl (by simp[beside]) (fun y hy=>by cases hy) ga3 (by decide) fun w1 k1 μ4 ns4 ls4 W4 T4 N4 G4 sub4 k1a k1b Y1 hl1=>?_⟩;refine⟨by decide,fun kw hkw=>h4 _ _ ?_⟩;have W5:WD (zV μ4 kw (.lst [.tup (w1.map D.str)])) s na la ns4 ls4:=W4.cell hkw;have f5:=W4.free hkw;have hkw0:∀k c,μ k=some c->k≠na->k≠la->(∀r∈ls,k≠r.sa/\k≠r.ea)->k≠kw:=fun k c e a1 a2 a3 z=>by
  have:=(T4 k c e a1 a2 a3).1;rw[z,hkw] at this;cases this
 refine zmO (fun ρ μ'=>∃(ns6:List Str) (ls6:List LR) (ways:List (List Str)),ρ=[some (.cell s),some (.cell na),some (.cell la),some (.lst (ho.map D.str)),some (.lst (ga.map D.str)),some (.int sl),some (.int v),some (.str first),some (.str last),some (.cell kw),none,none,none,none] /\
  WD μ' s na la ns6 ls6/\zbO na la μ ls μ' ls6/\zc5 ho ga ns6 ls6 (h+6) c/\zdV ns ls ls6/\(∀y∈ns,y∈ns6)/\μ' kw=some (.lst (ways.map zlb))/\(kw≠na/\kw≠la/\∀r∈ls6,kw≠r.sa/\kw≠r.ea)/\ways.length<=2 /\
  ∃first last w1 k1,first∈ho/\last∈ho/\first≠last/\1<=k1/\k1<=3/\Way ho ga ns6 ls6 [] first k1 (2*k1) w1/\w1[2*k1]? = some last/\(ways=[w1]\/∃w2 k2,ways=[w1,w2]/\1<=k2/\k2<=3/\Way ho ga ns6 ls6 (inner w1) first k2 (2*k2) w2/\w2[2*k2]? = some last)) (fun NX hNX=>?_) ?_
 .have T5:zbO na la μ ls (zV μ4 kw (.lst [.tup (w1.map D.str)])) ls4:=fun k c e a1 a2 a3=>by
   obtain⟨b1,b2⟩:=T4 k c e a1 a2 a3;exact⟨by rw[zq (hkw0 k c e a1 a2 a3)];exact b1,b2⟩
  walk_at "e"
  refine⟨W5.ds,by decide,by decide,fun x x0 x1=>?_⟩;split
  .have wl1:w1.length=2*k1+1:=Y1.len;have ns1:¬ (HT.sIx (w1.map D.str).length 0 (some 1)=0/\HT.sIx (w1.map D.str).length (w1.map D.str).length (some (-1))=(w1.map D.str).length):=by
    rintro⟨z,_⟩;have:=HT.zbn (w1.map D.str).length 0 1;rw[List.length_map,Nat.min_eq_left (by omega)] at this;rw[List.length_map] at z;have e:HT.sIx w1.length 0 (some 1)=1:=this;omega
   refine⟨ns1,?_⟩;rw[zoa w1 (by omega)];refine zrF (bd:=inner w1) W5 N4 (by omega) (by omega) hfi hla hfl (Nat.le_trans (zlW _ _ _) (Nat.le_trans Y1.bs k1b)) (fun y hy=>Y1.sub y (zqB hy)) ga3 (Nat.le_trans (zqj _) (by omega)) fun w2 k2 μ9 ns9 ls9 W9 T9 N9 G9 sub9 k2a k2b Y2 hl2=>?_
   obtain⟨hw9,f9⟩:=T9 kw _ zA f5.1 f5.2.1 f5.2.2;rw_mod_cast [hw9];refine⟨by decide,hNX _ _ ⟨ns9,ls9,[w1,w2],rfl,W9.other hw9 (by simp) ⟨f5.1,f5.2.1,f9⟩,fun k c e a1 a2 a3=>?_,N9.more (by omega),G4.trans sub4 G9,fun y hy=>sub9 y (sub4 y hy),zA,⟨f5.1,f5.2.1,f9⟩,show 2<=2 by decide,first,last,w1,k1,hfi,hla,hfl,k1a,k1b,Y1.grow G9 sub9,hl1, .inr ⟨w2,k2,rfl,k2a,k2b,Y2,hl2⟩⟩⟩;obtain⟨b1,b2⟩:=(T5.trans T9) k c e a1 a2 a3;exact⟨by rw[zq (hkw0 k c e a1 a2 a3)];exact b1,b2⟩
  .exact hNX _ _ ⟨ns4,ls4,[w1],rfl,W5,T5,N4.more (by omega),G4,sub4,zA,f5,show 1<=2 by decide,first,last,w1,k1,hfi,hla,hfl,k1a,k1b,Y1,hl1, .inl rfl⟩
 rintro ρ μ6 ⟨ns6,ls6,ways,rfl,W6,T6,N6,G6,sub6,hw6,f6,wl,shape⟩;refine stp fun N6' h6=>?_
 walk_at "e"
 refine⟨by decide,W6.ds,by decide,by decide,fun a a0 a1=>?_⟩;obtain⟨e,ge,he⟩:=zk8 (xs:=zmd) a0 (show a < 11 from a1);have eb:8<=e/\e<=120:=by
  have:∀e∈zmd,8<=e/\e<=120:=by decide
  exact this e he
 have ge':atI [D.int 12,D.int 8,D.int 20,D.int 24,D.int 10,D.int 30,D.int 15,D.int 40,D.int 60,D.int 12,D.int 120] a=some (.int e):=ge;rw_mod_cast [ge'];refine h6 _ _ (stp fun N7 h7=>?_);walk_at "e"
 have mb:0 < (if e - sl < 4 then e - sl else 4)/\(if e - sl < 4 then e - sl else 4)<=4:=by split<;>omega
 refine⟨W6.ds,mb.1,by omega,fun b b0 b1=>h7 _ _ (stp fun N8 h8=>?_)⟩;have u9:1+b<=4/\1+b+sl<=e:=by split at b1<;>omega
 walk_at "e"
 refine zgV W6.ds W6.dn (by have:=N6.cnt;have:=N6.len;omega) fun x nm hx=>?_
 have W7:WD _ s na la (ns6++[x]) ls6:=W6.names (ns':=ns6++[x]);have hw7:zV μ6 na (.lst ((ns6++[x]).map D.str)) kw=some (.lst (ways.map zlb)):=by rw[zq f6.1];exact hw6
 rw_mod_cast [hw7];refine⟨W7.ds,by omega,by omega,fun d d0 d1=>⟨by decide,h8 _ _ (stp fun N9 h9=>?_)⟩⟩;walk_at "e"
 refine⟨⟨by decide,by decide⟩,by decide,W7.ds,by decide,by decide,fun t t0 t1=>?_⟩;obtain⟨spare,gs,hs⟩:=zk8 (xs:=[0,1,2,e / 2,3,e - 1,6]) t0 (show t < 7 from t1);have gs':atI [D.int 0,D.int 1,D.int 2,D.int (e / 2),D.int 3,D.int (e - 1),D.int 6] t=some (.int spare):=gs;rw_mod_cast [gs'];refine h9 _ _ ?_;walk_at "e"
 refine⟨by decide,zur W7 ?_⟩;walk_at "e"
 rw[show cutD [D.str x,D.tup (List.map zlb ways),D.int e,D.int (1+b),D.int d,D.int 0] none (some 5)=[D.str x,D.tup (List.map zlb ways),D.int e,D.int (1+b),D.int d] from rfl];refine⟨by decide,by simp,show 6<=sizeLine by decide,_, .refl _,?_⟩;have N10:=N6.named hx nm;have hxn:x∉ns:=fun z=>hx (sub6 x z)
 have G18:zdV ns6 ls6 ls6:=zdV.refl _ _;refine q ⟨x,ways,e,1+b,d,zk7 ls6 ways (1+b) sl+spare⟩ _ (ns6++[x]) ls6 W7 (T6.trans zbO.names) N10 G6 (fun y hy=>List.mem_append_left _ (sub6 y hy)) ⟨by simp,fun z=>hx (N6.sub x z),?_,he,by show 1<=1+b;omega,u9.1,u9.2,d0,d1,spare,rfl,hs⟩ hxn;obtain⟨f',l',w1',k1',a1,a2,a3,a4,a5,Y,a6,hh'⟩:=shape;refine⟨f',l',w1',k1',a1,a2,a3,a4,a5,Y.grow G18 (fun y hy=>List.mem_append_left _ hy),a6,?_⟩;rcases hh' with z | ⟨w2,k2,z,b1,b2,Y2,b3⟩
 .exact .inl z
 .exact .inr ⟨w2,k2,z,b1,b2,Y2.grow G18 (fun y hy=>List.mem_append_left _ hy),b3⟩
set_option synthInstance.maxHeartbeats 4000000
set_option synthInstance.maxSize 100000
set_option maxHeartbeats 4000000
def zsX:List Int:=[0,1,2,0,3,1,5,7]
structure WorldD(μ:Mu)(s na la:Nat)(ho ga ns:List Str)(ls:List LR)(rows:List RW)(sl:Int)(most:Nat):Prop where
 W:WD μ s na la ns ls
 N:zc5 ho ga ns ls 48 (ho.length+ga.length+rows.length)
 ho2:2<=ho.length
 ho4:ho.length<=4
 ga3:ga.length<=3
 r1:1<=rows.length
 rm:rows.length<=most
 ok:∀r∈rows,zia ho ga ns ls sl r
 nd:(rows.map RW.nm).Nodup
 sl0:0<=sl
 sl7:sl<=7
theorem zjk{s na:Nat}{pre:List Str}{n:Nat}{μ:Mu}{Fin:List D->Mu->Prop}(hs:μ s=some .draw)(hn:μ na=some (.lst (pre.map D.str)))(hp:pre.Nodup)(hpn:∀x∈pre,Nm x)(hl:pre.length+n < 100)
  (q:∀xs:List Str,xs.length=n->(pre++xs).Nodup->(∀x∈pre++xs,Nm x)->Fin (xs.map D.str) (zV μ na (.lst ((pre++xs).map D.str)))) :
  zbD (zy 0) zhr (dCall zav (za (zc 2) (za (zc 1) zm))) [none,some (.cell na),some (.cell s)] (fun _=>True) Fin ((zca 0 n).map D.int) [] μ:=by
 have hz:(200:Nat)<=sizeLine:=by decide
 have sna:s≠na:=fun z=>by rw[z,hn] at hs;cases hs
 refine zdm (fun i ys μ'=>∃xs:List Str,ys=xs.map D.str/\xs.length=i/\(pre++xs).Nodup/\(∀x∈pre++xs,Nm x)/\μ'=zV μ na (.lst ((pre++xs).map D.str))) ⟨[],rfl,rfl,by rw[List.append_nil];exact hp,by rw[List.append_nil];exact hpn,?_⟩ ?_ ?_
 .funext k;unfold zV;split
  .rename_i e;rw[e,List.append_nil];exact hn
  .rfl
 .rintro i d ys μ' hd ⟨xs,rfl,hx,nd,nm,rfl⟩;obtain⟨hi,rfl⟩:=zcJ hd;refine⟨by rw[List.length_map];omega,fun N hN=>?_⟩;walk_at "e"
  refine zgV (by rw[zq sna];exact hs) zA (by rw[List.length_append];omega) fun x hnm hxn=>hN _ _ ⟨xs++[x],by rw[List.map_append];rfl,by rw[List.length_append,hx];rfl,?_,?_,?_⟩
  .rw[<- List.append_assoc];exact List.nodup_append.mpr ⟨nd,by simp,fun a ha b hb e=>by rw[List.mem_singleton.mp hb] at e;exact hxn (e▸ha)⟩
  .intro y hy;rw[<- List.append_assoc] at hy;rcases List.mem_append.mp hy with h | h
   .exact nm y h
   .rw[List.mem_singleton.mp h];exact hnm
  .rw[zcp,List.append_assoc]
 .rintro ys μ' ⟨xs,rfl,hx,nd,nm,rfl⟩;rw[zbG] at hx;exact q xs hx nd nm
theorem zrn{s most:Nat}{μ:Mu}{Q:DK}(hs:μ s=some .draw)(m1:1<=most)(m8:most<=8)
  (q:∀ μ' na la ho ga ns ls rows sl,WorldD μ' s na la ho ga ns ls rows sl most->(∀k c,μ k=some c->μ' k=some c/\k≠na/\k≠la/\∀r∈ls,k≠r.sa/\k≠r.ea) ->
   Q (.tup [.lst (ho.map D.str), .lst (ga.map D.str), .cell la, .lst (rows.map zuK), .int sl, .cell na]) μ'):zcB [.cell s, .int (most:Int)] μ Q:=by
 have hz:(200:Nat)<=sizeLine:=by decide
 refine⟨rfl,stp fun N1 h1=>?_⟩;walk_at "e"
 refine⟨by decide,fun na hna=>h1 _ _ (stp fun N2 h2=>?_)⟩;have sna:s≠na:=fun z=>by rw[z,hna] at hs;cases hs
 have hs1:∀c,zV μ na c s=some .draw:=fun c=>by rw[zq sna];exact hs
 walk_at "e"
 refine⟨by decide,hs1 _,by decide,by decide,fun a a0 a1=>⟨by omega,by omega,?_⟩⟩;refine zjk (pre:=[]) (hs1 _) zA List.nodup_nil (fun x hx=>by cases hx) (by simp;omega) fun ho hol hod hon=>h2 _ _ (stp fun N3 h3=>?_)
 rw[zcp,List.nil_append];rw[List.nil_append] at hod hon;walk_at "e"
 refine⟨by decide,hs1 _,by decide,by decide,fun b b0 b1=>⟨by omega,by omega,?_⟩⟩;refine zjk (pre:=ho) (hs1 _) zA hod hon (by omega) fun ga gal gad gan=>h3 _ _ (stp fun N4 h4=>?_)
 rw[zcp];walk_at "e"
 refine⟨by decide,hs1 _,by decide,by decide,fun t t0 t1=>?_⟩;obtain⟨sl,gs,hsl⟩:=zk8 (xs:=zsX) t0 (show t < 8 from t1);have gs':atI [D.int 0,D.int 1,D.int 2,D.int 0,D.int 3,D.int 1,D.int 5,D.int 7] t=some (.int sl):=gs;have slb:0<=sl/\sl<=7:=by
  have:∀e∈zsX,0<=e/\e<=7:=by decide
  exact this sl hsl
 rw_mod_cast [gs'];refine h4 _ _ (stp fun N5 h5=>?_);walk_at "e"
 refine⟨by decide,fun la hla=>h5 _ _ (stp fun N6 h6=>?_)⟩;have nal:na≠la:=fun z=>by rw[<- z,zA] at hla;cases hla
 have W0:WD (zV (zV μ na (.lst ((ho++ga).map D.str))) la (.lst [])) s na la (ho++ga) []:=⟨by
   rw[zq (fun z=>by rw[<- z,hs1] at hla;cases hla)];exact hs1 _,by rw[zq nal,zA],zA,nal,fun r hr=>(by cases hr),fun r hr=>(by cases hr),fun i j r r' hi=>(by simp at hi)⟩
 have NT0:zc5 ho ga (ho++ga) [] (6*0) (ho.length+ga.length+0):=⟨by simpa using gad,by simp,gan,gad,fun r hr=>(by cases hr),by decide,by decide,by rw[List.length_append];exact Nat.le_refl _⟩;have keep0:∀k c,μ k=some c->(zV (zV μ na (.lst ((ho++ga).map D.str))) la (.lst [])) k=some c/\k≠na/\k≠la:=fun k c e=>by
  have k1:k≠na:=fun z=>by rw[z,hna] at e;cases e
  have k2:k≠la:=fun z=>by rw[<- z,zq k1,e] at hla;cases hla
  exact⟨by rw[zq k2,zq k1];exact e,k1,k2⟩
 generalize zV (zV μ na (.lst ((ho++ga).map D.str))) la (.lst [])=μ0 at W0 keep0
 walk_at "e"
 refine⟨by decide,W0.ds,by omega,by omega,fun v v0 v1=>⟨by omega,by omega,?_⟩⟩;refine zdm (fun i ys μ'=>∃(rows:List RW) (ns:List Str) (ls:List LR),ys=rows.map zuK/\rows.length=i/\WD μ' s na la ns ls/\zbO na la μ0 [] μ' ls/\zc5 ho ga ns ls (6*i) (ho.length+ga.length+i)/\(∀r∈rows,zia ho ga ns ls sl r)/\(rows.map RW.nm).Nodup) ⟨[],ho++ga,[],rfl,rfl,W0, .refl,NT0,fun r hr=>(by cases hr),List.nodup_nil⟩ ?_ ?_
 .rintro i d ys μ' hd ⟨rows,ns,ls,rfl,hr,W,T,NT,ok,nd⟩;obtain⟨hi,rfl⟩:=zcJ hd;refine⟨by rw[List.length_map];omega,fun N hN=>?_⟩;walk_at "e"
  refine zvY W NT (by omega) (by omega) (by omega) (by omega) (by omega) slb.1 slb.2 fun r μ2 ns2 ls2 W2 T2 NT2 G2 sub2 R2 hn2=>hN _ _ ⟨rows++[r],ns2,ls2,by rw[List.map_append];rfl,by rw[List.length_append,hr];rfl,W2,T.trans T2,?_,?_,?_⟩
  .have:6*(i+1)=6*i+6:=by omega
   rw[this];exact NT2
  .intro r' hr';rcases List.mem_append.mp hr' with h | h
   .exact(ok r' h).grow G2 sub2
   .rw[List.mem_singleton.mp h];exact R2
  .rw[List.map_append];refine List.nodup_append.mpr ⟨nd,by simp,fun a ha b hb e=>?_⟩;obtain⟨r',hr',rfl⟩:=List.mem_map.mp ha;have:b=r.nm:=by simpa using hb
   rw[this] at e;exact hn2 (e▸(ok r' hr').nmn)
 .rintro ys μ' ⟨rows,ns,ls,rfl,hr,W,T,NT,ok,nd⟩;rw[zbG] at hr NT;refine h6 _ _ ?_;walk_at "e"
  refine⟨by decide,_, .refl _,q μ' na la ho ga ns ls rows sl ⟨W,?_,by omega,by omega,by omega,by omega,by omega,ok,nd,slb.1,slb.2⟩ fun k c e=>?_⟩
  .rw[hr];exact NT.more (by omega)
  .obtain⟨b1,b2,b3⟩:=keep0 k c e;obtain⟨c1,c2⟩:=T k c b1 b2 b3 (fun r hr=>by cases hr);exact⟨c1,b2,b3,c2⟩
set_option synthInstance.maxHeartbeats 4000000
set_option synthInstance.maxSize 100000
set_option maxHeartbeats 4000000
theorem zq7{i:Int}{μ:Mu}{Q:DK}(q:Q (.bl true) μ):zbf [.int i] μ Q:=by
 refine⟨rfl,?_⟩;walk_at "e"
 exact⟨_, .refl _,q⟩
theorem zuZ{i:Int}{μ:Mu}{Q:DK}(q:Q .non μ):zbR [.int i] μ Q:=by
 refine⟨rfl,?_⟩;walk_at "e"
 refine zq7 ?_;walk_at "e"
 exact⟨_, .refl _,q⟩
set_option synthInstance.maxHeartbeats 4000000
set_option synthInstance.maxSize 100000
set_option maxHeartbeats 4000000
theorem znk{y:Str}{μ:Mu}{R:List D->(Mu->Prop)->Prop}(h:y.cps.all (· < 128)=true):zmt μ (.str y) R=R (y.cps.toList.map fun c=> .str ⟨#[c]⟩) fun _=>True:=by
 unfold zmt zuk;simp only[h,if_true]
theorem zgN:∀c:_root_.Fin 128,zkx letters ⟨#[c.val]⟩=decide (97<=c.val/\c.val<=122):=by decide+kernel
theorem zmV{x:Str}(h:Nm x):x.cps.all (· < 128)=true:=by
 rw[<- Array.all_toList];exact List.all_eq_true.mpr fun c hc=>decide_eq_true (by have:=h.az c hc;omega)
theorem zoj{x:Str}(h:Nm x):1<=x.length/\x.length<=8:=by
 have h1:=h.l1;have h2:=h.l8;rw[Array.length_toList] at h1 h2;exact⟨h1,h2⟩
theorem zpX{x:Str}{μ:Mu}{Q:DK}(h:Nm x)(q:Q (.bl true) μ):zb4 [.str x] μ Q:=by
 obtain⟨l1,l8⟩:=zoj h;have hz:(1000:Nat)<=sizeLine:=by decide
 refine⟨rfl,?_⟩;walk_at "e"
 refine⟨rfl,?_⟩;walk_at "e"
 refine⟨by omega,?_⟩;rw_mod_cast [show decide ((1:Int)<=x.length)=true from decide_eq_true (by omega),show decide ((x.length:Int)<=8)=true from decide_eq_true (by omega),znk (zmV h)];refine⟨by decide,zta x.cps.toList _ (by have:=h.l8;omega) (fun c hc Q' q'=>?_) (fun bs hb=>?_) trivial⟩
 .have:=h.az c hc;have e:=zgN ⟨c,by omega⟩;walk_at "e"
  rw[show zkx (Str.ofString "abcdefghijklmnopqrstuvwxyz") ⟨#[c]⟩=true from by
   show zkx letters ⟨#[c]⟩=true;rw[e];exact decide_eq_true this]
  exact q'
 .rw_mod_cast [hb];exact⟨_, .refl _,_, .refl _,q⟩
theorem zol{x:Str}{μ:Mu}{Q:DK}(h:Nm x)(q:Q .non μ):zcf [.str x] μ Q:=by
 refine⟨rfl,?_⟩;walk_at "e"
 refine zpX h ?_;walk_at "e"
 exact⟨_, .refl _,q⟩
theorem ztG{i lo hi:Int}{μ:Mu}{Q:DK}(h1:lo<=i)(h2:i<=hi)(q:Q .non μ):zby [.int i, .int lo, .int hi] μ Q:=by
 refine⟨rfl,?_⟩;walk_at "e"
 refine zuZ ?_;rw_mod_cast [decide_eq_true h1,decide_eq_true h2];exact⟨_, .refl _,q⟩
theorem zcM{x:Str}(h:Nm x):PyData.strOk x=true:=by
 unfold PyData.strOk;rw[<- Array.all_toList];exact List.all_eq_true.mpr fun c hc=>decide_eq_true (by have:=h.az c hc;omega)
set_option synthInstance.maxHeartbeats 4000000
set_option synthInstance.maxSize 100000
set_option maxHeartbeats 4000000
def sLe(a b:Str):Prop:=a.cps.toList<=b.cps.toList
theorem zqw{a b c:Str}(h:sLe a b)(h':sLe b c):sLe a c:=List.le_trans h h'
theorem zl8{a b:Str}(h:sLe a b)(h':sLe b a):a=b:=by
 have e:a.cps.toList=b.cps.toList:=List.le_antisymm h h';cases a;cases b;simp only[Str.mk.injEq];exact Array.toList_inj.mp e
theorem zky:∀(p:Str) (l:List Str),PyProof.Rows.risingS p l=true->(∀x∈l,sLe p x)/\l.Pairwise sLe
 | p,[],_=>⟨fun x h=>(by cases h),List.Pairwise.nil⟩
 | p,x::r,h=>by
  unfold PyProof.Rows.risingS at h;rw[Bool.and_eq_true,PyProof.Rows.ltCps_eq] at h;obtain⟨h1,h2⟩:=h;have hpx:sLe p x:=by
   have:¬ (x.cps.toList < p.cps.toList):=by simpa using h1
   exact this
  obtain⟨a,b⟩:=zky x r h2;refine⟨fun y hy=>?_,List.pairwise_cons.mpr ⟨a,b⟩⟩;rcases List.mem_cons.mp hy with rfl | hy
  .exact hpx
  .exact zqw hpx (a y hy)
theorem zk0{l:List Str}(h:PyProof.Rows.sortedS l=true):l.Pairwise sLe:=by
 cases l with
 | nil=>exact List.Pairwise.nil
 | cons p r =>
  obtain⟨a,b⟩:=zky p r h;exact List.pairwise_cons.mpr ⟨a,b⟩
theorem zoQ{α:Type}{r:α->α->Prop}(anti:∀a b,r a b->r b a->a=b):∀{l1 l2:List α},List.Perm l1 l2->List.Pairwise r l1->List.Pairwise r l2->l1=l2
 | [],l2,h,_,_=>h.nil_eq
 | a::r1,[],h,_,_=>absurd h.length_eq (by simp)
 | a::r1,b::r2,h,h1,h2=>by
  obtain⟨a1,p1⟩:=List.pairwise_cons.mp h1;obtain⟨b1,p2⟩:=List.pairwise_cons.mp h2;have e:a=b:=by
   rcases List.mem_cons.mp (h.mem_iff.mp List.mem_cons_self) with z | z
   .exact z
   .rcases List.mem_cons.mp (h.mem_iff.mpr (List.mem_cons_self (a:=b))) with y | y
    .exact y.symm
    .exact anti a b (a1 b y) (b1 a z)
  subst e;rw[zoQ anti (List.perm_cons a |>.mp h) p1 p2]
theorem zlJ{a b:List Str}(h:List.Perm a b)(ha:PyProof.Rows.sortedS a=true)(hb:PyProof.Rows.sortedS b=true):a=b:=zoQ (fun _ _=>zl8) h (zk0 ha) (zk0 hb)
set_option synthInstance.maxHeartbeats 4000000
set_option synthInstance.maxSize 100000
set_option maxHeartbeats 4000000
abbrev SL(β:Type):=List (Str×β)
def zb1{β:Type}:SL β->Str->Option β
 | [],_=>none
 | p::r,j=>if p.1=j then some p.2 else zb1 r j
def ksS{β:Type}(l:SL β):List Key:=l.map fun p=>(Sum.inr p.1:Key)
def vsS{β:Type}(f:β->D)(l:SL β):List D:=l.map fun p=>f p.2
section
variable{β:Type}
theorem zfv{l:SL β}{j:Str}:(zb1 l j).isSome=true↔j∈l.map (·.1):=by
 induction l with
 | nil=>simp[zb1]
 | cons p r ih =>
  rw[zb1,List.map_cons,List.mem_cons];by_cases h:p.1=j
  .simp[h]
  .rw[if_neg h,ih];exact⟨fun z=> .inr z,fun z=>z.resolve_left fun e=>h e.symm⟩
theorem zbv{l:SL β}{j:Str}:(Sum.inr j:Key)∈ksS l↔j∈l.map (·.1):=by
 unfold ksS;rw[List.mem_map,List.mem_map];constructor
 .rintro⟨p,hp,e⟩;exact⟨p,hp,Sum.inr.inj e⟩
 .rintro⟨p,hp,e⟩;exact⟨p,hp,by rw[e]⟩
theorem zq5{f:β->D}{l:SL β}{j:Str}:zbN (ksS l) (vsS f l) (.inr j)=(zb1 l j).map f:=by
 induction l with
 | nil=>rfl
 | cons p r ih =>
  show(if (Sum.inr p.1:Key)= .inr j then some (f p.2) else zbN (ksS r) (vsS f r) (.inr j))=_;rw[zb1];by_cases h:p.1=j
  .rw[if_pos (by rw[h]),if_pos h];rfl
  .rw[if_neg (fun z=>h (Sum.inr.inj z)),if_neg h];exact ih
theorem zjl{f:β->D}{l:SL β}{j:Str}{b:β}(h:j∉l.map (·.1)):Ct.dct (zjs (ksS l) (.inr j)) (zkF (ksS l) (vsS f l) (.inr j) (f b))= .dct (ksS (l++[(j,b)])) (vsS f (l++[(j,b)])):=by
 unfold zjs zkF;rw[if_neg (fun z=>h (zbv.mp z)),if_neg (fun z=>h (zbv.mp z))];unfold ksS vsS;rw[List.map_append,List.map_append];rfl
theorem zni{l:SL β}{j:Str}{b:β}(hn:(l.map (·.1)).Nodup)(h:(j,b)∈l):zb1 l j=some b:=by
 induction l with
 | nil=>cases h
 | cons p r ih =>
  rw[List.map_cons] at hn;obtain⟨h1,h2⟩:=List.nodup_cons.mp hn;rw[zb1];rcases List.mem_cons.mp h with rfl | h
  .simp
  .have hne:¬ p.1=j:=fun e=>h1 (by rw[e];exact List.mem_map_of_mem (f:=fun q:Str×β=>q.1) h)
   rw[if_neg hne,ih h2 h]
theorem zgx{l:SL β}{j:Str}{b:β}(h:zb1 l j=some b):(j,b)∈l:=by
 induction l with
 | nil=>cases h
 | cons p r ih =>
  rw[zb1] at h;by_cases e:p.1=j
  .rw[if_pos e] at h;cases h;rw[<- e];exact List.mem_cons_self
  .rw[if_neg e] at h;exact List.mem_cons_of_mem _ (ih h)
theorem zdG{l:SL β}:(ksS l).length=l.length:=by unfold ksS;rw[List.length_map]
end
set_option synthInstance.maxHeartbeats 4000000
set_option synthInstance.maxSize 100000
set_option maxHeartbeats 4000000
abbrev EN:=List Str×List Str×Int
def enD(e:EN):D:= .tup [.tup (e.1.map D.str), .tup (e.2.1.map D.str), .int e.2.2]
structure zae(μ:Mu)(k ck cl:Nat)(kn:SL Str)(ln:SL EN):Prop where
 o:μ k=some (.ins "Net" zcx [.cell ck, .cell cl])
 a:μ ck=some (.dct (ksS kn) (vsS D.str kn))
 b:μ cl=some (.dct (ksS ln) (vsS enD ln))
 ne:ck≠cl
 nd:(kn.map (·.1)).Nodup
theorem zae.k1{μ:Mu}{k ck cl:Nat}{kn:SL Str}{ln:SL EN}(h:zae μ k ck cl kn ln):k≠ck:=fun z=>by have:=h.o;rw[z,h.a] at this;cases this
theorem zae.k2{μ:Mu}{k ck cl:Nat}{kn:SL Str}{ln:SL EN}(h:zae μ k ck cl kn ln):k≠cl:=fun z=>by have:=h.o;rw[z,h.b] at this;cases this
section
variable{μ:Mu}{k ck cl:Nat}{kn:SL Str}{ln:SL EN}{Q:DK}{x:Str}
theorem zkg(N:zae μ k ck cl kn ln)(hx:Nm x)(h:x∉kn.map (·.1))(q:Q .non μ):zaT [.cell k, .str x] μ Q:=by
 refine⟨rfl,?_⟩;rw_mod_cast [];refine zol hx ?_;rw_mod_cast [zhU,N.o,zdl,N.a,zcd,zdw,decide_eq_false (fun z=>h (zbv.mp z)),Bool.false_xor];exact⟨_, .refl _,q⟩
theorem zij{es:List Str}(N:zae μ k ck cl kn ln)(h:∀y∈es,y∈kn.map (·.1)/\y∉ln.map (·.1))(q:Q .non μ):zaH [.cell k, .tup (es.map D.str)] μ Q:=by
 refine⟨rfl,?_⟩;rw_mod_cast [];refine zbF (fun i ρ μ'=>∃x2,ρ=[some (.cell k),some (.tup (es.map D.str)),x2]/\μ'=μ) ⟨_,rfl,rfl⟩ ?_ ?_
 .rintro i d ρ μ' hd ⟨x2,rfl,rfl⟩ N' hN;rw[List.getElem?_map] at hd;obtain⟨y,hy,rfl⟩:=Option.map_eq_some_iff.mp hd;obtain⟨h1,h2⟩:=h y (List.mem_of_getElem? hy);rw_mod_cast [zhU,N.o,zdl,N.a,N.b,zcd,zdw,decide_eq_true (zbv.mpr h1),decide_eq_false (fun z=>h2 (zbv.mp z)),Bool.false_xor,Bool.true_xor];exact hN _ _ ⟨_,rfl,rfl⟩
 .rintro ρ μ' ⟨x2,rfl,rfl⟩;exact⟨_, .refl _,q⟩
theorem ziG{kd:Str}(N:zae μ k ck cl kn ln)(hx:Nm x)(h:x∉kn.map (·.1))(hl:kn.length < 16+ln.length)(hz:kn.length<=900)(q:∀ μ',zae μ' k ck cl (kn++[(x,kd)]) ln->(∀j,j≠ck->μ' j=μ j)->Q .non μ'):za3 [.cell k, .str x, .str kd] μ Q:=by
 refine⟨rfl,stp fun N1 h1=>?_⟩;rw_mod_cast [N.o];refine zkg N hx h ?_;rw_mod_cast [];refine h1 _ _ ?_;rw_mod_cast [N.o,znS,zlS,N.a,N.b,zf8,zdG,decide_eq_false (show ¬ (16:Int)<=(kn.length:Int) - (ln.length:Int) by omega)];unfold zjY;rw_mod_cast [N.o,N.a,zf8,zdw,zdG];rw[zjl (f:=D.str) h];refine⟨by omega,_, .refl _,q _ ⟨?_,zA,?_,N.ne,?_⟩ fun j hj=>zq hj⟩
 .rw[zq N.k1];exact N.o
 .rw[zq N.ne.symm];exact N.b
 .rw[List.map_append];refine List.nodup_append.mpr ⟨N.nd,by simp,fun a ha b hb=>?_⟩;simp at hb;subst hb;exact fun z=>h (z▸ha)
theorem ztn(N:zae μ k ck cl kn ln)(hx:Nm x)(h:x∉kn.map (·.1))(hl:kn.length < 16+ln.length)(hz:kn.length<=900)(q:∀ μ',zae μ' k ck cl (kn++[(x,("house":Str))]) ln->(∀j,j≠ck->μ' j=μ j)->Q .non μ'):zcC [.cell k, .str x] μ Q:=by
 refine⟨rfl,?_⟩;rw_mod_cast [N.o];refine ziG N hx h hl hz fun μ' N' e=>?_
 exact⟨_, .refl _,q μ' N' e⟩
theorem ztV(N:zae μ k ck cl kn ln)(hx:Nm x)(h:x∉kn.map (·.1))(hl:kn.length < 16+ln.length)(hz:kn.length<=900)(q:∀ μ',zae μ' k ck cl (kn++[(x,("gate":Str))]) ln->(∀j,j≠ck->μ' j=μ j)->Q .non μ'):zc6 [.cell k, .str x] μ Q:=by
 refine⟨rfl,?_⟩;rw_mod_cast [N.o];refine ziG N hx h hl hz fun μ' N' e=>?_
 exact⟨_, .refl _,q μ' N' e⟩
theorem zjt{es:List Str}(h1:es≠[])(h6:es.length<=6)(hn:es.Nodup)(q:Q .non μ):zbr [.tup (es.map D.str)] μ Q:=by
 have hz:(1000:Nat)<=sizeLine:=by decide
 have hp:0 < es.length:=List.length_pos_iff.mpr h1;refine⟨rfl,stp fun N1 h1=>?_⟩;rw_mod_cast [List.length_map,decide_eq_true (show(1:Int)<=(es.length:Int) by omega),decide_eq_true (show(es.length:Int)<=6 by omega)];refine h1 _ _ ?_;rw_mod_cast [];refine⟨es,rfl,by omega,?_⟩;rw[zh0 hn,List.length_map];rw_mod_cast [show decide ((es.length:Int) < es.length)=false from decide_eq_false (by omega)];exact⟨_, .refl _,q⟩
def Srt(xs ys:List Str):Prop:=List.Perm ys xs/\PyProof.Rows.sortedS ys=true
theorem Srt.uniq{xs ys zs:List Str}(h:Srt xs ys)(h':Srt xs zs):ys=zs:=zlJ (h.1.trans h'.1.symm) h.2 h'.2
theorem zo6{S E:List Str}{wr:Int}(N:zae μ k ck cl kn ln)(hx:Nm x)(h:x∉kn.map (·.1))(hl:ln.length < 16)(hz:kn.length<=900)
  (s1:S≠[])(s6:S.length<=6)(sn:S.Nodup)(e1:E≠[])(e6:E.length<=6)(en:E.Nodup)(hs:∀y∈S,y∈kn.map (·.1)/\y∉ln.map (·.1))(he:∀y∈E,y∈kn.map (·.1)/\y∉ln.map (·.1))(w0:0<=wr)(w1:wr<=30)(hxl:x∉ln.map (·.1))
  (q:∀ μ' S' E',Srt S S'->Srt E E'->zae μ' k ck cl (kn++[(x,("line":Str))]) (ln++[(x,S',E',wr)])->(∀j,j≠ck->j≠cl->μ' j=μ j)->Q .non μ'):zck [.cell k, .str x, .tup (S.map D.str), .tup (E.map D.str), .int wr] μ Q:=by
 have hzz:(1000:Nat)<=sizeLine:=by decide
 refine⟨rfl,stp fun N1 h1=>?_⟩;rw_mod_cast [N.o];refine zkg N hx h (h1 _ _ (stp fun N2 h2=>?_));rw_mod_cast [N.o,znS,zlS,N.b,zf8,zdG,decide_eq_false (show ¬ (16:Int)<=(ln.length:Int) by omega)];refine h2 _ _ (stp fun N3 h3=>?_);rw_mod_cast [];refine zjt s1 s6 sn (h3 _ _ (stp fun N4 h4=>?_));rw_mod_cast [];refine zjt e1 e6 en (h4 _ _ (stp fun N5 h5=>?_));rw_mod_cast [N.o];refine zij N hs (h5 _ _ (stp fun N6 h6=>?_));rw_mod_cast [N.o];refine zij N he (h6 _ _ (stp fun N7 h7=>?_));rw_mod_cast [];refine ztG w0 w1 (h7 _ _ (stp fun N8 h8=>?_));unfold zjY;rw_mod_cast [N.o,N.a,zf8,zdw,zdG];rw[zjl (f:=D.str) h];refine⟨by omega,h8 _ _ ?_⟩;have o':zV μ ck (.dct (ksS (kn++[(x,("line":Str))])) (vsS D.str (kn++[(x,("line":Str))]))) k=some (.ins "Net" zcx [.cell ck, .cell cl]):=by rw[zq N.k1];exact N.o
 have b':zV μ ck (.dct (ksS (kn++[(x,("line":Str))])) (vsS D.str (kn++[(x,("line":Str))]))) cl=some (.dct (ksS ln) (vsS enD ln)):=by rw[zq N.ne.symm];exact N.b
 unfold zjY;rw_mod_cast [];refine znc (by omega) fun S' p1 p2=>?_
 rw_mod_cast [];refine znc (by omega) fun E' p3 p4=>?_
 rw_mod_cast [o',b',zf8,zdw,zdG];have e:D.tup [.tup (S'.map D.str), .tup (E'.map D.str), .int wr]=enD (S',E',wr):=rfl;rw[e,zjl (f:=enD) hxl];refine⟨by omega,by omega,_, .refl _,q _ S' E' ⟨p1,p2⟩ ⟨p3,p4⟩ ⟨?_,?_,zA,N.ne,?_⟩ fun j a b=>?_⟩
 .rw[zq N.k2];exact o'
 .rw[zq N.ne,zA]
 .rw[List.map_append];refine List.nodup_append.mpr ⟨N.nd,by simp,fun a ha b hb=>?_⟩;simp at hb;subst hb;exact fun z=>h (z▸ha)
 .rw[zq b,zq a]
theorem zu1{β:Type}{l:SL β}:ksS l=(l.map (·.1)).map Sum.inr:=by unfold ksS;rw[List.map_map];rfl
theorem znX(h:∀ck cl μ',μ ck=none->μ cl=none->zae μ' k ck cl [] []->(∀j c,μ j=some c->j≠k->μ' j=some c)->Q .non μ')(hk:μ k=some (.ins "Net" [] [])):zce [.cell k] μ Q:=by
 refine⟨rfl,stp fun N1 h1=>?_⟩;rw_mod_cast [zmz];intro ck hck;have kne:k≠ck:=fun z=>by rw[z,hck] at hk;cases hk
 rw_mod_cast [zq kne,hk];refine h1 _ _ ?_;rw_mod_cast [zmz];intro cl hcl;have n1:cl≠ck:=fun z=>by
  rw[z,zq (fun y=>kne y.symm),zA] at hcl;cases hcl
 have n2:cl≠k:=fun z=>by rw[z,zA] at hcl;cases hcl
 have hcl':μ cl=none:=by rw[zq n2,zq n1] at hcl;exact hcl
 rw_mod_cast [zq (fun y:k=cl=>n2 y.symm)];refine⟨_, .refl _,h ck cl _ hck hcl' ⟨zA,?_,?_,fun z=>n1 z.symm,by simp⟩ fun j c e hj=>?_⟩
 .rw[zq (fun y=>kne y.symm),zq (fun y=>n1 y.symm),zq (fun y=>kne y.symm),zA];rfl
 .rw[zq n2,zA];rfl
 .rw[zq hj,zq (fun y=>by rw[y,hcl'] at e;cases e),zq hj,zq (fun y=>by rw[y,hck] at e;cases e)];exact e
end
set_option synthInstance.maxHeartbeats 4000000
set_option synthInstance.maxSize 100000
set_option maxHeartbeats 4000000
theorem zuA{μ:Mu}{k ck cl:Nat}{kn:SL Str}{ln:SL EN}{Q:DK}{x:Str}{v:EN}(N:zae μ k ck cl kn ln)(h:zb1 ln x=some v)(q:Q (enD v) μ):zcY [.cell k, .str x] μ Q:=by
 refine⟨rfl,?_⟩;have hm:x∈ln.map (·.1):=zfv.mp (by rw[h];rfl);rw_mod_cast [zhU,zx8,N.o,zdl,N.b,zcd,zdw,decide_eq_true (zbv.mpr hm),zq5,h,Option.map_some,Bool.true_xor];exact⟨_, .refl _,q⟩
set_option synthInstance.maxHeartbeats 4000000
set_option synthInstance.maxSize 100000
set_option maxHeartbeats 4000000
def kindsOf(ho ga:List Str)(ls:List LR):SL Str:=ho.map (fun x=>(x,("house":Str)))++ga.map (fun x=>(x,("gate":Str)))++ls.map (fun r=>(r.nm,("line":Str)))
def zjQ(ls:List LR)(ln:SL EN):Prop:=ln.length=ls.length/\∀(i:Nat) r,ls[i]? = some r->∃S' E',ln[i]? = some (r.nm,S',E',r.w)/\Srt r.S S'/\Srt r.E E'
theorem za0{ho ga:List Str}{ls:List LR}:(kindsOf ho ga ls).map (·.1)=ho++ga++ls.map LR.nm:=by
 unfold kindsOf;rw[List.map_append,List.map_append,List.map_map,List.map_map,List.map_map];have e1:∀l:List Str,l.map ((fun p:Str×Str=>p.1)∘fun x=>(x,("house":Str)))=l:=fun l=>by
  rw[show((fun p:Str×Str=>p.1)∘fun x=>(x,("house":Str)))=id from rfl,List.map_id]
 have e2:∀l:List Str,l.map ((fun p:Str×Str=>p.1)∘fun x=>(x,("gate":Str)))=l:=fun l=>by
  rw[show((fun p:Str×Str=>p.1)∘fun x=>(x,("gate":Str)))=id from rfl,List.map_id]
 rw[e1,e2];rfl
theorem zjQ.fst{ls:List LR}{ln:SL EN}(h:zjQ ls ln):ln.map (·.1)=ls.map LR.nm:=by
 apply List.ext_getElem?;intro i;rw[List.getElem?_map,List.getElem?_map];by_cases hi:i < ls.length
 .obtain⟨S',E',e,_⟩:=h.2 i ls[i] (List.getElem?_eq_getElem hi);rw[e,List.getElem?_eq_getElem hi];rfl
 .rw[List.getElem?_eq_none (show ln.length<=i by rw[h.1];omega),List.getElem?_eq_none (show ls.length<=i by omega)];rfl
theorem zjQ.snoc{ls:List LR}{ln:SL EN}{r:LR}{S' E':List Str}(h:zjQ ls ln)(h1:Srt r.S S')(h2:Srt r.E E'):zjQ (ls++[r]) (ln++[(r.nm,S',E',r.w)]):=by
 refine⟨by simp[h.1],fun i q e=>?_⟩;rw[List.getElem?_append] at e ⊢;rw[h.1];split at e
 .rename_i hi;rw[if_pos hi];exact h.2 i q e
 .rename_i hi;rw[if_neg hi];have:i - ls.length=0:=by
   have:=(List.getElem?_eq_some_iff.mp e).1;simpa using this
  rw[this] at e ⊢;simp at e;subst e;exact⟨S',E',rfl,h1,h2⟩
theorem zr8{s na la:Nat}{ho ga ns:List Str}{ls:List LR}{h c:Nat}{μ:Mu}{Q:DK}{rowsD slD:D}(W:WD μ s na la ns ls)(N:zc5 ho ga ns ls h c)(h4:ho.length<=4)(g3:ga.length<=3)
  (q:∀ μ' k ck cl ln,μ k=none->μ ck=none->μ cl=none->zae μ' k ck cl (kindsOf ho ga ls) ln->zjQ ls ln->(∀j c,μ j=some c->μ' j=some c)->Q (.cell k) μ') :
  zcN [.tup [.lst (ho.map D.str), .lst (ga.map D.str), .cell la,rowsD,slD, .cell na]] μ Q:=by
 have hz:(1000:Nat)<=sizeLine:=by decide
 have l14:=N.len;have nd:=N.nd;have nmx:∀x∈ho++ga++ls.map LR.nm,Nm x:=fun x hx=>N.nms x (N.sub x hx)
 refine⟨rfl,stp fun N1 h1=>?_⟩;rw_mod_cast [];intro k hk;refine znX (fun ck cl μ1 hck hcl A keep=>?_) zA;have kck:k≠ck:=A.k1;have kcl:k≠cl:=A.k2;have hck':μ ck=none:=by rw[zq (fun z=>kck z.symm)] at hck;exact hck
 have hcl':μ cl=none:=by rw[zq (fun z=>kcl z.symm)] at hcl;exact hcl
 have keep1:∀j c,μ j=some c->μ1 j=some c/\j≠k/\j≠ck/\j≠cl:=fun j c e=>by
  have n1:j≠k:=fun z=>by rw[z,hk] at e;cases e
  exact⟨keep j c (by rw[zq n1];exact e) n1,n1,fun z=>(by rw[z,hck'] at e;cases e),fun z=>(by rw[z,hcl'] at e;cases e)⟩
 clear keep hck hcl;refine⟨rfl,h1 _ _ ?_⟩;refine zmO (fun ρ μ'=>∃x2,ρ=[some (.tup [.lst (ho.map D.str), .lst (ga.map D.str), .cell la,rowsD,slD, .cell na]),some (.cell k),x2,none,none,none]/\zae μ' k ck cl (kindsOf ho [] []) []/\∀j c,μ j=some c->μ' j=some c) (fun N2 k2=>?_) ?_
 .rw_mod_cast [];refine zbF (fun i ρ μ'=>∃x2,ρ=[some (.tup [.lst (ho.map D.str), .lst (ga.map D.str), .cell la,rowsD,slD, .cell na]),some (.cell k),x2,none,none,none]/\zae μ' k ck cl (kindsOf (ho.take i) [] []) []/\∀j c,μ j=some c->μ' j=some c) ⟨_,rfl,A,fun j c e=>(keep1 j c e).1⟩ ?_ ?_
  .rintro i d ρ μ' hd ⟨x2,rfl,A',ke⟩ N3 hN;rw[List.getElem?_map] at hd;obtain⟨x,hx,rfl⟩:=Option.map_eq_some_iff.mp hd;have hi:=(List.getElem?_eq_some_iff.mp hx).1;rw_mod_cast [A'.o];refine ztn A' (nmx x (by simp[List.mem_of_getElem? hx])) ?_ ?_ ?_ fun μ2 A2 ke2=>?_
   .rw[za0];simp only[List.append_nil,List.map_nil];intro hm;have hd2:(ho.take i++[x]).Nodup:=by
     have:ho.take (i+1)=ho.take i++[x]:=by rw[List.take_add_one,hx];rfl
     rw[<- this];exact(List.take_sublist _ _).nodup ((List.nodup_append.mp (List.nodup_append.mp nd).1).1)
    exact(List.nodup_append.mp hd2).2.2 x hm x (by simp) rfl
   .simp[kindsOf];omega
   .simp[kindsOf];omega
   .refine hN _ _ ⟨_,rfl,?_,fun j c e=>?_⟩
    .have e:kindsOf (ho.take (i+1)) [] []=kindsOf (ho.take i) [] []++[(x,("house":Str))]:=by
      unfold kindsOf;rw[List.take_add_one,hx];simp
     rw[e];exact A2
    .rw[ke2 j (keep1 j c e).2.2.1];exact ke j c e
  .rintro ρ μ' ⟨x2,rfl,A',ke⟩;rw[List.length_map,List.take_length] at A';exact k2 _ _ ⟨_,rfl,A',ke⟩
 rintro ρ μ2 ⟨x2,rfl,A2,ke2⟩;refine zmO (fun ρ μ'=>∃x2,ρ=[some (.tup [.lst (ho.map D.str), .lst (ga.map D.str), .cell la,rowsD,slD, .cell na]),some (.cell k),x2,none,none,none]/\zae μ' k ck cl (kindsOf ho ga []) []/\∀j c,μ j=some c->μ' j=some c) (fun N2 k2=>?_) ?_
 .rw_mod_cast [];refine zbF (fun i ρ μ'=>∃x2,ρ=[some (.tup [.lst (ho.map D.str), .lst (ga.map D.str), .cell la,rowsD,slD, .cell na]),some (.cell k),x2,none,none,none]/\zae μ' k ck cl (kindsOf ho (ga.take i) []) []/\∀j c,μ j=some c->μ' j=some c) ⟨_,rfl,A2,ke2⟩ ?_ ?_
  .rintro i d ρ μ' hd ⟨x2,rfl,A',ke⟩ N3 hN;rw[List.getElem?_map] at hd;obtain⟨x,hx,rfl⟩:=Option.map_eq_some_iff.mp hd;have hi:=(List.getElem?_eq_some_iff.mp hx).1;rw_mod_cast [A'.o];refine ztV A' (nmx x (by simp[List.mem_of_getElem? hx])) ?_ ?_ ?_ fun μ2 A2 ke2=>?_
   .rw[za0];simp only[List.append_nil,List.map_nil];intro hm;have hd2:(ho++(ga.take i++[x])).Nodup:=by
     have:ga.take (i+1)=ga.take i++[x]:=by rw[List.take_add_one,hx];rfl
     rw[<- this];exact((List.Sublist.refl ho).append (List.take_sublist _ _)).nodup (List.nodup_append.mp nd).1
    rw[<- List.append_assoc] at hd2;exact(List.nodup_append.mp hd2).2.2 x hm x (by simp) rfl
   .simp[kindsOf];omega
   .simp[kindsOf];omega
   .refine hN _ _ ⟨_,rfl,?_,fun j c e=>?_⟩
    .have e:kindsOf ho (ga.take (i+1)) []=kindsOf ho (ga.take i) []++[(x,("gate":Str))]:=by
      unfold kindsOf;rw[List.take_add_one,hx];simp
     rw[e];exact A2
    .rw[ke2 j (keep1 j c e).2.2.1];exact ke j c e
  .rintro ρ μ' ⟨x2,rfl,A',ke⟩;rw[List.length_map,List.take_length] at A';exact k2 _ _ ⟨_,rfl,A',ke⟩
 clear A2 ke2 x2 A;rintro ρ μ2 ⟨x2,rfl,A2,ke2⟩;refine stp fun N4 k4=>?_
 rw_mod_cast [ke2 la _ W.dl];refine zbF (fun i ρ μ'=>∃x2 x3 x4 x5 ln,ρ=[some (.tup [.lst (ho.map D.str), .lst (ga.map D.str), .cell la,rowsD,slD, .cell na]),some (.cell k),x2,x3,x4,x5]/\zae μ' k ck cl (kindsOf ho ga (ls.take i)) ln/\zjQ (ls.take i) ln/\∀j c,μ j=some c->μ' j=some c) ⟨_,_,_,_,[],rfl,A2,⟨rfl,fun i r e=>by simp at e⟩,ke2⟩ ?_ ?_ ?_
 .rintro i d ρ μ' hd ⟨x2,x3,x4,x5,ln,rfl,A',L',ke⟩ N3 hN;rw[List.getElem?_map] at hd;obtain⟨r,hr,rfl⟩:=Option.map_eq_some_iff.mp hd;have hm:=List.mem_of_getElem? hr;have hi:=(List.getElem?_eq_some_iff.mp hr).1;have E:=N.ends r hm;obtain⟨c1,c2⟩:=W.rs r hm;have tk:ls.take (i+1)=ls.take i++[r]:=by rw[List.take_add_one,hr];rfl
  have hsub:(ho++ga++((ls.take i).map LR.nm++[r.nm])).Nodup:=by
   have:ho++ga++(ls.take (i+1)).map LR.nm=ho++ga++((ls.take i).map LR.nm++[r.nm]):=by rw[tk,List.map_append];rfl
   rw[<- this];exact((List.Sublist.refl _).append ((List.take_sublist _ _).map _)).nodup nd
  have hnew:r.nm∉ho++ga++(ls.take i).map LR.nm:=fun hh=>by
   rw[<- List.append_assoc] at hsub;exact(List.nodup_append.mp hsub).2.2 _ hh _ (by simp) rfl
  have fs:=L'.fst;have nodes:∀y∈ho++ga,y∈(kindsOf ho ga (ls.take i)).map (·.1)/\y∉ln.map (·.1):=fun y hy=>by
   rw[za0,fs];refine⟨List.mem_append_left _ hy,fun hh=>?_⟩;have:=List.nodup_append.mp nd;exact this.2.2 y hy y (((List.take_sublist i ls).map LR.nm).subset hh) rfl
  unfold zbm;rw_mod_cast [zuw,ke _ _ c1,ke _ _ c2,A'.o];refine zo6 A' (nmx _ (by simp[List.mem_map_of_mem (f:=LR.nm) hm])) (by rw[za0];exact hnew) ?_ ?_ E.s0 E.s6 E.sn E.e0 E.e6 E.en (fun y hy=>nodes y (E.ss y hy)) (fun y hy=>nodes y (E.es y hy)) E.w0 (by have:=E.w3;omega) ?_ fun μ3 S' E' p1 p2 A3 ke3=>?_
  .rw[L'.1,List.length_take];omega
  .simp[kindsOf];omega
  .rw[fs];exact fun hh=>hnew (List.mem_append_right _ hh)
  .refine hN _ _ ⟨_,_,_,_,ln++[(r.nm,S',E',r.w)],rfl,?_,?_,fun j c e=>?_⟩
   .have e:kindsOf ho ga (ls.take (i+1))=kindsOf ho ga (ls.take i)++[(r.nm,("line":Str))]:=by
     unfold kindsOf;rw[tk];simp
    rw[e];exact A3
   .rw[tk];exact L'.snoc p1 p2
   .rw[ke3 j (keep1 j c e).2.2.1 (keep1 j c e).2.2.2];exact ke j c e
 .rintro ρ μ' ⟨x2,x3,x4,x5,ln,rfl,A',L',ke⟩;rw[List.length_map,List.take_length] at A' L';refine k4 _ _ ?_;rw_mod_cast [];exact⟨_, .refl _,q μ' k ck cl ln hk hck' hcl' A' L' ke⟩
 .rintro i ρ μ' ⟨x2,x3,x4,x5,ln,rfl,A',L',ke⟩;exact ke la _ W.dl
set_option synthInstance.maxHeartbeats 4000000
set_option synthInstance.maxSize 100000
set_option maxHeartbeats 4000000
theorem zfw{α:Type}{f:α->D}{g:α->PyData}(h:∀a,toPy (f a)=some (g a)):∀l:List α,zaS (l.map f)=some (l.map g)
 | []=>rfl
 | a::r=>by
  rw[List.map_cons,zaS,h a,zfw h r];rfl
section
variable{β:Type}{f:β->D}{g:β->PyData}{n:Nat}
theorem zqW{l:SL β}{x:Str}:zeY (ksS l) (l.map fun p=>g p.2) (.inr x)=(zb1 l x).map g:=by
 induction l with
 | nil=>rfl
 | cons p r ih =>
  show(if (Sum.inr p.1:Key)= .inr x then some (g p.2) else zeY (ksS r) (r.map fun p=>g p.2) (.inr x))=_;rw[zb1];by_cases h:p.1=x
  .rw[if_pos (by rw[h]),if_pos h];rfl
  .rw[if_neg (fun z=>h (Sum.inr.inj z)),if_neg h];exact ih
theorem zpm(hg:∀b,toPy (f b)=some (g b))(inj:∀a b,f a=f b->a=b){l':SL β}(s':∀p∈l',SI n (f p.2)):∀{l:SL β},(∀p∈l,SI n (f p.2))->(zjV (ksS l') (l'.map fun p=>g p.2) (ksS l) (l.map fun p=>g p.2)=true↔∀p∈l,zb1 l' p.1=some p.2)
 | [],_=>by
  show(true=true↔_);simp
 | p::r,s=>by
  have ih:=zpm hg inj s' (l:=r) fun p hp=>s p (List.mem_cons_of_mem _ hp)
  show((match zeY (ksS l') (l'.map fun p=>g p.2) (.inr p.1) with
   | none=>false
   | some q=>PyData.eqv (g p.2) q&&zjV (ksS l') (l'.map fun p=>g p.2) (ksS r) (r.map fun p=>g p.2))=true↔_)
  rw[zqW];cases e:zb1 l' p.1 with
  | none =>
   show(false=true↔_);exact⟨fun z=>(by cases z),fun z=>(by have:=z p List.mem_cons_self;rw[e] at this;cases this)⟩
  | some b =>
   show((PyData.eqv (g p.2) (g b)&&zjV (ksS l') (l'.map fun p=>g p.2) (ksS r) (r.map fun p=>g p.2))=true↔_);rw[Bool.and_eq_true,ih,SI.eqv n (f p.2) (f b) (g p.2) (g b) (s p List.mem_cons_self) (s' _ (zgx e)) (hg _) (hg _)];constructor
   .rintro⟨h1,h2⟩ q hq;rcases List.mem_cons.mp hq with rfl | hq
    .rw[e,inj _ _ h1]
    .exact h2 q hq
   .intro h;refine⟨?_,fun q hq=>h q (List.mem_cons_of_mem _ hq)⟩;have:=h p List.mem_cons_self;rw[e] at this;rw[Option.some.inj this]
def zcH(l l':SL β):Prop:=l.length=l'.length/\∀p∈l,zb1 l' p.1=some p.2
theorem zrQ{ck ck':Nat}{l l':SL β}{μ:Mu}{Q:DK}(hg:∀b,toPy (f b)=some (g b))(inj:∀a b,f a=f b->a=b)(hn:n<=60)(a:μ ck=some (.dct (ksS l) (vsS f l)))(a':μ ck'=some (.dct (ksS l') (vsS f l')))(s:∀p∈l,SI n (f p.2))(s':∀p∈l',SI n (f p.2))
  (q:∀b:Bool,(b=true↔zcH l l')->Q (.bl b) μ):zqh (.cell ck) (.cell ck') μ Q:=by
 have ok:∀{l:SL β},(∀p∈l,SI n (f p.2))->∀p∈l.map (fun p=>g p.2),zdP p:=fun{l} s p hp=>by
  obtain⟨x,hx,rfl⟩:=List.mem_map.mp hp;obtain⟨p',t,c,b⟩:=Pl.py n _ (s x hx).pl;rw[hg] at t;cases t;exact⟨c,by omega⟩
 rw[zyU,zdl,a,zcd,zdl,a',zcd];refine⟨l.map (fun p:Str×β=>g p.2),l'.map (fun p:Str×β=>g p.2),zfw (f:=fun p:Str×β=>f p.2) (fun p=>hg p.2) l,zfw (f:=fun p:Str×β=>f p.2) (fun p=>hg p.2) l',ok s,ok s',q _ ?_⟩;rw[Bool.and_eq_true,zpm hg inj s' s,zdG,zdG,beq_iff_eq];rfl
end
def enP(e:EN):PyData:= .tuple [.tuple (e.1.map .str), .tuple (e.2.1.map .str), .int e.2.2]
theorem zwC(e:EN):toPy (enD e)=some (enP e):=by
 have h:∀xs:List Str,zaS (xs.map D.str)=some (xs.map PyData.str):=zfw fun a=>by unfold toPy;rfl
 have t:∀ds:List D,toPy (.tup ds)=(zaS ds).map .tuple:=fun ds=>by unfold toPy;rfl
 unfold enD enP;rw[t];simp only[zaS,t,h,Option.map_some,toPy]
theorem zuY(a b:EN)(h:enD a=enD b):a=b:=by
 obtain⟨S,E,w⟩:=a;obtain⟨S',E',w'⟩:=b;unfold enD at h;simp only[D.tup.injEq,List.cons.injEq,D.int.injEq,and_true] at h;obtain⟨h1,h2,h3⟩:=h;have j:∀{x y:List Str},x.map D.str=y.map D.str->x=y:=fun e=>(List.map_inj_right (fun p q z=>D.str.inj z)).mp e
 rw[j h1,j h2,h3]
structure zj4(kn:SL Str)(ln:SL EN):Prop where
 k:∀p∈kn,PyData.strOk p.2=true
 l:∀p∈ln,SI 2 (enD p.2)
theorem zr6{c:Str}{k:Nat}{ns:List Str}{vs:List D}{μ:Mu}{Q:DK}(h:μ k=some (.ins c ns vs)):zul c [.cell k, .cls c] μ Q=Q (.bl true) μ:=by
 show(c=c/\ziq μ (.cell k) fun c2 _ _=>c2=c/\Q (.bl true) μ)=_;rw[zfA,h,zgo];simp
theorem zrD{μ:Mu}{k ck cl k' ck' cl':Nat}{kn kn':SL Str}{ln ln':SL EN}{Q:DK}(A:zae μ k ck cl kn ln)(B:zae μ k' ck' cl' kn' ln')(V:zj4 kn ln)(V':zj4 kn' ln')
  (q:∀b:Bool,(b=true↔zcH kn kn'/\zcH ln ln')->Q (.bl b) μ):zaJ [.cell k, .cell k'] μ Q:=by
 refine⟨rfl,?_⟩;have q':∀b:Bool,(b=true↔zcH kn kn'/\zcH ln ln')->∃d2,MLe d2 μ/\Q (.bl b) d2:=fun b hb=>⟨_, .refl _,q b hb⟩
 rw_mod_cast [zr6 B.o,A.o,B.o];refine zrQ (f:=D.str) (g:=PyData.str) (n:=0) (fun b=>by unfold toPy;rfl) (fun a b e=>D.str.inj e) (by decide) A.a B.a (fun p hp=>V.k p hp) (fun p hp=>V'.k p hp) fun b hb=>?_
 cases b with
 | false =>
  rw_mod_cast [];exact q' false ⟨fun z=>(by cases z),fun z=>by have:=hb.mpr z.1;cases this⟩
 | true =>
  rw_mod_cast [A.o,B.o];refine zrQ (f:=enD) (g:=enP) (n:=2) zwC zuY (by decide) A.b B.b (fun p hp=>V.l p hp) (fun p hp=>V'.l p hp) fun b2 hb2=>?_
  exact q' b2 ⟨fun z=>⟨hb.mp rfl,hb2.mp z⟩,fun z=>hb2.mpr z.2⟩
theorem ztu{α:Type}[DecidableEq α]:∀{l m:List α},l.Nodup->(∀y∈l,y∈m)->l.length<=m.length
 | [],m,_,_=>Nat.zero_le _
 | y::r,m,h,s=>by
  have hy:=s y List.mem_cons_self;have:=ztu (l:=r) (m:=m.erase y) (List.nodup_cons.mp h).2 (fun z hz=>by
   have ne:z≠y:=fun e=>(List.nodup_cons.mp h).1 (by rw[<- e];exact hz)
   exact(List.mem_erase_of_ne ne).mpr (s z (List.mem_cons_of_mem _ hz)))
  rw[List.length_erase_of_mem hy] at this;have:=List.length_pos_of_mem hy;rw[List.length_cons];omega
theorem zcH.look{β:Type}{l l':SL β}(h:zcH l l')(nd:(l.map (·.1)).Nodup)(nd':(l'.map (·.1)).Nodup)(x:Str):zb1 l x=zb1 l' x:=by
 cases e:zb1 l x with
 | some b=>exact(h.2 _ (zgx e)).symm
 | none =>
  cases e':zb1 l' x with
  | none=>rfl
  | some b =>
   exfalso;have hx:x∉l.map (·.1):=fun z=>by have:=zfv.mpr z;rw[e] at this;cases this
   have hx':x∈l'.map (·.1):=zfv.mp (by rw[e'];rfl);have sub:∀y∈l.map (·.1),y∈(l'.map (·.1)).erase x:=fun y hy=>by
    obtain⟨p,hp,e2⟩:=List.mem_map.mp hy;have hy':y∈l'.map (·.1):=zfv.mp (by rw[<- e2,h.2 p hp];rfl);have ne:y≠x:=fun z=>hx (by rw[<- z];exact hy)
    exact(List.mem_erase_of_ne ne).mpr hy'
   have h1:=ztu nd sub;rw[List.length_erase_of_mem hx',List.length_map,List.length_map,h.1] at h1;have:=List.length_pos_of_mem hx';rw[List.length_map] at this;omega
theorem zcH.of{β:Type}{l l':SL β}(p:List.Perm l l')(nd:(l.map (·.1)).Nodup):zcH l l':=⟨p.length_eq,fun q hq=>zni ((p.map (·.1)).nodup_iff.mp nd) (p.mem_iff.mp hq)⟩
set_option synthInstance.maxHeartbeats 4000000
set_option synthInstance.maxSize 100000
set_option maxHeartbeats 4000000
theorem zjQ.uniq{ls:List LR}{ln ln':SL EN}(h:zjQ ls ln)(h':zjQ ls ln'):ln=ln':=by
 apply List.ext_getElem?;intro i;by_cases hi:i < ls.length
 .obtain⟨S,E,e,s1,s2⟩:=h.2 i ls[i] (List.getElem?_eq_getElem hi);obtain⟨S',E',e',s1',s2'⟩:=h'.2 i ls[i] (List.getElem?_eq_getElem hi);rw[e,e',s1.uniq s1',s2.uniq s2']
 .rw[List.getElem?_eq_none (show ln.length<=i by rw[h.1];omega),List.getElem?_eq_none (show ln'.length<=i by rw[h'.1];omega)]
set_option synthInstance.maxHeartbeats 4000000
set_option synthInstance.maxSize 100000
set_option maxHeartbeats 4000000
theorem zsa{S' E':List Str}{w:Int}(hs:∀y∈S',Nm y)(he:∀y∈E',Nm y):SI 2 (enD (S',E',w)):=by
 intro d hd;simp only[List.mem_cons,List.not_mem_nil,or_false] at hd;rcases hd with rfl | rfl | rfl
 .intro d hd;obtain⟨y,hy,rfl⟩:=List.mem_map.mp hd;exact zcM (hs y hy)
 .intro d hd;obtain⟨y,hy,rfl⟩:=List.mem_map.mp hd;exact zcM (he y hy)
 .trivial
theorem zoU:PyData.strOk (Str.ofString "house")=true/\PyData.strOk (Str.ofString "gate")=true/\PyData.strOk (Str.ofString "line")=true:=by decide+kernel
set_option synthInstance.maxHeartbeats 4000000
set_option synthInstance.maxSize 100000
set_option maxHeartbeats 4000000
theorem zsu{α:Type}{g:DG}{we:DE}{ρb:zag}{μ:Mu}{Fin:List D->Mu->Prop}{Pm:Mu->Prop}(xs:List α)(f:α->D)(p:α->Bool)(hl:xs.length<=1000)(step:∀x∈xs,∀Q:DK,Q (.bl (p x)) μ->g (f x) ρb μ fun ρ2 μ2=>we ρ2 μ2 Q)(fin:Fin ((xs.map p).map D.bl) μ)(hP:Pm μ):zbD g zhr we ρb Pm Fin (xs.map f) [] μ:=by
 have hz:(1000:Nat)<=sizeLine:=by decide
 refine zdm (fun i ys μ'=>μ'=μ/\ys=((xs.take i).map p).map D.bl) ⟨rfl,rfl⟩ ?_ ?_ (fun i ys μ' h=>h.1▸hP)
 .rintro i d ys μ' hd ⟨rfl,rfl⟩;rw[List.getElem?_map] at hd;cases hx:xs[i]? with
  | none=>rw[hx] at hd;cases hd
  | some x =>
   rw[hx] at hd;cases hd;have hi:=(List.getElem?_eq_some_iff.mp hx).1;refine⟨by simp;omega,fun N hN=>step x (List.mem_of_getElem? hx) _ (hN _ _ ⟨rfl,?_⟩)⟩;rw[List.take_add_one,hx];simp
 .rintro ys μ' ⟨rfl,rfl⟩;rw[List.length_map,List.take_length];exact fin
def Asc(x:Str):Prop:=x.cps.all (· < 128)=true/\x.length<=1000
def azB(c:Nat):Bool:=decide (97<=c/\c<=122)
theorem zsi{x:Str}:Nm x↔(1<=x.length/\x.length<=8)/\(x.cps.toList.map azB).all id=true:=by
 constructor
 .intro h;refine⟨zoj h,?_⟩;rw[List.all_map,List.all_eq_true];intro c hc;exact decide_eq_true (h.az c hc)
 .rintro⟨⟨h1,h2⟩,h3⟩;rw[List.all_map,List.all_eq_true] at h3;have e:x.cps.toList.length=x.length:=Array.length_toList;exact⟨by omega,by omega,fun c hc=>of_decide_eq_true (h3 c hc)⟩
theorem zp9{x:Str}{μ:Mu}{Q:DK}(h:Asc x)(q:∀b:Bool,(b=true↔Nm x)->Q (.bl b) μ):zb4 [.str x] μ Q:=by
 obtain⟨h1,h2⟩:=h;have hz:(1000:Nat)<=sizeLine:=by decide
 refine⟨rfl,?_⟩;walk_at "e"
 refine⟨rfl,?_⟩;walk_at "e"
 refine⟨by omega,?_⟩;have hn:=zsi (x:=x);by_cases c1:1<=x.length
 .by_cases c2:x.length<=8
  .rw_mod_cast [show decide ((1:Int)<=x.length)=true from decide_eq_true (by omega),show decide ((x.length:Int)<=8)=true from decide_eq_true (by omega),znk h1];refine⟨by decide,zsu x.cps.toList _ azB (by have e:x.cps.toList.length=x.length:=Array.length_toList;omega) (fun c hc Q' q'=>?_) ?_ trivial⟩
   .have hc2:c < 128:=by
     rw[<- Array.all_toList,List.all_eq_true] at h1;exact of_decide_eq_true (h1 c hc)
    have e:=zgN ⟨c,hc2⟩;walk_at "e"
    rw[show zkx (Str.ofString "abcdefghijklmnopqrstuvwxyz") ⟨#[c]⟩=azB c from e];exact q'
   .rw_mod_cast [];exact⟨_, .refl _,_, .refl _,q _ ⟨fun z=>hn.mpr ⟨⟨c1,c2⟩,z⟩,fun z=>(hn.mp z).2⟩⟩
  .rw_mod_cast [show decide ((1:Int)<=x.length)=true from decide_eq_true (by omega),show decide ((x.length:Int)<=8)=false from decide_eq_false (by omega)];exact⟨_, .refl _,_, .refl _,q _ ⟨(fun z=>by cases z),fun z=>absurd (hn.mp z).1.2 c2⟩⟩
 .rw_mod_cast [show decide ((1:Int)<=x.length)=false from decide_eq_false (by omega)];exact⟨_, .refl _,_, .refl _,q _ ⟨(fun z=>by cases z),fun z=>absurd (hn.mp z).1.1 c1⟩⟩
theorem zeW{x:Str}{μ:Mu}{Q:DK}{X0:DX}(h:Asc x)(q:Nm x->Q .non μ)(x0:¬ Nm x->X0 "BadName" μ):zbb [.str x] μ Q X0:=by
 refine⟨rfl,?_⟩;walk_at "e"
 refine zp9 h fun b hb=>?_
 cases b with
 | true =>
  walk_at "e"
  exact⟨_, .refl _,q (hb.mp rfl)⟩
 | false =>
  walk_at "e"
  have hz:(10000:Nat)<=sizeLine:=by decide
  have h2:=h.2;have e1:(Str.empty++Str.ofString "not a name: ").length=12:=rfl;have e2:(Str.empty++Str.ofString "not a name: "++x).length=12+x.length:=by rw[strLen_append,e1]
  exact⟨by omega,by omega,by omega,by omega,by decide,_, .refl _,x0 fun z=>by have:=hb.mpr z;cases this⟩
theorem zsn{x:Str}(h:Nm x):Asc x:=⟨zmV h,by have:=zoj h;omega⟩
theorem zzd(x:Str)(h:x∈(["","abcdefghi","Ab","a b","a1","a_b","a.b","-"]:List Str)):Asc x/\¬ Nm x:=by
 simp only[List.mem_cons,List.not_mem_nil,or_false] at h;rcases h with rfl | rfl | rfl | rfl | rfl | rfl | rfl | rfl<;>exact⟨⟨by decide+kernel,by decide+kernel⟩,by rw[zsi];decide+kernel⟩
set_option synthInstance.maxHeartbeats 4000000
set_option synthInstance.maxSize 100000
set_option maxHeartbeats 4000000
theorem kif{c K:Str}{k:Nat}{ls:List Str}{u:DS}{D':zba}{μ:Mu}(hc:c∈zaN)(hK:K∈za1)(hl:ls.length < 100)(h:u D' [some (.exc c),some (.cell k)] (zV μ k (.lst ((ls++if (c==K)=true then[K] else[]).map D.str)))) :
  zF (zat (zK (dCB (zc0 zaN za1) (za (zc 0) (za (dC (.cls K)) zm)))) (zO (dBM "list" zW (zc 1) (za (dC (.str K)) zm))) zab) u D' [some (.exc c),some (.cell k)] (zV μ k (.lst (ls.map D.str))):=by
 have hs:(100:Nat)<=sizeLine:=by decide
 walk_at "e"
 refine⟨hc,hK,?_⟩;cases e:(c==K) with
 | false =>
  rw[e] at h;walk_at "e"
  simpa using h
 | true =>
  rw[e] at h;walk_at "e"
  refine⟨by rw[List.length_map];omega,?_⟩;rw[zcp];simpa using h
def zrs(c:Str)(ls:List Str)(K:Str):List Str:=ls++if (c==K)=true then[K] else[]
theorem zrH{c:Str}{ls:List Str}{K:Str}:(zrs c ls K).length<=ls.length+1:=by
 unfold zrs;rw[List.length_append];split<;>simp
theorem zeO{c K:Str}{k n:Nat}{ls:List Str}{u:DS}{D':zba}{μ:Mu}(hl:ls.length<=n)(hc:c∈zaN)(hK:K∈za1)(hn:n < 100)(h:(zrs c ls K).length<=n+1->u D' [some (.exc c),some (.cell k)] (zV μ k (.lst ((zrs c ls K).map D.str)))) :
  zF (zat (zK (dCB (zc0 zaN za1) (za (zc 0) (za (dC (.cls K)) zm)))) (zO (dBM "list" zW (zc 1) (za (dC (.str K)) zm))) zab) u D' [some (.exc c),some (.cell k)] (zV μ k (.lst (ls.map D.str))) :=
 kif hc hK (by omega) (h (Nat.le_trans zrH (by omega)))
def zvc(c:Str)(Ks:List Str):List Str:=Ks.foldl (zrs c) []
theorem zuj{c:Str}{μ:Mu}{Q:DK}(hc:c∈zaN)(q:Q (.lst ((zvc c ["BadName","BadNumber","BadWay","BadEnds","BadLine","Taken","NoName","InUse","Full"]).map D.str)) μ):zbj [.exc c] μ Q:=by
 refine⟨rfl,?_⟩;refine stp fun N1 h1=>?_
 walk_at "e"
 refine⟨by decide,fun k hk=>h1 _ _ ?_⟩;refine zeO (ls:=[]) (n:=0) (Nat.le_refl _) hc (by decide) (by decide) fun l=>?_
 refine zeO l hc (by decide) (by decide) fun l=>?_
 refine zeO l hc (by decide) (by decide) fun l=>?_
 refine zeO l hc (by decide) (by decide) fun l=>?_
 refine zeO l hc (by decide) (by decide) fun l=>?_
 refine zeO l hc (by decide) (by decide) fun l=>?_
 refine zeO l hc (by decide) (by decide) fun l=>?_
 refine zeO l hc (by decide) (by decide) fun l=>?_
 refine zeO l hc (by decide) (by decide) fun l=>?_
 walk_at "e"
 rw[zkH hk];exact⟨_, .refl _,q⟩
theorem zuq{c:Str}{μ:Mu}{Q:DK}(hc:c∈zaN)(q:Q (.lst ((zvc c ["Tight","Late","Heavy","NoPlan","NoRoom","NoStep","TooFew","BadPage"]).map D.str)) μ):zbi [.exc c] μ Q:=by
 refine⟨rfl,?_⟩;refine stp fun N1 h1=>?_
 walk_at "e"
 refine⟨by decide,fun k hk=>h1 _ _ ?_⟩;refine zeO (ls:=[]) (n:=0) (Nat.le_refl _) hc (by decide) (by decide) fun l=>?_
 refine zeO l hc (by decide) (by decide) fun l=>?_
 refine zeO l hc (by decide) (by decide) fun l=>?_
 refine zeO l hc (by decide) (by decide) fun l=>?_
 refine zeO l hc (by decide) (by decide) fun l=>?_
 refine zeO l hc (by decide) (by decide) fun l=>?_
 refine zeO l hc (by decide) (by decide) fun l=>?_
 refine zeO l hc (by decide) (by decide) fun l=>?_
 walk_at "e"
 rw[zkH hk];exact⟨_, .refl _,q⟩
theorem zvg:∀c∈zaN,zvc c ["BadName","BadNumber","BadWay","BadEnds","BadLine","Taken","NoName","InUse","Full"]++zvc c ["Tight","Late","Heavy","NoPlan","NoRoom","NoStep","TooFew","BadPage"]=[c]:=by decide+kernel
theorem zcE{c:Str}{μ:Mu}{Q:DK}(hc:c∈zaN)(q:Q (.str c) μ):zc4 [.exc c] μ Q:=by
 refine⟨rfl,?_⟩;refine stp fun N1 h1=>?_
 walk_at "e"
 refine zuj hc (zuq hc ?_);have e:=congrArg (List.map D.str) (zvg c hc);rw[List.map_append] at e;have e2:=congrArg List.length e;rw[List.length_append] at e2;walk_at "e"
 refine⟨by rw[e2];exact(show 1<=sizeLine by decide),?_⟩;rw[e];refine h1 _ _ ?_;walk_at "e"
 exact⟨hc,_, .refl _,q⟩
set_option synthInstance.maxHeartbeats 4000000
set_option synthInstance.maxSize 100000
set_option maxHeartbeats 4000000
theorem WD.mv{μ μ':Mu}{s na la:Nat}{ns ns':List Str}{ls:List LR}(W:WD μ s na la ns ls)(k:∀j c,μ j=some c->j≠na->μ' j=some c)(hn:μ' na=some (.lst (ns'.map D.str))):WD μ' s na la ns' ls :=
 ⟨k _ _ W.ds W.sna,hn,k _ _ W.dl W.nl.symm,W.nl,fun r hr=>⟨k _ _ (W.rs r hr).1 (W.ap r hr).1,k _ _ (W.rs r hr).2 (W.ap r hr).2.2.1⟩,W.ap,W.nd⟩
theorem zae.keep{μ μ':Mu}{k ck cl:Nat}{kn:SL Str}{ln:SL EN}(A:zae μ k ck cl kn ln)(h:∀j c,μ j=some c->(j=k\/j=ck\/j=cl)->μ' j=some c):zae μ' k ck cl kn ln :=
 ⟨h _ _ A.o (.inl rfl),h _ _ A.a (.inr (.inl rfl)),h _ _ A.b (.inr (.inr rfl)),A.ne,A.nd⟩
section
variable{μ:Mu}{k ck cl k' ck' cl':Nat}{kn kn':SL Str}{ln ln':SL EN}{Q:DK}
theorem zq4(A:zae μ k ck cl kn ln)(B:zae μ k' ck' cl' kn' ln')(V:zj4 kn ln)(V':zj4 kn' ln')(q:∀b:Bool,(b=true↔zcH kn kn'/\zcH ln ln')->Q (.bl b) μ):zpN "Net" zaJ (.cell k) (.cell k') μ Q:=by
 refine⟨by rw[zfA,A.o,zgo],?_,zrD A B V V' q⟩;show ziq μ (.cell k') fun c' _ _=>c'=_
 rw[zfA,B.o,zgo]
theorem zqI(A:zae μ k ck cl kn ln)(B:zae μ k' ck' cl' kn' ln')(V:zj4 kn ln)(V':zj4 kn' ln')(h:zcH kn kn'/\zcH ln ln')(q:Q (.bl true) μ):zpN "Net" zaJ (.cell k) (.cell k') μ Q :=
 zq4 A B V V' fun b hb=>by rw[hb.mpr h];exact q
theorem zrP(A:zae μ k ck cl kn ln)(B:zae μ k' ck' cl' kn' ln')(V:zj4 kn ln)(V':zj4 kn' ln')(h:¬ (zcH kn kn'/\zcH ln ln'))(q:Q (.bl false) μ):zpN "Net" zaJ (.cell k) (.cell k') μ Q :=
 zq4 A B V V' fun b hb=>by
  cases b with
  | false=>exact q
  | true=>exact absurd (hb.mp rfl) h
theorem zkl(N:zae μ k ck cl kn ln)(hz:kn.length < 64)(q:∀ns',Srt (kn.map (·.1)) ns'->Q (.lst (ns'.map D.str)) μ):zbE [.cell k] μ Q:=by
 refine⟨rfl,?_⟩;rw_mod_cast [N.o];refine zrz (ns:=kn.map (·.1)) (vs:=vsS D.str kn) (by rw[N.a,zu1]) (by rw[List.length_map];exact hz) fun ns' p1 p2=>?_
 exact⟨_, .refl _,q ns' ⟨p1,p2⟩⟩
end
set_option synthInstance.maxHeartbeats 4000000
set_option synthInstance.maxSize 100000
set_option maxHeartbeats 4000000
theorem zwo{b:Bool}{μ:Mu}{Q:DK}(q:Q (.bl false) μ):zbf [.bl b] μ Q:=by
 refine⟨rfl,?_⟩;walk_at "e"
 exact⟨_, .refl _,q⟩
theorem zsD{i:Int}{μ:Mu}{Q:DK}{X0:DX}(q:Q .non μ):zaV [.int i] μ Q X0:=by
 refine⟨rfl,?_⟩;walk_at "e"
 refine zq7 ?_;walk_at "e"
 exact⟨_, .refl _,q⟩
theorem zry{b:Bool}{μ:Mu}{Q:DK}{X0:DX}(x:X0 "BadNumber" μ):zaV [.bl b] μ Q X0:=by
 refine⟨rfl,?_⟩;walk_at "e"
 refine zwo ?_;walk_at "e"
 exact⟨by decide,_, .refl _,x⟩
theorem zs5{b:Bool}{lo hi:D}{μ:Mu}{Q:DK}{X0:DX}(x:X0 "BadNumber" μ):zaE [.bl b,lo,hi] μ Q X0:=by
 refine⟨rfl,stp fun N1 h1=>?_⟩;walk_at "e"
 exact zry ⟨_, .refl _,x⟩
theorem zmu{i lo hi:Int}{μ:Mu}{Q:DK}{X0:DX}(q:lo<=i->i<=hi->Q .non μ)(x:(i < lo\/hi < i)->X0 "BadNumber" μ):zaE [.int i, .int lo, .int hi] μ Q X0:=by
 refine⟨rfl,stp fun N1 h1=>?_⟩;walk_at "e"
 refine zsD (h1 _ _ ?_);by_cases c1:lo<=i
 .by_cases c2:i<=hi
  .rw_mod_cast [decide_eq_true c1,decide_eq_true c2];exact⟨_, .refl _,q c1 c2⟩
  .rw_mod_cast [decide_eq_true c1,decide_eq_false c2];exact⟨by decide,_, .refl _,x (.inr (by omega))⟩
 .rw_mod_cast [decide_eq_false c1];exact⟨by decide,_, .refl _,x (.inl (by omega))⟩
theorem zwp{x:Str}(h:Nm x):∃out,zeV x=some out/\out.length<=sizeLine:=by
 obtain⟨a,b,c,d,e⟩:∃a b c d,zlw (zbo zeD)=[.Constant (.str "there is no such name: ") a b, .FormattedValue (.Name "name" c) (-1) none d]:=⟨_,_,_,_,rfl⟩;have hl:x.length<=8:=by have:=h.l8;rw[Array.length_toList] at this;exact this
 have hz:(1000:Nat)<=sizeLine:=by decide
 have e1:(Str.empty++Str.ofString "there is no such name: ").length=23:=by decide+kernel
 have e2:(Str.empty++Str.ofString "there is no such name: "++x).length=23+x.length:=by
  show((Str.empty++Str.ofString "there is no such name: ").cps++x.cps).size=_;rw[Array.size_append];exact congrArg (·+ x.cps.size) e1
 refine⟨Str.empty++Str.ofString "there is no such name: "++x,?_,by omega⟩;have s1:∀(y z:Str) (r:List Expr) acc,fText "name" z (.Constant (.str y) a b::r) acc=if (acc++y).length<=sizeLine then fText "name" z r (acc++y) else none:=fun _ _ _ _=>rfl
 have s2:∀(z:Str) (r:List Expr) acc,fText "name" z (.FormattedValue (.Name "name" c) (-1) none d::r) acc=if Str.ofString "name"=Str.ofString "name"/\(Str.ofString "name"==("__debug__":Str))=false/\(acc++z).length<=sizeLine/\z.length<=sizeLine then fText "name" z r (acc++z) else none:=fun _ _ _=>rfl
 unfold zeV;rw[e,s1,if_pos (by omega),s2,if_pos ⟨rfl,by decide+kernel,by omega,by omega⟩];rfl
theorem zwT{x:Str}(h:Nm x):∃out,zgH x=some out/\out.length<=sizeLine:=by
 obtain⟨a,b,c,d,a',b',e⟩:∃a b c d a' b',zlw (zbo zeX)=[.Constant (.str "the name ") a b, .FormattedValue (.Name "name" c) (-1) none d, .Constant (.str " is there already") a' b']:=⟨_,_,_,_,_,_,rfl⟩;have hl:x.length<=8:=by have:=h.l8;rw[Array.length_toList] at this;exact this
 have hz:(1000:Nat)<=sizeLine:=by decide
 have e1:(Str.empty++Str.ofString "the name ").length=9:=by decide+kernel
 have e2:(Str.empty++Str.ofString "the name "++x).length=9+x.length:=by
  show((Str.empty++Str.ofString "the name ").cps++x.cps).size=_;rw[Array.size_append];exact congrArg (·+ x.cps.size) e1
 have e0:(Str.ofString " is there already").length=17:=by decide+kernel
 have e3:(Str.empty++Str.ofString "the name "++x++Str.ofString " is there already").length=26+x.length:=by
  show((Str.empty++Str.ofString "the name "++x).cps++(Str.ofString " is there already").cps).size=_;rw[Array.size_append];have e2':(Str.empty++Str.ofString "the name "++x).cps.size=9+x.length:=e2;have e0':(Str.ofString " is there already").cps.size=17:=e0;omega
 refine⟨Str.empty++Str.ofString "the name "++x++Str.ofString " is there already",?_,by omega⟩;have s1:∀(y z:Str) (r:List Expr) acc a b,fText "name" z (.Constant (.str y) a b::r) acc=if (acc++y).length<=sizeLine then fText "name" z r (acc++y) else none:=fun _ _ _ _ _ _=>rfl
 have s2:∀(z:Str) (r:List Expr) acc,fText "name" z (.FormattedValue (.Name "name" c) (-1) none d::r) acc=if Str.ofString "name"=Str.ofString "name"/\(Str.ofString "name"==("__debug__":Str))=false/\(acc++z).length<=sizeLine/\z.length<=sizeLine then fText "name" z r (acc++z) else none:=fun _ _ _=>rfl
 unfold zgH;rw[e,s1,if_pos (by omega),s2,if_pos ⟨rfl,by decide+kernel,by omega,by omega⟩,s1,if_pos (by omega)];rfl
theorem zlg{x:Str}{μ:Mu}{Q:DK}{X0:DX}(h:x∈(["","abcdefghi","Ab","a b","a1","a_b","a.b","-"]:List Str))(x0:X0 "BadName" μ):zbb [.str x] μ Q X0 :=
 zeW (zzd x h).1 (fun z=>absurd z (zzd x h).2) fun _=>x0
def zbZ(es:List Str):Prop:=es≠[]/\es.length<=6/\es.Nodup
def NodeOk(kn:SL Str)(ln:SL EN)(y:Str):Prop:=y∈kn.map (·.1)/\y∉ln.map (·.1)
section
variable{μ:Mu}{k ck cl:Nat}{kn:SL Str}{ln:SL EN}{x:Str}{Q:DK}{X0:DX}
theorem zon(N:zae μ k ck cl kn ln)(hx:Nm x)(h:x∉kn.map (·.1))(q:Q .non μ):zX [.cell k, .str x] μ Q X0:=by
 refine⟨rfl,stp fun N1 h1=>?_⟩;rw_mod_cast [];refine zeW (zsn hx) (fun _=>h1 _ _ ?_) fun z=>absurd hx z
 rw_mod_cast [zhU,N.o,zdl,N.a,zcd,zdw,decide_eq_false (fun z=>h (zbv.mp z)),Bool.false_xor];exact⟨_, .refl _,q⟩
theorem zdU(N:zae μ k ck cl kn ln)(hx:Nm x)(h:x∈kn.map (·.1))(q:X0 (zbz "Taken" x) μ):zX [.cell k, .str x] μ Q X0:=by
 obtain⟨out,hf,hz⟩:=zwT hx;refine⟨rfl,stp fun N1 h1=>?_⟩;rw_mod_cast [];refine zeW (zsn hx) (fun _=>h1 _ _ ?_) fun z=>absurd hx z
 rw_mod_cast [zhU,N.o,zdl,N.a,zcd,zdw,decide_eq_true (zbv.mpr h),Bool.false_xor,zfy];exact⟨⟨out,hf,hz⟩,_, .refl _,q⟩
theorem zeR(h:x∈(["","abcdefghi","Ab","a b","a1","a_b","a.b","-"]:List Str))(q:X0 "BadName" μ):zX [.cell k, .str x] μ Q X0:=by
 refine⟨rfl,stp fun N1 h1=>?_⟩;rw_mod_cast [];exact zlg h ⟨_, .refl _,q⟩
theorem zdI{d:D}(N:zae μ k ck cl kn ln)(h:∀Q',zX [.cell k, .str x] μ Q' fun c μ'=>∃d2,MLe d2 μ'/\X0 c d2):zaU [.cell k, .str x,d] μ Q X0:=by
 refine⟨rfl,stp fun N1 h1=>?_⟩;rw_mod_cast [N.o];exact h _
theorem zmw{es:List Str}(hl:es.length<=10)(q:zbZ es->Q .non μ)(x0:¬ zbZ es->X0 "BadEnds" μ):zbd [.tup (es.map D.str)] μ Q X0:=by
 have hz:(1000:Nat)<=sizeLine:=by decide
 refine⟨rfl,stp fun N1 h1=>?_⟩;by_cases c1:1<=es.length
 .by_cases c6:es.length<=6
  .rw_mod_cast [List.length_map,decide_eq_true (show(1:Int)<=(es.length:Int) by omega),decide_eq_true (show(es.length:Int)<=6 by omega)];refine h1 _ _ ?_;rw_mod_cast [];refine⟨es,rfl,by omega,?_⟩;by_cases hn:es.Nodup
   .rw[zh0 hn,List.length_map];rw_mod_cast [show decide ((es.length:Int) < es.length)=false from decide_eq_false (by omega)];exact⟨_, .refl _,q ⟨fun z=>(by rw[z] at c1;cases c1),c6,hn⟩⟩
   .have hm:=zrX hn;rw[List.length_map];rw_mod_cast [decide_eq_true (show(zgG es:Int) < es.length by omega)];exact⟨by decide,_, .refl _,x0 fun z=>hn z.2.2⟩
  .rw_mod_cast [List.length_map,decide_eq_true (show(1:Int)<=(es.length:Int) by omega),decide_eq_false (show ¬ (es.length:Int)<=6 by omega)];exact⟨by decide,_, .refl _,x0 fun z=>c6 z.2.1⟩
 .rw_mod_cast [List.length_map,decide_eq_false (show ¬ (1:Int)<=(es.length:Int) by omega)];exact⟨by decide,_, .refl _,x0 fun z=>by have:=List.length_pos_iff.mpr z.1;omega⟩
theorem zke{es:List Str}(N:zae μ k ck cl kn ln)(nm:∀y∈es,Nm y)(q:(∀y∈es,NodeOk kn ln y)->Q .non μ)(x0:∀i z,es[i]? = some z->(∀y∈es.take i,NodeOk kn ln y)->¬ NodeOk kn ln z->X0 (zbz "NoName" z) μ):zaD [.cell k, .tup (es.map D.str)] μ Q X0:=by
 refine⟨rfl,?_⟩;rw_mod_cast [];refine zbF (fun i ρ μ'=>∃x2,ρ=[some (.cell k),some (.tup (es.map D.str)),x2]/\μ'=μ/\∀y∈es.take i,NodeOk kn ln y) ⟨_,rfl,rfl,by simp⟩ ?_ ?_
 .rintro i d ρ μ' hd ⟨x2,rfl,rfl,hp⟩ N' hN;rw[List.getElem?_map] at hd;obtain⟨y,hy,rfl⟩:=Option.map_eq_some_iff.mp hd;have ny:=nm y (List.mem_of_getElem? hy);obtain⟨out,hf,hz⟩:=zwp ny;by_cases c1:y∈kn.map (·.1)
  .by_cases c2:y∈ln.map (·.1)
   .rw_mod_cast [zhU,N.o,zdl,N.a,N.b,zcd,zdw,decide_eq_true (zbv.mpr c1),decide_eq_true (zbv.mpr c2),Bool.false_xor,Bool.true_xor,zfy];exact⟨⟨out,hf,hz⟩,_, .refl _,x0 i y hy hp fun z=>z.2 c2⟩
   .rw_mod_cast [zhU,N.o,zdl,N.a,N.b,zcd,zdw,decide_eq_true (zbv.mpr c1),decide_eq_false (fun z=>c2 (zbv.mp z)),Bool.false_xor,Bool.true_xor];refine hN _ _ ⟨_,rfl,rfl,fun y' hy'=>?_⟩;rw[List.take_add_one,hy] at hy';rcases List.mem_append.mp hy' with h | h
    .exact hp y' h
    .rw[List.mem_singleton.mp h];exact⟨c1,c2⟩
  .rw_mod_cast [zhU,N.o,zdl,N.a,N.b,zcd,zdw,decide_eq_false (fun z=>c1 (zbv.mp z)),Bool.false_xor,Bool.true_xor,zfy];exact⟨⟨out,hf,hz⟩,_, .refl _,x0 i y hy hp fun z=>c1 z.1⟩
 .rintro ρ μ' ⟨x2,rfl,rfl,hp⟩;rw[List.length_map,List.take_length] at hp;exact⟨_, .refl _,q hp⟩
theorem zkd{Sd Ed wd:D}(N:zae μ k ck cl kn ln)(h:∀Q',zX [.cell k, .str x] μ Q' fun c μ'=>∃d2,MLe d2 μ'/\X0 c d2):zQ [.cell k, .str x,Sd,Ed,wd] μ Q X0:=by
 refine⟨rfl,stp fun N1 h1=>?_⟩;rw_mod_cast [N.o];exact h _
theorem zgZ{S E:List Str}{wd:D}(N:zae μ k ck cl kn ln)(hx:Nm x)(h:x∉kn.map (·.1))(hl:ln.length < 16)(sl:S.length<=10)(el:E.length<=10)(sn:zbZ S->∀y∈S,Nm y)(en:∀y∈E,Nm y)
  (x1:¬ zbZ S->X0 "BadEnds" μ)(x2:zbZ S->¬ zbZ E->X0 "BadEnds" μ)
  (x3:zbZ S->zbZ E->∀i z,S[i]? = some z->(∀y∈S.take i,NodeOk kn ln y)->¬ NodeOk kn ln z->X0 (zbz "NoName" z) μ)
  (x4:zbZ S->zbZ E->(∀y∈S,NodeOk kn ln y)->∀i z,E[i]? = some z->(∀y∈E.take i,NodeOk kn ln y)->¬ NodeOk kn ln z->X0 (zbz "NoName" z) μ)
  (x5:zbZ S->zbZ E->(∀y∈S,NodeOk kn ln y)->(∀y∈E,NodeOk kn ln y)->∀Q',zaE [wd, .int 0, .int 30] μ Q' fun c μ'=>∃d2,MLe d2 μ'/\X0 c d2):zQ [.cell k, .str x, .tup (S.map D.str), .tup (E.map D.str),wd] μ Q X0:=by
 refine⟨rfl,stp fun N1 h1=>?_⟩;rw_mod_cast [N.o];refine zon N hx h (h1 _ _ (stp fun N2 h2=>?_));rw_mod_cast [N.o,znS,zlS,N.b,zf8,zdG,decide_eq_false (show ¬ (16:Int)<=(ln.length:Int) by omega)];refine h2 _ _ (stp fun N3 h3=>?_);rw_mod_cast [];refine zmw sl (fun s1=>h3 _ _ (stp fun N4 h4=>?_)) fun z=>⟨_, .refl _,x1 z⟩
 rw_mod_cast [];refine zmw el (fun e1=>h4 _ _ (stp fun N5 h5=>?_)) fun z=>⟨_, .refl _,x2 s1 z⟩
 rw_mod_cast [N.o];refine zke N (sn s1) (fun s2=>h5 _ _ (stp fun N6 h6=>?_)) fun i z a b c=>⟨_, .refl _,x3 s1 e1 i z a b c⟩
 rw_mod_cast [N.o];refine zke N en (fun e2=>h6 _ _ (stp fun N7 h7=>?_)) fun i z a b c=>⟨_, .refl _,x4 s1 e1 s2 i z a b c⟩
 rw_mod_cast [];exact x5 s1 e1 s2 e2 _
end
set_option synthInstance.maxHeartbeats 4000000
set_option synthInstance.maxSize 100000
set_option maxHeartbeats 4000000
def zej(w:Int)(y l:Str):Str:=if w=2 then zbz "NoName" y else if w=3 then zbz "NoName" l else if w=4\/w=5\/w=6 then "BadNumber" else "BadEnds"
section
variable{μ:Mu}{k ck cl:Nat}{kn:SL Str}{ln:SL EN}{x y l a b:Str}{Q:DK}{X0:DX}
theorem zuI{w:Int}(w0:0<=w)(w9:w < 9)(N:zae μ k ck cl kn ln)(hx:Nm x)(hy:Nm y)(h:x∉kn.map (·.1))(hyn:y∉kn.map (·.1))(hl:ln.length < 16)(na:Nm a)(nb:Nm b)(nl:Nm l)(oa:NodeOk kn ln a)(ob:NodeOk kn ln b)(hll:l∈ln.map (·.1))(ab:a≠b)
  (x0:X0 (zej w y l) μ):zc3 [.int w, .cell k, .str x, .str y, .lst [.str a, .str b], .str l] μ Q X0:=by
 have hz:(1000:Nat)<=sizeLine:=by decide
 have la:l≠a:=fun z=>oa.2 (z▸hll)
 have lb:l≠b:=fun z=>ob.2 (z▸hll)
 have ya:y≠a:=fun z=>hyn (z▸oa.1)
 have yb:y≠b:=fun z=>hyn (z▸ob.1)
 have bad:¬ NodeOk kn ln y:=fun z=>hyn z.1
 have badl:¬ NodeOk kn ln l:=fun z=>z.2 hll
 have e2:zbZ [a,b]:=⟨by simp,by simp,by simp[ab]⟩;have el:zbZ [l,a,b]:=⟨by simp,by simp,by simp[ab,la,lb]⟩;have e3:zbZ [a,b,y]:=⟨by simp,by simp,by simp[ab,ya.symm,yb.symm]⟩;have n2:∀z∈[a,b],Nm z:=by simp[na,nb]
 have nl3:∀z∈[l,a,b],Nm z:=by simp[na,nb,nl]
 have n3:∀z∈[a,b,y],Nm z:=by simp[na,nb,hy]
 have o2:∀z∈[a,b],NodeOk kn ln z:=by simp[oa,ob]
 have ad:∀{z:Str},X0 z μ->∃d2,MLe d2 μ/\X0 z d2:=fun h=>⟨_, .refl _,h⟩
 have nob:∀{Y:Prop} (i:Nat) (z:Str),[a,b][i]? = some z->(∀y∈[a,b].take i,NodeOk kn ln y)->¬ NodeOk kn ln z->Y:=fun i z hi _ hb=>absurd (o2 z (List.mem_of_getElem? hi)) hb
 refine⟨rfl,stp fun N1 h1=>?_⟩;rw_mod_cast [];refine h1 _ _ ?_;obtain e | e | e | e | e | e | e | e | e:w=0\/w=1\/w=2\/w=3\/w=4\/w=5\/w=6\/w=7\/w=8:=by omega
 .have x0:X0 "BadEnds" μ:=by have:=x0;unfold zej at this;simpa [e] using this
  rw_mod_cast [N.o,decide_eq_true e];refine⟨by first | omega | decide | simp,zgZ (S:=[]) (E:=[a,b]) N hx h hl (by simp) (by simp) (fun z=>absurd rfl z.1) n2 (fun _=>ad x0) (fun z=>absurd rfl z.1) (fun z=>absurd rfl z.1) (fun z=>absurd rfl z.1) (fun z=>absurd rfl z.1)⟩
 .have x0:X0 "BadEnds" μ:=by have:=x0;unfold zej at this;simpa [e] using this
  rw_mod_cast [N.o,decide_eq_false (show ¬ w=0 by omega),decide_eq_true e,show cutD [D.str a,D.str b] none (some 1)=[D.str a] from rfl];refine⟨by first | omega | decide | simp,by first | omega | decide | simp,by first | omega | decide | simp,by first | omega | decide | simp,zgZ (S:=[a,b]) (E:=[a,a]) N hx h hl (by simp) (by simp) (fun _=>n2) (by simp[na]) (fun z=>absurd e2 z) (fun _ _=>ad x0) (fun _ z=>absurd z.2.2 (by simp)) (fun _ z=>absurd z.2.2 (by simp)) (fun _ z=>absurd z.2.2 (by simp))⟩
 .have x0:X0 (zbz "NoName" y) μ:=by have:=x0;unfold zej at this;simpa [e] using this
  rw_mod_cast [N.o,decide_eq_false (show ¬ w=0 by omega),decide_eq_false (show ¬ w=1 by omega),decide_eq_true e];refine⟨by first | omega | decide | simp,by first | omega | decide | simp,by first | omega | decide | simp,by first | omega | decide | simp,by first | omega | decide | simp,by first | omega | decide | simp,zgZ (S:=[a,b,y]) (E:=[l,a,b]) N hx h hl (by simp) (by simp) (fun _=>n3) nl3 (fun z=>absurd e3 z) (fun _ z=>absurd el z) (fun _ _=>?_) (fun _ _ z=>absurd (z y (by simp)) bad) (fun _ _ z=>absurd (z y (by simp)) bad)⟩;intro i z hi ht hb;obtain rfl:i=2:=by
   rcases i with _ | _ | _ | i
   .exact absurd (by cases hi;exact oa) hb
   .exact absurd (by cases hi;exact ob) hb
   .rfl
   .cases hi
  cases hi;exact ad x0
 .have x0:X0 (zbz "NoName" l) μ:=by have:=x0;unfold zej at this;simpa [e] using this
  rw_mod_cast [N.o,decide_eq_false (show ¬ w=0 by omega),decide_eq_false (show ¬ w=1 by omega),decide_eq_false (show ¬ w=2 by omega),decide_eq_true e];refine⟨by first | omega | decide | simp,by first | omega | decide | simp,by first | omega | decide | simp,zgZ (S:=[a,b]) (E:=[l,a,b]) N hx h hl (by simp) (by simp) (fun _=>n2) nl3 (fun z=>absurd e2 z) (fun _ z=>absurd el z) ?_ ?_ (fun _ _ _ z=>absurd (z l (by simp)) badl)⟩
  .exact fun _ _ i z=>nob i z
  .intro _ _ _ i z hi ht hb;obtain rfl:i=0:=by
    rcases i with _ | _ | _ | i
    .rfl
    .exact absurd (ht l (by simp)) badl
    .exact absurd (ht l (by simp)) badl
    .cases hi
   cases hi;exact ad x0
 .have x0:X0 "BadNumber" μ:=by have:=x0;unfold zej at this;simpa [e] using this
  rw_mod_cast [N.o,decide_eq_false (show ¬ w=0 by omega),decide_eq_false (show ¬ w=1 by omega),decide_eq_false (show ¬ w=2 by omega),decide_eq_false (show ¬ w=3 by omega),decide_eq_true e];refine zgZ (S:=[a,b]) (E:=[a,b]) N hx h hl (by simp) (by simp) (fun _=>n2) n2 (fun z=>absurd e2 z) (fun _ z=>absurd e2 z) (fun _ _ i z=>nob i z) (fun _ _ _ i z=>nob i z) (fun _ _ _ _ Q'=>zmu (fun _ z=>absurd z (by decide)) fun _=>⟨_, .refl _,ad x0⟩)
 .have x0:X0 "BadNumber" μ:=by have:=x0;unfold zej at this;simpa [e] using this
  rw_mod_cast [N.o,decide_eq_false (show ¬ w=0 by omega),decide_eq_false (show ¬ w=1 by omega),decide_eq_false (show ¬ w=2 by omega),decide_eq_false (show ¬ w=3 by omega),decide_eq_false (show ¬ w=4 by omega),decide_eq_true e];refine zgZ (S:=[a,b]) (E:=[a,b]) N hx h hl (by simp) (by simp) (fun _=>n2) n2 (fun z=>absurd e2 z) (fun _ z=>absurd e2 z) (fun _ _ i z=>nob i z) (fun _ _ _ i z=>nob i z) (fun _ _ _ _ Q'=>zmu (fun z _=>absurd z (by decide)) fun _=>⟨_, .refl _,ad x0⟩)
 .have x0:X0 "BadNumber" μ:=by have:=x0;unfold zej at this;simpa [e] using this
  rw_mod_cast [N.o,decide_eq_false (show ¬ w=0 by omega),decide_eq_false (show ¬ w=1 by omega),decide_eq_false (show ¬ w=2 by omega),decide_eq_false (show ¬ w=3 by omega),decide_eq_false (show ¬ w=4 by omega),decide_eq_false (show ¬ w=5 by omega),decide_eq_true e];refine zgZ (S:=[a,b]) (E:=[a,b]) N hx h hl (by simp) (by simp) (fun _=>n2) n2 (fun z=>absurd e2 z) (fun _ z=>absurd e2 z) (fun _ _ i z=>nob i z) (fun _ _ _ i z=>nob i z) (fun _ _ _ _ Q'=>zs5 ⟨_, .refl _,ad x0⟩)
 .have x0:X0 "BadEnds" μ:=by have:=x0;unfold zej at this;simpa [e] using this
  rw_mod_cast [N.o,decide_eq_false (show ¬ w=0 by omega),decide_eq_false (show ¬ w=1 by omega),decide_eq_false (show ¬ w=2 by omega),decide_eq_false (show ¬ w=3 by omega),decide_eq_false (show ¬ w=4 by omega),decide_eq_false (show ¬ w=5 by omega),decide_eq_false (show ¬ w=6 by omega),decide_eq_true e];refine⟨by first | omega | decide | simp,by first | omega | decide | simp,zgZ (S:=[y]) (E:=[y,y]) N hx h hl (by simp) (by simp) (fun _=>by simp[hy]) (by simp[hy]) (fun z=>absurd ⟨by simp,by simp,by simp⟩ z) (fun _ _=>ad x0) (fun _ z=>absurd z.2.2 (by simp)) (fun _ z=>absurd z.2.2 (by simp)) (fun _ z=>absurd z.2.2 (by simp))⟩
 .have x0:X0 "BadEnds" μ:=by have:=x0;unfold zej at this;simpa [e] using this
  rw_mod_cast [N.o,decide_eq_false (show ¬ w=0 by omega),decide_eq_false (show ¬ w=1 by omega),decide_eq_false (show ¬ w=2 by omega),decide_eq_false (show ¬ w=3 by omega),decide_eq_false (show ¬ w=4 by omega),decide_eq_false (show ¬ w=5 by omega),decide_eq_false (show ¬ w=6 by omega),decide_eq_false (show ¬ w=7 by omega)];refine⟨by first | omega | decide | simp,zgZ (S:=["a","b","c","d","e","f","g"]) (E:=[a,b]) N hx h hl (by decide) (by simp) (fun z=>absurd z.2.1 (by decide)) n2 (fun _=>ad x0) (fun z=>absurd z.2.1 (by decide)) (fun z=>absurd z.2.1 (by decide)) (fun z=>absurd z.2.1 (by decide)) (fun z=>absurd z.2.1 (by decide))⟩
end
set_option synthInstance.maxHeartbeats 4000000
set_option synthInstance.maxSize 100000
set_option maxHeartbeats 4000000
abbrev zsN:List Str:=["","abcdefghi","Ab","a b","a1","a_b","a.b","-"]
abbrev zzD:List Str:=["BadEnds","BadEnds","NoName","NoName","BadNumber","BadNumber","BadNumber","BadEnds","BadEnds","BadName","Taken","BadName","Taken","BadName","Taken"]
theorem zqO{s na la:Nat}{ho ga ns:List Str}{ls:List LR}{μ:Mu}{Q:DK}{rowsD slD:D}(W:WD μ s na la ns ls)(l14:ls.length<=14)(h2:2<=ho.length)(h4:ho.length<=4)(g3:ga.length<=3)
  (q:∀bad t,bad∈zsN->t∈ho++ga++ls.map LR.nm->Q (.lst [.str bad, .str t]) μ):zcF [.cell s, .tup [.lst (ho.map D.str), .lst (ga.map D.str), .cell la,rowsD,slD, .cell na]] μ Q:=by
 have hz:(1000:Nat)<=sizeLine:=by decide
 refine⟨rfl,stp fun N1 h1=>?_⟩;rw_mod_cast [];refine⟨by decide,W.ds,by decide,by decide,fun v v0 v1=>?_⟩;obtain⟨d,e1,e2⟩:=zhm (xs:=zsN.map D.str) v0 (by rw[List.length_map];exact v1);rw[List.getElem?_map] at e2;obtain⟨bad,hb,rfl⟩:=Option.map_eq_some_iff.mp e2;have hb:=List.mem_of_getElem? hb;have e1':atI [D.str "",D.str "abcdefghi",D.str "Ab",D.str "a b",D.str "a1",D.str "a_b",D.str "a.b",D.str "-"] v=some (D.str bad):=e1;rw_mod_cast [e1'];refine h1 _ _ ?_;rw_mod_cast [List.length_append,List.length_map,W.dl];refine⟨by omega,by decide,znH (fun d=>match d with
  | .lst (a::_)=>a
  | _=> .non) (by rw[List.length_map];omega) (fun d hd Q' q'=>?_) ?_ W.dl⟩
 .obtain⟨r,_,rfl⟩:=List.mem_map.mp hd;unfold zbm at q' ⊢;rw_mod_cast [];exact q'
 rw[List.map_map];have eT:ls.map ((fun d=>match d with
  | D.lst (a::_)=>a
  | _=> .non)∘zbm)=(ls.map LR.nm).map D.str:=by rw[List.map_map];rfl
 rw[eT];rw_mod_cast [List.length_map];rw[<- List.map_append,<- List.map_append];refine⟨by omega,zme W.ds (fun z=>?_) (by simp;omega) fun i d hi=>?_⟩
 .have:=congrArg List.length z;rw[List.length_map,List.length_append,List.length_append] at this;simp only[List.length_nil] at this;omega
 rw[List.getElem?_map] at hi;obtain⟨tk,ht,rfl⟩:=Option.map_eq_some_iff.mp hi;exact⟨by omega,_, .refl _,q bad tk hb (List.mem_of_getElem? ht)⟩
theorem zt3{wo wi wx:DE}{ρ:zag}{μ:Mu}{Q:DK}:zn0 wo wi wx ρ μ Q=wo ρ μ fun d μ1=>zgg μ1 d (fun _ _=>True)/\wi ρ μ1 fun e μ2=>wx ρ μ2 fun x μ3=>zgg μ3 d fun ks vs=>zbe (ziv e) fun k=>Q ((zbN ks vs k).getD x) μ3:=rfl
theorem zw0{ρ:zag}{μ:Mu}{Q:List D->List D->Mu->Prop}:zf5 [] ρ μ Q=Q [] [] μ:=rfl
theorem ztH{wk wv:DE}{r:List (DE×DE)}{ρ:zag}{μ:Mu}{Q:List D->List D->Mu->Prop}:zf5 ((wk,wv)::r) ρ μ Q=wk ρ μ fun x μ1=>wv ρ μ1 fun y μ2=>zf5 r ρ μ2 fun ds vs μ3=>Q (x::ds) (y::vs) μ3:=rfl
def nameS(y l t:Str)(v:Int):Str:=if 2=v then y else if 3=v then l else if 10=v then t else if 12=v then t else if 14=v then t else ""
theorem zve{y l t:Str}{v:Int}:(zbN [.inl 2, .inl 3, .inl 10, .inl 12, .inl 14] [.str y, .str l, .str t, .str t, .str t] (.inl v)).getD (.str (Str.ofString ""))= .str (nameS y l t v):=by
 unfold nameS;simp only[zbN,Sum.inl.injEq];repeat' split
 all_goals rfl
theorem zN{ys ns:List Str}{i:Nat}{wh:DS}{r:List (List Str×List Str×Nat×DS)}{D':zba}{ρ:zag}{lab:Str}{μ:Mu}:zkT ((ys,ns,i,wh)::r) D' ρ lab μ=((zmB ys lab/\wh (zjO D' i) (ρ.set i (some (.exc lab))) μ)\/(zmB ns lab/\zkT r D' ρ lab μ)):=rfl
section
variable{μ:Mu}{k ck cl:Nat}{kn:SL Str}{ln:SL EN}{x:Str}{Q:DK}{X0:DX}{Sd Ed wd:D}
theorem zoq(N:zae μ k ck cl kn ln)(hb:x∈zsN)(q:X0 "BadName" μ):zbt [.cell k, .str x] μ Q X0:=by
 refine⟨rfl,?_⟩;rw_mod_cast [N.o];exact zdI N fun Q'=>zeR hb ⟨_, .refl _,_, .refl _,q⟩
theorem zpG(N:zae μ k ck cl kn ln)(hb:x∈zsN)(q:X0 "BadName" μ):zbL [.cell k, .str x] μ Q X0:=by
 refine⟨rfl,?_⟩;rw_mod_cast [N.o];exact zdI N fun Q'=>zeR hb ⟨_, .refl _,_, .refl _,q⟩
theorem zl9(N:zae μ k ck cl kn ln)(hx:Nm x)(h:x∈kn.map (·.1))(q:X0 (zbz "Taken" x) μ):zbt [.cell k, .str x] μ Q X0:=by
 refine⟨rfl,?_⟩;rw_mod_cast [N.o];exact zdI N fun Q'=>zdU N hx h ⟨_, .refl _,_, .refl _,q⟩
theorem zmL(N:zae μ k ck cl kn ln)(hx:Nm x)(h:x∈kn.map (·.1))(q:X0 (zbz "Taken" x) μ):zbL [.cell k, .str x] μ Q X0:=by
 refine⟨rfl,?_⟩;rw_mod_cast [N.o];exact zdI N fun Q'=>zdU N hx h ⟨_, .refl _,_, .refl _,q⟩
theorem zqx(N:zae μ k ck cl kn ln)(hb:x∈zsN)(q:X0 "BadName" μ):zQ [.cell k, .str x,Sd,Ed,wd] μ Q X0:=zkd N fun Q'=>zeR hb ⟨_, .refl _,q⟩
theorem znp(N:zae μ k ck cl kn ln)(hx:Nm x)(h:x∈kn.map (·.1))(q:X0 (zbz "Taken" x) μ):zQ [.cell k, .str x,Sd,Ed,wd] μ Q X0:=zkd N fun Q'=>zdU N hx h ⟨_, .refl _,q⟩
end
theorem zx6:∀ds μ Q,zsZ ds μ Q->zam zsU zqG 1 ds μ Q:=by
 rintro ds μ Q ⟨ns0,rfl,hl,q⟩;have hz:(1000:Nat)<=sizeLine:=by decide
 refine⟨rfl,stp fun N1 h1=>?_⟩;walk_at "e"
 intro s hs0;refine h1 _ _ (stp fun N2 h2=>?_);have hs:zV μ s .draw s=some .draw:=zA;generalize zV μ s .draw=μ1 at hs ⊢
 walk_at "e"
 refine zrn (most:=4) hs (by decide) (by decide) fun μ2 na la ho ga ns ls rows sl W keep=>h2 _ _ (stp fun N3 h3=>?_)
 have hl1:=W.N.len;have hc:=W.N.cnt;have g1:=W.ho4;have g2:=W.ga3;have g0:=W.ho2;have rm:=W.rm;have r1:=W.r1;have nd:=W.N.nd;have nmx:∀x∈ho++ga++ls.map LR.nm,Nm x:=fun x hx=>W.N.nms x (W.N.sub x hx)
 have ndl:(ls.map LR.nm).Nodup:=(List.nodup_append.mp nd).2.1;have lne:ls≠[]:=by
  obtain⟨r0,hr0⟩:=List.exists_mem_of_length_pos r1;obtain⟨first,last,w1,k1,hf,hl,hfl,k11,k13,W1,e1,hw⟩:=(W.ok r0 hr0).way;have le:=W1.len;have i0:2*0 < w1.length:=by omega
  have i1:2*0+1 < w1.length:=by omega
  have i2:2*0+2 < w1.length:=by omega
  obtain⟨q,hq,_⟩:=W1.jn 0 _ _ _ (List.getElem?_eq_getElem i0) (List.getElem?_eq_getElem i1) (List.getElem?_eq_getElem i2);intro z;rw[z] at hq;cases hq
 rw_mod_cast [];refine zr8 W.W W.N g1 g2 fun μ3 k ck cl ln hk hck hcl A L ke=>h3 _ _ (stp fun N4 h4=>?_)
 have W3:WD μ3 s na la ns ls:=W.W.mv (fun j c e _=>ke j c e) (ke na _ W.W.dn);rw_mod_cast [];refine zr8 W3 W.N g1 g2 fun μ4 k2 ck2 cl2 ln2 hk2 hck2 hcl2 B L2 ke2=>h4 _ _ (stp fun N5 h5=>?_)
 have W4:WD μ4 s na la ns ls:=W3.mv (fun j c e _=>ke2 j c e) (ke2 na _ W3.dn);have A4:zae μ4 k ck cl (kindsOf ho ga ls) ln:=A.keep fun j c e _=>ke2 j c e
 obtain rfl:ln2=ln:=L2.uniq L;obtain⟨a,b,hr,rfl⟩:∃a b hr,ho=a::b::hr:=by
  rcases ho with _ | ⟨a,_ | ⟨b,hr⟩⟩
  .simp at g0
  .simp at g0
  .exact⟨a,b,hr,rfl⟩
 have zyt:∀r:List D,cutD (D.str a::D.str b::r) none (some 2)=[D.str a,D.str b]:=fun r=>by rw[show(some (2:Int))=some ((2:Nat):Int) from rfl,zen];rfl
 rw[List.map_cons,List.map_cons] at *;rw_mod_cast [zyt];refine h5 _ _ (stp fun N6 h6=>?_);rw_mod_cast [];refine zgV W4.ds W4.dn (by omega) fun x nx hxn=>h6 _ _ (stp fun N7 h7=>?_)
 have kp1:∀(j:Nat) ct,μ4 j=some ct->j≠na->zV μ4 na (.lst ((ns++[x]).map D.str)) j=some ct:=fun j ct e h=>by rw[zq h];exact e
 have W5:WD (zV μ4 na (.lst ((ns++[x]).map D.str))) s na la (ns++[x]) ls:=W4.mv kp1 zA;have nn:∀{j:Nat},μ2 j=none->j≠na:=fun{j} e z=>by rw[z,W.W.dn] at e;cases e
 have nn3:∀{j:Nat},μ3 j=none->j≠na:=fun{j} e z=>by rw[z,W3.dn] at e;cases e
 have A5:=A4.keep (μ':=zV μ4 na (.lst ((ns++[x]).map D.str))) fun j c e hj=>kp1 j c e (by rcases hj with rfl | rfl | rfl;exact nn hk;exact nn hck;exact nn hcl)
 have B5:=B.keep (μ':=zV μ4 na (.lst ((ns++[x]).map D.str))) fun j c e hj=>kp1 j c e (by rcases hj with rfl | rfl | rfl;exact nn3 hk2;exact nn3 hck2;exact nn3 hcl2)
 generalize zV μ4 na (.lst ((ns++[x]).map D.str))=μ5 at A5 B5 W5 ⊢
 rw_mod_cast [];refine zgV W5.ds W5.dn (by rw[List.length_append,List.length_singleton];omega) fun y ny hyn=>h7 _ _ (stp fun N8 h8=>?_)
 have kp2:∀(j:Nat) ct,μ5 j=some ct->j≠na->zV μ5 na (.lst ((ns++[x]++[y]).map D.str)) j=some ct:=fun j ct e h=>by rw[zq h];exact e
 have W6:WD (zV μ5 na (.lst ((ns++[x]++[y]).map D.str))) s na la (ns++[x]++[y]) ls:=W5.mv kp2 zA;have A6:=A5.keep (μ':=zV μ5 na (.lst ((ns++[x]++[y]).map D.str))) fun j c e hj=>kp2 j c e (by rcases hj with rfl | rfl | rfl;exact nn hk;exact nn hck;exact nn hcl)
 have B6:=B5.keep (μ':=zV μ5 na (.lst ((ns++[x]++[y]).map D.str))) fun j c e hj=>kp2 j c e (by rcases hj with rfl | rfl | rfl;exact nn3 hk2;exact nn3 hck2;exact nn3 hcl2)
 generalize zV μ5 na (.lst ((ns++[x]++[y]).map D.str))=μ6 at A6 B6 W6 ⊢
 rw_mod_cast [W6.dl];refine⟨W6.ds,by rw[List.length_map];have:=List.length_pos_iff.mpr lne;omega,by rw[List.length_map];exact Int.lt_of_le_of_lt (show((ls.length:Nat):Int)<=14 by omega) (by decide),fun v v0 v1=>?_⟩;obtain⟨d,e1,e2⟩:=zhm v0 v1;rw[e1];rw[List.getElem?_map] at e2;obtain⟨r,hr2,rfl⟩:=Option.map_eq_some_iff.mp e2;have hrl:=List.mem_of_getElem? hr2;clear e1 e2 v0 v1;rw_mod_cast [zbm];refine h8 _ _ (stp fun N9 h9=>?_);rw_mod_cast [];refine zqO (ho:=a::b::hr) W6 hl1 g0 g1 g2 fun bad tk hbad htk=>?_
 refine⟨rfl,rfl,h9 _ _ ?_⟩;have lf:=L.fst;have xo:x∉a::b::hr++ga++ls.map LR.nm:=fun z=>hxn (W.N.sub x z)
 have xk:x∉(kindsOf (a::b::hr) ga ls).map (·.1):=by rw[za0];exact xo
 have ab:a≠b:=fun z=>by
  have:=(List.nodup_append.mp (List.nodup_append.mp nd).1).1;rw[z] at this;simp at this
 have node:∀z∈[a,b],z∈(kindsOf (a::b::hr) ga ls).map (·.1)/\z∉ln2.map (·.1):=fun z hz=>by
  have hz':z∈a::b::hr++ga:=by simp at hz;rcases hz with rfl | rfl<;>simp
  rw[za0,lf];exact⟨List.mem_append_left _ hz',fun hh=>(List.nodup_append.mp nd).2.2 z hz' z hh rfl⟩
 have yo:y∉a::b::hr++ga++ls.map LR.nm:=fun z=>hyn (List.mem_append_left _ (W.N.sub y z))
 have yk:y∉(kindsOf (a::b::hr) ga ls).map (·.1):=by rw[za0];exact yo
 have rm2:r.nm∈ls.map LR.nm:=List.mem_map_of_mem hrl;have nr:Nm r.nm:=nmx _ (List.mem_append_right _ rm2);have na':Nm a:=nmx a (by simp);have nb':Nm b:=nmx b (by simp);have ntk:Nm tk:=nmx tk htk;have tkk:tk∈(kindsOf (a::b::hr) ga ls).map (·.1):=by rw[za0];exact htk
 refine zzO (fun ρ μ'=>∃(v:Int) (dS nS:Str),ρ=[some (.scr ns0),some (.cell s),some (.tup [.lst (D.str a::D.str b::hr.map D.str), .lst (ga.map D.str), .cell la, .lst (rows.map zuK), .int sl, .cell na]),some (.cell k),some (.cell k2),some (.lst [.str a, .str b]),some (.str x),some (.str y),some (.str r.nm),some (.str bad),some (.str tk),some (.int v),some (.str dS),some (.tup [.str dS, .str nS]),some (.str nS),none]/\(∀z∈[dS,nS],PyData.strOk z=true)/\∀j c,μ6 j=some c->μ' j=some c) (fun N10 k10=>?_) ?_
 .refine stp fun N11 h11=>?_
  rw_mod_cast [];refine⟨W6.ds,by decide,by decide,fun v v0 v1=>h11 _ _ (stp fun N12 h12=>?_)⟩;obtain⟨d,e1,e2⟩:=zhm (xs:=zzD.map D.str) v0 (by rw[List.length_map];exact v1);rw[List.getElem?_map] at e2;obtain⟨dS,hd,rfl⟩:=Option.map_eq_some_iff.mp e2;have e1':atI [D.str "BadEnds",D.str "BadEnds",D.str "NoName",D.str "NoName",D.str "BadNumber",D.str "BadNumber",D.str "BadNumber",D.str "BadEnds",D.str "BadEnds",D.str "BadName",D.str "Taken",D.str "BadName",D.str "Taken",D.str "BadName",D.str "Taken"] v=some (D.str dS):=e1;rw_mod_cast [e1'];clear e1 e1' e2;refine⟨by decide,h12 _ _ (stp fun N13 h13=>?_)⟩;rw_mod_cast [];refine⟨by omega,h13 _ _ (stp fun N14 h14=>?_)⟩;rw_mod_cast [zt3,zxV,zw0,ztH];intro cc hcc;refine(show zbe (some ([.inl 2, .inl 3, .inl 10, .inl 12, .inl 14]:List Key)) _ from ?_);rw_mod_cast [zcp,zdl,zA,zcd,zwz];rw[zve];refine⟨by decide,by decide,h14 _ _ ?_⟩;have kp7:∀(j:Nat) ct,μ6 j=some ct->zV μ6 cc (.dct [.inl 2, .inl 3, .inl 10, .inl 12, .inl 14] [.str y, .str r.nm, .str tk, .str tk, .str tk]) j=some ct:=fun j ct e=>by rw[zq (fun z=>by rw[z,hcc] at e;cases e)];exact e
  generalize zV μ6 cc (.dct [.inl 2, .inl 3, .inl 10, .inl 12, .inl 14] [.str y, .str r.nm, .str tk, .str tk, .str tk])=μ7 at kp7 ⊢
  have A7:=A6.keep fun j c e _=>kp7 j c e
  rw_mod_cast [ztb,A7.o];by_cases h9:v < 9
  .rw_mod_cast [decide_eq_true h9];refine zuI v0 h9 A7 nx ny xk yk (by rw[L.1];omega) na' nb' nr (node a (by simp)) (node b (by simp)) (by rw[lf];exact rm2) ab ?_;obtain e | e | e | e | e | e | e | e | e:v=0\/v=1\/v=2\/v=3\/v=4\/v=5\/v=6\/v=7\/v=8:=by omega
   .rw[show zej v y r.nm="BadEnds" from by rw[e];rfl,zN,zN,zN];have edS:dS="BadEnds":=by subst e;exact(Option.some.inj (show some ("BadEnds":Str)=some dS from hd)).symm
    have enS:nameS y r.nm tk v="":=by rw[e];rfl
    rw[enS];subst edS;refine .inr ⟨.inl (by decide), .inr ⟨.inl (by decide), .inl ⟨.inl (by decide),?_⟩⟩⟩;rw_mod_cast [];refine zcE (by decide) ⟨by omega,k10 _ _ ⟨v,"BadEnds","",rfl,?_,kp7⟩⟩;intro z hz;simp only[List.mem_cons,List.not_mem_nil,or_false] at hz;rcases hz with rfl | rfl
    .decide+kernel
    .decide+kernel
   .rw[show zej v y r.nm="BadEnds" from by rw[e];rfl,zN,zN,zN];have edS:dS="BadEnds":=by subst e;exact(Option.some.inj (show some ("BadEnds":Str)=some dS from hd)).symm
    have enS:nameS y r.nm tk v="":=by rw[e];rfl
    rw[enS];subst edS;refine .inr ⟨.inl (by decide), .inr ⟨.inl (by decide), .inl ⟨.inl (by decide),?_⟩⟩⟩;rw_mod_cast [];refine zcE (by decide) ⟨by omega,k10 _ _ ⟨v,"BadEnds","",rfl,?_,kp7⟩⟩;intro z hz;simp only[List.mem_cons,List.not_mem_nil,or_false] at hz;rcases hz with rfl | rfl
    .decide+kernel
    .decide+kernel
   .rw[show zej v y r.nm=zbz "NoName" y from by rw[e];rfl,zN,zN,zN];have edS:dS="NoName":=by subst e;exact(Option.some.inj (show some ("NoName":Str)=some dS from hd)).symm
    have enS:nameS y r.nm tk v=y:=by rw[e];rfl
    rw[enS];subst edS;refine .inl ⟨.inr ⟨"NoName",_,rfl,by decide+kernel,by decide⟩,?_⟩;unfold zfg;rw_mod_cast [];refine⟨"NoName",_,rfl,by decide+kernel,by decide,by omega,k10 _ _ ⟨v,"NoName",y,rfl,?_,kp7⟩⟩;intro z hz;simp only[List.mem_cons,List.not_mem_nil,or_false] at hz;rcases hz with rfl | rfl
    .decide+kernel
    .exact zcM ny
   .rw[show zej v y r.nm=zbz "NoName" r.nm from by rw[e];rfl,zN,zN,zN];have edS:dS="NoName":=by subst e;exact(Option.some.inj (show some ("NoName":Str)=some dS from hd)).symm
    have enS:nameS y r.nm tk v=r.nm:=by rw[e];rfl
    rw[enS];subst edS;refine .inl ⟨.inr ⟨"NoName",_,rfl,by decide+kernel,by decide⟩,?_⟩;unfold zfg;rw_mod_cast [];refine⟨"NoName",_,rfl,by decide+kernel,by decide,by omega,k10 _ _ ⟨v,"NoName",r.nm,rfl,?_,kp7⟩⟩;intro z hz;simp only[List.mem_cons,List.not_mem_nil,or_false] at hz;rcases hz with rfl | rfl
    .decide+kernel
    .exact zcM nr
   .rw[show zej v y r.nm="BadNumber" from by rw[e];rfl,zN,zN,zN];have edS:dS="BadNumber":=by subst e;exact(Option.some.inj (show some ("BadNumber":Str)=some dS from hd)).symm
    have enS:nameS y r.nm tk v="":=by rw[e];rfl
    rw[enS];subst edS;refine .inr ⟨.inl (by decide), .inr ⟨.inl (by decide), .inl ⟨.inl (by decide),?_⟩⟩⟩;rw_mod_cast [];refine zcE (by decide) ⟨by omega,k10 _ _ ⟨v,"BadNumber","",rfl,?_,kp7⟩⟩;intro z hz;simp only[List.mem_cons,List.not_mem_nil,or_false] at hz;rcases hz with rfl | rfl
    .decide+kernel
    .decide+kernel
   .rw[show zej v y r.nm="BadNumber" from by rw[e];rfl,zN,zN,zN];have edS:dS="BadNumber":=by subst e;exact(Option.some.inj (show some ("BadNumber":Str)=some dS from hd)).symm
    have enS:nameS y r.nm tk v="":=by rw[e];rfl
    rw[enS];subst edS;refine .inr ⟨.inl (by decide), .inr ⟨.inl (by decide), .inl ⟨.inl (by decide),?_⟩⟩⟩;rw_mod_cast [];refine zcE (by decide) ⟨by omega,k10 _ _ ⟨v,"BadNumber","",rfl,?_,kp7⟩⟩;intro z hz;simp only[List.mem_cons,List.not_mem_nil,or_false] at hz;rcases hz with rfl | rfl
    .decide+kernel
    .decide+kernel
   .rw[show zej v y r.nm="BadNumber" from by rw[e];rfl,zN,zN,zN];have edS:dS="BadNumber":=by subst e;exact(Option.some.inj (show some ("BadNumber":Str)=some dS from hd)).symm
    have enS:nameS y r.nm tk v="":=by rw[e];rfl
    rw[enS];subst edS;refine .inr ⟨.inl (by decide), .inr ⟨.inl (by decide), .inl ⟨.inl (by decide),?_⟩⟩⟩;rw_mod_cast [];refine zcE (by decide) ⟨by omega,k10 _ _ ⟨v,"BadNumber","",rfl,?_,kp7⟩⟩;intro z hz;simp only[List.mem_cons,List.not_mem_nil,or_false] at hz;rcases hz with rfl | rfl
    .decide+kernel
    .decide+kernel
   .rw[show zej v y r.nm="BadEnds" from by rw[e];rfl,zN,zN,zN];have edS:dS="BadEnds":=by subst e;exact(Option.some.inj (show some ("BadEnds":Str)=some dS from hd)).symm
    have enS:nameS y r.nm tk v="":=by rw[e];rfl
    rw[enS];subst edS;refine .inr ⟨.inl (by decide), .inr ⟨.inl (by decide), .inl ⟨.inl (by decide),?_⟩⟩⟩;rw_mod_cast [];refine zcE (by decide) ⟨by omega,k10 _ _ ⟨v,"BadEnds","",rfl,?_,kp7⟩⟩;intro z hz;simp only[List.mem_cons,List.not_mem_nil,or_false] at hz;rcases hz with rfl | rfl
    .decide+kernel
    .decide+kernel
   .rw[show zej v y r.nm="BadEnds" from by rw[e];rfl,zN,zN,zN];have edS:dS="BadEnds":=by subst e;exact(Option.some.inj (show some ("BadEnds":Str)=some dS from hd)).symm
    have enS:nameS y r.nm tk v="":=by rw[e];rfl
    rw[enS];subst edS;refine .inr ⟨.inl (by decide), .inr ⟨.inl (by decide), .inl ⟨.inl (by decide),?_⟩⟩⟩;rw_mod_cast [];refine zcE (by decide) ⟨by omega,k10 _ _ ⟨v,"BadEnds","",rfl,?_,kp7⟩⟩;intro z hz;simp only[List.mem_cons,List.not_mem_nil,or_false] at hz;rcases hz with rfl | rfl
    .decide+kernel
    .decide+kernel
  obtain e | e | e | e | e | e:v=9\/v=10\/v=11\/v=12\/v=13\/v=14:=by omega
  .rw_mod_cast [decide_eq_false h9,decide_eq_true e,show atI [D.str bad,D.str tk] (v - 9)=some (D.str bad) from by rw[e];rfl];refine⟨by omega,zoq A7 hbad ?_⟩;rw[zN,zN,zN];have edS:dS="BadName":=by subst e;exact(Option.some.inj (show some ("BadName":Str)=some dS from hd)).symm
   have enS:nameS y r.nm tk v="":=by rw[e];rfl
   rw[enS];subst edS;refine .inr ⟨.inl (by decide), .inr ⟨.inl (by decide), .inl ⟨.inl (by decide),?_⟩⟩⟩;rw_mod_cast [];refine zcE (by decide) ⟨by omega,k10 _ _ ⟨v,"BadName","",rfl,?_,kp7⟩⟩;intro z hz;simp only[List.mem_cons,List.not_mem_nil,or_false] at hz;rcases hz with rfl | rfl
   .decide+kernel
   .decide+kernel
  .rw_mod_cast [decide_eq_false h9,decide_eq_false (show ¬ v=9 by omega),decide_eq_true e,show atI [D.str bad,D.str tk] (v - 9)=some (D.str tk) from by rw[e];rfl];refine⟨by omega,zl9 A7 ntk tkk ?_⟩;rw[zN,zN,zN];have edS:dS="Taken":=by subst e;exact(Option.some.inj (show some ("Taken":Str)=some dS from hd)).symm
   have enS:nameS y r.nm tk v=tk:=by rw[e];rfl
   rw[enS];subst edS;refine .inr ⟨.inr ⟨"Taken",_,rfl,by decide+kernel,by decide⟩, .inl ⟨.inr ⟨"Taken",_,rfl,by decide+kernel,by decide⟩,?_⟩⟩;unfold zfg;rw_mod_cast [];refine⟨"Taken",_,rfl,by decide+kernel,by decide,by omega,k10 _ _ ⟨v,"Taken",tk,rfl,?_,kp7⟩⟩;intro z hz;simp only[List.mem_cons,List.not_mem_nil,or_false] at hz;rcases hz with rfl | rfl
   .decide+kernel
   .exact zcM ntk
  .rw_mod_cast [decide_eq_false h9,decide_eq_false (show ¬ v=9 by omega),decide_eq_false (show ¬ v=10 by omega),decide_eq_true e,show atI [D.str bad,D.str tk] (v - 11)=some (D.str bad) from by rw[e];rfl];refine⟨by omega,zpG A7 hbad ?_⟩;rw[zN,zN,zN];have edS:dS="BadName":=by subst e;exact(Option.some.inj (show some ("BadName":Str)=some dS from hd)).symm
   have enS:nameS y r.nm tk v="":=by rw[e];rfl
   rw[enS];subst edS;refine .inr ⟨.inl (by decide), .inr ⟨.inl (by decide), .inl ⟨.inl (by decide),?_⟩⟩⟩;rw_mod_cast [];refine zcE (by decide) ⟨by omega,k10 _ _ ⟨v,"BadName","",rfl,?_,kp7⟩⟩;intro z hz;simp only[List.mem_cons,List.not_mem_nil,or_false] at hz;rcases hz with rfl | rfl
   .decide+kernel
   .decide+kernel
  .rw_mod_cast [decide_eq_false h9,decide_eq_false (show ¬ v=9 by omega),decide_eq_false (show ¬ v=10 by omega),decide_eq_false (show ¬ v=11 by omega),decide_eq_true e,show atI [D.str bad,D.str tk] (v - 11)=some (D.str tk) from by rw[e];rfl];refine⟨by omega,zmL A7 ntk tkk ?_⟩;rw[zN,zN,zN];have edS:dS="Taken":=by subst e;exact(Option.some.inj (show some ("Taken":Str)=some dS from hd)).symm
   have enS:nameS y r.nm tk v=tk:=by rw[e];rfl
   rw[enS];subst edS;refine .inr ⟨.inr ⟨"Taken",_,rfl,by decide+kernel,by decide⟩, .inl ⟨.inr ⟨"Taken",_,rfl,by decide+kernel,by decide⟩,?_⟩⟩;unfold zfg;rw_mod_cast [];refine⟨"Taken",_,rfl,by decide+kernel,by decide,by omega,k10 _ _ ⟨v,"Taken",tk,rfl,?_,kp7⟩⟩;intro z hz;simp only[List.mem_cons,List.not_mem_nil,or_false] at hz;rcases hz with rfl | rfl
   .decide+kernel
   .exact zcM ntk
  .rw_mod_cast [decide_eq_false h9,decide_eq_false (show ¬ v=9 by omega),decide_eq_false (show ¬ v=10 by omega),decide_eq_false (show ¬ v=11 by omega),decide_eq_false (show ¬ v=12 by omega),show atI [D.str bad,D.str tk] (v - 13)=some (D.str bad) from by rw[e];rfl];refine⟨by omega,by omega,by omega,zqx A7 hbad ?_⟩;rw[zN,zN,zN];have edS:dS="BadName":=by subst e;exact(Option.some.inj (show some ("BadName":Str)=some dS from hd)).symm
   have enS:nameS y r.nm tk v="":=by rw[e];rfl
   rw[enS];subst edS;refine .inr ⟨.inl (by decide), .inr ⟨.inl (by decide), .inl ⟨.inl (by decide),?_⟩⟩⟩;rw_mod_cast [];refine zcE (by decide) ⟨by omega,k10 _ _ ⟨v,"BadName","",rfl,?_,kp7⟩⟩;intro z hz;simp only[List.mem_cons,List.not_mem_nil,or_false] at hz;rcases hz with rfl | rfl
   .decide+kernel
   .decide+kernel
  .rw_mod_cast [decide_eq_false h9,decide_eq_false (show ¬ v=9 by omega),decide_eq_false (show ¬ v=10 by omega),decide_eq_false (show ¬ v=11 by omega),decide_eq_false (show ¬ v=12 by omega),show atI [D.str bad,D.str tk] (v - 13)=some (D.str tk) from by rw[e];rfl];refine⟨by omega,by omega,by omega,znp A7 ntk tkk ?_⟩;rw[zN,zN,zN];have edS:dS="Taken":=by subst e;exact(Option.some.inj (show some ("Taken":Str)=some dS from hd)).symm
   have enS:nameS y r.nm tk v=tk:=by rw[e];rfl
   rw[enS];subst edS;refine .inr ⟨.inr ⟨"Taken",_,rfl,by decide+kernel,by decide⟩, .inl ⟨.inr ⟨"Taken",_,rfl,by decide+kernel,by decide⟩,?_⟩⟩;unfold zfg;rw_mod_cast [];refine⟨"Taken",_,rfl,by decide+kernel,by decide,by omega,k10 _ _ ⟨v,"Taken",tk,rfl,?_,kp7⟩⟩;intro z hz;simp only[List.mem_cons,List.not_mem_nil,or_false] at hz;rcases hz with rfl | rfl
   .decide+kernel
   .exact zcM ntk
 rintro ρ μ8 ⟨v,dS,nS,rfl,hst,kp8⟩;have A8:=A6.keep fun j c e _=>kp8 j c e
 have B8:=B6.keep fun j c e _=>kp8 j c e
 have nk:((kindsOf (a::b::hr) ga ls).map (·.1)).Nodup:=by rw[za0];exact nd
 have nl:(ln2.map (·.1)).Nodup:=by rw[lf];exact ndl
 have S11:zcH (kindsOf (a::b::hr) ga ls) (kindsOf (a::b::hr) ga ls)/\zcH ln2 ln2:=⟨.of (.refl _) nk, .of (.refl _) nl⟩;have V:zj4 (kindsOf (a::b::hr) ga ls) ln2:=by
  refine⟨fun p hp=>?_,fun p hp=>?_⟩
  .unfold kindsOf at hp;rcases List.mem_append.mp hp with hp | hp
   .rcases List.mem_append.mp hp with hp | hp
    .obtain⟨x,_,rfl⟩:=List.mem_map.mp hp;exact zoU.1
    .obtain⟨x,_,rfl⟩:=List.mem_map.mp hp;exact zoU.2.1
   .obtain⟨x,_,rfl⟩:=List.mem_map.mp hp;exact zoU.2.2
  .obtain⟨i,hi⟩:=List.mem_iff_getElem?.mp hp;have hlt:i < ls.length:=by have:=(List.getElem?_eq_some_iff.mp hi).1;rw[L.1] at this;exact this
   obtain⟨S',E',e,p1,p2⟩:=L.2 i ls[i] (List.getElem?_eq_getElem hlt);rw[hi] at e;cases e;have E:=W.N.ends ls[i] (List.getElem_mem hlt);exact zsa (fun y hy=>nmx y (List.mem_append_left _ (E.ss y (p1.1.mem_iff.mp hy)))) (fun y hy=>nmx y (List.mem_append_left _ (E.es y (p2.1.mem_iff.mp hy))))
 have kl:(kindsOf (a::b::hr) ga ls).length < 64:=by
  have:=congrArg List.length (za0 (ho:=a::b::hr) (ga:=ga) (ls:=ls));rw[List.length_map,List.length_append,List.length_append,List.length_map] at this;omega
 have nms:∀{ns':List Str},Srt ((kindsOf (a::b::hr) ga ls).map (·.1)) ns'->SI 1 (.lst (ns'.map D.str)):=fun{ns'} S d hd=>by
  obtain⟨y,hy,rfl⟩:=List.mem_map.mp hd;have:=S.1.mem_iff.mp hy;rw[za0] at this;exact zcM (nmx y this)
 refine stp fun N16 h16=>?_
 rw_mod_cast [A8.o,B8.o];refine⟨by omega,zmm (n:=1) (fun d hd=>?_) (by decide) ?_⟩
 .simp only[List.mem_cons,List.not_mem_nil,or_false] at hd;rcases hd with rfl | rfl
  .exact hst _ (by simp)
  .exact hst _ (by simp)
 rw_mod_cast [];refine zqI A8 B8 V V S11 ?_;rw_mod_cast [A8.o];refine zkl A8 kl fun n1 s1=>?_
 rw_mod_cast [B8.o];refine zkl B8 kl fun n2 s2=>?_
 obtain rfl:=s1.uniq s2;refine zmm (nms s1) (by decide) ?_;rw_mod_cast [];refine h16 _ _ (stp fun N17 h17=>?_);rw_mod_cast [A8.o];refine zo6 (S:=[a,b]) (E:=[a,b]) A8 nx xk (by rw[L.1];omega) (by omega) (by simp) (by simp) (by simp[ab]) (by simp) (by simp) (by simp[ab]) node node (by decide) (by decide) (by rw[lf];exact fun hh=>xo (List.mem_append_right _ hh)) fun μ9 S5 E5 p1 p2 A9 ke9=>h17 _ _ ?_
 have p12:S5=E5:=p1.uniq p2;subst p12;have nab:∀z∈[a,b],Nm z:=fun z hz=>nmx z (by simp at hz;rcases hz with rfl | rfl<;>simp)
 have n5:∀z∈S5,Nm z:=fun z hz=>nab z (p1.1.mem_iff.mp hz)
 have B9:zae μ9 k2 ck2 cl2 (kindsOf (a::b::hr) ga ls) ln2:=B8.keep fun j c e hj=>by
  have n3:∀{j:Nat},μ3 j=none->j≠ck/\j≠cl:=fun{j} e=>⟨fun z=>(by rw[z,A.a] at e;cases e),fun z=>(by rw[z,A.b] at e;cases e)⟩
  rcases hj with rfl | rfl | rfl
  .rw[ke9 _ (n3 hk2).1 (n3 hk2).2];exact e
  .rw[ke9 _ (n3 hck2).1 (n3 hck2).2];exact e
  .rw[ke9 _ (n3 hcl2).1 (n3 hcl2).2];exact e
 have V9:zj4 (kindsOf (a::b::hr) ga ls++[(x,("line":Str))]) (ln2++[(x,S5,S5,(30:Int))]):=⟨fun p hp=>by
  rcases List.mem_append.mp hp with h | h
  .exact V.k p h
  .rw[List.mem_singleton.mp h];exact zoU.2.2,fun p hp=>by
  rcases List.mem_append.mp hp with h | h
  .exact V.l p h
  .rw[List.mem_singleton.mp h];exact zsa n5 n5⟩
 have lnd:((ln2++[(x,S5,S5,(30:Int))]).map (·.1)).Nodup:=by
  rw[List.map_append,lf];exact List.nodup_append.mpr ⟨ndl,by simp,fun a ha b hb z=>by
   simp at hb;subst hb;exact xo (List.mem_append_right _ (z▸ha))⟩
 rw_mod_cast [A9.o];refine zuA A9 (zni lnd (List.mem_append_right _ (List.mem_singleton.mpr rfl))) ?_;refine zmj (ns:=[a,b]) rfl (by simp) fun S6 q1 q2=>?_
 obtain rfl:S6=S5:=Srt.uniq ⟨q1,q2⟩ p1;rw_mod_cast [];refine zmj (ns:=[a,b]) rfl (by simp) fun S7 q3 q4=>?_
 obtain rfl:S7=S6:=Srt.uniq ⟨q3,q4⟩ p1;rw_mod_cast [];refine⟨by omega,zsT (zsa n5 n5) (by decide) ?_⟩;rw_mod_cast [];refine zrP A9 B9 V9 V (fun z=>?_) ⟨_, .refl _,q _⟩;have:=z.1.1;rw[List.length_append] at this;simp at this
end M
namespace M
open PySem L2
section
variable(P:Program)(w:World)(K:Frag)(mg:Str->Option Value)(base:Heap)
abbrev zg1:Prop:=Has P w K mg base CX0 "is_made_of" 1 ["text","signs","most"] (lift K zdy)
abbrev zeN:Prop:=Has P w K mg base CX0 "is_number" 1 ["thing"] (lift K zbf)
abbrev za9:Prop:=Has P w K mg base CX0 "_law_draw" 1 ["_law_s","_law_many"] zlL
abbrev zd6:Prop:=zuB P w K mg base "_law_kinds_one" 1 ["_law_e"] (lift K zbj)
abbrev zd3:Prop:=zuB P w K mg base "_law_kinds_two" 1 ["_law_e"] (lift K zbi)
abbrev zhJ:Prop:=Has P w K mg base CX0 "is_name" 2 ["text"] (lift K zb4)
abbrev zfO:Prop:=Has P w K mg base CX0 "check_whole" 2 ["thing"] (lift K zbR)
abbrev zdJ:Prop:=znA P w K mg base (CX1 P w) "check_whole" 2 ["thing"] (za6 K zaV) [] (sel 1 0 [.p 0] .non [])
abbrev zeu:Prop:=Has P w K mg base CX0 "_law_pick" 2 ["_law_s","_law_row_here"] (lift K zbu)
abbrev zdh:Prop:=Has P w K mg base CX0 "_law_name" 2 ["_law_s","_law_names"] (lift K zav)
abbrev zg7:Prop:=Has P w K mg base CX0 "check_name" 3 ["text"] (lift K zcf)
abbrev zd1:Prop:=znA P w K mg base (CX1 P w) "check_name" 3 ["text"] (za6 K zbb) [] (sel 1 0 [.p 0] .non [])
abbrev zkY:Prop:=Has P w K mg base CX0 "_law_hop" 3 ["_law_s","_law_names","_law_lines","_law_one","_law_two","_law_barred"] (lift K zcO)
abbrev zgC:Prop:=Has P w K mg base CX0 "check_ends" 1 ["ends"] (lift K zbr)
abbrev zfl:Prop:=Has P w K mg base CX0 "check_number" 3 ["number","least","most"] (lift K zby)
abbrev zbV:Prop:=zb8 P w K mg base CX0 "Net" "check_new" 4 ["self","name"] (lift K zaT) [] (sel 2 0 [.p 0, .p 1] .non [])
abbrev zcL:Prop:=zb8 P w K mg base CX0 "Net" "check_nodes" 1 ["self","ends"] (lift K zaH) [] (sel 2 0 [.p 0, .p 1] .non [])
abbrev zbC:Prop:=zb8 P w K mg base (CX1 P w) "Net" "check_new" 4 ["self","name"] (za6 K zX) [] (sel 2 0 [.p 0, .p 1] .non [])
abbrev zd0:Prop:=znA P w K mg base (CX1 P w) "check_ends" 1 ["ends"] (za6 K zbd) [] (sel 1 0 [.p 0] .non [])
abbrev zcm:Prop:=zb8 P w K mg base (CX1 P w) "Net" "check_nodes" 2 ["self","ends"] (za6 K zaD) [] (sel 2 0 [.p 0, .p 1] .non [])
abbrev zdg:Prop:=znA P w K mg base (CX1 P w) "check_number" 3 ["number","least","most"] (za6 K zaE) [] (sel 3 0 [.p 0, .p 1, .p 2] .non [])
abbrev zjJ:Prop:=Has P w K mg base CX0 "_law_need" 1 ["_law_row_here","_law_lines","_law_the_slack"] (lift K zc8)
abbrev zkB:Prop:=Has P w K mg base CX0 "_law_way" 4 ["_law_s","_law_names","_law_lines","_law_gates","_law_first","_law_the_last","_law_barred"] (lift K zcI)
abbrev zcj:Prop:=zb8 P w K mg base CX0 "Net" "put_node" 5 ["self","name","kind"] (lift K za3) [] (sel 3 0 [.p 0, .p 1, .p 2] .non [])
abbrev zbW:Prop:=zb8 P w K mg base (CX1 P w) "Net" "put_node" 5 ["self","name","kind"] (za6 K zaU) [] (sel 3 0 [.p 0, .p 1, .p 2] .non [])
abbrev zkP:Prop:=Has P w K mg base CX0 "_law_row" 5 ["_law_s","_law_names","_law_lines","_law_houses","_law_gates","_law_the_slack"] (lift K zdK)
abbrev zbB:Prop:=zb8 P w K mg base (CX1 P w) "Net" "line" 5 ["self","name","senders","ears","wire"] (za6 K zQ) ["wire"] (sel 4 1 [.p 0, .p 1, .p 2, .p 3, .k 0] .non [])
abbrev zfk:Prop:=zb8 P w K mg base (CX1 P w) "Net" "line" 5 ["self","name","senders","ears","wire"] (za6 K zQ) [] (sel 4 0 [.p 0, .p 1, .p 2, .p 3, .c 0] .non [.int 1])
abbrev zeG:Prop:=zse P w K mg base CX0 "Net" 1 ["self"] (lift K zce) [] (sel 1 0 [.p 0] .non [])
abbrev ze1:Prop:=zb8 P w K mg base CX0 "Net" "house" 6 ["self","name"] (lift K zcC) [] (sel 2 0 [.p 0, .p 1] .non [])
abbrev zfH:Prop:=zb8 P w K mg base CX0 "Net" "gate" 6 ["self","name"] (lift K zc6) [] (sel 2 0 [.p 0, .p 1] .non [])
abbrev zbU:Prop:=zb8 P w K mg base CX0 "Net" "line" 5 ["self","name","senders","ears","wire"] (lift K zck) ["wire"] (sel 4 1 [.p 0, .p 1, .p 2, .p 3, .k 0] .non [])
abbrev zik:Prop:=zuB P w K mg base "_law_kind" 2 ["_law_e"] (lift K zc4)
abbrev zhM:Prop:=Has P w K mg base CX0 "_law_start" 1 ["_law_script"] (zjK K)
abbrev zhX:Prop:=Has P w K mg base CX0 "_law_wrong" 3 ["_law_s","_law_world_here"] (lift K zcF)
abbrev zil:Prop:=Has P w K mg base CX0 "_law_world" 6 ["_law_s","_law_the_most"] (lift K zcB)
abbrev zkL:Prop:=Has P w K mg base CX0 "_law_net" 7 ["_law_world_here"] (lift K zcN)
abbrev zfV:Prop:=znA P w K mg base (CX1 P w) "_law_due" 6 ["_law_way_here","_law_net_here","_law_name_here","_law_other","_law_there","_law_line"] (za6 K zc3) [] (sel 6 0 [.p 0, .p 1, .p 2, .p 3, .p 4, .p 5] .non [])
abbrev zeB:Prop:=zb8 P w K mg base (CX1 P w) "Net" "house" 6 ["self","name"] (za6 K zbt) [] (sel 2 0 [.p 0, .p 1] .non [])
abbrev ze8:Prop:=zb8 P w K mg base (CX1 P w) "Net" "gate" 6 ["self","name"] (za6 K zbL) [] (sel 2 0 [.p 0, .p 1] .non [])
abbrev zfq:Prop:=zb8 P w K mg base CX0 "Net" "names" 1 ["self"] (lift K zbE) [] (sel 1 0 [.p 0] .non [])
abbrev zfU:Prop:=zb8 P w K mg base CX0 "Net" "ends" 1 ["self","name"] (lift K zcY) [] (sel 2 0 [.p 0, .p 1] .non [])
end
section
variable{P:Program}{w:World}{K:Frag}{mg:Str->Option Value}{base:Heap}{f:Addr}{fd:FuncData}[TabOk K tab]
theorem zj9(F:Fun K "is_made_of" "is_made_of" zew f fd)(B:Blt mg):zac P w K mg base CX0 1 f fd ["text","signs","most"] (lift K zdy) :=
 F.okB zgX zfJ rfl fun _ _ _ _ _ _ hr=>have nd:=zfJ.nd;⟨_,(zg (zaA (zja (zsW zfh zfh zj (zr (zaw K) rfl B.len zaG (qa1 (qv 0))) (qv 2)) (zlI (zr (zqc K) rfl B.all zxi (qa1 (zg5 ["sign"] ["signs"] [1] (.of rfl (by decide+kernel) rfl) rfl rfl (by decide+kernel) (zbw K (qv 0)) (fun _ _ _ _=>(zb9 (i:=0) (show List.Nodup (["sign","signs"]:List Str) by decide+kernel) rfl (Or.inl rfl))) (fun _ _ _ _=>zfu) (fun _ _ _ _=>(zgD zuC (qv 0) (qv 1) (by with_unfolding_all rfl)))))))))),fun _=>by infer_instance⟩
theorem zlp(F:Fun K "is_number" "is_number" ze5 f fd)(B:Blt mg):zac P w K mg base CX0 1 f fd ["thing"] (lift K zbf) :=
 F.okB zh9 zhi rfl fun _ _ _ _ _ _ hr=>have nd:=zhi.nd;⟨_,(zg (zaA (zja (zr (ziJ K) rfl B.isinstance zM (qa2 (qv 0) (zlX (v:= .ty "int") rfl B.int zwc rfl))) (zlI (zs2 (zr (ziJ K) rfl B.isinstance zM (qa2 (qv 0) (zlX (v:= .ty "bool") rfl B.bool zu9 rfl)))))))),fun _=>by infer_instance⟩
theorem zjT(F:Fun K "__init__" "Net.__init__" zef f fd)(B:Blt mg):zac P w K mg base CX0 1 f fd ["self"] (lift K zce) :=
 F.okB zgJ zfR rfl fun _ _ _ _ _ _ hr=>have nd:=zfR.nd;⟨_,(zf (zo2 K (qv 0) zo1)
  (zg (zo2 K (qv 0) zo1))),fun _=>by infer_instance⟩
theorem zmb(F:Fun K "names" "Net.names" zeQ f fd)(B:Blt mg):zac P w K mg base CX0 1 f fd ["self"] (lift K zbE) :=
 F.okB zhZ zgs rfl fun _ _ _ _ _ _ hr=>have nd:=zgs.nd;⟨_,(zg (zaA (zr (zbY K) rfl B.sorted zcv (qa1 (zap K (qv 0)))))),fun _=>by infer_instance⟩
theorem znj(F:Fun K "ends" "Net.ends" zf6 f fd)(B:Blt mg):zac P w K mg base CX0 1 f fd ["self","name"] (lift K zcY) :=
 F.okB zjb zii rfl fun _ _ _ _ _ _ hr=>have nd:=zii.nd;⟨_,(zf (zU (zG (zhA (zdt hr)) (qv 1) (zap K (qv 0)) (by with_unfolding_all rfl))
  (zg zbM)
  zL)
  (zg (zaA (zra (zdt hr) (zap K (qv 0)) (qv 1))))),fun _=>by infer_instance⟩
theorem zmK(F:Fun K "__eq__" "Net.__eq__" zgb f fd)(B:Blt mg){a_Net:Addr}(c_Net:mg "Net"=some (.ref a_Net))[zaa K "Net" a_Net][IsI K "Net"]:zac P w K mg base CX0 1 f fd ["self","other"] (lift K zaJ) :=
 F.okB zjL zhP rfl fun _ _ _ _ _ _ hr=>have nd:=zhP.nd;⟨_,(zg (zaA (zja (zr (zkW K) rfl B.isinstance zM (qa2 (qv 1) (zah (v:= .ref a_Net) rfl c_Net rfl))) (zja (zgD (zr9 K hr) (zap K (qv 0)) (zap K (qv 1)) (zY _)) (zlI (zgD (zr9 K hr) (zap K (qv 0)) (zap K (qv 1)) (zY _))))))),fun _=>by infer_instance⟩
theorem zgf(F:Fun K "check_nodes" "Net.check_nodes" zbl f fd)(B:Blt mg):zac P w K mg base CX0 1 f fd ["self","ends"] (lift K zaH) :=
 F.okB zdN za7 rfl fun _ _ _ _ _ _ hr=>have nd:=za7.nd;⟨_,(zg (zdS PassesOwn.never rfl (zbw K (qv 1)) (qG 2 nd)
  (zg (zU (WW.qt (zfQ (zG (zhA (zdt hr)) (qv 2) (zap K (qv 0)) (by with_unfolding_all rfl)) (zee (zG (zll (zdt hr)) (qv 2) (zap K (qv 0)) (by with_unfolding_all rfl)))))
  (zg zbM)
  zL)))),fun _=>by infer_instance⟩
theorem zj1(F:Fun K "check_ends" "check_ends" zc7 f fd)(B:Blt mg){u_MOST_ENDS:Value}(c_MOST_ENDS:mg "MOST_ENDS"=some u_MOST_ENDS)(c_MOST_ENDS_r:RelV (.int 6) u_MOST_ENDS):zac P w K mg base CX0 1 f fd ["ends"] (lift K zbr) :=
 F.okB zgU zcA rfl fun _ _ _ _ _ _ hr=>have nd:=zcA.nd;⟨_,(zf (zU (zeq (zhd zfh zfh zj (zr (zaw K) rfl B.len zaG (qa1 (qv 0))) (zah rfl c_MOST_ENDS c_MOST_ENDS_r)))
  (zg zbM)
  zL)
  (zg (zU (zG zjq (zr (zgS) rfl B.len zaG (qa1 (zau (zkI K) rfl B.set zrE (qa1 (qv 0))))) (zr (zaw K) rfl B.len zaG (qa1 (qv 0))) (zY _))
  (zg zbM)
  zL))),fun _=>by infer_instance⟩
theorem zi4(F:Fun K "check_ends" "check_ends" zc7 f fd)(B:Blt mg){u_MOST_ENDS:Value}(c_MOST_ENDS:mg "MOST_ENDS"=some u_MOST_ENDS)(c_MOST_ENDS_r:RelV (.int 6) u_MOST_ENDS){a_BadEnds:Addr}(c_BadEnds:mg "BadEnds"=some (.ref a_BadEnds))[zaa K "BadEnds" a_BadEnds](x_BadEnds:W.excIn K a_BadEnds bmV newV=true):zac P w K mg base (CX1 P w) 1 f fd ["ends"] (za6 K zbd) :=
 F.okX zfM zcA rfl fun _ _ _ _ _ _ hr=>have nd:=zcA.nd;⟨_,(zf (zU (zeq (zhd zfh zfh zj (zr (zaw K) rfl B.len zaG (qa1 (qv 0))) (zah rfl c_MOST_ENDS c_MOST_ENDS_r)))
  (zg (zdi zea c_BadEnds x_BadEnds (qa1 zB)))
  zL)
  (zg (zU (zG zjq (zr (zgS) rfl B.len zaG (qa1 (zau (zkI K) rfl B.set zrE (qa1 (qv 0))))) (zr (zaw K) rfl B.len zaG (qa1 (qv 0))) (zY _))
  (zg (zdi zea c_BadEnds x_BadEnds (qa1 zB)))
  zL))),fun _ _ _=>by infer_instance⟩
theorem zm5(F:Fun K "_law_need" "_law_need" zgh f fd)(B:Blt mg):zac P w K mg base CX0 1 f fd ["_law_row_here","_law_lines","_law_the_slack"] (lift K zc8) :=
 F.okB zjM zhW rfl fun _ _ _ _ _ _ hr=>have nd:=zhW.nd;⟨_,(zf (qS 3 nd zj)
  (zf (zdS PassesOwn.never rfl (zbw K (qx K (qv 0) zj)) (qG 4 nd)
  (zf (qS 5 nd zj)
  (zf (zdS PassesOwn.never rfl (zbw K (qv 1)) (qG 6 nd)
  (zg (zU (zG (zod K hr) (qx K (qv 6) zj) (qv 4) (by with_unfolding_all rfl))
  (zg (qS 5 nd (zaj (zay K) (zaj (zay K) (zaj (zay K) (qv 5) (qx K (qv 0) zj)) (qx K (qv 6) zj)) (qv 2))))
  zL)))
  (zg (qS 3 nd (zr (zpE K) rfl B.max zw9 (qa2 (qv 3) (qv 5))))))))
  (zg (zaA (qv 3))))),fun _=>by infer_instance⟩
theorem zhK(F:Fun K "_law_kinds_one" "_law_kinds_one" zcP f fd)(B:Blt mg){a_BadName:Addr}(c_BadName:mg "BadName"=some (.ref a_BadName))[zaa K "BadName" a_BadName]{a_BadNumber:Addr}(c_BadNumber:mg "BadNumber"=some (.ref a_BadNumber))[zaa K "BadNumber" a_BadNumber]{a_BadWay:Addr}(c_BadWay:mg "BadWay"=some (.ref a_BadWay))[zaa K "BadWay" a_BadWay]{a_BadEnds:Addr}(c_BadEnds:mg "BadEnds"=some (.ref a_BadEnds))[zaa K "BadEnds" a_BadEnds]{a_BadLine:Addr}(c_BadLine:mg "BadLine"=some (.ref a_BadLine))[zaa K "BadLine" a_BadLine]{a_Taken:Addr}(c_Taken:mg "Taken"=some (.ref a_Taken))[zaa K "Taken" a_Taken]{a_NoName:Addr}(c_NoName:mg "NoName"=some (.ref a_NoName))[zaa K "NoName" a_NoName]{a_InUse:Addr}(c_InUse:mg "InUse"=some (.ref a_InUse))[zaa K "InUse" a_InUse]{a_Full:Addr}(c_Full:mg "Full"=some (.ref a_Full))[zaa K "Full" a_Full](z_ValueError:mg "ValueError"=none)[ziZ K zaN zmY za1 zmF]:zac P w K mg base CX0 1 f fd ["_law_e"] (lift K zbj) false :=
 F.okU zeA zd8 rfl fun _ _ _ _ _ _ hr=>have nd:=zd8.nd;⟨_,(zf (zcr (qS 1 nd (za2 zcc)))
  (zf (zU (zaR (zr (zao K) rfl B.isinstance zM (qa2 (qv 0) (zah (v:= .ref a_BadName) rfl c_BadName rfl))))
  (zg (zu (zax K PySem.F.plainAttrs_list PySem.F.slot_list_append PySem.F.type_list_append zR (qv 1) (qa1 zB))))
  zL)
  (zf (zU (zaR (zr (zao K) rfl B.isinstance zM (qa2 (qv 0) (zah (v:= .ref a_BadNumber) rfl c_BadNumber rfl))))
  (zg (zu (zax K PySem.F.plainAttrs_list PySem.F.slot_list_append PySem.F.type_list_append zR (qv 1) (qa1 zB))))
  zL)
  (zf (zU (zaR (zr (zao K) rfl B.isinstance zM (qa2 (qv 0) (zah (v:= .ref a_BadWay) rfl c_BadWay rfl))))
  (zg (zu (zax K PySem.F.plainAttrs_list PySem.F.slot_list_append PySem.F.type_list_append zR (qv 1) (qa1 zB))))
  zL)
  (zf (zU (zaR (zr (zao K) rfl B.isinstance zM (qa2 (qv 0) (zah (v:= .ref a_BadEnds) rfl c_BadEnds rfl))))
  (zg (zu (zax K PySem.F.plainAttrs_list PySem.F.slot_list_append PySem.F.type_list_append zR (qv 1) (qa1 zB))))
  zL)
  (zf (zU (zaR (zr (zao K) rfl B.isinstance zM (qa2 (qv 0) (zah (v:= .ref a_BadLine) rfl c_BadLine rfl))))
  (zg (zu (zax K PySem.F.plainAttrs_list PySem.F.slot_list_append PySem.F.type_list_append zR (qv 1) (qa1 zB))))
  zL)
  (zf (zU (zaR (zr (zao K) rfl B.isinstance zM (qa2 (qv 0) (zah (v:= .ref a_Taken) rfl c_Taken rfl))))
  (zg (zu (zax K PySem.F.plainAttrs_list PySem.F.slot_list_append PySem.F.type_list_append zR (qv 1) (qa1 zB))))
  zL)
  (zf (zU (zaR (zr (zao K) rfl B.isinstance zM (qa2 (qv 0) (zah (v:= .ref a_NoName) rfl c_NoName rfl))))
  (zg (zu (zax K PySem.F.plainAttrs_list PySem.F.slot_list_append PySem.F.type_list_append zR (qv 1) (qa1 zB))))
  zL)
  (zf (zU (zaR (zr (zao K) rfl B.isinstance zM (qa2 (qv 0) (zah (v:= .ref a_InUse) rfl c_InUse rfl))))
  (zg (zu (zax K PySem.F.plainAttrs_list PySem.F.slot_list_append PySem.F.type_list_append zR (qv 1) (qa1 zB))))
  zL)
  (zf (zU (zaR (zr (zao K) rfl B.isinstance zM (qa2 (qv 0) (zah (v:= .ref a_Full) rfl c_Full rfl))))
  (zg (zu (zax K PySem.F.plainAttrs_list PySem.F.slot_list_append PySem.F.type_list_append zR (qv 1) (qa1 zB))))
  zL)
  (ziS 1 (zg (zaA (qv 1)))))))))))))),fun _=>by infer_instance⟩
theorem zhq(F:Fun K "_law_kinds_two" "_law_kinds_two" zcR f fd)(B:Blt mg){a_Tight:Addr}(c_Tight:mg "Tight"=some (.ref a_Tight))[zaa K "Tight" a_Tight]{a_Late:Addr}(c_Late:mg "Late"=some (.ref a_Late))[zaa K "Late" a_Late]{a_Heavy:Addr}(c_Heavy:mg "Heavy"=some (.ref a_Heavy))[zaa K "Heavy" a_Heavy]{a_NoPlan:Addr}(c_NoPlan:mg "NoPlan"=some (.ref a_NoPlan))[zaa K "NoPlan" a_NoPlan]{a_NoRoom:Addr}(c_NoRoom:mg "NoRoom"=some (.ref a_NoRoom))[zaa K "NoRoom" a_NoRoom]{a_NoStep:Addr}(c_NoStep:mg "NoStep"=some (.ref a_NoStep))[zaa K "NoStep" a_NoStep]{a_TooFew:Addr}(c_TooFew:mg "TooFew"=some (.ref a_TooFew))[zaa K "TooFew" a_TooFew]{a_BadPage:Addr}(c_BadPage:mg "BadPage"=some (.ref a_BadPage))[zaa K "BadPage" a_BadPage](z_ValueError:mg "ValueError"=none)[ziZ K zaN zmY za1 zmF]:zac P w K mg base CX0 1 f fd ["_law_e"] (lift K zbi) false :=
 F.okU zeM zd9 rfl fun _ _ _ _ _ _ hr=>have nd:=zd9.nd;⟨_,(zf (zcr (qS 1 nd (za2 zcc)))
  (zf (zU (zaR (zr (zao K) rfl B.isinstance zM (qa2 (qv 0) (zah (v:= .ref a_Tight) rfl c_Tight rfl))))
  (zg (zu (zax K PySem.F.plainAttrs_list PySem.F.slot_list_append PySem.F.type_list_append zR (qv 1) (qa1 zB))))
  zL)
  (zf (zU (zaR (zr (zao K) rfl B.isinstance zM (qa2 (qv 0) (zah (v:= .ref a_Late) rfl c_Late rfl))))
  (zg (zu (zax K PySem.F.plainAttrs_list PySem.F.slot_list_append PySem.F.type_list_append zR (qv 1) (qa1 zB))))
  zL)
  (zf (zU (zaR (zr (zao K) rfl B.isinstance zM (qa2 (qv 0) (zah (v:= .ref a_Heavy) rfl c_Heavy rfl))))
  (zg (zu (zax K PySem.F.plainAttrs_list PySem.F.slot_list_append PySem.F.type_list_append zR (qv 1) (qa1 zB))))
  zL)
  (zf (zU (zaR (zr (zao K) rfl B.isinstance zM (qa2 (qv 0) (zah (v:= .ref a_NoPlan) rfl c_NoPlan rfl))))
  (zg (zu (zax K PySem.F.plainAttrs_list PySem.F.slot_list_append PySem.F.type_list_append zR (qv 1) (qa1 zB))))
  zL)
  (zf (zU (zaR (zr (zao K) rfl B.isinstance zM (qa2 (qv 0) (zah (v:= .ref a_NoRoom) rfl c_NoRoom rfl))))
  (zg (zu (zax K PySem.F.plainAttrs_list PySem.F.slot_list_append PySem.F.type_list_append zR (qv 1) (qa1 zB))))
  zL)
  (zf (zU (zaR (zr (zao K) rfl B.isinstance zM (qa2 (qv 0) (zah (v:= .ref a_NoStep) rfl c_NoStep rfl))))
  (zg (zu (zax K PySem.F.plainAttrs_list PySem.F.slot_list_append PySem.F.type_list_append zR (qv 1) (qa1 zB))))
  zL)
  (zf (zU (zaR (zr (zao K) rfl B.isinstance zM (qa2 (qv 0) (zah (v:= .ref a_TooFew) rfl c_TooFew rfl))))
  (zg (zu (zax K PySem.F.plainAttrs_list PySem.F.slot_list_append PySem.F.type_list_append zR (qv 1) (qa1 zB))))
  zL)
  (zf (zU (zaR (zr (zao K) rfl B.isinstance zM (qa2 (qv 0) (zah (v:= .ref a_BadPage) rfl c_BadPage rfl))))
  (zg (zu (zax K PySem.F.plainAttrs_list PySem.F.slot_list_append PySem.F.type_list_append zR (qv 1) (qa1 zB))))
  zL)
  (ziS 1 (zg (zaA (qv 1))))))))))))),fun _=>by infer_instance⟩
theorem znN(F:Fun K "is_name" "is_name" zhH f fd)(B:Blt mg)(h_is_made_of:zg1 P w K mg base){u_LETTERS:Value}(c_LETTERS:mg "LETTERS"=some u_LETTERS)(c_LETTERS_r:RelV (.str "abcdefghijklmnopqrstuvwxyz") u_LETTERS){u_MOST_LETTERS:Value}(c_MOST_LETTERS:mg "MOST_LETTERS"=some u_MOST_LETTERS)(c_MOST_LETTERS_r:RelV (.int 8) u_MOST_LETTERS):zac P w K mg base CX0 2 f fd ["text"] (lift K zb4) :=
 F.okB zkf zi7 rfl fun _ _ _ _ _ _ hr=>have nd:=zi7.nd;⟨_,(zg (zaA (zz h_is_made_of hr (zp (qv 0) (qa2 (zah rfl c_LETTERS c_LETTERS_r) (zah rfl c_MOST_LETTERS c_MOST_LETTERS_r)))))),fun _=>by infer_instance⟩
theorem zjx(F:Fun K "check_whole" "check_whole" zcD f fd)(B:Blt mg)(h_is_number:zeN P w K mg base):zac P w K mg base CX0 2 f fd ["thing"] (lift K zbR) :=
 F.okB zfI zb6 rfl fun _ _ _ _ _ _ hr=>have nd:=zb6.nd;⟨_,(zg (zU (zeq (zaR (zz h_is_number hr (qa1 (qv 0)))))
  (zg zbM)
  zL)),fun _=>by infer_instance⟩
theorem zis(F:Fun K "check_whole" "check_whole" zcD f fd)(B:Blt mg)(h_is_number:zeN P w K mg base){a_BadNumber:Addr}(c_BadNumber:mg "BadNumber"=some (.ref a_BadNumber))[zaa K "BadNumber" a_BadNumber](x_BadNumber:W.excIn K a_BadNumber bmV newV=true):zac P w K mg base (CX1 P w) 2 f fd ["thing"] (za6 K zaV) :=
 F.okX zfb zb6 rfl fun _ _ _ _ _ _ hr=>have nd:=zb6.nd;⟨_,(zg (zU (zeq (zaR (zz h_is_number hr (qa1 (qv 0)))))
  (zg (zdi zea c_BadNumber x_BadNumber (qa1 zB)))
  zL)),fun _ _ _=>by infer_instance⟩
theorem zfF(F:Fun K "check_nodes" "Net.check_nodes" zbl f fd)(B:Blt mg)(n_NoName:zof P w K mg "NoName" "name" zeV)[zto K "NoName"]:zac P w K mg base (CX1 P w) 2 f fd ["self","ends"] (za6 K zaD) :=
 F.okX zdr za7 rfl fun _ _ _ _ _ _ hr=>have nd:=za7.nd;⟨_,(zg (zdS zyM rfl (zbw K (qv 1)) (qG 2 nd)
  (zg (zU (WW.qt (zfQ (zG (zhA (zdt hr)) (qv 2) (zap K (qv 0)) (by with_unfolding_all rfl)) (zee (zG (zll (zdt hr)) (qv 2) (zap K (qv 0)) (by with_unfolding_all rfl)))))
  (zg (zkN K zea n_NoName hr (qv 2)))
  zL)))),fun _ _ _=>by infer_instance⟩
theorem zne(F:Fun K "_law_pick" "_law_pick" zgk f fd)(B:Blt mg)(h_law_draw:za9 P w K mg base):zac P w K mg base CX0 2 f fd ["_law_s","_law_row_here"] (lift K zbu) :=
 F.okB zjm zh6 rfl fun _ _ _ _ _ _ hr=>have nd:=zh6.nd;⟨_,(zg (zaA (qx K (qv 1) (zz h_law_draw hr (qa2 (qv 0) (zr (zaw K) rfl B.len zaG (qa1 (qv 1)))))))),fun _=>by infer_instance⟩
theorem zml(F:Fun K "_law_name" "_law_name" zf1 f fd)(B:Blt mg)(h_law_draw:za9 P w K mg base):zac P w K mg base CX0 2 f fd ["_law_s","_law_names"] (lift K zav) :=
 F.okB ziY zhY rfl fun _ _ _ _ _ _ hr=>have nd:=zhY.nd;⟨_,(zf (qS 2 nd zB)
  (zf (zdS PassesOwn.never rfl (zco rfl B.range (qa1 zj)) (qG 3 nd)
  (zf (qS 4 nd (zaj (zay K) zj (zz h_law_draw hr (qa2 (qv 0) zj))))
  (zf (zU (zG (zbh K hr) (qv 4) zj (zY _))
  (zg (qS 4 nd (zaj (zay K) zj (zz h_law_draw hr (qa2 (qv 0) zj)))))
  zL)
  (zf (qS 5 nd (zax K PySem.F.plainAttrs_str PySem.F.slot_str_join PySem.F.type_str_join (zsR K) zB (qa1 (zg5 ["_law_k"] ["_law_letters","_law_s"] [2,0] (.of rfl (by decide+kernel) rfl) rfl rfl (by decide+kernel) (zco rfl B.range (qa1 (qv 4))) (fun _ _ _ _=>(zb9 (i:=0) (show List.Nodup (["_law_k","_law_letters","_law_s"]:List Str) by decide+kernel) rfl (Or.inl rfl))) (fun _ _ _ _=>zfu) (fun _ _ _ _=>(qx K (qv 1) (zz h_law_draw hr (qa2 (qv 2) zj))))))))
  (zg (zU (zG (zdc K hr) (qv 5) (qv 1) (by with_unfolding_all rfl))
  (zf (zu (zax K PySem.F.plainAttrs_list PySem.F.slot_list_append PySem.F.type_list_append zR (qv 1) (qa1 (qv 5))))
  (zg (zaA (qv 5))))
  zL))))))
  (zf (zdS PassesOwn.never rfl (zco rfl B.range (qa1 zj)) (qG 6 nd)
  (zf (qS 5 nd (zaj ztr (qx K (qv 2) (zaj zhC (qv 6) zj)) (zaj (zay K) zj (zaj zg9 (qv 6) zj))))
  (zg (zU (zG (zdc K hr) (qv 5) (qv 1) (by with_unfolding_all rfl))
  (zf (zu (zax K PySem.F.plainAttrs_list PySem.F.slot_list_append PySem.F.type_list_append zR (qv 1) (qa1 (qv 5))))
  (zg (zaA (qv 5))))
  zL))))
  (zg (zaA zB))))),fun _=>by infer_instance⟩
theorem znn(F:Fun K "_law_kind" "_law_kind" zf0 f fd)(B:Blt mg)(u_law_kinds_one:zd6 P w K mg base)(u_law_kinds_two:zd3 P w K mg base)(z_ValueError:mg "ValueError"=none)[ziZ K zaN zmY za1 zmF]:zac P w K mg base CX0 2 f fd ["_law_e"] (lift K zc4) false :=
 F.okU ziM zh1 rfl fun _ _ _ _ _ _ hr=>have nd:=zh1.nd;⟨_,(zf (qS 1 nd (zaj (zay K) (zi5 u_law_kinds_one hr (qa1 (qv 0))) (zi5 u_law_kinds_two hr (qa1 (qv 0)))))
  (zf (zU (WW.qt (zn4 (zG (zbh K hr) (zr (zaw K) rfl B.len zaG (qa1 (qv 1))) zj (zY _)) (zlt (zaR (zr (zao K) rfl B.isinstance zM (qa2 (qv 0) (zlX (v:= .ty "ValueError") rfl z_ValueError zj0 rfl)))))))
  (zg (zaA (qx K (qv 1) zj)))
  zL)
  (zg (zaA zB)))),fun _=>by infer_instance⟩
theorem zjP(F:Fun K "check_name" "check_name" zcZ f fd)(B:Blt mg)(h_is_name:zhJ P w K mg base):zac P w K mg base CX0 3 f fd ["text"] (lift K zcf) :=
 F.okB zgK zcz rfl fun _ _ _ _ _ _ hr=>have nd:=zcz.nd;⟨_,(zg (zU (zeq (zaR (zz h_is_name hr (qa1 (qv 0)))))
  (zg zbM)
  zL)),fun _=>by infer_instance⟩
theorem zjj(F:Fun K "check_name" "check_name" zcZ f fd)(B:Blt mg)(h_is_name:zhJ P w K mg base){a_BadName:Addr}(c_BadName:mg "BadName"=some (.ref a_BadName))[zaa K "BadName" a_BadName](x_BadName:W.excIn K a_BadName bmV newV=true):zac P w K mg base (CX1 P w) 3 f fd ["text"] (za6 K zbb) :=
 F.okX zfG zcz rfl fun _ _ _ _ _ _ hr=>have nd:=zcz.nd;⟨_,(zg (zU (zeq (zaR (zz h_is_name hr (qa1 (qv 0)))))
  (zg (zdi zea c_BadName x_BadName (qa1 (zu8 (zpo zB (zpo (zwJ (qv 0)) zx2))))))
  zL)),fun _ _ _=>by infer_instance⟩
theorem ziu(F:Fun K "check_number" "check_number" zci f fd)(B:Blt mg)(h_check_whole:zfO P w K mg base):zac P w K mg base CX0 3 f fd ["number","least","most"] (lift K zby) :=
 F.okB zff zbQ rfl fun _ _ _ _ _ _ hr=>have nd:=zbQ.nd;⟨_,(zf (zu (zz h_check_whole hr (qa1 (qv 0))))
  (zg (zU (zeq (zhd zfh zfh (qv 1) (qv 0) (qv 2)))
  (zg zbM)
  zL))),fun _=>by infer_instance⟩
theorem zhu(F:Fun K "check_number" "check_number" zci f fd)(B:Blt mg)(hK_check_wholeX_1:zdJ P w K mg base){a_BadNumber:Addr}(c_BadNumber:mg "BadNumber"=some (.ref a_BadNumber))[zaa K "BadNumber" a_BadNumber](x_BadNumber:W.excIn K a_BadNumber bmV newV=true):zac P w K mg base (CX1 P w) 3 f fd ["number","least","most"] (za6 K zaE) :=
 F.okX zeI zbQ rfl fun _ _ _ _ _ _ hr=>have nd:=zbQ.nd;⟨_,(zf (zu (zd4 hK_check_wholeX_1 hr zaZ (qa1 (qv 0)) zak))
  (zg (zU (zeq (zhd zfh zfh (qv 1) (qv 0) (qv 2)))
  (zg (zdi zea c_BadNumber x_BadNumber (qa1 zB)))
  zL))),fun _ _ _=>by infer_instance⟩
theorem znB(F:Fun K "_law_hop" "_law_hop" zhy f fd)(B:Blt mg)(h_law_draw:za9 P w K mg base)(h_law_pick:zeu P w K mg base)(h_law_name:zdh P w K mg base):zac P w K mg base CX0 3 f fd ["_law_s","_law_names","_law_lines","_law_one","_law_two","_law_barred"] (lift K zcO) :=
 F.okB zkj zi0 rfl fun _ _ _ _ _ _ hr=>have nd:=zi0.nd;⟨_,(zf (zgT ["_law_line"] ["_law_barred","_law_one"] [5,3] (i:=6) nd rfl rfl (.of rfl (by decide+kernel) rfl) rfl rfl (by decide+kernel) (zbw K (qv 2)) (fun _ _ _ _=>(zb9 (i:=0) (show List.Nodup (["_law_line","_law_barred","_law_one"]:List Str) by decide+kernel) rfl (Or.inl rfl))) (fun _ _ _ _=>(ziB (WW.qt (zn4 (zG (zdc K hr) (qx K (qv 0) zj) (qv 1) (by with_unfolding_all rfl)) (zlt (WW.qt (zfQ (zG (zod K hr) (qv 2) (qx K (qv 0) zj) (by with_unfolding_all rfl)) (zee (zG zjq (zr (zaw K) rfl B.len zaG (qa1 (qx K (qv 0) zj))) zj (zY _)))))))))) (fun _ _ _ _=>(qv 0)))
  (zf (zgT ["_law_line"] ["_law_two"] [4] (i:=6) nd rfl rfl (.of rfl (by decide+kernel) rfl) rfl rfl (by decide+kernel) (zbw K (qv 6)) (fun _ _ _ _=>(zb9 (i:=0) (show List.Nodup (["_law_line","_law_two"]:List Str) by decide+kernel) rfl (Or.inl rfl))) (fun _ _ _ _=>(ziB (WW.qt (zfQ (zG (zod K hr) (qv 1) (qx K (qv 0) zj) (by with_unfolding_all rfl)) (zee (zG zjq (zr (zaw K) rfl B.len zaG (qa1 (qx K (qv 0) zj))) zj (zY _))))))) (fun _ _ _ _=>(qv 0)))
  (zf (zU (WW.qt (zn4 (zG zjq (zr (zaw K) rfl B.len zaG (qa1 (qv 2))) zj (zY _)) (zlt (WW.qt (zfQ (zG (zbh K hr) (zr (zaw K) rfl B.len zaG (qa1 (qv 6))) zj (zY _)) (zee (zG (zbh K hr) (zz h_law_draw hr (qa2 (qv 0) zj)) zj (zY _))))))))
  (zf (zu (zax K PySem.F.plainAttrs_list PySem.F.slot_list_append PySem.F.type_list_append zR (qv 2) (qa1 (za2 (zp (zz h_law_name hr (qa2 (qv 0) (qv 1))) (zp (zpg (za2 (qa1 (qv 3)))) (qa2 (zpg (za2 (qa1 (qv 4)))) (zz h_law_draw hr (qa2 (qv 0) zj)))))))))
  (zg (zaA (qx K (qx K (qv 2) (zjv zgl zj)) zj))))
  zL)
  (zf (qS 7 nd (zz h_law_pick hr (qa2 (qv 0) (qv 6))))
  (zf (zU (zG (zdc K hr) (qv 3) (qx K (qv 7) zj) (by with_unfolding_all rfl))
  (zg (zu (zax K PySem.F.plainAttrs_list PySem.F.slot_list_append PySem.F.type_list_append zR (qx K (qv 7) zj) (qa1 (qv 3)))))
  zL)
  (zf (zU (zG (zdc K hr) (qv 4) (qx K (qv 7) zj) (by with_unfolding_all rfl))
  (zg (zu (zax K PySem.F.plainAttrs_list PySem.F.slot_list_append PySem.F.type_list_append zR (qx K (qv 7) zj) (qa1 (qv 4)))))
  zL)
  (zg (zaA (qx K (qv 7) zj))))))))),fun _=>by infer_instance⟩
theorem zlN(F:Fun K "_law_wrong" "_law_wrong" zfd f fd)(B:Blt mg)(h_law_draw:za9 P w K mg base)(h_law_pick:zeu P w K mg base):zac P w K mg base CX0 3 f fd ["_law_s","_law_world_here"] (lift K zcF) :=
 F.okB zhS zgz rfl fun _ _ _ _ _ _ hr=>have nd:=zgz.nd;⟨_,(zf (qS 2 nd (qx K (za2 (zp zB (zp zB (zp zB (zp zB (zp zB (zp zB (qa2 zB zB)))))))) (zz h_law_draw hr (qa2 (qv 0) zj))))
  (zg (zaA (za2 (qa2 (qv 2) (zz h_law_pick hr (qa2 (qv 0) (zaj (zay K) (zaj (zay K) (qx K (qv 1) zj) (qx K (qv 1) zj)) (zg5 ["_law_line"] [] [] (.of rfl (by decide+kernel) rfl) rfl rfl (by decide+kernel) (zbw K (qx K (qv 1) zj)) (fun _ _ _ _=>(zb9 (i:=0) (show List.Nodup (["_law_line"]:List Str) by decide+kernel) rfl (Or.inl rfl))) (fun _ _ _ _=>zfu) (fun _ _ _ _=>(qx K (qv 0) zj))))))))))),fun _=>by infer_instance⟩
theorem zht(F:Fun K "check_new" "Net.check_new" zbP f fd)(B:Blt mg)(h_check_name:zg7 P w K mg base):zac P w K mg base CX0 4 f fd ["self","name"] (lift K zaT) :=
 F.okB zeL zbx rfl fun _ _ _ _ _ _ hr=>have nd:=zbx.nd;⟨_,(zf (zu (zz h_check_name hr (qa1 (qv 1))))
  (zg (zU (zG (zll (zdt hr)) (qv 1) (zap K (qv 0)) (by with_unfolding_all rfl))
  (zg zbM)
  zL))),fun _=>by infer_instance⟩
theorem zgO(F:Fun K "check_new" "Net.check_new" zbP f fd)(B:Blt mg)(hK_check_nameX_1:zd1 P w K mg base)(n_Taken:zof P w K mg "Taken" "name" zgH)[zto K "Taken"]:zac P w K mg base (CX1 P w) 4 f fd ["self","name"] (za6 K zX) :=
 F.okX zdX zbx rfl fun _ _ _ _ _ _ hr=>have nd:=zbx.nd;⟨_,(zf (zu (zd4 hK_check_nameX_1 hr zaZ (qa1 (qv 1)) zak))
  (zg (zU (zG (zll (zdt hr)) (qv 1) (zap K (qv 0)) (by with_unfolding_all rfl))
  (zg (zkN K zea n_Taken hr (qv 1)))
  zL))),fun _ _ _=>by infer_instance⟩
theorem zop(F:Fun K "_law_way" "_law_way" zhj f fd)(B:Blt mg)(h_law_draw:za9 P w K mg base)(h_law_pick:zeu P w K mg base)(h_law_hop:zkY P w K mg base):zac P w K mg base CX0 4 f fd ["_law_s","_law_names","_law_lines","_law_gates","_law_first","_law_the_last","_law_barred"] (lift K zcI) :=
 F.okB zkh zju rfl fun _ _ _ _ _ _ hr=>have nd:=zju.nd;⟨_,(zf (zgT ["_law_gate"] ["_law_barred"] [6] (i:=7) nd rfl rfl (.of rfl (by decide+kernel) rfl) rfl rfl (by decide+kernel) (zbw K (qv 3)) (fun _ _ _ _=>(zb9 (i:=0) (show List.Nodup (["_law_gate","_law_barred"]:List Str) by decide+kernel) rfl (Or.inl rfl))) (fun _ _ _ _=>(ziB (zG (zdc K hr) (qv 0) (qv 1) (by with_unfolding_all rfl)))) (fun _ _ _ _=>(qv 0)))
  (zf (zcr (qS 8 nd (za2 (qa1 (qv 4)))))
  (zf (zdS PassesOwn.never rfl (zco rfl B.range (qa1 (zr (zkR K) rfl B.min zqE (qa2 (zz h_law_draw hr (qa2 (qv 0) zj)) (zr (zaw K) rfl B.len zaG (qa1 (qv 7))))))) (qG 9 nd)
  (zf (qS 10 nd (zz h_law_pick hr (qa2 (qv 0) (qv 7))))
  (zf (zgT ["_law_other"] ["_law_gate"] [10] (i:=7) nd rfl rfl (.of rfl (by decide+kernel) rfl) rfl rfl (by decide+kernel) (zbw K (qv 7)) (fun _ _ _ _=>(zb9 (i:=0) (show List.Nodup (["_law_other","_law_gate"]:List Str) by decide+kernel) rfl (Or.inl rfl))) (fun _ _ _ _=>(ziB (zG (znY K hr) (qv 0) (qv 1) (zY _)))) (fun _ _ _ _=>(qv 0)))
  (zf (zu (zax K PySem.F.plainAttrs_list PySem.F.slot_list_append PySem.F.type_list_append zR (qv 8) (qa1 (zz h_law_hop hr (zp (qv 0) (zp (qv 1) (zp (qv 2) (zp (qx K (qv 8) (zjv zgl zj)) (qa2 (qv 10) (zaj (zay K) (qv 6) (qv 8)))))))))))
  (zg (zu (zax K PySem.F.plainAttrs_list PySem.F.slot_list_append PySem.F.type_list_append zR (qv 8) (qa1 (qv 10)))))))))
  (zf (zu (zax K PySem.F.plainAttrs_list PySem.F.slot_list_append PySem.F.type_list_append zR (qv 8) (qa1 (zz h_law_hop hr (zp (qv 0) (zp (qv 1) (zp (qv 2) (zp (qx K (qv 8) (zjv zgl zj)) (qa2 (qv 5) (zaj (zay K) (qv 6) (qv 8)))))))))))
  (zf (zu (zax K PySem.F.plainAttrs_list PySem.F.slot_list_append PySem.F.type_list_append zR (qv 8) (qa1 (qv 5))))
  (zg (zaA (zau (zas K) rfl B.tuple zaY (qa1 (qv 8)))))))))),fun _=>by infer_instance⟩
theorem zm1(F:Fun K "line" "Net.line" zep f fd)(B:Blt mg)(h_check_ends:zgC P w K mg base)(h_check_number:zfl P w K mg base)(hT_Net_check_new_2:zbV P w K mg base)(hT_Net_check_nodes_2:zcL P w K mg base){u_MOST_LINES:Value}(c_MOST_LINES:mg "MOST_LINES"=some u_MOST_LINES)(c_MOST_LINES_r:RelV (.int 16) u_MOST_LINES){u_MOST_WIRE:Value}(c_MOST_WIRE:mg "MOST_WIRE"=some u_MOST_WIRE)(c_MOST_WIRE_r:RelV (.int 30) u_MOST_WIRE):zac P w K mg base CX0 5 f fd ["self","name","senders","ears","wire"] (lift K zck) :=
 F.okB ziQ zdC rfl fun _ _ _ _ _ _ hr=>have nd:=zdC.nd;⟨_,(zf (zu (zbq (pl:=_) K hT_Net_check_new_2 hr (qv 0) (qa1 (qv 1)) zak))
  (zf (zU (zG zmM (zr zcw rfl B.len zaG (qa1 (zap K (qv 0)))) (zah rfl c_MOST_LINES c_MOST_LINES_r) (zY _))
  (zg zbM)
  zL)
  (zf (zu (zz h_check_ends hr (qa1 (qv 2))))
  (zf (zu (zz h_check_ends hr (qa1 (qv 3))))
  (zf (zu (zbq (pl:=_) K hT_Net_check_nodes_2 hr (qv 0) (qa1 (qv 2)) zak))
  (zf (zu (zbq (pl:=_) K hT_Net_check_nodes_2 hr (qv 0) (qa1 (qv 3)) zak))
  (zf (zu (zz h_check_number hr (zp (qv 4) (qa2 zj (zah rfl c_MOST_WIRE c_MOST_WIRE_r)))))
  (zf (zd7 (zdt hr) (zap K (qv 0)) (qv 1) zB)
  (zg (zd7 (zdt hr) (zap K (qv 0)) (qv 1) (zaX (zp (zau (zas K) rfl B.tuple zaY (qa1 (zr (zbY K) rfl B.sorted zcv (qa1 (qv 2))))) (qa2 (zau (zas K) rfl B.tuple zaY (qa1 (zr (zbY K) rfl B.sorted zcv (qa1 (qv 3))))) (qv 4)))))))))))))),fun _=>by infer_instance⟩
theorem zhc(F:Fun K "line" "Net.line" zep f fd)(B:Blt mg)(hT_Net_check_newX_2:zbC P w K mg base)(hK_check_endsX_1:zd0 P w K mg base)(hT_Net_check_nodesX_2:zcm P w K mg base)(hK_check_numberX_3:zdg P w K mg base){u_MOST_LINES:Value}(c_MOST_LINES:mg "MOST_LINES"=some u_MOST_LINES)(c_MOST_LINES_r:RelV (.int 16) u_MOST_LINES){u_MOST_WIRE:Value}(c_MOST_WIRE:mg "MOST_WIRE"=some u_MOST_WIRE)(c_MOST_WIRE_r:RelV (.int 30) u_MOST_WIRE){a_Full:Addr}(c_Full:mg "Full"=some (.ref a_Full))[zaa K "Full" a_Full](x_Full:W.excIn K a_Full bmV newV=true):zac P w K mg base (CX1 P w) 5 f fd ["self","name","senders","ears","wire"] (za6 K zQ) :=
 F.okX zhQ zdC rfl fun _ _ _ _ _ _ hr=>have nd:=zdC.nd;⟨_,(zf (zu (zaz (pl:=_) K hT_Net_check_newX_2 hr zaZ (qv 0) (qa1 (qv 1)) zak))
  (zf (zU (zG zmM (zr zcw rfl B.len zaG (qa1 (zap K (qv 0)))) (zah rfl c_MOST_LINES c_MOST_LINES_r) (zY _))
  (zg (zdi zea c_Full x_Full (qa1 zB)))
  zL)
  (zf (zu (zd4 hK_check_endsX_1 hr zaZ (qa1 (qv 2)) zak))
  (zf (zu (zd4 hK_check_endsX_1 hr zaZ (qa1 (qv 3)) zak))
  (zf (zu (zaz (pl:=_) K hT_Net_check_nodesX_2 hr zaZ (qv 0) (qa1 (qv 2)) zak))
  (zf (zu (zaz (pl:=_) K hT_Net_check_nodesX_2 hr zaZ (qv 0) (qa1 (qv 3)) zak))
  (zf (zu (zd4 hK_check_numberX_3 hr zaZ (zp (qv 4) (qa2 zj (zah rfl c_MOST_WIRE c_MOST_WIRE_r))) zak))
  (zf (zd7 (zdt hr) (zap K (qv 0)) (qv 1) zB)
  (zg (zd7 (zdt hr) (zap K (qv 0)) (qv 1) (zaX (zp (zau (zas K) rfl B.tuple zaY (qa1 (zr (zbY K) rfl B.sorted zcv (qa1 (qv 2))))) (qa2 (zau (zas K) rfl B.tuple zaY (qa1 (zr (zbY K) rfl B.sorted zcv (qa1 (qv 3))))) (qv 4)))))))))))))),fun _ _ _=>by infer_instance⟩
theorem zin(F:Fun K "put_node" "Net.put_node" zch f fd)(B:Blt mg)(hT_Net_check_new_2:zbV P w K mg base){u_MOST_NODES:Value}(c_MOST_NODES:mg "MOST_NODES"=some u_MOST_NODES)(c_MOST_NODES_r:RelV (.int 16) u_MOST_NODES):zac P w K mg base CX0 5 f fd ["self","name","kind"] (lift K za3) :=
 F.okB ze6 zbS rfl fun _ _ _ _ _ _ hr=>have nd:=zbS.nd;⟨_,(zf (zu (zbq (pl:=_) K hT_Net_check_new_2 hr (qv 0) (qa1 (qv 1)) zak))
  (zf (zU (zG zmM (zaj zeU (zr zcw rfl B.len zaG (qa1 (zap K (qv 0)))) (zr zcw rfl B.len zaG (qa1 (zap K (qv 0))))) (zah rfl c_MOST_NODES c_MOST_NODES_r) (zY _))
  (zg zbM)
  zL)
  (zg (zd7 (zdt hr) (zap K (qv 0)) (qv 1) (qv 2))))),fun _=>by infer_instance⟩
theorem zhv(F:Fun K "put_node" "Net.put_node" zch f fd)(B:Blt mg)(hT_Net_check_newX_2:zbC P w K mg base){u_MOST_NODES:Value}(c_MOST_NODES:mg "MOST_NODES"=some u_MOST_NODES)(c_MOST_NODES_r:RelV (.int 16) u_MOST_NODES){a_Full:Addr}(c_Full:mg "Full"=some (.ref a_Full))[zaa K "Full" a_Full](x_Full:W.excIn K a_Full bmV newV=true):zac P w K mg base (CX1 P w) 5 f fd ["self","name","kind"] (za6 K zaU) :=
 F.okX zey zbS rfl fun _ _ _ _ _ _ hr=>have nd:=zbS.nd;⟨_,(zf (zu (zaz (pl:=_) K hT_Net_check_newX_2 hr zaZ (qv 0) (qa1 (qv 1)) zak))
  (zf (zU (zG zmM (zaj zeU (zr zcw rfl B.len zaG (qa1 (zap K (qv 0)))) (zr zcw rfl B.len zaG (qa1 (zap K (qv 0))))) (zah rfl c_MOST_NODES c_MOST_NODES_r) (zY _))
  (zg (zdi zea c_Full x_Full (qa1 zB)))
  zL)
  (zg (zd7 (zdt hr) (zap K (qv 0)) (qv 1) (qv 2))))),fun _ _ _=>by infer_instance⟩
theorem znR(F:Fun K "_law_row" "_law_row" zhI f fd)(B:Blt mg)(h_law_draw:za9 P w K mg base)(h_law_need:zjJ P w K mg base)(h_law_name:zdh P w K mg base)(h_law_way:zkB P w K mg base):zac P w K mg base CX0 5 f fd ["_law_s","_law_names","_law_lines","_law_houses","_law_gates","_law_the_slack"] (lift K zdK) :=
 F.okB zkp zjo rfl fun _ _ _ _ _ _ hr=>have nd:=zjo.nd;⟨_,(zf (qS 6 nd (zz h_law_draw hr (qa2 (qv 0) (zr (zaw K) rfl B.len zaG (qa1 (qv 3))))))
  (zf (qS 7 nd (qx K (qv 3) (qv 6)))
  (zf (qS 8 nd (qx K (qv 3) (zaj zhC (zaj (zay K) (zaj (zay K) (qv 6) zj) (zz h_law_draw hr (qa2 (qv 0) (zaj zeU (zr (zaw K) rfl B.len zaG (qa1 (qv 3))) zj)))) (zr (zaw K) rfl B.len zaG (qa1 (qv 3))))))
  (zf (zcr (qS 9 nd (za2 (qa1 (zz h_law_way hr (zp (qv 0) (zp (qv 1) (zp (qv 2) (zp (qv 4) (zp (qv 7) (qa2 (qv 8) (za2 zcc))))))))))))
  (zf (zU (zG (zbh K hr) (zz h_law_draw hr (qa2 (qv 0) zj)) zj (zY _))
  (zg (zu (zax K PySem.F.plainAttrs_list PySem.F.slot_list_append PySem.F.type_list_append zR (qv 9) (qa1 (zz h_law_way hr (zp (qv 0) (zp (qv 1) (zp (qv 2) (zp (qv 4) (zp (qv 7) (qa2 (qv 8) (zau (zn7 K) rfl B.list zoK (qa1 (zdY (zhe K) (qx K (qv 9) zj) (zeb zj) (zeb (zjv zgl zj))))))))))))))))
  zL)
  (zf (qS 10 nd (qx K (za2 (zoI [12,8,20,24,10,30,15,40,60,12,120] rfl)) (zz h_law_draw hr (qa2 (qv 0) zj))))
  (zf (qS 11 nd (zaj (zay K) zj (zz h_law_draw hr (qa2 (qv 0) (zr (zkR K) rfl B.min zqE (qa2 zj (zaj zeU (qv 10) (qv 5))))))))
  (zf (qS 12 nd (zaX (zp (zz h_law_name hr (qa2 (qv 0) (qv 1))) (zp (zau (zas K) rfl B.tuple zaY (qa1 (qv 9))) (zp (qv 10) (zp (qv 11) (qa2 (zz h_law_draw hr (qa2 (qv 0) (qv 10))) zj)))))))
  (zf (qS 13 nd (qx K (za2 (zp zj (zp zj (zp zj (zp (zaj zg9 (qv 10) zj) (zp zj (qa2 (zaj zeU (qv 10) zj) zj))))))) (zz h_law_draw hr (qa2 (qv 0) zj))))
  (zg (zaA (zaj (zay K) (zdY (zhe K) (qv 12) zgw (zeb zj)) (zaX (qa1 (zaj (zay K) (zz h_law_need hr (zp (qv 12) (qa2 (qv 2) (qv 5)))) (qv 13)))))))))))))))),fun _=>by infer_instance⟩
theorem zmc(F:Fun K "house" "Net.house" zdB f fd)(B:Blt mg)(hT_Net_put_node_3:zcj P w K mg base):zac P w K mg base CX0 6 f fd ["self","name"] (lift K zcC) :=
 F.okB zhO zda rfl fun _ _ _ _ _ _ hr=>have nd:=zda.nd;⟨_,(zg (zu (zbq (pl:=_) K hT_Net_put_node_3 hr (qv 0) (qa2 (qv 1) zB) zak))),fun _=>by infer_instance⟩
theorem zjR(F:Fun K "house" "Net.house" zdB f fd)(B:Blt mg)(hT_Net_put_nodeX_3:zbW P w K mg base):zac P w K mg base (CX1 P w) 6 f fd ["self","name"] (za6 K zbt) :=
 F.okX zgI zda rfl fun _ _ _ _ _ _ hr=>have nd:=zda.nd;⟨_,(zg (zu (zaz (pl:=_) K hT_Net_put_nodeX_3 hr zaZ (qv 0) (qa2 (qv 1) zB) zak))),fun _ _ _=>by infer_instance⟩
theorem zm0(F:Fun K "gate" "Net.gate" zem f fd)(B:Blt mg)(hT_Net_put_node_3:zcj P w K mg base):zac P w K mg base CX0 6 f fd ["self","name"] (lift K zc6) :=
 F.okB zjC zdD rfl fun _ _ _ _ _ _ hr=>have nd:=zdD.nd;⟨_,(zg (zu (zbq (pl:=_) K hT_Net_put_node_3 hr (qv 0) (qa2 (qv 1) zB) zak))),fun _=>by infer_instance⟩
theorem zlO(F:Fun K "gate" "Net.gate" zem f fd)(B:Blt mg)(hT_Net_put_nodeX_3:zbW P w K mg base):zac P w K mg base (CX1 P w) 6 f fd ["self","name"] (za6 K zbL) :=
 F.okX zhN zdD rfl fun _ _ _ _ _ _ hr=>have nd:=zdD.nd;⟨_,(zg (zu (zaz (pl:=_) K hT_Net_put_nodeX_3 hr zaZ (qv 0) (qa2 (qv 1) zB) zak))),fun _ _ _=>by infer_instance⟩
theorem zlz(F:Fun K "_law_world" "_law_world" zfj f fd)(B:Blt mg)(h_law_draw:za9 P w K mg base)(h_law_name:zdh P w K mg base)(h_law_row:zkP P w K mg base):zac P w K mg base CX0 6 f fd ["_law_s","_law_the_most"] (lift K zcB) :=
 F.okB zib zgp rfl fun _ _ _ _ _ _ hr=>have nd:=zgp.nd;⟨_,(zf (zcr (qS 2 nd (za2 zcc)))
  (zf (qS 3 nd (zg5 ["_law_k"] ["_law_names","_law_s"] [2,0] (.of rfl (by decide+kernel) rfl) rfl rfl (by decide+kernel) (zco rfl B.range (qa1 (zaj (zay K) zj (zz h_law_draw hr (qa2 (qv 0) zj))))) (fun _ _ _ _=>(zb9 (i:=0) (show List.Nodup (["_law_k","_law_names","_law_s"]:List Str) by decide+kernel) rfl (Or.inl rfl))) (fun _ _ _ _=>zfu) (fun _ _ _ _=>(zz h_law_name hr (qa2 (qv 2) (qv 1))))))
  (zf (qS 4 nd (zg5 ["_law_k"] ["_law_names","_law_s"] [2,0] (.of rfl (by decide+kernel) rfl) rfl rfl (by decide+kernel) (zco rfl B.range (qa1 (zz h_law_draw hr (qa2 (qv 0) zj)))) (fun _ _ _ _=>(zb9 (i:=0) (show List.Nodup (["_law_k","_law_names","_law_s"]:List Str) by decide+kernel) rfl (Or.inl rfl))) (fun _ _ _ _=>zfu) (fun _ _ _ _=>(zz h_law_name hr (qa2 (qv 2) (qv 1))))))
  (zf (qS 5 nd (qx K (za2 (zoI [0,1,2,0,3,1,5,7] rfl)) (zz h_law_draw hr (qa2 (qv 0) zj))))
  (zf (zcr (qS 6 nd (za2 zcc)))
  (zf (zgT ["_law_k"] ["_law_gates","_law_houses","_law_lines","_law_names","_law_s","_law_the_slack"] [4,3,6,2,0,5] (i:=7) nd rfl rfl (.of rfl (by decide+kernel) rfl) rfl rfl (by decide+kernel) (zco rfl B.range (qa1 (zaj (zay K) zj (zz h_law_draw hr (qa2 (qv 0) (qv 1)))))) (fun _ _ _ _=>(zb9 (i:=0) (show List.Nodup (["_law_k","_law_gates","_law_houses","_law_lines","_law_names","_law_s","_law_the_slack"]:List Str) by decide+kernel) rfl (Or.inl rfl))) (fun _ _ _ _=>zfu) (fun _ _ _ _=>(zz h_law_row hr (zp (qv 5) (zp (qv 4) (zp (qv 3) (zp (qv 2) (qa2 (qv 1) (qv 6)))))))))
  (zg (zaA (zaX (zp (qv 3) (zp (qv 4) (zp (qv 6) (zp (qv 7) (qa2 (qv 5) (qv 2))))))))))))))),fun _=>by infer_instance⟩
theorem zmv(F:Fun K "_law_due" "_law_due" zhD f fd)(B:Blt mg)(hT_Net_lineX_4_wire:zbB P w K mg base)(hT_Net_lineX_4:zfk P w K mg base):zac P w K mg base (CX1 P w) 6 f fd ["_law_way_here","_law_net_here","_law_name_here","_law_other","_law_there","_law_line"] (za6 K zc3) :=
 F.okX zjB zjr rfl fun _ _ _ _ _ _ hr=>have nd:=zjr.nd;⟨_,(zf (qS 6 nd (zau (zas K) rfl B.tuple zaY (qa1 (qv 4))))
  (zg (zU (zG (zbh K hr) (qv 0) zj (zY _))
  (zg (zu (zaz (pl:=_) K hT_Net_lineX_4_wire hr zaZ (qv 1) (zp (qv 2) (qa2 (zaX zcc) (qv 6))) (zc9 zj zak))))
  (zg (zU (zG (zbh K hr) (qv 0) zj (zY _))
  (zg (zu (zaz (pl:=_) K hT_Net_lineX_4 hr zaZ (qv 1) (zp (qv 2) (qa2 (qv 6) (zaj (zay K) (zdY (zhe K) (qv 6) zgw (zeb zj)) (zdY (zhe K) (qv 6) zgw (zeb zj))))) zak)))
  (zg (zU (zG (zbh K hr) (qv 0) zj (zY _))
  (zg (zu (zaz (pl:=_) K hT_Net_lineX_4_wire hr zaZ (qv 1) (zp (qv 2) (qa2 (zaj (zay K) (qv 6) (zaX (qa1 (qv 3)))) (zaj (zay K) (zaX (qa1 (qv 5))) (qv 6)))) (zc9 zj zak))))
  (zg (zU (zG (zbh K hr) (qv 0) zj (zY _))
  (zg (zu (zaz (pl:=_) K hT_Net_lineX_4_wire hr zaZ (qv 1) (zp (qv 2) (qa2 (qv 6) (zaj (zay K) (zaX (qa1 (qv 5))) (qv 6)))) (zc9 (zjv zgl zj) zak))))
  (zg (zU (zG (zbh K hr) (qv 0) zj (zY _))
  (zg (zu (zaz (pl:=_) K hT_Net_lineX_4_wire hr zaZ (qv 1) (zp (qv 2) (qa2 (qv 6) (qv 6))) (zc9 zj zak))))
  (zg (zU (zG (zbh K hr) (qv 0) zj (zY _))
  (zg (zu (zaz (pl:=_) K hT_Net_lineX_4_wire hr zaZ (qv 1) (zp (qv 2) (qa2 (qv 6) (qv 6))) (zc9 (zjv zgl zj) zak))))
  (zg (zU (zG (zbh K hr) (qv 0) zj (zY _))
  (zg (zu (zaz (pl:=_) K hT_Net_lineX_4_wire hr zaZ (qv 1) (zp (qv 2) (qa2 (qv 6) (qv 6))) (zc9 zvD zak))))
  (zg (zU (zG (zbh K hr) (qv 0) zj (zY _))
  (zg (zu (zaz (pl:=_) K hT_Net_lineX_4 hr zaZ (qv 1) (zp (qv 2) (qa2 (zaX (qa1 (qv 3))) (zaX (qa2 (qv 3) (qv 3))))) zak)))
  (zg (zu (zaz (pl:=_) K hT_Net_lineX_4 hr zaZ (qv 1) (zp (qv 2) (qa2 (zaX (zp zB (zp zB (zp zB (zp zB (zp zB (qa2 zB zB))))))) (qv 6))) zak)))))))))))))))))))),fun _ _ _=>by infer_instance⟩
theorem znQ(F:Fun K "_law_net" "_law_net" zho f fd)(B:Blt mg)(hM_NetD_initD_1:zeG P w K mg base)(hT_Net_house_2:ze1 P w K mg base)(hT_Net_gate_2:zfH P w K mg base)(hT_Net_line_4_wire:zbU P w K mg base):zac P w K mg base CX0 7 f fd ["_law_world_here"] (lift K zcN) :=
 F.okB zkn ziF rfl fun _ _ _ _ _ _ hr=>have nd:=ziF.nd;⟨_,(zf (qS 1 nd (zqp K hM_NetD_initD_1 hr))
  (zf (zdS PassesOwn.never rfl (zbw K (qx K (qv 0) zj)) (qG 2 nd)
  (zg (zu (zbq (pl:=_) K hT_Net_house_2 hr (qv 1) (qa1 (qv 2)) zak))))
  (zf (zdS PassesOwn.never rfl (zbw K (qx K (qv 0) zj)) (qG 2 nd)
  (zg (zu (zbq (pl:=_) K hT_Net_gate_2 hr (qv 1) (qa1 (qv 2)) zak))))
  (zf (zdS PassesOwn.never rfl (zbw K (qx K (qv 0) zj)) (zqL (n:=4) (K:=K) rfl (zdW (qG 2 nd) (zdW (qG 3 nd) (zdW (qG 4 nd) (zdW (qG 5 nd) zoy)))))
  (zg (zu (zbq (pl:=_) K hT_Net_line_4_wire hr (qv 1) (zp (qv 2) (qa2 (zau (zas K) rfl B.tuple zaY (qa1 (qv 3))) (zau (zas K) rfl B.tuple zaY (qa1 (qv 4))))) (zc9 (qv 5) zak)))))
  (zg (zaA (qv 1))))))),fun _=>by infer_instance⟩
def zsg:DSp:=zam zsU zqG 1
theorem zxv(F:Fun K "law" "law" zqN f fd)(B:Blt mg)(u_law_kind:zik P w K mg base)(h_law_start:zhM P w K mg base)(h_law_draw:za9 P w K mg base)(h_law_name:zdh P w K mg base)(h_law_wrong:zhX P w K mg base)(h_law_world:zil P w K mg base)(h_law_net:zkL P w K mg base)(hK_law_dueX_6:zfV P w K mg base)(hT_Net_houseX_2:zeB P w K mg base)(hT_Net_gateX_2:ze8 P w K mg base)(hT_Net_lineX_4_wire:zbB P w K mg base)(hT_Net_names_1:zfq P w K mg base)(hT_Net_line_4_wire:zbU P w K mg base)(hT_Net_ends_2:zfU P w K mg base)(hE_Net:znF P w K mg base CX0 "Net" 1 ["self","other"] (lift K zaJ)){a_NoName:Addr}(c_NoName:mg "NoName"=some (.ref a_NoName))[zaa K "NoName" a_NoName]{a_Taken:Addr}(c_Taken:mg "Taken"=some (.ref a_Taken))[zaa K "Taken" a_Taken]{a_NetError:Addr}(c_NetError:mg "NetError"=some (.ref a_NetError))[zaa K "NetError" a_NetError][zms K zfx zfr a_NoName][zms K zhb zgM a_Taken][zms K zdM zdL a_NetError][ENm K zpd]:zac P w K mg base CX0 8 f fd ["_law_script"] (lift K zsg) :=
 F.okB zsU zs8 rfl fun _ _ _ _ _ _ hr=>have nd:=zs8.nd;⟨_,(zf (qS 1 nd (zz h_law_start hr (qa1 (qv 0))))
  (zf (qS 2 nd (zz h_law_world hr (qa2 (qv 1) zj)))
  (zf (qS 3 nd (zz h_law_net hr (qa1 (qv 2))))
  (zf (qS 4 nd (zz h_law_net hr (qa1 (qv 2))))
  (zf (qS 5 nd (zdY (zhe K) (qx K (qv 2) zj) zgw (zeb zj)))
  (zf (qS 6 nd (zz h_law_name hr (qa2 (qv 1) (qx K (qv 2) zj))))
  (zf (qS 7 nd (zz h_law_name hr (qa2 (qv 1) (qx K (qv 2) zj))))
  (zf (qS 8 nd (qx K (qx K (qx K (qv 2) zj) (zz h_law_draw hr (qa2 (qv 1) (zr (zaw K) rfl B.len zaG (qa1 (qx K (qv 2) zj)))))) zj))
  (zf (zjc (zz h_law_wrong hr (qa2 (qv 1) (qv 2))) (zqL (n:=2) (K:=K) rfl (zdW (qG 9 nd) (zdW (qG 10 nd) zoy))))
  (zf (qS 11 nd (zz h_law_draw hr (qa2 (qv 1) zj)))
  (zf (qS 12 nd (qx K (za2 (zp zB (zp zB (zp zB (zp zB (zp zB (zp zB (zp zB (zp zB (zp zB (zp zB (zp zB (zp zB (zp zB (qa2 zB zB))))))))))))))) (qv 11)))
  (zf (qS 13 nd (zaX (qa2 zB zB)))
  (zf (qS 14 nd (zsw (zdt hr) (zvj (zfc zj (qv 7) (zfc zj (qv 8) (zfc zj (qv 10) (zfc zj (qv 10) (zfc zj (qv 10) zuo)))))) (qv 11) zB ⟨rfl,rfl,rfl,rfl⟩))
  (zf (zuE K nd (fun E xe pn xo=>(zg (zU (zG zjq (qv 11) zj (zY _))
  (zg (zu (zd4 hK_law_dueX_6 hr xo (zp (qv 11) (zp (qv 3) (zp (qv 6) (zp (qv 7) (qa2 (qv 5) (qv 8)))))) zak)))
  (zg (zU (WW.qt (zfQ (zG (zbh K hr) (qv 11) zj (zY _)) (zee (zG (zbh K hr) (qv 11) zj (zY _)))))
  (zg (zu (zaz (pl:=_) K hT_Net_houseX_2 hr xo (qv 3) (qa1 (qx K (za2 (qa2 (qv 9) (qv 10))) (zaj zeU (qv 11) zj))) zak)))
  (zg (zU (WW.qt (zfQ (zG (zbh K hr) (qv 11) zj (zY _)) (zee (zG (zbh K hr) (qv 11) zj (zY _)))))
  (zg (zu (zaz (pl:=_) K hT_Net_gateX_2 hr xo (qv 3) (qa1 (qx K (za2 (qa2 (qv 9) (qv 10))) (zaj zeU (qv 11) zj))) zak)))
  (zg (zu (zaz (pl:=_) K hT_Net_lineX_4_wire hr xo (qv 3) (zp (qx K (za2 (qa2 (qv 9) (qv 10))) (zaj zeU (qv 11) zj)) (qa2 (zaX zcc) (zaX zcc))) (zc9 zj zak)))))))))))
  (zl1 15 c_NoName (fun a=>(zg (qS 13 nd (zaX (qa2 zB (zmn K (qv 15)))))))
  (zl1 15 c_Taken (fun a=>(zg (qS 13 nd (zaX (qa2 zB (zmn K (qv 15)))))))
  (zl1 15 c_NetError (fun a=>(zg (qS 13 nd (zaX (qa2 (zi5 u_law_kind (hr.hand _) (qa1 (qv 15))) zB)))))
  zxW))))
  (zf (zU (WW.qt (zfQ (zG (znY K hr) (qv 13) (zaX (qa2 (qv 12) (qv 14))) (zY _)) (zfQ (zeq (zG (zr7 K hE_Net hr) (qv 3) (qv 4) (zY _))) (zee (zG (znY K hr) (zk3 (pl:=_) K hT_Net_names_1 hr (qv 3)) (zk3 (pl:=_) K hT_Net_names_1 hr (qv 4)) (zY _))))))
  (zg (zaA zvD))
  zL)
  (zf (zu (zbq (pl:=_) K hT_Net_line_4_wire hr (qv 3) (zp (qv 6) (qa2 (zau (zas K) rfl B.tuple zaY (qa1 (qv 5))) (zau (zas K) rfl B.tuple zaY (qa1 (qv 5))))) (zc9 zj zak)))
  (zg (zaA (zja (zgD (zbh K hr) (zbq (pl:=_) K hT_Net_ends_2 hr (qv 3) (qa1 (qv 6)) zak) (zaX (zp (zau (zas K) rfl B.tuple zaY (qa1 (zr (zbY K) rfl B.sorted zcv (qa1 (qv 5))))) (qa2 (zau (zas K) rfl B.tuple zaY (qa1 (zr (zbY K) rfl B.sorted zcv (qa1 (qv 5))))) zj))) (zY _)) (zlI (zs2 (zgD (zr7 K hE_Net hr) (qv 3) (qv 4) (zY _))))))))))))))))))))))),fun _=>by infer_instance⟩
end
theorem zwa{l:PySem.W.OpenLaw}{w:World}{K:Frag}{h:Heap}{mg:Str->Option Value}{fa:Addr}(X:K.In h)(G:h.Ns mainGlobals mg)(hfa:mg "law"=some (.ref fa))
  {C_Net:Addr}(q_Net:zwf K "Net" C_Net zcx)
  {C_BadEnds:Addr}(a_BadEnds:nsIn K mainGlobals "BadEnds"=some (some (.ref C_BadEnds)))
  {C_BadLine:Addr}(a_BadLine:nsIn K mainGlobals "BadLine"=some (some (.ref C_BadLine)))
  {C_BadName:Addr}(a_BadName:nsIn K mainGlobals "BadName"=some (some (.ref C_BadName)))
  {C_BadNumber:Addr}(a_BadNumber:nsIn K mainGlobals "BadNumber"=some (some (.ref C_BadNumber)))
  {C_BadPage:Addr}(a_BadPage:nsIn K mainGlobals "BadPage"=some (some (.ref C_BadPage)))
  {C_BadWay:Addr}(a_BadWay:nsIn K mainGlobals "BadWay"=some (some (.ref C_BadWay)))
  {C_Full:Addr}(a_Full:nsIn K mainGlobals "Full"=some (some (.ref C_Full)))
  {C_Heavy:Addr}(a_Heavy:nsIn K mainGlobals "Heavy"=some (some (.ref C_Heavy)))
  {C_InUse:Addr}(a_InUse:nsIn K mainGlobals "InUse"=some (some (.ref C_InUse)))
  {C_Late:Addr}(a_Late:nsIn K mainGlobals "Late"=some (some (.ref C_Late)))
  {C_NetError:Addr}(a_NetError:nsIn K mainGlobals "NetError"=some (some (.ref C_NetError)))
  {C_NoName:Addr}(a_NoName:nsIn K mainGlobals "NoName"=some (some (.ref C_NoName)))
  {C_NoPlan:Addr}(a_NoPlan:nsIn K mainGlobals "NoPlan"=some (some (.ref C_NoPlan)))
  {C_NoRoom:Addr}(a_NoRoom:nsIn K mainGlobals "NoRoom"=some (some (.ref C_NoRoom)))
  {C_NoStep:Addr}(a_NoStep:nsIn K mainGlobals "NoStep"=some (some (.ref C_NoStep)))
  {C_Taken:Addr}(a_Taken:nsIn K mainGlobals "Taken"=some (some (.ref C_Taken)))
  {C_Tight:Addr}(a_Tight:nsIn K mainGlobals "Tight"=some (some (.ref C_Tight)))
  {C_TooFew:Addr}(a_TooFew:nsIn K mainGlobals "TooFew"=some (some (.ref C_TooFew)))
  (n_NoName:zof l.prog w K mg "NoName" "name" zeV)
  (en_NoName:zm7 K C_NoName=true)
  (n_Taken:zof l.prog w K mg "Taken" "name" zgH)
  (en_Taken:zm7 K C_Taken=true)
  (et0:zl2 K zaN zmY za1 zmF=true)
  (hm0:zvJ K zzy=true)
  {f0:Addr}{d0:FuncData}(p0:zcV K "is_made_of" zew f0 d0)
  {f1:Addr}{d1:FuncData}(p1:zcV K "is_name" zhH f1 d1)
  {f2:Addr}{d2:FuncData}(p2:zcV K "check_name" zcZ f2 d2)
  {f3:Addr}{d3:FuncData}(p3:zcV K "is_number" ze5 f3 d3)
  {f4:Addr}{d4:FuncData}(p4:zcV K "check_whole" zcD f4 d4)
  {f5:Addr}{d5:FuncData}(p5:zcV K "check_number" zci f5 d5)
  {f6:Addr}{d6:FuncData}(p6:zgB K C_Net "__init__" "Net.__init__" zef f6 d6)
  {f7:Addr}{d7:FuncData}(p7:zgB K C_Net "house" "Net.house" zdB f7 d7)
  {f8:Addr}{d8:FuncData}(p8:zgB K C_Net "gate" "Net.gate" zem f8 d8)
  {f9:Addr}{d9:FuncData}(p9:zgB K C_Net "line" "Net.line" zep f9 d9)
  {f10:Addr}{d10:FuncData}(p10:zgB K C_Net "names" "Net.names" zeQ f10 d10)
  {f11:Addr}{d11:FuncData}(p11:zgB K C_Net "ends" "Net.ends" zf6 f11 d11)
  {f12:Addr}{d12:FuncData}(p12:zgB K C_Net "__eq__" "Net.__eq__" zgb f12 d12)
  (e12:d12.defaults= .none)
  {f13:Addr}{d13:FuncData}(p13:zgB K C_Net "put_node" "Net.put_node" zch f13 d13)
  {f14:Addr}{d14:FuncData}(p14:zgB K C_Net "check_new" "Net.check_new" zbP f14 d14)
  {f15:Addr}{d15:FuncData}(p15:zgB K C_Net "check_nodes" "Net.check_nodes" zbl f15 d15)
  {f16:Addr}{d16:FuncData}(p16:zcV K "check_ends" zc7 f16 d16)
  {f17:Addr}{d17:FuncData}(p17:zcV K "_law_start" zfe f17 d17)
  {f18:Addr}{d18:FuncData}(p18:zcV K "_law_draw" zge f18 d18)
  {f19:Addr}{d19:FuncData}(p19:zcV K "_law_pick" zgk f19 d19)
  {f20:Addr}{d20:FuncData}(p20:zcV K "_law_name" zf1 f20 d20)
  {f21:Addr}{d21:FuncData}(p21:zcV K "_law_hop" zhy f21 d21)
  {f22:Addr}{d22:FuncData}(p22:zcV K "_law_way" zhj f22 d22)
  {f23:Addr}{d23:FuncData}(p23:zcV K "_law_need" zgh f23 d23)
  {f24:Addr}{d24:FuncData}(p24:zcV K "_law_row" zhI f24 d24)
  {f25:Addr}{d25:FuncData}(p25:zcV K "_law_world" zfj f25 d25)
  {f26:Addr}{d26:FuncData}(p26:zcV K "_law_net" zho f26 d26)
  {f27:Addr}{d27:FuncData}(p27:zcV K "_law_kinds_one" zcP f27 d27)
  {f28:Addr}{d28:FuncData}(p28:zcV K "_law_kinds_two" zcR f28 d28)
  {f29:Addr}{d29:FuncData}(p29:zcV K "_law_kind" zf0 f29 d29)
  {f30:Addr}{d30:FuncData}(p30:zcV K "_law_wrong" zfd f30 d30)
  {f31:Addr}{d31:FuncData}(p31:zcV K "_law_due" zhD f31 d31)
  {f32:Addr}{d32:FuncData}(p32:zcV K "law" zqN f32 d32)
  (z_len:nsIn K mainGlobals "len"=some none)
  (z_abs:nsIn K mainGlobals "abs"=some none)
  (z_max:nsIn K mainGlobals "max"=some none)
  (z_min:nsIn K mainGlobals "min"=some none)
  (z_all:nsIn K mainGlobals "all"=some none)
  (z_any:nsIn K mainGlobals "any"=some none)
  (z_sum:nsIn K mainGlobals "sum"=some none)
  (z_sorted:nsIn K mainGlobals "sorted"=some none)
  (z_isinstance:nsIn K mainGlobals "isinstance"=some none)
  (z_list:nsIn K mainGlobals "list"=some none)
  (z_tuple:nsIn K mainGlobals "tuple"=some none)
  (z_int:nsIn K mainGlobals "int"=some none)
  (z_bool:nsIn K mainGlobals "bool"=some none)
  (z_str:nsIn K mainGlobals "str"=some none)
  (z_set:nsIn K mainGlobals "set"=some none)
  (z_dict:nsIn K mainGlobals "dict"=some none)
  (z_zip:nsIn K mainGlobals "zip"=some none)
  (z_range:nsIn K mainGlobals "range"=some none)
  (z_enumerate:nsIn K mainGlobals "enumerate"=some none)
  (z_reversed:nsIn K mainGlobals "reversed"=some none)
  (z_repr:nsIn K mainGlobals "repr"=some none)
  (z_ValueError:nsIn K mainGlobals "ValueError"=some none)
  {u_MOST_LINES:Value}(g_MOST_LINES:nsIn K mainGlobals "MOST_LINES"=some (some u_MOST_LINES))
  (v_MOST_LINES:zgc u_MOST_LINES=some 16)
  {u_MOST_WIRE:Value}(g_MOST_WIRE:nsIn K mainGlobals "MOST_WIRE"=some (some u_MOST_WIRE))
  (v_MOST_WIRE:zgc u_MOST_WIRE=some 30)
  {u_LETTERS:Value}(g_LETTERS:nsIn K mainGlobals "LETTERS"=some (some u_LETTERS))
  (v_LETTERS:zn5 u_LETTERS=some "abcdefghijklmnopqrstuvwxyz")
  {u_MOST_LETTERS:Value}(g_MOST_LETTERS:nsIn K mainGlobals "MOST_LETTERS"=some (some u_MOST_LETTERS))
  (v_MOST_LETTERS:zgc u_MOST_LETTERS=some 8)
  {u_MOST_ENDS:Value}(g_MOST_ENDS:nsIn K mainGlobals "MOST_ENDS"=some (some u_MOST_ENDS))
  (v_MOST_ENDS:zgc u_MOST_ENDS=some 6)
  {u_MOST_NODES:Value}(g_MOST_NODES:nsIn K mainGlobals "MOST_NODES"=some (some u_MOST_NODES))
  (v_MOST_NODES:zgc u_MOST_NODES=some 16)
  (i1_Net:findIn K (.ref C_Net) "__class__"=some (some (.builtin "object.__class__")))
  (i2_Net:specialIn K (.builtin "object.__class__") "__get__"=some (some (.builtin "getset_descriptor.__get__")))
  (i3_Net:takesIn K (.builtin "object.__class__")=some true)
  (i4_Net:mroIn K C_Net (.type "object")=some true)
  (i5_Net:kitOne K (.ref C_Net) (.ref C_Net)=some true)
  (i6_Net:kitOne K (.type "str") (.ref C_Net)=some false)
  (i7_Net:kitOne K (.type "int") (.ref C_Net)=some false)
  (nf1_Net:notFirst K C_Net (.type "str")=true)
  (nf2_Net : notFirst K C_Net (.type "int") = true)
   (d_law_dueX_6:zbA K d31 ["_law_way_here","_law_net_here","_law_name_here","_law_other","_law_there","_law_line"] [] 6 0 [.p 0, .p 1, .p 2, .p 3, .p 4, .p 5] [])
   (d_Net_houseX_2:zbA K d7 ["self","name"] [] 2 0 [.p 0, .p 1] [])
   (d_Net_gateX_2:zbA K d8 ["self","name"] [] 2 0 [.p 0, .p 1] [])
   (d_Net_lineX_4_wire:zbA K d9 ["self","name","senders","ears","wire"] ["wire"] 4 1 [.p 0, .p 1, .p 2, .p 3, .k 0] [])
   (d_Net_names_1:zbA K d10 ["self"] [] 1 0 [.p 0] [])
   (d_Net_line_4_wire:zbA K d9 ["self","name","senders","ears","wire"] ["wire"] 4 1 [.p 0, .p 1, .p 2, .p 3, .k 0] [])
   (d_Net_ends_2:zbA K d11 ["self","name"] [] 2 0 [.p 0, .p 1] [])
   (d_Net_check_new_2:zbA K d14 ["self","name"] [] 2 0 [.p 0, .p 1] [])
   (d_Net_check_nodes_2:zbA K d15 ["self","ends"] [] 2 0 [.p 0, .p 1] [])
   (d_Net_check_newX_2:zbA K d14 ["self","name"] [] 2 0 [.p 0, .p 1] [])
   (d_check_endsX_1:zbA K d16 ["ends"] [] 1 0 [.p 0] [])
   (d_Net_check_nodesX_2:zbA K d15 ["self","ends"] [] 2 0 [.p 0, .p 1] [])
   (d_check_numberX_3:zbA K d5 ["number","least","most"] [] 3 0 [.p 0, .p 1, .p 2] [])
   (d_check_wholeX_1:zbA K d4 ["thing"] [] 1 0 [.p 0] [])
   (d_check_nameX_1:zbA K d2 ["text"] [] 1 0 [.p 0] [])
   (d_Net_put_nodeX_3:zbA K d13 ["self","name","kind"] [] 3 0 [.p 0, .p 1, .p 2] [])
  {tk_Net_lineX_4_0 : Tok}(d_Net_lineX_4 : zbA K d9 ["self", "name", "senders", "ears", "wire"] [] 4 0 [.p 0, .p 1, .p 2, .p 3, .c 0] [Value.int 1 tk_Net_lineX_4_0])
   (d_NetD_initD_1:zbA K d6 ["self"] [] 1 0 [.p 0] [])
   (d_Net_house_2:zbA K d7 ["self","name"] [] 2 0 [.p 0, .p 1] [])
   (d_Net_gate_2:zbA K d8 ["self","name"] [] 2 0 [.p 0, .p 1] [])
   (d_Net_put_node_3:zbA K d13 ["self","name","kind"] [] 3 0 [.p 0, .p 1, .p 2] [])
  : ∃fd:FuncData,(∀(s:Shared) (v:Value),BindsTo s fd ⟨[v],[]⟩ [("_law_script",v)])/\∀base:Heap,K.In base->base.Ns mainGlobals mg->zac l.prog w K mg base CX0 8 fa fd ["_law_script"] (zpe K):=by
 have e:=hfa.symm.trans (mg_of X G p32.at_);cases e;have B:Blt mg:=⟨mg_none_of X G z_len,mg_none_of X G z_abs,mg_none_of X G z_max,mg_none_of X G z_min,mg_none_of X G z_all,mg_none_of X G z_any,mg_none_of X G z_sum,mg_none_of X G z_sorted,mg_none_of X G z_isinstance,mg_none_of X G z_list,mg_none_of X G z_tuple,mg_none_of X G z_int,mg_none_of X G z_bool,mg_none_of X G z_str,mg_none_of X G z_set,mg_none_of X G z_dict,mg_none_of X G z_zip,mg_none_of X G z_range,mg_none_of X G z_enumerate,mg_none_of X G z_reversed,mg_none_of X G z_repr⟩;haveI tk:TabOk K tab:=zom (zT q_Net.at_) q_Net.cl q_Net.na (zpr)
 haveI ic_Net:zaa K "Net" C_Net:=⟨zT q_Net.at_,by decide+kernel⟩
 haveI ic_BadEnds:zaa K "BadEnds" C_BadEnds:=⟨zT a_BadEnds,by decide+kernel⟩
 haveI ic_BadLine:zaa K "BadLine" C_BadLine:=⟨zT a_BadLine,by decide+kernel⟩
 haveI ic_BadName:zaa K "BadName" C_BadName:=⟨zT a_BadName,by decide+kernel⟩
 haveI ic_BadNumber:zaa K "BadNumber" C_BadNumber:=⟨zT a_BadNumber,by decide+kernel⟩
 haveI ic_BadPage:zaa K "BadPage" C_BadPage:=⟨zT a_BadPage,by decide+kernel⟩
 haveI ic_BadWay:zaa K "BadWay" C_BadWay:=⟨zT a_BadWay,by decide+kernel⟩
 haveI ic_Full:zaa K "Full" C_Full:=⟨zT a_Full,by decide+kernel⟩
 haveI ic_Heavy:zaa K "Heavy" C_Heavy:=⟨zT a_Heavy,by decide+kernel⟩
 haveI ic_InUse:zaa K "InUse" C_InUse:=⟨zT a_InUse,by decide+kernel⟩
 haveI ic_Late:zaa K "Late" C_Late:=⟨zT a_Late,by decide+kernel⟩
 haveI ic_NetError:zaa K "NetError" C_NetError:=⟨zT a_NetError,by decide+kernel⟩
 haveI ic_NoName:zaa K "NoName" C_NoName:=⟨zT a_NoName,by decide+kernel⟩
 haveI ic_NoPlan:zaa K "NoPlan" C_NoPlan:=⟨zT a_NoPlan,by decide+kernel⟩
 haveI ic_NoRoom:zaa K "NoRoom" C_NoRoom:=⟨zT a_NoRoom,by decide+kernel⟩
 haveI ic_NoStep:zaa K "NoStep" C_NoStep:=⟨zT a_NoStep,by decide+kernel⟩
 haveI ic_Taken:zaa K "Taken" C_Taken:=⟨zT a_Taken,by decide+kernel⟩
 haveI ic_Tight:zaa K "Tight" C_Tight:=⟨zT a_Tight,by decide+kernel⟩
 haveI ic_TooFew:zaa K "TooFew" C_TooFew:=⟨zT a_TooFew,by decide+kernel⟩
 haveI ii_Net:IsI K "Net":=⟨C_Net,zT q_Net.at_,⟨q_Net.cl,i1_Net,i2_Net,i3_Net,i4_Net,i5_Net,i6_Net,i7_Net⟩⟩
 haveI et:ziZ K zaN zmY za1 zmF:=⟨et0⟩
 haveI lb_NoName:zto K "NoName":=⟨⟨_,zT a_NoName⟩,by decide+kernel⟩
 haveI lb_Taken:zto K "Taken":=⟨⟨_,zT a_Taken⟩,by decide+kernel⟩
 haveI ens:ENm K zpd:=(.cons (zT a_NoName) en_NoName (.cons (zT a_Taken) en_Taken .nil))
 haveI hm_NetError:zms K zdM zdL C_NetError:=ziU hm0 ic_NetError (by decide)
 haveI hm_NoName:zms K zfx zfr C_NoName:=ziU hm0 ic_NoName (by decide)
 haveI hm_Taken:zms K zhb zgM C_Taken:=ziU hm0 ic_Taken (by decide)
 refine⟨d32,fun s v=>by obtain⟨e,y⟩:=p32;obtain⟨_,_,kV,_,_,_,_,_,_,rfl,_,_⟩:=e.F.ex;have y1:kV.1= .none:=y;exact .of_eq (by rw[y1];rfl),fun base _ _=>?_⟩;have h_is_made_of:zg1 l.prog w K mg base:=p0.has p0.bd X G (zj9 p0.F B );have h_is_number:zeN l.prog w K mg base:=p3.has p3.bd X G (zlp p3.F B );have hM_NetD_initD_1:zeG l.prog w K mg base:=p6.hasM q_Net X G (zjT p6.F B ) (kbk d_NetD_initD_1 .nil);have hT_Net_names_1:zfq l.prog w K mg base:=p10.hasT q_Net (zmb p10.F B ) (kbk d_Net_names_1 .nil);have hT_Net_ends_2:zfU l.prog w K mg base:=p11.hasT q_Net (znj p11.F B ) (kbk d_Net_ends_2 .nil);have b12:=p12.F.binds (ps:=["self","other"]) (fun _ _ _ _ _ _=>al2 fun _ _=>rfl) e12;have hE_Net:znF l.prog w K mg base CX0 "Net" 1 ["self","other"] (lift K zaJ):=⟨C_Net,zT q_Net.at_,⟨_,_,zmK p12.F B (mg_of X G q_Net.at_),b12,p12.at_,p12.fn⟩,nf1_Net,nf2_Net⟩;have hT_Net_check_nodes_2:zcL l.prog w K mg base:=p15.hasT q_Net (zgf p15.F B ) (kbk d_Net_check_nodes_2 .nil);have h_check_ends:zgC l.prog w K mg base:=p16.has p16.bd X G (zj1 p16.F B (mg_of X G g_MOST_ENDS) (zaO v_MOST_ENDS));have hK_check_endsX_1:zd0 l.prog w K mg base:=p16.hasK X G (zi4 p16.F B (mg_of X G g_MOST_ENDS) (zaO v_MOST_ENDS) (mg_of X G a_BadEnds) (et.exc inferInstance (c:="BadEnds") (by decide) (by decide))) (kbk d_check_endsX_1 .nil);have h_law_start:zhM l.prog w K mg base:=p17.has p17.bd X G (zqT p17.F B);have h_law_draw:za9 l.prog w K mg base:=p18.has p18.bd X G (zuF p18.F B);have h_law_need:zjJ l.prog w K mg base:=p23.has p23.bd X G (zm5 p23.F B );have u_law_kinds_one:zd6 l.prog w K mg base:=⟨_,_,zhK p27.F B (mg_of X G a_BadName) (mg_of X G a_BadNumber) (mg_of X G a_BadWay) (mg_of X G a_BadEnds) (mg_of X G a_BadLine) (mg_of X G a_Taken) (mg_of X G a_NoName) (mg_of X G a_InUse) (mg_of X G a_Full) (mg_none_of X G z_ValueError),p27.bd,p27.F.kp,mg_of X G p27.at_⟩;have u_law_kinds_two:zd3 l.prog w K mg base:=⟨_,_,zhq p28.F B (mg_of X G a_Tight) (mg_of X G a_Late) (mg_of X G a_Heavy) (mg_of X G a_NoPlan) (mg_of X G a_NoRoom) (mg_of X G a_NoStep) (mg_of X G a_TooFew) (mg_of X G a_BadPage) (mg_none_of X G z_ValueError),p28.bd,p28.F.kp,mg_of X G p28.at_⟩;have h_is_name:zhJ l.prog w K mg base:=p1.has p1.bd X G (znN p1.F B h_is_made_of (mg_of X G g_LETTERS) (znT v_LETTERS) (mg_of X G g_MOST_LETTERS) (zaO v_MOST_LETTERS));have h_check_whole:zfO l.prog w K mg base:=p4.has p4.bd X G (zjx p4.F B h_is_number);have hK_check_wholeX_1:zdJ l.prog w K mg base:=p4.hasK X G (zis p4.F B h_is_number (mg_of X G a_BadNumber) (et.exc inferInstance (c:="BadNumber") (by decide) (by decide))) (kbk d_check_wholeX_1 .nil);have hT_Net_check_nodesX_2:zcm l.prog w K mg base:=p15.hasT q_Net (zfF p15.F B n_NoName) (kbk d_Net_check_nodesX_2 .nil);have h_law_pick:zeu l.prog w K mg base:=p19.has p19.bd X G (zne p19.F B h_law_draw);have h_law_name:zdh l.prog w K mg base:=p20.has p20.bd X G (zml p20.F B h_law_draw);have u_law_kind:zik l.prog w K mg base:=⟨_,_,znn p29.F B u_law_kinds_one u_law_kinds_two (mg_none_of X G z_ValueError),p29.bd,p29.F.kp,mg_of X G p29.at_⟩;have h_check_name:zg7 l.prog w K mg base:=p2.has p2.bd X G (zjP p2.F B h_is_name);have hK_check_nameX_1:zd1 l.prog w K mg base:=p2.hasK X G (zjj p2.F B h_is_name (mg_of X G a_BadName) (et.exc inferInstance (c:="BadName") (by decide) (by decide))) (kbk d_check_nameX_1 .nil);have h_check_number:zfl l.prog w K mg base:=p5.has p5.bd X G (ziu p5.F B h_check_whole);have hK_check_numberX_3:zdg l.prog w K mg base:=p5.hasK X G (zhu p5.F B hK_check_wholeX_1 (mg_of X G a_BadNumber) (et.exc inferInstance (c:="BadNumber") (by decide) (by decide))) (kbk d_check_numberX_3 .nil);have h_law_hop:zkY l.prog w K mg base:=p21.has p21.bd X G (znB p21.F B h_law_draw h_law_pick h_law_name);have h_law_wrong:zhX l.prog w K mg base:=p30.has p30.bd X G (zlN p30.F B h_law_draw h_law_pick);have hT_Net_check_new_2:zbV l.prog w K mg base:=p14.hasT q_Net (zht p14.F B h_check_name) (kbk d_Net_check_new_2 .nil);have hT_Net_check_newX_2:zbC l.prog w K mg base:=p14.hasT q_Net (zgO p14.F B hK_check_nameX_1 n_Taken) (kbk d_Net_check_newX_2 .nil);have h_law_way:zkB l.prog w K mg base:=p22.has p22.bd X G (zop p22.F B h_law_draw h_law_pick h_law_hop);have hT_Net_line_4_wire:zbU l.prog w K mg base:=p9.hasT q_Net (zm1 p9.F B h_check_ends h_check_number hT_Net_check_new_2 hT_Net_check_nodes_2 (mg_of X G g_MOST_LINES) (zaO v_MOST_LINES) (mg_of X G g_MOST_WIRE) (zaO v_MOST_WIRE)) (kbk d_Net_line_4_wire .nil);have hT_Net_lineX_4_wire:zbB l.prog w K mg base:=p9.hasT q_Net (zhc p9.F B hT_Net_check_newX_2 hK_check_endsX_1 hT_Net_check_nodesX_2 hK_check_numberX_3 (mg_of X G g_MOST_LINES) (zaO v_MOST_LINES) (mg_of X G g_MOST_WIRE) (zaO v_MOST_WIRE) (mg_of X G a_Full) (et.exc inferInstance (c:="Full") (by decide) (by decide))) (kbk d_Net_lineX_4_wire .nil);have hT_Net_lineX_4:zfk l.prog w K mg base:=p9.hasT q_Net (zhc p9.F B hT_Net_check_newX_2 hK_check_endsX_1 hT_Net_check_nodesX_2 hK_check_numberX_3 (mg_of X G g_MOST_LINES) (zaO v_MOST_LINES) (mg_of X G g_MOST_WIRE) (zaO v_MOST_WIRE) (mg_of X G a_Full) (et.exc inferInstance (c:="Full") (by decide) (by decide))) (kbk d_Net_lineX_4 (.cons ⟨_,rfl⟩ .nil));have hT_Net_put_node_3:zcj l.prog w K mg base:=p13.hasT q_Net (zin p13.F B hT_Net_check_new_2 (mg_of X G g_MOST_NODES) (zaO v_MOST_NODES)) (kbk d_Net_put_node_3 .nil);have hT_Net_put_nodeX_3:zbW l.prog w K mg base:=p13.hasT q_Net (zhv p13.F B hT_Net_check_newX_2 (mg_of X G g_MOST_NODES) (zaO v_MOST_NODES) (mg_of X G a_Full) (et.exc inferInstance (c:="Full") (by decide) (by decide))) (kbk d_Net_put_nodeX_3 .nil);have h_law_row:zkP l.prog w K mg base:=p24.has p24.bd X G (znR p24.F B h_law_draw h_law_need h_law_name h_law_way);have hT_Net_house_2:ze1 l.prog w K mg base:=p7.hasT q_Net (zmc p7.F B hT_Net_put_node_3) (kbk d_Net_house_2 .nil);have hT_Net_houseX_2:zeB l.prog w K mg base:=p7.hasT q_Net (zjR p7.F B hT_Net_put_nodeX_3) (kbk d_Net_houseX_2 .nil);have hT_Net_gate_2:zfH l.prog w K mg base:=p8.hasT q_Net (zm0 p8.F B hT_Net_put_node_3) (kbk d_Net_gate_2 .nil);have hT_Net_gateX_2:ze8 l.prog w K mg base:=p8.hasT q_Net (zlO p8.F B hT_Net_put_nodeX_3) (kbk d_Net_gateX_2 .nil);have h_law_world:zil l.prog w K mg base:=p25.has p25.bd X G (zlz p25.F B h_law_draw h_law_name h_law_row);have hK_law_dueX_6:zfV l.prog w K mg base:=p31.hasK X G (zmv p31.F B hT_Net_lineX_4_wire hT_Net_lineX_4) (kbk d_law_dueX_6 .nil);have h_law_net:zkL l.prog w K mg base:=p26.has p26.bd X G (znQ p26.F B hM_NetD_initD_1 hT_Net_house_2 hT_Net_gate_2 hT_Net_line_4_wire);exact(zxv p32.F B u_law_kind h_law_start h_law_draw h_law_name h_law_wrong h_law_world h_law_net hK_law_dueX_6 hT_Net_houseX_2 hT_Net_gateX_2 hT_Net_lineX_4_wire hT_Net_names_1 hT_Net_line_4_wire hT_Net_ends_2 hE_Net (mg_of X G a_NoName) (mg_of X G a_Taken) (mg_of X G a_NetError)).imp fun vs H Q E h=>zqJ zx6 (zrt vs H Q E h)
theorem walk{l:PySem.W.OpenLaw}{q:Program}{loose:List Str}{XP:(Str->Option Value)->Heap->Prop}{YP:World->Heap->Prop}{d:DefRec}{K:Params->Frag}(hn:l.most=some 63)(hdf:d.params.defaults=[])
  (hY:∀(w:World) (h:Heap),YP w h->(K w.params).In h)
  (F:∀(w:World) (mg:Str->Option Value) (fa:Addr) (h:Heap),(K w.params).In h->h.Ns mainGlobals mg->mg d.name=some (.ref fa) ->
   ∃fd:FuncData,(∀(s:Shared) (u:Value),BindsTo s fd ⟨[u],[]⟩ [("_law_script",u)])/\∀base:Heap,(K w.params).In base->base.Ns mainGlobals mg->zac l.prog w (K w.params) mg base CX0 8 fa fd ["_law_script"] (zpe (K w.params))) :
  PySem.W.WalkO q loose XP YP l.row.toRowW d [] (fun f vs=>PySem.call f vs) :=
 L2.zu6 (n:=63) (k:=8) (x:="_law_script") (CX:=fun _=>CX0) (sp:=fun w=>zpe (K w.params)) hn (by decide) hdf ⟨fun _=>rfl,by decide,by decide,rfl⟩ hY F (fun _ _ a ns hl _ hS=>⟨a,ns,rfl,hS,hl,fun _=>rfl⟩) fun _ _ _ _ _ z=>z
end M
open PySem PySem.W PyProof.Rows L2
set_option maxRecDepth 100000 in
set_option maxHeartbeats 0 in
theorem PySem.Challenge.cw_slotwright_k06_net_refusals_holds : PySem.Challenge.rw_slotwright_k06_net_refusals.Holds := by
 refine H0.hd0 ?_;k_fill
 refine M.walk (l:=PySem.Challenge.rw_slotwright_k06_net_refusals) rfl rfl (fun w h Y=>PySem.W.kIn_of Y) ?F
 case F =>
  intro w mg fa h KX G hmg;refine' M.zwa KX G hmg ⟨?z0,⟨?z1,?z2,?z3,?z4⟩,?z5,?z6,(L2.zoF ?z7 (L2.zoF ?z8 (List.forall_mem_nil _)))⟩ ?z9 ?z10 ?z11 ?z12 ?z13 ?z14 ?z15 ?z16 ?z17 ?z18 ?z19 ?z20 ?z21 ?z22 ?z23 ?z24 ?z25 ?z26 (L2.zrp (zT ?z20) (mg_of KX G ?z20) ?z27 ?z28 ?z29 ?z30 (mg_none_of KX G ?z31) ?z32 ?z33 ?z34 ?z35 ?z36 ?z37 ?z38 ?z39 ?z40 ?z41 ?z42 ?z43 ?z44 ?z45 ?z46 (L2.zcn.taker ?z47) ?z48 ?z49 ?z50 ?z51 ?z52 ?z53 ?z54 ?z55 ?z56 ?z57 ?z58 ?z59 ?z60 ?z61 ?z62) ?z63 (L2.zrp (zT ?z24) (mg_of KX G ?z24) ?z64 ?z65 ?z66 ?z67 (mg_none_of KX G ?z68) ?z69 ?z70 ?z71 ?z72 ?z73 ?z74 ?z75 ?z76 ?z77 ?z78 ?z79 ?z80 ?z81 ?z82 ?z83 (L2.zcn.taker ?z84) ?z85 ?z86 ?z87 ?z88 ?z89 ?z90 ?z91 ?z92 ?z93 ?z94 ?z95 ?z96 ?z97 ?z98 ?z99) ?z100 ?z101 ?z102 ⟨⟨?z103,zal ?z104 ?z105 ?z106⟩,?z107⟩ ⟨⟨?z108,zal ?z109 ?z110 ?z111⟩,?z112⟩ ⟨⟨?z113,zal ?z114 ?z115 ?z116⟩,?z117⟩ ⟨⟨?z118,zal ?z119 ?z120 ?z121⟩,?z122⟩ ⟨⟨?z123,zal ?z124 ?z125 ?z126⟩,?z127⟩ ⟨⟨?z128,zal ?z129 ?z130 ?z131⟩,?z132⟩ ⟨?z133,?z134,zal ?z135 ?z136 ?z137⟩ ⟨?z138,?z139,zal ?z140 ?z141 ?z142⟩ ⟨?z143,?z144,zal ?z145 ?z146 ?z147⟩ ⟨?z148,?z149,zal ?z150 ?z151 ?z152⟩ ⟨?z153,?z154,zal ?z155 ?z156 ?z157⟩ ⟨?z158,?z159,zal ?z160 ?z161 ?z162⟩ ⟨?z163,?z164,zal ?z165 ?z166 ?z167⟩ ?z168 ⟨?z169,?z170,zal ?z171 ?z172 ?z173⟩ ⟨?z174,?z175,zal ?z176 ?z177 ?z178⟩ ⟨?z179,?z180,zal ?z181 ?z182 ?z183⟩ ⟨⟨?z184,zal ?z185 ?z186 ?z187⟩,?z188⟩ ⟨⟨?z189,zal ?z190 ?z191 ?z192⟩,?z193⟩ ⟨⟨?z194,zal ?z195 ?z196 ?z197⟩,?z198⟩ ⟨⟨?z199,zal ?z200 ?z201 ?z202⟩,?z203⟩ ⟨⟨?z204,zal ?z205 ?z206 ?z207⟩,?z208⟩ ⟨⟨?z209,zal ?z210 ?z211 ?z212⟩,?z213⟩ ⟨⟨?z214,zal ?z215 ?z216 ?z217⟩,?z218⟩ ⟨⟨?z219,zal ?z220 ?z221 ?z222⟩,?z223⟩ ⟨⟨?z224,zal ?z225 ?z226 ?z227⟩,?z228⟩ ⟨⟨?z229,zal ?z230 ?z231 ?z232⟩,?z233⟩ ⟨⟨?z234,zal ?z235 ?z236 ?z237⟩,?z238⟩ ⟨⟨?z239,zal ?z240 ?z241 ?z242⟩,?z243⟩ ⟨⟨?z244,zal ?z245 ?z246 ?z247⟩,?z248⟩ ⟨⟨?z249,zal ?z250 ?z251 ?z252⟩,?z253⟩ ⟨⟨?z254,zal ?z255 ?z256 ?z257⟩,?z258⟩ ⟨⟨?z259,zal ?z260 ?z261 ?z262⟩,?z263⟩ ⟨⟨?z264,zal ?z265 ?z266 ?z267⟩,?z268⟩ ?z269 ?z270 ?z271 ?z272 ?z273 ?z274 ?z275 ?z276 ?z277 ?z278 ?z279 ?z280 ?z281 ?z282 ?z283 ?z284 ?z285 ?z286 ?z287 ?z288 ?z289 ?z290 ?z291 ?z292 ?z293 ?z294 ?z295 ?z296 ?z297 ?z298 ?z299 ?z300 ?z301 ?z302 ?z303 ?z304 ?z305 ?z306 ?z307 ?z308 ?z309 ?z310 ?z311 ?z312 ?z313 ?z314 ?z315 ?z316 ?z317 ?z318 ?z319 ?z320 ?z321 ?z322 ?z323 ?z324 ?z325 ?z326 ?z327 ?z328 ?z329 ?z330 ?z331 ?z332
  case z0 | z1 | z2 | z3 | z4 | z5 | z6 | z7 | z8 | z9 | z10 | z11 | z12 | z13 | z14 | z15 | z16 | z17 | z18 | z19 | z20 | z21 | z22 | z23 | z24 | z25 | z26 | z27 | z32=>k_is
  case z28=>kernel_rfl
  case z29=>rfl
  case z30 | z31 | z33 | z34=>k_is
  case z35=>rfl
  case z36 | z37=>first | rfl | decide+kernel
  case z38 | z39=>k_is
  case z40=>rfl
  case z41=>first | rfl | decide+kernel
  case z42 | z43 | z44 | z45=>k_is
  case z46=>first | k_is | kernel_rfl
  case z47=>show _=_;k_is
  case z48=>k_is
  case z49=>exact fun s u v=> .of_eq rfl
  case z50 | z51 | z52 | z53 | z54 | z55=>rfl
  case z56=>decide+kernel
  case z57=>rfl
  case z58=>decide+kernel
  case z59 | z60 | z61 | z62=>rfl
  case z63=>kernel_rfl
  case z64 | z69=>k_is
  case z65=>kernel_rfl
  case z66=>rfl
  case z67 | z68 | z70 | z71=>k_is
  case z72=>rfl
  case z73 | z74=>first | rfl | decide+kernel
  case z75 | z76=>k_is
  case z77=>rfl
  case z78=>first | rfl | decide+kernel
  case z79 | z80 | z81 | z82=>k_is
  case z83=>first | k_is | kernel_rfl
  case z84=>show _=_;k_is
  case z85=>k_is
  case z86=>exact fun s u v=> .of_eq rfl
  case z87 | z88 | z89 | z90 | z91 | z92=>rfl
  case z93=>decide+kernel
  case z94=>rfl
  case z95=>decide+kernel
  case z96 | z97 | z98 | z99=>rfl
  case z100 | z101 | z102=>kernel_rfl
  case z103 | z104 | z105 | z106=>k_is
  case z107=>rfl
  case z108 | z109 | z110 | z111=>k_is
  case z112=>rfl
  case z113 | z114 | z115 | z116=>k_is
  case z117=>rfl
  case z118 | z119 | z120 | z121=>k_is
  case z122=>rfl
  case z123 | z124 | z125 | z126=>k_is
  case z127=>rfl
  case z128 | z129 | z130 | z131=>k_is
  case z132=>rfl
  case z133 | z134 | z135 | z136 | z137 | z138 | z139 | z140 | z141 | z142 | z143 | z144 | z145 | z146 | z147 | z148 | z149 | z150 | z151 | z152 | z153 | z154 | z155 | z156 | z157 | z158 | z159 | z160 | z161 | z162 | z163 | z164 | z165 | z166 | z167=>k_is
  case z168=>rfl
  case z169 | z170 | z171 | z172 | z173 | z174 | z175 | z176 | z177 | z178 | z179 | z180 | z181 | z182 | z183 | z184 | z185 | z186 | z187=>k_is
  case z188=>rfl
  case z189 | z190 | z191 | z192=>k_is
  case z193=>rfl
  case z194 | z195 | z196 | z197=>k_is
  case z198=>rfl
  case z199 | z200 | z201 | z202=>k_is
  case z203=>rfl
  case z204 | z205 | z206 | z207=>k_is
  case z208=>rfl
  case z209 | z210 | z211 | z212=>k_is
  case z213=>rfl
  case z214 | z215 | z216 | z217=>k_is
  case z218=>rfl
  case z219 | z220 | z221 | z222=>k_is
  case z223=>rfl
  case z224 | z225 | z226 | z227=>k_is
  case z228=>rfl
  case z229 | z230 | z231 | z232=>k_is
  case z233=>rfl
  case z234 | z235 | z236 | z237=>k_is
  case z238=>rfl
  case z239 | z240 | z241 | z242=>k_is
  case z243=>rfl
  case z244 | z245 | z246 | z247=>k_is
  case z248=>rfl
  case z249 | z250 | z251 | z252=>k_is
  case z253=>rfl
  case z254 | z255 | z256 | z257=>k_is
  case z258=>rfl
  case z259 | z260 | z261 | z262=>k_is
  case z263=>rfl
  case z264 | z265 | z266 | z267=>k_is
  case z268=>rfl
  case z269 | z270 | z271 | z272 | z273 | z274 | z275 | z276 | z277 | z278 | z279 | z280 | z281 | z282 | z283 | z284 | z285 | z286 | z287 | z288 | z289 | z290 | z291=>k_is
  case z292=>rfl
  case z293=>k_is
  case z294=>rfl
  case z295=>k_is
  case z296=>rfl
  case z297=>k_is
  case z298=>rfl
  case z299=>k_is
  case z300=>rfl
  case z301=>k_is
  case z302=>rfl
  case z303 | z304 | z305 | z306=>k_is
  case z307 | z308 | z309=>kit_is
  case z310 | z311=>k_is
  case z312=>exact fun S=>al6 fun _ _ _ _ _ _=>al0 <| by with_unfolding_all rfl
  case z313 | z314=>exact fun S=>al2 fun _ _=>al0 <| by with_unfolding_all rfl
  case z315=>exact fun S=>al4 fun _ _ _ _=>al1 fun _=>by with_unfolding_all rfl
  case z316=>exact fun S=>al1 fun _=>al0 <| by with_unfolding_all rfl
  case z317=>exact fun S=>al4 fun _ _ _ _=>al1 fun _=>by with_unfolding_all rfl
  case z318 | z319 | z320 | z321=>exact fun S=>al2 fun _ _=>al0 <| by with_unfolding_all rfl
  case z322=>exact fun S=>al1 fun _=>al0 <| by with_unfolding_all rfl
  case z323=>exact fun S=>al2 fun _ _=>al0 <| by with_unfolding_all rfl
  case z324=>exact fun S=>al3 fun _ _ _=>al0 <| by with_unfolding_all rfl
  case z325 | z326=>exact fun S=>al1 fun _=>al0 <| by with_unfolding_all rfl
  case z327=>exact fun S=>al3 fun _ _ _=>al0 <| by with_unfolding_all rfl
  case z328=>exact fun S=>al4 fun _ _ _ _=>al0 <| by with_unfolding_all rfl
  case z329=>exact fun S=>al1 fun _=>al0 <| by with_unfolding_all rfl
  case z330 | z331=>exact fun S=>al2 fun _ _=>al0 <| by with_unfolding_all rfl
  case z332=>exact fun S=>al3 fun _ _ _=>al0 <| by with_unfolding_all rfl
