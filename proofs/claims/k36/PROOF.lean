import PyProof.Rows.All
import Wide.All
import OpenK.AllK
import Wide.FinOn
import Lean
import PyProof.EqAt
import PyProof.EqKinds
import PyProof.TupleCall
import PyProof.NsDelKeeps
import PyProof.InstStoreFacts
import KE.KLam
import KE.KRevIter
import PyProof.ZipIter
import KE.KUnpack
import PyProof.Conv_int_bool
import PyProof.CallStr
import KE.KRevSl
import PyProof.NeKinds
import PyProof.AttrMissHeap
import KE.KDictOf
import PySem.Challenge.RW_leadnames_k36_walks_among_hung_trees
set_option Elab.async false
set_option linter.all false
set_option maxRecDepth 100000
open PySem renaming Value→ϊ, Addr→ϋ, Shared→ό, Program→ύ
open PySem.Str renaming ofString→ώ
open PySem.Challenge renaming rw_leadnames_k36_walks_among_hung_trees→Ϗ
open PySem.W.Fast renaming tw6613529449190102663→tw1, tw10156331382660048174→tw2, tw11892475500146522536→tw3, tw14364793385576792824→tw4
namespace L2
open PySem PySem.W
def rF (tb:String->Option Builtin) (p:ύ) (w:World) (n₀:Nat) (ann:Option ϊ):Nat->SharedT->Thread->Option SharedT
 | 0,_,_=>none
 | n+1,s,t=>match through t with
  | true=>some s
  | false=>match stepOk n₀ ann t with
   | false=>none
   | true=>match stepT (denote tb) p w s t with
    | some (s',t')=>rF tb p w n₀ ann n s' t'
    | none=>none
theorem K4 {tb:String->Option Builtin} {p:ύ} {w:World} {n₀:Nat} {ann:Option ϊ}:∀ {n:Nat} {s s':SharedT} {t:Thread},rF tb p w n₀ ann n s t=some s'->topRun tb p w n₀ ann n s.abs t=some s'.abs
 | 0,_,_,_,h=>by cases h
 | n+1,s,s',t,h=>by
  unfold rF at h;unfold topRun;cases he:through t with
  | true=>rw [he] at h; cases h; rfl
  | false =>
   rw [he] at h;cases hk:stepOk n₀ ann t with
   | false=>rw [hk] at h; cases h
   | true =>
    rw [hk] at h;cases hs:stepT (denote tb) p w s t with
    | none=>rw [hs] at h; cases h
    | some r=>obtain ⟨s₂,t₂⟩:=r; rw [hs] at h; rw [stepT_spec hs]; exact K4 h
def treeOf:List Obj->Nat->BT->BT
 | [],_,t=>t
 | o::r,n,t=>treeOf r (n+1) (t.ins n o)
theorem LeftO.WH {p q:ύ} {loose:List Str} {Xt:ό->Bool} {α:Type} {Yf:ό->α} {Ya:World->α} {N:Nat} {g0:Bool} {H₀:Params->Heap} {T₀:Params->BT} {n₀:Nat} {life:Life} {oV:Array GenState} {d₀:Drawn} {k₀:Nat} {ann:Option ϊ}
  (HA:∀ w:World,(fencedOpening treeTable p w N).map (fun s=>(s.heap,s.gens,s.drawn,s.toks))=some (H₀ w.params,oV,d₀,k₀))
  (tr:∀ P:Params,absHeap (T₀ P) n₀ life=H₀ P)
  (size:∀ P:Params,((H₀ P).isNs mainGlobals && oV.size == 0,(H₀ P).objs.size,(H₀ P).nsMap mainGlobals "__annotations__")=(true,n₀,ann))
  (run:∀ (w:World) (os:OsState),(rF treeTable p w n₀ ann N ⟨T₀ w.params,n₀,life,oV,d₀,k₀,os⟩ (topStub p)).map (fun s=>((staticsOk (importedModules p.main.body) (H₀ w.params) s.abs.heap && namesBound p s.abs.heap && gensDone s.abs && laidKept (H₀ w.params) s.abs.heap),
    openSeen q loose (importedModules p.main.body) Xt g0 s.abs,Yf s.abs))=some (true,openGood q loose,Ya w)):LeftO p q loose Xt Yf Ya N g0:=fun w=>by
 obtain ⟨⟨h,gs,d,k,os⟩,e,e'⟩:=Option.map_eq_some_iff.mp (HA w);obtain ⟨rfl,rfl,rfl,rfl⟩:h=H₀ w.params/\gs=oV/\d=d₀/\k=k₀:=by simpa using e'
 obtain ⟨z1,z2,z3⟩:_/\_/\_:=by simpa only [Prod.mk.injEq] using size w.params
 obtain ⟨s₁,r1,r2⟩:=Option.map_eq_some_iff.mp (run w os);obtain ⟨l1,l2,l3⟩:_/\_/\_:=by simpa only [Prod.mk.injEq] using r2
 have r:=K4 r1;have ea:SharedT.abs ⟨T₀ w.params,n₀,life,gs,d,k,os⟩=⟨H₀ w.params,gs,d,k,os⟩:=by
  unfold SharedT.abs;rw [tr]
 rw [ea] at r;have t:topFrom treeTable p w N ⟨H₀ w.params,gs,d,k,os⟩=some s₁.abs:=by
  unfold topFrom;dsimp only;rw [z1,z2,z3,r];show (match staticsOk (importedModules p.main.body) (H₀ w.params) s₁.abs.heap && namesBound p s₁.abs.heap && gensDone s₁.abs && laidKept (H₀ w.params) s₁.abs.heap with | true=>_ | false=>_)=_;rw [l1]
 unfold openEnds;rw [e];show (topFrom treeTable p w N _).map _=_;rw [t];exact congrArg some (Prod.ext l2 l3)
def fD (ok:Nat->Option ϊ->Thread->Bool) (st:SharedT->Thread->Option (SharedT×Thread)) (n₀:Nat) (ann:Option ϊ):Nat->SharedT->Thread->Option SharedT
 | 0,_,_=>none
 | n+1,s,t=>match through t with
  | true=>some s
  | false=>match ok n₀ ann t with
   | false=>none
   | true=>match st s t with
    | some (s',t')=>fD ok st n₀ ann n s' t'
    | none=>none
theorem K1 {tb:String->Option Builtin} {p:ύ} {w:World} {n₀:Nat} {ann:Option ϊ}:∀ (n:Nat) (s:SharedT) (t:Thread),fD stepOk (stepT (denote tb) p w) n₀ ann n s t=rF tb p w n₀ ann n s t
 | 0,_,_=>rfl
 | n+1,s,t=>by
  unfold fD rF;cases through t with
  | true=>rfl
  | false =>
   cases stepOk n₀ ann t with
   | false=>rfl
   | true =>
    cases stepT (denote tb) p w s t with
    | none=>rfl
    | some r=>exact K1 n r.1 r.2
theorem LeftO.Ym {p q:ύ} {loose:List Str} {Xt:ό->Bool} {α:Type} {Yf:ό->α} {Ya:World->α} {N:Nat} {g0:Bool} {H₀:Params->Heap} {T₀:Params->BT} {n₀:Nat} {life:Life} {oV:Array GenState} {d₀:Drawn} {k₀:Nat} {ann:Option ϊ}
  {ok:Nat->Option ϊ->Thread->Bool} {st:(Code->Sem Fin)->ύ->World->SharedT->Thread->Option (SharedT×Thread)} {den:(String->Option Builtin)->Code->Sem Fin} {tb:String->Option Builtin}
  (e1:stepOk=ok) (e2:stepT=st) (e3:denote=den) (e4:treeTable=tb)
  (HA:∀ w:World,(fencedOpening treeTable p w N).map (fun s=>(s.heap,s.gens,s.drawn,s.toks))=some (H₀ w.params,oV,d₀,k₀))
  (tr:∀ P:Params,absHeap (T₀ P) n₀ life=H₀ P)
  (size:∀ P:Params,((H₀ P).isNs mainGlobals && oV.size == 0,(H₀ P).objs.size,(H₀ P).nsMap mainGlobals "__annotations__")=(true,n₀,ann))
  (run:∀ (w:World) (os:OsState),(fD ok (st (den tb) p w) n₀ ann N ⟨T₀ w.params,n₀,life,oV,d₀,k₀,os⟩ (topStub p)).map (fun s=>((staticsOk (importedModules p.main.body) (H₀ w.params) s.abs.heap && namesBound p s.abs.heap && gensDone s.abs && laidKept (H₀ w.params) s.abs.heap),
    openSeen q loose (importedModules p.main.body) Xt g0 s.abs,Yf s.abs))=some (true,openGood q loose,Ya w)):LeftO p q loose Xt Yf Ya N g0:=by
 subst e1 e2 e3 e4;refine LeftO.WH HA tr size fun w os=>?_;rw [<- K1];exact run w os
noncomputable def gr (P:Params):BT:=treeOf (boot_heap P).objs.toList 0 .nil
end L2

namespace L2
open PySem PySem.W PyProof.Rows
theorem adL {α β γ:Type} {o:Option α} {F:α->β×γ} {G:β×γ} (h1:o.map (fun s=>(F s).1)=some G.1) (h2:o.map (fun s=>(F s).2)=some G.2):o.map F=some G:=by
 cases o with
 | none=>cases h1
 | some a=>injection h1 with h1; injection h2 with h2; exact congrArg some (Prod.ext h1 h2)
theorem atS {α β:Type} {o:Option α} {s:α} {f:α->β} {g:β} (hs:o=some s) (h:o.map f=some g):f s=g:=by
 subst hs; exact Option.some.inj h
theorem kR {α β:Type} {a b:α} {c d:β} (h:a=b) (k:c=d):(a,c)=(b,d):=by rw [h,k]
def F0 (p:ύ) (H₀:Heap) (s:SharedT):Bool:=staticsOk (importedModules p.main.body) H₀ s.abs.heap && namesBound p s.abs.heap && gensDone s.abs && laidKept H₀ s.abs.heap
def F3 (p q:ύ) (loose:List Str) (Xt:ό->Bool) (g0:Bool) (s:SharedT):Bool:=s.abs.heap.keysOk (looseW q loose) ((recsOf q).map (·.name)) ((litsOf q).map (·.1)) ((clssOf q (looseW q loose)).map (·.name)) && s.abs.heap.accountedOkI (importedModules p.main.body) && s.abs.heap.isNs mainGlobals && s.abs.heap.isNs builtinsNs && tablesOk q s.abs.heap && Xt s.abs && (if g0 then s.abs.gens.size == 0 else !leftWithCleanup s.abs.gens)
def F1 (q:ύ) (s:SharedT):=seen ((recsOf q).map (·.name)) (ownsOf q) [] { s.abs with gens:=#[] }
theorem WY {p q:ύ} {loose:List Str} {Xt:ό->Bool} {α:Type} {Yf:ό->α} {Ya:World->α} {g0:Bool} {H₀:Heap} {o:Option SharedT} {w:World}
  (q0:o.map (F0 p H₀)=some true) (q1:o.map (F1 q)=some (expectedOf q)) (q2:o.map (fun s:SharedT=>s.abs.heap.bltView)=some bltViewBooted)
  (q3:o.map (F3 p q loose Xt g0)=some true) (q4:o.map (fun s:SharedT=>tabsOk q s.abs)=some true) (q5:o.map (fun s:SharedT=>pinSeenD q (drecsOf q) s.abs)=some (pinGoodD (drecsOf q)))
  (q6:o.map (fun s:SharedT=>plainSeenE q (looseW q loose) s.abs)=some (plainGoodE q (looseW q loose))) (q7:o.map (fun s:SharedT=>plainSeenD q loose s.abs)=some (plainGoodD q loose))
  (q8:o.map (fun s:SharedT=>wideSeen q s.abs)=some (wideGood q)) (q9:o.map (fun s:SharedT=>clsSeenW q loose s.abs)=some (clsGoodW q loose))
  (nh:o.map (fun s:SharedT=>Yf s.abs)=some (Ya w)) :
  o.map (fun s:SharedT=>(F0 p H₀ s,openSeen q loose (importedModules p.main.body) Xt g0 s.abs,Yf s.abs))=some (true,openGood q loose,Ya w):=by
 obtain ⟨s,hs,a0⟩:=Option.map_eq_some_iff.mp q0;have a1:=atS hs q1;have a2:=atS hs q2;have a3:=atS hs q3;have a4:=atS hs q4;have a5:=atS hs q5;have a6:=atS hs q6;have a7:=atS hs q7;have a8:=atS hs q8;have a9:=atS hs q9;have Hm:=atS hs nh;clear q0 q1 q2 q3 q4 q5 q6 q7 q8 q9 nh;subst hs;show some _=some _;refine congrArg some (kR a0 (kR ?_ Hm));unfold openSeen openGood;exact kR a1 (kR a2 (kR a3 (kR a4 (kR a5 (kR a6 (kR a7 (kR a8 a9)))))))
theorem zb {α β γ:Type} {o:Option α} {f:α->β} {g:α->γ} {b:β} {c:γ} (h:o.map (fun s=>(f s,g s))=some (b,c)):o.map f=some b:=by
 cases o with
 | none=>cases h
 | some a=>injection h with h; exact congrArg some (congrArg Prod.fst h)
theorem kH {α β γ:Type} {o:Option α} {f:α->β} {g:α->γ} {b:β} {c:γ} (h:o.map (fun s=>(f s,g s))=some (b,c)):o.map g=some c:=by
 cases o with
 | none=>cases h
 | some a=>injection h with h; exact congrArg some (congrArg Prod.snd h)
theorem vq {α β γ:Type} {o:Option α} {l:List β} {f:α->β->γ} {g:β->γ} (n:Nat) (h1:o.map (fun s=>(l.take n).map (f s))=some ((l.take n).map g)) (h2:o.map (fun s=>(l.drop n).map (f s))=some ((l.drop n).map g)):o.map (fun s=>l.map (f s))=some (l.map g):=by
 cases o with
 | none=>cases h1
 | some a =>
  injection h1 with h1;injection h2 with h2;refine congrArg some ?_;show l.map (f a)=l.map g;rw [<- List.take_append_drop n l,List.map_append,List.map_append];exact congr (congrArg _ h1) h2
theorem Y2 {K:Params->Frag} {as:List ϋ} {e:∀ P,as=(K P).map (·.1)} {o:Option SharedT} {w:World} (h:o.map (fun s=>(K w.params).map fun p=>s.abs.heap.get? p.1)=some ((K w.params).map fun p=>some p.2)) :
  o.map (fun s=>(kHook K as e).obs s.abs)=some ((kHook K as e).val w):=by
 show o.map (fun s:SharedT=>as.map s.abs.heap.get?)=some ((K w.params).map fun p=>some p.2);rw [e w.params];simp only [List.map_map];exact h
end L2

section
open PySem PySem.W PyProof.Rows
namespace L2.b7
theorem sa:(Ϗ).row.wellSaid=true:=by kernel_rfl
theorem KQ:(Ϗ).wellSaid=true:=by
 unfold OpenLaw.wellSaid
 iterate 18 refine look_both ?_ ?_
 ·exact sa
 all_goals kernel_rfl
noncomputable def QV:ύ:=view (Ϗ).prog [0,2,3,4,5,6,8,9,10,11,12,13,14,15,16,17,19,20,21,22,23,24,25,26,27,28,29,30,31,32,33,34,35,36,37,39,40,41,42,43,45,46,47,48,49,50,51,52,53,54,58,59,61,62,63,64,65,66,67,68,69,70,71,72,73,76,77,79,80,81,82,83,84,86,87,88,89,90,91,92,93,94,95,96,97,98,99,100,101,102,103,104,105,106]
theorem ik:∀ w:World,(fencedOpening treeTable (Ϗ).prog w 16882).map (fun s=>(s.heap,s.gens,s.drawn,s.toks))=some (boot_heap w.params,Array.mk [],boot_drawn,boot_toks):=boot_open rfl rfl (fun _=>rfl)
theorem cA:∀ P:Params,absHeap (L2.gr P) 11 {}=boot_heap P:=by intro P; kernel_rfl
theorem jl:∀ P:Params,((boot_heap P).isNs mainGlobals && (Array.mk ([]:List GenState)).size == 0,(boot_heap P).objs.size,(boot_heap P).nsMap mainGlobals "__annotations__")=(true,11,some (.ref 6)):=by intro P; kernel_rfl
set_option maxHeartbeats 0
theorem qL (w:World) (os:OsState):((fD tw1 (tw2 (tw3 tw4) (Ϗ).prog w) 11 (some (.ref 6)) 16882 ⟨L2.gr w.params,11,{},Array.mk [],boot_drawn,boot_toks,os⟩ (topStub (Ϗ).prog))).map (fun s=>(((staticsOk (importedModules (Ϗ).prog.main.body) (boot_heap w.params) s.abs.heap && namesBound (Ϗ).prog s.abs.heap && gensDone s.abs && laidKept (boot_heap w.params) s.abs.heap)),s.abs.heap.bltView,pinSeenD QV (drecsOf QV) s.abs,plainSeenD QV [ώ "walk",ώ "asked_of",ώ "make_folder",ώ "make_file"] s.abs,clsSeenW QV [ώ "walk",ώ "asked_of",ώ "make_folder",ώ "make_file"] s.abs))=some ((true,bltViewBooted,pinGoodD (drecsOf QV),plainGoodD QV [ώ "walk",ώ "asked_of",ώ "make_folder",ώ "make_file"],clsGoodW QV [ώ "walk",ώ "asked_of",ώ "make_folder",ώ "make_file"])):=by kernel_rfl
theorem Yb (w:World) (os:OsState):((fD tw1 (tw2 (tw3 tw4) (Ϗ).prog w) 11 (some (.ref 6)) 16882 ⟨L2.gr w.params,11,{},Array.mk [],boot_drawn,boot_toks,os⟩ (topStub (Ϗ).prog))).map (fun s=>seen ((recsOf QV).map (·.name)) (ownsOf QV) [] { s.abs with gens:=#[] })=some (expectedOf QV):=by kernel_rfl
theorem qMb (w:World) (os:OsState):((fD tw1 (tw2 (tw3 tw4) (Ϗ).prog w) 11 (some (.ref 6)) 16882 ⟨L2.gr w.params,11,{},Array.mk [],boot_drawn,boot_toks,os⟩ (topStub (Ϗ).prog))).map (fun s=>wideSeen QV s.abs)=some (wideGood QV):=by kernel_rfl
theorem q3 (w:World) (os:OsState):((fD tw1 (tw2 (tw3 tw4) (Ϗ).prog w) 11 (some (.ref 6)) 16882 ⟨L2.gr w.params,11,{},Array.mk [],boot_drawn,boot_toks,os⟩ (topStub (Ϗ).prog))).map (fun s=>(s.abs.heap.keysOk (looseW QV [ώ "walk",ώ "asked_of",ώ "make_folder",ώ "make_file"]) ((recsOf QV).map (·.name)) ((litsOf QV).map (·.1)) ((clssOf QV (looseW QV [ώ "walk",ώ "asked_of",ώ "make_folder",ώ "make_file"])).map (·.name)) && s.abs.heap.accountedOkI (importedModules (Ϗ).prog.main.body) && s.abs.heap.isNs mainGlobals && s.abs.heap.isNs builtinsNs && tablesOk QV s.abs.heap && (fun s=>xlAt QV [] s && recOk (RowW.records (OpenRow.toRowW (Ϗ).row)) s) s.abs && (if true then s.abs.gens.size == 0 else !leftWithCleanup s.abs.gens)))=some (true):=by kernel_rfl
theorem q4 (w:World) (os:OsState):((fD tw1 (tw2 (tw3 tw4) (Ϗ).prog w) 11 (some (.ref 6)) 16882 ⟨L2.gr w.params,11,{},Array.mk [],boot_drawn,boot_toks,os⟩ (topStub (Ϗ).prog))).map (fun s=>tabsOk QV s.abs)=some (true):=by kernel_rfl
theorem S2 {h:Heap} {c:ClsRec} (n:Nat) (h1:h.plainShapeAt { c with meths:=c.meths.take n }=some (ClsRec.plainShape { c with meths:=c.meths.take n })) (h2:h.plainShapeAt { c with meths:=c.meths.drop n }=some (ClsRec.plainShape { c with meths:=c.meths.drop n })):h.plainShapeAt c=some c.plainShape:=by
 unfold Heap.plainShapeAt at h1 h2 ⊢;dsimp only [ClsRec.plainShape,ClsRec.quiet] at h1 h2 ⊢;cases e:h.clsAt mainGlobals c.name with
 | none=>rw [e] at h1; cases h1
 | some x =>
  rw [e] at h1 h2;simp only [Option.map_some,Option.some.injEq,PlainShape.mk.injEq] at h1 h2 ⊢;obtain ⟨a1,a2,a3,a4,a5,a6,a7,a8,a9,Hm,a11⟩:=h1;obtain ⟨_,_,_,_,_,_,_,_,_,b10,b11⟩:=h2;refine ⟨a1,a2,a3,a4,a5,a6,a7,a8,a9,?_,?_⟩
  ·rw [<- List.take_append_drop n c.meths,List.map_append,List.map_append,Hm,b10]
  ·rw [<- List.take_append_drop n c.meths,List.all_append,a11,b11]; rfl
theorem Xp {α:Type} {o:Option α} {l:List ClsRec} {F:α->Heap} (n:Nat) (h1:o.map (fun s=>l.map fun c=>(F s).plainShapeAt { c.withCmp with meths:=c.withCmp.meths.take n })=some (l.map fun c=>some (ClsRec.plainShape { c.withCmp with meths:=c.withCmp.meths.take n }))) (h2:o.map (fun s=>l.map fun c=>(F s).plainShapeAt { c.withCmp with meths:=c.withCmp.meths.drop n })=some (l.map fun c=>some (ClsRec.plainShape { c.withCmp with meths:=c.withCmp.meths.drop n }))):o.map (fun s=>l.map fun c=>(F s).plainShapeAt c.withCmp)=some (l.map fun c=>some c.withCmp.plainShape):=by
 cases o with
 | none=>cases h1
 | some a =>
  injection h1 with h1;injection h2 with h2;exact congrArg some (List.map_congr_left fun c hc=>S2 n (List.map_inj_left.mp h1 c hc) (List.map_inj_left.mp h2 c hc))
theorem Zh (w:World) (os:OsState):((fD tw1 (tw2 (tw3 tw4) (Ϗ).prog w) 11 (some (.ref 6)) 16882 ⟨L2.gr w.params,11,{},Array.mk [],boot_drawn,boot_toks,os⟩ (topStub (Ϗ).prog))).map (fun s=>((plainsOf QV (looseW QV [ώ "walk",ώ "asked_of",ώ "make_folder",ώ "make_file"])).take 4).map fun c=>s.abs.heap.plainShapeAt c.withCmp)=some (((plainsOf QV (looseW QV [ώ "walk",ώ "asked_of",ώ "make_folder",ώ "make_file"])).take 4).map fun c=>some (ClsRec.plainShape c.withCmp)):=by kernel_rfl
theorem Vv (w:World) (os:OsState):((fD tw1 (tw2 (tw3 tw4) (Ϗ).prog w) 11 (some (.ref 6)) 16882 ⟨L2.gr w.params,11,{},Array.mk [],boot_drawn,boot_toks,os⟩ (topStub (Ϗ).prog))).map (fun s=>(((plainsOf QV (looseW QV [ώ "walk",ώ "asked_of",ώ "make_folder",ώ "make_file"])).drop 4).take 1).map fun c=>s.abs.heap.plainShapeAt { c.withCmp with meths:=c.withCmp.meths.take 20 })=some ((((plainsOf QV (looseW QV [ώ "walk",ώ "asked_of",ώ "make_folder",ώ "make_file"])).drop 4).take 1).map fun c=>some (ClsRec.plainShape { c.withCmp with meths:=c.withCmp.meths.take 20 })):=by kernel_rfl
theorem Uj (w:World) (os:OsState):((fD tw1 (tw2 (tw3 tw4) (Ϗ).prog w) 11 (some (.ref 6)) 16882 ⟨L2.gr w.params,11,{},Array.mk [],boot_drawn,boot_toks,os⟩ (topStub (Ϗ).prog))).map (fun s=>(((plainsOf QV (looseW QV [ώ "walk",ώ "asked_of",ώ "make_folder",ώ "make_file"])).drop 4).take 1).map fun c=>s.abs.heap.plainShapeAt { c.withCmp with meths:=c.withCmp.meths.drop 20 })=some ((((plainsOf QV (looseW QV [ώ "walk",ώ "asked_of",ώ "make_folder",ώ "make_file"])).drop 4).take 1).map fun c=>some (ClsRec.plainShape { c.withCmp with meths:=c.withCmp.meths.drop 20 })):=by kernel_rfl
theorem q6b (w:World) (os:OsState):((fD tw1 (tw2 (tw3 tw4) (Ϗ).prog w) 11 (some (.ref 6)) 16882 ⟨L2.gr w.params,11,{},Array.mk [],boot_drawn,boot_toks,os⟩ (topStub (Ϗ).prog))).map (fun s=>(((plainsOf QV (looseW QV [ώ "walk",ώ "asked_of",ώ "make_folder",ώ "make_file"])).drop 4).drop 1).map fun c=>s.abs.heap.plainShapeAt c.withCmp)=some ((((plainsOf QV (looseW QV [ώ "walk",ώ "asked_of",ώ "make_folder",ώ "make_file"])).drop 4).drop 1).map fun c=>some (ClsRec.plainShape c.withCmp)):=by kernel_rfl
theorem q6 (w:World) (os:OsState):((fD tw1 (tw2 (tw3 tw4) (Ϗ).prog w) 11 (some (.ref 6)) 16882 ⟨L2.gr w.params,11,{},Array.mk [],boot_drawn,boot_toks,os⟩ (topStub (Ϗ).prog))).map (fun s=>plainSeenE QV (looseW QV [ώ "walk",ώ "asked_of",ώ "make_folder",ώ "make_file"]) s.abs)=some (plainGoodE QV (looseW QV [ώ "walk",ώ "asked_of",ώ "make_folder",ώ "make_file"])):=L2.vq 4 (Zh w os) (L2.vq 1 (Xp 20 (Vv w os) (Uj w os)) (q6b w os))
end L2.b7
end
section
open PySem PySem.W PyProof.Rows
local macro_rules | `(tactic| o_head $H)=>`(tactic| (refine (by assumption:∀ h':PySem.W.Hook,h'=_->PySem.W.OpenRow.Holds _) $H ?_; rfl))
set_option maxHeartbeats 0 in
noncomputable def L2.b7.fZ:(h:Hook) ×' ((∀ h':Hook,h'=h->(Ϗ).row.Holds)->(Ϗ).row.Holds):=by
 refine' ⟨_,fun x=>_⟩
 rotate_left
 k_head
end
section
open PySem PySem.W PyProof.Rows
namespace L2.b7
set_option maxHeartbeats 0
theorem ya (w:World) (os:OsState):((fD tw1 (tw2 (tw3 tw4) (Ϗ).prog w) 11 (some (.ref 6)) 16882 ⟨L2.gr w.params,11,{},Array.mk [],boot_drawn,boot_toks,os⟩ (topStub (Ϗ).prog))).map (fun s=>(((fZ.heap_1 w.params).take 367).take 183).map fun p=>s.abs.heap.get? p.1)=some ((((fZ.heap_1 w.params).take 367).take 183).map fun p=>some p.2):=by kernel_rfl
theorem yb (w:World) (os:OsState):((fD tw1 (tw2 (tw3 tw4) (Ϗ).prog w) 11 (some (.ref 6)) 16882 ⟨L2.gr w.params,11,{},Array.mk [],boot_drawn,boot_toks,os⟩ (topStub (Ϗ).prog))).map (fun s=>(((fZ.heap_1 w.params).take 367).drop 183).map fun p=>s.abs.heap.get? p.1)=some ((((fZ.heap_1 w.params).take 367).drop 183).map fun p=>some p.2):=by kernel_rfl
theorem yc (w:World) (os:OsState):((fD tw1 (tw2 (tw3 tw4) (Ϗ).prog w) 11 (some (.ref 6)) 16882 ⟨L2.gr w.params,11,{},Array.mk [],boot_drawn,boot_toks,os⟩ (topStub (Ϗ).prog))).map (fun s=>(((fZ.heap_1 w.params).drop 367).take 184).map fun p=>s.abs.heap.get? p.1)=some ((((fZ.heap_1 w.params).drop 367).take 184).map fun p=>some p.2):=by kernel_rfl
theorem yd (w:World) (os:OsState):((fD tw1 (tw2 (tw3 tw4) (Ϗ).prog w) 11 (some (.ref 6)) 16882 ⟨L2.gr w.params,11,{},Array.mk [],boot_drawn,boot_toks,os⟩ (topStub (Ϗ).prog))).map (fun s=>(((fZ.heap_1 w.params).drop 367).drop 184).map fun p=>s.abs.heap.get? p.1)=some ((((fZ.heap_1 w.params).drop 367).drop 184).map fun p=>some p.2):=by kernel_rfl
theorem nh (w:World) (os:OsState):((fD tw1 (tw2 (tw3 tw4) (Ϗ).prog w) 11 (some (.ref 6)) 16882 ⟨L2.gr w.params,11,{},Array.mk [],boot_drawn,boot_toks,os⟩ (topStub (Ϗ).prog))).map (fun s=>Hook.obs fZ.1 s.abs)=some (Hook.val fZ.1 w) :=
 L2.Y2 (K:=fZ.heap_1) (e:=fun _=>by kernel_rfl) (L2.vq 367 (L2.vq 183 (ya w os) (yb w os)) (L2.vq 184 (yc w os) (yd w os)))
end L2.b7
local macro_rules | `(tactic| o_law)=>`(tactic| refine PySem.W.holds_law L2.b7.KQ fun KQ=>?_)
local macro_rules | `(tactic| k_head)=>`(tactic| (
 refine holds_open (q:=L2.b7.QV) (loose:=[ώ "walk",ώ "asked_of",ώ "make_folder",ώ "make_file"]) (Xt:=fun s=>xlAt L2.b7.QV [] s && recOk (RowW.records (OpenRow.toRowW (Ϗ).row)) s) (XP:=XL L2.b7.QV []) (Yf:=Hook.obs L2.b7.fZ.1) (Ya:=Hook.val L2.b7.fZ.1) (YP:=Hook.says L2.b7.fZ.1) (N:=16882) ?hl (Hook.of L2.b7.fZ.1) (Hook.keeps L2.b7.fZ.1) (fun s e=>xl_of s (Bool.and_eq_true_iff.mp e).1) XL.keeps (by rfl) (by rfl) (by rfl) (fun s e=>recFacts_of (Bool.and_eq_true_iff.mp e).2) (by rfl) (by first | assumption | decide +kernel) (by decide +kernel) ⟨rfl,rfl,rfl,rfl,rfl,by decide +kernel⟩ ?hw ?hc
 case hl =>
  refine L2.LeftO.Ym Fast.te6613529449190102663 Fast.te10156331382660048174 Fast.te11892475500146522536 Fast.te14364793385576792824 L2.b7.ik L2.b7.cA L2.b7.jl (fun w os=>?_);exact L2.WY (L2.zb (L2.b7.qL w os)) (L2.b7.Yb w os) (L2.zb (L2.kH (L2.b7.qL w os))) (L2.b7.q3 w os) (L2.b7.q4 w os) (L2.zb (L2.kH (L2.kH (L2.b7.qL w os)))) (L2.b7.q6 w os) (L2.zb (L2.kH (L2.kH (L2.kH (L2.b7.qL w os))))) (L2.b7.qMb w os) (L2.kH (L2.kH (L2.kH (L2.kH (L2.b7.qL w os))))) (L2.b7.nh w os)))
set_option maxHeartbeats 0 in
open_top L2.b7.hd0 for PySem.Challenge.rw_leadnames_k36_walks_among_hung_trees
end
theorem zzq(_:1=1:=by rfl):True:=trivial
theorem zzh{p:Prop}(k:∀G:Prop,(p->G)->G):p:=k p id
section
set_option compiler.extract_closed false
set_option hygiene false
local macro_rules|`(‹$x›)=>`(autoParam $x zzq._auto_1)
local macro_rules|`(tactic|omega)=>`(tactic|first|lia|omega (config:={}))
local macro_rules (kind:=Lean.Parser.Command.declaration)
 | x=>do
  let d:=x[1]
  let n:=d[0].getTrailingSize
  let k:=d.getKind
  let D:=`Lean.Parser.Command.definition
  if n==1 && k==D && d[2][1].getNumArgs==1 then pure (x.setArg 1 (.node .none `Lean.Parser.Command.theorem #[Lean.mkAtom "theorem",d[1],.node .none `Lean.Parser.Command.declSig #[d[2][0],d[2][1][0]],d[3]])) else if n != 0 && (k==D || k==`Lean.Parser.Command.abbrev) then pure ((x.setArg 1 (d.setArg 0 (Lean.mkAtom (if k==D then "def" else "abbrev")))).setArg 0 (x[0].setArg 4 (Lean.mkNullNode #[.node .none `Lean.Parser.Command.noncomputable #[Lean.mkAtom "noncomputable"]]))) else Lean.Macro.throwUnsupported
local macro_rules (kind:=Lean.Parser.Term.fun)
 | `(fun $xs*=>$b)=>do
  let .some i:=xs.findIdx? (·.raw.isOfKind `«term#[_,]») | Lean.Macro.throwUnsupported
  let ps:=xs[i]!.raw[1].getSepArgs
  let h:=Lean.mkIdent (←Lean.Macro.addMacroScope `h)
  let r:=xs.extract (i+1) xs.size
  let b←if r.isEmpty then pure b else `(fun $r*=>$b)
  let q:=if ps.size==2 then ps[1]! else .node .none `«term#[_,]» #[Lean.mkAtom "#[",Lean.mkNullNode (Lean.mkSepArray (ps.extract 1 ps.size) (Lean.mkAtom ",")),Lean.mkAtom "]"]
  let ys:=(xs.extract 0 i).push ⟨h⟩
  `(fun $ys*=>($h).elim fun $(⟨ps[0]!⟩) $(⟨q⟩)=>$b)
local macro_rules | `(tactic|let ⟨$xs,*⟩:=$e)=>do
 let p←`(⟨$xs,*⟩)
 let N:=Lean.Syntax.node .none
 let M:=fun y=>N `Lean.Parser.Tactic.rcasesPatMed #[Lean.mkNullNode #[y]]
 let q:=p.raw.rewriteBottomUp fun x=>if x.isIdent then N `Lean.Parser.Tactic.rcasesPat.one #[x] else if x.isOfKind `Lean.Parser.Term.hole then N `Lean.Parser.Tactic.rcasesPat.ignore #[x[0]] else if x.isOfKind `Lean.Parser.Term.anonymousCtor then N `Lean.Parser.Tactic.rcasesPat.tuple #[x[0],Lean.mkNullNode (x[1].getArgs.mapIdx fun i y=>if i%2==1 then y else N `Lean.Parser.Tactic.rcasesPatLo #[M y,Lean.mkNullNode]),x[2]] else x
 if 6+2*(xs.getElems.filter (·.raw.getId==`rfl)).size<xs.getElems.size then `(tactic|(refine zzh fun _ x0=>?_;obtain $(⟨M q⟩):rcasesPatMed:=$e;refine x0 ?_;clear x0)) else `(tactic|obtain $(⟨M q⟩):rcasesPatMed:=$e)
local macro_rules | `(tactic|let ⟨$xs,*⟩:$t :=$e)=>`(tactic|(have z:$t :=$e;let ⟨$xs,*⟩:=z))
local macro_rules | `(-$x)=>`(.ref $x)
local macro_rules | `(!$x)=>`(some $x)
local macro_rules | `(tactic|show $e)=>`(tactic|refine $e)
local macro_rules | `(())=>`(by simp)
local macro_rules | `(∅)=>`(by omega)
local macro_rules | `(⋯)=>`(by decide)
local macro_rules | `(tactic|exists $n)=>`(tactic|(refine stJ $n ?_;dsimp only [List.map,List.replicate,List.cons_append,List.nil_append]))
local macro_rules | `(tactic|exists $t,$n,⟨$xs,*⟩)=>`(tactic|refine ($t).F.ok $n (fun vs H Q E h=>by let ⟨$xs,*⟩:=h;rw[e];rfl) fun ah A _ s H vs Q E hr h=>?_)
local macro_rules | `(tactic|exists $t,$n,$m,$k)=>`(tactic|refine ($t).F.ok $n (fun _ _ _ _ h=>$m h (by intros;rfl)) fun ah A _ s H vs Q E hr h=>$m h $k)
local macro_rules | `($f<$>$t $x)=>`(bn ($f T) hr.m ($t).m ($t).F.kp ($t).b .nil aq $x)
local macro_rules | `($f<*>$t $x)=>`(de ($f T) hr.m ($t).m ($t).F.kp ($t).b .nil cv $x)
local macro_rules | `($f<*$t $x $y)=>`(aW T.aD ($t).h ($f T) hr.m ($t).b .nil aq $x $y)
local macro_rules | `($f*>$t $x $y)=>`(aW T.cG ($t).h ($f T) hr.m ($t).b .nil aq $x $y)
local macro_rules | `($f<&>$t $x $y)=>`(dA T.aD ($t).h ($f T) hr.m ($t).b .nil cv $x $y)
local macro_rules | `(#[$xs,*]) => `(⟨$xs,*⟩)
local macro_rules | `(#[])=>`(by walk_at "s")
namespace L2
abbrev ν:=PySem.W.Frag
end L2

namespace L2
open PySem PySem.Spec PyProof.Rows
def jp:=@wpAny_bind
def kt:=@decide_eq_false
def li:=@List.mem_cons
def lm:=@List.not_mem_nil
def lv:=@List.length_map
def mo:=@List.length_append
def pi:=@Nat.le_refl
def pp:=@Heap.get?_push_of_some
def ss:=@Ne.symm
def sw:=@decide_eq_true
def sB:=@List.getElem?_eq_some_iff
def sK:=@List.size_toArray
def tz:=@wpAny_pure
def ul:=@List.getElem?_eq_getElem
def ut:=@Nat.le_trans
def u8:=@Heap.lt_size
def wf:=@if_neg
def wl:=@if_pos
def wn:=@Heap.get?_push_size
def ww:=@Nat.lt_of_lt_of_le
def wE:=@Bool.false_ne_true
def wP:=@or_false
def wS:=@List.mem_map
def wT:=@Nat.zero_le
def xz:=@List.length_cons
def xL:=@List.mem_append_right
def zn:=@Nat.ne_of_lt
def At:=@List.getElem?_map
def AC:=@Bool.and_eq_true
def AT:=@List.nodup_cons
def Ch:=@List.mem_singleton
def Cl:=@List.getElem?_append_left
def Da:=@List.map_append
def Db:=@PassesOwn.never
def Do:=@PySem.F.slot_list_append
def Ev:=@PySem.F.type_list_append
def EQ:=@List.getElem?_append_right
def Fa:=@List.nodup_append
def Fk:=@Option.some.inj
def Fr:=@List.mem_cons_of_mem
def FB:=@List.map_cons
def FM:=@Nat.lt_succ_self
def FS:=@List.all_eq_true
def Gc:=@beq_eq_false_iff_ne
def Go:=@Bool.false_eq_true
def GE:=@congrArg
def GM:=@List.take_of_length_le
def GT:=@List.mem_append_left
def Id:=@Heap.get?_update_other
def Ix:=@wpAny_Call_Name_kw
def IN:=@List.all_cons
def IO:=@W.kia_one
def IR:=@List.length_eq_zero_iff
def KB:=@Nat.lt_irrefl
def KM:=@Int.ofNat.inj
def LE:=@List.mem_of_getElem?
def LT:=@Option.map_eq_some_iff
def No:=@List.mem_append
def NE:=@wpAny_holding
def On:=@Option.isSome_iff_exists
def Op:=@wpAny_mono
def Os:=@Nat.le_succ_of_le
def Pi:=@PySem.mem_of_lookup
def Ps:=@not_or
def PP:=@wpAny_truthy_bool
def P3:=@Array.getElem?_toList
def Re:=@List.getElem?_set_ne
def Rs:=@W.looks_findIn
def Sc:=@List.getElem?_set_self
def SC:=@call_meets
def SL:=@Option.isSome_map
def ST:=@Calls.callWith_builtin
def SZ:=@List.map_map
def Tk:=@PySem.boot_len
def Tm:=@Array.length_toList
def Ty:=@Heap.get?_update_self
def TD:=@List.length_filter_le
def TW:=@Calls.evalArgs_plain
def T0:=@List.flatMap_cons
def Uf:=@Int.eq_ofNat_of_zero_le
def UF:=@Bool.eq_iff_iff
def UV:=@List.append_nil
def Wp:=@if_false
def WF:=@List.replicate_succ
def WP:=@PyProof.Rows.callWith_type1
def W1:=@List.length_take
def XV:=@List.getElem_mem
def ZB:=@beq_iff_eq
def _a:=@Calls.spliced_cons
def _b:=@W.callWith_K
def _c:=@Nat.lt_of_le_of_lt
def _d:=@Option.eq_none_iff_forall_not_mem
def _e:=@List.mem_of_find?_eq_some
def _f:=@wpAny_passesOwn
def _g:=@Nat.not_lt_zero
def _h:=@Calls.spliced_nil
def _i:=@decide_eq_true_eq
def _j:=@List.getElem?_of_mem
def _k:=@List.any_cons
def _l:=@List.idxOf_lt_length_iff
def _m:=@List.filterMap_cons
def _n:=@W.looks_mroIn
def _o:=@List.reverse_append
def _p:=@Heap.size_push
def _q:=@Nat.succ_le_succ
def _r:=@PySem.F.slot_list_index
def _s:=@wpAny_typeNameOfWhole_keyiter
def _t:=@List.mem_cons_self
def _u:=@wpAny_call
def _v:=@tupleKind_room_in1
def _w:=@List.find?_cons
def _x:=@F.slot_dict_keyiterator_next
def _y:=@Bool.not_true
def _z:=@List.take_add_one
def _A:=@of_decide_eq_true
def _B:=@wpAny_newObj_type
def _C:=@List.find?_isSome
def _D:=@Heap.get?_none_of_le
def _E:=@typeIs_str
def _F:=@List.getD_eq_getElem?_getD
def _G:=@PySem.F.excBase_ValueError
def _H:=@codeAny_call_builtin
def _I:=@F.plain_min_loop
def _J:=@List.length_reverse
def _K:=@wpAny_standAt
def _L:=@wpAny_execs_nil
def _M:=@List.length_nil
def _N:=@Nat.min_eq_left
def _O:=@List.mem_filterMap
def _P:=@Int.emod_lt_of_pos
def _Q:=@Nat.le_succ
def _R:=@PySem.F.type_list_index
def _S:=@wpAny_loadPart
def _T:=@codeAny_mono
def _U:=@List.flatten_cons
def _V:=@List.append_assoc
def _W:=@List.map_nil
def _X:=@List.nodup_nil
def _Y:=@wpAny_Call_method_late
def _Z:=@Bool.eq_false_iff
def _0:=@Nat.lt_succ_of_lt
def _1:=@Nat.sub_self
def _2:=@List.find?_cons_of_neg
def _3:=@W.methodCall_KW
def _4:=@List.length_replicate
def _5:=@PySem.F.slot_dict_get
def _6:=@List.getElem?_eq_none
def _7:=@PySem.F.slot_str_join
def _8:=@PySem.F.type_str_join
def _9:=@PySem.F.slot_list_pop
def Ja0:=@PySem.F.type_list_pop
def Ja1:=@List.eq_nil_or_concat
def Ja2:=@List.concat_eq_append
def Ja3:=@List.length_drop
def Ja4:=@List.filter_cons
def Ja5:=@Nat.min_eq_right
def Ja6:=@W.Looks.ld
def Ja7:=@wpAny_call_entry
def Ja8:=@List.any_eq_true
def Ja9:=@List.map_drop
def Jaa:=@Sum.inr.inj
def Jab:=@List.not_lt
def Jac:=@Array.toArray_toList
def Jad:=@Around.under_plainId
def Jae:=@List.dropLast_concat
def Jaf:=@Option.map_some
def Jag:=@codeAny_builtin
def Jah:=@wpAny_ite_split
def Jai:=@Int.emod_nonneg
def Jaj:=@W.hideAll_get
def Jak:=@W.plainGet_of
def Jal:=@ne_true_of_eq_false
def Jam:=@List.map_eq_nil_iff
def Jan:=@Nat.ne_of_gt
def Jao:=@W.of_hideAll
def Jap:=@List.mem_range
def Jaq:=@Bool.false_and
def Jar:=@F.args_str_split_2
def Jas:=@SeqAt.RcNeAt.lists
def Jat:=@Obj.data_mapFields
def Jau:=@Code.quiet_builtin
def Jav:=@wpAny_seqItems
def Jaw:=@Bool.or_false
abbrev Key:=Sum Int Str
def  pP:Key->ϊ->Bool
 | .inl k,v=>ϊ.isInt k v
 | .inr x,v=>ϊ.isStrOf x v
def  Rr(w:World):Key->Int
 | .inl k=>hashInt k
 | .inr x=>hashStr w x
def lN:∀ {k:Key}{v:ϊ},pP k v=true->(∃ i t,k=Sum.inl i/\v=ϊ.int i t)\/(∃ x t,k=Sum.inr x/\v=ϊ.str x t)
 | .inl i,v,h=>by
  let⟨t,e⟩:=ϊ.isInt_shape (k:=i) (v:=v) h;show .inl #[i,t,rfl,e]
 | .inr x,v,h=>by
  let⟨t,e⟩:=ϊ.isStrOf_shape (x:=x) (v:=v) h;show .inr #[x,t,rfl,e]
def Yv(i:Int)(t:Tok):pP (.inl i) (.int i t)=true:=by simp[pP,ϊ.isInt]
def adG(x:Str)(t:Tok):pP (.inr x) (.str x t)=true:=by simp[pP,ϊ.isStrOf]
def W8(a b:Int):decide ((Sum.inl a:Key)=Sum.inl b)=(a == b):=by
 by_cases e:a=b
 ·subst e;simp
 ·have h:¬ (Sum.inl a:Key)=Sum.inl b:=fun q=>e (Sum.inl.inj q);rw[kt h];show(Gc.mpr e).symm
def V5(a b:Str):decide ((Sum.inr a:Key)=Sum.inr b)=decide (a=b):=by
 by_cases e:a=b
 ·subst e;simp
 ·have h:¬ (Sum.inr a:Key)=Sum.inr b:=fun q=>e (Jaa q);rw[kt h,kt e]
def ZX(a:Int)(b:Str):decide ((Sum.inl a:Key)=Sum.inr b)=false:=kt (fun q=>nomatch q)
def VZ(a:Str)(b:Int):decide ((Sum.inr a:Key)=Sum.inl b)=false:=kt (fun q=>nomatch q)
def  fk(prog:ύ)(w:World):PySem.KeyKind prog w Key where
 is:=pP
 hash:=Rr w
 inj:=fun v a b ha hb=>by
  rcases lN ha with ⟨i,t,rfl,rfl⟩ | ⟨x,t,rfl,rfl⟩
  ·rcases lN hb with ⟨j,u,rfl,e⟩ | ⟨y,u,rfl,e⟩
   ·injection e with e1 _;rw[e1]
   ·show nomatch e
  ·rcases lN hb with ⟨j,u,rfl,e⟩ | ⟨y,u,rfl,e⟩
   ·show nomatch e
   ·injection e with e1 _;rw[e1]
 byValue:=fun k v h=>by
  rcases lN h with ⟨i,t,rfl,rfl⟩ | ⟨x,t,rfl,rfl⟩ <;> rfl
 pyHash:=fun hv h=>by
  rcases lN hv with ⟨i,t,rfl,rfl⟩ | ⟨x,t,rfl,rfl⟩
  ·show wpAny_pyHash_int h
  ·show wpAny_pyHash_str h
 eqBool:=fun hu hv h=>by
  rcases lN hu with ⟨i,t,rfl,rfl⟩ | ⟨x,t,rfl,rfl⟩
  ·rcases lN hv with ⟨j,u,rfl,rfl⟩ | ⟨y,u,rfl,rfl⟩
   ·rw[W8]at h;show wpAny_eqBool_int h
   ·rw[ZX]at h;show SeqAt.EqAt.int_str i t y u _ _ _ _ h
  ·rcases lN hv with ⟨j,u,rfl,rfl⟩ | ⟨y,u,rfl,rfl⟩
   ·rw[VZ]at h;show SeqAt.EqAt.str_int x t j u _ _ _ _ h
   ·rw[V5]at h;show wpAny_eqBool_str h
 «strs»:=fun k x t v h=>by
  rcases lN h with ⟨i,u,rfl,e⟩ | ⟨y,u,rfl,e⟩
  ·show nomatch e
  ·injection e with e1 _;subst e1;cases v <;> rfl
def W5(prog:ύ)(w:World)(i:Int)(t:Tok):(fk prog w).is (.inl i) (.int i t)=true:=Yv i t
def acM(prog:ύ)(w:World)(x:Str)(t:Tok):(fk prog w).is (.inr x) (.str x t)=true:=adG x t
inductive V where
 | aw | bl (b:Bool) | int (i:Int) | str (x:Str) | byt (b:Array UInt8) | qa (b:UInt64) | ref (a:ϋ) | ty (n:String)
 deriving DecidableEq
def  RelV:V->ϊ->Prop
 | .aw,u=>u=ϊ.none
 | .bl b,u=>u=ϊ.bool b
 | .int i,u=>∃ t,u=ϊ.int i t
 | .str x,u=>∃ t,u=ϊ.str x t
 | .byt b,u=>∃ t,u=ϊ.bytes b t
 | .qa b,u=>∃ t,u=ϊ.float b t
 | .ref a,u=>u=ϊ.ref a
 | .ty n,u=>u=ϊ.type n
abbrev Vals:List V->List ϊ->Prop:=Paired RelV
def Vals.length{xs:List V}{us:List ϊ}(r:Vals xs us):xs.length=us.length:=Paired.length r
def Vals.get:∀ {xs:List V}{us:List ϊ}{i:Nat}{x:V},Vals xs us->xs[i]?=!x->∃ u,us[i]?=!u/\RelV x u
 | _,_,_,_,.nil,e=>by simp at e
 | _,_,0,_,.cons r _,e=>by simp at e;subst e;show#[_,rfl,r]
 | _,_,i+1,x,.cons _ t,e=>by
  let⟨u,h1,h2⟩:=Vals.get (i:=i) (x:=x) t (by simpa using e);show#[u,by simpa using h1,h2]
def Vals.set{x:V}{u:ϊ}(r:RelV x u):∀ {xs:List V}{us:List ϊ} (i:Nat),Vals xs us->Vals (xs.set i x) (us.set i u)
 | _,_,_,.nil=>.nil
 | _,_,0,.cons _ t=>.cons r t
 | _,_,i+1,.cons q t=>.cons q (Vals.set r i t)
def Vals.append:∀ {xs ys:List V}{us ws:List ϊ},Vals xs us->Vals ys ws->Vals (xs++ys) (us++ws)
 | _,_,_,_,.nil,s=>s
 | _,_,_,_,.cons r t,s=>.cons r (Vals.append t s)
def Vals.take:∀ {xs:List V}{us:List ϊ} (n:Nat),Vals xs us->Vals (xs.take n) (us.take n)
 | _,_,0,_=>.nil
 | _,_,_+1,.nil=>.nil
 | _,_,n+1,.cons r t=>.cons r (Vals.take n t)
def Vals.drop:∀ {xs:List V}{us:List ϊ} (n:Nat),Vals xs us->Vals (xs.drop n) (us.drop n)
 | _,_,0,r=>r
 | _,_,_+1,.nil=>.nil
 | _,_,n+1,.cons _ t=>Vals.drop n t
def  fh:Option V->Option ϊ->Prop
 | some v,!u=>RelV v u
 | none,none=>True
 | _,_=>False
def  KV{κ:Type}:List (κ×V)->List (κ×ϊ)->Prop:=Paired fun (p:κ×V) (q:κ×ϊ)=>p.1=q.1/\RelV p.2 q.2
def  kV:Key->V
 | .inl i=>.int i
 | .inr x=>.str x
inductive HO where
 /-- a list -/
 | lst (xs:List V)
 /-- a tuple (never changes) -/
 | tup (xs:List V)
 /-- a dict whose keys are ints and texts;one whose keys are tuples of ints and texts (iW empty one is both) -/
 | dK (kvs:List (Key×V)) | dT (kvs:List (List Key×V))
 /-- a set of ints: au members,au size -/
 | set (S:Int->Bool) (n:Nat)
 /-- an instance of iW class at C,au dict at dx,au attributes -/
 | ins (C dx:ϋ) (fs:List (Str×V))
 /-- iW dict of iW instance at x -/
 | own (x:ϋ)
 /-- iW dict of an exception -/
 | xd (fs:List (Str×V))
 /-- a bound method,f of x -/
 | met (f x:ϋ)
 /-- a range object lo,lo+1,.. below hi -/
 | zD (lo hi:Int)
 /-- a thing that is known to iW object (iW script;a dict while a loop walks it): read,never written while it is so -/
 | df (o:Obj) (u:HO)
 /-- a code object's table -/
 | nQ (ps:Array ϊ)
 /-- any other thing,by what is true of au one object (a def of one's own: SetO a S n:=HO.ext fun h=>..) -/
 | ext (φ:Heap->Prop)
abbrev Hp:=ϋ->Option HO
def  upd(H:Hp)(a:ϋ)(o:HO):Hp:=fun b=>if b=a then !o else H b
def ay{H:Hp}{a:ϋ}{o:HO}:upd H a o a=!o:=by unfold upd;rw[wl rfl]
def ag{H:Hp}{a b:ϋ}{o:HO}(h:b≠a):upd H a o b=H b:=by unfold upd;rw[wf h]
def nH{H:Hp}{a:ϋ}{o u:HO}:upd (upd H a o) a u=upd H a u:=by
 funext b;unfold upd;split <;> rfl
def Vo{H:Hp}{a b:ϋ}{o u:HO}(h:H a=!o)(h':H b=!u)(d:o≠u):a≠b:=by
 intro e;subst e;rw[h]at h';show d (Fk h')
def gH{H:Hp}{a b:ϋ}{o:HO}(h:H a=!o)(h':H b=none):a≠b:=by
 intro e;subst e;rw[h]at h';cases h'
def  pj(h:Heap)(a:ϋ)(items:Array ϊ):Prop:=∃ o,h.get? a=!o/\o.cls=.type "tuple" /\ ∃ n,o.data=.seq items n/\o.dict=none
def pj.t{h:Heap}{a:ϋ}{items:Array ϊ}(x:pj h a items):IsTup h a items:=let ⟨o,e,c,n,d,_⟩:=x;#[o,e,c,n,d]
def pj.new(h:Heap)(items:Array ϊ):pj (h.push { cls:=.type "tuple",data:=.seq items }) h.objs.size items:=#[_,wn _ rfl,rfl,_,rfl,rfl]
section
variable (P:ύ)(w:World)
def  ck(H:Hp)(h:Heap)(a:ϋ):HO->Prop
 | .lst xs=>xs.length<=sizeLine/\∃ (au:List ϊ) (n:Nat),Vals xs au/\h.get? a=!{ cls:=.type "list",data:=.seq au.toArray n }
 | .tup xs=>xs.length<=sizeLine/\∃ au:List ϊ,Vals xs au/\pj h a au.toArray
 | .dK kvs=>kvs.length<=sizeLine/\(a == sysModules)=false/\∃ vs,KV kvs vs/\h.DictOf (fk P w) a vs
 | .dT kvs=>kvs.length<=sizeLine/\(a == sysModules)=false/\∃ xs:List (List Key×ϋ×ϊ),
   Paired (fun (p:List Key×V) (q:List Key×ϋ×ϊ)=>p.1=q.1/\H q.2.1=!.tup (p.1.map kV)/\RelV p.2 q.2.2) kvs xs /\
   ∃ o es ep,h.get? a=!o/\o.ExactDict/\o.data=.dict es ep/\es.toList=xs.map (entryOfKey (tupleKind (fk P w)))/\(xs.map (·.1)).Nodup
 | .set S n=>h.SetOf (intKind P w) a S n
 | .ins C dx fs=>H dx=!.own a/\fs.length<=1000/\dx≠a/\h.get? a=!W.instObj C dx /\
   ∃ mA,h.Ns1 dx mA/\(∀ f,fh (fs.lookup f) (mA f))/\PySem.Within mA (fs.map (·.1))
 | .own _=>∃ o,h.get? a=!o
 | .xd fs=>∃ mA,h.Ns1 a mA/\∀ f,fh (fs.lookup f) (mA f)
 | .zD lo hi=>∃ t u v,h.get? a=!{ cls:=.type "range",data:=.fields (List.toArray [.int lo t,.int hi u,.int 1 v]) }
 | .df o u=>h.get? a=!o/\ck H h a u
 | .nQ ps=>h.get? a=!{ cls:=.none,data:=.fields ps }
 | .met f x=>h.get? a=!W.methodObj (-f) (-x)
 | .ext φ=>φ h/\(∃ o,h.get? a=!o)/\∀ h1 h2:Heap,φ h1->(∀ o,h1.get? a=!o->h2.get? a=!o)->φ h2
def  cw(H:Hp)(h:Heap):Prop:=∀ a o,H a=!o->ck P w H h a o
end
section
variable {P:ύ}{w:World}{H H':Hp}{h h':Heap}{a:ϋ}{o:HO}
def ck.lt(x:ck P w H h a o):a < h.objs.size:=by
 cases o with
 | lst xs=>let⟨_,_,_,_,e⟩:=x;show u8 e
 | tup xs=>let⟨_,_,_,p⟩:=x;show p.t.lt
 | dK kvs=>let⟨_,_,_,_,o,_,_,e,_⟩:=x;show u8 e
 | dT kvs=>let⟨_,_,_,_,o,_,_,e,_⟩:=x;show u8 e
 | set S n=>let⟨o,_,_,_,e,_⟩:=x;show u8 e
 | ins C dx fs=>let⟨_,_,_,e,_⟩:=x;show u8 e
 | own y=>let⟨_,e⟩:=x;show u8 e
 | xd fs=>let⟨_,⟨_,_,_,e,_⟩,_⟩:=x;show u8 e
 | zD lo hi=>let⟨_,_,_,e⟩:=x;show u8 e
 | df ob u=>let⟨e,_⟩:=x;show u8 e
 | nQ ps=>show u8 (show h.get? a=some _ from x)
 | met f y=>show u8 (show h.get? a=some _ from x)
 | ext φ=>let⟨_,⟨_,e⟩,_⟩:=x;show u8 e
def Paired.Ck{α β:Type}{F G:α->β->Prop}:∀ {l₁:List α}{l₂:List β},Paired F l₁ l₂->(∀ a b,F a b->G a b)->Paired G l₁ l₂
 | _,_,.nil,_=>.nil
 | _,_,.cons r t,f=>.cons (f _ _ r) (Paired.Ck t f)
def ck.gz(x:ck P w H h a o)(k:∀ b u,(b=a\/H b=!.own a)->h.get? b=!u->h'.get? b=!u)(ho:∀ b,H b=!.own a->H' b=!.own a)(ht:∀ b xs,H b=!.tup xs->H' b=!.tup xs):ck P w H' h' a o:=by
 induction o with
 | lst xs=>let⟨z,au,n,r,e⟩:=x;show#[z,au,n,r,k _ _ (.inl rfl) e]
 | tup xs=>let⟨z,au,r,ob,e,c⟩:=x;show#[z,au,r,ob,k _ _ (.inl rfl) e,c]
 | dK kvs=>let⟨z,y,vs,r,ob,es,ep,e,c⟩:=x;show#[z,y,vs,r,ob,es,ep,k _ _ (.inl rfl) e,c]
 | dT kvs =>
  let⟨z,y,xs,r,ob,es,ep,e,c⟩:=x;show#[z,y,xs,Paired.Ck r fun p q z=>#[z.1,ht _ _ z.2.1,z.2.2],ob,es,ep,k _ _ (.inl rfl) e,c]
 | set S n=>let⟨ob,es,ep,t,e,c⟩:=x;show#[ob,es,ep,t,k _ _ (.inl rfl) e,c]
 | ins C dx fs =>
  let⟨d,z,ne,e,mA,⟨od,es,ep,e2,c⟩,r⟩:=x;show#[ho _ d,z,ne,k _ _ (.inl rfl) e,mA,#[od,es,ep,k _ _ (.inr d) e2,c],r]
 | own y=>let⟨ob,e⟩:=x;show#[ob,k _ _ (.inl rfl) e]
 | xd fs=>let⟨mA,⟨od,es,ep,e,c⟩,r⟩:=x;show#[mA,#[od,es,ep,k _ _ (.inl rfl) e,c],r]
 | zD lo hi=>let⟨t,u,v,e⟩:=x;show#[t,u,v,k _ _ (.inl rfl) e]
 | df ob u ih=>let⟨e,q⟩:=x;show#[k _ _ (.inl rfl) e,ih q]
 | nQ ps =>
  have e:h.get? a=!{ cls:=.none,data:=.fields ps }:=x;change h'.get? a=!{ cls:=.none,data:=.fields ps };show k a _ (.inl rfl) e
 | met f y =>
  have e:h.get? a=!W.methodObj (-f) (-y):=x;change h'.get? a=!W.methodObj (-f) (-y);show k a _ (.inl rfl) e
 | ext φ=>let⟨p,⟨o,e⟩,st⟩:=x;show#[st _ _ p fun o q=>k _ _ (.inl rfl) q,#[o,k _ _ (.inl rfl) e],st]
def cw.lt(x:cw P w H h)(e:H a=!o):a < h.objs.size:=(x a o e).lt
def cw.fresh(x:cw P w H h)(e:h.objs.size<=a):H a=none:=by
 cases q:H a with
 | none=>rfl
 | some u=>show absurd (ww (x.lt q) e) (KB _)
def cw.kept(x:cw P w H h)(k:∀ b u,h.get? b=!u->h'.get? b=!u):cw P w H h':=fun a o e =>
 (x a o e).gz (fun b u _ q=>k b u q) (fun _ q=>q) fun _ _ q=>q
def cw.laid(x:cw P w H h)(k:∀ b u,h.get? b=!u->h'.get? b=!u)(hp:h.objs.size<=a)(new:ck P w (upd H a o) h' a o):cw P w (upd H a o) h':=fun b u e=>by
 have hn:=x.fresh hp;by_cases hb:b=a
 ·subst hb;rw[ay]at e;cases e;show new
 ·rw[ag hb]at e;show(x b u e).gz (fun c v _ q=>k c v q) (fun c q=>by rw[ag (gH q hn)];show q) fun c xs q=>by rw[ag (gH q hn)];show q
end
def  Rd(H:Hp)(a:ϋ)(u:HO):Prop:=H a=!u\/∃ o,H a=!.df o u
def Rd.ok{P:ύ}{w:World}{H:Hp}{h:Heap}{a:ϋ}{u:HO}(r:Rd H a u)(x:cw P w H h):ck P w H h a u:=by
 rcases r with r | ⟨o,r⟩
 ·show x a u r
 ·let⟨_,q⟩:=x a _ r;show q
def  vC:Option HO->Prop
 | some (.lst _)=>True
 | some (.dK _)=>True
 | some (.dT _)=>True
 | some (.set _ _)=>True
 | some (.ins _ _ _)=>True
 | some (.ext _)=>True
 | _=>False
section
variable {P:ύ}{w:World}{H:Hp}{h h':Heap}{x e:ϋ}{o':HO}
def cw.write(ok:cw P w H h)(mu:vC (H x))(he:e=x\/H e=!.own x)(k:∀ b u,b≠e->h.get? b=!u->h'.get? b=!u)(sW:∃ u,h'.get? e=!u)(new:ck P w (upd H x o') h' x o'):cw P w (upd H x o') h':=fun b u q=>by
 have PB:∀ c y,H c=!.own y->c≠x:=fun c y r z=>by subst z;rw[r]at mu;show mu
 have ntup:∀ c xs,H c=!.tup xs->c≠x:=fun c xs r z=>by subst z;rw[r]at mu;show mu
 by_cases hb:b=x
 ·subst hb;rw[ay]at q;cases q;show new
 ·rw[ag hb]at q;by_cases qu:b=e
  ·have q':H b=!.own x:=by
    rcases he with z | z
    ·show absurd (qu.trans z) hb
    ·rw[qu];show z
   rw[q]at q';cases q';let⟨v,hv⟩:=sW;show#[v,by rw[qu];show hv]
  ·show(ok b u q).gz (fun c v hc r=>k c v ?_ r) (fun c r=>by rw[ag (PB c b r)];show r) fun c xs r=>by rw[ag (ntup c xs r)];show r
   rcases hc with rfl | hc
   ·show qu
   ·rintro rfl;rcases he with z | z
    ·show PB c b hc z
    ·rw[hc]at z;cases z;show hb rfl
end
structure Un(fs ex:List ϋ)(H H':Hp)(h h':Heap):Prop where
 keep:∀ b o,h.get? b=!o->H b=none->b ∉ fs->b ∉ ex->h'.get? b=!o
 slot:∀ b o,h.get? b=!o->H b=none->b∈fs->b ∉ ex->∃ sl,h'.get? b=!{ o with slots:=sl }
 free:∀ b o,h.get? b=!o->H b=none->b ∉ ex->H' b=none
 there:∀ b o,h.get? b=!o->b ∉ ex->∃ o',h'.get? b=!o'
 il:∀ b xs,H b=!.tup xs->H' b=!.tup xs
 g8:∀ b o u,H b=!.df o u->H' b=!.df o u
 ij:∀ b ps,H b=!.nQ ps->∃ more,H' b=!.nQ (ps++more)
section
variable {fs fs' ex ex':List ϋ}{H H1 H2:Hp}{h h1 h2 h':Heap}{a x e:ϋ}{o:HO}
def Un.any(u:Un fs ex H H1 h h1){b:ϋ}{ob:Obj}(q:h.get? b=!ob)(n:H b=none)(hx:b ∉ ex):∃ sl,h1.get? b=!{ ob with slots:=sl }:=by
 by_cases hb:b∈fs
 ·show u.slot b ob q n hb hx
 ·show#[ob.slots,u.keep b ob q n hb hx]
def Un.kept(k:∀ b u,h.get? b=!u->h'.get? b=!u):Un fs ex H H h h' :=
 #[fun b ob q _ _ _=>k b ob q,fun b ob q _ _ _=>#[ob.slots,k b ob q],fun _ _ _ n _=>n,fun b ob q _=>#[ob,k b ob q],fun _ _ q=>q,fun _ _ _ q=>q,fun _ ps q=>#[(List.toArray []),by rw[q];simp]]
def Un.refl:Un fs ex H H h h:=Un.kept fun _ _ q=>q
def Un.laid(k:∀ b u,h.get? b=!u->h'.get? b=!u)(hp:h.objs.size<=a)(hn:H a=none):Un fs ex H (upd H a o) h h' where
 keep:=fun b u q _ _ _=>k b u q
 slot:=fun b u q _ _ _=>#[u.slots,k b u q]
 free:=fun b u q n _=>by rw[ag (zn (ww (u8 q) hp))];show n
 there:=fun b u q _=>#[u,k b u q]
 il:=fun b xs q=>by rw[ag (gH q hn)];show q
 g8:=fun b u xs q=>by rw[ag (gH q hn)];show q
 ij:=fun b ps q=>#[(List.toArray []),by rw[ag (gH q hn),q];simp]
def Un.write(mu:vC (H x))(he:e=x\/H e=!.own x)(k:∀ b u,b≠e->h.get? b=!u->h'.get? b=!u)(sW:∃ u,h'.get? e=!u):Un fs ex H (upd H x o) h h':=by
 have hx:∀ b,H b=none->b≠x:=fun b n z=>by subst z;rw[n]at mu;show mu
 have hb:∀ b,H b=none->b≠e:=fun b n z=>by
  subst z;rcases he with r | r
  ·show hx b n r
  ·rw[n]at r;cases r
 have hm:∀ b u,H b=!u->¬ vC (!u)->b≠x:=fun b u q nm z=>by subst z;rw[q]at mu;show nm mu
 show#[fun b u q n _ _=>k b u (hb b n) q,fun b u q n _ _=>#[u.slots,k b u (hb b n) q],fun b u q n _=>by rw[ag (hx b n)];show n,fun b u q _=>?_,
  fun b xs q=>by rw[ag (hm b _ q fun z=>z)];show q,fun b u xs q=>by rw[ag (hm b _ q fun z=>z)];show q,fun b ps q=>#[(List.toArray []),by rw[ag (hm b _ q fun z=>z),q];simp]]
 by_cases qu:b=e
 ·subst qu;show sW
 ·show#[u,k b u qu q]
end
def  xX(h:Heap)(H:Hp):List ϋ:=(List.range h.objs.size).filter fun a=>(H a).isSome
def  mP(h:Heap)(H:Hp):Heap:=W.hideAll h (xX h H)
def aa9(h:Heap)(H:Hp):(mP h H).objs.size=h.objs.size:=W.hideAll_size _ _
def ab0{h:Heap}{H:Hp}{b:ϋ}{o:Obj}(e:h.get? b=!o)(n:H b=none):(mP h H).get? b=!o :=
 Jaj _ e fun hm=>by
  have q:(H b).isSome=true:=(List.mem_filter.mp hm).2;rw[n]at q;simp at q
def acP{h:Heap}{H:Hp}{b:ϋ}{o:Obj}(e:(mP h H).get? b=!o):h.get? b=!o/\H b=none:=by
 have e':h.get? b=!o:=Jao (xX h H) e;show#[e',?_];cases q:H b with
 | none=>rfl
 | some x =>
  have hm:b∈xX h H:=List.mem_filter.mpr #[Jap.mpr (u8 e'),by simp[q]];have z:(mP h H).get? b=none:=W.hideAll_none (xX h H) hm;rw[z]at e;cases e
def  Wb(g h:Heap)(L:ϋ):List (ϋ×Obj):=(List.range h.objs.size).filterMap fun a=>if a=L\/(g.get? a).isSome=true then none else (h.get? a).map fun o=>(a,o)
def  rest(g h:Heap)(L d:ϋ):List (ϋ×Obj):=(Wb g h L).filter fun p=>decide (p.1≠d)
structure Mod(K:ν)(mg:Str->Option ϊ)(base:Heap):Prop where
 jX:K.In base
 glob:base.Ns mainGlobals mg
 blt:∃ mb,base.Ns builtinsNs mb/\∀ x:Str,x ≠ "__name__" -> mb x=bootBuiltins x
 nolimit:base.NoLimit
structure Cx where
 prog:ύ
 w:World
 K:ν
 mg:Str->Option ϊ
 base:Heap
 A:Around
 N:List Str
 s₀:ό
 H₀:Hp
 env:Env
 outer:List Env
 stack:List Env
 ex:List ϋ
 fn:Str->Bool
 calm:Bool
 pn:List (ϋ×Obj)
 xe:ϊ->ό->Prop
def  cb(l:List Env):List ϋ:=l.filterMap (·.frame)
abbrev Cx.fs(X:Cx):List ϋ:=cb X.outer
def  vM(sc:Scope)(x:Str):Prop:=sc.names.lookup x=!.local\/sc.names.lookup x=!.cell\/sc.names.lookup x=!.free
def  Loc(sc:Scope)(x:Str):Prop:=sc.names.lookup x=!.local\/sc.names.lookup x=!.cell
def  Look(env:Env)(h:Heap)(m:Str->Option ϊ)(x:Str)(u:ϊ):Prop :=
 (env.kindOf x=!.local/\m x=!u)\/((env.kindOf x=!.cell\/env.kindOf x=!.free)/\∃ c,env.cells.lookup x=!c/\h.IsCell c (!u))
structure Cx.Ok(X:Cx):Prop where
 mod:Mod X.K X.mg X.base
 kind:X.env.scope.kind=.function
 glob:X.env.globals=mainGlobals
 blt:X.env.builtins=builtinsNs
 above:X.s₀.heap.objs.size<=X.env.locals
 inj:∀ x y c,X.env.cells.lookup x=!c->X.env.cells.lookup y=!c->x=y
 has:∀ x,(X.env.kindOf x=!.cell\/X.env.kindOf x=!.free)->∃ c,X.env.cells.lookup x=!c
 nO:∀ x c,X.fn x=true->X.env.cells.lookup x=!c->X.s₀.heap.objs.size<=c
 hd:X.calm=true->X.A.handled=none
 frames:X.A.frames=!X.stack
 dk:X.stack=X.outer\/(X.stack=X.env::X.outer/\X.env.frame=!X.env.locals)
 vf:∀ b∈X.ex,b≠X.env.locals/\∀ x c,X.env.cells.lookup x=!c->c≠b
 bs:∀ b o,X.base.get? b=!o->X.s₀.heap.get? b=!o/\X.H₀ b=none
 jw:X.base.objs.size<=X.s₀.heap.objs.size
 nz:∀ b o,X.base.get? b=!o->b ∉ X.ex
 nX:∀ b∈X.ex,b ∉ X.fs
 gN:X.s₀.heap.FunFrames X.base X.outer
 kq:∀ b∈X.fs,X.H₀ b=none
structure Inv(X:Cx)(π:List (ϋ×Obj))(σ:List (Option V))(H:Hp)(s:ό):Prop where
 ok:X.Ok
 os:s.os=X.s₀.os
 bare:AllBare s.gens
 base:Un X.fs X.ex X.H₀ H X.s₀.heap s.heap
 loc:∃ m,s.heap.Ns X.env.locals m/\∀ (i:Nat) (x:Str) (v:V),X.N[i]?=!x->σ[i]?=!(!v)->vM X.env.scope x->∃ u,RelV v u/\Look X.env s.heap m x u
 cell:∀ x c,X.env.cells.lookup x=!c->∃ v,s.heap.IsCell c v
 free:H X.env.locals=none
 gI:∀ x c,X.env.cells.lookup x=!c->H c=none
 pin:∀ p∈X.pn++π,s.heap.get? p.1=!p.2/\H p.1=none/\p.1≠X.env.locals/\p.1 ∉ X.fs/\∀ v,p.2.data≠.cell v
 aE:cw X.prog X.w H s.heap
 len:σ.length=X.N.length
section
variable {X:Cx}{π:List (ϋ×Obj)}{σ:List (Option V)}{H H':Hp}{s:ό}{h':Heap}
def Cx.Ok.Zg(ok:X.Ok){b:ϋ}{o:Obj}(e:X.base.get? b=!o):b ∉ X.fs:=fun hb=>by
 have:=(ok.gN.mem hb).1;rw[e]at this;cases this
def Inv.bs(I:Inv X π σ H s):∀ b o,X.base.get? b=!o->s.heap.get? b=!o/\H b=none:=fun b o e =>
 #[I.base.keep b o (I.ok.bs b o e).1 (I.ok.bs b o e).2 (I.ok.Zg e) (I.ok.nz b o e),I.base.free b o (I.ok.bs b o e).1 (I.ok.bs b o e).2 (I.ok.nz b o e)]
def Inv.bk(I:Inv X π σ H s):∀ b o,X.base.get? b=!o->s.heap.get? b=!o:=fun b o e=>(I.bs b o e).1
def Inv.mod(I:Inv X π σ H s):Mod X.K X.mg X.base:=I.ok.mod
def Inv.cq(I:Inv X π σ H s):X.K.In s.heap:=I.ok.mod.jX.keeps I.bk
def Inv.lt(I:Inv X π σ H s):X.env.locals < s.heap.objs.size:=let ⟨_,hn,_⟩:=I.loc;hn.lt
def Inv.sz(I:Inv X π σ H s):X.s₀.heap.objs.size<=s.heap.objs.size:=ut I.ok.above (Nat.le_of_lt I.lt)
def Inv.HN(I:Inv X π σ H s){a:ϋ}(h:s.heap.objs.size<=a):a ∉ X.fs:=fun hb=>by
 let⟨_,o,ho,_⟩:=I.ok.gN.mem hb;show absurd (ww (u8 ho) (ut I.sz h)) (KB _)
def Inv.qc(I:Inv X π σ H s):∀ x c,X.env.cells.lookup x=!c->c≠X.env.locals:=fun x c e z=>by
 let⟨v,o,ho,hd⟩:=I.cell x c e;let⟨m,⟨o',es,ep,ho',hd',_⟩,_⟩:=I.loc;rw[z,ho']at ho;cases ho;rw[hd']at hd;cases hd
def Inv.gN(I:Inv X π σ H s):s.heap.FunFrames X.base X.outer:=by
 have all:∀ (l:List Env),(∀ b∈cb l,b∈X.fs)->X.s₀.heap.FunFrames X.base l->s.heap.FunFrames X.base l:=by
  intro l
  induction l with
  | nil=>intro _ _;trivial
  | cons env r ih =>
   intro hs hl;let⟨hk,⟨L,o,hf,hn,ho,hd⟩,hr⟩:=hl;have hL:L∈X.fs:=hs L (by unfold cb;rw[_m,hf];show _t);let⟨sl,e⟩:=I.base.slot L o ho (I.ok.kq L hL) hL fun z=>I.ok.nX L z hL;show#[hk,#[L,_,hf,hn,e,hd],ih (fun b hb=>hs b (by unfold cb;rw[_m,hf];show Fr _ hb)) hr]
 show all X.outer (fun _ hb=>hb) I.ok.gN
def Inv.stack(I:Inv X π σ H s):s.heap.FunFrames X.base X.stack:=by
 rcases I.ok.dk with e | ⟨e,hf⟩
 ·rw[e];show I.gN
 ·rw[e];let⟨m,hn,_⟩:=I.loc;show .cons (by rw[I.ok.kind];decide) hf hn ?_ I.gN;show _D (ut I.ok.jw I.ok.above)
def Inv.yD(I:Inv X π σ H s):∀ b∈cb X.stack,b∈X.env.locals::X.fs:=fun b hb=>by
 rcases I.ok.dk with e | ⟨e,hf⟩
 ·rw[e]at hb;show Fr _ hb
 ·rw[e]at hb;unfold cb at hb;rw[_m,hf]at hb;show hb
def Inv.yI(I:Inv X π σ H s):∀ b∈cb X.stack,H b=none:=fun b hb=>by
 rcases li.mp (I.yD b hb) with e | hb
 ·rw[e];show I.free
 ·let⟨_,o,ho,_⟩:=I.ok.gN.mem hb;show I.base.free b o ho (I.ok.kq b hb) fun z=>I.ok.nX b z hb
def Inv.step{g':Array GenState}{t':Nat}{d':Drawn}{ch:List ϋ}(I:Inv X π σ H s)(jc:∀ b∈ch,(b∈X.ex\/X.s₀.heap.objs.size<=b)/\b≠X.env.locals/\(∀ x c,X.env.cells.lookup x=!c->c≠b)/\∀ p∈X.pn++π,p.1≠b)(keep:∀ b o,b≠X.env.locals->b ∉ X.fs->b ∉ ch->s.heap.get? b=!o->H b=none->h'.get? b=!o)(slot:∀ b o,b≠X.env.locals->b∈X.fs->b ∉ ch->s.heap.get? b=!o->H b=none->∃ sl,h'.get? b=!{ o with slots:=sl })(free:∀ b o,b ∉ ch->s.heap.get? b=!o->H b=none->H' b=none)(there:∀ b o,b ∉ ch->s.heap.get? b=!o->∃ o',h'.get? b=!o')(il:∀ b xs,H b=!.tup xs->H' b=!.tup xs)(g8:∀ b o u,H b=!.df o u->H' b=!.df o u)(ij:∀ b ps,H b=!.nQ ps->∃ more,H' b=!.nQ (ps++more))(ns:∀ m,s.heap.Ns X.env.locals m->h'.Ns X.env.locals m)(aE:cw X.prog X.w H' h')(hg:AllBare g') :
  Inv X π σ H' { s with heap:=h',gens:=g',drawn:=d',toks:=t' }:=by
 have wU:∀ b o,X.s₀.heap.get? b=!o->b≠X.env.locals:=fun b o e=>zn (ww (u8 e) I.ok.above);have z7:∀ b o,X.s₀.heap.get? b=!o->b ∉ X.ex->b ∉ ch:=fun b o e hx hb=>by
  rcases (jc b hb).1 with z | z
  ·show hx z
  ·show absurd (ww (u8 e) z) (KB _)
 have cellK:∀ x c,X.env.cells.lookup x=!c->∀ v,s.heap.IsCell c v->h'.IsCell c v:=fun x c e v #[o,ho,hd]=>by
  have xl:c ∉ ch:=fun z=>(jc c z).2.2.1 x c e rfl;by_cases hc:c∈X.fs
  ·let⟨sl,q⟩:=slot c o (I.qc x c e) hc xl ho (I.gI x c e);show#[_,q,hd]
  ·show#[o,keep c o (I.qc x c e) hc xl ho (I.gI x c e),hd]
 show#[I.ok,I.os,hg,#[fun b o e n hb hx=>?_,fun b o e n hb hx=>?_,fun b o e n hx=>?_,fun b o e hx=>?_,fun b xs e=>il b xs (I.base.il b xs e),fun b o xs e=>g8 b o xs (I.base.g8 b o xs e),fun b ps e=>?_],?_,fun x c e=>?_,?_,fun x c e=>?_,fun p hp=>?_,aE,I.len]
 ·show keep b o (wU b o e) hb (z7 b o e hx) (I.base.keep b o e n hb hx) (I.base.free b o e n hx)
 ·let⟨sl,e1⟩:=I.base.slot b o e n hb hx;let⟨sl',e2⟩:=slot b _ (wU b o e) hb (z7 b o e hx) e1 (I.base.free b o e n hx);show#[sl',e2]
 ·let⟨o',e1⟩:=I.base.there b o e hx;show free b o' (z7 b o e hx) e1 (I.base.free b o e n hx)
 ·let⟨o',e1⟩:=I.base.there b o e hx;show there b o' (z7 b o e hx) e1
 ·let⟨m1,e1⟩:=I.base.ij b ps e;let⟨m2,e2⟩:=ij b _ e1;show#[m1++m2,by rw[e2,Array.append_assoc]]
 ·let⟨m,hn,hl⟩:=I.loc;show#[m,ns m hn,fun i x v e1 e2 e3=>?_];let⟨u,r,l⟩:=hl i x v e1 e2 e3;show#[u,r,?_];rcases l with l | ⟨k,c,e,z⟩
  ·show .inl l
  ·show .inr #[k,c,e,cellK x c e _ z]
 ·let⟨v,z⟩:=I.cell x c e;show#[v,cellK x c e v z]
 ·let⟨m,⟨o,_,_,ho,_⟩,_⟩:=I.loc;show free _ o (fun z=>(jc _ z).2.1 rfl) ho I.free
 ·let⟨v,o,ho,hd⟩:=I.cell x c e;show free c o (fun z=>(jc c z).2.2.1 x c e rfl) ho (I.gI x c e)
 ·let⟨e,n,ne,nf,d⟩:=I.pin p hp;have xl:p.1 ∉ ch:=fun z=>(jc p.1 z).2.2.2 p hp rfl;show#[keep p.1 p.2 ne nf xl e n,free p.1 p.2 xl e n,ne,nf,d]
def Inv.un{t':Nat}(I:Inv X π σ H s)(u:Un X.fs [] H H' s.heap h')(aE:cw X.prog X.w H' h'):Inv X π σ H' { s with heap:=h',toks:=t' }:=by
 let⟨m,⟨o,es,ep,ho,r⟩,_⟩:=id I.loc;let⟨sl,hL⟩:=u.any ho I.free ();show I.step (g':=s.gens) (d':=s.drawn) (ch:=[]) (fun _ z=>nomatch z) (fun b o _ hb _ e n=>u.keep b o e n hb ()) (fun b o _ hb _ e n=>u.slot b o e n hb ()) (fun b o _ e n=>u.free b o e n ()) (fun b o _ e=>u.there b o e ()) u.il u.g8 u.ij (fun m' hm=>by
  let⟨o',es',ep',ho',r'⟩:=hm;rw[ho]at ho';cases ho';show#[_,es',ep',hL,r']) aE I.bare
def Inv.call{g':Array GenState}{t':Nat}{d':Drawn}{ch:List ϋ}(I:Inv X π σ H s)(u:Un (cb X.stack) ch H H' s.heap h')(aE:cw X.prog X.w H' h')(hg:AllBare g')(jc:∀ b∈ch,(b∈X.ex\/X.s₀.heap.objs.size<=b)/\b≠X.env.locals/\(∀ x c,X.env.cells.lookup x=!c->c≠b)/\∀ p∈X.pn++π,p.1≠b) :
  Inv X π σ H' { s with heap:=h',gens:=g',drawn:=d',toks:=t' }:=by
 let⟨m,⟨o,es,ep,ho,r⟩,_⟩:=id I.loc;let⟨sl,hL⟩:=u.any ho I.free fun z=>(jc _ z).2.1 rfl;show I.step (ch:=ch) jc (fun b o hL hb hc e n=>u.keep b o e n (fun z=>(li.mp (I.yD b z)).elim hL hb) hc) (fun b o _ _ hc e n=>u.any e n hc) (fun b o hc e n=>u.free b o e n hc) (fun b o hc e=>u.there b o e hc) u.il u.g8 u.ij (fun m' hm=>by
  let⟨o',es',ep',ho',r'⟩:=hm;rw[ho]at ho';cases ho';show#[_,es',ep',hL,r']) aE hg
def Inv.turned{t':Nat}{it:ϋ}(I:Inv X π σ H s)(k:∀ b o,b≠it->s.heap.get? b=!o->h'.get? b=!o)(hn:H it=none)(hL:it≠X.env.locals)(h1:it∈X.ex\/X.s₀.heap.objs.size<=it)(h2:∀ x c,X.env.cells.lookup x=!c->c≠it)(h3:∀ p∈X.pn++π,p.1≠it):Inv X π σ H { s with heap:=h',toks:=t' }:=by
 have Qx:∀ b u,H b=!u->b≠it:=fun b u e z=>by rw[z,hn]at e;cases e
 show I.step (g':=s.gens) (d':=s.drawn) (ch:=[it]) (fun b hb=>?_) (fun b o _ _ hc e _=>k b o (fun z=>hc (by simp[z])) e) (fun b o _ _ hc e _=>#[o.slots,k b o (fun z=>hc (by simp[z])) e]) (fun _ _ _ _ n=>n)
  (fun b o hc e=>#[o,k b o (fun z=>hc (by simp[z])) e]) (fun _ _ e=>e) (fun _ _ _ e=>e) (fun b ps e=>#[(List.toArray []),by rw[e];simp]) (fun m hm=>?_) (fun b u e=>?_) I.bare
 ·have e:b=it:=by simpa using hb
  subst e;show#[h1,hL,h2,h3]
 ·let⟨o,es,ep,ho,r⟩:=hm;show#[o,es,ep,k _ o (ss hL) ho,r]
 ·show(I.aE b u e).gz (fun c v hc q=>k c v ?_ q) (fun _ q=>q) fun _ _ q=>q;rcases hc with z | z
  ·rw[z];show Qx b u e
  ·show Qx c _ z
def Inv.tok(I:Inv X π σ H s)(t:Nat):Inv X π σ H { s with toks:=t }:=I.un (h':=s.heap) (t':=t) Un.refl I.aE
def Inv.kept{t':Nat}(I:Inv X π σ H s)(k:∀ b u,s.heap.get? b=!u->h'.get? b=!u):Inv X π σ H { s with heap:=h',toks:=t' }:=I.un (Un.kept k) (I.aE.kept k)
def Inv.laid{a:ϋ}{o:HO}{t':Nat}(I:Inv X π σ H s)(k:∀ b u,s.heap.get? b=!u->h'.get? b=!u)(hp:s.heap.objs.size<=a)(new:ck X.prog X.w (upd H a o) h' a o) :
  Inv X π σ (upd H a o) { s with heap:=h',toks:=t' }:=I.un (Un.laid k hp (I.aE.fresh hp)) (I.aE.laid k hp new)
def Inv.write{x e:ϋ}{o:HO}{t':Nat}(I:Inv X π σ H s)(mu:vC (H x))(he:e=x\/H e=!.own x)(k:∀ b u,b≠e->s.heap.get? b=!u->h'.get? b=!u)(sW:∃ u,h'.get? e=!u)(new:ck X.prog X.w (upd H x o) h' x o):Inv X π σ (upd H x o) { s with heap:=h',toks:=t' }:=I.un (Un.write mu he k sW) (I.aE.write mu he k sW new)
def Inv.uN{π':List (ϋ×Obj)}(I:Inv X π σ H s)(h:∀ p∈π',s.heap.get? p.1=!p.2/\H p.1=none/\p.1≠X.env.locals/\p.1 ∉ X.fs/\∀ v,p.2.data≠.cell v):Inv X π' σ H s :=
 #[I.ok,I.os,I.bare,I.base,I.loc,I.cell,I.free,I.gI,fun p hp=>(No.mp hp).elim (fun z=>I.pin p (GT _ z)) (h p),I.aE,I.len]
def Mp{N:List Str}(hN:N.Nodup){i j:Nat}{x:Str}(a:N[i]?=!x)(b:N[j]?=!x):i=j:=by
 let⟨h1,e1⟩:=sB.mp a;let⟨h2,e2⟩:=sB.mp b;show(List.getElem_inj hN).mp (e1.trans e2.symm)
def IK{M:Model}{A:Around}{E:ϊ->ό->Prop}{i:Nat}{x:Str}{v:V}{u:ϊ}{Q:Unit->ό->Prop}(I:Inv X π σ H s)(hN:X.N.Nodup)(hi:X.N[i]?=!x)(hx:Loc X.env.scope x)(r:RelV v u)(h:∀ s',Inv X π (σ.set i (!v)) H s'->(∃ a,Heap.SameBut a s.heap s'.heap/\(a=X.env.locals\/X.env.cells.lookup x=!a))->Q .unit s')(hf:X.fn x=true\/X.env.scope.names.lookup x=!.local:=by first | show .inl rfl | show .inr rfl | assumption):wpAny M A (storeName X.env x u) Q E s:=by
 let⟨m,hn,hl⟩:=id I.loc;have hcls:(X.env.scope.kind == .class || (X.env.scope.kind == .module && X.env.locals != X.env.globals))=false:=by rw[I.ok.kind];rfl
 have QK:i < σ.length:=by rw[I.len];show(sB.mp hi).1
 have qc:=I.qc;have tracked:∀ {a:ϋ}{h':Heap},(∃ o,s.heap.get? a=!o/\H a=none)->Heap.SameBut a s.heap h'->cw X.prog X.w H h':=fun {a h'} ha hs b ob e=>by
  let⟨_,_,oI⟩:=ha;show(I.aE b ob e).gz (fun c w' hc q=>(hs.2 c ?_).trans q) (fun _ q=>q) fun _ _ q=>q;rintro rfl;rcases hc with rfl | hc
  ·rw[oI]at e;cases e
  ·rw[oI]at hc;cases hc
 rcases hx with hk | hk
 ·show wpAny_storeName_local hk hn (fun h' hn' hs=>?_) hcls;let⟨oL,_,_,m5,_⟩:=id hn;show h _ #[I.ok,I.os,I.bare,#[fun b o e n hb hx=>?_,fun b o e n hb hx=>?_,I.base.free,fun b o e hx=>?_,I.base.il,I.base.g8,I.base.ij],#[_,hn',fun j y v' e1 e2 e3=>?_],fun y c e=>?_,I.free,I.gI,fun p hp=>?_,tracked #[oL,m5,I.free] hs,by simpa using I.len] #[_,hs,.inl rfl]
  ·show(hs.2 b (zn (ww (u8 e) I.ok.above))).trans (I.base.keep b o e n hb hx)
  ·let⟨sl,e1⟩:=I.base.slot b o e n hb hx;show#[sl,(hs.2 b (zn (ww (u8 e) I.ok.above))).trans e1]
  ·let⟨o',e1⟩:=I.base.there b o e hx;show#[o',(hs.2 b (zn (ww (u8 e) I.ok.above))).trans e1]
  ·by_cases hj:j=i
   ·subst hj;rw[hi]at e1;cases e1;rw[Sc QK]at e2;cases e2;show#[u,r,.inl #[hk,()]]
   ·rw[Re (ss hj)]at e2;let⟨u',r',q⟩:=hl j y v' e1 e2 e3;show#[u',r',?_];rcases q with ⟨k,e⟩ | ⟨k,c,e,z⟩
    ·show .inl #[k,?_];have:y≠x:=fun e=>hj (Mp hN e1 (e ▸ hi));simp[this,e]
    ·show .inr #[k,c,e,z.sameBut hs (qc y c e)]
  ·let⟨w',z⟩:=I.cell y c e;show#[w',z.sameBut hs (qc y c e)]
  ·let⟨e,n,ne,nf,d⟩:=I.pin p hp;show#[(hs.2 p.1 ne).trans e,n,ne,nf,d]
 ·have GD:X.fn x=true:=by
   rcases hf with z | z
   ·show z
   ·rw[z]at hk;cases hk
  let⟨c,hc⟩:=I.ok.has x (.inl hk);let⟨w',z⟩:=I.cell x c hc;show wpAny_storeName_cell I.ok.kind hk hc z (fun h' hc' hs=>?_);let⟨oc,Pq,hocd⟩:=id z;show h { s with heap:=h' } #[I.ok,I.os,I.bare,#[fun b o e n hb hx=>?_,fun b o e n hb hx=>?_,I.base.free,fun b o e hx=>?_,I.base.il,I.base.g8,I.base.ij],#[m,hn.sameBut hs (ss (qc x c hc)),fun j y v' e1 e2 e3=>?_],fun y c' e=>?_,I.free,I.gI,fun p hp=>?_,tracked #[oc,Pq,I.gI x c hc] hs,by simpa using I.len] #[c,hs,.inr hc]
  ·show(hs.2 b (zn (ww (u8 e) (I.ok.nO x c GD hc)))).trans (I.base.keep b o e n hb hx)
  ·let⟨sl,e1⟩:=I.base.slot b o e n hb hx;show#[sl,(hs.2 b (zn (ww (u8 e) (I.ok.nO x c GD hc)))).trans e1]
  ·let⟨o',e1⟩:=I.base.there b o e hx;show#[o',(hs.2 b (zn (ww (u8 e) (I.ok.nO x c GD hc)))).trans e1]
  ·by_cases hj:j=i
   ·subst hj;rw[hi]at e1;cases e1;rw[Sc QK]at e2;cases e2;show#[u,r,.inr #[.inl hk,c,hc,hc']]
   ·rw[Re (ss hj)]at e2;let⟨u',r',q⟩:=hl j y v' e1 e2 e3;show#[u',r',?_];rcases q with q | ⟨k,c',e,z'⟩
    ·show .inl q
    ·show .inr #[k,c',e,z'.sameBut hs ?_];rintro rfl;show hj (Mp hN e1 (I.ok.inj _ _ _ e hc ▸ hi))
  ·by_cases zY:c'=c
   ·subst zY;show#[_,hc']
   ·let⟨w2,z2⟩:=I.cell y c' e;show#[w2,z2.sameBut hs zY]
  ·let⟨e,n,ne,nf,d⟩:=I.pin p hp;show#[(hs.2 p.1 ?_).trans e,n,ne,nf,d];intro q;rw[q,Pq]at e;have q':oc=p.2:=Fk e;show d w' (by rw[<- q'];show hocd)
def MV{M:Model}{A:Around}{E:ϊ->ό->Prop}{i:Nat}{x:Str}{v:V}{u:ϊ}{Q:Unit->ό->Prop}(I:Inv X π σ H s)(hN:X.N.Nodup)(hi:X.N[i]?=!x)(hx:Loc X.env.scope x)(r:RelV v u)(h:∀ s',Inv X π (σ.set i (!v)) H s'->Q .unit s')(hf:X.fn x=true\/X.env.scope.names.lookup x=!.local:=by first | show .inl rfl | show .inr rfl | assumption):wpAny M A (storeName X.env x u) Q E s :=
 IK I hN hi hx r (fun s' I' _=>h s' I') hf
def Inv.LV{s':ό}{ch:List ϋ}(I:Inv X π σ H s)(ho:s'.os=s.os)(u:Un (cb X.stack) ch H H' s.heap s'.heap)(aE:cw X.prog X.w H' s'.heap)(hg:AllBare s'.gens)(jc:∀ b∈ch,(b∈X.ex\/X.s₀.heap.objs.size<=b)/\b≠X.env.locals/\(∀ x c,X.env.cells.lookup x=!c->c≠b)/\∀ p∈X.pn++π,p.1≠b):Inv X π σ H' s':=by
 let⟨h',g',d',t',o'⟩:=s';have e:o'=s.os:=ho;subst e;show I.call (g':=g') (t':=t') (d':=d') u aE hg jc
end
abbrev XK:=ϊ->Option ϋ->Hp->Prop
abbrev St:=List (Option V)
abbrev VK:=V->Hp->Prop
abbrev TE:=St->Hp->VK->Prop
abbrev TT:=St->Hp->(Bool->Hp->Prop)->Prop
abbrev TA:=St->Hp->(List V->Hp->Prop)->Prop
structure Ends where
 nx:St->Hp->Prop
 rt:VK
 bk:St->Hp->Prop:=fun _ _=>False
 ct:St->Hp->Prop:=fun _ _=>False
abbrev TS:=Ends->St->Hp->Prop
def  EP(X:Cx)(π:List (ϋ×Obj))(σ:St)(Q:VK)(u:ϊ)(s':ό):Prop:=∃ v H',Inv X π σ H' s'/\RelV v u/\Q v H'
def  TP(X:Cx)(π:List (ϋ×Obj))(σ:St)(Q:Bool->Hp->Prop)(b:Bool)(s':ό):Prop:=∃ H',Inv X π σ H' s'/\Q b H'
def  AP(X:Cx)(π:List (ϋ×Obj))(σ:St)(Q:List V->Hp->Prop)(us:List ϊ)(s':ό):Prop:=∃ vs H',Inv X π σ H' s'/\Vals vs us/\Q vs H'
def  SP(X:Cx)(π:List (ϋ×Obj))(D:Ends)(f:Flow)(s':ό):Prop :=
 match f with
 | .next=>∃ σ' H',Inv X π σ' H' s'/\D.nx σ' H'
 | .brk=>∃ σ' H',Inv X π σ' H' s'/\D.bk σ' H'
 | .cont=>∃ σ' H',Inv X π σ' H' s'/\D.ct σ' H'
 | .ret u=>∃ v σ' H',Inv X π σ' H' s'/\RelV v u/\D.rt v H'
def  PE(X:Cx)(e:Expr)(t:TE):Prop :=
 ∀ (π:List (ϋ×Obj)) (s:ό) (σ:St) (H:Hp) (Q:VK),Inv X π σ H s->t σ H Q->wpAny (model X.prog X.w) X.A (eval e X.env) (EP X π σ Q) X.xe s
def  PT(X:Cx)(e:Expr)(t:TT):Prop :=
 ∀ (π:List (ϋ×Obj)) (s:ό) (σ:St) (H:Hp) (Q:Bool->Hp->Prop),Inv X π σ H s->t σ H Q->wpAny (model X.prog X.w) X.A (isTrue e X.env (eval e X.env)) (TP X π σ Q) X.xe s
def  PW(X:Cx)(e:Expr)(t:TT):Prop :=
 ∀ (whole:Sem ϊ) (π:List (ϋ×Obj)) (s:ό) (σ:St) (H:Hp) (Q:Bool->Hp->Prop),Inv X π σ H s->t σ H Q->wpAny (model X.prog X.w) X.A (isTrue e X.env whole) (TP X π σ Q) X.xe s
def PW.pt{X:Cx}{e:Expr}{t:TT}(h:PW X e t):PT X e t:=h _
def  PA(X:Cx)(es:List Expr)(t:TA):Prop :=
 ∀ (pos:Pos) (π:List (ϋ×Obj)) (s:ό) (σ:St) (H:Hp) (Q:List V->Hp->Prop),Inv X π σ H s->t σ H Q->wpAny (model X.prog X.w) X.A (spliced (backTo pos (starEach es X.env))) (AP X π σ Q) X.xe s
def  PS(X:Cx)(st:Stmt)(t:TS):Prop :=
 ∀ (π:List (ϋ×Obj)) (s:ό) (σ:St) (H:Hp) (D:Ends),Inv X π σ H s->t D σ H->wpAny (model X.prog X.w) X.A (exec st X.env) (SP X π D) X.xe s
def  eA(X:Cx)(st:List Stmt)(t:TS):Prop :=
 ∀ (π:List (ϋ×Obj)) (s:ό) (σ:St) (H:Hp) (D:Ends),Inv X π σ H s->t D σ H->wpAny (model X.prog X.w) X.A (execs st X.env) (SP X π D) X.xe s
def aH{α:Type}{t:Sem α}{Q Q':α->ό->Prop}{M:Model}{A:Around}{E:ϊ->ό->Prop}{s:ό}(h:wpAny M A t Q E s)(hQ:∀ a s,Q a s->Q' a s):wpAny M A t Q' E s:=Op h hQ fun _ _ x=>x
section
variable {X:Cx}
def  Kk(i:Nat):TE:=fun σ H Q=>∃ v,σ[i]?=!(!v)/\Q v H
def  tC(v:V):TE:=fun _ H Q=>Q v H
def MK{i:Nat}{x:Str}{pos:Pos}(hN:X.N[i]?=!x)(hv:vM X.env.scope x)(hd:(x == ("__debug__":Str))=false:=by decide)(dQ:(x == ("__classdict__":Str))=false:=by decide):PE X (.Name x pos) (Kk i):=by
 intro π s σ H Q I h;let⟨v,e,h⟩:=h;let⟨m,hn,hl⟩:=I.loc;let⟨u,r,l⟩:=hl i x v hN e hv;have fin:EP X π σ Q u s:=#[v,H,I,r,h];rcases l with ⟨hk,hm⟩ | ⟨hk,c,hc,PM⟩
 ·show wpAny_Name (wpAny_loadName_local I.ok.kind hk hn hm fin) hd
 ·rcases hk with hk | hk
  ·show wpAny_Name (wpAny_loadName_cell I.ok.kind hk hc PM fin) hd
  ·show wpAny_Name (wpAny_loadName_free I.ok.kind hk hc PM fin dQ) hd
def Yu{i j pos}:PE X (.Constant (.int i) j pos) (tC (.int i)):=fun _ _ _ H _ I h=>wpAny_Constant_int #[.int i,H,I.tok _,#[_,rfl],h]
def aa6{b j pos}:PE X (.Constant (.bool b) j pos) (tC (.bl b)):=fun _ _ _ H _ I h=>Constant_bool #[.bl b,H,I,rfl,h]
def RK{j pos}:PE X (.Constant .none j pos) (tC .aw):=fun _ _ _ H _ I h=>Constant_none #[.aw,H,I,rfl,h]
def XJ{x j pos}:PE X (.Constant (.str x) j pos) (tC (.str x)):=fun _ _ _ H _ I h=>Calls.Constant_str #[.str x,H,I.tok _,#[_,rfl],h]
def  Gl(X:Cx)(x:Str):Prop:=X.env.kindOf x=!.globalImplicit
def mz{E:ϊ->ό->Prop}{π:List (ϋ×Obj)}{s:ό}{σ:St}{H:Hp}{x:Str}{u:ϊ}{pos:Pos}{Q:ϊ->ό->Prop}(I:Inv X π σ H s)(hg:Gl X x)(hm:X.mg x=!u)(h:Q u s)(hd:(x == ("__debug__":Str))=false:=by decide):wpAny (model X.prog X.w) X.A (eval (.Name x pos) X.env) Q E s :=
 Calls.Name_function_global I.ok.kind hg (Calls.loadGlobal_global (by rw[I.ok.glob];show I.mod.glob.keeps I.bk) hm h) hd
def qh{E:ϊ->ό->Prop}{π:List (ϋ×Obj)}{s:ό}{σ:St}{H:Hp}{x:Str}{u:ϊ}{pos:Pos}{Q:ϊ->ό->Prop}(I:Inv X π σ H s)(hg:Gl X x)(hm:X.mg x=none)(hv:bootBuiltins x=!u)(h:Q u s)(hn:x ≠ "__name__" := by decide)(hd:(x == ("__debug__":Str))=false:=by decide):wpAny (model X.prog X.w) X.A (eval (.Name x pos) X.env) Q E s:=by
 let⟨mb,h1,h2⟩:=I.mod.blt;show Calls.Name_function_global I.ok.kind hg (Calls.loadGlobal_builtin (by rw[I.ok.glob];show I.mod.glob.keeps I.bk) hm (by rw[I.ok.blt];show h1.keeps I.bk) ((h2 x hn).trans hv) h) hd
def VF{x:Str}{v:V}{u:ϊ}{pos:Pos}(hg:Gl X x)(hm:X.mg x=!u)(r:RelV v u)(hd:(x == ("__debug__":Str))=false:=by decide):PE X (.Name x pos) (tC v) :=
 fun _ _ _ H _ I h=>mz I hg hm #[v,H,I,r,h] hd
def UM{x:Str}{v:V}{u:ϊ}{pos:Pos}(hg:Gl X x)(hm:X.mg x=none)(hv:bootBuiltins x=!u)(r:RelV v u)(hn:x ≠ "__name__" := by decide)(hd:(x == ("__debug__":Str))=false:=by decide):PE X (.Name x pos) (tC v) :=
 fun _ _ _ H _ I h=>qh I hg hm hv #[v,H,I,r,h] hn hd
def  t2I(ta tb:TE)(k:Int->Int->Hp->Prop):St->Hp->Prop:=fun σ H=>ta σ H fun x H1=>tb σ H1 fun y H2=>∃ i j,x=.int i/\y=.int j/\k i j H2
variable {a b:Expr}{ta tb:TE}{pos:Pos}
def  PC(X:Cx)(op:CmpOp)(a b:Expr)(t:TE):Prop :=
 ∀ (π:List (ϋ×Obj)) (s:ό) (σ:St) (H:Hp) (Q:VK),Inv X π σ H s->t σ H Q ->
  wpAny (model X.prog X.w) X.A (eval a X.env) (fun v s₁=>wpAny (model X.prog X.w) X.A (eval b X.env) (fun u s₂=>wpAny (model X.prog X.w) X.A (compareOp op v u) (EP X π σ Q) X.xe s₂) X.xe s₁) X.xe s
def xN(b:Expr){op:CmpOp}(h:op≠.In)(h2:op≠.NotIn):behindInMarks op b=false:=by
 have e1:(op == CmpOp.In)=false:=by cases op <;> first | rfl | show absurd rfl h
 have e2:(op == CmpOp.NotIn)=false:=by cases op <;> first | rfl | show absurd rfl h2
 cases b <;> simp[behindInMarks,e1,e2]
def  qZ(p:Int->Int->Bool)(ta tb:TE):TE:=fun σ H Q=>t2I ta tb (fun i j H2=>Q (.bl (p i j)) H2) σ H
abbrev tLt:TE->TE->TE:=qZ fun i j=>decide (i < j)
abbrev tLe:TE->TE->TE:=qZ fun i j=>decide (i<=j)
abbrev tGt:TE->TE->TE:=qZ fun i j=>decide (j < i)
abbrev tGe:TE->TE->TE:=qZ fun i j=>decide (j<=i)
abbrev adQ:TE->TE->TE:=qZ fun i j=>decide (i=j)
abbrev adZ:TE->TE->TE:=qZ fun i j=>Bool.not (decide (i=j))
def  XB(ta:TE):TE:=fun σ H Q=>ta σ H fun x H1=>Q (.bl (decide (x=.aw))) H1
def  tB(t:TE):TT:=fun σ H Q=>t σ H fun x H1=>∃ c,x=.bl c/\Q c H1
variable {tA tB':TT}{rest:List Expr}
def  Fj(t u:TT):TT:=fun σ H Q=>t σ H fun c H1=>if c=true then u σ H1 Q else Q false H1
def  DO(t u:TT):TT:=fun σ H Q=>t σ H fun c H1=>if c=true then Q true H1 else u σ H1 Q
def  DB(t:TT):TT:=fun σ H Q=>t σ H fun c H1=>Q (Bool.not c) H1
def aaB(ha:PT X a tA):PW X (.BoolOp .And [a] pos) tA:=by
 intro wh π s σ H Q I h;show isTrue_and (aH (ha π s σ H Q I h) fun c s1 e=>?_);cases c with
 | true=>show isTrue_and_nil e
 | false=>show e
def UY(ha:PT X a tA):PW X (.BoolOp .Or [a] pos) tA:=by
 intro wh π s σ H Q I h;show isTrue_or (aH (ha π s σ H Q I h) fun c s1 e=>?_);cases c with
 | false=>show isTrue_or_nil e
 | true=>show e
def T1(ha:PT X a tA)(hb:PW X (.BoolOp .And (b::rest) pos) tB'):PW X (.BoolOp .And (a::b::rest) pos) (Fj tA tB'):=by
 intro wh π s σ H Q I h;show isTrue_and (aH (ha π s σ H _ I h) fun c s1 #[H1,I1,q1]=>?_);cases c with
 | true=>show hb wh π s1 σ H1 Q I1 q1
 | false=>show#[H1,I1,q1]
def WS(ha:PT X a tA)(hb:PW X (.BoolOp .Or (b::rest) pos) tB'):PW X (.BoolOp .Or (a::b::rest) pos) (DO tA tB'):=by
 intro wh π s σ H Q I h;show isTrue_or (aH (ha π s σ H _ I h) fun c s1 #[H1,I1,q1]=>?_);cases c with
 | true=>show#[H1,I1,q1]
 | false=>show hb wh π s1 σ H1 Q I1 q1
def Wv(ha:PT X a tA):PT X (.UnaryOp .Not a pos) (DB tA):=by
 intro π s σ H Q I h;show isTrue_not (ha π s σ H (fun c H1=>Q (Bool.not c) H1) I h)
def Sx{op}{t:TE}(h:PE X a t):PE X (.BoolOp op [a] pos) t:=fun π s σ H Q I hw=>BoolOp_one (h π s σ H Q I hw)
def  EF(t:TT)(ta tb:TE):TE:=fun σ H Q=>t σ H fun c H1=>if c=true then ta σ H1 Q else tb σ H1 Q
def Zu{c:Expr}(hc:PT X c tA)(ha:PE X a ta)(hb:PE X b tb):PE X (.IfExp c a b pos) (EF tA ta tb):=by
 intro π s σ H Q I h;show wpAny_IfExp (aH (hc π s σ H _ I h) fun d s1 #[H1,I1,q1]=>?_);cases d with
 | true=>show ha π s1 σ H1 Q I1 q1
 | false=>show hb π s1 σ H1 Q I1 q1
end
def  aC(K:ν)(H:Hp)(a:ϋ)(xs:List V):Prop :=
 Rd H a (.lst xs) \/
  ∃ (o:Obj) (au:Array ϊ) (n:Nat),K.lookup a=!o/\o.cls=.type "list" /\ o.dict=none/\o.data=.seq au n/\au.size<=sizeLine/\Vals xs au.toList
def  bK(K:ν)(H:Hp)(a:ϋ)(xs:List V):Prop :=
 Rd H a (.tup xs) \/
  ∃ (o:Obj) (au:Array ϊ) (n:Nat),K.lookup a=!o/\o.cls=.type "tuple" /\ o.data=.seq au n/\au.size<=sizeLine/\Vals xs au.toList
def  TJ:ϊ->Option V
 | .none=>!.aw
 | .bool b=>!.bl b
 | .int i _=>!.int i
 | .str x _=>!.str x
 | .bytes b _=>!.byt b
 | .float b _=>!.qa b
 | .ref a=>!-a
 | .type n=>!.ty n
 | _=>none
def RelV.abs{x:V}{u:ϊ}(r:RelV x u):TJ u=!x:=by
 cases x with
 | aw=>cases r;rfl
 | bl _=>cases r;rfl
 | int _=>let⟨t,rfl⟩:=r;rfl
 | str _=>let⟨t,rfl⟩:=r;rfl
 | byt _=>let⟨t,rfl⟩:=r;rfl
 | qa _=>let⟨t,rfl⟩:=r;rfl
 | ref _=>cases r;rfl
 | ty _=>cases r;rfl
def RelV.inj{x y:V}{u:ϊ}(r:RelV x u)(q:RelV y u):x=y:=Fk (r.abs.symm.trans q.abs)
def Vals.inj:∀ {xs ys:List V}{us:List ϊ},Vals xs us->Vals ys us->xs=ys
 | _,_,_,.nil,.nil=>rfl
 | _,_,_,.cons r t,.cons r' t'=>by rw[r.inj r',Vals.inj t t']
section
variable {X:Cx}{π:List (ϋ×Obj)}{σ:St}{H:Hp}{s:ό}{a:ϋ}{xs ys:List V}
def aC.of{K:ν}(h:H a=!.lst xs):aC K H a xs:=.inl (.inl h)
def bK.of{K:ν}(h:H a=!.tup xs):bK K H a xs:=.inl (.inl h)
def Inv.list(I:Inv X π σ H s)(h:aC X.K H a xs):∃ au:List ϊ,Vals xs au/\PlainL s.heap a au.toArray/\xs.length<=sizeLine:=by
 rcases h with h | ⟨o,au,n,hk,hc,hd,hs,hz,r⟩
 ·let⟨z,au,n,r,e⟩:=h.ok I.aE;show#[au,r,#[_,n,e,rfl,rfl,rfl],z]
 ·show#[au.toList,r,#[o,n,I.cq a o hk,hc,hd,by simpa using hs],?_];have e:=r.length;simp only[Tm]at e;omega
def Inv.tuple(I:Inv X π σ H s)(h:bK X.K H a xs):∃ au:List ϊ,Vals xs au/\IsTup s.heap a au.toArray/\xs.length<=sizeLine:=by
 rcases h with h | ⟨o,au,n,hk,hc,hs,hz,r⟩
 ·let⟨z,au,r,p⟩:=h.ok I.aE;show#[au,r,p.t,z]
 ·show#[au.toList,r,#[o,I.cq a o hk,hc,n,by simpa using hs],?_];have e:=r.length;simp only[Tm]at e;omega
def Inv.VC(I:Inv X π σ H s)(h:aC X.K H a xs)(h':aC X.K H a ys):xs=ys:=by
 let⟨au,r,⟨o,n,e,_,_,d⟩,_⟩:=I.list h;let⟨its',r',⟨o',n',e',_,_,d'⟩,_⟩:=I.list h';rw[e]at e';cases e';rw[d]at d';injection d' with d1 _;have:au=its':=by simpa using GE Array.toList d1
 subst this;show r.inj r'
end
abbrev Cx.fU(X:Cx)(E:ϊ->ό->Prop):Cx:={ X with xe:=E }
abbrev Cx.si(X:Cx):Cx:=X.fU fun _ _=>False
def Cx.Ok.fU{X:Cx}(ok:X.Ok)(E:ϊ->ό->Prop):(X.fU E).Ok :=
 #[ok.mod,ok.kind,ok.glob,ok.blt,ok.above,ok.inj,ok.has,ok.nO,ok.hd,ok.frames,ok.dk,ok.vf,ok.bs,ok.jw,ok.nz,ok.nX,ok.gN,ok.kq]
def Cx.Ok.nA{X:Cx}{E:ϊ->ό->Prop}(ok:(X.fU E).Ok):X.Ok :=
 #[ok.mod,ok.kind,ok.glob,ok.blt,ok.above,ok.inj,ok.has,ok.nO,ok.hd,ok.frames,ok.dk,ok.vf,ok.bs,ok.jw,ok.nz,ok.nX,ok.gN,ok.kq]
section
variable {X:Cx}{π:List (ϋ×Obj)}{σ:St}{H:Hp}{s:ό}{E:ϊ->ό->Prop}
def Inv.fU(I:Inv X π σ H s)(E:ϊ->ό->Prop):Inv (X.fU E) π σ H s:=#[I.ok.fU E,I.os,I.bare,I.base,I.loc,I.cell,I.free,I.gI,I.pin,I.aE,I.len]
def Inv.nA(I:Inv (X.fU E) π σ H s):Inv X π σ H s:=#[I.ok.nA,I.os,I.bare,I.base,I.loc,I.cell,I.free,I.gI,I.pin,I.aE,I.len]
def SP.nA{D:Ends}{f:Flow}{s':ό}(h:SP (X.fU E) π D f s'):SP X π D f s':=by
 cases f with
 | next=>let⟨σ',H',I,q⟩:=h;show#[σ',H',I.nA,q]
 | brk=>let⟨σ',H',I,q⟩:=h;show#[σ',H',I.nA,q]
 | cont=>let⟨σ',H',I,q⟩:=h;show#[σ',H',I.nA,q]
 | ret u=>let⟨v,σ',H',I,r,q⟩:=h;show#[v,σ',H',I.nA,r,q]
def eA.si{st:List Stmt}{t:TS}(h:eA X.si st t):eA X st t:=fun π s σ H D I hw =>
 Op (h π s σ H D (I.fU _) hw) (fun _ _ q=>q.nA) fun _ _ z=>False.elim z
end
section
variable {X:Cx}{st:Stmt}{rest:List Stmt}{t u:TS}{e:Expr}{te:TE}{pos:Pos}
def  FK:TS:=fun D σ H=>D.nx σ H
def  Y5(t u:TS):TS:=fun D σ H=>t { D with nx:=u D } σ H
def Ur:eA X [] FK:=fun _ _ σ H _ I h=>_L #[σ,H,I,h]
def TX(h1:PS X st t)(h2:eA X rest u):eA X (st::rest) (Y5 t u):=by
 intro π s σ H D I h;show wpAny_execs_cons (aH (h1 π s σ H { D with nx:=u D } I h) fun f s1 q=>?_);cases f with
 | next =>
  let⟨σ',H',I',q⟩:=q;show h2 π s1 σ' H' D I' q
 | ret v=>show q
 | brk=>show q
 | cont=>show q
def Z5(h1:PS X st t):eA X [st] t:=by
 intro π s σ H D I h;show wpAny_execs_cons (aH (h1 π s σ H D I h) fun f s1 q=>?_);cases f with
 | next=>show _L q
 | ret v=>show q
 | brk=>show q
 | cont=>show q
def Inv.quiet{π:List (ϋ×Obj)}{σ:St}{H:Hp}{s:ό}(I:Inv X π σ H s):interactive X.env=false:=by simp[interactive,I.ok.kind]
def  Ft(te:TE):TS:=fun D σ H=>te σ H fun _ H1=>D.nx σ H1
def UJ(he:PE X e te)(hs:‹swapsWith e none pos.line X.env=pure false›):PS X (.Expr e pos) (Ft te):=by
 intro π s σ H D I h;show wpAny_Expr_any (aH (he π s σ H _ I h) fun v s1 #[x,H1,I1,r1,q1]=>#[σ,H1,I1,q1]) I.quiet hs
def  Cm(te:TE):TS:=fun D σ H=>te σ H D.rt
def QX(he:PE X e te):PS X (.Return (!e) pos) (Cm te):=by
 intro π s σ H D I h;show wpAny_Return_some (aH (he π s σ H _ I h) fun v s1 #[x,H1,I1,r1,q1]=>#[x,σ,H1,I1,r1,q1])
def  Ca:TS:=fun D _ H=>D.rt .aw H
def adv:PS X (.Return none pos) Ca:=fun _ _ σ H _ I h=>wpAny_Return_none #[.aw,σ,H,I,rfl,h]
def  vG(c:TT)(t u:TS):TS:=fun D σ H=>c σ H fun b H1=>if b=true then t D σ H1 else u D σ H1
def UE{c:Expr}{a b:List Stmt}{tc:TT}(hc:PT X c tc)(ha:eA X a t)(hb:eA X b u):PS X (.If c a b pos) (vG tc t u):=by
 intro π s σ H D I h;show wpAny_If (aH (hc π s σ H _ I h) fun d s1 #[H1,I1,q1]=>?_);cases d with
 | true=>show ha π s1 σ H1 D I1 q1
 | false=>show hb π s1 σ H1 D I1 q1
def  DX:TS:=fun _ _ _=>False
def aaM:PS X st DX:=fun _ _ _ _ _ _ h=>h.elim
end
abbrev TG:=V->St->Hp->(St->Hp->Prop)->Prop
abbrev kz:=List V->St->Hp->(St->Hp->Prop)->Prop
def  PG(X:Cx)(target:Expr)(t:TG):Prop :=
 ∀ (π:List (ϋ×Obj)) (s:ό) (σ:St) (H:Hp) (v:V) (u:ϊ) (Q:St->Hp->Prop),Inv X π σ H s->RelV v u->t v σ H Q ->
  wpAny (model X.prog X.w) X.A (assign target X.env u) (fun _ s'=>∃ σ' H',Inv X π σ' H' s'/\Q σ' H') X.xe s
def  wG(X:Cx)(ts:List Expr)(t:kz):Prop :=
 ∀ (π:List (ϋ×Obj)) (s:ό) (σ:St) (H:Hp) (vs:List V) (us:List ϊ) (Q:St->Hp->Prop),Inv X π σ H s->Vals vs us->t vs σ H Q ->
  wpAny (model X.prog X.w) X.A (assignInOrder ((assignEach ts X.env).map (·.2)) us) (fun _ s'=>∃ σ' H',Inv X π σ' H' s'/\Q σ' H') X.xe s
abbrev wF:=V->V->V->Hp->(Hp->Prop)->Prop
def  zc(X:Cx)(t:wF):Prop :=
 ∀ (π:List (ϋ×Obj)) (s:ό) (σ:St) (H:Hp) (o i v:V) (ov iv u:ϊ) (Q:Hp->Prop),Inv X π σ H s->RelV o ov->RelV i iv->RelV v u->t o i v H Q ->
  wpAny (model X.prog X.w) X.A (setItem ov iv u) (fun _ s'=>∃ H',Inv X π σ H' s'/\Q H') X.xe s
abbrev TIp:=V->V->Hp->VK->Prop
section
variable {X:Cx}{pos:Pos}
def  fO(i:Nat):TG:=fun v σ H Q=>Q (σ.set i (!v)) H
def ZM{i:Nat}{x:Str}(hN:X.N.Nodup)(hi:X.N[i]?=!x)(hx:Loc X.env.scope x)(hf:X.fn x=true\/X.env.scope.names.lookup x=!.local:=by first | show .inl rfl | show .inr rfl | assumption):PG X (.Name x pos) (fO i):=by
 intro π s σ H v u Q I r h;show wpAny_assign_Name (MV I hN hi hx r (fun s' I'=>#[_,H,I',h]) hf)
def  Dj:kz:=fun vs σ H Q=>vs=[]/\Q σ H
def  Fw(t:TG)(u:kz):kz:=fun vs σ H Q=>∃ v r,vs=v::r/\t v σ H fun σ' H'=>u r σ' H' Q
def Vs:wG X [] Dj:=by
 intro π s σ H vs us Q I r h;let⟨e,h⟩:=h;subst e;cases r;show assignInOrder_nil #[σ,H,I,h]
def abc{e:Expr}{es:List Expr}{t:TG}{u:kz}(h1:PG X e t)(h2:wG X es u)(hs:‹(assignEach (e::es) X.env).map (·.2)=assign e X.env::(assignEach es X.env).map (·.2)›):wG X (e::es) (Fw t u):=by
 intro π s σ H vs us Q I r h;let⟨v,vr,e1,h⟩:=h;subst e1;cases r with
 | cons r rr =>
  rw[hs];show assignInOrder_cons (aH (h1 π s σ H _ _ _ I r h) fun _ s1 #[σ1,H1,I1,q1]=>?_);show h2 π s1 σ1 H1 _ _ Q I1 rr q1
def  B8(K:ν)(n:Nat)(t:kz):TG:=fun v σ H Q=>∃ a xs,v=-a/\bK K H a xs/\xs.length=n/\t xs σ H Q
def SE{es:List Expr}{k:Nat}{t:kz}{n:Nat}(hc:X.calm=true)(h:wG X es t)(hn:‹(assignEach es X.env).length=n›)(aR:‹(assignEach es X.env).findIdx? (·.1)=none›):PG X (.Tuple es k pos) (B8 X.K n t):=by
 intro π s σ H v u Q I r hw;let⟨a,xs,e1,hq,hl,hw⟩:=hw;subst e1;cases r;let⟨au,rv,ht,hz⟩:=I.tuple hq;show assign_Tuple_tuple (I.ok.hd hc) ht (by simp[hn,<- hl,rv.length]) aR fun h' hx=>?_;have I1:Inv X π σ H { s with heap:=h' }:=I.kept (t':=s.toks) fun b o e=>hx b o (zn (u8 e)) e;show h π _ σ H xs _ Q I1 (by simpa using rv) hw
def  EE(to ti:TE)(t:wF):TG:=fun v σ H Q=>to σ H fun o H1=>ti σ H1 fun i H2=>t o i v H2 fun H3=>Q σ H3
def YN{o i:Expr}{to ti:TE}{t:wF}(ho:PE X o to)(hi:PE X i ti)(hs:zc X t)(ha:∀ v,assign (.Subscript o i pos) X.env v=(do
   let ov <- holding [v] (eval o X.env)
   let iv <- holding [v,ov] (eval i X.env)
   standAt pos
   holding [v,ov,iv] (setItem ov iv v)
   release [v,ov,iv] []):=by intro _;rfl):PG X (.Subscript o i pos) (EE to ti t):=by
 intro π s σ H v u Q I r h;rw[ha];show jp (NE (aH (ho π s σ H _ I h) fun ov s1 #[x,H1,I1,r1,q1]=>?_));show jp (NE (aH (hi π s1 σ H1 _ I1 q1) fun iv s2 #[y,H2,I2,r2,q2]=>?_));show jp (_K (jp (NE (aH (hs π s2 σ H2 x y v ov iv u _ I2 r1 r2 r q2) fun _ s3 #[H3,I3,q3]=>?_))));show wpAny_release #[σ,H3,I3,q3]
def  kP(te:TE)(g:TG):TS:=fun D σ H=>te σ H fun x H1=>g x σ H1 D.nx
def Rj{tg e:Expr}{te:TE}{g:TG}(he:PE X e te)(hg:PG X tg g)(hs:‹swapsWithSole [tg] e pos.line X.env=pure false›)(hw:‹swappedStores [tg] e X.env=pure none›)(h1:‹(assignEach [tg] X.env).map (·.2)=[assign tg X.env]›):PS X (.Assign [tg] e pos) (kP te g):=by
 intro π s σ H D I h;show wpAny_Assign_stores (aH (he π s σ H _ I h) fun v s1 #[x,H1,I1,r1,q1]=>?_) hs hw;rw[h1];show aH (hg π s1 σ H1 x v _ I1 r1 q1) fun _ s2 q=>q
def acO{i:Nat}{x:Str}{e:Expr}{te:TE}{pos':Pos}(hN:X.N.Nodup)(hi:X.N[i]?=!x)(hx:Loc X.env.scope x)(he:PE X e te)(hs:‹swapsWith e (!.Name x pos') pos.line X.env=pure false›)(hf:X.fn x=true\/X.env.scope.names.lookup x=!.local:=by first | show .inl rfl | show .inr rfl | assumption) :
  PS X (.Assign [.Name x pos'] e pos) (kP te (fO i)):=by
 intro π s σ H D I h;show wpAny_Assign_Name (aH (he π s σ H _ I h) fun v s1 #[y,H1,I1,r1,q1]=>?_) hs;show MV I1 hN hi hx r1 (fun s2 I2=>#[_,H1,I2,q1]) hf
end
section
variable {X:Cx}{pos:Pos}
def  Kn(c:TT)(tb:TS):TS:=fun D σ H=>∃ W:Nat->St->Hp->Prop,(∃ m,W m σ H)/\∀ m σ H,W m σ H ->
 c σ H fun b H1=>if b=true then ∃ N:St->Hp->Prop,(∀ σ' H',N σ' H'->∃ m',m' < m/\W m' σ' H')/\tb { D with nx:=N,ct:=N,bk:=D.nx } σ H1 else D.nx σ H1
def acr{c:Expr}{body:List Stmt}{tc:TT}{tb:TS}(hp:PassesOwn (model X.prog X.w) X.A X.env X.xe)(hc:PT X c tc)(hb:eA X body tb):PS X (.While c body [] pos) (Kn tc tb):=by
 intro π s σ H D I h;let⟨W,⟨m0,w0⟩,turn⟩:=h;show wpAny_While (codeAny_whileLoop (fun n s'=>∃ σ' H',Inv X π σ' H' s'/\W n σ' H') ?_ m0 #[σ,H,I,w0]);rintro n s1 ⟨σ1,H1,I1,w1⟩;show _f hp (aH (hc π s1 σ1 H1 _ I1 (turn n σ1 H1 w1)) fun b s2 #[H2,I2,q2]=>?_);cases b with
 | true =>
  let⟨N,hN,q2⟩:=q2;rw[wl rfl];show _f hp (aH (hb π s2 σ1 H2 _ I2 q2) fun f s3 q3=>?_);cases f with
  | next =>
   let⟨σ3,H3,I3,n3⟩:=q3;let⟨m',hm,w3⟩:=hN σ3 H3 n3;show#[m',hm,σ3,H3,I3,w3]
  | cont =>
   let⟨σ3,H3,I3,n3⟩:=q3;let⟨m',hm,w3⟩:=hN σ3 H3 n3;show#[m',hm,σ3,H3,I3,w3]
  | brk=>show q3
  | ret v=>show q3
 | false =>
  rw[wf wE];show _L #[σ1,H2,I2,q2]
end
structure It where
 go:Nat->Hp->Prop
 lY:Nat->Hp->V->Hp->Prop
 stop:Nat->Hp->Prop
def  kK(X:Cx)(π:List (ϋ×Obj))(H:Hp)(b:ϋ):Prop :=
 H b=none/\b≠X.env.locals/\b ∉ X.fs/\(b∈X.ex\/X.s₀.heap.objs.size<=b)/\(∀ x c,X.env.cells.lookup x=!c->c≠b)/\∀ p∈X.pn++π,p.1≠b
def Inv.CV{X:Cx}{π:List (ϋ×Obj)}{σ:St}{H H':Hp}{s:ό}{b:ϋ}(I:Inv X π σ H s)(hb:s.heap.objs.size<=b)(hn:H' b=none):kK X π H' b:=by
 show#[hn,Jan (ww I.lt hb),I.HN hb,.inr (ut I.sz hb),fun x c e z=>?_,fun p hp z=>?_]
 ·let⟨v,q⟩:=I.cell x c e;show absurd (ww q.lt (by rw[z];show hb)) (KB _)
 ·show absurd (ww (u8 (I.pin p hp).1) (by rw[z];show hb)) (KB _)
structure Turn(P:ύ)(w:World)(K:ν)(tg:Expr)(J:It)(fp:List ϋ)(it:ϋ)(tn:Nat->Heap->Prop):Prop where
 mem:it∈fp
 obj:∀ i h,tn i h->∀ b∈fp,∃ o,h.get? b=!o/\∀ v,o.data≠.cell v
 keep:∀ i h h',tn i h->(∀ b∈fp,∀ o,h.get? b=!o->h'.get? b=!o)->tn i h'
 item:∀ (X:Cx),X.prog=P->X.w=w->X.K=K->X.calm=true->∀ (i:Nat) (π:List (ϋ×Obj)) (s:ό) (σ:St) (H:Hp) (E:ϊ->ό->Prop),Inv X π σ H s->(∀ b∈fp,kK X π H b)->tn i s.heap->J.go i H ->
  wpAny (model P w) X.A (pyNext (-it)) (fun r s1=>∃ u,r=!u /\
   wpAny (model P w) X.A (letOwnedTupleGo tg (-it) u) (fun _ s2=>∃ x H',Inv X π σ H' s2/\RelV x u/\J.lY i H x H'/\tn (i+1) s2.heap/\∀ b∈fp,H' b=none) E s1) E s
 done:∀ (X:Cx),X.prog=P->X.w=w->X.K=K->X.calm=true->∀ (i:Nat) (π:List (ϋ×Obj)) (s:ό) (σ:St) (H:Hp) (E:ϊ->ό->Prop),Inv X π σ H s->(∀ b∈fp,kK X π H b)->tn i s.heap->J.stop i H ->
  wpAny (model P w) X.A (pyNext (-it)) (fun r s1=>r=none/\Inv X π σ H s1) E s
 self:∀ (A:Around) (i:Nat) (s:ό) (Q:ϊ->ό->Prop) (E:ϊ->ό->Prop),tn i s.heap->Q (-it) s->wpAny (model P w) A (pyIter (-it)) Q E s
abbrev TI:=St->Hp->(It->Hp->Prop)->Prop
def  Lq(X:Cx)(π:List (ϋ×Obj))(σ:St)(tg:Expr)(R:It->Hp->Prop)(GS:ϊ)(s2:ό):Prop :=
 ∃ (it:ϋ) (fp:List ϋ) (tn:Nat->Heap->Prop) (J:It) (H':Hp),GS=-it/\Inv X π σ H' s2/\Turn X.prog X.w X.K tg J fp it tn/\tn 0 s2.heap/\(∀ b∈fp,kK X π H' b)/\R J H'
def  PI(X:Cx)(tg iter:Expr)(wi:TI):Prop :=
 ∀ (π:List (ϋ×Obj)) (s:ό) (σ:St) (H:Hp) (R:It->Hp->Prop),Inv X π σ H s->wi σ H R ->
  wpAny (model X.prog X.w) X.A (eval iter X.env) (fun v s1=>wpAny (model X.prog X.w) X.A (pyIter v) (Lq X π σ tg R) X.xe s1) X.xe s
def Ds{M:Model}{A:Around}{E:ϊ->ό->Prop}{s:ό}{tg:Expr}{it:ϋ}{u:ϊ}{o:Obj}{n:String}{vs:Array ϊ}{Q:Unit->ό->Prop}(ho:s.heap.get? it=!o)(hc:o.cls=.type n)(hd:o.data=.fields vs)(hn:["enumerate","zip","dict_itemiterator","dict_reverseitemiterator","odict_iterator","itertools.zip_longest","itertools.pairwise"].contains n=false)(hQ:Q .unit s):wpAny M A (letOwnedTupleGo tg (-it) u) Q E s:=by
 unfold letOwnedTupleGo;cases tg <;> first
  | show tz hQ
  | (cases u <;> first
    | show tz hQ
    | (show jp (wpAny_load ho ?_)
       rw[hc,hd];change wpAny M A (if (["enumerate","zip","dict_itemiterator","dict_reverseitemiterator","odict_iterator","itertools.zip_longest","itertools.pairwise"].contains n && vs[0]? == !rawInt _)=true then _ else _) Q E s;rw[wf (by intro h;rw[hn,Jaq]at h;cases h)];show tz hQ))
def  jV(K:ν)(a:ϋ):It :=
 #[fun i H=>∃ xs x,aC K H a xs/\xs[i]?=!x,fun i H x H'=>H'=H/\∀ xs,aC K H a xs->xs[i]?=!x,fun i H=>∃ xs,aC K H a xs/\xs.length<=i]
def  nZ(lo:Int)(n:Nat):It:=#[fun i _=>i < n,fun i H x H'=>H'=H/\x=.int (lo+i),fun i _=>n<=i]
def acK{P:ύ}{w:World}{K:ν}{tg:Expr}(a it:ϋ):Turn P w K tg (jV K a) [it] it (fun i h=>h.IsListIter it a i) where
 mem:=()
 obj:=fun i h st b hb=>by
  have e:b=it:=by simpa using hb
  subst e;let⟨o,e,c,d⟩:=st;show#[o,e,fun v z=>by rw[d]at z;cases z]
 keep:=fun i h h' st k=>st.at fun o e=>k it () o e
 item:=by
  intro X hP hw hK hc i π s σ H E I hf st hg;subst hP hw hK;let⟨xs,x,hq,hx⟩:=hg;let⟨au,rv,p,hz⟩:=I.list hq;let⟨u,hu,ru⟩:=rv.get hx;let⟨f0,f1,f2,f3,f4,f5⟩:=hf it ();show wpAny_pyNext_list_item st p.isList (x:=u) (by simpa using hu) fun h' st' sb=>?_;have I1:Inv X π σ H { s with heap:=h' }:=I.turned (t':=s.toks) (fun b o hb e=>(sb.2 b hb).trans e) f0 f1 f3 f4 f5;let⟨o,e,c,d⟩:=id st';show#[u,rfl,Ds (s:={ s with heap:=h' }) e c d ⋯ #[x,H,I1,ru,#[rfl,fun ys hy=>by rw[I.VC hy hq];show hx],st',fun b hb=>(hf b hb).1]]
 done:=by
  intro X hP hw hK hc i π s σ H E I hf st hg;subst hP hw hK;let⟨xs,hq,hx⟩:=hg;let⟨au,rv,p,hz⟩:=I.list hq;let⟨f0,f1,f2,f3,f4,f5⟩:=hf it ();have hl:=rv.length;show wpAny_pyNext_list_end (I.ok.hd hc) st p.isList (by simp;omega) fun h' eb=>#[rfl,I.turned (t':=s.toks) (fun b o hb e=>eb b o hb e) f0 f1 f3 f4 f5]
 self:=fun _ _ _ _ _ st h=>wpAny_pyIter_listiter st h
def abS{P:ύ}{w:World}{K:ν}{tg:Expr}(it:ϋ)(lo:Int)(n:Nat):Turn P w K tg (nZ lo n) [it] it (fun i h=>IsRangeIter h it (lo+(i:Nat) * 1) ((n:Int) - (i:Nat)) 1) where
 mem:=()
 obj:=fun i h st b hb=>by
  have e:b=it:=by simpa using hb
  subst e;show#[_,st,fun v z=>by
   have z':Data.fields _=Data.cell v:=z;cases z']
 keep:=fun i h h' st k=>k it () _ st
 item:=by
  intro X hP hw hK hc i π s σ H E I hf st hg;subst hP hw hK;let⟨f0,f1,f2,f3,f4,f5⟩:=hf it ();have W:=Walks.range (prog:=X.prog) (w:=X.w) (I.ok.hd hc) it lo 1 n;show W.item i s _ _ hg st fun v h' tk hv st' kk=>?_;let⟨t,rfl⟩:=hv;have I1:Inv X π σ H { s with heap:=h',toks:=tk }:=I.turned (fun b o hb e=>kk b o (by simpa using hb) e) f0 f1 f3 f4 f5;show#[_,rfl,Ds (s:={ s with heap:=h',toks:=tk }) (n := "range_iterator") st' rfl rfl ⋯ #[.int (lo+i),H,I1,#[t,?_],#[rfl,rfl],st',fun b hb=>(hf b hb).1]];rw[Int.mul_one]
 done:=by
  intro X hP hw hK hc i π s σ H E I hf st hg;subst hP hw hK;let⟨f0,f1,f2,f3,f4,f5⟩:=hf it ();show wpAny_pyNext_range_end (I.ok.hd hc) st (by have:n<=i:=hg;omega) fun h' eb=>#[rfl,I.turned (t':=s.toks) (fun b o hb e=>eb b o hb e) f0 f1 f3 f4 f5]
 self:=fun _ _ _ _ _ st h=>wpAny_pyIter_rangeiter st h
section
variable {X:Cx}{tg:Expr}
def  Sa(K:ν)(tl:TE):TI:=fun σ H R=>tl σ H fun x H1=>∃ a,x=-a/\(∃ xs,aC K H1 a xs)/\R (jV K a) H1
def aa8{l:Expr}{tl:TE}(hl:PE X l tl):PI X tg l (Sa X.K tl):=by
 intro π s σ H R I h;show aH (hl π s σ H _ I h) fun v s1 #[x,H1,I1,r1,q1]=>?_;let⟨a,e,⟨xs,hq⟩,q⟩:=q1;subst e;cases r1;let⟨au,rv,p,hz⟩:=I1.list hq;show wpAny_pyIter_list p.isList ?_;show#[s1.heap.objs.size,[s1.heap.objs.size],_,_,H1,rfl,I1.kept (t':=s1.toks) fun b o e=>pp _ e,acK a _,#[_,wn _ rfl,rfl,rfl],fun b hb=>?_,q];have e:b=s1.heap.objs.size:=by simpa using hb
 subst e;show I1.CV (pi _) (I1.aE.fresh (pi _))
def Q0{π:List (ϋ×Obj)}{σ:St}{H:Hp}{s:ό}{R:It->Hp->Prop}{E:ϊ->ό->Prop}{lo hi:Int}{t u v:Tok}{tk:Nat}(I:Inv X π σ H s)(h1:(unop% Neg.neg ((2 ^ 62)))<=lo)(h2:lo < 2 ^ 62)(h3:(unop% Neg.neg ((2 ^ 62)))<=hi)(h4:hi < 2 ^ 62)(q:R (nZ lo (hi - lo).toNat) H):wpAny (model X.prog X.w) X.A (pyIter (-s.heap.objs.size)) (Lq X π σ tg R) E { s with heap:=s.heap.push { cls:=.type "range",data:=.fields (List.toArray [.int lo t,.int hi u,.int 1 v]) },toks:=tk }:=by
 show wpAny_pyIter_range (IsRange.new ..) (small_one h1 h2 h3 h4) ?_;have I1:Inv X π σ H { s with heap:=s.heap.push { cls:=.type "range",data:=.fields (List.toArray [.int lo t,.int hi u,.int 1 v]) },toks:=tk }:=I.kept fun b o e=>pp _ e;show#[(s.heap.push { cls:=.type "range",data:=.fields (List.toArray [.int lo t,.int hi u,.int 1 v]) }).objs.size,[(s.heap.push { cls:=.type "range",data:=.fields (List.toArray [.int lo t,.int hi u,.int 1 v]) }).objs.size],_,_,H,rfl,
  I1.kept (t':=tk) fun b o e=>pp _ e,abS _ lo (hi - lo).toNat,?_,fun b hb=>?_,q]
 ·have e1:lo+((0:Nat):Int) * 1=lo:=()
  have e2:(((hi - lo).toNat:Nat):Int) - ((0:Nat):Int)=Builtin.Range.rangeSize lo hi 1:=by rw[rangeSize_one];split <;> omega
  change IsRangeIter _ _ (lo+((0:Nat):Int) * 1) ((((hi - lo).toNat:Nat):Int) - ((0:Nat):Int)) 1;rw[e1,e2];show wn _ rfl
 ·have e:b=(s.heap.push { cls:=.type "range",data:=.fields (List.toArray [.int lo t,.int hi u,.int 1 v]) }).objs.size:=by simpa using hb
  subst e;show I1.CV (pi _) (I1.aE.fresh (pi _))
def  Zw(ta:TA):TI:=fun σ H R=>ta σ H fun vs H1=>∃ j:Int,vs=[.int j]/\(unop% Neg.neg ((2 ^ 62)))<=j/\j < 2 ^ 62/\R (nZ 0 j.toNat) H1
def S6{a:Expr}{ta:TA}{p pos:Pos}(hg:Gl X "range")(hm:X.mg "range" = none)(ha:PA X [a] ta)(hs:‹starEach [a] X.env=[(false,eval a X.env)]›):PI X tg (.Call (.Name "range" p) [a] [] pos) (Zw ta):=by
 intro π s σ H R I h;show Call_ (qh I hg hm boot_range (WP (aH (ha pos π s σ H _ I h) fun us s1 #[vs,H1,I1,r1,q1]=>?_) hs rfl));let⟨j,e,q1,q2,q⟩:=q1;subst e;cases r1 with
 | cons r rr =>
  cases rr;let⟨t,rfl⟩:=r;show call_range_1 (Q0 I1 ∅ ∅ q1 q2 (by simpa using q))
def  uJ(wi:TI)(g:TG)(tb:TS):TS:=fun D σ H=>wi σ H fun J H1=>∃ W:Nat->Nat->St->Hp->Prop,(∃ m,W 0 m σ H1)/\∀ i m σ H,W i m σ H ->
 (J.stop i H/\D.nx σ H)\/(J.go i H/\∃ N:St->Hp->Prop,(∀ σ' H',N σ' H'->∃ m',m' < m/\W (i+1) m' σ' H')/\∀ x H',J.lY i H x H'->g x σ H' fun σ2 H2=>tb { D with nx:=N,ct:=N,bk:=D.nx } σ2 H2)
def  uI(fp:List ϋ)(h:Heap):List (ϋ×Obj):=fp.filterMap fun b=>(h.get? b).map fun o=>(b,o)
def yX{fp:List ϋ}{h:Heap}{b:ϋ}{o:Obj}(hb:b∈fp)(e:h.get? b=!o):(b,o)∈uI fp h:=_O.mpr #[b,hb,by rw[e];rfl]
def WV{fp:List ϋ}{h:Heap}{p:ϋ×Obj}(hp:p∈uI fp h):p.1∈fp/\h.get? p.1=!p.2:=by
 let⟨b,hb,e⟩:=_O.mp hp;cases q:h.get? b with
 | none=>rw[q]at e;cases e
 | some o =>
  rw[q]at e;have e':(b,o)=p:=Fk e;subst e';show#[hb,q]
def Inv.pinned{π:List (ϋ×Obj)}{σ:St}{H:Hp}{s:ό}{fp:List ϋ}(I:Inv X π σ H s)(hf:∀ b∈fp,kK X π H b)(ho:∀ b∈fp,∃ o,s.heap.get? b=!o/\∀ v,o.data≠.cell v):Inv X (π++uI fp s.heap) σ H s :=
 I.uN fun p hp=>(No.mp hp).elim (fun z=>I.pin p (xL _ z)) fun z=>by
  let⟨hb,e⟩:=WV z;let⟨f0,f1,f2,_⟩:=hf p.1 hb;let⟨o,e',d⟩:=ho p.1 hb;rw[e]at e';cases e';show#[e,f0,f1,f2,d]
def Inv.BB{π pl:List (ϋ×Obj)}{σ:St}{H:Hp}{s:ό}(I:Inv X (π++pl) σ H s):Inv X π σ H s:=I.uN fun p hp=>I.pin p (xL _ (GT _ hp))
def acb{iter:Expr}{body:List Stmt}{wi:TI}{g:TG}{tb:TS}{pos:Pos}(hp:PassesOwn (model X.prog X.w) X.A X.env X.xe)(hc:X.calm=true)(hi:PI X tg iter wi)(hg:PG X tg g)(hb:eA X body tb)(hs:∀ x,foldedSetIterable iter X.env x=pure x:=by intro _;rfl):PS X (.For tg iter body [] pos) (uJ wi g tb):=by
 intro π s σ H D I h;show wpAny_For (aH (hi π s σ H _ I h) fun v s1 h1=>aH h1 fun GS s2 h2=>?_) hs;let⟨it,fp,tn,J,H2,e,I2,T,gd,f2,W,⟨m0,w0⟩,turn⟩:=h2;subst e
 -- what stays true of iW iterator's objects through iW loop
 have Ha:∀ {H':Hp},(∀ b∈fp,H' b=none)->∀ b∈fp,kK X π H' b:=fun hn b hb=>#[hn b hb,(f2 b hb).2];show codeAny_forLoop_any (fun n s'=>∃ i σ' H',Inv X π σ' H' s'/\tn i s'.heap/\(∀ b∈fp,H' b=none)/\W i n σ' H') ?_ m0 #[0,σ,H2,I2,gd,fun b hb=>(f2 b hb).1,w0];rintro n s3 ⟨i,σ3,H3,I3,Pb,AE,w3⟩;rcases turn i n σ3 H3 w3 with ⟨stop,qn⟩ | ⟨go,N,hN,step⟩
 ·show _f hp (aH (T.done X rfl rfl rfl hc i π s3 σ3 H3 X.xe I3 (Ha AE) Pb stop) fun r s4 #[hr,I4]=>?_);subst hr;show _L #[σ3,H3,I4,qn]
 ·show _f hp (aH (T.item X rfl rfl rfl hc i π s3 σ3 H3 X.xe I3 (Ha AE) Pb go) fun r s4 #[u,hr,h4]=>?_);subst hr;show _f hp (aH h4 fun _ s5 #[x,H5,I5,r5,y5,tN,Aq]=>?_);have I5':=I5.pinned (Ha Aq) (T.obj _ _ tN);show _f hp (aH (hg _ s5 σ3 H5 x u _ I5' r5 (step x H5 y5)) fun _ s6 #[σ6,H6,I6,q6]=>?_);show _f hp (aH (hb _ s6 σ6 H6 _ I6 q6) fun f s7 q7=>?_);have again:∀ {σ7:St}{H7:Hp},Inv X (π++uI fp s5.heap) σ7 H7 s7->N σ7 H7->∃ m,m < n/\∃ i σ' H',Inv X π σ' H' s7/\tn i s7.heap/\(∀ b∈fp,H' b=none)/\W i m σ' H':=fun {σ7 H7} I7 n7=>by
   let⟨m',hm,w7⟩:=hN σ7 H7 n7;show#[m',hm,i+1,σ7,H7,I7.BB,T.keep _ _ _ tN fun b hb o e=>(I7.pin (b,o) (xL _ (xL _ (yX hb e)))).1,fun b hb=>?_,w7];let⟨o,e,d⟩:=T.obj _ _ tN b hb;show(I7.pin (b,o) (xL _ (xL _ (yX hb e)))).2.1
  cases f with
  | next=>let⟨σ7,H7,I7,n7⟩:=q7;show again I7 n7
  | cont=>let⟨σ7,H7,I7,n7⟩:=q7;show again I7 n7
  | brk=>let⟨σ7,H7,I7,q7⟩:=q7;show#[σ7,H7,I7.BB,q7]
  | ret v=>let⟨x7,σ7,H7,I7,r7,q7⟩:=q7;show#[x7,σ7,H7,I7.BB,r7,q7]
end
def aal{K:ν}{a:ϋ}{xs:List V}{g:TG}{tb:TS}{D:Ends}{σ:St}{H:Hp}(Pv:Nat->St->Hp->Prop)(h0:Pv 0 σ H)(hl:∀ i σ H,i<=xs.length->Pv i σ H->aC K H a xs)(hs:∀ i x σ H,xs[i]?=!x->Pv i σ H->g x σ H fun σ2 H2=>tb { D with nx:=Pv (i+1),ct:=Pv (i+1),bk:=D.nx } σ2 H2)(hd:∀ σ H,Pv xs.length σ H->D.nx σ H) :
  ∃ W:Nat->Nat->St->Hp->Prop,(∃ m,W 0 m σ H)/\∀ i m σ H,W i m σ H ->
   ((jV K a).stop i H/\D.nx σ H)\/((jV K a).go i H/\∃ N:St->Hp->Prop,(∀ σ' H',N σ' H'->∃ m',m' < m/\W (i+1) m' σ' H')/\∀ x H',(jV K a).lY i H x H'->g x σ H' fun σ2 H2=>tb { D with nx:=N,ct:=N,bk:=D.nx } σ2 H2):=by
 show#[fun i m σ H=>m=xs.length - i/\i<=xs.length/\Pv i σ H,#[xs.length,(),wT _,h0],?_];rintro i m σ H ⟨rfl,hi,p⟩;have q:=hl i σ H hi p;by_cases b8:i < xs.length
 ·show .inr #[#[xs,xs[i],q,by simp[b8]],Pv (i+1),fun σ' H' p'=>#[xs.length - (i+1),∅,rfl,b8,p'],fun x H' y=>?_];let⟨e,y⟩:=y;subst e;show hs i x σ _ (y xs q) p
 ·have e:i=xs.length:=∅
  subst e;show .inl #[#[xs,q,pi _],hd σ H p]
def ac5{lo:Int}{n:Nat}{g:TG}{tb:TS}{D:Ends}{σ:St}{H:Hp}(Pv:Nat->St->Hp->Prop)(h0:Pv 0 σ H)(hs:∀ i σ H,i < n->Pv i σ H->g (.int (lo+i)) σ H fun σ2 H2=>tb { D with nx:=Pv (i+1),ct:=Pv (i+1),bk:=D.nx } σ2 H2)(hd:∀ σ H,Pv n σ H->D.nx σ H) :
  ∃ W:Nat->Nat->St->Hp->Prop,(∃ m,W 0 m σ H)/\∀ i m σ H,W i m σ H ->
   ((nZ lo n).stop i H/\D.nx σ H)\/((nZ lo n).go i H/\∃ N:St->Hp->Prop,(∀ σ' H',N σ' H'->∃ m',m' < m/\W (i+1) m' σ' H')/\∀ x H',(nZ lo n).lY i H x H'->g x σ H' fun σ2 H2=>tb { D with nx:=N,ct:=N,bk:=D.nx } σ2 H2):=by
 show#[fun i m σ H=>m=n - i/\i<=n/\Pv i σ H,#[n,(),wT _,h0],?_];rintro i m σ H ⟨rfl,hi,p⟩;by_cases b8:i < n
 ·show .inr #[b8,Pv (i+1),fun σ' H' p'=>#[n - (i+1),∅,rfl,b8,p'],fun x H' y=>?_];let⟨e,y⟩:=y;subst e y;show hs i σ _ b8 p
 ·have e:i=n:=∅
  subst e;show .inl #[pi _,hd σ H p]
abbrev R2:=V->V->Hp->VK->Prop
def  bu(X:Cx)(f:ϊ->ϊ->Sem ϊ)(r:R2):Prop :=
 ∀ (π:List (ϋ×Obj)) (s:ό) (σ:St) (H:Hp) (x y:V) (v u:ϊ) (Q:VK),Inv X π σ H s->RelV x v->RelV y u->r x y H Q ->
  wpAny (model X.prog X.w) X.A (f v u) (EP X π σ Q) X.xe s
def  vQ(X:Cx)(f:ϊ->Sem ϊ)(r:V->Hp->VK->Prop):Prop :=
 ∀ (π:List (ϋ×Obj)) (s:ό) (σ:St) (H:Hp) (x:V) (v:ϊ) (Q:VK),Inv X π σ H s->RelV x v->r x H Q ->
  wpAny (model X.prog X.w) X.A (f v) (EP X π σ Q) X.xe s
def  cW(X:Cx)(f:ϊ)(r:List V->Hp->VK->Prop):Prop :=
 ∀ (π:List (ϋ×Obj)) (s:ό) (σ:St) (H:Hp) (xs:List V) (us:List ϊ) (Q:VK),Inv X π σ H s->Vals xs us->r xs H Q ->
  wpAny (model X.prog X.w) X.A (call f us) (EP X π σ Q) X.xe s
def  jy(r:R2)(ta tb:TE):TE:=fun σ H Q=>ta σ H fun x H1=>tb σ H1 fun y H2=>r x y H2 Q
def  Cz(r:V->Hp->VK->Prop)(ta:TE):TE:=fun σ H Q=>ta σ H fun x H1=>r x H1 Q
def  rI(C:Int->Int->Prop)(g:Int->Int->V):R2:=fun x y H Q=>∃ i j,x=.int i/\y=.int j/\C i j/\Q (g i j) H
def  pX(g:Int->Int->V):R2:=fun x y H Q=>∃ i j,x=.int i/\y=.int j/\Q (g i j) H
def  rU(g:Int->V):V->Hp->VK->Prop:=fun x H Q=>∃ i,x=.int i/\Q (g i) H
section
variable {X:Cx}{a b c:Expr}{ta tb tc:TE}{pos:Pos}
def C6(ha:PE X a ta)(hb:PE X b tb){π:List (ϋ×Obj)}{s:ό}{σ:St}{H:Hp}{R:V->V->Hp->Prop}(I:Inv X π σ H s)(h:ta σ H fun x H1=>tb σ H1 fun y H2=>R x y H2){Q:ϊ->ό->Prop}{f:ϊ->ϊ->Sem ϊ}(hf:∀ v u s2 x y H2,Inv X π σ H2 s2->RelV x v->RelV y u->R x y H2->wpAny (model X.prog X.w) X.A (f v u) Q X.xe s2) :
  wpAny (model X.prog X.w) X.A (eval a X.env) (fun v s₁=>wpAny (model X.prog X.w) X.A (eval b X.env) (fun u s₂=>wpAny (model X.prog X.w) X.A (f v u) Q X.xe s₂) X.xe s₁) X.xe s:=by
 show aH (ha π s σ H _ I h) fun v s1 #[x,H1,I1,r1,q1]=>?_;show aH (hb π s1 σ H1 _ I1 q1) fun u s2 #[y,H2,I2,r2,q2]=>?_;show hf v u s2 x y H2 I2 r1 r2 q2
def abb{op:Operator}{r:R2}(ho:bu X (binaryOp op) r)(ha:PE X a ta)(hb:PE X b tb):PE X (.BinOp a op b pos) (jy r ta tb):=by
 intro π s σ H Q I h;show wpAny_BinOp (C6 ha hb I h fun v u s2 x y H2 I2 rx ry q=>ho π s2 σ H2 x y v u Q I2 rx ry q)
def U7{op:UnaryOp}{r:V->Hp->VK->Prop}(ho:vQ X (unaryOp op) r)(ha:PE X a ta):PE X (.UnaryOp op a pos) (Cz r ta):=by
 intro π s σ H Q I h;show UnaryOp_ (aH (ha π s σ H _ I h) fun v s1 #[x,H1,I1,r1,q1]=>ho π s1 σ H1 x v Q I1 r1 q1)
def CI{f:ϊ->ϊ->Sem ϊ}{C:Int->Int->Prop}{g:Int->Int->Int}(rule:∀ (i j:Int) (t u:Tok) (s:ό) (Q:ϊ->ό->Prop) (E:ϊ->ό->Prop),C i j->Q (.int (g i j) s.toks) { s with toks:=s.toks+1 }->wpAny (model X.prog X.w) X.A (f (.int i t) (.int j u)) Q E s) :
  bu X f (rI C fun i j=>.int (g i j)):=by
 intro π s σ H x y v u Q I rx ry h;let⟨i,j,rfl,rfl,hc,q⟩:=h;let⟨t,rfl⟩:=rx;let⟨t',rfl⟩:=ry;show rule i j t t' s _ _ hc #[.int (g i j),H,I.tok _,#[_,rfl],q]
def aaK{f:ϊ->ϊ->Sem ϊ}{g:Int->Int->Int}(rule:∀ (i j:Int) (t u:Tok) (s:ό) (Q:ϊ->ό->Prop) (E:ϊ->ό->Prop),Q (.int (g i j) s.toks) { s with toks:=s.toks+1 }->wpAny (model X.prog X.w) X.A (f (.int i t) (.int j u)) Q E s) :
  bu X f (pX fun i j=>.int (g i j)):=by
 intro π s σ H x y v u Q I rx ry h;let⟨i,j,rfl,rfl,q⟩:=h;let⟨t,rfl⟩:=rx;let⟨t',rfl⟩:=ry;show rule i j t t' s _ _ #[.int (g i j),H,I.tok _,#[_,rfl],q]
def Cv{f:ϊ->ϊ->Sem ϊ}{g:Int->Int->Bool}(rule:∀ (i j:Int) (t u:Tok) (s:ό) (Q:ϊ->ό->Prop) (E:ϊ->ό->Prop),Q (.bool (g i j)) s->wpAny (model X.prog X.w) X.A (f (.int i t) (.int j u)) Q E s) :
  bu X f (pX fun i j=>.bl (g i j)):=by
 intro π s σ H x y v u Q I rx ry h;let⟨i,j,rfl,rfl,q⟩:=h;let⟨t,rfl⟩:=rx;let⟨t',rfl⟩:=ry;show rule i j t t' s _ _ #[.bl (g i j),H,I,rfl,q]
def  Og(i j:Int):Prop:=0 < j/\j < 1073741824
def  zL(i j:Int):Prop:=((unop% Neg.neg ((2 ^ 64))) < i/\i < 2 ^ 64)\/((unop% Neg.neg ((2 ^ 64))) < j/\j < 2 ^ 64)
def zL.ok{i j:Int}(h:zL i j):IntMulOk i j:=by
 rcases h with ⟨h1,h2⟩ | ⟨h1,h2⟩
 ·show .of_left (intBits_le_64 h1 h2)
 ·show .of_right (intBits_le_64 h1 h2)
def acd:bu X (binaryOp .Add) (pX fun i j=>.int (i+j)):=aaK fun _ _ _ _ _ _ _ q=>add_int q
def ZO:bu X (binaryOp .Mult) (rI zL fun i j=>.int (i * j)):=CI fun _ _ _ _ _ _ _ hc q=>mul_int q hc.ok
def SQ:bu X (binaryOp .FloorDiv) (rI Og fun i j=>.int (i / j)):=CI fun i j _ _ _ _ _ hc q=>by
 have h1:(0:Int) < j:=hc.1;have h2:j < 1073741824:=hc.2;show floordiv_int ∅ (by rw[Int.fdiv_eq_ediv_of_nonneg i ∅];show q) (.inl (PyProof.noPylong_small ∅))
def aaq:bu X (binaryOp .Mod) (rI (fun _ j=>0 < j) fun i j=>.int (i % j)):=CI fun i j _ _ _ _ _ hc q=>by
 have h1:(0:Int) < j:=hc;show mod_int' ∅ (by rw[Int.fmod_eq_emod_of_nonneg i ∅];show q)
def unI{f:ϊ->Sem ϊ}{g:Int->Int}(rule:∀ (i:Int) (t:Tok) (s:ό) (Q:ϊ->ό->Prop) (E:ϊ->ό->Prop),Q (.int (g i) s.toks) { s with toks:=s.toks+1 }->wpAny (model X.prog X.w) X.A (f (.int i t)) Q E s) :
  vQ X f (rU fun i=>.int (g i)):=by
 intro π s σ H x v Q I rx h;let⟨i,rfl,q⟩:=h;let⟨t,rfl⟩:=rx;show rule i t s _ _ #[.int (g i),H,I.tok _,#[_,rfl],q]
def ac2:vQ X (unaryOp .USub) (rU fun i=>.int ((unop% Neg.neg (i)))):=unI fun _ _ _ _ _ q=>neg_int q
end
def  xW:V->V->Bool
 | .aw,.aw=>true | .aw,.int _=>true | .int _,.aw=>true | .aw,.bl _=>true | .bl _,.aw=>true | .aw,.str _=>true | .str _,.aw=>true
 | .int _,.int _=>true | .bl _,.bl _=>true | .str _,.str _=>true | .byt _,.byt _=>true
 | .int _,.str _=>true | .str _,.int _=>true | .bl _,.str _=>true | .str _,.bl _=>true
 | _,_=>false
def  rEq:R2:=fun x y H Q=>xW x y=true/\Q (.bl (decide (x=y))) H
def  Yr:R2:=fun x y H Q=>xW x y=true/\Q (.bl (Bool.not (decide (x=y)))) H
def Kw{i j:Int}:decide (V.int i=V.int j)=(i == j):=by
 rw[UF];simp
def Mw{i j:Bool}:decide (V.bl i=V.bl j)=(i == j):=by
 rw[UF];simp
def N7{i j:Str}:decide (V.str i=V.str j)=(i == j):=by
 rw[UF];simp
def M4{i j:Array UInt8}:decide (V.byt i=V.byt j)=(i.toList == j.toList):=by
 rw[UF];cases i;cases j;simp
section
variable {X:Cx}{a b c:Expr}{ta tb tc:TE}{pos:Pos}
def cI{π:List (ϋ×Obj)}{σ:St}{H:Hp}{s:ό}{Q:VK}{k k':Bool}(I:Inv X π σ H s)(q:Q (.bl k) H)(e:k=k'):EP X π σ Q (.bool k') s:=by
 subst e;show#[.bl k,H,I,rfl,q]
def UG:bu X (compareOp .Eq) rEq:=by
 intro π s σ H x y v u Q I rx ry h;let⟨hs,q⟩:=h;cases x with
 | aw =>
  cases rx;cases y with
  | aw=>cases ry;show PySem.EqNone.eq_none_none (cI I q ())
  | bl j=>cases ry;show PySem.EqNone.eq_none_bool (cI I q ())
  | int j=>let⟨t',rfl⟩:=ry;show PySem.EqNone.eq_none_int (cI I q ())
  | str j=>let⟨t',rfl⟩:=ry;show PySem.EqNone.eq_none_str (cI I q ())
  | _=>show absurd (show false=true from hs) wE
 | bl i =>
  cases rx;cases y with
  | aw=>cases ry;show PySem.EqNone.eq_bool_none (cI I q ())
  | bl j=>cases ry;show eq_bool (cI I q Mw)
  | str j=>let⟨t',rfl⟩:=ry;show PySem.EqMixed.eq_bool_str (cI I q ())
  | _=>show absurd (show false=true from hs) wE
 | int i =>
  let⟨t,rfl⟩:=rx;cases y with
  | aw=>cases ry;show PySem.EqNone.eq_int_none (cI I q ())
  | int j=>let⟨t',rfl⟩:=ry;show eq_int (cI I q Kw)
  | str j=>let⟨t',rfl⟩:=ry;show PySem.EqMixed.eq_int_str (cI I q ())
  | _=>show absurd (show false=true from hs) wE
 | str i =>
  let⟨t,rfl⟩:=rx;cases y with
  | aw=>cases ry;show PySem.EqNone.eq_str_none (cI I q ())
  | bl j=>cases ry;show PySem.EqMixed.eq_str_bool (cI I q ())
  | int j=>let⟨t',rfl⟩:=ry;show PySem.EqMixed.eq_str_int (cI I q ())
  | str j=>let⟨t',rfl⟩:=ry;show eq_str (cI I q N7)
  | _=>show absurd (show false=true from hs) wE
 | byt i =>
  let⟨t,rfl⟩:=rx;cases y with
  | byt j=>let⟨t',rfl⟩:=ry;show W.eq_bytes (cI I q M4)
  | _=>show absurd (show false=true from hs) wE
 | _=>cases y <;> show absurd (show false=true from hs) wE
def RD:bu X (compareOp .NotEq) Yr:=by
 intro π s σ H x y v u Q I rx ry h;let⟨hs,q⟩:=h;cases x with
 | aw =>
  cases rx;cases y with
  | aw=>cases ry;show PySem.EqNone.ne_none_none (cI I q ())
  | bl j=>cases ry;show PySem.EqNone.ne_none_bool (cI I q ())
  | int j=>let⟨t',rfl⟩:=ry;show PySem.EqNone.ne_none_int (cI I q ())
  | str j=>let⟨t',rfl⟩:=ry;show PySem.EqNone.ne_none_str (cI I q ())
  | _=>show absurd (show false=true from hs) wE
 | bl i =>
  cases rx;cases y with
  | aw=>cases ry;show PySem.EqNone.ne_bool_none (cI I q ())
  | bl j=>cases ry;show ne_bool (cI I q (GE not Mw))
  | str j=>let⟨t',rfl⟩:=ry;show PySem.EqMixed.ne_bool_str (cI I q ())
  | _=>show absurd (show false=true from hs) wE
 | int i =>
  let⟨t,rfl⟩:=rx;cases y with
  | aw=>cases ry;show PySem.EqNone.ne_int_none (cI I q ())
  | int j=>let⟨t',rfl⟩:=ry;show ne_int (cI I q (GE not Kw))
  | str j=>let⟨t',rfl⟩:=ry;show PySem.EqMixed.ne_int_str (cI I q ())
  | _=>show absurd (show false=true from hs) wE
 | str i =>
  let⟨t,rfl⟩:=rx;cases y with
  | aw=>cases ry;show PySem.EqNone.ne_str_none (cI I q ())
  | bl j=>cases ry;show PySem.EqMixed.ne_str_bool (cI I q ())
  | int j=>let⟨t',rfl⟩:=ry;show PySem.EqMixed.ne_str_int (cI I q ())
  | str j=>let⟨t',rfl⟩:=ry;show ne_str (cI I q (GE not N7))
  | _=>show absurd (show false=true from hs) wE
 | byt i =>
  let⟨t,rfl⟩:=rx;cases y with
  | byt j=>let⟨t',rfl⟩:=ry;show W.ne_bytes (cI I q (GE not M4))
  | _=>show absurd (show false=true from hs) wE
 | _=>cases y <;> show absurd (show false=true from hs) wE
def RG:bu X (compareOp .Lt) (pX fun i j=>.bl (decide (i < j))):=Cv fun _ _ _ _ _ _ _ q=>lt_int q
def aae:bu X (compareOp .LtE) (pX fun i j=>.bl (decide (i<=j))):=Cv fun _ _ _ _ _ _ _ q=>le_int q
def aaT:bu X (compareOp .Gt) (pX fun i j=>.bl (decide (j < i))):=Cv fun _ _ _ _ _ _ _ q=>gt_int q
def acH:bu X (compareOp .In) (fun x y H Q=>∃ i j,x=.str i/\y=.str j/\Q (.bl (Bool.not (Builtin.Str.occurrences j i 0 j.length 1).isEmpty)) H):=by
 intro π s σ H x y v u Q I rx ry h;let⟨i,j,rfl,rfl,q⟩:=h;let⟨t,rfl⟩:=rx;let⟨t',rfl⟩:=ry;show in_str (cI I q rfl)
def nF:bu X (compareOp .Is) (fun x y H Q=>y=.aw/\Q (.bl (decide (x=.aw))) H):=by
 intro π s σ H x y v u Q I rx ry h;let⟨rfl,q⟩:=h;cases ry;show is_none_gen (cI I q ?_);cases x <;> first
  | (cases rx;rfl)
  | (let⟨t,rfl⟩:=rx;rfl)
def mx:bu X (compareOp .IsNot) (fun x y H Q=>y=.aw/\Q (.bl (Bool.not (decide (x=.aw)))) H):=by
 intro π s σ H x y v u Q I rx ry h;let⟨rfl,q⟩:=h;cases ry;show isnot_none_gen (cI I q ?_);cases x <;> first
  | (cases rx;rfl)
  | (let⟨t,rfl⟩:=rx;rfl)
def bu.or{f:ϊ->ϊ->Sem ϊ}{r r':R2}(h:bu X f r)(h':bu X f r'):bu X f (fun x y H Q=>r x y H Q\/r' x y H Q):=by
 intro π s σ H x y v u Q I rx ry q;rcases q with q | q
 ·show h π s σ H x y v u Q I rx ry q
 ·show h' π s σ H x y v u Q I rx ry q
def Y6{op:CmpOp}{r:R2}(ho:bu X (compareOp op) r)(ha:PE X a ta)(hb:PE X b tb)(hm:behindInMarks op b=false):PE X (.Compare a [op] [b] pos) (jy r ta tb):=by
 intro π s σ H Q I h;show wpAny_Compare1 (C6 ha hb I h fun v u s2 x y H2 I2 rx ry q=>ho π s2 σ H2 x y v u Q I2 rx ry q) hm
def uH:(sizeLine:Nat) < 2 ^ 63:=by rw[sizeLine_eq];decide
def acT:bu X (binaryOp .Add) (fun x y H Q=>∃ i j,x=.str i/\y=.str j/\i.length+j.length<=sizeLine/\Q (.str (i++j)) H):=by
 intro π s σ H x y v u Q I rx ry h;let⟨i,j,rfl,rfl,hz,q⟩:=h;let⟨t,rfl⟩:=rx;let⟨t',rfl⟩:=ry;show add_str (fun t' tk=>#[.str (i++j),H,I.tok _,#[_,rfl],q]) hz
def vals1{x:V}{us:List ϊ}(r:Vals [x] us):∃ u,us=[u]/\RelV x u:=by
 cases r with
 | cons r1 r2=>cases r2;show#[_,rfl,r1]
def vals2{x y:V}{us:List ϊ}(r:Vals [x,y] us):∃ u w',us=[u,w']/\RelV x u/\RelV y w':=by
 cases r with
 | cons r1 r2 =>
  cases r2 with
  | cons r3 r4=>cases r4;show#[_,_,rfl,r1,r3]
def  Wf(K:ν)(x:V)(H:Hp)(n:Nat):Prop :=
 match x with
 | .str y=>y.length<=sizeLine/\n=y.length
 | .byt y=>y.size<=sizeLine/\n=y.size
 | .ref p=>(∃ xs,aC K H p xs/\n=xs.length)\/∃ xs,bK K H p xs/\n=xs.length
 | _=>False
def Nu:cW X (.builtin "len") (fun xs H Q=>∃ x n,xs=[x]/\Wf X.K x H n/\Q (.int n) H):=by
 intro π s σ H xs us Q I r h;let⟨x,n,rfl,e,q⟩:=h;let⟨u,rfl,rx⟩:=vals1 r;have hl:=uH;have hs:sizeLine=16777216:=sizeLine_eq;cases x with
 | str y =>
  let⟨t,rfl⟩:=rx;let⟨hy,e'⟩:y.length<=sizeLine/\n=y.length:=e;subst e';show len_str ∅ #[.int _,H,I.tok _,#[_,rfl],q]
 | byt y =>
  let⟨t,rfl⟩:=rx;let⟨hy,e'⟩:y.size<=sizeLine/\n=y.size:=e;subst e';show W.len_bytes ∅ #[.int _,H,I.tok _,#[_,rfl],q]
 | ref p =>
  cases rx;have e':(∃ xs,aC X.K H p xs/\n=xs.length)\/∃ xs,bK X.K H p xs/\n=xs.length:=e;rcases e' with ⟨xs,hx,e'⟩ | ⟨xs,hx,e'⟩
  ·subst e';let⟨au,r',pl,hz⟩:=I.list hx;have hlen:=r'.length;show Calls.call_len_list pl.isList (by simp only[sK];omega) #[.int xs.length,H,I.tok _,#[_,by simp only[sK];rw[hlen]],q]
  ·subst e';let⟨au,r',pl,hz⟩:=I.tuple hx;have hlen:=r'.length;show len_tuple pl (by simp only[sK];omega) #[.int xs.length,H,I.tok _,#[_,by simp only[sK];rw[hlen]],q]
 | _=>show(show False from e).elim
end
structure ph(h:Heap)(x dx C:ϋ)(mA:Str->Option ϊ):Prop where
 obj:h.get? x=!W.instObj C dx
 ns:h.Ns1 dx mA
 ne:dx≠x
def aaR{h:Heap}{dx:ϋ}{mA:Str->Option ϊ}(n:h.Ns1 dx mA):∃ od,h.get? dx=!od/\∀ name,W.lookIn name od=!mA name:=by
 let⟨o,es,ep,ho,hd,hk,_,hm⟩:=n;show#[o,ho,fun name=>?_];have e:=hm name;unfold nsFind findBy at e;rw[<- Array.find?_toList]at e;unfold W.lookIn;rw[hd];dsimp only;split
 ·rename_i y q;rw[q]at e;show GE some e
 ·rename_i q;rw[q]at e;have a:es.toList.any (·.refKey)=false:=by
   rw[List.any_eq_false];intro y hy;let⟨z,t,hkey⟩:=hk y (Array.mem_toList_iff.mp hy);simp[DictEntry.refKey,hkey]
  have a':¬ es.toList.any (·.refKey)=true:=by rw[a];show wE
  rw[wf a'];show GE some e
def ph.look{h:Heap}{x dx C:ϋ}{mA:Str->Option ϊ}(I:ph h x dx C mA):∃ od,W.InstAt h x (W.instObj C dx) C (!od)/\∀ name,W.lookIn name od=!mA name :=
 let ⟨od,ho,hl⟩:=aaR I.ns
 #[od,#[I.obj,rfl,rfl,ho],hl]
section
variable {prog:ύ}{w:World}{A:Around}{E:ϊ->ό->Prop}{s:ό}{K:ν}{x dx C f:ϋ}{mA:Str->Option ϊ}{name:Str}{v:ϊ}
def get_map{expr:Bool}{Q:ϊ->ό->Prop}(X:K.In s.heap)(I:ph s.heap x dx C mA)(hg:W.plainGet K C name=true)(hh:W.hasDictIn K C=true)(ha:W.findIn K (-C) name=!none)(hv:mA name=!v)(hv':W.handedIn v=true)(h:Q v { s with toks:=s.toks+1 }) :
  wpAny (model prog w) A (getAttr (-x) name expr) Q E s:=by
 let⟨od,J,hl⟩:=I.look;show W.get_value X J (Jak hg).1 (W.findObj_own hh ha rfl (by rw[hl,hv])) hv' h
def SN{pl:Sem Bool}{Q:ϊ×List ϊ->ό->Prop}(X:K.In s.heap)(I:ph s.heap x dx C mA)(hg:W.plainGet K C name=true)(hf:W.findIn K (-C) name=!(!-f))(ht:W.isFn K (-f)=true)(hv:mA name=none)(h:Q (-f,[-x]) s) :
  wpAny (model prog w) A (getMethod (-x) name pl) Q E s:=by
 let⟨od,J,hl⟩:=I.look;show W.method_fn X J (Jak hg).1 (Jak hg).2 hf (ZB.mp ht) (by change(W.lookIn name od).map (·.isSome)=!false;rw[hl,hv];rfl) h
def adz{ns:List Str}{Q:Unit->ό->Prop}(X:K.In s.heap)(I:ph s.heap x dx C mA)(hs:W.findIn K (-C) "__setattr__" = !(!.builtin "object.__setattr__"))(hp:W.plainOver K C=true)(ht:W.takerIn K C name=!none)(hh:W.hasDictIn K C=true)(hw:PySem.Within mA ns)(hsz:ns.length<=sizeLine)(h:∀ h',ph h' x dx C (fun y=>if y=name then !v else mA y)->Heap.SameBut dx s.heap h'->Q .unit { s with heap:=h',toks:=s.toks+2 }) :
  wpAny (model prog w) A (setAttr (-x) name v) Q E s:=by
 let⟨od,J,hl⟩:=I.look;show W.set_plain X J hs (W.osa_open (s:={ s with toks:=s.toks+1 }) (r:=none) X J hp ht fun b=>?_);let⟨cd,hc,hd'⟩:=W.any_some hh;have hx:s.heap.get? x=!#[-C,!dx,.plain,(List.toArray [])]:=I.obj;show jp (tz (jp (jp (_S hx (jp (W.Looks.here (s:={ s with toks:=s.toks+1 }) (W.looks_clsIn X hc) ?_))))));rw[hd'];show tz (a:=!dx) (jp (tz (jp ?_)));show wpAny_nsSet1 (s:={ s with toks:=s.toks+1 }) I.ns fun h' j8 tL=>?_;let⟨oD,Ig,epD,He,Hn,Gh⟩:=j8.count (PySem.Within.cons name v hw);show jp (wpAny_lookBehind He (by rw[Hn];show pastItsLine_dict (ut Gh (by rw[xz];omega))) ?_);show tz (h _ #[(tL.2 _ (ss I.ne)).trans I.obj,j8,I.ne] tL)
def VL{R:Result->ό->Prop}{vs:List ϊ}{kw:List (Str×ϊ)}(X:K.In s.heap)(hm:W.makesIn K C=true)(hi:W.findIn K (-C) "__init__" = !(!-f))(hf:W.typeIn K (-f)=!.type "function")(h:codeAny (model prog w) (A.under (.builtin "type.__call__" #[-C::vs,kw])) (.call (-f) #[-(s.heap.objs.size+1)::vs,kw]) (W.InitBack (s.heap.objs.size+1) R)
   { s with heap:=(s.heap.push W.emptyDict).push (W.instObj C s.heap.objs.size) }) :
  codeAny (model prog w) A (.call (-C) #[vs,kw]) R s:=by
 let⟨hh,g,d,t,os⟩:=s;show W.make_core (W.makes_of X hm) (Rs X hi) (fun self=>W.bind_fn X self hf) (.inl rfl) h
end
def  az(f:Str)(v:V):List (Str×V)->List (Str×V)
 | []=>[(f,v)]
 | (g,x)::r=>if g=f then (g,v)::r else (g,x)::az f v r
def en(f g:Str)(v:V):∀ fs:List (Str×V),(az f v fs).lookup g=if g=f then !v else fs.lookup g
 | []=>by
  change List.lookup g [(f,v)]=_;by_cases h:g=f
  ·have hb:(g == f)=true:=ZB.mpr h;simp only[List.lookup,hb,wl h]
  ·have hb:(g == f)=false:=Gc.mpr h;simp only[List.lookup,hb,wf h]
 | (k,x)::r=>by
  have ih:=en f g v r;rw[show az f v ((k,x)::r)=(if k=f then (k,v)::r else (k,x)::az f v r) from rfl];by_cases hk:k=f
  ·rw[wl hk];by_cases h:g=k
   ·have hb:(g == k)=true:=ZB.mpr h;simp only[List.lookup,hb,wl (h.trans hk)]
   ·have hb:(g == k)=false:=Gc.mpr h;simp only[List.lookup,hb,wf (fun e:g=f=>h (e.trans hk.symm))]
  ·rw[wf hk];by_cases h:g=k
   ·have hb:(g == k)=true:=ZB.mpr h;simp only[List.lookup,hb,wf (fun e:g=f=>hk (h.symm.trans e))]
   ·have hb:(g == k)=false:=Gc.mpr h;simp only[List.lookup,hb];show ih
def Df(f:Str)(v:V):∀ fs:List (Str×V),f∈(az f v fs).map (·.1)/\∀ g,g∈fs.map (·.1)->g∈(az f v fs).map (·.1)
 | []=>#[by simp[az],fun g h=>by simp at h]
 | (k,x)::r=>by
  let⟨i1,i2⟩:=Df f v r;rw[show az f v ((k,x)::r)=(if k=f then (k,v)::r else (k,x)::az f v r) from rfl];by_cases hk:k=f
  ·rw[wl hk];subst hk;show#[(),fun g h=>by simpa using h]
  ·rw[wf hk];show#[?_,fun g h=>?_]
   ·rw[FB];show Fr _ i1
   ·rw[FB]at h ⊢;rcases li.mp h with e | e
    ·show li.mpr (.inl e)
    ·show Fr _ (i2 g e)
def Fi(f:Str)(v:V):∀ fs:List (Str×V),(az f v fs).length<=fs.length+1
 | []=>by simp[az]
 | (k,x)::r=>by
  have ih:=Fi f v r;rw[show az f v ((k,x)::r)=(if k=f then (k,v)::r else (k,x)::az f v r) from rfl];by_cases hk:k=f
  ·rw[wl hk,xz,xz];omega
  ·rw[wf hk,xz,xz];omega
def fh.some_of{v:V}{o:Option ϊ}(r:fh (!v) o):∃ u,o=!u/\RelV v u:=by
 cases o with
 | none=>show(show False from r).elim
 | some u=>show#[u,rfl,r]
def fh.none_of{o:Option ϊ}(r:fh none o):o=none:=by
 cases o with
 | none=>rfl
 | some u=>show(show False from r).elim
def T3{v:V}{u:ϊ}(r:RelV v u):W.handedIn u=true:=by
 cases v with
 | aw=>cases (show u=ϊ.none from r);rfl
 | bl b=>cases (show u=ϊ.bool b from r);rfl
 | int i=>let⟨t,e⟩:=(show ∃ t,u=ϊ.int i t from r);cases e;rfl
 | str x=>let⟨t,e⟩:=(show ∃ t,u=ϊ.str x t from r);cases e;rfl
 | byt b=>let⟨t,e⟩:=(show ∃ t,u=ϊ.bytes b t from r);cases e;rfl
 | qa b=>let⟨t,e⟩:=(show ∃ t,u=ϊ.float b t from r);cases e;rfl
 | ref a=>cases (show u=ϊ.ref a from r);rfl
 | ty n=>cases (show u=ϊ.type n from r);rfl
section
variable {P:ύ}{w:World}{H H':Hp}{h h':Heap}{a C dx:ϋ}{fs fs':List (Str×V)}
def zw(aE:cw P w H h)(e:H a=!.ins C dx fs):∃ mA,ph h a dx C mA/\(∀ f,fh (fs.lookup f) (mA f))/\PySem.Within mA (fs.map (·.1))/\fs.length<=1000/\H dx=!.own a:=by
 let⟨d,z,ne,ob,mA,n,r,q⟩:=(show ck P w H h a (.ins C dx fs) from aE a _ e);show#[mA,#[ob,n,ne],r,q,z,d]
end
structure dD(K:ν)(C:ϋ):Prop where
 pg:W.plainGet K C Str.empty=true
 hd:W.hasDictIn K C=true
 po:W.plainOver K C=true
 sa:W.findIn K (-C) "__setattr__" = !(!.builtin "object.__setattr__")
def dD.get{K:ν}{C:ϋ}(c:dD K C)(f:Str):W.plainGet K C f=true:=c.pg
def  bU(K:ν)(C:ϋ)(f:Str):Prop:=W.findIn K (-C) f=!none
def bU.abW{K:ν}{C:ϋ}{f:Str}(n:bU K C f):W.takerIn K C f=!none:=by
 unfold W.takerIn;rw[show W.findIn K (-C) f=some none from n];rfl
structure Con(K:ν)(C:ϋ)(f:Str)(v:V)(u:ϊ):Prop where
 at_:W.findIn K (-C) f=!(!u)
 rel:RelV v u
 get:W.specialIn K u "__get__" = !none
 cp:W.copiedNames.contains f=false
structure Meth(K:ν)(C:ϋ)(m:Str)(f:ϋ):Prop where
 at_:W.findIn K (-C) m=!(!-f)
 fn:W.isFn K (-f)=true
 kp:W.keepIn K (-f)=true
section
variable {X:Cx}{π:List (ϋ×Obj)}{σ:St}{H:Hp}{s:ό}{a C dx:ϋ}{fs:List (Str×V)}{f:Str}{v:V}{A:Around}{E:ϊ->ό->Prop}
def L8{b:Bool}{Q:ϊ->ό->Prop}(I:Inv X π σ H s)(e:H a=!.ins C dx fs)(c:dD X.K C)(n:bU X.K C f)(l:fs.lookup f=!v)(h:∀ u s',Inv X π σ H s'->RelV v u->Q u s'):wpAny (model X.prog X.w) A (getAttr (-a) f b) Q E s:=by
 let⟨mA,O,r,_,_,_⟩:=zw I.aE e;let⟨u,hu,ru⟩:=fh.some_of (v:=v) (o:=mA f) (by rw[<- l];show r f);show get_map I.cq O (c.get f) c.hd n hu (T3 ru) (h u _ (I.tok _) ru)
def C2{m:Str}{g:ϋ}{pl:Sem Bool}{Q:ϊ×List ϊ->ό->Prop}(I:Inv X π σ H s)(e:H a=!.ins C dx fs)(c:dD X.K C)(k:Meth X.K C m g)(l:fs.lookup m=none)(h:Q (-g,[-a]) s):wpAny (model X.prog X.w) A (getMethod (-a) m pl) Q E s:=by
 let⟨mA,O,r,_,_,_⟩:=zw I.aE e;have hn:mA m=none:=fh.none_of (by rw[<- l];show r m);show SN I.cq O (c.get m) k.at_ k.fn hn h
def Oi{y:V}{u:ϊ}{Q:Unit->ό->Prop}(I:Inv X π σ H s)(e:H a=!.ins C dx fs)(c:dD X.K C)(n:bU X.K C f)(hl:fs.length < 1000)(ry:RelV y u)(h:∀ s',Inv X π σ (upd H a (.ins C dx (az f y fs))) s'->Q .unit s'):wpAny (model X.prog X.w) A (setAttr (-a) f u) Q E s:=by
 let⟨mA,O,r,wi,_,ho⟩:=zw I.aE e;have hz:(fs.map (·.1)).length<=sizeLine:=by rw[lv,sizeLine_eq];omega
 show adz I.cq O c.sa c.po n.abW c.hd wi hz fun h' O' sb=>h _ ?_;have hd:∃ o,h'.get? dx=!o:=let ⟨o,_,_,e',_⟩:=O'.ns;#[o,e']
 show I.write (x:=a) (e:=dx) (by rw[e];show True.intro) (.inr ho) (fun b q hb z=>(sb.2 b hb).trans z) hd ?_;show#[by rw[ag O.ne];show ho,?_,O.ne,O'.obj,_,O'.ns,fun g=>?_,fun g hg=>?_]
 ·have:=Fi f y fs;omega
 ·change fh ((az f y fs).lookup g) (if g=f then !u else mA g);rw[en];by_cases q:g=f
  ·rw[wl q,wl q];show ry
  ·rw[wf q,wf q];show r g
 ·by_cases q:g=f
  ·rw[q];show(Df f y fs).1
  ·show(Df f y fs).2 g (wi g fun z=>hg ?_);change(if g=f then !u else mA g)=none;rw[wf q];show z
def Inv.made(I:Inv X π σ H s):Inv X π σ (upd (upd H s.heap.objs.size (.own (s.heap.objs.size+1))) (s.heap.objs.size+1) (.ins C s.heap.objs.size []))
  { s with heap:=(s.heap.push W.emptyDict).push (W.instObj C s.heap.objs.size) }:=by
 have e1:(s.heap.push W.emptyDict).get? s.heap.objs.size=!W.emptyDict:=wn s.heap rfl;have e2:((s.heap.push W.emptyDict).push (W.instObj C s.heap.objs.size)).get? (s.heap.objs.size+1)=!W.instObj C s.heap.objs.size:=by
  have:=wn (s.heap.push W.emptyDict) (o:=W.instObj C s.heap.objs.size) rfl
  rwa [_p]at this
 have e3:(s.heap.push W.emptyDict).Ns s.heap.objs.size (fun _=>none):=#[W.emptyDict,(List.toArray []),_,e1,rfl,(fun e he=>absurd he ()),fun _=>rfl];have I1:=I.laid (a:=s.heap.objs.size) (o:=.own (s.heap.objs.size+1)) (h':=s.heap.push W.emptyDict) (t':=s.toks) (fun b u q=>pp _ q) (pi _) #[_,e1];show I1.laid (a:=s.heap.objs.size+1) (o:=.ins C s.heap.objs.size []) (t':=s.toks) (fun b u q=>pp _ q) (Nat.le_of_eq (_p _ _)) ?_;have ne:s.heap.objs.size≠s.heap.objs.size+1:=zn (FM _);show#[by rw[ag ne,ay],wT _,ne,e2,fun _=>none,(Heap.Ns1.of_empty e3).at fun o q=>pp _ q,fun _=>True.intro,fun y hy=>absurd rfl hy]
def Xb{prog:ύ}{w:World}{env:Env}{e:Expr}{f:Str}{pos:Pos}{s:ό}{Q:ϊ->ό->Prop}(hb:attributeBase e f env (eval e env)=eval e env)(h:wpAny (model prog w) A (eval e env) (fun o s₁=>wpAny (model prog w) A (getAttr o f true) Q E s₁) E s):wpAny (model prog w) A (eval (.Attribute e f pos) env) Q E s :=
 Attribute_any_ h (by rw[arm_eval_Attribute,hb])
end
def  C5(X:Cx)(op:Operator)(rd:V->V->Hp->VK->Prop):Prop :=
 ∀ (π:List (ϋ×Obj)) (s:ό) (σ:St) (H:Hp) (x y:V) (u v:ϊ) (Q:VK),Inv X π σ H s->RelV x u->RelV y v->rd x y H Q->wpAny (model X.prog X.w) X.A (inplaceOp op u v) (EP X π σ Q) X.xe s
section
variable {X:Cx}{o e value:Expr}{f:Str}{pos pos' ua:Pos}{ta tv:TE}
def  MO:V->V->Hp->VK->Prop:=fun x y H Q=>∃ i j,x=.int i/\y=.int j/\Q (.int (i+j)) H
def jv:C5 X .Add MO:=by
 rintro π s σ H x y u v Q I rx ry ⟨i,j,rfl,rfl,q⟩;let⟨t,rfl⟩:=(show ∃ t,u=ϊ.int i t from rx);let⟨t',rfl⟩:=(show ∃ t',v=ϊ.int j t' from ry);show PyProof.Rows.iadd_int #[.int (i+j),H,I.tok _,#[_,rfl],q]
end
section
variable {X:Cx}{π:List (ϋ×Obj)}{σ:St}{H:Hp}{s:ό}{A:Around}{E:ϊ->ό->Prop}{Q:ϊ->ό->Prop}{c:ϊ}{b:Bool}
inductive gm(K:ν)(H:Hp):V->ϊ->Prop where
 | aw:gm K H .aw (.type "NoneType")
 | bl (x:Bool):gm K H (.bl x) (.type "bool")
 | int (i:Int):gm K H (.int i) (.type "int")
 | str (x:Str):gm K H (.str x) (.type "str")
 | qa (x:UInt64):gm K H (.qa x) (.type "float")
 | lst {a:ϋ}{xs:List V} (e:H a=!.lst xs):gm K H (-a) (.type "list")
 | df {a:ϋ}{o:Obj}{xs:List V} (e:H a=!.df o (.lst xs)):gm K H (-a) (.type "list")
 | tup {a:ϋ}{xs:List V} (e:H a=!.tup xs):gm K H (-a) (.type "tuple")
 | dK {a:ϋ}{kvs:List (Key×V)} (e:H a=!.dK kvs):gm K H (-a) (.type "dict")
 | dT {a:ϋ}{kvs:List (List Key×V)} (e:H a=!.dT kvs):gm K H (-a) (.type "dict")
 | ins {a C dx:ϋ}{fs:List (Str×V)} (e:H a=!.ins C dx fs) (cl:dD K C) (ha:W.findIn K (-C) "__class__" = !(!.builtin "object.__class__"))
   (hn:W.specialIn K (.builtin "object.__class__") "__get__" = !(!.builtin "getset_descriptor.__get__")) (fw:W.takesIn K (.builtin "object.__class__")=!true)
   (hm:W.mroIn K C (.type "object")=!true):gm K H (-a) (-C)
def EA{x:V}{u t:ϊ}(I:Inv X π σ H s)(rx:RelV x u)(ty:gm X.K H x t)(e:W.kitOne X.K t c=!b)(h:∀ tk,Q (.bool b) { s with toks:=tk }) :
  wpAny (model X.prog X.w) A (call (.builtin "isinstance") [u,c]) Q E s:=by
 cases ty with
 | aw=>cases (show u=ϊ.none from rx);show IO W.kitx_none I.cq True.intro e (fun z=>nomatch z) h
 | bl y=>cases (show u=ϊ.bool y from rx);show IO W.kitx_bool I.cq True.intro e (fun z=>nomatch z) h
 | int i=>let⟨t,q⟩:=(show ∃ t,u=ϊ.int i t from rx);cases q;show IO W.kitx_int I.cq True.intro e (fun z=>nomatch z) h
 | str y=>let⟨t,q⟩:=(show ∃ t,u=ϊ.str y t from rx);cases q;show IO W.kitx_str I.cq True.intro e (fun z=>nomatch z) h
 | qa y=>let⟨t,q⟩:=(show ∃ t,u=ϊ.float y t from rx);cases q;show IO W.kitx_float I.cq True.intro e (fun z=>nomatch z) h
 | @lst a xs ea =>
  cases (show u=ϊ.ref a from rx);let⟨_,_,n,_,h1⟩:=(show ck X.prog X.w H s.heap a (.lst xs) from I.aE a _ ea);show IO W.kitx_list I.cq #[_,h1,rfl] e (fun z=>nomatch z) h
 | @df a ob xs ea =>
  cases (show u=ϊ.ref a from rx);let⟨_,_,_,n,_,h1⟩:=(show ck X.prog X.w H s.heap a (.df ob (.lst xs)) from I.aE a _ ea);show IO W.kitx_list I.cq #[_,h1,rfl] e (fun z=>nomatch z) h
 | @tup a xs ea =>
  cases (show u=ϊ.ref a from rx);let⟨_,_,_,p⟩:=(show ck X.prog X.w H s.heap a (.tup xs) from I.aE a _ ea);let⟨o,h1,h2,_⟩:=p;show IO W.kitx_tuple I.cq #[o,h1,h2] e (fun z=>nomatch z) h
 | @dK a kvs ea =>
  cases (show u=ϊ.ref a from rx);let⟨_,_,vs,_,p⟩:=(show ck X.prog X.w H s.heap a (.dK kvs) from I.aE a _ ea);let⟨o,es,ep,h1,h2,_⟩:=p;show IO W.kitx_dict I.cq #[o,h1,h2.1] e (fun z=>nomatch z) h
 | @dT a kvs ea =>
  cases (show u=ϊ.ref a from rx);let⟨_,_,xs,_,o,es,ep,h1,h2,_⟩:=(show ck X.prog X.w H s.heap a (.dT kvs) from I.aE a _ ea);show IO W.kitx_dict I.cq #[o,h1,h2.1] e (fun z=>nomatch z) h
 | @ins a C dx fs ea cl ha hn fw hm =>
  cases (show u=ϊ.ref a from rx);let⟨mA,O,_⟩:=zw I.aE ea;let⟨od,J,_⟩:=O.look;show IO (W.kitx_own (cl.get _) cl.hd ha hn fw hm) I.cq J e (fun z=>nomatch z) h
end
structure bM(k:Nat)(A:Around):Prop where
 hd:A.handled=none
 dp:A.depth+3 * k+5 < recursionLimit
 un:A.units+16 * k+200 < cLine
def bM.mono{j k:Nat}{A:Around}(r:bM k A)(h:j<=k):bM j A:=#[r.hd,by have:=r.dp;omega,by have:=r.un;omega]
def bM.deeper{k:Nat}{A:Around}(r:bM (k+1) A)(env:Env):bM k (A.deeper env) :=
 #[r.hd,by have:=r.dp;change A.depth+1+3 * k+5 < _;omega,by have:=r.un;change A.units+3+16 * k+200 < _;omega]
def Q7{A:Around}{C:ϋ}{us:List ϊ}{kw:List (Str×ϊ)}:(A.under (.builtin "type.__call__" #[-C::us,kw])).depth=A.depth+1:=by
 first | rfl | simp[Around.under,Code.weight,Code.isCreation,Code.isGuard,Code.isCaller,Code.frames,Code.isFrame,guardIds]
def W9{A:Around}{C:ϋ}{us:List ϊ}{kw:List (Str×ϊ)}:(A.under (.builtin "type.__call__" #[-C::us,kw])).units=A.units+1:=by
 first | rfl | simp[Around.under,Code.cUnits,Code.frames,Code.isFrame]
def bM.make{k:Nat}{A:Around}(r:bM (k+1) A)(C:ϋ)(us:List ϊ)(kw:List (Str×ϊ)):bM k (A.under (.builtin "type.__call__" #[-C::us,kw])) :=
 #[r.hd,by have:=r.dp;rw[Q7];omega,by have:=r.un;rw[W9];omega]
def bM.depth{k:Nat}{A:Around}(r:bM k A):A.depth < recursionLimit:=by have:=r.dp;omega
def bM.units{k:Nat}{A:Around}(r:bM k A):A.units+64 < cLine:=by have:=r.un;omega
def bM.g7{k:Nat}{A:Around}(r:bM k A):A.units < cLine:=by have:=r.un;omega
def  gW:TA:=fun _ H Q=>Q [] H
def  gn(ta:TE)(tr:TA):TA:=fun σ H Q=>ta σ H fun x H1=>tr σ H1 fun xs H2=>Q (x::xs) H2
section
variable {X:Cx}{e:Expr}{es:List Expr}{te:TE}{t:TA}{pos:Pos}
def YW:PA X [] gW:=fun _ _ _ _ H Q I h=>_h #[[],H,I,.nil,h]
def Yl(ha:PE X e te)(hr:PA X es t)(hs:‹starEach (e::es) X.env=(false,eval e X.env)::starEach es X.env›):PA X (e::es) (gn te t):=by
 intro pos π s σ H Q I h;rw[hs];change wpAny _ _ (spliced ((false,eval e X.env)::backTo pos (starEach es X.env))) _ _ s;show _a (aH (ha π s σ H _ I h) fun u s1 #[x,H1,I1,r1,q1]=>?_);show aH (hr pos π s1 σ H1 _ I1 q1) fun us s2 #[xs,H2,I2,r2,q2]=>#[x::xs,H2,I2,.cons r1 r2,q2]
def  mF(t:TA):TE:=fun σ H Q=>t σ H fun xs H1=>xs.length<=sizeLine/\∀ p,H1 p=none->Q (-p) (upd H1 p (.tup xs))
def  yg(t:TA):TE:=fun σ H Q=>t σ H fun xs H1=>xs.length<=sizeLine/\∀ p,H1 p=none->Q (-p) (upd H1 p (.lst xs))
def Tz{x1}(h:PA X es t):PE X (.Tuple es x1 pos) (mF t):=by
 intro π s σ H Q I hq;show wpAny_Tuple_spliced (aH (h pos π s σ H _ I hq) fun us s1 #[xs,H1,I1,r,z,q]=>#[by rw[<- r.length];show z,?_]);have hf:H1 s1.heap.objs.size=none:=I1.aE.fresh (pi _);show#[-s1.heap.objs.size,upd H1 s1.heap.objs.size (.tup xs),I1.laid (t':=s1.toks) (fun b u e=>pp _ e) (pi _) ?_,rfl,q _ hf];show#[z,us,r,#[_,wn _ rfl,rfl,_,rfl,rfl]]
def Vu(h:PA X es t):PE X (.List es pos) (yg t):=by
 intro π s σ H Q I hq;show wpAny_List_spliced (aH (h pos π s σ H _ I hq) fun us s1 #[xs,H1,I1,r,z,q]=>#[by rw[<- r.length];show z,?_]);have hf:H1 s1.heap.objs.size=none:=I1.aE.fresh (pi _);show#[-s1.heap.objs.size,upd H1 s1.heap.objs.size (.lst xs),I1.laid (t':=s1.toks) (fun b u e=>pp _ e) (pi _) ?_,rfl,q _ hf];show#[z,us,0,r,wn _ rfl]
end
abbrev Sp:=List V->Hp->VK->XK->Prop
abbrev eP:=List Env->Hp->ό->XK->ϊ->ό->Prop
structure nq(P:ύ)(w:World)(K:ν)(mg:Str->Option ϊ)(base:Heap)(A:Around)(outer:List Env)(s:ό)(H:Hp):Prop where
 frames:A.frames=!outer
 mod:Mod K mg base
 bs:∀ b o,base.get? b=!o->s.heap.get? b=!o/\H b=none
 jw:base.objs.size<=s.heap.objs.size
 gN:s.heap.FunFrames base outer
 kq:∀ b∈cb outer,H b=none
 aE:cw P w H s.heap
 bare:AllBare s.gens
def  CE(outer:List Env)(P:ύ)(w:World)(H:Hp)(s:ό)(Q:VK)(u:ϊ)(s':ό):Prop :=
 ∃ v H',s'.os=s.os/\AllBare s'.gens/\Un (cb outer) [] H H' s.heap s'.heap/\cw P w H' s'.heap/\RelV v u/\Q v H'
def  CR(CX:eP)(outer:List Env)(P:ύ)(w:World)(H:Hp)(s:ό)(Q:VK)(E:XK)(r:Result)(s':ό):Prop :=
 match r with
 | .ok (.ret u)=>CE outer P w H s Q u s'
 | .ok _=>False
 | .error e=>CX outer H s E e s'
structure aA(P:ύ)(w:World)(K:ν)(mg:Str->Option ϊ)(base:Heap)(CX:eP)(k:Nat)(f:ϋ)(fd:FuncData)(ps:List Str)(sp:Sp):Prop where
 len:∀ vs H Q E,sp vs H Q E->vs.length=ps.length
 run:∀ (A:Around) (outer:List Env) (s:ό) (H:Hp) (args:Args) (us:List ϊ) (vs:List V) (Q:VK) (E:XK),bM k A->nq P w K mg base A outer s H->BindsTo s fd args (ps.zip us)->Vals vs us->sp vs H Q E ->
  codeAny (model P w) A (.call (-f) args) (CR CX outer P w H s Q E) s
def aA.imp{P:ύ}{w:World}{K:ν}{mg:Str->Option ϊ}{base:Heap}{CX:eP}{k:Nat}{f:ϋ}{fd:FuncData}{ps:List Str}{sp sp':Sp}(F:aA P w K mg base CX k f fd ps sp)(h:∀ vs H Q E,sp' vs H Q E->sp vs H Q E):aA P w K mg base CX k f fd ps sp' :=
 #[fun vs H Q E q=>F.len vs H Q E (h _ _ _ _ q),fun A outer s H args us vs Q E hr he hb hv hs=>F.run A outer s H args us vs Q E hr he hb hv (h _ _ _ _ hs)]
def nq.make{P:ύ}{w:World}{K:ν}{mg:Str->Option ϊ}{base:Heap}{A:Around}{outer:List Env}{s:ό}{H:Hp}(e:nq P w K mg base A outer s H)(C:ϋ)(us:List ϊ)(kw:List (Str×ϊ)) :
  nq P w K mg base (A.under (.builtin "type.__call__" #[-C::us,kw])) outer s H:=#[by first | show e.frames | (simpa [Around.under,Code.envs,Code.isFrame,pushEnvs] using e.frames),e.mod,e.bs,e.jw,e.gN,e.kq,e.aE,e.bare]
section
variable {X:Cx}{π:List (ϋ×Obj)}{σ:St}{H:Hp}{s s':ό}
def Inv.vV(I:Inv X π σ H s):nq X.prog X.w X.K X.mg X.base X.A X.stack s H :=
 #[I.ok.frames,I.ok.mod,I.bs,ut I.ok.jw I.sz,I.stack,I.yI,I.aE,I.bare]
def Inv.after{Q:VK}{u:ϊ}(I:Inv X π σ H s)(h:CE X.stack X.prog X.w H s Q u s'):EP X π σ Q u s':=by
 let⟨v,H',os,bare,un,aE,r,q⟩:=h;let⟨hh,g,d,t,os'⟩:=s';obtain rfl:os'=s.os:=os;show#[v,H',I.call (h':=hh) (g':=g) (d':=d) (t':=t) (ch:=[]) un aE bare (fun b z=>absurd z ()),r,q]
end
def  zf(sp:Sp)(bJ:List V)(E:XK)(t:TA):TE:=fun σ H Q=>t σ H fun vs H1=>sp (vs++bJ) H1 Q E
inductive MI(C:ϋ)(m:Str)(x:V)(H:Hp)(q:Prop):Prop
 | mk:∀ a dx fs,x=-a->H a=!.ins C dx fs->fs.lookup m=none->q->MI C m x H q
def  wq(C:ϋ)(m:Str)(sp:Sp)(bJ:List V)(E:XK)(ta:TE)(t:TA):TE:=fun σ H Q=>ta σ H fun x H1=>MI C m x H1 (t σ H1 fun vs H2=>sp (x::(vs++bJ)) H2 Q E)
def  vv(C:ϋ)(sp:Sp)(bJ:List V)(E:XK)(t:TA):TE:=fun σ H Q=>t σ H fun vs H1=>∀ x dx,H1 x=none->H1 dx=none->dx≠x ->
 sp (-x::(vs++bJ)) (upd (upd H1 dx (.own x)) x (.ins C dx [])) (fun v H2=>v=.aw/\Q (-x) H2) E
def  Binds(K:ν)(fd:FuncData)(ps:List Str)(ds:List ϊ):Prop :=
 ∀ (s:ό) (us:List ϊ),K.In s.heap->(us++ds).length=ps.length->BindsTo s fd #[us,[]] (ps.zip (us++ds))
def Binds.all{K:ν}{fd:FuncData}{ps:List Str}(h:∀ us:List ϊ,us.length=ps.length->bindArgs fd #[us,[]]=pure (ps.zip us)):Binds K fd ps []:=fun s us _ hl=>by
 rw[UV]at hl ⊢;show .of_eq (h us hl)
def  Passes(CX:eP)(X:Cx)(E:XK):Prop:=∀ (π:List (ϋ×Obj)) (σ:St) (H:Hp) (s:ό) (e:ϊ) (s':ό),Inv X π σ H s->CX X.stack H s E e s'->X.xe e s'
section
variable {X:Cx}{CX:eP}{k:Nat}{f C:ϋ}{fd:FuncData}{ps:List Str}{sp:Sp}{bJ:List V}{ds:List ϊ}{E:XK}{x m:Str}{p pos apos:Pos}{e o:Expr}{es:List Expr}{ta:TE}{t:TA}
def Ez{π:List (ϋ×Obj)}{σ:St}{H:Hp}{s:ό}{Q:VK}{us:List ϊ}{vs:List V}(F:aA X.prog X.w X.K X.mg X.base CX k f fd ps sp)(hr:bM k X.A)(hb:Binds X.K fd ps ds)(hd:Vals bJ ds)(hx:Passes CX X E)(I:Inv X π σ H s)(r:Vals vs us)(h:sp (vs++bJ) H Q E):wpAny (model X.prog X.w) X.A (call (-f) us) (EP X π σ Q) X.xe s:=by
 have r2:Vals (vs++bJ) (us++ds):=r.append hd;have hl:(us++ds).length=ps.length:=by rw[<- r2.length];show F.len _ _ _ _ h
 show _u (_T (F.run X.A X.stack s H #[us,[]] (us++ds) (vs++bJ) Q E hr I.vV (hb s us I.cq hl) r2 h) fun r s' hq=>?_);cases r with
 | error e=>show hx π σ H s e s' I hq
 | ok fl =>
  cases fl with
  | ret u=>show I.after hq
  | next=>show False.elim hq
  | brk=>show False.elim hq
  | cont=>show False.elim hq
def WN(F:aA X.prog X.w X.K X.mg X.base CX k f fd ps sp)(hr:bM k X.A)(hg:Gl X x)(hm:X.mg x=!-f)(hk:W.keepIn X.K (-f)=true)(hb:Binds X.K fd ps ds)(hd:Vals bJ ds)(hx:Passes CX X E)(ha:PA X (e::es) t)(b9:(x == ("__debug__":Str))=false:=by decide)(he:‹starEach (e::es) X.env=(false,eval e X.env)::starEach es X.env›)(bt:‹(backTo pos (starEach es X.env)).any (·.1)=false›) :
  PE X (.Call (.Name x p) (e::es) [] pos) (zf sp bJ E t):=by
 intro π s σ H Q I h;show Ix (mz I hg hm ?_ b9);show _b (h₀:=X.base) I.ok.mod.jX hk (aH (ha pos π s σ H _ I h) fun us s1 #[vs,H1,I1,r,q]=>#[I1.cq,?_]) he bt;show Ez F hr hb hd hx I1 r q
def Z7{pl:Sem Bool}(he:PE X o ta)(c:dD X.K C)(hm:Meth X.K C m f)(F:aA X.prog X.w X.K X.mg X.base CX k f fd ps sp)(hr:bM k X.A)(hb:Binds X.K fd ps ds)(hd:Vals bJ ds)(hx:Passes CX X E)(ha:PA X (e::es) t)(aR:‹starEach (e::es) X.env=(false,eval e X.env)::starEach es X.env›)(bt:‹(backTo pos (starEach es X.env)).any (·.1)=false›)(ht:‹eval (.Call (.Attribute o m apos) (e::es) [] pos) X.env=(do
   let ov <- eval o X.env
   standAt apos.atName
   let (f,first) <- holding [ov] (getMethod ov m pl)
   callWith pos f first (backTo pos (starEach (e::es) X.env)) (backToKw pos (keywordEach [] X.env)))›) :
  PE X (.Call (.Attribute o m apos) (e::es) [] pos) (wq C m sp bJ E ta t):=by
 intro π s σ H Q I h;show _3 (pl:=pl) (aH (he π s σ H _ I h) fun u s1 ⟨x,H1,I1,rx,a,dx,fs,ex,ea,l,q⟩=>?_) ht;subst ex;obtain rfl:u=ϊ.ref a:=rx;show C2 I1 ea c hm l ?_;show _b (first:=[-a]) (h₀:=X.base) I.ok.mod.jX hm.kp (aH (ha pos π s1 σ H1 _ I1 q) fun us s2 ⟨vs,H2,I2,r,q2⟩=>#[I2.cq,?_]) aR bt;show Ez (us:=-a::us) (vs:=-a::vs) F hr hb hd hx I2 (.cons rfl r) q2
def acY{pl:Sem Bool}(he:PE X o ta)(c:dD X.K C)(hm:Meth X.K C m f)(F:aA X.prog X.w X.K X.mg X.base CX k f fd ps sp)(hr:bM k X.A)(hb:Binds X.K fd ps ds)(hd:Vals bJ ds)(hx:Passes CX X E)(ht:‹eval (.Call (.Attribute o m apos) [] [] pos) X.env=(do
   let ov <- eval o X.env
   standAt apos.atName
   let (f,first) <- holding [ov] (getMethod ov m pl)
   callWith pos f first (backTo pos (starEach [] X.env)) (backToKw pos (keywordEach [] X.env)))›) :
  PE X (.Call (.Attribute o m apos) [] [] pos) (wq C m sp bJ E ta gW):=by
 intro π s σ H Q I h;show _3 (pl:=pl) (aH (he π s σ H _ I h) fun u s1 ⟨x,H1,I1,rx,a,dx,fs,ex,ea,l,q⟩=>?_) ht;subst ex;obtain rfl:u=ϊ.ref a:=rx;show C2 I1 ea c hm l ?_;show W.callWith_K0 (first:=[-a]) I1.cq hm.kp (Ez (us:=[-a]) (vs:=[-a]) F hr hb hd hx I1 (.cons rfl .nil) q)
structure Mk(K:ν)(C f:ϋ):Prop where
 makes:W.makesIn K C=true
 init:W.findIn K (-C) "__init__" = !(!-f)
 fn:W.isFn K (-f)=true
 kp:W.keepIn K (-C)=true
def Nx{π:List (ϋ×Obj)}{σ:St}{H:Hp}{s:ό}{Q:VK}{us:List ϊ}{vs:List V}(M:Mk X.K C f)(F:aA X.prog X.w X.K X.mg X.base CX k f fd ps sp)(hr:bM (k+1) X.A)(hb:Binds X.K fd ps ds)(hd:Vals bJ ds)(hx:Passes CX X E)(I:Inv X π σ H s)(r:Vals vs us)(h:∀ x dx,H x=none->H dx=none->dx≠x->sp (-x::(vs++bJ)) (upd (upd H dx (.own x)) x (.ins C dx [])) (fun v H2=>v=.aw/\Q (-x) H2) E) :
  wpAny (model X.prog X.w) X.A (call (-C) us) (EP X π σ Q) X.xe s:=by
 have hq:=h (s.heap.objs.size+1) s.heap.objs.size (I.aE.fresh (_Q _)) (I.aE.fresh (pi _)) (zn (FM _));have I2:=Inv.made (C:=C) I;have r2:Vals (V.ref (s.heap.objs.size+1)::(vs++bJ)) (ϊ.ref (s.heap.objs.size+1)::(us++ds)):=.cons rfl (r.append hd);have hl:(ϊ.ref (s.heap.objs.size+1)::us++ds).length=ps.length:=by
  have e:=r2.length;rw[F.len _ _ _ _ hq]at e;show e.symm
 show _u (VL (f:=f) I.cq M.makes M.init (ZB.mp M.fn) (_T (F.run _ X.stack _ _ #[ϊ.ref (s.heap.objs.size+1)::us,[]] (ϊ.ref (s.heap.objs.size+1)::(us++ds)) _ _ E (hr.make C us [])
  (I2.vV.make C us []) (hb _ (ϊ.ref (s.heap.objs.size+1)::us) I2.cq hl) r2 hq) fun r s' hq'=>?_))
 cases r with
 | error e=>show hx π σ _ _ e s' I2 hq'
 | ok fl =>
  cases fl with
  | ret u =>
   let⟨v,H',I3,rv,ev,q3⟩:=I2.after hq';subst ev;show#[rv,#[V.ref (s.heap.objs.size+1),H',I3,rfl,q3]]
  | next=>show False.elim hq'
  | brk=>show False.elim hq'
  | cont=>show False.elim hq'
def aaA(M:Mk X.K C f)(F:aA X.prog X.w X.K X.mg X.base CX k f fd ps sp)(hr:bM (k+1) X.A)(hg:Gl X x)(hm:X.mg x=!-C)(hb:Binds X.K fd ps ds)(hd:Vals bJ ds)(hx:Passes CX X E)(ha:PA X (e::es) t)(b9:(x == ("__debug__":Str))=false:=by decide)(he:‹starEach (e::es) X.env=(false,eval e X.env)::starEach es X.env›)(bt:‹(backTo pos (starEach es X.env)).any (·.1)=false›) :
  PE X (.Call (.Name x p) (e::es) [] pos) (vv C sp bJ E t):=by
 intro π s σ H Q I h;show Ix (mz I hg hm ?_ b9);show _b (h₀:=X.base) I.ok.mod.jX M.kp (aH (ha pos π s σ H _ I h) fun us s1 #[vs,H1,I1,r,q]=>#[I1.cq,?_]) he bt;show Nx M F hr hb hd hx I1 r q
def Us(M:Mk X.K C f)(F:aA X.prog X.w X.K X.mg X.base CX k f fd ps sp)(hr:bM (k+1) X.A)(hg:Gl X x)(hm:X.mg x=!-C)(hb:Binds X.K fd ps ds)(hd:Vals bJ ds)(hx:Passes CX X E)(b9:(x == ("__debug__":Str))=false:=by decide):PE X (.Call (.Name x p) [] [] pos) (vv C sp bJ E gW):=by
 intro π s σ H Q I h;show Ix (mz I hg hm ?_ b9);show W.callWith_K0 I.cq M.kp (Nx (us:=[]) M F hr hb hd hx I .nil h)
end
def  PK(X:Cx)(lB:List Keyword)(t:TA):Prop :=
 ∀ (pos:Pos) (π:List (ϋ×Obj)) (s:ό) (σ:St) (H:Hp) (Q:List V->Hp->Prop),Inv X π σ H s->t σ H Q->wpAny (model X.prog X.w) X.A (evalAll ((backToKw pos (keywordEach lB X.env)).map (·.2))) (AP X π σ Q) X.xe s
section
variable {X:Cx}{CX:eP}{k:Nat}{f C:ϋ}{fd:FuncData}{ps ks:List Str}{sp:Sp}{E:XK}{x m:Str}{p pos apos Ar:Pos}{e o:Expr}{es:List Expr}{lB:List Keyword}{te ta:TE}{t tk:TA}{nm:Option Str}
def Yq:PK X [] gW:=fun _ _ _ _ H Q I h=>wpAny_evalAll_nil #[[],H,I,.nil,h]
def acz(ha:PE X e te)(hr:PK X lB t):PK X (#[nm,e,Ar]::lB) (gn te t):=by
 intro pos π s σ H Q I h;change wpAny _ _ (evalAll ((do let v <- eval e X.env;standAt pos;pure v)::(backToKw pos (keywordEach lB X.env)).map (·.2))) _ _ s;show wpAny_evalAll_cons (jp (aH (ha π s σ H _ I h) fun u s1 #[x,H1,I1,r1,q1]=>jp (_K (tz ?_))));show aH (hr pos π s1 σ H1 _ I1 q1) fun us s2 #[xs,H2,I2,r2,q2]=>#[x::xs,H2,I2,.cons r1 r2,q2]
structure yL(K:ν)(fd:FuncData)(ps ks:List Str)(g:List ϊ->List ϊ->List ϊ)(gV:List V->List V->List V):Prop where
 to:∀ (s:ό) (us ws:List ϊ),K.In s.heap->(g us ws).length=ps.length->BindsTo s fd #[us,ks.zip ws] (ps.zip (g us ws))
 rel:∀ {vs:List V}{us:List ϊ}{zs:List V}{ws:List ϊ},Vals vs us->Vals zs ws->Vals (gV vs zs) (g us ws)
def  Bb(sp:Sp)(gV:List V->List V->List V)(E:XK)(t tk:TA):TE:=fun σ H Q=>t σ H fun vs H1=>tk σ H1 fun zs H2=>sp (gV vs zs) H2 Q E
variable {g:List ϊ->List ϊ->List ϊ}{gV:List V->List V->List V}
def R9{π:List (ϋ×Obj)}{σ:St}{H:Hp}{s:ό}{Q:VK}{us ws:List ϊ}{vs zs:List V}(F:aA X.prog X.w X.K X.mg X.base CX k f fd ps sp)(hr:bM k X.A)(hb:yL X.K fd ps ks g gV)(hx:Passes CX X E)(I:Inv X π σ H s)(r:Vals vs us)(rz:Vals zs ws)(h:sp (gV vs zs) H Q E):wpAny (model X.prog X.w) X.A (call (-f) us (ks.zip ws)) (EP X π σ Q) X.xe s:=by
 have r2:=hb.rel r rz;have hl:(g us ws).length=ps.length:=by rw[<- r2.length];show F.len _ _ _ _ h
 show _u (_T (F.run X.A X.stack s H #[us,ks.zip ws] (g us ws) (gV vs zs) Q E hr I.vV (hb.to s us ws I.cq hl) r2 h) fun r s' hq=>?_);cases r with
 | error e=>show hx π σ H s e s' I hq
 | ok fl =>
  cases fl with
  | ret u=>show I.after hq
  | next=>show False.elim hq
  | brk=>show False.elim hq
  | cont=>show False.elim hq
def aco(F:aA X.prog X.w X.K X.mg X.base CX k f fd ps sp)(hr:bM k X.A)(hg:Gl X x)(hm:X.mg x=!-f)(hk:W.keepIn X.K (-f)=true)(hb:yL X.K fd ps ks g gV)(hx:Passes CX X E)(ha:PA X (e::es) t)(Gz:PK X lB tk)(iF:‹(backToKw pos (keywordEach lB X.env)).all (·.1.isSome)=true›)(w9:‹(backToKw pos (keywordEach lB X.env)).filterMap (·.1)=ks›)(b9:(x == ("__debug__":Str))=false:=by decide)(he:‹starEach (e::es) X.env=(false,eval e X.env)::starEach es X.env›)(bt:‹((backTo pos (starEach (e::es) X.env)).any (·.1) || (backToKw pos (keywordEach lB X.env)).any (·.1.isNone))=false›) :
  PE X (.Call (.Name x p) (e::es) lB pos) (Bb sp gV E t tk):=by
 intro π s σ H Q I h;show Ix (mz I hg hm ?_ b9);show W.callWith_KW (h₀:=X.base) I.ok.mod.jX hk iF (aH (ha pos π s σ H _ I h) fun us s1 #[vs,H1,I1,r,q]=>?_) bt he;show aH (Gz pos π s1 σ H1 _ I1 q) fun ws s2 #[zs,H2,I2,rz,q2]=>#[I2.cq,?_];rw[w9];show R9 F hr hb hx I2 r rz q2
end
structure aG(N P:List Str)(sc:Scope):Prop where
 kind:sc.kind=.function
 co:sc.isCoroutine=false
 gen:sc.isGenerator=false
 nd:N.Nodup
 pre:N.take P.length=P
 par:∀ x∈P,sc.names.lookup x=!.local\/sc.names.lookup x=!.cell
 aaD:∀ y∈sc.names,y.2≠.free
def MC{kindOf:Str->Option NameKind}{x:Str}:∀ {binds:List (Str×ϊ)}{m:Str->Option ϊ},(∀ v,(x,v) ∉ binds)->bindL kindOf binds m x=m x
 | [],_,_=>rfl
 | (n,v)::r,m,h=>by
  unfold bindL;rw[MC fun w hw=>h w (Fr _ hw)];split
  ·have:x≠n:=by rintro rfl;show h v _t
   simp[this]
  ·rfl
def ID{kindOf:Str->Option NameKind}{x:Str}:∀ {binds:List (Str×ϊ)}{m:Str->Option ϊ},(∀ v,(x,v) ∉ binds)->bindC kindOf binds m x=m x
 | [],_,_=>rfl
 | (n,v)::r,m,h=>by
  unfold bindC;rw[ID fun w hw=>h w (Fr _ hw)];split
  ·rfl
  ·have:x≠n:=by rintro rfl;show h v _t
   simp[this]
def NC{kindOf:Str->Option NameKind}{x:Str}{v:ϊ}:∀ {P:List Str}{vs:List ϊ}{i:Nat}{m:Str->Option ϊ},P.Nodup->P[i]?=!x->vs[i]?=!v->kindOf x=!.local ->
  bindL kindOf (P.zip vs) m x=!v
 | [],_,_,_,_,h,_,_=>by simp at h
 | _::_,[],_,_,_,_,h,_=>by simp at h
 | p::P,w::vs,0,m,nd,h1,h2,hk=>by
  simp at h1 h2;subst h1;subst h2;change bindL kindOf ((p,w)::P.zip vs) m p=_;unfold bindL;rw[MC fun v hv=>(AT.mp nd).1 (List.of_mem_zip hv).1,wl hk];simp
 | p::P,w::vs,i+1,m,nd,h1,h2,hk=>by
  change bindL kindOf ((p,w)::P.zip vs) m x=_;unfold bindL;show NC (i:=i) (AT.mp nd).2 (by simpa using h1) (by simpa using h2) hk
def Ib{kindOf:Str->Option NameKind}{x:Str}{v:ϊ}:∀ {P:List Str}{vs:List ϊ}{i:Nat}{m:Str->Option ϊ},P.Nodup->P[i]?=!x->vs[i]?=!v->kindOf x≠!.local ->
  bindC kindOf (P.zip vs) m x=!v
 | [],_,_,_,_,h,_,_=>by simp at h
 | _::_,[],_,_,_,_,h,_=>by simp at h
 | p::P,w::vs,0,m,nd,h1,h2,hk=>by
  simp at h1 h2;subst h1;subst h2;change bindC kindOf ((p,w)::P.zip vs) m p=_;unfold bindC;rw[ID fun v hv=>(AT.mp nd).1 (List.of_mem_zip hv).1,wf hk];simp
 | p::P,w::vs,i+1,m,nd,h1,h2,hk=>by
  change bindC kindOf ((p,w)::P.zip vs) m x=_;unfold bindC;show Ib (i:=i) (AT.mp nd).2 (by simpa using h1) (by simpa using h2) hk
def  start(N:List Str)(vs:List V):St:=vs.map some++List.replicate (N.length - vs.length) none
def  iG(CX:eP)(P:ύ)(w:World)(K:ν)(mg:Str->Option ϊ)(base:Heap)(N:List Str)(qual:Str)(scope:Scope)(f:ϋ)(cd:ϊ)(A:Around)(outer:List Env)(s:ό)(H:Hp)(E:XK):Cx where
 prog:=P
 w:=w
 K:=K
 mg:=mg
 base:=base
 A:=A.deeper (envOfC qual scope s.heap.objs.size f cd)
 N:=N
 s₀:=s
 H₀:=H
 env:=envOfC qual scope s.heap.objs.size f cd
 outer:=outer
 stack:=envOfC qual scope s.heap.objs.size f cd::outer
 ex:=[]
 calm:=true
 fn:=fun _=>true
 pn:=[]
 xe:=fun e s'=>wpAny (model P w) (A.deeper (envOfC qual scope s.heap.objs.size f cd)) (leaving (envOfC qual scope s.heap.objs.size f cd) e) (fun _ s''=>CX outer H s E e s'') (fun e' s''=>CX outer H s E e' s'') s'
def M7{sc:Scope}{n:Nat}{x:Str}(h:sc.names.lookup x=!.cell):∃ c,(cellsFrom n sc.names []).lookup x=!c:=by
 have q:=W.cellsFrom_some sc.names n [] (.inl h);show On.mp q
def ab7{CX:eP}{P:ύ}{w:World}{K:ν}{mg:Str->Option ϊ}{base:Heap}{N ps:List Str}{qual:Str}{scope:Scope}{f:ϋ}{cd:ϊ}{A:Around}{outer:List Env}{s s1:ό}{H:Hp}{E:XK}{us:List ϊ}{vs:List V}(S:aG N ps scope)(hd:A.handled=none)(e0:nq P w K mg base A outer s H)(hl:vs.length=ps.length)(r:Vals vs us)(x:InCallC s s.heap.objs.size (bindL (envOfC qual scope s.heap.objs.size f cd).kindOf (ps.zip us) fun _=>none) (cellsFrom (s.heap.objs.size+1) scope.names []) (bindC (envOfC qual scope s.heap.objs.size f cd).kindOf (ps.zip us) fun _=>none) s1) :
  Inv (iG CX P w K mg base N qual scope f cd A outer s H E) [] (start N vs) H s1:=by
 have bt:ps.length<=N.length:=by have:=GE List.length S.pre;rw[W1]at this;omega
 let⟨h1,tk,rfl,hk⟩:=x.done;have wN:∀ b:ϋ,b ∉ (iG CX P w K mg base N qual scope f cd A outer s H E).ex:=fun b z=>absurd (show b∈([]:List ϋ) from z) ();show#[#[e0.mod,S.kind,rfl,rfl,pi _,fun y z c h1 h2=>?_,fun y hy=>?_,fun y c _ h=>?_,fun _=>hd,Around.frames_deeper e0.frames,.inr #[rfl,rfl],fun b z=>absurd z (wN b),e0.bs,e0.jw,fun b _ _=>wN b,fun b z=>absurd z (wN b),e0.gN,e0.kq],
  rfl,e0.bare,Un.kept hk,#[_,x.toInCall.ns,fun i y v h1 h2 h3=>?_],fun y c h=>#[_,x.cell y c h],e0.aE.fresh (pi _),fun y c h=>?_,fun p hp=>absurd (show p∈([]:List (ϋ×Obj)) from hp) (),e0.aE.kept hk,?_]
 ·show name_of_addr x.apart (Pi h1) (Pi h2)
 ·have hy:scope.names.lookup y=!.cell\/scope.names.lookup y=!.free:=hy;rcases hy with hy | hy
  ·show M7 hy
  ·show absurd rfl (S.aaD _ (Pi hy))
 ·show Nat.le_of_lt (x.above y c (Pi h))
 ·have hi:i < vs.length:=by
   unfold start at h2;by_cases hi:i < vs.length
   ·show hi
   ·rw[EQ (by simpa using hi)]at h2;rw[List.getElem?_replicate]at h2;split at h2 <;> cases h2
  have ha:vs[i]?=!v:=by
   unfold start at h2;rw[Cl (by simpa using hi),At]at h2;cases e:vs[i]? with
   | none=>rw[e]at h2;cases h2
   | some a=>rw[e]at h2;cases h2;rfl
  let⟨u,hu,rv⟩:=r.get ha;have hp:ps[i]?=!y:=by
   rw[<- S.pre,List.getElem?_take_of_lt ∅];show h1
  have PU:ps.Nodup:=by rw[<- S.pre];show S.nd.sublist (List.take_sublist _ _)
  show#[u,rv,?_];rcases S.par y (LE hp) with k | k
  ·show .inl #[k,NC PU hp hu k]
  ·let⟨c,e⟩:=M7 (n:=s.heap.objs.size+1) k;show .inr #[.inl k,c,e,?_];have q:=x.cell y c e;rw[Ib PU hp hu (by change scope.names.lookup y≠_;rw[k];decide)]at q;show q
 ·show e0.aE.fresh (Nat.le_of_lt (x.above y c (Pi h)))
 ·unfold start;change _=N.length;rw[mo,lv,_4];omega
def Fu{CX:eP}{P:ύ}{w:World}{K:ν}{mg:Str->Option ϊ}{base:Heap}{k:Nat}{f:ϋ}{name qual:Str}{params:Arguments}{body:List Stmt}{scope:Scope}{dV kV doc pm ax ct oc:ϊ}{an od:Option ϋ}{eV:Array (Option ϊ)}{N ps:List Str}{sp:Sp}(lk:K.lookup f=!#[oc,od,.func (W.fnOf name qual params body scope dV kV doc pm an ax ct),eV])(dQ:W.codeIn K ax qual=true)(S:aG N ps scope)(len:∀ vs H Q E,sp vs H Q E->vs.length=ps.length)(Gn:∀ (A:Around) (outer:List Env) (s:ό) (H:Hp) (vs:List V) (Q:VK) (E:XK),bM k (A.deeper (envOfC qual scope s.heap.objs.size f ax))->sp vs H Q E ->
   ∃ t,eA (iG CX P w K mg base N qual scope f ax A outer s H E) body t/\t { nx:=fun _ H'=>Q .aw H',rt:=Q } (start N vs) H) :
  aA P w K mg base CX (k+1) f (W.fnOf name qual params body scope dV kV doc pm an ax ct) ps sp:=by
 show#[len,fun A outer s H args us vs Q E hr e0 hb r gE=>?_];have hl:=len _ _ _ _ gE;have KX:K.In s.heap:=e0.mod.jX.keeps fun b o e=>(e0.bs b o e).1;have lim:s.heap.NoLimit:=e0.mod.nolimit.keeps fun b o e=>(e0.bs b o e).1;have hkind:∀ y∈ps.zip us,scope.names.lookup y.1=!.local\/(scope.names.lookup y.1=!.cell/\((cellsFrom (s.heap.objs.size+1) scope.names []).lookup y.1).isSome=true):=fun ⟨n,v⟩ hy=>by
  rcases S.par n (List.of_mem_zip hy).1 with q | q
  ·show .inl q
  ·show .inr #[q,W.cellsFrom_some _ _ _ (.inl q)]
 show codeAny_call_function hr.depth (KX _ _ lk) rfl S.co S.gen rfl (W.codeRec_of KX dQ) (hb _ _ _ _ ?_);show wpAny_newFunctionEnv_cells S.kind hkind fun env he s1 x=>?_;subst he;show#[lim.keeps x.toInCall.keep,codeAny_func ?_];let⟨t,ht,hq⟩:=Gn A outer s H vs Q E (hr.deeper _) gE;have I:Inv (iG CX P w K mg base N qual scope f ax A outer s H E) [] (start N vs) H s1:=ab7 S hr.hd e0 hl r x;show Op (ht [] s1 (start N vs) H _ I hq) (fun fl s' hs=>?_) fun e s' hs=>hs;have fin:∀ {σ':St}{H':Hp}{v:V}{u:ϊ},Inv (iG CX P w K mg base N qual scope f ax A outer s H E) [] σ' H' s'->RelV v u->Q v H'->CE outer P w H s Q u s' :=
  fun {σ' H' v u} J rv q=>#[v,H',J.os,J.bare,J.base,J.aE,rv,q]
 cases fl with
 | ret u =>
  let⟨v,σ',H',J,rv,q⟩:=hs;show fin J rv q
 | next =>
  let⟨σ',H',J,q⟩:=hs;show fin (v:=V.aw) (u:=ϊ.none) J rfl q
 | brk =>
  let⟨_,_,_,q⟩:=hs;show False.elim q
 | cont =>
  let⟨_,_,_,q⟩:=hs;show False.elim q
section
variable {X:Cx}{x:Str}{p pos:Pos}{e:Expr}{es:List Expr}{t:TA}{id T:String}{r:List V->Hp->VK->Prop}
def  pU(r:List V->Hp->VK->Prop)(t:TA):TE:=fun σ H Q=>t σ H fun vs H1=>r vs H1 Q
def UA(hc:cW X (.builtin id) r)(hg:Gl X x)(hm:X.mg x=none)(hv:bootBuiltins x=!.builtin id)(ha:PA X (e::es) t)(hn:x ≠ "__name__" := by decide)(b9:(x == ("__debug__":Str))=false:=by decide)(he:‹starEach (e::es) X.env=(false,eval e X.env)::starEach es X.env›)(bt:‹(backTo pos (starEach es X.env)).any (·.1)=false›):PE X (.Call (.Name x p) (e::es) [] pos) (pU r t):=by
 intro π s σ H Q I h;show Ix (qh I hg hm hv ?_ hn b9);show PyProof.Rows.callWith_builtin1 (aH (ha pos π s σ H _ I h) fun us s1 #[vs,H1,I1,r1,q1]=>hc π s1 σ H1 vs us Q I1 r1 q1) he bt
def ZY(hc:cW X (.type T) r)(hg:Gl X x)(hm:X.mg x=none)(hv:bootBuiltins x=!.type T)(ha:PA X (e::es) t)(hn:x ≠ "__name__" := by decide)(b9:(x == ("__debug__":Str))=false:=by decide)(he:‹starEach (e::es) X.env=(false,eval e X.env)::starEach es X.env›)(bt:‹(backTo pos (starEach es X.env)).any (·.1)=false›):PE X (.Call (.Name x p) (e::es) [] pos) (pU r t):=by
 intro π s σ H Q I h;show Ix (qh I hg hm hv ?_ hn b9);show WP (aH (ha pos π s σ H _ I h) fun us s1 #[vs,H1,I1,r1,q1]=>hc π s1 σ H1 vs us Q I1 r1 q1) he bt
end
end L2
namespace HT
open PySem PyProof.Rows
section
open PySem.SeqAt
open PySem.AutoSeq1 (wpAny_loadPart')
open PySem.MeetsSeq PySem.MeetsSeq2 PySem.MeetsSeq3
end
section
variable {prog:ύ}{w:World}{A:Around}{E:ϊ->ό->Prop}{s:ό}
def Zi{t b:ϋ}{vs ws:List ϊ}{Q:ϊ->ό->Prop}(ht:IsTup s.heap t vs.toArray)(hb:IsTup s.heap b ws.toArray)(hv:vs≠[])(h1:ws=[]->Q (-t) s)(h2:ws≠[]->Q (-s.heap.objs.size) { s with heap:=s.heap.push { cls:=.type "tuple",data:=.seq (vs++ws).toArray } })(hsz:vs.length+ws.length<=sizeLine):wpAny (model prog w) A (binaryOp .Add (-t) (-b)) Q E s:=by
 let⟨⟨cls,dd,data,sl⟩,ho,hc,n,hd⟩:=id ht;let⟨⟨cls2,Ae,data2,Ak⟩,ql,j5,n2,hd2⟩:=id hb;simp only at hc hd j5 hd2;subst hc hd j5 hd2;have e:vs.toArray++ws.toArray=(vs++ws).toArray:=()
 by_cases hw:ws=[]
 ·show concat_meets #[_,ho,rfl] #[_,ql,rfl] noFill_tuple_add seq_tuple_add PySem.F.slot_tuple_add PySem.F.entry_tuple_add (PySem.F.args_tuple_add_2 _ _)
   (tuple_addW1 t b vs.toArray ws.toArray n n2 dd Ae sl Ak (by simpa using hv) (by simp[hw])) #[ho,ql,h1 hw]
 ·show concat_meets #[_,ho,rfl] #[_,ql,rfl] noFill_tuple_add seq_tuple_add PySem.F.slot_tuple_add PySem.F.entry_tuple_add (PySem.F.args_tuple_add_2 _ _)
   (tuple_addW2 t b vs.toArray ws.toArray n n2 dd Ae sl Ak (by simpa using hv) (by simpa using hw) (by rw[List.size_toArray,List.size_toArray];show hsz)) #[ho,ql,?_]
  rw[e];show h2 hw
def  bC(n d:Nat):Option Int->Nat
 | none=>d
 | some v=>if v < 0 then (v+(n:Int)).toNat else min v.toNat n
def BL(n d:Nat):bC n d none=d:=rfl
def vg(n d k:Nat):bC n d (!(k:Int))=min k n:=by
 change(if (k:Int) < 0 then ((k:Int)+(n:Int)).toNat else min (k:Int).toNat n)=min k n;rw[if_neg ∅,Int.toNat_natCast]
def Rk(n d:Nat)(hd:d<=n)(o:Option Int):bC n d o<=n:=by
 cases o with
 | none=>show hd
 | some v =>
  change(if v < 0 then (v+(n:Int)).toNat else min v.toNat n)<=n;by_cases hv:v < 0
  ·rw[if_pos hv];omega
  ·rw[if_neg hv];show Nat.min_le_right _ _
def Ma(v:Int)(n d:Nat):(if v < 0 then max (v+(n:Int)) 0 else min v (n:Int))=((bC n d (!v):Nat):Int):=by
 change(if v < 0 then max (v+(n:Int)) 0 else min v (n:Int))=(((if v < 0 then (v+(n:Int)).toNat else min v.toNat n):Nat):Int);by_cases hv:v < 0
 ·simp only[if_pos hv];omega
 ·simp only[if_neg hv];omega
def YS(lo hi:Option Int)(n:Nat):Builtin.Slice.sliceAdjust lo hi 1 (n:Int)=(((bC n 0 lo:Nat):Int),((bC n n hi:Nat):Int)):=by
 have h1:¬ ((1:Int) < 0):=∅
 unfold Builtin.Slice.sliceAdjust;simp only[h1,if_false];show Prod.ext ?_ ?_
 ·cases lo with
  | none=>rfl
  | some v=>show Ma v n 0
 ·cases hi with
  | none=>rfl
  | some v=>show Ma v n n
def UW(i j:Nat):Builtin.Slice.slicePlaces (i:Int) (j:Int) 1=j - i:=by
 unfold Builtin.Slice.slicePlaces;have h1:(1:Int) > 0:=∅
 simp only[h1,if_true,Int.ediv_one];split <;> omega
def Lw{v:ϊ}{o:Option Int}{Q:Option Int->ό->Prop}(p:IsPart v o)(h:Q o s):wpAny (model prog w) A (Builtin.Slice.slicePartIndex v) Q E s:=by
 cases p with
 | none=>show slicePart_none h
 | int i t=>show slicePart_int h
def ND{sl:ϋ}{vl vu:ϊ}{lo hi:Option Int}{n:Nat}{Q:Int×Int×Nat->ό->Prop}(hs:s.heap.IsSliceOf sl vl vu .none)(pl:IsPart vl lo)(pu:IsPart vu hi)(h:Q (((bC n 0 lo:Nat):Int),1,bC n n hi - bC n 0 lo) s):wpAny (model prog w) A (Builtin.Slice.sliceApplied (-sl) (pure (n:Int))) Q E s:=by
 let⟨os,m4,Af,xc⟩:=id hs;unfold Builtin.Slice.sliceApplied Builtin.Slice.sliceFields;show wpAny_bind (wpAny_bind (wpAny_field m4 xc (x:=vl) rfl (wpAny_bind (wpAny_field m4 xc (x:=vu) rfl (wpAny_bind (wpAny_field m4 xc (x:=.none) rfl (wpAny_pure ?_)))))));show wpAny_bind (slicePart_none ?_);change wpAny _ _ (if ((1:Int) == 0)=true then _ else _) _ _ s;rw[if_neg ⋯];show wpAny_bind (Lw pl (wpAny_bind (Lw pu (wpAny_bind (wpAny_pure ?_)))));change wpAny _ _ (match Builtin.Slice.sliceAdjust lo hi 1 (n:Int) with | (lo,hi)=>pure (lo,(1:Int),Builtin.Slice.slicePlaces lo hi 1)) _ _ s;rw[YS lo hi n];change wpAny _ _ (pure (((bC n 0 lo:Nat):Int),(1:Int),Builtin.Slice.slicePlaces ((bC n 0 lo:Nat):Int) ((bC n n hi:Nat):Int) 1)) _ _ s;rw[UW];show wpAny_pure h
def abx(xs:Array ϊ)(i k:Nat):((List.range k).filterMap fun (m:Nat)=>xs[((i:Int)+(m:Int) * 1).toNat]?).toArray=((xs.toList.drop i).take k).toArray:=by
 have e:(fun (m:Nat)=>xs[((i:Int)+(m:Int) * 1).toNat]?)=fun m=>xs[i+m]?:=by
  funext m
  have:((i:Int)+(m:Int) * 1).toNat=i+m:=∅
  rw[this]
 rw[e];have:=pick_run xs i k;rw[List.filterMap_map]at this;have e2:((fun x=>xs[x]?) ∘ fun x=>i+x)=fun m=>xs[i+m]?:=rfl;rw[e2]at this;rw[this]
def abK{t sl:ϋ}{items:Array ϊ}{vl vu:ϊ}{lo hi:Option Int}{Q:ϊ->ό->Prop}(ht:IsTup s.heap t items)(hs:s.heap.IsSliceOf sl vl vu .none)(pl:IsPart vl lo)(pu:IsPart vu hi)(hw:¬ (bC items.size 0 lo=0/\bC items.size items.size hi=items.size))(h:Q (-s.heap.objs.size) { s with heap:=s.heap.push { cls:=.type "tuple",data:=.seq ((items.toList.drop (bC items.size 0 lo)).take (bC items.size items.size hi - bC items.size 0 lo)).toArray } })(hsz:items.size<=sizeLine):wpAny (model prog w) A (getItem (-t) (-sl)) Q E s:=by
 have Ah:sizeOk (.seq ((items.toList.drop (bC items.size 0 lo)).take (bC items.size items.size hi - bC items.size 0 lo)).toArray):=by
  change((items.toList.drop (bC items.size 0 lo)).take (bC items.size items.size hi - bC items.size 0 lo)).toArray.size<=sizeLine;rw[List.size_toArray,List.length_take,List.length_drop,Array.length_toList];omega
 have hj:bC items.size items.size hi<=items.size:=Rk _ _ (Nat.le_refl _) hi;let⟨os,m4,Af,xc⟩:=id hs;have G9:s.TypeIs (-sl) "slice" := #[os,m4,Af];unfold getItem
 try with_reducible show wpAny_holding ?_
 first | show wpAny_bind (wpAny_pure ?_) | skip
 show wpAny_bind (wpAny_sequenceKey ht.typeIs ⋯ ?_);show wpAny_bind (wpAny_callSpecial?_slot (name:=ώ "__getitem__") ht.typeIs PyProof.Rows.slot_tuple_getitem
  (wpAny_call_entry PyProof.Rows.slot_tuple_getitem ht.typeIs entry_tuple_getitem ?_ (args_tuple_getitem _ _)))
 change wpAny _ _ (Builtin.Tuple.tupleItemsOf (-t) >>= _) _ _ s;show wpAny_bind (tupleItemsOf_ ht ?_);show wpAny_bind (wpAny_typeOf G9 ?_);rw[if_pos ⋯];show wpAny_bind (ND hs pl pu ?_);have eF:¬ ((((bC items.size 0 lo:Nat):Int) == 0 && (1:Int) == 1 && (bC items.size items.size hi - bC items.size 0 lo) == items.size)=true):=by
  intro q;rw[Bool.and_eq_true,Bool.and_eq_true]at q;have q1:((bC items.size 0 lo:Nat):Int)=0:=eq_of_beq q.1.1;have q2:bC items.size items.size hi - bC items.size 0 lo=items.size:=eq_of_beq q.2;show hw #[∅,∅]
 change wpAny _ _ (if (((bC items.size 0 lo:Nat):Int) == 0 && (1:Int) == 1 && (bC items.size items.size hi - bC items.size 0 lo) == items.size)=true then _ else _) _ _ s;rw[if_neg eF,abx]
 first
  | show wpAny_bind (m:=Builtin.Tuple.tupleExact _) (wpAny_newObj_type (wpAny_pure #[_,rfl,wpAny_pure h]) Ah)
  | show wpAny_bind (m:=Builtin.Tuple.tupleExact _) (wpAny_newObj_type (wpAny_bind (wpAny_pure (wpAny_pure #[_,rfl,wpAny_pure h]))) Ah)
  | show wpAny_bind (wpAny_bind (m:=Builtin.Tuple.tupleExact _) (wpAny_newObj_type (wpAny_pure (wpAny_pure #[_,rfl,wpAny_pure h])) Ah))
  | show wpAny_bind (wpAny_bind (m:=Builtin.Tuple.tupleExact _) (wpAny_newObj_type (wpAny_pure #[_,rfl,wpAny_pure h]) Ah))
end
end HT
namespace L2
open PySem PySem.Spec PyProof.Rows
abbrev TO:=St->Hp->(Option Int->Hp->Prop)->Prop
def  PO(X:Cx)(e:Option Expr)(t:TO):Prop :=
 ∀ (π:List (ϋ×Obj)) (s:ό) (σ:St) (H:Hp) (Q:Option Int->Hp->Prop),Inv X π σ H s->t σ H Q ->
  wpAny (model X.prog X.w) X.A (evalPart e X.env) (fun u s'=>∃ o H',Inv X π σ H' s'/\IsPart u o/\Q o H') X.xe s
def  AG:TO:=fun _ H Q=>Q none H
section
variable {X:Cx}{e:Expr}{te:TE}{lo hi:Option Expr}{tl th:TO}{pos p2:Pos}
def V7:PO X none AG:=by
 intro π s σ H Q I h;rw[evalPart_none];show tz #[none,H,I,.none,h]
def  iV(X:Cx)(r:V->Option Int->Option Int->Hp->VK->Prop):Prop :=
 ∀ (π:List (ϋ×Obj)) (s:ό) (σ:St) (H:Hp) (x:V) (v vl vu:ϊ) (lo hi:Option Int) (sl:ϋ) (Q:VK),Inv X π σ H s->RelV x v->s.heap.IsSliceOf sl vl vu .none->IsPart vl lo->IsPart vu hi->r x lo hi H Q ->
  ∃ T id,typeLookup (.type T) "__getitem__" = pure (!.builtin id)/\s.TypeIs v T/\wpAny (model X.prog X.w) X.A (getItem v (-sl)) (EP X π σ Q) X.xe s
def iV.or{r r':V->Option Int->Option Int->Hp->VK->Prop}(h:iV X r)(h':iV X r'):iV X (fun x lo hi H Q=>r x lo hi H Q\/r' x lo hi H Q):=by
 intro π s σ H x v vl vu lo hi sl Q I rx hs pl pu q;rcases q with q | q
 ·show h π s σ H x v vl vu lo hi sl Q I rx hs pl pu q
 ·show h' π s σ H x v vl vu lo hi sl Q I rx hs pl pu q
def  Fn(r:V->Option Int->Option Int->Hp->VK->Prop)(te:TE)(tl th:TO):TE:=fun σ H Q=>te σ H fun x H1=>tl σ H1 fun l H2=>th σ H2 fun u H3=>r x l u H3 Q
def Sd{r:V->Option Int->Option Int->Hp->VK->Prop}(hr:iV X r)(he:PE X e te)(hl:PO X lo tl)(hu:PO X hi th):PE X (.Subscript e (.Slice lo hi none p2) pos) (Fn r te tl th):=by
 intro π s σ H Q I h;show Subscript_ (aH (he π s σ H _ I h) fun v s1 #[x,H1,I1,r1,q1]=>?_);show wpAny_Slice (aH (hl π s1 σ H1 _ I1 q1) fun vl s2 #[l,H2,I2,pl,q2]=>aH (hu π s2 σ H2 _ I2 q2) fun vu s3 #[u,H3,I3,pu,q3]=>?_);rw[evalPart_none];show tz ?_;have I4:Inv X π σ H3 { s3 with heap:=s3.heap.push { cls:=.type "slice",data:=.fields (List.toArray [vl,vu,.none]) } }:=I3.kept (t':=s3.toks) fun b ob q=>pp _ q;let⟨T,id,hT,ht,hg⟩:=hr π { s3 with heap:=s3.heap.push { cls:=.type "slice",data:=.fields (List.toArray [vl,vu,.none]) } } σ H3 x v vl vu l u s3.heap.objs.size Q I4 r1 (Heap.IsSliceOf.new ..) pl pu q3;change wpAny (model X.prog X.w) X.A (subscriptTail e (.Slice lo hi none p2) v (-s3.heap.objs.size)) (EP X π σ Q) X.xe { s3 with heap:=s3.heap.push { cls:=.type "slice",data:=.fields (List.toArray [vl,vu,.none]) } };show tail_any (ops:=[-s3.heap.objs.size,v]) ht hT hg (by with_unfolding_all rfl)
def  gq(xs:List V)(lo hi:Option Int):List V:=(xs.drop (HT.bC xs.length 0 lo)).take (HT.bC xs.length xs.length hi - HT.bC xs.length 0 lo)
def J0(xs:List V)(lo hi:Option Int):(gq xs lo hi).length<=xs.length:=by
 unfold gq;rw[W1,Ja3];omega
def  Nm(K:ν):V->Option Int->Option Int->Hp->VK->Prop:=fun x lo hi H Q=>∃ a xs,x=-a/\bK K H a xs /\
 ¬ (HT.bC xs.length 0 lo=0/\HT.bC xs.length xs.length hi=xs.length)/\∀ p,H p=none->Q (-p) (upd H p (.tup (gq xs lo hi)))
def MS:iV X (Nm X.K):=by
 intro π s σ H x v vl vu lo hi sl Q I rx hs pl pu h;let⟨a,xs,rfl,hx,hw,q⟩:=h;cases rx;let⟨au,r,ht,hz⟩:=I.tuple hx;have hlen:au.toArray.size=xs.length:=by rw[sK];show r.length.symm
 show#["tuple",_,PyProof.Rows.slot_tuple_getitem.lookup,ht.typeIs,?_];show HT.abK ht hs pl pu (by rw[hlen];show hw) ?_ (by rw[hlen];show hz);rw[hlen];show#[-s.heap.objs.size,_,I.laid (t':=s.toks) (o:=.tup (gq xs lo hi)) (fun b ob q=>pp _ q) (pi _) ?_,rfl,q _ (I.aE.fresh (pi _))];show#[ut (J0 xs lo hi) hz,_,(r.drop (HT.bC xs.length 0 lo)).take (HT.bC xs.length xs.length hi - HT.bC xs.length 0 lo),pj.new _ _]
def  Rc(K:ν):R2:=fun x y H Q=>∃ a b xs ys,x=-a/\y=-b/\bK K H a xs/\bK K H b ys/\xs≠[]/\xs.length+ys.length<=sizeLine /\
 (ys=[]->Q (-a) H)/\(ys≠[]->∀ p,H p=none->Q (-p) (upd H p (.tup (xs++ys))))
def Vals.Br{xs:List V}{us:List ϊ}(r:Vals xs us):us=[] ↔ xs=[]:=by
 cases r with
 | nil=>simp
 | cons _ _=>simp
def XS:bu X (binaryOp .Add) (Rc X.K):=by
 intro π s σ H x y v u Q I rx ry h;let⟨a,b,xs,ys,rfl,rfl,ha,hb,hx,hz,q1,q2⟩:=h;cases rx;cases ry;let⟨au,r1,p1,_⟩:=I.tuple ha;let⟨lF,r2,p2,_⟩:=I.tuple hb;show HT.Zi p1 p2 (fun z=>hx (r1.Br.mp z)) (fun z=>#[-a,H,I,rfl,q1 (r2.Br.mp z)]) (fun z=>?_) (by rw[<- r1.length,<- r2.length];show hz);show#[-s.heap.objs.size,_,I.laid (t':=s.toks) (o:=.tup (xs++ys)) (fun b ob q=>pp _ q) (pi _) ?_,rfl,q2 (fun w=>z (r2.Br.mpr w)) _ (I.aE.fresh (pi _))];show#[by rw[mo];show hz,_,r1.append r2,pj.new _ _]
end
def  ir(n:Nat)(i:Int):Option Nat:=if 0<=i then (if i < n then !i.toNat else none) else if (unop% Neg.neg ((n:Int)))<=i then !(i+n).toNat else none
def  cS{α:Type}(xs:List α)(i:Int):Option α:=(ir xs.length i).bind fun j=>xs[j]?
def MH{n:Nat}{i:Int}{j:Nat}(h:ir n i=!j):seqIndex? i n=!j/\j < n/\(unop% Neg.neg ((n:Int)))<=i/\i < n:=by
 unfold ir at h;by_cases h0:0<=i
 ·rw[wl h0]at h;by_cases h1:i < n
  ·rw[wl h1]at h;have e:i.toNat=j:=Fk h;show#[by rw[seqIndex_of h0 h1,e],∅,∅,h1]
  ·rw[wf h1]at h;cases h
 ·rw[wf h0]at h;by_cases h1:(unop% Neg.neg ((n:Int)))<=i
  ·rw[wl h1]at h;have e:(i+n).toNat=j:=Fk h;show#[by rw[seqIndex_neg ∅ h1,e],∅,h1,∅]
  ·rw[wf h1]at h;cases h
def Ce{α:Type}{xs:List α}{i:Int}{v:α}(h:cS xs i=!v):∃ j,seqIndex? i xs.length=!j/\xs[j]?=!v/\j < xs.length/\(unop% Neg.neg ((xs.length:Int)))<=i/\i < xs.length:=by
 unfold cS at h;cases e:ir xs.length i with
 | none=>rw[e]at h;cases h
 | some j =>
  rw[e]at h;let⟨h1,h2,h3,h4⟩:=MH e;show#[j,h1,h,h2,h3,h4]
def gZ{α:Type}{xs:List α}{j:Nat}{v:α}(h:xs[j]?=!v):cS xs (j:Int)=!v:=by
 have hj:j < xs.length:=(sB.mp h).1;have e:ir xs.length (j:Int)=!j:=by
  unfold ir;rw[wl ∅,wl ∅];simp
 unfold cS;rw[e];show h
def kx{α:Type}(xs:List α)(v:α):cS (xs++[v]) ((unop% Neg.neg (1)))=!v:=by
 have hl:(xs++[v]).length=xs.length+1:=()
 have e:ir (xs++[v]).length ((unop% Neg.neg (1)))=!xs.length:=by
  unfold ir;rw[hl,wf ⋯,wl ∅]
  congr 1
  omega
 unfold cS;rw[e];change(xs++[v])[xs.length]?=!v;simp
def  Kj(b:Expr):Prop:=∀ o i,subscripted b false o i=operate [o,i] (getItem o i)
def  gu(X:Cx)(r:R2):Prop :=
 ∀ (value slice:Expr) (π:List (ϋ×Obj)) (s:ό) (σ:St) (H:Hp) (x y:V) (v u:ϊ) (Q:VK),Inv X π σ H s->RelV x v->RelV y u->r x y H Q ->
  subscripted slice false v u=operate [v,u] (getItem v u)->wpAny (model X.prog X.w) X.A (subscriptTail value slice v u) (EP X π σ Q) X.xe s
def  dC(X:Cx)(id:String)(r:V->List V->Hp->VK->Prop):Prop :=
 ∀ (π:List (ϋ×Obj)) (s:ό) (σ:St) (H:Hp) (x:V) (xs:List V) (v:ϊ) (us:List ϊ) (Q:VK),Inv X π σ H s->RelV x v->Vals xs us->r x xs H Q ->
  wpAny (model X.prog X.w) X.A (call (.builtin id) (v::us)) (EP X π σ Q) X.xe s
section
variable {X:Cx}{a b:Expr}{ta tb:TE}{pos:Pos}
def gu.or{r r':R2}(h:gu X r)(h':gu X r'):gu X (fun x y H Q=>r x y H Q\/r' x y H Q):=by
 intro value slice π s σ H x y v u Q I rx ry q hs;rcases q with q | q
 ·show h value slice π s σ H x y v u Q I rx ry q hs
 ·show h' value slice π s σ H x y v u Q I rx ry q hs
def R8{r:R2}(hr:gu X r)(ha:PE X a ta)(hb:PE X b tb)(hs:Kj b):PE X (.Subscript a b pos) (jy r ta tb):=by
 intro π s σ H Q I h;show Subscript_ (C6 ha hb I h fun v u s2 x y H2 I2 rx ry q=>hr a b π s2 σ H2 x y v u Q I2 rx ry q (hs _ _))
def  MN(K:ν):R2:=fun x y H Q=>∃ p xs i v,x=-p/\y=.int i/\aC K H p xs/\cS xs i=!v/\Q v H
def  L9(K:ν):R2:=fun x y H Q=>∃ p xs i v,x=-p/\y=.int i/\bK K H p xs/\cS xs i=!v/\Q v H
def  J5:R2:=fun x y H Q=>∃ z i c,x=.str z/\y=.int i/\z.length<=sizeLine/\cS z.cps.toList i=!c/\Q (.str #[(List.toArray [c])]) H
def Oj:gu X (MN X.K):=by
 intro value slice π s σ H x y v u Q I rx ry h hs;let⟨p,xs,i,z,rfl,rfl,hq,he,q⟩:=h;cases rx;let⟨t,rfl⟩:=ry;let⟨au,r,pl,hz⟩:=I.list hq;let⟨j,h1,h2,h3,h4,h5⟩:=Ce he;let⟨w,ew,rw'⟩:=r.get h2;have hl:=r.length;have hn:=uH;have fin:EP X π σ Q w s:=#[z,H,I,rw',q];by_cases h0:0<=i
 ·have hj:i.toNat=j:=by
   rw[seqIndex_of h0 h5]at h1;show Fk h1
  show item_listR pl.isList h0 ∅ (by rw[hj];simpa using ew) fin hs
 ·have hj:(i+(au.toArray.size:Int)).toNat=j:=by
   rw[seqIndex_neg ∅ h4]at h1;rw[sK,<- hl];show Fk h1
  show subscriptTail_builtinR (x:=w) pl.isList.typeIs slot_list_getitem.lookup
   (wpAny_getItem_list_neg (Q:=fun r s'=>r=w/\EP X π σ Q r s') pl.isList ∅ (by rw[sK] <;> omega) ∅ (by rw[hj];simpa using ew) #[rfl,fin]) hs
def SK:gu X (L9 X.K):=by
 intro value slice π s σ H x y v u Q I rx ry h hs;let⟨p,xs,i,z,rfl,rfl,hq,he,q⟩:=h;cases rx;let⟨t,rfl⟩:=ry;let⟨au,r,pl,hz⟩:=I.tuple hq;let⟨j,h1,h2,h3,h4,h5⟩:=Ce he;let⟨w,ew,rw'⟩:=r.get h2;have hl:=r.length;have hn:=uH;have fin:EP X π σ Q w s:=#[z,H,I,rw',q];show subscriptTail_builtinR (x:=w) pl.typeIs slot_tuple_getitem.lookup
  (getItem_tuple (j:=j) (Q:=fun r s'=>r=w/\EP X π σ Q r s') pl ∅ ∅ (by rw[sK,<- hl];show h1) (by simpa using ew) #[rfl,fin]) hs
def XX:gu X J5:=by
 intro value slice π s σ H x y v u Q I rx ry h hs;let⟨z,i,c,rfl,rfl,hz,he,q⟩:=h;let⟨t,rfl⟩:=rx;let⟨t',rfl⟩:=ry;let⟨j,h1,h2,h3,h4,h5⟩:=Ce he;have hl:z.cps.toList.length=z.length:=by simp[Str.length]
 rw[hl]at h1 h4 h5;have hn:=uH;show tail_any (_E s z t) slot_str_getitem.lookup (getItem_str (c:=c) (by
  have e1:decide (i < (unop% Neg.neg ((2 ^ 63:Int))))=false:=kt ∅;have e2:decide (i ≥ 2 ^ 63)=false:=kt ∅;rw[e1,e2,Jaw]) (by rw[h1];simpa using h2) #[.str #[(List.toArray [c])],H,I.tok _,#[_,rfl],q]) hs
def  rIx(K:ν):R2:=fun x y H Q=>MN K x y H Q\/L9 K x y H Q\/J5 x y H Q
def abp:gu X (rIx X.K):=Oj.or (SK.or XX)
def V9(au:List ϊ)(n j:Nat)(u:ϊ):Obj.mapSeq (·.setIfInBounds j u) { cls:=.type "list",data:=.seq au.toArray n }={ cls:=.type "list",data:=.seq (au.set j u).toArray n }:=by
 simp[Obj.mapSeq]
def Inv.lst{π:List (ϋ×Obj)}{σ:St}{H:Hp}{s:ό}{p:ϋ}{xs:List V}(I:Inv X π σ H s)(h:H p=!.lst xs) :
  ∃ (au:List ϊ) (n:Nat),Vals xs au/\s.heap.get? p=!{ cls:=.type "list",data:=.seq au.toArray n }/\xs.length<=sizeLine:=by
 let⟨z,au,n,r,e⟩:=I.aE p _ h;show#[au,n,r,e,z]
def Inv.Xm{π:List (ϋ×Obj)}{σ:St}{H:Hp}{s:ό}{p:ϋ}{xs ys:List V}{au its':List ϊ}{n n':Nat}{f:Obj->Obj}(I:Inv X π σ H s)(h:H p=!.lst xs)(ho:s.heap.get? p=!{ cls:=.type "list",data:=.seq au.toArray n })(hf:f { cls:=.type "list",data:=.seq au.toArray n }={ cls:=.type "list",data:=.seq its'.toArray n' })(r:Vals ys its')(hz:ys.length<=sizeLine)(t:Nat) :
  Inv X π σ (upd H p (.lst ys)) { s with heap:=s.heap.update p f,toks:=t }:=by
 have e:(s.heap.update p f).get? p=!{ cls:=.type "list",data:=.seq its'.toArray n' }:=by
  rw[Ty f ho (by rw[hf] <;> rfl),hf]
 show I.write (x:=p) (e:=p) (by rw[h];trivial) (.inl rfl) (fun b u hb q=>(Id _ _ (ss hb)).trans q) #[_,e] ?_;show#[hz,its',n',r,e]
def  Zy:V->V->V->Hp->(Hp->Prop)->Prop:=fun o i v H Q=>∃ p xs k j,o=-p/\i=.int k/\H p=!.lst xs/\ir xs.length k=!j/\Q (upd H p (.lst (xs.set j v)))
def set_list:zc X Zy:=by
 intro π s σ H o i v ov iv u Q I ro ri rv h;let⟨p,xs,k,j,rfl,rfl,hp,hj,q⟩:=h;cases ro;let⟨t,rfl⟩:=ri;let⟨au,n,r,ho,hz⟩:=I.lst hp;let⟨h1,h2,h3,h4⟩:=MH hj;have hl:=r.length;have hn:=uH;have I':Inv X π σ (upd H p (.lst (xs.set j v))) { s with heap:=s.heap.update p (Obj.mapSeq (·.setIfInBounds j u)) } :=
  I.Xm hp ho (V9 au n j u) (r.set rv j) (by rw[List.length_set];show hz) s.toks
 by_cases h0:0<=k
 ·have hk:k.toNat=j:=by
   rw[seqIndex_of h0 h4]at h1;show Fk h1
  show W.ki_setAt ho h0 ∅ (by rw[sK,<- hl];show h4) (by rw[hk];show#[_,I',q])
 ·have hk:(k+(au.toArray.size:Int)).toNat=j:=by
   rw[seqIndex_neg ∅ h3]at h1;rw[sK,<- hl];show Fk h1
  show W.ki_setBack ho ∅ (by rw[sK,<- hl];show h3) ∅ (by rw[hk];show#[_,I',q])
def Sg(lo hi:Option Int)(n:Nat):(sliceBounds lo hi none n).1=((HT.bC n 0 lo:Nat):Int)/\(sliceBounds lo hi none n).2.1=((HT.bC n n hi:Nat):Int)/\(sliceBounds lo hi none n).2.2=1:=by
 show#[?_,?_,rfl]
 ·cases lo with
  | none=>simp[sliceBounds,HT.bC]
  | some i =>
   simp only[sliceBounds,HT.bC,Option.getD_none,show(1:Int) > 0 by decide,if_true];by_cases h:i < 0
   ·simp only[h,if_true] <;> omega
   ·simp only[h,Wp] <;> omega
 ·cases hi with
  | none=>simp[sliceBounds,HT.bC]
  | some i =>
   simp only[sliceBounds,HT.bC,Option.getD_none,show(1:Int) > 0 by decide,if_true];by_cases h:i < 0
   ·simp only[h,if_true] <;> omega
   ·simp only[h,Wp] <;> omega
def XA(au:List ϊ)(lo hi:Option Int):slicePick au.toArray lo hi none=((au.drop (HT.bC au.length 0 lo)).take (HT.bC au.length au.length hi - HT.bC au.length 0 lo)).toArray:=by
 let⟨h1,h2,h3⟩:=Sg lo hi au.toArray.size;unfold slicePick;rw[h1,h2,h3];simp only[sliceRange_one,pick_run,sK] <;> rfl
def  So(K:ν):V->Option Int->Option Int->Hp->VK->Prop:=fun x lo hi H Q=>∃ a xs,x=-a/\aC K H a xs/\∀ p,H p=none->Q (-p) (upd H p (.lst (gq xs lo hi)))
def Wu:iV X (So X.K):=by
 intro π s σ H x v vl vu lo hi sl Q I rx hs pl pu h;let⟨a,xs,rfl,hx,q⟩:=h;cases rx;let⟨au,r,ht,hz⟩:=I.list hx;have hlen:=r.length;show#["list",_,slot_list_getitem.lookup,ht.isList.typeIs,?_];show wpAny_getItem_list_slice ht.isList hs pl pu .none () ?_ (by rw[sK] <;> omega);rw[XA,<- hlen];show#[-s.heap.objs.size,_,I.laid (t':=s.toks) (o:=.lst (gq xs lo hi)) (fun b ob q=>pp _ q) (pi _) ?_,rfl,q _ (I.aE.fresh (pi _))];show#[ut (J0 xs lo hi) hz,_,0,(r.drop (HT.bC xs.length 0 lo)).take (HT.bC xs.length xs.length hi - HT.bC xs.length 0 lo),wn _ rfl]
def  cN:V->Bool
 | .aw=>true
 | .bl _=>true
 | .int _=>true
 | .str _=>true
 | _=>false
def  fE:V->V->Bool
 | .aw,.aw=>true
 | .bl a,.bl b=>a == b
 | .bl a,.int b=>(if a then 1 else 0) == b
 | .int a,.bl b=>a == (if b then 1 else 0)
 | .int a,.int b=>a == b
 | .str a,.str b=>a == b
 | _,_=>false
def Kx{A:Around}{s:ό}{y x:V}{u v:ϊ}(ry:RelV y u)(rx:RelV x v)(fy:cN y=true)(fx:cN x=true):SeqAt.EqAt A s u v (fE y x):=by
 cases y with
 | aw =>
  cases ry;cases x with
  | aw=>cases rx;show SeqAt.EqAt.same _
  | bl b=>cases rx;show SeqAt.EqAt.none_bool b
  | int b=>let⟨t,rfl⟩:=rx;show SeqAt.EqAt.none_int b t
  | str b=>let⟨t,rfl⟩:=rx;show SeqAt.EqAt.none_str b t
  | _=>show absurd (show false=true from fx) wE
 | bl a =>
  cases ry;cases x with
  | aw=>cases rx;show SeqAt.EqAt.bool_none a
  | bl b=>cases rx;show SeqAt.EqAt.bool_bool a b
  | int b=>let⟨t,rfl⟩:=rx;show SeqAt.EqAt.bool_int a b t
  | str b=>let⟨t,rfl⟩:=rx;show SeqAt.EqAt.bool_str a b t
  | _=>show absurd (show false=true from fx) wE
 | int a =>
  let⟨t',rfl⟩:=ry;cases x with
  | aw=>cases rx;show SeqAt.EqAt.int_none a t'
  | bl b=>cases rx;show SeqAt.EqAt.int_bool a t' b
  | int b=>let⟨t,rfl⟩:=rx;show SeqAt.EqAt.int_int a t' b t
  | str b=>let⟨t,rfl⟩:=rx;show SeqAt.EqAt.int_str a t' b t
  | _=>show absurd (show false=true from fx) wE
 | str a =>
  let⟨t',rfl⟩:=ry;cases x with
  | aw=>cases rx;show SeqAt.EqAt.str_none a t'
  | bl b=>cases rx;show SeqAt.EqAt.str_bool a t' b
  | int b=>let⟨t,rfl⟩:=rx;show SeqAt.EqAt.str_int a t' b t
  | str b=>let⟨t,rfl⟩:=rx;show SeqAt.EqAt.str_str a t' b t
  | _=>show absurd (show false=true from fx) wE
 | _=>show absurd (show false=true from fy) wE
def  gQ(x:V)(u:ϊ):Bool:=match u with
 | .none=>fE .aw x
 | .bool b=>fE (.bl b) x
 | .int i _=>fE (.int i) x
 | .str z _=>fE (.str z) x
 | _=>false
def Mx{x y:V}{u:ϊ}(r:RelV y u)(f:cN y=true):gQ x u=fE y x:=by
 cases y with
 | aw=>cases r;rfl
 | bl b=>cases r;rfl
 | int i=>let⟨t,rfl⟩:=r;rfl
 | str z=>let⟨t,rfl⟩:=r;rfl
 | _=>show absurd (show false=true from f) wE
def vL{x:V}:∀ {xs:List V}{us:List ϊ},Vals xs us->xs.all cN=true->us.any (gQ x)=xs.any fun y=>fE y x
 | _,_,.nil,_=>rfl
 | y::xs,u::us,.cons r t,f=>by
  rw[IN,AC]at f;rw[_k,_k,Mx r f.1,vL t f.2]
def wB{A:Around}{s:ό}{x:V}{v:ϊ}(rx:RelV x v)(fx:cN x=true):∀ {xs:List V}{us:List ϊ},Vals xs us->xs.all cN=true->∀ u∈us,SeqAt.EqAt A s u v (gQ x u)
 | _,_,.nil,_=>fun u hu=>by cases hu
 | y::xs,u::us,.cons r t,f=>fun u' hu=>by
  rw[IN,AC]at f;rcases li.mp hu with rfl | hu
  ·rw[Mx r f.1];show Kx r rx f.1 fx
  ·show wB rx fx t f.2 u' hu
def  g9(x:V)(xs:List V):Bool:=xs.any fun y=>fE y x
def  Ox(K:ν)(neg:Bool):R2:=fun x y H Q=>∃ p xs,y=-p/\(aC K H p xs\/bK K H p xs)/\cN x=true/\xs.all cN=true/\Q (.bl (if neg then Bool.not (g9 x xs) else g9 x xs)) H
def Ji:bu X (compareOp .In) (Ox X.K false):=by
 intro π s σ H x y v u Q I rx ry h;let⟨p,xs,rfl,hq,fx,fs,q⟩:=h;cases ry;rcases hq with hq | hq
 ·let⟨au,r,pl,hz⟩:=I.list hq;show SeqAt.in_listAt (gQ x) pl.isList (fun w hw=>wB rx fx r fs w (by simpa using hw)) #[.bl _,H,I,rfl,?_];rw[show au.toArray.any (gQ x)=au.any (gQ x) by simp,vL r fs];show q
 ·let⟨au,r,pl,hz⟩:=I.tuple hq;show SeqAt.in_tupleAt (gQ x) pl (fun w hw=>wB rx fx r fs w (by simpa using hw)) #[.bl _,H,I,rfl,?_];rw[show au.toArray.any (gQ x)=au.any (gQ x) by simp,vL r fs];show q
def Tj:bu X (compareOp .NotIn) (Ox X.K true):=by
 intro π s σ H x y v u Q I rx ry h;let⟨p,xs,rfl,hq,fx,fs,q⟩:=h;cases ry;rcases hq with hq | hq
 ·let⟨au,r,pl,hz⟩:=I.list hq;show SeqAt.notIn_listAt (gQ x) pl.isList (fun w hw=>wB rx fx r fs w (by simpa using hw)) #[.bl _,H,I,rfl,?_];rw[show au.toArray.any (gQ x)=au.any (gQ x) by simp,vL r fs];show q
 ·let⟨au,r,pl,hz⟩:=I.tuple hq;show SeqAt.notIn_tupleAt (gQ x) pl (fun w hw=>wB rx fx r fs w (by simpa using hw)) #[.bl _,H,I,rfl,?_];rw[show au.toArray.any (gQ x)=au.any (gQ x) by simp,vL r fs];show q
def Rm:cW X (.type "list") (fun xs H Q=>∃ p ys,xs=[-p]/\(aC X.K H p ys\/bK X.K H p ys)/\∀ l,H l=none->Q (-l) (upd H l (.lst ys))):=by
 intro π s σ H xs us Q I r h;let⟨p,ys,rfl,hq,q⟩:=h;let⟨u,rfl,rx⟩:=vals1 r;cases rx;have fin:∀ (au:List ϊ),Vals ys au->ys.length<=sizeLine->∀ (h':Heap) (c':Nat),(∀ b o',s.heap.get? b=!o'->h'.get? b=!o') ->
   h'.get? s.heap.objs.size=!{ cls:=.type "list",dict:=none,data:=.seq au.toArray c',slots:=(List.toArray []) }->EP X π σ Q (-s.heap.objs.size) { s with heap:=h' }:=fun au r' hz h' c' kp e =>
  #[-s.heap.objs.size,_,I.laid (t':=s.toks) kp (pi _) (show ck X.prog X.w _ h' _ (.lst ys) from#[hz,au,c',r',e]),rfl,q _ (I.aE.fresh (pi _))]
 rcases hq with hq | hq
 ·let⟨au,r',pl,hz⟩:=I.list hq;have hlen:=r'.length;let⟨o,ho,hc,n,hd⟩:=pl.isList;show call_list_seq p (.inl rfl) ho hc hd (fun h' c' kp e=>fin au r' hz h' c' kp e) (by simp only[sK] <;> omega)
 ·let⟨au,r',pl,hz⟩:=I.tuple hq;have hlen:=r'.length;let⟨o,ho,hc,n,hd⟩:=pl;show call_list_seq p (.inr rfl) ho hc hd (fun h' c' kp e=>fin au r' hz h' c' kp e) (by simp only[sK] <;> omega)
def  Yx(K:ν)(T:String)(x:V)(H:Hp):Prop:=match x with
 | .str _=>T = "str"
 | .int _=>T = "int"
 | .ref p=>(T = "list" /\ ∃ xs,aC K H p xs)\/(T = "tuple" /\ ∃ o,K.lookup p=!o/\o.cls=.type "tuple" /\ o.dict=none) \/
   (T = "dict" /\ ((∃ kvs,H p=!.dK kvs)\/∃ kvs,H p=!.dT kvs))\/(T = "set" /\ ∃ S n,H p=!.set S n)
 | _=>False
def AJ{π:List (ϋ×Obj)}{σ:St}{H:Hp}{s:ό}{T:String}{x:V}{v:ϊ}(I:Inv X π σ H s)(r:RelV x v)(ty:Yx X.K T x H) :
  s.TypeIs v T/\∀ a,v=-a->∃ ob,s.heap.get? a=!ob/\ob.dict=none:=by
 cases x with
 | str z =>
  let⟨t,rfl⟩:=r;cases (show T = "str" from ty);show#[_E s z t,fun _ e=>nomatch e]
 | int i =>
  let⟨t,rfl⟩:=r;cases (show T = "int" from ty);show#[typeIs_int s i t,fun _ e=>nomatch e]
 | ref p =>
  cases r;rcases ty with ⟨rfl,xs,hq⟩ | ⟨rfl,o,hk,hc,hd⟩ | ⟨rfl,hk⟩ | ⟨rfl,S,n,hk⟩
  ·let⟨au,_,pl,_⟩:=I.list hq;show#[pl.isList.typeIs,fun a e=>?_];cases e;let⟨o,n,e,c,hd,_⟩:=pl;show#[o,e,hd]
  ·show#[#[o,I.cq p o hk,hc],fun a e=>?_];cases e;show#[o,I.cq _ o hk,hd]
  ·have z:∃ o,s.heap.get? p=!o/\o.ExactDict:=by
    rcases hk with ⟨kvs,hk⟩ | ⟨kvs,hk⟩
    ·let⟨_,_,_,_,o,_,_,e,ex,_⟩:=I.aE p _ hk;show#[o,e,ex]
    ·let⟨_,_,_,_,o,_,_,e,ex,_⟩:=I.aE p _ hk;show#[o,e,ex]
   let⟨o,e,ex⟩:=z;show#[#[o,e,ex.1],fun a e2=>?_];cases e2;show#[o,e,ex.2.1]
  ·let⟨o,_,_,_,e,ex,_⟩:=I.aE p _ hk;show#[#[o,e,ex.1],fun a e2=>?_];cases e2;show#[o,e,ex.2.1]
 | _=>show False.elim ty
variable {o e:Expr}{es:List Expr}{to:TE}{t:TA}{name:Str}{apos bB:Pos}{T id:String}{r:V->List V->Hp->VK->Prop}
/- xs.append(e),list.index on a module's tuple .. are dC facts of 06m -/
end
def  ze(X:Cx)(id:String)(r:V->List V->Hp->VK->Prop):Prop :=
 ∀ (π:List (ϋ×Obj)) (s:ό) (σ:St) (H:Hp) (x:V) (xs:List V) (v:ϊ) (us:List ϊ) (Q:VK),Inv X π σ H s->RelV x v->Vals xs us->r x xs H Q ->
  wpAny (model X.prog X.w) X.A (call (.builtin id) (v::us)) (EP X π σ Q) X.xe s
def Vals.one:∀ {x:V}{us:List ϊ},Vals [x] us->∃ u,us=[u]/\RelV x u
 | _,_,.cons r .nil=>#[_,rfl,r]
def Vals.zero:∀ {us:List ϊ},Vals [] us->us=[]
 | _,.nil=>rfl
def Vals.dropLast{xs:List V}{us:List ϊ}(h:Vals xs us):Vals xs.dropLast us.dropLast:=by
 induction h with
 | nil=>show .nil
 | cons r t ih =>
  cases t with
  | nil=>show .nil
  | cons q t'=>show .cons r ih
def Vals.eraseIdx:∀ {xs:List V}{us:List ϊ} (i:Nat),Vals xs us->Vals (xs.eraseIdx i) (us.eraseIdx i)
 | _,_,_,.nil=>.nil
 | _,_,0,.cons _ t=>t
 | _,_,i+1,.cons r t=>.cons r (Vals.eraseIdx i t)
def Vals.rep{xs:List V}{us:List ϊ}(h:Vals xs us):∀ k:Nat,Vals (List.replicate k xs).flatten (List.replicate k us).flatten
 | 0=>.nil
 | k+1=>by
  rw[WF,WF,_U,_U];show Vals.append h (Vals.rep h k)
def aba{α:Type}(l:List α):l.eraseIdx (l.length - 1)=l.dropLast:=by
 induction l with
 | nil=>rfl
 | cons a r ih =>
  cases r with
  | nil=>rfl
  | cons b r =>
   have e:(a::b::r).length - 1=((b::r).length - 1)+1:=by
    have h1:(a::b::r).length=r.length+2:=rfl;have h2:(b::r).length=r.length+1:=rfl;omega
   rw[e,List.eraseIdx_cons_succ,ih]
   all_goals rfl
def MF{α:Type}:∀ (l:List α) (i:Nat),(l.eraseIdx i).length<=l.length
 | [],_=>pi _
 | _::_,0=>_Q _
 | _::r,i+1=>_q (MF r i)
def foldl_rep(au:List ϊ):∀ (k:Nat) (acc:List ϊ),
  List.foldl (fun x1 x2=>x1++x2) acc.toArray (List.replicate k au.toArray)=(acc++(List.replicate k au).flatten).toArray
 | 0,acc=>by simp
 | k+1,acc=>by
  have e:acc.toArray++au.toArray=(acc++au).toArray:=()
  have e2:(acc++au)++(List.replicate k au).flatten=acc++(List.replicate (k+1) au).flatten:=by
   rw[WF,_U,_V]
  rw[<- e2,<- foldl_rep au k (acc++au),<- e,WF,List.foldl_cons]
section
variable {X:Cx}{π:List (ϋ×Obj)}{σ:St}{H:Hp}{s:ό}{l b:ϋ}{xs ys zs:List V}
def Inv.yl{au its':List ϊ}{n:Nat}{f:Array ϊ->Array ϊ}{t':Nat}(I:Inv X π σ H s)(hH:H l=!.lst xs)(e:s.heap.get? l=!{ cls:=.type "list",data:=.seq au.toArray n })(hf:f au.toArray=its'.toArray)(hv:Vals ys its')(hz:ys.length<=sizeLine) :
  Inv X π σ (upd H l (.lst ys)) { s with heap:=s.heap.update l (Obj.mapSeq f),toks:=t' }:=by
 have q:=PySem.IsL.update e f;rw[hf]at q;show I.write (x:=l) (e:=l) (by rw[hH];show trivial) (.inl rfl) (fun b' u hb hu=>(Id s.heap (Obj.mapSeq f) (ss hb)).trans hu) #[_,q] ?_;show#[hz,its',_,hv,q]
def Inv.Im{au:List ϊ}{t':Nat}(I:Inv X π σ H s)(hv:Vals ys au)(hz:ys.length<=sizeLine) :
  Inv X π σ (upd H s.heap.objs.size (.lst ys)) { s with heap:=s.heap.push { cls:=.type "list",data:=.seq au.toArray },toks:=t' } :=
 I.laid (fun _ _ q=>pp _ q) (pi _) #[hz,au,0,hv,wn _ rfl]
def Inv.fresh(I:Inv X π σ H s):H s.heap.objs.size=none:=I.aE.fresh (pi _)
def Inv.nI(I:Inv X π σ H s)(hH:H l=!.lst xs):xs.length<=sizeLine/\∃ (au:List ϊ) (n:Nat),Vals xs au/\xs.length=au.length/\s.heap.get? l=!{ cls:=.type "list",data:=.seq au.toArray n }:=by
 let⟨z,au,n,r,e⟩:=I.aE l _ hH;show#[z,au,n,r,r.length,e]
def Np{n:Nat}(h:n<=sizeLine):Builtin.List.listTooLong n=false:=by
 unfold Builtin.List.listTooLong;show kt ∅
end
section
variable {X:Cx}
def  Vm:V->List V->Hp->VK->Prop:=fun x vs H Q=>∃ l xs y,x=-l/\vs=[y]/\H l=!.lst xs/\xs.length < sizeLine/\Q .aw (upd H l (.lst (xs++[y])))
def SW:ze X "list.append" Vm:=by
 intro π s σ H x vs v us Q I rx rv h;let⟨l,xs,y,rfl,rfl,hH,hz,q⟩:=h;cases rx;let⟨u,rfl,ru⟩:=rv.one;let⟨z,au,n,r,hl,e⟩:=I.nI hH;show SC F.slot_list_append #[_,e,rfl] F.entry_list_append (F.args_list_append_2 _ _) (PySem.list_append l au.toArray n u (by rw[sK];omega)) #[e,?_];show#[.aw,_,I.yl (its':=au++[u]) hH e () (r.append (.cons ru .nil)) ?_,rfl,q];rw[mo,List.length_singleton];omega
def  Yy:V->List V->Hp->VK->Prop:=fun x vs H Q=>∃ l b xs zs,x=-l/\vs=[-b]/\H l=!.lst xs/\H b=!.lst zs/\xs.length+zs.length<=sizeLine/\Q .aw (upd H l (.lst (xs++zs)))
def aah:ze X "list.extend" Yy:=by
 intro π s σ H x vs v us Q I rx rv h;let⟨l,b,xs,zs,rfl,rfl,hH,hB,hz,q⟩:=h;cases rx;let⟨u,rfl,ru⟩:=rv.one;cases ru;let⟨z,au,n,r,hl,e⟩:=I.nI hH;let⟨z2,lF,n2,r2,cA,e2⟩:=I.nI hB;have hsz:au.toArray.size+lF.toArray.size<=sizeLine:=by rw[sK,sK];omega
 have Gp:¬ (Bool.not au.toArray.isEmpty && Builtin.List.listTooLong (au.toArray.size+lF.toArray.size))=true:=by
  rw[Np hsz,Bool.and_false];show wE
 show SC F.slot_list_extend #[_,e,rfl] F.entry_list_extend (F.args_list_extend_2 _ _)
  (AutoSeq1.list_extend_list_list_0 l au.toArray n b lF.toArray n2 Gp (by rw[sK];omega) ∅) #[e,e2,?_]
 show#[.aw,_,I.yl (its':=au++lF) hH e () (r.append r2) ?_,rfl,q];rw[mo];omega
def  Ol:V->List V->Hp->VK->Prop:=fun x vs H Q=>∃ l xs y,x=-l/\vs=[]/\H l=!.lst xs/\xs[xs.length - 1]?=!y/\Q y (upd H l (.lst xs.dropLast))
def ado:ze X "list.pop" Ol:=by
 intro π s σ H x vs v us Q I rx rv h;let⟨l,xs,y,rfl,rfl,hH,hy,q⟩:=h;cases rx;have hus:=rv.zero;subst hus;let⟨z,au,n,r,hl,e⟩:=I.nI hH;let⟨u,hu,ru⟩:=r.get hy;have hy':au.toArray[au.toArray.size - 1]?=!u:=by
  change au.toArray[au.length - 1]?=!u;rw[<- P3,<- hl];show hu
 show SC F.slot_list_pop #[_,e,rfl] F.entry_list_pop (F.args_list_pop_1 _) (MeetsSeq.list_pop_last l au.toArray n u hy' (by rw[sK];omega)) #[e,?_];show#[y,_,I.yl (its':=au.dropLast) hH e ?_ r.dropLast ?_,ru,q]
 ·change au.toArray.eraseIdxIfInBounds (au.toArray.size - 1)=au.dropLast.toArray;rw[sK,List.eraseIdxIfInBounds_toArray,aba]
 ·rw[List.length_dropLast];omega
def  Oh:V->List V->Hp->VK->Prop:=fun x vs H Q=>∃ l xs i k y,x=-l/\vs=[.int i]/\H l=!.lst xs/\(unop% Neg.neg ((2 ^ 63)))<=i/\i < 2 ^ 63/\seqIndex? i xs.length=!k/\xs[k]?=!y/\Q y (upd H l (.lst (xs.eraseIdx k)))
def abR:ze X "list.pop" Oh:=by
 intro π s σ H x vs v us Q I rx rv h;let⟨l,xs,i,k,y,rfl,rfl,hH,h1,h2,hk,hy,q⟩:=h;cases rx;let⟨u,rfl,ru⟩:=rv.one;let⟨t,rfl⟩:=ru;let⟨z,au,n,r,hl,e⟩:=I.nI hH;let⟨w,hw,rw'⟩:=r.get hy;show SC F.slot_list_pop #[_,e,rfl] F.entry_list_pop (F.args_list_pop_2 _ _)
  (MeetsSeq.list_pop_at l au.toArray n i t k w (fitsIndex_both h1 h2) (by rw[sK,<- hl];show hk) (by rw[<- P3];show hw) (by rw[sK];omega)) #[e,?_]
 show#[y,_,I.yl (its':=au.eraseIdx k) hH e ?_ (r.eraseIdx k) ?_,rw',q]
 ·change au.toArray.eraseIdxIfInBounds k=(au.eraseIdx k).toArray;rw[List.eraseIdxIfInBounds_toArray]
 ·have:=MF xs k;omega
def  adg:R2:=fun x y H Q=>∃ l b xs zs,x=-l/\y=-b/\H l=!.lst xs/\H b=!.lst zs/\xs.length+zs.length<=sizeLine/\∀ p,H p=none->Q (-p) (upd H p (.lst (xs++zs)))
def R6:bu X (binaryOp .Add) adg:=by
 intro π s σ H x y v u Q I rx ry h;let⟨l,b,xs,zs,rfl,rfl,hH,hB,hz,q⟩:=h;cases rx;cases ry;let⟨z,au,n,r,hl,e⟩:=I.nI hH;let⟨z2,lF,n2,r2,cA,e2⟩:=I.nI hB;show PySem.P.add_list e e2 ?_ (by rw[sK,sK];omega);have ea:au.toArray++lF.toArray=(au++lF).toArray:=()
 rw[ea];show#[-_,_,I.Im (t':=s.toks) (r.append r2) (by rw[mo];omega),rfl,q _ I.fresh]
def  Vf:R2:=fun x y H Q=>∃ l k xs,x=-l/\y=.int k/\H l=!.lst xs/\(unop% Neg.neg ((2 ^ 63)))<=k/\k < 2 ^ 63/\xs.length * k.toNat<=sizeLine /\
 ∀ p,H p=none->Q (-p) (upd H p (.lst (List.replicate k.toNat xs).flatten))
def len_rep{α:Type}(xs:List α)(k:Nat):(List.replicate k xs).flatten.length=k * xs.length:=by
 induction k with
 | zero=>simp
 | succ k ih=>rw[WF,_U,mo,ih,Nat.succ_mul,Nat.add_comm]
def ZL:bu X (binaryOp .Mult) Vf:=by
 intro π s σ H x y v u Q I rx ry h;let⟨l,k,xs,rfl,rfl,hH,h1,h2,hz,q⟩:=h;cases rx;let⟨t,rfl⟩:=ry;let⟨z,au,n,r,hl,e⟩:=I.nI hH;have hlen:au.toArray.size * k.toNat<=sizeLine:=by rw[sK,<- hl];show hz
 have hcap:¬ au.toArray.size * k.toNat > (2 ^ 63 - 1) / 8:=by
  have:(sizeLine:Nat)<=(2 ^ 63 - 1) / 8:=⋯
  omega
 have HB:¬ (Bool.not (Builtin.List.listFitsIndex k))=true:=by
  rw[fitsIndex_both h1 h2];show wE
 have Gp:¬ Builtin.List.listTooLong (au.toArray.size * k.toNat)=true:=by
  rw[Np hlen];show wE
 have hnew:List.foldl (fun x1 x2=>x1++x2) (List.toArray []) (List.replicate (if au.toArray.isEmpty=true then 0 else k.toNat) au.toArray)=(List.replicate k.toNat au).flatten.toArray:=by
  have f0:∀ m:Nat,List.foldl (fun x1 x2=>x1++x2) (List.toArray []) (List.replicate m au.toArray)=(List.replicate m au).flatten.toArray:=fun m=>by
   have:=foldl_rep au m [];rw[List.nil_append]at this;show this
  rw[f0];cases au with
  | nil=>simp
  | cons a r'=>rw[wf ()]
 show wpAny_binaryOp_repeat_ref (T := "list") (U := "int") ⋯ #[_,e,rfl] (fun s'=>typeIs_int s' k t) noFill_list_mul F.fills_int_mul F.slot_int_rmul repeat_list F.slot_int_index.lookup
  (SC F.slot_int_rmul (typeIs_int s k t) F.entry_int_rmul (F.args_int_rmul_2 _ _) (int___rmul___int_list k t l au.toArray n)
   #[e,rfl,#[_,e,rfl],SC F.slot_list_mul #[_,e,rfl] F.entry_list_mul (F.args_list_mul_2 _ _) (AutoListH.list___mul___list_int_3 l au.toArray n k t HB hcap Gp) #[e,?_]])
 rw[hnew];show#[-_,_,I.Im (t':=s.toks) (r.rep k.toNat) (by rw[len_rep,Nat.mul_comm];show hz),rfl,q _ I.fresh]
end
section
variable {prog:ύ}{w:World}{A:Around}{E:ϊ->ό->Prop}{s:ό}
end
section
variable {X:Cx}
end
section
variable {κ:Type}[DecidableEq κ]
def  ah(kvs:List (κ×V))(k:κ):Option V:=(kvs.find? fun kv=>decide (kv.1=k)).map (·.2)
def  putK(kvs:List (κ×V))(k:κ)(v:V):List (κ×V) :=
 if (kvs.any fun kv=>decide (kv.1=k))=true then kvs.map (fun kv=>if kv.1=k then (kv.1,v) else kv) else kvs++[(k,v)]
def  gk(kvs:List (κ×V))(k:κ):List (κ×V):=kvs.filter fun kv=>decide (kv.1≠k)
def jO{p:κ×V}{r:List (κ×V)}{k:κ}(e:p.1=k):ah (p::r) k=!p.2:=by simp[ah,_w,e]
def jR{p:κ×V}{r:List (κ×V)}{k:κ}(e:¬ p.1=k):ah (p::r) k=ah r k:=by simp[ah,_w,e]
def pH(k:κ):∀ kvs:List (κ×V),(kvs.any fun kv=>decide (kv.1=k))=(ah kvs k).isSome
 | []=>rfl
 | p::r=>by
  rw[_k];by_cases e:p.1=k
  ·simp only[jO e,sw e,Bool.true_or,Option.isSome_some]
  ·rw[jR e,kt e,Bool.false_or];show pH k r
def IW(k j:κ)(y:V):∀ kvs:List (κ×V),ah (kvs.map fun kv=>if kv.1=k then (kv.1,y) else kv) j=(ah kvs j).map fun x=>if j=k then y else x
 | []=>rfl
 | p::r=>by
  have ih:=IW k j y r;rw[FB];by_cases h:p.1=k
  ·rw[wl h];by_cases e:p.1=j
   ·rw[jO (p:=(p.1,y)) e,jO e,Jaf,wl (e.symm.trans h)]
   ·rw[jR (p:=(p.1,y)) e,jR e,ih]
  ·rw[wf h];by_cases e:p.1=j
   ·rw[jO (p:=p) e,jO e,Jaf,wf (fun z=>h (e.trans z))]
   ·rw[jR (p:=p) e,jR e,ih]
def Dc(k j:κ)(y:V):∀ kvs:List (κ×V),ah kvs k=none->ah (kvs++[(k,y)]) j=if j=k then !y else ah kvs j
 | [],_=>by
  by_cases e:k=j
  ·rw[wl e.symm];show jO (p:=(k,y)) e
  ·rw[wf (fun z=>e z.symm)];show jR (p:=(k,y)) e
 | p::r,hn=>by
  rw[List.cons_append];have hk:¬ p.1=k:=fun z=>by rw[jO z]at hn;cases hn
  rw[jR hk]at hn;have ih:=Dc k j y r hn;by_cases e:p.1=j
  ·rw[jO e,jO e,wf (fun z=>hk (e.trans z))]
  ·rw[jR e,jR e,ih]
def D2(kvs:List (κ×V))(k j:κ)(y:V):ah (putK kvs k y) j=if j=k then !y else ah kvs j:=by
 unfold putK;by_cases a:(kvs.any fun kv=>decide (kv.1=k))=true
 ·rw[wl a,IW];rw[pH]at a;by_cases e:j=k
  ·let⟨x,hx⟩:=On.mp a;rw[wl e,e,hx,Jaf,wl rfl]
  ·rw[wf e];cases ah kvs j with
   | none=>rfl
   | some x=>rw[Jaf,wf e]
 ·rw[wf a];show Dc k j y kvs ?_;rw[pH]at a;cases q:ah kvs k with
  | none=>rfl
  | some x=>rw[q]at a;show(a rfl).elim
def Jb(kvs:List (κ×V))(k:κ)(v:V):(putK kvs k v).length<=kvs.length+1:=by
 unfold putK;split
 ·rw[lv];omega
 ·rw[mo,xz,_M];omega
def fh.uZ{o:Option V}{u:Option ϊ}(r:fh o u):o.isSome=u.isSome:=by
 cases o with
 | none=>cases u with
  | none=>rfl
  | some _=>show(show False from r).elim
 | some _=>cases u with
  | none=>show(show False from r).elim
  | some _=>rfl
def fh.getD{o:Option V}{u:Option ϊ}{d:V}{d':ϊ}(r:fh o u)(rd:RelV d d'):RelV (o.getD d) (u.getD d'):=by
 cases o with
 | none=>cases u with
  | none=>show rd
  | some _=>show(show False from r).elim
 | some _=>cases u with
  | none=>show(show False from r).elim
  | some _=>show r
def KV.val{kvs:List (κ×V)}{vs:List (κ×ϊ)}(r:KV kvs vs)(k:κ):fh (ah kvs k) (valueAt vs k):=by
 unfold KV at r
 induction r with
 | nil=>show True.intro
 | @cons p q ps qs h t ih =>
  let⟨h1,h2⟩:=h;by_cases e:p.1=k
  ·have e':q.1=k:=h1.symm.trans e;have b:valueAt (q::qs) k=!q.2:=by simp[valueAt,_w,e']
   rw[jO e,b];show h2
  ·have e':¬ q.1=k:=fun z=>e (h1.trans z);have b:valueAt (q::qs) k=valueAt qs k:=by simp[valueAt,_w,e']
   rw[jR e,b];show ih
def KV.any{kvs:List (κ×V)}{vs:List (κ×ϊ)}(r:KV kvs vs)(k:κ):(kvs.any fun kv=>decide (kv.1=k))=vs.any fun kv=>decide (kv.1=k):=by
 unfold KV at r
 induction r with
 | nil=>rfl
 | cons h t ih=>rw[_k,_k,ih,h.1]
def KV.Bf{kvs:List (κ×V)}{vs:List (κ×ϊ)}(r:KV kvs vs)(k:κ){y:V}{u:ϊ}(ry:RelV y u) :
  KV (kvs.map fun kv=>if kv.1=k then (kv.1,y) else kv) (vs.map fun kv=>if kv.1=k then (kv.1,u) else kv):=by
 unfold KV at r ⊢
 induction r with
 | nil=>show .nil
 | @cons p q ps qs h t ih =>
  rw[FB,FB];show .cons ?_ ih;let⟨h1,h2⟩:=h;by_cases e:p.1=k
  ·rw[wl e,wl (h1.symm.trans e)];show#[h1,ry]
  ·rw[wf e,wf (fun z=>e (h1.trans z))];show#[h1,h2]
def KV.put{kvs:List (κ×V)}{vs:List (κ×ϊ)}(r:KV kvs vs)(k:κ){y:V}{u:ϊ}(ry:RelV y u):KV (putK kvs k y) (stored vs k u):=by
 unfold putK stored;rw[r.any k];by_cases e:(vs.any fun kv=>decide (kv.1=k))=true
 ·rw[wl e,wl e];show r.Bf k ry
 ·rw[wf e,wf e];show Paired.snoc r #[rfl,ry]
def KV.drop{kvs:List (κ×V)}{vs:List (κ×ϊ)}(r:KV kvs vs)(k:κ):KV (gk kvs k) (without vs k):=by
 unfold KV at r ⊢;unfold gk without
 induction r with
 | nil=>show .nil
 | @cons p q ps qs h t ih =>
  let⟨h1,h2⟩:=h;rw[Ja4,Ja4];by_cases e:p.1=k
  ·have a:¬ decide (p.1≠k)=true:=by simp[e]
   have b:¬ decide (q.1≠k)=true:=by simp[h1.symm.trans e]
   rw[wf a,wf b];show ih
  ·have e':¬ q.1=k:=fun z=>e (h1.trans z);have a:decide (p.1≠k)=true:=by simp[e]
   have b:decide (q.1≠k)=true:=by simp[e']
   rw[wl a,wl b];show .cons #[h1,h2] ih
def KV.keys{kvs:List (κ×V)}{vs:List (κ×ϊ)}(r:KV kvs vs):kvs.map (·.1)=vs.map (·.1):=by
 unfold KV at r
 induction r with
 | nil=>rfl
 | cons h t ih=>rw[FB,FB,ih,h.1]
def KV.length{kvs:List (κ×V)}{vs:List (κ×ϊ)}(r:KV kvs vs):kvs.length=vs.length:=Paired.length r
def XZ(kvs:List (κ×V))(k:κ):(gk kvs k).length<=kvs.length:=TD _ _
end
def pb{P:ύ}{w:World}{k:Key}{u:ϊ}(r:RelV (kV k) u):(fk P w).is k u=true:=by
 cases k with
 | inl i=>let⟨t,e⟩:=(show ∃ t,u=ϊ.int i t from r);subst e;show W5 P w i t
 | inr x=>let⟨t,e⟩:=(show ∃ t,u=ϊ.str x t from r);subst e;show acM P w x t
def Ml{P:ύ}{w:World}:∀ {ks:List Key}{us:List ϊ},Vals (ks.map kV) us->ItemsAre (fk P w) ks us
 | [],_,r=>by rw[_W]at r;cases r;show .nil
 | k::ks,_,r=>by
  rw[FB]at r;cases r with
  | cons h t=>show .cons (pb h) (Ml t)
abbrev KT(H:Hp):List (List Key×V)->List (List Key×ϋ×ϊ)->Prop:=Paired fun p q=>p.1=q.1/\H q.2.1=!.tup (p.1.map kV)/\RelV p.2 q.2.2
def KT.val{H:Hp}{kvs:List (List Key×V)}{xs:List (List Key×ϋ×ϊ)}(r:KT H kvs xs)(k:List Key):fh (ah kvs k) ((atKey xs k).map (·.2)):=by
 induction r with
 | nil=>show True.intro
 | @cons p q ps qs h t ih =>
  let⟨h1,_,h2⟩:=h;by_cases e:p.1=k
  ·have e':q.1=k:=h1.symm.trans e;have b:atKey (q::qs) k=!q.2:=by simp[atKey,_w,e']
   rw[jO e,b];show h2
  ·have e':¬ q.1=k:=fun z=>e (h1.trans z);have b:atKey (q::qs) k=atKey qs k:=by simp[atKey,_w,e']
   rw[jR e,b];show ih
def KT.Bf{H:Hp}{kvs:List (List Key×V)}{xs:List (List Key×ϋ×ϊ)}(r:KT H kvs xs)(k:List Key){y:V}{u:ϊ}(ry:RelV y u) :
  KT H (kvs.map fun kv=>if kv.1=k then (kv.1,y) else kv) (xs.map (putAt k u)):=by
 induction r with
 | nil=>show .nil
 | @cons p q ps qs h t ih =>
  rw[FB,FB];show .cons ?_ ih;let⟨h1,h2,h3⟩:=h;unfold putAt;by_cases e:p.1=k
  ·rw[wl e,wl (h1.symm.trans e)];show#[h1,h2,ry]
  ·rw[wf e,wf (fun z=>e (h1.trans z))];show#[h1,h2,h3]
def KT.put{H:Hp}{kvs:List (List Key×V)}{xs:List (List Key×ϋ×ϊ)}(r:KT H kvs xs)(k:List Key){b:ϋ}{y:V}{u:ϊ}(hb:H b=!.tup (k.map kV))(ry:RelV y u) :
  KT H (putK kvs k y) (storedH xs k b u):=by
 have e:(kvs.any fun kv=>decide (kv.1=k))=(atKey xs k).isSome:=by
  rw[pH,(r.val k).uZ,SL]
 unfold putK storedH;rw[e];by_cases q:(atKey xs k).isSome=true
 ·rw[wl q,wl q];show r.Bf k ry
 ·rw[wf q,wf q];show Paired.snoc r #[rfl,hb,ry]
def KT.keeps{H H':Hp}{kvs:List (List Key×V)}{xs:List (List Key×ϋ×ϊ)}(r:KT H kvs xs)(ht:∀ b ys,H b=!.tup ys->H' b=!.tup ys):KT H' kvs xs :=
 Paired.Ck r fun _ _ z=>#[z.1,ht _ _ z.2.1,z.2.2]
section
variable {P:ύ}{w:World}{H:Hp}{h:Heap}{a:ϋ}
def NO{u:HO}(ok:cw P w H h)(e:Rd H a u):ck P w H h a u:=e.ok ok
def pG{kvs:List (Key×V)}(ok:cw P w H h)(e:Rd H a (.dK kvs)):kvs.length<=sizeLine/\(a == sysModules)=false/\∃ vs,KV kvs vs/\h.DictOf (fk P w) a vs :=
 show ck P w H h a (.dK kvs) from NO ok e
def LI{kvs:List (Key×V)}(ok:cw P w H h)(e:H a=!.dK kvs):kvs.length<=sizeLine/\(a == sysModules)=false/\∃ vs,KV kvs vs/\h.DictOf (fk P w) a vs:=pG ok (.inl e)
def rQ{ks:List Key}(ok:cw P w H h)(e:H a=!.tup (ks.map kV)):(tupleKind (fk P w)).is h ks a:=by
 let⟨_,au,r,o,h1,h2,n,h3⟩:=(show ck P w H h a (.tup (ks.map kV)) from ok a _ e);show#[o,au.toArray,n,h1,h2,h3.1,by simpa using Ml r]
def pq{kvs:List (List Key×V)}(ok:cw P w H h)(e:Rd H a (.dT kvs)):kvs.length<=sizeLine/\(a == sysModules)=false /\
  ∃ xs,KT H kvs xs/\h.DictOfH (tupleKind (fk P w)) a xs:=by
 let⟨z,y,xs,r,o,es,ep,h1,h2,h3,h4,h5⟩:=(show ck P w H h a (.dT kvs) from NO ok e);show#[z,y,xs,r,o,es,ep,h1,h2,h3,h4,fun x hx=>?_,h5];have all:∀ {l:List (List Key×V)}{m:List (List Key×ϋ×ϊ)},KT H l m->∀ x∈m,(tupleKind (fk P w)).is h x.1 x.2.1:=by
  intro l m q
  induction q with
  | nil=>intro x hx;show nomatch hx
  | @cons p q ps qs hq t ih =>
   intro x hx;rcases li.mp hx with e | hx
   ·subst e;show rQ ok (by rw[<- hq.1];show hq.2.1)
   ·show ih x hx
 show all r x hx
def TF{kvs:List (List Key×V)}(ok:cw P w H h)(e:H a=!.dT kvs):kvs.length<=sizeLine/\(a == sysModules)=false /\
  ∃ xs,KT H kvs xs/\h.DictOfH (tupleKind (fk P w)) a xs:=pq ok (.inl e)
end
def  dN(H:Hp)(a:ϋ)(y:V)(r:Option V):Prop :=
 (∃ kvs k,Rd H a (.dK kvs)/\y=kV k/\r=ah kvs k)\/∃ kvs k b,Rd H a (.dT kvs)/\y=-b/\H b=!.tup (k.map kV)/\r=ah kvs k
def  ie(H:Hp)(a:ϋ)(y v:V)(H':Hp):Prop :=
 (∃ kvs k,H a=!.dK kvs/\y=kV k/\kvs.length < sizeLine/\H'=upd H a (.dK (putK kvs k v))) \/
 ∃ kvs k b,H a=!.dT kvs/\y=-b/\H b=!.tup (k.map kV)/\kvs.length < sizeLine/\H'=upd H a (.dT (putK kvs k v))
def dN.k{H:Hp}{a:ϋ}{kvs:List (Key×V)}{k:Key}(e:H a=!.dK kvs):dN H a (kV k) (ah kvs k):=.inl #[kvs,k,.inl e,rfl,rfl]
def ie.k{H:Hp}{a:ϋ}{kvs:List (Key×V)}{k:Key}{v:V}(e:H a=!.dK kvs)(hl:kvs.length < sizeLine):ie H a (kV k) v (upd H a (.dK (putK kvs k v))):=.inl #[kvs,k,e,rfl,hl,rfl]
def ie.t{H:Hp}{a b:ϋ}{kvs:List (List Key×V)}{k:List Key}{v:V}(e:H a=!.dT kvs)(eb:H b=!.tup (k.map kV))(hl:kvs.length < sizeLine) :
  ie H a (-b) v (upd H a (.dT (putK kvs k v))):=.inr #[kvs,k,b,e,rfl,eb,hl,rfl]
section
variable {X:Cx}{π:List (ϋ×Obj)}{σ:St}{H:Hp}{s:ό}{a:ϋ}{y v:V}{u r:ϊ}{o:Option V}{A:Around}{E:ϊ->ό->Prop}
def Inv.big(I:Inv X π σ H s):sysModules < s.heap.objs.size:=by
 have h:mainGlobals < s.heap.objs.size:=(I.mod.glob.keeps I.bk).lt;show Nat.lt_trans ⋯ h
def V0{Q:ϊ->ό->Prop}(hu:A.units+1 < cLine)(I:Inv X π σ H s)(g:dN H a y (!v))(ry:RelV y u)(h:∀ w' s',Inv X π σ H s'->RelV v w'->Q w' s') :
  wpAny (model X.prog X.w) A (getItem (-a) u) Q E s:=by
 rcases g with ⟨kvs,k,e,ey,l⟩ | ⟨kvs,k,b,e,ey,eb,l⟩
 ·subst ey;let⟨z,hd,vs,rel,dd⟩:=pG I.aE e;let⟨w',hw,rw'⟩:=fh.some_of (v:=v) (o:=valueAt vs k) (by rw[l];show rel.val k);show wpAny_getItem_of (pb ry) dd.mapOf hw (h w' _ (I.tok _) rw')
 ·subst ey;cases (show u=ϊ.ref b from ry);let⟨z,hd,xs,rel,dd⟩:=pq I.aE e;let⟨w',hw,rw'⟩:=fh.some_of (v:=v) (o:=(atKey xs k).map (·.2)) (by rw[l];show rel.val k);let⟨p,hp,cL⟩:=LT.mp hw;show wpAny_getItem_heap (_v hu) (rQ I.aE eb) dd hp ?_;rw[cL];show h w' _ (I.tok _) rw'
def TZ{Q:ϊ->ό->Prop}(hu:A.units+1 < cLine)(I:Inv X π σ H s)(g:dN H a y o)(ry:RelV y u)(h:∀ s',Inv X π σ H s'->Q (.bool o.isSome) s') :
  wpAny (model X.prog X.w) A (compareOp .In u (-a)) Q E s:=by
 rcases g with ⟨kvs,k,e,ey,l⟩ | ⟨kvs,k,b,e,ey,eb,l⟩
 ·subst ey;let⟨z,hd,vs,rel,dd⟩:=pG I.aE e;show wpAny_in_of (pb ry) hd dd.mapOf ?_;rw[<- (rel.val k).uZ,<- l];show h _ (I.tok _)
 ·subst ey;cases (show u=ϊ.ref b from ry);let⟨z,hd,xs,rel,dd⟩:=pq I.aE e;show wpAny_in_heap (_v hu) (rQ I.aE eb) hd dd ?_;have q:=(rel.val k).uZ;rw[SL]at q;rw[<- q,<- l];show h _ (I.tok _)
def Z3{Q:ϊ->ό->Prop}(hu:A.units+1 < cLine)(I:Inv X π σ H s)(g:dN H a y o)(ry:RelV y u)(h:∀ s',Inv X π σ H s'->Q (.bool (Bool.not o.isSome)) s') :
  wpAny (model X.prog X.w) A (compareOp .NotIn u (-a)) Q E s:=by
 rcases g with ⟨kvs,k,e,ey,l⟩ | ⟨kvs,k,b,e,ey,eb,l⟩
 ·subst ey;let⟨z,hd,vs,rel,dd⟩:=pG I.aE e;show wpAny_notIn_of (pb ry) hd dd.mapOf ?_;rw[<- (rel.val k).uZ,<- l];show h _ (I.tok _)
 ·subst ey;cases (show u=ϊ.ref b from ry);let⟨z,hd,xs,rel,dd⟩:=pq I.aE e;show wpAny_notIn_heap (_v hu) (rQ I.aE eb) hd dd ?_;have q:=(rel.val k).uZ;rw[SL]at q;rw[<- q,<- l];show h _ (I.tok _)
def BA{h':Heap}{t':Nat}{ob:HO}(I:Inv X π σ H s)(mu:vC (H a))(hs:Heap.SameBut a s.heap h')(he:∃ q,h'.get? a=!q)(new:ck X.prog X.w (upd H a ob) h' a ob) :
  Inv X π σ (upd H a ob) { s with heap:=h',toks:=t' } :=
 I.write (x:=a) (e:=a) mu (.inl rfl) (fun b q hb z=>(hs.2 b hb).trans z) he new
def Jm{P:ύ}{w:World}{H':Hp}{h':Heap}{kvs:List (Key×V)}{vs:List (Key×ϊ)}(z:kvs.length<=sizeLine)(hd:(a == sysModules)=false)(rel:KV kvs vs)(dd:h'.DictOf (fk P w) a vs) :
  ck P w H' h' a (.dK kvs):=#[z,hd,vs,rel,dd]
def Vj{H':Hp}{Q:Unit->ό->Prop}(hu:A.units+1 < cLine)(I:Inv X π σ H s)(g:ie H a y v H')(ry:RelV y u)(rv:RelV v r)(h:∀ s',Inv X π σ H' s'->Q .unit s') :
  wpAny (model X.prog X.w) A (setItem (-a) u r) Q E s:=by
 rcases g with ⟨kvs,k,e,ey,l,eH⟩ | ⟨kvs,k,b,e,ey,eb,l,eH⟩
 ·subst ey eH;let⟨z,hd,vs,rel,dd⟩:=LI I.aE e;have hz:vs.length<=sizeLine:=by rw[<- rel.length];show z
  have hl:(putK kvs k v).length<=sizeLine:=by have:=Jb kvs k v;omega
  show wpAny_setItem_pairs (hsz:=hz) (pb ry) dd fun h' dd' hs=>h _ ?_;have he:∃ q,h'.get? a=!q:=let ⟨q,_,_,hq,_⟩:=dd';#[q,hq]
  show BA I (by rw[e];show True.intro) hs he (Jm hl hd (rel.put k rv) dd')
 ·subst ey eH;cases (show u=ϊ.ref b from ry);let⟨z,hd,xs,rel,dd⟩:=TF I.aE e;have hz:xs.length<=sizeLine:=by rw[<- Paired.length rel];show z
  have hl:(putK kvs k v).length<=sizeLine:=by have:=Jb kvs k v;omega
  show wpAny_setItem_heap (hsz:=hz) (_v hu) (rQ I.aE eb) dd fun h' dd' hs=>h _ ?_;let⟨q,es,ep,hq,h2,h3,h4,_,h5⟩:=dd';show BA I (by rw[e];show True.intro) hs #[q,hq] #[hl,hd,_,(rel.put k eb rv).keeps fun c ys ec=>?_,q,es,ep,hq,h2,h3,h4,h5];rw[ag (Vo ec e (fun z=>nomatch z))];show ec
end
section
variable {X:Cx}{π:List (ϋ×Obj)}{σ:St}{H:Hp}{s:ό}{a:ϋ}{kvs:List (Key×V)}{k:Key}{u:ϊ}{A:Around}{E:ϊ->ό->Prop}
def abl{v:V}{more:List ϊ}{Q:ϊ->ό->Prop}(I:Inv X π σ H s)(e:H a=!.dK kvs)(ry:RelV (kV k) u)(l:ah kvs k=!v)(hm:more=[]\/∃ x,more=[x])(h:∀ w' s',Inv X π σ (upd H a (.dK (gk kvs k))) s'->RelV v w'->Q w' s'):wpAny (model X.prog X.w) A (call (.builtin "dict.pop") (-a::u::more)) Q E s:=by
 let⟨z,hd,vs,rel,dd⟩:=LI I.aE e;let⟨w',hw,rw'⟩:=fh.some_of (v:=v) (o:=valueAt vs k) (by rw[<- l];show rel.val k);have hp:(keyPart u).isSome=true:=by
  cases k with
  | inl i=>let⟨t,q⟩:=(show ∃ t,u=ϊ.int i t from ry);subst q;rfl
  | inr x=>let⟨t,q⟩:=(show ∃ t,u=ϊ.str x t from ry);subst q;rfl
 have ha:argsOk "dict.pop" #[-a::u::more,[]]:=by
  rcases hm with q | ⟨x,q⟩
  ·subst q;show PySem.F.args_dict_pop_2 _ _
  ·subst q;show PySem.F.args_dict_pop_3 _ _ _
 show call_meetsIn PySem.F.slot_dict_pop dd.typeIs PySem.F.entry_dict_pop ha (meets_dict_pop_there (fk X.prog X.w) a (pb ry) more hm hp)
  #[vs,w',dd,by rw[<- rel.length];show z,hw,fun h' dd' hs=>h w' _ ?_ rw']
 have he:∃ q,h'.get? a=!q:=let ⟨q,_,_,hq,_⟩:=dd';#[q,hq]
 show BA I (by rw[e];show True.intro) hs he (Jm (ut (XZ kvs k) z) hd (rel.drop k) dd')
end
def  DY(i:Expr):Prop:=∀ ov iv,subscripted i false ov iv=operate [ov,iv] (getItem ov iv)
def Si{prog:ύ}{w:World}{A:Around}{E:ϊ->ό->Prop}{s:ό}{env:Env}{value slice:Expr}{pos:Pos}{T id:String}{Q:ϊ->ό->Prop}(hl:typeLookup (.type T) "__getitem__" = pure (!.builtin id))(hs:DY slice)(h:wpAny (model prog w) A (eval value env) (fun o s₁=>wpAny (model prog w) A (eval slice env) (fun i s₂=>s₂.TypeIs o T/\wpAny (model prog w) A (getItem o i) Q E s₂) E s₁) E s) :
  wpAny (model prog w) A (eval (.Subscript value slice pos) env) Q E s:=by
 show Subscript_ (Op h (fun o s₁ h₁=>Op h₁ (fun i s₂ h₂=>?_) fun _ _ x=>x) fun _ _ x=>x);let⟨hT,h₂⟩:=h₂;unfold subscriptTail;show jp ?_;rw[getitemInPython_of_ne hT.not_modules];show jp (wpAny_specialOf hT hl ?_);have fin:wpAny (model prog w) A (subscripted slice false o i) (fun r s₃=>wpAny (model prog w) A (letTemporaryGo value o r >>= fun _=>pure r) Q E s₃) E s₂:=by
  rw[hs o i];show wpAny_operating (Op h₂ (fun r s₃ h₃=>jp (wpAny_letTemporaryGo (tz h₃))) fun _ _ x=>x)
 first
  | show tz (jp fin)
  | show jp (tz (jp fin))
  | show jp fin
def RB{X:Cx}{π:List (ϋ×Obj)}{σ:St}{H:Hp}{s:ό}{a:ϋ}{y:V}{o:Option V}(I:Inv X π σ H s)(g:dN H a y o):s.TypeIs (-a) "dict" := by
 rcases g with ⟨kvs,k,e,_,_⟩ | ⟨kvs,k,b,e,_,_,_⟩
 ·let⟨_,_,vs,_,dd⟩:=pG I.aE e;show dd.typeIs
 ·let⟨_,_,xs,_,dd⟩:=pq I.aE e;show dd.typeIs
def  Bl(td ty:TE):TE:=fun σ H Q=>td σ H fun x H1=>ty σ H1 fun y H2=>∃ a v,x=-a/\dN H2 a y (!v)/\Q v H2
def  EM(ty td:TE):TE:=fun σ H Q=>ty σ H fun y H1=>td σ H1 fun x H2=>∃ a o,x=-a/\dN H2 a y o/\Q (.bl o.isSome) H2
def  C9(ty td:TE):TE:=fun σ H Q=>ty σ H fun y H1=>td σ H1 fun x H2=>∃ a o,x=-a/\dN H2 a y o/\Q (.bl (Bool.not o.isSome)) H2
def  Co(td ty tv:TE):TS:=fun D σ H=>tv σ H fun v H1=>td σ H1 fun x H2=>ty σ H2 fun y H3=>∃ a H4,x=-a/\ie H3 a y v H4/\D.nx σ H4
section
variable {X:Cx}{o i e value:Expr}{pos pos' ua:Pos}{td ty tv:TE}
def abV(hu:X.A.units+1 < cLine)(ho:PE X o td)(hi:PE X i ty)(hs:DY i):PE X (.Subscript o i pos) (Bl td ty):=by
 intro π s σ H Q I h;show Si PySem.F.slot_dict_getitem.lookup hs (aH (ho π s σ H _ I h) fun u s1 #[x,H1,I1,rx,q1]=>aH (hi π s1 σ H1 _ I1 q1) fun iv s2 #[y,H2,I2,ry,a,v,ex,g,q2]=>?_);subst ex;obtain rfl:u=ϊ.ref a:=rx;show#[RB I2 g,V0 hu I2 g ry fun w' s3 I3 rw'=>#[v,H2,I3,rw',q2]]
def Te(hu:X.A.units+1 < cLine)(hi:PE X i ty)(ho:PE X o td):PC X .In i o (EM ty td):=by
 intro π s σ H Q I h;show aH (hi π s σ H _ I h) fun iv s1 #[y,H1,I1,ry,q1]=>aH (ho π s1 σ H1 _ I1 q1) fun u s2 #[x,H2,I2,rx,a,ov,ex,g,q2]=>?_;subst ex;obtain rfl:u=ϊ.ref a:=rx;show TZ hu I2 g ry fun s3 I3=>#[.bl ov.isSome,H2,I3,rfl,q2]
def S4(hu:X.A.units+1 < cLine)(hi:PE X i ty)(ho:PE X o td):PC X .NotIn i o (C9 ty td):=by
 intro π s σ H Q I h;show aH (hi π s σ H _ I h) fun iv s1 #[y,H1,I1,ry,q1]=>aH (ho π s1 σ H1 _ I1 q1) fun u s2 #[x,H2,I2,rx,a,ov,ex,g,q2]=>?_;subst ex;obtain rfl:u=ϊ.ref a:=rx;show Z3 hu I2 g ry fun s3 I3=>#[.bl (Bool.not ov.isSome),H2,I3,rfl,q2]
def ZP(hu:X.A.units+1 < cLine)(ho:PE X o td)(hi:PE X i ty)(hv:PE X value tv)(hs:swapsWith value (!.Subscript o i pos') pos.line X.env=pure false) :
  PS X (.Assign [.Subscript o i pos'] value pos) (Co td ty tv):=by
 intro π s σ H D I h;show wpAny_Assign_Subscript (aH (hv π s σ H _ I h) fun r s1 #[v,H1,I1,rv,q1]=>aH (ho π s1 σ H1 _ I1 q1) fun u s2 #[x,H2,I2,rx,q2]=>aH (hi π s2 σ H2 _ I2 q2) fun iv s3 #[y,H3,I3,ry,a,H4,ex,g,q3]=>?_) hs;subst ex;obtain rfl:u=ϊ.ref a:=rx;show Vj hu I3 g ry rv fun s4 I4=>#[σ,H4,I4,q3]
end
def Rz{P:ύ}{w:World}{H:Hp}(h:Heap)(hb:sysModules < h.objs.size):ck P w H (h.push { cls:=.type "dict",data:=.dict (List.toArray []) }) h.objs.size (.dK []) :=
 #[wT _,Gc.mpr (ss (zn hb)),[],.nil,Heap.DictOf.new h]
def Zd{P:ύ}{w:World}{H:Hp}(h:Heap)(hb:sysModules < h.objs.size):ck P w H (h.push { cls:=.type "dict",data:=.dict (List.toArray []) }) h.objs.size (.dT []) :=
 #[wT _,Gc.mpr (ss (zn hb)),[],.nil,_,(List.toArray []),0,wn _ rfl,#[rfl,rfl,rfl],rfl,rfl,_X]
def  y6:TE:=fun _ H Q=>∀ p,H p=none->Q (-p) (upd H p (.dK []))
def  Ek:TE:=fun _ H Q=>∀ p,H p=none->Q (-p) (upd H p (.dT []))
section
variable {X:Cx}{pos:Pos}
def acy:PE X (.Dict [] [] pos) y6:=fun π s σ H Q I h =>
 wpAny_Dict_empty #[-s.heap.objs.size,_,I.laid (a:=s.heap.objs.size) (o:=.dK []) (t':=s.toks) (fun _ _ q=>pp _ q) (pi _) (Rz s.heap I.big),rfl,h _ (I.aE.fresh (pi _))]
def Ui:PE X (.Dict [] [] pos) Ek:=fun π s σ H Q I h =>
 wpAny_Dict_empty #[-s.heap.objs.size,_,I.laid (a:=s.heap.objs.size) (o:=.dT []) (t':=s.toks) (fun _ _ q=>pp _ q) (pi _) (Zd s.heap I.big),rfl,h _ (I.aE.fresh (pi _))]
end
def  M8:List (TE×TE)->St->Hp->(List (V×V)->Hp->Prop)->Prop
 | [],_,H,Q=>Q [] H
 | (tk,tv)::r,σ,H,Q=>tk σ H fun x H1=>tv σ H1 fun y H2=>M8 r σ H2 fun ps H3=>Q ((x,y)::ps) H3
abbrev VV:List (V×V)->List (ϊ×ϊ)->Prop:=Paired fun p q=>RelV p.1 q.1/\RelV p.2 q.2
def  Q4(X:Cx)(pos:Pos)(keys:List (Option Expr))(values:List Expr)(xw:List (TE×TE)):Prop :=
 ∀ (π:List (ϋ×Obj)) (s:ό) (σ:St) (H:Hp) (Q:List (V×V)->Hp->Prop),Inv X π σ H s->M8 xw σ H Q ->
  wpAny (model X.prog X.w) X.A (evalPairs (pairTrees keys values X.env pos)) (fun vs s'=>∃ ps H',Inv X π σ H' s'/\VV ps vs/\Q ps H') X.xe s
structure M1(X:Cx)(o:Expr)(m:Str)(apos:Pos)(e:Expr)(bB:Pos):Prop where
 base:attributeBase o m X.env (eval o X.env)=eval o X.env
 ED:((backTo bB (starEach [e] X.env)).all (fun x=>Bool.not x.1) && (backToKw bB (keywordEach [] X.env)).all (fun x=>x.1.isSome)
  && decide (([e]:List Expr).length+([]:List Keyword).length+(if ([]:List Keyword).isEmpty then 0 else 1) < 30))=true
 line:(apos.endLine == bB.line)=true
 trees:backTo bB (starEach [e] X.env)=[(false,eval e X.env)]
structure M2(X:Cx)(o:Expr)(m:Str)(apos:Pos)(e f:Expr)(bB:Pos):Prop where
 base:attributeBase o m X.env (eval o X.env)=eval o X.env
 ED:((backTo bB (starEach [e,f] X.env)).all (fun x=>Bool.not x.1) && (backToKw bB (keywordEach [] X.env)).all (fun x=>x.1.isSome)
  && decide (([e,f]:List Expr).length+([]:List Keyword).length+(if ([]:List Keyword).isEmpty then 0 else 1) < 30))=true
 line:(apos.endLine == bB.line)=true
 trees:backTo bB (starEach [e,f] X.env)=[(false,eval e X.env),(false,eval f X.env)]
def  xJ(H:Hp)(a:ϋ):Prop:=(∃ kvs,Rd H a (.dK kvs))\/∃ kvs,Rd H a (.dT kvs)
def OF{X:Cx}{π:List (ϋ×Obj)}{σ:St}{H:Hp}{s:ό}{a:ϋ}(I:Inv X π σ H s)(d:xJ H a) :
  s.TypeIs (-a) "dict" /\ (∀ b,ϊ.ref a=-b->∃ ob,s.heap.get? b=!ob/\ob.dict=none)/\(a == sysModules)=false:=by
 rcases d with ⟨kvs,e⟩ | ⟨kvs,e⟩
 ·let⟨_,hd,vs,_,dd⟩:=pG I.aE e;show#[dd.typeIs,fun b q=>?_,hd];cases q;let⟨ob,_,_,h1,h2,_⟩:=dd;show#[ob,h1,h2.2.1]
 ·let⟨_,hd,xs,_,dd⟩:=pq I.aE e;show#[dd.typeIs,fun b q=>?_,hd];cases q;let⟨ob,_,_,h1,h2,_⟩:=dd;show#[ob,h1,h2.2.1]
section
variable {X:Cx}{π:List (ϋ×Obj)}{σ:St}{H:Hp}{s:ό}{a:ϋ}{y d:V}{u r:ϊ}{o:Option V}{A:Around}{E:ϊ->ό->Prop}
def RL{Q:ϊ->ό->Prop}(hu:A.units+1 < cLine)(I:Inv X π σ H s)(g:dN H a y o)(ry:RelV y u)(h:∀ w' s',Inv X π σ H s'->RelV (o.getD .aw) w'->Q w' s') :
  wpAny (model X.prog X.w) A (call (.builtin "dict.get") [-a,u]) Q E s:=by
 rcases g with ⟨kvs,k,e,ey,l⟩ | ⟨kvs,k,b,e,ey,eb,l⟩
 ·subst ey;let⟨z,hd,vs,rel,dd⟩:=pG I.aE e;show call_meetsIn _5 dd.typeIs PySem.F.entry_dict_get (PySem.F.args_dict_get_2 _ _) (meets_dict_get (fk X.prog X.w) a (pb ry) hd) #[_,dd.mapOf,h _ _ (I.tok _) ?_];rw[l];show(rel.val k).getD rfl
 ·subst ey;cases (show u=ϊ.ref b from ry);let⟨z,hd,xs,rel,dd⟩:=pq I.aE e;show call_meetsIn _5 dd.typeIs PySem.F.entry_dict_get (PySem.F.args_dict_get_2 _ _) (meetsH_dict_get (tupleKind (fk X.prog X.w)) a b hd) #[_v hu,k,xs,rQ I.aE eb,dd,h _ _ (I.tok _) ?_];rw[l];show(rel.val k).getD rfl
end
def  AL(td ty:TE):TE:=fun σ H Q=>td σ H fun x H1=>∃ a,x=-a/\xJ H1 a/\ty σ H1 fun y H2=>∃ o,dN H2 a y o/\Q (o.getD .aw) H2
def  Bo(td ty:TE):TE:=fun σ H Q=>td σ H fun x H1=>∃ a,x=-a/\xJ H1 a/\ty σ H1 fun y H2=>∃ kvs k v,H2 a=!.dK kvs/\y=kV k/\ah kvs k=!v/\Q v (upd H2 a (.dK (gk kvs k)))
section
variable {X:Cx}{o e f:Expr}{apos bB:Pos}{td ty tx:TE}
def ac8(hu:X.A.units+1 < cLine)(ho:PE X o td)(he:PE X e ty)(m:M1 X o "get" apos e bB):PE X (.Call (.Attribute o "get" apos) [e] [] bB) (AL td ty):=by
 intro π s σ H Q I h;show wpAny_Call_method m.base m.ED m.line PySem.F.plainAttrs_dict _5 PySem.F.type_dict_get (aH (ho π s σ H _ I h) fun u s1 #[x,H1,I1,rx,a,ex,d,q1]=>?_);subst ex;obtain rfl:u=ϊ.ref a:=rx;let⟨t1,t2,_⟩:=OF I1 d;show#[t1,t2,?_];rw[m.trees];show ST rfl (TW (_a (aH (he π s1 σ H1 _ I1 q1) fun iv s2 #[y,H2,I2,ry,ov,g,q2]=>_h ?_)));show RL hu I2 g ry fun w' s3 I3 rw'=>#[_,H2,I3,rw',q2]
def Vd(ho:PE X o td)(he:PE X e ty)(m:M1 X o "pop" apos e bB):PE X (.Call (.Attribute o "pop" apos) [e] [] bB) (Bo td ty):=by
 intro π s σ H Q I h;show wpAny_Call_method m.base m.ED m.line PySem.F.plainAttrs_dict PySem.F.slot_dict_pop PySem.F.type_dict_pop (aH (ho π s σ H _ I h) fun u s1 #[x,H1,I1,rx,a,ex,d,q1]=>?_);subst ex;obtain rfl:u=ϊ.ref a:=rx;let⟨t1,t2,_⟩:=OF I1 d;show#[t1,t2,?_];rw[m.trees];show ST rfl (TW (_a (aH (he π s1 σ H1 _ I1 q1) fun iv s2 #[y,H2,I2,ry,kvs,k,v,ea,ey,l,q2]=>_h ?_)));subst ey;show abl I2 ea ry l (.inl rfl) fun w' s3 I3 rw'=>#[v,_,I3,rw',q2]
end
section
variable {X:Cx}{π:List (ϋ×Obj)}{σ:St}{H:Hp}{s:ό}{a:ϋ}{kvs:List (Key×V)}{A:Around}{E:ϊ->ό->Prop}
end
section
variable {X:Cx}{π:List (ϋ×Obj)}{σ:St}{H:Hp}{s:ό}{a:ϋ}{y:V}{u:ϊ}{A:Around}{E:ϊ->ό->Prop}
end
end L2
namespace Att
open PySem PySem.W PySem.Calls PyProof.Rows
def VM{P:Params}{h:Heap}:∀ (ns:List Int) (vs:List ϊ),WellAll P h vs (ns.map WData.int)->IntsAre vs ns:=by
 intro ns
 induction ns with
 | nil =>
  intro vs w;rw[List.map_nil]at w;cases w;show .nil
 | cons n ns ih =>
  intro vs w;rw[List.map_cons]at w;cases w with
  | cons a b =>
   cases a;show .cons _ _ (ih _ b)
def XH{l:OpenLaw}{n:Nat}(hn:l.most=!n){P:Params}{h:Heap}{args:List WData}{vals:List ϊ}(gf:l.row.toRowW.claim.pre args=true)(qm:WellAll P h vals args) :
  ∃ a vs ns,vals=[ϊ.ref a]/\args=[WData.list (ns.map WData.int)]/\h.get? a=!{ cls:=.type "list",data:=.seq vs.toArray }/\IntsAre vs ns/\ns.length<=n:=by
 have m8:WShape.hasAll [] args [.list .int]=true:=(pre_splitW gf).1;have hc:l.pre.holds [] { args:=args }=true:=(pre_splitW gf).2;let⟨d,r,rfl,h1,h2⟩:=hasAllW_cons m8;obtain rfl:=hasAllW_nil h2;let⟨xs,rfl,h3⟩:=hasW_list h1;let⟨ns,rfl⟩:=items_int h3;have hlen:ns.length<=n:=by
  unfold OpenLaw.pre at hc;have h4:(WTm.not (.lt (.lit (.int (n:Int))) (.len (.arg 0)))).holds [] { args:=[.list (ns.map .int)] }=true:=by
   have h4:=(holds_andW hc).1;rw[hn]at h4;show h4
  have h5:=condW_of h4 (w_not (w_lt w_lit (w_len_list (w_arg rfl))));rw[List.length_map]at h5;show Nat.le_of_not_lt fun q=>?_;have q':(n:Int) < ((ns.length:Nat):Int):=∅
  first
   | (rw[decide_eq_true q']at h5;show absurd h5 ⋯)
   | (simp at h5;omega)
 cases qm with
 | cons w1 w2 =>
  cases w2;cases w1 with
  | list ho iF=>show#[_,_,ns,rfl,rfl,ho,VM ns _ iF,hlen]
def ZI(l:OpenLaw)(args:List WData):l.row.toRowW.claim.post args (.bool true) args=true :=
 postW_of (r:=l.row.toRowW) (X:=(true == true))
  (show WShape.has [] (.bool true) .bool=true by first | rfl | decide | simp[WShape.has,WShape.arms,WShape.armsAll])
  (show(WTm.eq .res (.lit (.bool true))).value [] { args:=args,res:=!.bool true,after:=args }=some (.bool (true == true)) from w_eq_bool (w_res rfl) w_lit) rfl
def SV{l:OpenLaw}{n:Nat}{q:ύ}{loose:List Str}{XP:(Str->Option ϊ)->Heap->Prop}{YP:World->Heap->Prop}{d:DefRec}(hn:l.most=!n)(w6:d.params.defaults=[])(call:∀ (w:World) (s₀ s₁:ό) (mg mb:Str->Option ϊ) (fa:ϋ) (o:Obj) (pm cd doc:ϊ) (a:ϋ) (vs:List ϊ) (ns:List Int),
   Ground q loose [] XP w s₀ mg mb s₁.heap->YP w s₁.heap ->
   s₁.heap.get? fa=!o->o.data=.func (docDef d.name d.params d.body d.scope pm cd doc)->s₁.heap.CodeRec cd d.name->mg d.name=!-fa ->
   s₁.heap.get? a=!{ cls:=.type "list",data:=.seq vs.toArray }->IntsAre vs ns->ns.length<=n->s₁.gens=(List.toArray []) ->
   codeAny (model l.prog w) callerA (.call (-fa) #[[-a],[]]) (fun r s'=>r=.ok (.ret (.bool true))/\OldK s₁.heap s'.heap/\s'.os=s₁.os/\AllBare s'.gens) s₁) :
  WalkO q loose XP YP l.row.toRowW d [] (fun f vs=>PySem.call f vs):=by
 intro w s₀ s₁ mg mb G Y fa o pm cd doc dV kV ho hd dQ hD hmg hg args vals as gf hlay iD qm hlo;obtain rfl:dV=.none:=Dflts.none hD w6;obtain rfl:kV=.none:=Dflts.noKw hD;let⟨a,vs,ns,rfl,rfl,wO,hints,hlen⟩:=XH hn gf qm;show enter_call (codeAny_mono (call w s₀ s₁ mg mb fa o pm cd doc a vs ns G Y ho (fd_plain hd) dQ hmg wO hints hlen hg) fun r s' hq=>?_);let⟨rfl,h2,h3,h4⟩:=hq;show#[.inl #[.bool true,.bool true,[],rfl,fun _=>rfl,.bool true,ZI l _,fun _=>#[List.Pairwise.nil,fun _ hm=>(nomatch hm)]],h2,h3,h4]
section
variable {prog:ύ}{w:World}{A:Around}{E:ϊ->ό->Prop}{s:ό}{K:Frag}
end
end Att
namespace L2
open PySem PySem.Spec PyProof.Rows
def JE:∀ {vs:List ϊ}{ns:List Int},IntsAre vs ns->Vals (ns.map V.int) vs
 | _,_,.nil=>.nil
 | _,_,.cons n t h=>.cons #[t,rfl] (JE h)
def  um(H:Hp):Prop:=∀ b,H b=none\/∃ o xs,H b=!.df o (.lst xs)
def Ud{P:ύ}{w:World}{K:ν}{mg mb:Str->Option ϊ}{CX:eP}{k:Nat}{fa a:ϋ}{fd:FuncData}{x:Str}{sp:Sp}{s₁:ό}{vs:List ϊ}{ns:List Int}(KX:K.In s₁.heap)(iy:s₁.heap.Ns mainGlobals mg)(hb:s₁.heap.Ns builtinsNs mb)(hbb:∀ x:Str,x ≠ "__name__" -> mb x=bootBuiltins x)(hlim:s₁.heap.NoLimit)(hg:s₁.gens=(List.toArray []))(ha:s₁.heap.get? a=!{ cls:=.type "list",data:=.seq vs.toArray })(hi:IntsAre vs ns)(hl:ns.length<=sizeLine)(hr:bM k callerA)(F:∀ base:Heap,K.In base->base.Ns mainGlobals mg->aA P w K mg base CX k fa fd [x] sp)(hbind:∀ (s:ό) (u:ϊ),BindsTo s fd #[[u],[]] [(x,u)])(gE:∀ H:Hp,um H->aC K H a (ns.map V.int)->sp [-a] H (fun v _=>v=.bl true) fun _ _ _=>False)(F6:∀ H e s',CX [] H s₁ (fun _ _ _=>False) e s'->False) :
  codeAny (model P w) callerA (.call (-fa) #[[-a],[]]) (fun r s'=>r=.ok (.ret (.bool true))/\OldK s₁.heap s'.heap/\s'.os=s₁.os/\AllBare s'.gens) s₁:=by
 have rv:=JE hi;have lenV:=hi.length
 -- from an abstract heap in which nothing but iW script may be tracked
 have core:∀ H:Hp,um H->aC K H a (ns.map V.int)->cw P w H s₁.heap->(∀ b,H b≠none->b=a)->(H a≠none->K.lookup a=none) ->
   codeAny (model P w) callerA (.call (-fa) #[[-a],[]]) (fun r s'=>r=.ok (.ret (.bool true))/\OldK s₁.heap s'.heap/\s'.os=s₁.os/\AllBare s'.gens) s₁:=by
  intro H hO hS aE hA hK;have Pe:∀ {b:ϋ}{o:Obj},s₁.heap.get? b=!o->H b=none->(mP s₁.heap H).get? b=!o:=fun e n=>ab0 e n;have wN:∀ {b:ϋ}{o:Obj}{es:Array DictEntry}{ep:Nat},s₁.heap.get? b=!o->o.data=.dict es ep->H b=none:=fun {b o es ep} e d=>by
   cases q:H b with
   | none=>rfl
   | some u =>
    have e':b=a:=hA b (by rw[q];simp);subst e';rw[ha]at e;cases e;have d':Data.seq vs.toArray _=Data.dict es ep:=d;cases d'
  have Ai:∀ {b:ϋ}{m:Str->Option ϊ},s₁.heap.Ns b m->(mP s₁.heap H).Ns b m:=fun {b m} ⟨o,es,ep,e,d,r⟩=>#[o,es,ep,Pe e (wN e d),d,r];have Qd:K.In (mP s₁.heap H):=fun b o e=>Pe (KX b o e) (by
   cases q:H b with
   | none=>rfl
   | some u =>
    have e':b=a:=hA b (by rw[q];simp);subst e';rw[hK (by rw[q];simp)]at e;cases e)
  have hM:Mod K mg (mP s₁.heap H):=#[Qd,Ai iy,#[mb,Ai hb,hbb],let ⟨mc,h1,h2⟩:=hlim;#[mc,Ai h1,h2]];have e0:nq P w K mg (mP s₁.heap H) callerA [] s₁ H:=#[rfl,hM,fun b o e=>acP e,Nat.le_of_eq (aa9 _ _),trivial,fun b hb=>absurd (show b∈([]:List ϋ) from hb) (),aE,.of_eq hg];show _T ((F _ Qd (Ai iy)).run callerA [] s₁ H #[[-a],[]] [-a] [-a] _ _ hr e0 (hbind s₁ (-a)) (.cons rfl .nil) (gE H hO hS)) fun r s' h=>?_;cases r with
  | error e=>show(F6 H e s' h).elim
  | ok fl =>
   cases fl with
   | next=>show False.elim h
   | brk=>show False.elim h
   | cont=>show False.elim h
   | ret u =>
    let⟨v,H',os,bare,un,hok',r',q⟩:=h;have q':v=.bl true:=q;subst q';obtain rfl:u=ϊ.bool true:=r';show#[rfl,OldK.of_keep fun b o e=>?_,os,bare];cases q:H b with
    | none=>show un.keep b o e q (by intro z;show absurd (show b∈([]:List ϋ) from z) ()) ()
    | some u =>
     rcases hO b with z | ⟨ob,xs,z⟩
     ·rw[q]at z;cases z
     ·have z2:=un.g8 b ob _ z;let⟨e1,_⟩:=aE b _ z;let⟨e2,_⟩:=hok' b _ z2;rw[e]at e1;cases e1;show e2
 cases hk:K.lookup a with
 | some o =>
  -- iW script is one of iW module's own objects
  have e:=KX a o hk;rw[ha]at e;cases e;show core (fun _=>none) (fun _=>.inl rfl) (.inr #[_,vs.toArray,_,hk,rfl,rfl,rfl,by rw[sK,lenV];show hl,by simpa using rv]) (fun b u z=>by have z':(none:Option HO)=!u:=z;cases z') (fun b z=>absurd rfl z) fun z=>absurd rfl z
 | none =>
  show core (fun b=>if b=a then !.df { cls:=.type "list",data:=.seq vs.toArray } (.lst (ns.map V.int)) else none) (fun b=>?_) (.inl (.inr #[{ cls:=.type "list",data:=.seq vs.toArray },wl rfl])) (fun b u z=>?_) (fun b z=>?_) fun _=>hk
  ·by_cases hb:b=a
   ·show .inr #[_,_,wl hb]
   ·show .inl (wf hb)
  ·by_cases hb:b=a
   ·have z':=(wl hb).symm.trans z;cases z';subst hb;show#[ha,by rw[lv];show hl,vs,_,rv,ha]
   ·have z':=(wf hb).symm.trans z;cases z'
  ·by_cases hb:b=a
   ·show hb
   ·show absurd (wf hb) z
abbrev KOf{K:ν}{h:Heap}(_:K.In h):ν:=K
def RF{l:W.OpenLaw}{n k:Nat}{q:ύ}{loose:List Str}{XP:(Str->Option ϊ)->Heap->Prop}{YP:World->Heap->Prop}{d:DefRec}{K:Params->ν}{CX:World->eP}{sp:World->Sp}{x:Str}(hn:l.most=!n)(j8:n<=sizeLine)(w6:d.params.defaults=[])(hr:bM k callerA)(hY:∀ (w:World) (h:Heap),YP w h->(K w.params).In h)(F:∀ (w:World) (mg:Str->Option ϊ) (fa:ϋ) (h:Heap),(K w.params).In h->h.Ns mainGlobals mg->mg d.name=!-fa ->
   ∃ fd:FuncData,(∀ (s:ό) (u:ϊ),BindsTo s fd #[[u],[]] [(x,u)]) /\
    ∀ base:Heap,(K w.params).In base->base.Ns mainGlobals mg->aA l.prog w (K w.params) mg base (CX w) k fa fd [x] (sp w))(gE:∀ (w:World) (H:Hp) (a:ϋ) (ns:List Int),ns.length<=n->um H->aC (K w.params) H a (ns.map V.int)->sp w [-a] H (fun v _=>v=.bl true) fun _ _ _=>False)(F6:∀ (w:World) (H:Hp) (s:ό) (e:ϊ) (s':ό),CX w [] H s (fun _ _ _=>False) e s'->False) :
  W.WalkO q loose XP YP l.row.toRowW d [] (fun f vs=>PySem.call f vs):=by
 show Att.SV hn w6 fun w s₀ s₁ mg mb fa o pm cd doc a vs ns G Y ho hd dQ hmg wO hints hlen hg=>?_;have KX:=hY w _ Y;let⟨fd,hb,hF⟩:=F w mg fa _ KX G.T.g hmg;show Ud KX G.T.g G.T.b G.T.builtins G.T.nolimit hg wO hints (ut hlen j8) hr hF hb (fun H hO hS=>gE w H a ns hlen hO hS) fun H e s'=>F6 w H s₁ e s'
def  inClass(s:Stmt)(j:Nat):Stmt:=match s with
 | .ClassDef _ _ _ body _ _ _ _ _ _ _=>body.getD j (.Pass #[0,0,0,0])
 | _=>.Pass #[0,0,0,0]
def  fM(s:Stmt):Arguments:=match s with
 | .FunctionDef _ a _ _ _ _ _ _ _ _=>a
 | _=>{ posonlyargs:=[],args:=[],vararg:=none,kwonlyargs:=[],kw_defaults:=[],kwarg:=none,defaults:=[] }
def  aU(s:Stmt):List Stmt:=match s with
 | .FunctionDef _ _ b _ _ _ _ _ _ _=>b
 | _=>[]
def  aB(s:Stmt):Scope:=match s with
 | .FunctionDef _ _ _ _ _ _ sc _ _ _=>sc
 | _=>{ kind:=.function,names:=[],isGenerator:=false,isCoroutine:=false }
abbrev aJ:eP:=fun _ _ _ _ _ _=>False
abbrev E0:XK:=fun _ _ _=>False
def aq{X:Cx}:Passes aJ X E0:=fun _ _ _ _ _ _ _ h=>h.elim
structure kc(K:ν)(x qual:Str)(st:Stmt)(f:ϋ)(fd:FuncData):Prop where
 ex:∃ (oc:ϊ) (od:Option ϋ) (kV doc pm:ϊ) (an:Option ϋ) (ax ct:ϊ) (eV:Array (Option ϊ)),
  fd=W.fnOf x qual (fM st) (aU st) (aB st) .none kV doc pm an ax ct/\K.lookup f=!#[oc,od,.func fd,eV]/\W.codeIn K ax qual=true
 kp:W.keepIn K (-f)=true
section
variable {P:ύ}{w:World}{K:ν}{mg:Str->Option ϊ}{base:Heap}
def kc.ok{x qual:Str}{st:Stmt}{f:ϋ}{fd:FuncData}{N ps:List Str}{k:Nat}{sp:Sp}(F:kc K x qual st f fd)(S:aG N ps (aB st))(len:∀ vs H Q E,sp vs H Q E->vs.length=ps.length)(Gn:∀ (ax:ϊ) (A:Around) (outer:List Env) (s:ό) (H:Hp) (vs:List V) (Q:VK) (E:XK),bM k (A.deeper (envOfC qual (aB st) s.heap.objs.size f ax))->sp vs H Q E ->
   ∃ t,eA (iG aJ P w K mg base N qual (aB st) f ax A outer s H E).si (aU st) t/\t { nx:=fun _ H'=>Q .aw H',rt:=Q } (start N vs) H):aA P w K mg base aJ (k+1) f fd ps sp:=by
 let⟨oc,od,kV,doc,pm,an,ax,ct,eV,rfl,lk,dQ⟩:=F.ex;show Fu lk dQ S len fun A outer s H vs Q E hr gE=>?_;let⟨t,h,q⟩:=Gn ax A outer s H vs Q E hr gE;show#[t,h.si,q]
def kc.binds{x qual:Str}{st:Stmt}{f:ϋ}{fd:FuncData}{ps:List Str}(F:kc K x qual st f fd)(h:∀ (kV doc pm:ϊ) (an:Option ϋ) (ax ct:ϊ) (us:List ϊ),us.length=ps.length->bindArgs (W.fnOf x qual (fM st) (aU st) (aB st) .none kV doc pm an ax ct) #[us,[]]=pure (ps.zip us)):Binds K fd ps []:=by
 let⟨oc,od,kV,doc,pm,an,ax,ct,eV,rfl,lk,dQ⟩:=F.ex;show .all (h kV doc pm an ax ct)
def B1{x qual:Str}{st:Stmt}{f:ϋ}{oc:ϊ}{od an:Option ϋ}{eV:Array (Option ϊ)}{kV doc pm ax ct:ϊ}(l:K.lookup f=!#[oc,od,.func (W.fnOf x qual (fM st) (aU st) (aB st) .none kV doc pm an ax ct),eV])(c:W.codeIn K ax qual=true)(k:W.keepIn K (-f)=true):kc K x qual st f (W.fnOf x qual (fM st) (aU st) (aB st) .none kV doc pm an ax ct):=#[#[oc,od,kV,doc,pm,an,ax,ct,eV,rfl,l,c],k]
end
def eL{A:Around}{k:Nat}(hr:bM k A):A.units+1 < cLine:=_c (Nat.add_le_add_left (by decide:1<=64) _) hr.units
def HF{n:Nat}(h:n<=1000):n < sizeLine:=_c h ⋯
section
variable {X:Cx}
def pv(i:Nat){x:Str}{pos:Pos}(hN:‹X.N[i]?=!x›)(hv:vM X.env.scope x:=by first | show Or.inl rfl | show Or.inr (Or.inl rfl) | show Or.inr (Or.inr rfl))(hd:(x == ("__debug__":Str))=false:=by decide)(dQ:(x == ("__classdict__":Str))=false:=by decide):PE X (.Name x pos) (Kk i):=MK hN hv hd dQ
end
def bf{A B:Prop}(h:B):if false=true then A else B:=by
 rw[wf wE];show h
def bS{A B:Prop}(h:A):if true=true then A else B:=by
 rw[wl rfl];show h
def nk{c A B:Prop}[Decidable c](h1:c->A)(h2:¬ c->B):if c then A else B:=by
 by_cases h:c
 ·rw[wl h];show h1 h
 ·rw[wf h];show h2 h
def  ai(H H':Hp):Prop:=∀ b o,H b=!o->H' b=!o
def ai.refl(H:Hp):ai H H:=fun _ _ h=>h
def ai.trans{H H1 H2:Hp}(a:ai H H1)(b:ai H1 H2):ai H H2:=fun c o h=>b c o (a c o h)
def ai.free{H H':Hp}(e:ai H H'){l:ϋ}(h:H' l=Option.none):H l=Option.none:=by
 cases q:H l with
 | none=>rfl
 | some o =>
  rw[e l o q]at h;cases h
def ai.seq{K:ν}{H H':Hp}{a:ϋ}{xs:List V}(e:ai H H')(h:aC K H a xs):aC K H' a xs:=by
 rcases h with (h | ⟨o,h⟩) | h
 ·show .inl (.inl (e _ _ h))
 ·show .inl (.inr #[o,e _ _ h])
 ·show .inr h
section
variable {X:Cx}
end
section
variable {κ:Type}[DecidableEq κ]
def UQ{p:κ×V}{r:List (κ×V)}{k:κ}(e:p.1=k):gk (p::r) k=gk r k:=by
 unfold gk;rw[Ja4,wf (by simp[e])]
def adn{p:κ×V}{r:List (κ×V)}{k:κ}(e:¬ p.1=k):gk (p::r) k=p::gk r k:=by
 unfold gk;rw[Ja4,wl (by simp[e])]
end
end L2
namespace Tx
open PySem PySem.Builtin PySem.Builtin.Str PySem.StrLaws
def  S(l:List Nat):Str:=#[l.toArray]
def kF(l:List Nat):(S l).cps.toList=l:=by simp[S]
def FN(s:Str):S s.cps.toList=s:=by cases s;simp[S]
def cE(l:List Nat):(S l).length=l.length:=by simp[S,Str.length]
def sQ{a b:List Nat}(h:S a=S b):a=b:=by
 have:=congrArg (fun s=>s.cps.toList) h
 simpa [kF] using this
def qU(a b:List Nat):S a++S b=S (a++b):=by
 apply Str.ext';rw[Str.cps_append];simp[S]
def om(c:Nat):(S [c]).length=1:=by rw[cE];rfl
def subAt_one(x:List Nat)(c i:Nat)(h:i < x.length):subAt (S x) (S [c]) i=decide (x[i]?=!c):=by
 rw[subAt_eq,kF,kF,om];rw[List.drop_eq_getElem_cons h,List.take_succ_cons,List.take_zero,List.getElem?_eq_getElem h];by_cases e:x[i]=c
 ·simp[e]
 ·simp[e]
def abN(x:List Nat)(c:Nat):(Bool.not (occurrences (S x) (S [c]) 0 (S x).length 1).isEmpty)=x.contains c:=by
 rw[Bool.eq_iff_iff,found_iff,om,cE];constructor
 ·rintro⟨i,h1,h2⟩;rw[subAt_one x c i ∅]at h2;have h3:=of_decide_eq_true h2;show List.elem_iff.mpr (List.mem_of_getElem? h3)
 ·intro h;let⟨i,hi,e⟩:=List.getElem_of_mem (List.elem_iff.mp h);show#[i,∅,?_];rw[subAt_one x c i hi,List.getElem?_eq_getElem hi,e];simp
def  cut(c:Nat):List Nat->List (List Nat)
 | []=>[[]]
 | a::r=>if a=c then []::cut c r else match cut c r with
  | []=>[[a]]
  | h::t=>(a::h)::t
def U4(c:Nat):∀ l,cut c l≠[]
 | []=>by simp[cut]
 | a::r=>by
  unfold cut;split
  ·simp
  ·split <;> simp
def  dw(c:Nat):Nat->List Nat->List Nat
 | _,[]=>[]
 | k,a::r=>if a=c then k::dw c (k+1) r else dw c (k+1) r
def JL(c:Nat):∀ (l:List Nat) (k j:Nat),dw c (k+j) l=(dw c k l).map (· + j)
 | [],_,_=>rfl
 | a::r,k,j=>by
  unfold dw;have e:k+j+1=(k+1)+j:=∅
  rw[e,JL c r (k+1) j];split <;> simp
def Bi(x:List Nat)(c limit:Nat):∀ (l:List Nat) (k:Nat) (acc:Array Nat) (free:Nat),x.drop k=l->free<=k->acc.size+l.length < limit->k<=x.length ->
  (forIn (List.range' k (x.length+1 - k)) (acc,free) (occBody (S x) (S [c]) x.length limit)).run.fst.toList=acc.toList++dw c k l
 | [],k,acc,free,hd,hf,hl,hk=>by
  have GF:k=x.length:=by
   have:=congrArg List.length hd;simp at this;omega
  have e:x.length+1 - k=1:=∅
  have e1:List.range' k 1=[k]:=rfl;rw[e,e1,List.forIn_cons];unfold occBody;have hc:¬ (((((acc,free):Array Nat×Nat).fst.size < limit/\((acc,free):Array Nat×Nat).snd<=k)/\k+(S [c]).length<=x.length)/\subAt (S x) (S [c]) k=true):=by
   rw[om];rintro⟨⟨_,h⟩,_⟩;omega
  rw[if_neg hc];simp[dw]
 | a::r,k,acc,free,hd,hf,hl,hk=>by
  have b8:k < x.length:=by
   have:=congrArg List.length hd;simp at this;omega
  have e:x.length+1 - k=(x.length+1 - (k+1))+1:=∅
  have hx:x[k]?=!a:=by
   have h1:(x.drop k)[0]?=!a:=by rw[hd];rfl
   rw[List.getElem?_drop]at h1
   simpa using h1
  have hr:x.drop (k+1)=r:=by
   rw[<- List.drop_drop,hd];rfl
  rw[e,List.range'_succ,List.forIn_cons];unfold occBody;simp only[List.length_cons]at hl;by_cases du:a=c
  ·have hc:(((((acc,free):Array Nat×Nat).fst.size < limit/\((acc,free):Array Nat×Nat).snd<=k)/\k+(S [c]).length<=x.length)/\subAt (S x) (S [c]) k=true):=by
    rw[om,subAt_one x c k b8,hx,du];show#[#[#[?_,hf],∅],()];change acc.size < limit;omega
   rw[if_pos hc];have ih:=Bi x c limit r (k+1) (acc.push k) (k+(S [c]).length) hr (by rw[om];omega) (by simp;omega) ∅;show Eq.trans ih ?_;rw[show dw c k (a::r)=k::dw c (k+1) r from if_pos du];simp
  ·have hc:¬ (((((acc,free):Array Nat×Nat).fst.size < limit/\((acc,free):Array Nat×Nat).snd<=k)/\k+(S [c]).length<=x.length)/\subAt (S x) (S [c]) k=true):=by
    rw[subAt_one x c k b8,hx];rintro⟨_,h⟩;show du (Option.some.inj (of_decide_eq_true h))
   rw[if_neg hc];have ih:=Bi x c limit r (k+1) acc free hr ∅ ∅ ∅;show Eq.trans ih ?_
   conv=>rhs;unfold dw
   rw[if_neg du]
def C7(x:List Nat)(c:Nat):occurrences (S x) (S [c]) 0 (S x).length ((S x).length+1)=dw c 0 x:=by
 rw[occ_eq,cE];have h:=Bi x c (x.length+1) x 0 (List.toArray []) 0 rfl (Nat.le_refl _) () (Nat.zero_le _);rw[h];simp
def  pieces(l:List Nat)(ps:List Nat):List (List Nat):=((0::ps.map (· + 1)).zip (ps++[l.length])).map fun p=>(l.drop p.1).take (p.2 - p.1)
def vK(c:Nat):∀ l:List Nat,pieces l (dw c 0 l)=cut c l
 | []=>rfl
 | a::r=>by
  have ih:=vK c r;have sh:dw c (0+1) r=(dw c 0 r).map (· + 1):=JL c r 0 1;have tail:∀ (A B:List Nat),((A.map (· + 1)).zip (B.map (· + 1))).map (fun p:Nat×Nat=>((a::r).drop p.1).take (p.2 - p.1))=(A.zip B).map (fun p:Nat×Nat=>(r.drop p.1).take (p.2 - p.1)):=fun A B=>by
   rw[List.zip_map,List.map_map];show List.map_congr_left fun p _=>?_;change((a::r).drop (p.1+1)).take (p.2+1 - (p.1+1))=_;rw[List.drop_succ_cons]
   congr 1
   omega
  unfold pieces at ih ⊢;unfold dw cut;rw[sh];by_cases h:a=c
  ·rw[if_pos h,if_pos h];have e1:(0::(0::(dw c 0 r).map (· + 1)).map (· + 1))=0::((0::(dw c 0 r).map (· + 1)).map (· + 1)):=rfl;have e2:(0::(dw c 0 r).map (· + 1))++[(a::r).length]=0::((dw c 0 r++[r.length]).map (· + 1)):=()
   rw[e1,e2,List.zip_cons_cons,List.map_cons,tail,ih];simp
  ·rw[if_neg h,if_neg h];have e2:(dw c 0 r).map (· + 1)++[(a::r).length]=(dw c 0 r++[r.length]).map (· + 1):=()
   rw[e2];generalize hB:dw c 0 r++[r.length]=B at ih;cases B with
   | nil=>simp at hB
   | cons b B' =>
    rw[List.zip_cons_cons,List.map_cons]at ih;rw[<- ih];rw[List.map_cons (l:=B'),List.zip_cons_cons,List.map_cons,tail];simp
def Yt(x:List Nat)(i j:Nat):strSub (S x) i j=S ((x.drop i).take (j - i)):=by
 rw[<- FN (strSub (S x) i j),strSub_toList,kF]
def Dh(x:List Nat)(ps:List Nat):partsBetween (S x) ps 1=(pieces x ps).map S:=by
 unfold partsBetween pieces;rw[List.map_map,cE];show List.map_congr_left fun p _=>?_;show Yt x p.1 p.2
def LG(c:Nat):∀ l:List Nat,dw c 0 l=[]->cut c l=[l]
 | l,h=>by
  have:=vK c l;rw[h]at this;rw[<- this];simp[pieces]
def Lh(x:List Nat)(c:Nat)(hc:c < 256):Txt.split (S x) (S [c])=(cut c x).map S:=by
 unfold Txt.split;rw[C7,om,Dh,vK];have nop:∀ k,¬ c∈x->dw c k x=[]:=by
  intro k
  induction x generalizing k with
  | nil=>intro _;rfl
  | cons a r ih =>
   intro hm;unfold dw;rw[if_neg (fun e=>hm (by simp[e]))];show ih (k+1) fun m=>hm (List.mem_cons_of_mem _ m)
 by_cases h1:(decide ((S x).length < 1) || decide (PySem.Builtin.Str.strKind (S x) < PySem.Builtin.Str.strKind (S [c])))=true
 ·rw[if_pos h1];have hx:dw c 0 x=[]:=by
   show nop 0 fun m=>?_;rw[cE]at h1;have hk:PySem.Builtin.Str.strKind (S [c])=1:=by unfold PySem.Builtin.Str.strKind S;simp[hc]
   rw[hk]at h1;have hp:¬ x.length < 1:=by cases x with | nil=>simp at m | cons _ _=>simp
   have hq:¬ PySem.Builtin.Str.strKind (S x) < 1:=by unfold PySem.Builtin.Str.strKind;split <;> (try split) <;> omega
   simp[hp,hq]at h1
  rw[LG c x hx];rfl
 ·rw[if_neg h1];by_cases h2:(dw c 0 x).isEmpty=true
  ·rw[if_pos h2];rw[LG c x (List.isEmpty_iff.mp h2)];rfl
  ·rw[if_neg h2]
end Tx
namespace L2
open PySem PySem.Spec PyProof.Rows
def  noStar:Expr->Bool
 | .Starred _ _=>false
 | _=>true
def fW{e:Expr}{es:List Expr}{env:Env}(h:noStar e=true):starEach (e::es) env=(false,eval e env)::starEach es env:=by
 cases e <;> first | rfl | cases h
def iT{pos:Pos}{env:Env}:∀ {es:List Expr},es.all noStar=true->(backTo pos (starEach es env)).any (·.1)=false
 | [],_=>rfl
 | e::es,h=>by
  rw[IN,AC]at h;rw[fW h.1];have ih:=iT (pos:=pos) (env:=env) h.2;change((false || (backTo pos (starEach es env)).any (·.1)))=false;rw[ih];rfl
def yz{pos:Pos}{env:Env}:∀ {es:List Expr},es.all noStar=true->(backTo pos (starEach es env)).all (fun x=>Bool.not x.1)=true
 | [],_=>rfl
 | e::es,h=>by
  rw[IN,AC]at h;rw[fW h.1];have ih:=yz (pos:=pos) (env:=env) h.2;change((true && (backTo pos (starEach es env)).all (fun x=>Bool.not x.1)))=true;rw[ih];rfl
section
variable {X:Cx}
def RS{e:Expr}{es:List Expr}{te:TE}{t:TA}(ha:PE X e te)(hr:PA X es t)(hs:‹noStar e=true›):PA X (e::es) (gn te t):=Yl ha hr (fW hs)
def adi{CX:eP}{k:Nat}{f:ϋ}{fd:FuncData}{ps:List Str}{sp:Sp}{bJ:List V}{ds:List ϊ}{E:XK}{x:Str}{p pos:Pos}{e:Expr}{es:List Expr}{t:TA}(F:aA X.prog X.w X.K X.mg X.base CX k f fd ps sp)(hr:bM k X.A)(hg:Gl X x)(hm:X.mg x=!-f)(hk:W.keepIn X.K (-f)=true)(hb:Binds X.K fd ps ds)(hd:Vals bJ ds)(hx:Passes CX X E)(ha:PA X (e::es) t)(hs:‹(e::es).all noStar=true›)(b9:(x == ("__debug__":Str))=false:=by decide):PE X (.Call (.Name x p) (e::es) [] pos) (zf sp bJ E t):=by
 have hs':=hs;rw[IN,AC]at hs';show WN F hr hg hm hk hb hd hx ha b9 (fW hs'.1) (iT hs'.2)
def RI{x:Str}{p pos:Pos}{e:Expr}{es:List Expr}{t:TA}{id:String}{r:List V->Hp->VK->Prop}(hc:cW X (.builtin id) r)(hg:Gl X x)(hm:X.mg x=none)(hv:bootBuiltins x=!.builtin id)(ha:PA X (e::es) t)(hs:‹(e::es).all noStar=true›)(hn:x ≠ "__name__" := by decide)(b9:(x == ("__debug__":Str))=false:=by decide):PE X (.Call (.Name x p) (e::es) [] pos) (pU r t):=by
 have hs':=hs;rw[IN,AC]at hs';show UA hc hg hm hv ha hn b9 (fW hs'.1) (iT hs'.2)
def Zm{x:Str}{p pos:Pos}{e:Expr}{es:List Expr}{t:TA}{T:String}{r:List V->Hp->VK->Prop}(hc:cW X (.type T) r)(hg:Gl X x)(hm:X.mg x=none)(hv:bootBuiltins x=!.type T)(ha:PA X (e::es) t)(hs:‹(e::es).all noStar=true›)(hn:x ≠ "__name__" := by decide)(b9:(x == ("__debug__":Str))=false:=by decide):PE X (.Call (.Name x p) (e::es) [] pos) (pU r t):=by
 have hs':=hs;rw[IN,AC]at hs';show ZY hc hg hm hv ha hn b9 (fW hs'.1) (iT hs'.2)
end
section
variable {X:Cx}
def PE.imp{e:Expr}{t t':TE}(h:PE X e t)(i:∀ σ H Q,t' σ H Q->t σ H Q):PE X e t':=fun π s σ H Q I hw=>h π s σ H Q I (i σ H Q hw)
def PS.imp{e:Stmt}{t t':TS}(h:PS X e t)(i:∀ D σ H,t' D σ H->t D σ H):PS X e t':=fun π s σ H D I hw=>h π s σ H D I (i D σ H hw)
def bu.imp{f:ϊ->ϊ->Sem ϊ}{r r':R2}(h:bu X f r)(i:∀ x y H Q,r' x y H Q->r x y H Q):bu X f r':=fun π s σ H x y v u Q I rx ry q=>h π s σ H x y v u Q I rx ry (i x y H Q q)
def cW.imp{f:ϊ}{r r':List V->Hp->VK->Prop}(h:cW X f r)(i:∀ xs H Q,r' xs H Q->r xs H Q):cW X f r':=fun π s σ H xs us Q I rx q=>h π s σ H xs us Q I rx (i xs H Q q)
def  fB(i:Nat):TE:=fun σ H Q=>match σ[i]? with
 | some (!v)=>Q v H
 | _=>False
def qv(i:Nat){x:Str}{pos:Pos}(hN:‹X.N[i]?=!x›)(hv:vM X.env.scope x:=by first | show Or.inl rfl | show Or.inr (Or.inl rfl) | show Or.inr (Or.inr rfl))(hd:(x == ("__debug__":Str))=false:=by decide)(dQ:(x == ("__classdict__":Str))=false:=by decide):PE X (.Name x pos) (fB i):=(MK hN hv hd dQ).imp fun σ H Q h=>by
 unfold fB at h;split at h
 ·rename_i v e;show#[v,e,h]
 ·show h.elim
def  FR:R2:=fun x y H Q=>match x,y with
 | .int i,.int j=>Q (.int (i+j)) H
 | .str a,.str b=>a.length+b.length<=sizeLine/\Q (.str (a++b)) H
 | .ref l,-b=>match H l,H b with
  | some (.lst xs),!.lst zs=>xs.length+zs.length<=sizeLine/\∀ p,H p=none->Q (-p) (upd H p (.lst (xs++zs)))
  | _,_=>False
 | _,_=>False
def ej:bu X (binaryOp .Add) FR:=(acd.or (acT.or R6)).imp fun x y H Q h=>by
 unfold FR at h;split at h
 ·show .inl #[_,_,rfl,rfl,h]
 ·show .inr (.inl #[_,_,rfl,rfl,h.1,h.2])
 ·split at h
  ·rename_i xs zs h1 h2;show .inr (.inr #[_,_,xs,zs,rfl,rfl,h1,h2,h.1,h.2])
  ·show h.elim
 ·show h.elim
def  ee(K:ν)(H:Hp)(p:ϋ)(R:List V->Prop):Prop:=match H p with
 | some (.lst xs)=>R xs
 | some (.tup xs)=>R xs
 | _=>∃ xs,(aC K H p xs\/bK K H p xs)/\R xs
def yG{K:ν}{H:Hp}{p:ϋ}{R:List V->Prop}(h:ee K H p R):∃ xs,(aC K H p xs\/bK K H p xs)/\R xs:=by
 unfold ee at h;split at h
 ·rename_i xs e;show#[xs,.inl (aC.of e),h]
 ·rename_i xs e;show#[xs,.inr (bK.of e),h]
 ·show h
def  zB(K:ν)(H:Hp)(p:ϋ)(R:List V->Prop):Prop:=∃ xs,aC K H p xs/\R xs
def Bm{K:ν}{H:Hp}{p:ϋ}{R:List V->Prop}(h:zB K H p R):∃ xs,aC K H p xs/\R xs:=h
def  Wq(f:Int->Int->Int):R2:=fun x y H Q=>match x,y with
 | .int i,.int j=>Q (.int (f i j)) H
 | _,_=>False
def  u9(C:Int->Int->Prop)(f:Int->Int->Int):R2:=fun x y H Q=>match x,y with
 | .int i,.int j=>C i j/\Q (.int (f i j)) H
 | _,_=>False
def Kq{C:Int->Int->Prop}{f:Int->Int->Int}{x y:V}{H:Hp}{Q:VK}(h:u9 C f x y H Q):rI C (fun i j=>.int (f i j)) x y H Q:=by
 unfold u9 at h;split at h
 ·show#[_,_,rfl,rfl,h.1,h.2]
 ·show h.elim
def oj:bu X (binaryOp .Mod) (u9 (fun _ j=>0 < j) fun i j=>i % j):=aaq.imp fun _ _ _ _ h=>Kq h
def Ct:bu X (binaryOp .FloorDiv) (u9 Og fun i j=>i / j):=SQ.imp fun _ _ _ _ h=>Kq h
def  qW(neg:Bool):R2:=fun x y H Q=>match x,y with
 | .int i,.int j=>Q (.bl (neg ^^ decide (i=j))) H
 | .str i,.str j=>Q (.bl (neg ^^ decide (i=j))) H
 | .bl i,.bl j=>Q (.bl (neg ^^ decide (i=j))) H
 | _,_=>xW x y=true/\Q (.bl (neg ^^ decide (x=y))) H
def Io(i j:Int):decide (V.int i=V.int j)=decide (i=j):=by by_cases h:i=j <;> simp[h]
def Lp(i j:Str):decide (V.str i=V.str j)=decide (i=j):=by by_cases h:i=j <;> simp[h]
def Jw(i j:Bool):decide (V.bl i=V.bl j)=decide (i=j):=by by_cases h:i=j <;> simp[h]
def Um:bu X (compareOp .Eq) (qW false):=UG.imp fun x y H Q h=>by
 unfold qW at h;simp only[Bool.false_bne]at h;split at h
 ·show#[rfl,by rw[Io];show h]
 ·show#[rfl,by rw[Lp];show h]
 ·show#[rfl,by rw[Jw];show h]
 ·show h
def Vh:bu X (compareOp .NotEq) (qW true):=RD.imp fun x y H Q h=>by
 unfold qW at h;simp only[Bool.true_bne]at h;split at h
 ·show#[rfl,by rw[Io];show h]
 ·show#[rfl,by rw[Lp];show h]
 ·show#[rfl,by rw[Jw];show h]
 ·show h
def  kT(f:Int->Int->Bool):R2:=fun x y H Q=>match x,y with
 | .int i,.int j=>Q (.bl (f i j)) H
 | _,_=>False
def EY{f:Int->Int->Bool}{x y:V}{H:Hp}{Q:VK}(h:kT f x y H Q):pX (fun i j=>.bl (f i j)) x y H Q:=by
 unfold kT at h;split at h
 ·show#[_,_,rfl,rfl,h]
 ·show h.elim
def MD:bu X (compareOp .Lt) (kT fun i j=>decide (i < j)):=RG.imp fun _ _ _ _ h=>EY h
def qG:bu X (compareOp .LtE) (kT fun i j=>decide (i<=j)):=aae.imp fun _ _ _ _ h=>EY h
def wb:bu X (compareOp .Gt) (kT fun i j=>decide (j < i)):=aaT.imp fun _ _ _ _ h=>EY h
def  ym(K:ν):R2:=fun x y H Q=>match x,y with
 | .str i,.str j=>Q (.bl (Bool.not (Builtin.Str.occurrences j i 0 j.length 1).isEmpty)) H
 | _,-p=>ee K H p fun xs=>cN x=true/\xs.all cN=true/\Q (.bl (g9 x xs)) H
 | _,_=>False
def Yn:bu X (compareOp .In) (ym X.K):=(acH.or Ji).imp fun x y H Q h=>by
 unfold ym at h;split at h
 ·show .inl #[_,_,rfl,rfl,h]
 ·let⟨xs,h1,h2,h3,h4⟩:=yG h;show .inr #[_,xs,rfl,h1,h2,h3,h4]
 ·show h.elim
def  nK(t:TE):TT:=fun σ H Q=>t σ H fun x H'=>match x with
 | .bl k=>Q k H'
 | _=>False
def BJ{x:V}{H:Hp}{Q:Bool->Hp->Prop}(h:(match x with | .bl k=>Q k H | _=>False)):∃ k,x=.bl k/\Q k H:=by
 split at h
 ·show#[_,rfl,h]
 ·show h.elim
def Rt{op:CmpOp}{r:R2}{a b:Expr}{ta tb:TE}{pos:Pos}(ho:bu X (compareOp op) r)(ha:PE X a ta)(hb:PE X b tb)(hm:behindInMarks op b=false:=by first | show xN _ ⋯ ⋯ | rfl) :
  PT X (.Compare a [op] [b] pos) (nK (jy r ta tb)):=by
 intro π s σ H Q I h;show wpAny_isTrue_Compare1 ?_ hm;show aH (ha π s σ H _ I h) fun v s1 #[x,H1,I1,r1,q1]=>aH (hb π s1 σ H1 _ I1 q1) fun u s2 #[y,H2,I2,r2,q2]=>?_;show aH (ho π s2 σ H2 x y v u _ I2 r1 r2 q2) fun c s3 #[z,H3,I3,r3,q3]=>?_;let⟨k,rfl,q⟩:=BJ q3;cases r3;show PP #[H3,I3,q]
def XR{e:Expr}{t:TE}(h:PE X e t)(he:∀ whole,isTrue e X.env whole=(do let v <- whole;standAt e.pos;holding [v] (truthy v)):=by intro _;rfl):PT X e (nK t):=by
 intro π s σ H Q I hw;show isTrue_plain (aH (h π s σ H _ I hw) fun v s1 #[x,H1,I1,r1,q1]=>?_) (he _);let⟨d,rfl,q⟩:=BJ q1;cases r1;show PP #[H1,I1,q]
def  CY(f g:Int->Int->Bool)(ta tb tc:TE):TT:=fun σ H Q=>ta σ H fun x H1=>tb σ H1 fun y H2=>match x,y with
 | .int i,.int j=>if f i j=true then tc σ H2 fun z H3=>(match z with | .int k=>Q (g j k) H3 | _=>False) else Q false H2
 | _,_=>False
def  El(ta tb:TE):TE:=fun σ H Q=>ta σ H fun x H1=>match x with
 | .bl c=>if c=true then tb σ H1 Q else Q (.bl false) H1
 | _=>False
def  Bz(ta tb:TE):TE:=fun σ H Q=>ta σ H fun x H1=>match x with
 | .bl c=>if c=true then Q (.bl true) H1 else tb σ H1 Q
 | _=>False
def  EB(ta:TE):TE:=fun σ H Q=>ta σ H fun x H1=>match x with
 | .bl c=>Q (.bl (Bool.not c)) H1
 | _=>False
variable {a b:Expr}{ta tb:TE}{pos:Pos}{rest:List Expr}
def aai(ha:PE X a ta)(hb:PE X (.BoolOp .And (b::rest) pos) tb):PE X (.BoolOp .And (a::b::rest) pos) (El ta tb):=by
 intro π s σ H Q I h;show BoolOp_and (aH (ha π s σ H _ I h) fun v s1 #[x,H1,I1,r1,q1]=>?_);have q1':∃ c,x=.bl c/\if c=true then tb σ H1 Q else Q (.bl false) H1:=by
  dsimp only at q1;split at q1
  ·show#[_,rfl,q1]
  ·show q1.elim
 let⟨c,rfl,q1⟩:=q1';cases r1;show PP ?_;cases c with
 | true=>show hb π s1 σ H1 Q I1 q1
 | false=>show#[.bl false,H1,I1,rfl,q1]
def YT(ha:PE X a ta)(hb:PE X (.BoolOp .Or (b::rest) pos) tb):PE X (.BoolOp .Or (a::b::rest) pos) (Bz ta tb):=by
 intro π s σ H Q I h;show BoolOp_or (aH (ha π s σ H _ I h) fun v s1 #[x,H1,I1,r1,q1]=>?_);have q1':∃ c,x=.bl c/\if c=true then Q (.bl true) H1 else tb σ H1 Q:=by
  dsimp only at q1;split at q1
  ·show#[_,rfl,q1]
  ·show q1.elim
 let⟨c,rfl,q1⟩:=q1';cases r1;show PP ?_;cases c with
 | false=>show hb π s1 σ H1 Q I1 q1
 | true=>show#[.bl true,H1,I1,rfl,q1]
def  yv:V->ϊ
 | .ty n=>.type n
 | .ref a=>-a
 | _=>.none
def R4:cW X (.builtin "isinstance") (fun xs H Q=>∃ x cV t b,xs=[x,cV]/\((∃ n,cV=.ty n)\/∃ a,cV=-a)/\gm X.K H x t/\W.kitOne X.K t (yv cV)=!b/\Q (.bl b) H):=by
 intro π s σ H xs us Q I r h;let⟨x,cV,t,b,rfl,hc,ty,e,q⟩:=h;let⟨u,c',rfl,ru,rc'⟩:=vals2 r;have ec:c'=yv cV:=by
  rcases hc with ⟨n,rfl⟩ | ⟨a,rfl⟩
  ·show rc'
  ·show rc'
 subst ec;show EA I ru ty e fun tk=>#[.bl b,H,I.tok tk,rfl,q]
end
section
variable {X:Cx}
def  Fh:V->List V->Hp->VK->Prop:=fun x xs H Q=>match x,xs with
 | .str a,[.str b]=>Q (.bl (Txt.startswith a b)) H
 | _,_=>False
def aa2:dC X "str.startswith" Fh:=by
 intro π s σ H x xs v us Q I rx r h;unfold Fh at h;split at h
 ·rename_i a b;let⟨t,rfl⟩:=rx;let⟨u,rfl,t',rfl⟩:=vals1 r;show SC F.slot_str_startswith (_E s a t) F.entry_str_startswith (F.args_str_startswith_2 _ _) (gives_str_startswith a b t t').meets #[.bl _,H,I,rfl,h]
 ·show h.elim
def  EV:V->List V->Hp->VK->Prop:=fun x xs H Q=>match x,xs with
 | .str a,[.str b]=>Q (.bl (Txt.endswith a b)) H
 | _,_=>False
def Wo:dC X "str.endswith" EV:=by
 intro π s σ H x xs v us Q I rx r h;unfold EV at h;split at h
 ·rename_i a b;let⟨t,rfl⟩:=rx;let⟨u,rfl,t',rfl⟩:=vals1 r;show SC F.slot_str_endswith (_E s a t) F.entry_str_endswith (F.args_str_endswith_2 _ _) (gives_str_endswith a b t t').meets #[.bl _,H,I,rfl,h]
 ·show h.elim
def Js:∀ (l:List (Str×Tok)),Vals ((l.map (·.1)).map V.str) (strValues l)
 | []=>.nil
 | p::r=>.cons #[p.2,rfl] (Js r)
def yU:∀ {ts:List Str}{us:List ϊ},Vals (ts.map V.str) us->∃ l:List (Str×Tok),us=strValues l/\l.map (·.1)=ts
 | [],_,.nil=>#[[],rfl,rfl]
 | t::r,_,.cons h h'=>by
  let⟨k,rfl⟩:=h;let⟨l,e1,e2⟩:=yU h';show#[(t,k)::l,by rw[e1];rfl,by rw[<- e2];rfl]
def  Bx:V->List V->Hp->VK->Prop:=fun x xs H Q=>match x,xs with
 | .str a,[.str b]=>(b.length == 0)=false/\a.length<=sizeLine/\(Builtin.Str.partsBetween a (Builtin.Str.occurrences a b 0 a.length (a.length+1)) b.length).length<=sizeLine /\
   ∀ l,H l=none->Q (-l) (upd H l (.lst ((Txt.split a b).map V.str)))
 | _,_=>False
def IC:dC X "str.split" Bx:=by
 intro π s σ H x xs v us Q I rx r h;unfold Bx at h;split at h
 ·rename_i a b;let⟨hy,hx,hn,q⟩:=h;let⟨t,rfl⟩:=rx;let⟨w',rfl,u,rfl⟩:=vals1 r;have fin:∀ (l:List (Str×Tok)) (tk:Nat),l.map (·.1)=Txt.split a b->l.length<=sizeLine ->
    EP X π σ Q (-s.heap.objs.size) { s with heap:=s.heap.push { cls:=.type "list",data:=.seq (strValues l).toArray },toks:=tk }:=fun l tk e hz =>
   #[-_,_,I.laid (t':=tk) (o:=.lst ((Txt.split a b).map V.str)) (fun b' o' q'=>pp _ q') (pi _)
    #[by rw[lv,<- e,lv];show hz,strValues l,0,by rw[<- e];show Js l,wn _ rfl],rfl,q _ (I.aE.fresh (pi _))]
  cases h1:(decide (a.length < b.length) || decide (Builtin.Str.strKind a < Builtin.Str.strKind b))
  ·cases hf:(Builtin.Str.occurrences a b 0 a.length (a.length+1)).isEmpty
   ·show SC F.slot_str_split (_E s a t) F.entry_str_split (Jar _ _) (meets_str_split_sep a b t u h1 hy hf hx hn) ?_;have e:Txt.split a b=Builtin.Str.partsBetween a (Builtin.Str.occurrences a b 0 a.length (a.length+1)) b.length:=(wf (Jal h1)).trans (wf (Jal hf));have z:=fin (numbered s.toks (Builtin.Str.partsBetween a (Builtin.Str.occurrences a b 0 a.length (a.length+1)) b.length)) (s.toks+(Builtin.Str.partsBetween a (Builtin.Str.occurrences a b 0 a.length (a.length+1)) b.length).length)
     ((numbered_texts _ _).trans e.symm) (by
      have:=GE List.length (numbered_texts s.toks (Builtin.Str.partsBetween a (Builtin.Str.occurrences a b 0 a.length (a.length+1)) b.length));rw[lv]at this;rw[this];show hn)
    rw[<- strsFrom_eq]at z;show z
   ·show SC F.slot_str_split (_E s a t) F.entry_str_split (Jar _ _) (meets_str_split_not_found a b t u h1 hy hf)
     (fin [(a,t)] s.toks ((wf (Jal h1)).trans (wl hf)).symm (by change 1<=sizeLine;decide))
  ·show SC F.slot_str_split (_E s a t) F.entry_str_split (Jar _ _) (meets_str_split_cannot_occur a b t u h1)
    (fin [(a,t)] s.toks (wl h1).symm (by change 1<=sizeLine;decide))
 ·show h.elim
def  rJoin(K:ν):V->List V->Hp->VK->Prop:=fun x xs H Q=>match x,xs with
 | .str a,[-p]=>zB K H p fun xs=>∃ ts:List Str,xs=ts.map V.str/\ts.foldl (fun n z=>n+z.length+a.length) 0<=sizeLine/\Q (.str (Str.join a ts)) H
 | _,_=>False
def acf:dC X "str.join" (rJoin X.K):=by
 intro π s σ H x xs v us Q I rx r h;unfold rJoin at h;split at h
 ·rename_i a p;let⟨xs,hq,ts,rfl,hz,q⟩:=Bm h;let⟨t,rfl⟩:=rx;let⟨w',rfl,e⟩:=vals1 r;cases e;let⟨au,rv,pl,hl⟩:=I.list hq;let⟨l,rfl,e2⟩:=yU rv;have HB:Builtin.Str.tooLong ((l.map (·.1)).toArray.foldl (· + ·.length+a.length) 0)=false:=by
   unfold Builtin.Str.tooLong;show kt (Nat.not_lt.mpr ?_);rw[List.foldl_toArray,e2];show hz
  show SC F.slot_str_join (_E s a t) F.entry_str_join (F.args_str_join_2 _ _) (meets_str_join_list a t p l HB) #[pl.isList,?_];have hlen:(Builtin.Str.glued a (l.map (·.1))).length<=sizeLine:=by
   rw[e2,StrLaws.glued_eq_join];show ut ?_ hz;have:∀ (us:List Str) (n:Nat),n+(Str.join a us).length<=us.foldl (fun n z=>n+z.length+a.length) n:=by
    intro us
    induction us with
    | nil=>intro n;show pi _
    | cons y r ih =>
     intro n;cases r with
     | nil=>change n+y.length<=n+y.length+a.length;omega
     | cons z r' =>
      have h1:(Str.join a (y::z::r')).length=y.length+a.length+(Str.join a (z::r')).length:=by
       change((y++a)++Str.join a (z::r')).length=_;rw[Str.length_append,Str.length_append]
      have h2:=ih (n+y.length+a.length);rw[h1];show ut ?_ h2;omega
   have h0:=this ts 0;omega
  have e3:Builtin.Str.glued a (l.map (·.1))=Str.join a ts:=by rw[e2,StrLaws.glued_eq_join]
  match l,e2,e3,hlen with
  | [],e2,e3,hlen=>show#[hlen,#[.str (Str.join a ts),H,I.tok _,#[_,by rw[e3]],q]]
  | [p],e2,e3,hlen =>
   have e4:Str.join a ts=p.1:=by rw[<- e2];rfl
   show#[.str (Str.join a ts),H,I.tok _,#[_,by rw[e4]],q]
  | p1::p2::r',e2,e3,hlen=>show#[hlen,#[.str (Str.join a ts),H,I.tok _,#[_,by rw[e3]],q]]
 ·show h.elim
def LS{v:ϊ}{o:Option Int}(p:IsPart v o):∃ l:Option (Int×Tok),v=partValue l/\l.map (·.1)=o:=by
 cases p with
 | none=>show#[none,rfl,rfl]
 | int i t=>show#[!(i,t),rfl,rfl]
def  JZ:V->Option Int->Option Int->Hp->VK->Prop:=fun x lo hi H Q=>match x with
 | .str z=>z.length<=sizeLine/\Q (.str (Txt.slice z lo hi)) H
 | _=>False
def aaw:iV X JZ:=by
 intro π s σ H x v vl vu lo hi sl Q I rx hs pl pu h;unfold JZ at h;split at h
 ·rename_i z;let⟨hz,q⟩:=h;let⟨t,rfl⟩:=rx;let⟨l,rfl,rfl⟩:=LS pl;let⟨u,rfl,rfl⟩:=LS pu;show#["str",_,F.slot_str_getitem.lookup,_E _ _ _,wpAny_getItem_str_slice (l:=l) (u:=u) (st:=none) hs rfl
   (post_val_or_str #[ut (Txt.slice_le z _ _) hz,fun t' k=>?_])]
  show#[.str (Txt.slice z (l.map (·.1)) (u.map (·.1))),H,I.tok k,#[t',rfl],q]
 ·show h.elim
def  CJ:R2:=fun x y H Q=>match x,y with
 | .int i,.int j=>zL i j/\Q (.int (i * j)) H
 | .str z,.int n=>MulOk z n/\Q (.str (Txt.mul z n)) H
 | .ref l,.int k=>match H l with
  | some (.lst xs)=>(unop% Neg.neg ((2 ^ 63)))<=k/\k < 2 ^ 63/\xs.length * k.toNat<=sizeLine/\∀ p,H p=none->Q (-p) (upd H p (.lst (List.replicate k.toNat xs).flatten))
  | _=>False
 | _,_=>False
def acC:bu X (binaryOp .Mult) (fun x y H Q=>∃ z n,x=.str z/\y=.int n/\MulOk z n/\Q (.str (Txt.mul z n)) H):=by
 intro π s σ H x y v u Q I rx ry h;let⟨z,n,rfl,rfl,hm,q⟩:=h;let⟨t,rfl⟩:=rx;let⟨t',rfl⟩:=ry;show SB.mul hm fun t2 k=>#[.str _,H,I.tok _,#[_,rfl],q]
def yu:bu X (binaryOp .Mult) CJ:=(ZO.or (acC.or ZL)).imp fun x y H Q h=>by
 unfold CJ at h;split at h
 ·show .inl #[_,_,rfl,rfl,h.1,h.2]
 ·show .inr (.inl #[_,_,rfl,rfl,h.1,h.2])
 ·split at h
  ·rename_i xs h1;let⟨h2,h3,h4,h5⟩:=h;show .inr (.inr #[_,_,xs,rfl,rfl,h1,h2,h3,h4,h5])
  ·show h.elim
 ·show h.elim
def IX:∀ {bs:List Bool}{us:List ϊ},Vals (bs.map V.bl) us->us=bs.map ϊ.bool
 | [],_,.nil=>rfl
 | b::r,_,.cons h h'=>by
  have h:_=ϊ.bool b:=h;rw[h,IX h'];rfl
def all_range(bs:List Bool):(List.range bs.length).all (fun j=>bs.getD j true)=bs.all id:=by
 rw[UF,FS,FS];constructor
 ·intro h b hb;let⟨i,hi,e⟩:=List.getElem_of_mem hb;have:=h i (Jap.mpr hi);rw[_F,ul hi,e]at this;show this
 ·intro h j hj;have hj:=Jap.mp hj;rw[_F,ul hj];show h _ (XV hj)
def Uh(hc:X.calm=true):cW X (.builtin "all") (fun xs H Q=>∃ (p:ϋ) (bs:List Bool),xs=[-p]/\aC X.K H p (bs.map V.bl)/\Q (.bl (bs.all id)) H):=by
 intro π s σ H xs us Q I r h;let⟨p,bs,rfl,hq,q⟩:=h;let⟨u,rfl,e⟩:=vals1 r;cases e;let⟨au,rv,pl,hz⟩:=I.list hq;have eb:=IX rv;subst eb;have bt:p < s.heap.objs.size:=pl.lt;show call_all_walk (wpAny_pyIter_list pl.isList ?_);show#[s.heap.objs.size,_,_,_,_,_,fun j=>bs.getD j true,rfl,Walks.list (A:=X.A.in1) (show X.A.in1.handled=none from I.ok.hd hc) _ p (zn bt) (bs.map ϊ.bool).toArray,#[#[_,wn _ rfl,rfl,rfl],pl.isList.push _],?_,?_]
 ·intro i v s' Q' E' hP hQ;have hi:bs[i]?=!bs.getD i true/\v=.bool (bs.getD i true):=by
   have hP:(bs.map ϊ.bool).toArray[i]?=!v:=hP;rw[List.getElem?_toArray,At]at hP;cases e:bs[i]? with
   | none=>rw[e]at hP;cases hP
   | some b =>
    rw[e]at hP;have:bs.getD i true=b:=by rw[_F,e];rfl
    rw[this];show#[rfl,(Fk hP).symm]
  rw[hi.2];show PP hQ
 ·intro h' tk hk;have e:(List.range (bs.map ϊ.bool).toArray.size).all (fun j=>bs.getD j true)=bs.all id:=by
   rw[sK,lv];show all_range bs
  rw[e];show#[.bl (bs.all id),H,I.kept (t':=tk) (fun b o eo=>?_),rfl,q];show hk b o ?_ (pp _ eo);intro hm;have e1:b=s.heap.objs.size:=by simpa using hm
  show absurd (u8 eo) (by rw[e1];show KB _)
def  yW(x:Str):It:=#[fun i _=>i < x.length,fun i H y H'=>H'=H/\∃ c,x.cps[i]?=!c/\y=.str #[(List.toArray [c])],fun i _=>x.length<=i]
def HS{P:ύ}{w:World}{K:ν}{tg:Expr}{x:Str}{t:Tok}{ty:String}(it:ϋ)(cx:["enumerate","zip","dict_itemiterator","dict_reverseitemiterator","odict_iterator","itertools.zip_longest","itertools.pairwise"].contains ty=false)(W:∀ A:Around,A.handled=none->Walks P w A it [it] [it] x.cps.size (SignAt x) (fun i h=>h.IsStrIter it ty x t i))(W0:∀ (A:Around) (i:Nat) (s:ό) (Q:ϊ->ό->Prop) (E:ϊ->ό->Prop),s.heap.IsStrIter it ty x t i->Q (-it) s->wpAny (model P w) A (pyIter (-it)) Q E s) :
  Turn P w K tg (yW x) [it] it (fun i h=>i<=x.length/\h.IsStrIter it ty x t i) where
 mem:=()
 obj:=fun i h st b hb=>by
  have e:b=it:=by simpa using hb
  subst e;let⟨_,o,e,c,d⟩:=st;show#[o,e,fun v z=>by rw[d]at z;cases z]
 keep:=fun i h h' st k=>#[st.1,let ⟨o,ho,r⟩:=st.2;#[o,k it () o ho,r]]
 item:=by
  intro X hP hw hK hc i π s σ H E I hf st hg;subst hP hw hK;let⟨f0,f1,f2,f3,f4,f5⟩:=hf it ();show(W X.A (I.ok.hd hc)).item i s _ E hg st.2 fun v h' tk hv st' hk=>?_;let⟨c,u,hcx,rfl⟩:=hv;have I1:Inv X π σ H { s with heap:=h',toks:=tk }:=I.turned (t':=tk) (fun b o hb e=>hk b o (by simpa using hb) e) f0 f1 f3 f4 f5;let⟨o,e,cc,d⟩:=id st';show#[_,rfl,Ds (s:={ s with heap:=h',toks:=tk }) e cc d cx #[.str #[(List.toArray [c])],H,I1,#[u,rfl],#[rfl,c,hcx,rfl],#[hg,st'],fun b hb=>(hf b hb).1]]
 done:=by
  intro X hP hw hK hc i π s σ H E I hf st hg;subst hP hw hK;let⟨f0,f1,f2,f3,f4,f5⟩:=hf it ();have hi:i=x.cps.size:=Nat.le_antisymm st.1 hg;subst hi;show(W X.A (I.ok.hd hc)).done s _ E st.2 fun h' tk hk=>#[rfl,I.turned (t':=tk) (fun b o hb e=>hk b o (by simpa using hb) e) f0 f1 f3 f4 f5]
 self:=fun A i s Q E st h=>W0 A i s Q E st.2 h
def  FL(tl:TE):TI:=fun σ H R=>tl σ H fun x H1=>match x with
 | .str z=>R (yW z) H1
 | _=>False
def adE{tg l:Expr}{tl:TE}(hl:PE X l tl):PI X tg l (FL tl):=by
 intro π s σ H R I h;show aH (hl π s σ H _ I h) fun v s1 #[x,H1,I1,r1,q1]=>?_;have q1':∃ z,x=.str z/\R (yW z) H1:=by
  dsimp only at q1;split at q1
  ·show#[_,rfl,q1]
  ·show q1.elim
 let⟨z,rfl,q⟩:=q1';let⟨t,rfl⟩:=r1;have fp:∀ b∈[s1.heap.objs.size],kK X π H1 b:=fun b hb=>by
  have e:b=s1.heap.objs.size:=by simpa using hb
  subst e;show I1.CV (pi _) (I1.aE.fresh (pi _))
 cases ha:z.cps.all (· < 128)
 ·show wpAny_pyIter_wide ha #[s1.heap.objs.size,[s1.heap.objs.size],_,_,H1,rfl,I1.kept (t':=s1.toks) fun b o e=>pp _ e,
   HS (ty := "str_iterator") (t:=t) _ ⋯ (fun A hA=>Walks.strWide hA _ z t) (fun A i s Q E st h=>wpAny_pyIter_striter_wide st h),#[wT _,_,wn _ rfl,rfl,rfl],fp,q]
 ·show wpAny_pyIter_ascii ha #[s1.heap.objs.size,[s1.heap.objs.size],_,_,H1,rfl,I1.kept (t':=s1.toks) fun b o e=>pp _ e,
   HS (ty := "str_ascii_iterator") (t:=t) _ ⋯ (fun A hA=>Walks.strAscii hA _ z t) (fun A i s Q E st h=>wpAny_pyIter_striter_ascii st h),#[wT _,_,wn _ rfl,rfl,rfl],fp,q]
end
section
variable {X:Cx}{a b c:Expr}{ta tb tc:TE}{pos:Pos}
def Ts(ha:PE X a ta):PE X (.UnaryOp .Not a pos) (EB ta):=by
 intro π s σ H Q I h;show UnaryOp_ (aH (ha π s σ H _ I h) fun v s1 #[x,H1,I1,r1,q1]=>?_);have q1':∃ k,x=.bl k/\Q (.bl (Bool.not k)) H1:=by
  dsimp only at q1;split at q1
  ·show#[_,rfl,q1]
  ·show q1.elim
 let⟨k,rfl,z1⟩:=q1';cases r1;show not_of (PP #[.bl (Bool.not k),H1,I1,rfl,z1])
def Rh{op op':CmpOp}{f g:Int->Int->Bool}(ho:bu X (compareOp op) (kT f))(ho':bu X (compareOp op') (kT g))(ha:PE X a ta)(hb:PE X b tb)(hc:PE X c tc)(hm:lastMarks [op,op'] [b,c]=false:=by with_unfolding_all rfl):PT X (.Compare a [op,op'] [b,c] pos) (CY f g ta tb tc):=by
 intro π s σ H Q I h;show isTrue_chain (aH (ha π s σ H _ I h) fun v s1 ⟨x,H1,I1,r1,q1⟩=>test_link (aH (hb π s1 σ H1 _ I1 q1) fun u s2 ⟨y,H2,I2,r2,q2⟩=>?_)) hm;have q2':∃ i j,x=.int i/\y=.int j/\if f i j=true then tc σ H2 (fun z H3=>(match z with | .int k=>Q (g j k) H3 | _=>False)) else Q false H2:=by
  dsimp only at q2;split at q2
  ·show#[_,_,rfl,rfl,q2]
  ·show q2.elim
 let⟨i,j,rfl,rfl,z2⟩:=q2';show aH (ho π s2 σ H2 (.int i) (.int j) v u (fun z H3=>z=.bl (f i j)/\H3=H2) I2 r1 r2 #[rfl,rfl]) fun d s3 ⟨z,H3,I3,r3,e,e'⟩=>?_;subst e e';cases r3;show PP ?_;cases hf:f i j with
 | false =>
  rw[hf]at z2;show ite_ff #[H3,I3,z2]
 | true =>
  rw[hf,wl rfl]at z2;show ite_tt (test_last (aH (hc π s3 σ H3 _ I3 z2) fun w' s4 ⟨z',H4,I4,r4,q4⟩=>?_));have q4':∃ k,z'=.int k/\Q (g j k) H4:=by
   dsimp only at q4;split at q4
   ·show#[_,rfl,q4]
   ·show q4.elim
  let⟨k,rfl,z4⟩:=q4';show aH (ho' π s4 σ H4 (.int j) (.int k) u w' (fun z H5=>z=.bl (g j k)/\H5=H4) I4 r2 r4 #[rfl,rfl]) fun d' s5 ⟨z2,H5,I5,r5,e,e'⟩=>?_;subst e e';cases r5;show PP #[H5,I5,z4]
def  yn(K:ν):List V->Hp->VK->Prop:=fun xs H Q=>match xs with
 | [.str y]=>y.length<=sizeLine/\Q (.int y.length) H
 | [-p]=>ee K H p fun ys=>Q (.int ys.length) H
 | _=>False
def Wi:cW X (.builtin "len") (yn X.K):=Nu.imp fun xs H Q h=>by
 unfold yn at h;split at h
 ·show#[_,_,rfl,#[h.1,rfl],h.2]
 ·let⟨ys,h1,h2⟩:=yG h;rcases h1 with h1 | h1
  ·show#[_,_,rfl,.inl #[ys,h1,rfl],h2]
  ·show#[_,_,rfl,.inr #[ys,h1,rfl],h2]
 ·show h.elim
def  K9(K:ν):List V->Hp->VK->Prop:=fun xs H Q=>match xs with
 | [x,cV]=>∃ t b,((∃ n,cV=.ty n)\/∃ a,cV=-a)/\gm K H x t/\W.kitOne K t (yv cV)=!b/\Q (.bl b) H
 | _=>False
def ady:cW X (.builtin "isinstance") (K9 X.K):=R4.imp fun xs H Q h=>by
 unfold K9 at h;split at h
 ·let⟨t,b,h1,h2,h3,h4⟩:=h;show#[_,_,t,b,rfl,h1,h2,h3,h4]
 ·show h.elim
def  zr(K:ν):List V->Hp->VK->Prop:=fun xs H Q=>match xs with
 | [-p]=>zB K H p fun xs=>∃ bs:List Bool,xs=bs.map V.bl/\Q (.bl (bs.all id)) H
 | _=>False
def ZF(hc:X.calm=true):cW X (.builtin "all") (zr X.K):=(Uh hc).imp fun xs H Q h=>by
 unfold zr at h;split at h
 ·let⟨xs,h1,bs,rfl,h2⟩:=Bm h;show#[_,bs,rfl,h1,h2]
 ·show h.elim
def  xR(K:ν):List V->Hp->VK->Prop:=fun xs H Q=>match xs with
 | [-p]=>ee K H p fun ys=>∀ l,H l=none->Q (-l) (upd H l (.lst ys))
 | _=>False
def TM:cW X (.type "list") (xR X.K):=Rm.imp fun xs H Q h=>by
 unfold xR at h;split at h
 ·let⟨ys,h1,h2⟩:=yG h;show#[_,ys,rfl,h1,h2]
 ·show h.elim
def  pW(K:ν):R2:=fun x y H Q=>match x,y with
 | .ref p,.int i=>ee K H p fun xs=>match cS xs i with
  | some v=>Q v H
  | none=>False
 | .str z,.int i=>z.length<=sizeLine/\match cS z.cps.toList i with
  | some c=>Q (.str #[(List.toArray [c])]) H
  | none=>False
 | _,_=>False
def gu.imp{r r':R2}(h:gu X r)(i:∀ x y H Q,r' x y H Q->r x y H Q):gu X r':=fun value slice π s σ H x y v u Q I rx ry q=>h value slice π s σ H x y v u Q I rx ry (i x y H Q q)
def qx:gu X (pW X.K):=abp.imp fun x y H Q h=>by
 unfold pW at h;split at h
 ·let⟨xs,h1,h2⟩:=yG h;split at h2
  ·rename_i v e;rcases h1 with h1 | h1
   ·show .inl #[_,xs,_,v,rfl,rfl,h1,e,h2]
   ·show .inr (.inl #[_,xs,_,v,rfl,rfl,h1,e,h2])
  ·show h2.elim
 ·let⟨h1,h2⟩:=h;split at h2
  ·rename_i d e;show .inr (.inr #[_,_,d,rfl,rfl,h1,e,h2])
  ·show h2.elim
 ·show h.elim
def  xV(K:ν):V->Option Int->Option Int->Hp->VK->Prop:=fun x lo hi H Q=>match x with
 | .str z=>z.length<=sizeLine/\Q (.str (Txt.slice z lo hi)) H
 | .ref a=>zB K H a fun xs=>∀ p,H p=none->Q (-p) (upd H p (.lst (gq xs lo hi)))
 | _=>False
def Vt:iV X (xV X.K):=by
 intro π s σ H x v vl vu lo hi sl Q I rx hs pl pu h;show(aaw.or Wu) π s σ H x v vl vu lo hi sl Q I rx hs pl pu ?_;unfold xV at h;split at h
 ·show .inl h
 ·let⟨xs,h1,h2⟩:=Bm h;show .inr #[_,xs,rfl,h1,h2]
 ·show h.elim
def  Bk(t:TE):TO:=fun σ H Q=>t σ H fun x H1=>match x with
 | .int i=>Q (!i) H1
 | _=>False
def QZ{e:Expr}{te:TE}(h:PE X e te):PO X (!e) (Bk te):=by
 intro π s σ H Q I q;show evalPart_some_step (aH (h π s σ H _ I q) fun v s1 #[x,H1,I1,r1,q1]=>?_);have q1':∃ i,x=.int i/\Q (!i) H1:=by
  dsimp only at q1;split at q1
  ·show#[_,rfl,q1]
  ·show q1.elim
 let⟨i,rfl,z1⟩:=q1';let⟨t,rfl⟩:=r1;show#[!i,H1,I1,.int i t,z1]
def  DU:wF:=fun o i v H Q=>match o,i with
 | .ref p,.int k=>match H p with
  | some (.lst xs)=>(match ir xs.length k with
   | some j=>Q (upd H p (.lst (xs.set j v)))
   | none=>False)
  | _=>False
 | _,_=>False
def HG:zc X DU:=by
 intro π s σ H o i v ov iv u Q I ro ri rv h;show set_list π s σ H o i v ov iv u Q I ro ri rv ?_;unfold DU at h;split at h
 ·split at h
  ·rename_i xs h1;split at h
   ·rename_i j h2;show#[_,xs,_,j,rfl,rfl,h1,h2,h]
   ·show h.elim
  ·show h.elim
 ·show h.elim
def dC.imp{id:String}{r r':V->List V->Hp->VK->Prop}(h:dC X id r)(i:∀ x xs H Q,r' x xs H Q->r x xs H Q):dC X id r':=fun π s σ H x xs v us Q I rx rv q=>h π s σ H x xs v us Q I rx rv (i x xs H Q q)
def  AQ:V->List V->Hp->VK->Prop:=fun x vs H Q=>match x,vs with
 | .ref l,[y]=>match H l with
  | some (.lst xs)=>xs.length < sizeLine/\Q .aw (upd H l (.lst (xs++[y])))
  | _=>False
 | _,_=>False
def jQ:dC X "list.append" AQ:=dC.imp SW fun x xs H Q h=>by
 unfold AQ at h;split at h
 ·split at h
  ·rename_i zs h1;show#[_,zs,_,rfl,rfl,h1,h.1,h.2]
  ·show h.elim
 ·show h.elim
def  FY:V->List V->Hp->VK->Prop:=fun x vs H Q=>match x,vs with
 | .ref l,[-b]=>match H l,H b with
  | some (.lst xs),!.lst zs=>xs.length+zs.length<=sizeLine/\Q .aw (upd H l (.lst (xs++zs)))
  | _,_=>False
 | _,_=>False
def K3:dC X "list.extend" FY:=dC.imp aah fun x xs H Q h=>by
 unfold FY at h;split at h
 ·split at h
  ·rename_i zs ws h1 h2;show#[_,_,zs,ws,rfl,rfl,h1,h2,h.1,h.2]
  ·show h.elim
 ·show h.elim
def  clsName(H:Hp):V->Option String
 | .aw=>!"NoneType"
 | .bl _=>!"bool"
 | .int _=>!"int"
 | .str _=>!"str"
 | .ref p=>match H p with
  | some (.lst _)=>!"list"
  | some (.tup _)=>!"tuple"
  | some (.dK _)=>!"dict"
  | _=>none
 | _=>none
def  yr(T n:String):Bool:=T == n || (T == "bool" && n == "int")
def abq{K:ν}{H:Hp}{x:V}{T:String}(h:clsName H x=!T):gm K H x (.type T)/\T∈["NoneType","bool","int","str","list","tuple","dict"]:=by
 unfold clsName at h;split at h
 ·cases h;show#[.aw,()]
 ·cases h;show#[.bl _,()]
 ·cases h;show#[.int _,()]
 ·cases h;show#[.str _,()]
 ·split at h
  ·rename_i e;cases h;show#[.lst e,()]
  ·rename_i e;cases h;show#[.tup e,()]
  ·rename_i e;cases h;show#[.dK e,()]
  ·cases h
 ·cases h
def abu(K:ν):∀ T,T∈["NoneType","bool","int","str","list","tuple","dict"]->∀ n,n∈["bool","int","str","list","tuple","dict"]->W.kitOne K (.type T) (.type n)=!yr T n:=by
 intro T hT n hn;simp only[li,List.mem_nil_iff,wP]at hT hn;rcases hT with rfl | rfl | rfl | rfl | rfl | rfl | rfl <;> rcases hn with rfl | rfl | rfl | rfl | rfl | rfl <;> kernel_rfl
def  Et:List V->Hp->VK->Prop:=fun xs H Q=>match xs with
 | [x,.ty n]=>n∈["bool","int","str","list","tuple","dict"]/\match clsName H x with
  | some T=>Q (.bl (yr T n)) H
  | none=>False
 | _=>False
def kY:cW X (.builtin "isinstance") Et:=ady.imp fun xs H Q h=>by
 unfold Et at h;split at h
 ·rename_i x n;let⟨hn,h⟩:=h;split at h
  ·rename_i T e;let⟨h1,h2⟩:=abq (K:=X.K) e;show#[_,_,.inl #[_,rfl],h1,abu _ T h2 n hn,h]
  ·show h.elim
 ·show h.elim
def  Fx(r:V->List V->Hp->VK->Prop)(to:TE)(t:TA):TE:=fun σ H Q=>to σ H fun x H1=>match x with
 | .str z=>t σ H1 fun xs H2=>r (.str z) xs H2 Q
 | _=>False
def  Du(r:V->List V->Hp->VK->Prop)(to:TE)(t:TA):TE:=fun σ H Q=>to σ H fun x H1=>match x with
 | .ref l=>(match H1 l with
  | some (.lst _)=>t σ H1 fun xs H2=>r (-l) xs H2 Q
  | _=>False)
 | _=>False
section
variable {T:String}{name:Str}{id:String}{r:V->List V->Hp->VK->Prop}{o e:Expr}{es:List Expr}{to:TE}{t:TA}{apos bB:Pos}
def acs(slot:Slot "str" name id)(cx:typeOf (.builtin id)=pure (.type "method_descriptor"))(hm:dC X id r)(ho:PE X o to)(ha:PA X (e::es) t)(hs:‹(e::es).all noStar=true›)(aO:‹decide ((e::es).length+([]:List Keyword).length+(if ([]:List Keyword).isEmpty then 0 else 1) < 30)=true›)(ib:‹attributeBase o name X.env (eval o X.env)=eval o X.env›)(hZ:‹(apos.endLine == bB.line)=true›) :
  PE X (.Call (.Attribute o name apos) (e::es) [] bB) (Fx r to t):=by
 have hs':=hs;rw[IN,AC]at hs';have aR:starEach (e::es) X.env=(false,eval e X.env)::starEach es X.env:=fW hs'.1;have xm:(backTo bB (starEach es X.env)).any (·.1)=false:=iT hs'.2;have xA:((backTo bB (starEach (e::es) X.env)).all (fun x=>Bool.not x.1) && (backToKw bB (keywordEach [] X.env)).all (fun x=>x.1.isSome)
   && decide ((e::es).length+([]:List Keyword).length+(if ([]:List Keyword).isEmpty then 0 else 1) < 30))=true:=by
  rw[yz hs,aO];rfl
 intro π s σ H Q I h;show _Y ib xA hZ rfl (aH (ho π s σ H _ I h) fun v s1 ⟨x,H1,I1,r1,q1⟩=>?_);dsimp only at q1;split at q1
 ·rename_i z;let⟨h1,h2⟩:=AJ (T := "str") I1 r1 rfl;show#["str",id,PySem.F.plainAttrs_str,slot,cx,h1,h2,?_];have hA:=ha bB π s1 σ H1 _ I1 q1;rw[aR]at hA ⊢;show ST (by change(false || (backTo bB (starEach es X.env)).any (·.1))=false;rw[xm] <;> rfl) (TW ?_);show aH hA fun us s2 ⟨vs,H2,I2,r2,q2⟩=>hm π s2 σ H2 (.str z) vs v us Q I2 r1 r2 q2
 ·show q1.elim
def SR(slot:Slot "list" name id)(cx:typeOf (.builtin id)=pure (.type "method_descriptor"))(hm:dC X id r)(ho:PE X o to)(ha:PA X (e::es) t)(hs:‹(e::es).all noStar=true›)(aO:‹decide ((e::es).length+([]:List Keyword).length+(if ([]:List Keyword).isEmpty then 0 else 1) < 30)=true›)(ib:‹attributeBase o name X.env (eval o X.env)=eval o X.env›)(hZ:‹(apos.endLine == bB.line)=true›) :
  PE X (.Call (.Attribute o name apos) (e::es) [] bB) (Du r to t):=by
 have hs':=hs;rw[IN,AC]at hs';have aR:starEach (e::es) X.env=(false,eval e X.env)::starEach es X.env:=fW hs'.1;have xm:(backTo bB (starEach es X.env)).any (·.1)=false:=iT hs'.2;have xA:((backTo bB (starEach (e::es) X.env)).all (fun x=>Bool.not x.1) && (backToKw bB (keywordEach [] X.env)).all (fun x=>x.1.isSome)
   && decide ((e::es).length+([]:List Keyword).length+(if ([]:List Keyword).isEmpty then 0 else 1) < 30))=true:=by
  rw[yz hs,aO];rfl
 intro π s σ H Q I h;show _Y ib xA hZ rfl (aH (ho π s σ H _ I h) fun v s1 ⟨x,H1,I1,r1,q1⟩=>?_);dsimp only at q1;split at q1
 ·rename_i l;split at q1
  ·rename_i zs el;let⟨h1,h2⟩:=AJ (T := "list") I1 r1 (.inl #[rfl,zs,aC.of el]);show#["list",id,PySem.F.plainAttrs_list,slot,cx,h1,h2,?_];have hA:=ha bB π s1 σ H1 _ I1 q1;rw[aR]at hA ⊢;show ST (by change(false || (backTo bB (starEach es X.env)).any (·.1))=false;rw[xm] <;> rfl) (TW ?_);show aH hA fun us s2 ⟨vs,H2,I2,r2,q2⟩=>hm π s2 σ H2 (-l) vs v us Q I2 r1 r2 q2
  ·show q1.elim
 ·show q1.elim
end
def XN{CX:eP}{P:ύ}{w:World}{K:ν}{mg:Str->Option ϊ}{base:Heap}{N:List Str}{qual:Str}{scope:Scope}{f:ϋ}{cd:ϊ}{A:Around}{outer:List Env}{s:ό}{H:Hp}{E:XK} :
  (iG CX P w K mg base N qual scope f cd A outer s H E).K=K:=rfl
def eO{α:Type}(a:α)(l:List α):cS (a::l) 0=!a:=gZ (j:=0) rfl
def uO{α:Type}(a b:α)(l:List α):cS (a::b::l) 1=!b:=gZ (j:=1) rfl
def JX{α:Type}(a b c:α)(l:List α):cS (a::b::c::l) 2=!c:=gZ (j:=2) rfl
def Tq(n:Nat):ir (n+1) 0=!0:=by
 unfold ir;rw[wl ⋯,wl ∅];rfl
def Y1(n:Nat):ir (n+3) 2=!2:=by
 unfold ir;rw[wl ⋯,wl ∅];rfl
def Je{H:Hp}{p b:ϋ}{o u:HO}(h:H b=!u)(hp:H p=Option.none):upd H p o b=!u:=by rw[ag (gH h hp)];show h
def gS:bootBuiltins "isinstance" = !.builtin "isinstance":=by decide +kernel
def Ll:bootBuiltins "all" = !.builtin "all":=by decide +kernel
def nj:bootBuiltins "str" = !.type "str":=by decide +kernel
def acq:bootBuiltins "bool" = !.type "bool":=by decide +kernel
def uK:bootBuiltins "int" = !.type "int":=by decide +kernel
def zF:bootBuiltins "list" = !.type "list":=by decide +kernel
end
abbrev Ku(ifs:List Expr)(env:Env):Sem Bool:=forIn ifs true fun c r=>if r=true then do let ok <- isTrue c env (eval c env);pure (ForInStep.yield ok) else pure (ForInStep.yield r)
section
variable {prog:ύ}{w:World}{A:Around}{R:Result->ό->Prop}{s:ό}
def Wh{elt tg iter:Expr}{ifs:List Expr}{scope:Scope}{pos:Pos}{it acc:ϊ}{env:Env}(J:Nat->ό->Prop)(hN:∀ e s',notedBy (model prog w) A env (fun e s'=>R (.error e) s') e s'->True)(turn:∀ n s,J n s->wpAny (model prog w) A (pyNext it) (fun r s1=>match r with
   | none=>R (.ok .next) s1
   | some v=>wpAny (model prog w) A (letOwnedTupleGo tg it v) (fun _ s2=>wpAny (model prog w) A (assign tg env v) (fun _ s3=>wpAny (model prog w) A (Ku ifs env)
     (fun ok s4=>if ok=true then wpAny (model prog w) A (eval elt env) (fun x s5=>wpAny (model prog w) A (call (.builtin "list.append") [acc,x]) (fun _ s6=>∃ m,m < n/\J m s6) (fun _ _=>False) s5) (fun _ _=>False) s4
      else ∃ m,m < n/\J m s4) (fun _ _=>False) s3) (fun _ _=>False) s2) (fun _ _=>False) s1) (fun _ _=>False) s)(n:Nat)(h:J n s):codeAny (model prog w) A (.compLoop (.ListComp elt [#[tg,iter,ifs,0]] scope pos) 0 it acc env) R s:=by
 have no:∀ {E:ϊ->ό->Prop} (e:ϊ) (s':ό),False->E e s':=fun _ _ z=>z.elim;show codeAny_loop rfl J (fun n s hI=>?_) n h;show(show wpAny _ A (Sem.onRaise (compTurn (.ListComp elt [#[tg,iter,ifs,0]] scope pos) 0 it acc env) (fun x=>do noteFrame x env;theTreesLotGoes x)) _ _ s from ?_);show wpAny_noted ?_;rw[compTurn_list];show jp (_K (jp (Op (turn n s hI) (fun r s1 q1=>?_) no)));cases r with
 | none=>show tz q1
 | some v =>
  show jp (Op q1 (fun _ s2 q2=>jp (Op q2 (fun _ s3 q3=>jp (Op q3 (fun ok s4 q4=>?_) no)) no)) no);cases ok with
  | false=>show tz #[rfl,q4]
  | true=>show jp (jp (Op q4 (fun x s5 q5=>jp (Op q5 (fun _ s6 q6=>tz (tz #[rfl,q6])) no)) no))
end
def  rg(X:Cx)(ifs:List Expr)(t:TT):Prop :=
 ∀ (π:List (ϋ×Obj)) (s:ό) (σ:St) (H:Hp) (Q:Bool->Hp->Prop),Inv X π σ H s->t σ H Q->wpAny (model X.prog X.w) X.A (Ku ifs X.env) (TP X π σ Q) X.xe s
def  iL:TT:=fun _ H Q=>Q true H
def XY{X:Cx}:rg X [] iL:=fun _ _ _ H _ I h=>wpAny_tests_nil #[H,I,h]
def UP{X:Cx}{c:Expr}{t:TT}(h:PT X c t):rg X [c] t:=fun π s σ H Q I q=>wpAny_tests_one (h π s σ H Q I q)
def  yx(wi:TI)(tt:TT)(te:TE):TE:=fun σ H Q=>wi σ H fun J H1=>∃ W:Nat->List V->Nat->Hp->Prop,(∃ m,W 0 [] m H1)/\∀ i ys m H,W i ys m H ->
 ys.length<=sizeLine/\((J.stop i H/\∀ l,H l=none->Q (-l) (upd H l (.lst ys))) \/
  (J.go i H/\ys.length < sizeLine/\∀ y H',J.lY i H y H'->tt [!y] H' fun c H2=>if c=true then te [!y] H2 fun z H3=>∃ m',m' < m/\W (i+1) (ys++[z]) m' H3 else ∃ m',m' < m/\W (i+1) ys m' H2))
section
variable {X:Cx}
structure BM(X:Cx)(π:List (ϋ×Obj))(H:Hp)(C:ϋ):Prop where
 fr:H C=none
 nl:C≠X.env.locals
 ab:X.s₀.heap.objs.size<=C
 nc:∀ x c,X.env.cells.lookup x=!c->c≠C
 np:∀ p∈X.pn++π,p.1≠C
def BM.go{π:List (ϋ×Obj)}{σ:St}{H:Hp}{s:ό}{C:ϋ}{h':Heap}(o:BM X π H C)(I:Inv X π σ H s)(hs:Heap.SameBut C s.heap h'):Inv X π σ H { s with heap:=h' } :=
 I.turned (t':=s.toks) (fun b ob hb e=>(hs.2 b hb).trans e) o.fr o.nl (.inr o.ab) o.nc o.np
end
def  dm(st:ϋ)(H H':Hp):Prop:=∀ c o,c≠st->H c=!o->H' c=!o
def dm.trans{st:ϋ}{H H1 H2:Hp}(a:dm st H H1)(b:dm st H1 H2):dm st H H2:=fun c o n e=>b c o n (a c o n e)
def ai.upd{H:Hp}{p:ϋ}{o:HO}(h:H p=Option.none):ai H (upd H p o):=fun b u e=>by rw[ag (gH e h)];show e
def ai.keep{H H':Hp}(h:ai H H')(st:ϋ):dm st H H':=fun c o _ e=>h c o e
def dm.upd{H:Hp}{p:ϋ}{o:HO}:dm p H (upd H p o):=fun c u n e=>by rw[ag n];show e
def dm.same{H H1 H':Hp}{st:ϋ}(a:ai H H1)(h:H st=Option.none)(k:dm st H1 H'):ai H H':=fun c o e=>k c o (gH e h) (a c o e)
def  vw:V->Bool
 | .str _=>true
 | _=>false
def  mE(t:TE):TE:=fun σ H Q=>∃ M:VK,t σ H M/\∀ v H1,M v H1->Q v H1
def  mA(t:TA):TA:=fun σ H Q=>∃ M:List V->Hp->Prop,t σ H M/\∀ v H1,M v H1->Q v H1
def PE.m{X:Cx}{e:Expr}{t:TE}(h:PE X e t):PE X e (mE t):=fun π s σ H Q I #[M,h1,h2]=>aH (h π s σ H M I h1) fun _ _ #[v,H1,I1,r,q]=>#[v,H1,I1,r,h2 v H1 q]
def PA.m{X:Cx}{e:List Expr}{t:TA}(h:PA X e t):PA X e (mA t):=fun pos π s σ H Q I #[M,h1,h2]=>aH (h pos π s σ H M I h1) fun _ _ #[v,H1,I1,r,q]=>#[v,H1,I1,r,h2 v H1 q]
def PI.imp{X:Cx}{tg it:Expr}{t t':TI}(h:PI X tg it t)(i:∀ σ H R,t' σ H R->t σ H R):PI X tg it t':=fun π s σ H R I hw=>h π s σ H R I (i σ H R hw)
def  CM(ta:TA):TI:=fun σ H R=>ta σ H fun vs H1=>match vs with
 | [.int j]=>((unop% Neg.neg ((2 ^ 62)))<=j/\j < 2 ^ 62)/\R (nZ 0 j.toNat) H1
 | _=>False
def R7{X:Cx}{tg a:Expr}{ta:TA}{p pos:Pos}(hg:Gl X "range")(hm:X.mg "range" = none)(ha:PA X [a] ta)(hs:‹starEach [a] X.env=[(false,eval a X.env)]›):PI X tg (.Call (.Name "range" p) [a] [] pos) (CM ta) :=
 (S6 hg hm ha.m hs).imp fun σ H R h=>#[_,h,fun vs H1 z=>by
  split at z
  ·show#[_,rfl,z.1.1,z.1.2,z.2]
  ·show z.elim]
def  zN(K:ν)(tl:TE):TI:=fun σ H R=>tl σ H fun x H1=>match x with
 | .ref a=>(∃ xs,aC K H1 a xs)/\R (jV K a) H1
 | _=>False
def Uc{X:Cx}{tg l:Expr}{tl:TE}(hl:PE X l tl):PI X tg l (zN X.K tl):=(aa8 hl.m).imp fun σ H R h=>#[_,h,fun x H1 z=>by
  split at z
  ·show#[_,rfl,z.1,z.2]
  ·show z.elim]
def  Cp(J:It)(g:TG)(tb:TS)(D:Ends)(σ:St)(H1:Hp):Prop:=∃ W:Nat->Nat->St->Hp->Prop,(∃ m,W 0 m σ H1)/\∀ i m σ H,W i m σ H ->
 (J.stop i H/\D.nx σ H)\/(J.go i H/\∃ N:St->Hp->Prop,(∀ σ' H',N σ' H'->∃ m',m' < m/\W (i+1) m' σ' H')/\∀ x H',J.lY i H x H'->g x σ H' fun σ2 H2=>tb { D with nx:=N,ct:=N,bk:=D.nx } σ2 H2)
def abI{wi:TI}{g:TG}{tb:TS}{D:Ends}{σ:St}{H:Hp}:uJ wi g tb D σ H=wi σ H fun J H1=>Cp J g tb D σ H1:=rfl
def WL{lo:Int}{n:Nat}{g:TG}{tb:TS}{D:Ends}{σ:St}{H:Hp}(Pv:Nat->St->Hp->Prop)(h0:Pv 0 σ H)(hs:∀ i σ H,i < n->Pv i σ H->g (.int (lo+i)) σ H fun σ2 H2=>tb { D with nx:=Pv (i+1),ct:=Pv (i+1),bk:=D.nx } σ2 H2)(hd:∀ σ H,Pv n σ H->D.nx σ H):Cp (nZ lo n) g tb D σ H:=ac5 Pv h0 hs hd
def qe{K:ν}{a:ϋ}{xs:List V}{g:TG}{tb:TS}{D:Ends}{σ:St}{H:Hp}(Pv:Nat->St->Hp->Prop)(h0:Pv 0 σ H)(hl:∀ i σ H,i<=xs.length->Pv i σ H->aC K H a xs)(hs:∀ i x σ H,xs[i]?=!x->Pv i σ H->g x σ H fun σ2 H2=>tb { D with nx:=Pv (i+1),ct:=Pv (i+1),bk:=D.nx } σ2 H2)(hd:∀ σ H,Pv xs.length σ H->D.nx σ H):Cp (jV K a) g tb D σ H:=aal Pv h0 hl hs hd
def fits{n:Nat}(h:n<=1000):n<=sizeLine:=Nat.le_of_lt (HF h)
def gG{n:Nat}(h:n<=1000):n < sizeLine:=HF h
def  lK(t u:TS):TS:=fun D σ H=>∃ P:St->Hp->Prop,t { D with nx:=P } σ H/\∀ σ' H',P σ' H'->u D σ' H'
def adj{X:Cx}{st:Stmt}{rest:List Stmt}{t u:TS}(h1:PS X st t)(h2:eA X rest u):eA X (st::rest) (lK t u):=by
 intro π s σ H D I h;let⟨P,ht,hu⟩:=h;have h1':PS X st (fun D' σ' H'=>D'={ D with nx:=P }/\t D' σ' H'):=h1.imp fun _ _ _ z=>z.2;have h2':eA X rest (fun D' σ' H'=>P σ' H'/\D'=D):=fun π s σ H D' I z=>by
  let⟨z1,rfl⟩:=z;show h2 π s σ H D' I (hu σ H z1)
 show TX (t:=fun D' σ' H'=>t { D with nx:=P } σ' H'/\D'.rt=D.rt/\D'.bk=D.bk/\D'.ct=D.ct/\∀ σ'' H'',P σ'' H''->D'.nx σ'' H'') (u:=fun D' σ' H'=>P σ' H'/\D'=D) ?_ h2' π s σ H D I #[ht,rfl,rfl,rfl,fun σ'' H'' z=>#[z,rfl]];intro π s σ H D' I z;let⟨z1,z2,z3,z4,z5⟩:=z;show aH (h1 π s σ H { D with nx:=P } I z1) fun f s' hq=>?_;cases f with
 | next=>let⟨σ',H',I',q⟩:=hq;show#[σ',H',I',z5 _ _ q]
 | brk=>let⟨σ',H',I',q⟩:=hq;show#[σ',H',I',by rw[z3];show q]
 | cont=>let⟨σ',H',I',q⟩:=hq;show#[σ',H',I',by rw[z4];show q]
 | ret u=>let⟨v,σ',H',I',r,q⟩:=hq;show#[v,σ',H',I',r,by rw[z2];show q]
def ao{t u:TS}{D:Ends}{σ:St}{H:Hp}(h:t { D with nx:=u D } σ H):lK t u D σ H:=#[u D,h,fun _ _ z=>z]
def gx{t u:TS}{D:Ends}{σ:St}{H:Hp}(P:St->Hp->Prop)(h1:t { D with nx:=P } σ H)(h2:∀ σ' H',P σ' H'->u D σ' H'):lK t u D σ H:=#[P,h1,h2]
def yE{H:Hp}{x:V}{T:String}(h:clsName H x=!T):yr T "str" = vw x:=by
 unfold clsName at h;split at h
 ·cases h;rfl
 ·cases h;rfl
 ·cases h;rfl
 ·cases h;rfl
 ·split at h
  ·cases h;rfl
  ·cases h;rfl
  ·cases h;rfl
  ·cases h
 ·cases h
def ada(H:Hp)(z:Str):clsName H (.str z)=!"str" := rfl
def Ze(H:Hp)(z:Bool):clsName H (.bl z)=!"bool" := rfl
def ZC(H:Hp)(z:Int):clsName H (.int z)=!"int" := rfl
def ZS(H:Hp):clsName H .aw=!"NoneType" := rfl
def wm(n:String)(h:["bool","int","str","list","tuple","dict"].contains n=true):n∈["bool","int","str","list","tuple","dict"]:=by simpa using h
def  xU(K:ν):R2:=fun x y H Q=>match y with
 | .ref p=>∃ xs,(aC K H p xs\/bK K H p xs)/\cN x=true/\xs.all cN=true/\Q (.bl (g9 x xs)) H
 | _=>False
def abA{X:Cx}:bu X (compareOp .In) (xU X.K):=Ji.imp fun x y H Q h=>by
 unfold xU at h;split at h
 ·let⟨xs,h1,h2,h3,h4⟩:=h;show#[_,xs,rfl,h1,h2,h3,h4]
 ·show h.elim
section
variable {X:Cx}{K:ν}
def rT(h:X.K=K):bu X (compareOp .In) (ym K):=h ▸ Yn
def zy(h:X.K=K):bu X (compareOp .In) (xU K):=h ▸ abA
def l8(h:X.K=K):cW X (.builtin "len") (yn K):=h ▸ Wi
def Mt(h:X.K=K)(hc:X.calm=true):cW X (.builtin "all") (zr K):=h ▸ ZF hc
def J6(h:X.K=K):cW X (.type "list") (xR K):=h ▸ TM
def bG(h:X.K=K):gu X (pW K):=h ▸ qx
def nS(h:X.K=K):iV X (xV K):=h ▸ Vt
def En(h:X.K=K):dC X "str.join" (rJoin K):=h ▸ acf
end
def  v8:Sp:=fun vs H Q _=>match vs with
 | [-st,.int b]=>∃ zs:List Int,H st=!.lst (zs.map V.int)/\(zs.length=1\/zs.length=3)/\0 < b/\b < 1073741824 /\
   ∀ (d:Int) (zs':List Int) (H':Hp),0<=d->d < b->zs'.length=3->H' st=!.lst (zs'.map V.int)->dm st H H'->Q (.int d) H'
 | _=>False
def  qI(J:It)(tt:TT)(te:TE)(Q:VK)(H0:Hp):Prop:=∃ W:Nat->List V->Nat->Hp->Prop,(∃ m,W 0 [] m H0)/\∀ i ys m H,W i ys m H ->
 ys.length<=sizeLine/\((J.stop i H/\∀ l,H l=none->Q (-l) (upd H l (.lst ys))) \/
  (J.go i H/\ys.length < sizeLine/\∀ y H',J.lY i H y H'->tt [!y] H' fun c H2=>if c=true then te [!y] H2 fun z H3=>∃ m',m' < m/\W (i+1) (ys++[z]) m' H3 else ∃ m',m' < m/\W (i+1) ys m' H2))
def Jt{wi:TI}{tt:TT}{te:TE}{σ:St}{H:Hp}{Q:VK}:yx wi tt te σ H Q=wi σ H fun J H1=>qI J tt te Q H1:=rfl
def Z0{z:Str}{te:TE}{H:Hp}{Q:VK}(f:Nat->V)(hz:z.length<=sizeLine)(he:∀ c,c∈z.cps.toList->∀ H1,ai H H1->∀ R:VK,(∀ H2,ai H1 H2->R (f c) H2)->te [!.str #[(List.toArray [c])]] H1 R)(q:∀ H1,ai H H1->∀ l,H1 l=none->Q (-l) (upd H1 l (.lst (z.cps.toList.map f)))):qI (yW z) iL te Q H:=by
 have hl:z.cps.toList.length=z.length:=by simp[Str.length]
 show#[fun i ys m H1=>ai H H1/\ys=(z.cps.toList.take i).map f/\i<=z.length/\m=z.length - i,#[_,ai.refl H,rfl,wT _,rfl],?_];rintro i ys m H1 ⟨s1,rfl,hi,rfl⟩;have hlen:((z.cps.toList.take i).map f).length=i:=by rw[lv,W1,hl];omega
 show#[by rw[hlen];omega,?_];by_cases h:i < z.length
 ·show .inr #[h,by rw[hlen];omega,?_];rintro y H' ⟨rfl,c,hc,rfl⟩;have j5:z.cps.toList[i]?=!c:=by simpa using hc
  simp only[iL,if_true];show he c (LE j5) H' s1 _ fun H2 s2=>#[_,?_,s1.trans s2,?_,h,rfl]
  ·omega
  ·rw[_z,j5,Da];rfl
 ·have lA:i=z.length:=∅
  show .inl #[Nat.le_of_eq lA.symm,fun l hl'=>?_];have:=q H1 s1 l hl';rw[GM (by rw[hl];omega)];show this
def Eb{K:ν}{a:ϋ}{xs:List V}{tt:TT}{te:TE}{H:Hp}{Q:VK}(p:V->Bool)(f:V->V)(Hh:aC K H a xs)(hz:xs.length<=sizeLine)(ht:∀ x,x∈xs->∀ H1,ai H H1->∀ R:Bool->Hp->Prop,(∀ H2,ai H1 H2->R (p x) H2)->tt [!x] H1 R)(he:∀ x,x∈xs->p x=true->∀ H1,ai H H1->∀ R:VK,(∀ H2,ai H1 H2->R (f x) H2)->te [!x] H1 R)(q:∀ H1,ai H H1->∀ l,H1 l=none->Q (-l) (upd H1 l (.lst ((xs.filter p).map f)))):qI (jV K a) tt te Q H:=by
 show#[fun i ys m H1=>ai H H1/\ys=((xs.take i).filter p).map f/\i<=xs.length/\m=xs.length - i,#[_,ai.refl H,rfl,wT _,rfl],?_];rintro i ys m H1 ⟨s1,rfl,hi,rfl⟩;have hlen:(((xs.take i).filter p).map f).length<=i:=by
  rw[lv];show ut (TD _ _) ?_;rw[W1];omega
 show#[∅,?_];by_cases h:i < xs.length
 ·have hx:xs[i]?=!xs[i]:=ul h;show .inr #[#[xs,xs[i],s1.seq Hh,hx],∅,?_];rintro y H' ⟨rfl,hy⟩;have j9:xs[i]?=!y:=hy xs (s1.seq Hh);have hm:y∈xs:=LE j9;have e1:(xs.take (i+1)).filter p=(xs.take i).filter p++(if p y=true then [y] else []):=by
   rw[_z,j9,List.filter_append];by_cases hp:p y=true
   ·simp[hp]
   ·simp[hp]
  show ht y hm H' s1 _ fun H2 s2=>?_;by_cases hp:p y=true
  ·rw[wl hp];show he y hm hp H2 (s1.trans s2) _ fun H3 s3=>#[_,?_,(s1.trans s2).trans s3,?_,h,rfl]
   ·omega
   ·rw[e1,wl hp,Da];rfl
  ·rw[wf hp];show#[_,?_,s1.trans s2,?_,h,rfl]
   ·omega
   ·rw[e1,wf hp,UV]
 ·have lA:i=xs.length:=∅
  show .inl #[#[xs,s1.seq Hh,∅],fun l hl'=>?_];have:=q H1 s1 l hl';rw[GM ∅];show this
structure QE(X:Cx)(e:Expr)(t:TE):Prop where
 h:PE X e t
structure QA(X:Cx)(e:List Expr)(t:TA):Prop where
 h:PA X e t
structure QT(X:Cx)(e:Expr)(t:TT):Prop where
 h:PT X e t
structure QW(X:Cx)(e:Expr)(t:TT):Prop where
 h:PW X e t
structure QS(X:Cx)(e:Stmt)(t:TS):Prop where
 h:PS X e t
structure QB(X:Cx)(e:List Stmt)(t:TS):Prop where
 h:eA X e t
structure QI(X:Cx)(tg it:Expr)(t:TI):Prop where
 h:PI X tg it t
structure QG(X:Cx)(e:Expr)(t:TG):Prop where
 h:PG X e t
structure zO(X:Cx)(e:List Expr)(t:kz):Prop where
 h:wG X e t
structure sU(X:Cx)(e:List Expr)(t:TT):Prop where
 h:rg X e t
structure QO(X:Cx)(e:Option Expr)(t:TO):Prop where
 h:PO X e t
structure QP(X:Cx)(pos:Pos)(ks:List (Option Expr))(vs:List Expr)(t:List (TE×TE)):Prop where
 h:Q4 X pos ks vs t
namespace Dv
section
variable {X:Cx}{a b c:Expr}{ta tb tc:TE}{pos:Pos}{rest:List Expr}{tA tB':TT}
def v(i:Nat){x:Str}{pos:Pos}(hN:‹X.N[i]?=!x›)(hv:vM X.env.scope x:=by first | show Or.inl rfl | show Or.inr (Or.inl rfl) | show Or.inr (Or.inr rfl))(hd:(x == ("__debug__":Str))=false:=by decide)(dQ:(x == ("__classdict__":Str))=false:=by decide):QE X (.Name x pos) (fB i):=#[qv i hN hv hd dQ]
def int{i j pos}:QE X (.Constant (.int i) j pos) (tC (.int i)):=#[Yu]
def bl{b j pos}:QE X (.Constant (.bool b) j pos) (tC (.bl b)):=#[aa6]
def aw{j pos}:QE X (.Constant .none j pos) (tC .aw):=#[RK]
def str{x j pos}:QE X (.Constant (.str x) j pos) (tC (.str x)):=#[XJ]
def glob{x:Str}(v:V){u:ϊ}{pos:Pos}(hm:X.mg x=!u)(r:RelV v u)(hg:‹Gl X x›)(hd:(x == ("__debug__":Str))=false:=by decide):QE X (.Name x pos) (tC v):=#[VF hg hm r hd]
def kC{x:Str}(v:V){u:ϊ}{pos:Pos}(hm:X.mg x=none)(hv:bootBuiltins x=!u)(r:RelV v u)(hg:‹Gl X x›)(hn:x ≠ "__name__" := by decide)(hd:(x == ("__debug__":Str))=false:=by decide):QE X (.Name x pos) (tC v):=#[UM hg hm hv r hn hd]
def op{o:Operator}{r:R2}(ho:bu X (binaryOp o) r)(ha:QE X a ta)(hb:QE X b tb):QE X (.BinOp a o b pos) (jy r ta tb):=#[abb ho ha.h hb.h]
def un{o:UnaryOp}{r:V->Hp->VK->Prop}(ho:vQ X (unaryOp o) r)(ha:QE X a ta):QE X (.UnaryOp o a pos) (Cz r ta):=#[U7 ho ha.h]
def cmp{o:CmpOp}{r:R2}(ho:bu X (compareOp o) r)(ha:QE X a ta)(hb:QE X b tb)(hm:behindInMarks o b=false:=by first | show xN _ ⋯ ⋯ | rfl):QE X (.Compare a [o] [b] pos) (jy r ta tb):=#[Y6 ho ha.h hb.h hm]
def yR(ha:QE X a ta)(hb:QE X (.BoolOp .And (b::rest) pos) tb):QE X (.BoolOp .And (a::b::rest) pos) (El ta tb):=#[aai ha.h hb.h]
def Yz(ha:QE X a ta)(hb:QE X (.BoolOp .Or (b::rest) pos) tb):QE X (.BoolOp .Or (a::b::rest) pos) (Bz ta tb):=#[YT ha.h hb.h]
def one{o}{t:TE}(h:QE X a t):QE X (.BoolOp o [a] pos) t:=#[Sx h.h]
def Y3(ha:QE X a ta):QE X (.UnaryOp .Not a pos) (EB ta):=#[Ts ha.h]
def ae:QA X [] gW:=#[YW]
def aa{e:Expr}{es:List Expr}{te:TE}{t:TA}(ha:QE X e te)(hr:QA X es t)(hs:‹noStar e=true›):QA X (e::es) (gn te t):=#[RS ha.h hr.h hs]
def call{CX:eP}{k:Nat}{f:ϋ}{fd:FuncData}{ps:List Str}{sp:Sp}{bJ:List V}{ds:List ϊ}{E:XK}{x:Str}{p pos:Pos}{e:Expr}{es:List Expr}{t:TA}(F:aA X.prog X.w X.K X.mg X.base CX k f fd ps sp)(hr:bM k X.A)(hm:X.mg x=!-f)(hk:W.keepIn X.K (-f)=true)(hb:Binds X.K fd ps ds)(hd:Vals bJ ds)(hx:Passes CX X E)(ha:QA X (e::es) t)(hg:‹Gl X x›)(hs:‹(e::es).all noStar=true›)(b9:(x == ("__debug__":Str))=false:=by decide):QE X (.Call (.Name x p) (e::es) [] pos) (zf sp bJ E t):=#[adi F hr hg hm hk hb hd hx ha.h hs b9]
def cT{x:Str}{p pos:Pos}{e:Expr}{es:List Expr}{t:TA}{id:String}{r:List V->Hp->VK->Prop}(hc:cW X (.builtin id) r)(hm:X.mg x=none)(hv:bootBuiltins x=!.builtin id)(ha:QA X (e::es) t)(hg:‹Gl X x›)(hs:‹(e::es).all noStar=true›)(hn:x ≠ "__name__" := by decide)(b9:(x == ("__debug__":Str))=false:=by decide):QE X (.Call (.Name x p) (e::es) [] pos) (pU r t):=#[RI hc hg hm hv ha.h hs hn b9]
def nJ{x:Str}{p pos:Pos}{e:Expr}{es:List Expr}{t:TA}{T:String}{r:List V->Hp->VK->Prop}(hc:cW X (.type T) r)(hm:X.mg x=none)(hv:bootBuiltins x=!.type T)(ha:QA X (e::es) t)(hg:‹Gl X x›)(hs:‹(e::es).all noStar=true›)(hn:x ≠ "__name__" := by decide)(b9:(x == ("__debug__":Str))=false:=by decide):QE X (.Call (.Name x p) (e::es) [] pos) (pU r t):=#[Zm hc hg hm hv ha.h hs hn b9]
section
variable {name:Str}{id:String}{r:V->List V->Hp->VK->Prop}{o e:Expr}{es:List Expr}{to:TE}{t:TA}{apos bB:Pos}
def qb(slot:Slot "str" name id)(cx:typeOf (.builtin id)=pure (.type "method_descriptor"))(hm:dC X id r)(ho:QE X o to)(ha:QA X (e::es) t)(hs:‹(e::es).all noStar=true›)(aO:‹decide ((e::es).length+([]:List Keyword).length+(if ([]:List Keyword).isEmpty then 0 else 1) < 30)=true›)(ib:‹attributeBase o name X.env (eval o X.env)=eval o X.env›)(hZ:‹(apos.endLine == bB.line)=true›):QE X (.Call (.Attribute o name apos) (e::es) [] bB) (Fx r to t):=#[acs slot cx hm ho.h ha.h hs aO ib hZ]
def fX(slot:Slot "list" name id)(cx:typeOf (.builtin id)=pure (.type "method_descriptor"))(hm:dC X id r)(ho:QE X o to)(ha:QA X (e::es) t)(hs:‹(e::es).all noStar=true›)(aO:‹decide ((e::es).length+([]:List Keyword).length+(if ([]:List Keyword).isEmpty then 0 else 1) < 30)=true›)(ib:‹attributeBase o name X.env (eval o X.env)=eval o X.env›)(hZ:‹(apos.endLine == bB.line)=true›):QE X (.Call (.Attribute o name apos) (e::es) [] bB) (Du r to t):=#[SR slot cx hm ho.h ha.h hs aO ib hZ]
end
def kW:QO X none AG:=#[V7]
def jh(h:QE X a ta):QO X (!a) (Bk ta):=#[QZ h.h]
def slice{r:V->Option Int->Option Int->Hp->VK->Prop}{lo hi:Option Expr}{tl th:TO}{p2:Pos}(hr:iV X r)(he:QE X a ta)(hl:QO X lo tl)(hu:QO X hi th):QE X (.Subscript a (.Slice lo hi none p2) pos) (Fn r ta tl th):=#[Sd hr he.h hl.h hu.h]
def ix{r:R2}(hr:gu X r)(ha:QE X a ta)(hb:QE X b tb)(hs:Kj b:=by intro _ _;rfl):QE X (.Subscript a b pos) (jy r ta tb):=#[R8 hr ha.h hb.h hs]
def lst{es:List Expr}{t:TA}(h:QA X es t):QE X (.List es pos) (yg t):=#[Vu h.h]
def tup{es:List Expr}{x1}{t:TA}(h:QA X es t):QE X (.Tuple es x1 pos) (mF t):=#[Tz h.h]
def px:QE X (.Dict [] [] pos) y6:=#[acy]
def aX{o:CmpOp}{r:R2}(ho:bu X (compareOp o) r)(ha:QE X a ta)(hb:QE X b tb)(hm:behindInMarks o b=false:=by first | show xN _ ⋯ ⋯ | rfl):QT X (.Compare a [o] [b] pos) (nK (jy r ta tb)):=#[Rt ho ha.h hb.h hm]
def Dw{o o':CmpOp}{f g:Int->Int->Bool}(ho:bu X (compareOp o) (kT f))(ho':bu X (compareOp o') (kT g))(ha:QE X a ta)(hb:QE X b tb)(hc:QE X c tc)(hm:lastMarks [o,o'] [b,c]=false:=by with_unfolding_all rfl):QT X (.Compare a [o,o'] [b,c] pos) (CY f g ta tb tc):=#[Rh ho ho' ha.h hb.h hc.h hm]
def cU{t:TE}(h:QE X a t)(he:∀ whole,isTrue a X.env whole=(do let v <- whole;standAt a.pos;holding [v] (truthy v)):=by intro _;rfl):QT X a (nK t):=#[XR h.h he]
def dF(ha:QT X a tA):QT X (.UnaryOp .Not a pos) (DB tA):=#[Wv ha.h]
def ff(h:QW X a tA):QT X a tA:=#[h.h.pt]
def kE(ha:QT X a tA):QW X (.BoolOp .And [a] pos) tA:=#[aaB ha.h]
def jY(ha:QT X a tA):QW X (.BoolOp .Or [a] pos) tA:=#[UY ha.h]
def w_and(ha:QT X a tA)(hb:QW X (.BoolOp .And (b::rest) pos) tB'):QW X (.BoolOp .And (a::b::rest) pos) (Fj tA tB'):=#[T1 ha.h hb.h]
def w_or(ha:QT X a tA)(hb:QW X (.BoolOp .Or (b::rest) pos) tB'):QW X (.BoolOp .Or (a::b::rest) pos) (DO tA tB'):=#[WS ha.h hb.h]
variable {st:Stmt}{QM:List Stmt}{t u:TS}{tg:Expr}{g:TG}
def eN(i:Nat){x:Str}(hN:X.N.Nodup)(hi:‹X.N[i]?=!x›)(hx:Loc X.env.scope x:=by first | show Or.inl rfl | show Or.inr rfl)(hf:X.fn x=true\/X.env.scope.names.lookup x=!.local:=by first | show .inl rfl | show .inr rfl):QG X (.Name x pos) (fO i):=#[ZM hN hi hx hf]
def Iw{o i:Expr}{to ti:TE}{s:wF}(ho:QE X o to)(hi:QE X i ti)(hs:zc X s)(ha:∀ v,assign (.Subscript o i pos) X.env v=(do
   let ov <- holding [v] (eval o X.env)
   let iv <- holding [v,ov] (eval i X.env)
   standAt pos
   holding [v,ov,iv] (setItem ov iv v)
   release [v,ov,iv] []):=by intro _;rfl):QG X (.Subscript o i pos) (EE to ti s):=#[YN ho.h hi.h hs ha]
def yH:zO X [] Dj:=#[Vs]
def nW{e:Expr}{es:List Expr}{t:TG}{u:kz}(h1:QG X e t)(h2:zO X es u)(hs:‹(assignEach (e::es) X.env).map (·.2)=assign e X.env::(assignEach es X.env).map (·.2)›):zO X (e::es) (Fw t u):=#[abc h1.h h2.h hs]
def xT{K:ν}{es:List Expr}{k:Nat}{t:kz}{n:Nat}(hK:X.K=K)(hc:X.calm=true)(h:zO X es t)(hn:‹(assignEach es X.env).length=n›)(aR:‹(assignEach es X.env).findIdx? (·.1)=none›):QG X (.Tuple es k pos) (B8 K n t):=hK ▸ #[SE hc h.h hn aR]
def aM(i:Nat){x:Str}{e:Expr}{te:TE}{pos':Pos}(hN:X.N.Nodup)(he:QE X e te)(hi:‹X.N[i]?=!x›)(hx:Loc X.env.scope x:=by first | show Or.inl rfl | show Or.inr rfl)(hs:‹swapsWith e (!.Name x pos') pos.line X.env=pure false›)(hf:X.fn x=true\/X.env.scope.names.lookup x=!.local:=by first | show .inl rfl | show .inr rfl):QS X (.Assign [.Name x pos'] e pos) (kP te (fO i)):=#[acO hN hi hx he.h hs hf]
def vD{e:Expr}{te:TE}(he:QE X e te)(hg:QG X tg g)(hs:‹swapsWithSole [tg] e pos.line X.env=pure false›)(hw:‹swappedStores [tg] e X.env=pure none›)(h1:‹(assignEach [tg] X.env).map (·.2)=[assign tg X.env]›) :
  QS X (.Assign [tg] e pos) (kP te g):=#[Rj he.h hg.h hs hw h1]
def aL(he:QE X a ta):QS X (.Return (!a) pos) (Cm ta):=#[QX he.h]
def J2:QS X (.Return none pos) Ca:=#[adv]
def aN(he:QE X a ta)(hs:‹swapsWith a none pos.line X.env=pure false›):QS X (.Expr a pos) (Ft ta):=#[UJ he.h hs]
def aV{A B:List Stmt}(hc:QT X a tA)(ha:QB X A t)(hb:QB X B u):QS X (.If a A B pos) (vG tA t u):=#[UE hc.h ha.h hb.h]
def m9{iter:Expr}{body:List Stmt}{wi:TI}{tb:TS}(hp:PassesOwn (model X.prog X.w) X.A X.env X.xe)(hc:X.calm=true)(hi:QI X tg iter wi)(hg:QG X tg g)(hb:QB X body tb)(hs:∀ x,foldedSetIterable iter X.env x=pure x:=by intro _;rfl) :
  QS X (.For tg iter body [] pos) (uJ wi g tb):=#[acb hp hc hi.h hg.h hb.h hs]
def nil:QB X [] FK:=#[Ur]
def aj(h1:QS X st t):QB X [st] t:=#[Z5 h1.h]
def  cut(h1:QS X st t)(h2:QB X QM u):QB X (st::QM) (lK t u):=#[adj h1.h h2.h]
def iH{K:ν}{l:Expr}{tl:TE}(h:X.K=K)(hl:QE X l tl):QI X tg l (zN K tl):=h ▸ #[Uc hl.h]
def Uo{l:Expr}{tl:TE}(hl:QE X l tl):QI X tg l (FL tl):=#[adE hl.h]
def Tp{ta:TA}{p:Pos}(hm:X.mg "range" = none)(ha:QA X [a] ta)(hg:Gl X "range" := by rfl)(hs:‹noStar a=true›):QI X tg (.Call (.Name "range" p) [a] [] pos) (CM ta):=#[R7 hg hm ha.h (fW hs)]
def u0:sU X [] iL:=#[XY]
def Oe(h:QT X c tA):sU X [c] tA:=#[UP h.h]
end
end Dv
end L2
namespace Tx
open PySem PySem.Builtin PySem.StrLaws
def Bv{c a:Nat}(h:a=c)(r:List Nat):cut c (a::r)=[]::cut c r:=if_pos h
def NL{c a:Nat}{r:List Nat}{x:List Nat}{y:List (List Nat)}(h:¬ a=c)(e:cut c r=x::y):cut c (a::r)=(a::x)::y:=by
 change(if a=c then _ else _)=_;rw[if_neg h,e]
def Ny(c:Nat):∀ (t r:List Nat),cut c (t++c::r)=cut c t++cut c r
 | [],r=>Bv rfl r
 | a::t,r=>by
  have ih:=Ny c t r;change cut c (a::(t++c::r))=_;by_cases h:a=c
  ·rw[Bv h,Bv h,ih];rfl
  ·cases e:cut c t with
   | nil=>show absurd e (U4 c t)
   | cons x y =>
    rw[e]at ih;rw[NL h ih,NL h e];rfl
def  words(c:Nat)(t:List Nat):List (List Nat):=(cut c t).filter fun w=>decide (w≠[])
def Dd(c:Nat)(t r:List Nat):words c (t++c::r)=words c t++words c r:=by
 unfold words;rw[Ny,List.filter_append]
def BX(c:Nat)(r:List Nat):words c (c::r)=words c r:=Dd c [] r
def NN(c:Nat)(r:List Nat):∀ n:Nat,words c (List.replicate n c++r)=words c r
 | 0=>rfl
 | n+1=>by
  change words c (c::(List.replicate n c++r))=_;rw[BX,NN c r n]
def LU(c:Nat):∀ w:List Nat,c ∉ w->cut c w=[w]
 | [],_=>rfl
 | a::r,h=>by
  unfold cut;rw[if_neg (fun e=>h (by rw[e];show List.mem_cons_self)),LU c r (fun m=>h (List.mem_cons_of_mem _ m))]
def NT(c:Nat)(w:List Nat)(h:c ∉ w)(hn:w≠[]):words c w=[w]:=by
 unfold words;rw[LU c w h];simp[hn]
def yY(c:Nat):∀ t:List Nat,(cut c t).length<=t.length+1
 | []=>Nat.le_refl _
 | a::r=>by
  have ih:=yY c r;unfold cut;split
  ·simp only[List.length_cons];omega
  ·split
   ·simp
   ·rename_i h t' e;rw[e]at ih;simp only[List.length_cons]at ih ⊢;omega
def LF(t:List Nat)(c:Nat):((cut c t).map S).filter (fun z=>decide (z≠S []))=(words c t).map S:=by
 unfold words;rw[List.filter_map]
 congr 1
 show List.filter_congr fun w _=>?_;change decide (S w≠S [])=decide (w≠[]);by_cases h:w=[]
 ·simp[h]
 ·have:S w≠S []:=fun e=>h (sQ e);simp[h,this]
def abM(x:List Nat)(c:Nat):Txt.startswith (S x) (S [c])=decide (x.head?=!c):=by
 unfold Txt.startswith;rw[cE,cE];cases x with
 | nil=>simp
 | cons a r =>
  rw[subAt_one (a::r) c 0 ()];simp
def abr(x:List Nat)(c:Nat):Txt.endswith (S x) (S [c])=decide (x.getLast?=!c):=by
 unfold Txt.endswith;rw[cE,cE];cases hx:x with
 | nil=>simp
 | cons a r =>
  have hl:(a::r).length - [c].length < (a::r).length:=()
  rw[subAt_one (a::r) c _ hl];have e:(a::r)[(a::r).length - [c].length]?=(a::r).getLast?:=by
   rw[List.getLast?_eq_getElem?];rfl
  rw[e];have:decide (0+[c].length<=(a::r).length)=true:=decide_eq_true ();rw[this,Bool.true_and]
end Tx
namespace L2
open PySem PySem.Spec PyProof.Rows
def IF{A:Around}{s:ό}{l1 l2:List (Str×Tok)}(j:Nat)(h1:j < (strValues l1).toArray.size)(h2:j < (strValues l2).toArray.size) :
  SeqAt.EqAt A s (strValues l1).toArray[j] (strValues l2).toArray[j] (decide ((l1.map (·.1))[j]?=(l2.map (·.1))[j]?)):=by
 have g1:j < l1.length:=by simpa [strValues] using h1
 have g2:j < l2.length:=by simpa [strValues] using h2
 have e1:(strValues l1).toArray[j]=ϊ.str l1[j].1 l1[j].2:=by simp[strValues]
 have e2:(strValues l2).toArray[j]=ϊ.str l2[j].1 l2[j].2:=by simp[strValues]
 rw[e1,e2];have e:decide ((l1.map (·.1))[j]?=(l2.map (·.1))[j]?)=(l1[j].1 == l2[j].1):=by
  rw[At,At,ul g1,ul g2];by_cases q:l1[j].1=l2[j].1
  ·simp[q]
  ·simp[q]
 rw[e];show SeqAt.EqAt.str_str _ _ _ _
def all_eq{α:Type}[DecidableEq α]{xs ys:List α}(h:xs.length=ys.length):(List.range xs.length).all (fun j=>decide (xs[j]?=ys[j]?))=decide (xs=ys):=by
 rw[UF,FS,_i];constructor
 ·intro q;apply List.ext_getElem?;intro i;by_cases hi:i < xs.length
  ·show _A (q i (Jap.mpr hi))
  ·rw[_6 ∅,_6 ∅]
 ·rintro rfl j _;simp
section
variable {X:Cx}
def Kz{π:List (ϋ×Obj)}{σ:St}{H:Hp}{s:ό}{A:Around}{a b:ϋ}{ts us:List Str}(I:Inv X π σ H s)(ha:H a=!.lst (ts.map V.str))(hb:H b=!.lst (us.map V.str))(hu:A.units < cLine) :
  SeqAt.RcAt A s (-a) (-b) (decide (ts=us))/\SeqAt.RcNeAt A s (-a) (-b) (Bool.not (decide (ts=us))):=by
 let⟨i1,r1,p1,_⟩:=I.list (aC.of ha);let⟨i2,r2,p2,_⟩:=I.list (aC.of hb);let⟨l1,rfl,e1⟩:=yU r1;let⟨l2,rfl,e2⟩:=yU r2;have n1:(strValues l1).toArray.size=ts.length:=by rw[<- e1];simp[strValues]
 have n2:(strValues l2).toArray.size=us.length:=by rw[<- e2];simp[strValues]
 by_cases h:ts.length=us.length
 ·have hsz:(strValues l1).toArray.size=(strValues l2).toArray.size:=by rw[n1,n2,h]
  have k1:=SeqAt.RcAt.lists (A:=A) p1.isList p2.isList hsz hu (fun j g1 g2=>IF j g1 g2);have k2:=Jas (A:=A) p1.isList p2.isList hsz hu (fun j g1 g2=>IF j g1 g2);rw[n1,e1,e2,all_eq h]at k1 k2;show#[k1,k2]
 ·have hsz:((strValues l1).toArray.size != (strValues l2).toArray.size)=true:=by rw[n1,n2];simpa using h
  have e:decide (ts=us)=false:=kt fun z=>h (by rw[z]);rw[e];show#[SeqAt.RcAt.lists_lengths p1.isList p2.isList hsz hu,SeqAt.RcNeAt.lists_lengths p1.isList p2.isList hsz hu]
def  sP(neg:Bool):R2:=fun x y H Q=>match x,y with
 | .ref a,-b=>∃ ts us:List Str,H a=!.lst (ts.map V.str)/\H b=!.lst (us.map V.str)/\Q (.bl (neg ^^ decide (ts=us))) H
 | _,_=>False
def WR(hu:X.A.units < cLine):bu X (compareOp .Eq) (sP false):=by
 intro π s σ H x y v u Q I rx ry h;unfold sP at h;split at h
 ·let⟨ts,us,ha,hb,q⟩:=h;cases rx;cases ry;simp only[Bool.false_bne]at q;show(Kz I ha hb hu).1 _ _ _ _ #[.bl _,H,I,rfl,q]
 ·show h.elim
def aby(hu:X.A.units < cLine):bu X (compareOp .NotEq) (sP true):=by
 intro π s σ H x y v u Q I rx ry h;unfold sP at h;split at h
 ·let⟨ts,us,ha,hb,q⟩:=h;cases rx;cases ry;simp only[Bool.true_bne]at q;show(Kz I ha hb hu).2 _ _ _ _ #[.bl _,H,I,rfl,q]
 ·show h.elim
def Dv.jT{st:Stmt}:QS X st DX:=#[aaM]
end
def  B4:V->Hp->VK->Prop:=fun x H Q=>match x with
 | .int i=>Q (.int ((unop% Neg.neg (i)))) H
 | _=>False
def j0{X:Cx}:vQ X (unaryOp .USub) B4:=fun π s σ H x v Q I rx h=>ac2 π s σ H x v Q I rx (by
 unfold B4 at h;split at h
 ·show#[_,rfl,h]
 ·show h.elim)
def VE(r:List V)(x:V):gq (r++[x]) Option.none (!((unop% Neg.neg (1))))=r:=by
 unfold gq;have e1:HT.bC (r++[x]).length (r++[x]).length (!((unop% Neg.neg (1))))=r.length:=by
  unfold HT.bC;simp;omega
 rw[HT.BL,e1];simp
section
variable {X:Cx}{K:ν}
def  BD(K:ν):List V->Hp->VK->Prop:=fun xs H Q=>match xs with
 | [-p]=>∃ ys,aC K H p ys/\Q (.int ys.length) H
 | _=>False
def Sf(h:X.K=K):cW X (.builtin "len") (BD K):=h ▸ Nu.imp fun xs H Q h=>by
 unfold BD at h;split at h
 ·let⟨ys,h1,h2⟩:=h;show#[_,_,rfl,.inl #[ys,h1,rfl],h2]
 ·show h.elim
def  EW(K:ν):R2:=fun x y H Q=>match x,y with
 | .ref p,.int i=>∃ xs v,aC K H p xs/\cS xs i=!v/\Q v H
 | _,_=>False
def qxE(h:X.K=K):gu X (EW K):=h ▸ Oj.imp fun x y H Q h=>by
 unfold EW at h;split at h
 ·let⟨xs,v,h1,h2,h3⟩:=h;show#[_,xs,_,v,rfl,rfl,h1,h2,h3]
 ·show h.elim
end
end L2
namespace L2
open PySem
open Sem (wp)
def  ei(e:ϋ)(c:ϊ)(od:Option ϋ)(h:Heap):Prop:=∃ o,h.get? e=!o/\o.cls=c/\o.dict=od/\∃ vs,o.data=.fields vs
structure Kp(e:ϋ)(c:ϊ)(od:Option ϋ){α:Type}(t:Sem α):Prop where
 out:∀ (M:Model) (Γ:Ctx) (P:α->Pos->ό->Prop) (Ee:ϊ->Pos->ό->Prop) (p:Pos) (s:ό),ei e c od s.heap->wp M Γ t P Ee p s->wp M Γ t (fun a p' s'=>P a p' s'/\ei e c od s'.heap) Ee p s
section
variable {e:ϋ}{c:ϊ}{od:Option ϋ}{α β:Type}
def Kp.pure(a:α):Kp e c od (Pure.pure a:Sem α):=#[fun _ _ _ _ _ _ hd h=>#[h,hd]]
def Kp.unsupported(w:String):Kp e c od (PySem.unsupported w:Sem α):=#[fun _ _ _ _ _ _ _ h=>h]
def Kp.bind{m:Sem α}{f:α->Sem β}(hm:Kp e c od m)(hf:∀ a,Kp e c od (f a)):Kp e c od (m >>= f):=#[fun M Γ P Ee p s hd h=>by
 rw[Sem.wp_bind']at h ⊢;show Sem.wp_mono M Γ m (fun a p' s' h'=>(hf a).out M Γ P Ee p' s' h'.2 h'.1) (fun _ _ _ x=>x) p s (hm.out M Γ _ Ee p s hd h)]
def Kp.ite{q:Prop}[Decidable q]{t u:Sem α}(ht:Kp e c od t)(hu:Kp e c od u):Kp e c od (if q then t else u):=by split <;> assumption
def Kp.load(a:ϋ):Kp e c od (PySem.load a):=#[fun _ _ _ _ _ _ hd h=>let ⟨o,ho,z⟩:=h;#[o,ho,z,hd]]
def Kp.stack:Kp e c od PySem.stack:=#[fun M Γ P Ee p s hd h=>by
 unfold PySem.stack at h ⊢;rw[Sem.wp_stack]at h ⊢;show#[h,hd]]
def ei.push{h:Heap}(x:ei e c od h)(o:Obj):ei e c od (h.push o):=let ⟨u,hu,r⟩:=x;#[u,pp _ hu,r]
def ei.update{h:Heap}(x:ei e c od h)(a:ϋ)(f:Obj->Obj)(hf:∀ o,(f o).cls=o.cls/\(f o).dict=o.dict/\∀ vs,o.data=.fields vs->∃ ws,(f o).data=.fields ws):ei e c od (h.update a f):=by
 let⟨u,hu,h1,h2,vs,h3⟩:=x;by_cases q:a=e
 ·subst q;let⟨ws,h4⟩:=(hf u).2.2 vs h3;show#[f u,Ty f hu (Obj.isFreed_of_fields h4),(hf u).1.trans h1,(hf u).2.1.trans h2,ws,h4]
 ·show#[u,(Id _ _ q).trans hu,h1,h2,vs,h3]
def Kp.update(a:ϋ)(f:Obj->Obj)(hf:∀ o,(f o).cls=o.cls/\(f o).dict=o.dict/\∀ vs,o.data=.fields vs->∃ ws,(f o).data=.fields ws):Kp e c od (PySem.update a f) :=
 #[fun _ _ _ _ _ _ hd h=>#[h.1,h.2,hd.update a f hf]]
def Ri(g:Array ϊ->Array ϊ)(o:Obj):(Obj.mapFields g o).cls=o.cls/\(Obj.mapFields g o).dict=o.dict/\∀ vs,o.data=.fields vs->∃ ws,(Obj.mapFields g o).data=.fields ws:=by
 let⟨c1,d1,dt,sl⟩:=o;show#[Obj.cls_mapFields _ _,?_,fun vs h=>#[_,Jat h g]];cases dt <;> rfl
def Kp.alloc(o:Obj):Kp e c od (PySem.alloc o):=#[fun _ _ _ _ _ _ hd h=>#[h,hd.push o]]
def Kp.field(v:ϊ)(i:Nat):Kp e c od (PySem.field v i):=#[fun _ Γ _ _ _ _ hd h=>by
 rw[wp_field_iff]at h ⊢;let⟨a,o,vs,x,h1,h2,h3,h4,h5⟩:=h;show#[a,o,vs,x,h1,h2,h3,h4,h5,hd]]
def Kp.setField(v:ϊ)(i:Nat)(x:ϊ):Kp e c od (PySem.setField v i x):=#[fun _ Γ _ _ _ _ hd h=>by
 rw[wp_setField_iff]at h ⊢;let⟨a,o,vs,h1,h2,h3,h4,h5⟩:=h;show#[a,o,vs,h1,h2,h3,h4,h5,hd.update a _ (Ri _)]]
local macro_rules | `(tactic| walk_at "kps")=>`(tactic| repeat' with_reducible first | assumption | exact Kp.pure _ | exact Kp.unsupported _ | exact Kp.field _ _ | exact Kp.setField _ _ _ | exact Kp.load _ | exact Kp.stack | exact Kp.alloc _ | apply Kp.ite | apply Kp.bind | intro _ | split)
def Kp.newFields(ty:String)(vs:List ϊ):Kp e c od (PySem.newFields ty vs):=by
 unfold PySem.newFields newObj newObjAsIs;walk_at "kps"
def Kp.frameEnvs:Kp e c od PySem.frameEnvs:=by
 unfold PySem.frameEnvs;walk_at "kps"
def Kp.isImport(env:Env)(outer:List Env):Kp e c od (behindIsImport env outer):=by
 unfold behindIsImport;walk_at "kps"
def Kp.caller:Kp e c od underTheClaimsCaller:=by
 unfold underTheClaimsCaller;walk_at "kps"
def Kp.keptBack(env:Env)(i:Bool)(l:List Env):Kp e c od (PySem.keptBack env i l):=by
 have:=Kp.caller (e:=e) (c:=c) (od:=od);cases l <;> unfold PySem.keptBack <;> walk_at "kps"
def Kp.ready:∀ l:List Env,Kp e c od (readyFrames l)
 | []=>Kp.pure _
 | env::outer=>by
  have ih:=Kp.ready outer;have h1:=Kp.isImport (e:=e) (c:=c) (od:=od) env outer;have h2:=fun i=>Kp.keptBack (e:=e) (c:=c) (od:=od) env i outer;unfold readyFrames;walk_at "kps"
  all_goals first | show h2 _ | show Kp.update _ _ (fun o=>#[rfl,rfl,fun vs h=>#[vs,h]]) | skip
def Kp.frameObject(l:List Env):Kp e c od (PySem.frameObject l):=by
 cases l with
 | nil=>show Kp.pure _
 | cons env outer =>
  have:=Kp.ready (e:=e) (c:=c) (od:=od) (env::outer);unfold PySem.frameObject;walk_at "kps"
def Kp.frameOf(env:Env):Kp e c od (PySem.frameOf env):=by
 have h1:=Kp.frameEnvs (e:=e) (c:=c) (od:=od);have h2:=Kp.frameObject (e:=e) (c:=c) (od:=od);unfold PySem.frameOf;walk_at "kps"
 all_goals first | show h2 _ | skip
def Kp.place(f:ϋ)(b:Bool):Kp e c od (entryPlaceOf f b):=by
 unfold entryPlaceOf;walk_at "kps"
def Kp.setFlight(v:ϊ)(fr:Option ϋ):Kp e c od (PySem.setFlight v fr):=by
 unfold PySem.setFlight;walk_at "kps"
def Kp.noteFrame(v:ϊ)(env:Env):Kp e c od (PySem.noteFrame v env):=by
 have h1:=Kp.frameOf (e:=e) (c:=c) (od:=od) env;have h2:=fun f b=>Kp.place (e:=e) (c:=c) (od:=od) f b;unfold PySem.noteFrame EntryCells.newEntry;walk_at "kps"
 all_goals first | show h2 _ _ | show Kp.newFields _ _ | skip
def Kp.leaving(env:Env)(v:ϊ):Kp e c od (PySem.leaving env v):=by
 have h1:=Kp.noteFrame (e:=e) (c:=c) (od:=od) v env;have h2:=Kp.setFlight (e:=e) (c:=c) (od:=od) v none;unfold PySem.leaving;walk_at "kps"
def Kp.any{t:Sem α}(k:Kp e c od t){M:Model}{A:Around}{Q:α->ό->Prop}{E:ϊ->ό->Prop}{s:ό}(hd:ei e c od s.heap)(h:wpAny M A t Q E s):wpAny M A t (fun a s'=>Q a s'/\ei e c od s'.heap) E s :=
 fun Γ p hΓ=>k.out M Γ _ _ p s hd (h Γ p hΓ)
end
end L2
namespace L2
def Ko(xs:List V)(k:Nat):gq xs none (!(k:Int))=xs.take k:=by
 unfold gq;rw[HT.BL,HT.vg,List.drop_zero,Nat.sub_zero];by_cases h:k<=xs.length
 ·rw[_N h]
 ·rw[Ja5 ∅,GM (pi _),GM ∅]
def zk(xs:List V)(k:Nat):gq xs (!(k:Int)) none=xs.drop k:=by
 unfold gq;rw[HT.BL,HT.vg];by_cases h:k<=xs.length
 ·rw[_N h,GM (by rw[Ja3];show pi _)]
 ·rw[Ja5 ∅,List.drop_eq_nil_of_le (pi _),List.drop_eq_nil_of_le ∅];simp
end L2
namespace L2
open PySem PySem.Spec PyProof.Rows
def ck.there{P:ύ}{w:World}{H:Hp}{h:Heap}{a:ϋ}{o:HO}(x:ck P w H h a o):∃ u,h.get? a=!u:=by
 cases o with
 | lst xs=>let⟨_,_,_,_,e⟩:=x;show#[_,e]
 | tup xs=>let⟨_,_,_,u,e,_⟩:=x;show#[_,e]
 | dK kvs=>let⟨_,_,_,_,o,_,_,e,_⟩:=x;show#[_,e]
 | dT kvs=>let⟨_,_,_,_,o,_,_,e,_⟩:=x;show#[_,e]
 | set S n=>let⟨o,_,_,_,e,_⟩:=x;show#[_,e]
 | ins C dx fs=>let⟨_,_,_,e,_⟩:=x;show#[_,e]
 | own y=>show x
 | xd fs=>let⟨_,⟨_,_,_,e,_⟩,_⟩:=x;show#[_,e]
 | zD lo hi=>let⟨_,_,_,e⟩:=x;show#[_,e]
 | df ob u=>let⟨e,_⟩:=x;show#[_,e]
 | nQ ps=>show#[_,(show h.get? a=some _ from x)]
 | met f y=>show#[_,(show h.get? a=some _ from x)]
 | ext φ=>let⟨_,e,_⟩:=x;show e
def  uv(B:Heap)(fs:List ϋ)(h:Heap)(H':Hp)(h':Heap):Prop :=
 ∀ b o,h'.get? b=!o->b ∉ fs->((∃ u,h.get? b=!u)\/∃ u,H' b=!u)->B.get? b=!o
def HZ{P:ύ}{w:World}{fs:List ϋ}{H H':Hp}{h h1 h2 B:Heap}(u:Un fs [] H H' h h1)(aE:cw P w H' h1)(hf:∀ b∈fs,H b=none/\∃ o,h.get? b=!o/\∀ vs,o.data≠.fields vs)(gJ:uv B fs h H' h1)(st:B.StaysIn h2)(up:h1.UpToSlots h2):Un fs [] H H' h h2/\cw P w H' h2:=by
 have kB:∀ b o,h1.get? b=!o->b ∉ fs->((∃ u,h.get? b=!u)\/∃ u,H' b=!u)->h2.get? b=!o:=fun b o e hb z=>st b o (gJ b o e hb z);have fr:∀ b∈fs,∀ o,h.get? b=!o->∃ sl,h2.get? b=!{ o with slots:=sl }:=fun b hb o e=>by
  let⟨n,o',e',nf⟩:=hf b hb;rw[e]at e';cases e';let⟨sl,e1⟩:=u.slot b o e n hb ();let⟨sl',e2⟩:=up b _ e1 nf;show#[sl',e2]
 show#[#[fun b o q n hb hx=>kB b o (u.keep b o q n hb hx) hb (.inl #[o,q]),fun b o q n hb hx=>fr b hb o q,u.free,fun b o q hx=>?_,u.il,u.g8,u.ij],fun a v e=>?_]
 ·by_cases hb:b∈fs
  ·let⟨sl,e⟩:=fr b hb o q;show#[_,e]
  ·let⟨o',e1⟩:=u.there b o q hx;show#[o',kB b o' e1 hb (.inl #[o,q])]
 ·have tr:∀ b,(∃ u,H' b=!u)->b ∉ fs:=fun b #[v',e'] hb=>by
   let⟨n,o,ho,_⟩:=hf b hb;have:=u.free b o ho n ();rw[e']at this;cases this
  show(aE a v e).gz (fun b x hb q=>?_) (fun _ q=>q) fun _ _ q=>q;have hs:∃ u,H' b=!u:=by
   rcases hb with rfl | hb
   ·show#[v,e]
   ·show#[_,hb]
  show kB b x q (tr b hs) (.inr hs)
structure pC(P:ύ)(w:World)(outer:List Env)(H:Hp)(s:ό)(ea C:ϋ)(od:Option ϋ)(H':Hp)(s':ό):Prop where
 os:s'.os=s.os
 bare:AllBare s'.gens
 un:Un (cb outer) [] H H' s.heap s'.heap
 aE:cw P w H' s'.heap
 free:H' ea=none
 new:s.heap.get? ea=none
 hd:ei ea (-C) od s'.heap
 IP:∃ B a0,Heap.FlyingW B outer ea (-C) a0 s'.heap/\uv B (cb outer) s.heap H' s'.heap
def  cB(P:ύ)(w:World):eP:=fun outer H s E e s'=>∃ ea C od H',e=-ea/\pC P w outer H s ea C od H' s'/\E (-C) od H'
section
variable {X:Cx}{π:List (ϋ×Obj)}{σ:St}{H H':Hp}{s s':ό}{ea C:ϋ}{od:Option ϋ}
def Inv.IQ(I:Inv X π σ H s):∀ b∈cb X.stack,H b=none/\∃ o,s.heap.get? b=!o/\∀ vs,o.data≠.fields vs:=fun b hb=>#[I.yI b hb,(I.stack.mem hb).2]
structure Own(X:Cx):Prop where
 dk:X.stack=X.env::X.outer
 frame:X.env.frame=!X.env.locals
 ex:X.ex=[]
def Inv.Bc{h1 B:Heap}{a0:ϊ}(I:Inv X π σ H s)(O:Own X)(os:s'.os=s.os)(bare:AllBare s'.gens)(un:Un (cb X.stack) [] H H' s.heap h1)(aE:cw X.prog X.w H' h1)(free:H' ea=none)(new:s.heap.get? ea=none)(gJ:uv B (cb X.stack) s.heap H' h1)(fl:Heap.FlyingW B X.outer ea (-C) a0 s'.heap)(up:h1.UpToSlots s'.heap)(hd:ei ea (-C) od s'.heap):pC X.prog X.w X.outer X.H₀ X.s₀ ea C od H' s':=by
 let⟨u2,hok2⟩:=HZ un aE I.IQ gJ fl.1 up;have Hd:cb X.stack=X.env.locals::X.fs:=by
  rw[O.dk];unfold cb;rw[_m,O.frame];rfl
 have wU:∀ b o,X.s₀.heap.get? b=!o->b≠X.env.locals:=fun b o e=>zn (ww (u8 e) I.ok.above);have nx:∀ b:ϋ,b ∉ X.ex:=fun b=>by rw[O.ex];simp
 have gC:∀ b o,X.s₀.heap.get? b=!o->b ∉ X.fs->b ∉ cb X.stack:=fun b o e hb z=>by
  rw[Hd]at z;rcases li.mp z with q | q
  ·show wU b o e q
  ·show hb q
 have Lfree:H' X.env.locals=none:=by
  let⟨m,⟨o,_,_,ho,_⟩,_⟩:=I.loc;show un.free _ o ho I.free ()
 show#[os.trans I.os,bare,#[fun b o q n hb _=>?_,fun b o q n hb _=>?_,fun b o q n _=>?_,fun b o q _=>?_,fun b xs q=>?_,fun b o v q=>?_,fun b ps q=>?_],hok2,free,?_,hd,B,a0,fl,fun b o e hb z=>?_]
 ·show u2.keep b o (I.base.keep b o q n hb (nx b)) (I.base.free b o q n (nx b)) (gC b o q hb) ()
 ·let⟨sl,e1⟩:=I.base.slot b o q n hb (nx b);let⟨sl',e2⟩:=u2.slot b _ e1 (I.base.free b o q n (nx b)) (by rw[Hd];show Fr _ hb) ();show#[sl',e2]
 ·let⟨o',e1⟩:=I.base.there b o q (nx b);show u2.free b o' e1 (I.base.free b o q n (nx b)) ()
 ·let⟨o',e1⟩:=I.base.there b o q (nx b);show u2.there b o' e1 ()
 ·show u2.il b xs (I.base.il b xs q)
 ·show u2.g8 b o v (I.base.g8 b o v q)
 ·let⟨m1,e1⟩:=I.base.ij b ps q;let⟨m2,e2⟩:=u2.ij b _ e1;show#[m1++m2,by rw[e2,Array.append_assoc]]
 ·cases q:X.s₀.heap.get? ea with
  | none=>rfl
  | some u =>
   let⟨u',e'⟩:=I.base.there ea u q (nx ea);rw[new]at e';cases e'
 ·have hn:b ∉ cb X.stack:=fun z'=>by
   rw[Hd]at z';rcases li.mp z' with q | q
   ·rcases z with ⟨o',e'⟩ | ⟨v,e'⟩
    ·show wU b o' e' q
    ·rw[q,Lfree]at e';cases e'
   ·show hb q
  have hs:∃ o',h1.get? b=!o'/\((∃ u,s.heap.get? b=!u)\/∃ u,H' b=!u):=by
   rcases z with ⟨o',e'⟩ | ⟨v,e'⟩
   ·let⟨o2,e2⟩:=I.base.there b o' e' (nx b);let⟨o3,e3⟩:=un.there b o2 e2 ();show#[o3,e3,.inl #[o2,e2]]
   ·let⟨o3,e3⟩:=(aE b v e').there;show#[o3,e3,.inr #[v,e']]
  let⟨o3,e3,z3⟩:=hs;have e4:=gJ b o3 e3 hn z3;have e5:=fl.1 b o3 e4;rw[e]at e5;cases e5;show e4
def Inv.WJ{M:Model}{A:Around}{E:ϊ->ό->Prop}(I:Inv X π σ H s)(O:Own X)(hA:A.frames=!X.stack)(F:pC X.prog X.w X.stack H s ea C od H' s') :
  wpAny M A (leaving X.env (-ea)) (fun _ s''=>pC X.prog X.w X.outer X.H₀ X.s₀ ea C od H' s'') E s':=by
 let⟨B,a0,fl,gJ⟩:=F.IP;have fl':=fl;rw[O.dk]at fl' hA;show aH ((Kp.leaving X.env (-ea)).any F.hd (wpAny_leaves_onW (Q:=fun _ s''=>∃ h',s''={ s' with heap:=h' }/\Heap.FlyingW B X.outer ea (-C) a0 h'/\s'.heap.UpToSlots h') hA O.frame fl' fun h' x1 x2=>#[h',rfl,x1,x2])) fun _ s'' #[#[h',e,x1,x2],hd]=>?_;subst e;show I.Bc (s':={ s' with heap:=h' }) O F.os F.bare F.un F.aE F.free F.new gJ x1 x2 hd
def J8{h h':Heap}{e:ϋ}{cls:ϊ}{args:List ϊ}(hx:Heap.MadeExcOf h h' e cls args):ei e cls none h':=by
 let⟨t,he,_⟩:=hx.there;show#[_,he,rfl,rfl,_,rfl]
def Inv.adw{M:Model}{A:Around}{E:ϊ->ό->Prop}{h':Heap}{vs:List ϊ}(I:Inv X π σ H s)(O:Own X)(hA:A.frames=!X.stack)(hx:Heap.MadeExcOf s.heap h' ea (-C) vs) :
  wpAny M A (leaving X.env (-ea)) (fun _ s''=>pC X.prog X.w X.outer X.H₀ X.s₀ ea C none H s'') E { s with heap:=h' }:=by
 have aR:(W.hideAll s.heap (cb X.stack)).StaysIn s.heap:=fun b o q=>Jao _ q;have m7:s.heap.FunFrames (W.hideAll s.heap (cb X.stack)) X.stack:=W.funFrames_hide I.stack fun env he a ha=>_O.mpr #[env,he,ha];have oI:H ea=none:=by
  cases q:H ea with
  | none=>rfl
  | some u =>
   let⟨o,e⟩:=(I.aE ea u q).there;have:=hx.new;rw[e]at this;cases this
 have gJ:uv (W.hideAll s.heap (cb X.stack)) (cb X.stack) s.heap H h':=fun b o e hb z=>by
  have hs:∃ u,s.heap.get? b=!u:=by
   rcases z with z | ⟨v,z⟩
   ·show z
   ·show(I.aE b v z).there
  let⟨u,eu⟩:=hs;have:=hx.keeps b u eu;rw[e]at this;cases this;show Jaj _ eu hb
 generalize W.hideAll s.heap (cb X.stack)=B at aR m7 gJ;have hfr':=m7;rw[O.dk]at hfr' hA;show aH ((Kp.leaving X.env (-ea)).any (s:={ s with heap:=h' }) (J8 hx) (wpAny_leaves_madeW (s:={ s with heap:=h' }) (Q:=fun _ s''=>∃ h2 t,s''={ s with heap:=h2 }/\Heap.FlyingW B X.outer ea (-C) (-t) h2/\h'.UpToSlots h2) hA O.frame aR hfr' hx
  fun h2 t x1 _ _ x4=>#[h2,t,rfl,x1,x4])) fun _ s'' #[#[h2,t,e,x1,x4],hd]=>?_
 subst e;show I.Bc (s':={ s with heap:=h2 }) O rfl I.bare (Un.kept hx.keeps) (I.aE.kept hx.keeps) oI hx.new gJ x1 x4 hd
structure nE(X:Cx)(R:St->XK):Prop where
 pass:∀ (π:List (ϋ×Obj)) (σ:St) (H:Hp) (s:ό) (e:ϊ) (s':ό),Inv X π σ H s->cB X.prog X.w X.stack H s (R σ) e s'->X.xe e s'
structure Raises(X:Cx)(R:St->XK):Prop where
 made:∀ (π:List (ϋ×Obj)) (σ:St) (H:Hp) (s:ό) (h':Heap) (ea C:ϋ) (vs:List ϊ),Inv X π σ H s->Heap.MadeExcOf s.heap h' ea (-C) vs->R σ (-C) none H->X.xe (-ea) { s with heap:=h' }
def cv{P:ύ}{w:World}{K:ν}{mg:Str->Option ϊ}{base:Heap}{N:List Str}{qual:Str}{scope:Scope}{f:ϋ}{cd:ϊ}{A:Around}{outer:List Env}{s₀:ό}{H₀:Hp}{E:XK} :
  nE (iG (cB P w) P w K mg base N qual scope f cd A outer s₀ H₀ E) (fun _=>E) where
 pass:=fun π σ H s e s' I hc=>by
  let⟨ea,C,od,H',rfl,F,hE⟩:=hc;show aH (I.WJ #[rfl,rfl,rfl] I.ok.frames F) fun _ s'' z=>#[ea,C,od,H',rfl,z,hE]
def yi{P:ύ}{w:World}{K:ν}{mg:Str->Option ϊ}{base:Heap}{N:List Str}{qual:Str}{scope:Scope}{f:ϋ}{cd:ϊ}{A:Around}{outer:List Env}{s₀:ό}{H₀:Hp}{E:XK} :
  Raises (iG (cB P w) P w K mg base N qual scope f cd A outer s₀ H₀ E) (fun _=>E) where
 made:=fun π σ H s h' ea C vs I hx hE=>aH (I.adw #[rfl,rfl,rfl] I.ok.frames hx) fun _ s'' z=>#[ea,C,none,H,rfl,z,hE]
def  ER(sp:Sp)(bJ:List V)(R:St->XK)(t:TA):TE:=fun σ H Q=>t σ H fun vs H1=>sp (vs++bJ) H1 Q (R σ)
section
variable {k:Nat}{f:ϋ}{fd:FuncData}{ps:List Str}{sp:Sp}{bJ:List V}{ds:List ϊ}{R:St->XK}{x:Str}{p pos:Pos}{e:Expr}{es:List Expr}{t:TA}
def KU{Q:VK}{us:List ϊ}{vs:List V}(F:aA X.prog X.w X.K X.mg X.base (cB X.prog X.w) k f fd ps sp)(hr:bM k X.A)(hb:Binds X.K fd ps ds)(hd:Vals bJ ds)(hx:nE X R)(I:Inv X π σ H s)(r:Vals vs us)(h:sp (vs++bJ) H Q (R σ)):wpAny (model X.prog X.w) X.A (call (-f) us) (EP X π σ Q) X.xe s:=by
 have r2:Vals (vs++bJ) (us++ds):=r.append hd;have hl:(us++ds).length=ps.length:=by rw[<- r2.length];show F.len _ _ _ _ h
 show _u (_T (F.run X.A X.stack s H #[us,[]] (us++ds) (vs++bJ) Q (R σ) hr I.vV (hb s us I.cq hl) r2 h) fun r s' hq=>?_);cases r with
 | error e=>show hx.pass π σ H s e s' I hq
 | ok fl =>
  cases fl with
  | ret u=>show I.after hq
  | next=>show False.elim hq
  | brk=>show False.elim hq
  | cont=>show False.elim hq
def W3(F:aA X.prog X.w X.K X.mg X.base (cB X.prog X.w) k f fd ps sp)(hr:bM k X.A)(hg:Gl X x)(hm:X.mg x=!-f)(hk:W.keepIn X.K (-f)=true)(hb:Binds X.K fd ps ds)(hd:Vals bJ ds)(hx:nE X R)(ha:PA X (e::es) t)(hs:‹(e::es).all noStar=true›)(b9:(x == ("__debug__":Str))=false:=by decide):PE X (.Call (.Name x p) (e::es) [] pos) (ER sp bJ R t):=by
 have hs':=hs;rw[IN,AC]at hs';intro π s σ H Q I h;show Ix (mz I hg hm ?_ b9);show _b (h₀:=X.base) I.ok.mod.jX hk (aH (ha pos π s σ H _ I h) fun us s1 #[vs,H1,I1,r,q]=>#[I1.cq,?_]) (fW hs'.1) (iT hs'.2);show KU F hr hb hd hx I1 r q
end
end
abbrev uU:List ϊ:=[.type "ValueError",.type "Exception",.type "BaseException",.type "object"]
def VB{K:ν}{h:Heap}{C:ϋ}{QC:List ϊ}{newId:String}(X:K.In h)(q:W.excIn K C QC newId=true) :
  ∃ bm N nm q bs hdct sn sub ab col dd k0 k1 k2 k3 k5 mN,h.get? C=!excClassObj nm q C N bs bm hdct sn sub ab col dd k0 k1 k2 k3 k5 newId/\h.Ns N mN/\mN "__init__" = none/\OwnTail h QC bm:=by
 unfold W.excIn at q;split at q
 ·rename_i dd cd sl ho;split at q
  ·rename_i C' bm k0 k1 k2 k3 n k5 hm hs;simp only[AC,ZB,Bool.not_eq_true']at q;let⟨⟨⟨⟨⟨q1,q2⟩,q3⟩,q4⟩,q5⟩,q6⟩:=q;subst q1 q2;let⟨nm,bs,mro,ns,qn,hd,sn,sub,ab,col,del⟩:=cd;dsimp only at hm q3 q5 q6;subst hm q3;have e1:sl=(List.toArray [k0,k1,k2,k3,!.builtin n,k5]):=by
    let⟨l⟩:=sl;simp only at hs;rw[hs]
   subst e1;show#[bm,ns,nm,qn,bs,hd,sn,sub,ab,col,dd,k0,k1,k2,k3,k5,_,X _ _ ho,.of_isNs (W.isNs_of_in X q5),W.nsMap_none_of_in X q5 q6,W.tail_of_in X q4]
  ·cases q
 ·cases q
def  Eh(C:ϋ)(R:St->XK)(t:TA):TS:=fun _ σ H=>t σ H fun vs H1=>vs.length<=sizeLine/\R σ (-C) none H1
def Td{X:Cx}{R:St->XK}{x:Str}{C:ϋ}{e:Expr}{es:List Expr}{t:TA}{np bB pos:Pos}(hx:Raises X R)(hc:X.calm=true)(hm:X.mg x=!-C)(q:W.excIn X.K C uU "ValueError.__new__" = true)(ha:PA X (e::es) t)(hg:‹Gl X x›)(hs:‹(e::es).all noStar=true›)(b9:(x == ("__debug__":Str))=false:=by decide):PS X (.Raise (!.Call (.Name x np) (e::es) [] bB) none pos) (Eh C R t):=by
 have hs':=hs;rw[IN,AC]at hs';intro π s σ H D I h;let⟨bm,N,nm,qn,bs,hdct,sn,sub,ab,col,dd,k0,k1,k2,k3,k5,mN,hC,hN,hni,T⟩:=VB I.ok.mod.jX q;show wpAny_Raise_call_subT (C:=C) (nm:=nm) (q:=qn) (N:=N) (bs:=bs) (bm:=bm) (hdct:=hdct) (sn:=sn) (sub:=sub) (ab:=ab) (col:=col) (dd:=dd) (k0:=k0) (k1:=k1) (k2:=k2) (k3:=k3) (k5:=k5)
  _G (mN:=mN) (T.hasType _G.hasBase) (I.ok.hd hc) (by rw[fW hs'.1];show iT hs'.2) hni (mz I hg hm #[rfl,?_] b9)
 have ha':=ha bB π s σ H _ I h;rw[fW hs'.1]at ha' ⊢;show TW (aH ha' fun us s2 #[vs,H2,I2,r,z,hR]=>?_);show#[rfl,by rw[<- r.length];show z,I2.bk _ _ hC,hN.keeps I2.bk,T.keeps I2.bk,fun h' ea hm'=>hx.made π σ H2 s2 h' ea C us I2 hm' hR]
def  Dz(ea C:ϋ)(od:Option ϋ):HO:=.ext (ei ea (-C) od)
abbrev Cx.pB(X:Cx)(v:ϊ):Cx:={ X with A:=X.A.mark (!v),calm:=false,xe:=fun _ _=>False }
abbrev Cx.pL(X:Cx)(π:List (ϋ×Obj))(R:St->XK):Cx:={ X with pn:=X.pn++π,xe:=fun e s'=>∃ (σ':St) (H H':Hp) (s:ό) (ea C:ϋ) (od:Option ϋ),Inv X π σ' H s/\e=-ea/\pC X.prog X.w X.stack H s ea C od H' s'/\R σ' (-C) od H' }
section
variable {X:Cx}{π π':List (ϋ×Obj)}{σ:St}{H H':Hp}{s s':ό}{R:St->XK}{v:ϊ}
def Inv.pB(I:Inv X π σ H s)(v:ϊ):Inv (X.pB v) π σ H s :=
 #[#[I.ok.mod,I.ok.kind,I.ok.glob,I.ok.blt,I.ok.above,I.ok.inj,I.ok.has,I.ok.nO,(fun z=>Bool.noConfusion z),I.ok.frames,I.ok.dk,I.ok.vf,I.ok.bs,I.ok.jw,I.ok.nz,I.ok.nX,I.ok.gN,I.ok.kq],
  I.os,I.bare,I.base,I.loc,I.cell,I.free,I.gI,I.pin,I.aE,I.len]
def Inv.xD(I:Inv (X.pB v) π σ H s)(ok:X.Ok):Inv X π σ H s:=#[ok,I.os,I.bare,I.base,I.loc,I.cell,I.free,I.gI,I.pin,I.aE,I.len]
def Inv.pL(I:Inv X π σ H s)(R:St->XK):Inv (X.pL π R) [] σ H s :=
 #[#[I.ok.mod,I.ok.kind,I.ok.glob,I.ok.blt,I.ok.above,I.ok.inj,I.ok.has,I.ok.nO,I.ok.hd,I.ok.frames,I.ok.dk,I.ok.vf,I.ok.bs,I.ok.jw,I.ok.nz,I.ok.nX,I.ok.gN,I.ok.kq],
  I.os,I.bare,I.base,I.loc,I.cell,I.free,I.gI,fun p hp=>I.pin p (by simpa using hp),I.aE,I.len]
def Inv.vX(I:Inv (X.pL π R) π' σ H s):Inv X π σ H s :=
 #[#[I.ok.mod,I.ok.kind,I.ok.glob,I.ok.blt,I.ok.above,I.ok.inj,I.ok.has,I.ok.nO,I.ok.hd,I.ok.frames,I.ok.dk,I.ok.vf,I.ok.bs,I.ok.jw,I.ok.nz,I.ok.nX,I.ok.gN,I.ok.kq],
  I.os,I.bare,I.base,I.loc,I.cell,I.free,I.gI,fun p hp=>I.pin p (GT _ hp),I.aE,I.len]
def ZG:nE (X.pL π R) R:=#[fun π' σ H s e s' I hc=>by
 let⟨ea,C,od,H',rfl,F,hE⟩:=hc;show#[σ,H,H',s,ea,C,od,I.vX,rfl,F,hE]]
def Inv.Jp{a:ϋ}{o:HO}(I:Inv X π σ H s)(hn:H a=none)(n0:X.s₀.heap.get? a=none)(nL:a≠X.env.locals)(nC:∀ x c,X.env.cells.lookup x=!c->c≠a)(nP:∀ p∈X.pn++π,p.1≠a)(new:ck X.prog X.w (upd H a o) s.heap a o):Inv X π σ (upd H a o) s:=by
 have ne:∀ b u,H b=!u->b≠a:=fun b u e=>gH e hn;have n0':∀ b u,X.s₀.heap.get? b=!u->b≠a:=fun b u e z=>by rw[z,n0]at e;cases e
 show#[I.ok,I.os,I.bare,#[I.base.keep,I.base.slot,fun b u e n hx=>by rw[ag (n0' b u e)];show I.base.free b u e n hx,I.base.there,fun b xs e=>by have:=I.base.il b xs e;rw[ag (ne b _ this)];show this,
  fun b u v e=>by have:=I.base.g8 b u v e;rw[ag (ne b _ this)];show this,fun b ps e=>?_],I.loc,I.cell,by rw[ag (ss nL)];show I.free,fun x c e=>by rw[ag (nC x c e)];show I.gI x c e,fun p hp=>?_,fun b u e=>?_,I.len]
 ·let⟨m,e1⟩:=I.base.ij b ps e;show#[m,by rw[ag (ne b _ e1)];show e1]
 ·let⟨e1,e2,r⟩:=I.pin p hp;show#[e1,by rw[ag (nP p hp)];show e2,r]
 ·by_cases hb:b=a
  ·subst hb;rw[ay]at e;cases e;show new
  ·rw[ag hb]at e;show(I.aE b u e).gz (fun _ _ _ q=>q) (fun c q=>by rw[ag (ne c _ q)];show q) fun c xs q=>by rw[ag (ne c _ q)];show q
end
def  Ends.S7(D:Ends)(i:Nat):Ends:=#[fun σ H=>D.nx (σ.set i none) H,D.rt,fun σ H=>D.bk (σ.set i none) H,fun σ H=>D.ct (σ.set i none) H]
structure ub(K:ν)(C:ϋ):Prop where
 ha:W.findIn K (-C) "__class__" = !(!.builtin "object.__class__")
 hn:W.specialIn K (.builtin "object.__class__") "__get__" = !(!.builtin "getset_descriptor.__get__")
 fw:W.takesIn K (.builtin "object.__class__")=!true
 hm:W.mroIn K C (.type "object")=!true
 uo:W.findIn K (-C) "__getattribute__" = !(!.builtin "BaseException.__getattribute__")
 hgn:W.findIn K (-C) "__getattr__" = !none
 hb:W.mroIn K C (.type "BaseException")=!true
def sF{M:Model}{h:Heap}{x C:ϋ}{od:Option ϋ}(I:ei x (-C) od h):W.Looks M h (typeOf (-x)) (-C):=by
 let⟨o,e,c,_⟩:=I;show c ▸ (Ja6 e).andThen .now
def BW{K:ν}{C:ϋ}{b:ϊ}{r:Bool}(h:W.mroIn K C b=!r):∃ c d cd sl,K.lookup C=!#[c,d,.cls cd,sl]:=by
 let⟨cd,dQ,_⟩:=Option.bind_eq_some_iff.mp h;unfold W.clsIn at dQ;split at dQ
 ·rename_i c' d' cd' sl' ho;show#[_,_,_,_,ho]
 ·cases dQ
section
variable {prog:ύ}{w:World}{A:Around}{E:ϊ->ό->Prop}{s:ό}{K:ν}{x C:ϋ}{od:Option ϋ}
def YZ{M:Model}{h:Heap}{name:Str}{a g:ϊ}(X:K.In h)(ha:W.findIn K (-C) name=!(!a))(hn:W.specialIn K a "__get__" = !(!g))(fw:W.takesIn K a=!true) :
  W.Looks M h (Builtin.ObjectAttr.find (-x) (-C) name) (.bind g a):=by
 have L1:=Rs (M:=M) X ha;have L2:W.Looks M h (Builtin.ObjectAttr.getOf (!a)) (!g):=W.looks_specialIn X hn;have L3:=W.looks_takesIn (M:=M) X fw;unfold Builtin.ObjectAttr.find;show L1.andThen (L2.andThen ?_);have L4:W.Looks M h (Builtin.ObjectAttr.dataDescriptor? (!a) (!g)) (!(g,a)):=by
  unfold Builtin.ObjectAttr.dataDescriptor?;show L3.andThen .now
 show L4.andThen (W.Looks.tag .now)
open PySem.W in
open Builtin Builtin.ObjectAttr Builtin.Getset_descriptor in
def Xo{R:Result->ό->Prop}{tp:ϊ}(Z:ub K C)(X:K.In s.heap)(I:ei x (-C) od s.heap)(h:R (.ok (.ret (-C))) s) :
  codeAny (model prog w) A (.call (.builtin "getset_descriptor.__get__") #[[.builtin "object.__class__",-x,tp],[]]) R s:=by
 let⟨hh,g,dr,t,os⟩:=s;have L0:=sF (M:=model prog w) I;have L1:=looks_mroIn (M:=model prog w) X Z.hm;show _H KF.slot_gs.plain KF.entry_gs (KF.slot_gs.check _ _ _ _ _ _ _ _ KF.type_class (KF.args_gs _ _ _) ?_);unfold Builtin.«getset_descriptor.__get__» descrGet;rw[dga_obj];show jp (tz ?_);unfold descrGetter descrCheckInstance descrNameAndClass isInstance;simp only[KF.owner_class]
 repeat lk
 show#[Jau _ (by decide +kernel),Jag KF.entry_class ?_];unfold Builtin.«object.__class__» shownTypeOf
 repeat lk
 show h
def ZJ{M:Model}{Qu:ϊ}{Q:Unit->ό->Prop}(Z:ub K C)(X:K.In s.heap)(I:ei x (-C) od s.heap)(h:Q .unit s):wpAny M A (checkBuiltinCall "BaseException.__getattribute__" #[[-x,Qu],[]]) Q E s:=by
 have k1:builtinKind "BaseException.__getattribute__" = !.slot:=by decide +kernel
 have k2:splitId "BaseException.__getattribute__" = !("BaseException","__getattribute__"):=by decide +kernel
 have k3:=PySem.F.args_bexc_ga (-x) Qu;have L0:=sF (M:=M) I;have L1:=_n (M:=M) X Z.hb;let⟨hh,g,d,t,os⟩:=s;have L2:W.Looks M hh (isInstance (-x) (.type "BaseException")) true:=L0.andThen L1;simp only[checkBuiltinCall,k1,k2];show jp (L2.at ?_)
 repeat (any_goals (first | assumption | wp_step))
def aaO{Q:Option ϊ->ό->Prop}(Z:ub K C)(X:K.In s.heap)(I:ei x (-C) od s.heap)(h:Q (!-C) { s with toks:=s.toks+1 }):wpAny (model prog w) A (getAttr? (-x) "__class__") Q E s:=by
 let⟨hh,g,d,t,os⟩:=s;have L0:=sF (M:=model prog w) I;have L1:=Rs (M:=model prog w) X Z.uo;have L2:=Rs (M:=model prog w) X Z.hgn;have L3:=YZ (M:=model prog w) (x:=x) X Z.ha Z.hn Z.fw;unfold getAttr? getAttrBy? getAttrBy;show jp (wpAny_mkText (jp (wpAny_attempt (NE (jp (L0.at (jp (L1.at ?_))))))));change wpAny _ _ (getAttrByItsOwn (-x) (.str "__class__" t) (-C) (.builtin "BaseException.__getattribute__") false false) _ _ _;unfold getAttrByItsOwn;show jp (L2.at ?_);show jp (wpAny_attempt (NE ?_));change wpAny _ _ (boundAndCalled (.builtin "BaseException.__getattribute__") (-x) (.str "__class__" t)) _ _ _;unfold boundAndCalled;show jp (wpAny_of_eq (PySem.F.attr_ValueError.ga.bind (-x)) ?_);show _u (_H PySem.F.attr_ValueError.ga.plain PySem.F.entry_bexc_ga (ZJ Z X I ?_));change wpAny _ _ (Builtin.«object.__getattribute__» #[[-x,.str "__class__" t],[]]) _ _ _;unfold Builtin.«object.__getattribute__»;show jp (tz ?_);show jp (tz ?_);show jp (L0.at (jp (L3.at ?_)));change wpAny _ _ (Builtin.ObjectAttr.bindTo (.builtin "getset_descriptor.__get__") (.builtin "object.__class__") (-x) (-C)) _ _ _;change wpAny _ _ (holding [.builtin "object.__class__"] (call (.builtin "getset_descriptor.__get__") [.builtin "object.__class__",-x,-C]) >>= fun v=>ret v) _ _ _;show jp (NE (_u (Xo Z X I (tz ?_))));show tz (tz h)
def FE(Z:ub K C):W.KitX K (-x) (-C) (ei x (-C) od) where
 ty:=fun _ _ _ I=>sF I
 it:=fun _ _ X _=>by
  let⟨c',d',cd',sl',ho⟩:=BW Z.hm;intro A' Q' E' s' k q;unfold isType loadHead;show jp (_S (k _ _ (X _ _ ho)) (tz q))
 ne:=fun h tp dd au n sl X htp=>by
  let⟨c',d',cd',sl',ho⟩:=BW Z.hm;show _Z.mpr fun q=>?_;have e:C=tp:=ϊ.ref.inj (ZB.mp q);subst e;have z:=(X _ _ ho).symm.trans htp;cases z
 ca:=fun X I k=>aaO Z X I k
end
inductive yA(K:ν)(H:Hp):V->ϊ->Bool->Prop where
 | of {x:V}{t:ϊ} (h:gm K H x t):yA K H x t false
 | exc {ea C:ϋ}{od:Option ϋ} (e:H ea=!Dz ea C od) (Z:ub K C):yA K H (-ea) (-C) true
inductive ug(K:ν)(H:Hp)(t:ϊ):Bool->V->Bool->Prop where
 | ty {f:Bool}{n:String}{b:Bool} (e:W.kitOne K t (.type n)=!b):ug K H t f (.ty n) b
 | cls {f:Bool}{a:ϋ}{b:Bool} (e:W.kitOne K t (-a)=!b):ug K H t f (-a) b
 | tup {p:ϋ}{cs:List V}{us:List ϊ}{b:Bool} (h:H p=!.tup cs) (hu:∀ ws,Vals cs ws->ws=us) (e:W.kitAny K t us=!b):ug K H t true (-p) b
section
variable {X:Cx}{K:ν}
def  D6(K:ν):List V->Hp->VK->Prop:=fun xs H Q=>match xs with
 | [x,c]=>∃ (t:ϊ) (f b:Bool),yA K H x t f/\ug K H t f c b/\Q (.bl b) H
 | _=>False
def acp{x c:V}{u v t:ϊ}{π:List (ϋ×Obj)}{σ:St}{H:Hp}{s:ό}{A:Around}{E:ϊ->ό->Prop}{Q:ϊ->ό->Prop}{f b:Bool}(I:Inv X π σ H s)(rx:RelV x u)(rc:RelV c v)(ty:yA X.K H x t f)(a:ug X.K H t f c b)(h:∀ tk,Q (.bool b) { s with toks:=tk }):wpAny (model X.prog X.w) A (call (.builtin "isinstance") [u,v]) Q E s:=by
 cases ty with
 | of ty =>
  cases a with
  | ty e=>cases (show v=ϊ.type _ from rc);show EA I rx ty e h
  | cls e=>cases (show v=ϊ.ref _ from rc);show EA I rx ty e h
 | @exc ea C od e Z =>
  cases (show u=ϊ.ref ea from rx);let⟨p,_,_⟩:=(show ck X.prog X.w H s.heap ea (Dz ea C od) from I.aE ea _ e);cases a with
  | ty e'=>cases (show v=ϊ.type _ from rc);show IO (FE Z) I.cq p e' (fun z=>nomatch z) h
  | cls e'=>cases (show v=ϊ.ref _ from rc);show IO (FE Z) I.cq p e' (fun z=>nomatch z) h
  | @tup tp cs us b hp hu e' =>
   cases (show v=ϊ.ref tp from rc);let⟨_,au,rv,o,ho,hc,n,hd,_⟩:=(show ck X.prog X.w H s.heap tp (.tup cs) from I.aE tp _ hp);obtain rfl:=hu au rv;let⟨oc,odd,Pj,eV⟩:=o;dsimp only at hc hd;subst hc hd;show W.kia_tup (FE Z) I.cq p ho e' (fun z=>nomatch z) h
def ue(h:X.K=K):cW X (.builtin "isinstance") (D6 K):=h ▸ fun π s σ H xs us Q I r q=>by
 unfold D6 at q;split at q
 ·rename_i x c;let⟨t,f,b,ty,a,q⟩:=q;let⟨u,v,rfl,ru,rv⟩:=vals2 r;show acp I ru rv ty a fun tk=>#[.bl b,H,I.tok tk,rfl,q]
 ·show q.elim
end
namespace Dv
section
variable {X:Cx}{st:Stmt}{t:TS}
def de{k:Nat}{f:ϋ}{fd:FuncData}{ps:List Str}{sp:Sp}{bJ:List V}{ds:List ϊ}{R:St->XK}{x:Str}{p pos:Pos}{e:Expr}{es:List Expr}{t:TA}(F:aA X.prog X.w X.K X.mg X.base (cB X.prog X.w) k f fd ps sp)(hr:bM k X.A)(hm:X.mg x=!-f)(hk:W.keepIn X.K (-f)=true)(hb:Binds X.K fd ps ds)(hd:Vals bJ ds)(hx:nE X R)(ha:QA X (e::es) t)(hg:‹Gl X x›)(hs:‹(e::es).all noStar=true›)(b9:(x == ("__debug__":Str))=false:=by decide):QE X (.Call (.Name x p) (e::es) [] pos) (ER sp bJ R t):=#[W3 F hr hg hm hk hb hd hx ha.h hs b9]
def yN{R:St->XK}{x:Str}{C:ϋ}{e:Expr}{es:List Expr}{t:TA}{np bB pos:Pos}(hx:Raises X R)(hc:X.calm=true)(hm:X.mg x=!-C)(q:W.excIn X.K C uU "ValueError.__new__" = true)(ha:QA X (e::es) t)(hg:‹Gl X x›)(hs:‹(e::es).all noStar=true›)(b9:(x == ("__debug__":Str))=false:=by decide):QS X (.Raise (!.Call (.Name x np) (e::es) [] bB) none pos) (Eh C R t):=#[Td hx hc hm q ha.h hg hs b9]
end
end Dv
def kc.dG{P:ύ}{w:World}{K:ν}{mg:Str->Option ϊ}{base:Heap}{CX:eP}{x qual:Str}{st:Stmt}{f:ϋ}{fd:FuncData}{N ps:List Str}{k:Nat}{sp:Sp}(F:kc K x qual st f fd)(S:aG N ps (aB st))(len:∀ vs H Q E,sp vs H Q E->vs.length=ps.length)(hb:∀ (ax:ϊ) (A:Around) (outer:List Env) (s:ό) (H:Hp) (vs:List V) (Q:VK) (E:XK),bM k (A.deeper (envOfC qual (aB st) s.heap.objs.size f ax))->sp vs H Q E ->
   ∃ t,eA (iG CX P w K mg base N qual (aB st) f ax A outer s H E) (aU st) t/\t { nx:=fun _ H'=>Q .aw H',rt:=Q } (start N vs) H):aA P w K mg base CX (k+1) f fd ps sp:=by
 let⟨oc,od,kV,doc,pm,an,ax,ct,eV,rfl,lk,dQ⟩:=F.ex;show Fu lk dQ S len fun A outer s H vs Q E hr gE=>hb ax A outer s H vs Q E hr gE
def  ur:List ϊ->Bool
 | []=>false
 | v::r=>(v::r) == uU || match v with
  | .ref _=>ur r
  | _=>false
def Kh(self:ϊ):∀ {l:List ϊ},ur l=true->refuseLoop self "__setattr__" l=pure .unit
 | [],e=>nomatch e
 | v::r,e=>by
  unfold ur at e;rcases Bool.or_eq_true_iff.mp e with q | q
  ·rw[ZB.mp q];show PySem.F.store_ValueError.passes self
  ·split at q
   ·rw[refuseLoop_ref];show Kh self q
   ·cases q
def  za(K:ν)(C:ϋ):Bool:=match K.lookup C with
 | some ⟨.type "type",_,.cls cd,sl⟩=>(match cd.mro,sl.toList with
  | .ref C'::bm,[_,_,_,_,!.builtin n,_]=>C' == C && n == "ValueError.__new__" && Bool.not cd.hasDel && W.tailIn K uU bm && ur cd.mro && cd.hasDict
  | _,_=>false)
 | _=>false
structure kQ(K:ν)(C f:ϋ)(fld:Str):Prop where
 q:za K C=true
 hi:W.findIn K (-C) "__init__" = !(!-f)
 hf:W.typeIn K (-f)=!.type "function"
 sa:W.findIn K (-C) "__setattr__" = !(!.builtin "object.__setattr__")
 na:W.findIn K (-C) fld=!none
 ob:W.mroIn K C (.type "object")=!true
 be:W.mroIn K C (.type "BaseException")=!true
 self:W.mroIn K C (-C)=!true
 kp:W.keepIn K (-C)=true
def AU{K:ν}{h:Heap}{C:ϋ}(X:K.In h)(q:za K C=true) :
  ∃ bm N nm q bs sn sub ab col dd k0 k1 k2 k3 k5,h.get? C=!excClassObj nm q C N bs bm true sn sub ab col dd k0 k1 k2 k3 k5 "ValueError.__new__"/\OwnTail h uU bm/\ur (-C::bm)=true:=by
 unfold za at q;split at q
 ·rename_i dd cd sl ho;split at q
  ·rename_i C' bm k0 k1 k2 k3 n k5 hm hs;simp only[AC,ZB,Bool.not_eq_true']at q;let⟨⟨⟨⟨⟨q1,q2⟩,q3⟩,q4⟩,q5⟩,q6⟩:=q;subst q1 q2;let⟨nm,bs,mro,ns,qn,hd,sn,sub,ab,col,del⟩:=cd;dsimp only at hm q3 q5 q6;subst hm q3 q6;have e1:sl=(List.toArray [k0,k1,k2,k3,!.builtin "ValueError.__new__",k5]):=by
    let⟨l⟩:=sl;simp only at hs;rw[hs]
   subst e1;show#[bm,ns,nm,qn,bs,sn,sub,ab,col,dd,k0,k1,k2,k3,k5,X _ _ ho,W.tail_of_in X q4,q5]
  ·cases q
 ·cases q
section
variable {prog:ύ}{w:World}{A:Around}{E:ϊ->ό->Prop}{s:ό}{K:ν}{x C f:ϋ}{fld:Str}{v:ϊ}
open Builtin Builtin.ObjectAttr in
def acL{Q:Unit->ό->Prop}(Z:kQ K C f fld)(X:K.In s.heap)(I:ei x (-C) none s.heap)(h:∀ h' d tk,s.heap.objs.size<=d->d≠x->(∃ o,s.heap.get? x=!o/\h'.get? x=!{ o with dict:=some d })->h'.Ns1 d (fun y=>if y=fld then !v else none)->(∀ b o,b≠x->s.heap.get? b=!o->h'.get? b=!o)->Q .unit { s with heap:=h',toks:=tk }) :
  wpAny (model prog w) A (setAttr (-x) fld v) Q E s:=by
 let⟨hh,g,dr,t,os⟩:=s;have L0:=sF (M:=model prog w) I;have L1:=Rs (M:=model prog w) X Z.sa;have L2:=Rs (M:=model prog w) X Z.na;let⟨bm,N,nm,qn,bs,sn,sub,ab,col,dd,k0,k1,k2,k3,k5,hC,T,hve⟩:=AU X Z.q;have Lo:=_n (M:=model prog w) X Z.ob;have Li:W.Looks (model prog w) hh (isInstance (-x) (.type "object")) true:=L0.andThen Lo;have SF:=PySem.F.store_object;show jp (wpAny_mkText (jp (jp (jp (L0.at (L1.at (NE ?_)))))));rw[SF.slot.bind];show jp (tz (jp (_u ?_)));show _H SF.slot.plain SF.entry ?_;show @W.check_slot (model prog w) _ _ #[hh,g,dr,t+1,os] "object.__setattr__" "object" "__setattr__" (-x) [.str fld t,v] [] _ SF.kind SF.split Li (SF.args (-x) (.str fld t) v) ?_;change wpAny _ _ (Builtin.«object.__setattr__» #[[-x,.str fld t,v],[]]) _ _ _;rw[W.osa_eq,refuse_eq];show jp (jp (L0.at (jp (wpAny_mroOf_exc hC ?_))));rw[Kh _ hve];show tz (jp (L0.at (jp (L2.at (jp (tz ?_))))));let⟨o,hx,hc,tS,vs,jA⟩:=I;change wpAny _ _ (storeInOwnDict (-x) (-C) (.str fld t) fld v false) _ _ _;have Lc:W.Looks (model prog w) hh (classData C) _:=(Ja6 (part:=none) hC).andThen .now;let⟨oc,od,Pj,eV⟩:=o;dsimp only at hc tS jA;subst hc tS jA;have bg:(hh.push { cls:=.type "dict",data:=.dict (List.toArray []) }).get? x=!#[-C,none,.fields vs,eV]:=pp _ hx;have GG:x≠hh.objs.size:=zn (u8 hx);unfold storeInOwnDict ownDictForStores instanceDict;show jp (tz ?_);show jp (jp (_S hx (jp (Lc.at ?_))));show jp (wpAny_alloc' ?_);show jp (wpAny_update' bg (tz ?_));change wpAny _ _ (storeInDict hh.objs.size (.str fld t) fld v) _ _ _;have hself:((hh.push { cls:=.type "dict",data:=.dict (List.toArray []) }).update x fun o=>{ o with dict:=some hh.objs.size }).get? x=!#[-C,!hh.objs.size,.fields vs,eV]:=Ty _ bg rfl;have hdict:((hh.push { cls:=.type "dict",data:=.dict (List.toArray []) }).update x fun o=>{ o with dict:=some hh.objs.size }).get? hh.objs.size=!{ cls:=.type "dict",data:=.dict (List.toArray []) } :=
  (Heap.get?_update_ne _ _ _ _ GG.symm).trans (Heap.get?_push_at rfl rfl)
 have hoth:∀ b o,b≠x->hh.get? b=!o->((hh.push { cls:=.type "dict",data:=.dict (List.toArray []) }).update x fun o=>{ o with dict:=some hh.objs.size }).get? b=!o:=fun b o hb e =>
  (Heap.get?_update_ne _ _ _ _ hb).trans (pp _ e)
 have iy:((hh.push { cls:=.type "dict",data:=.dict (List.toArray []) }).update x fun o=>{ o with dict:=some hh.objs.size }).Ns hh.objs.size (fun _=>none):=#[_,(List.toArray []),_,hdict,rfl,fun e he=>absurd he (),fun _=>rfl];unfold storeInDict newKeyGuard;show jp (tz (jp (wpAny_nsSet1 (Heap.Ns1.of_empty iy) fun h' hn' hs=>?_)));let⟨oD,Ig,epD,He,Hn,Gh⟩:=hn'.count (Within.cons fld v Within.nil);show jp (wpAny_lookBehind He (by rw[Hn];show pastItsLine_dict (ut Gh (by rw[xz,_M,sizeLine_eq];omega))) ?_);show tz (tz (tz ?_));show h h' hh.objs.size _ (pi _) (ss GG) #[_,hx,(hs.2 x GG).trans hself] hn' fun b o hb e=>(hs.2 b (zn (u8 e))).trans (hoth b o hb e)
end
def  nG(e:ϋ)(c:ϊ)(od:Option ϋ)(h:Heap):Prop:=∃ o,h.get? e=!o/\o.cls=c/\o.dict=od/\∃ vs a0,o.data=.fields vs/\vs[1]?=!.none/\vs[0]?=!a0
def nG.hd{e:ϋ}{c:ϊ}{od:Option ϋ}{h:Heap}(x:nG e c od h):ei e c od h:=let ⟨o,a,b,c,vs,_,d,_⟩:=x;#[o,a,b,c,vs,d]
def  dX(ea C:ϋ)(od:Option ϋ):HO:=.ext (nG ea (-C) od)
def Jz{P:ύ}{w:World}{H:Hp}{h:Heap}{ea C:ϋ}{od:Option ϋ}(x:nG ea (-C) od h):ck P w H h ea (dX ea C od) :=
 #[x,let ⟨o,e,_⟩:=x;#[o,e],fun _ _ #[o,e,r] k=>#[o,k o e,r]]
def Zx{h h':Heap}{e:ϋ}{cls:ϊ}{args:List ϊ}(hx:Heap.MadeExcOf h h' e cls args):nG e cls none h':=by
 let⟨t,he,_⟩:=hx.there;show#[_,he,rfl,rfl,_,_,rfl,rfl,rfl]
def  BO(C:ϋ)(fld:Str)(ta tv:TE):TS:=fun D σ H=>tv σ H fun y H1=>ta σ H1 fun x H2=>∃ ea,x=-ea/\H2 ea=!dX ea C none/\∀ d,H2 d=none->D.nx σ (upd (upd H2 ea (dX ea C (!d))) d (.xd [(fld,y)]))
def U6{fld g:Str}{y:V}{u:ϊ}(r:RelV y u):fh (([(fld,y)]:List (Str×V)).lookup g) (if g=fld then !u else none):=by
 by_cases h:g=fld
 ·have hb:(g == fld)=true:=ZB.mpr h;simp only[List.lookup,hb,wl h];show r
 ·have hb:(g == fld)=false:=Gc.mpr h;simp only[List.lookup,hb,wf h];show True.intro
section
variable {X:Cx}{C f:ϋ}{fld:Str}{o value:Expr}{ta tv:TE}{pos pos':Pos}
def ZT(Z:kQ X.K C f fld)(ha:PE X o ta)(hv:PE X value tv)(hs:swapsWith value (!.Attribute o fld pos') pos.line X.env=pure false):PS X (.Assign [.Attribute o fld pos'] value pos) (BO C fld ta tv):=by
 intro π s σ H D I h;show plainObj_wpAny_Assign_Attribute (aH (hv π s σ H _ I h) fun u s1 #[y,H1,I1,ry,q]=>aH (ha π s1 σ H1 _ I1 q) fun ov s2 #[x,H2,I2,rx,ea,ex,he,q2]=>?_) hs;subst ex;obtain rfl:ov=ϊ.ref ea:=rx;let⟨p,_,_⟩:=(show ck X.prog X.w H2 s2.heap ea (dX ea C none) from I2.aE ea _ he);show acL Z I2.cq p.hd fun h' d tk hsz m6 wO iy hkeep=>?_;let⟨o0,e0,e1⟩:=wO;let⟨o0',e0',c0,d0,vs,a0,v0⟩:=p;rw[e0]at e0';cases e0';have hd':nG ea (-C) (!d) h':=#[_,e1,c0,rfl,vs,a0,v0];have bx:H2 d=none:=I2.aE.fresh hsz;have J:Inv X π σ (upd H2 ea (dX ea C (!d))) { s2 with heap:=h',toks:=tk } :=
  I2.write (x:=ea) (e:=ea) (o:=dX ea C (!d)) (t':=tk) (by rw[he];show True.intro) (.inl rfl) hkeep #[_,e1] (Jz hd')
 have big:∀ b,(∃ u,s2.heap.get? b=!u)->b≠d:=fun b #[u,e] z=>absurd (u8 e) (by rw[z];show Nat.not_lt.mpr hsz);show#[σ,_,J.Jp (a:=d) (o:=.xd [(fld,y)]) (by rw[ag m6];show bx) (_D (ut I2.sz hsz)) ?_ ?_ ?_ #[_,iy,fun g=>U6 ry],q2 d bx]
 ·let⟨m,⟨o,_,_,ho,_⟩,_⟩:=I2.loc;show ss (big _ #[o,ho])
 ·intro z c e;let⟨w',o,ho,_⟩:=I2.cell z c e;show big _ #[o,ho]
 ·intro p hp;show big _ #[_,(I2.pin p hp).1]
end
def  ni(C:ϋ)(fld:Str):Sp:=fun vs H Q _=>match vs with
 | [-ea,y]=>H ea=!dX ea C none/\∀ d,H d=none->Q .aw (upd (upd H ea (dX ea C (!d))) d (.xd [(fld,y)]))
 | _=>False
section
variable {prog:ύ}{w:World}{A:Around}{E:ϊ->ό->Prop}{h:Heap}{g:Array GenState}{d:Drawn}{t:Nat}{os:OsState}{K:ν}{C f:ϋ}{fld:Str}
def abL{rest:List ϊ}{Q:Fin->ό->Prop}(Z:kQ K C f fld)(X:K.In h)(eT:rest.length<=sizeLine)(hq:∀ h' e,Heap.MadeExcOf h h' e (-C) rest->wpAny (model prog w) A (call (-f) (-e::rest)) (fun r s'=>r=.none/\Q (.done (.ret (-e))) s') E #[h',g,d,t,os]) :
  wpAny (model prog w) A (Builtin.«type.__call__» #[-C::rest,[]]) Q E #[h,g,d,t,os]:=by
 have F:=_G;let⟨bm,N,nm,qn,bs,sn,sub,ab,col,dd,k0,k1,k2,k3,k5,hC,T,_⟩:=AU X Z.q
 repeat (first | with_reducible show wpAny_loadPart_at hC ?_ | with_reducible show wpAny_madeBy_exc hC ?_ | wp_step)
 show codeAny_call_builtin_code (Jau _ F.quiet) (wpAny_check_new_subT F T hC (codeAny_exc_new_subT F T hC ?_ eT));change wpAny _ _ _ _ _ _;have kk:∀ b o,h.get? b=!o->((h.push { cls:=.type "tuple",data:=.seq rest.toArray }).push { cls:=-C,data:=.fields (List.toArray [-h.objs.size,.none,.none,.none,.bool false,.none]) }).get? b=!o:=fun b o e=>pp _ (pp _ e);have QL:((h.push { cls:=.type "tuple",data:=.seq rest.toArray }).push { cls:=-C,data:=.fields (List.toArray [-h.objs.size,.none,.none,.none,.bool false,.none]) }).get? (h.objs.size+1)=!{ cls:=-C,data:=.fields (List.toArray [-h.objs.size,.none,.none,.none,.bool false,.none]) }:=by heap_get
 have OP:((h.push { cls:=.type "tuple",data:=.seq rest.toArray }).push { cls:=-C,data:=.fields (List.toArray [-h.objs.size,.none,.none,.none,.bool false,.none]) }).get? h.objs.size=!{ cls:=.type "tuple",data:=.seq rest.toArray }:=pp _ (Heap.get?_push_at rfl rfl);generalize Qb:(h.push { cls:=.type "tuple",data:=.seq rest.toArray }).push { cls:=-C,data:=.fields (List.toArray [-h.objs.size,.none,.none,.none,.bool false,.none]) }=h2 at kk QL OP ⊢;have made:Heap.MadeExcOf h h2 (h.objs.size+1) (-C) rest:=#[kk,_D (_Q _),h.objs.size,QL,_D (pi _),OP];have X2:K.In h2:=fun b o e=>kk b o (X b o e);have L0:=sF (M:=model prog w) (J8 made);have L1:=Rs (M:=model prog w) X2 Z.hi;have Lb:=W.bind_fn (M:=model prog w) X2 (-(h.objs.size+1)) Z.hf;have Ls:W.Looks (model prog w) h2 (isSubtype (-C) (-C)) true:=_n X2 Z.self;have Li:W.Looks (model prog w) h2 (isInstance (-(h.objs.size+1)) (-C)) true:=L0.andThen Ls;show jp (Li.at ?_);simp only[_y,Go,Wp];show jp (NE ?_);unfold callSpecial? specialOf;show jp (jp (L0.at (L1.at ?_)));show NE (jp (Lb.at (jp (Op (hq h2 _ made) (fun r s' z=>?_) fun _ _ z=>z))));let⟨rfl,z⟩:=z;show tz (tz z)
def acE{rest:List ϊ}{Q:ϊ->ό->Prop}(Z:kQ K C f fld)(X:K.In h)(eT:rest.length<=sizeLine)(hq:∀ h' e,Heap.MadeExcOf h h' e (-C) rest->wpAny (model prog w) (A.under (.builtin "type.__call__" #[-C::rest,[]])) (call (-f) (-e::rest)) (fun r s'=>r=.none/\Q (-e) s') E #[h',g,d,t,os]) :
  wpAny (model prog w) A (call (-C) rest) Q E #[h,g,d,t,os]:=by
 let⟨bm,N,nm,qn,bs,sn,sub,ab,col,dd,k0,k1,k2,k3,k5,hC,T,_⟩:=AU X Z.q;have f1:=tc_lookup;have f2:=tc_bind (-C);have hT:(#[h,g,d,t,os]:ό).TypeIs (-C) "type" := #[_,hC,rfl];show _u (codeAny_of_tree ?_);change wpAny _ _ (callAny (-C) _) _ _ _
 repeat (any_goals (first | assumption | with_reducible show wpAny_loadPart_at hC ?_ | wp_step))
 show#[rfl,codeAny_call_builtin_at (Jau _ (by decide +kernel)) entry_typeCall (wpAny_check_type_call_sub hC (abL Z X eT fun h' e hm=>hq h' e hm))]
end
def adB{M:Model}{A:Around}{E:ϊ->ό->Prop}{s:ό}{env:Env}{K:ν}{C:ϋ}{x:Sem ϊ}{Q:Flow->ό->Prop}(hb:W.mroIn K C (.type "BaseException")=!true)(cx:W.typeIn K (-C)=!.type "type")(hh:A.handled=none)(h:wpAny M A x (fun v s₁=>∃ e o vs,v=-e/\s₁.heap.get? e=!o/\o.cls=-C/\o.data=.fields vs/\vs[1]?=!.none/\K.In s₁.heap/\E (-e) s₁) E s) :
  wpAny M A (raiseStmt env (!x) none) Q E s:=by
 unfold raiseStmt;show jp (Op h (fun v s₁ h₁=>?_) fun _ _ x=>x);let⟨e,o,vs,rfl,he,hc,hd,h1,X,hE⟩:=h₁;let⟨hp,g,d,tk,os⟩:=s₁;have L0:W.Looks M hp (typeOf (-e)) (-C):=hc ▸ (Ja6 he).andThen .now;have L1:=_n (M:=M) X hb;have L2:W.Looks M hp (isType (-e)) false:=by
  let⟨oc,od,Pj,eV⟩:=o;dsimp only at hd;subst hd;intro A' Q' E' s' k q;unfold isType loadHead;show jp (_S (k _ _ he) (tz q))
 have L3:W.Looks M hp (isExcClass (-e)) false:=L2.andThen .now;have L4:W.Looks M hp (isInstance (-e) (.type "BaseException")) true:=L0.andThen L1;have L5:=W.looks_typeIn (M:=M) X cx;show jp (tz (jp (NE ?_)));unfold excFromValue;show jp (L3.at ?_);simp only[Go,Wp];show jp (L4.at ?_);simp only[if_true];show tz ?_;show jp (L2.at ?_);simp only[Go,Wp];unfold raisedInstance;show jp (jp (L0.at (jp (L5.at ?_))));show tz ?_;unfold setFlight;show jp (jp (wpAny_field he hd h1 ?_));show tz ?_;show wpAny_raiseNew_none hh hE
def JR{fs:List ϋ}{H H':Hp}{h h1 base:Heap}(u:Un fs [] H H' h h1):∀ l:List Env,(∀ b∈cb l,b∈fs/\H b=none)->h.FunFrames base l->h1.FunFrames base l
 | [],_,_=>trivial
 | env::r,hs,⟨hk,⟨L,o,hf,hn,ho,hd⟩,hr⟩=>by
  have e:cb (env::r)=L::cb r:=by
   unfold cb;rw[_m,hf]
  let⟨h1',h2'⟩:=hs L (by rw[e];show _t);let⟨sl,e1⟩:=u.slot L o ho h2' h1' ();show#[hk,#[L,_,hf,hn,e1,hd],JR u r (fun b hb=>hs b (by rw[e];show Fr _ hb)) hr]
section
variable {X:Cx}{π:List (ϋ×Obj)}{σ:St}{H H':Hp}{s s1:ό}{ea C:ϋ}{od:Option ϋ}
def Inv.R1{M:Model}{A:Around}{E:ϊ->ό->Prop}(I:Inv X π σ H s)(O:Own X)(hA:A.frames=!X.stack)(os:s1.os=s.os)(bare:AllBare s1.gens)(un:Un (cb X.stack) [] H H' s.heap s1.heap)(aE:cw X.prog X.w H' s1.heap)(free:H' ea=none)(new:s.heap.get? ea=none)(hn:nG ea (-C) od s1.heap):wpAny M A (leaving X.env (-ea)) (fun _ s''=>pC X.prog X.w X.outer X.H₀ X.s₀ ea C od H' s'') E s1:=by
 have aR:(W.hideAll s1.heap (ea::cb X.stack)).StaysIn s1.heap:=fun b o q=>Jao _ q;have m7:s1.heap.FunFrames (W.hideAll s1.heap (ea::cb X.stack)) X.stack:=W.funFrames_hide (JR un X.stack (fun b hb=>#[hb,I.yI b hb]) I.stack) fun env he a ha=>Fr _ (_O.mpr #[env,he,ha]);have Gw:(W.hideAll s1.heap (ea::cb X.stack)).get? ea=none:=W.hideAll_none _ _t;have gJ:uv (W.hideAll s1.heap (ea::cb X.stack)) (cb X.stack) s.heap H' s1.heap:=fun b o e hb z=>by
  show Jaj _ e fun hm=>?_;rcases li.mp hm with q | q
  ·rcases z with ⟨u,z⟩ | ⟨u,z⟩
   ·rw[q,new]at z;cases z
   ·rw[q,free]at z;cases z
  ·show hb q
 generalize W.hideAll s1.heap (ea::cb X.stack)=B at aR m7 Gw gJ;rw[O.dk]at m7 hA;let⟨oe,he,hc,Al,vs,a0,hd,h1,h0⟩:=id hn;show aH ((Kp.leaving X.env (-ea)).any hn.hd (wpAny_leaving_firstW (Q:=fun _ s''=>∃ h2,s''={ s1 with heap:=h2 }/\Heap.LeftW B (X.env::X.outer) ea oe.cls a0 s1.heap h2) hA m7 O.frame he aR Gw hd h1 h0 fun h2 x=>#[h2,rfl,x])) fun _ s'' #[#[h2,e,k1,#[_,_,k2],k3,k4],hd2]=>?_;subst e;rw[hc]at k3;show I.Bc (s':={ s1 with heap:=h2 }) O os bare un aE free new gJ #[k1,Gw,k2,k3] k4 hd2
structure Es(X:Cx)(R:St->XK):Prop where
 made:∀ (π:List (ϋ×Obj)) (σ:St) (H H':Hp) (s s1:ό) (ea C:ϋ) (od:Option ϋ),Inv X π σ H s->s1.os=s.os->AllBare s1.gens->Un (cb X.stack) [] H H' s.heap s1.heap->cw X.prog X.w H' s1.heap->H' ea=none->s.heap.get? ea=none ->
  nG ea (-C) od s1.heap->R σ (-C) od H'->X.xe (-ea) s1
end
def lq{P:ύ}{w:World}{K:ν}{mg:Str->Option ϊ}{base:Heap}{N:List Str}{qual:Str}{scope:Scope}{f:ϋ}{cd:ϊ}{A:Around}{outer:List Env}{s₀:ό}{H₀:Hp}{E:XK} :
  Es (iG (cB P w) P w K mg base N qual scope f cd A outer s₀ H₀ E) (fun _=>E) where
 made:=fun π σ H H' s s1 ea C od I os bare un aE free new hn hE=>aH (I.R1 #[rfl,rfl,rfl] I.ok.frames os bare un aE free new hn) fun _ s'' z=>#[ea,C,od,H',rfl,z,hE]
def  Eu(C:ϋ)(fld:Str)(R:St->XK)(t:TA):TS:=fun _ σ H=>t σ H fun vs H1=>∃ v,vs=[v]/\∀ d,H1 d=none->R σ (-C) (!d) (upd H1 d (.xd [(fld,v)]))
def SM{X:Cx}{R:St->XK}{x fld:Str}{C f:ϋ}{fd:FuncData}{k:Nat}{ps:List Str}{e:Expr}{es:List Expr}{t:TA}{np bB pos:Pos}(hx:Es X R)(hex:X.ex=[])(hc:X.calm=true)(hm:X.mg x=!-C)(Z:kQ X.K C f fld)(cx:W.typeIn X.K (-C)=!.type "type")(F:aA X.prog X.w X.K X.mg X.base aJ k f fd ps (ni C fld))(hr:bM (k+1) X.A)(hb:Binds X.K fd ps [])(ha:PA X (e::es) t)(hg:‹Gl X x›)(hs:‹(e::es).all noStar=true›)(b9:(x == ("__debug__":Str))=false:=by decide):PS X (.Raise (!.Call (.Name x np) (e::es) [] bB) none pos) (Eu C fld R t):=by
 have hs':=hs;rw[IN,AC]at hs';intro π s σ H D I h;rw[arm_exec_Raise];show jp (_K ?_);change wpAny _ _ (raiseStmt X.env (!(do let v <- eval (.Call (.Name x np) (e::es) [] bB) X.env;standAt pos;pure v)) none) _ _ s;show adB Z.be cx (I.ok.hd hc) (jp (Op (Ix (mz I hg hm ?_ b9)) (fun v s3 h3=>jp (_K (tz h3))) fun _ _ z=>z));show _b (h₀:=X.base) I.ok.mod.jX Z.kp (aH (ha bB π s σ H _ I h) fun us s2 #[vs,H2,I2,r,v,ev,hR]=>#[I2.cq,?_]) (fW hs'.1) (iT hs'.2);subst ev;let⟨u,rfl,ru⟩:=vals1 r;let⟨h2,g2,d2,t2,xg⟩:=s2;show acE Z I2.cq (by change 1<=sizeLine;decide) fun h3 ex oB=>?_;have gC:∀ b,(∃ o,h2.get? b=!o)->b≠ex:=fun b #[o,e'] z=>by
  have:=oB.new;rw[z,this]at e';cases e'
 have oI:H2 ex=none:=by
  cases q:H2 ex with
  | none=>rfl
  | some o=>show absurd rfl (gC ex (I2.aE ex o q).there)
 have I3:Inv X π σ H2 #[h3,g2,d2,t2,xg]:=I2.kept (t':=t2) oB.keeps;have I4:Inv X π σ (upd H2 ex (dX ex C none)) #[h3,g2,d2,t2,xg]:=by
  show I3.Jp oI ?_ ?_ ?_ ?_ (Jz (Zx oB))
  ·cases q:X.s₀.heap.get? ex with
   | none=>rfl
   | some o =>
    show absurd rfl (gC ex (I2.base.there ex o q (by rw[hex];simp)))
  ·let⟨m,⟨o,_,_,ho,_⟩,_⟩:=I2.loc;show ss (gC _ #[o,ho])
  ·intro y c e';let⟨w',o,ho,_⟩:=I2.cell y c e';show gC _ #[o,ho]
  ·intro p hp;show gC _ #[_,(I2.pin p hp).1]
 have hl:([ϊ.ref ex,u]++([]:List ϊ)).length=ps.length:=by
  have:=F.len [-ex,v] (upd H2 ex (dX ex C none)) (fun _ _=>True) E0 #[ay,fun _ _=>True.intro];show this
 show _u (_T (F.run (X.A.under (.builtin "type.__call__" #[[-C,u],[]])) X.stack #[h3,g2,d2,t2,xg] (upd H2 ex (dX ex C none)) #[[-ex,u],[]] [-ex,u] [-ex,v]
  (fun r H5=>r=.aw/\∃ d,upd H2 ex (dX ex C none) d=none/\H5=upd (upd (upd H2 ex (dX ex C none)) ex (dX ex C (!d))) d (.xd [(fld,v)])) E0 (hr.make C [u] []) (I4.vV.make C [u] []) (hb _ [-ex,u] I4.cq hl) (.cons rfl (.cons ru .nil))
  #[ay,fun d hd=>#[rfl,d,hd,rfl]]) fun r s5 hq=>?_)
 cases r with
 | error e'=>show False.elim hq
 | ok fl =>
  cases fl with
  | next=>show False.elim hq
  | brk=>show False.elim hq
  | cont=>show False.elim hq
  | ret u5 =>
   let⟨v5,H5,os5,bare5,oN,GA,rv5,rfl,d,z9,rfl⟩:=hq;have m6:d≠ex:=fun z=>by rw[z,ay]at z9;cases z9
   have hd2:H2 d=none:=by rw[ag m6]at z9;show z9
   have e5:upd (upd (upd H2 ex (dX ex C none)) ex (dX ex C (!d))) d (.xd [(fld,v)]) ex=!dX ex C (!d):=by rw[ag (ss m6),ay]
   have e6:∀ b,b≠ex->upd (upd (upd H2 ex (dX ex C none)) ex (dX ex C (!d))) d (.xd [(fld,v)]) b=upd H2 d (.xd [(fld,v)]) b:=fun b hb=>by
    by_cases q:b=d
    ·rw[q,ay,ay]
    ·rw[ag q,ag hb,ag hb,ag q]
   have e7:upd H2 d (.xd [(fld,v)]) ex=none:=by rw[ag (ss m6)];show oI
   have e4:∀ b,b≠ex->upd H2 ex (dX ex C none) b=H2 b:=fun b hb=>ag hb;generalize upd (upd (upd H2 ex (dX ex C none)) ex (dX ex C (!d))) d (.xd [(fld,v)])=H5 at oN GA e5 e6;let⟨hN,_,_⟩:=(show ck X.prog X.w H5 s5.heap ex (dX ex C (!d)) from GA ex _ e5);have tW:∀ b o,H2 b=!o->b≠ex:=fun b o q=>gH q oI;have P2:Un (cb X.stack) [] H2 (upd H2 d (.xd [(fld,v)])) h2 s5.heap:=by
    show#[fun b o q n hb hx=>?_,fun b o q n hb hx=>?_,fun b o q n hx=>?_,fun b o q hx=>?_,fun b xs q=>?_,fun b o v' q=>?_,fun b ps' q=>?_]
    ·show oN.keep b o (oB.keeps b o q) (by rw[e4 b (gC b #[o,q])];show n) hb hx
    ·show oN.slot b o (oB.keeps b o q) (by rw[e4 b (gC b #[o,q])];show n) hb hx
    ·rw[<- e6 b (gC b #[o,q])];show oN.free b o (oB.keeps b o q) (by rw[e4 b (gC b #[o,q])];show n) hx
    ·show oN.there b o (oB.keeps b o q) hx
    ·rw[<- e6 b (tW b _ q)];show oN.il b xs (by rw[e4 b (tW b _ q)];show q)
    ·rw[<- e6 b (tW b _ q)];show oN.g8 b o v' (by rw[e4 b (tW b _ q)];show q)
    ·rw[<- e6 b (tW b _ q)];show oN.ij b ps' (by rw[e4 b (tW b _ q)];show q)
   have hokF:cw X.prog X.w (upd H2 d (.xd [(fld,v)])) s5.heap:=fun b o q=>by
    have hb:b≠ex:=fun z=>by rw[z,e7]at q;cases q
    have q5:H5 b=!o:=by rw[e6 b hb];show q
    have ne5:∀ c o',H5 c=!o'->o'≠dX ex C (!d)->c≠ex:=fun c o' z1 z2 z=>by rw[z,e5]at z1;show z2 (Fk z1).symm
    show(GA b o q5).gz (fun _ _ _ z=>z) (fun c z=>?_) fun c xs z=>?_
    ·rw[<- e6 c (ne5 c _ z (fun z'=>by cases z'))];show z
    ·rw[<- e6 c (ne5 c _ z (fun z'=>by cases z'))];show z
   let⟨oe,he,zY,Al,vs',a0,tK,h1,h0⟩:=id hN;show#[rv5,ex,oe,vs',rfl,he,zY,tK,h1,?_,hx.made π σ H2 _ #[h2,g2,d2,t2,xg] s5 ex C (!d) I2 os5 bare5 P2 hokF e7 oB.new hN (hR d hd2)];show I2.ok.mod.jX.keeps fun b o z=>P2.keep b o (I2.bs b o z).1 (I2.bs b o z).2 (fun hb=>by have:=(I2.stack.mem hb).1;rw[z]at this;cases this) ()
section
variable {prog:ύ}{w:World}{A:Around}{E:ϊ->ό->Prop}{s:ό}{K:ν}{x C f d:ϋ}{fld:Str}
end
def  Vb(C:ϋ)(fld:Str)(ta:TE):TE:=fun σ H Q=>ta σ H fun x H1=>∃ ea d fs v,x=-ea/\H1 ea=!Dz ea C (!d)/\H1 d=!.xd fs/\fs.lookup fld=!v/\Q v H1
inductive FI(C:ϋ)(f:Str)(x:V)(H:Hp)(Q:V->Prop):Prop
 | mk:∀ a dx fs v,x=-a->H a=!.ins C dx fs->fs.lookup f=!v->Q v->FI C f x H Q
inductive SI(C:ϋ)(f:Str)(x y:V)(H:Hp)(R:Hp->Prop):Prop
 | mk:∀ a dx fs,x=-a->H a=!.ins C dx fs->fs.length < 1000->R (upd H a (.ins C dx (az f y fs)))->SI C f x y H R
inductive AI(C:ϋ)(f:Str)(x:V)(H:Hp)(Q:ϋ->V->Prop):Prop
 | mk:∀ a dx fs v,x=-a->H a=!.ins C dx fs->fs.lookup f=!v->Q a v->AI C f x H Q
inductive BI(C:ϋ)(f:Str)(a:ϋ)(z:V)(H:Hp)(R:Hp->Prop):Prop
 | mk:∀ dx fs,H a=!.ins C dx fs->fs.length < 1000->R (upd H a (.ins C dx (az f z fs)))->BI C f a z H R
def  xQ(C:ϋ)(f:Str)(ta:TE):TE:=fun σ H Q=>ta σ H fun x H1=>FI C f x H1 fun v=>Q v H1
def  pK(C:ϋ)(f:Str)(ta tv:TE):TS:=fun D σ H=>tv σ H fun y H1=>ta σ H1 fun x H2=>SI C f x y H2 fun H3=>D.nx σ H3
def  Fe(C:ϋ)(f:Str)(ta tv:TE)(rd:R2):TS:=fun D σ H=>ta σ H fun x H1=>AI C f x H1 fun a v=>tv σ H1 fun y H2=>rd v y H2 fun z H3=>BI C f a z H3 fun H4=>D.nx σ H4
def  DQ(C:ϋ)(m:Str)(sp:Sp)(bJ:List V)(R:St->XK)(ta:TE)(t:TA):TE:=fun σ H Q=>ta σ H fun x H1=>MI C m x H1 (t σ H1 fun vs H2=>sp (x::(vs++bJ)) H2 Q (R σ))
section
variable {X:Cx}{k:Nat}{f C:ϋ}{fd:FuncData}{ps:List Str}{sp:Sp}{bJ:List V}{ds:List ϊ}{R:St->XK}{x m:Str}{p pos apos:Pos}{e o:Expr}{es:List Expr}{ta:TE}{t:TA}
def acn{pl:Sem Bool}(he:PE X o ta)(c:dD X.K C)(hm:Meth X.K C m f)(F:aA X.prog X.w X.K X.mg X.base (cB X.prog X.w) k f fd ps sp)(hr:bM k X.A)(hb:Binds X.K fd ps ds)(hd:Vals bJ ds)(hx:nE X R)(ha:PA X (e::es) t)(hs:‹(e::es).all noStar=true›)(ht:‹eval (.Call (.Attribute o m apos) (e::es) [] pos) X.env=(do
   let ov <- eval o X.env
   standAt apos.atName
   let (f,first) <- holding [ov] (getMethod ov m pl)
   callWith pos f first (backTo pos (starEach (e::es) X.env)) (backToKw pos (keywordEach [] X.env)))›):PE X (.Call (.Attribute o m apos) (e::es) [] pos) (DQ C m sp bJ R ta t):=by
 have hs':=hs;rw[IN,AC]at hs';intro π s σ H Q I h;show _3 (pl:=pl) (aH (he π s σ H _ I h) fun u s1 ⟨x,H1,I1,rx,a,dx,fs,ex,ea,l,q⟩=>?_) ht;subst ex;obtain rfl:u=ϊ.ref a:=rx;show C2 I1 ea c hm l (_b (first:=[-a]) (h₀:=X.base) I.ok.mod.jX hm.kp (aH (ha pos π s1 σ H1 _ I1 q) fun us s2 ⟨vs,H2,I2,r,q2⟩=>#[I2.cq,?_]) (fW hs'.1) (iT hs'.2));show KU (us:=-a::us) (vs:=-a::vs) F hr hb hd hx I2 (.cons rfl r) q2
end
section
variable {X:Cx}{C:ϋ}{f:Str}{e o value:Expr}{ta tv:TE}{pos pos' ua:Pos}
def Ut(c:dD X.K C)(n:bU X.K C f)(he:PE X e ta)(hb:attributeBase e f X.env (eval e X.env)=eval e X.env):PE X (.Attribute e f pos) (xQ C f ta):=by
 intro π s σ H Q I h;show Xb hb (aH (he π s σ H _ I h) fun u s1 ⟨x,H1,I1,rx,a,dx,fs,v,ex,ea,l,q⟩=>?_);subst ex;obtain rfl:u=ϊ.ref a:=rx;show L8 I1 ea c n l fun u' s2 I2 ru=>#[v,H1,I2,ru,q]
def Sh(c:dD X.K C)(n:bU X.K C f)(ha:PE X o ta)(hv:PE X value tv)(hs:swapsWith value (!.Attribute o f pos') pos.line X.env=pure false):PS X (.Assign [.Attribute o f pos'] value pos) (pK C f ta tv):=by
 intro π s σ H D I h;show plainObj_wpAny_Assign_Attribute (aH (hv π s σ H _ I h) fun u s1 ⟨y,H1,I1,ry,q⟩=>aH (ha π s1 σ H1 _ I1 q) fun ov s2 ⟨x,H2,I2,rx,a,dx,fs,ex,ea,l,q2⟩=>?_) hs;subst ex;obtain rfl:ov=ϊ.ref a:=rx;show Oi I2 ea c n l ry fun s3 I3=>#[σ,_,I3,q2]
def abk{op:Operator}{rd:R2}(c:dD X.K C)(n:bU X.K C f)(ha:PE X o ta)(hv:PE X value tv)(Gr:C5 X op rd):PS X (.AugAssign (.Attribute o f ua) op value pos) (Fe C f ta tv rd):=by
 intro π s σ H D I h;show wpAny_AugAssign_AttributeAny (aH (ha π s σ H _ I h) fun ov s1 ⟨x,H1,I1,rx,a,dx,fs,v,ex,ea,l,q⟩=>?_);subst ex;obtain rfl:ov=ϊ.ref a:=rx;show L8 I1 ea c n l fun u s2 I2 ru=>aH (hv π s2 σ H1 _ I2 q) fun w3 s3 ⟨y,H2,I3,ry,q3⟩=>aH (Gr π s3 σ H2 v y u w3 _ I3 ru ry q3) fun w4 s4 ⟨z,H3,I4,rz,dx',fs',ea',l',q4⟩=>?_;show Oi I4 ea' c n l' rz fun s5 I5=>#[σ,_,I5,q4]
end
def Mj{X:Cx}{op:CmpOp}{a b:Expr}{t:TE}{pos:Pos}(h:PC X op a b t)(hm:behindInMarks op b=false:=by first | show xN _ ⋯ ⋯ | rfl):PT X (.Compare a [op] [b] pos) (nK t):=by
 intro π s σ H Q I hw;show wpAny_isTrue_Compare1 (aH (h π s σ H _ I hw) fun v s1 h1=>aH h1 fun u s2 h2=>aH h2 fun c s3 #[x,H1,I1,r1,q1]=>?_) hm;let⟨k,rfl,q⟩:=BJ q1;cases r1;show PP #[H1,I1,q]
namespace Dv
section
variable {X:Cx}{a b o e i value:Expr}{ta tb td ty tv:TE}{es:List Expr}{t:TA}{pos pos' apos bB p ua:Pos}{f C:ϋ}{fn m x:Str}{k:Nat}{fd:FuncData}{ps:List Str}{sp:Sp}{bJ:List V}{ds:List ϊ}{R:St->XK}{CX:eP}{E:XK}{tA:TT}{body:List Stmt}{tB:TS}
def fld(c:dD X.K C)(n:bU X.K C fn)(he:QE X e ta)(hb:‹attributeBase e fn X.env (eval e X.env)=eval e X.env›):QE X (.Attribute e fn pos) (xQ C fn ta):=#[Ut c n he.h hb]
def bN(c:dD X.K C)(n:bU X.K C fn)(ha:QE X o ta)(hv:QE X value tv)(hs:‹swapsWith value (!.Attribute o fn pos') pos.line X.env=pure false›):QS X (.Assign [.Attribute o fn pos'] value pos) (pK C fn ta tv):=#[Sh c n ha.h hv.h hs]
def js{op:Operator}{rd:R2}(c:dD X.K C)(n:bU X.K C fn)(Gr:C5 X op rd)(ha:QE X o ta)(hv:QE X value tv):QS X (.AugAssign (.Attribute o fn ua) op value pos) (Fe C fn ta tv rd):=#[abk c n ha.h hv.h Gr]
def MG(Z:kQ X.K C f fn)(ha:QE X o ta)(hv:QE X value tv)(hs:‹swapsWith value (!.Attribute o fn pos') pos.line X.env=pure false›):QS X (.Assign [.Attribute o fn pos'] value pos) (BO C fn ta tv):=#[ZT Z ha.h hv.h hs]
def aW{pl:Sem Bool}(c:dD X.K C)(hm:Meth X.K C m f)(F:aA X.prog X.w X.K X.mg X.base CX k f fd ps sp)(hr:bM k X.A)(hb:Binds X.K fd ps ds)(hd:Vals bJ ds)(hx:Passes CX X E)(ho:QE X o ta)(ha:QA X (e::es) t)(hs:‹(e::es).all noStar=true›)(ht:‹eval (.Call (.Attribute o m apos) (e::es) [] pos) X.env=(do
   let ov <- eval o X.env
   standAt apos.atName
   let (f,first) <- holding [ov] (getMethod ov m pl)
   callWith pos f first (backTo pos (starEach (e::es) X.env)) (backToKw pos (keywordEach [] X.env)))›):QE X (.Call (.Attribute o m apos) (e::es) [] pos) (wq C m sp bJ E ta t):=by
 have hs':=hs;rw[IN,AC]at hs';show#[Z7 ho.h c hm F hr hb hd hx ha.h (fW hs'.1) (iT hs'.2) ht]
def lT{pl:Sem Bool}(c:dD X.K C)(hm:Meth X.K C m f)(F:aA X.prog X.w X.K X.mg X.base CX k f fd ps sp)(hr:bM k X.A)(hb:Binds X.K fd ps ds)(hd:Vals bJ ds)(hx:Passes CX X E)(ho:QE X o ta)(ht:‹eval (.Call (.Attribute o m apos) [] [] pos) X.env=(do
   let ov <- eval o X.env
   standAt apos.atName
   let (f,first) <- holding [ov] (getMethod ov m pl)
   callWith pos f first (backTo pos (starEach [] X.env)) (backToKw pos (keywordEach [] X.env)))›):QE X (.Call (.Attribute o m apos) [] [] pos) (wq C m sp bJ E ta gW):=#[acY ho.h c hm F hr hb hd hx ht]
def dA{pl:Sem Bool}(c:dD X.K C)(hm:Meth X.K C m f)(F:aA X.prog X.w X.K X.mg X.base (cB X.prog X.w) k f fd ps sp)(hr:bM k X.A)(hb:Binds X.K fd ps ds)(hd:Vals bJ ds)(hx:nE X R)(ho:QE X o ta)(ha:QA X (e::es) t)(hs:‹(e::es).all noStar=true›)(ht:‹eval (.Call (.Attribute o m apos) (e::es) [] pos) X.env=(do
   let ov <- eval o X.env
   standAt apos.atName
   let (f,first) <- holding [ov] (getMethod ov m pl)
   callWith pos f first (backTo pos (starEach (e::es) X.env)) (backToKw pos (keywordEach [] X.env)))›):QE X (.Call (.Attribute o m apos) (e::es) [] pos) (DQ C m sp bJ R ta t):=#[acn ho.h c hm F hr hb hd hx ha.h hs ht]
def make(M:Mk X.K C f)(F:aA X.prog X.w X.K X.mg X.base CX k f fd ps sp)(hr:bM (k+1) X.A)(hm:X.mg x=!-C)(hb:Binds X.K fd ps ds)(hd:Vals bJ ds)(hx:Passes CX X E)(ha:QA X (e::es) t)(hg:‹Gl X x›)(hs:‹(e::es).all noStar=true›)(b9:(x == ("__debug__":Str))=false:=by decide) :
  QE X (.Call (.Name x p) (e::es) [] pos) (vv C sp bJ E t):=by
 have hs':=hs;rw[IN,AC]at hs';show#[aaA M F hr hg hm hb hd hx ha.h b9 (fW hs'.1) (iT hs'.2)]
def VW(M:Mk X.K C f)(F:aA X.prog X.w X.K X.mg X.base CX k f fd ps sp)(hr:bM (k+1) X.A)(hm:X.mg x=!-C)(hb:Binds X.K fd ps ds)(hd:Vals bJ ds)(hx:Passes CX X E)(hg:‹Gl X x›)(b9:(x == ("__debug__":Str))=false:=by decide) :
  QE X (.Call (.Name x p) [] [] pos) (vv C sp bJ E gW):=#[Us M F hr hg hm hb hd hx b9]
def kO(hx:Es X R)(hex:X.ex=[])(hc:X.calm=true)(hm:X.mg x=!-C)(Z:kQ X.K C f fn)(cx:W.typeIn X.K (-C)=!.type "type")(F:aA X.prog X.w X.K X.mg X.base aJ k f fd ps (ni C fn))(hr:bM (k+1) X.A)(hb:Binds X.K fd ps [])(ha:QA X (e::es) t)(hg:‹Gl X x›)(hs:‹(e::es).all noStar=true›)(b9:(x == ("__debug__":Str))=false:=by decide):QS X (.Raise (!.Call (.Name x p) (e::es) [] bB) none pos) (Eu C fn R t):=#[SM hx hex hc hm Z cx F hr hb ha.h hg hs b9]
def pN(hu:X.A.units+1 < cLine)(ho:QE X o td)(hi:QE X i ty)(hs:DY i:=by intro _ _;rfl):QE X (.Subscript o i pos) (Bl td ty):=#[abV hu ho.h hi.h hs]
def C1(hu:X.A.units+1 < cLine)(hi:QE X i ty)(ho:QE X o td)(hm:‹behindInMarks .In o=false›):QT X (.Compare i [.In] [o] pos) (nK (EM ty td)):=#[Mj (Te hu hi.h ho.h) hm]
def KL(hu:X.A.units+1 < cLine)(hi:QE X i ty)(ho:QE X o td)(hm:‹behindInMarks .NotIn o=false›):QT X (.Compare i [.NotIn] [o] pos) (nK (C9 ty td)):=#[Mj (S4 hu hi.h ho.h) hm]
def ng(hu:X.A.units+1 < cLine)(ho:QE X o td)(hi:QE X i ty)(hv:QE X value tv)(hs:‹swapsWith value (!.Subscript o i pos') pos.line X.env=pure false›):QS X (.Assign [.Subscript o i pos'] value pos) (Co td ty tv):=#[ZP hu ho.h hi.h hv.h hs]
def adp:QE X (.Dict [] [] pos) Ek:=#[Ui]
def Nb(hu:X.A.units+1 < cLine)(ho:QE X o td)(he:QE X e ty)(m1:M1 X o "get" apos e bB:=by show#[rfl,rfl,rfl,rfl]):QE X (.Call (.Attribute o "get" apos) [e] [] bB) (AL td ty):=#[ac8 hu ho.h he.h m1]
def K7(ho:QE X o td)(he:QE X e ty)(m1:M1 X o "pop" apos e bB:=by show#[rfl,rfl,rfl,rfl]):QE X (.Call (.Attribute o "pop" apos) [e] [] bB) (Bo td ty):=#[Vd ho.h he.h m1]
def j3(hp:PassesOwn (model X.prog X.w) X.A X.env X.xe)(hc:QT X a tA)(hb:QB X body tB):QS X (.While a body [] pos) (Kn tA tB):=#[acr hp hc.h hb.h]
def IV(hc:QT X o tA)(ha:QE X a ta)(hb:QE X b tb):QE X (.IfExp o a b pos) (EF tA ta tb):=#[Zu hc.h ha.h hb.h]
end
end Dv
def WZ{K:ν}{M:Model}{A:Around}{E:ϊ->ό->Prop}{s:ό}{e C Cc:ϋ}{od:Option ϋ}{Q:Bool->ό->Prop}{b:Bool}(X:K.In s.heap)(hd:ei e (-C) od s.heap)(h1:W.instIn K (-Cc) (.type "tuple")=!false)(h2:W.mroIn K Cc (.type "BaseException")=!true)(h3:W.subIn K (-C) (-Cc)=!b)(hq:Q b s):wpAny M A (excMatches (-e) (-Cc)) Q E s:=by
 let⟨o,he,hc,_⟩:=hd;have L1:=W.looks_instIn (M:=M) X h1;have L2:=_n (M:=M) X h2;have L3:=W.looks_subIn (M:=M) X h3;have L4:W.Looks M s.heap (isType (-Cc)) true:=by
  let⟨c',d',cd',sl',ho⟩:=BW h2;intro A' Q' E' s' k q;unfold isType loadHead;show jp (_S (k _ _ (X _ _ ho)) (tz q))
 have L5:W.Looks M s.heap (typeOf (-e)) (-C):=hc ▸ (Ja6 he).andThen .now;have L6:W.Looks M s.heap (isExcClass (-Cc)) true:=L4.andThen L2;let⟨hh,g,d,t,os⟩:=s;unfold excMatches;show jp (L1.at ?_);simp only[Go,Wp,pure_bind];simp only[List.forIn_cons,List.forIn_nil,bind_assoc,pure_bind];show jp (L6.at ?_);simp only[_y,Go,Wp,bind_assoc,pure_bind];show jp (L5.at (jp (L3.at ?_)));cases b with
 | true =>
  simp only[if_true,pure_bind];show tz hq
 | false =>
  simp only[Go,Wp,pure_bind];show tz hq
structure E6(X:Cx)(π:List (ϋ×Obj))(σ:St)(H:Hp)(ea C:ϋ)(od:Option ϋ)(s:ό):Prop where
 fl:∃ B a0,Heap.FlyingW B (X.env::X.outer) ea (-C) a0 s.heap/\∀ h4:Heap,B.StaysIn h4->s.heap.UpToSlots h4->Inv X π σ H { s with heap:=h4 }
 hd:ei ea (-C) od s.heap
 free:H ea=none
 n0:X.s₀.heap.get? ea=none
 nL:ea≠X.env.locals
 nC:∀ x c,X.env.cells.lookup x=!c->c≠ea
 nP:∀ p∈X.pn++π,p.1≠ea
def E6.inv{X:Cx}{π:List (ϋ×Obj)}{σ:St}{H:Hp}{ea C:ϋ}{od:Option ϋ}{s:ό}(L:E6 X π σ H ea C od s):Inv X π σ H s:=by
 let⟨B,a0,fl,k⟩:=L.fl;show k s.heap fl.1 (Heap.UpToSlots.refl _)
abbrev kU:=Ends->St->ϋ->Option ϋ->Hp->Prop
def  PH(X:Cx)(hs:List ExceptHandler)(t:kU):Prop:=∀ (π:List (ϋ×Obj)) (s:ό) (σ:St) (H:Hp) (D:Ends) (ea C:ϋ) (od:Option ϋ),E6 X π σ H ea C od s->t D σ C od H->wpAny (model X.prog X.w) X.A (handleBy (-ea) X.env hs) (SP X π D) X.xe s
def  HR(K:ν)(Cc:ϋ)(th:TS)(tr:kU):kU:=fun D σ C od H=>∃ b,W.subIn K (-C) (-Cc)=!b/\if b=true then th D σ H else tr D σ C od H
def  Iz:kU:=fun _ _ _ _ _=>False
def Yw{X:Cx}:PH X [] Iz:=fun _ _ _ _ _ _ _ _ _ h=>h.elim
section
variable {X:Cx}{K:ν}{Cc:ϋ}{n x:Str}{xx:List Stmt}{b₀:Stmt}{np hpos pos:Pos}{th:TS}{tr:kU}{rest:List ExceptHandler}
def abg(hK:X.K=K)(hm:X.mg x=!-Cc)(c1:W.instIn X.K (-Cc) (.type "tuple")=!false)(c2:W.mroIn X.K Cc (.type "BaseException")=!true)(hs:∀ v,eA (X.pB v) (b₀::xx) th)(hr:PH X rest tr)(hg:‹Gl X x›)(b9:(x == ("__debug__":Str))=false:=by decide):PH X (.ExceptHandler (!.Name x np) none (b₀::xx) hpos::rest) (HR K Cc th tr):=by
 subst hK;intro π s σ H D ea C od L h;let⟨b,GK,h⟩:=h;have I:=L.inv;show wpAny_handleBy_cons (codeAny_handlers_test (mz (I.pB (-ea)) hg hm (WZ I.cq L.hd c1 c2 GK ?_) b9)) (by intro q;cases q);cases b with
 | false=>show hr π s σ H D ea C od L h
 | true =>
  have aS:=h;rw[wl rfl]at aS;let⟨B,a0,fl,step⟩:=L.fl;show codeAny_handlers_suite (aH (lands_againW (Q:=fun _ s4=>∃ h4,s4={ s with heap:=h4 }/\Heap.FlyingW B (X.env::X.outer) ea (-C) a0 h4/\s.heap.UpToSlots h4) fl fun h4 x1 x2=>#[h4,rfl,x1,x2]) fun _ s4 #[h4,e4,fl4,up4]=>?_);subst e4;show Op (hs (-ea) π _ _ _ D ((step h4 fl4.1 up4).pB (-ea)) aS) (fun f s7 z=>?_) fun _ _ z=>False.elim z;cases f with
  | next=>let⟨σ7,H7,I7,q⟩:=z;show#[_,H7,I7.xD I.ok,q]
  | ret u=>let⟨v,σ7,H7,I7,r,q⟩:=z;show#[v,_,H7,I7.xD I.ok,r,q]
  | brk=>let⟨σ7,H7,I7,q⟩:=z;show#[_,H7,I7.xD I.ok,q]
  | cont=>let⟨σ7,H7,I7,q⟩:=z;show#[_,H7,I7.xD I.ok,q]
def  Mn(tb:(St->XK)->TS)(t:kU):TS:=fun D σ H=>∃ R:St->XK,tb R D σ H/\∀ σ' C od H',R σ' (-C) od H'->t D σ' C od H'
def adl{body:List Stmt}{h₀:ExceptHandler}{tb:(St->XK)->TS}{t:kU}(O:Own X)(hb:∀ π R,eA (X.pL π R) body (tb R))(hh:PH X (h₀::rest) t):PS X (.Try body (h₀::rest) [] [] pos) (Mn tb t):=by
 intro π s σ H D I h;let⟨R,hb',hR⟩:=h;show wpAny_Try_except (Op (hb π R [] s σ H D (I.pL R) hb') (fun f s1 z=>?_) fun e s1 z=>?_)
 ·cases f with
  | next=>let⟨σ',H',I',q⟩:=z;show _L #[σ',H',I'.vX,q]
  | ret u=>let⟨v,σ',H',I',r,q⟩:=z;show#[v,σ',H',I'.vX,r,q]
  | brk=>let⟨σ',H',I',q⟩:=z;show#[σ',H',I'.vX,q]
  | cont=>let⟨σ',H',I',q⟩:=z;show#[σ',H',I'.vX,q]
 ·let⟨σ',H0,H',s0,ea,C,od,I0,rfl,F,Gk⟩:=z;let⟨B,a0,fl,gJ⟩:=F.IP;have hA:X.A.frames=!(X.env::X.outer):=by rw[<- O.dk];show I.ok.frames
  rw[O.dk]at fl;show aH ((Kp.noteFrame (-ea) X.env).any F.hd (wpAny_looks_onW (Q:=fun _ s2=>∃ h2,s2={ s1 with heap:=h2 }/\Heap.HeldW B (X.env::X.outer) ea (-C) a0 X.env.locals h2/\s1.heap.UpToSlots h2) hA O.frame fl fun h2 x1 x2=>#[h2,rfl,x1,x2])) fun _ s2 #[#[h2,e2,held,up2],hd2]=>?_;subst e2;show aH ((Kp.setFlight (-ea) none).any (s:={ s1 with heap:=h2 }) hd2 (wpAny_landsW (s:={ s1 with heap:=h2 }) (Q:=fun _ s3=>∃ h3,s3={ s1 with heap:=h3 }/\Heap.FlyingW B (X.env::X.outer) ea (-C) a0 h3/\h2.UpToSlots h3) held fun h3 x1 x2=>#[h3,rfl,x1,x2])) fun _ s3 #[#[h3,e3,fl3,up3],qy]=>?_;subst e3;have gC:∀ b,(∃ o,s0.heap.get? b=!o)->b≠ea:=fun b #[o,e] z=>by rw[z,F.new]at e;cases e
  show hh π { s1 with heap:=h3 } σ' H' D ea C od #[#[B,a0,fl3,fun h4 st up=>?_],qy,F.free,?_,?_,fun y c e=>?_,fun p hp=>?_] (hR σ' C od H' Gk)
  ·let⟨u,aE⟩:=HZ F.un F.aE I0.IQ gJ st ((up2.trans up3).trans up);show I0.LV (s':={ s1 with heap:=h4 }) (ch:=[]) F.os u aE F.bare (fun b z=>absurd z ())
  ·cases q:X.s₀.heap.get? ea with
   | none=>rfl
   | some u=>show absurd rfl (gC ea (I0.base.there ea u q (by rw[O.ex];simp)))
  ·let⟨m,⟨o,_,_,ho,_⟩,_⟩:=I0.loc;show ss (gC _ #[o,ho])
  ·let⟨w',o,ho,_⟩:=I0.cell y c e;show gC _ #[o,ho]
  ·show gC _ #[_,(I0.pin p hp).1]
end
structure QH(X:Cx)(hs:List ExceptHandler)(t:kU):Prop where
 h:PH X hs t
namespace Dv
section
variable {X:Cx}{K:ν}{Cc:ϋ}{n x:Str}{xx:List Stmt}{b₀:Stmt}{np hpos pos:Pos}{th:TS}{tr:kU}{rest:List ExceptHandler}
def UH:QH X [] Iz:=#[Yw]
def Tf(hK:X.K=K)(hm:X.mg x=!-Cc)(c1:W.instIn X.K (-Cc) (.type "tuple")=!false)(c2:W.mroIn X.K Cc (.type "BaseException")=!true)(hs:∀ v,QB (X.pB v) (b₀::xx) th)(hr:QH X rest tr)(hg:‹Gl X x›)(b9:(x == ("__debug__":Str))=false:=by decide):QH X (.ExceptHandler (!.Name x np) none (b₀::xx) hpos::rest) (HR K Cc th tr):=#[abg hK hm c1 c2 (fun v=>(hs v).h) hr.h hg b9]
def WT{body:List Stmt}{h₀:ExceptHandler}{tb:(St->XK)->TS}{t:kU}(O:Own X)(hb:∀ π R,QB (X.pL π R) body (tb R))(hh:QH X (h₀::rest) t):QS X (.Try body (h₀::rest) [] [] pos) (Mn tb t):=#[adl O (fun π R=>(hb π R).h) hh.h]
end
end Dv
def  fF(a b:Str):Bool:=Bool.not (ltCps b.cps.toList a.cps.toList)
def  jm(ts:List Str):List Str:=ts.mergeSort fF
def zh{a b:Str}:fF a b=true ↔ ¬ b.cps.toList < a.cps.toList:=by
 unfold fF;rw[ltCps_eq];simp
def IT(a b c:Str)(h1:fF a b=true)(h2:fF b c=true):fF a c=true:=by
 rw[zh] at *;show Jab.mpr (List.le_trans (Jab.mp h1) (Jab.mp h2))
def Zo(a b:Str):(fF a b || fF b a)=true:=by
 cases h:fF a b with
 | true=>rfl
 | false =>
  have:¬ fF a b=true:=by rw[h];simp
  rw[zh,Classical.not_not]at this;simp only[Bool.false_or,zh];show Jab.mpr (List.le_of_lt this)
def Xc{a b:Str}(h1:fF a b=true)(h2:fF b a=true):a=b:=by
 rw[zh] at *;have:=List.le_antisymm (Jab.mp h1) (Jab.mp h2);let⟨x⟩:=a;let⟨y⟩:=b;show GE Str.mk (Array.ext' this)
def lQ(ts:List Str):(jm ts).Perm ts:=List.mergeSort_perm ts fF
def YJ(ts:List Str):(jm ts).Pairwise (fun a b=>fF a b=true):=List.pairwise_mergeSort IT Zo ts
def yK(ts:List Str):(jm ts).length=ts.length:=(lQ ts).length_eq
def NQ:∀ (p:Str) (l:List Str),risingS p l=true->(p::l).Pairwise (fun a b=>fF a b=true)
 | p,[],_=>List.pairwise_singleton _ _
 | p,x::r,h=>by
  have h':fF p x=true/\risingS x r=true:=by simpa [risingS,fF] using h
  have ih:=NQ x r h'.2;show List.pairwise_cons.mpr #[fun y hy=>?_,ih];rcases li.mp hy with e | hy
  ·show e ▸ h'.1
  ·show IT p x y h'.1 (List.rel_of_pairwise_cons ih hy)
def KW:∀ (l:List Str),sortedS l=true->l.Pairwise (fun a b=>fF a b=true)
 | [],_=>.nil
 | x::r,h=>NQ x r h
def JS{us ts:List Str}(hp:us.Perm ts)(hs:us.Pairwise (fun a b=>fF a b=true)):us=jm ts :=
 List.Perm.eq_of_pairwise (fun a b _ _ h1 h2=>Xc h1 h2) hs (YJ ts) (hp.trans (lQ ts).symm)
def MX:∀ {ts:List Str}{us:List ϊ},Vals (ts.map V.str) us->StrsAre us ts
 | [],_,.nil=>.nil
 | x::r,_,.cons h t=>by let⟨t',rfl⟩:=h;show .cons x t' (MX t)
def Bu:∀ {us:List ϊ}{ts:List Str},StrsAre us ts->Vals (ts.map V.str) us
 | _,_,.nil=>.nil
 | _,_,.cons y t h=>.cons #[t,rfl] (Bu h)
section
variable {X:Cx}
def  Oy(K:ν):List V->Hp->VK->Prop:=fun xs H Q=>∃ p ts,xs=[-p]/\aC K H p (ts.map V.str)/\ts.length < 64/\∀ l,H l=none->Q (-l) (upd H l (.lst ((jm ts).map V.str)))
def RO:cW X (.builtin "sorted") (Oy X.K):=by
 intro π s σ H xs us Q I r h;let⟨p,ts,rfl,hq,dE,q⟩:=h;let⟨u,rfl,rx⟩:=vals1 r;cases rx;let⟨au,r',pl,hz⟩:=I.list hq;have hlen:=r'.length;show sorted_strs pl.isList (MX r') (by rw[<- hlen];simpa using dE) fun out ss' a1 a2 a3=>?_;let⟨e,he⟩:=sortedAll_at s.heap au out;have e1:ss'=jm ts:=JS a2 (KW _ a3);subst e1;show#[-(s.heap.objs.size+1),_,I.laid (t':=s.toks) (fun _ _=>sortedAll_old) (_Q _) (show ck X.prog X.w _ _ _ (.lst ((jm ts).map V.str)) from#[?_,out.toList,e,Bu a1,?_]),rfl,q _ (I.aE.fresh (_Q _))]
 ·rw[lv,yK];simpa using hz
 ·simpa [seqObj] using he
def  LX:List V->Hp->VK->Prop:=fun xs H Q=>∃ p kvs,∃ ts:List Str,xs=[-p]/\H p=!.dK kvs/\kvs.map (·.1)=ts.map Sum.inr/\ts.length < 64/\∀ l,H l=none->Q (-l) (upd H l (.lst ((jm ts).map V.str)))
def aaE{x:Str}{v:ϊ}(h:pP (.inr x) v=true):∃ t,v=ϊ.str x t:=ϊ.isStrOf_shape h
def Wt(hc:X.calm=true):cW X (.builtin "sorted") LX:=by
 intro π s σ H xs us Q I r h;let⟨p,kvs,ts,rfl,hq,hk,dE,q⟩:=h;let⟨u,rfl,rx⟩:=vals1 r;cases rx;let⟨hz,hS,vs,rv,m⟩:kvs.length<=sizeLine/\(p == sysModules)=false/\∃ vs,KV kvs vs/\s.heap.DictOf (fk X.prog X.w) p vs:=I.aE p _ hq;let⟨ep,lz⟩:=m.dictAt;have gB:kvs.length=ts.length:=by simpa using GE List.length hk
 have F5:vs.length=ts.length:=by rw[<- gB];simpa using (GE List.length rv.keys).symm
 show Calls.call_function_entry kind_sorted plain_sorted entry_sorted (args_sorted1 _) ?_;unfold Builtin.«sorted»;show jp (m:=checkCount "sorted" 1 1 _) (tz ?_);show jp (W.kdu_collect (A:=X.A.in1) (W.kdl_dict (knd:=fk X.prog X.w) (kvs:=vs) (ep:=ep) hS) (I.ok.hd hc) lz (by rw[F5,<- gB];show hz) fun h' tk acc hk' iC=>?_);have hl:acc.toList.length=ts.length:=by rw[Tm,<- F5];show iC.1
 have hS':StrsAre acc.toList ts:=by
  have key:∀ (l:List ϊ) (us:List Str),l.length=us.length->(∀ (j:Nat) (v:ϊ) (x:Str),l[j]?=!v->us[j]?=!x->∃ t,v=ϊ.str x t)->StrsAre l us:=by
   intro l
   induction l with
   | nil=>intro us e _;cases us with | nil=>show .nil | cons=>cases e
   | cons v l ih =>
    intro us e hh;cases us with
    | nil=>cases e
    | cons x us =>
     let⟨t,rfl⟩:=hh 0 v x rfl rfl;show .cons x t (ih us (by simpa using e) fun j v x h1 h2=>hh (j+1) v x h1 h2)
  show key _ _ hl fun j v x h1 h2=>?_;let⟨k,y,hx,qi⟩:=iC.2 j v (by rw[<- P3];show h1);have e1:(vs.map (·.1))[j]?=!k:=by rw[At,hx];rfl
  rw[<- rv.keys,hk,At,h2]at e1;cases e1;show aaE qi
 show jp (wpAny_newList ?_ (by rw[hl,<- gB];show hz));have m5:(h'.push (seqObj "list" acc.toList.toArray 0)).get? h'.objs.size=!seqObj "list" acc.toList.toArray 0:=wn _ rfl;show jp (NE (Ja7 slot_list_sort #[_,m5,rfl] entry_list_sort (list_sort_treeK strKind_oneLt m5 hS'.keysOf (fun v₁ v₂ rest e=>keyKind_strs (by rw[<- e];show hS')) (by rw[hl];show dE) fun st' a1 a2=>#[_,rfl,?_]) (args_list_sort _)));show tz #[_,rfl,?_];let⟨ss',b1,b2,b3⟩:=sorted_out_str hS' a1 a2;have e1:ss'=jm ts:=JS b2 (KW _ b3);subst e1;let⟨e,he⟩:=sortedHeap_at (out:=(arrOf st').map (·.2)) m5;have I1:Inv X π σ H { s with heap:=h',toks:=tk }:=I.kept (t':=tk) hk';show#[-h'.objs.size,_,I1.laid (t':=tk) (fun b o z=>?_) (pi _) (show ck X.prog X.w _ _ _ (.lst ((jm ts).map V.str)) from#[?_,_,e,Bu b1,?_]),rfl,q _ (I1.aE.fresh (pi _))]
 ·have hb:b < h'.objs.size:=u8 z;rw[sortedHeap_old (zn hb) (by have:=_p h' (seqObj "list" acc.toList.toArray 0);rw[this];show _0 hb)];show pp _ z
 ·rw[lv,yK,<- gB];show hz
 ·rw[Jac];show he
end
def  Ms(P:ύ)(w:World)(K:ν)(mg:Str->Option ϊ)(base:Heap)(N:List Str)(qual:Str)(scope:Scope)(f:ϋ)(cd:ϊ)(cl:List (Str×ϋ))(A:Around)(outer:List Env)(s:ό)(H:Hp)(E:XK):Cx where
 prog:=P
 w:=w
 K:=K
 mg:=mg
 base:=base
 A:=A.deeper (W.envX qual scope s.heap.objs.size f cd cl)
 N:=N
 s₀:=s
 H₀:=H
 env:=W.envX qual scope s.heap.objs.size f cd cl
 outer:=outer
 stack:=W.envX qual scope s.heap.objs.size f cd cl::outer
 ex:=[]
 calm:=true
 fn:=fun _=>false
 pn:=[]
 xe:=fun e s'=>wpAny (model P w) (A.deeper (W.envX qual scope s.heap.objs.size f cd cl)) (leaving (W.envX qual scope s.heap.objs.size f cd cl) e) (fun _ s''=>cB P w outer H s E e s'') (fun e' s''=>cB P w outer H s E e' s'') s'
def  yt(c:ϋ)(q:Str):HO:=.ext fun h=>h.CodeRec (-c) q
structure HU(N:List Str)(scope:Scope)(cl:List (Str×ϋ)):Prop where
 kind:scope.kind=.function
 co:scope.isCoroutine=false
 gen:scope.isGenerator=false
 adM:∀ x∈scope.names,x.2≠.cell
 free:∀ x∈N,scope.names.lookup x=!.free
 has:∀ x,scope.names.lookup x=!.free->∃ c,cl.lookup x=!c
 inj:∀ x y c,cl.lookup x=!c->cl.lookup y=!c->x=y
def  ac0(i:Nat)(f:ϋ)(fU:Hp->VK->XK->Prop)(R:St->XK):TE:=fun σ H Q=>σ[i]?=!(!-f)/\fU H Q (R σ)
abbrev Zs:=List Env->ό->Sp
structure ad4(P:ύ)(w:World)(K:ν)(mg:Str->Option ϊ)(base:Heap)(CX:eP)(k:Nat)(f:ϋ)(fd:FuncData)(ps:List Str)(sp:Zs):Prop where
 len:∀ outer s vs H Q E,sp outer s vs H Q E->vs.length=ps.length
 run:∀ (A:Around) (outer:List Env) (s:ό) (H:Hp) (args:Args) (us:List ϊ) (vs:List V) (Q:VK) (E:XK),bM k A->nq P w K mg base A outer s H->BindsTo s fd args (ps.zip us)->Vals vs us->sp outer s vs H Q E ->
  codeAny (model P w) A (.call (-f) args) (CR CX outer P w H s Q E) s
abbrev Ent:=Int×Int×ϋ
def  KS:List Ent->List ϊ
 | []=>[]
 | e::r=>rawInt e.1::rawInt e.2.1::.ref e.2.2::KS r
def  LO(P:ϋ)(es:List Ent):HO:=.ext fun h=>h.get? P=!W.tabObj (KS es).toArray
structure Ey(H:Hp)(P:ϋ)(q:Str)(es:List Ent):Prop where
 tab:H P=!LO P es
 code:∀ e∈es,H e.2.2=!yt e.2.2 q
structure adR(X:Cx)(P:ϋ)(params:Arguments)(scope:Scope)(fq:List (Str×ϋ))(q:Str):Prop where
 dflt:defaultsOf params X.env=([],[])
 pE:closureFor scope X.env=pure fq
 code:∃ c,X.env.code=-c/\W.CodeHd X.base c P
 blt:X.base.BuiltinsAt X.mg P
 qual:X.env.qual ++ "<lambda>" = q
structure J7(P:ϋ)(q:Str)(c:ϋ)(H H1:Hp):Prop where
 rest:∀ b,b≠P->b≠c->H1 b=H b
 code:H1 c=!yt c q
 old:H c=none\/H1=H
 tab:∃ es,Ey H1 P q es
abbrev jL:=Hp->VK->XK->Prop
def  RA(c:ϋ)(q:Str)(W:jL):jL:=fun H Q E=>H c=!yt c q/\W H Q E
def  yo(ix:List Nat)(σ:St)(vs:List V):Prop:=vs.length=ix.length/\∀ (i j:Nat) (v:V),ix[i]?=!j->vs[i]?=!v->σ[j]?=!(!v)
def  U5(P:ϋ)(q:Str)(ix:List Nat)(W:List V->jL)(GP:jL->jL)(R:St->XK):TE:=fun σ H Q =>
 ∃ es vs,Ey H P q es/\yo ix σ vs/\∀ c H1,J7 P q c H H1->GP (RA c q (W vs)) H1 Q (R σ)
structure aaZ(X:Cx)(N':List Str)(ix:List Nat)(fq:List (Str×ϋ)):Prop where
 len:ix.length=N'.length
 at':∀ (i j:Nat),ix[i]?=!j->∃ x,N'[i]?=!x/\X.N[j]?=!x/\X.env.scope.names.lookup x=!.cell
 pE:∀ x c,fq.lookup x=!c->X.env.cells.lookup x=!c
 cap:∀ x∈N',fq.lookup x=X.env.cells.lookup x
 own:∀ x c,fq.lookup x=!c->X.fn x=true
abbrev acF:=List (ϋ×ϋ)
structure ad1(tabs:acF)(H:Hp):Prop where
 all:∀ b,H b=none\/(∃ o xs,H b=!.df o (.lst xs))\/∃ q∈tabs,b=q.2
 tab:∀ q∈tabs,H q.2=!LO q.2 []
section
variable {prog:ύ}{w:World}{A:Around}{R:Result->ό->Prop}{I:ϋ}{fp wr:List ϋ}{P:Nat->ϊ->Prop}{St:Nat->Heap->Prop}
def aap(a d:ϊ):argsOk "min" #[[a],[("default",d)]]:=by unfold argsOk;kernel_rfl
def UR(W:Walks prog w A.in1 I fp wr 0 P St){S:ϋ}{s:ό}{c:Nat}{d:ϊ}(aR:St 0 s.heap)(hS:s.heap.get? S=!{ cls:=.type "list",dict:=none,data:=.seq (List.toArray []) c,slots:=(List.toArray []) })(hR:∀ h' tk,(∀ b o,b ∉ wr->s.heap.get? b=!o->h'.get? b=!o)->R (.ok (.ret d)) { s with heap:=h',toks:=tk }) :
  codeAny (model prog w) A (.builtin "min.loop" #[[-I,.none,-S],[("default",d)]]) R s:=by
 show Jag F.entry_min_loop ?_;rw[Jad _I _];change wpAny _ A.in1 (seqItems? (-S) >>= _) _ _ s;show jp (Jav hS rfl ?_);change wpAny _ A.in1 (tryCatch (pyNext (-I)) _ >>= _) _ _ s;show jp (wpAny_tryCatch (W.done s _ _ aR fun h' tk hk'=>?_));show jp (wpAny_rule (tz (hR h' tk hk')))
def abX(W:Walks prog w A.in1 I fp wr 1 P St){S:ϋ}{s:ό}{c:Nat}{d:ϊ}(t8:S ∉ fp)(aR:St 0 s.heap)(hS:s.heap.get? S=!{ cls:=.type "list",dict:=none,data:=.seq (List.toArray []) c,slots:=(List.toArray []) })(hR:∀ v h' tk,P 0 v->(∀ b o,b ∉ wr->b≠S->s.heap.get? b=!o->h'.get? b=!o)->R (.ok (.ret v)) { s with heap:=h',toks:=tk }) :
  codeAny (model prog w) A (.builtin "min.loop" #[[-I,.none,-S],[("default",d)]]) R s:=by
 have Pr:S ∉ wr:=fun h=>t8 (W.sub _ h);have Gm:(toString "min" ++ toString ".loop" : String) = "min.loop" := by decide
 show Jag F.entry_min_loop ?_;rw[Jad _I _];change wpAny _ A.in1 (seqItems? (-S) >>= _) _ _ s;show jp (Jav hS rfl ?_);change wpAny _ A.in1 (tryCatch (pyNext (-I)) _ >>= _) _ _ s;show jp (wpAny_tryCatch (W.item 0 s _ _ ⋯ aR fun v h' tk hP hst' hk'=>?_));have hS':=hk' S _ Pr hS;change wpAny _ A.in1 (updateSeq S (fun _=>(List.toArray [v,v])) >>= _) _ _ _;show jp ?_;show wpAny_updateSeq hS' rfl ?_;rw[Gm];show tz #[plainId_quiet _I _,?_];have key:∀ (s2:ό) (c2:Nat),St 1 s2.heap->s2.heap.get? S=!{ cls:=.type "list",dict:=none,data:=.seq (List.toArray [v,v]) c2,slots:=(List.toArray []) }->(∀ h'' tk'',(∀ b o,b ∉ wr->b≠S->s2.heap.get? b=!o->h''.get? b=!o)->R (.ok (.ret v)) { s2 with heap:=h'',toks:=tk'' }) ->
   codeAny (model prog w) A (.builtin "min.loop" #[[-I,.none,-S],[("default",d)]]) R s2:=fun s2 c2 gd hS2 hR2=>by
  show Jag F.entry_min_loop ?_;rw[Jad _I _];change wpAny _ A.in1 (seqItems? (-S) >>= _) _ _ s2;show jp (Jav hS2 rfl ?_);change wpAny _ A.in1 (tryCatch (pyNext (-I)) _ >>= _) _ _ s2;show jp (wpAny_tryCatch (W.done s2 _ _ gd fun h3 tk3 O3=>?_));have hS3:=O3 S _ Pr hS2;change wpAny _ A.in1 (updateSeq S (fun _=>(List.toArray [])) >>= _) _ _ _;show jp ?_;show wpAny_updateSeq hS3 rfl (jp (wpAny_letGo (tz ?_)));show hR2 _ tk3 fun b o hbw hbS e=>(Id _ _ (ss hbS)).trans (O3 b o hbw e)
 show key _ _ (W.frame _ _ _ hst' fun b mW o e=>(Id _ _ (fun h:S=b=>t8 (by rw[h];show mW))).trans e) (Ty _ hS' rfl) fun h'' tk'' hk''=>?_;show hR v h'' tk'' hP fun b o hbw hbS e=>hk'' b o hbw hbS ((Id _ _ (ss hbS)).trans (hk' b o hbw e))
def Tg{E:ϊ->ό->Prop}{s:ό}{x d:ϊ}{Q:ϊ->ό->Prop}(h:wpAny (model prog w) A.in1 (pyIter x) (fun it s₂=>∃ I fp wr n P St,it=-I/\Walks prog w A.in1 I fp wr n P St/\St 0 s₂.heap/\(∀ b∈fp,b < s₂.heap.objs.size)/\n<=1 /\
   ∀ v h' tk,(n=0/\v=d\/n=1/\P 0 v)->(∀ b o,b ∉ wr->s₂.heap.get? b=!o->h'.get? b=!o)->Q v { s₂ with heap:=h',toks:=tk }) E s) :
  wpAny (model prog w) A (call (.builtin "min") [x] [("default",d)]) Q E s:=by
 have Gm:(toString "min" ++ toString ".loop" : String) = "min.loop" := by decide
 show _u (_H F.plain_min F.entry_min ?_);have tj:wpAny (model prog w) A.in1 (Builtin.«min» #[[x],[("default",d)]]) (fun fin s'=>match fin with
   | .done f=>(match (Except.ok f:Result) with | .ok (.ret v)=>Q v s' | .ok _=>False | .error e=>E e s')
   | .again c'=>c'.quiet=true/\codeAny (model prog w) A c' (fun r s'=>match r with | .ok (.ret v)=>Q v s' | .ok _=>False | .error e=>E e s') s') E s:=by
  change wpAny _ A.in1 (Builtin.Builtins.bindParams "min" ["key","default"] 0 #[[],[("default",d)]] >>= _) _ _ s;show jp (wpAny_of_eq (show Builtin.Builtins.bindParams "min" ["key","default"] 0 #[[],[("default",d)]]=pure [none,!d] from rfl) ?_);show jp (tz ?_);show jp (Op h (fun it s₂ h₂=>?_) fun _ _ e=>e);let⟨I,fp,wr,n,P,St,rfl,W,aR,G7,hn,hQ⟩:=h₂;show jp (_B ?_);have t8:s₂.heap.objs.size ∉ fp:=fun hm=>KB _ (G7 _ hm);rw[Gm];show tz #[plainId_quiet _I _,?_];have gd:=W.frame _ _ _ aR (fun b _ o e=>pp { cls:=.type "list",data:=.seq ([]:List ϊ).toArray } e)
  match n,hn,W,hQ with
  | 0,_,W,hQ =>
   show UR W gd (wn _ rfl) fun h' tk hk=>?_;show hQ d h' tk (.inl #[rfl,rfl]) fun b o hbw e=>hk b o hbw (pp _ e)
  | 1,_,W,hQ =>
   show abX W t8 gd (wn _ rfl) fun v h' tk hP hk=>?_;show hQ v h' tk (.inr #[rfl,hP]) fun b o hbw e=>hk b o hbw (zn (u8 e)) (pp _ e)
 have ha:=aap x d;simp only[checkBuiltinCall,F.kind_min];cases hsig:Manifest.signature? "min" with
 | none=>show tz tj
 | some sig =>
  have ha':Bind.checkArgs "min" sig #[[x],[("default",d)]]=pure .unit:=by simpa only [argsOk,hsig] using ha
  simp only[ha'];show tz tj
end
def  kN(h:Heap)(d:ϋ)(es:Array DictEntry)(ep:Nat):Prop:=∃ o,h.get? d=!o/\o.ExactDict/\o.data=.dict es ep
def kN.at'{h h':Heap}{d:ϋ}{es:Array DictEntry}{ep:Nat}(x:kN h d es ep)(k:∀ o,h.get? d=!o->h'.get? d=!o):kN h' d es ep:=let ⟨o,e,r⟩:=x;#[o,k o e,r]
section
variable {prog:ύ}{w:World}{A:Around}{E:ϊ->ό->Prop}{s:ό}{es:Array DictEntry}
def kN.typeIs{d:ϋ}{ep:Nat}(x:kN s.heap d es ep):s.TypeIs (-d) "dict" := let ⟨o,e,c,_⟩:=x;#[o,e,c.1]
def JA{d:ϋ}{ep:Nat}{Q:ϊ->ό->Prop}(hd:(d == sysModules)=false)(hm:kN s.heap d es ep)(hQ:Q (-s.heap.objs.size) { s with heap:=s.heap.push { cls:=.type "dict_keyiterator",data:=.fields (List.toArray [-d,.int 0 0,.int es.size 0,.int ep 0]) } }) :
  wpAny (model prog w) A (pyIter (-d)) Q E s:=by
 let⟨o,ho,hc,jA⟩:=id hm;have hT:=hm.typeIs;show wpAny_pyIter_slot hT F.slot_dict_iter (Ja7 F.slot_dict_iter hT F.entry_dict_iter ?_ (F.args_dict_iter_1 _));unfold Builtin.«dict.__iter__» Builtin.Dict.dictSlotNone;show jp (jp (wpAny_notOrdered_dict hT ?_));change wpAny _ _ (pure (ϊ.ref d)) _ _ s;show tz ?_;change wpAny _ _ (Builtin.Dict.showsAll d >>= _) _ _ s;unfold Builtin.Dict.showsAll;rw[wf (by rw[hd];show wE)];show jp (tz (jp (wpAny_dictEntries ho jA (jp (wpAny_dictEpoch ho jA ?_)))));show jp (_B (tz #[_,rfl,"dict_keyiterator",_,#[_,wn _ rfl,rfl],_x.lookup,?_]))
 simpa [rawInt] using hQ
def Kl{it d:ϋ}{i ep:Nat}{Q:Option ϊ->ό->Prop}(hit:s.heap.IsKeyIter it d i es.size ep)(hm:kN s.heap d es ep)(h1:∀ b8:i < es.size,∀ h',h'.IsKeyIter it d (i+1) es.size ep->Heap.SameBut it s.heap h'->Q (!es[i].key) { s with heap:=h' })(h2:es.size<=i->A.handled=none/\∀ h',Heap.ExtBut it s.heap h'->Q none { s with heap:=h' }) :
  wpAny (model prog w) A (pyNext (-it)) Q E s:=by
 let⟨o,ho,hc,hd⟩:=id hit;let⟨od,Qe,dQ,Al⟩:=id hm;unfold pyNext;show jp (wpAny_attempt (wpAny_callSpecial?_slot (name:=ώ "__next__") hit.typeIs _x
  (Ja7 _x hit.typeIs F.entry_dict_keyiterator_next ?_ (F.args_dict_keyiterator_next_1 _))))
 show jp (tz (jp (jp ?_)));show jp (_s hit.typeIs (tz ?_));show jp (wpAny_fieldsOf ho hd ?_);simp only[show Builtin.Dict_items.ownsTuple "dict_keyiterator" = false by decide,Go,Wp];change wpAny _ _ (if (ϊ.ref d == ϊ.none)=true then _ else _) _ _ s;rw[wf (show ¬ ((ϊ.ref d == ϊ.none)=true) from wE)];show jp (tz (jp (wpAny_dictEntries Qe Al ?_)));rw[wf ()];show jp (tz (jp (wpAny_dictEpoch Qe Al ?_)));rw[wf ()];show tz ?_;rcases Nat.lt_or_ge i es.size with b8 | tw
 ·simp only[show ¬ ((i:Int) < 0) from by omega,Wp,Int.toNat_natCast,Array.getElem?_eq_getElem b8];show jp (jp (_s hit.typeIs (tz ?_)));show jp (wpAny_isOneOf_keyiter hit.typeIs ?_);change wpAny _ _ (setField (-it) 1 (rawInt ((i:Int)+1)) >>= _) _ _ s;show jp (wpAny_setField ho hd () ?_);have hit':(s.heap.update it (Obj.mapFields (·.setIfInBounds 1 (rawInt ((i:Int)+1))))).IsKeyIter it d (i+1) es.size ep :=
   #[_,Ty _ ho (Obj.isFreed_of_fields (Jat hd _)),(Obj.cls_mapFields ..).trans hc,by rw[Jat hd];simp[rawInt]]
  show jp (NE (jp (wpAny_isOneOf_keyiter (s:={ s with heap:=s.heap.update it (Obj.mapFields (·.setIfInBounds 1 (rawInt ((i:Int)+1)))) }) hit'.typeIs ?_)));change wpAny _ _ (pure es[i].key) _ _ _;show tz (tz #[_,rfl,tz (h1 b8 _ hit' (Heap.SameBut.update ..))])
 ·let⟨hh,hQ⟩:=h2 tw;simp only[show ¬ ((i:Int) < 0) from by omega,Wp,Int.toNat_natCast,Array.getElem?_eq_none tw];show jp (jp (_s hit.typeIs (tz ?_)));change wpAny _ _ (setField (-it) 0 .none >>= _) _ _ s;show jp (wpAny_setField ho hd () ?_);change wpAny _ _ (newExc (.type "StopIteration") [] >>= _) _ _ _;show jp ?_;simp only[newExc,newTuple];show jp (_B ?_ (by size_fits));show jp (m:=firstArgMember _ _) (wpAny_of_eq (a:=ϊ.none) (by first | rfl | (simp only[firstArgMember];rfl)) ?_);show _B ?_ (by size_fits);simp only[raiseNew];show jp (wpAny_handled ?_);rw[show A.in1.handled=none from hh];show jp (tz (wpAny_throw ?_));show jp (wpAny_isInstance (T := "StopIteration") (b:=true) #[_,wn _ rfl,rfl] isSubtype_stop ?_);show tz (hQ _ (((Heap.SameBut.update ..).extBut.push _).push _))
def Ni(hh:A.handled=none)(I d:ϋ)(cQ:d≠I)(es:Array DictEntry)(ep:Nat) :
  Walks prog w A I [I,d] [I] es.size (fun i v=>∃ e,es[i]?=!e/\v=e.key) (fun i h=>h.IsKeyIter I d i es.size ep/\kN h d es ep) where
 sub:=fun b hb=>by simp at hb;simp[hb]
 frame:=fun _ _ _ st hk=>#[st.1.at fun o e=>hk I () o e,st.2.at' fun o e=>hk d () o e]
 item:=fun i s Q E hi st hQ=>Kl st.1 st.2 (fun b8 h' hit' hs'=>hQ _ h' s.toks #[es[i],by simp[b8],rfl] #[hit',st.2.at' fun o e=>hs'.extBut d o cQ e] fun b o hb e=>hs'.extBut b o (fun h=>hb (by simp[h])) e) fun tw=>absurd hi (Nat.not_lt.mpr tw)
 done:=fun s Q E st hQ=>Kl st.1 st.2 (fun b8=>absurd b8 (KB _)) fun _=>#[hh,fun h' he'=>hQ h' s.toks fun b o hb e=>he' b o (fun h=>hb (by simp[h])) e]
 self:=fun _ _ _ _ st hQ=>wpAny_pyIter_keyiter st.1 hQ
end
section
variable {X:Cx}
def  BK(te:TE):TE:=fun σ H Q=>te σ H fun x H1=>∃ a kvs,x=-a/\H1 a=!.dT kvs/\((kvs=[]/\Q .aw H1)\/∃ k v,kvs=[(k,v)]/\∀ p,H1 p=!.tup (k.map kV)->Q (-p) H1)
def Xd{e:Expr}{te:TE}{p p2 p3 pos:Pos}{j:Nat}(hc:X.calm=true)(hg:Gl X "min")(hm:X.mg "min" = none)(he:PE X e te)(hs:‹starEach [e] X.env=[(false,eval e X.env)]›) :
  PE X (.Call (.Name "min" p) [e] [#[!"default",.Constant .none j p2,p3]] pos) (BK te):=by
 intro π s σ H Q I h;show Ix (qh (u:=.builtin "min") I hg hm (by kernel_rfl) ?_);show callWith_kw ?_ (by rw[hs];rfl) (by rw[hs];rfl);rw[hs];change wpAny _ _ (spliced ((false,eval e X.env)::backTo pos [])) _ _ s;show _a (aH (he π s σ H _ I h) fun u s1 #[x,H1,I1,rx,a,kvs,ex,hd,q]=>_h ?_);subst ex;cases (show u=ϊ.ref a from rx);show kws_cons (Constant_none (kws_nil ?_));change wpAny _ _ (call (.builtin "min") [-a] [("default",.none)]) _ _ s1;let⟨hz,hS,xs,hp,o,es,ep,ho,hex,jA,qw,Qi⟩:=id (I1.aE a _ hd);show Tg (JA hS #[o,ho,hex,jA] ?_);have b8:a < s1.heap.objs.size:=u8 ho;have hW:=Ni (prog:=X.prog) (w:=X.w) (A:=X.A.in1) (I1.ok.hd hc) s1.heap.objs.size a (zn b8) es ep;have An:(s1.heap.push { cls:=.type "dict_keyiterator",data:=.fields (List.toArray [-a,.int 0 0,.int es.size 0,.int ep 0]) }).IsKeyIter s1.heap.objs.size a 0 es.size ep/\kN (s1.heap.push { cls:=.type "dict_keyiterator",data:=.fields (List.toArray [-a,.int 0 0,.int es.size 0,.int ep 0]) }) a es ep :=
  #[#[_,wn _ rfl,rfl,rfl],#[o,pp _ ho,hex,jA]]
 have G7:∀ b∈[s1.heap.objs.size,a],b < (s1.heap.push { cls:=.type "dict_keyiterator",data:=.fields (List.toArray [-a,.int 0 0,.int es.size 0,.int ep 0]) }).objs.size:=fun b hb=>by
  rw[_p];rcases li.mp hb with e | hb
  ·rw[e];show FM _
  ·rw[Ch.mp hb];show _0 b8
 have kp:∀ h':Heap,(∀ b o,b ∉ [s1.heap.objs.size]->(s1.heap.push { cls:=.type "dict_keyiterator",data:=.fields (List.toArray [-a,.int 0 0,.int es.size 0,.int ep 0]) }).get? b=!o->h'.get? b=!o)->∀ b o,s1.heap.get? b=!o->h'.get? b=!o:=fun h' k b o e =>
  k b o (fun z=>by have z':=Ch.mp z;have:=u8 e;rw[z']at this;show KB _ this) (pp _ e)
 have hsz:es.size=xs.length:=by rw[<- Tm,qw,lv]
 show#[_,_,_,_,_,_,rfl,hW,An,G7,?_,fun v h' tk hv hk=>?_]
 ·rcases q with ⟨rfl,_⟩ | ⟨k,v,rfl,_⟩
  ·cases hp;rw[hsz];show wT _
  ·cases hp with | cons _ t=>cases t;rw[hsz];show pi _
 ·have I2:Inv X π σ H1 { s1 with heap:=h',toks:=tk }:=I1.kept (t':=tk) (kp h' hk);rcases q with ⟨rfl,q⟩ | ⟨k,v',rfl,q⟩
  ·cases hp;rcases hv with ⟨_,rfl⟩ | ⟨h1,_⟩
   ·show#[.aw,H1,I2,rfl,q]
   ·rw[hsz]at h1;cases h1
  ·cases hp with
   | @cons _ y _ _ hh t =>
    cases t;rcases hv with ⟨h1,_⟩ | ⟨_,e,he,rfl⟩
    ·rw[hsz]at h1;cases h1
    ·rw[<- P3,qw]at he;cases he;show#[-y.2.1,H1,I2,rfl,q _ hh.2.1]
end
def cY{f:Str}{v:V}{fs:List (Str×V)}{m:Nat}(h:fs.length<=m):(az f v fs).length<=m+1:=ut (Fi f v fs) (_q h)
def  dv(fs gs:List (Str×V)):Prop:=∀ f,fs.lookup f=gs.lookup f
def dv.refl(fs:List (Str×V)):dv fs fs:=fun _=>rfl
def dv.put{fs gs:List (Str×V)}(h:dv fs gs)(f:Str)(v:V):dv (az f v fs) (az f v gs):=fun g=>by rw[en,en,h g]
section
variable {X:Cx}
def ace{π:List (ϋ×Obj)}{σ:St}{H:Hp}{s:ό}{Q:VK}{p:ϋ}(hc:X.calm=true)(I:Inv X π σ H s)(hd:H p=!.dT [])(q:∀ l,H l=none->Q (-l) (upd H l (.lst []))) :
  wpAny (model X.prog X.w) X.A (call (.builtin "sorted") [-p]) (EP X π σ Q) X.xe s:=by
 let⟨hz,hS,xs,hp,o,es,ep,ho,hex,jA,qw,Qi⟩:=id (I.aE p _ hd);cases hp;have he:es=(List.toArray []):=by
  have:es.toList=[]:=qw;show Array.toList_eq_nil_iff.mp this
 subst he;have lz:s.heap.DictAt (fk X.prog X.w) p [] ep:=#[o,(List.toArray []),ho,hex,jA,fun e z=>absurd z (),.nil,.nil];show Calls.call_function_entry kind_sorted plain_sorted entry_sorted (args_sorted1 _) ?_;unfold Builtin.«sorted»;show jp (m:=checkCount "sorted" 1 1 _) (tz ?_);show jp (W.kdu_collect (A:=X.A.in1) (W.kdl_dict (knd:=fk X.prog X.w) (kvs:=[]) (ep:=ep) hS) (I.ok.hd hc) lz (wT _) fun h' tk acc hk' iC=>?_);have ha:acc=(List.toArray []):=Array.eq_empty_of_size_eq_zero iC.1;subst ha;show jp (wpAny_newList ?_ (wT _));have m5:(h'.push (seqObj "list" ([]:List ϊ).toArray 0)).get? h'.objs.size=!seqObj "list" ([]:List ϊ).toArray 0:=wn _ rfl;show jp (NE (Ja7 slot_list_sort #[_,m5,rfl] entry_list_sort (list_sort_treeK strKind_oneLt (vs:=[]) m5 (StrsAre.nil).keysOf (fun v₁ v₂ rest e=>nomatch e) ⋯ fun st' a1 a2=>#[_,rfl,?_]) (args_list_sort _)));show tz #[_,rfl,?_];let⟨e,he⟩:=sortedHeap_at (out:=(arrOf st').map (·.2)) m5;have aR:arrOf st'=(List.toArray []):=Array.eq_empty_of_size_eq_zero (a1.size_eq.trans (pairsOf_size []));rw[aR,Array.map_empty]at he;have I1:Inv X π σ H { s with heap:=h',toks:=tk }:=I.kept (t':=tk) hk';rw[aR,Array.map_empty];show#[-h'.objs.size,_,I1.laid (t':=tk) (fun b o z=>?_) (pi _) (show ck X.prog X.w _ _ _ (.lst []) from#[wT _,[],e,.nil,he]),rfl,q _ (I1.aE.fresh (pi _))];have hb:b < h'.objs.size:=u8 z;rw[sortedHeap_old (zn hb) (by have:=_p h' (seqObj "list" ([]:List ϊ).toArray 0);rw[this];show _0 hb)];show pp _ z
def  Uv(K:ν):List V->Hp->VK->Prop:=fun xs H Q=>Oy K xs H Q\/LX xs H Q\/∃ p,xs=[-p]/\H p=!.dT []/\∀ l,H l=none->Q (-l) (upd H l (.lst []))
def QN{K:ν}(h:X.K=K)(hc:X.calm=true):cW X (.builtin "sorted") (Uv K):=by
 subst h;intro π s σ H xs us Q I r h;rcases h with h | h | ⟨p,rfl,hd,q⟩
 ·show RO π s σ H xs us Q I r h
 ·show Wt hc π s σ H xs us Q I r h
 ·let⟨u,rfl,rx⟩:=vals1 r;cases rx;show ace hc I hd q
def abt:bootBuiltins "sorted" = !.builtin "sorted":=by kernel_rfl
def Dv.minD{e:Expr}{te:TE}{p p2 p3 pos:Pos}{j:Nat}(hc:X.calm=true)(hm:X.mg "min" = none)(he:QE X e te)(hg:Gl X "min" := by rfl)(hs:‹starEach [e] X.env=[(false,eval e X.env)]›) :
  QE X (.Call (.Name "min" p) [e] [#[!"default",.Constant .none j p2,p3]] pos) (BK te):=#[Xd hc hg hm he.h hs]
end
structure ko(K:ν)(x qual:Str)(st:Stmt)(f:ϋ)(fd:FuncData)(ds:List ϊ):Prop where
 ex:∃ (oc:ϊ) (od:Option ϋ) (dt:ϋ) (kV doc pm:ϊ) (an:Option ϋ) (ax ct:ϊ) (eV:Array (Option ϊ)) (o:Obj) (n:Nat),
  fd=W.fnOf x qual (fM st) (aU st) (aB st) (-dt) kV doc pm an ax ct/\K.lookup f=!#[oc,od,.func fd,eV]/\W.codeIn K ax qual=true/\K.lookup dt=!o/\o.data=.seq ds.toArray n
 kp:W.keepIn K (-f)=true
section
variable {P:ύ}{w:World}{K:ν}{mg:Str->Option ϊ}{base:Heap}{CX:eP}{x qual:Str}{st:Stmt}{f:ϋ}{fd:FuncData}{N ps:List Str}{k:Nat}{ds:List ϊ}
def ko.dG{sp:Sp}(F:ko K x qual st f fd ds)(S:aG N ps (aB st))(len:∀ vs H Q E,sp vs H Q E->vs.length=ps.length)(hb:∀ (ax:ϊ) (A:Around) (outer:List Env) (s:ό) (H:Hp) (vs:List V) (Q:VK) (E:XK),bM k (A.deeper (envOfC qual (aB st) s.heap.objs.size f ax))->sp vs H Q E ->
   ∃ t,eA (iG CX P w K mg base N qual (aB st) f ax A outer s H E) (aU st) t/\t { nx:=fun _ H'=>Q .aw H',rt:=Q } (start N vs) H):aA P w K mg base CX (k+1) f fd ps sp:=by
 let⟨oc,od,dt,kV,doc,pm,an,ax,ct,eV,o,n,rfl,lk,dQ,_⟩:=F.ex;show Fu lk dQ S len fun A outer s H vs Q E hr gE=>hb ax A outer s H vs Q E hr gE
def ko.ok{sp:Sp}(F:ko K x qual st f fd ds)(S:aG N ps (aB st))(len:∀ vs H Q E,sp vs H Q E->vs.length=ps.length)(hb:∀ (ax:ϊ) (A:Around) (outer:List Env) (s:ό) (H:Hp) (vs:List V) (Q:VK) (E:XK),bM k (A.deeper (envOfC qual (aB st) s.heap.objs.size f ax))->sp vs H Q E ->
   ∃ t,eA (iG aJ P w K mg base N qual (aB st) f ax A outer s H E).si (aU st) t/\t { nx:=fun _ H'=>Q .aw H',rt:=Q } (start N vs) H):aA P w K mg base aJ (k+1) f fd ps sp :=
 F.dG S len fun ax A outer s H vs Q E hr gE=>by
  let⟨t,h,q⟩:=hb ax A outer s H vs Q E hr gE;show#[t,h.si,q]
def RU{oc:ϊ}{od an:Option ϋ}{eV:Array (Option ϊ)}{kV doc pm ax ct:ϊ}{dt:ϋ}{o:Obj}{n:Nat}(l:K.lookup f=!#[oc,od,.func (W.fnOf x qual (fM st) (aU st) (aB st) (-dt) kV doc pm an ax ct),eV])(c:W.codeIn K ax qual=true)(k:W.keepIn K (-f)=true)(ld:K.lookup dt=!o)(hd:o.data=.seq ds.toArray n):ko K x qual st f (W.fnOf x qual (fM st) (aU st) (aB st) (-dt) kV doc pm an ax ct) ds :=
 #[#[oc,od,dt,kV,doc,pm,an,ax,ct,eV,o,n,rfl,l,c,ld,hd],k]
end
section
variable {X:Cx}
end
def gy{X:Cx}:nE X (fun _=>E0) where
 pass:=fun π σ H s e s' I hc=>by
  let⟨ea,C,od,H',rfl,F,hE⟩:=hc;show hE.elim
section
variable {X:Cx}
end
def  jK{α:Type}(p:α->Prop):List α->Prop
 | []=>True
 | a::r=>p a/\jK p r
def jK.mem{α:Type}{p:α->Prop}:∀ {l:List α},jK p l->∀ a∈l,p a
 | _::_,h,a,ha=>by
  rcases li.mp ha with rfl | ha
  ·show h.1
  ·show jK.mem h.2 a ha
section
variable {X:Cx}
def zq{π:List (ϋ×Obj)}{σ:St}{H:Hp}{s:ό}{A:Around}{a b:ϋ}{xs ys:List V}(I:Inv X π σ H s)(ha:aC X.K H a xs)(hb:aC X.K H b ys)(h0:xs=[]\/ys=[])(hu:A.units < cLine) :
  SeqAt.RcAt A s (-a) (-b) (decide (xs=ys))/\SeqAt.RcNeAt A s (-a) (-b) (Bool.not (decide (xs=ys))):=by
 let⟨i1,r1,p1,_⟩:=I.list ha;let⟨i2,r2,p2,_⟩:=I.list hb;have n1:i1.toArray.size=xs.length:=by rw[sK,<- r1.length]
 have n2:i2.toArray.size=ys.length:=by rw[sK,<- r2.length]
 by_cases h:xs.length=ys.length
 ·have e1:xs=[]:=by
   rcases h0 with e | e
   ·show e
   ·rw[e]at h;show IR.mp h
  have e2:ys=[]:=by rw[e1]at h;show IR.mp h.symm
  subst e1 e2;have hsz:i1.toArray.size=i2.toArray.size:=by rw[n1,n2]
  have hz:i1.toArray.size=0:=n1;have k1:=SeqAt.RcAt.lists (A:=A) (s:=s) (e:=fun _=>true) p1.isList p2.isList hsz hu (fun j g1 g2=>absurd g1 (by rw[hz];show _g _));have k2:=Jas (A:=A) (s:=s) (e:=fun _=>true) p1.isList p2.isList hsz hu (fun j g1 g2=>absurd g1 (by rw[hz];show _g _));rw[hz]at k1 k2;show#[k1,k2]
 ·have hsz:(i1.toArray.size != i2.toArray.size)=true:=by rw[n1,n2];simpa using h
  have e:decide (xs=ys)=false:=kt fun z=>h (by rw[z]);rw[e];show#[SeqAt.RcAt.lists_lengths p1.isList p2.isList hsz hu,SeqAt.RcNeAt.lists_lengths p1.isList p2.isList hsz hu]
def  sG(K:ν)(neg:Bool):R2:=fun x y H Q=>match x,y with
 | .ref a,-b=>∃ xs ys:List V,aC K H a xs/\aC K H b ys/\((ys=[]/\Q (.bl (neg ^^ xs.isEmpty)) H)\/(xs=[]/\Q (.bl (neg ^^ ys.isEmpty)) H))
 | _,_=>False
def Kf{xs ys:List V}(h:ys=[]):decide (xs=ys)=xs.isEmpty:=by subst h;cases xs <;> simp
def Iq{xs ys:List V}(h:xs=[]):decide (xs=ys)=ys.isEmpty:=by subst h;cases ys <;> simp
def aam{K:ν}(hK:X.K=K)(hu:X.A.units < cLine):bu X (compareOp .Eq) (sG K false):=by
 subst hK;intro π s σ H x y v u Q I rx ry h;unfold sG at h;split at h
 ·let⟨xs,ys,ha,hb,q⟩:=h;cases rx;cases ry;simp only[Bool.false_bne]at q;rcases q with ⟨e,q⟩ | ⟨e,q⟩
  ·show(zq I ha hb (.inr e) hu).1 _ _ _ _ #[.bl _,H,I,rfl,by rw[Kf e];show q]
  ·show(zq I ha hb (.inl e) hu).1 _ _ _ _ #[.bl _,H,I,rfl,by rw[Iq e];show q]
 ·show h.elim
def VQ{K:ν}(hK:X.K=K)(hu:X.A.units < cLine):bu X (compareOp .NotEq) (sG K true):=by
 subst hK;intro π s σ H x y v u Q I rx ry h;unfold sG at h;split at h
 ·let⟨xs,ys,ha,hb,q⟩:=h;cases rx;cases ry;simp only[Bool.true_bne]at q;rcases q with ⟨e,q⟩ | ⟨e,q⟩
  ·show(zq I ha hb (.inr e) hu).2 _ _ _ _ #[.bl _,H,I,rfl,by rw[Kf e];show q]
  ·show(zq I ha hb (.inl e) hu).2 _ _ _ _ #[.bl _,H,I,rfl,by rw[Iq e];show q]
 ·show h.elim
def  AM:V->List V->Hp->VK->Prop:=fun x vs H Q=>match x,vs with
 | .ref l,[]=>∃ xs y,H l=!.lst (xs++[y])/\Q y (upd H l (.lst xs))
 | _,_=>False
def JD:dC X "list.pop" AM:=dC.imp (r:=Ol) ado fun x vs H Q h=>by
 unfold AM at h;split at h
 ·let⟨xs,y,hl,q⟩:=h;show#[_,xs++[y],y,rfl,rfl,hl,?_,?_]
  ·simp
  ·rw[Jae];show q
 ·show h.elim
def  Yo:V->List V->Hp->VK->Prop:=fun x vs H Q=>match x,vs with
 | .ref l,[]=>∃ xs,H l=!.lst xs/\Q .aw (upd H l (.lst []))
 | _,_=>False
def  TK:List V->Hp->VK->Prop:=fun xs H Q=>∃ p kvs,xs=[-p]/\H p=!.dT kvs/\∀ l (ks:List ϋ),ks.length=kvs.length->(∀ (i:Nat) (a:ϋ) (k:List Key) (v:V),ks[i]?=!a->kvs[i]?=!(k,v)->H a=!.tup (k.map kV))->H l=none ->
 Q (-l) (upd H l (.lst (ks.map V.ref)))
end
def XF{prog:ύ}{w:World}{d:ϋ}{es:Array DictEntry}{ep:Nat}(lo:(d == sysModules)=false):W.KdlSrc prog w "dict" d d es.size (fun i v=>∃ e,es[i]?=!e/\v=e.key) (fun h=>kN h d es ep) where
 type:=fun _ hm=>hm.typeIs
 there:=fun _ hm=>let ⟨_,e,_⟩:=hm;#[u8 e,u8 e]
 keep:=fun _ _ hm hk=>hm.at' fun o e=>hk d (.inl rfl) o e
 notList:=⋯
 notTuple:=⋯
 hint:=fun _ _ _ _ hm hq=>W.kdl_hint_dict hm.typeIs hq
 iter:=fun _ _ hh hm=>#[_,_,(fun _ _ hq=>JA lo hm hq),Ni hh _ d (let ⟨_,e,_⟩:=hm;zn (u8 e)) es ep,#[#[_,wn _ rfl,rfl,rfl],hm.at' fun o e=>pp _ e]]
def Oa{α β:Type}{F:α->β->Prop}:∀ {l₁:List α}{l₂:List β},Paired F l₁ l₂->∀ {i:Nat}{a:α}{b:β},l₁[i]?=!a->l₂[i]?=!b->F a b
 | _,_,.cons h _,0,_,_,e1,e2=>by cases e1;cases e2;show h
 | _,_,.cons _ t,i+1,_,_,e1,e2=>Oa t e1 e2
section
variable {X:Cx}
def BV:∀ {vs:List V}{us:List ϊ},vs.length=us.length->(∀ (i:Nat) (v:V) (u:ϊ),vs[i]?=!v->us[i]?=!u->RelV v u)->Vals vs us
 | [],[],_,_=>.nil
 | v::vs,u::us,e,h=>.cons (h 0 v u rfl rfl) (BV (by simpa using e) fun i v u h1 h2=>h (i+1) v u h1 h2)
def acU(hc:X.calm=true):cW X (.type "list") TK:=by
 intro π s σ H xs us Q I r h;let⟨p,kvs,rfl,hd,q⟩:=h;let⟨u,rfl,rx⟩:=vals1 r;cases rx;let⟨hz,hS,ys,hp,o,es,ep,ho,hex,jA,qw,Qi⟩:=id (I.aE p _ hd);have hsz:es.size=ys.length:=by rw[<- Tm,qw,lv]
 have j6:kvs.length=ys.length:=hp.length;show W.kdl_call (XF (prog:=X.prog) (w:=X.w) (ep:=ep) (es:=es) hS) (I.ok.hd hc) #[o,ho,hex,jA] (by rw[hsz,<- j6];show hz) fun h' tk acc c hk hD iC=>?_;have hal:acc.toList.length=ys.length:=by rw[Tm,iC.1,hsz]
 have hv:Vals ((ys.map (·.2.1)).map V.ref) acc.toList:=by
  show BV (by simp[hal]) fun i v u h1 h2=>?_;let⟨e,he,rfl⟩:=iC.2 i u (by rw[<- P3];show h2);rw[<- P3,qw,At]at he;rw[SZ,At]at h1;cases hy:ys[i]? with
  | none=>rw[hy]at h1;cases h1
  | some y =>
   rw[hy]at h1 he;cases h1;cases he;show rfl
 show#[-s.heap.objs.size,_,I.laid (t':=tk) hk (pi _) (show ck X.prog X.w _ _ _ (.lst ((ys.map (·.2.1)).map V.ref)) from#[?_,_,c,hv,?_]),rfl,q _ (ys.map (·.2.1)) ?_ (fun i a k v h1 h2=>?_) (I.aE.fresh (pi _))]
 ·simp only[lv];rw[<- j6];show hz
 ·rw[Jac];show hD
 ·rw[lv,j6]
 ·rw[At]at h1;cases hy:ys[i]? with
  | none=>rw[hy]at h1;cases h1
  | some y =>
   rw[hy]at h1;cases h1;have z:=Oa hp h2 hy;show z.2.1
end
def Vc:typeLookup (.type "list_reverseiterator") "__len__" = pure none:=by rw[typeLookup_type,builtinLookup_eq_fast];kernel_rfl
def aat:typeLookup (.type "list_reverseiterator") "__length_hint__" = pure (!.builtin "list_reverseiterator.__length_hint__"):=by rw[typeLookup_type,builtinLookup_eq_fast];kernel_rfl
section
variable {prog:ύ}{w:World}{A:Around}{E:ϊ->ό->Prop}{s:ό}{I:ϋ}
def SX{Q:Bool->ό->Prop}(hT:s.TypeIs (-I) "list_reverseiterator")(h:Q false s):wpAny (model prog w) A (Builtin.List.listLengthHint (-I)) Q E s:=by
 unfold Builtin.List.listLengthHint;show jp (wpAny_specialOf hT Vc ?_);change wpAny _ A (specialOf (ϊ.ref I) (ώ "__length_hint__") >>= _) _ _ _;show jp (wpAny_specialOf hT aat ?_);generalize hid:("list_reverseiterator.__length_hint__" : String)=id0
 wp_delta
 rw[show splitId id0=some ("list_reverseiterator","__length_hint__") from by subst hid;decide +kernel];subst hid;show jp (wpAny_isInstance (T := "list_reverseiterator") (b:=true) hT (by rw[isSubtype_type];kernel_rfl) ?_);show Jah (fun c8=>absurd c8 ⋯) (fun _=>?_);show Jah (fun _=>?_) (fun c8=>absurd (by decide +kernel) c8);show Jah (fun c8=>absurd c8 (by decide +kernel)) (fun _=>?_);show tz h
def Vn{R:Result->ό->Prop}{l S:ϋ}{items:Array ϊ}{res:ϊ}{c₀:Nat}(hh:A.handled=none)(hit:s.heap.IsRevIter I l ((items.size:Int) - 1))(hl:s.heap.IsList l items)(cQ:l≠I)(Qk:S≠I)(hSl:S≠l)(hn:items.size<=sizeLine)(hS:s.heap.get? S=!{ cls:=.type "list",data:=.seq (List.toArray []) c₀ })(hR:∀ h' tk acc' c',(∀ b o,b≠S->b≠I->s.heap.get? b=!o->h'.get? b=!o)->h'.get? S=!{ cls:=.type "list",dict:=none,data:=.seq acc' c',slots:=(List.toArray []) }->ItemsOf (fun i v=>items[items.size - 1 - i]?=!v) acc' items.size->R (.ok (.ret res)) { s with heap:=h',toks:=tk }) :
  wpAny (model prog w) A.in1 (Builtin.List.listExtendWith (-S) (-I) res)
   (fun fin s'=>match fin with | .done f=>R (.ok f) s' | .again c'=>c'.quiet=true/\codeAny (model prog w) A c' R s') (fun e s'=>R (.error e) s') s:=by
 have W:=Walks.listRev (prog:=prog) (w:=w) (A:=A.in1) hh I l cQ items;have t8:S ∉ [I,l]:=by simp only[li,lm,wP,Ps];show#[Qk,hSl]
 have An:0<=items.size/\s.heap.IsRevIter I l ((items.size:Int) - 1 - ((0:Nat):Int))/\s.heap.IsList l items:=#[wT _,by simpa using hit,hl];unfold Builtin.List.listExtendWith;show jp (wpAny_typeOf hit.typeIs ?_);have h1:Builtin.List.listSameRef (-S) (-I)=false:=by simp[Builtin.List.listSameRef,Qk]
 simp only[h1,show(ϊ.type "list_reverseiterator" == ϊ.type "list")=false by decide,show(ϊ.type "list_reverseiterator" == ϊ.type "tuple")=false by decide,Jaw,Go,Wp];show jp (W.self 0 _ _ _ An ?_);show jp (NE (SX hit.typeIs ?_));show Jah (fun h=>absurd h ⋯) (fun _=>tz #[plainId_quiet PySem.F.plain_extend_loop _,?_]);show codeAny_extend_loopS W.toS hn S t8 res items.size 0 _ (List.toArray []) c₀ rfl (wT _) An hS (ItemsOf.nil _) fun s' acc' c' hm hS' iC=>?_;rw[Moved.eq_with hm];show hR s'.heap s'.toks acc' c' (fun b o hb hb' e=>hm.heap b o (fun hmem=>?_) e) hS' iC;rcases li.mp hmem with e' | hmem
 ·show hb e'
 ·show hb' (Ch.mp hmem)
def acR{Q:ϊ->ό->Prop}{l:ϋ}{items:Array ϊ}(hh:A.handled=none)(hit:s.heap.IsRevIter I l ((items.size:Int) - 1))(hl:s.heap.IsList l items)(cQ:l≠I)(hn:items.size<=sizeLine)(hQ:∀ h' tk acc' c',(∀ b o,b≠I->s.heap.get? b=!o->h'.get? b=!o)->h'.get? s.heap.objs.size=!{ cls:=.type "list",dict:=none,data:=.seq acc' c',slots:=(List.toArray []) }->ItemsOf (fun i v=>items[items.size - 1 - i]?=!v) acc' items.size ->
   Q (-s.heap.objs.size) { s with heap:=h',toks:=tk }):wpAny (model prog w) A (call (.type "list") [-I]) Q E s:=by
 have hIlt:I < s.heap.objs.size:=let ⟨_,e,_⟩:=hit;u8 e
 have hllt:l < s.heap.objs.size:=let ⟨_,e,_⟩:=hl;u8 e
 show callType_codes (Q₁:=fun obj s₁=>obj=-s.heap.objs.size/\s₁={ s with heap:=s.heap.push { cls:=.type "list",data:=.seq (List.toArray []) } }) PySem.F.called_list (PySem.F.typeCall_list_1 _) PySem.F.entry_list_init
  (code_list_new _ #[rfl,rfl]) fun obj s₁ h₁=>?_
 let⟨rfl,rfl⟩:=h₁;have hS:(s.heap.push { cls:=.type "list",data:=.seq (List.toArray []) }).get? s.heap.objs.size=!{ cls:=.type "list",data:=.seq (List.toArray []) }:=wn _ rfl;show#[#[_,hS,rfl],PySem.F.args_list_init_2 _ _,?_];change wpAny _ _ (do let old <- Builtin.List.listItems (-s.heap.objs.size);Builtin.List.listUpdate (-s.heap.objs.size) (fun _=>(List.toArray []));letGo old.toList.reverse;Builtin.List.listExtendWith (-s.heap.objs.size) (-I) .none) _ _ _;show jp ?_;unfold Builtin.List.listItems;show jp (Jav hS rfl (tz ?_));change wpAny _ _ (updateSeq s.heap.objs.size (fun _=>(List.toArray [])) >>= fun _=>letGo ((List.toArray []):Array ϊ).toList.reverse >>= fun _=>Builtin.List.listExtendWith (-s.heap.objs.size) (-I) .none) _ _ _;show jp (wpAny_updateSeq hS rfl ?_);have hS₂:=Ty (Obj.mapSeq (fun _=>((List.toArray []):Array ϊ))) hS rfl;have GV:∀ b o,s.heap.get? b=!o->((s.heap.push { cls:=.type "list",data:=.seq (List.toArray []) }).update s.heap.objs.size (Obj.mapSeq (fun _=>((List.toArray []):Array ϊ)))).get? b=!o :=
  fun b o e=>(Id _ _ (Jan (u8 e))).trans (pp _ e)
 show jp (wpAny_letGo ?_);show Vn (A:=A.in1) hh (hit.at fun o e=>GV _ o e) (hl.at fun o e=>GV _ o e) cQ (Jan hIlt) (Jan hllt) hn hS₂ fun h' tk acc' c' hk hS' iC=>?_;show#[rfl,hQ h' tk acc' c' (fun b o hb e=>hk b o (zn (u8 e)) hb (GV b o e)) hS' iC]
end
section
variable {X:Cx}
def  Ei(K:ν)(te:TE):TE:=fun σ H Q=>te σ H fun x H1=>∃ p ys,x=-p/\aC K H1 p ys/\∀ l,H1 l=none->Q (-l) (upd H1 l (.lst ys.reverse))
def Sl{e:Expr}{te:TE}{p q pos qos:Pos}(hc:X.calm=true)(hg:Gl X "list")(hm:X.mg "list" = none)(GJ:Gl X "reversed")(oC:X.mg "reversed" = none)(he:PE X e te)(hs:‹starEach [e] X.env=[(false,eval e X.env)]›) :
  PE X (.Call (.Name "list" p) [.Call (.Name "reversed" q) [e] [] qos] [] pos) (Ei X.K te):=by
 intro π s σ H Q I h;show Ix (qh (u:=.type "list") I hg hm (by kernel_rfl) ?_);show WP ?_;change wpAny _ _ (spliced ((false,eval (.Call (.Name "reversed" q) [e] [] qos) X.env)::backTo pos (starEach [] X.env))) _ _ s;show _a ?_;show Ix (qh (u:=.type "reversed") I GJ oC (by kernel_rfl) ?_);show WP ?_ (by rw[hs];rfl) (by rfl);rw[hs];change wpAny _ _ (spliced ((false,eval e X.env)::backTo qos [])) _ _ s;show _a (aH (he π s σ H _ I h) fun u s1 #[x,H1,I1,rx,a,ys,ex,hl,q]=>_h ?_);subst ex;cases (show u=ϊ.ref a from rx);let⟨au,r',pl,hz⟩:=I1.list hl;have hlen:=r'.length;let⟨oa,hoa,_⟩:=pl.isList;have halt:a < s1.heap.objs.size:=u8 hoa;show call_reversed_list pl.isList ?_;show _h ?_;show acR (I1.ok.hd hc) (l:=a) (items:=au.toArray) #[_,wn _ rfl,rfl,rfl] (pl.isList.at fun o e=>pp _ e) (zn halt) (by rw[sK,<- hlen];show hz) fun h' tk acc c hk hD iC=>?_;have kp:∀ b o,s1.heap.get? b=!o->h'.get? b=!o:=fun b o e=>hk b o (zn (u8 e)) (pp _ e);have hsz:s1.heap.objs.size<=(s1.heap.push (revObj a ((au.toArray.size:Int) - 1))).objs.size:=by rw[_p];show _Q _
 have hv:Vals ys.reverse acc.toList:=by
  have ha:acc.size=au.length:=by rw[iC.1,sK]
  show BV (by rw[_J,hlen,<- ha];show Tm.symm) fun i v u h1 h2=>?_;have hu:=iC.2 i u (by rw[<- P3];show h2);have hi:i < ys.length:=by have:=(sB.mp h1).1;rwa [_J]at this
  rw[List.getElem?_reverse hi]at h1;let⟨w,hw,rw'⟩:=r'.get h1;rw[List.getElem?_toArray,sK,<- hlen,hw]at hu;cases hu;show rw'
 show#[-_,_,I1.laid (t':=tk) kp hsz (show ck X.prog X.w _ _ _ (.lst ys.reverse) from#[by rw[_J];show hz,_,c,hv,by rw[Jac];show hD]),rfl,q _ (I1.aE.fresh hsz)]
def Dv.listRev{e:Expr}{te:TE}{p q pos qos:Pos}{K:ν}(hK:X.K=K)(hc:X.calm=true)(hm:X.mg "list" = none)(oC:X.mg "reversed" = none)(he:QE X e te)(hg:Gl X "list" := by rfl)(GJ:Gl X "reversed" := by rfl)(hs:‹starEach [e] X.env=[(false,eval e X.env)]›) :
  QE X (.Call (.Name "list" p) [.Call (.Name "reversed" q) [e] [] qos] [] pos) (Ei K te):=hK ▸ #[Sl hc hg hm GJ oC he.h hs]
end
def adK{K:ν}{x:Str}{f c P:ϋ}{oc occ:ϊ}{od odc:Option ϋ}{fd:FuncData}{sl slc:Array (Option ϊ)}{vs:Array ϊ}(n:W.nsIn K mainGlobals x=!(!-f))(l:K.lookup f=!#[oc,od,.func fd,sl])(hc:fd.code=-c)(lc:K.lookup c=!#[occ,odc,.fields vs,slc])(hv:vs[11]?=!-P):W.tabIn K x=!(c,P):=by
 unfold W.tabIn;simp only[n,l,hc,lc,hv]
def  cR(X:Cx)(scope:Scope)(cl:List (Str×ϋ))(N:List Str)(s:ό)(H:Hp)(ex:List ϋ)(C:ϋ):Cx :=
 { X with N:=N,s₀:=s,H₀:=H,env:=compEnvC scope cl C X.env,outer:=X.stack,stack:=X.stack,ex:=ex,fn:=fun _=>false,pn:=[],xe:=fun _ _=>False }
structure kJ(X:Cx)(scope:Scope)(cl:List (Str×ϋ))(caps:List Str)(ix:List Nat):Prop where
 pE:closureFor scope X.env=pure cl
 sub:∀ x c,cl.lookup x=!c->X.env.cells.lookup x=!c
 has:∀ y,((relabel scope X.env).names.lookup y=!.cell\/(relabel scope X.env).names.lookup y=!.free)->∃ c,cl.lookup y=!c
 len:ix.length=caps.length
 at':∀ (i j:Nat),ix[i]?=!j->∃ x,caps[i]?=!x/\X.N[j]?=!x/\X.env.scope.names.lookup x=!.cell/\(relabel scope X.env).names.lookup x=!.cell/\cl.lookup x=X.env.cells.lookup x
def kJ.of{X:Cx}{scope:Scope}{cl:List (Str×ϋ)}{caps:List Str}{ix:List Nat}(pE:closureFor scope X.env=pure cl)(sub:jK (fun e:Str×ϋ=>X.env.cells.lookup e.1=!e.2) cl)(has:jK (fun e:Str×NameKind=>(e.2=.cell\/e.2=.free)->∃ c,cl.lookup e.1=!c) (relabel scope X.env).names)(len:ix.length=caps.length)(at':jK (fun e:Nat×Str=>X.N[e.1]?=!e.2/\X.env.scope.names.lookup e.2=!.cell/\(relabel scope X.env).names.lookup e.2=!.cell/\cl.lookup e.2=X.env.cells.lookup e.2) (ix.zip caps)):kJ X scope cl caps ix where
 pE:=pE
 sub:=fun x c h=>jK.mem sub _ (Pi h)
 has:=fun y hy=>by
  rcases hy with h | h
  ·show jK.mem has _ (Pi h) (.inl rfl)
  ·show jK.mem has _ (Pi h) (.inr rfl)
 len:=len
 at':=fun i j h=>by
  have hi:=(sB.mp h).1;have hi':i < caps.length:=len ▸ hi;have hm:(j,caps[i])∈ix.zip caps:=by
   show List.mem_iff_getElem?.mpr #[i,?_];rw[List.getElem?_zip_eq_some];show#[h,ul hi']
  have z:=jK.mem at' _ hm;show#[caps[i],ul hi',z]
def  lV(n:Nat)(ix:List Nat)(wi:TI)(g:TG)(tt:TT)(te:TE):TE:=fun σ H Q=>∃ vs,yo ix σ vs/\wi σ H fun J H1=>∃ W:Nat->List V->Nat->Hp->Prop,(∃ m,W 0 [] m H1)/\∀ i ys m H,W i ys m H ->
 ys.length<=sizeLine/\((J.stop i H/\∀ l,H l=none->Q (-l) (upd H l (.lst ys))) \/
  (J.go i H/\ys.length < sizeLine/\∀ y H',J.lY i H y H'->∀ σ0:St,σ0.length=n->g y (σ0++vs.map some) H' fun σ1 H1=>(∃ σ2:St,σ1=σ2++vs.map some/\σ2.length=n) /\
   tt σ1 H1 fun c H2=>if c=true then te σ1 H2 fun z H3=>∃ m',m' < m/\W (i+1) (ys++[z]) m' H3 else ∃ m',m' < m/\W (i+1) ys m' H2))
section
variable {X:Cx}
def Yi{π:List (ϋ×Obj)}{σ:St}{H:Hp}{s s4:ό}{scope:Scope}{cl:List (Str×ϋ)}{TN caps:List Str}{ix:List Nat}{vs:List V}{fp:List ϋ}{C:ϋ}{m:Str->Option ϊ}(I:Inv X π σ H s)(CC:kJ X scope cl caps ix)(hv:yo ix σ vs)(hf:∀ b∈fp,kK X π H b)(b8:∀ b∈fp,b < s.heap.objs.size)(hk:scope.kind=.function)(hC:s.heap.objs.size<=C)(m4:s4.os=s.os)(hgen:s4.gens=s.gens)(old:∀ b o,s.heap.get? b=!o->s4.heap.get? b=!o)(iy:s4.heap.Ns C m):Inv (cR X scope cl (TN++caps) s H fp C) [] ((TN.map fun _=>none)++vs.map some) H s4:=by
 show#[#[I.ok.mod,hk,I.ok.glob,I.ok.blt,hC,fun x y c e1 e2=>I.ok.inj x y c (CC.sub x c e1) (CC.sub y c e2),fun y hy=>CC.has y hy,fun _ _ e=>(by cases e),I.ok.hd,I.ok.frames,.inl rfl,fun b hb=>#[zn (ww (b8 b hb) hC),fun x c e=>(hf b hb).2.2.2.2.1 x c (CC.sub x c e)],
  fun b o e=>I.bs b o e,ut I.ok.jw I.sz,fun b o e hb=>?_,fun b hb hm=>?_,I.stack,I.yI],
  m4,by rw[hgen];show I.bare,Un.kept old,#[m,iy,fun i y v e1 e2 _=>?_],fun x c e=>?_,I.aE.fresh hC,fun x c e=>I.gI x c (CC.sub x c e),fun p hp=>absurd (show p∈([]:List (ϋ×Obj)) from hp) (),I.aE.kept old,?_]
 ·rcases (hf b hb).2.2.2.1 with z | z
  ·show I.ok.nz b o e z
  ·show absurd (ww (ww (u8 e) I.ok.jw) z) (KB _)
 ·rcases li.mp (I.yD b hm) with z | z
  ·show(hf b hb).2.1 z
  ·show(hf b hb).2.2.1 z
 ·have e1':(TN++caps)[i]?=!y:=e1;have e2':((TN.map fun _=>(none:Option V))++vs.map some)[i]?=!(!v):=e2;by_cases hi:i < TN.length
  ·rw[Cl (by simpa using hi),At]at e2';cases h:TN[i]? <;> rw[h]at e2' <;> simp at e2'
  ·rw[EQ ∅]at e1';rw[EQ (by simpa using Nat.not_lt.mp hi),lv,At]at e2';have ev:vs[i - TN.length]?=!v:=by
    cases h:vs[i - TN.length]? with
    | none=>rw[h]at e2';cases e2'
    | some a=>rw[h]at e2';cases e2';rfl
   have hlt':i - TN.length < ix.length:=by
    rw[<- hv.1];show(sB.mp ev).1
   let⟨x,c1,c2,c3,c4,c5⟩:=CC.at' _ _ (ul hlt');rw[e1']at c1;cases c1;have hσ:=hv.2 _ _ v (ul hlt') ev;let⟨m0,_,hl⟩:=I.loc;let⟨u,ru,lk⟩:=hl _ y v c2 hσ (.inr (.inl c3));rcases lk with ⟨k1,_⟩ | ⟨_,c,k2,o,k3,k4⟩
   ·have:X.env.scope.names.lookup y=!.local:=k1;rw[c3]at this;cases this
   ·show#[u,ru,.inr #[.inl c4,c,by change cl.lookup y=!c;rw[c5];show k2,o,old _ _ k3,k4]]
 ·let⟨v,o,e1,e2⟩:=I.cell x c (CC.sub x c e);show#[v,o,old _ _ e1,e2]
 ·change((TN.map fun _=>(none:Option V))++vs.map some).length=(TN++caps).length;rw[mo,mo,lv,lv,hv.1,CC.len]
def OK{elt iter:Expr}{ifs:List Expr}{tg:Expr}{g:TG}{TN caps:List Str}{ix:List Nat}{cl:List (Str×ϋ)}{pos:Pos}{scope:Scope}{wi:TI}{tt:St->TT}{te:TE}(hc:X.calm=true)(hi:PI X tg iter wi)(ht:∀ {π σ s H ex} C,Inv X π σ H s->(∀ b∈ex,kK X π H b)->rg (cR X scope cl (TN++caps) s H ex C) ifs (tt σ))(iX:∀ s H ex C,PG (cR X scope cl (TN++caps) s H ex C) tg g)(he:∀ s H ex C,PE (cR X scope cl (TN++caps) s H ex C) elt te)(CC:kJ X scope cl caps ix)(hk:scope.kind=.function)(fJ:∀ y∈scope.names,y.2≠.cell){π:List (ϋ×Obj)}{s:ό}{σ:St}{H:Hp}{Q:VK}{RR:ϊ->ϋ->Result->ό->Prop}(I:Inv X π σ H s)(h:lV TN.length ix wi g (tt σ) te σ H Q)(Gk:∀ (a C:ϋ) (s6:ό) (H6:Hp),Inv X π σ H6 s6->(∃ m,s6.heap.Ns C m)->BM X π H6 C->Q (-a) H6->RR (-a) C (.ok .next) s6) :
  wpAny (model X.prog X.w) X.A (eval iter X.env) (fun v s1=>wpAny (model X.prog X.w) X.A (pyIter v) (fun it s2=>wpAny (model X.prog X.w) X.A (newList []) (fun acc s3 =>
   wpAny (model X.prog X.w) X.A (newFunctionEnv scope X.env.globals cl [] X.env.qual none .none (!X.env)) (fun QD s4 =>
    codeAny (model X.prog X.w) X.A (.compStart (.ListComp elt [#[tg,iter,ifs,0]] scope pos) 0 it acc { QD with scope:=relabel scope X.env }) (RR acc QD.locals) s4) X.xe s3) X.xe s2) X.xe s1) X.xe s:=by
 let⟨vs,Hj,h⟩:=h;show aH (hi π s σ H _ I h) fun v s1 h1=>aH h1 fun GS s2 h2=>?_;let⟨it,fp,tn,J,H2,rfl,I2,T,gd,f2,W,⟨m0,w0⟩,turn⟩:=h2;have b8:∀ b∈fp,b < s2.heap.objs.size:=fun b hb=>let ⟨o,e,_⟩:=T.obj _ _ gd b hb;u8 e
 show _B (wpAny_newFunctionEnv fJ (by intro y hy;simp at hy) (fun h1 hns1 hsb1=>?_) hk);dsimp only at hns1 hsb1 ⊢;generalize G2:s2.heap.push { cls:=.type "list",dict:=none,data:=.seq ([]:List ϊ).toArray }=G at hns1 hsb1 ⊢;have hG:G.objs.size=s2.heap.objs.size+1:=by rw[<- G2,_p]
 have zU:s2.heap.objs.size≠G.objs.size:=by rw[hG];show zn (FM _)
 have qr:s2.heap.objs.size<=G.objs.size:=by rw[hG];show _Q _
 have old:∀ b o,s2.heap.get? b=!o->h1.get? b=!o:=fun b o e=>by
  show hsb1.extBut b o (zn (ww (u8 e) qr)) (pp _ (G2 ▸ pp _ e))
 have accO:h1.get? s2.heap.objs.size=!{ cls:=.type "list",dict:=none,data:=.seq ([]:List ϊ).toArray } :=
  hsb1.extBut _ _ zU (pp _ (G2 ▸ wn _ rfl))
 -- iW state at iW block's entry
 have main:∀ s4:ό,s4={ s2 with heap:=h1,toks:=s2.toks+([]:List (Str×ϊ)).length } ->
   codeAny (model X.prog X.w) X.A (.compLoop (.ListComp elt [#[tg,iter,ifs,0]] scope pos) 0 (-it) (-s2.heap.objs.size) (compEnvC scope cl G.objs.size X.env))
    (RR (-s2.heap.objs.size) G.objs.size) s4:=by
  rintro s4 rfl;have I4:Inv (cR X scope cl (TN++caps) s2 H2 fp G.objs.size) [] ((TN.map fun _=>none)++vs.map some) H2 { s2 with heap:=h1,toks:=s2.toks+([]:List (Str×ϊ)).length } :=
   Yi I2 CC Hj f2 b8 hk qr rfl rfl old hns1
  have Hv:∀ {H':Hp}{pl:List (ϋ×Obj)},(∀ b∈fp,H' b=none)->(∀ p∈pl,p.1 ∉ fp)->∀ b∈fp,kK (cR X scope cl (TN++caps) s2 H2 fp G.objs.size) pl H' b:=fun hn hp b hb =>
   #[hn b hb,zn (ww (b8 b hb) qr),I4.ok.nX b hb,.inl hb,fun x c e=>(f2 b hb).2.2.2.2.1 x c (CC.sub x c e),fun p hp' e=>hp p (by simpa [cR] using hp') (e ▸ hb)]
  have O7:s2.heap.objs.size ∉ fp:=fun z=>KB _ (b8 _ z);show Wh (fun n s'=>∃ (i:Nat) (ys:List V) (au:List ϊ) (k:Nat) (σ':St) (H':Hp),(∃ σ0:St,σ'=σ0++vs.map some/\σ0.length=TN.length)/\Inv (cR X scope cl (TN++caps) s2 H2 fp G.objs.size) [] σ' H' s'/\tn i s'.heap/\(∀ b∈fp,H' b=none)/\H' s2.heap.objs.size=none/\Vals ys au /\
   s'.heap.get? s2.heap.objs.size=!{ cls:=.type "list",dict:=none,data:=.seq au.toArray k }/\W i ys n H') (fun _ _ _=>trivial) ?_ m0
   #[0,[],[],0,_,H2,#[_,rfl,()],I4,T.keep _ _ _ gd (fun b _ o e=>old b o e),fun b hb=>(f2 b hb).1,I2.aE.fresh (pi _),.nil,accO,w0]
  rintro n s5 ⟨i,ys,au,k,σ5,H5,⟨σ0,hq5,hσ⟩,I5,tN,Aq,Aw,rv,ea,w5⟩;subst hq5;have Ip:Inv (cR X scope cl (TN++caps) s2 H2 fp G.objs.size) [(s2.heap.objs.size,{ cls:=.type "list",dict:=none,data:=.seq au.toArray k })] (σ0++vs.map some) H5 s5:=I5.uN fun p hp=>by
   have e:p=(s2.heap.objs.size,{ cls:=.type "list",dict:=none,data:=.seq au.toArray k }):=by simpa using hp
   subst e;show#[ea,Aw,zU,fun z=>?_,fun v z=>by cases z];show I2.HN (pi _) (by
    have hz:s2.heap.objs.size∈cb X.stack:=z;rcases li.mp (I2.yD _ hz) with q | q
    ·show absurd I2.lt (by rw[<- q];show KB _)
    ·show q)
  have Gx:∀ p∈[((s2.heap.objs.size,{ cls:=.type "list",dict:=none,data:=.seq au.toArray k }):ϋ×Obj)],p.1 ∉ fp:=fun p hp=>by
   have e:p=(s2.heap.objs.size,{ cls:=.type "list",dict:=none,data:=.seq au.toArray k }):=by simpa using hp
   subst e;show O7
  let⟨hyl,alt⟩:=turn i ys n H5 w5;rcases alt with ⟨stop,qn⟩ | ⟨go,hys,step⟩
  ·show aH (T.done (cR X scope cl (TN++caps) s2 H2 fp G.objs.size) rfl rfl rfl hc i _ s5 (σ0++vs.map some) H5 (fun _ _=>False) Ip (Hv Aq Gx) tN stop) fun r s6 #[hr,I6]=>?_;subst hr;have ea6:=(I6.pin (s2.heap.objs.size,{ cls:=.type "list",dict:=none,data:=.seq au.toArray k }) (xL _ (Ch.mpr rfl))).1;let⟨m,Pm,_⟩:=I6.loc;have hC6:H5 G.objs.size=none:=I6.free;have lt2:∀ b o,s2.heap.get? b=!o->b≠s2.heap.objs.size:=fun b o e=>zn (u8 e);have Iout:Inv X π σ (upd H5 s2.heap.objs.size (.lst ys)) s6:=by
    show I2.LV (s':=s6) (ch:=fp) I6.os #[fun b o e n hb hx=>?_,fun b o e n hb hx=>?_,fun b o e n hx=>?_,fun b o e hx=>?_,fun b xs e=>?_,fun b o u e=>?_,fun b ps e=>?_] ?_ I6.bare fun b hb=>?_
    ·show I6.base.keep b o e n hb hx
    ·show I6.base.slot b o e n hb hx
    ·rw[ag (lt2 b o e)];show I6.base.free b o e n hx
    ·show I6.base.there b o e hx
    ·rw[ag (gH e (I2.aE.fresh (pi _)))];show I6.base.il b xs e
    ·rw[ag (gH e (I2.aE.fresh (pi _)))];show I6.base.g8 b o u e
    ·let⟨more,e1⟩:=I6.base.ij b ps e;show#[more,by rw[ag (gH e (I2.aE.fresh (pi _)))];show e1]
    ·intro b u e;by_cases hb:b=s2.heap.objs.size
     ·subst hb;rw[ay]at e;cases e;show#[hyl,au,k,rv,ea6]
     ·rw[ag hb]at e;show(I6.aE b u e).gz (fun c v _ q=>q) (fun c q=>by rw[ag (gH q Aw)];show q) fun c xs q=>by rw[ag (gH q Aw)];show q
    ·let⟨g1,g2,g3,g4,g5,g6⟩:=f2 b hb;show#[g4,g2,g5,g6]
   show Gk _ _ s6 _ Iout #[m,Pm] #[by rw[ag (ss zU)];show hC6,?_,?_,fun y c e z=>?_,fun p hp z=>?_] (qn _ Aw)
   ·show Jan (ww I2.lt qr)
   ·show ut I2.sz qr
   ·let⟨v',q⟩:=I2.cell y c e;show absurd (ww q.lt qr) (by rw[z];show KB _)
   ·show absurd (ww (u8 (I2.pin p hp).1) qr) (by rw[z];show KB _)
  ·show aH (T.item (cR X scope cl (TN++caps) s2 H2 fp G.objs.size) rfl rfl rfl hc i _ s5 (σ0++vs.map some) H5 (fun _ _=>False) Ip (Hv Aq Gx) tN go) fun r s6 #[u,hr,h6]=>?_;subst hr;show aH h6 fun _ s7 #[y,H7,I7,ry,y7,Ho,fr7]=>?_;have I7':=I7.pinned (Hv fr7 Gx) (T.obj _ _ Ho);show aH (iX _ _ _ _ _ s7 (σ0++vs.map some) H7 y u _ I7' ry (step y H7 y7 σ0 hσ)) fun _ s8 #[σ8,H8,I8,Pt,q8]=>?_;show aH (ht _ I2 f2 _ s8 σ8 H8 _ I8 q8) fun ok s9 #[H9,I9,q9]=>?_
   -- what is pinned stays
   have Qa:∀ {s':ό}{H':Hp},Inv (cR X scope cl (TN++caps) s2 H2 fp G.objs.size) ([(s2.heap.objs.size,{ cls:=.type "list",dict:=none,data:=.seq au.toArray k })]++uI fp s7.heap) σ8 H' s' ->
     tn (i+1) s'.heap/\(∀ b∈fp,H' b=none)/\H' s2.heap.objs.size=none/\s'.heap.get? s2.heap.objs.size=!{ cls:=.type "list",dict:=none,data:=.seq au.toArray k }:=fun {s' H'} J'=>by
    show#[T.keep _ _ _ Ho fun b hb o e=>(J'.pin (b,o) (xL _ (xL _ (yX hb e)))).1,fun b hb=>?_,(J'.pin (s2.heap.objs.size,{ cls:=.type "list",dict:=none,data:=.seq au.toArray k }) (xL _ (GT _ (Ch.mpr rfl)))).2.1,(J'.pin (s2.heap.objs.size,{ cls:=.type "list",dict:=none,data:=.seq au.toArray k }) (xL _ (GT _ (Ch.mpr rfl)))).1];let⟨o,e,_⟩:=T.obj _ _ Ho b hb;show(J'.pin (b,o) (xL _ (xL _ (yX hb e)))).2.1
   cases ok with
   | false =>
    let⟨m',hm,w'⟩:=q9;let⟨k1,k2,k3,k4⟩:=Qa I9;show#[m',hm,i+1,ys,au,k,σ8,H9,Pt,I9.uN (π':=[]) (fun _ hp=>nomatch hp),k1,k2,k3,rv,k4,w']
   | true =>
    show aH (he _ _ _ _ _ s9 σ8 H9 _ I9 q9) fun zv s10 #[z,xy,Pd,rz,nh]=>?_;let⟨m',hm,w'⟩:=nh;let⟨k1,k2,k3,k4⟩:=Qa Pd;have hl:=rv.length;show SC F.slot_list_append #[_,k4,rfl] F.entry_list_append (F.args_list_append_2 _ _) (PySem.list_append s2.heap.objs.size au.toArray k zv (by rw[sK];omega)) #[k4,?_];have q:=PySem.IsL.update k4 (·.push zv);have ip:au.toArray.push zv=(au++[zv]).toArray:=()
    rw[ip]at q;have I11:Inv (cR X scope cl (TN++caps) s2 H2 fp G.objs.size) [] σ8 xy s10:=Pd.uN (π':=[]) (fun _ hp=>nomatch hp);show#[m',hm,i+1,ys++[z],au++[zv],_,σ8,xy,Pt,I11.turned (t':=s10.toks) (it:=s2.heap.objs.size) (fun b o hb e=>(Id s10.heap _ (ss hb)).trans e) k3 zU (.inr (pi _)) (fun x c e z=>by let⟨v',q⟩:=I2.cell x c (CC.sub x c e);show absurd q.lt (by rw[z];show KB _)) (fun p hp=>absurd (show p∈([]:List (ϋ×Obj)) from hp) ()),
     T.keep _ _ _ k1 fun b hb o e=>(Id s10.heap _ (fun z=>O7 (by rw[z];show hb))).trans e,k2,k3,rv.append (.cons rz .nil),q,w']
 show codeAny_compStart_list (main _ rfl) (T.self _ 0 _ _ _ (T.keep _ _ _ gd fun b _ o e=>old b o e) (main _ rfl))
def aa5{elt iter:Expr}{ifs:List Expr}{tg:Expr}{g:TG}{TN caps:List Str}{ix:List Nat}{cl:List (Str×ϋ)}{pos:Pos}{scope:Scope}{wi:TI}{tt:TT}{te:TE}(hc:X.calm=true)(hi:PI X tg iter wi)(ht:∀ s H ex C,rg (cR X scope cl (TN++caps) s H ex C) ifs tt)(iX:∀ s H ex C,PG (cR X scope cl (TN++caps) s H ex C) tg g)(he:∀ s H ex C,PE (cR X scope cl (TN++caps) s H ex C) elt te)(CC:kJ X scope cl caps ix)(hk:‹scope.kind=.function›)(cj:∀ y∈scope.names,y.2=.local->scope.names.lookup y.1=!.local:=by decide +kernel)(fJ:∀ y∈scope.names,y.2≠.cell:=by decide +kernel)(hs:∀ x,foldedSetIterable iter X.env x=pure x:=by intro _;rfl):PE X (.ListComp elt [#[tg,iter,ifs,0]] scope pos) (lV TN.length ix wi g tt te):=by
 intro π s σ H Q I h;rw[eval_ListComp];show wpAny_comprehension_free (use:=none) (cl:=cl) rfl hs CC.pE hk cj ?_;show OK (RR:=fun acc C=>compPost (model X.prog X.w) X.A X.xe none (EP X π σ Q) acc C) (tt:=fun _=>tt) hc hi (fun C _ _=>ht _ _ _ C) iX he CC hk fJ I h ?_;intro a C s6 H6 I6 hm o q;let⟨m,hn⟩:=hm;show#[m,hn,fun h' wM=>#[-a,H6,o.go I6 wM,rfl,q]]
def Sn{elt iter:Expr}{ifs:List Expr}{tg:Expr}{g:TG}{TN caps:List Str}{ix:List Nat}{cl:List (Str×ϋ)}{y:Str}{i:Nat}{py pos spos:Pos}{scope:Scope}{wi:TI}{tt:TT}{te:TE}(hc:X.calm=true)(hN:X.N.Nodup)(wW:X.N[i]?=!y)(tH:X.env.scope.names.lookup y=!.local)(hi:PI X tg iter wi)(ht:∀ s H ex C,rg (cR X scope cl (TN++caps) s H ex C) ifs tt)(iX:∀ s H ex C,PG (cR X scope cl (TN++caps) s H ex C) tg g)(he:∀ s H ex C,PE (cR X scope cl (TN++caps) s H ex C) elt te)(CC:kJ X scope cl caps ix)(xk:‹swapsWith (.ListComp elt [#[tg,iter,ifs,0]] scope pos) (!.Name y py) spos.line X.env=pure true›)(hk:‹scope.kind=.function›)(cj:∀ y∈scope.names,y.2=.local->scope.names.lookup y.1=!.local:=by decide +kernel)(fJ:∀ y∈scope.names,y.2≠.cell:=by decide +kernel)(hs:∀ x,foldedSetIterable iter X.env x=pure x:=by intro _;rfl):PS X (.Assign [.Name y py] (.ListComp elt [#[tg,iter,ifs,0]] scope pos) spos) (kP (lV TN.length ix wi g tt te) (fO i)):=by
 intro π s σ H D I h;rw[exec_Assign_Name_used _ _ _ _ xk];show jp (_K (jp ?_));show jp (Op (wpAny_comprehension_free (e:=.ListComp elt [#[tg,iter,ifs,0]] scope pos) (use:=!assign (.Name y py) X.env) (cl:=cl) (Q:=fun _ s'=>SP X π D .next s') rfl hs CC.pE hk cj
  (OK (RR:=fun acc C=>compPost (model X.prog X.w) X.A X.xe (!assign (.Name y py) X.env) (fun _ s'=>SP X π D .next s') acc C) (tt:=fun _=>tt) hc hi (fun C _ _=>ht _ _ _ C) iX he CC hk fJ I h ?_)) (fun _ s' hq=>tz (tz hq)) fun _ _ e=>e)
 intro a C s6 H6 I6 hm o q;let⟨m,hn⟩:=hm;show(show wpAny (model X.prog X.w) X.A (assign (.Name y py) X.env (-a)) _ X.xe s6 from ?_);show wpAny_assign_Name (IK I6 hN wW (.inl tH) (v:=-a) rfl (fun s' I' wM=>?_) (.inr tH));let⟨b,wM,hb⟩:=wM;have nb:C≠b:=by
  rcases hb with z | z
  ·rw[z];show o.nl
  ·show fun e=>o.nc y b z e.symm
 show#[m,hn.sameBut wM nb,fun h' hs'=>#[_,H6,o.go I' hs',q]]
end
namespace Dv
section
variable {X:Cx}
def DS{elt iter tg:Expr}{g:TG}{ifs:List Expr}{TN caps:List Str}{ix:List Nat}{cl:List (Str×ϋ)}{pos:Pos}{scope:Scope}{wi:TI}{tt:TT}{te:TE}(hc:X.calm=true)(hi:QI X tg iter wi)(ht:∀ s H ex C,sU (cR X scope cl (TN++caps) s H ex C) ifs tt)(iX:∀ s H ex C,QG (cR X scope cl (TN++caps) s H ex C) tg g)(he:∀ s H ex C,QE (cR X scope cl (TN++caps) s H ex C) elt te)(CC:kJ X scope cl caps ix)(hk:‹scope.kind=.function›)(cj:∀ y∈scope.names,y.2=.local->scope.names.lookup y.1=!.local:=by decide +kernel)(fJ:∀ y∈scope.names,y.2≠.cell:=by decide +kernel)(hs:∀ x,foldedSetIterable iter X.env x=pure x:=by intro _;rfl):QE X (.ListComp elt [#[tg,iter,ifs,0]] scope pos) (lV TN.length ix wi g tt te):=#[aa5 hc hi.h (fun s H ex C=>(ht s H ex C).h) (fun s H ex C=>(iX s H ex C).h) (fun s H ex C=>(he s H ex C).h) CC hk cj fJ hs]
def Sy(i:Nat){elt iter tg:Expr}{g:TG}{ifs:List Expr}{TN caps:List Str}{ix:List Nat}{cl:List (Str×ϋ)}{y:Str}{py pos spos:Pos}{scope:Scope}{wi:TI}{tt:TT}{te:TE}(hc:X.calm=true)(hN:X.N.Nodup)(hi:QI X tg iter wi)(ht:∀ s H ex C,sU (cR X scope cl (TN++caps) s H ex C) ifs tt)(iX:∀ s H ex C,QG (cR X scope cl (TN++caps) s H ex C) tg g)(he:∀ s H ex C,QE (cR X scope cl (TN++caps) s H ex C) elt te)(CC:kJ X scope cl caps ix)(wW:‹X.N[i]?=!y›)(tH:‹X.env.scope.names.lookup y=!.local›)(xk:‹swapsWith (.ListComp elt [#[tg,iter,ifs,0]] scope pos) (!.Name y py) spos.line X.env=pure true›)(hk:‹scope.kind=.function›)(cj:∀ y∈scope.names,y.2=.local->scope.names.lookup y.1=!.local:=by decide +kernel)(fJ:∀ y∈scope.names,y.2≠.cell:=by decide +kernel)(hs:∀ x,foldedSetIterable iter X.env x=pure x:=by intro _;rfl):QS X (.Assign [.Name y py] (.ListComp elt [#[tg,iter,ifs,0]] scope pos) spos) (kP (lV TN.length ix wi g tt te) (fO i)):=#[Sn hc hN wW tH hi.h (fun s H ex C=>(ht s H ex C).h) (fun s H ex C=>(iX s H ex C).h) (fun s H ex C=>(he s H ex C).h) CC xk hk cj fJ hs]
end
end Dv
section
variable {X:Cx}
end
def DV{σ:St}(h:σ.length=1):∃ a,σ=[a]:=by
 match σ,h with
 | [a],_=>show#[a,rfl]
def fC{f:Str}{v u:V}:∀ {fs:List (Str×V)},fs.lookup f=!u->(az f v fs).length=fs.length
 | (g,x)::r,h=>by
  rw[show az f v ((g,x)::r)=(if g=f then (g,v)::r else (g,x)::az f v r) from rfl];by_cases e:g=f
  ·rw[wl e];rfl
  ·rw[wf e];have hb:(f == g)=false:=Gc.mpr (ss e);have h':r.lookup f=!u:=by simpa [List.lookup,hb] using h
   rw[xz,fC h'];rfl
def  CO(r:V->List V->Hp->VK->Prop)(to:TE):TE:=fun σ H Q=>to σ H fun x H1=>match x with
 | .ref l=>(match H1 l with
  | some (.lst _)=>r (-l) [] H1 Q
  | _=>False)
 | _=>False
section
variable {X:Cx}{name:Str}{id:String}{r:V->List V->Hp->VK->Prop}{o:Expr}{to:TE}{apos bB:Pos}
def Ul(slot:Slot "list" name id)(cx:typeOf (.builtin id)=pure (.type "method_descriptor"))(hm:dC X id r)(ho:PE X o to)(ib:‹attributeBase o name X.env (eval o X.env)=eval o X.env›)(hZ:‹(apos.endLine == bB.line)=true›):PE X (.Call (.Attribute o name apos) [] [] bB) (CO r to):=by
 intro π s σ H Q I h;show wpAny_Call_method0_late ib hZ (aH (ho π s σ H _ I h) fun v s1 ⟨x,H1,I1,r1,q1⟩=>?_);dsimp only at q1;split at q1
 ·rename_i l;split at q1
  ·rename_i zs el;let⟨h1,h2⟩:=AJ (T := "list") I1 r1 (.inl #[rfl,zs,aC.of el]);show#["list",id,PySem.F.plainAttrs_list,slot,cx,h1,h2,ST rfl (PySem.evalArgs_none (hm π s1 σ H1 (-l) [] v [] Q I1 r1 .nil q1))]
  ·show q1.elim
 ·show q1.elim
def Dv.HX(slot:Slot "list" name id)(cx:typeOf (.builtin id)=pure (.type "method_descriptor"))(hm:dC X id r)(ho:QE X o to)(ib:‹attributeBase o name X.env (eval o X.env)=eval o X.env›)(hZ:‹(apos.endLine == bB.line)=true›):QE X (.Call (.Attribute o name apos) [] [] bB) (CO r to):=#[Ul slot cx hm ho.h ib hZ]
end
def ai.fN{H H1:Hp}{l:ϋ}{o:HO}(s:ai H H1)(hl:H l=none):ai H (L2.upd H1 l o):=fun b u e=>by
 rw[ag (fun z=>by rw[z,hl]at e;cases e)];show s b u e
section
variable {X:Cx}
def  FU:List V->Hp->VK->Prop:=fun xs H Q=>match xs with
 | [.bl b]=>Q (.int (if b then 1 else 0)) H
 | _=>False
def yQ:cW X (.type "int") FU:=by
 intro π s σ H xs us Q I r h;unfold FU at h;split at h
 ·rename_i b;let⟨u,rfl,rx⟩:=vals1 r;cases rx;show call_int_bool #[.int (if b then 1 else 0),H,I.tok _,#[_,rfl],h]
 ·show h.elim
end
def  Fs(K:ν):R2:=fun x y H Q=>match y with
 | .ref p=>∃ xs,(aC K H p xs\/bK K H p xs)/\cN x=true/\xs.all cN=true/\Q (.bl (Bool.not (g9 x xs))) H
 | _=>False
def xH{X:Cx}{K:ν}(h:X.K=K):bu X (compareOp .NotIn) (Fs K):=h ▸ Tj.imp fun x y H Q z=>by
 unfold Fs at z;split at z
 ·let⟨xs,z1,z2,z3,z4⟩:=z;show#[_,xs,rfl,z1,z2,z3,z4]
 ·show z.elim
structure FT(K:ν)(mg:Str->Option ϊ)(x y:Str)(st:Stmt)(ps:List Str) where
 f:ϋ
 d:FuncData
 F:kc K x y st f d
 m:mg x=!-f
 b:Binds K d ps []
structure MT(K:ν)(C:ϋ)(x y:Str)(st:Stmt)(ps:List Str) where
 f:ϋ
 d:FuncData
 F:kc K x y st f d
 h:Meth K C x f
 b:Binds K d ps []
def  FA(K:ν)(x y:Str)(st:Stmt):Prop:=∃ (f:ϋ) (oc:ϊ) (od:Option ϋ) (kV dc pm:ϊ) (an:Option ϋ) (cd ct:ϊ) (sl:Array (Option ϊ)),
 W.nsIn K mainGlobals x=!(!-f)/\K.lookup f=!#[oc,od,.func (W.fnOf x y (fM st) (aU st) (aB st) .none kV dc pm an cd ct),sl]/\W.codeIn K cd y=true/\W.keepIn K (-f)=true
def  MA(K:ν)(C:ϋ)(x y:Str)(st:Stmt):Prop:=∃ (f:ϋ) (oc:ϊ) (od:Option ϋ) (kV dc pm:ϊ) (an:Option ϋ) (cd ct:ϊ) (sl:Array (Option ϊ)),
 W.findIn K (-C) x=!(!-f)/\K.lookup f=!#[oc,od,.func (W.fnOf x y (fM st) (aU st) (aB st) .none kV dc pm an cd ct),sl]/\W.codeIn K cd y=true/\W.keepIn K (-f)=true/\W.isFn K (-f)=true
section
variable {K:ν}{mg:Str->Option ϊ}{h:Heap}{C:ϋ}{x y:Str}{st:Stmt}{ps:List Str}
def FA.ft(X:K.In h)(G:h.Ns mainGlobals mg)(ps:List Str)(hb:∀ (kV dc pm:ϊ) (an:Option ϋ) (cd ct:ϊ) (us:List ϊ),us.length=ps.length->bindArgs (W.fnOf x y (fM st) (aU st) (aB st) .none kV dc pm an cd ct) #[us,[]]=pure (ps.zip us))(a:FA K x y st):Nonempty (FT K mg x y st ps):=by
 let⟨f,oc,od,kV,dc,pm,an,cd,ct,sl,n,l,c,k⟩:=a;have F:=B1 (st:=st) l c k;show#[#[f,_,F,W.mg_of X G n,F.binds hb]]
def MA.ft(ps:List Str)(hb:∀ (kV dc pm:ϊ) (an:Option ϋ) (cd ct:ϊ) (us:List ϊ),us.length=ps.length->bindArgs (W.fnOf x y (fM st) (aU st) (aB st) .none kV dc pm an cd ct) #[us,[]]=pure (ps.zip us))(a:MA K C x y st):Nonempty (MT K C x y st ps):=by
 let⟨f,oc,od,kV,dc,pm,an,cd,ct,sl,n,l,c,k,t⟩:=a;have F:=B1 (st:=st) l c k;show#[#[f,_,F,#[n,t,k],F.binds hb]]
end
section
variable {K:ν}{mg:Str->Option ϊ}{h:Heap}{C:ϋ}{x y:Str}{st:Stmt}{ps:List Str}
def FA.mk{f:ϋ}{oc:ϊ}{od:Option ϋ}{kV dc pm:ϊ}{an:Option ϋ}{cd ct:ϊ}{sl:Array (Option ϊ)}(n:W.nsIn K mainGlobals x=!(!-f))(l:K.lookup f=!#[oc,od,.func (W.fnOf x y (fM st) (aU st) (aB st) .none kV dc pm an cd ct),sl])(c:W.codeIn K cd y=true)(k:W.keepIn K (-f)=true):FA K x y st:=#[_,_,_,_,_,_,_,_,_,_,n,l,c,k]
def MA.mk{f:ϋ}{oc:ϊ}{od:Option ϋ}{kV dc pm:ϊ}{an:Option ϋ}{cd ct:ϊ}{sl:Array (Option ϊ)}(n:W.findIn K (-C) x=!(!-f))(l:K.lookup f=!#[oc,od,.func (W.fnOf x y (fM st) (aU st) (aB st) .none kV dc pm an cd ct),sl])(c:W.codeIn K cd y=true)(k:W.keepIn K (-f)=true)(t:W.isFn K (-f)=true):MA K C x y st:=#[_,_,_,_,_,_,_,_,_,_,n,l,c,k,t]
def FA.gt(X:K.In h)(G:h.Ns mainGlobals mg)(hb:∀ (kV dc pm:ϊ) (an:Option ϋ) (cd ct:ϊ) (us:List ϊ),us.length=ps.length->bindArgs (W.fnOf x y (fM st) (aU st) (aB st) .none kV dc pm an cd ct) #[us,[]]=pure (ps.zip us))(a:FA K x y st):Nonempty (FT K mg x y st ps):=FA.ft X G ps hb a
def MA.gt(hb:∀ (kV dc pm:ϊ) (an:Option ϋ) (cd ct:ϊ) (us:List ϊ),us.length=ps.length->bindArgs (W.fnOf x y (fM st) (aU st) (aB st) .none kV dc pm an cd ct) #[us,[]]=pure (ps.zip us))(a:MA K C x y st):Nonempty (MT K C x y st ps):=MA.ft ps hb a
def VG{M:MT K C "__init__" y st ps}(a:W.makesIn K C=true)(b:W.keepIn K (-C)=true):Mk K C M.f:=#[a,M.h.at_,M.h.fn,b]
def kD{dt:ϋ}{kV doc pm ax ct:ϊ}{an:Option ϋ}{o:Obj}{n:Nat}{ds:List ϊ}(j:Nat)(ld:K.lookup dt=!o)(hd:o.data=.seq ds.toArray n)(h:∀ (dt:ϋ) (kV doc pm:ϊ) (an:Option ϋ) (ax ct:ϊ) (us:List ϊ),(us++ds.drop j).length=ps.length ->
   ∃ k,bindArgs (W.fnOf x y (fM st) (aU st) (aB st) (-dt) kV doc pm an ax ct) #[us,[]]=seqItems? (-dt) >>= k/\k (!ds.toArray)=pure (ps.zip (us++ds.drop j))) :
  Binds K (W.fnOf x y (fM st) (aU st) (aB st) (-dt) kV doc pm an ax ct) ps (ds.drop j):=by
 intro s us X hl;let⟨k,h1,h2⟩:=h dt kV doc pm an ax ct us hl;show BindsTo.of_defaults rfl (X _ _ ld) hd h1 h2
end
section
variable {X:Cx}{tg:Expr}
end
section
variable {X:Cx}
def  EU:List V->Hp->VK->Prop:=fun xs H Q=>match xs with
 | [.int a]=>a.natAbs.log2 < 1920/\Q (.str (ώ (toString a))) H
 | _=>False
def Zk:cW X (.type "str") EU:=by
 intro π s σ H xs us Q I r h;unfold EU at h;split at h
 ·rename_i a;let⟨hl,h⟩:=h;let⟨u,rfl,rx⟩:=vals1 r;let⟨t,rfl⟩:=rx;show PySem.P.str_of_int hl #[.str (ώ (toString a)),H,I.tok _,#[_,rfl],h]
 ·show h.elim
end
section
variable {X:Cx}
def  EZ:V->List V->Hp->VK->Prop:=fun x vs H Q=>match x,vs with
 | .ref l,[.int 0]=>∃ y xs,H l=!.lst (y::xs)/\Q y (upd H l (.lst xs))
 | _,_=>False
def Tb:dC X "list.pop" EZ:=dC.imp (r:=Oh) abR fun x vs H Q h=>by
 unfold EZ at h;split at h
 ·let⟨y,xs,hl,q⟩:=h;show#[_,y::xs,0,0,y,rfl,rfl,hl,⋯,⋯,by simp[seqIndex?],rfl,q]
 ·show h.elim
end
section
variable {X:Cx}
def y1{A:Around}{s:ό}{xs ys:List V}{i1 i2:List ϊ}(r1:Vals xs i1)(r2:Vals ys i2)(f1:xs.all cN=true)(f2:ys.all cN=true)(he:∀ i (h1:i < xs.length) (h2:i < ys.length),fE xs[i] ys[i]=true)(j:Nat)(g1:j < i1.toArray.size)(g2:j < i2.toArray.size):SeqAt.EqAt A s i1.toArray[j] i2.toArray[j] true:=by
 have j1:j < xs.length:=by rw[r1.length];simpa using g1
 have j2:j < ys.length:=by rw[r2.length];simpa using g2
 let⟨u1,e1,ru1⟩:=r1.get (ul j1);let⟨u2,e2,ru2⟩:=r2.get (ul j2);have w1:i1.toArray[j]=u1:=by
  have:=(sB.mp e1).2
  simpa using this
 have w2:i2.toArray[j]=u2:=by
  have:=(sB.mp e2).2
  simpa using this
 rw[w1,w2];have:=Kx (A:=A) (s:=s) ru1 ru2 (FS.mp f1 _ (XV j1)) (FS.mp f2 _ (XV j2));rw[he j j1 j2]at this;show this
def all_true(n:Nat):(List.range n).all (fun _=>true)=true:=by rw[FS];show fun _ _=>rfl
def  ig(K:ν)(neg:Bool):R2:=fun x y H Q=>match x,y with
 | .ref a,-b=>∃ xs ys:List V,(aC K H a xs/\aC K H b ys\/bK K H a xs/\bK K H b ys)/\xs.length=ys.length/\xs.all cN=true/\ys.all cN=true/\(∀ i (h1:i < xs.length) (h2:i < ys.length),fE xs[i] ys[i]=true)/\Q (.bl (Bool.not neg)) H
 | _,_=>False
def yM{K:ν}(hK:X.K=K)(hu:X.A.units < cLine):bu X (compareOp .Eq) (ig K false):=by
 subst hK;intro π s σ H x y v u Q I rx ry h;unfold ig at h;split at h
 ·let⟨xs,ys,c8,hl,f1,f2,he,q⟩:=h;cases rx;cases ry;rcases c8 with ⟨ha,hb⟩ | ⟨ha,hb⟩
  ·let⟨i1,r1,p1,_⟩:=I.list ha;let⟨i2,r2,p2,_⟩:=I.list hb;have hsz:i1.toArray.size=i2.toArray.size:=by rw[sK,sK,<- r1.length,<- r2.length,hl]
   have k:=SeqAt.RcAt.lists (A:=X.A) (s:=s) (e:=fun _=>true) p1.isList p2.isList hsz hu (fun j g1 g2=>y1 r1 r2 f1 f2 he j g1 g2);rw[all_true]at k;show k _ _ _ _ #[.bl _,H,I,rfl,q]
  ·let⟨i1,r1,p1,_⟩:=I.tuple ha;let⟨i2,r2,p2,_⟩:=I.tuple hb;have hsz:i1.toArray.size=i2.toArray.size:=by rw[sK,sK,<- r1.length,<- r2.length,hl]
   have k:=SeqAt.RcAt.tuples (A:=X.A) (s:=s) (e:=fun _=>true) p1 p2 hu (fun j g1 g2=>y1 r1 r2 f1 f2 he j g1 g2);rw[all_true,hsz,beq_self_eq_true,Bool.and_self]at k;show k _ _ _ _ #[.bl _,H,I,rfl,q]
 ·show h.elim
def MP{K:ν}(hK:X.K=K)(hu:X.A.units < cLine):bu X (compareOp .NotEq) (ig K true):=by
 subst hK;intro π s σ H x y v u Q I rx ry h;unfold ig at h;split at h
 ·let⟨xs,ys,c8,hl,f1,f2,he,q⟩:=h;cases rx;cases ry;rcases c8 with ⟨ha,hb⟩ | ⟨ha,hb⟩
  ·let⟨i1,r1,p1,_⟩:=I.list ha;let⟨i2,r2,p2,_⟩:=I.list hb;have hsz:i1.toArray.size=i2.toArray.size:=by rw[sK,sK,<- r1.length,<- r2.length,hl]
   have k:=Jas (A:=X.A) (s:=s) (e:=fun _=>true) p1.isList p2.isList hsz hu (fun j g1 g2=>y1 r1 r2 f1 f2 he j g1 g2);rw[all_true]at k;show k _ _ _ _ #[.bl _,H,I,rfl,q]
  ·let⟨i1,r1,p1,_⟩:=I.tuple ha;let⟨i2,r2,p2,_⟩:=I.tuple hb;have hsz:i1.toArray.size=i2.toArray.size:=by rw[sK,sK,<- r1.length,<- r2.length,hl]
   have k:=SeqAt.RcNeAt.tuples (A:=X.A) (s:=s) (e:=fun _=>true) p1 p2 hu (fun j g1 g2=>y1 r1 r2 f1 f2 he j g1 g2);rw[all_true,hsz,beq_self_eq_true,Bool.and_self]at k;show k _ _ _ _ #[.bl _,H,I,rfl,q]
 ·show h.elim
def WW{v:V}(h:cN v=true):fE v v=true:=by
 cases v <;> first | rfl | (cases h;done) | simp[fE]
def ig.same{K:ν}{neg:Bool}{a b:ϋ}{xs:List V}{H:Hp}{Q:VK}(h:aC K H a xs/\aC K H b xs\/bK K H a xs/\bK K H b xs)(f:xs.all cN=true)(q:Q (.bl (Bool.not neg)) H):ig K neg (-a) (-b) H Q :=
 #[xs,xs,h,rfl,f,f,fun i h1 _=>WW (FS.mp f _ (XV h1)),q]
end
def  pS{α:Type}(us ws:List α):List α:=if ws.length=1 then us++ws else []
section
variable {K:ν}{x qual nm:Str}{st:Stmt}{f:ϋ}{fd:FuncData}{ps:List Str}{ds:List ϊ}
def Xh{α:Type}{a b c d:α}:pS [a,b,c] [d]=[a,b,c,d]:=rfl
def acX{vs:List V}{us:List ϊ}{zs:List V}{ws:List ϊ}(r:Vals vs us)(q:Vals zs ws):Vals (pS vs zs) (pS us ws):=by
 unfold pS;rw[q.length];split
 ·show r.append q
 ·show .nil
def Up(F:ko K x qual st f fd ds)(hp:ps.length=4)(h:∀ (dt:ϋ) (kV doc pm:ϊ) (an:Option ϋ) (ax ct a b c d:ϊ),
   ∃ k,bindArgs (W.fnOf x qual (fM st) (aU st) (aB st) (-dt) kV doc pm an ax ct) #[[a,b,c],[(nm,d)]]=seqItems? (-dt) >>= k/\k (!ds.toArray)=pure (ps.zip [a,b,c,d])):yL K fd ps [nm] pS pS where
 to:=by
  let⟨oc,od,dt,kV,doc,pm,an,ax,ct,eV,o,n,rfl,lk,dQ,ldt,tK⟩:=F.ex;intro s us ws X hl;unfold pS at hl ⊢;split at hl
  ·rename_i h1;rw[wl h1];rw[mo,h1,hp]at hl;let⟨d,rfl⟩:=List.length_eq_one_iff.mp h1;have h3:us.length=3:=∅
   let⟨a,b,c,rfl⟩:∃ a b c,us=[a,b,c]:=by
    match us,h3 with
    | [a,b,c],_=>show#[a,b,c,rfl]
   let⟨k,h1,h2⟩:=h dt kV doc pm an ax ct a b c d;show BindsTo.of_defaults rfl (X _ _ ldt) tK h1 h2
  ·rw[hp]at hl;cases hl
 rel:=acX
end
section
variable {X:Cx}
def Dv.Uw{CX:eP}{k:Nat}{f:ϋ}{fd:FuncData}{ps:List Str}{sp:Sp}{E:XK}{x nm:Str}{p pos Ar:Pos}{e e2:Expr}{es:List Expr}{t:TA}{te:TE}{g:List ϊ->List ϊ->List ϊ}{gV:List V->List V->List V}(F:aA X.prog X.w X.K X.mg X.base CX k f fd ps sp)(hr:bM k X.A)(hm:X.mg x=!-f)(hk:W.keepIn X.K (-f)=true)(hb:yL X.K fd ps [nm] g gV)(hx:Passes CX X E)(ha:QA X (e::es) t)(Gz:QE X e2 te)(hg:‹Gl X x›)(b9:(x == ("__debug__":Str))=false:=by decide)(he:‹starEach (e::es) X.env=(false,eval e X.env)::starEach es X.env›)(bt:‹((backTo pos (starEach (e::es) X.env)).any (·.1) || (backToKw pos (keywordEach [#[!nm,e2,Ar]] X.env)).any (·.1.isNone))=false›) :
  QE X (.Call (.Name x p) (e::es) [#[!nm,e2,Ar]] pos) (Bb sp gV E t (gn te gW)) :=
 #[aco F hr hg hm hk hb hx ha.h (acz Gz.h Yq) rfl rfl b9 he bt]
end
def  wo(J:It)(n:Nat)(vs:List V)(g:TG)(tt:TT)(te:TE)(Q:VK)(H1:Hp):Prop:=∃ W:Nat->List V->Nat->Hp->Prop,(∃ m,W 0 [] m H1)/\∀ i ys m H,W i ys m H ->
 ys.length<=sizeLine/\((J.stop i H/\∀ l,H l=none->Q (-l) (upd H l (.lst ys))) \/
  (J.go i H/\ys.length < sizeLine/\∀ y H',J.lY i H y H'->∀ σ0:St,σ0.length=n->g y (σ0++vs.map some) H' fun σ1 H1=>(∃ σ2:St,σ1=σ2++vs.map some/\σ2.length=n) /\
   tt σ1 H1 fun c H2=>if c=true then te σ1 H2 fun z H3=>∃ m',m' < m/\W (i+1) (ys++[z]) m' H3 else ∃ m',m' < m/\W (i+1) ys m' H2))
def Bn{n:Nat}{ix:List Nat}{wi:TI}{g:TG}{tt:TT}{te:TE}{σ:St}{H:Hp}{Q:VK}:lV n ix wi g tt te σ H Q=∃ vs,yo ix σ vs/\wi σ H fun J H1=>wo J n vs g tt te Q H1:=rfl
def VD{K:ν}{l:ϋ}{xs:List V}{te:TE}{H:Hp}{Q:VK}{vs:List V}(f:V->V)(hs:aC K H l xs)(hz:xs.length<=1000)(he:∀ x∈xs,∀ R:VK,R (f x) H->te (some x::vs.map some) H R)(q:∀ l',H l'=none->Q (-l') (upd H l' (.lst (xs.map f)))):wo (jV K l) 1 vs (fO 0) iL te Q H:=by
 have hsz:xs.length<=sizeLine:=fits hz;show#[fun i zs k H1=>H1=H/\zs=(xs.take i).map f/\i<=xs.length/\k=xs.length - i,#[_,rfl,rfl,wT _,rfl],?_];rintro i zs k H1 ⟨rfl,rfl,hi,rfl⟩;have hlen:((xs.take i).map f).length=i:=by rw[lv,W1];omega
 show#[∅,?_];by_cases h:i < xs.length
 ·have hx:xs[i]?=!xs[i]:=ul h;show .inr #[#[xs,xs[i],hs,hx],∅,?_];rintro y H' ⟨rfl,hy⟩ σ0 hσ0;let⟨a,rfl⟩:=DV hσ0;have j9:=hy xs hs;show#[#[[!y],rfl,rfl],?_];change iL _ _ _;unfold iL;dsimp only;rw[wl rfl];show he y (LE j9) _ #[xs.length - (i+1),∅,rfl,by rw[_z,j9,Da];rfl,h,rfl]
 ·have e:i=xs.length:=∅
  subst e;show .inl #[#[xs,hs,pi _],fun l' hl'=>?_];have:=q l' hl';rw[GM (pi _)];show this
def J4{X:Cx}{K:ν}(h:X.K=K):iV X (Nm K):=h ▸ MS
def aau{K:ν}{C:ϋ}{y:Str}{st:Stmt}{ps:List Str}{fld:Str}{M:MT K C "__init__" y st ps}(q:za K C=true)(sa:W.findIn K (-C) "__setattr__" = !(!.builtin "object.__setattr__"))(na:W.findIn K (-C) fld=!none)(ob:W.mroIn K C (.type "object")=!true)(be:W.mroIn K C (.type "BaseException")=!true)(self:W.mroIn K C (-C)=!true)(kp:W.keepIn K (-C)=true):kQ K C M.f fld:=#[q,M.h.at_,eq_of_beq M.h.fn,sa,na,ob,be,self,kp]
end L2
open PySem PySem.Spec PyProof.Rows
namespace L2
section
variable {X:Cx}
def  xr(n b:Bool):Bool:=match n with | false=>b | true=>Bool.not b
def Fl(n b:Bool):(n ^^ b)=xr n b:=by cases n <;> cases b <;> rfl
def  qY(neg:Bool):R2:=fun x y H Q=>match x,y with
 | .int i,.int j=>Q (.bl (xr neg (decide (i=j)))) H
 | .str i,.str j=>Q (.bl (xr neg (decide (i=j)))) H
 | .bl i,.bl j=>Q (.bl (xr neg (decide (i=j)))) H
 | _,_=>xW x y=true/\Q (.bl (xr neg (decide (x=y)))) H
def Nw(neg:Bool):qW neg=qY neg:=by
 funext x y H Q;unfold qW qY;simp only[Fl] <;> rfl
def cF:bu X (compareOp .Eq) (qY false):=Nw false ▸ Um
def me:bu X (compareOp .NotEq) (qY true):=Nw true ▸ Vh
def  vn(neg:Bool):R2:=fun x y H Q=>match x,y with
 | .ref a,-b=>∃ ts us:List Str,H a=!.lst (ts.map V.str)/\H b=!.lst (us.map V.str)/\Q (.bl (xr neg (decide (ts=us)))) H
 | _,_=>False
def NR(neg:Bool):sP neg=vn neg:=by
 funext x y H Q;unfold sP vn;simp only[Fl] <;> rfl
def Sz(hu:X.A.units < cLine):bu X (compareOp .Eq) (vn false):=NR false ▸ WR hu
def FQ(hu:X.A.units < cLine):bu X (compareOp .NotEq) (vn true):=NR true ▸ aby hu
def  vW(K:ν)(neg:Bool):R2:=fun x y H Q=>match x,y with
 | .ref a,-b=>∃ xs ys:List V,aC K H a xs/\aC K H b ys/\((ys=[]/\Q (.bl (xr neg xs.isEmpty)) H)\/(xs=[]/\Q (.bl (xr neg ys.isEmpty)) H))
 | _,_=>False
def Ju{K:ν}(neg:Bool):sG K neg=vW K neg:=by
 funext x y H Q;unfold sG vW;simp only[Fl] <;> rfl
def Iy{K:ν}(hK:X.K=K)(hu:X.A.units < cLine):bu X (compareOp .Eq) (vW K false):=Ju (K:=K) false ▸ aam hK hu
def Ln{K:ν}(hK:X.K=K)(hu:X.A.units < cLine):bu X (compareOp .NotEq) (vW K true):=Ju (K:=K) true ▸ VQ hK hu
end
end L2
namespace L2
open PySem PySem.Spec PyProof.Rows
def Zn{J:It}{tt:TT}{te:TE}{Q:VK}{H:Hp}:qI J tt te Q H ↔ wo J 1 [] (fO 0) tt te Q H:=by
 constructor
 ·rintro⟨W,w0,h⟩;show#[W,w0,fun i ys m H hw=>#[(h i ys m H hw).1,(h i ys m H hw).2.imp_right fun z=>#[z.1,z.2.1,fun y H' hy σ0 hσ=>?_]]];let⟨a,rfl⟩:=DV hσ;show#[#[[!y],rfl,rfl],z.2.2 y H' hy]
 ·rintro⟨W,w0,h⟩;show#[W,w0,fun i ys m H hw=>#[(h i ys m H hw).1,(h i ys m H hw).2.imp_right fun z=>#[z.1,z.2.1,fun y H' hy=>(z.2.2 y H' hy [none] rfl).2]]]
def II{wi:TI}{tt:TT}{te:TE}{σ:St}{H:Hp}{Q:VK}(h:yx wi tt te σ H Q):lV 1 [] wi (fO 0) tt te σ H Q:=by
 rw[Jt]at h;rw[Bn];have e:(fun (J:It) H1=>qI J tt te Q H1)=fun J H1=>wo J 1 [] (fO 0) tt te Q H1:=by funext J H1;show propext Zn
 rw[e]at h;show#[[],#[rfl,()],h]
section
variable {X:Cx}
def Dv.M9{elt iter tg:Expr}{ifs:List Expr}{x:Str}{cl:List (Str×ϋ)}{pos:Pos}{scope:Scope}{wi:TI}{tt:TT}{te:TE}(hc:X.calm=true)(hi:QI X tg iter wi)(ht:∀ s H ex C,sU (cR X scope cl ([x]++[]) s H ex C) ifs tt)(iX:∀ s H ex C,QG (cR X scope cl ([x]++[]) s H ex C) tg (fO 0))(he:∀ s H ex C,QE (cR X scope cl ([x]++[]) s H ex C) elt te)(CC:kJ X scope cl [] [])(hk:‹scope.kind=.function›)(cj:∀ y∈scope.names,y.2=.local->scope.names.lookup y.1=!.local:=by decide +kernel)(fJ:∀ y∈scope.names,y.2≠.cell:=by decide +kernel)(hs:∀ x,foldedSetIterable iter X.env x=pure x:=by intro _;rfl):QE X (.ListComp elt [#[tg,iter,ifs,0]] scope pos) (yx wi tt te) :=
 #[fun π s σ H Q I h=>(Dv.DS hc hi ht iX he CC hk cj fJ hs).h π s σ H Q I (II h)]
def Dv.C3(i:Nat){elt iter tg:Expr}{ifs:List Expr}{x:Str}{cl:List (Str×ϋ)}{y:Str}{py pos spos:Pos}{scope:Scope}{wi:TI}{tt:TT}{te:TE}(hc:X.calm=true)(hN:X.N.Nodup)(hi:QI X tg iter wi)(ht:∀ s H ex C,sU (cR X scope cl ([x]++[]) s H ex C) ifs tt)(iX:∀ s H ex C,QG (cR X scope cl ([x]++[]) s H ex C) tg (fO 0))(he:∀ s H ex C,QE (cR X scope cl ([x]++[]) s H ex C) elt te)(CC:kJ X scope cl [] [])(wW:‹X.N[i]?=!y›)(tH:‹X.env.scope.names.lookup y=!.local›)(xk:‹swapsWith (.ListComp elt [#[tg,iter,ifs,0]] scope pos) (!.Name y py) spos.line X.env=pure true›)(hk:‹scope.kind=.function›)(cj:∀ y∈scope.names,y.2=.local->scope.names.lookup y.1=!.local:=by decide +kernel)(fJ:∀ y∈scope.names,y.2≠.cell:=by decide +kernel)(hs:∀ x,foldedSetIterable iter X.env x=pure x:=by intro _;rfl):QS X (.Assign [.Name y py] (.ListComp elt [#[tg,iter,ifs,0]] scope pos) spos) (kP (yx wi tt te) (fO i)) :=
 #[fun π s σ H D I h=>(Dv.Sy i hc hN hi ht iX he CC wW tH xk hk cj fJ hs).h π s σ H D I (II h)]
end
end L2
namespace L2
def JB{α:Type}{C:List α->Prop}(h:C []):∀ us:List α,us.length=0->C us
 | [],_=>h
def pe{α:Type}{C:List α->Prop}{n:Nat}(h:∀ a us,us.length=n->C (a::us)):∀ us:List α,us.length=n+1->C us
 | a::us,e=>h a us (Nat.succ.inj e)
def Jd{α:Type}{C:List α->Prop}(h:∀ a,C [a]):∀ us:List α,us.length=1->C us:=pe fun a=>JB (C:=fun us=>C (a::us)) (h a)
def IL{α:Type}{C:List α->Prop}(h:∀ a b,C [a,b]):∀ us:List α,us.length=2->C us:=pe fun a=>Jd (C:=fun us=>C (a::us)) (h a)
def wz{α:Type}{C:List α->Prop}(h:∀ a b c,C [a,b,c]):∀ us:List α,us.length=3->C us:=pe fun a=>IL (C:=fun us=>C (a::us)) (h a)
def sx{α:Type}{C:List α->Prop}(h:∀ a b c d,C [a,b,c,d]):∀ us:List α,us.length=4->C us:=pe fun a=>wz (C:=fun us=>C (a::us)) (h a)
def yw{α:Type}{C:List α->Prop}(h:∀ a b c d e,C [a,b,c,d,e]):∀ us:List α,us.length=5->C us:=pe fun a=>sx (C:=fun us=>C (a::us)) (h a)
def EL{α:Type}{C:List α->Prop}(h:∀ a b c d e f,C [a,b,c,d,e,f]):∀ us:List α,us.length=6->C us:=pe fun a=>yw (C:=fun us=>C (a::us)) (h a)
def WD{α:Type}{C:List α->Prop}(h:∀ a b c d e f g,C [a,b,c,d,e,f,g]):∀ us:List α,us.length=7->C us:=pe fun a=>EL (C:=fun us=>C (a::us)) (h a)
end L2
namespace L2
open PySem PySem.Spec PyProof.Rows
section
open PySem.AutoSeq1 (wpAny_loadPart')
open PySem.MeetsSeq PySem.SeqAt
def VH{M:Model}{A:Around}{E:ϊ->ό->Prop}{s:ό}{β:Type}(f:Nat->β->Sem (ForInStep β))(I:List Nat->β->ό->Prop)(Q:β->ό->Prop)(turn:∀ x rest b s,I (x::rest) b s->wpAny M A (f x b) (fun r s'=>match r with | .yield b'=>I rest b' s' | .done b'=>Q b' s') E s)(fin:∀ b s,I [] b s->Q b s)(r:Std.Legacy.Range)(b:β)(h:I (List.range' r.start r.size r.step) b s):wpAny M A (forIn r b f) Q E s:=by
 rw[Std.Legacy.Range.forIn_eq_forIn_range'];show wpAny_forIn_list f I Q turn fin _ b h
def Va(l:ϋ)(items:Array ϊ)(n:Nat)(dd:Option ϋ)(sl:Array (Option ϊ))(x:ϊ)(e:ϊ->Bool)(j:Nat)(hj:j < items.size)(hit:e items[j]=true)(eF:∀ m (hm:m < items.size),m < j->e items[m]=false) :
  Meets (Builtin.«tuple.index» #[[-l,x],[]])
   (fun A R s=>s.heap.get? l=!{ cls:=.type "tuple",dict:=dd,data:=.seq items n,slots:=sl }/\(∀ y,y∈items->EqAt A.in1 s y x (e y))/\R (.ok (.ret (.int j s.toks))) { s with toks:=s.toks+1 }) :=
 .of_wp fun prog w A R s h=>by
  let⟨hp,g,d,tk,os⟩:=s;let⟨hl,he,h⟩:=h
  wp_walk using wpAny_loadPart' hl,VH _ (fun rest b s'=>b.1=none/\s'=#[hp,g,d,tk,os]/\∃ i,i<=j/\rest=List.range' i (items.size - i)) _
  case turn =>
   rintro i rest b s' ⟨hb,rfl,i',hi,hr⟩;let⟨k,hk⟩:∃ k,items.size - i'=k+1:=#[items.size - i' - 1,∅];rw[hk,List.range'_succ]at hr;cases hr;have b8:i < items.size:=∅
   rw[show items[i]?=some items[i] from by simp[b8]];show jp (he _ (Array.getElem_mem b8) prog w _ _ ?_);by_cases hij:i=j
   ·subst hij;rw[hit]
    wp_walk
    show#[_,rfl,h]
   ·rw[eF i b8 ∅]
    wp_walk
    show#[rfl,rfl,i+1,∅,by congr 1;omega]
  case fin =>
   rintro⟨b1,b2⟩ s' ⟨hb,rfl,i,hi,hr⟩;have:items.size - i=0:=by simpa using GE List.length hr.symm
   omega
  case h =>
   show#[rfl,rfl,0,wT _,by simp[Std.Legacy.Range.size]]
def xF:∀ {ns:List Int}{us:List ϊ},Vals (ns.map V.int) us->IntsAre us ns
 | [],_,.nil=>.nil
 | _::_,_,.cons r t=>by
  let⟨k,rfl⟩:=r;show .cons _ _ (xF t)
def MB:∀ {ns:List Int}{us:List ϊ},IntsAre us ns->∃ xs:List (Int×Tok),us=xs.map (fun p=>ϊ.int p.1 p.2)/\ns=xs.map (·.1)
 | _,_,.nil=>#[[],rfl,rfl]
 | _,_,.cons n t h=>by
  let⟨xs,e1,e2⟩:=MB h;show#[(n,t)::xs,by rw[e1];rfl,by rw[e2];rfl]
end
section
variable {X:Cx}
def  B6(K:ν):V->List V->Hp->VK->Prop:=fun x vs H Q=>match x,vs with
 | .ref l,[.int k]=>∃ ns:List Int,aC K H l (ns.map V.int)/\k∈ns/\Q (.int (ns.idxOf k:Nat)) H
 | _,_=>False
def  Ef(K:ν):V->List V->Hp->VK->Prop:=fun x vs H Q=>match x,vs with
 | .ref l,[.int k]=>∃ ns:List Int,bK K H l (ns.map V.int)/\k∈ns/\Q (.int (ns.idxOf k:Nat)) H
 | _,_=>False
def DN{K:ν}(hK:X.K=K):dC X "list.index" (B6 K):=by
 subst hK;intro π s σ H x vs v us Q I rx rv h;unfold B6 at h;split at h
 ·rename_i l k;let⟨ns,hl,hk,q⟩:=h;cases rx;let⟨u,rfl,ru⟩:=vals1 rv;let⟨t,rfl⟩:=ru;let⟨au,r',⟨⟨cls,dd,data,sl⟩,n,ho,hc,hd,hs⟩,hz⟩:=I.list hl;simp only at hc hd hs;subst hc hd hs;have hi:=xF r';have hlen:=hi.length;have hj:ns.idxOf k < ns.length:=_l.mpr hk;rw[lv]at hz;have hsl:sizeLine < 2 ^ 62:=⋯
  show SC _r #[_,ho,rfl] PySem.F.entry_list_index (PySem.F.args_list_index_2 _ _)
   (PySem.SeqAt.list_indexAt l au.toArray n none sl (.int k t) (isInt k) (ns.idxOf k) (by simpa [hlen] using hj) ∅ ?_ ?_) #[ho,fun y hy=>(eq_isInt k t hi y (by simpa using hy)).at _ _,#[.int _,H,I.kept (t':=s.toks+1) fun _ _ e=>e,#[_,rfl],q]]
  ·change isInt k au[ns.idxOf k]=true;rw[isInt_at k hi _ ∅ hj]
   simpa using List.getElem_idxOf hj
  ·intro j hjs b8;change isInt k au[j]=false;rw[isInt_at k hi j (by simpa using hjs) ∅];show ne_of_lt_idxOf b8 _
 ·show h.elim
def ac1{K:ν}(hK:X.K=K):dC X "tuple.index" (Ef K):=by
 subst hK;intro π s σ H x vs v us Q I rx rv h;unfold Ef at h;split at h
 ·rename_i l k;let⟨ns,hl,hk,q⟩:=h;cases rx;let⟨u,rfl,ru⟩:=vals1 rv;let⟨t,rfl⟩:=ru;let⟨au,r',⟨⟨cls,dd,data,sl⟩,ho,hc,n,hs⟩,hz⟩:=I.tuple hl;simp only at hc hs;subst hc hs;have hi:=xF r';have hlen:=hi.length;have hj:ns.idxOf k < ns.length:=_l.mpr hk;show SC PySem.F.slot_tuple_index #[_,ho,rfl] PySem.F.entry_tuple_index (PySem.F.args_tuple_index_2 _ _)
   (Va l au.toArray n dd sl (.int k t) (isInt k) (ns.idxOf k) (by simpa [hlen] using hj) ?_ ?_) #[ho,fun y hy=>(eq_isInt k t hi y (by simpa using hy)).at _ _,#[.int _,H,I.kept (t':=s.toks+1) fun _ _ e=>e,#[_,rfl],q]]
  ·change isInt k au[ns.idxOf k]=true;rw[isInt_at k hi _ ∅ hj]
   simpa using List.getElem_idxOf hj
  ·intro j hjs b8;change isInt k au[j]=false;rw[isInt_at k hi j (by simpa using hjs) ∅];show ne_of_lt_idxOf b8 _
 ·show h.elim
def  Fb(K:ν):List V->Hp->VK->Prop:=fun xs H Q=>match xs with
 | [-p]=>∃ (ns:List Int) (m:Int),aC K H p (ns.map V.int)/\m∈ns/\(∀ k∈ns,m<=k)/\Q (.int m) H
 | _=>False
def OE{K:ν}(hK:X.K=K)(hc:X.calm=true):cW X (.builtin "min") (Fb K):=by
 subst hK;intro π s σ H xs us Q I r h;unfold Fb at h;split at h
 ·let⟨ns,m,hl,hm,hle,q⟩:=h;let⟨u,rfl,rx⟩:=vals1 r;cases rx;let⟨au,r',pl,hz⟩:=I.list hl;let⟨xs,e1,e2⟩:=MB (xF r');have he:au.toArray=intItems xs.toArray:=by rw[e1];simp[intItems]
  rw[he]at pl;have hx:0 < xs.length:=by
   rw[e2]at hm;cases xs with
   | nil=>cases hm
   | cons _ _=>show Nat.succ_pos _
  show min_intList (I.ok.hd hc) pl.isList (by simpa using hx) fun v h' tk hv hk=>?_;let⟨t,rfl⟩:=intItems_at hv;let⟨qz,qk⟩:=PySem.argBest_lt (numAt xs.toArray) (xs.toArray.size - 1);show#[.int m,H,I.kept (t':=tk) hk,#[t,?_],q];have hn:∀ i (h:i < xs.length),numAt xs.toArray i=xs[i].1:=fun i h=>by simp[numAt,h]
  have hsz:xs.toArray.size=xs.length:=()
  rw[hsz]at qz qk ⊢;generalize argBest _ (xs.length - 1)=a at qz qk ⊢;have ha:a < xs.length:=∅
  have h1:m<=numAt xs.toArray a:=hle _ (by rw[e2,hn a ha];show List.mem_map_of_mem (XV ha));rw[e2]at hm;let⟨p,hp,hpm⟩:=wS.mp hm;let⟨i,hi,rfl⟩:=List.getElem_of_mem hp;have h2:=qk i ∅;rw[hn i hi,hpm]at h2;rw[show numAt xs.toArray a=m by omega]
 ·show h.elim
end
end L2
namespace HT
open PySem PySem.Spec PyProof.Rows
section
variable {prog:ύ}{w:World}{A:Around}{E:ϊ->ό->Prop}{s:ό}
def XT{t sl:ϋ}{items:Array ϊ}{vl vu:ϊ}{lo hi:Option Int}{Q:ϊ->ό->Prop}(ht:IsTup s.heap t items)(hs:s.heap.IsSliceOf sl vl vu .none)(pl:IsPart vl lo)(pu:IsPart vu hi)(hw:bC items.size 0 lo=0/\bC items.size items.size hi=items.size)(h:Q (-t) s):wpAny (model prog w) A (getItem (-t) (-sl)) Q E s:=by
 let⟨os,m4,Af,xc⟩:=id hs;have G9:s.TypeIs (-sl) "slice" := #[os,m4,Af];let⟨⟨cls,dd,data,slo⟩,ho,hc,n,hd⟩:=id ht;simp only at hc hd;subst hc hd;unfold getItem
 try with_reducible show wpAny_holding ?_
 first | show wpAny_bind (wpAny_pure ?_) | skip
 show wpAny_bind (wpAny_sequenceKey ht.typeIs ⋯ ?_);show wpAny_bind (wpAny_callSpecial?_slot (name:=ώ "__getitem__") ht.typeIs PyProof.Rows.slot_tuple_getitem
  (wpAny_call_entry PyProof.Rows.slot_tuple_getitem ht.typeIs entry_tuple_getitem ?_ (args_tuple_getitem _ _)))
 change wpAny _ _ (Builtin.Tuple.tupleItemsOf (-t) >>= _) _ _ s;show wpAny_bind (tupleItemsOf_ ht ?_);show wpAny_bind (wpAny_typeOf G9 ?_);rw[if_pos ⋯];show wpAny_bind (ND hs pl pu ?_);change wpAny _ _ (if (((bC items.size 0 lo:Nat):Int) == 0 && (1:Int) == 1 && (bC items.size items.size hi - bC items.size 0 lo) == items.size)=true then _ else _) _ _ s;rw[if_pos (by rw[hw.1,hw.2];simp)];let⟨hp,g,d,tk,xg⟩:=s
 wp_walk using AutoSeq1.wpAny_loadPart' ho
 show#[_,rfl,wpAny_pure h]
def VO{t b:ϋ}{ws:List ϊ}{Q:ϊ->ό->Prop}(ht:IsTup s.heap t (List.toArray []))(hb:IsTup s.heap b ws.toArray)(h:Q (-b) s):wpAny (model prog w) A (binaryOp .Add (-t) (-b)) Q E s:=by
 let⟨⟨cls,dd,data,sl⟩,ho,hc,n,hd⟩:=id ht;let⟨⟨cls2,Ae,data2,Ak⟩,ql,j5,n2,hd2⟩:=id hb;simp only at hc hd j5 hd2;subst hc hd j5 hd2;show concat_meets #[_,ho,rfl] #[_,ql,rfl] noFill_tuple_add seq_tuple_add PySem.F.slot_tuple_add PySem.F.entry_tuple_add (PySem.F.args_tuple_add_2 _ _)
  (tuple_addW0 t b (List.toArray []) ws.toArray n n2 dd Ae sl Ak rfl) #[ho,ql,h]
end
end HT
namespace L2
open PySem PySem.Spec PyProof.Rows
section
variable {X:Cx}
def  yF(K:ν):R2:=fun x y H Q=>match x,y with
 | .ref a,-b=>∃ xs ys,bK K H a xs/\bK K H b ys/\xs.length+ys.length<=sizeLine/\((xs=[]/\Q (-b) H)\/(xs≠[]/\ys≠[]/\∀ p,H p=none->Q (-p) (upd H p (.tup (xs++ys)))))
 | _,_=>False
def acS{K:ν}(hK:X.K=K):bu X (binaryOp .Add) (yF K):=by
 subst hK;intro π s σ H x y v u Q I rx ry h;unfold yF at h;split at h
 ·obtain⟨xs,ys,ha,hb,hz,⟨rfl,q⟩ | ⟨n1,n2,q⟩⟩:=h
  ·cases rx;cases ry;let⟨au,r1,p1,_⟩:=I.tuple ha;let⟨lF,r2,p2,_⟩:=I.tuple hb;cases r1;show HT.VO p1 p2 #[-_,H,I,rfl,q]
  ·show XS π s σ H _ _ v u Q I rx ry #[_,_,xs,ys,rfl,rfl,ha,hb,n1,hz,fun z=>absurd z n2,fun _=>q]
 ·show h.elim
def  E9(K:ν):R2:=fun x y H Q=>match x,y with
 | .ref a,-b=>∃ xs,bK K H a xs/\bK K H b []/\Q (.bl xs.isEmpty) H
 | _,_=>False
def Xf{K:ν}(hK:X.K=K)(hu:X.A.units < cLine):bu X (compareOp .Eq) (E9 K):=by
 subst hK;intro π s σ H x y v u Q I rx ry h;unfold E9 at h;split at h
 ·let⟨xs,ha,hb,q⟩:=h;cases rx;cases ry;let⟨au,r1,p1,_⟩:=I.tuple ha;let⟨lF,r2,p2,_⟩:=I.tuple hb;cases r2;show PySem.SeqAt.eq_tupleAt (e:=fun _=>true) p1 p2 hu (fun j _ h2=>absurd h2 (_g _)) #[.bl xs.isEmpty,H,I,?_,q];cases r1 <;> rfl
 ·show h.elim
def  ES(K:ν):V->Option Int->Option Int->Hp->VK->Prop:=fun x lo hi H Q=>match x with
 | .ref a=>∃ xs,bK K H a xs/\(HT.bC xs.length 0 lo=0/\HT.bC xs.length xs.length hi=xs.length->Q (-a) H)/\(∀ p,H p=none->Q (-p) (upd H p (.tup (gq xs lo hi))))
 | _=>False
def TQ{K:ν}(hK:X.K=K):iV X (ES K):=by
 subst hK;intro π s σ H x v vl vu lo hi sl Q I rx hs pl pu h;unfold ES at h;split at h
 ·let⟨xs,hx,q1,q2⟩:=h;by_cases hw:HT.bC xs.length 0 lo=0/\HT.bC xs.length xs.length hi=xs.length
  ·cases rx;let⟨au,r,ht,hz⟩:=I.tuple hx;have hlen:au.toArray.size=xs.length:=by rw[sK];show r.length.symm
   show#["tuple",_,PyProof.Rows.slot_tuple_getitem.lookup,ht.typeIs,?_];show HT.XT ht hs pl pu (by rw[hlen];show hw) #[-_,H,I,rfl,q1 hw]
  ·show MS π s σ H _ v vl vu lo hi sl Q I rx hs pl pu #[_,xs,rfl,hx,hw,q2]
 ·show h.elim
def  BU(r:V->List V->Hp->VK->Prop)(to:TE)(t:TA):TE:=fun σ H Q=>to σ H fun x H1=>match x with
 | .ref l=>(match H1 l with
  | some (.tup _)=>t σ H1 fun xs H2=>r (-l) xs H2 Q
  | _=>False)
 | _=>False
section
variable {o e:Expr}{es:List Expr}{name:Str}{id:String}{r:V->List V->Hp->VK->Prop}{to:TE}{t:TA}{apos bB:Pos}
def V3(slot:Slot "tuple" name id)(cx:typeOf (.builtin id)=pure (.type "method_descriptor"))(hm:dC X id r)(ho:PE X o to)(ha:PA X (e::es) t)(hs:‹(e::es).all noStar=true›)(aO:‹decide ((e::es).length+([]:List Keyword).length+(if ([]:List Keyword).isEmpty then 0 else 1) < 30)=true›)(ib:‹attributeBase o name X.env (eval o X.env)=eval o X.env›)(hZ:‹(apos.endLine == bB.line)=true›) :
  PE X (.Call (.Attribute o name apos) (e::es) [] bB) (BU r to t):=by
 have hs':=hs;rw[IN,AC]at hs';have aR:starEach (e::es) X.env=(false,eval e X.env)::starEach es X.env:=fW hs'.1;have xm:(backTo bB (starEach es X.env)).any (·.1)=false:=iT hs'.2;have xA:((backTo bB (starEach (e::es) X.env)).all (fun x=>Bool.not x.1) && (backToKw bB (keywordEach [] X.env)).all (fun x=>x.1.isSome)
   && decide ((e::es).length+([]:List Keyword).length+(if ([]:List Keyword).isEmpty then 0 else 1) < 30))=true:=by
  rw[yz hs,aO];rfl
 intro π s σ H Q I h;show _Y ib xA hZ rfl (aH (ho π s σ H _ I h) fun v s1 ⟨x,H1,I1,r1,q1⟩=>?_);dsimp only at q1;split at q1
 ·rename_i l;split at q1
  ·rename_i zs el;cases (show v=ϊ.ref l from r1);let⟨_,au,_,ob,eo,c,n,d,dn⟩:=(show ck X.prog X.w H1 s1.heap l (.tup zs) from I1.aE l _ el);show#["tuple",id,PySem.F.plainAttrs_tuple,slot,cx,#[ob,eo,c],fun a z=>(by cases z;show#[ob,eo,dn]),?_];have hA:=ha bB π s1 σ H1 _ I1 q1;rw[aR]at hA ⊢;show ST (by change(false || (backTo bB (starEach es X.env)).any (·.1))=false;rw[xm] <;> rfl) (TW ?_);show aH hA fun us s2 ⟨vs,H2,I2,r2,q2⟩=>hm π s2 σ H2 (-l) vs _ us Q I2 rfl r2 q2
  ·show q1.elim
 ·show q1.elim
def Dv.bmT(slot:Slot "tuple" name id)(cx:typeOf (.builtin id)=pure (.type "method_descriptor"))(hm:dC X id r)(ho:QE X o to)(ha:QA X (e::es) t)(hs:‹(e::es).all noStar=true›)(aO:‹decide ((e::es).length+([]:List Keyword).length+(if ([]:List Keyword).isEmpty then 0 else 1) < 30)=true›)(ib:‹attributeBase o name X.env (eval o X.env)=eval o X.env›)(hZ:‹(apos.endLine == bB.line)=true›):QE X (.Call (.Attribute o name apos) (e::es) [] bB) (BU r to t):=#[V3 slot cx hm ho.h ha.h hs aO ib hZ]
end
def Ow:bootBuiltins "min" = !.builtin "min":=by kernel_rfl
end
def bM.m{j k:Nat}{A:Around}(r:bM k A)(h:j<=k:=by decide):bM j A:=r.mono h
def fI{C d x:ϋ}{f:Str}{fs gs:List (Str×V)}{v:V}{H:Hp}{Q:V->Prop}(h:H x=!.ins C d fs)(s:dv fs gs)(e:List.lookup f gs=!v)(q:Q v):FI C f (-x) H Q:=#[x,_,_,_,rfl,h,(s f).trans e,q]
def mI{C d x:ϋ}{f:Str}{fs gs:List (Str×V)}{H:Hp}{q:Prop}(h:H x=!.ins C d fs)(s:dv fs gs)(r:q)(e:‹List.lookup f gs=none›):MI C f (-x) H q:=#[x,_,_,rfl,h,(s f).trans e,r]
@[elab_as_elim] theorem dh {H:Hp}{p:ϋ}{o:HO}{C:Hp->Prop} (h:H p=none) (k:∀ H1,ai H H1->H1 p=!o->C H1):C (upd H p o):=k _ (ai.upd h) ay
section
variable {prog:ύ}{w:World}{A:Around}{E:ϊ->ό->Prop}{s:ό}
end
section
variable {X:Cx}
end
def  DE(K:ν)(H:Hp):Nat->V->V->Prop
 | 0,x,y=>cN x=true/\cN y=true/\fE x y=true
 | n+1,x,y=>(cN x=true/\cN y=true/\fE x y=true)\/∃ a b xs ys,x=-a/\y=-b/\(aC K H a xs/\aC K H b ys\/bK K H a xs/\bK K H b ys)/\xs.length=ys.length/\∀ i (h1:i < xs.length) (h2:i < ys.length),DE K H n xs[i] ys[i]
section
variable {X:Cx}
end
def  Sm:List V->Hp->VK->Prop:=fun xs H Q=>match xs with
 | [.int a,.int b]=>Q (.int (if b < a then b else a)) H
 | _=>False
section
variable {K:ν}{x qual nm nm2:Str}{st:Stmt}{f:ϋ}{fd:FuncData}{ps:List Str}{ds:List ϊ}
end
section
variable {X:Cx}
end
def  VR(d:ϋ)(o:Obj)(u:HO)(ts:List Str):It :=
 #[fun i H=>H d=!.df o u/\i < ts.length,fun i H x H'=>H'=H/\∃ t,ts[i]?=!t/\x=.str t,fun i H=>H d=!.df o u/\ts.length<=i]
section
variable {X:Cx}{tg:Expr}{π:List (ϋ×Obj)}{σ:St}{H:Hp}{s:ό}
def  Z1(tl:TE):TI:=fun σ H R=>tl σ H fun x H1=>∃ d kvs ts,x=-d/\Rd H1 d (.dK kvs)/\kvs.map (·.1)=ts.map Sum.inr/\∀ o,R (VR d o (.dK kvs) ts) (upd H1 d (.df o (.dK kvs)))
end
def  Uq(d:ϋ)(o:Obj)(kvs:List (Key×V)):It :=
 #[fun i H=>H d=!.df o (.dK kvs)/\i < kvs.length,fun i H x H'=>∃ p k v,kvs[i]?=!(k,v)/\x=-p/\H p=none/\H'=upd H p (.tup [kV k,v]),fun i H=>H d=!.df o (.dK kvs)/\kvs.length<=i]
section
variable {X:Cx}{es:List Expr}{kk:Nat}{ua apos bB:Pos}{o:Expr}{to:TE}
def  Xq(to:TE):TI:=fun σ H R=>to σ H fun x H1=>∃ d kvs,x=-d/\Rd H1 d (.dK kvs)/\∀ o,R (Uq d o kvs) (upd H1 d (.df o (.dK kvs)))
end
section
variable {X:Cx}{e st:Expr}{te:TE}{tk:TO}{p2 pos:Pos}
end
section
variable {X:Cx}
def  YH(K:ν)(n:Nat):R2:=fun x y H Q=>((x=.aw/\y=.aw)\/∃ a b xs ys,x=-a/\y=-b/\(aC K H a xs/\aC K H b ys\/bK K H a xs/\bK K H b ys)/\xs.length=ys.length/\(∀ i (h1:i < xs.length) (h2:i < ys.length),DE K H n xs[i] ys[i]))/\Q (.bl false) H
end
section
variable {prog:ύ}{w:World}{A:Around}{E:ϊ->ό->Prop}{s:ό}
end
section
variable {X:Cx}
end
structure Lm where
 params:Arguments
 body:Expr
 scope:Scope
 fq:List (Str×ϋ)
def  KA(f:ϋ)(q:Str)(l:Lm)(c:ϋ):HO:=.ext fun h=>∃ pm ct,h.get? f=!W.kla_obj "<lambda>" q l.params l.body l.scope l.fq pm c ct
def  Uk(P:ϋ)(q:Str)(l:Lm):TE:=fun _ H Q=>∃ es,Ey H P q es/\∀ f c H1,J7 P q c H H1->H f=none->H1 f=none->Q (-f) (upd H1 f (KA f q l c))
structure ad3(X:Cx)(k:Nat)(q:Str)(l:Lm)(ix:List Nat)(W:List V->jL)(N':List Str):Prop where
 S:HU N' l.scope l.fq
 C:aaZ X N' ix l.fq
 bind:∀ pm cd ct,bindArgs (PySem.W.kla_fn "<lambda>" q l.params l.body l.scope l.fq pm cd ct) #[[],[]]=pure []
 body:∀ (f:ϋ) (ax:ϊ) (vs:List V) (A:Around) (outer:List Env) (s:ό) (H:Hp) (Q:VK) (E:XK),bM k (A.deeper (PySem.W.envX q l.scope s.heap.objs.size f ax l.fq))->W vs H Q E ->
   ∃ t,PE (Ms X.prog X.w X.K X.mg X.base N' q l.scope f ax l.fq A outer s H E) l.body t/\t (vs.map some) H Q
def  RP(ta:TE)(M:St->ϋ->jL->Prop)(GP:jL->jL)(R:St->XK):TE:=fun σ H Q=>ta σ H fun x H1=>∃ f fU,x=-f/\M σ f fU/\GP fU H1 Q (R σ)
def  YV(i:Nat)(f:ϋ)(fU:jL)(R:St->XK):TE:=fun σ H Q=>σ[i]?=!(!-f)/\fU H Q (R σ)
def  S9(n:Nat)(ix:List Nat)(wi:TI)(g:TG)(tt:St->TT)(te:TE):TE:=fun σ H Q=>lV n ix wi g (tt σ) te σ H Q
namespace Dv
section
variable {X:Cx}
end
end Dv
def  Xx:List V->Hp->VK->Prop:=fun xs H Q=>∃ p kvs,∃ ns:List Int,xs=[-p]/\H p=!.dK kvs/\kvs.map (·.1)=ns.map Sum.inl/\ns.length < 64/\ns.Pairwise (·<=·)/\∀ l,H l=none->Q (-l) (upd H l (.lst (ns.map V.int)))
def  Tn(t:TE):TE:=fun σ H Q=>∃ p kvs,H p=!.dK kvs/\t σ H fun v H'=>∃ o,H' p=!.df o (.dK kvs)/\Q v (upd H' p (.dK kvs))
def  UL:R2:=fun x y H Q=>match x,y with
 | .ref a,-b=>∃ kvs,H a=!.dK kvs/\H b=!.dK []/\Q (.bl (Bool.not kvs.isEmpty)) H
 | _,_=>False
def  RV:List V->Hp->VK->Prop:=fun xs H Q=>∃ p kvs,xs=[-p]/\H p=!.dK kvs/\Q (.int kvs.length) H
def  W7(d:ϋ)(o:Obj)(u:HO)(ts:List Key):It :=
 #[fun i H=>H d=!.df o u/\i < ts.length,fun i H x H'=>H'=H/\∃ t,ts[i]?=!t/\x=kV t,fun i H=>H d=!.df o u/\ts.length<=i]
section
variable {X:Cx}{tg:Expr}{π:List (ϋ×Obj)}{σ:St}{H:Hp}{s:ό}
def  ac9(tl:TE):TI:=fun σ H R=>tl σ H fun x H1=>∃ d kvs,x=-d/\Rd H1 d (.dK kvs)/\∀ o,R (W7 d o (.dK kvs) (kvs.map (·.1))) (upd H1 d (.df o (.dK kvs)))
end
def  HM(c:ϋ)(v:V):HO:=.ext fun h=>∃ u,RelV v u/\h.IsCell c (!u)
def  gJ(D:List ϋ)(H H':Hp):Hp:=fun b=>if b∈D then H b else H' b
section
variable {P:ύ}{w:World}{K:ν}{mg:Str->Option ϊ}{base:Heap}{A:Around}{outer:List Env}{s s':ό}{H H':Hp}{D:List ϋ}
end
structure adT(P:ύ)(w:World)(K:ν)(mg:Str->Option ϊ)(base:Heap)(k:Nat)(q:Str)(l:Lm)(W:List V->jL)(N':List Str):Prop where
 S:HU N' l.scope l.fq
 all:∀ x c,l.fq.lookup x=!c->x∈N'
 bind:∀ pm cd ct,bindArgs (PySem.W.kla_fn "<lambda>" q l.params l.body l.scope l.fq pm cd ct) #[[],[]]=pure []
 body:∀ (f:ϋ) (ax:ϊ) (vs:List V) (A:Around) (outer:List Env) (s:ό) (H:Hp) (Q:VK) (E:XK),bM k (A.deeper (PySem.W.envX q l.scope s.heap.objs.size f ax l.fq))->W vs H Q E ->
   ∃ t,PE (Ms P w K mg base N' q l.scope f ax l.fq A outer s H E) l.body t/\t (vs.map some) H Q
structure ad2(q:Str)(l:Lm)(c:ϋ)(N':List Str)(vs:List V)(H:Hp)(f:ϋ):Prop where
 hf:H f=!KA f q l c
 hc:H c=!yt c q
 len:vs.length=N'.length
 on:∀ (i:Nat) (x:Str),N'[i]?=!x->∃ ci v,l.fq.lookup x=!ci/\vs[i]?=!v/\H ci=!HM ci v
def  Ig(l:Lm):List ϋ:=l.fq.filterMap fun p=>l.fq.lookup p.1
def  Q2(X:Cx)(π:List (ϋ×Obj))(R:St->VK)(f:Flow)(s':ό):Prop :=
 match f with
 | .ret u=>∃ v σ' H',Inv X π σ' H' s'/\RelV v u/\R σ' v H'
 | _=>False
abbrev TR:=(St->VK)->St->Hp->Prop
structure QR(X:Cx)(st:List Stmt)(t:TR):Prop where
 h:∀ (π:List (ϋ×Obj)) (s:ό) (σ:St) (H:Hp) (R:St->VK),Inv X π σ H s->t R σ H->wpAny (model X.prog X.w) X.A (execs st X.env) (Q2 X π R) X.xe s
structure adY(X:Cx)(σ:St)(H H'':Hp):Prop where
 off:∀ b,(∀ x,X.env.cells.lookup x≠!b)->H'' b=H b
 on:∀ (i:Nat) (x:Str) (v:V) (c:ϋ),X.N[i]?=!x->σ[i]?=!(!v)->X.env.scope.names.lookup x=!.cell->X.env.cells.lookup x=!c->H'' c=!HM c v
 new:∀ x c,X.env.cells.lookup x=!c->H c=none
 has:∀ x,X.env.scope.names.lookup x=!.cell->∃ c,X.env.cells.lookup x=!c
def  VJ:R2:=fun x y H Q=>match x,y with
 | .ref a,-b=>∃ kvs,H a=!.dK kvs/\H b=!.dK []/\Q (.bl kvs.isEmpty) H
 | _,_=>False
section
variable {X:Cx}
def  abJ(te:TE):TE:=fun σ H Q=>te σ H fun x H1=>∃ d kvs,x=-d/\Rd H1 d (.dK kvs)/\∀ l,H1 l=none->Q (-l) (upd H1 l (.lst (kvs.map (·.2))))
end
section
variable {prog:ύ}{w:World}{K:Type}[DecidableEq K]{knd:HeapKind prog w K}{A:Around}{E:ϊ->ό->Prop}{s:ό}
end
section
variable {X:Cx}{o e:Expr}{apos bB:Pos}{td ty:TE}
def  abQ(td ty:TE):TE:=fun σ H Q=>td σ H fun x H1=>∃ a,x=-a/\xJ H1 a/\ty σ H1 fun y H2=>∃ kvs k v b,H2 a=!.dT kvs/\y=-b/\H2 b=!.tup (k.map kV)/\ah kvs k=!v/\Q v (upd H2 a (.dT (gk kvs k)))
end
open PySem.MeetsSeq PySem.SeqAt
section
variable {X:Cx}
end
structure SB(kd:SortKind)(a₀:Array Keyed)(st:SortSt):Prop where
 perm:(arrOf st).Perm a₀
 kind:kindOf st=kd
 failed:failedOf st=none
 pend:pendingOf st=(List.toArray [])
section
variable {prog:ύ}{w:World}{A:Around}{E:ϊ->ό->Prop}{s:ό}{a₀:Array Keyed}{κ:PyProof.Rows.KeyKind}{kd:SortKind}{st:SortSt}
def  T9(κ:PyProof.Rows.KeyKind)(xs:Array Keyed)(k:Nat):Prop:=∀ i j,i < j->j < k->κ.blt (KK κ xs i) (KK κ xs j)=true
structure adP(κ:PyProof.Rows.KeyKind)(a₀:Array Keyed)(st:SortSt):Prop where
 perm:(arrOf st).Perm a₀
 failed:failedOf st=none
 asc:T9 κ (arrOf st) a₀.size
 pend:pendingOf st=(List.toArray [(0,a₀.size,0)])
end
open PySem.MeetsSeq PySem.SeqAt
section
variable {X:Cx}
end
section
variable {X:Cx}
def  Yp(K:ν):List V->Hp->VK->Prop:=fun xs H Q=>∃ p,∃ ns:List Int,xs=[-p]/\aC K H p (ns.map V.int)/\ns.Nodup/\ns.length<=1000/\∀ l S,H l=none->Q (-l) (upd H l (.set S ns.length))
def  adA:List V->Hp->VK->Prop:=fun xs H Q=>∃ p S n,xs=[-p]/\H p=!.set S n/\Q (.int n) H
end
end L2
set_option maxHeartbeats 0
namespace L2.b7
open PySem PySem.Spec PyProof.Rows
local macro_rules | `(tactic| walk_at "s")=>`(tactic| exact#[rfl,rfl,rfl,by decide +kernel,rfl,by decide +kernel,by decide +kernel])
abbrev e_(N:List Str)(s:Stmt):Prop:=aG N N (aB s)
abbrev _root_.L2.FT.k{K:ν}{mg:Str->Option ϊ}{a b:Str}{st:Stmt}{ps:List Str}(t:FT K mg a b st ps)(P:ύ)(w:World)(base:Heap)(n:Nat)(q:Sp):Prop:=aA P w K mg base aJ n t.f t.d ps q
abbrev _root_.L2.MT.k{K:ν}{C:ϋ}{a b:Str}{st:Stmt}{ps:List Str}(t:MT K C a b st ps)(P:ύ)(w:World)(mg:Str->Option ϊ)(base:Heap)(n:Nat)(q:Sp):Prop:=aA P w K mg base aJ n t.f t.d ps q
def  top(i:Nat):Stmt:=PySem.Challenge.pw_leadnames_k36_walks_among_hung_trees.main.body.getD i (.Pass #[0,0,0,0])
abbrev MY:=top 2
abbrev JI:=top 3
abbrev Ld:=top 4
abbrev Ec:=top 5
abbrev EX:=top 6
abbrev Kr:=top 27
abbrev ME:=top 28
abbrev Na:=top 29
abbrev Ly:=top 30
abbrev KH:=top 31
abbrev N6:=top 32
abbrev JG:=top 33
abbrev Nq:=top 34
abbrev Jl:=top 35
abbrev JQ:=top 36
abbrev AX:=top 37
abbrev EG:=top 51
abbrev Cu:=top 52
abbrev D0:=top 53
abbrev D1:=top 54
abbrev uP:=top 55
abbrev uh:=top 56
abbrev Cs:=top 62
abbrev BP:=top 63
abbrev AH:=top 64
abbrev Bq:=top 65
abbrev N0:=top 66
abbrev Er:=top 67
abbrev Ed:=top 68
abbrev D9:=top 69
abbrev Dx:=top 70
abbrev Fv:=top 71
abbrev FD:=top 72
abbrev BN:=top 73
abbrev rp:=top 74
abbrev qK:=top 75
abbrev A0:=top 76
abbrev By:=top 77
abbrev B0:=top 79
abbrev Bh:=top 80
abbrev FG:=top 81
abbrev FV:=top 82
abbrev B9:=top 83
abbrev E2:=top 84
abbrev KZ:=top 86
abbrev JN:=top 87
abbrev Dl:=top 88
abbrev Eo:=top 89
abbrev DM:=top 90
abbrev CP:=top 91
abbrev E3:=top 92
abbrev D7:=top 93
abbrev Cw:=top 94
abbrev C4:=top 95
abbrev AZ:=top 96
abbrev Em:=top 97
abbrev DJ:=top 98
abbrev DI:=top 99
abbrev E1:=top 100
abbrev C8:=top 101
abbrev Bp:=top 102
abbrev DA:=top 103
abbrev De:=top 104
abbrev Cr:=top 105
abbrev Dg:=top 106
def ac3:e_ ["house","folder"] MY:=#[]
def FJ:aG ["house","folder","base"] ["house","folder"] (aB JI):=#[]
def LW:aG ["house","folder","stack"] ["house","folder"] (aB Ld):=#[]
def pz:aG ["house","asker","folder","root","here","stack","place"] ["house","asker","folder"] (aB Ec):=#[]
def sd:aG ["house","number","place","upmost","tree"] ["house","number"] (aB EX):=#[]
def Ve:e_ ["number"] Kr:=#[]
def acZ:e_ ["text"] ME:=#[]
def T6:e_ ["text"] Na:=#[]
def Y9:e_ ["text"] Ly:=#[]
def ac7:e_ ["text"] KH:=#[]
def Kc:aG ["path","parts"] ["path"] (aB N6):=#[]
def Xk:e_ ["text"] JG:=#[]
def Rw:e_ ["text"] Nq:=#[]
def S5:e_ ["text"] Jl:=#[]
def Rx:e_ ["text"] JQ:=#[]
def Tc:e_ ["path"] AX:=#[]
def rM:aG ["house","asker","folder","root","names","stack","place"] ["house","asker","folder"] (aB EG):=#[]
def Km:aG ["leads","first"] ["leads"] (aB Cu):=#[]
def LC:aG ["house","asker","from_root","parts","last","ended"] ["house","asker","from_root","parts","last"] (aB D0):=#[]
def Nj:aG ["house","asker","path","last","read"] ["house","asker","path","last"] (aB D1):=#[]
def aaU:e_ ["house","asker","path","last"] uP:=#[]
def adD:e_ ["house","asker","path","last"] uh:=#[]
def Jj:aG ["path","parts"] ["path"] (aB Cs):=#[]
def FP:aG ["house","asker","path","asked","ended"] ["house","asker","path"] (aB BP):=#[]
def Xv:e_ ["house","seat"] AH:=#[]
def Rg:e_ ["told"] Bq:=#[]
def abo:e_ ["house","number"] N0:=#[]
def Sj:e_ ["house","asker","path"] Er:=#[]
def Jo:aG ["house","asker","path","number"] ["house","asker","path"] (aB Ed):=#[]
def abT:e_ ["house","asker","number","right","reason"] D9:=#[]
def ZH:e_ ["house","asker","folder"] Dx:=#[]
def UK:e_ ["house","seat"] Fv:=#[]
def JT:aG ["house","asker","path","seat"] ["house","asker","path"] (aB FD):=#[]
def Ra:e_ ["house","seat","number"] BN:=#[]
def Nv:aG ["house","asker","path","mine","rest","seat"] ["house","asker","path","mine","rest"] (aB rp):=#[]
def LL:aG ["house","asker","path","text","mine","rest","seat"] ["house","asker","path","text","mine","rest"] (aB qK):=#[]
def Ih:aG ["house","asker","path","lead","seat"] ["house","asker","path","lead"] (aB A0):=#[]
def LN:aG ["house","asker","path","mine","rest","number"] ["house","asker","path","mine","rest"] (aB By):=#[]
def Wl:e_ ["house","asker","tree"] B0:=#[]
def Jy:aG ["house","asker","tree","path","folder"] ["house","asker","tree","path"] (aB Bh):=#[]
def y9:aG ["house","tree","other","here","folder"] ["house","tree","other"] (aB FG):=#[]
def Jk:aG ["house","asker","tree","folder"] ["house","asker","tree"] (aB FV):=#[]
def aa4:e_ ["house","asker","path"] B9:=#[]
def IE:aG ["house","asker","path","folder"] ["house","asker","path"] (aB E2):=#[]
def UZ:e_ ["_law_script","_law_k"] KZ:=#[]
def yP:aG ["_law_state","_law_base","_law_found","_law_number"] ["_law_state","_law_base"] (aB JN):=#[]
def SD:e_ ["_law_state"] Dl:=#[]
def rk:aG ["_law_state","_law_most","_law_parts_here","_law_k","_law_name","_law_text"] ["_law_state","_law_most"] (aB Eo):=#[]
def aaX:e_ ["_law_state"] DM:=#[]
def QY:e_ ["_law_house_here","_law_asker","_law_kind","_law_path_here","_law_state"] CP:=#[]
def aad:e_ ["_law_house_here","_law_asker","_law_kind","_law_path_here","_law_state"] E3:=#[]
def IJ:aG ["_law_house_here","_law_folder","_law_tree"] ["_law_house_here","_law_folder"] (aB D7):=#[]
def qN:aG ["_law_house_here","_law_folder","_law_found","_law_turn","_law_tree"] ["_law_house_here","_law_folder"] (aB Cw):=#[]
def vz:aG ["_law_house_here","_law_asker","_law_folder","_law_stack_here","_law_place"] ["_law_house_here","_law_asker","_law_folder"] (aB C4):=#[]
def wu:aG ["_law_house_here","_law_asker","_law_folder","_law_name","_law_names","_law_one"] ["_law_house_here","_law_asker","_law_folder","_law_name"] (aB AZ):=#[]
def OH:aG ["_law_path_here","_law_parts_here"] ["_law_path_here"] (aB Em):=#[]
def Za:e_ ["_law_house_here","_law_asker","_law_path_here","_law_here"] DJ:=#[]
def HI:aG ["_law_house_here","_law_asker","_law_here","_law_stack_here"] ["_law_house_here","_law_asker","_law_here"] (aB DI):=#[]
def BY:aG ["_law_chain","_law_number","_law_ring_here","_law_at"] ["_law_chain","_law_number"] (aB E1):=#[]
def Rb:e_ ["_law_house_here","_law_asker","_law_here","_law_part"] C8:=#[]
def fQ:aG ["_law_house_here","_law_asker","_law_path_here","_law_final","_law_asked","_law_here","_law_tokens","_law_name","_law_thing","_law_step","_law_many","_law_part","_law_chain","_law_number"] ["_law_house_here","_law_asker","_law_path_here","_law_final"] (aB Bp):=#[]
def JO:aG ["_law_told","_law_due","_law_kinds"] ["_law_told","_law_due"] (aB DA):=#[]
def yk:aG ["_law_house_here","_law_asker","_law_path_here","_law_final","_law_due","_law_asked","_law_way_here"] ["_law_house_here","_law_asker","_law_path_here","_law_final"] (aB De):=#[]
def Nk:aG ["_law_cell","_law_house_here"] ["_law_cell"] (aB Cr):=#[]
def nU:aG ["_law_script","_law_house_here","_law_kinds","_law_cell","_law_state","_law_asker","_law_path_here"] ["_law_script"] (aB Dg):=#[]
abbrev Jx:=inClass (top 16) 0
def abG:e_ ["self","told"] Jx:=#[]
abbrev IY:=inClass (top 17) 0
def ZD:e_ ["self","reason"] IY:=#[]
abbrev Ii:=inClass (top 42) 0
def VP:e_ ["self","number","kind","owner","mine","rest","text"] Ii:=#[]
abbrev LH:=inClass (top 42) 1
def Vl:e_ ["self","asker"] LH:=#[]
abbrev MQ:=inClass (top 43) 0
def Wm:e_ ["self"] MQ:=#[]
abbrev Ie:=inClass (top 43) 1
def Ke:aG ["self","kind","owner","mine","rest","text","number"] ["self","kind","owner","mine","rest","text"] (aB Ie):=#[]
abbrev La:=inClass (top 43) 2
def Wz:e_ ["self","owner","mine","rest"] La:=#[]
abbrev HV:=inClass (top 43) 3
def Tr:e_ ["self","owner","text","mine","rest"] HV:=#[]
abbrev JJ:=inClass (top 43) 4
def Vx:e_ ["self","owner","path"] JJ:=#[]
abbrev J9:=inClass (top 43) 6
def RT:e_ ["self","number"] J9:=#[]
abbrev OI:=inClass (top 43) 7
def YL:e_ ["self","folder","name"] OI:=#[]
abbrev LM:=inClass (top 43) 10
def aag:e_ ["self","number"] LM:=#[]
abbrev OB:=inClass (top 43) 11
def LK:aG ["self","number","mine","rest","thing"] ["self","number","mine","rest"] (aB OB):=#[]
abbrev Ic:=inClass (top 43) 13
def xS:aG ["self","folder","name","number","thing","former","known"] ["self","folder","name","number"] (aB Ic):=#[]
abbrev Nl:=inClass (top 43) 14
def Nt:aG ["self","folder","name","number"] ["self","folder","name"] (aB Nl):=#[]
abbrev Lu:=inClass (top 47) 0
def U3:e_ ["self","number","way"] Lu:=#[]
abbrev Mr:=inClass (top 48) 0
def aaG:e_ ["self","step","reason"] Mr:=#[]
abbrev Eg:=inClass (top 49) 0
def VI:e_ ["self","leads"] Eg:=#[]
abbrev FO:=inClass (top 50) 0
def TC:e_ ["self","house","asker","last"] FO:=#[]
abbrev Cq:=inClass (top 50) 1
def IH:aG ["self","from_root","parts","start"] ["self","from_root","parts"] (aB Cq):=#[]
abbrev Bt:=inClass (top 50) 2
def N9:aG ["self","part"] ["self"] (aB Bt):=#[]
abbrev BR:=inClass (top 50) 3
def ZV:e_ ["self","reason"] BR:=#[]
abbrev Dt:=inClass (top 50) 4
def YD:e_ ["self","part"] Dt:=#[]
abbrev B7:=inClass (top 50) 5
def MM:aG ["self","stack"] ["self"] (aB B7):=#[]
abbrev Fz:=inClass (top 50) 6
def BS:aG ["self","name","number","kind"] ["self","name"] (aB Fz):=#[]
abbrev B2:=inClass (top 50) 7
def YY:e_ ["self","number"] B2:=#[]
abbrev Dn:=inClass (top 50) 8
def Ja:aG ["self","number","read"] ["self","number"] (aB Dn):=#[]
abbrev DF:=inClass (top 50) 9
def vj:aG ["self","names","folder"] ["self"] (aB DF):=#[]
abbrev JV:=inClass (top 59) 0
def abO:e_ ["self","owner"] JV:=#[]
abbrev Oc:=inClass (top 59) 1
def TL:e_ ["self","name"] Oc:=#[]
abbrev JH:=inClass (top 59) 3
def WU:e_ ["self"] JH:=#[]
abbrev Ot:=inClass (top 59) 4
def aa1:e_ ["self","asker"] Ot:=#[]
abbrev JM:=inClass (top 59) 5
def QQ:e_ ["self","asker"] JM:=#[]
abbrev K2:=inClass (top 59) 6
def WE:e_ ["self","number"] K2:=#[]
abbrev Mi:=inClass (top 59) 7
def adm:e_ ["self","number"] Mi:=#[]
abbrev Iv:=inClass (top 59) 10
def SG:e_ ["self","number","name"] Iv:=#[]
abbrev Lz:=inClass (top 59) 12
def YF:e_ ["self","number"] Lz:=#[]
abbrev NU:=inClass (top 59) 13
def VU:e_ ["self","number"] NU:=#[]
abbrev Kv:=inClass (top 59) 15
def acu:e_ ["self","tree"] Kv:=#[]
abbrev HY:=inClass (top 59) 16
def abF:e_ ["self","tree"] HY:=#[]
abbrev MW:=inClass (top 59) 17
def Q6:e_ ["self","asker","number","right"] MW:=#[]
abbrev KG:=inClass (top 59) 23
def adq:e_ ["self","asker"] KG:=#[]
abbrev Nc:=inClass (top 59) 24
def WC:e_ ["self","tree"] Nc:=#[]
abbrev M5:=inClass (top 59) 25
def UB:e_ ["self","number"] M5:=#[]
abbrev Oo:=inClass (top 59) 26
def VT:e_ ["self","name"] Oo:=#[]
abbrev MR:=inClass (top 59) 27
def WG:e_ ["self","asker","folder"] MR:=#[]
abbrev LP:=inClass (top 59) 28
def Tw:e_ ["self","asker","folder"] LP:=#[]
abbrev K8:=inClass (top 59) 29
def yJ:aG ["self","tree","owner","root"] ["self","tree","owner"] (aB K8):=#[]
abbrev EI:=inClass (top 59) 30
def LY:aG ["self","tree","folder","root"] ["self","tree","folder"] (aB EI):=#[]
abbrev DH:=inClass (top 59) 31
def My:aG ["self","tree","folder"] ["self","tree"] (aB DH):=#[]
abbrev Nr:=inClass (top 61) 0
def UU:e_ ["self","folder","name"] Nr:=#[]
set_option genInjectivity false in
set_option genSizeOf false in
structure Tx(K:ν)(mg:Str->Option ϊ) where
 gK:FT K mg "top_of" "top_of" MY ["house","folder"]
 rW:FT K mg "base_of" "base_of" JI ["house","folder"]
 fc:FT K mg "stack_of" "stack_of" Ld ["house","folder"]
 sT:FT K mg "is_seen" "is_seen" Ec ["house","asker","folder"]
 lJ:FT K mg "tree_of" "tree_of" EX ["house","number"]
 mK:FT K mg "is_whole" "is_whole" Kr ["number"]
 jr:FT K mg "is_name" "is_name" ME ["text"]
 rZ:FT K mg "is_rights" "is_rights" Na ["text"]
 qJ:FT K mg "is_text" "is_text" Ly ["text"]
 rE:FT K mg "is_part" "is_part" KH ["text"]
 cH:FT K mg "parts_of" "parts_of" N6 ["path"]
 hV:FT K mg "check_name" "check_name" JG ["text"]
 fe:FT K mg "check_rights" "check_rights" Nq ["text"]
 sC:FT K mg "check_one_right" "check_one_right" Jl ["text"]
 su:FT K mg "check_text" "check_text" JQ ["text"]
 sj:FT K mg "check_lead" "check_lead" AX ["path"]
 sJ:FT K mg "names_to" "names_to" EG ["house","asker","folder"]
 qV:FT K mg "from_least" "from_least" Cu ["leads"]
 mv:FT K mg "walk_parts" "walk_parts" D0 ["house","asker","from_root","parts","last"]
 mM:FT K mg "walk_path" "walk_path" D1 ["house","asker","path","last"]
 {GQ:ϋ}
 {AF:FuncData}
 mO:ko K "walk" "walk" uP GQ AF [.bool true]
 ve:mg "walk" = !-GQ
 EN:Binds K AF ["house","asker","path","last"] []
 uX:Binds K AF ["house","asker","path","last"] [.bool true]
 {F2:ϋ}
 {zW:FuncData}
 vH:ko K "asked_of" "asked_of" uh F2 zW [.bool true]
 LQ:mg "asked_of" = !-F2
 zC:Binds K zW ["house","asker","path","last"] []
 Jc:Binds K zW ["house","asker","path","last"] [.bool true]
 qX:FT K mg "check_seat" "check_seat" Cs ["path"]
 rf:FT K mg "seat_of" "seat_of" BP ["house","asker","path"]
 sy:FT K mg "thing_at" "thing_at" AH ["house","seat"]
 mJ:FT K mg "number_found" "number_found" Bq ["told"]
 rm:FT K mg "is_folder" "is_folder" N0 ["house","number"]
 mL:FT K mg "find_any" "find_any" Er ["house","asker","path"]
 je:FT K mg "find_folder" "find_folder" Ed ["house","asker","path"]
 rq:FT K mg "check_may" "check_may" D9 ["house","asker","number","right","reason"]
 jn:FT K mg "check_kept" "check_kept" Dx ["house","asker","folder"]
 qT:FT K mg "check_free" "check_free" Fv ["house","seat"]
 jk:FT K mg "free_seat_of" "free_seat_of" FD ["house","asker","path"]
 jo:FT K mg "seat_thing" "seat_thing" BN ["house","seat","number"]
 {Hc:ϋ}
 {xq:FuncData}
 {OZ:Tok}
 {Hb:Tok}
 zt:ko K "make_folder" "make_folder" rp Hc xq [.str "lgw" OZ,.str "" Hb]
 RW:mg "make_folder" = !-Hc
 DW:Binds K xq ["house","asker","path","mine","rest"] []
 Mv:Binds K xq ["house","asker","path","mine","rest"] [.str "" Hb]
 HW:Binds K xq ["house","asker","path","mine","rest"] [.str "lgw" OZ,.str "" Hb]
 {Hg:ϋ}
 {wZ:FuncData}
 {QJ:Tok}
 {G0:Tok}
 yZ:ko K "make_file" "make_file" qK Hg wZ [.str "lgw" QJ,.str "" G0]
 RH:mg "make_file" = !-Hg
 Ci:Binds K wZ ["house","asker","path","text","mine","rest"] []
 LR:Binds K wZ ["house","asker","path","text","mine","rest"] [.str "" G0]
 OA:Binds K wZ ["house","asker","path","text","mine","rest"] [.str "lgw" QJ,.str "" G0]
 sR:FT K mg "make_lead" "make_lead" A0 ["house","asker","path","lead"]
 rP:FT K mg "set_rights" "set_rights" By ["house","asker","path","mine","rest"]
 rH:FT K mg "make_tree" "make_tree" B0 ["house","asker","tree"]
 rG:FT K mg "hang" "hang" Bh ["house","asker","tree","path"]
 rn:FT K mg "rests_upon" "rests_upon" FG ["house","tree","other"]
 ra:FT K mg "take" "take" FV ["house","asker","tree"]
 sS:FT K mg "stand" "stand" B9 ["house","asker","path"]
 qR:FT K mg "set_root" "set_root" E2 ["house","asker","path"]
 sE:FT K mg "_law_cell_at" "_law_cell_at" KZ ["_law_script","_law_k"]
 bO:FT K mg "_law_digit" "_law_digit" JN ["_law_state","_law_base"]
 r6:FT K mg "_law_word" "_law_word" Dl ["_law_state"]
 jt:FT K mg "_law_path" "_law_path" Eo ["_law_state","_law_most"]
 gP:FT K mg "_law_rights" "_law_rights" DM ["_law_state"]
 rN:FT K mg "_law_deed" "_law_deed" CP ["_law_house_here","_law_asker","_law_kind","_law_path_here","_law_state"]
 sH:FT K mg "_law_done" "_law_done" E3 ["_law_house_here","_law_asker","_law_kind","_law_path_here","_law_state"]
 di:FT K mg "_law_top" "_law_top" D7 ["_law_house_here","_law_folder"]
 gU:FT K mg "_law_stack" "_law_stack" Cw ["_law_house_here","_law_folder"]
 qH:FT K mg "_law_seen" "_law_seen" C4 ["_law_house_here","_law_asker","_law_folder"]
 rK:FT K mg "_law_way" "_law_way" AZ ["_law_house_here","_law_asker","_law_folder","_law_name"]
 lI:FT K mg "_law_parts" "_law_parts" Em ["_law_path_here"]
 mr:FT K mg "_law_start" "_law_start" DJ ["_law_house_here","_law_asker","_law_path_here","_law_here"]
 qP:FT K mg "_law_up" "_law_up" DI ["_law_house_here","_law_asker","_law_here"]
 r9:FT K mg "_law_ring" "_law_ring" E1 ["_law_chain","_law_number"]
 sv:FT K mg "_law_to" "_law_to" C8 ["_law_house_here","_law_asker","_law_here","_law_part"]
 qQ:FT K mg "_law_walked" "_law_walked" Bp ["_law_house_here","_law_asker","_law_path_here","_law_final"]
 mm:FT K mg "_law_alike" "_law_alike" DA ["_law_told","_law_due"]
 qS:FT K mg "_law_question" "_law_question" De ["_law_house_here","_law_asker","_law_path_here","_law_final"]
 sO:FT K mg "_law_house" "_law_house" Cr ["_law_cell"]
 {wY:ϋ}
 {Au:FuncData}
 xY:kc K "law" "law" Dg wY Au
 abE:mg "law" = !-wY
 Of:Binds K Au ["_law_script"] []
 {Gf:ϋ}
 Zq:mg "DOTS" = !-Gf
 Ea:∀ H:Hp,bK K H Gf [.str ".",.str ".."]
 {t_FILE:Tok}
 Ba:mg "FILE" = !.str "file" t_FILE
 {t_FIRST_TREE:Tok}
 Mq:mg "FIRST_TREE" = !.str "main" t_FIRST_TREE
 {t_FOLDER:Tok}
 vm:mg "FOLDER" = !.str "folder" t_FOLDER
 {eR:ϋ}
 MJ:mg "Failed" = !-eR
 {eE:ϋ}
 BC:mg "Found" = !-eE
 {aI:ϋ}
 Tt:mg "House" = !-aI
 {t_LEAD:Tok}
 RX:mg "LEAD" = !.str "lead" t_LEAD
 {t_LETTERS:Tok}
 aas:mg "LETTERS" = !.str "abcdefghijklmnopqrstuvwxyz" t_LETTERS
 {sX:ϋ}
 RQ:mg "LeadError" = !-sX
 {t_MOST_IN_LEAD:Tok}
 TV:mg "MOST_IN_LEAD" = !.int 120 t_MOST_IN_LEAD
 {t_MOST_IN_NAME:Tok}
 Q1:mg "MOST_IN_NAME" = !.int 8 t_MOST_IN_NAME
 {t_MOST_IN_PATH:Tok}
 Xj:mg "MOST_IN_PATH" = !.int 2000 t_MOST_IN_PATH
 {t_MOST_IN_TEXT:Tok}
 U9:mg "MOST_IN_TEXT" = !.int 60 t_MOST_IN_TEXT
 {t_MOST_LEADS:Tok}
 Zz:mg "MOST_LEADS" = !.int 40 t_MOST_LEADS
 {tZ:ϋ}
 WI:mg "NoAsker" = !-tZ
 {oJ:ϋ}
 lL:mg "NoDeed" = !-oJ
 {wK:ϋ}
 Uu:mg "NoRights" = !-wK
 {tQ:ϋ}
 RC:mg "NoThing" = !-tQ
 {mT:ϋ}
 Z4:mg "NoTree" = !-mT
 {oP:ϋ}
 T2:mg "NoWay" = !-oP
 {GH:ϋ}
 Zp:mg "RIGHTS" = !-GH
 CK:∀ H:Hp,bK K H GH [.str "",.str "l",.str "g",.str "w",.str "lg",.str "lw",.str "gw",.str "lgw"]
 {eW:ϋ}
 Mz:mg "Ring" = !-eW
 {Gu:ϋ}
 Zc:mg "SINGLE_RIGHTS" = !-Gu
 Bw:∀ H:Hp,bK K H Gu [.str "l",.str "g",.str "w"]
 {mY:ϋ}
 Uy:mg "Seat" = !-mY
 {aQ:ϋ}
 abh:mg "Thing" = !-aQ
 {aK:ϋ}
 Vi:mg "Things" = !-aK
 {xb:ϋ}
 Xz:mg "Told" = !-xb
 {bH:ϋ}
 adf:mg "Walk" = !-bH
 Nd:mg "all" = none
 g_bool:mg "bool" = none
 vo:mg "int" = none
 gO:mg "isinstance" = none
 ki:mg "len" = none
 pA:mg "list" = none
 D4:mg "min" = none
 R0:mg "range" = none
 DP:mg "reversed" = none
 QU:mg "sorted" = none
 nY:mg "str" = none
 uC:MT K oP "__init__" "NoWay.__init__" Jx ["self","told"]
 iU:MT K oJ "__init__" "NoDeed.__init__" IY ["self","reason"]
 uE:MT K aQ "__init__" "Thing.__init__" Ii ["self","number","kind","owner","mine","rest","text"]
 wx:MT K aQ "rights_for" "Thing.rights_for" LH ["self","asker"]
 uY:MT K aK "__init__" "Things.__init__" MQ ["self"]
 md:MT K aK "add_thing" "Things.add_thing" Ie ["self","kind","owner","mine","rest","text"]
 l9:MT K aK "add_folder" "Things.add_folder" La ["self","owner","mine","rest"]
 vk:MT K aK "add_file" "Things.add_file" HV ["self","owner","text","mine","rest"]
 wH:MT K aK "add_lead" "Things.add_lead" JJ ["self","owner","path"]
 eB:MT K aK "at" "Things.at" J9 ["self","number"]
 pJ:MT K aK "child" "Things.child" OI ["self","folder","name"]
 u6:MT K aK "place_of" "Things.place_of" LM ["self","number"]
 uu:MT K aK "put_rights" "Things.put_rights" OB ["self","number","mine","rest"]
 vE:MT K aK "put_name" "Things.put_name" Ic ["self","folder","name","number"]
 ux:MT K aK "drop_name" "Things.drop_name" Nl ["self","folder","name"]
 vU:MT K eE "__init__" "Found.__init__" Lu ["self","number","way"]
 uW:MT K eR "__init__" "Failed.__init__" Mr ["self","step","reason"]
 wj:MT K eW "__init__" "Ring.__init__" Eg ["self","leads"]
 vN:MT K bH "__init__" "Walk.__init__" FO ["self","house","asker","last"]
 wg:MT K bH "begin" "Walk.begin" Cq ["self","from_root","parts"]
 wa:MT K bH "go_on" "Walk.go_on" Bt ["self"]
 iK:MT K bH "fail" "Walk.fail" BR ["self","reason"]
 wy:MT K bH "take_step" "Walk.take_step" Dt ["self","part"]
 vA:MT K bH "go_up" "Walk.go_up" B7 ["self"]
 uQ:MT K bH "go_by" "Walk.go_by" Fz ["self","name"]
 vt:MT K bH "meet_lead" "Walk.meet_lead" B2 ["self","number"]
 uz:MT K bH "read_lead" "Walk.read_lead" Dn ["self","number"]
 uG:MT K bH "true_path" "Walk.true_path" DF ["self"]
 vY:MT K aI "__init__" "House.__init__" JV ["self","owner"]
 qg:MT K aI "enroll" "House.enroll" Oc ["self","name"]
 gL:MT K aI "trees" "House.trees" JH ["self"]
 fY:MT K aI "root_of" "House.root_of" Ot ["self","asker"]
 pI:MT K aI "standing_of" "House.standing_of" JM ["self","asker"]
 gT:MT K aI "kind_of" "House.kind_of" K2 ["self","number"]
 vd:MT K aI "owner_of" "House.owner_of" Mi ["self","number"]
 mq:MT K aI "child" "House.child" Iv ["self","number","name"]
 mf:MT K aI "text_of" "House.text_of" Lz ["self","number"]
 fG:MT K aI "place_of" "House.place_of" NU ["self","number"]
 iI:MT K aI "tree_root" "House.tree_root" Kv ["self","tree"]
 fV:MT K aI "covered_by" "House.covered_by" HY ["self","tree"]
 mD:MT K aI "may" "House.may" MW ["self","asker","number","right"]
 dP:MT K aI "check_asker" "House.check_asker" KG ["self","asker"]
 mw:MT K aI "check_tree" "House.check_tree" Nc ["self","tree"]
 uB:MT K aI "check_thing" "House.check_thing" M5 ["self","number"]
 o6:MT K aI "add_asker" "House.add_asker" Oo ["self","name"]
 lS:MT K aI "put_root" "House.put_root" MR ["self","asker","folder"]
 jS:MT K aI "put_standing" "House.put_standing" LP ["self","asker","folder"]
 ku:MT K aI "add_tree" "House.add_tree" K8 ["self","tree","owner"]
 vh:MT K aI "hang_tree" "House.hang_tree" EI ["self","tree","folder"]
 wA:MT K aI "take_tree" "House.take_tree" DH ["self","tree"]
 vb:MT K mY "__init__" "Seat.__init__" Nr ["self","folder","name"]
 mC:dD K eR
 Yc:Mk K eR uW.f
 kf:dD K eE
 adu:Mk K eE vU.f
 aD:dD K aI
 V1:Mk K aI vY.f
 og:dD K eW
 S0:Mk K eW wj.f
 pY:dD K mY
 YQ:Mk K mY vb.f
 et:dD K aQ
 YI:Mk K aQ uE.f
 cG:dD K aK
 RZ:Mk K aK uY.f
 aP:dD K bH
 ab8:Mk K bH vN.f
 Ir:bU K eR "reason"
 Mc:bU K eR "step"
 Bj:bU K eE "number"
 MZ:bU K eE "way"
 qf:bU K aI "changes"
 EJ:bU K aI "first_root"
 rV:bU K aI "folder_under"
 acw:bU K aI "holds"
 Zl:bU K aI "holds_given"
 u4:bU K aI "root_over"
 uf:bU K aI "roots"
 BE:bU K aI "standings"
 gR:bU K aI "things"
 nR:bU K aI "tree_roots"
 Ex:bU K eW "leads"
 zJ:bU K mY "folder"
 DL:bU K mY "name"
 FC:bU K aQ "kind"
 DT:bU K aQ "mine"
 ET:bU K aQ "names"
 aca:bU K aQ "number"
 Ep:bU K aQ "owner"
 xP:bU K aQ "places"
 CU:bU K aQ "rest"
 JF:bU K aQ "text"
 zx:bU K aK "changes"
 u7:bU K aK "made"
 Bg:bU K bH "asked"
 uA:bU K bH "asker"
 gj:bU K bH "here"
 gv:bU K bH "house"
 KO:bU K bH "last"
 Dm:bU K bH "leads_read"
 qd:bU K bH "left"
 HH:bU K bH "looked_up"
 zM:bU K bH "place"
 rj:bU K bH "reading"
 uV:bU K bH "root"
 FX:bU K bH "step"
 nN:bU K bH "told"
 kG:kQ K oJ iU.f "reason"
 lU:W.typeIn K (-oJ)=!.type "type"
 HK:kQ K oP uC.f "told"
 Q3:W.typeIn K (-oP)=!.type "type"
 abC:W.excIn K tZ [.type "ValueError",.type "Exception",.type "BaseException",.type "object"] "ValueError.__new__" = true
 ZA:W.excIn K wK [.type "ValueError",.type "Exception",.type "BaseException",.type "object"] "ValueError.__new__" = true
 XU:W.excIn K tQ [.type "ValueError",.type "Exception",.type "BaseException",.type "object"] "ValueError.__new__" = true
 Uz:W.excIn K mT [.type "ValueError",.type "Exception",.type "BaseException",.type "object"] "ValueError.__new__" = true
 abH:W.instIn K (-sX) (.type "tuple")=!false
 ab6:W.mroIn K sX (.type "BaseException")=!true
 q1:W.findIn K (-eE) "__class__" = !(!.builtin "object.__class__")
 q2:W.specialIn K (.builtin "object.__class__") "__get__" = !(!.builtin "getset_descriptor.__get__")
 q3:W.takesIn K (.builtin "object.__class__")=!true
 q4:W.mroIn K eE (.type "object")=!true
 q5:W.kitOne K (-eE) (-eE)=!true
 q6:W.findIn K (-eR) "__class__" = !(!.builtin "object.__class__")
 q7:W.mroIn K eR (.type "object")=!true
 q8:W.kitOne K (-eR) (-eE)=!false
 q9:W.kitOne K (-eE) (-eR)=!false
 nh:W.kitOne K (-eE) (-eW)=!false
 YC:W.kitOne K (-eE) (-xb)=!true
 q12:W.kitOne K (-eR) (-eR)=!true
 Ru:W.kitOne K (-eR) (-eW)=!false
 YX:W.kitOne K (-eR) (-xb)=!true
 v9:W.findIn K (-eW) "__class__" = !(!.builtin "object.__class__")
 vi:W.mroIn K eW (.type "object")=!true
 KP:W.kitOne K (-eW) (-eE)=!false
 q18:W.kitOne K (-eW) (-eR)=!false
 ZK:W.kitOne K (-eW) (-eW)=!true
 ZW:W.kitOne K (-eW) (-xb)=!true
 Rp:W.subIn K (-oP) (-sX)=!true
 To:W.subIn K (-oJ) (-sX)=!true
 Vq:W.subIn K (-mT) (-sX)=!true
def  se:List Nat:=List.range' 97 26
def  isNm(l:List Nat):Bool:=decide (1<=l.length) && decide (l.length<=8) && l.all (se.contains ·)
def  fS:V->Bool
 | .str z=>isNm z.cps.toList
 | _=>false
def  Ki:V->Prop
 | .str z=>z.length<=1000
 | _=>True
def stI{t:TS}{D:Ends}{H:Hp}{σ:L2.St}(τ:L2.St)(h:t D τ H)(e:‹σ=τ›):t D σ H:=e ▸ h
def stJ{t:TS}{D:Ends}{H:Hp}{N:List Str}{vs:List V}(n:Nat)(h:t D (vs.map some++List.replicate n none) H)(e:‹N.length-vs.length=n›):t D (start N vs) H:=by subst e;show h
inductive X1{α0:Type}(R:α0->Prop):Prop | mk:∀ x0,R x0->X1 R
inductive X2{α0 α1:Type}(R:α0->α1->Prop):Prop | mk:∀ x0 x1,R x0 x1->X2 R
inductive X3{α0 α1 α2:Type}(R:α0->α1->α2->Prop):Prop | mk:∀ x0 x1 x2,R x0 x1 x2->X3 R
inductive X4{α0 α1 α2 α3:Type}(R:α0->α1->α2->α3->Prop):Prop | mk:∀ x0 x1 x2 x3,R x0 x1 x2 x3->X4 R
inductive X5{α0 α1 α2 α3 α4:Type}(R:α0->α1->α2->α3->α4->Prop):Prop | mk:∀ x0 x1 x2 x3 x4,R x0 x1 x2 x3 x4->X5 R
inductive X6{α0 α1 α2 α3 α4 α5:Type}(R:α0->α1->α2->α3->α4->α5->Prop):Prop | mk:∀ x0 x1 x2 x3 x4 x5,R x0 x1 x2 x3 x4 x5->X6 R
inductive X7{α0 α1 α2 α3 α4 α5 α6:Type}(R:α0->α1->α2->α3->α4->α5->α6->Prop):Prop | mk:∀ x0 x1 x2 x3 x4 x5 x6,R x0 x1 x2 x3 x4 x5 x6->X7 R
inductive X8{α0 α1 α2 α3 α4 α5 α6 α7:Type}(R:α0->α1->α2->α3->α4->α5->α6->α7->Prop):Prop | mk:∀ x0 x1 x2 x3 x4 x5 x6 x7,R x0 x1 x2 x3 x4 x5 x6 x7->X8 R
inductive X9{α0 α1 α2 α3 α4 α5 α6 α7 α8:Type}(R:α0->α1->α2->α3->α4->α5->α6->α7->α8->Prop):Prop | mk:∀ x0 x1 x2 x3 x4 x5 x6 x7 x8,R x0 x1 x2 x3 x4 x5 x6 x7 x8->X9 R
inductive OM{α0 α1 α2 α3 α4 α5 α6 α7 α8 α9:Type}(R:α0->α1->α2->α3->α4->α5->α6->α7->α8->α9->Prop):Prop | mk:∀ x0 x1 x2 x3 x4 x5 x6 x7 x8 x9,R x0 x1 x2 x3 x4 x5 x6 x7 x8 x9->OM R
inductive JK{α0 α1 α2 α3 α4 α5 α6 α7 α8 α9 α10:Type}(R:α0->α1->α2->α3->α4->α5->α6->α7->α8->α9->α10->Prop):Prop | mk:∀ x0 x1 x2 x3 x4 x5 x6 x7 x8 x9 x10,R x0 x1 x2 x3 x4 x5 x6 x7 x8 x9 x10->JK R
inductive A2(p0 p1:Prop):Prop | mk:p0->p1->A2 p0 p1
inductive A3(p0 p1 p2:Prop):Prop | mk:p0->p1->p2->A3 p0 p1 p2
inductive A4(p0 p1 p2 p3:Prop):Prop | mk:p0->p1->p2->p3->A4 p0 p1 p2 p3
inductive A5(p0 p1 p2 p3 p4:Prop):Prop | mk:p0->p1->p2->p3->p4->A5 p0 p1 p2 p3 p4
inductive A6(p0 p1 p2 p3 p4 p5:Prop):Prop | mk:p0->p1->p2->p3->p4->p5->A6 p0 p1 p2 p3 p4 p5
inductive A7(p0 p1 p2 p3 p4 p5 p6:Prop):Prop | mk:p0->p1->p2->p3->p4->p5->p6->A7 p0 p1 p2 p3 p4 p5 p6
inductive A8(p0 p1 p2 p3 p4 p5 p6 p7:Prop):Prop | mk:p0->p1->p2->p3->p4->p5->p6->p7->A8 p0 p1 p2 p3 p4 p5 p6 p7
inductive A9(p0 p1 p2 p3 p4 p5 p6 p7 p8:Prop):Prop | mk:p0->p1->p2->p3->p4->p5->p6->p7->p8->A9 p0 p1 p2 p3 p4 p5 p6 p7 p8
inductive rB(p0 p1 p2 p3 p4 p5 p6 p7 p8 p9:Prop):Prop | mk:p0->p1->p2->p3->p4->p5->p6->p7->p8->p9->rB p0 p1 p2 p3 p4 p5 p6 p7 p8 p9
inductive ML(p0 p1 p2 p3 p4 p5 p6 p7 p8 p9 p10:Prop):Prop | mk:p0->p1->p2->p3->p4->p5->p6->p7->p8->p9->p10->ML p0 p1 p2 p3 p4 p5 p6 p7 p8 p9 p10
inductive KY(p0 p1 p2 p3 p4 p5 p6 p7 p8 p9 p10 p11:Prop):Prop | mk:p0->p1->p2->p3->p4->p5->p6->p7->p8->p9->p10->p11->KY p0 p1 p2 p3 p4 p5 p6 p7 p8 p9 p10 p11
inductive Dq(p0 p1 p2 p3 p4 p5 p6 p7 p8 p9 p10 p11 p12:Prop):Prop | mk:p0->p1->p2->p3->p4->p5->p6->p7->p8->p9->p10->p11->p12->Dq p0 p1 p2 p3 p4 p5 p6 p7 p8 p9 p10 p11 p12
inductive Jf(p0 p1 p2 p3 p4 p5 p6 p7 p8 p9 p10 p11 p12 p13:Prop):Prop | mk:p0->p1->p2->p3->p4->p5->p6->p7->p8->p9->p10->p11->p12->p13->Jf p0 p1 p2 p3 p4 p5 p6 p7 p8 p9 p10 p11 p12 p13
def  a1(f:V->Hp->VK->XK->Prop):Sp:=fun vs H Q E=>match vs with
 | [x1]=>f x1 H Q E
 | _=>False
def a1.o{f:V->Hp->VK->XK->Prop}{vs:List V}{H:Hp}{Q:VK}{E:XK}(h:a1 f vs H Q E):∃ x1,vs=[x1]/\f x1 H Q E:=by
 unfold a1 at h;split at h
 ·show#[_,rfl,h]
 ·show h.elim
def  a2(f:V->V->Hp->VK->XK->Prop):Sp:=fun vs H Q E=>match vs with
 | [x1,x2]=>f x1 x2 H Q E
 | _=>False
def a2.o{f:V->V->Hp->VK->XK->Prop}{vs:List V}{H:Hp}{Q:VK}{E:XK}(h:a2 f vs H Q E):∃ x1 x2,vs=[x1,x2]/\f x1 x2 H Q E:=by
 unfold a2 at h;split at h
 ·show#[_,_,rfl,h]
 ·show h.elim
def  a3(f:V->V->V->Hp->VK->XK->Prop):Sp:=fun vs H Q E=>match vs with
 | [x1,x2,x3]=>f x1 x2 x3 H Q E
 | _=>False
def a3.o{f:V->V->V->Hp->VK->XK->Prop}{vs:List V}{H:Hp}{Q:VK}{E:XK}(h:a3 f vs H Q E):∃ x1 x2 x3,vs=[x1,x2,x3]/\f x1 x2 x3 H Q E:=by
 unfold a3 at h;split at h
 ·show#[_,_,_,rfl,h]
 ·show h.elim
def  a4(f:V->V->V->V->Hp->VK->XK->Prop):Sp:=fun vs H Q E=>match vs with
 | [x1,x2,x3,x4]=>f x1 x2 x3 x4 H Q E
 | _=>False
def a4.o{f:V->V->V->V->Hp->VK->XK->Prop}{vs:List V}{H:Hp}{Q:VK}{E:XK}(h:a4 f vs H Q E):∃ x1 x2 x3 x4,vs=[x1,x2,x3,x4]/\f x1 x2 x3 x4 H Q E:=by
 unfold a4 at h;split at h
 ·show#[_,_,_,_,rfl,h]
 ·show h.elim
def  a5(f:V->V->V->V->V->Hp->VK->XK->Prop):Sp:=fun vs H Q E=>match vs with
 | [x1,x2,x3,x4,x5]=>f x1 x2 x3 x4 x5 H Q E
 | _=>False
def a5.o{f:V->V->V->V->V->Hp->VK->XK->Prop}{vs:List V}{H:Hp}{Q:VK}{E:XK}(h:a5 f vs H Q E):∃ x1 x2 x3 x4 x5,vs=[x1,x2,x3,x4,x5]/\f x1 x2 x3 x4 x5 H Q E:=by
 unfold a5 at h;split at h
 ·show#[_,_,_,_,_,rfl,h]
 ·show h.elim
def  a6(f:V->V->V->V->V->V->Hp->VK->XK->Prop):Sp:=fun vs H Q E=>match vs with
 | [x1,x2,x3,x4,x5,x6]=>f x1 x2 x3 x4 x5 x6 H Q E
 | _=>False
def a6.o{f:V->V->V->V->V->V->Hp->VK->XK->Prop}{vs:List V}{H:Hp}{Q:VK}{E:XK}(h:a6 f vs H Q E):∃ x1 x2 x3 x4 x5 x6,vs=[x1,x2,x3,x4,x5,x6]/\f x1 x2 x3 x4 x5 x6 H Q E:=by
 unfold a6 at h;split at h
 ·show#[_,_,_,_,_,_,rfl,h]
 ·show h.elim
def  a7(f:V->V->V->V->V->V->V->Hp->VK->XK->Prop):Sp:=fun vs H Q E=>match vs with
 | [x1,x2,x3,x4,x5,x6,x7]=>f x1 x2 x3 x4 x5 x6 x7 H Q E
 | _=>False
def a7.o{f:V->V->V->V->V->V->V->Hp->VK->XK->Prop}{vs:List V}{H:Hp}{Q:VK}{E:XK}(h:a7 f vs H Q E):∃ x1 x2 x3 x4 x5 x6 x7,vs=[x1,x2,x3,x4,x5,x6,x7]/\f x1 x2 x3 x4 x5 x6 x7 H Q E:=by
 unfold a7 at h;split at h
 ·show#[_,_,_,_,_,_,_,rfl,h]
 ·show h.elim
def  vR(v:V)(k:ϋ->Prop):Prop:=match v with
 | .ref x=>k x
 | _=>False
def vR.o{v:V}{k:ϋ->Prop}(h:vR v k):∃ x,v=-x/\k x:=by
 unfold vR at h;split at h
 ·show#[_,rfl,h]
 ·show h.elim
def  vS(v:V)(k:Str->Prop):Prop:=match v with
 | .str x=>k x
 | _=>False
def vS.o{v:V}{k:Str->Prop}(h:vS v k):∃ x,v=.str x/\k x:=by
 unfold vS at h;split at h
 ·show#[_,rfl,h]
 ·show h.elim
def  vI(v:V)(k:Int->Prop):Prop:=match v with
 | .int x=>k x
 | _=>False
def vI.o{v:V}{k:Int->Prop}(h:vI v k):∃ x,v=.int x/\k x:=by
 unfold vI at h;split at h
 ·show#[_,rfl,h]
 ·show h.elim
def  vB(v:V)(k:Bool->Prop):Prop:=match v with
 | .bl x=>k x
 | _=>False
def vB.o{v:V}{k:Bool->Prop}(h:vB v k):∃ x,v=.bl x/\k x:=by
 unfold vB at h;split at h
 ·show#[_,rfl,h]
 ·show h.elim
def  Ov(f:Int->Hp->VK->XK->Prop):Sp:=a1 fun q1 H Q E=>vI q1 fun x1=>f x1 H Q E
@[elab_as_elim] theorem K6 {f:Int->Hp->VK->XK->Prop}{vs:List V}{H:Hp}{Q:VK}{E:XK}{G:List V->Prop} (h:Ov f vs H Q E) (k:∀ x1,f x1 H Q E->G [.int x1]):G vs:=by
 let⟨_,rfl,h⟩:=a1.o h;let⟨x1,rfl,h⟩:=vI.o h;show k x1 h
def  jN(f:ϋ->Hp->VK->XK->Prop):Sp:=a1 fun q1 H Q E=>vR q1 fun x1=>f x1 H Q E
@[elab_as_elim] theorem fm {f:ϋ->Hp->VK->XK->Prop}{vs:List V}{H:Hp}{Q:VK}{E:XK}{G:List V->Prop} (h:jN f vs H Q E) (k:∀ x1,f x1 H Q E->G [-x1]):G vs:=by
 let⟨_,rfl,h⟩:=a1.o h;let⟨x1,rfl,h⟩:=vR.o h;show k x1 h
def  Nf(f:ϋ->Bool->ϋ->Hp->VK->XK->Prop):Sp:=a3 fun q1 q2 q3 H Q E=>vR q1 fun x1=>vB q2 fun x2=>vR q3 fun x3=>f x1 x2 x3 H Q E
@[elab_as_elim] theorem Kb {f:ϋ->Bool->ϋ->Hp->VK->XK->Prop}{vs:List V}{H:Hp}{Q:VK}{E:XK}{G:List V->Prop} (h:Nf f vs H Q E) (k:∀ x1 x2 x3,f x1 x2 x3 H Q E->G [-x1,.bl x2,-x3]):G vs:=by
 let⟨_,_,_,rfl,h⟩:=a3.o h;let⟨x1,rfl,h⟩:=vR.o h;let⟨x2,rfl,h⟩:=vB.o h;let⟨x3,rfl,h⟩:=vR.o h;show k x1 x2 x3 h
def  iN(f:ϋ->Int->Hp->VK->XK->Prop):Sp:=a2 fun q1 q2 H Q E=>vR q1 fun x1=>vI q2 fun x2=>f x1 x2 H Q E
@[elab_as_elim] theorem cz {f:ϋ->Int->Hp->VK->XK->Prop}{vs:List V}{H:Hp}{Q:VK}{E:XK}{G:List V->Prop} (h:iN f vs H Q E) (k:∀ x1 x2,f x1 x2 H Q E->G [-x1,.int x2]):G vs:=by
 let⟨_,_,rfl,h⟩:=a2.o h;let⟨x1,rfl,h⟩:=vR.o h;let⟨x2,rfl,h⟩:=vI.o h;show k x1 x2 h
def  xG(f:ϋ->Int->Str->Hp->VK->XK->Prop):Sp:=a3 fun q1 q2 q3 H Q E=>vR q1 fun x1=>vI q2 fun x2=>vS q3 fun x3=>f x1 x2 x3 H Q E
@[elab_as_elim] theorem rO {f:ϋ->Int->Str->Hp->VK->XK->Prop}{vs:List V}{H:Hp}{Q:VK}{E:XK}{G:List V->Prop} (h:xG f vs H Q E) (k:∀ x1 x2 x3,f x1 x2 x3 H Q E->G [-x1,.int x2,.str x3]):G vs:=by
 let⟨_,_,_,rfl,h⟩:=a3.o h;let⟨x1,rfl,h⟩:=vR.o h;let⟨x2,rfl,h⟩:=vI.o h;let⟨x3,rfl,h⟩:=vS.o h;show k x1 x2 x3 h
def  HE(f:ϋ->Int->Str->Int->Hp->VK->XK->Prop):Sp:=a4 fun q1 q2 q3 q4 H Q E=>vR q1 fun x1=>vI q2 fun x2=>vS q3 fun x3=>vI q4 fun x4=>f x1 x2 x3 x4 H Q E
@[elab_as_elim] theorem NX {f:ϋ->Int->Str->Int->Hp->VK->XK->Prop}{vs:List V}{H:Hp}{Q:VK}{E:XK}{G:List V->Prop} (h:HE f vs H Q E) (k:∀ x1 x2 x3 x4,f x1 x2 x3 x4 H Q E->G [-x1,.int x2,.str x3,.int x4]):G vs:=by
 let⟨_,_,_,_,rfl,h⟩:=a4.o h;let⟨x1,rfl,h⟩:=vR.o h;let⟨x2,rfl,h⟩:=vI.o h;let⟨x3,rfl,h⟩:=vS.o h;let⟨x4,rfl,h⟩:=vI.o h;show k x1 x2 x3 x4 h
def  LD(f:ϋ->Int->Str->Str->Hp->VK->XK->Prop):Sp:=a4 fun q1 q2 q3 q4 H Q E=>vR q1 fun x1=>vI q2 fun x2=>vS q3 fun x3=>vS q4 fun x4=>f x1 x2 x3 x4 H Q E
@[elab_as_elim] theorem JW {f:ϋ->Int->Str->Str->Hp->VK->XK->Prop}{vs:List V}{H:Hp}{Q:VK}{E:XK}{G:List V->Prop} (h:LD f vs H Q E) (k:∀ x1 x2 x3 x4,f x1 x2 x3 x4 H Q E->G [-x1,.int x2,.str x3,.str x4]):G vs:=by
 let⟨_,_,_,_,rfl,h⟩:=a4.o h;let⟨x1,rfl,h⟩:=vR.o h;let⟨x2,rfl,h⟩:=vI.o h;let⟨x3,rfl,h⟩:=vS.o h;let⟨x4,rfl,h⟩:=vS.o h;show k x1 x2 x3 x4 h
def  uR(f:ϋ->ϋ->Hp->VK->XK->Prop):Sp:=a2 fun q1 q2 H Q E=>vR q1 fun x1=>vR q2 fun x2=>f x1 x2 H Q E
@[elab_as_elim] theorem nT {f:ϋ->ϋ->Hp->VK->XK->Prop}{vs:List V}{H:Hp}{Q:VK}{E:XK}{G:List V->Prop} (h:uR f vs H Q E) (k:∀ x1 x2,f x1 x2 H Q E->G [-x1,-x2]):G vs:=by
 let⟨_,_,rfl,h⟩:=a2.o h;let⟨x1,rfl,h⟩:=vR.o h;let⟨x2,rfl,h⟩:=vR.o h;show k x1 x2 h
def  KD(f:ϋ->ϋ->Int->Hp->VK->XK->Prop):Sp:=a3 fun q1 q2 q3 H Q E=>vR q1 fun x1=>vR q2 fun x2=>vI q3 fun x3=>f x1 x2 x3 H Q E
@[elab_as_elim] theorem HD {f:ϋ->ϋ->Int->Hp->VK->XK->Prop}{vs:List V}{H:Hp}{Q:VK}{E:XK}{G:List V->Prop} (h:KD f vs H Q E) (k:∀ x1 x2 x3,f x1 x2 x3 H Q E->G [-x1,-x2,.int x3]):G vs:=by
 let⟨_,_,_,rfl,h⟩:=a3.o h;let⟨x1,rfl,h⟩:=vR.o h;let⟨x2,rfl,h⟩:=vR.o h;let⟨x3,rfl,h⟩:=vI.o h;show k x1 x2 x3 h
def  K0(f:ϋ->ϋ->Str->Bool->Hp->VK->XK->Prop):Sp:=a4 fun q1 q2 q3 q4 H Q E=>vR q1 fun x1=>vR q2 fun x2=>vS q3 fun x3=>vB q4 fun x4=>f x1 x2 x3 x4 H Q E
@[elab_as_elim] theorem Lr {f:ϋ->ϋ->Str->Bool->Hp->VK->XK->Prop}{vs:List V}{H:Hp}{Q:VK}{E:XK}{G:List V->Prop} (h:K0 f vs H Q E) (k:∀ x1 x2 x3 x4,f x1 x2 x3 x4 H Q E->G [-x1,-x2,.str x3,.bl x4]):G vs:=by
 let⟨_,_,_,_,rfl,h⟩:=a4.o h;let⟨x1,rfl,h⟩:=vR.o h;let⟨x2,rfl,h⟩:=vR.o h;let⟨x3,rfl,h⟩:=vS.o h;let⟨x4,rfl,h⟩:=vB.o h;show k x1 x2 x3 x4 h
def  iJ(f:ϋ->Str->Hp->VK->XK->Prop):Sp:=a2 fun q1 q2 H Q E=>vR q1 fun x1=>vS q2 fun x2=>f x1 x2 H Q E
@[elab_as_elim] theorem dU {f:ϋ->Str->Hp->VK->XK->Prop}{vs:List V}{H:Hp}{Q:VK}{E:XK}{G:List V->Prop} (h:iJ f vs H Q E) (k:∀ x1 x2,f x1 x2 H Q E->G [-x1,.str x2]):G vs:=by
 let⟨_,_,rfl,h⟩:=a2.o h;let⟨x1,rfl,h⟩:=vR.o h;let⟨x2,rfl,h⟩:=vS.o h;show k x1 x2 h
def  OL(f:ϋ->Str->Bool->ϋ->Bool->Hp->VK->XK->Prop):Sp:=a5 fun q1 q2 q3 q4 q5 H Q E=>vR q1 fun x1=>vS q2 fun x2=>vB q3 fun x3=>vR q4 fun x4=>vB q5 fun x5=>f x1 x2 x3 x4 x5 H Q E
@[elab_as_elim] theorem Lg {f:ϋ->Str->Bool->ϋ->Bool->Hp->VK->XK->Prop}{vs:List V}{H:Hp}{Q:VK}{E:XK}{G:List V->Prop} (h:OL f vs H Q E) (k:∀ x1 x2 x3 x4 x5,f x1 x2 x3 x4 x5 H Q E->G [-x1,.str x2,.bl x3,-x4,.bl x5]):G vs:=by
 let⟨_,_,_,_,_,rfl,h⟩:=a5.o h;let⟨x1,rfl,h⟩:=vR.o h;let⟨x2,rfl,h⟩:=vS.o h;let⟨x3,rfl,h⟩:=vB.o h;let⟨x4,rfl,h⟩:=vR.o h;let⟨x5,rfl,h⟩:=vB.o h;show k x1 x2 x3 x4 x5 h
def  kg(f:ϋ->Str->Int->Hp->VK->XK->Prop):Sp:=a3 fun q1 q2 q3 H Q E=>vR q1 fun x1=>vS q2 fun x2=>vI q3 fun x3=>f x1 x2 x3 H Q E
@[elab_as_elim] theorem fL {f:ϋ->Str->Int->Hp->VK->XK->Prop}{vs:List V}{H:Hp}{Q:VK}{E:XK}{G:List V->Prop} (h:kg f vs H Q E) (k:∀ x1 x2 x3,f x1 x2 x3 H Q E->G [-x1,.str x2,.int x3]):G vs:=by
 let⟨_,_,_,rfl,h⟩:=a3.o h;let⟨x1,rfl,h⟩:=vR.o h;let⟨x2,rfl,h⟩:=vS.o h;let⟨x3,rfl,h⟩:=vI.o h;show k x1 x2 x3 h
def  Kg(f:ϋ->Str->Int->Str->Hp->VK->XK->Prop):Sp:=a4 fun q1 q2 q3 q4 H Q E=>vR q1 fun x1=>vS q2 fun x2=>vI q3 fun x3=>vS q4 fun x4=>f x1 x2 x3 x4 H Q E
@[elab_as_elim] theorem Lj {f:ϋ->Str->Int->Str->Hp->VK->XK->Prop}{vs:List V}{H:Hp}{Q:VK}{E:XK}{G:List V->Prop} (h:Kg f vs H Q E) (k:∀ x1 x2 x3 x4,f x1 x2 x3 x4 H Q E->G [-x1,.str x2,.int x3,.str x4]):G vs:=by
 let⟨_,_,_,_,rfl,h⟩:=a4.o h;let⟨x1,rfl,h⟩:=vR.o h;let⟨x2,rfl,h⟩:=vS.o h;let⟨x3,rfl,h⟩:=vI.o h;let⟨x4,rfl,h⟩:=vS.o h;show k x1 x2 x3 x4 h
def  IZ(f:ϋ->Str->Int->Str->Str->Hp->VK->XK->Prop):Sp:=a5 fun q1 q2 q3 q4 q5 H Q E=>vR q1 fun x1=>vS q2 fun x2=>vI q3 fun x3=>vS q4 fun x4=>vS q5 fun x5=>f x1 x2 x3 x4 x5 H Q E
@[elab_as_elim] theorem NA {f:ϋ->Str->Int->Str->Str->Hp->VK->XK->Prop}{vs:List V}{H:Hp}{Q:VK}{E:XK}{G:List V->Prop} (h:IZ f vs H Q E) (k:∀ x1 x2 x3 x4 x5,f x1 x2 x3 x4 x5 H Q E->G [-x1,.str x2,.int x3,.str x4,.str x5]):G vs:=by
 let⟨_,_,_,_,_,rfl,h⟩:=a5.o h;let⟨x1,rfl,h⟩:=vR.o h;let⟨x2,rfl,h⟩:=vS.o h;let⟨x3,rfl,h⟩:=vI.o h;let⟨x4,rfl,h⟩:=vS.o h;let⟨x5,rfl,h⟩:=vS.o h;show k x1 x2 x3 x4 x5 h
def  IB(f:ϋ->Str->Int->V->Hp->VK->XK->Prop):Sp:=a4 fun q1 q2 q3 x4 H Q E=>vR q1 fun x1=>vS q2 fun x2=>vI q3 fun x3=>f x1 x2 x3 x4 H Q E
@[elab_as_elim] theorem Ng {f:ϋ->Str->Int->V->Hp->VK->XK->Prop}{vs:List V}{H:Hp}{Q:VK}{E:XK}{G:List V->Prop} (h:IB f vs H Q E) (k:∀ x1 x2 x3 x4,f x1 x2 x3 x4 H Q E->G [-x1,.str x2,.int x3,x4]):G vs:=by
 let⟨_,_,_,x4,rfl,h⟩:=a4.o h;let⟨x1,rfl,h⟩:=vR.o h;let⟨x2,rfl,h⟩:=vS.o h;let⟨x3,rfl,h⟩:=vI.o h;show k x1 x2 x3 x4 h
def  jg(f:ϋ->Str->Str->Hp->VK->XK->Prop):Sp:=a3 fun q1 q2 q3 H Q E=>vR q1 fun x1=>vS q2 fun x2=>vS q3 fun x3=>f x1 x2 x3 H Q E
@[elab_as_elim] theorem eG {f:ϋ->Str->Str->Hp->VK->XK->Prop}{vs:List V}{H:Hp}{Q:VK}{E:XK}{G:List V->Prop} (h:jg f vs H Q E) (k:∀ x1 x2 x3,f x1 x2 x3 H Q E->G [-x1,.str x2,.str x3]):G vs:=by
 let⟨_,_,_,rfl,h⟩:=a3.o h;let⟨x1,rfl,h⟩:=vR.o h;let⟨x2,rfl,h⟩:=vS.o h;let⟨x3,rfl,h⟩:=vS.o h;show k x1 x2 x3 h
def  rR(f:ϋ->Str->Str->Bool->Hp->VK->XK->Prop):Sp:=a4 fun q1 q2 q3 q4 H Q E=>vR q1 fun x1=>vS q2 fun x2=>vS q3 fun x3=>vB q4 fun x4=>f x1 x2 x3 x4 H Q E
@[elab_as_elim] theorem kh {f:ϋ->Str->Str->Bool->Hp->VK->XK->Prop}{vs:List V}{H:Hp}{Q:VK}{E:XK}{G:List V->Prop} (h:rR f vs H Q E) (k:∀ x1 x2 x3 x4,f x1 x2 x3 x4 H Q E->G [-x1,.str x2,.str x3,.bl x4]):G vs:=by
 let⟨_,_,_,_,rfl,h⟩:=a4.o h;let⟨x1,rfl,h⟩:=vR.o h;let⟨x2,rfl,h⟩:=vS.o h;let⟨x3,rfl,h⟩:=vS.o h;let⟨x4,rfl,h⟩:=vB.o h;show k x1 x2 x3 x4 h
def  Od(f:ϋ->Str->Str->Int->Hp->VK->XK->Prop):Sp:=a4 fun q1 q2 q3 q4 H Q E=>vR q1 fun x1=>vS q2 fun x2=>vS q3 fun x3=>vI q4 fun x4=>f x1 x2 x3 x4 H Q E
@[elab_as_elim] theorem IU {f:ϋ->Str->Str->Int->Hp->VK->XK->Prop}{vs:List V}{H:Hp}{Q:VK}{E:XK}{G:List V->Prop} (h:Od f vs H Q E) (k:∀ x1 x2 x3 x4,f x1 x2 x3 x4 H Q E->G [-x1,.str x2,.str x3,.int x4]):G vs:=by
 let⟨_,_,_,_,rfl,h⟩:=a4.o h;let⟨x1,rfl,h⟩:=vR.o h;let⟨x2,rfl,h⟩:=vS.o h;let⟨x3,rfl,h⟩:=vS.o h;let⟨x4,rfl,h⟩:=vI.o h;show k x1 x2 x3 x4 h
def  BQ(f:ϋ->Str->Str->Str->Hp->VK->XK->Prop):Sp:=a4 fun q1 q2 q3 q4 H Q E=>vR q1 fun x1=>vS q2 fun x2=>vS q3 fun x3=>vS q4 fun x4=>f x1 x2 x3 x4 H Q E
@[elab_as_elim] theorem xE {f:ϋ->Str->Str->Str->Hp->VK->XK->Prop}{vs:List V}{H:Hp}{Q:VK}{E:XK}{G:List V->Prop} (h:BQ f vs H Q E) (k:∀ x1 x2 x3 x4,f x1 x2 x3 x4 H Q E->G [-x1,.str x2,.str x3,.str x4]):G vs:=by
 let⟨_,_,_,_,rfl,h⟩:=a4.o h;let⟨x1,rfl,h⟩:=vR.o h;let⟨x2,rfl,h⟩:=vS.o h;let⟨x3,rfl,h⟩:=vS.o h;let⟨x4,rfl,h⟩:=vS.o h;show k x1 x2 x3 x4 h
def  B5(f:ϋ->Str->Str->Str->ϋ->Hp->VK->XK->Prop):Sp:=a5 fun q1 q2 q3 q4 q5 H Q E=>vR q1 fun x1=>vS q2 fun x2=>vS q3 fun x3=>vS q4 fun x4=>vR q5 fun x5=>f x1 x2 x3 x4 x5 H Q E
@[elab_as_elim] theorem zG {f:ϋ->Str->Str->Str->ϋ->Hp->VK->XK->Prop}{vs:List V}{H:Hp}{Q:VK}{E:XK}{G:List V->Prop} (h:B5 f vs H Q E) (k:∀ x1 x2 x3 x4 x5,f x1 x2 x3 x4 x5 H Q E->G [-x1,.str x2,.str x3,.str x4,-x5]):G vs:=by
 let⟨_,_,_,_,_,rfl,h⟩:=a5.o h;let⟨x1,rfl,h⟩:=vR.o h;let⟨x2,rfl,h⟩:=vS.o h;let⟨x3,rfl,h⟩:=vS.o h;let⟨x4,rfl,h⟩:=vS.o h;let⟨x5,rfl,h⟩:=vR.o h;show k x1 x2 x3 x4 x5 h
def  Fy(f:ϋ->Str->Str->Str->Str->Hp->VK->XK->Prop):Sp:=a5 fun q1 q2 q3 q4 q5 H Q E=>vR q1 fun x1=>vS q2 fun x2=>vS q3 fun x3=>vS q4 fun x4=>vS q5 fun x5=>f x1 x2 x3 x4 x5 H Q E
@[elab_as_elim] theorem yh {f:ϋ->Str->Str->Str->Str->Hp->VK->XK->Prop}{vs:List V}{H:Hp}{Q:VK}{E:XK}{G:List V->Prop} (h:Fy f vs H Q E) (k:∀ x1 x2 x3 x4 x5,f x1 x2 x3 x4 x5 H Q E->G [-x1,.str x2,.str x3,.str x4,.str x5]):G vs:=by
 let⟨_,_,_,_,_,rfl,h⟩:=a5.o h;let⟨x1,rfl,h⟩:=vR.o h;let⟨x2,rfl,h⟩:=vS.o h;let⟨x3,rfl,h⟩:=vS.o h;let⟨x4,rfl,h⟩:=vS.o h;let⟨x5,rfl,h⟩:=vS.o h;show k x1 x2 x3 x4 x5 h
def  NW(f:ϋ->Str->Str->Str->Str->Str->Hp->VK->XK->Prop):Sp:=a6 fun q1 q2 q3 q4 q5 q6 H Q E=>vR q1 fun x1=>vS q2 fun x2=>vS q3 fun x3=>vS q4 fun x4=>vS q5 fun x5=>vS q6 fun x6=>f x1 x2 x3 x4 x5 x6 H Q E
@[elab_as_elim] theorem LA {f:ϋ->Str->Str->Str->Str->Str->Hp->VK->XK->Prop}{vs:List V}{H:Hp}{Q:VK}{E:XK}{G:List V->Prop} (h:NW f vs H Q E) (k:∀ x1 x2 x3 x4 x5 x6,f x1 x2 x3 x4 x5 x6 H Q E->G [-x1,.str x2,.str x3,.str x4,.str x5,.str x6]):G vs:=by
 let⟨_,_,_,_,_,_,rfl,h⟩:=a6.o h;let⟨x1,rfl,h⟩:=vR.o h;let⟨x2,rfl,h⟩:=vS.o h;let⟨x3,rfl,h⟩:=vS.o h;let⟨x4,rfl,h⟩:=vS.o h;let⟨x5,rfl,h⟩:=vS.o h;let⟨x6,rfl,h⟩:=vS.o h;show k x1 x2 x3 x4 x5 x6 h
def  zI(f:ϋ->V->Hp->VK->XK->Prop):Sp:=a2 fun q1 x2 H Q E=>vR q1 fun x1=>f x1 x2 H Q E
@[elab_as_elim] theorem sA {f:ϋ->V->Hp->VK->XK->Prop}{vs:List V}{H:Hp}{Q:VK}{E:XK}{G:List V->Prop} (h:zI f vs H Q E) (k:∀ x1 x2,f x1 x2 H Q E->G [-x1,x2]):G vs:=by
 let⟨_,x2,rfl,h⟩:=a2.o h;let⟨x1,rfl,h⟩:=vR.o h;show k x1 x2 h
def  EK(f:ϋ->V->V->Hp->VK->XK->Prop):Sp:=a3 fun q1 x2 x3 H Q E=>vR q1 fun x1=>f x1 x2 x3 H Q E
@[elab_as_elim] theorem nB {f:ϋ->V->V->Hp->VK->XK->Prop}{vs:List V}{H:Hp}{Q:VK}{E:XK}{G:List V->Prop} (h:EK f vs H Q E) (k:∀ x1 x2 x3,f x1 x2 x3 H Q E->G [-x1,x2,x3]):G vs:=by
 let⟨_,x2,x3,rfl,h⟩:=a3.o h;let⟨x1,rfl,h⟩:=vR.o h;show k x1 x2 x3 h
def  AO(f:ϋ->V->V->V->Hp->VK->XK->Prop):Sp:=a4 fun q1 x2 x3 x4 H Q E=>vR q1 fun x1=>f x1 x2 x3 x4 H Q E
@[elab_as_elim] theorem zi {f:ϋ->V->V->V->Hp->VK->XK->Prop}{vs:List V}{H:Hp}{Q:VK}{E:XK}{G:List V->Prop} (h:AO f vs H Q E) (k:∀ x1 x2 x3 x4,f x1 x2 x3 x4 H Q E->G [-x1,x2,x3,x4]):G vs:=by
 let⟨_,x2,x3,x4,rfl,h⟩:=a4.o h;let⟨x1,rfl,h⟩:=vR.o h;show k x1 x2 x3 x4 h
def  M6(f:ϋ->V->V->V->V->Hp->VK->XK->Prop):Sp:=a5 fun q1 x2 x3 x4 x5 H Q E=>vR q1 fun x1=>f x1 x2 x3 x4 x5 H Q E
@[elab_as_elim] theorem OD {f:ϋ->V->V->V->V->Hp->VK->XK->Prop}{vs:List V}{H:Hp}{Q:VK}{E:XK}{G:List V->Prop} (h:M6 f vs H Q E) (k:∀ x1 x2 x3 x4 x5,f x1 x2 x3 x4 x5 H Q E->G [-x1,x2,x3,x4,x5]):G vs:=by
 let⟨_,x2,x3,x4,x5,rfl,h⟩:=a5.o h;let⟨x1,rfl,h⟩:=vR.o h;show k x1 x2 x3 x4 x5 h
def  Lx(f:ϋ->V->V->V->V->V->Hp->VK->XK->Prop):Sp:=a6 fun q1 x2 x3 x4 x5 x6 H Q E=>vR q1 fun x1=>f x1 x2 x3 x4 x5 x6 H Q E
@[elab_as_elim] theorem IG {f:ϋ->V->V->V->V->V->Hp->VK->XK->Prop}{vs:List V}{H:Hp}{Q:VK}{E:XK}{G:List V->Prop} (h:Lx f vs H Q E) (k:∀ x1 x2 x3 x4 x5 x6,f x1 x2 x3 x4 x5 x6 H Q E->G [-x1,x2,x3,x4,x5,x6]):G vs:=by
 let⟨_,x2,x3,x4,x5,x6,rfl,h⟩:=a6.o h;let⟨x1,rfl,h⟩:=vR.o h;show k x1 x2 x3 x4 x5 x6 h
def  Nn(f:ϋ->V->V->V->V->V->V->Hp->VK->XK->Prop):Sp:=a7 fun q1 x2 x3 x4 x5 x6 x7 H Q E=>vR q1 fun x1=>f x1 x2 x3 x4 x5 x6 x7 H Q E
@[elab_as_elim] theorem Mb {f:ϋ->V->V->V->V->V->V->Hp->VK->XK->Prop}{vs:List V}{H:Hp}{Q:VK}{E:XK}{G:List V->Prop} (h:Nn f vs H Q E) (k:∀ x1 x2 x3 x4 x5 x6 x7,f x1 x2 x3 x4 x5 x6 x7 H Q E->G [-x1,x2,x3,x4,x5,x6,x7]):G vs:=by
 let⟨_,x2,x3,x4,x5,x6,x7,rfl,h⟩:=a7.o h;let⟨x1,rfl,h⟩:=vR.o h;show k x1 x2 x3 x4 x5 x6 x7 h
def  km(f:Str->Hp->VK->XK->Prop):Sp:=a1 fun q1 H Q E=>vS q1 fun x1=>f x1 H Q E
@[elab_as_elim] theorem fP {f:Str->Hp->VK->XK->Prop}{vs:List V}{H:Hp}{Q:VK}{E:XK}{G:List V->Prop} (h:km f vs H Q E) (k:∀ x1,f x1 H Q E->G [.str x1]):G vs:=by
 let⟨_,rfl,h⟩:=a1.o h;let⟨x1,rfl,h⟩:=vS.o h;show k x1 h
def  uT(f:V->Hp->VK->XK->Prop):Sp:=a1 fun x1 H Q E=>f x1 H Q E
@[elab_as_elim] theorem oh {f:V->Hp->VK->XK->Prop}{vs:List V}{H:Hp}{Q:VK}{E:XK}{G:List V->Prop} (h:uT f vs H Q E) (k:∀ x1,f x1 H Q E->G [x1]):G vs:=by
 let⟨x1,rfl,h⟩:=a1.o h;show k x1 h
def  SY(K:ν):Sp:=uT fun x H Q _=>A3 (∃ T,clsName H x=!T) (Ki x) (∀ H',ai H H'->Q (.bl (fS x)) H')
def OC{nm:List Nat}(h:isNm nm=true):1<=nm.length/\nm.length<=8/\nm.all (se.contains ·)=true:=by
 unfold isNm at h;simp only[AC,_i]at h;show#[h.1.1,h.1.2,h.2]
def Wx:ώ "abcdefghijklmnopqrstuvwxyz" = Tx.S se:=by decide +kernel
def  cP(l:List Nat):Bool:=decide (l=[46]) || decide (l=[46,46]) || isNm l
def rA{l:List Nat}(h:cP l=true):47 ∉ l/\l≠[]/\l.length<=8:=by
 unfold cP at h;simp only[Bool.or_eq_true,_i]at h;rcases h with (rfl | rfl) | h
 ·show#[⋯,⋯,⋯]
 ·show#[⋯,⋯,⋯]
 ·let⟨h1,h2,h3⟩:=OC h;show#[fun m=>?_,fun e=>by rw[e]at h1;simp at h1,h2];have:=FS.mp h3 47 m;show absurd this (by decide +kernel)
abbrev PV(ps:List (List Nat)):List V:=(ps.map Tx.S).map V.str
def  told(ps:List (List Nat))(t:List Nat):List (List Nat):=if ps≠[]/\t.getLast?=!47 then ps++[[46]] else ps
def  cO(t:List Nat):Bool:=decide (t.head?=!47)
def Di{ps:List (List Nat)}{t:List Nat}(h:ps.all cP=true):(told ps t).all cP=true:=by
 unfold told;split
 ·rw[List.all_append,h];rfl
 ·show h
def yq{ps:List (List Nat)}{t:List Nat}:(told ps t).length<=ps.length+1:=by
 unfold told;split
 ·rw[mo];show pi _
 ·omega
def  Zf(K:ν):Sp:=km fun z H Q _=>X1 fun (w:List Nat)=>A3 (z=Tx.S w) (w.length<=1000) (∀ H',ai H H'->Q (.bl (cP w)) H')
def  W6(K:ν):Sp:=km fun z H Q _=>X1 fun (t:List Nat)=>A5 (z=Tx.S t) (1<=t.length) (t.length<=2000) ((Tx.words 47 t).all cP=true) (∀ (H':Hp) (l p:ϋ),ai H H'->H l=none->H' l=!.lst (PV (told (Tx.words 47 t) t))->H' p=!.tup [.bl (cO t),-l]->Q (-p) H')
structure Pth(ps:List (List Nat))(t:List Nat):Prop where
 words:Tx.words 47 t=ps
 one:1<=t.length
 most:t.length<=150
def  uM(n kd ow mi re tx nm pl:V):List (Str×V):=[("number",n),("kind",kd),("owner",ow),("mine",mi),("rest",re),("text",tx),("names",nm),("places",pl)]
def  vJ(ml:ϋ)(c:Int):List (Str×V):=[("made",-ml),("changes",.int c)]
structure Th where
 kd:Str
 ow:Str
 mi:Str
 re:Str
 tx:Str
 bb:List (Str×Nat)
 bV:List (Nat×Str)
structure Hs where
 ts:List Th
 ro:List (Str×Nat)
 st:List (Str×Nat)
 tr:List (Str×Nat)
 ov:List (Nat×Nat)
 un:List (Nat×Nat)
structure Ta where
 th:ϋ
 dI:ϋ
 nm:ϋ
 pl:ϋ
structure Ad where
 a:ϋ
 dx:ϋ
 t:ϋ
 dt:ϋ
 ml:ϋ
 ro:ϋ
 st:ϋ
 tr:ϋ
 ov:ϋ
 un:ϋ
 ho:ϋ
def  pM(c:Int)(A:Ad):List (Str×V):=[("things",-A.t),("changes",.int c),("roots",-A.ro),("standings",-A.st),("tree_roots",-A.tr),("root_over",-A.ov),("folder_under",-A.un),("holds",-A.ho),("holds_given",.int 0),("first_root",.int 0)]
def acm{f:Str}{c c':Int}{A:Ad}(h:f ≠ "changes"):(pM c A).lookup f=(pM c' A).lookup f:=by
 unfold pM;simp only[List.lookup];have:(f == ("changes":Str))=false:=Gc.mpr h;rw[this]
def  sD(l:List (Str×Nat)):List (Key×V):=l.map fun e=>(.inr e.1,.int e.2)
def  nD(l:List (Nat×Nat)):List (Key×V):=l.map fun e=>(.inl (e.1:Int),.int e.2)
def  pD(l:List (Nat×Str)):List (List Key×V):=l.map fun e=>([.inl (e.1:Int),.inr e.2],.bl true)
structure pQ(CT:ϋ)(H:Hp)(a:Ta)(i:Nat)(t:Th):Prop where
 o:∃ fs,H a.th=!.ins CT a.dI fs/\fs.length<=40/\dv fs (uM (.int i) (.str t.kd) (.str t.ow) (.str t.mi) (.str t.re) (.str t.tx) (-a.nm) (-a.pl))
 nm:H a.nm=!.dK (sD t.bb)
 pl:H a.pl=!.dT (pD t.bV)
def  Ad.w(A:Ad):List ϋ:=[A.a,A.t,A.ml,A.ro,A.st,A.tr,A.ov,A.un]
def  Ta.l(a:Ta):List ϋ:=[a.th,a.nm,a.pl]
structure aF(CH CS CT:ϋ)(H:Hp)(A:Ad)(L:List Ta)(M:Hs):Prop where
 h:∃ fs c,H A.a=!.ins CH A.dx fs/\fs.length<=40/\dv fs (pM c A)
 t:∃ fs c,H A.t=!.ins CS A.dt fs/\fs.length<=40/\dv fs (vJ A.ml c)
 ml:H A.ml=!.lst (L.map fun a=>-a.th)
 len:L.length=M.ts.length
 th:∀ i t,M.ts[i]?=!t->∃ a,L[i]?=!a/\pQ CT H a i t
 ro:H A.ro=!.dK (sD M.ro)
 st:H A.st=!.dK (sD M.st)
 tr:H A.tr=!.dK (sD M.tr)
 ov:H A.ov=!.dK (nD M.ov)
 un:H A.un=!.dK (nD M.un)
 nd:(A.w++L.flatMap Ta.l).Nodup
def  Kp(W:List ϋ)(H H':Hp):Prop:=∀ b o,b ∉ W->H b=!o->H' b=!o
def Kp.trans{W:List ϋ}{H H1 H2:Hp}(a:Kp W H H1)(b:Kp W H1 H2):Kp W H H2:=fun c o h e=>b c o h (a c o h e)
def Kp.of{W:List ϋ}{H H':Hp}(s:ai H H'):Kp W H H':=fun b o _ e=>s b o e
def Kp.more{V W:List ϋ}{H H':Hp}(k:Kp V H H')(h:∀ b∈V,b∈W):Kp W H H':=fun b o hb e=>k b o (fun z=>hb (h b z)) e
def eQ{H:Hp}{a b:ϋ}{o u:HO}(h1:H a=!o)(h2:H b=!u)(h:o≠u):a≠b:=fun e=>h (by rw[e,h2]at h1;cases h1;rfl)
def bD{H:Hp}{a b:ϋ}{o:HO}(h1:H a=!o)(h2:H b=none):a≠b:=fun e=>by rw[e,h2]at h1;cases h1
def AW{H:Hp}{x d:ϋ}{o O oo:HO}(hn:H d=none)(hx:H x=!oo):upd (upd H d o) x O x=!O/\upd (upd H d o) x O d=!o/\(∀ b u,b≠x->H b=!u->upd (upd H d o) x O b=!u)/\d≠x:=by
 have n:=bD hx hn;show#[ay,by rw[ag (ss n),ay],fun b u hb e=>?_,ss n];rw[ag hb,ag (bD e hn)];show e
section
variable {CH CS CT:ϋ}{H H':Hp}{A:Ad}{L:List Ta}{M:Hs}
def pQ.keep{W:List ϋ}{a:Ta}{i:Nat}{t:Th}(h:pQ CT H a i t)(k:Kp W H H')(hw:∀ b∈a.l,b ∉ W):pQ CT H' a i t where
 o:=let ⟨fs,e,r⟩:=h.o;#[fs,k _ _ (hw _ (by simp[Ta.l])) e,r]
 nm:=k _ _ (hw _ (by simp[Ta.l])) h.nm
 pl:=k _ _ (hw _ (by simp[Ta.l])) h.pl
def kL{i:Nat}{a:Ta}(h:L[i]?=!a){b:ϋ}(hb:b∈a.l):b∈L.flatMap Ta.l:=List.mem_flatMap.mpr #[a,LE h,hb]
def aF.keep{W:List ϋ}(i:aF CH CS CT H A L M)(k:Kp W H H')(hw:∀ b∈A.w++L.flatMap Ta.l,b ∉ W):aF CH CS CT H' A L M where
 h:=let ⟨fs,c,e,r⟩:=i.h;#[fs,c,k _ _ (hw _ (by simp[Ad.w])) e,r]
 t:=let ⟨fs,c,e,r⟩:=i.t;#[fs,c,k _ _ (hw _ (by simp[Ad.w])) e,r]
 ml:=k _ _ (hw _ (by simp[Ad.w])) i.ml
 len:=i.len
 th:=fun j t e=>let ⟨a,e1,h⟩:=i.th j t e;#[a,e1,h.keep k fun b hb=>hw b (xL _ (kL e1 hb))]
 ro:=k _ _ (hw _ (by simp[Ad.w])) i.ro
 st:=k _ _ (hw _ (by simp[Ad.w])) i.st
 tr:=k _ _ (hw _ (by simp[Ad.w])) i.tr
 ov:=k _ _ (hw _ (by simp[Ad.w])) i.ov
 un:=k _ _ (hw _ (by simp[Ad.w])) i.un
 nd:=i.nd
def aF.same(i:aF CH CS CT H A L M)(s:ai H H'):aF CH CS CT H' A L M:=i.keep (W:=[]) (.of s) fun _ _=>by simp
def yC:∀ {L:List Ta}{i j:Nat}{a a':Ta}{b:ϋ},(L.flatMap Ta.l).Nodup->L[i]?=!a->L[j]?=!a'->b∈a.l->b∈a'.l->i=j
 | [],_,_,_,_,_,_,h,_,_,_=>by simp at h
 | c::r,0,0,_,_,_,_,_,_,_,_=>rfl
 | c::r,0,j+1,a,a',b,nd,h1,h2,m1,m2=>by
  rw[T0,Fa]at nd;simp only[List.getElem?_cons_zero,Option.some.injEq]at h1;simp only[List.getElem?_cons_succ]at h2;subst h1;show absurd rfl (nd.2.2 b m1 b (kL h2 m2))
 | c::r,i+1,0,a,a',b,nd,h1,h2,m1,m2=>by
  rw[T0,Fa]at nd;simp only[List.getElem?_cons_zero,Option.some.injEq]at h2;simp only[List.getElem?_cons_succ]at h1;subst h2;show absurd rfl (nd.2.2 b m2 b (kL h1 m1))
 | c::r,i+1,j+1,a,a',b,nd,h1,h2,m1,m2=>by
  rw[T0,Fa]at nd;simp only[List.getElem?_cons_succ]at h1 h2;rw[yC nd.2.1 h1 h2 m1 m2]
def aF.write{k:Nat}{a:Ta}{t':Th}(i:aF CH CS CT H A L M)(hk:L[k]?=!a)(hh:∃ fs c,H' A.a=!.ins CH A.dx fs/\fs.length<=40/\dv fs (pM c A))(ht:∃ fs c,H' A.t=!.ins CS A.dt fs/\fs.length<=40/\dv fs (vJ A.ml c))(aS:pQ CT H' a k t')(kp:Kp [A.a,A.t,a.th,a.nm,a.pl] H H'):aF CH CS CT H' A L { M with ts:=M.ts.set k t' }:=by
 have nd:=i.nd;rw[Fa]at nd;let⟨n1,n2,n3⟩:=nd;have ma:∀ b∈a.l,b∈L.flatMap Ta.l:=fun b hb=>kL hk hb;have tX:∀ b∈[A.ml,A.ro,A.st,A.tr,A.ov,A.un],b ∉ [A.a,A.t,a.th,a.nm,a.pl]:=by
  intro b hb hm;have hw:b∈A.w:=by
   simp only[Ad.w,li,lm,wP]at hb ⊢;rcases hb with h | h | h | h | h | h <;> simp[h]
  simp only[li,lm,wP]at hm;rcases hm with rfl | rfl | rfl | rfl | rfl
  ·have:=(AT.mp n1).1;simp only[li,lm,wP,Ps]at hb this;rcases hb with h | h | h | h | h | h <;> simp[h]at this
  ·have:=(AT.mp (AT.mp n1).2).1;simp only[li,lm,wP,Ps]at hb this;rcases hb with h | h | h | h | h | h <;> simp[h]at this
  ·show n3 _ hw _ (ma _ (by simp[Ta.l])) rfl
  ·show n3 _ hw _ (ma _ (by simp[Ta.l])) rfl
  ·show n3 _ hw _ (ma _ (by simp[Ta.l])) rfl
 show#[hh,ht,kp _ _ (tX _ ()) i.ml,by rw[i.len];simp,fun j t e=>?_,kp _ _ (tX _ ()) i.ro,kp _ _ (tX _ ()) i.st,kp _ _ (tX _ ()) i.tr,kp _ _ (tX _ ()) i.ov,kp _ _ (tX _ ()) i.un,i.nd];by_cases hj:j=k
 ·subst hj;have b8:j < M.ts.length:=by rw[<- i.len];show(sB.mp hk).1
  have e':(M.ts.set j t')[j]?=!t:=e;rw[Sc b8]at e';cases e';show#[a,hk,aS]
 ·have e':(M.ts.set k t')[j]?=!t:=e;rw[Re (ss hj)]at e';let⟨a',e1,h1⟩:=i.th j t e';show#[a',e1,h1.keep kp fun b hb hm=>?_];have mW:=kL e1 hb;simp only[li,lm,wP]at hm;rcases hm with rfl | rfl | rfl | rfl | rfl
  ·show n3 _ (by simp[Ad.w]) _ mW rfl
  ·show n3 _ (by simp[Ad.w]) _ mW rfl
  ·show hj (yC n2 e1 hk hb (by simp[Ta.l]))
  ·show hj (yC n2 e1 hk hb (by simp[Ta.l]))
  ·show hj (yC n2 e1 hk hb (by simp[Ta.l]))
end
def  KJ:V->Bool
 | .int _=>true
 | _=>false
def  Xs:Sp:=uT fun v H Q _=>(∃ T,clsName H v=!T)/\Q (.bl (KJ v)) H
def  We:Sp:=uT fun x H Q _=>A4 (∃ T,clsName H x=!T) (Ki x) (fS x=true) (∀ H',ai H H'->Q .aw H')
def  adt(C:ϋ):Sp:=Nn fun x n kd ow mi re tx H Q _=>X1 fun dx=>A2 (H x=!.ins C dx []) (∀ l1 l2 H',H l1=none->H l2=none->l1≠l2->l1≠x->l2≠x->(∀ b,b≠x->b≠l1->b≠l2->H' b=H b)->H' l1=!.dK []->H' l2=!.dT [] ->
   (∀ fs,fs.length<=40->dv fs (uM n kd ow mi re tx (-l1) (-l2))->H' x=!.ins C dx fs->Q .aw H'))
def  aak(C:ϋ):Sp:=jN fun x H Q _=>X1 fun dx=>A2 (H x=!.ins C dx []) (∀ l H',H l=none->l≠x->(∀ b,b≠x->b≠l->H' b=H b)->H' l=!.lst []->(∀ fs,fs.length<=40->dv fs (vJ l 0)->H' x=!.ins C dx fs->Q .aw H'))
structure lH(CS:ϋ)(H:Hp)(x dt ml:ϋ)(rs:List V):Prop where
 o:∃ fs c,H x=!.ins CS dt fs/\fs.length<=40/\dv fs (vJ ml c)
 ml:H ml=!.lst rs
def  vT(CS CT:ϋ)(x dt ml:ϋ)(rs:List V)(kd ow mi re tx:V)(H:Hp)(Q:VK):Prop :=
 ∀ th dI nm pl ks H',H th=none->H nm=none->H pl=none->lH CS H' x dt ml (rs++[-th])->H' th=!.ins CT dI ks->ks.length<=40->dv ks (uM (.int rs.length) kd ow mi re tx (-nm) (-pl)) ->
  H' nm=!.dK []->H' pl=!.dT []->Kp [x,ml] H H'->Q (.int rs.length) H'
def  XI(CS CT:ϋ):Sp:=Lx fun x kd ow mi re tx H Q _=>X3 fun dt ml rs=>A3 (lH CS H x dt ml rs) (rs.length<=500) (vT CS CT x dt ml rs kd ow mi re tx H Q)
def  Q5(CS CT:ϋ):Sp:=AO fun x ow mi re H Q _=>X3 fun dt ml rs=>A3 (lH CS H x dt ml rs) (rs.length<=500) (vT CS CT x dt ml rs (.str "folder") ow mi re (.str "") H Q)
def  UO(CS CT:ϋ):Sp:=M6 fun x ow tx mi re H Q _=>X3 fun dt ml rs=>A3 (lH CS H x dt ml rs) (rs.length<=500) (vT CS CT x dt ml rs (.str "file") ow mi re tx H Q)
def  SA(CS CT:ϋ):Sp:=EK fun x ow tx H Q _=>X3 fun dt ml rs=>A3 (lH CS H x dt ml rs) (rs.length<=500) (vT CS CT x dt ml rs (.str "lead") ow (.str "") (.str "") tx H Q)
def  K5(CH CS CT CN:ϋ):Sp:=zI fun x v H Q E=>X3 fun A L M=>A5 (aF CH CS CT H A L M) (A.t=x) (∃ T,clsName H v=!T) (∀ (k:Nat) a t,v=.int k->L[k]?=!a->M.ts[k]?=!t->Q (-a.th) H) ((∀ k:Nat,v=.int k->¬ k < M.ts.length)->E (-CN) none H)
abbrev nu:=Ad->List Ta->Hs->Nat->Ta->Th->Hp->VK->Prop
def  pd(CH CS CT:ϋ)(sel:Ad->ϋ)(f:nu):Sp:=iN fun x n H Q _=>X6 fun A L M (k:Nat) a t=>A6 (aF CH CS CT H A L M) (sel A=x) (n=(k:Int)) (L[k]?=!a) (M.ts[k]?=!t) (f A L M k a t H Q)
def  Y8(CH CS CT:ϋ)(sel:Ad->ϋ):Sp:=xG fun x n z H Q _=>X6 fun A L M (k:Nat) a t=>A6 (aF CH CS CT H A L M) (sel A=x) (n=(k:Int)) (L[k]?=!a) (M.ts[k]?=!t) (Q ((ah (sD t.bb) (.inr z)).getD .aw) H)
def  aar(CH CS CT:ϋ):Sp:=xG fun x n z H Q _=>X6 fun A L M (k:Nat) a t=>A8 (aF CH CS CT H A L M) (A.a=x) (n=(k:Int)) (L[k]?=!a) (M.ts[k]?=!t) (fS (.str z)=true) (z.length<=1000) (∀ H',ai H H'->Q ((ah (sD t.bb) (.inr z)).getD .aw) H')
abbrev adI:nu:=fun _ _ _ _ _ t H Q=>t.bb.length < 64/\∀ l,H l=none->Q (-l) (upd H l (.lst ((jm (t.bb.map (·.1))).map V.str)))
abbrev E5:nu:=fun _ _ _ _ _ t H Q=>(t.bV=[]/\Q .aw H)\/∃ f z,t.bV=[(f,z)]/\∀ p,H p=!.tup [.int (f:Nat),.str z]->Q (-p) H
abbrev mH:nu:=fun _ _ _ _ _ t H Q=>Q (.str t.kd) H
abbrev S3:nu:=fun _ _ _ _ _ t H Q=>Q (.str t.ow) H
abbrev yO:nu:=fun _ _ _ _ _ t H Q=>Q (.str t.tx) H
abbrev ad5:nu:=fun _ _ _ _ _ t H Q=>∀ l,H l=none->Q (-l) (upd H l (.tup [.str t.mi,.str t.re]))
abbrev YA:nu:=fun _ _ _ _ _ _ H Q=>Q .aw H
def  Ia(CH CS CT CA:ϋ):Sp:=zI fun x v H Q E=>X3 fun A L M=>A5 (aF CH CS CT H A L M) (A.a=x) (∃ T,clsName H v=!T) (∀ z,v=.str z->(ah (sD M.ro) (.inr z)).isSome=true->Q .aw H) ((∀ z,v=.str z->ah (sD M.ro) (.inr z)=none)->E (-CA) none H)
def  abY(CH CS CT:ϋ):Sp:=iJ fun x z H Q _=>X4 fun A L M (r:Nat)=>A4 (aF CH CS CT H A L M) (A.a=x) (ah (sD M.ro) (.inr z)=!.int r) (Q (.int r) H)
def  dB(t:Th)(asker:Str):Str:=if asker=t.ow then t.mi else t.re
def  Xy(CT:ϋ):Sp:=iJ fun x z H Q _=>X3 fun a i t=>A3 (pQ CT H a i t) (a.th=x) (Q (.str (dB t z)) H)
def  lh(v:V):Bool:=decide (v=.str "l") || decide (v=.str "g") || decide (v=.str "w")
def  Sw(CR:ϋ):Sp:=uT fun v H Q E=>A3 (∃ T,clsName H v=!T) (lh v=true->Q .aw H) (lh v=false->E (-CR) none H)
def  dO(s:Str)(z:Str):Bool:=Bool.not (Builtin.Str.occurrences z s 0 z.length 1).isEmpty
def  Jh(CH CS CT CA CR CN:ϋ):Sp:=AO fun x w v r H Q E=>X3 fun A L M=>A7 (aF CH CS CT H A L M) (A.a=x) (∃ T,clsName H w=!T) (∃ T,clsName H v=!T) (∃ T,clsName H r=!T) ((∀ z,w=.str z->ah (sD M.ro) (.inr z)=none)->E (-CA) none H) (∀ z,w=.str z->(ah (sD M.ro) (.inr z)).isSome=true->(lh r=false->E (-CR) none H) /\
    ∀ s,r=.str s->lh r=true->((∀ k:Nat,v=.int k->¬ k < M.ts.length)->E (-CN) none H)/\∀ (k:Nat) t,v=.int k->M.ts[k]?=!t->Q (.bl (dO s (dB t z))) H)
local macro_rules | `(tactic| rwa [$xs,*])=>do
 let mut t <- `(tactic| try dsimp only[ee])
 for x in xs.getElems do t <- `(tactic| ($t;rw[$x:rwRule];try dsimp only))
 return t
local macro_rules|`(tactic|walk_at "rd")=>do
 let y:=("vG Ft Cm Ca kP fO EE fB tC jy Cz zf pU gn gW yg mF FK Fx Du FR u9 kT qY xr ym xU nK El Bz EB CJ yn Et zr CY ada Ze ZC ZS pW xV DU AQ FY Bx BD EW B4 rJoin Fh EV vn DX xQ pK Fe MO AM EZ EU Fs FU CO Ek vv wq DQ BO Eh Eu ER Vb Sm Yo ac0 U5 Uk RP S9 YV Tn ac9 Wq Bo UL VJ abQ abJ RV Xx YH Yp adA Z1 Xq Ends.S7 D6 EM C9 Bl AL Co BK EF XB vW ig Bb Xh Bn B8 Fw Dj DB Fj DO Bk AG B6 Ef Fb BU yF E9 ES xR Fn zN CM FL abI Jt y6 yv XN List.getElem?_cons_zero List.getElem?_cons_succ List.set_cons_zero List.set_cons_succ List.cons_append List.nil_append".splitOn " ").toArray.map fun n=>Lean.mkIdent n.toName
 `(tactic|dsimp only[$[$y:term],*])
local macro_rules | `(tactic| walk_at "w")=>`(tactic| (first | walk_at "rd" | skip))
local macro_rules | `(tactic| left)=>`(tactic| walk_at "w")
local macro_rules | `(tactic| right)=>`(tactic| (refine ao ?_;left))
local macro_rules | `(tactic| symm)=>`(tactic| decide +kernel)
local macro_rules | `(tactic| walk_at "f")=>`(tactic| (refine _c (m:=40) ?_ (by decide);(repeat (refine cY ?_));exact wT _))
local macro_rules | `(tactic| walk_at "c")=>`(tactic| (repeat (first | exact trivial | (refine#[fun z=>(by first | exact#[_,rfl] | (rcases z with z | z <;> cases z)),?_]))))
open Dv (aa ae aj aL aN aM aV aX aW bN cU cT de dA dF aw eN ff fX iH js jh jY jT j3 kC kE kW kO lT m9 nJ nW ng qb px pN u0 vD yR yN xT yH Dw C3 C1 M9 Oe IV Nb KL J2 HX MG K7 Iw DS Uo Y3 Yz adp VW Tp Uw WT Tf UH)
abbrev ad:=@Dv.v
abbrev al:=@Dv.cut
abbrev am:=@Dv.str
abbrev ap:=@Dv.int
abbrev bi:=@Dv.fld
abbrev bn:=@Dv.call
abbrev bv:=@Dv.nil
abbrev ce:=@Dv.ix
abbrev cr:=@Dv.lst
abbrev db:=@Dv.op
abbrev dl:=@Dv.glob
abbrev dL:=@Dv.tup
abbrev em:=@Dv.bl
abbrev f8:=@Dv.cmp
abbrev ge:=@Dv.w_or
abbrev gl:=@Dv.w_and
abbrev ii:=@Dv.un
abbrev im:=@Dv.slice
abbrev io:=@Dv.make
section
variable {P:ύ}{w:World}{K:ν}{mg:Str->Option ϊ}{base:Heap}
variable (T:Tx K mg)
def C0:T.jr.k P w base 1 (SY K):=by
 show T.jr.F.ok acZ (fun _ _ _ _ h=>oh h fun _ _=>rfl) fun ax A _ s H vs Q E hr h=>oh h fun x h=>?_;let⟨⟨ty,h1⟩,m8,q⟩:=h;show#[_,((al (aV (ff (ge (dF (cU (cT kY T.gO gS (aa (ad 0) (aa (kC (.ty "str") T.nY nj rfl) ae))))) (jY (dF (Dw qG qG ap (cT (l8 (K:=K) rfl) T.ki Tk (aa (ad 0) ae)) (dl (.int 8) T.Q1 #[_,rfl])))))) (aj (aL em)) bv)
 (aj (aL (cT (Mt (K:=K) rfl rfl) T.Nd Ll (aa (M9 rfl (x:=("sign":Str)) (Uo (ad 0)) (fun _ _ _ _=>by show u0) (fun _ _ _ _=>by show(eN 0 (show List.Nodup (["sign"]:List Str) by decide))) (fun _ _ _ _=>by show(f8 (rT (K:=K) rfl) (ad 0) (dl (.str "abcdefghijklmnopqrstuvwxyz") T.aas #[_,rfl]))) (.of rfl (by show trivial) (by walk_at "c") rfl (by show trivial))) ae)))))).h,?_]
 exists 0;show ao ?_;walk_at "rd";simp only[h1,yE h1];show#[wm _ rfl,?_];cases x with
 | str z =>
  simp only[vw,_y,Go,Wp];have hsh':z.length<=1000:=m8;have hl:z.cps.toList.length=z.length:=by simp[Str.length]
  show#[fits hsh',?_];by_cases a1:1<=z.length
  ·rw[sw (show(1:Int)<=(z.length:Int) by omega)];show bS ?_;by_cases a2:z.length<=8
   ·rw[sw (show(z.length:Int)<=8 by omega)];show bf ?_;show Z0 (fun c=>.bl (se.contains c)) (fits hsh') ?_ ?_
    ·intro c _ H1 _ R hR;walk_at "rd";rw[Wx,show(#[(List.toArray [c])]:Str)=Tx.S [c] from rfl,Tx.abN];show hR H1 (ai.refl H1)
    ·intro H1 s1 l ik;show#[_,aC.of ay,z.cps.toList.map (se.contains ·),by rw[SZ];rfl,?_];have e:((z.cps.toList.map (se.contains ·)).all id)=fS (.str z):=by
      change _=isNm z.cps.toList;unfold isNm;rw[hl,sw a1,sw a2,List.all_map];rfl
     rw[e];show q _ (s1.trans (ai.upd ik))
   ·rw[kt (show ¬ (z.length:Int)<=8 by omega)];show bS ?_;have e:fS (.str z)=false:=by
     change isNm z.cps.toList=false;unfold isNm;rw[hl,kt a2,Bool.and_false,Jaq]
    have:=q H (ai.refl H);rw[e]at this;show this
  ·rw[kt (show ¬ (1:Int)<=(z.length:Int) by omega)];show bf (bS ?_);have e:fS (.str z)=false:=by
    change isNm z.cps.toList=false;unfold isNm;rw[hl,kt a1,Jaq,Jaq]
   have:=q H (ai.refl H);rw[e]at this;show this
 | _=>show q H (ai.refl H)
def bF{X:Cx}{b:List Stmt}{t:TS}{D:Ends}{σ:St}{H:Hp}(h:QB X b t)(q:t D σ H):∃ t,eA X b t/\t D σ H:=#[t,h.h,q]
def  ZQ:V->Bool
 | .int _=>true
 | .bl _=>true
 | _=>false
def VY{H:Hp}{v:V}{ty:String}(h:clsName H v=!ty):yr ty "int" = ZQ v:=by
 unfold clsName at h;split at h
 ·cases h;rfl
 ·cases h;rfl
 ·cases h;rfl
 ·cases h;rfl
 ·split at h
  ·cases h;rfl
  ·cases h;rfl
  ·cases h;rfl
  ·cases h
 ·cases h
def LJ:T.mK.k P w base 1 Xs:=by
 show T.mK.F.ok Ve (fun _ _ _ _ h=>oh h fun _ _=>rfl) fun ax A _ s H vs Q E hr h=>oh h fun v h=>?_;let⟨⟨ty,cx⟩,q⟩:=h;show#[_,((aj (aL (yR (cT kY T.gO gS (aa (ad 0) (aa (kC (.ty "int") T.vo uK rfl) ae))) (Dv.one (Y3 (cT kY T.gO gS (aa (ad 0) (aa (kC (.ty "bool") T.g_bool acq rfl) ae))))))))).h,?_];exists 0;left;simp only[cx];show#[⋯,?_];cases v with
 | int i=>cases cx;show bS #[⋯,q]
 | bl b=>cases cx;show bS #[⋯,q]
 | _ =>
  rw[VY cx];show bf q
def y8:T.hV.k P w base 2 We:=by
 show T.hV.F.ok Xk (fun _ _ _ _ h=>oh h fun _ _=>rfl) fun ax A _ s H vs Q E hr h=>oh h fun x h=>?_;let⟨hc,m8,hn,q1⟩:=h;show#[_,((aj (aV (dF (cU (C0<$>T.jr (aa (ad 0) ae)))) (aj jT) bv))).h,?_];exists 0;left;show#[hc,m8,fun H' s'=>?_];rw[hn];show bf (q1 H' s')
def  jU:List Str:=["","l","g","w","lg","lw","gw","lgw"]
def  YK:Sp:=km fun z H Q _=>z∈jU/\Q (.bl true) H
def  Z2:Sp:=km fun z H Q _=>z∈jU/\Q .aw H
def SU{z:Str}{zs:List Str}(h:z∈zs):g9 (V.str z) (zs.map V.str)=true:=by
 unfold g9;rw[List.any_map,Ja8];show#[z,h,show(z == z)=true from beq_self_eq_true z]
def Xi:T.rZ.k P w base 1 YK:=by
 show T.rZ.F.ok T6 (fun _ _ _ _ h=>fP h fun _ _=>rfl) fun ax A _ s H vs Q E hr h=>fP h fun z h=>?_;let⟨hz,q⟩:=h;show#[_,((aj (aL (yR (cT kY T.gO gS (aa (ad 0) (aa (kC (.ty "str") T.nY nj rfl) ae))) (Dv.one (f8 (zy (K:=K) rfl) (ad 0) (dl (-T.GH) T.Zp rfl))))))).h,?_];exists 0;left;show#[⋯,bS #[_,.inr (T.CK H),rfl,rfl,?_]];rw[show [V.str "",V.str "l",V.str "g",V.str "w",V.str "lg",V.str "lw",V.str "gw",V.str "lgw"]=jU.map V.str from rfl,SU hz];show q
def rS:T.fe.k P w base 2 Z2:=by
 show T.fe.F.ok Rw (fun _ _ _ _ h=>fP h fun _ _=>rfl) fun ax A _ s H vs Q E hr h=>fP h fun z h=>?_;let⟨hz,q⟩:=h;show#[_,((aj (aV (dF (cU (Xi<$>T.rZ (aa (ad 0) ae)))) (aj jT) bv))).h,?_];exists 0;left;show#[hz,bf q]
def abB(v:V):g9 v [V.str "l",V.str "g",V.str "w"]=lh v:=by
 unfold g9 lh;simp only[_k,List.any_nil,Jaw];have key:∀ z:Str,fE (.str z) v=decide (v=.str z):=fun z=>by
  cases v with
  | str y =>
   change(z == y)=decide (V.str y=V.str z);by_cases e:z=y
   ·subst e;simp
   ·rw[kt (by intro h;injection h with h;show e h.symm)];show Gc.mpr e
  | _=>rfl
 rw[key,key,key,Bool.or_assoc]
def abD:aA P w K mg base (cB P w) 1 T.sC.f T.sC.d ["text"] (Sw T.wK):=by
 show T.sC.F.dG S5 (fun _ _ _ _ h=>oh h fun _ _=>rfl) fun ax A _ s H vs Q E hr h=>oh h fun v h=>?_;let⟨⟨ty,cx⟩,q1,q2⟩:=h;show#[_,((aj (aV (ff (ge (dF (cU (cT kY T.gO gS (aa (ad 0) (aa (kC (.ty "str") T.nY nj rfl) ae))))) (jY (aX (xH (K:=K) rfl) (ad 0) (dl (-T.Gu) T.Zc rfl))))) (aj (yN yi rfl T.Uu T.ZA (aa am ae))) bv))).h,?_];exists 0;left;simp only[cx,yE cx];show#[wm _ rfl,?_];cases v with
 | str z =>
  simp only[vw,_y,Go,Wp];show#[_,.inr (T.Bw H),rfl,rfl,?_];rw[abB];cases ho:lh (.str z) with
  | true=>show bf (q1 ho)
  | false=>show bS #[fits (),q2 ho]
 | _=>show#[fits (),q2 rfl]
def abf:T.rE.k P w base 2 (Zf K):=by
 show T.rE.F.ok ac7 (fun _ _ _ _ h=>fP h fun _ _=>rfl) fun ax A _ s H vs Q E hr h=>fP h fun z h=>?_;let⟨w',rfl,hw,q⟩:=h;show#[_,((aj (aL (Yz (f8 (zy (K:=K) rfl) (ad 0) (dl (-T.Gf) T.Zq rfl)) (Dv.one (C0<$>T.jr (aa (ad 0) ae))))))).h,?_];exists 0;walk_at "rd";show#[_,.inr (T.Ea H),rfl,rfl,?_];have e:g9 (V.str (Tx.S w')) [V.str ".",V.str ".."]=(decide (w'=[46]) || decide (w'=[46,46])):=by
  rw[show ώ "." = Tx.S [46] from by symm,show ώ ".." = Tx.S [46,46] from by symm];unfold g9 fE;simp only[_k,List.any_nil,Jaw];have b:∀ m:List Nat,(Tx.S m == Tx.S w')=decide (w'=m):=fun m=>by
   by_cases h:w'=m
   ·rw[h];simp
   ·have:Tx.S m≠Tx.S w':=fun e=>h (Tx.sQ e).symm;rw[kt h];show Gc.mpr this
  rw[b,b]
 rw[e];cases hd:(decide (w'=[46]) || decide (w'=[46,46])) with
 | true =>
  show bS ?_;have:=q H (ai.refl H);unfold cP at this;rw[hd]at this;show this
 | false =>
  show bf ?_;show#[#[_,rfl],(by change(Tx.S w').length<=1000;rw[Tx.cE];show hw),fun H' s'=>?_];have:=q H' s';unfold cP at this;rw[hd,Bool.false_or]at this;have e2:fS (V.str (Tx.S w'))=isNm w':=by change isNm _=_;rw[Tx.kF]
  rw[e2];show this
def kX:T.cH.k P w base 3 (W6 K):=by
 show T.cH.F.ok Kc (fun _ _ _ _ h=>fP h fun _ _=>rfl) fun ax A _ s H vs Q E hr h=>fP h fun z h=>?_;let⟨t,rfl,t1,t2,iF,q⟩:=h;show#[_,((al (aV (ff (ge (dF (cU (cT kY T.gO gS (aa (ad 0) (aa (kC (.ty "str") T.nY nj rfl) ae))))) (jY (dF (Dw qG qG ap (cT (l8 (K:=K) rfl) T.ki Tk (aa (ad 0) ae)) (dl (.int 2000) T.Xj #[_,rfl])))))) (aj jT) bv)
 (al (C3 1 rfl Kc.nd (x:=("part":Str)) (iH (K:=K) rfl (qb PySem.F.slot_str_split PySem.F.type_str_split IC (ad 0) (aa am ae))) (fun _ _ _ _=>by show(Oe (aX me (ad 0) am))) (fun _ _ _ _=>by show(eN 0 (show List.Nodup (["part"]:List Str) by decide))) (fun _ _ _ _=>by show(ad 0)) (.of rfl (by show trivial) (by walk_at "c") rfl (by show trivial)))
 (al (aV (dF (cU (cT (Mt (K:=K) rfl rfl) T.Nd Ll (aa (M9 rfl (x:=("part":Str)) (iH (K:=K) rfl (ad 1)) (fun _ _ _ _=>by show u0) (fun _ _ _ _=>by show(eN 0 (show List.Nodup (["part"]:List Str) by decide))) (fun _ _ _ _=>by show(abf<$>T.rE (aa (ad 0) ae))) (.of rfl (by show trivial) (by walk_at "c") rfl (by show trivial))) ae)))) (aj jT) bv)
 (al (aV (ff (gl (aX (FQ hr.g7) (ad 1) (cr ae)) (kE (cU (qb PySem.F.slot_str_endswith PySem.F.type_str_endswith Wo (ad 0) (aa am ae)))))) (aj (aN (fX Do Ev jQ (ad 1) (aa am ae)))) bv)
 (aj (aL (dL (aa (qb PySem.F.slot_str_startswith PySem.F.type_str_startswith aa2 (ad 0) (aa am ae)) (aa (ad 1) ae)))))))))).h,?_]
 exists 1;show ao ?_;walk_at "rd";have tM:ώ "/" = Tx.S [47]:=by symm
 have e0:ώ "" = Tx.S []:=by symm
 simp only[Tx.cE,tM,e0];show#[wm _ rfl,bf #[ut t2 ⋯,?_]];rw[sw (show(1:Int)<=(t.length:Int) by omega),sw (show(t.length:Int)<=2000 by omega)];show bS (bf (ao ?_));walk_at "rd";have sY:=Tx.yY 47 t;show#[rfl,by rw[Tx.cE];show ut t2 ⋯,?_,?_]
 ·rw[Tx.C7,Tx.om,Tx.Dh,Tx.vK,lv];show ut (show _<=2001 by omega) ⋯
 intro l hl;rw[Tx.Lh t 47 ⋯];show dh hl fun H1 s1 b1=>?_;show#[#[_,aC.of b1],Eb (fun x=>match x with | .str z=>Bool.not (decide (z=Tx.S [])) | _=>false) id (aC.of b1) (by rw[lv,lv];show ut (show _<=2001 by omega) ⋯) ?_ ?_ ?_]
 ·intro x hx H2 _ R hR;let⟨z,_,rfl⟩:=wS.mp hx;walk_at "rd";show hR H2 (ai.refl H2)
 ·intro x hx _ H2 _ R hR;walk_at "rd";show hR H2 (ai.refl H2)
 intro H2 s2 l2 cA;have ew:((((Tx.cut 47 t).map Tx.S).map V.str).filter (fun x=>match x with | .str z=>Bool.not (decide (z=Tx.S [])) | _=>false)).map id=PV (Tx.words 47 t):=by
  rw[List.map_id,List.filter_map];change((((Tx.cut 47 t).map Tx.S)).filter _).map V.str=_
  congr 1
  rw[<- Tx.LF];show List.filter_congr fun z _=>?_;change(Bool.not (decide (z=Tx.S [])))=decide (z≠Tx.S []);by_cases h:z=Tx.S [] <;> simp[h]
 rw[ew];have j8:H l2=none:=(s1.trans s2).free cA;show dh cA fun H3 s3 b3=>?_;have lE:ai H H3:=(s1.trans s2).trans s3;have qm:(Tx.words 47 t).length<=2001:=ut (TD _ _) ∅;show ao ?_;walk_at "rd";show#[#[_,aC.of b3],Eb (fun _=>true) (fun x=>match x with | .str z=>.bl (cP z.cps.toList) | _=>.bl false) (aC.of b3) (by rw[lv,lv];show ut qm ⋯) ?_ ?_ ?_]
 ·intro x _ H4 _ R hR;show hR H4 (ai.refl H4)
 ·intro x hx _ H4 _ R hR;let⟨z,hz,rfl⟩:=wS.mp hx;let⟨w',hw,rfl⟩:=wS.mp hz;walk_at "rd";let⟨_,_,g3⟩:=rA (FS.mp iF w' hw);show#[w',rfl,∅,fun H5 s5=>?_];have:=hR H5 s5;simp only[Tx.kF]at this;show this
 intro H4 s4 l4 zQ;have eb:((PV (Tx.words 47 t)).filter (fun _=>true)).map (fun x=>match x with | .str z=>V.bl (cP z.cps.toList) | _=>V.bl false)=((Tx.words 47 t).map cP).map V.bl:=by
  rw[List.filter_eq_self.mpr (fun _ _=>rfl),SZ,SZ,SZ];show List.map_congr_left fun w' _=>?_;change V.bl (cP (Tx.S w').cps.toList)=V.bl (cP w');rw[Tx.kF]
 rw[eb];show#[_,aC.of ay,_,rfl,?_];have ea:((Tx.words 47 t).map cP).all id=true:=by rw[List.all_map];show iF
 rw[ea];show bf ?_;have s5:=ai.upd (o:=.lst (((Tx.words 47 t).map cP).map V.bl)) zQ;generalize upd H4 l4 (.lst (((Tx.words 47 t).map cP).map V.bl))=H5 at s5 ⊢;have b5:H5 l2=!.lst (PV (Tx.words 47 t)):=s5 _ _ (s4 _ _ b3);have lG:ai H H5:=(lE.trans s4).trans s5;show gx (fun σ' H'=>σ'=[!V.str (Tx.S t),!V.ref l2]/\ai H H'/\H' l2=!.lst (PV (told (Tx.words 47 t) t))) ?_ ?_
 ·walk_at "rd";show#[fits (),fun p hp=>?_];have s6:=ai.upd (o:=.lst []) hp;have c6:upd H5 p (.lst []) p=!.lst ((([]:List Str)).map V.str):=ay;generalize upd H5 p (.lst [])=H6 at s6 c6 ⊢;have b6:H6 l2=!.lst (PV (Tx.words 47 t)):=s6 _ _ b5;show#[(Tx.words 47 t).map Tx.S,[],b6,c6,?_];by_cases tU:Tx.words 47 t=[]
  ·rw[sw (show(Tx.words 47 t).map Tx.S=[] by rw[tU];rfl)];show bf (bf #[by trivial,lG.trans s6,?_]);unfold told;rw[wf (fun z=>z.1 tU)];show b6
  ·rw[kt (show ¬ (Tx.words 47 t).map Tx.S=[] by simpa using tU)];show bS ?_;rw[Tx.abr];by_cases As:t.getLast?=!47
   ·rw[sw As];show bS ?_
    rwa [b6]
    show#[by rw[lv,lv];show _c qm ⋯,by trivial,dm.same (lG.trans s6) j8 dm.upd,?_];unfold told;rw[wl #[tU,As],ay,show ώ "." = Tx.S [46] from by symm];simp only[PV,Da,FB,_W]
   ·rw[kt As];show bf #[by trivial,lG.trans s6,?_];unfold told;rw[wf (fun z=>As z.2)];show b6
 ·rintro σ' H6 ⟨rfl,s6,b6⟩;walk_at "rd";simp only[tM,Tx.abM];show#[fits (),fun p hp=>?_];show q _ l2 p (s6.trans (ai.upd hp)) j8 (Je b6 hp) ay
def SH:T.uE.k P w mg base 1 (adt T.aQ):=by
 show T.uE.F.ok VP (fun _ _ _ _ h=>Mb h fun _ _ _ _ _ _ _ _=>rfl) fun ax A _ s H vs Q E hr h=>Mb h fun x n kd ow mi re tx h=>?_;let⟨dx,hx,q⟩:=h;show#[_,((al (bN T.et T.aca (ad 0) (ad 1))
 (al (bN T.et T.FC (ad 0) (ad 2))
 (al (bN T.et T.Ep (ad 0) (ad 3))
 (al (bN T.et T.DT (ad 0) (ad 4))
 (al (bN T.et T.CU (ad 0) (ad 5))
 (al (bN T.et T.JF (ad 0) (ad 6))
 (al (bN T.et T.ET (ad 0) px)
 (aj (bN T.et T.xP (ad 0) adp)))))))))).h,?_]
 exists 0;show ao ?_;walk_at "rd";show#[x,dx,_,rfl,hx,⋯,ao ?_];walk_at "rd";show#[x,dx,_,rfl,ay,by walk_at "f",ao ?_];walk_at "rd";show#[x,dx,_,rfl,ay,by walk_at "f",ao ?_];walk_at "rd";show#[x,dx,_,rfl,ay,by walk_at "f",ao ?_];walk_at "rd";show#[x,dx,_,rfl,ay,by walk_at "f",ao ?_];walk_at "rd";show#[x,dx,_,rfl,ay,by walk_at "f",ao ?_];simp only[nH];walk_at "rd";intro l1 h1;have n1:l1≠x:=fun e=>by rw[e,ay]at h1;cases h1
 have h1':H l1=none:=by rw[ag n1]at h1;show h1
 show#[x,dx,_,rfl,by rw[ag (ss n1),ay],by walk_at "f",fun l2 h2=>?_];have n2:l2≠x:=fun e=>by rw[e,ay]at h2;cases h2
 rw[ag n2]at h2;have n3:l2≠l1:=fun e=>by rw[e,ay]at h2;cases h2
 rw[ag n3,ag n2]at h2;show#[x,dx,_,rfl,by rw[ag (ss n2),ay],by walk_at "f",?_];show q l1 l2 _ h1' h2 (ss n3) n1 n2 (fun b b1 b2 b3=>?_) ?_ ?_ _ ?_ (fun f=>?_) ay
 ·rw[ag b1,ag b3,ag b1,ag b2,ag b1]
 ·rw[ag n1,ag (ss n3),ag n1,ay]
 ·rw[ag n2,ay]
 ·show ut (by (repeat (show cY ?_));show wT _) (pi 40)
 ·rfl
def abw:T.uY.k P w mg base 1 (aak T.aK):=by
 show T.uY.F.ok Wm (fun _ _ _ _ h=>fm h fun _ _=>rfl) fun ax A _ s H vs Q E hr h=>fm h fun x h=>?_;let⟨dx,hx,q⟩:=h;show#[_,((al (bN T.cG T.u7 (ad 0) (cr ae))
 (aj (bN T.cG T.zx (ad 0) ap)))).h,?_]
 exists 0;show ao ?_;walk_at "rd";show#[fits (),fun l hl=>?_];have n1:l≠x:=fun e=>by rw[e,hx]at hl;cases hl
 show#[x,dx,_,rfl,by rw[ag (ss n1)];show hx,⋯,?_];show#[x,dx,_,rfl,ay,by walk_at "f",?_];show q l _ hl n1 (fun b b1 b2=>?_) ?_ _ ?_ (fun f=>?_) ay
 ·rw[ag b1,ag b1,ag b2]
 ·rw[ag n1,ag n1,ay]
 ·show ut (cY (cY (wT _))) (show 0+1+1<=40 by decide)
 ·rfl
def Vk:T.wx.k P w mg base 1 (Xy T.aQ):=by
 show T.wx.F.ok Vl (fun _ _ _ _ h=>dU h fun _ _ _=>rfl) fun ax A _ s H vs Q E hr h=>dU h fun x z h=>?_;let⟨a,i,t,dS,rfl,q⟩:=h;let⟨fs,hx,aO,sf⟩:=dS.o;show#[_,((aj (aL (IV (aX cF (ad 1) (bi T.et T.Ep (ad 0))) (bi T.et T.DT (ad 0)) (bi T.et T.CU (ad 0)))))).h,?_];exists 0;left;show(fI hx sf rfl ?_);dsimp only;unfold dB at q;by_cases e:z=t.ow
 ·rw[sw e];rw[wl e]at q;show bS (fI hx sf rfl q)
 ·rw[kt e];rw[wf e]at q;show bf (fI hx sf rfl q)
def FW:T.md.k P w mg base 3 (XI T.aK T.aQ):=by
 show T.md.F.ok Ke (fun _ _ _ _ h=>IG h fun _ _ _ _ _ _ _=>rfl) fun ax A _ s H vs Q E hr h=>IG h fun x kd ow mi re tx h=>?_;let⟨dt,ml,rs,⟨⟨fs,c,hx,aO,sf⟩,iA⟩,fA,q⟩:=h;show#[_,((al (js T.cG T.zx jv (ad 0) ap)
  (al (aM 6 Ke.nd (cT (l8 (K:=K) rfl) T.ki Tk (aa (bi T.cG T.u7 (ad 0)) ae)))
  (al (aN (fX Do Ev jQ (bi T.cG T.u7 (ad 0)) (aa (io T.YI (SH T) hr.m T.abh T.uE.b .nil aq (aa (ad 6) (aa (ad 1) (aa (ad 2) (aa (ad 3) (aa (ad 4) (aa (ad 5) ae))))))) ae)))
  (aj (aL (ad 6))))))).h,?_]
 exists 1;have cQ:ml≠x:=fun e=>by rw[e,hx]at iA;cases iA
 show ao ?_;walk_at "rd";show#[x,dt,fs,.int c,rfl,hx,(sf _).trans rfl,_,_,rfl,rfl,dt,fs,hx,∅,ao ?_];have bX:dv (az "changes" (.int (c+1)) fs) (vJ ml (c+1)):=fun f=>by rw[(sf.put "changes" (.int (c+1))) f];rfl
 have fT:(az "changes" (.int (c+1)) fs).length<=41:=cY aO;have bg:upd H x (.ins T.aK dt (az "changes" (.int (c+1)) fs)) x=!.ins T.aK dt (az "changes" (.int (c+1)) fs):=ay;have mS:upd H x (.ins T.aK dt (az "changes" (.int (c+1)) fs)) ml=!.lst rs:=by rw[ag cQ];show iA
 have iz:Kp [x] H (upd H x (.ins T.aK dt (az "changes" (.int (c+1)) fs))):=fun b o hb e=>by rw[ag (fun z=>hb (by simp[z]))];show e
 have tF:∀ b,b≠x->upd H x (.ins T.aK dt (az "changes" (.int (c+1)) fs)) b=H b:=fun b hb=>ag hb;generalize upd H x (.ins T.aK dt (az "changes" (.int (c+1)) fs))=H1 at bg mS iz tF ⊢;walk_at "rd";show#[x,dt,_,-ml,rfl,bg,(bX _).trans rfl,?_]
 rwa [mS]
 show ao ?_;walk_at "rd";show#[x,dt,_,-ml,rfl,bg,(bX _).trans rfl,?_]
 rwa [mS]
 intro th dI aS hdth tS;show#[dI,ay,fun nm pl H2 cj bt hnp hn1 j8 fr2 hnm2 hpl2 ks gB sk hth2=>#[rfl,?_]];have Gy:∀ b o,H1 b=!o->upd (upd H1 dI (HO.own th)) th (HO.ins T.aQ dI []) b=!o:=fun b o e=>by
  rw[ag (bD e aS),ag (bD e hdth)];show e
 have Gg:∀ b o,H1 b=!o->H2 b=!o:=fun b o e=>by
  rw[fr2 b (bD e aS) (bD (Gy b o e) cj) (bD (Gy b o e) bt)];show Gy b o e
 have dn:∀ d,d≠th->upd (upd H1 dI (HO.own th)) th (HO.ins T.aQ dI []) d=none->H1 d=none:=fun d n e=>by
  rw[ag n]at e;by_cases z:d=dI
  ·rw[z,ay]at e;cases e
  ·rw[ag z]at e;show e
 have PD:=dn nm hn1 cj;have O6:=dn pl j8 bt;have G5:∀ d,H1 d=none->H d=none:=fun d e=>by rw[<- tF d (ss (bD bg e))];show e
 simp only[Gg _ _ mS];show#[gG ∅,?_];show q th dI nm pl ks _ (G5 _ aS) (G5 _ PD) (G5 _ O6) #[#[_,c+1,by rw[ag (ss cQ)];show Gg _ _ bg,?_,bX],ay] (by rw[ag (ss (bD mS aS))];show hth2) gB sk
  (by rw[ag (ss (bD mS PD))];show hnm2) (by rw[ag (ss (bD mS O6))];show hpl2) (fun b o hb e=>?_)
 ·rw[fC (u:=.int c) ((sf _).trans rfl)];show aO
 ·simp only[li,lm,wP,Ps]at hb;rw[ag hb.2];show Gg _ _ (iz b o (by simp[hb.1]) e)
def BG:T.l9.k P w mg base 4 (Q5 T.aK T.aQ):=by
 show T.l9.F.ok Wz (fun _ _ _ _ h=>zi h fun _ _ _ _ _=>rfl) fun ax A _ s H vs Q E hr h=>zi h fun x ow mi re h=>?_;let⟨dt,ml,rs,at',fA,q⟩:=h;let⟨fs,c,hx,aO,sf⟩:=at'.o;show#[_,((aj (aL (FW*>T.md (ad 0) (aa (dl (.str "folder") T.vm #[_,rfl]) (aa (ad 1) (aa (ad 2) (aa (ad 3) (aa am ae))))))))).h,?_];exists 0;left;show#[x,dt,fs,rfl,hx,(sf _).trans rfl,dt,ml,rs,at',fA,q]
def kM:aA P w K mg base (cB P w) 2 T.eB.f T.eB.d ["self","number"] (K5 T.aI T.aK T.aQ T.tQ):=by
 show T.eB.F.dG RT (fun _ _ _ _ h=>sA h fun _ _ _=>rfl) fun ax A _ s H vs Q E hr h=>sA h fun x v h=>?_;let⟨AA,L,M,i,rfl,sY,q1,q2⟩:=h;let⟨fs,c,hx,aO,sf⟩:=i.t;show#[_,((al (aV (ff (ge (dF (cU (LJ<$>T.mK (aa (ad 1) ae)))) (jY (dF (Dw qG MD ap (ad 1) (cT (l8 (K:=K) rfl) T.ki Tk (aa (bi T.cG T.u7 (ad 0)) ae))))))) (aj (yN yi rfl T.RC T.XU (aa am ae))) bv)
 (aj (aL (ce (bG (K:=K) rfl) (bi T.cG T.u7 (ad 0)) (ad 1)))))).h,?_]
 exists 0;right;show#[sY,?_];cases v with
 | int n =>
  simp only[KJ,_y,Go,Wp];show nk (fun h0=>?_) (fun h0=>bS #[fits (),q2 fun j e=>?_])
  ·have h0':0<=n:=_A h0;show#[AA.t,_,_,-AA.ml,rfl,hx,(sf _).trans rfl,?_];simp only[ee,i.ml,lv,i.len];let⟨k,rfl⟩:=Uf h0';by_cases hk:k < M.ts.length
   ·rw[sw (show(k:Int) < (M.ts.length:Int) by omega)];show bf #[AA.t,_,_,-AA.ml,rfl,hx,(sf _).trans rfl,?_];simp only[ee,i.ml];have OY:k < L.length:=by rw[i.len];show hk
    rw[gZ (xs:=L.map fun a=>V.ref a.th) (j:=k) (by rw[At,ul OY];rfl)];show q1 k _ _ rfl (ul OY) (ul hk)
   ·rw[kt (show ¬ (k:Int) < (M.ts.length:Int) by omega)];show bS #[fits (),q2 fun j e=>?_];injection e with e;have:k=j:=∅
    rw[<- this];show hk
  ·injection e with e;show absurd (sw (show(0:Int)<=n by omega)) h0
 | _=>show#[fits (),q2 fun k e=>by cases e]
section
variable {T:Tx K mg}{H:Hp}{A:Ad}{L:List Ta}{M:Hs}
def mh{k:Nat}{a:Ta}{t:Th}{Q:VK}{E:XK}(i:aF T.aI T.aK T.aQ H A L M)(ha:L[k]?=!a)(ht:M.ts[k]?=!t)(q:Q (-a.th) H):K5 T.aI T.aK T.aQ T.tQ [-A.t,.int (k:Int)] H Q E :=
 #[A,L,M,i,rfl,#[_,rfl],fun j a' t' e h1 h2=>by
  injection e with e;have:k=j:=∅
  subst this;rw[ha]at h1;cases h1;show q,fun h=>absurd (sB.mp ht).1 (h k rfl)]
def gX{k:Nat}{a:Ta}{t:Th}(i:aF T.aI T.aK T.aQ H A L M)(ha:L[k]?=!a)(ht:M.ts[k]?=!t):pQ T.aQ H a k t:=by
 let⟨a',e,h⟩:=i.th k t ht;rw[ha]at e;cases e;show h
end
def MU:T.pJ.k P w mg base 3 (Y8 T.aI T.aK T.aQ Ad.t):=by
 show T.pJ.F.ok YL (fun _ _ _ _ h=>rO h fun _ _ _ _=>rfl) fun ax A _ s H vs Q E hr h=>rO h fun x n z h=>?_;let⟨AA,L,M,k,a,t,i,rfl,rfl,ha,aS,q⟩:=h;let⟨fs,c,hx,aO,sf⟩:=i.h;let⟨gs,c2,ht,eX,sg⟩:=i.t;have dS:=gX i ha aS;let⟨ks,ho,jC,so⟩:=dS.o;show#[_,((aj (aL (Nb (eL hr) (bi T.et T.ET (dA T.cG T.eB.h (kM T) hr.m T.eB.b .nil gy (ad 0) (aa (ad 1) ae))) (ad 2))))).h,?_];exists 0;left;show(mI ht sg (mh i ha aS #[a.th,_,_,-a.nm,rfl,ho,(so _).trans rfl,a.nm,rfl,.inl #[_,.inl dS.nm],_,dN.k (k:=.inr z) dS.nm,q]))
def Z6:T.u6.k P w mg base 3 (pd T.aI T.aK T.aQ Ad.t E5):=by
 show T.u6.F.ok aag (fun _ _ _ _ h=>cz h fun _ _ _=>rfl) fun ax A _ s H vs Q E hr h=>cz h fun x n h=>?_;let⟨AA,L,M,k,a,t,i,rfl,rfl,ha,aS,q⟩:=h;let⟨fs,c,hx,aO,sf⟩:=i.h;let⟨gs,c2,ht,eX,sg⟩:=i.t;have dS:=gX i ha aS;let⟨ks,ho,jC,so⟩:=dS.o;show#[_,((aj (aL (Dv.minD rfl T.D4 (bi T.et T.xP (dA T.cG T.eB.h (kM T) hr.m T.eB.b .nil gy (ad 0) (aa (ad 1) ae))))))).h,?_];exists 0;left;show(mI ht sg (mh i ha aS #[a.th,_,_,-a.pl,rfl,ho,(so _).trans rfl,a.pl,_,rfl,dS.pl,?_]));rcases q with ⟨e,q⟩ | ⟨f,z,e,q⟩
 ·rw[e];show .inl #[rfl,q]
 ·rw[e];show .inr #[_,_,rfl,q]
def rL:T.gT.k P w mg base 3 (pd T.aI T.aK T.aQ Ad.a mH):=by
 show T.gT.F.ok WE (fun _ _ _ _ h=>cz h fun _ _ _=>rfl) fun ax A _ s H vs Q E hr h=>cz h fun x n h=>?_;let⟨AA,L,M,k,a,t,i,rfl,rfl,ha,aS,q⟩:=h;let⟨fs,c,hx,aO,sf⟩:=i.h;let⟨gs,c2,ht,eX,sg⟩:=i.t;have dS:=gX i ha aS;let⟨ks,ho,jC,so⟩:=dS.o;show#[_,((aj (aL (bi T.et T.FC (dA T.cG T.eB.h (kM T) hr.m T.eB.b .nil gy (bi T.aD T.gR (ad 0)) (aa (ad 1) ae)))))).h,?_];exists 0;left;show#[AA.a,_,_,-AA.t,rfl,hx,(sf _).trans rfl,AA.t,_,_,rfl,ht,(sg _).trans rfl,mh i ha aS (fI ho so rfl q)]
def ny:T.fG.k P w mg base 4 (pd T.aI T.aK T.aQ Ad.a E5):=by
 show T.fG.F.ok VU (fun _ _ _ _ h=>cz h fun _ _ _=>rfl) fun ax A _ s H vs Q E hr h=>cz h fun x n h=>?_;let⟨AA,L,M,k,a,t,i,rfl,rfl,ha,aS,q⟩:=h;let⟨fs,c,hx,aO,sf⟩:=i.h;let⟨gs,c2,ht,eX,sg⟩:=i.t;have dS:=gX i ha aS;let⟨ks,ho,jC,so⟩:=dS.o;show#[_,((aj (aL (Z6*>T.u6 (bi T.aD T.gR (ad 0)) (aa (ad 1) ae))))).h,?_];exists 0;left;show#[AA.a,_,_,-AA.t,rfl,hx,(sf _).trans rfl,AA.t,_,_,rfl,ht,(sg _).trans rfl,AA,L,M,k,a,t,i,rfl,rfl,ha,aS,q]
def WO:T.uB.k P w mg base 3 (pd T.aI T.aK T.aQ Ad.a YA):=by
 show T.uB.F.ok UB (fun _ _ _ _ h=>cz h fun _ _ _=>rfl) fun ax A _ s H vs Q E hr h=>cz h fun x n h=>?_;let⟨AA,L,M,k,a,t,i,rfl,rfl,ha,aS,q⟩:=h;let⟨fs,c,hx,aO,sf⟩:=i.h;let⟨gs,c2,ht,eX,sg⟩:=i.t;have dS:=gX i ha aS;let⟨ks,ho,jC,so⟩:=dS.o;show#[_,((aj (aN (dA T.cG T.eB.h (kM T) hr.m T.eB.b .nil gy (bi T.aD T.gR (ad 0)) (aa (ad 1) ae))))).h,?_];exists 0;left;show#[AA.a,_,_,-AA.t,rfl,hx,(sf _).trans rfl,AA.t,_,_,rfl,ht,(sg _).trans rfl,mh i ha aS q]
section
variable {CH CS CT:ϋ}{H:Hp}{A:Ad}{L:List Ta}{M:Hs}
def aF.o7(i:aF CH CS CT H A L M){k:Nat}{a:Ta}(ha:L[k]?=!a):∀ b∈A.w,∀ c∈a.l,b≠c:=fun b hb c hc=>by
 have nd:=i.nd;rw[Fa]at nd;show nd.2.2 b hb c (kL ha hc)
def aF.aT(i:aF CH CS CT H A L M):A.a≠A.t:=by
 have nd:=i.nd;rw[Fa]at nd;have:=(AT.mp nd.1).1;show fun e=>this (by rw[e];simp)
def LZ:∀ {L:List Ta}{k:Nat}{a:Ta},(L.flatMap Ta.l).Nodup->L[k]?=!a->a.l.Nodup
 | c::r,0,a,nd,h=>by
  rw[T0,Fa]at nd;simp only[List.getElem?_cons_zero,Option.some.injEq]at h;subst h;show nd.1
 | c::r,k+1,a,nd,h=>by
  rw[T0,Fa]at nd;simp only[List.getElem?_cons_succ]at h;show LZ nd.2.1 h
def aF.own(i:aF CH CS CT H A L M){k:Nat}{a:Ta}(ha:L[k]?=!a):a.th≠a.nm/\a.th≠a.pl/\a.nm≠a.pl:=by
 have nd:=i.nd;rw[Fa]at nd;have:=LZ nd.2.1 ha;simp only[Ta.l,AT,li,lm,wP,Ps,not_false_eq_true,_X,and_true]at this;show#[this.1.1,this.1.2,this.2]
end
def  XM(CH CS CT:ϋ):Sp:=xG fun x n z H Q _=>X6 fun A L M (k:Nat) a t=>A7 (aF CH CS CT H A L M) (A.t=x) (n=(k:Int)) (L[k]?=!a) (M.ts[k]?=!t) (ah (sD t.bb) (.inr z)=none) (Q .aw H)
def UC:T.ux.k P w mg base 4 (XM T.aI T.aK T.aQ):=by
 show T.ux.F.ok Nt (fun _ _ _ _ h=>rO h fun _ _ _ _=>rfl) fun ax A _ s H vs Q E hr h=>rO h fun x n z h=>?_;let⟨AA,L,M,k,a,t,i,rfl,rfl,ha,aS,hv,q⟩:=h;let⟨gs,c2,ht,eX,sg⟩:=i.t;show#[_,((al (aM 3 Nt.nd (MU*>T.pJ (ad 0) (aa (ad 1) (aa (ad 2) ae))))
 (aj (aV (aX mx (ad 3) aw) (al jT
 (al jT
 (aj jT))) bv)))).h,?_]
 exists 1;right;show(mI ht sg #[AA,L,M,k,a,t,i,rfl,rfl,ha,aS,?_]);rw[hv];show#[by trivial,?_];show bf q
def  adF(CH CS CT:ϋ):Sp:=HE fun x fn z kn H Q _=>X9 fun A L M (f:Nat) (k:Nat) af tf ak tk=>Dq (aF CH CS CT H A L M) (A.t=x) (fn=(f:Int)) (kn=(k:Int)) (L[f]?=!af) (M.ts[f]?=!tf) (L[k]?=!ak) (M.ts[k]?=!tk) (f≠k) (ah (sD tf.bb) (.inr z)=none) (tf.bb.length<=500) (tk.bV=[]) (∀ H',aF CH CS CT H' A L { M with ts:=(M.ts.set f { tf with bb:=tf.bb++[(z,k)] }).set k { tk with bV:=[(f,z)] } }->Kp [A.t,af.nm,ak.pl] H H'->Q .aw H')
def we{l:List (Str×Nat)}{z:Str}{k:Nat}(h:ah (sD l) (.inr z)=none):putK (sD l) (.inr z) (.int (k:Int))=sD (l++[(z,k)]):=by
 have e:((sD l).any fun kv=>decide (kv.1=(Sum.inr z:Key)))=false:=by rw[pH,h];rfl
 unfold putK;rw[e];simp[sD]
def SO:T.vE.k P w mg base 5 (adF T.aI T.aK T.aQ):=by
 show T.vE.F.ok xS (fun _ _ _ _ h=>NX h fun _ _ _ _ _=>rfl) fun ax A _ s H vs Q E hr h=>NX h fun x fn z kn h=>?_;let⟨AA,L,M,f,k,af,tf,ak,tk,i,rfl,rfl,rfl,gA,bE,jG,fw,hfk,hv,iw,bt,q⟩:=h;let⟨fs,c,hx,aO,sf⟩:=i.h;let⟨gs,c2,ht,eX,sg⟩:=i.t;have PJ:=gX i jG fw;let⟨ks,ho,jC,so⟩:=PJ.o;show#[_,((al (aM 4 xS.nd (dA T.cG T.eB.h (kM T) hr.m T.eB.b .nil gy (ad 0) (aa (ad 3) ae)))
 (al (js T.cG T.zx jv (ad 0) ap)
 (al (aN (UC*>T.ux (ad 0) (aa (ad 1) (aa (ad 2) ae))))
 (al (aV (aX me (bi T.et T.FC (ad 4)) (dl (.str "file") T.Ba #[_,rfl])) (aj (m9 Db rfl (iH (K:=K) rfl (nJ (acU rfl) T.pA zF (aa (bi T.et T.xP (ad 4)) ae))) (xT (K:=K) (n:=2) rfl rfl (nW (eN 5 xS.nd) (nW (eN 6 xS.nd) yH))) (aj jT))) bv)
 (al (ng (eL hr) (bi T.et T.ET (dA T.cG T.eB.h (kM T) hr.m T.eB.b .nil gy (ad 0) (aa (ad 1) ae))) (ad 2) (ad 3))
 (aj (ng (eL hr) (bi T.et T.xP (ad 4)) (dL (aa (ad 1) (aa (ad 2) ae))) em)))))))).h,?_]
 exists 3;right;show(mI ht sg (mh i jG fw ?_));right;show#[AA.t,_,_,.int c2,rfl,ht,(sg _).trans rfl,_,_,rfl,rfl,_,_,ht,∅,ao ?_];have tn:∀ b∈ak.l,AA.t≠b:=i.o7 jG _ (by simp[Ad.w]);have i1:aF T.aI T.aK T.aQ (upd H AA.t (.ins T.aK AA.dt (az "changes" (.int (c2+1)) gs))) AA L M:=by
  have w:=i.write (H':=upd H AA.t (.ins T.aK AA.dt (az "changes" (.int (c2+1)) gs))) (t':=tk) jG #[fs,c,by rw[ag i.aT];show hx,aO,sf] #[_,c2+1,ay,by rw[fC (u:=.int c2) ((sg _).trans rfl)];show eX,fun f=>by rw[(sg.put "changes" (.int (c2+1))) f];rfl]
   (PJ.keep (W:=[AA.t]) (fun b o hb e=>by rw[ag (fun z=>hb (by simp[z]))];show e) fun b hb=>by simp[ss (tn b hb)]) (fun b o hb e=>by simp only[li,lm,wP,Ps]at hb;rw[ag hb.2.1];show e)
  have e:M.ts.set k tk=M.ts:=by
   apply List.ext_getElem?;intro j;by_cases hj:k=j
   ·subst hj;rw[Sc (sB.mp fw).1,fw]
   ·rw[Re hj]
  rw[e]at w;show w
 have iz:Kp [AA.t] H (upd H AA.t (.ins T.aK AA.dt (az "changes" (.int (c2+1)) gs))):=fun b o hb e=>by rw[ag (fun z=>hb (by simp[z]))];show e
 generalize upd H AA.t (.ins T.aK AA.dt (az "changes" (.int (c2+1)) gs))=H1 at i1 iz ⊢;let⟨gs1,c3,ka,O5,GZ⟩:=i1.t;have Qr:=gX i1 jG fw;have ithf1:=gX i1 gA bE;let⟨ks1,P6,hol1,Qt⟩:=Qr.o;let⟨eY,hf1,fT,bX⟩:=ithf1.o;left;show(mI ka GZ #[AA,L,M,f,af,tf,i1,rfl,rfl,gA,bE,hv,?_]);show gx (fun σ' H'=>ai H1 H'/\∃ t5 t6,σ'=[!V.ref AA.t,!V.int (f:Int),!V.str z,!V.int (k:Int),!-ak.th,t5,t6]) ?_ ?_
 ·left;show(fI P6 Qt rfl ?_);show nk (fun _=>?_) (fun _=>#[ai.refl _,_,_,rfl]);show(fI P6 Qt rfl ?_);have tR:H1 ak.pl=!.dT []:=by have:=Qr.pl;rw[bt]at this;show this
  show#[ak.pl,_,rfl,tR,?_];intro l ks hk _ hl;have w9:ks=[]:=IR.mp hk;subst w9;show#[#[_,aC.of ay],qe (xs:=[]) (fun _ σ' H'=>H'=upd H1 l (.lst [])/\σ'=[!V.ref AA.t,!V.int (f:Int),!V.str z,!V.int (k:Int),!-ak.th,none,none]) #[rfl,rfl] (fun _ σ' H' _ h=>by rw[h.1];show aC.of ay) (fun j x σ' H' hx _=>by simp at hx) (fun σ' H' h=>?_)];let⟨rfl,rfl⟩:=h;show#[ai.upd hl,_,_,rfl]
 ·rintro σ' H2 ⟨s2,t5,t6,rfl⟩;have i2:=i1.same s2;let⟨gs2,c4,gb,hgl2,OS⟩:=i2.t;let⟨tL,d2,bT,hxl2,sx2⟩:=i2.h;have GL:=gX i2 gA bE;let⟨ia,PR,gF,bY⟩:=GL.o;have Pz:=i2.own gA;have Px:=i2.own jG;have Po:=i2.o7 gA;have Qg:=i2.o7 jG;right;show(mI gb OS (mh i2 gA bE #[af.th,_,_,-af.nm,rfl,PR,(bY _).trans rfl,af.nm,_,rfl,ie.k (k:=.inr z) GL.nm (gG (by unfold sD;rw[lv];omega)),?_]));rw[we hv];have i3:aF T.aI T.aK T.aQ (upd H2 af.nm (.dK (sD (tf.bb++[(z,k)])))) AA L { M with ts:=M.ts.set f { tf with bb:=tf.bb++[(z,k)] } }:=by
   show i2.write gA #[tL,d2,by rw[ag (Po _ (by simp[Ad.w]) _ (by simp[Ta.l]))];show bT,hxl2,sx2] #[gs2,c4,by rw[ag (Po _ (by simp[Ad.w]) _ (by simp[Ta.l]))];show gb,hgl2,OS] #[#[ia,by rw[ag Pz.1];show PR,gF,bY],ay,by rw[ag (ss Pz.2.2)];show GL.pl] (fun b o hb e=>?_);simp only[li,lm,wP,Ps]at hb;rw[ag hb.2.2.2.1];show e
  have P5:Kp [AA.t,af.nm] H (upd H2 af.nm (.dK (sD (tf.bb++[(z,k)])))):=fun b o hb e=>by
   simp only[li,lm,wP,Ps]at hb;rw[ag hb.2];show s2 _ _ (iz b o (by simp[hb.1]) e)
  generalize upd H2 af.nm (.dK (sD (tf.bb++[(z,k)])))=H3 at i3 P5 ⊢;have Qn:(M.ts.set f { tf with bb:=tf.bb++[(z,k)] })[k]?=!tk:=by rw[Re hfk];show fw
  have ithk3:=gX i3 jG Qn;let⟨ks3,ho3,hol3,so3⟩:=ithk3.o;left;show#[ak.th,_,_,-ak.pl,rfl,ho3,(so3 _).trans rfl,fits (),fun p hp=>?_];show dh hp fun H4 s4 b4=>?_;have i4:=i3.same s4;have F4:=gX i4 jG Qn;let⟨ks4,ho4,hol4,so4⟩:=F4.o;let⟨gs4,c5,ht4,hgl4,sg4⟩:=i4.t;let⟨hs4,d4,f6,hxl4,sx4⟩:=i4.h;have hpl4:H4 ak.pl=!.dT []:=by have:=F4.pl;rw[bt]at this;show this
  show#[ak.pl,_,rfl,ie.t (k:=[.inl (f:Int),.inr z]) hpl4 b4 ⋯,?_];show q _ (i4.write jG #[hs4,d4,by rw[ag (Qg _ (by simp[Ad.w]) _ (by simp[Ta.l]))];show f6,hxl4,sx4] #[gs4,c5,by rw[ag (Qg _ (by simp[Ad.w]) _ (by simp[Ta.l]))];show ht4,hgl4,sg4] #[#[ks4,by rw[ag Px.2.1];show ho4,hol4,so4],by rw[ag Px.2.2];show F4.nm,ay] (fun b o hb e=>?_)) (fun b o hb e=>?_)
  ·simp only[li,lm,wP,Ps]at hb;rw[ag hb.2.2.2.2];show e
  ·simp only[li,lm,wP,Ps]at hb;rw[ag hb.2.2];show s4 _ _ (P5 b o (by simp[hb.1,hb.2.1]) e)
def  NH(CH:ϋ)(fld:Str):Sp:=kg fun x z n H Q _=>X5 fun dx fs c d kvs=>A7 (H x=!.ins CH dx fs) (fs.length<=40) (fs.lookup ("changes":Str)=!.int c) (fs.lookup fld=!-d) (H d=!.dK kvs) (kvs.length<=40) (Q .aw (upd (upd H x (.ins CH dx (az "changes" (.int (c+1)) fs))) d (.dK (putK kvs (.inr z) (.int n)))))
def  abZ(CH:ϋ):Sp:=iJ fun x z H Q _=>X7 fun dx fs c ro st kr ks=>Jf (H x=!.ins CH dx fs) (fs.length<=40) (fs.lookup ("changes":Str)=!.int c) (fs.lookup ("roots":Str)=!-ro) (fs.lookup ("standings":Str)=!-st) (fs.lookup ("first_root":Str)=!.int 0) (fs.lookup ("put_root":Str)=none) (fs.lookup ("put_standing":Str)=none) (H ro=!.dK kr) (kr.length<=40) (H st=!.dK ks) (ks.length<=40) (ro≠st) (∀ fs' c' H',H' x=!.ins CH dx fs'->fs'.length<=40->dv fs' (az "changes" (.int c') fs)->H' ro=!.dK (putK kr (.inr z) (.int 0))->H' st=!.dK (putK ks (.inr z) (.int 0))->(∀ b,b≠x->b≠ro->b≠st->H' b=H b)->Q .aw H')
def Ky:T.lS.k P w mg base 1 (NH T.aI "roots"):=by
 show T.lS.F.ok WG (fun _ _ _ _ h=>fL h fun _ _ _ _=>rfl) fun ax A _ s H vs Q E hr h=>fL h fun x z n h=>?_;let⟨dx,fs,c,d,kvs,hx,aO,hc,hd,hD,gB,q⟩:=h;show#[_,((al (js T.aD T.qf jv (ad 0) ap)
 (aj (ng (eL hr) (bi T.aD T.uf (ad 0)) (ad 1) (ad 2))))).h,?_]
 exists 0;have cQ:d≠x:=fun e=>by rw[e,hx]at hD;cases hD
 right;show#[x,dx,fs,.int c,rfl,hx,hc,_,_,rfl,rfl,dx,fs,hx,∅,?_];left;show#[x,dx,_,-d,rfl,ay,by rw[en,wf ⋯];show hd,d,_,rfl,ie.k (k:=.inr z) (by rw[ag cQ];show hD) (gG ∅),q]
def NV:T.jS.k P w mg base 1 (NH T.aI "standings"):=by
 show T.jS.F.ok Tw (fun _ _ _ _ h=>fL h fun _ _ _ _=>rfl) fun ax A _ s H vs Q E hr h=>fL h fun x z n h=>?_;let⟨dx,fs,c,d,kvs,hx,aO,hc,hd,hD,gB,q⟩:=h;show#[_,((al (js T.aD T.qf jv (ad 0) ap)
 (aj (ng (eL hr) (bi T.aD T.BE (ad 0)) (ad 1) (ad 2))))).h,?_]
 exists 0;have cQ:d≠x:=fun e=>by rw[e,hx]at hD;cases hD
 right;show#[x,dx,fs,.int c,rfl,hx,hc,_,_,rfl,rfl,dx,fs,hx,∅,?_];left;show#[x,dx,_,-d,rfl,ay,by rw[en,wf ⋯];show hd,d,_,rfl,ie.k (k:=.inr z) (by rw[ag cQ];show hD) (gG ∅),q]
def Mo:T.o6.k P w mg base 2 (abZ T.aI):=by
 show T.o6.F.ok VT (fun _ _ _ _ h=>dU h fun _ _ _=>rfl) fun ax A _ s H vs Q E hr h=>dU h fun x z h=>?_;let⟨dx,fs,c,ro,st,kr,ks,hx,aO,hc,oO,aR,m7,oy,cL,HC,i9,Gb,w9,tO,q⟩:=h;show#[_,((al (aN (Ky<*T.lS (ad 0) (aa (ad 1) (aa (bi T.aD T.EJ (ad 0)) ae))))
 (aj (aN (NV<*T.jS (ad 0) (aa (ad 1) (aa (bi T.aD T.EJ (ad 0)) ae))))))).h,?_]
 exists 0;have n1:ro≠x:=fun e=>by rw[e,hx]at HC;cases HC
 have n2:st≠x:=fun e=>by rw[e,hx]at Gb;cases Gb
 right;show#[x,dx,fs,rfl,hx,oy,x,dx,fs,.int 0,rfl,hx,m7,?_];show#[dx,fs,c,ro,kr,hx,∅,hc,oO,HC,i9,?_];have bg:upd (upd H x (.ins T.aI dx (az "changes" (.int (c+1)) fs))) ro (.dK (putK kr (.inr z) (.int 0))) x=!.ins T.aI dx (az "changes" (.int (c+1)) fs):=by rw[ag (ss n1),ay]
 have dM:upd (upd H x (.ins T.aI dx (az "changes" (.int (c+1)) fs))) ro (.dK (putK kr (.inr z) (.int 0))) ro=!.dK (putK kr (.inr z) (.int 0)):=ay;have Aa:upd (upd H x (.ins T.aI dx (az "changes" (.int (c+1)) fs))) ro (.dK (putK kr (.inr z) (.int 0))) st=!.dK ks:=by rw[ag (ss tO),ag n2];show Gb
 have tF:∀ b,b≠x->b≠ro->upd (upd H x (.ins T.aI dx (az "changes" (.int (c+1)) fs))) ro (.dK (putK kr (.inr z) (.int 0))) b=H b:=fun b b1 b2=>by rw[ag b2,ag b1]
 generalize upd (upd H x (.ins T.aI dx (az "changes" (.int (c+1)) fs))) ro (.dK (putK kr (.inr z) (.int 0)))=H1 at bg dM Aa tF ⊢;have lk:∀ f:Str,f ≠ "changes" -> (az "changes" (.int (c+1)) fs).lookup f=fs.lookup f:=fun f hf=>by rw[en,wf hf]
 left;show#[x,dx,_,rfl,bg,(lk _ ⋯).trans cL,x,dx,_,.int 0,rfl,bg,(lk _ ⋯).trans m7,?_];show#[dx,_,c+1,st,ks,bg,by rw[fC hc];show aO,by rw[en,wl rfl],(lk _ ⋯).trans aR,Aa,w9,?_];show q _ (c+1+1) _ (by rw[ag (ss n2),ay]) (by rw[fC (u:=.int (c+1)) (by rw[en,wl rfl]),fC hc];show aO) (fun f=>?_) (by rw[ag tO,ag n1];show dM) ay (fun b b1 b2 b3=>by rw[ag b3,ag b1];show tF b b1 b2);rw[en,en,en];by_cases e:f = "changes"
 ·rw[wl e,wl e]
 ·rw[wf e,wf e,wf e]
def  V2(CH CS CT:ϋ):Sp:=jg fun x m own H Q _=>A2 (m = "main") (X7 fun dx fs c t dt ml tr=>A9 (H x=!.ins CH dx fs) (fs.length<=40) (fs.lookup ("things":Str)=!-t) (fs.lookup ("changes":Str)=!.int c) (fs.lookup ("tree_roots":Str)=!-tr) (fs.lookup ("add_folder":Str)=none) (lH CS H t dt ml []) (H tr=!.dK []) (∀ th dI nm pl fs' ks c' H',H th=none->H nm=none->H pl=none->H' x=!.ins CH dx fs'->fs'.length<=fs.length->dv fs' (az "changes" (.int c') fs)->lH CS H' t dt ml [-th]->H' th=!.ins CT dI ks->ks.length<=40 ->
    dv ks (uM (.int 0) (.str "folder") (.str own) (.str "lgw") (.str "lg") (.str "") (-nm) (-pl))->H' nm=!.dK []->H' pl=!.dT []->H' tr=!.dK [(.inr "main",.int 0)]->Kp [x,t,ml,tr] H H'->Q (.int 0) H'))
def abi:T.ku.k P w mg base 5 (V2 T.aI T.aK T.aQ):=by
 show T.ku.F.ok yJ (fun _ _ _ _ h=>eG h fun _ _ _ _=>rfl) fun ax A _ s H vs Q E hr h=>eG h fun x m own h=>?_;let⟨rfl,dx,fs,c,t,dt,ml,tr,hx,aO,aS,hc,eU,gA,Ht,lx,q⟩:=h;let⟨gs,d,ht,eX,sg⟩:=Ht.o;have iA:=Ht.ml;show#[_,((al (aM 3 yJ.nd (BG*>T.l9 (bi T.aD T.gR (ad 0)) (aa (ad 2) (aa am (aa am ae)))))
 (al (js T.aD T.qf jv (ad 0) ap)
 (al (ng (eL hr) (bi T.aD T.nR (ad 0)) (ad 1) (ad 3))
 (aj (aL (ad 3))))))).h,?_]
 exists 1;have n1:t≠x\/True:=.inr trivial;right;show#[x,dx,fs,-t,rfl,hx,aS,t,dt,gs,rfl,ht,(sg _).trans rfl,?_];show#[dt,ml,[],Ht,(),?_];intro th dI nm pl ks H1 fth fnm fpl at1 hth1 hkl1 sk1 hnm1 tR iz;let⟨gs',d',ka,O5,GZ⟩:=at1.o;have mS:=at1.ml;have zV:x≠t:=fun e=>by
  rw[e,ht]at hx;injection hx with hx;injection hx with _ _ oq;rw[<- oq]at aS;have:=(sg "things").symm.trans aS;cases this
 have O0:x≠ml:=fun e=>by rw[e,iA]at hx;cases hx
 have P7:tr≠t:=fun e=>by rw[e,ht]at lx;cases lx
 have Qz:tr≠ml:=fun e=>by rw[e,iA]at lx;cases lx
 have QF:tr≠x:=fun e=>by rw[e,hx]at lx;cases lx
 have bg:H1 x=!.ins T.aI dx fs:=iz _ _ (by simp[zV,O0]) hx;have hTr1:H1 tr=!.dK []:=iz _ _ (by simp[P7,Qz]) lx;right;show#[x,dx,fs,.int c,rfl,bg,hc,_,_,rfl,rfl,dx,fs,bg,∅,ao ?_];left;show#[x,dx,_,-tr,rfl,ay,by rw[en,wf ⋯];show eU,tr,_,rfl,ie.k (k:=.inr "main") (by rw[ag QF];show hTr1) ⋯,?_];left;have old:∀ b o,H1 b=!o->b≠x->b≠tr->upd (upd H1 x (.ins T.aI dx (az "changes" (.int (c+1)) fs))) tr (.dK (putK [] (.inr "main") (.int 0))) b=!o:=fun b o e b1 b2=>by rw[ag b2,ag b1];show e
 have Qf:th≠x/\th≠tr:=#[ss (bD hx fth),ss (bD lx fth)];have OU:nm≠x/\nm≠tr:=#[ss (bD hx fnm),ss (bD lx fnm)];have Qs:pl≠x/\pl≠tr:=#[ss (bD hx fpl),ss (bD lx fpl)];show q th dI nm pl _ ks (c+1) _ fth fnm fpl (by rw[ag (ss QF),ay]) (Nat.le_of_eq (fC hc)) (dv.refl _) #[#[gs',d',old _ _ ka (ss zV) (ss P7),O5,GZ],old _ _ mS (ss O0) (ss Qz)] (old _ _ hth1 Qf.1 Qf.2) hkl1 sk1 (old _ _ hnm1 OU.1 OU.2) (old _ _ tR Qs.1 Qs.2) ay ?_;intro b o hb e;simp only[li,lm,wP,Ps]at hb;show old _ _ (iz b o (by simp[hb.2.1,hb.2.2.1]) e) hb.1 hb.2.2.2
def aA.never{P:ύ}{w:World}{K:ν}{mg:Str->Option ϊ}{base:Heap}{CX:eP}{k:Nat}{f:ϋ}{fd:FuncData}{ps:List Str}:aA P w K mg base CX k f fd ps (fun _ _ _ _=>False):=#[fun _ _ _ _ h=>h.elim,fun _ _ _ _ _ _ _ _ _ _ _ _ _ h=>h.elim]
def jW:aA P w K mg base (cB P w) 1 T.dP.f T.dP.d ["self","asker"] (Ia T.aI T.aK T.aQ T.tZ):=by
 show T.dP.F.dG adq (fun _ _ _ _ h=>sA h fun _ _ _=>rfl) fun ax A _ s H vs Q E hr h=>sA h fun x v h=>?_;let⟨AA,L,M,i,rfl,⟨ty,cx⟩,q1,q2⟩:=h;let⟨fs,c,hx,aO,sf⟩:=i.h;show#[_,((aj (aV (ff (ge (dF (cU (cT kY T.gO gS (aa (ad 1) (aa (kC (.ty "str") T.nY nj rfl) ae))))) (jY (KL (eL hr) (ad 1) (bi T.aD T.uf (ad 0)))))) (aj (yN yi rfl T.WI T.abC (aa am ae))) bv))).h,?_];exists 0;left;simp only[cx,yE cx];show#[wm _ rfl,?_];cases v with
 | str z =>
  simp only[vw,_y,Go,Wp];show#[AA.a,_,_,-AA.ro,rfl,hx,(sf _).trans rfl,AA.ro,_,rfl,dN.k (k:=.inr z) i.ro,?_];cases hz:ah (sD M.ro) (.inr z) with
  | none=>show bS #[fits (),q2 fun z' e=>by cases e;show hz]
  | some u=>show bf (q1 z rfl (by rw[hz];rfl))
 | _=>show#[fits (),q2 fun z' e=>by cases e]
section
variable {T:Tx K mg}{H:Hp}{A:Ad}{L:List Ta}{M:Hs}
def kZ{z:Str}{Q:VK}{E:XK}(i:aF T.aI T.aK T.aQ H A L M)(hz:(ah (sD M.ro) (.inr z)).isSome=true)(q:Q .aw H):Ia T.aI T.aK T.aQ T.tZ [-A.a,.str z] H Q E :=
 #[A,L,M,i,rfl,#[_,rfl],fun _ _ _=>q,fun h=>by rw[h z rfl]at hz;cases hz]
end
def pk:T.fY.k P w mg base 2 (abY T.aI T.aK T.aQ):=by
 show T.fY.F.ok aa1 (fun _ _ _ _ h=>dU h fun _ _ _=>rfl) fun ax A _ s H vs Q E hr h=>dU h fun x z h=>?_;let⟨AA,L,M,r,i,rfl,hz,q⟩:=h;let⟨fs,c,hx,aO,sf⟩:=i.h;show#[_,((al (aN (dA T.aD T.dP.h (jW T) hr.m T.dP.b .nil gy (ad 0) (aa (ad 1) ae)))
 (aj (aL (pN (eL hr) (bi T.aD T.uf (ad 0)) (ad 1)))))).h,?_]
 exists 0;right;show(mI hx sf (kZ i (by rw[hz];rfl) ?_));show#[AA.a,_,_,-AA.ro,rfl,hx,(sf _).trans rfl,AA.ro,.int r,rfl,?_,q];have:=dN.k (k:=.inr z) i.ro;rw[hz]at this;show this
def  T7(CH CS CT:ϋ):Sp:=iJ fun x z H Q _=>X4 fun A L M (r:Nat)=>A5 (aF CH CS CT H A L M) (A.a=x) ((ah (sD M.ro) (.inr z)).isSome=true) (ah (sD M.st) (.inr z)=!.int r) (Q (.int r) H)
def NI:T.pI.k P w mg base 2 (T7 T.aI T.aK T.aQ):=by
 show T.pI.F.ok QQ (fun _ _ _ _ h=>dU h fun _ _ _=>rfl) fun ax A _ s H vs Q E hr h=>dU h fun x z h=>?_;let⟨AA,L,M,r,i,rfl,hzr,hz,q⟩:=h;let⟨fs,c,hx,aO,sf⟩:=i.h;show#[_,((al (aN (dA T.aD T.dP.h (jW T) hr.m T.dP.b .nil gy (ad 0) (aa (ad 1) ae)))
 (aj (aL (pN (eL hr) (bi T.aD T.BE (ad 0)) (ad 1)))))).h,?_]
 exists 0;right;show(mI hx sf (kZ i hzr ?_));show#[AA.a,_,_,-AA.st,rfl,hx,(sf _).trans rfl,AA.st,.int r,rfl,?_,q];have:=dN.k (k:=.inr z) i.st;rw[hz]at this;show this
def Cb:T.mq.k P w mg base 4 (aar T.aI T.aK T.aQ):=by
 show T.mq.F.ok SG (fun _ _ _ _ h=>rO h fun _ _ _ _=>rfl) fun ax A _ s H vs Q E hr h=>rO h fun x n z h=>?_;let⟨AA,L,M,k,a,t,i,rfl,rfl,ha,aS,hn,hl,q⟩:=h;show#[_,((al (aN (y8<$>T.hV (aa (ad 2) ae)))
 (aj (aL (MU*>T.pJ (bi T.aD T.gR (ad 0)) (aa (ad 1) (aa (ad 2) ae))))))).h,?_]
 exists 0;right;show#[#[_,rfl],hl,hn,fun H1 s1=>?_];have i1:=i.same s1;let⟨fs,c,hx,aO,sf⟩:=i1.h;let⟨gs,c2,ht,eX,sg⟩:=i1.t;show#[AA.a,_,_,-AA.t,rfl,hx,(sf _).trans rfl,AA.t,_,_,rfl,ht,(sg _).trans rfl,AA,L,M,k,a,t,i1,rfl,rfl,ha,aS,q H1 s1]
def CB:aA P w K mg base (cB P w) 3 T.mD.f T.mD.d ["self","asker","number","right"] (Jh T.aI T.aK T.aQ T.tZ T.wK T.tQ):=by
 show T.mD.F.dG Q6 (fun _ _ _ _ h=>zi h fun _ _ _ _ _=>rfl) fun ax A _ s H vs Q E hr h=>zi h fun x wv v r h=>?_;let⟨AA,L,M,i,rfl,hcw,hcv,hcr,q1,q2⟩:=h;let⟨fs,c,hx,aO,sf⟩:=i.h;let⟨gs,c2,ht,eX,sg⟩:=i.t;show#[_,((al (aN (jW<&>T.dP (ad 0) (aa (ad 1) ae)))
 (al (aN (abD<*>T.sC (aa (ad 3) ae)))
 (aj (aL (f8 (rT (K:=K) rfl) (ad 3) (aW T.et T.wx.h (Vk T) hr.m T.wx.b .nil aq (dA T.cG T.eB.h (kM T) hr.m T.eB.b .nil cv (bi T.aD T.gR (ad 0)) (aa (ad 2) ae)) (aa (ad 1) ae)))))))).h,?_]
 exists 0;right;show(mI hx sf #[AA,L,M,i,rfl,hcw,fun z ez hz=>?_,q1]);let⟨q3,q4⟩:=q2 z ez hz;subst ez;right;show#[hcr,fun h1=>?_,q3];let⟨st,rfl⟩:∃ st,r=.str st:=by
  unfold lh at h1;simp only[Bool.or_eq_true,_i]at h1;rcases h1 with (h1 | h1) | h1 <;> show#[_,h1]
 let⟨q5,q6⟩:=q4 st rfl h1;show#[AA.a,_,_,-AA.t,rfl,hx,(sf _).trans rfl,AA.t,_,_,rfl,ht,(sg _).trans rfl,AA,L,M,i,rfl,hcv,fun k a t ev ha aS=>?_,q5];have dS:=gX i ha aS;let⟨ks,ho,jC,so⟩:=dS.o;show(mI ho so #[a,k,t,dS,rfl,q6 k t ev aS])
def  M0(z:Str):Hs:={ ts:=[{ kd := "folder",ow:=z,mi := "lgw",re := "lg",tx := "",bb:=[],bV:=[] }],ro:=[(z,0)],st:=[(z,0)],tr:=[("main",0)],ov:=[],un:=[] }
def  V8(CH CS CT:ϋ):Sp:=iJ fun x z H Q _=>A4 (∃ dx,H x=!.ins CH dx []) (z.length<=1000) (fS (.str z)=true) (∀ A L H',A.a=x->aF CH CS CT H' A L (M0 z)->(∀ b∈A.w++L.flatMap Ta.l,b≠x->H b=none)->Kp [x] H H'->Q .aw H')
structure jP(H0:Hp)(x C dx:ϋ)(m:Nat)(fs:List (Str×V))(ds:List (ϋ×HO))(H:Hp):Prop where
 hx:H x=!.ins C dx fs
 n:fs.length<=m
 d:∀ p∈ds,H p.1=!p.2/\p.1≠x/\H0 p.1=none
 nd:(ds.map (·.1)).Nodup
 k:Kp [x] H0 H
section
variable {H0 H:Hp}{x C dx:ϋ}{m:Nat}{fs:List (Str×V)}{ds:List (ϋ×HO)}{f:Str}{u:TS}{D:Ends}{σ:St}
def jP.set{v:V}(j:jP H0 x C dx m fs ds H):jP H0 x C dx (m+1) (az f v fs) ds (upd H x (.ins C dx (az f v fs))) :=
 #[ay,cY j.n,fun p hp=>let ⟨a,b,c⟩:=j.d p hp;#[by rw[ag b];show a,b,c],j.nd,fun b o hb e=>by rw[ag (by simpa using hb)];show j.k b o hb e]
def jP.new{d:ϋ}{o:HO}(j:jP H0 x C dx m fs ds H)(hd:H d=none):jP H0 x C dx m fs ((d,o)::ds) (upd H d o):=by
 have nx:=bD j.hx hd;show#[by rw[ag nx];show j.hx,j.n,fun p hp=>?_,AT.mpr #[fun z=>?_,j.nd],fun b o hb e=>?_]
 ·rcases li.mp hp with rfl | hp
  ·show#[ay,ss nx,_d.mpr fun o e=>by have:=j.k d o (by simpa using ss nx) e;rw[hd]at this;cases this]
  ·let⟨a,b,c⟩:=j.d p hp;show#[by rw[ag (bD a hd)];show a,b,c]
 ·let⟨p,hp,e⟩:=wS.mp z;have:=(j.d p hp).1;rw[e,hd]at this;cases this
 ·have:=j.k b o hb e;rw[ag (bD this hd)];show this
def setC{v:V}(j:jP H0 x C dx m fs ds H)(hm:m < 40)(q:∀ H',jP H0 x C dx (m+1) (az f v fs) ds H'->u D (some (-x)::σ) H'):lK (pK C f (fB 0) (tC v)) u D (some (-x)::σ) H :=
 ao #[x,dx,_,rfl,j.hx,_c j.n (Nat.lt_trans hm ⋯),q _ j.set]
def qM(j:jP H0 x C dx m fs ds H)(hm:m < 40)(q:∀ d H',jP H0 x C dx (m+1) (az f (-d) fs) ((d,.dK [])::ds) H'->u D (some (-x)::σ) H'):lK (pK C f (fB 0) y6) u D (some (-x)::σ) H :=
 ao fun d hd=>#[x,dx,_,rfl,(j.new hd).hx,_c j.n (Nat.lt_trans hm ⋯),q d _ (j.new hd).set]
end
def Rq:T.vY.k P w mg base 6 (V8 T.aI T.aK T.aQ):=by
 show T.vY.F.ok abO (fun _ _ _ _ h=>dU h fun _ _ _=>rfl) fun ax A _ s H vs Q E hr h=>dU h fun x z h=>?_;let⟨⟨dx,zR⟩,m8,hn,q⟩:=h;show#[_,((al (aN (y8<$>T.hV (aa (ad 1) ae)))
 (al (bN T.aD T.gR (ad 0) (VW T.RZ (abw T) hr.m T.Vi T.uY.b .nil aq))
 (al (bN T.aD T.qf (ad 0) ap)
 (al (bN T.aD T.uf (ad 0) px)
 (al (bN T.aD T.BE (ad 0) px)
 (al (bN T.aD T.nR (ad 0) px)
 (al (bN T.aD T.u4 (ad 0) px)
 (al (bN T.aD T.rV (ad 0) px)
 (al (bN T.aD T.acw (ad 0) px)
 (al (bN T.aD T.Zl (ad 0) ap)
 (al (bN T.aD T.EJ (ad 0) (abi<*T.ku (ad 0) (aa (dl (.str "main") T.Mq #[_,rfl]) (aa (ad 1) ae))))
 (aj (aN (Mo<*T.o6 (ad 0) (aa (ad 1) ae)))))))))))))))).h,?_]
 exists 0;right;show#[#[_,rfl],m8,hn,fun H1 s1=>?_];have bg:=s1 _ _ zR;right;intro t dt ht tK tS;show#[dt,ay,fun ml H2 iA Ab fr2 hml2 gs eX sg gb=>#[rfl,?_]];have zV:x≠t:=bD bg ht;have hml':H1 ml=none:=by
  rw[ag Ab]at iA;by_cases e:ml=dt
  ·rw[e,ay]at iA;cases iA
  ·rw[ag e]at iA;show iA
 have s2:ai H1 H2:=fun b o e=>by
  rw[fr2 b (bD e ht) (bD e hml'),ag (bD e ht),ag (bD e tK)];show e
 have fr:∀ {b:ϋ},H1 b=none->H b=none:=fun {b} h=>_d.mpr fun o e=>by rw[s1 b o e]at h;cases h
 have j:jP H x T.aI dx 0 [] [(t,.ins T.aK dt gs),(ml,.lst [])] H2:=#[s2 _ _ bg,pi _,fun p hp=>(by
  simp only[li,lm,wP]at hp;rcases hp with rfl | rfl
  ·show#[gb,ss zV,fr ht]
  ·show#[hml2,ss (bD bg hml'),fr hml']),by simpa using ss Ab,fun b o hb e=>s2 _ _ (s1 _ _ e)]
 show#[x,dx,_,rfl,j.hx,⋯,setC j.set ⋯ fun H4 j=>qM j ⋯ fun ro H5 j=>qM j ⋯ fun st H6 j=>qM j ⋯ fun tr H7 j=>qM j ⋯ fun ov H8 j=>qM j ⋯ fun un H9 j=>qM j ⋯ fun ho xy j=>setC j ⋯ fun Ap j=>ao ?_];clear fr2 s2 bg ht iA tK zR;have jd:=j.d;have nd:=j.nd;simp only[List.forall_mem_cons]at jd;simp only[FB,_W,AT,li,lm,wP,Ps]at nd;let⟨⟨gho,nho,fho⟩,⟨Pp,Qp,fun0⟩,⟨OO,PN,fov⟩,⟨ON,ntr,ftr⟩,⟨Qq,OX,fst0⟩,⟨Pl,Pg,fro⟩,⟨gt,nt,ft⟩,⟨P1,Ab,fml⟩,_⟩:=jd;have Hl:=j.hx;left;show#[x,dx,_,rfl,Hl,rfl,rfl,dx,_,0,t,dt,ml,tr,Hl,ut j.n ⋯,rfl,rfl,rfl,rfl,#[#[gs,0,gt,eX,sg],P1],ON,?_];intro th dI nm pl fs' ks c' H12 fth fnm fpl hxA hflA Hy atA hthA hklA skA hnmA hplA htrA kpA;let⟨gs',d',htA,hglA,sgA⟩:=atA.o;have wQ:∀ f:Str,f ≠ "first_root" -> f ≠ "changes" -> (az "first_root" (.int 0) fs').lookup f=List.lookup f _:=fun f h1 h2=>((en ..).trans (wf h1)).trans ((Hy f).trans ((en ..).trans (wf h2)));have kp:∀ {b:ϋ}{o:HO},b≠x->b≠t->b≠ml->b≠tr->Ap b=!o->H12 b=!o:=fun {b o} h1 h2 h3 h4 e=>kpA b o (by simp[h1,h2,h3,h4]) e;let⟨⟨_,_,_,_,_,_,_⟩,⟨_,_,_,_,_,_⟩,⟨_,_,_,_,_⟩,⟨_,_,_,_⟩,⟨_,_,_⟩,⟨_,_⟩,_,_⟩:=nd;show#[x,dx,fs',rfl,hxA,by have:=j.n;omega,x,dx,_,rfl,ay,(wQ _ ⋯ ⋯).trans rfl,dx,_,c',ro,st,[],[],ay,ut (cY (ut hflA j.n)) ⋯,by rw[en,wf ⋯,Hy,en,wl rfl],(wQ _ ⋯ ⋯).trans rfl,(wQ _ ⋯ ⋯).trans rfl,by rw[en,wl rfl],(wQ _ ⋯ ⋯).trans rfl,(wQ _ ⋯ ⋯).trans rfl,(ag Pg).trans (kp Pg ?_ ?_ ?_ Pl),⋯,(ag OX).trans (kp OX ?_ ?_ ?_ Qq),⋯,?_,fun hX c3 H13 hx13 f9 dR hro3 hst3 AE=>?_]
 all_goals try (first | assumption | (show ss ?_;assumption))
 have old:∀ {b:ϋ}{o:HO},b≠x->b≠ro->b≠st->H12 b=!o->H13 b=!o:=fun {b o} b1 b2 b3 e=>by rw[AE b b1 b2 b3,ag b1];show e
 have nn:∀ {b:ϋ}{o:HO},Ap b=!o->b≠th/\b≠nm/\b≠pl:=fun e=>#[bD e fth,bD e fnm,bD e fpl];have e1:=nn Hl;have e2:=nn gt;have e3:=nn P1;have e4:=nn Pl;have e5:=nn Qq;have e6:=nn ON;have e7:=nn OO;have e8:=nn Pp;have e9:th≠nm:=eQ hthA hnmA (by nofun);have tP:th≠pl:=eQ hthA hplA (by nofun);have qA:nm≠pl:=eQ hnmA hplA (by nofun);show q #[x,dx,t,dt,ml,ro,st,tr,ov,un,ho] [#[th,dI,nm,pl]] H13 rfl #[#[hX,c3,hx13,f9,fun f=>((dR f).trans ((Hy.put "first_root" (.int 0)).put "changes" (.int c3) f)).trans rfl],#[gs',d',old nt ?_ ?_ htA,hglA,sgA],old Ab ?_ ?_ atA.ml,rfl,fun i tt e=>?_,hro3,hst3,old ntr ?_ ?_ htrA,old PN ?_ ?_ (kp PN ?_ ?_ ?_ OO),old Qp ?_ ?_ (kp Qp ?_ ?_ ?_ Pp),?_] (fun b hb xh=>?_) fun b o hb e=>?_
 all_goals try (first | assumption | (show ss ?_;assumption))
 ·obtain rfl:i=0:=Nat.lt_one_iff.mp (sB.mp e).1;cases e;show#[_,rfl,#[#[ks,old (ss e1.1) (ss e4.1) (ss e5.1) hthA,hklA,skA],old (ss e1.2.1) (ss e4.2.1) (ss e5.2.1) hnmA,old (ss e1.2.2) (ss e4.2.2) (ss e5.2.2) hplA]]
 ·change List.Nodup [x,t,ml,ro,st,tr,ov,un,th,nm,pl];simp only[AT,li,lm,wP,Ps,not_false_eq_true,_X,and_true]
  and_intros
  all_goals first | assumption | (show ss ?_;assumption) | simp[*]
 ·have hb':b∈[x,t,ml,ro,st,tr,ov,un,th,nm,pl]:=hb;have fz:Ap b=none->H b=none:=fun h=>_d.mpr fun o e=>by rw[j.k b o (by simpa using xh) e]at h;cases h
  simp only[li,lm,wP]at hb';rcases hb' with rfl | rfl | rfl | rfl | rfl | rfl | rfl | rfl | rfl | rfl | rfl <;> first | assumption | show absurd rfl xh | show fz (by assumption)
 ·have xh:b≠x:=fun z=>hb (by simp[z]);show old xh (bD e fro) (bD e fst0) (kp xh (bD e ft) (bD e fml) (bD e ftr) (j.k b o hb e))
def  acV(CH CS CT:ϋ):Sp:=iJ fun x z H Q _=>X3 fun A L M=>A9 (aF CH CS CT H A L M) (A.a=x) (z.length<=1000) (fS (.str z)=true) (M.ro.length<=30) (M.st.length<=30) (ah (sD M.ro) (.inr z)=none) (ah (sD M.st) (.inr z)=none) (∀ H',aF CH CS CT H' A L { M with ro:=M.ro++[(z,0)],st:=M.st++[(z,0)] }->Kp [A.a,A.ro,A.st] H H'->Q .aw H')
def KR:T.qg.k P w mg base 3 (acV T.aI T.aK T.aQ):=by
 show T.qg.F.ok TL (fun _ _ _ _ h=>dU h fun _ _ _=>rfl) fun ax A _ s H vs Q E hr h=>dU h fun x z h=>?_;let⟨AA,L,M,i,rfl,m8,hn,fA,hsl,Qv,zS,q⟩:=h;show#[_,((al (aN (y8<$>T.hV (aa (ad 1) ae)))
 (al (aV (C1 (eL hr) (ad 1) (bi T.aD T.uf (ad 0))) (aj jT) bv)
 (aj (aN (Mo<*T.o6 (ad 0) (aa (ad 1) ae))))))).h,?_]
 exists 0;right;show#[#[_,rfl],m8,hn,fun H1 s1=>?_];have i1:=i.same s1;let⟨fs,c,hx,aO,sf⟩:=i1.h;have nd:=i1.nd;rw[Fa]at nd;have Gs:=nd.1;simp only[Ad.w,AT,li,lm,wP,Ps]at Gs;right;show#[AA.a,_,_,-AA.ro,rfl,hx,(sf _).trans rfl,AA.ro,_,rfl,dN.k (k:=.inr z) i1.ro,?_];rw[Qv];show bf ?_;left;show(mI hx sf #[AA.dx,fs,c,AA.ro,AA.st,_,_,hx,aO,(sf _).trans rfl,(sf _).trans rfl,(sf _).trans rfl,(sf _).trans rfl,(sf _).trans rfl,(sf _).trans rfl,i1.ro,by unfold sD;rw[lv];omega,i1.st,by unfold sD;rw[lv];omega,Gs.2.2.2.1.1,?_]);intro fs' c' H' hx' hfl' sf' hro' hst' fr';have e1:putK (sD M.ro) (.inr z) (.int 0)=sD (M.ro++[(z,0)]):=we Qv;have e2:putK (sD M.st) (.inr z) (.int 0)=sD (M.st++[(z,0)]):=we zS;rw[e1]at hro';rw[e2]at hst';have kp:Kp [AA.a,AA.ro,AA.st] H1 H':=fun b o hb e=>by
  simp only[li,lm,wP,Ps]at hb;rw[fr' b hb.1 hb.2.1 hb.2.2];show e
 have xv:∀ b∈[AA.t,AA.ml,AA.tr,AA.ov,AA.un],b ∉ [AA.a,AA.ro,AA.st]:=by
  intro b hb hm;simp only[li,lm,wP]at hb hm;let⟨⟨a1,a2,a3,a4,a5,a6,a7⟩,⟨b1,b2,b3,b4,b5,b6⟩,⟨c1,c2,c3,c4,c5⟩,⟨d1,d2,d3,d4⟩,⟨f1,f2,f3⟩,_⟩:=Gs;rcases hb with rfl | rfl | rfl | rfl | rfl <;> rcases hm with h | h | h <;> first
   | show a1 h.symm | show a2 h.symm | show a5 h.symm | show a6 h.symm | show a7 h.symm
   | show b2 h | show b3 h | show c1' h | show c1 h | show c2 h | show c3 h
   | show d2 h.symm | show d3 h.symm | show d4 h.symm | show f1 h.symm | show f2 h.symm | show f3 h.symm | show b1 h | show b4 h
 show q H' #[#[fs',c',hx',hfl',fun f=>?_],?_,kp _ _ (xv _ ()) i1.ml,i1.len,fun j t e=>?_,hro',hst',kp _ _ (xv _ ()) i1.tr,kp _ _ (xv _ ()) i1.ov,kp _ _ (xv _ ()) i1.un,i1.nd] (fun b o hb e=>kp b o hb (s1 b o e))
 ·rw[sf' f,en,sf f];by_cases e:f = "changes"
  ·rw[wl e,e];rfl
  ·rw[wf e];show acm e
 ·let⟨gs,d,e,r⟩:=i1.t;show#[gs,d,kp _ _ (xv _ ()) e,r]
 ·let⟨a,e1,h1⟩:=i1.th j t e;show#[a,e1,h1.keep kp fun b hb hm=>?_];have:=i1.o7 e1;simp only[li,lm,wP]at hm;rcases hm with rfl | rfl | rfl
  ·show this _ (by simp[Ad.w]) _ hb rfl
  ·show this _ (by simp[Ad.w]) _ hb rfl
  ·show this _ (by simp[Ad.w]) _ hb rfl
def  eI(M:Hs):Nat->Nat->Nat->Prop
 | 0,k,b=>ah (nD M.un) (.inl (k:Int))=none/\b=k
 | n+1,k,b=>∃ k':Nat,ah (nD M.un) (.inl (k:Int))=!.int (k':Int)/\eI M n k' b
def  cX(M:Hs):Nat->Nat->List Nat->Prop
 | 0,k,l=>ah (nD M.ov) (.inl (k:Int))=none/\l=[]
 | n+1,k,l=>∃ (k':Nat) (r:List Nat),ah (nD M.ov) (.inl (k:Int))=!.int (k':Int)/\cX M n k' r/\l=k'::r
def  cf(M:Hs)(k b:Nat)(r:List Nat):Prop:=(∃ n,eI M n k b)/\∃ n,cX M n b r/\n<=100
def cX.len{M:Hs}:∀ {n k:Nat}{l:List Nat},cX M n k l->l.length=n
 | 0,_,_,h=>by rw[h.2];rfl
 | n+1,_,_,h=>by let⟨k',r,_,h2,rfl⟩:=h;simp[h2.len]
abbrev nV(l:List Nat):List V:=l.map fun n:Nat=>V.int (n:Int)
def  aZ(b:Nat)(r:List Nat):Nat:=(b::r).getLast ()
def  Yk(CH CS CT:ϋ):Sp:=iN fun x n H Q _=>X7 fun A L M (k:Nat) (b:Nat) a t=>A7 (aF CH CS CT H A L M) (A.a=x) (n=(k:Int)) (L[k]?=!a) (M.ts[k]?=!t) (∃ m,eI M m k b) (Q (.int (b:Int)) H)
def  YB(CH CS CT:ϋ):Sp:=iN fun x n H Q _=>X8 fun A L M (k:Nat) (b:Nat) r a t=>A7 (aF CH CS CT H A L M) (A.a=x) (n=(k:Int)) (L[k]?=!a) (M.ts[k]?=!t) (cf M k b r) (∀ l H',ai H H'->H l=none->H' l=!.lst (nV (b::r))->Q (-l) H')
def  Sk(CH CS CT:ϋ):Sp:=iN fun x n H Q _=>X8 fun A L M (k:Nat) (b:Nat) r a t=>A7 (aF CH CS CT H A L M) (A.a=x) (n=(k:Int)) (L[k]?=!a) (M.ts[k]?=!t) (cf M k b r) (∀ H',ai H H'->Q (.int (aZ b r:Nat)) H')
def aax:T.rW.k P w base 4 (Yk T.aI T.aK T.aQ):=by
 show T.rW.F.ok FJ (fun _ _ _ _ h=>cz h fun _ _ _=>rfl) fun ax A _ s H vs Q E hr h=>cz h fun x n h=>?_;let⟨AA,L,M,k,b,a,t,i,rfl,rfl,ha,aS,⟨m,hb⟩,q⟩:=h;let⟨fs,c,hx,aO,sf⟩:=i.h;show#[_,((al (aN (WO<*T.uB (ad 0) (aa (ad 1) ae)))
 (al (aM 2 FJ.nd (ad 1))
 (al (j3 Db (C1 (eL hr) (ad 2) (bi T.aD T.rV (ad 0))) (aj (aM 2 FJ.nd (pN (eL hr) (bi T.aD T.rV (ad 0)) (ad 2)))))
 (aj (aL (ad 2))))))).h,?_]
 exists 1;right;show(mI hx sf #[AA,L,M,k,a,t,i,rfl,rfl,ha,aS,?_]);right;show ao #[fun m σ' H'=>∃ j:Nat,σ'=[!V.ref AA.a,!V.int (k:Int),!V.int (j:Int)]/\H'=H/\eI M m j b,#[m,k,rfl,rfl,hb],?_];rintro m σ' H' ⟨j,rfl,rfl,hj⟩;left;show#[AA.a,_,_,-AA.un,rfl,hx,(sf _).trans rfl,AA.un,_,rfl,dN.k (k:=.inl (j:Int)) i.un,?_];cases m with
 | zero =>
  let⟨h0,rfl⟩:=hj;rw[h0];show bf q
 | succ m =>
  let⟨k',h0,h1⟩:=hj;rw[h0];show bS #[fun σ' H''=>∃ j:Nat,σ'=[!V.ref AA.a,!V.int (k:Int),!V.int (j:Int)]/\H''=H'/\eI M m j b,fun σ' H' z=>#[m,FM m,z],?_];left;show#[AA.a,_,_,-AA.un,rfl,hx,(sf _).trans rfl,AA.un,.int (k':Int),rfl,?_,k',rfl,by trivial,h1];have:=dN.k (k:=.inl (j:Int)) i.un;rw[h0]at this;show this
def iQ{a b:List Nat}:nV (a++b)=nV a++nV b:=Da
def rh:T.fc.k P w base 5 (YB T.aI T.aK T.aQ):=by
 show T.fc.F.ok LW (fun _ _ _ _ h=>cz h fun _ _ _=>rfl) fun ax A _ s H vs Q E hr h=>cz h fun x n h=>?_;let⟨AA,L,M,k,b,r,a,t,i,rfl,rfl,ha,aS,⟨hb,⟨m,hu,hm⟩⟩,q⟩:=h;have hlen:=hu.len;show#[_,((al (aM 2 LW.nd (cr (aa (aax<$>T.rW (aa (ad 0) (aa (ad 1) ae))) ae)))
 (al (j3 Db (C1 (eL hr) (ce (bG (K:=K) rfl) (ad 2) (ii j0 ap)) (bi T.aD T.u4 (ad 0))) (aj (aN (fX Do Ev jQ (ad 2) (aa (pN (eL hr) (bi T.aD T.u4 (ad 0)) (ce (bG (K:=K) rfl) (ad 2) (ii j0 ap))) ae)))))
 (aj (aL (ad 2)))))).h,?_]
 exists 1;right;show#[AA,L,M,k,b,a,t,i,rfl,rfl,ha,aS,hb,fits (),fun l hl=>?_];show dh hl fun H1 s1 b1=>?_;show ao #[fun m σ' H'=>ai H H'/\∃ (pre:List Nat) (j:Nat) (r':List Nat),σ'=[!V.ref AA.a,!V.int (k:Int),!V.ref l]/\H' l=!.lst (nV pre++[V.int (j:Int)])/\cX M m j r'/\pre++j::r'=b::r,#[m,s1,[],b,r,rfl,b1,hu,rfl],?_];rintro m σ' H' ⟨s',pre,j,r',rfl,hl',hj,hp⟩;have i1:=i.same s';let⟨fs,c,hx,aO,sf⟩:=i1.h;left
 rwa [hl',kx]
 show#[AA.a,_,_,-AA.ov,rfl,hx,(sf _).trans rfl,AA.ov,_,rfl,dN.k (k:=.inl (j:Int)) i1.ov,?_];cases m with
 | zero =>
  let⟨h0,rfl⟩:=hj;rw[h0];show bf (q l H' s' hl ?_);rw[hl',<- hp,iQ];rfl
 | succ m =>
  let⟨k',r2,h0,h1,rfl⟩:=hj;rw[h0];show bS #[fun σ' H'=>ai H H'/\∃ (pre:List Nat) (j:Nat) (r':List Nat),σ'=[!V.ref AA.a,!V.int (k:Int),!V.ref l]/\H' l=!.lst (nV pre++[V.int (j:Int)])/\cX M m j r'/\pre++j::r'=b::r,fun σ' H' z=>#[m,FM m,z],?_];left;show#[AA.a,_,_,-AA.ov,rfl,hx,(sf _).trans rfl,AA.ov,.int (k':Int),rfl,?_,?_]
  ·have:=dN.k (k:=.inl (j:Int)) i1.ov;rw[h0]at this;show this
  have bt:(pre++[j]).length<=102:=by
   have:=GE List.length hp;simp at this ⊢;omega
  show#[gG (by simp at bt ⊢;omega),s'.fN hl,pre++[j],k',r2,by trivial,?_,h1,?_]
  ·rw[ay,iQ];rfl
  ·rw[<- hp];simp
def D5{b:Nat}{r:List Nat}:∃ pre,b::r=pre++[aZ b r]:=#[(b::r).dropLast,by unfold aZ;show(List.dropLast_concat_getLast ()).symm]
def yS:T.gK.k P w base 6 (Sk T.aI T.aK T.aQ):=by
 show T.gK.F.ok ac3 (fun _ _ _ _ h=>cz h fun _ _ _=>rfl) fun ax A _ s H vs Q E hr h=>cz h fun x n h=>?_;let⟨AA,L,M,k,b,r,a,t,i,rfl,rfl,ha,aS,hs,q⟩:=h;show#[_,((aj (aL (ce (bG (K:=K) rfl) (rh<$>T.fc (aa (ad 0) (aa (ad 1) ae))) (ii j0 ap))))).h,?_];exists 0;left;show#[AA,L,M,k,b,r,a,t,i,rfl,rfl,ha,aS,hs,fun l H' s' _ hl=>?_];dsimp only;let⟨pre,hp⟩:=D5 (b:=b) (r:=r);rw[hp,iQ]at hl;simp only[ee,hl,FB,_W,kx];show q _ s'
def  fg(r:Nat)(l:List Nat):Bool:=l.any (· == r)
def my{r:Nat}:∀ {l:List Nat},g9 (V.int (r:Int)) (nV l)=fg r l
 | []=>rfl
 | x::l=>by
  have ih:=my (r:=r) (l:=l);unfold g9 at ih ⊢;unfold fg at ih ⊢;simp only[nV,FB,_k]at ih ⊢;rw[ih]
  congr 1
  unfold fE;by_cases e:x=r
  ·subst e;simp
  ·rw[Gc.mpr e]
   first | show Gc.mpr ∅ | (simp;omega)
def  eg(M:Hs)(L:List Ta)(root:Nat):Nat->Nat->Bool->Prop
 | n,k,v=>∃ b r a t,L[k]?=!a/\M.ts[k]?=!t/\cf M k b r /\
  if k=aZ b r then
   if fg root (b::r)=true then v=true
   else ∃ ab tb,L[b]?=!ab/\M.ts[b]?=!tb/\((tb.bV=[]/\v=false)\/∃ f z,tb.bV=[(f,z)]/\match n with | 0=>False | n+1=>eg M L root n f v)
  else v=false
def  adH(CH CS CT:ϋ):Sp:=kg fun x z n H Q _=>X6 fun A L M (k:Nat) (root:Nat) v=>A6 (aF CH CS CT H A L M) (A.a=x) (n=(k:Int)) (ah (sD M.ro) (.inr z)=!.int (root:Int)) (∃ m,eg M L root m k v) (∀ H',ai H H'->Q (.bl v) H')
def acx:T.sT.k P w base 6 (adH T.aI T.aK T.aQ):=by
 show T.sT.F.ok pz (fun _ _ _ _ h=>fL h fun _ _ _ _=>rfl) fun ax A _ s H vs Q E hr h=>fL h fun x z n h=>?_;let⟨AA,L,M,k,root,v,i,rfl,rfl,hz,⟨m,hm⟩,q⟩:=h;let⟨fs,c,hx,aO,sf⟩:=i.h;show bF (b:=aU Ec) ((al (aM 3 pz.nd (pk<*T.fY (ad 0) (aa (ad 1) ae)))
 (al (aM 4 pz.nd (ad 2))
 (al (aM 5 pz.nd (rh<$>T.fc (aa (ad 0) (aa (ad 4) ae))))
 (al (j3 Db (aX cF (ad 4) (ce (bG (K:=K) rfl) (ad 5) (ii j0 ap))) (al (aV (aX (rT (K:=K) rfl) (ad 3) (ad 5)) (aj (aL em)) bv)
 (al (aM 6 pz.nd (ny<*T.fG (ad 0) (aa (ce (bG (K:=K) rfl) (ad 5) ap) ae)))
 (al (aV (aX nF (ad 6) aw) (aj (aL em)) bv)
 (al (aM 4 pz.nd (ce (bG (K:=K) rfl) (ad 6) ap))
 (aj (aM 5 pz.nd (rh<$>T.fc (aa (ad 0) (aa (ad 4) ae))))))))))
 (aj (aL em))))))) ?_
 exists 4;right;show(mI hx sf #[AA,L,M,root,i,rfl,hz,?_]);right;right;let⟨b,r,a,t,ha,ht,aR,eT⟩:=(by unfold eg at hm;show hm:∃ b r a t,L[k]?=!a/\M.ts[k]?=!t/\cf M k b r/\_);show#[AA,L,M,k,b,r,a,t,i,rfl,rfl,ha,ht,aR,fun l H1 s1 jF hl=>?_];show ao #[fun m σ' H'=>ai H H'/\∃ (j:Nat) (l:ϋ) (b:Nat) (r:List Nat) (pv:Option V),σ'=[!V.ref AA.a,!V.str z,!V.int (k:Int),!V.int (root:Int),!V.int (j:Int),!V.ref l,pv]/\H' l=!.lst (nV (b::r))/\cf M j b r /\
  (if j=aZ b r then
   if fg root (b::r)=true then v=true
   else ∃ ab tb,L[b]?=!ab/\M.ts[b]?=!tb/\((tb.bV=[]/\v=false)\/∃ f z,tb.bV=[(f,z)]/\match m with | 0=>False | n+1=>eg M L root n f v)
  else v=false),#[m,s1,k,l,b,r,none,rfl,hl,aR,eT],?_]
 clear eT ha ht aR hl jF s1 hm;intro m σ' H' z0;let⟨s',j,l,b,r,pv,rfl,hl,aR,eT⟩:=z0;have i':=i.same s';let⟨pre,hp⟩:=D5 (b:=b) (r:=r);have cA:=hl;rw[hp,iQ]at cA;left;simp only[ee,cA,FB,_W,kx];by_cases hj:j=aZ b r
 ·rw[wl hj]at eT;rw[sw (by rw[hj])];show bS #[_,fun _ _ h=>h,?_];right
  rwa [hl]
  show#[rfl,by simp[cN],?_];rw[my];cases hmem:fg root (b::r) with
  | true =>
   rw[wl hmem]at eT;subst eT;show bS (q _ s')
  | false =>
   rw[wf (by rw[hmem];nofun)]at eT;let⟨ab,tb,c8,c9,bt⟩:=eT;show bf ?_;show ao ?_;let⟨fs,c,hx,aO,sf⟩:=i'.h;left;simp only[ee,hl,nV,FB,eO];show(mI hx sf #[AA,L,M,b,ab,tb,i',rfl,rfl,c8,c9,?_]);rcases bt with ⟨bt,rfl⟩ | ⟨f,zz,bt,hn⟩
   ·show .inl #[bt,?_];right;show#[by trivial,bS (q _ s')]
   ·show .inr #[f,zz,bt,fun p hp=>?_];right;show#[by trivial,?_];rw[kt (by nofun)];show bf ?_;right
    rwa [hp,eO]
    cases m with
    | zero=>show hn.elim
    | succ m =>
     let⟨b2,r2,a2,t2,xp,gb,oK,Hu⟩:=(by unfold eg at hn;show hn:∃ b r a t,L[f]?=!a/\M.ts[f]?=!t/\cf M f b r/\_);show#[AA,L,M,f,b2,r2,a2,t2,i',rfl,rfl,xp,gb,oK,fun l2 H2 s2 jF cA=>?_];show#[m,FM m,s'.trans s2,f,l2,b2,r2,!V.ref p,rfl,cA,oK,Hu]
 ·rw[wf hj]at eT;rw[kt ∅];subst eT;show bf ?_;left;show q _ s'
def  gY(M:Hs)(L:List Ta):Nat->Nat->Nat->Prop
 | n,k,u=>∃ a t,L[k]?=!a/\M.ts[k]?=!t/\((t.bV=[]/\u=k)\/∃ f z,t.bV=[(f,z)]/\match n with | 0=>False | n+1=>gY M L n f u)
abbrev cK(M:Hs):List Str:=jm (M.tr.map (·.1))
def  JY(CH CS CT:ϋ):Sp:=jN fun x H Q _=>X3 fun A L M=>A4 (aF CH CS CT H A L M) (A.a=x) (M.tr.length < 64) (∀ l,H l=none->Q (-l) (upd H l (.lst ((cK M).map V.str))))
def  acJ(CH CS CT CA:ϋ):Sp:=zI fun x v H Q E=>X3 fun A L M=>A5 (aF CH CS CT H A L M) (A.a=x) (∃ T,clsName H v=!T) (∀ z,v=.str z->(ah (sD M.tr) (.inr z)).isSome=true->Q .aw H) ((∀ z,v=.str z->ah (sD M.tr) (.inr z)=none)->E (-CA) none H)
def  Xr(CH CS CT:ϋ):Sp:=iJ fun x z H Q _=>X4 fun A L M (r:Nat)=>A4 (aF CH CS CT H A L M) (A.a=x) (ah (sD M.tr) (.inr z)=!.int (r:Int)) (Q (.int (r:Int)) H)
def  Xw(CH CS CT:ϋ):Sp:=iJ fun x z H Q _=>X4 fun A L M (r:Nat)=>A4 (aF CH CS CT H A L M) (A.a=x) (ah (sD M.tr) (.inr z)=!.int (r:Int)) (Q ((ah (nD M.un) (.inl (r:Int))).getD .aw) H)
def rY:T.gL.k P w mg base 1 (JY T.aI T.aK T.aQ):=by
 show T.gL.F.ok WU (fun _ _ _ _ h=>fm h fun _ _=>rfl) fun ax A _ s H vs Q E hr h=>fm h fun x h=>?_;let⟨AA,L,M,i,rfl,hl,q⟩:=h;let⟨fs,c,hx,aO,sf⟩:=i.h;show#[_,((aj (aL (cT (QN (K:=K) rfl rfl) T.QU abt (aa (bi T.aD T.nR (ad 0)) ae))))).h,?_];exists 0;left;show#[AA.a,_,_,-AA.tr,rfl,hx,(sf _).trans rfl,.inr (.inl #[AA.tr,_,M.tr.map (·.1),rfl,i.tr,by unfold sD;rw[SZ,SZ];rfl,by rw[lv];show hl,q])]
def Ff:aA P w K mg base (cB P w) 1 T.mw.f T.mw.d ["self","tree"] (acJ T.aI T.aK T.aQ T.mT):=by
 show T.mw.F.dG WC (fun _ _ _ _ h=>sA h fun _ _ _=>rfl) fun ax A _ s H vs Q E hr h=>sA h fun x v h=>?_;let⟨AA,L,M,i,rfl,⟨ty,cx⟩,q1,q2⟩:=h;let⟨fs,c,hx,aO,sf⟩:=i.h;show#[_,((aj (aV (ff (ge (dF (cU (cT kY T.gO gS (aa (ad 1) (aa (kC (.ty "str") T.nY nj rfl) ae))))) (jY (KL (eL hr) (ad 1) (bi T.aD T.nR (ad 0)))))) (aj (yN yi rfl T.Z4 T.Uz (aa am ae))) bv))).h,?_];exists 0;left;simp only[cx,yE cx];show#[wm _ rfl,?_];cases v with
 | str z =>
  simp only[vw,_y,Go,Wp];show#[AA.a,_,_,-AA.tr,rfl,hx,(sf _).trans rfl,AA.tr,_,rfl,dN.k (k:=.inr z) i.tr,?_];cases hz:ah (sD M.tr) (.inr z) with
  | none=>show bS #[fits (),q2 fun z' e=>by cases e;show hz]
  | some u=>show bf (q1 z rfl (by rw[hz];rfl))
 | _=>show#[fits (),q2 fun z' e=>by cases e]
def uk:T.iI.k P w mg base 2 (Xr T.aI T.aK T.aQ):=by
 show T.iI.F.ok acu (fun _ _ _ _ h=>dU h fun _ _ _=>rfl) fun ax A _ s H vs Q E hr h=>dU h fun x z h=>?_;let⟨AA,L,M,r,i,rfl,hz,q⟩:=h;let⟨fs,c,hx,aO,sf⟩:=i.h;show#[_,((al (aN (dA T.aD T.mw.h (Ff T) hr.m T.mw.b .nil gy (ad 0) (aa (ad 1) ae)))
 (aj (aL (pN (eL hr) (bi T.aD T.nR (ad 0)) (ad 1)))))).h,?_]
 exists 0;right;show(mI hx sf #[AA,L,M,i,rfl,#[_,rfl],fun z' e _=>?_,fun h=>by have:=h z rfl;rw[hz]at this;cases this]);show#[AA.a,_,_,-AA.tr,rfl,hx,(sf _).trans rfl,AA.tr,.int r,rfl,?_,q];have:=dN.k (k:=.inr z) i.tr;rw[hz]at this;show this
def pF:T.fV.k P w mg base 3 (Xw T.aI T.aK T.aQ):=by
 show T.fV.F.ok abF (fun _ _ _ _ h=>dU h fun _ _ _=>rfl) fun ax A _ s H vs Q E hr h=>dU h fun x z h=>?_;let⟨AA,L,M,r,i,rfl,hz,q⟩:=h;let⟨fs,c,hx,aO,sf⟩:=i.h;show#[_,((aj (aL (Nb (eL hr) (bi T.aD T.rV (ad 0)) (uk<*T.iI (ad 0) (aa (ad 1) ae)))))).h,?_];exists 0;left;show#[AA.a,_,_,-AA.un,rfl,hx,(sf _).trans rfl,AA.un,rfl,.inl #[_,.inl i.un],AA.a,_,_,rfl,hx,(sf _).trans rfl,AA,L,M,r,i,rfl,hz,_,dN.k (k:=.inl (r:Int)) i.un,q]
def  sL(M:Hs)(u:Nat)(z:Str):Prop:=∃ (pre post:List Str),cK M=pre++z::post/\(∀ y∈pre,∃ r:Nat,ah (sD M.tr) (.inr y)=!.int (r:Int)/\r≠u)/\ah (sD M.tr) (.inr z)=!.int (u:Int)
def  adb(CH CS CT:ϋ):Sp:=iN fun x n H Q _=>X6 fun A L M (k:Nat) (u:Nat) z=>A7 (aF CH CS CT H A L M) (A.a=x) (n=(k:Int)) (∃ m,gY M L m k u) (M.tr.length < 64) (sL M u z) (∀ H',ai H H'->Q (.str z) H')
def Lv:T.lJ.k P w base 5 (adb T.aI T.aK T.aQ):=by
 show T.lJ.F.ok sd (fun _ _ _ _ h=>cz h fun _ _ _=>rfl) fun ax A _ s H vs Q E hr h=>cz h fun x n h=>?_;let⟨AA,L,M,k,u,z,i,rfl,rfl,⟨m,hm⟩,hl64,eU,q⟩:=h;let⟨fs,c,hx,aO,sf⟩:=i.h;let⟨a,t,ha,ht,bt⟩:=(by unfold gY at hm;show hm:∃ a t,L[k]?=!a/\M.ts[k]?=!t/\_);show bF (b:=aU EX) ((al (aM 2 sd.nd (ny<*T.fG (ad 0) (aa (ad 1) ae)))
 (al (aM 3 sd.nd (ad 1))
 (al (j3 Db (aX mx (ad 2) aw) (al (aM 3 sd.nd (ce (bG (K:=K) rfl) (ad 2) ap))
 (aj (aM 2 sd.nd (ny<*T.fG (ad 0) (aa (ad 3) ae))))))
 (al (m9 Db rfl (iH (K:=K) rfl (lT T.aD T.gL.h (rY T) hr.m T.gL.b .nil aq (ad 0))) (eN 4 sd.nd) (aj (aV (aX cF (uk<*T.iI (ad 0) (aa (ad 4) ae)) (ad 3)) (aj (aL (ad 4))) bv)))
 (aj (aL aw))))))) ?_
 exists 3;right;show(mI hx sf #[AA,L,M,k,a,t,i,rfl,rfl,ha,ht,?_]);show(show ∀ (R:VK),(∀ pv,((t.bV=[]/\pv=.aw/\u=k)\/∃ (f:Nat) (z:Str) (p:ϋ),t.bV=[(f,z)]/\pv=-p/\H p=!.tup [.int (f:Int),.str z]/\match m with | 0=>False | n+1=>gY M L n f u)->R pv H)->E5 AA L M k a t H R from fun R hR=>?_) _ fun pv qt=>?_
 ·rcases bt with ⟨h1,h2⟩ | ⟨f,zz,h1,h2⟩
  ·show .inl #[h1,hR _ (.inl #[h1,rfl,h2])]
  ·show .inr #[f,zz,h1,fun p hp=>hR _ (.inr #[f,zz,p,h1,rfl,hp,h2])]
 right;show ao #[fun m σ' H'=>H'=H/\∃ (j:Nat) (pv:V) (t:Th),σ'=[!V.ref AA.a,!V.int (k:Int),!pv,!V.int (j:Int),none]/\((t.bV=[]/\pv=.aw/\u=j)\/∃ (f:Nat) (z:Str) (p:ϋ),t.bV=[(f,z)]/\pv=-p/\H p=!.tup [.int (f:Int),.str z]/\match m with | 0=>False | n+1=>gY M L n f u),#[m,rfl,k,pv,t,rfl,qt],?_];clear qt bt ha ht hm;rintro m σ' H' ⟨rfl,j,pv,t,rfl,qt⟩;left;rcases qt with ⟨h1,rfl,rfl⟩ | ⟨f,zz,p,h1,rfl,hp,hn⟩
 ·show#[by trivial,?_];rw[sw rfl];show bf ?_;right;show(mI hx sf #[AA,L,M,i,rfl,hl64,fun l hl=>?_]);have s1:=ai.upd (o:=.lst ((cK M).map V.str)) hl;have b1:upd H' l (.lst ((cK M).map V.str)) l=!.lst ((cK M).map V.str):=ay;generalize upd H' l (.lst ((cK M).map V.str))=H1 at s1 b1 ⊢;let⟨pre,post,hk,gf,hz⟩:=eU;have i1:=i.same s1;let⟨eY,c1,bg,fT,bX⟩:=i1.h;show#[#[_,aC.of b1],qe (xs:=(cK M).map V.str) (fun jj σ' H'=>H'=H1/\jj<=pre.length/\∃ t,σ'=[!V.ref AA.a,!V.int (k:Int),!V.aw,!V.int (u:Int),t]) #[rfl,wT _,_,rfl] (fun jj σ' H' _ h=>by rw[h.1];show aC.of b1) ?_ (fun σ' H' h=>?_)]
  ·rintro jj x σ' H2 hxj ⟨rfl,w8,tt,rfl⟩;rw[At,hk]at hxj;have Aj:∃ (y:Str) (r:Nat),x=V.str y/\ah (sD M.tr) (.inr y)=!.int (r:Int)/\(r≠u/\jj+1<=pre.length\/r=u/\y=z):=by
    rcases Nat.lt_or_ge jj pre.length with b8 | tw
    ·rw[Cl b8,ul b8]at hxj;let⟨r,h2,h3⟩:=gf _ (XV b8);show#[_,r,(Fk hxj).symm,h2,.inl #[h3,b8]]
    ·have e:jj=pre.length:=Nat.le_antisymm w8 tw;subst e;rw[EQ (pi _),_1]at hxj;show#[z,u,(Fk hxj).symm,hz,.inr #[rfl,rfl]]
   let⟨y,r,rfl,hy,hr⟩:=Aj;left;show(mI bg bX #[AA,L,M,r,i1,rfl,hy,?_]);dsimp only;rcases hr with ⟨cQ,hle⟩ | ⟨rfl,rfl⟩
   ·rw[show decide ((r:Int)=(u:Int))=false from kt ∅];show bf #[rfl,hle,_,rfl]
   ·rw[show decide ((r:Int)=(r:Int))=true from sw rfl];show bS (q _ s1)
  ·have:=h.2.1;rw[lv,hk,mo,xz]at this;omega
 ·show#[by trivial,?_];rw[kt (by nofun)];show bS #[_,fun _ _ h=>h,?_];right
  rwa [hp,eO]
  cases m with
  | zero=>show hn.elim
  | succ m =>
   let⟨a2,t2,xp,gb,bt⟩:=(by unfold gY at hn;show hn:∃ a t,L[f]?=!a/\M.ts[f]?=!t/\_);show(mI hx sf #[AA,L,M,f,a2,t2,i,rfl,rfl,xp,gb,?_]);rcases bt with ⟨h1,h2⟩ | ⟨f2,Ph,h1,h2⟩
   ·show .inl #[h1,m,FM m,rfl,f,_,t2,rfl,.inl #[h1,rfl,h2]]
   ·show .inr #[f2,Ph,h1,fun p hp=>#[m,FM m,rfl,f,_,t2,rfl,.inr #[f2,Ph,p,h1,rfl,hp,h2]]]
def  fH(l:List (Str×Nat))(z:Str)(n:Nat):List (Str×Nat):=if (ah (sD l) (.inr z)).isSome=true then l.map (fun e=>if e.1=z then (e.1,n) else e) else l++[(z,n)]
def BF{l:List (Str×Nat)}{z:Str}{n:Nat}:putK (sD l) (.inr z) (.int (n:Int))=sD (fH l z n):=by
 unfold fH putK;rw[pH];cases h:(ah (sD l) (.inr z)).isSome with
 | true =>
  rw[wl rfl,wl rfl];unfold sD;rw[SZ,SZ];show List.map_congr_left fun e _=>?_;by_cases he:e.1=z
  ·simp[he]
  ·simp[he]
 | false =>
  rw[wf (by nofun),wf (by nofun)];unfold sD;rw[Da];rfl
def Fm{l:List (Nat×Nat)}{z k:Nat}(h:ah (nD l) (.inl (z:Int))=none):putK (nD l) (.inl (z:Int)) (.int (k:Int))=nD (l++[(z,k)]):=by
 have e:((nD l).any fun kv=>decide (kv.1=(Sum.inl (z:Int):Key)))=false:=by rw[pH,h];rfl
 unfold putK;rw[e,wf (by nofun)];unfold nD;rw[Da];rfl
section
variable {CH CS CT:ϋ}{H H':Hp}{A:Ad}{L:List Ta}{M:Hs}
def aF.sI{ro' st' tr':List (Str×Nat)}{ov' un':List (Nat×Nat)}(i:aF CH CS CT H A L M)(hh:∃ fs c,H' A.a=!.ins CH A.dx fs/\fs.length<=40/\dv fs (pM c A))(oO:H' A.ro=!.dK (sD ro'))(aR:H' A.st=!.dK (sD st'))(eU:H' A.tr=!.dK (sD tr'))(eS:H' A.ov=!.dK (nD ov'))(cZ:H' A.un=!.dK (nD un'))(kp:Kp [A.a,A.ro,A.st,A.tr,A.ov,A.un] H H'):aF CH CS CT H' A L { ts:=M.ts,ro:=ro',st:=st',tr:=tr',ov:=ov',un:=un' }:=by
 have nd:=i.nd;rw[Fa]at nd;let⟨n1,n2,n3⟩:=nd;have off:∀ b,b∈[A.t,A.ml]->b ∉ [A.a,A.ro,A.st,A.tr,A.ov,A.un]:=by
  intro b hb hm;simp only[Ad.w,AT,li,lm,wP,Ps]at n1 hb hm;let⟨⟨a1,a2,a3,a4,a5,a6,a7⟩,⟨b1,b2,b3,b4,b5,b6⟩,⟨c1,c2,c3,c4,c5⟩,_⟩:=n1;rcases hb with rfl | rfl <;> rcases hm with h | h | h | h | h | h <;> simp_all
 have o7:∀ b,b∈L.flatMap Ta.l->b ∉ [A.a,A.ro,A.st,A.tr,A.ov,A.un]:=by
  intro b hb hm;have hw:b∈A.w:=by
   simp only[Ad.w,li,lm,wP]at hm ⊢;rcases hm with h | h | h | h | h | h <;> simp[h]
  show n3 _ hw _ hb rfl
 show#[hh,?_,kp _ _ (off _ ()) i.ml,i.len,fun j t e=>?_,oO,aR,eU,eS,cZ,i.nd]
 ·let⟨fs,c,e,r⟩:=i.t;show#[fs,c,kp _ _ (off _ ()) e,r]
 ·let⟨a,e1,h1⟩:=i.th j t e;show#[a,e1,h1.keep kp fun b hb=>o7 b (kL e1 hb)]
def aF.uS(i:aF CH CS CT H A L M):A.ro≠A.a/\A.st≠A.a/\A.tr≠A.a/\A.ov≠A.a/\A.un≠A.a/\A.st≠A.ro/\A.tr≠A.ro/\A.ov≠A.ro/\A.un≠A.ro/\A.tr≠A.st/\A.ov≠A.st/\A.un≠A.st/\A.ov≠A.tr/\A.un≠A.tr/\A.un≠A.ov:=by
 have nd:=i.nd;rw[Fa]at nd;have n1:=nd.1;simp only[Ad.w,AT,li,lm,wP,Ps]at n1;let⟨⟨a1,a2,a3,a4,a5,a6,a7⟩,⟨b1,b2,b3,b4,b5,b6⟩,⟨c1,c2,c3,c4,c5⟩,⟨d1,d2,d3,d4⟩,⟨e1,e2,e3⟩,⟨f1,f2⟩,g1,_⟩:=n1;show#[ss a3,ss a4,ss a5,ss a6,ss a7,ss d1,ss d2,ss d3,ss d4,ss e1,ss e2,ss e3,ss f1,ss f2,ss g1]
end
def  Ss(CH CS CT:ϋ):Sp:=kg fun x z n H Q _=>X4 fun A L M (k:Nat)=>A5 (aF CH CS CT H A L M) (A.a=x) (n=(k:Int)) (M.ro.length<=40) (∀ H',aF CH CS CT H' A L { M with ro:=fH M.ro z k }->Kp [A.a,A.ro] H H'->Q .aw H')
def  Yd(CH CS CT:ϋ):Sp:=kg fun x z n H Q _=>X4 fun A L M (k:Nat)=>A5 (aF CH CS CT H A L M) (A.a=x) (n=(k:Int)) (M.st.length<=40) (∀ H',aF CH CS CT H' A L { M with st:=fH M.st z k }->Kp [A.a,A.st] H H'->Q .aw H')
def E4{l:List (Str×Nat)}:(sD l).length=l.length:=lv _
def aay:T.lS.k P w mg base 1 (Ss T.aI T.aK T.aQ):=by
 show(Ky T).imp fun vs H Q E h=>?_;show fL h fun x z n h=>?_;let⟨AA,L,M,k,i,rfl,rfl,hl,q⟩:=h;let⟨fs,c,hx,aO,sf⟩:=i.h;let⟨e1,e2,e3,e4,e5,e6,e7,e8,e9,_⟩:=i.uS;show#[AA.dx,fs,c,AA.ro,_,hx,aO,(sf _).trans rfl,(sf _).trans rfl,i.ro,by rw[E4];show hl,?_];rw[BF];show q _ (i.sI #[az "changes" (.int (c+1)) fs,c+1,by rw[ag (ss e1),ay],by rw[fC (u:=.int c) ((sf _).trans rfl)];show aO,fun f=>((sf.put "changes" (.int (c+1))) f).trans rfl] ay (by rw[ag e6,ag e2];show i.st) (by rw[ag e7,ag e3];show i.tr) (by rw[ag e8,ag e4];show i.ov) (by rw[ag e9,ag e5];show i.un) ?_) ?_
 ·intro b o hb e;simp only[li,lm,wP,Ps]at hb;rw[ag hb.2.1,ag hb.1];show e
 ·intro b o hb e;simp only[li,lm,wP,Ps]at hb;rw[ag hb.2,ag hb.1];show e
def KC:T.jS.k P w mg base 1 (Yd T.aI T.aK T.aQ):=by
 show(NV T).imp fun vs H Q E h=>?_;show fL h fun x z n h=>?_;let⟨AA,L,M,k,i,rfl,rfl,hl,q⟩:=h;let⟨fs,c,hx,aO,sf⟩:=i.h;let⟨e1,e2,e3,e4,e5,e6,e7,e8,e9,tP,qA,tY,_⟩:=i.uS;show#[AA.dx,fs,c,AA.st,_,hx,aO,(sf _).trans rfl,(sf _).trans rfl,i.st,by rw[E4];show hl,?_];rw[BF];show q _ (i.sI #[az "changes" (.int (c+1)) fs,c+1,by rw[ag (ss e2),ay],by rw[fC (u:=.int c) ((sf _).trans rfl)];show aO,fun f=>((sf.put "changes" (.int (c+1))) f).trans rfl] (by rw[ag (ss e6),ag e1];show i.ro) ay (by rw[ag tP,ag e3];show i.tr) (by rw[ag qA,ag e4];show i.ov) (by rw[ag tY,ag e5];show i.un) ?_) ?_
 ·intro b o hb e;simp only[li,lm,wP,Ps]at hb;rw[ag hb.2.2.1,ag hb.1];show e
 ·intro b o hb e;simp only[li,lm,wP,Ps]at hb;rw[ag hb.2,ag hb.1];show e
def  Zj(CH CS CT:ϋ):Sp:=kg fun x z n H Q _=>X5 fun A L M (f:Nat) (r:Nat)=>A9 (aF CH CS CT H A L M) (A.a=x) (n=(f:Int)) (ah (sD M.tr) (.inr z)=!.int (r:Int)) (ah (nD M.ov) (.inl (f:Int))=none) (ah (nD M.un) (.inl (r:Int))=none) (M.ov.length<=40) (M.un.length<=40) (∀ H',aF CH CS CT H' A L { M with ov:=M.ov++[(f,r)],un:=M.un++[(r,f)] }->Kp [A.a,A.ov,A.un] H H'->Q .aw H')
def Q8:T.vh.k P w mg base 1 (Zj T.aI T.aK T.aQ):=by
 show T.vh.F.ok LY (fun _ _ _ _ h=>fL h fun _ _ _ _=>rfl) fun ax A _ s H vs Q E hr h=>fL h fun x z n h=>?_;let⟨AA,L,M,f,r,i,rfl,rfl,hz,eS,cZ,ik,cA,q⟩:=h;let⟨fs,c,hx,aO,sf⟩:=i.h;let⟨e1,e2,e3,e4,e5,e6,e7,e8,e9,tP,qA,tY,wX,wL,qq⟩:=i.uS;show bF (b:=aU EI) ((al (aM 3 LY.nd (pN (eL hr) (bi T.aD T.nR (ad 0)) (ad 1)))
 (al (js T.aD T.qf jv (ad 0) ap)
 (al (ng (eL hr) (bi T.aD T.u4 (ad 0)) (ad 2) (ad 3))
 (aj (ng (eL hr) (bi T.aD T.rV (ad 0)) (ad 3) (ad 2))))))) ?_
 exists 1;right;show#[AA.a,_,_,-AA.tr,rfl,hx,(sf _).trans rfl,AA.tr,.int r,rfl,?_,?_]
 ·have:=dN.k (k:=.inr z) i.tr;rw[hz]at this;show this
 right;show#[AA.a,_,_,.int c,rfl,hx,(sf _).trans rfl,_,_,rfl,rfl,_,_,hx,∅,ao ?_];left;show#[AA.a,_,_,-AA.ov,rfl,ay,by rw[en,wf ⋯];show(sf _).trans rfl,AA.ov,_,rfl,ie.k (k:=.inl (f:Int)) (by rw[ag e4];show i.ov) (gG (by unfold nD;rw[lv];omega)),?_];left;show#[AA.a,_,_,-AA.un,rfl,by rw[ag (ss e4),ay],by rw[en,wf ⋯];show(sf _).trans rfl,AA.un,_,rfl,ie.k (k:=.inl (r:Int)) (by rw[ag qq,ag e5];show i.un) (gG (by unfold nD;rw[lv];omega)),?_];rw[Fm eS,Fm cZ];show q _ (i.sI #[az "changes" (.int (c+1)) fs,c+1,by rw[ag (ss e5),ag (ss e4),ay],by rw[fC (u:=.int c) ((sf _).trans rfl)];show aO,fun f=>((sf.put "changes" (.int (c+1))) f).trans rfl] (by rw[ag (ss e9),ag (ss e8),ag e1];show i.ro) (by rw[ag (ss tY),ag (ss qA),ag e2];show i.st) (by rw[ag (ss wL),ag (ss wX),ag e3];show i.tr) (by rw[ag (ss qq),ay]) ay ?_) ?_
 ·intro b o hb e;simp only[li,lm,wP,Ps]at hb;rw[ag hb.2.2.2.2.2,ag hb.2.2.2.2.1,ag hb.1];show e
 ·intro b o hb e;simp only[li,lm,wP,Ps]at hb;rw[ag hb.2.2,ag hb.2.1,ag hb.1];show e
def  DR(C:ϋ)(f1 f2:Str):Sp:=EK fun x v1 v2 H Q _=>X1 fun dx=>A2 (H x=!.ins C dx []) (Q .aw (upd H x (.ins C dx (az f2 v2 (az f1 v1 [])))))
def Z8:T.vU.k P w mg base 1 (DR T.eE "number" "way"):=by
 show T.vU.F.ok U3 (fun _ _ _ _ h=>nB h fun _ _ _ _=>rfl) fun ax A _ s H vs Q E hr h=>nB h fun x v1 v2 h=>?_;let⟨dx,hx,q⟩:=h;show#[_,((al (bN T.kf T.Bj (ad 0) (ad 1))
 (aj (bN T.kf T.MZ (ad 0) (ad 2))))).h,?_]
 exists 0;right;show#[x,dx,_,rfl,hx,⋯,?_];show#[x,dx,_,rfl,ay,by walk_at "f",?_];rw[nH];show q
def ZR:T.vb.k P w mg base 1 (DR T.mY "folder" "name"):=by
 show T.vb.F.ok UU (fun _ _ _ _ h=>nB h fun _ _ _ _=>rfl) fun ax A _ s H vs Q E hr h=>nB h fun x v1 v2 h=>?_;let⟨dx,hx,q⟩:=h;show#[_,((al (bN T.pY T.zJ (ad 0) (ad 1))
 (aj (bN T.pY T.DL (ad 0) (ad 2))))).h,?_]
 exists 0;right;show#[x,dx,_,rfl,hx,⋯,?_];show#[x,dx,_,rfl,ay,by walk_at "f",?_];rw[nH];show q
def T4:T.uW.k P w mg base 1 (DR T.eR "step" "reason"):=by
 show T.uW.F.ok aaG (fun _ _ _ _ h=>nB h fun _ _ _ _=>rfl) fun ax A _ s H vs Q E hr h=>nB h fun x v1 v2 h=>?_;let⟨dx,hx,q⟩:=h;show#[_,((al (bN T.mC T.Mc (ad 0) (ad 1))
 (aj (bN T.mC T.Ir (ad 0) (ad 2))))).h,?_]
 exists 0;right;show#[x,dx,_,rfl,hx,⋯,?_];show#[x,dx,_,rfl,ay,by walk_at "f",?_];rw[nH];show q
def  uD(h:ϋ)(z:Str)(last:Bool)(root here:Int)(place:V)(step:Int)(av lf rd:ϋ)(lr lu:Int)(told:V):List (Str×V):=[("house",-h),("asker",.str z),("last",.bl last),("root",.int root),("here",.int here),("place",place),("step",.int step),("asked",-av),("left",-lf),("reading",-rd),("leads_read",.int lr),("looked_up",.int lu),("told",told)]
structure Ws where
 here:Nat
 place:Option (Nat×Str)
 step:Nat
 asked:List Nat
 left:List (Sum Nat Str)
 aY:List Nat
 read:Nat
 look:Nat
def  eD:Sum Nat Str->V
 | .inl n=>.int (n:Int)
 | .inr z=>.str z
def  ky(H0 H:Hp):Option (Nat×Str)->V->Prop
 | none,v=>v=.aw
 | some (k,nm),v=>∃ p,v=-p/\H0 p=none/\H p=!.tup [.int (k:Int),.str nm]
structure Cn where
 CH:ϋ
 CS:ϋ
 CT:ϋ
 CW:ϋ
 CF:ϋ
 CG:ϋ
 CR:ϋ
 CN:ϋ
 CD:ϋ
 CE:ϋ
abbrev Tx.cn(T:Tx K mg):Cn:=#[T.aI,T.aK,T.aQ,T.bH,T.eR,T.eE,T.eW,T.oP,T.oJ,T.mY]
structure Wd where
 L:List Ta
 M:Hs
 z:Str
 last:Bool
 root:Nat
structure Wc extends Wd where
 H0:Hp
 A:Ad
 x:ϋ
 dx:ϋ
 av:ϋ
 rd:ϋ
structure bj(N:Cn)(c:Wc)(S:Ws)(H:Hp)(lf:ϋ)(told:V):Prop where
 i:aF N.CH N.CS N.CT c.H0 c.A c.L c.M
 s:ai c.H0 H
 x0:c.H0 c.x=none
 a0:c.H0 c.av=none
 l0:c.H0 lf=none
 r0:c.H0 c.rd=none
 o:∃ fs pv,H c.x=!.ins N.CW c.dx fs/\fs.length<=40/\ky c.H0 H S.place pv/\dv fs (uD c.A.a c.z c.last c.root S.here pv S.step c.av lf c.rd S.read S.look told)
 oa:H c.av=!.lst (nV S.asked)
 ol:H lf=!.lst (S.left.map eD)
 od:H c.rd=!.lst (nV S.aY)
 n1:c.av≠lf
 n2:c.av≠c.rd
 n3:lf≠c.rd
 hz:ah (sD c.M.ro) (.inr c.z)=!.int (c.root:Int)
section
variable {N:Cn}{c:Wc}{S:Ws}{H0 H H':Hp}{lf:ϋ}{told:V}
def ky.same{p:Option (Nat×Str)}{v:V}(h:ky H0 H p v)(s:ai H H'):ky H0 H' p v:=by
 match p,h with
 | none,h=>show h
 | some (k,nm),⟨q,e,e0,e1⟩=>show#[q,e,e0,s _ _ e1]
def bj.same(v:bj N c S H lf told)(s:ai H H'):bj N c S H' lf told :=
 #[v.i,v.s.trans s,v.x0,v.a0,v.l0,v.r0,let ⟨fs,pv,e,l,p,f⟩:=v.o;#[fs,pv,s _ _ e,l,p.same s,f],s _ _ v.oa,s _ _ v.ol,s _ _ v.od,v.n1,v.n2,v.n3,v.hz]
def bj.m(v:bj N c S H lf told):aF N.CH N.CS N.CT H c.A c.L c.M:=v.i.same v.s
def bj.xa(v:bj N c S H lf told):c.x≠c.av/\c.x≠lf/\c.x≠c.rd:=by
 let⟨fs,pv,e,_⟩:=v.o;show#[eQ e v.oa (by nofun),eQ e v.ol (by nofun),eQ e v.od (by nofun)]
def ky.put{p:Option (Nat×Str)}{v:V}{fs:List (Str×V)}{x dx CW:ϋ}(h:ky H0 H p v)(hx:∃ gs,H x=!.ins CW dx gs):ky H0 (upd H x (.ins CW dx fs)) p v:=by
 match p,h with
 | none,h=>show h
 | some (k,nm),⟨q,e,e0,e1⟩ =>
  let⟨gs,hx⟩:=hx;show#[q,e,e0,by rw[ag (ss (eQ hx e1 (by nofun)))];show e1]
def bj.put(f:Str)(u:V)(S':Ws)(told':V)(v:bj N c S H lf told)(w:V)(hw:∀ pv,List.lookup f (uD c.A.a c.z c.last c.root S.here pv S.step c.av lf c.rd S.read S.look told)=!w:=by show fun _=>rfl)(hp:‹S'.place=S.place›)(ha:‹S'.asked=S.asked›)(hl:‹S'.left=S.left›)(hr:‹S'.aY=S.aY›)(e:∀ pv g,List.lookup g (az f u (uD c.A.a c.z c.last c.root S.here pv S.step c.av lf c.rd S.read S.look told))=List.lookup g (uD c.A.a c.z c.last c.root S'.here pv S'.step c.av lf c.rd S'.read S'.look told'):=by show fun _ _=>rfl) :
  ∃ fs,H c.x=!.ins N.CW c.dx fs/\fs.length < 1000/\List.lookup f fs=!w/\bj N c S' (upd H c.x (.ins N.CW c.dx (az f u fs))) lf told':=by
 let⟨fs,pv,e1,l,p,sf⟩:=v.o;have hf:List.lookup f fs=!w:=(sf f).trans (hw pv);show#[fs,e1,∅,hf,#[v.i,v.s.fN v.x0,v.x0,v.a0,v.l0,v.r0,#[_,pv,ay,by rw[fC hf];show l,by rw[hp];show p.put #[fs,e1],fun g=>((sf.put f u) g).trans (e pv g)],by rw[ag (ss v.xa.1),ha];show v.oa,by rw[ag (ss v.xa.2.1),hl];show v.ol,by rw[ag (ss v.xa.2.2),hr];show v.od,v.n1,v.n2,v.n3,v.hz]]
def ky.off{p:Option (Nat×Str)}{v:V}{y:ϋ}{o o':HO}(h:ky H0 H p v)(hy:H y=!o)(ht:∀ xs,o≠.tup xs):ky H0 (upd H y o') p v:=by
 match p,h with
 | none,h=>show h
 | some (k,nm),⟨q,e,e0,e1⟩ =>
  show#[q,e,e0,?_];rw[ag (fun z=>?_)]
  ·show e1
  ·rw[z,hy]at e1;show ht _ (Fk e1)
def bj.off{y:ϋ}{o o':HO}(v:bj N c S H lf told)(y0:c.H0 y=none)(hy:H y=!o)(nx:c.x≠y)(na:c.av≠y)(nl:lf≠y)(nr:c.rd≠y)(ht:∀ xs,o≠.tup xs):bj N c S (upd H y o') lf told:=by
 let⟨gs,pv,e,l,p,f⟩:=v.o;show#[v.i,v.s.fN y0,v.x0,v.a0,v.l0,v.r0,#[gs,pv,by rw[ag nx];show e,l,p.off hy ht,f],by rw[ag na];show v.oa,by rw[ag nl];show v.ol,by rw[ag nr];show v.od,v.n1,v.n2,v.n3,v.hz]
def bj.U8(v:bj N c S H lf told)(ks:List Nat):bj N c { S with asked:=ks } (upd H c.av (.lst (nV ks))) lf told:=by
 let⟨gs,pv,e,l,p,f⟩:=v.o;show#[v.i,v.s.fN v.a0,v.x0,v.a0,v.l0,v.r0,#[gs,pv,by rw[ag v.xa.1];show e,l,p.off v.oa (by nofun),f],ay,by rw[ag (ss v.n1)];show v.ol,by rw[ag (ss v.n2)];show v.od,v.n1,v.n2,v.n3,v.hz]
def bj.ui(v:bj N c S H lf told)(ts:List (Sum Nat Str)):bj N c { S with left:=ts } (upd H lf (.lst (ts.map eD))) lf told:=by
 let⟨gs,pv,e,l,p,f⟩:=v.o;show#[v.i,v.s.fN v.l0,v.x0,v.a0,v.l0,v.r0,#[gs,pv,by rw[ag v.xa.2.1];show e,l,p.off v.ol (by nofun),f],by rw[ag v.n1];show v.oa,ay,by rw[ag (ss v.n3)];show v.od,v.n1,v.n2,v.n3,v.hz]
def bj.NG(v:bj N c S H lf told)(ks:List Nat):bj N c { S with aY:=ks } (upd H c.rd (.lst (nV ks))) lf told:=by
 let⟨gs,pv,e,l,p,f⟩:=v.o;show#[v.i,v.s.fN v.r0,v.x0,v.a0,v.l0,v.r0,#[gs,pv,by rw[ag v.xa.2.2];show e,l,p.off v.od (by nofun),f],by rw[ag v.n2];show v.oa,by rw[ag v.n3];show v.ol,ay,v.n1,v.n2,v.n3,v.hz]
def bj.X0(v:bj N c S H lf told)(k:Nat):bj N c { S with asked:=S.asked++[k] } (upd H c.av (.lst (nV S.asked++[.int (k:Int)]))) lf told:=by
 have:=v.U8 (S.asked++[k]);rw[iQ]at this;show this
def bj.T5(v:bj N c S H lf told)(k:Nat):bj N c { S with aY:=S.aY++[k] } (upd H c.rd (.lst (nV S.aY++[.int (k:Int)]))) lf told:=by
 have:=v.NG (S.aY++[k]);rw[iQ]at this;show this
def bj.Yj(v:bj N c S H lf told)(k:Nat):bj N c { S with left:=S.left++[.inl k] } (upd H lf (.lst (S.left.map eD++[.int (k:Int)]))) lf told:=by
 have:=v.ui (S.left++[.inl k]);rw[Da]at this;show this
def bj.UI(v:bj N c S H lf told)(ts:List (Sum Nat Str)):bj N c { S with left:=S.left++ts } (upd H lf (.lst (S.left.map eD++ts.map eD))) lf told:=by
 have:=v.ui (S.left++ts);rw[Da]at this;show this
def bj.fresh{y:ϋ}(v:bj N c S H lf told)(hy:H y=none):c.H0 y=none:=by
 cases e:c.H0 y with
 | none=>rfl
 | some o=>rw[v.s y o e]at hy;cases hy
def bj.XO{l:ϋ}{ts:List (Sum Nat Str)}(v:bj N c S H lf told)(l0:c.H0 l=none)(hl:H l=!.lst (ts.map eD))(n1:c.av≠l)(n3:l≠c.rd):∃ fs,H c.x=!.ins N.CW c.dx fs/\fs.length < 1000/\bj N c { S with left:=ts } (upd H c.x (.ins N.CW c.dx (az "left" (-l) fs))) l told:=by
 let⟨fs,pv,e,le,p,f⟩:=v.o;have nx:c.x≠l:=eQ e hl (by nofun);show#[fs,e,∅,#[v.i,v.s.fN v.x0,v.x0,v.a0,l0,v.r0,#[_,pv,ay,by rw[fC (u:=-lf) ((f _).trans rfl)];show le,p.put #[fs,e],fun g=>((f.put "left" (-l)) g).trans rfl],by rw[ag (ss v.xa.1)];show v.oa,by rw[ag (ss nx)];show hl,by rw[ag (ss v.xa.2.2)];show v.od,n1,v.n2,n3,v.hz]]
def bj.fld(v:bj N c S H lf told):∃ fs pv,H c.x=!.ins N.CW c.dx fs/\fs.length < 1000/\dv fs (uD c.A.a c.z c.last c.root S.here pv S.step c.av lf c.rd S.read S.look told):=by
 let⟨fs,pv,e,l,p,f⟩:=v.o;show#[fs,pv,e,∅,f]
def bj.placed{p:ϋ}{k:Nat}{nm:Str}(v:bj N c S H lf told)(p0:c.H0 p=none)(hp:H p=!.tup [.int (k:Int),.str nm]):∃ fs,H c.x=!.ins N.CW c.dx fs/\fs.length < 1000/\bj N c { S with place:=some (k,nm) } (upd H c.x (.ins N.CW c.dx (az "place" (-p) fs))) lf told:=by
 let⟨fs,pv,e,l,_,f⟩:=v.o;show#[fs,e,∅,#[v.i,v.s.fN v.x0,v.x0,v.a0,v.l0,v.r0,#[_,-p,ay,by rw[fC (u:=pv) ((f _).trans rfl)];show l,#[p,rfl,p0,by rw[ag (ss (eQ e hp (by nofun)))];show hp],fun g=>((f.put "place" (-p)) g).trans rfl],by rw[ag (ss v.xa.1)];show v.oa,by rw[ag (ss v.xa.2.1)];show v.ol,by rw[ag (ss v.xa.2.2)];show v.od,v.n1,v.n2,v.n3,v.hz]]
end
def  acW(N:Cn):Sp:=K0 fun x h z last H Q _=>X6 fun A L M dx H0 (root:Nat)=>A7 (aF N.CH N.CS N.CT H0 A L M) (A.a=h) (H x=!.ins N.CW dx []) (ai H0 H) (H0 x=none) (ah (sD M.ro) (.inr z)=!.int (root:Int)) (∀ av lf rd H',bj N #[#[L,M,z,last,root],H0,A,x,dx,av,rd] #[root,none,0,[],[],[],0,0] H' lf .aw->Q .aw H')
def YE:T.vN.k P w mg base 3 (acW T.cn):=by
 show T.vN.F.ok TC (fun _ _ _ _ h=>Lr h fun _ _ _ _ _=>rfl) fun ax A _ s H vs Q E hr h=>Lr h fun x hh z last h=>?_;let⟨AA,L,M,dx,H0,root,i,rfl,hx,s0,x0,hz,q⟩:=h;show bF (b:=aU FO) ((al (bN T.aP T.gv (ad 0) (ad 1))
 (al (bN T.aP T.uA (ad 0) (ad 2))
 (al (bN T.aP T.KO (ad 0) (ad 3))
 (al (bN T.aP T.uV (ad 0) (pk<*T.fY (ad 1) (aa (ad 2) ae)))
 (al (bN T.aP T.gj (ad 0) (bi T.aP T.uV (ad 0)))
 (al (bN T.aP T.zM (ad 0) aw)
 (al (bN T.aP T.FX (ad 0) ap)
 (al (bN T.aP T.Bg (ad 0) (cr ae))
 (al (bN T.aP T.qd (ad 0) (cr ae))
 (al (bN T.aP T.rj (ad 0) (cr ae))
 (al (bN T.aP T.Dm (ad 0) ap)
 (al (bN T.aP T.HH (ad 0) ap)
 (aj (bN T.aP T.nN (ad 0) aw))))))))))))))) ?_
 exists 0;right;show#[x,dx,_,rfl,hx,⋯,ao ?_];left;show#[x,dx,_,rfl,ay,by walk_at "f",ao ?_];left;show#[x,dx,_,rfl,ay,by walk_at "f",ao ?_];simp only[nH];left;have s1:=s0.fN (o:=.ins T.bH dx (az "last" (.bl last) (az "asker" (.str z) (az "house" (-AA.a) [])))) x0;have b1:upd H x (.ins T.bH dx (az "last" (.bl last) (az "asker" (.str z) (az "house" (-AA.a) [])))) x=!.ins T.bH dx (az "last" (.bl last) (az "asker" (.str z) (az "house" (-AA.a) []))):=ay;generalize upd H x (.ins T.bH dx (az "last" (.bl last) (az "asker" (.str z) (az "house" (-AA.a) []))))=H1 at s1 b1 ⊢;have i1:=i.same s1;let⟨fs,c,bg,aO,sf⟩:=i1.h;show(mI bg sf #[AA,L,M,root,i1,rfl,hz,?_]);show#[x,dx,_,rfl,b1,by walk_at "f",ao ?_];left;show#[x,dx,_,_,rfl,ay,rfl,x,dx,_,rfl,ay,by walk_at "f",ao ?_];left;show#[x,dx,_,rfl,ay,by walk_at "f",ao ?_];left;show#[x,dx,_,rfl,ay,by walk_at "f",ao ?_];simp only[nH];left;have O9:dv (az "step" (.int 0) (az "place" .aw (az "here" (.int (root:Int)) (az "root" (.int (root:Int)) (az "last" (.bl last) (az "asker" (.str z) (az "house" (-AA.a) []))))))) [("house",-AA.a),("asker",.str z),("last",.bl last),("root",.int (root:Int)),("here",.int (root:Int)),("place",.aw),("step",.int 0)]:=fun f=>rfl;have PL:(az "step" (.int 0) (az "place" .aw (az "here" (.int (root:Int)) (az "root" (.int (root:Int)) (az "last" (.bl last) (az "asker" (.str z) (az "house" (-AA.a) []))))))).length<=10:=by (repeat (show cY ?_));show wT _
 generalize (az "step" (.int 0) (az "place" .aw (az "here" (.int (root:Int)) (az "root" (.int (root:Int)) (az "last" (.bl last) (az "asker" (.str z) (az "house" (-AA.a) [])))))))=F7 at O9 PL ⊢;have s2:=s1.fN (o:=.ins T.bH dx F7) x0;have b2:upd H1 x (.ins T.bH dx F7) x=!.ins T.bH dx F7:=ay;generalize upd H1 x (.ins T.bH dx F7)=H2 at s2 b2 ⊢;have cb:∀ {J:Hp}{d:ϋ},ai H0 J->J d=none->H0 d=none:=fun {J d} k hn=>by
  cases e:H0 d with
  | none=>rfl
  | some o=>rw[k d o e]at hn;cases hn
 show#[fits (),fun av gD=>?_];show#[x,dx,_,rfl,by rw[ag (bD b2 gD)];show b2,∅,ao ?_];let⟨b3,o3,old3,n3⟩:=AW (o:=.lst []) (O:=.ins T.bH dx (az "asked" (-av) F7)) gD b2;have s3:=(s2.trans (ai.upd (o:=.lst []) gD)).fN (o:=.ins T.bH dx (az "asked" (-av) F7)) x0;have av0:=cb s2 gD;generalize upd (upd H2 av (.lst [])) x (.ins T.bH dx (az "asked" (-av) F7))=H3 at b3 o3 old3 s3 ⊢;left;show#[fits (),fun lf oR=>?_];have l1:(az "asked" (-av) F7).length<=11:=cY PL;show#[x,dx,_,rfl,by rw[ag (bD b3 oR)];show b3,∅,ao ?_];let⟨b4,o4,Qh,n4⟩:=AW (o:=.lst []) (O:=.ins T.bH dx (az "left" (-lf) (az "asked" (-av) F7))) oR b3;have s4:=(s3.trans (ai.upd (o:=.lst []) oR)).fN (o:=.ins T.bH dx (az "left" (-lf) (az "asked" (-av) F7))) x0;have G8:=cb s3 oR;have GC:av≠lf:=bD o3 oR;have G1:=Qh av _ n3 o3;generalize upd (upd H3 lf (.lst [])) x (.ins T.bH dx (az "left" (-lf) (az "asked" (-av) F7)))=H4 at b4 o4 Qh s4 G1 ⊢;left;show#[fits (),fun rd iD=>?_];have l2:(az "left" (-lf) (az "asked" (-av) F7)).length<=12:=cY l1;show#[x,dx,_,rfl,by rw[ag (bD b4 iD)];show b4,∅,ao ?_];let⟨b5,o5,GY,n5⟩:=AW (o:=.lst []) (O:=.ins T.bH dx (az "reading" (-rd) (az "left" (-lf) (az "asked" (-av) F7)))) iD b4;have s5:=(s4.trans (ai.upd (o:=.lst []) iD)).fN (o:=.ins T.bH dx (az "reading" (-rd) (az "left" (-lf) (az "asked" (-av) F7)))) x0;have PX:=GY av _ n3 G1;have Pc:=GY lf _ n4 o4;have rd0:=cb s4 iD;have nar:av≠rd:=bD G1 iD;have Hf:lf≠rd:=bD o4 iD;generalize upd (upd H4 rd (.lst [])) x (.ins T.bH dx (az "reading" (-rd) (az "left" (-lf) (az "asked" (-av) F7))))=H5 at b5 o5 GY s5 PX Pc ⊢;have l3:(az "reading" (-rd) (az "left" (-lf) (az "asked" (-av) F7))).length<=13:=cY l2;left;show#[x,dx,_,rfl,b5,∅,ao ?_];have l4:(az "leads_read" (.int 0) (az "reading" (-rd) (az "left" (-lf) (az "asked" (-av) F7)))).length<=14:=cY l3;left;show#[x,dx,_,rfl,ay,∅,?_];have l5:(az "looked_up" (.int 0) (az "leads_read" (.int 0) (az "reading" (-rd) (az "left" (-lf) (az "asked" (-av) F7))))).length<=15:=cY l4;show#[x,dx,_,rfl,ay,∅,?_];simp only[nH];show q av lf rd _ #[i,s5.fN x0,x0,av0,G8,rd0,#[_,.aw,ay,ut (cY l5) ⋯,rfl,fun f=>?_],by rw[ag n3];show PX,by rw[ag n4];show Pc,by rw[ag n5];show o5,GC,nar,Hf,hz];show((((((O9.put "asked" (-av)).put "left" (-lf)).put "reading" (-rd)).put "leads_read" (.int 0)).put "looked_up" (.int 0)).put "told" .aw f).trans rfl
abbrev D8(k:Nat)(r:Str):List (Str×V):=az "reason" (.str r) (az "step" (.int (k:Int)) [])
inductive Tl
 | fail (y:Str)
 | ring (ns:List Nat)
def  pZ(N:Cn)(H0 H:Hp)(step:Nat)(fd:ϋ):Tl->Prop
 | .fail y=>H0 fd=none/\∃ bL,H fd=!.ins N.CF bL (D8 step y)
 | .ring ns=>H0 fd=none/\∃ bL rl,H fd=!.ins N.CR bL (az "leads" (-rl) [])/\H rl=!.lst (nV ns)
structure vO(N:Cn)(c:Wc)(S:Ws)(lf:ϋ)(o:Option Tl)(R:Hp->Prop):Prop where
 n:o=none->∀ H',bj N c S H' lf .aw->R H'
 y:∀ t,o=!t->∀ fd H',bj N c S H' lf (-fd)->pZ N c.H0 H' S.step fd t->R H'
def  adC(N:Cn):Sp:=iJ fun x r H Q _=>X3 fun c S lf=>A3 (c.x=x) (bj N c S H lf .aw) (vO N c S lf (!.fail r) (Q .aw))
def bj.tells{N:Cn}{c:Wc}{S:Ws}{H H4:Hp}{lf fd bL C:ϋ}{F:List (Str×V)}{t:Tl}(v:bj N c S H lf .aw)(bx:H fd=none)(s4:ai H H4)(b4:H4 fd=!.ins C bL []) :
  ∃ fs,upd H4 fd (.ins C bL F) c.x=!.ins N.CW c.dx fs/\fs.length < 1000/\bj N c S (upd (upd H4 fd (.ins C bL F)) c.x (.ins N.CW c.dx (az "told" (-fd) fs))) lf (-fd)/\c.H0 fd=none/\c.x≠fd:=by
 let⟨fs,pv,hx,aO,sf⟩:=v.fld;have f0:=v.fresh bx;have nx:c.x≠fd:=bD hx bx;have v5:=(v.same s4).off (o':=.ins C bL F) f0 b4 nx (bD v.oa bx) (bD v.ol bx) (bD v.od bx) (by nofun);let⟨tD,gg,iB,_,v6⟩:=v5.put "told" (-fd) S (-fd) .aw;show#[tD,gg,iB,v6,f0,nx]
def vc:T.iK.k P w mg base 3 (adC T.cn):=by
 show T.iK.F.ok ZV (fun _ _ _ _ h=>dU h fun _ _ _=>rfl) fun ax A _ s H vs Q E hr h=>dU h fun x r h=>?_;let⟨c,S,lf,rfl,v,q⟩:=h;let⟨fs,pv,hx,aO,sf⟩:=v.fld;show bF (b:=aU BR) ((aj (bN T.aP T.nN (ad 0) (io T.Yc (T4 T) hr.m T.MJ T.uW.b .nil aq (aa (bi T.aP T.FX (ad 0)) (aa (ad 1) ae)))))) ?_;exists 0;left;show(fI hx sf rfl (fun fd bL bx hdfd nfd=>?_));have s4:=(ai.upd (o:=.own fd) hdfd).trans (ai.upd (p:=fd) (o:=.ins T.eR bL []) (by rw[ag (ss nfd)];show bx));have b4:upd (upd H bL (.own fd)) fd (.ins T.eR bL []) fd=!.ins T.eR bL []:=ay;generalize upd (upd H bL (.own fd)) fd (.ins T.eR bL [])=H4 at s4 b4 ⊢;show#[bL,b4,rfl,?_];let⟨tD,gg,iB,v6,f0,nx⟩:=v.tells (t:=.fail r) (F:=D8 S.step r) bx s4 b4;show#[c.x,_,_,rfl,gg,iB,q.y _ rfl fd _ v6 #[f0,bL,by rw[ag (ss nx)];show ay]]
def  lX:List Nat->Nat
 | []=>0
 | [a]=>a
 | a::b::r=>min a (lX (b::r))
def wk:∀ {ns:List Nat},ns≠[]->lX ns∈ns
 | [],h=>absurd rfl h
 | [a],_=>by simp[lX]
 | a::b::r,_=>by
  have:=wk (ns:=b::r) ();unfold lX;rcases Nat.le_total a (lX (b::r)) with h | h
  ·rw[_N h];simp
  ·rw[Ja5 h];show Fr _ this
def FF:∀ {ns:List Nat}{k:Nat},k∈ns->lX ns<=k
 | [a],k,h=>by rw[Ch.mp h];show pi _
 | a::b::r,k,h=>by
  unfold lX;rcases li.mp h with rfl | h
  ·show Nat.min_le_left _ _
  ·show ut (Nat.min_le_right _ _) (FF h)
def  kS(ns:List Nat):List Nat:=ns.drop (ns.idxOf (lX ns))++ns.take (ns.idxOf (lX ns))
def xI(ns:List Nat):nV ns=(ns.map (fun k:Nat=>(k:Int))).map V.int:=by
 unfold nV;rw[SZ];rfl
def r8(k:Nat):∀ ns:List Nat,(ns.map (fun k:Nat=>(k:Int))).idxOf (k:Int)=ns.idxOf k
 | []=>rfl
 | a::r=>by
  have h:((a:Int) == (k:Int))=(a == k):=by
   rw[UF,ZB,ZB];omega
  rw[FB,List.idxOf_cons,List.idxOf_cons,r8 k r,h]
def mem_cast{k:Nat}{ns:List Nat}(h:k∈ns):(k:Int)∈ns.map (fun k:Nat=>(k:Int)):=wS.mpr #[k,h,rfl]
def  Su:Sp:=jN fun l H Q _=>X1 fun (ns:List Nat)=>A4 (H l=!.lst (nV ns)) (ns≠[]) (ns.length<=500) (∀ l' H',ai H H'->H l'=none->H' l'=!.lst (nV (kS ns))->Q (-l') H')
def aaW:T.qV.k P w base 1 Su:=by
 show T.qV.F.ok Km (fun _ _ _ _ h=>fm h fun _ _=>rfl) fun ax A _ s H vs Q E hr h=>fm h fun l h=>?_;let⟨ns,hl,cQ,hlen,q⟩:=h;show bF (b:=aU Cu) ((al (aM 1 Km.nd (fX _r _R (DN (K:=K) rfl) (ad 0) (aa (cT (OE (K:=K) rfl rfl) T.D4 Ow (aa (ad 0) ae)) ae)))
 (aj (aL (db ej (im (nS (K:=K) rfl) (ad 0) (jh (ad 1)) kW) (im (nS (K:=K) rfl) (ad 0) kW (jh (ad 1)))))))) ?_
 exists 1;right
 rwa [hl]
 have hS:aC K H l ((ns.map (fun k:Nat=>(k:Int))).map V.int):=aC.of (by rw[hl,xI]);show#[_,_,hS,mem_cast (wk cQ),fun k hk=>?_,_,hS,mem_cast (wk cQ),nV ns,aC.of hl,fun p hp=>?_]
 ·let⟨k',hk',rfl⟩:=wS.mp hk;have:=FF hk';omega
 rw[r8,zk];show dh hp fun H1 s1 b1=>?_;show#[nV ns,aC.of (s1 _ _ hl),fun p2 cL=>?_];rw[Ko];show dh cL fun H2 s2 b2=>?_;simp only[s2 _ _ b1,b2];show#[fits (by simp[nV];omega),fun p3 iY=>?_];show q p3 _ ((s1.trans s2).trans (ai.upd iY)) ?_ ?_
 ·cases e:H p3 with
  | none=>rfl
  | some o=>rw[(s1.trans s2) _ _ e]at iY;cases iY
 ·rw[ay];unfold kS nV;rw[Da,Ja9,List.map_take]
def  U1(C:ϋ):Sp:=uR fun x l H Q _=>X2 fun dx ns=>A3 (H x=!.ins C dx []) (H l=!.lst (nV ns)) (∀ rl,H rl=none->Q .aw (upd (upd H rl (.lst (nV ns))) x (.ins C dx (az "leads" (-rl) []))))
def RJ:T.wj.k P w mg base 1 (U1 T.eW):=by
 show T.wj.F.ok VI (fun _ _ _ _ h=>nT h fun _ _ _=>rfl) fun ax A _ s H vs Q E hr h=>nT h fun x l h=>?_;let⟨dx,ns,hx,hl,q⟩:=h;show bF (b:=aU Eg) ((aj (bN T.og T.Ex (ad 0) (nJ (J6 (K:=K) rfl) T.pA zF (aa (ad 1) ae))))) ?_;exists 0;left
 rwa [hl]
 show fun rl fA=>#[x,dx,_,rfl,by rw[ag (bD hx fA)];show hx,⋯,q rl fA]
def  cJ(ps:List Str):List (Sum Nat Str):=(ps.map Sum.inr).reverse
def Kt(ps:List Str):(cJ ps).map eD=(ps.map V.str).reverse:=by
 unfold cJ;rw[List.map_reverse,SZ];rfl
def  aaJ(N:Cn):Sp:=Nf fun x fr lp H Q _=>OM fun c S lf (st:Nat) (b:Nat) (ps:List Str) (r:List Nat) (a:Ta) (t:Th) (sn:Bool)=>rB (c.x=x) (bj N c S H lf .aw) (H lp=!.lst (ps.map V.str)) (fr=true/\st=c.root\/fr=false/\ah (sD c.M.st) (.inr c.z)=!.int (st:Int)) (c.L[st]?=!a) (c.M.ts[st]?=!t) (cf c.M st b r) (∃ m,eg c.M c.L c.root m (aZ b r) sn) (sn=true->∀ lf' H',bj N c { S with here:=aZ b r,left:=cJ ps } H' lf' .aw->Q .aw H') (sn=false->vO N c { S with here:=aZ b r } lf (!.fail "outside") (Q .aw))
def Zb:T.wg.k P w mg base 7 (aaJ T.cn):=by
 show T.wg.F.ok IH (fun _ _ _ _ h=>Kb h fun _ _ _ _=>rfl) fun ax A _ s H vs Q E hr h=>Kb h fun x fr lp h=>?_;let⟨c,S,lf,st,b,ps,r,a,t,sn,rfl,v,dq,aR,ha,ht,jI,f7,q1,q2⟩:=h;let⟨fs,pv,hx,aO,sf⟩:=v.fld;show bF (b:=aU Cq) ((al (aM 3 IH.nd (IV (cU (ad 1)) (bi T.aP T.uV (ad 0)) (NI<*T.pI (bi T.aP T.gv (ad 0)) (aa (bi T.aP T.uA (ad 0)) ae))))
 (al (bN T.aP T.gj (ad 0) (yS<$>T.gK (aa (bi T.aP T.gv (ad 0)) (aa (ad 3) ae))))
 (aj (aV (cU (acx<$>T.sT (aa (bi T.aP T.gv (ad 0)) (aa (bi T.aP T.uA (ad 0)) (aa (bi T.aP T.gj (ad 0)) ae))))) (aj (bN T.aP T.qd (ad 0) (Dv.listRev (K:=K) rfl rfl T.pA T.DP (ad 2)))) (aj (aN (aW T.aP T.iK.h (vc T) hr.m T.iK.b .nil aq (ad 0) (aa am ae))))))))) ?_
 exists 1;show gx (fun σ' H'=>σ'=[!V.ref c.x,!V.bl fr,!V.ref lp,!V.int (st:Int)]/\H'=H) ?_ ?_
 ·left;rcases aR with ⟨rfl,rfl⟩ | ⟨rfl,aR⟩
  ·show bS (fI hx sf rfl #[rfl,by trivial])
  ·let⟨oq,hc,hh,sZ,iZ⟩:=v.m.h;show bf (fI hx sf rfl (mI hh iZ (fI hx sf rfl #[c.A,c.L,c.M,st,v.m,rfl,by rw[v.hz];rfl,aR,rfl,by first | rfl | trivial])))
 rintro σ' H' ⟨rfl,rfl⟩;right;show(fI hx sf rfl #[c.A,c.L,c.M,st,b,r,a,t,v.m,rfl,rfl,ha,ht,jI,fun H1 s1=>?_]);have v1:=v.same s1;let⟨eY,bg,fT,_,v2⟩:=v1.put "here" (.int ((aZ b r:Nat):Int)) { S with here:=aZ b r } .aw _;show#[c.x,_,_,rfl,bg,by first | show fT | show mX | omega,?_];have hlp1:=s1 _ _ dq;have Hi:lp≠c.x:=fun e=>by rw[e,hx]at dq;cases dq
 have Py:upd H1 c.x (.ins T.bH c.dx (az "here" (.int ((aZ b r:Nat):Int)) eY)) lp=!.lst (ps.map V.str):=by rw[ag Hi];show hlp1
 generalize upd H1 c.x (.ins T.bH c.dx (az "here" (.int ((aZ b r:Nat):Int)) eY))=H2 at v2 Py ⊢;let⟨ia,qB,bT,gF,bY⟩:=v2.fld;left;show(fI bT bY rfl (fI bT bY rfl (fI bT bY rfl #[c.A,c.L,c.M,aZ b r,c.root,sn,v2.m,rfl,rfl,v2.hz,f7,fun H3 s3=>?_])));have v3:=v2.same s3;cases sn
 ·let⟨hX,oQ,da,f9,dR⟩:=v3.fld;show bf (mI da dR #[c,_,lf,rfl,v3,q2 rfl])
 ·show bS ?_;show#[lp,ps.map V.str,rfl,aC.of (s3 _ _ Py),fun l hl=>?_];have v4:=v3.same (ai.upd (o:=.lst (ps.map V.str).reverse) hl);have b4:upd H3 l (.lst (ps.map V.str).reverse) l=!.lst ((cJ ps).map eD):=by rw[ay,Kt]
  have l0:=v3.fresh hl;have GC:c.av≠l:=bD v3.oa hl;have Hf:l≠c.rd:=ss (bD v3.od hl);generalize upd H3 l (.lst (ps.map V.str).reverse)=H4 at v4 b4 ⊢;let⟨oX,f6,mX,v5⟩:=v4.XO l0 b4 GC Hf;show#[c.x,_,_,rfl,f6,by first | show fT | show mX | omega,q1 rfl l _ v5]
def  iP(M:Hs)(L:List Ta)(root:Nat):Nat->Nat->List Str->Prop
 | n,k,ns=>∃ b r a t,L[k]?=!a/\M.ts[k]?=!t/\cf M k b r /\
  if fg root (b::r)=true then ns=[]
  else ∃ ab tb f z,L[b]?=!ab/\M.ts[b]?=!tb/\tb.bV=[(f,z)]/\match n with | 0=>False | n+1=>∃ ns',ns=ns'++[z]/\iP M L root n f ns'
def  acN(CH CS CT:ϋ):Sp:=kg fun x z n H Q _=>X6 fun A L M (k:Nat) (root:Nat) ns=>A7 (aF CH CS CT H A L M) (A.a=x) (n=(k:Int)) (ah (sD M.ro) (.inr z)=!.int (root:Int)) (∃ m,iP M L root m k ns) (ns.length<=500) (∀ l H',ai H H'->H' l=!.lst (ns.map V.str)->Q (-l) H')
def Tu:T.sJ.k P w base 6 (acN T.aI T.aK T.aQ):=by
 show T.sJ.F.ok rM (fun _ _ _ _ h=>fL h fun _ _ _ _=>rfl) fun ax A _ s H vs Q E hr h=>fL h fun x z n h=>?_;let⟨AA,L,M,k,root,ns,i,rfl,rfl,hz,⟨m,hm⟩,hlen,q⟩:=h;let⟨fs,c,hx,aO,sf⟩:=i.h;show bF (b:=aU EG) ((al (aM 3 rM.nd (pk<*T.fY (ad 0) (aa (ad 1) ae)))
 (al (aM 4 rM.nd (cr ae))
 (al (aM 5 rM.nd (rh<$>T.fc (aa (ad 0) (aa (ad 2) ae))))
 (al (j3 Db (aX (xH (K:=K) rfl) (ad 3) (ad 5)) (al (aM 6 rM.nd (ny<*T.fG (ad 0) (aa (ce (bG (K:=K) rfl) (ad 5) ap) ae)))
 (al (aN (fX Do Ev jQ (ad 4) (aa (ce (bG (K:=K) rfl) (ad 6) ap) ae)))
 (aj (aM 5 rM.nd (rh<$>T.fc (aa (ad 0) (aa (ce (bG (K:=K) rfl) (ad 6) ap) ae))))))))
 (aj (aL (Dv.listRev (K:=K) rfl rfl T.pA T.DP (ad 4))))))))) ?_
 exists 4;right;show(mI hx sf #[AA,L,M,root,i,rfl,hz,?_]);right;show#[fits (),fun ln Am=>?_];show dh Am fun H1 s1 b1=>?_;have i1:=i.same s1;right;let⟨b,r,a,t,ha,ht,aR,eT⟩:=(by unfold iP at hm;show hm:∃ b r a t,L[k]?=!a/\M.ts[k]?=!t/\cf M k b r/\_);show#[AA,L,M,k,b,r,a,t,i1,rfl,rfl,ha,ht,aR,fun l2 H2 s2 hl20 cA=>?_];have qD:=s1.trans s2;have c1:=s2 _ _ b1;let⟨PV,ja⟩:∃ PV:Nat->St->Hp->Prop,PV=fun m σ' H'=>ai H H'/\∃ (ls:ϋ) (b:Nat) (r:List Nat) (cs ns':List Str) (pv:Option V),σ'=[!V.ref AA.a,!V.str z,!V.int (k:Int),!V.int (root:Int),!V.ref ln,!V.ref ls,pv]/\H' ls=!.lst (nV (b::r))/\H' ln=!.lst (cs.map V.str)/\ns=ns'++cs.reverse /\
  (if fg root (b::r)=true then ns'=[]
   else ∃ ab tb f z,L[b]?=!ab/\M.ts[b]?=!tb/\tb.bV=[(f,z)]/\match m with | 0=>False | n+1=>∃ ns'',ns'=ns''++[z]/\iP M L root n f ns''):=#[_,rfl]
 show ao #[PV,#[m,by rw[ja];show#[qD,l2,b,r,[],ns,none,rfl,cA,c1,(),eT]],?_];clear eT ha ht aR cA hl20 c1 hm qD s2;intro m σ' H' hI;rw[ja]at hI;let⟨s',ls,b,r,cs,ns',pv,rfl,oG,hln',iy,eT⟩:=hI;have i':=i.same s';let⟨fs',c',hx',hfl',sf'⟩:=i'.h;left;show#[_,.inl (aC.of oG),rfl,by simp[cN],?_];rw[my];cases hmem:fg root (b::r) with
 | true =>
  rw[wl hmem]at eT;subst eT;show bf ?_;left;show#[ln,_,rfl,aC.of hln',fun l hl=>?_];show q l _ (s'.trans (ai.upd hl)) ?_;rw[ay,iy,List.nil_append,List.map_reverse]
 | false =>
  rw[wf (by rw[hmem];nofun)]at eT;let⟨ab,tb,f,zz,c8,c9,bt,hn⟩:=eT;show bS #[fun σ' H'=>∃ m',m' < m/\PV m' σ' H',fun σ' H' h=>h,?_];right;simp only[ee,oG,nV,FB,eO];show#[AA.a,_,_,rfl,hx',(sf' _).trans rfl,AA,L,M,b,ab,tb,i',rfl,rfl,c8,c9,.inr #[f,zz,bt,fun p hp=>?_]];right
  rwa [hln',hp,uO]
  cases m with
  | zero=>show hn.elim
  | succ m =>
   let⟨ns2,hns2,hn⟩:=hn;have sY:cs.length<=500:=by
    have:=GE List.length iy;simp at this;omega
   show#[gG (by rw[lv];omega),?_];have Hi:p≠ln:=eQ hp hln' (by nofun);have s4:=s'.fN (o:=.lst (List.map V.str cs++[V.str zz])) Am;have b4:upd H' ln (.lst (List.map V.str cs++[V.str zz])) ln=!.lst ((cs++[zz]).map V.str):=by rw[ay,Da];rfl
   have jE:upd H' ln (.lst (List.map V.str cs++[V.str zz])) p=!.tup [V.int (f:Int),V.str zz]:=by rw[ag Hi];show hp
   generalize upd H' ln (.lst (List.map V.str cs++[V.str zz]))=H4 at s4 b4 jE ⊢;left
   rwa [jE,eO]
   let⟨b2,r2,a2,t2,xp,gb,oK,Hu⟩:=(by unfold iP at hn;show hn:∃ b r a t,L[f]?=!a/\M.ts[f]?=!t/\cf M f b r/\_);show#[AA,L,M,f,b2,r2,a2,t2,i.same s4,rfl,rfl,xp,gb,oK,fun l5 H5 s5 hl50 iB=>#[m,FM m,?_]];rw[ja];show#[s4.trans s5,l5,b2,r2,cs++[zz],ns2,_,rfl,iB,s5 _ _ b4,?_,Hu];rw[iy,hns2];simp
def dH{a b:Nat}(h:(!V.int (a:Int):Option V)=!V.int (b:Int)):a=b:=by
 have h1:=Fk h;injection h1 with h2;omega
def eI.uniq{M:Hs}:∀ {n m k a b:Nat},eI M n k a->eI M m k b->a=b
 | 0,0,_,_,_,h,h'=>by rw[h.2,h'.2]
 | 0,_+1,_,_,_,h,h'=>by let⟨_,e,_⟩:=h';rw[h.1]at e;cases e
 | _+1,0,_,_,_,h,h'=>by let⟨_,e,_⟩:=h;rw[h'.1]at e;cases e
 | _+1,_+1,_,_,_,h,h'=>by
  let⟨k1,e1,h1⟩:=h;let⟨k2,e2,h2⟩:=h';rw[e1]at e2;cases dH e2;show h1.uniq h2
def cX.uniq{M:Hs}:∀ {n m k:Nat}{a b:List Nat},cX M n k a->cX M m k b->a=b
 | 0,0,_,_,_,h,h'=>by rw[h.2,h'.2]
 | 0,_+1,_,_,_,h,h'=>by let⟨_,_,e,_⟩:=h';rw[h.1]at e;cases e
 | _+1,0,_,_,_,h,h'=>by let⟨_,_,e,_⟩:=h;rw[h'.1]at e;cases e
 | _+1,_+1,_,_,_,h,h'=>by
  let⟨k1,r1,e1,h1,rfl⟩:=h;let⟨k2,r2,e2,h2,rfl⟩:=h';rw[e1]at e2;cases dH e2;rw[h1.uniq h2]
def cf.uniq{M:Hs}{k b b':Nat}{r r':List Nat}(h:cf M k b r)(h':cf M k b' r'):b=b'/\r=r':=by
 let⟨⟨_,h1⟩,_,h2,_⟩:=h;let⟨⟨_,h3⟩,_,h4,_⟩:=h';obtain rfl:=h1.uniq h3;show#[rfl,h2.uniq h4]
inductive qO(c:Wd)(h:Nat):Nat->Prop
 | gz {a t b r}:c.L[h]?=!a->c.M.ts[h]?=!t->cf c.M h b r->fg c.root (b::r)=true->qO c h h
 | up {a t b r ab tb f zz af tf b' r'}:c.L[h]?=!a->c.M.ts[h]?=!t->cf c.M h b r->fg c.root (b::r)=false->c.L[b]?=!ab->c.M.ts[b]?=!tb->tb.bV=[(f,zz)]->c.L[f]?=!af->c.M.ts[f]?=!tf->cf c.M f b' r'->qO c h (aZ b' r')
def  abm(N:Cn):Sp:=jN fun x H Q _=>X4 fun c S lf h'=>A4 (c.x=x) (bj N c S H lf .aw) (qO c.toWd S.here h') (∀ H',bj N c { S with here:=h' } H' lf .aw->Q .aw H')
def Vr:T.vA.k P w mg base 7 (abm T.cn):=by
 show T.vA.F.ok MM (fun _ _ _ _ h=>fm h fun _ _=>rfl) fun ax A _ s H vs Q E hr h=>fm h fun x h=>?_;let⟨c,S,lf,h',rfl,v,hu,q⟩:=h;let⟨fs,pv,hx,aO,sf⟩:=v.fld;let⟨a,t,b,r,ha,aS,aR⟩:∃ a t b r,c.L[S.here]?=!a/\c.M.ts[S.here]?=!t/\cf c.M S.here b r:=by
  cases hu <;> show#[_,_,_,_,by assumption,by assumption,by assumption]
 show bF (b:=aU B7) ((al (aM 1 MM.nd (rh<$>T.fc (aa (bi T.aP T.gv (ad 0)) (aa (bi T.aP T.gj (ad 0)) ae))))
 (aj (aV (aX (xH (K:=K) rfl) (bi T.aP T.uV (ad 0)) (ad 1)) (aj (bN T.aP T.gj (ad 0) (yS<$>T.gK (aa (bi T.aP T.gv (ad 0)) (aa (ce (bG (K:=K) rfl) (ny<*T.fG (bi T.aP T.gv (ad 0)) (aa (ce (bG (K:=K) rfl) (ad 1) ap) ae)) ap) ae))))) bv)))) ?_
 exists 1;right;show(fI hx sf rfl (fI hx sf rfl #[c.A,c.L,c.M,S.here,b,r,a,t,v.m,rfl,rfl,ha,aS,aR,fun l H1 s1 jF hl=>?_]));have v1:=v.same s1;let⟨eY,z6,bg,fT,bX⟩:=v1.fld;left;show(fI bg bX rfl #[_,.inl (aC.of hl),rfl,by simp[cN],?_]);rw[my];cases hu with
 | gz _ _ h1 hm =>
  let⟨rfl,rfl⟩:=cf.uniq h1 aR;rw[hm];show bf (q _ v1)
 | up _ _ h1 hm c8 c9 bt gA bE hst' =>
  let⟨rfl,rfl⟩:=cf.uniq h1 aR;rw[hm];show bS ?_;let⟨oq,hc,hh,sZ,iZ⟩:=v1.m.h;simp only[ee,hl,nV,FB,eO];show(fI bg bX rfl (fI bg bX rfl (mI hh iZ #[c.A,c.L,c.M,_,_,_,v1.m,rfl,rfl,c8,c9,.inr #[_,_,bt,fun p hp=>?_]])))
  rwa [hp,eO]
  show#[c.A,c.L,c.M,_,_,_,_,_,v1.m,rfl,rfl,gA,bE,hst',fun H2 s2=>?_];let⟨ia,bT,gF,_,v2⟩:=(v1.same s2).put "here" _ { S with here:=aZ _ _ } .aw _;show#[c.x,_,_,rfl,bT,gF,q _ v2]
def Cy:T.mf.k P w mg base 3 (pd T.aI T.aK T.aQ Ad.a yO):=by
 show T.mf.F.ok YF (fun _ _ _ _ h=>cz h fun _ _ _=>rfl) fun ax A _ s H vs Q E hr h=>cz h fun x n h=>?_;let⟨AA,L,M,k,a,t,i,rfl,rfl,ha,aS,q⟩:=h;let⟨fs,c,hx,aO,sf⟩:=i.h;let⟨gs,c2,ht,eX,sg⟩:=i.t;have dS:=gX i ha aS;let⟨ks,ho,jC,so⟩:=dS.o;show#[_,((aj (aL (bi T.et T.JF (dA T.cG T.eB.h (kM T) hr.m T.eB.b .nil gy (bi T.aD T.gR (ad 0)) (aa (ad 1) ae)))))).h,?_];exists 0;left;show#[AA.a,_,_,-AA.t,rfl,hx,(sf _).trans rfl,AA.t,_,_,rfl,ht,(sg _).trans rfl,mh i ha aS (fI ho so rfl q)]
def vP{n:Nat}(h:n<=9000):n<=sizeLine:=ut h ⋯
def yp(ps:List (List Nat)):PV ps=(ps.map Tx.S).map V.str:=by
 unfold PV
 first | rfl | simp[SZ,Function.comp_def]
def  dj(t:List Nat):List Str:=(told (Tx.words 47 t) t).map Tx.S
def  iq(S:Ws)(k:Nat)(ps:List Str)(h:Nat):Ws:={ S with read:=S.read+1,aY:=S.aY++[k],left:=(S.left++[.inl k])++cJ ps,here:=h }
inductive wC(c:Wd)(S:Ws)(k:Nat):Ws->Prop
 | mk {a tc t ar tr b r}:c.L[k]?=!a->c.M.ts[k]?=!tc->tc.tx=Tx.S t->1<=t.length->t.length<=2000->(Tx.words 47 t).all cP=true->(dj t).length<=124->c.L[c.root]?=!ar->c.M.ts[c.root]?=!tr->cf c.M c.root b r->wC c S k (iq S k (dj t) (if cO t=true then aZ b r else S.here))
def  Yg(N:Cn):Sp:=iN fun x n H Q _=>X5 fun c S lf (k:Nat) S'=>A7 (c.x=x) (n=(k:Int)) (bj N c S H lf .aw) (S.left.length<=8000) (S.aY.length<=900) (wC c.toWd S k S') (∀ H',bj N c S' H' lf .aw->Q .aw H')
def ab3:T.uz.k P w mg base 7 (Yg T.cn):=by
 show T.uz.F.ok Ja (fun _ _ _ _ h=>cz h fun _ _ _=>rfl) fun ax A _ s H vs Q E hr h=>cz h fun x n h=>?_;let⟨c,S,lf,k,S',rfl,rfl,v,hl,iD,hR,q⟩:=h;cases hR with
 | @mk a tc t ar tr b r ha bW iu h1 h2 iF dZ xo eU aR =>
 let⟨fs,pv,hx,aO,sf⟩:=v.fld;let⟨oq,hc,hh,sZ,iZ⟩:=v.m.h;show bF (b:=aU Dn) ((al (aM 2 Ja.nd (kX<$>T.cH (aa (Cy<*T.mf (bi T.aP T.gv (ad 0)) (aa (ad 1) ae)) ae)))
 (al (js T.aP T.Dm jv (ad 0) ap)
 (al (aN (fX Do Ev jQ (bi T.aP T.rj (ad 0)) (aa (ad 1) ae)))
 (al (aN (fX Do Ev jQ (bi T.aP T.qd (ad 0)) (aa (ad 1) ae)))
 (al (aN (fX PySem.F.slot_list_extend PySem.F.type_list_extend K3 (bi T.aP T.qd (ad 0)) (aa (Dv.listRev (K:=K) rfl rfl T.pA T.DP (ce (bG (K:=K) rfl) (ad 2) ap)) ae)))
 (aj (aV (cU (ce (bG (K:=K) rfl) (ad 2) ap)) (aj (bN T.aP T.gj (ad 0) (yS<$>T.gK (aa (bi T.aP T.gv (ad 0)) (aa (bi T.aP T.uV (ad 0)) ae))))) bv)))))))) ?_
 exists 1;right;show(fI hx sf rfl (mI hh iZ #[c.A,c.L,c.M,k,a,tc,v.m,rfl,rfl,ha,bW,?_]));dsimp only[yO];show#[t,iu,h1,h2,iF,fun H1 l p s1 jF ik hp=>?_];have v1:=v.same s1;let⟨eY,bg,fT,j6,v2⟩:=v1.put "leads_read" (.int ((S.read:Int)+1)) { S with read:=S.read+1 } .aw _;right;show#[c.x,_,_,_,rfl,bg,j6,_,_,rfl,rfl,_,_,bg,fT,ao ?_];have hpx:p≠c.x:=fun e=>by rw[e,bg]at hp;cases hp
 have hlx:l≠c.x:=fun e=>by rw[e,bg]at ik;cases ik
 have cL:upd H1 c.x (.ins T.bH c.dx (az "leads_read" (.int ((S.read:Int)+1)) eY)) p=!HO.tup [V.bl (cO t),V.ref l]:=by rw[ag hpx];show hp
 have cA:upd H1 c.x (.ins T.bH c.dx (az "leads_read" (.int ((S.read:Int)+1)) eY)) l=!.lst (PV (told (Tx.words 47 t) t)):=by rw[ag hlx];show ik
 generalize upd H1 c.x (.ins T.bH c.dx (az "leads_read" (.int ((S.read:Int)+1)) eY))=H2 at v2 cL cA ⊢;let⟨ia,qB,bT,gF,bY⟩:=v2.fld;left;show(fI bT bY rfl ?_)
 rwa [v2.od]
 have v3:=v2.T5 k;show#[gG (by simp;omega),ao ?_];have nl0:l≠c.rd:=fun e=>by rw[e]at jF;rw[v.od]at jF;cases jF
 have iY:upd H2 c.rd (.lst (nV S.aY++[V.int (k:Int)])) p=!HO.tup [V.bl (cO t),V.ref l]:=by rw[ag (ss (eQ v2.od cL (by nofun)))];show cL
 have jl:upd H2 c.rd (.lst (nV S.aY++[V.int (k:Int)])) l=!.lst (PV (told (Tx.words 47 t) t)):=by rw[ag nl0];show cA
 dsimp only at v3;generalize upd H2 c.rd (.lst (nV S.aY++[V.int (k:Int)]))=H3 at v3 iY jl ⊢;let⟨hX,oQ,da,f9,dR⟩:=v3.fld;left;show(fI da dR rfl ?_)
 rwa [v3.ol]
 have v4:=v3.Yj k;show#[ww (FM _) (vP (by simp;omega)),ao ?_];have jE:upd H3 lf (.lst (S.left.map eD++[V.int (k:Int)])) p=!HO.tup [V.bl (cO t),V.ref l]:=by rw[ag (ss (eQ v3.ol iY (by nofun)))];show iY
 have nll:l≠lf:=fun e=>by rw[e]at jF;rw[v.ol]at jF;cases jF
 have zQ:upd H3 lf (.lst (S.left.map eD++[V.int (k:Int)])) l=!.lst (PV (told (Tx.words 47 t) t)):=by rw[ag nll];show jl
 dsimp only at v4;generalize upd H3 lf (.lst (S.left.map eD++[V.int (k:Int)]))=H4 at v4 jE zQ ⊢;let⟨oX,PY,f6,mX,jb⟩:=v4.fld;left;show(fI f6 jb rfl ?_)
 rwa [v4.ol]
 unfold Ei;left
 rwa [jE,uO]
 show#[l,_,rfl,aC.of zQ,fun l5 iB=>?_];rw[yp,show(List.map V.str (List.map Tx.S (told (Tx.words 47 t) t))).reverse=(cJ (dj t)).map eD from(Kt _).symm];show dh iB fun H5 s5 b5=>?_;have v5:=v4.same s5;have e5:H5 lf=!.lst ((S.left++[Sum.inl k]).map eD):=v5.ol
 rwa [e5,b5]
 have dq:(cJ (dj t)).length<=124:=by unfold cJ;simpa using dZ
 show#[vP (by simp at hl dq ⊢;omega),?_];have v6:=v5.UI (cJ (dj t));have tI:=s5 _ _ jE;have O4:upd H5 lf (.lst ((S.left++[Sum.inl k]).map eD++(cJ (dj t)).map eD)) p=!HO.tup [V.bl (cO t),V.ref l]:=by rw[ag (ss (eQ v5.ol tI (by nofun)))];show tI
 dsimp only at v6;generalize upd H5 lf (.lst ((S.left++[Sum.inl k]).map eD++(cJ (dj t)).map eD))=H6 at v6 O4 ⊢
 rwa [O4,eO]
 cases hrt:cO t with
 | false =>
  rw[hrt]at q;show bf (q _ v6)
 | true =>
  rw[hrt]at q;show bS ?_;let⟨fs6,pv6,Az,hfl6,Ao⟩:=v6.fld;show(fI Az Ao rfl (fI Az Ao rfl #[c.A,c.L,c.M,c.root,b,r,ar,tr,v6.m,rfl,rfl,xo,eU,aR,fun H7 s7=>?_]));let⟨PF,xi,O1,_,v7⟩:=(v6.same s7).put "here" _ (iq S k (dj t) (aZ b r)) .aw _;show#[c.x,_,_,rfl,xi,O1,q _ v7]
def bh{b:Bool}{A B:Prop}{i:Decidable (b=true)}(h:b=false)(hb:B):if b=true then A else B:=by rw[wf (by rw[h];decide)];show hb
def bI{b:Bool}{A B:Prop}{i:Decidable (b=true)}(h:b=true)(hb:A):if b=true then A else B:=by rw[wl h];show hb
section
variable {T:Tx K mg}{H:Hp}{A:Ad}{L:List Ta}{M:Hs}
def Fq{z s:Str}{k:Nat}{t:Th}{Q:VK}{E:XK}(i:aF T.aI T.aK T.aQ H A L M)(hz:(ah (sD M.ro) (.inr z)).isSome=true)(hs:lh (.str s)=true)(ht:M.ts[k]?=!t)(q:Q (.bl (dO s (dB t z))) H):Jh T.aI T.aK T.aQ T.tZ T.wK T.tQ [-A.a,.str z,.int k,.str s] H Q E:=by
 show#[A,L,M,i,rfl,#[_,rfl],#[_,rfl],#[_,rfl],fun h=>(by rw[h z rfl]at hz;cases hz),fun z' e _=>?_];cases e;show#[fun h=>(by rw[hs]at h;cases h),fun s' e _=>?_];cases e;have b8:=(sB.mp ht).1;show#[fun h=>absurd b8 (h k rfl),fun k' t' e ht'=>?_];cases e;rw[ht]at ht';cases ht';show q
end
def AN{k:Nat}{l:List Nat}(h:k∈l):fg k l=true:=Ja8.mpr #[k,h,()]
def zK{k:Nat}{l:List Nat}(h:k ∉ l):fg k l=false:=by
 unfold fg;rw[List.any_eq_false];intro x hx e;show h (by rw[<- eq_of_beq e];show hx)
inductive l6(c:Wd)(S:Ws)(k:Nat):Ws->Option Tl->Prop
 | ring:k∈S.aY->l6 c S k S (!.ring (kS (S.aY.drop (S.aY.idxOf k))))
 | many:k ∉ S.aY->S.read=40->l6 c S k S (!.fail "many")
 | read {S'}:k ∉ S.aY->S.read≠40->wC c S k S'->l6 c S k S' none
def  Rn(N:Cn):Sp:=iN fun x n H Q _=>X6 fun c S lf (k:Nat) S' o=>A7 (c.x=x) (n=(k:Int)) (bj N c S H lf .aw) (S.left.length<=8000) (S.aY.length<=400) (l6 c.toWd S k S' o) (vO N c S' lf o (Q .aw))
def Xn:T.vt.k P w mg base 8 (Rn T.cn):=by
 show T.vt.F.ok YY (fun _ _ _ _ h=>cz h fun _ _ _=>rfl) fun ax A _ s H vs Q E hr h=>cz h fun x n h=>?_;let⟨c,S,lf,k,S',o,rfl,rfl,v,hl,iD,hR,q⟩:=h;let⟨fs,pv,hx,aO,sf⟩:=v.fld;show bF (b:=aU B2) ((aj (aV (aX (zy (K:=K) rfl) (ad 1) (bi T.aP T.rj (ad 0))) (aj (bN T.aP T.nN (ad 0) (io T.S0 (RJ T) hr.m T.Mz T.wj.b .nil aq (aa (aaW<$>T.qV (aa (im (nS (K:=K) rfl) (bi T.aP T.rj (ad 0)) (jh (fX _r _R (DN (K:=K) rfl) (bi T.aP T.rj (ad 0)) (aa (ad 1) ae))) kW) ae)) ae)))) (aj (aV (aX cF (bi T.aP T.Dm (ad 0)) (dl (.int 40) T.Zz #[_,rfl])) (aj (aN (aW T.aP T.iK.h (vc T) hr.m T.iK.b .nil aq (ad 0) (aa am ae)))) (aj (aN (aW T.aP T.uz.h (ab3 T) hr.m T.uz.b .nil aq (ad 0) (aa (ad 1) ae))))))))) ?_;exists 0;left;show(fI hx sf rfl #[_,.inl (aC.of v.od),rfl,by simp[cN],?_]);rw[my];cases hR with
 | many hk hm =>
  rw[zK hk];show bf (fI hx sf rfl ?_);show bI (sw ∅) (mI hx sf #[c,S,lf,rfl,v,q])
 | read hk hm hR =>
  rw[zK hk];show bf (fI hx sf rfl ?_);show bh (kt ∅) (mI hx sf #[c,S,lf,k,_,rfl,rfl,v,hl,∅,hR,q.n rfl])
 | ring hk =>
  rw[AN hk];show bS (fI hx sf rfl (fI hx sf rfl ?_))
  rwa [v.od]
  show#[_,aC.of (by rw[v.od,xI]),mem_cast hk,nV S.aY,aC.of v.od,fun p hp=>?_];rw[r8,zk];have e1:List.drop (S.aY.idxOf k) (nV S.aY)=nV (S.aY.drop (S.aY.idxOf k)):=by unfold nV;rw[Ja9]
  rw[e1];show dh hp fun H1 s1 b1=>?_;have hj:S.aY.idxOf k < S.aY.length:=_l.mpr hk;show#[_,b1,fun e=>by have:=GE List.length e;simp at this;omega,by simp;omega,fun l2 H2 s2 l20 cA=>?_];intro fd bL bx hdfd nfd;have v2:=(v.same s1).same s2;have s4:=(ai.upd (o:=.own fd) hdfd).trans (ai.upd (p:=fd) (o:=.ins T.eW bL []) (by rw[ag (ss nfd)];show bx));have b4:upd (upd H2 bL (.own fd)) fd (.ins T.eW bL []) fd=!.ins T.eW bL []:=ay;generalize upd (upd H2 bL (.own fd)) fd (.ins T.eW bL [])=H4 at s4 b4 ⊢;show#[bL,_,b4,s4 _ _ cA,fun rl fA=>?_];have s5:=s4.trans (ai.upd (o:=.lst (nV (kS (S.aY.drop (S.aY.idxOf k))))) fA);have b5:upd H4 rl (.lst (nV (kS (S.aY.drop (S.aY.idxOf k))))) fd=!.ins T.eW bL []:=by rw[ag (bD b4 fA)];show b4
  have c5:upd H4 rl (.lst (nV (kS (S.aY.drop (S.aY.idxOf k))))) rl=!.lst (nV (kS (S.aY.drop (S.aY.idxOf k)))):=ay;have nr:=bD b4 fA;generalize upd H4 rl (.lst (nV (kS (S.aY.drop (S.aY.idxOf k)))))=H5 at s5 b5 c5 ⊢;let⟨tD,gg,iB,v6,f0,nx⟩:=v2.tells (t:=.ring []) (F:=az "leads" (-rl) []) bx s5 b5;have nrx:rl≠c.x:=fun e=>by rw[e]at c5;let⟨PF,pv7,xi,_⟩:=(v2.same s5).fld;rw[xi]at c5;cases c5
  show#[rfl,c.x,_,_,rfl,gg,iB,q.y _ rfl fd _ v6 #[f0,bL,rl,by rw[ag (ss nx),ay],by rw[ag nrx,ag (ss nr)];show c5]]
inductive rD(c:Wd)(S:Ws)(t:Th)(p:Str):Ws->Option Tl->Prop
 | no:ah (sD t.bb) (.inr p)=none->rD c S t p { S with look:=S.look+1 } (!.fail "none")
 | folder {k a tc b r}:ah (sD t.bb) (.inr p)=!.int ((k:Nat):Int)->c.L[k]?=!a->c.M.ts[k]?=!tc->tc.kd=("folder":Str)->cf c.M k b r->rD c S t p { S with look:=S.look+1,here:=aZ b r } none
 | fin {k a tc}:ah (sD t.bb) (.inr p)=!.int ((k:Nat):Int)->c.L[k]?=!a->c.M.ts[k]?=!tc->tc.kd≠("folder":Str)->(tc.kd=("file":Str)\/S.left=[]/\c.last=false)->rD c S t p { S with look:=S.look+1,place:=!(S.here,p),here:=k } none
 | lead {k a tc S' o}:ah (sD t.bb) (.inr p)=!.int ((k:Nat):Int)->c.L[k]?=!a->c.M.ts[k]?=!tc->tc.kd≠("folder":Str)->tc.kd≠("file":Str)->¬ (S.left=[]/\c.last=false)->l6 c { S with look:=S.look+1 } k S' o->rD c S t p S' o
def AY{T:Tx K mg}{c:Wc}{S:Ws}{H:Hp}{lf:ϋ}{k:Nat}{nm:Str}{v3:Option V}{R:Hp->Prop}{Q:VK}(v2:bj T.cn c S H lf .aw)(q:∀ H',bj T.cn c { S with place:=!(S.here,nm),here:=k } H' lf .aw->R H') :
  lK (pK T.bH "place" (fB 0) (mF (gn (xQ T.bH "here" (fB 0)) (gn (fB 1) gW)))) (pK T.bH "here" (fB 0) (fB 2)) { nx:=fun _ H'=>R H',rt:=Q } [!V.ref c.x,!V.str nm,!V.int (k:Int),v3] H:=by
 let⟨ia,qB,bT,gF,bY⟩:=v2.fld;right;show(fI bT bY rfl #[fits (),fun p hp=>?_]);have w3:=v2.same (ai.upd (o:=.tup [V.int (S.here:Int),V.str nm]) hp);have b3:upd H p (.tup [V.int (S.here:Int),V.str nm]) p=!.tup [V.int (S.here:Int),V.str nm]:=ay;have p0:=v2.fresh hp;generalize upd H p (.tup [V.int (S.here:Int),V.str nm])=H3 at w3 b3 ⊢;let⟨hX,da,f9,v4⟩:=w3.placed p0 b3;show#[c.x,_,_,rfl,da,f9,?_];generalize upd H3 c.x _=H4 at v4 ⊢;let⟨oX,f6,mX,_,v5⟩:=v4.put "here" (.int (k:Int)) { S with place:=!(S.here,nm),here:=k } .aw _;show#[c.x,_,_,rfl,f6,mX,q _ v5]
def  aaf(N:Cn):Sp:=iJ fun x nm H Q _=>X7 fun c S lf a t S' o=>rB (c.x=x) (bj N c S H lf .aw) (c.L[S.here]?=!a) (c.M.ts[S.here]?=!t) (fS (.str nm)=true) (nm.length<=1000) (S.left.length<=8000) (S.aY.length<=400) (rD c.toWd S t nm S' o) (vO N c S' lf o (Q .aw))
def aab:T.uQ.k P w mg base 9 (aaf T.cn):=by
 show T.uQ.F.ok BS (fun _ _ _ _ h=>dU h fun _ _ _=>rfl) fun ax A _ s H vs Q E hr h=>dU h fun x nm h=>?_;let⟨c,S,lf,a,t,S',o,rfl,v,ha,aS,hn,iw,xn,iD,hb,q⟩:=h;let⟨fs,hx,aO,j6,v1⟩:=v.put "looked_up" (.int ((S.look:Int)+1)) { S with look:=S.look+1 } .aw _;show bF (b:=aU Fz) ((al (js T.aP T.HH jv (ad 0) ap)
 (al (aM 2 BS.nd (Cb<*T.mq (bi T.aP T.gv (ad 0)) (aa (bi T.aP T.gj (ad 0)) (aa (ad 1) ae))))
 (al (aV (aX nF (ad 2) aw) (al (aN (aW T.aP T.iK.h (vc T) hr.m T.iK.b .nil aq (ad 0) (aa am ae)))
 (aj J2)) bv)
 (al (aM 3 BS.nd (rL<*T.gT (bi T.aP T.gv (ad 0)) (aa (ad 2) ae)))
 (aj (aV (aX cF (ad 3) (dl (.str "folder") T.vm #[_,rfl])) (aj (bN T.aP T.gj (ad 0) (yS<$>T.gK (aa (bi T.aP T.gv (ad 0)) (aa (ad 2) ae))))) (aj (aV (ff (ge (aX cF (ad 3) (dl (.str "file") T.Ba #[_,rfl])) (jY (ff (gl (aX (Iy (K:=K) rfl hr.g7) (bi T.aP T.qd (ad 0)) (cr ae)) (kE (dF (cU (bi T.aP T.KO (ad 0)))))))))) (al (bN T.aP T.zM (ad 0) (dL (aa (bi T.aP T.gj (ad 0)) (aa (ad 1) ae))))
 (aj (bN T.aP T.gj (ad 0) (ad 2)))) (aj (aN (aW T.aP T.vt.h (Xn T) hr.m T.vt.b .nil aq (ad 0) (aa (ad 2) ae))))))))))))) ?_
 exists 2;right;show#[c.x,_,_,_,rfl,hx,j6,_,_,rfl,rfl,_,_,hx,aO,ao ?_];generalize upd H c.x (.ins T.bH c.dx (az "looked_up" (.int ((S.look:Int)+1)) fs))=H1 at v1 ⊢;let⟨eY,z6,bg,fT,bX⟩:=v1.fld;let⟨oq,hc,hh,sZ,iZ⟩:=v1.m.h;left;show(fI bg bX rfl (mI hh iZ (fI bg bX rfl #[c.A,c.L,c.M,S.here,a,t,v1.m,rfl,rfl,ha,aS,hn,iw,fun H2 s2=>?_])));have v2:=v1.same s2;let⟨ia,qB,bT,gF,bY⟩:=v2.fld;let⟨hfs2,j5,Qb,hhl2,hsf2⟩:=v2.m.h;by_cases eF:ah (sD t.bb) (.inr nm)=none
 ·have he:S'={ S with look:=S.look+1 }/\o=!.fail "none":=by
   cases hb with
   | no _=>show#[rfl,rfl]
   | folder h1=>rw[eF]at h1;cases h1
   | fin h1=>rw[eF]at h1;cases h1
   | lead h1=>rw[eF]at h1;cases h1
  let⟨rfl,rfl⟩:=he;rw[eF];right;show#[by trivial,bS ?_];right;show(mI bT bY #[c,_,lf,rfl,v2,q])
 let⟨k,ak,tc,hv,du,bW⟩:∃ k a tc,ah (sD t.bb) (.inr nm)=!.int ((k:Nat):Int)/\c.L[k]?=!a/\c.M.ts[k]?=!tc:=by
  cases hb with
  | no h=>show absurd h eF
  | folder h1 h2 h3=>show#[_,_,_,h1,h2,h3]
  | fin h1 h2 h3=>show#[_,_,_,h1,h2,h3]
  | lead h1 h2 h3=>show#[_,_,_,h1,h2,h3]
 rw[hv];right;show#[by trivial,?_];rw[kt (by nofun)];show bf ?_;right;show(fI bT bY rfl (mI Qb hsf2 #[c.A,c.L,c.M,k,ak,tc,v2.m,rfl,rfl,du,bW,?_]));simp only[mH];cases hb with
 | no h=>show absurd h eF
 | folder h1 h2 h3 cm aR =>
  rw[hv]at h1;cases dH h1;rw[bW]at h3;cases h3;simp only[cm,decide_true];left;show(fI bT bY rfl #[c.A,c.L,c.M,k,_,_,ak,_,v2.m,rfl,rfl,du,bW,aR,fun H3 s3=>?_]);let⟨hX,da,f9,_,v3⟩:=(v2.same s3).put "here" _ { S with look:=S.look+1,here:=aZ _ _ } .aw _;show#[c.x,_,_,rfl,da,f9,q.n rfl _ v3]
 | fin h1 h2 h3 cm hf =>
  rw[hv]at h1;cases dH h1;rw[bW]at h3;cases h3;rw[kt cm];show bf ?_;left;rcases hf with hf | ⟨hle,GX⟩
  ·show bI (sw hf) ((wl trivial).mpr (AY v2 (q.n rfl)))
  ·by_cases hf:tc.kd=("file":Str)
   ·show bI (sw hf) ((wl trivial).mpr (AY v2 (q.n rfl)))
   show bh (kt hf) (fI bT bY rfl #[fits (),fun d hd=>?_]);have v3:=v2.same (ai.upd (o:=.lst []) hd);have b3:upd H2 d (.lst []) d=!.lst []:=ay;generalize upd H2 d (.lst [])=H3 at v3 b3 ⊢;let⟨hX,oQ,da,f9,dR⟩:=v3.fld;show#[_,[],aC.of v3.ol,aC.of b3,.inl #[rfl,?_]];show bI (by rw[show({ S with look:=S.look+1 }:Ws).left=[] from hle];rfl) (fI da dR rfl (bI (by rw[GX];rfl) (AY v3 (q.n rfl))))
 | lead h1 h2 h3 cm cD iw hm =>
  rw[hv]at h1;cases dH h1;rw[bW]at h3;cases h3;rw[kt cm];show bf ?_;left;show bh (kt cD) (fI bT bY rfl #[fits (),fun d hd=>?_]);have v3:=v2.same (ai.upd (o:=.lst []) hd);have b3:upd H2 d (.lst []) d=!.lst []:=ay;generalize upd H2 d (.lst [])=H3 at v3 b3 ⊢;let⟨hX,oQ,da,f9,dR⟩:=v3.fld;show#[_,[],aC.of v3.ol,aC.of b3,.inl #[rfl,?_]];by_cases hle:S.left=[]
  ·show bI (by rw[show({ S with look:=S.look+1 }:Ws).left=[] from hle];rfl) (fI da dR rfl ?_);show bh (by cases hb:c.last with | false=>show absurd #[hle,hb] iw | true=>rfl) ?_;show(mI da dR #[c,_,lf,k,S',o,rfl,rfl,v3,xn,iD,hm,q])
  ·show bh (by cases h:S.left with | nil=>show absurd h hle | cons _ _=>rfl) (bf ?_);show(mI da dR #[c,_,lf,k,S',o,rfl,rfl,v3,xn,iD,hm,q])
structure zu(c:Wd)(S:Ws)(t:Th):Prop where
 l:∃ a,c.L[S.here]?=!a
 e:c.M.ts[S.here]?=!t
 k:t.kd=("folder":Str)
 g:dO ("g":Str) (dB t c.z)=true
def  dW(S:Ws):Ws:={ S with step:=S.step+1,asked:=S.asked++[S.here] }
inductive eJ(c:Wd)(S:Ws)(p:Str):Ws->Option Tl->Prop
 | flat {a t}:c.L[S.here]?=!a->c.M.ts[S.here]?=!t->t.kd≠("folder":Str)->eJ c S p { S with step:=S.step+1 } (!.fail "flat")
 | lZ {a t}:c.L[S.here]?=!a->c.M.ts[S.here]?=!t->t.kd=("folder":Str)->dO ("g":Str) (dB t c.z)=false->eJ c S p (dW S) (!.fail "shut")
 | dot {t}:zu c S t->p=(".":Str)->eJ c S p (dW S) none
 | up {t h}:zu c S t->p=("..":Str)->qO c S.here h->eJ c S p { dW S with here:=h } none
 | go {t S' o}:zu c S t->p≠("..":Str)->p≠(".":Str)->fS (.str p)=true->p.length<=1000->rD c (dW S) t p S' o->eJ c S p S' o
def  ab4(N:Cn):Sp:=iJ fun x p H Q _=>X5 fun c S lf S' o=>A7 (c.x=x) (bj N c S H lf .aw) (S.asked.length<=8000) (S.left.length<=8000) (S.aY.length<=400) (eJ c.toWd S p S' o) (vO N c S' lf o (Q .aw))
def ac6:T.wy.k P w mg base 10 (ab4 T.cn):=by
 show T.wy.F.ok YD (fun _ _ _ _ h=>dU h fun _ _ _=>rfl) fun ax A _ s H vs Q E hr h=>dU h fun x p h=>?_;let⟨c,S,lf,S',o,rfl,v,hn,xn,iD,hp,q⟩:=h;let⟨a,t,ha,aS⟩:∃ a t,c.L[S.here]?=!a/\c.M.ts[S.here]?=!t:=by
  cases hp with
  | flat h1 h2=>show#[_,_,h1,h2]
  | lZ h1 h2=>show#[_,_,h1,h2]
  | dot h=>let⟨a,e⟩:=h.l;show#[a,_,e,h.e]
  | up h=>let⟨a,e⟩:=h.l;show#[a,_,e,h.e]
  | go h=>let⟨a,e⟩:=h.l;show#[a,_,e,h.e]
 let⟨fs,hx,aO,j6,v1⟩:=v.put "step" (.int ((S.step:Int)+1)) { S with step:=S.step+1 } .aw _;show bF (b:=aU Dt) ((al (js T.aP T.FX jv (ad 0) ap)
 (al (aV (aX me (rL<*T.gT (bi T.aP T.gv (ad 0)) (aa (bi T.aP T.gj (ad 0)) ae)) (dl (.str "folder") T.vm #[_,rfl])) (al (aN (aW T.aP T.iK.h (vc T) hr.m T.iK.b .nil aq (ad 0) (aa am ae)))
 (aj J2)) bv)
 (al (aN (fX Do Ev jQ (bi T.aP T.Bg (ad 0)) (aa (bi T.aP T.gj (ad 0)) ae)))
 (aj (aV (dF (cU (dA T.aD T.mD.h (CB T) hr.m T.mD.b .nil gy (bi T.aP T.gv (ad 0)) (aa (bi T.aP T.uA (ad 0)) (aa (bi T.aP T.gj (ad 0)) (aa am ae)))))) (aj (aN (aW T.aP T.iK.h (vc T) hr.m T.iK.b .nil aq (ad 0) (aa am ae)))) (aj (aV (aX cF (ad 1) am) (aj (aN (lT T.aP T.vA.h (Vr T) hr.m T.vA.b .nil aq (ad 0)))) (aj (aV (aX me (ad 1) am) (aj (aN (aW T.aP T.uQ.h (aab T) hr.m T.uQ.b .nil aq (ad 0) (aa (ad 1) ae)))) bv)))))))))) ?_
 exists 0;right;show#[c.x,_,_,_,rfl,hx,j6,_,_,rfl,rfl,_,_,hx,aO,ao ?_];generalize upd H c.x (.ins T.bH c.dx (az "step" (.int ((S.step:Int)+1)) fs))=H1 at v1 ⊢;let⟨eY,z6,bg,fT,bX⟩:=v1.fld;let⟨oq,hc,hh,sZ,iZ⟩:=v1.m.h;left;show(fI bg bX rfl (mI hh iZ (fI bg bX rfl #[c.A,c.L,c.M,S.here,a,t,v1.m,rfl,rfl,ha,aS,?_])));dsimp only[mH];by_cases cm:t.kd=("folder":Str)
 ·simp only[cm,decide_true];show bf ?_;right;show(fI bg bX rfl ?_)
  rwa [v1.oa]
  show(fI bg bX rfl ?_);have v2:=v1.X0 S.here;show#[ww (FM _) (vP (by simp;omega)),?_];dsimp only at v2;generalize upd H1 c.av (.lst (nV S.asked++[.int (S.here:Int)]))=H2 at v2 ⊢;let⟨ia,qB,bT,gF,bY⟩:=v2.fld;let⟨oU,gc,gh,oY,gi⟩:=v2.m.h;show(fI bT bY rfl (mI gh gi (fI bT bY rfl (fI bT bY rfl (Fq v2.m (by rw[v2.hz];rfl) (by symm) aS ?_)))));cases hp with
  | flat h1 h2 h3=>rw[aS]at h2;cases h2;show absurd cm h3
  | lZ h1 h2 h3 h4 =>
   rw[aS]at h2;cases h2;rw[h4];show bS (mI bT bY #[c,_,lf,rfl,v2,q])
  | dot hA h5 =>
   have h2:=hA.e;rw[aS]at h2;cases h2;subst h5;rw[hA.g];show bf (bh (kt (by symm)) (bh (by rw[sw rfl];rfl) (q.n rfl _ v2)))
  | up hA h5 hu =>
   have h2:=hA.e;rw[aS]at h2;cases h2;subst h5;rw[hA.g];show bf (bI (sw rfl) (mI bT bY #[c,_,lf,_,rfl,v2,hu,q.n rfl]))
  | go hA h5 h6 h7 h8 hb =>
   have h2:=hA.e;rw[aS]at h2;cases h2;rw[hA.g];show bf (bh (kt h5) (bI (by rw[kt h6];rfl) (mI bT bY #[c,_,lf,a,_,_,_,rfl,v2,ha,aS,h7,h8,xn,iD,hb,q])))
 ·show bI (by rw[kt cm];rfl) ?_;right;have hf:S'={ S with step:=S.step+1 }/\o=!.fail "flat":=by
   cases hp with
   | flat h1 h2 h3=>show#[rfl,rfl]
   | lZ h1 h2 h3 h4=>rw[aS]at h2;cases h2;show absurd h3 cm
   | dot hA=>have h2:=hA.e;rw[aS]at h2;cases h2;show absurd hA.k cm
   | up hA=>have h2:=hA.e;rw[aS]at h2;cases h2;show absurd hA.k cm
   | go hA=>have h2:=hA.e;rw[aS]at h2;cases h2;show absurd hA.k cm
  let⟨rfl,rfl⟩:=hf;show(mI bg bX #[c,_,lf,rfl,v1,q])
def Ej(c:Nat):∀ (ns:List Str) (n:Nat),(∀ s∈ns,s.length<=8)->ns.foldl (fun n z=>n+z.length+c) n<=n+(8+c) * ns.length
 | [],n,_=>by simp
 | y::r,n,h=>by
  have h1:=h y ();have h2:=Ej c r (n+y.length+c) fun s hs=>h s (by simp[hs]);rw[List.foldl_cons,xz,Nat.mul_add];omega
def Jn{ns:List Str}(h:∀ s∈ns,s.length<=8)(hl:ns.length<=100):ns.foldl (fun n z=>n+z.length+(ώ "/").length) 0<=900/\(Str.join (ώ "/") ns).length<=900:=by
 have lj:(ώ "/").length=1:=by symm
 have h1:=Ej 1 ns 0 h;have h2:=StrLaws.join_length_le (ώ "/") ns;have h3:(ns.map (·.length)).sum<=8 * ns.length:=by
  clear h1 h2 hl
  induction ns with
  | nil=>simp
  | cons y r ih =>
   have:=ih fun s hs=>h s (by simp[hs]);have h4:=h y ();rw[FB,List.sum_cons,xz];omega
 rw[lj]at h2 ⊢;omega
def  iR(ns:List Str):Str:=ώ "/" ++ Str.join (ώ "/") ns
def  aa7(N:Cn):Sp:=jN fun x H Q _=>X9 fun c S lf (f:Nat) (a:Ta) (t:Th) (ns:List Str) (bZ:List Str) (told:V)=>A9 (c.x=x) (bj N c S H lf told) (c.L[S.here]?=!a) (c.M.ts[S.here]?=!t) (t.kd=("folder":Str)/\f=S.here/\bZ=[]\/t.kd≠("folder":Str)/\∃ nm:Str,S.place=!(f,nm)/\bZ=[nm]/\nm.length<=8) (∃ m,iP c.M c.L c.root m f ns) (ns.length<=99) (∀ s∈ns,s.length<=8) (∀ H',ai H H'->Q (.str (iR (ns++bZ))) H')
def Y7:T.uG.k P w mg base 7 (aa7 T.cn):=by
 show T.uG.F.ok vj (fun _ _ _ _ h=>fm h fun _ _=>rfl) fun ax A _ s H vs Q E hr h=>fm h fun x h=>?_;let⟨c,S,lf,f,a,t,ns,bZ,told,rfl,v,ha,aS,hk,iy,hl100,GU,q⟩:=h;show bF (b:=aU DF) ((al (aM 1 vj.nd (cr ae))
 (al (aM 2 vj.nd (bi T.aP T.gj (ad 0)))
 (al (aV (aX me (rL<*T.gT (bi T.aP T.gv (ad 0)) (aa (bi T.aP T.gj (ad 0)) ae)) (dl (.str "folder") T.vm #[_,rfl])) (al (aM 2 vj.nd (ce (bG (K:=K) rfl) (bi T.aP T.zM (ad 0)) ap))
 (aj (aM 1 vj.nd (cr (aa (ce (bG (K:=K) rfl) (bi T.aP T.zM (ad 0)) ap) ae))))) bv)
 (aj (aL (db ej am (qb _7 _8 (En (K:=K) rfl) am (aa (db ej (Tu<$>T.sJ (aa (bi T.aP T.gv (ad 0)) (aa (bi T.aP T.uA (ad 0)) (aa (ad 2) ae)))) (ad 1)) ae))))))))) ?_
 exists 2;right;show#[fits (),fun ln Am=>?_];show dh Am fun H1 s1 b1=>?_;have v1:=v.same s1;let⟨fs,pv,hx,aO,qt,sf⟩:=v1.o;let⟨oq,hc,hh,sZ,iZ⟩:=v1.m.h;right;show(fI hx sf rfl ?_);show gx (fun σ' H'=>∃ ln',σ'=[!V.ref c.x,!V.ref ln',!V.int (f:Int)]/\ai H H'/\H' ln'=!.lst (bZ.map V.str)/\bZ.length<=1/\∀ s∈bZ,s.length<=8) ?_ ?_
 ·left;show(fI hx sf rfl (mI hh iZ (fI hx sf rfl #[c.A,c.L,c.M,S.here,a,t,v1.m,rfl,rfl,ha,aS,?_])));dsimp only[mH];rcases hk with ⟨cm,rfl,rfl⟩ | ⟨cm,nm,bt,rfl,cj⟩
  ·show bh (by rw[sw cm];rfl) ?_;show#[ln,rfl,s1,b1,(),fun s hs=>(by cases hs)]
  ·show bI (by rw[kt cm];rfl) ?_;rw[bt]at qt;let⟨p,rfl,p0,hp⟩:=qt;right;show(fI hx sf rfl ?_)
   rwa [hp,eO]
   show(fI hx sf rfl ?_)
   rwa [hp,uO]
   show#[fits (),fun p2 cL=>#[p2,rfl,s1.trans (ai.upd cL),by rw[ay];rfl,(),fun s hs=>by rw[Ch.mp hs];show cj]]
 rintro σ' H2 ⟨l2,rfl,s2,b2,ik,h8⟩;have v2:=v.same s2;let⟨ia,qB,bT,gF,bY⟩:=v2.fld;left;show(fI bT bY rfl (fI bT bY rfl #[c.A,c.L,c.M,f,c.root,ns,v2.m,rfl,rfl,v2.hz,iy,∅,fun l H3 s3 hl=>?_]));have c3:=s3 _ _ b2
 rwa [hl,c3]
 have hn8':∀ s∈ns++bZ,s.length<=8:=fun s hs=>by
  rcases No.mp hs with hs | hs
  ·show GU s hs
  ·show h8 s hs
 let⟨qz,qk⟩:=Jn hn8' (by rw[mo];omega);have lj:(ώ "/").length=1:=by symm
 show#[fits (by simp only[lv];omega),fun p hp=>?_];show#[_,aC.of ay,ns++bZ,(),?_];show#[fits ∅,fits ∅,q _ ((s2.trans s3).trans (ai.upd hp))]
structure Bd(S:Ws):Prop where
 a:S.asked.length<=S.step
 p:S.step+S.left.length+125 * (40 - S.read)<=8000
 r:S.aY.length<=S.read
 q:S.read<=40
def yj(ps:List Str):(cJ ps).length=ps.length:=by unfold cJ;simp
def wC.bd{c:Wd}{S S':Ws}{k:Nat}(h:wC c S k S')(a:S.asked.length<=S.step)(p:S.step+S.left.length+125 * (40 - S.read)<=8000)(r:S.aY.length<=S.read)(q:S.read < 40):Bd S':=by
 cases h with
 | @mk _ _ t _ _ _ _ h1 h2 h3 h4 h5 h6 h7 _ _ _ =>
  have e:=yj (dj t);show#[a,?_,by unfold iq;simp;omega,by unfold iq;simp;omega];unfold iq;simp only[mo,xz,_M,e];omega
def eJ.OJ{c:Wd}{S S1:Ws}{p:Str}{o:Option Tl}(ba:S.asked.length<=S.step)(bp:S.step+1+S.left.length+125 * (40 - S.read)<=8000)(br:S.aY.length<=S.read)(bq:S.read<=40)(h:eJ c S p S1 o):Bd S1:=by
 cases h with
 | flat=>show#[by dsimp only;omega,by dsimp only;omega,br,bq]
 | lZ=>show#[by unfold dW;simp;omega,by unfold dW;dsimp only;omega,br,bq]
 | dot=>show#[by unfold dW;simp;omega,by unfold dW;dsimp only;omega,br,bq]
 | up=>show#[by unfold dW;simp;omega,by unfold dW;dsimp only;omega,br,bq]
 | go _ _ _ _ _ hb =>
  have a2:(dW S).asked.length<=(dW S).step:=by unfold dW;simp;omega
  have p2:(dW S).step+(dW S).left.length+125 * (40 - (dW S).read)<=8000:=by unfold dW;dsimp only;omega
  cases hb with
  | no=>show#[a2,p2,br,bq]
  | folder=>show#[a2,p2,br,bq]
  | fin=>show#[a2,p2,br,bq]
  | lead _ _ _ _ _ _ hm =>
   cases hm with
   | ring=>show#[a2,p2,br,bq]
   | many=>show#[a2,p2,br,bq]
   | read _ qE hr=>show hr.bd a2 p2 br (Nat.lt_of_le_of_ne bq qE)
def eJ.bd{c:Wd}{S S1:Ws}{l:List (Sum Nat Str)}{p:Str}{o:Option Tl}(b:Bd S)(e:S.left=l++[.inr p])(h:eJ c { S with left:=l } p S1 o):Bd S1:=by
 have bp:=b.p;rw[e,mo]at bp;have e1:[Sum.inr (α:=Nat) p].length=1:=rfl;show eJ.OJ (S:={ S with left:=l }) b.a (by dsimp only;omega) b.r b.q h
inductive fi(c:Wd):Nat->Ws->Ws->Option Tl->Prop
 | done {S}:S.left=[]->fi c 0 S S none
 | pop {n S k l r j S' o}:S.left=l++[.inl k]->S.aY=r++[j]->fi c n { S with left:=l,aY:=r } S' o->fi c (n+1) S S' o
 | step {n S p l S1 S' o}:S.left=l++[.inr p]->eJ c { S with left:=l } p S1 none->fi c n S1 S' o->fi c (n+1) S S' o
 | fail {S p l S1 y}:S.left=l++[.inr p]->eJ c { S with left:=l } p S1 (!y)->fi c 0 S S1 (!y)
abbrev DD(k:Nat)(ns:List Str):List (Str×V):=az "way" (.str (iR ns)) (az "number" (.int (k:Int)) [])
def  vx(M:Hs)(L:List Ta)(root:Nat)(S:Ws)(ns bZ:List Str):Prop:=∃ (f:Nat) (a:Ta) (t:Th),L[S.here]?=!a/\M.ts[S.here]?=!t /\
   (t.kd=("folder":Str)/\f=S.here/\bZ=[]\/t.kd≠("folder":Str)/\∃ nm:Str,S.place=!(f,nm)/\bZ=[nm]/\nm.length<=8)/\(∃ m,iP M L root m f ns)/\ns.length<=99/\(∀ s∈ns,s.length<=8)
def  RN(N:Cn):Sp:=jN fun x H Q _=>X6 fun c S lf n S' o=>A4 (c.x=x) (bj N c S H lf .aw/\Bd S/\fi c.toWd n S S' o\/∃ y fd,o=!y/\bj N c S' H lf (-fd)/\pZ N c.H0 H S'.step fd y) (∀ y,o=!y->∀ fd H',bj N c S' H' lf (-fd)->pZ N c.H0 H' S'.step fd y->Q .aw H') (o=none->∃ ns bZ,vx c.M c.L c.root S' ns bZ/\∀ fd bL H',bj N c S' H' lf (-fd)->c.H0 fd=none->H' fd=!.ins N.CG bL (DD S'.here (ns++bZ))->Q .aw H')
def Bd.u{S:Ws}{l:List (Sum Nat Str)}{x:Sum Nat Str}(b:Bd S)(h:S.left=l++[x]):S.asked.length<=8000/\l.length<=8000/\S.aY.length<=400:=by
 have ba:=b.a;have bp:=b.p;have br:=b.r;have bq:=b.q;rw[h,mo]at bp;omega
def Bd.pop{S:Ws}{l:List (Sum Nat Str)}{x:Sum Nat Str}{r:List Nat}{j:Nat}(b:Bd S)(h:S.left=l++[x])(hr:S.aY=r++[j]):Bd { S with left:=l,aY:=r }:=by
 have ba:=b.a;have bp:=b.p;have br:=b.r;have bq:=b.q;rw[h,mo]at bp;rw[hr,mo]at br;show#[ba,by dsimp only;omega,by dsimp only;omega,bq]
def ZN:T.wa.k P w mg base 11 (RN T.cn):=by
 show T.wa.F.ok N9 (fun _ _ _ _ h=>fm h fun _ _=>rfl) fun ax A _ s H vs Q E hr h=>fm h fun x h=>?_;let⟨c,S,lf,n,S',o,rfl,Pn,q1,q2⟩:=h;let⟨PV,ja⟩:∃ PV:Nat->St->Hp->Prop,PV=fun m σ' H'=>∃ pv:Option V,σ'=[!V.ref c.x,pv] /\
   ((∃ n S,m=n+1/\bj T.cn c S H' lf .aw/\Bd S/\fi c.toWd n S S' o) \/
     (∃ y fd,m=0/\o=!y/\bj T.cn c S' H' lf (-fd)/\pZ T.cn c.H0 H' S'.step fd y)):=#[_,rfl]
 show bF (b:=aU Bt) ((al (j3 Db (ff (gl (aX nF (bi T.aP T.nN (ad 0)) aw) (kE (aX (Ln (K:=K) rfl hr.g7) (bi T.aP T.qd (ad 0)) (cr ae))))) (al (aM 1 N9.nd (HX _9 Ja0 JD (bi T.aP T.qd (ad 0))))
 (aj (aV (cU (LJ<$>T.mK (aa (ad 1) ae))) (aj (aN (HX _9 Ja0 JD (bi T.aP T.rj (ad 0))))) (aj (aN (aW T.aP T.wy.h (ac6 T) hr.m T.wy.b .nil aq (ad 0) (aa (ad 1) ae))))))))
 (aj (aV (aX nF (bi T.aP T.nN (ad 0)) aw) (aj (bN T.aP T.nN (ad 0) (io T.adu (Z8 T) hr.m T.BC T.vU.b .nil aq (aa (bi T.aP T.gj (ad 0)) (aa (lT T.aP T.uG.h (Y7 T) hr.m T.uG.b .nil aq (ad 0)) ae))))) bv)))) ?_
 exists 1;show ao ?_;show#[PV,(by
  rw[ja];rcases Pn with ⟨v,j4,ic⟩ | ⟨y,fd,ho,v,ht⟩
  ·show#[n+1,none,rfl,.inl #[n,S,rfl,v,j4,ic]]
  ·show#[0,none,rfl,.inr #[y,fd,rfl,ho,v,ht]]),?_]
 clear Pn;intro m σ' H' hI;rw[ja]at hI;obtain⟨pv,rfl,⟨n,S,hm,v1,j4,ic⟩ | ⟨y,fd,hm,ho,v1,bx⟩⟩:=hI
 ·left;let⟨eY,z6,bg,fT,bX⟩:=v1.fld;show(fI bg bX rfl #[by trivial,bS ?_]);show(fI bg bX rfl #[fits (),fun d hd=>?_]);have v2:=v1.same (ai.upd (o:=.lst []) hd);have b2:upd H' d (.lst []) d=!.lst []:=ay;generalize upd H' d (.lst [])=H2 at v2 b2 ⊢;let⟨ia,qB,bT,gF,bY⟩:=v2.fld;show#[_,[],aC.of v2.ol,aC.of b2,.inl #[rfl,?_]];cases ic with
  | done hle =>
   show bh (by rw[hle];rfl) ?_;show(fI bT bY rfl #[by trivial,bS ?_]);let⟨ns,bZ,⟨f,a,t,h1,h2,h3,h4,h5,h6⟩,q⟩:=q2 rfl;show(fI bT bY rfl (mI bT bY #[c,_,lf,f,a,t,ns,bZ,_,rfl,v2,h1,h2,h3,h4,h5,h6,fun H3 s3=>?_]));intro fd bL bx hdfd nfd;have s4:=(ai.upd (o:=.own fd) hdfd).trans (ai.upd (p:=fd) (o:=.ins T.eE bL []) (by rw[ag (ss nfd)];show bx));have b4:upd (upd H3 bL (.own fd)) fd (.ins T.eE bL []) fd=!.ins T.eE bL []:=ay;generalize upd (upd H3 bL (.own fd)) fd (.ins T.eE bL [])=H4 at s4 b4 ⊢;show#[bL,b4,rfl,?_];let⟨tD,gg,iB,v6,f0,nx⟩:=(v2.same s3).tells (t:=.ring []) (F:=DD S'.here (ns++bZ)) bx s4 b4;show#[c.x,_,_,rfl,gg,iB,q fd bL _ v6 f0 (by rw[ag (ss nx)];show ay)]
  | @pop n _ k l r j _ _ hle iO ic =>
   show bI (by rw[hle];cases l <;> rfl) #[_,fun _ _ h=>h,?_];right;show(fI bT bY rfl ?_)
   rwa [v2.ol]
   show#[l.map eD,V.int (k:Int),by rw[hle,Da];rfl,?_];have v3:=v2.ui l;generalize upd H2 lf (.lst (l.map eD))=H3 at v3 ⊢;let⟨hX,oQ,da,f9,dR⟩:=v3.fld;show#[#[_,rfl],bS ?_];show(fI da dR rfl ?_)
   rwa [v3.od]
   show#[nV r,V.int (j:Int),by rw[iO,iQ];rfl,n+1,∅,?_];have v4:=v3.NG r;dsimp only at v4;rw[ja];show#[_,rfl,.inl #[n,_,rfl,v4,j4.pop hle iO,ic]]
  | @step n _ p l S1 _ _ hle aR ic =>
   show bI (by rw[hle];cases l <;> rfl) #[_,fun _ _ h=>h,?_];right;show(fI bT bY rfl ?_)
   rwa [v2.ol]
   show#[l.map eD,V.str p,by rw[hle,Da];rfl,?_];have v3:=v2.ui l;generalize upd H2 lf (.lst (l.map eD))=H3 at v3 ⊢;let⟨hX,oQ,da,f9,dR⟩:=v3.fld;show#[#[_,rfl],bf ?_];let⟨u1,u2,u3⟩:=j4.u hle;show(mI da dR #[c,_,lf,_,_,rfl,v3,u1,u2,u3,aR,fun _ H4 v4=>#[n+1,∅,?_],fun y hy=>by cases hy]);rw[ja];show#[_,rfl,.inl #[n,S1,rfl,v4,aR.bd j4 hle,ic]]
  | @fail _ p l _ y hle aR =>
   show bI (by rw[hle];cases l <;> rfl) #[_,fun _ _ h=>h,?_];right;show(fI bT bY rfl ?_)
   rwa [v2.ol]
   show#[l.map eD,V.str p,by rw[hle,Da];rfl,?_];have v3:=v2.ui l;generalize upd H2 lf (.lst (l.map eD))=H3 at v3 ⊢;let⟨hX,oQ,da,f9,dR⟩:=v3.fld;show#[#[_,rfl],bf ?_];let⟨u1,u2,u3⟩:=j4.u hle;show(mI da dR #[c,_,lf,_,_,rfl,v3,u1,u2,u3,aR,(fun z=>by cases z),fun y' hy fd H4 v4 hf=>#[0,∅,?_]]);cases hy;rw[ja];show#[_,rfl,.inr #[y,fd,rfl,rfl,v4,hf]]
 ·left;let⟨eY,z6,bg,fT,bX⟩:=v1.fld;show(fI bg bX rfl #[by trivial,?_]);show bh (kt (by nofun)) ?_
  first
   | show(fI bg bX rfl #[by trivial,bh (kt (by nofun)) (q1 y ho fd _ v1 bx)])
   | show bf (fI bg bX rfl #[by trivial,bh (kt (by nofun)) (q1 y ho fd _ v1 bx)])
   | (left;show(fI bg bX rfl #[by trivial,bh (kt (by nofun)) (q1 y ho fd _ v1 bx)]))
inductive Res
 | found (k:Nat)(ns:List Str)
 | failed (k:Nat)(y:Str)
 | ring (ns:List Nat)
structure End where
 asked:List Nat
 res:Res
def  lP(N:Cn)(H:Hp)(fd:ϋ):Res->Prop
 | .found k ns=>∃ bL,H fd=!.ins N.CG bL (DD k ns)
 | .failed k y=>∃ bL,H fd=!.ins N.CF bL (D8 k y)
 | .ring ns=>∃ bL rl,H fd=!.ins N.CR bL (az "leads" (-rl) [])/\H rl=!.lst (nV ns)
def lP.same{N:Cn}{H H':Hp}{fd:ϋ}(s:ai H H'):∀ {r:Res},lP N H fd r->lP N H' fd r
 | .found _ _,⟨d,e⟩=>#[d,s _ _ e]
 | .failed _ _,⟨d,e⟩=>#[d,s _ _ e]
 | .ring _,⟨d,l,e,f⟩=>#[d,l,s _ _ e,s _ _ f]
def  ud(step:Nat):Tl->Res
 | .fail y=>.failed step y
 | .ring ns=>.ring ns
def pZ.r{N:Cn}{H0 H:Hp}{k:Nat}{fd:ϋ}:∀ {t:Tl},pZ N H0 H k fd t->lP N H fd (ud k t)
 | .fail _,⟨_,d,e⟩=>#[d,e]
 | .ring _,⟨_,d,l,e,f⟩=>#[d,l,e,f]
structure zo(d:Wd)(fr:Bool)(h:Nat):Prop where
 z:ah (sD d.M.ro) (.inr d.z)=!.int (d.root:Int)
 ex:∃ (st b:Nat) (r:List Nat) (a:Ta) (t:Th),(fr=true/\st=d.root\/fr=false/\ah (sD d.M.st) (.inr d.z)=!.int (st:Int))/\d.L[st]?=!a/\d.M.ts[st]?=!t/\cf d.M st b r/\(∃ m,eg d.M d.L d.root m (aZ b r) true)/\h=aZ b r
structure L7(d:Wd)(fr:Bool):Prop where
 z:ah (sD d.M.ro) (.inr d.z)=!.int (d.root:Int)
 ex:∃ (st b:Nat) (r:List Nat) (a:Ta) (t:Th),(fr=true/\st=d.root\/fr=false/\ah (sD d.M.st) (.inr d.z)=!.int (st:Int))/\d.L[st]?=!a/\d.M.ts[st]?=!t/\cf d.M st b r/\(∃ m,eg d.M d.L d.root m (aZ b r) false)
inductive mG(d:Wd)(fr:Bool)(ps:List Str):End->Prop
 | out:L7 d fr->mG d fr ps #[[],.failed 0 "outside"]
 | told {h n S' t}:zo d fr h->ps.length<=2500->fi d n #[h,none,0,[],cJ ps,[],0,0] S' (!t)->mG d fr ps #[S'.asked,ud S'.step t]
 | found {h n S' ns bZ}:zo d fr h->ps.length<=2500->fi d n #[h,none,0,[],cJ ps,[],0,0] S' none->vx d.M d.L d.root S' ns bZ->mG d fr ps #[S'.asked,.found S'.here (ns++bZ)]
def  wt(N:Cn)(H H':Hp)(e:End)(x:ϋ):Prop:=ai H H'/\∃ dx gs fd av,H' x=!.ins N.CW dx gs/\gs.lookup ("told":Str)=!-fd/\lP N H' fd e.res/\gs.lookup ("asked":Str)=!-av/\H' av=!.lst (nV e.asked)
def wt.of{N:Cn}{H H1 H2:Hp}{e:End}{x:ϋ}(s:ai H H1)(h:wt N H1 H2 e x):wt N H H2 e x:=#[s.trans h.1,h.2]
def  Vz(N:Cn):Sp:=OL fun h z fr lp last H Q _=>X6 fun A L M root ps e=>A5 (aF N.CH N.CS N.CT H A L M) (A.a=h) (H lp=!.lst (ps.map V.str)) (mG #[L,M,z,last,root] fr ps e) (∀ x H',wt N H H' e x->Q (-x) H')
def Jr:T.mv.k P w base 12 (Vz T.cn):=by
 show T.mv.F.ok LC (fun _ _ _ _ h=>Lg h fun _ _ _ _ _ _=>rfl) fun ax A _ s H vs Q E hr h=>Lg h fun hh z fr lp last h=>?_;let⟨AA,L,M,root,ps,e,i,rfl,dq,g,q⟩:=h;show bF (b:=aU D0) ((al (aM 5 LC.nd (io T.ab8 (YE T) hr.m T.adf T.vN.b .nil aq (aa (ad 0) (aa (ad 1) (aa (ad 4) ae)))))
 (al (aN (aW T.aP T.wg.h (Zb T) hr.m T.wg.b .nil aq (ad 5) (aa (ad 2) (aa (ad 3) ae))))
 (al (aN (lT T.aP T.wa.h (ZN T) hr.m T.wa.b .nil aq (ad 5)))
 (aj (aL (ad 5))))))) ?_
 exists 1;right;intro x dx hx m6 ndx;have s1:=(ai.upd (o:=.own x) m6).trans (ai.upd (p:=x) (o:=.ins T.bH dx []) (by rw[ag (ss ndx)];show hx));have b1:upd (upd H dx (.own x)) x (.ins T.bH dx []) x=!.ins T.bH dx []:=ay;generalize upd (upd H dx (.own x)) x (.ins T.bH dx [])=H1 at s1 b1 ⊢;have bz:ah (sD M.ro) (.inr z)=!.int (root:Int):=by
  cases g with
  | out b=>show b.z
  | told b=>show b.z
  | found b=>show b.z
 show#[AA,L,M,dx,H,root,i,rfl,b1,s1,hx,bz,fun av lf rd H2 v2=>?_];show#[rfl,ao ?_];left;let⟨ia,qB,bT,gF,bY⟩:=v2.fld;have fin:∀ {S':Ws}{lf' fd:ϋ}{y:Tl}{H4:Hp},e=#[S'.asked,ud S'.step y]->bj T.cn #[#[L,M,z,last,root],H,AA,x,dx,av,rd] S' H4 lf' (-fd)->pZ T.cn H H4 S'.step fd y->Q (-x) H4:=fun {S' lf' fd y H4} he v4 bx=>by
  let⟨oX,PY,f6,mX,jb⟩:=v4.fld;show q x H4 #[v4.s,dx,oX,fd,av,f6,(jb _).trans rfl,by rw[he];show bx.r,(jb _).trans rfl,by rw[he];show v4.oa]
 by_cases hg:∃ b:L7 #[L,M,z,last,root] fr,e=#[[],.failed 0 "outside"]
 ·let⟨hb,he⟩:=hg;let⟨st,b,r,a,t,aR,ha,ht,jI,f7⟩:=hb.ex;show(mI bT bY #[_,_,lf,st,b,ps,r,a,t,false,rfl,v2,v2.s _ _ dq,aR,ha,ht,jI,f7,(fun z=>by cases z),fun _=>#[nofun,fun y hy fd H3 v3 bx=>ao ?_]]);cases hy;left;let⟨hX,oQ,da,f9,dR⟩:=v3.fld;show(mI da dR #[_,#[aZ b r,none,0,[],[],[],0,0],lf,0,_,_,rfl,.inr #[_,fd,rfl,v3,bx],fun y hy fd H4 v4 bx=>fin (by cases hy;rw[he];rfl) v4 bx,nofun])
 let⟨ox,hb,dZ,n,S',o,ic,f1,f2⟩:∃ h,zo ⟨L,M,z,last,root⟩ fr h/\ps.length<=2500/\∃ n S' o,fi ⟨L,M,z,last,root⟩ n ⟨h,none,0,[],cJ ps,[],0,0⟩ S' o/\(∀ y,o=!y->e=⟨S'.asked,ud S'.step y⟩)/\(o=none->∃ ns bZ,vx M L root S' ns bZ/\e=⟨S'.asked,.found S'.here (ns++bZ)⟩):=by
  cases g with
  | out b=>show absurd #[b,rfl] hg
  | told b hp hr=>show#[_,b,hp,_,_,_,hr,fun y hy=>(by cases hy;rfl),fun z=>(by cases z)]
  | found b hp hr ht=>show#[_,b,hp,_,_,_,hr,fun y hy=>(by cases hy),fun _=>#[_,_,ht,rfl]]
 let⟨st,b,r,a,t,aR,ha,ht,jI,f7,rfl⟩:=hb.ex;show(mI bT bY #[_,_,lf,st,b,ps,r,a,t,true,rfl,v2,v2.s _ _ dq,aR,ha,ht,jI,f7,fun _ lf' H3 v3=>ao ?_,fun z=>by cases z]);left;let⟨hX,oQ,da,f9,dR⟩:=v3.fld;show(mI da dR #[_,_,lf',n,S',o,rfl,.inl #[v3,#[wT _,by have:=yj ps;dsimp only;omega,wT _,wT _],ic],fun y hy fd H4 v4 bx=>fin (f1 y hy) v4 bx,fun ho=>?_]);let⟨ns,bZ,ht,he⟩:=f2 ho;show#[ns,bZ,ht,fun fd bL H4 v4 f0 bx=>?_];let⟨oX,PY,f6,mX,jb⟩:=v4.fld;show q x H4 #[v4.s,dx,oX,fd,av,f6,(jb _).trans rfl,by rw[he];show#[bL,bx],(jb _).trans rfl,by rw[he];show v4.oa]
structure eM(d:Wd)(t:List Nat)(e:End):Prop where
 l1:1<=t.length
 l2:t.length<=2000
 all:(Tx.words 47 t).all cP=true
 g:mG d (cO t) (dj t) e
def eM.hz{d:Wd}{t:List Nat}{e:End}(p:eM d t e):(ah (sD d.M.ro) (.inr d.z)).isSome=true:=by
 cases p.g with
 | out b=>rw[b.z];rfl
 | told b=>rw[b.z];rfl
 | found b=>rw[b.z];rfl
def  ack(N:Cn):Sp:=rR fun h z pt last H Q _=>X6 fun A L M root t e=>A5 (pt=Tx.S t) (aF N.CH N.CS N.CT H A L M) (A.a=h) (eM #[L,M,z,last,root] t e) (∀ x H',wt N H H' e x->Q (-x) H')
def Oz:T.mM.k P w base 13 (ack T.cn):=by
 show T.mM.F.ok Nj (fun _ _ _ _ h=>kh h fun _ _ _ _ _=>rfl) fun ax A _ s H vs Q E hr h=>kh h fun hh z pt last h=>?_;let⟨AA,L,M,root,t,e,rfl,i,rfl,pg,q⟩:=h;let⟨oq,hc,hh,sZ,iZ⟩:=i.h;show bF (b:=aU D1) ((al (aN (dA T.aD T.dP.h (jW T) hr.m T.dP.b .nil gy (ad 0) (aa (ad 1) ae)))
 (al (aM 4 Nj.nd (kX<$>T.cH (aa (ad 2) ae)))
 (aj (aL (Jr<$>T.mv (aa (ad 0) (aa (ad 1) (aa (ce (bG (K:=K) rfl) (ad 4) ap) (aa (ce (bG (K:=K) rfl) (ad 4) ap) (aa (ad 3) ae))))))))))) ?_
 exists 1;right;show(mI hh iZ (kZ i pg.hz (ao ?_)));left;show#[t,rfl,pg.l1,pg.l2,pg.all,fun H1 l p s1 _ hl hp=>?_]
 rwa [hp]
 left;rw[show cS [V.bl (cO t),V.ref l] 0=some (V.bl (cO t)) from rfl,show cS [V.bl (cO t),V.ref l] 1=some (V.ref l) from rfl];rw[yp]at hl;show#[AA,L,M,root,_,e,i.same s1,rfl,hl,pg.g,fun x H2 f=>q x H2 (f.of s1)]
def  aa0(N:Cn):Sp:=rR fun h z pt last H Q _=>X6 fun A L M root t e=>A5 (pt=Tx.S t) (aF N.CH N.CS N.CT H A L M) (A.a=h) (eM #[L,M,z,last,root] t e) (∀ fd H',ai H H'->lP N H' fd e.res->Q (-fd) H')
def wc:aA P w K mg base aJ 14 T.GQ T.AF ["house","asker","path","last"] (aa0 T.cn):=by
 show T.mO.ok aaU (fun vs H Q E h=>?_) (fun ax A _ s H vs Q E hr h=>?_)
 ·show kh h fun _ _ _ _ _=>rfl
 ·show kh h fun hh z pt last h=>?_;let⟨AA,L,M,root,t,e,rfl,i,rfl,pg,q⟩:=h;show bF (b:=aU uP) ((aj (aL (bi T.aP T.nN (Oz<$>T.mM (aa (ad 0) (aa (ad 1) (aa (ad 2) (aa (ad 3) ae))))))))) ?_;exists 0;left;show#[AA,L,M,root,t,e,rfl,i,rfl,pg,fun x H1 #[s1,dx,gs,fd,av,hx,zX,bx,uo,gD]=>?_];show#[x,_,_,_,rfl,hx,zX,q fd H1 s1 bx]
def  acj(N:Cn):Sp:=rR fun h z pt last H Q _=>X6 fun A L M root t e=>A5 (pt=Tx.S t) (aF N.CH N.CS N.CT H A L M) (A.a=h) (eM #[L,M,z,last,root] t e) (∀ av H',ai H H'->H' av=!.lst (nV e.asked)->Q (-av) H')
def Le:aA P w K mg base aJ 14 T.F2 T.zW ["house","asker","path","last"] (acj T.cn):=by
 show T.vH.ok adD (fun vs H Q E h=>?_) (fun ax A _ s H vs Q E hr h=>?_)
 ·show kh h fun _ _ _ _ _=>rfl
 ·show kh h fun hh z pt last h=>?_;let⟨AA,L,M,root,t,e,rfl,i,rfl,pg,q⟩:=h;show bF (b:=aU uh) ((aj (aL (bi T.aP T.Bg (Oz<$>T.mM (aa (ad 0) (aa (ad 1) (aa (ad 2) (aa (ad 3) ae))))))))) ?_;exists 0;left;show#[AA,L,M,root,t,e,rfl,i,rfl,pg,fun x H1 #[s1,dx,gs,fd,av,hx,zX,bx,uo,gD]=>?_];show#[x,_,_,_,rfl,hx,uo,q av H1 s1 gD]
inductive Rf
 | dz (y:Str)
 | way (r:Res)
def  cM(N:Cn)(H:Hp)(E:XK):Rf->Prop
 | .dz y=>∀ d H',ai H H'->H' d=!.xd [("reason",.str y)]->E (-N.CD) (!d) H'
 | .way r=>∀ fd d H',ai H H'->lP N H' fd r->H' d=!.xd [("told",-fd)]->E (-N.CN) (!d) H'
def cM.of{N:Cn}{H H1:Hp}{E:XK}{r:Rf}(s:ai H H1)(h:cM N H E r):cM N H1 E r:=by
 cases r with
 | dz y=>show fun d H' s' e=>h d H' (s.trans s') e
 | way k=>show fun fd d H' s' e1 e2=>h fd d H' (s.trans s') e1 e2
def cM.raise{N:Cn}{H H1:Hp}{E:XK}{y:Str}{d:ϋ}(h:cM N H E (.dz y))(s:ai H H1)(hd:H1 d=none):E (-N.CD) (!d) (upd H1 d (.xd [("reason",.str y)])):=h d _ (s.trans (ai.upd hd)) ay
def lO:T.iU.k P w mg base 1 (ni T.oJ "reason"):=by
 show T.iU.F.ok ZD (fun vs H Q E h=>?_) (fun ax A _ s H vs Q E hr h=>?_)
 ·unfold ni at h;split at h
  ·rfl
  ·show h.elim
 ·unfold ni at h;split at h
  ·rename_i ea y;let⟨he,q⟩:=h;show#[_,((aj (MG T.kG (ad 0) (ad 1)))).h,?_];exists 0;walk_at "rd";show#[ea,rfl,he,q]
  ·show h.elim
def aav:T.uC.k P w mg base 1 (ni T.oP "told"):=by
 show T.uC.F.ok abG (fun vs H Q E h=>?_) (fun ax A _ s H vs Q E hr h=>?_)
 ·unfold ni at h;split at h
  ·rfl
  ·show h.elim
 ·unfold ni at h;split at h
  ·rename_i ea y;let⟨he,q⟩:=h;show#[_,((aj (MG T.HK (ad 0) (ad 1)))).h,?_];exists 0;walk_at "rd";show#[ea,rfl,he,q]
  ·show h.elim
def  Wy(N:Cn):Sp:=jN fun fd H Q E=>X1 fun r=>A3 (lP N H fd r) (∀ k ns,r=.found k ns->Q (.int (k:Int)) H) ((∀ k ns,r≠.found k ns)->cM N H E (.way r))
def N8:aA P w K mg base (cB P w) 3 T.mJ.f T.mJ.d ["told"] (Wy T.cn):=by
 show T.mJ.F.dG Rg (fun _ _ _ _ h=>fm h fun _ _=>rfl) fun ax A _ s H vs Q E hr h=>fm h fun fd h=>?_;let⟨r,bx,q1,q2⟩:=h;show bF (b:=aU Bq) ((al (aV (dF (cU (cT (ue (K:=K) rfl) T.gO gS (aa (ad 0) (aa (dl (-T.eE) T.BC rfl) ae))))) (aj (kO lq rfl rfl T.T2 T.HK T.Q3 (aav T) hr.m T.uC.b (aa (ad 0) ae))) bv)
 (aj (aL (bi T.kf T.Bj (ad 0)))))) ?_
 exists 0;right;cases r with
 | found k ns =>
  let⟨bL,hf⟩:=bx;show#[_,_,_,.of (.ins hf T.kf T.q1 T.q2 T.q3 T.q4),.cls T.q5,bf #[fd,bL,_,_,rfl,hf,rfl,q1 k ns rfl]]
 | failed k y =>
  let⟨bL,hf⟩:=id bx;show#[_,_,_,.of (.ins hf T.mC T.q6 T.q2 T.q3 T.q7),.cls T.q8,bS #[_,rfl,fun d hd=>q2 (by nofun) fd d _ (ai.upd hd) (bx.same (ai.upd hd)) ay]]
 | ring ns =>
  let⟨bL,rl,hf,hl⟩:=id bx;show#[_,_,_,.of (.ins hf T.og T.v9 T.q2 T.q3 T.vi),.cls T.KP,bS #[_,rfl,fun d hd=>q2 (by nofun) fd d _ (ai.upd hd) (bx.same (ai.upd hd)) ay]]
def  Wn(N:Cn):Sp:=jg fun h z pt H Q E=>X6 fun A L M root t e=>A6 (pt=Tx.S t) (aF N.CH N.CS N.CT H A L M) (A.a=h) (eM #[L,M,z,true,root] t e) (∀ k ns,e.res=.found k ns->∀ H',ai H H'->Q (.int (k:Int)) H') ((∀ k ns,e.res≠.found k ns)->cM N H E (.way e.res))
def Nz:aA P w K mg base (cB P w) 15 T.mL.f T.mL.d ["house","asker","path"] (Wn T.cn):=by
 show T.mL.F.dG Sj (fun _ _ _ _ h=>eG h fun _ _ _ _=>rfl) fun ax A _ s H vs Q E hr h=>eG h fun hh z pt h=>?_;let⟨AA,L,M,root,t,e,rfl,i,rfl,pg,q1,q2⟩:=h;show bF (b:=aU Er) ((aj (aL (N8<*>T.mJ (aa (bn (wc T) hr.m T.ve T.mO.kp T.uX (.cons (show RelV (.bl true) _ from rfl) .nil) aq (aa (ad 0) (aa (ad 1) (aa (ad 2) ae)))) ae))))) ?_;exists 0;left;show#[AA,L,M,root,t,e,rfl,i,rfl,pg,fun fd H1 s1 bx=>?_];show#[e.res,bx,fun k ns he=>q1 k ns he H1 s1,fun hn=>(q2 hn).of s1]
def VA:T.rm.k P w base 4 (pd T.aI T.aK T.aQ Ad.a fun _ _ _ _ _ t H Q=>Q (.bl (decide (t.kd=("folder":Str)))) H):=by
 show T.rm.F.ok abo (fun _ _ _ _ h=>cz h fun _ _ _=>rfl) fun ax A _ s H vs Q E hr h=>cz h fun x n h=>?_;let⟨AA,L,M,k,a,t,i,rfl,rfl,ha,aS,q⟩:=h;let⟨fs,c,hx,aO,sf⟩:=i.h;show#[_,((aj (aL (f8 cF (rL<*T.gT (ad 0) (aa (ad 1) ae)) (dl (.str "folder") T.vm #[_,rfl]))))).h,?_];exists 0;left;show(mI hx sf #[AA,L,M,k,a,t,i,rfl,rfl,ha,aS,q])
def  Vw(N:Cn):Sp:=jg fun h z pt H Q E=>X6 fun A L M root t e=>A6 (pt=Tx.S t) (aF N.CH N.CS N.CT H A L M) (A.a=h) (eM #[L,M,z,true,root] t e) (∀ k ns,e.res=.found k ns->∃ a t,L[k]?=!a/\M.ts[k]?=!t/\(t.kd=("folder":Str)->∀ H',ai H H'->Q (.int (k:Int)) H')/\(t.kd≠("folder":Str)->cM N H E (.dz "file"))) ((∀ k ns,e.res≠.found k ns)->cM N H E (.way e.res))
def Cj:aA P w K mg base (cB P w) 16 T.je.f T.je.d ["house","asker","path"] (Vw T.cn):=by
 show T.je.F.dG Jo (fun _ _ _ _ h=>eG h fun _ _ _ _=>rfl) fun ax A _ s H vs Q E hr h=>eG h fun hh z pt h=>?_;let⟨AA,L,M,root,t,e,rfl,i,rfl,pg,q1,q2⟩:=h;show bF (b:=aU Ed) ((al (aM 3 Jo.nd (Nz<*>T.mL (aa (ad 0) (aa (ad 1) (aa (ad 2) ae)))))
 (al (aV (dF (cU (VA<$>T.rm (aa (ad 0) (aa (ad 3) ae))))) (aj (kO lq rfl rfl T.lL T.kG T.lU (lO T) hr.m T.iU.b (aa am ae))) bv)
 (aj (aL (ad 3)))))) ?_
 exists 1;right;show#[AA,L,M,root,t,e,rfl,i,rfl,pg,fun k ns he H1 s1=>?_,q2];let⟨a,t',ha,ht,r1,r2⟩:=q1 k ns he;right;show#[AA,L,M,k,a,t',i.same s1,rfl,rfl,ha,ht,?_];dsimp only;by_cases hk:t'.kd=("folder":Str)
 ·rw[sw hk];show bf (r1 hk _ s1)
 ·rw[kt hk];show bS #[_,rfl,fun d hd=>(r2 hk).raise s1 hd]
inductive kI(ps:List (List Nat)):Option (List (List Nat)×List Nat)->Prop
 | nil:ps=[]->kI ps none
 | vZ {q nm}:ps=q++[nm]->isNm nm=false->nm.length<=8->kI ps none
 | Lf {q nm}:ps=q++[nm]->isNm nm=true->kI ps (!(q,nm))
structure fb(t:List Nat):Prop where
 l1:1<=t.length
 l2:t.length<=2000
 all:(Tx.words 47 t).all cP=true
def  Se(N:Cn):Sp:=km fun pt H Q E=>X2 fun t r=>A5 (pt=Tx.S t) (fb t) (kI (told (Tx.words 47 t) t) r) (∀ x,r=!x->∀ H',ai H H'->Q .aw H') (r=none->cM N H E (.dz "dots"))
def zd{w:List Nat}(h:isNm w=true):47 ∉ w/\w≠[]/\1<=w.length/\w.length<=8:=by
 have hp:cP w=true:=by unfold cP;rw[h];simp
 let⟨h1,h2,_⟩:=OC h;show#[(rA hp).1,(rA hp).2.1,h1,h2]
def Ij{w:List Nat}{b:Bool}(h:isNm w=b):fS (.str (Tx.S w))=b:=by
 change isNm (Tx.S w).cps.toList=b;rw[Tx.kF];show h
def DG{w:List Nat}(h:isNm w=true):fS (.str (Tx.S w))=true:=Ij h
def ab1:aA P w K mg base (cB P w) 4 T.qX.f T.qX.d ["path"] (Se T.cn):=by
 show T.qX.F.dG Jj (fun _ _ _ _ h=>fP h fun _ _=>rfl) fun ax A _ s H vs Q E hr h=>fP h fun pt h=>?_;let⟨t,r,rfl,sp,hs,q1,q2⟩:=h;show bF (b:=aU Cs) ((al (aM 1 Jj.nd (ce (bG (K:=K) rfl) (kX<$>T.cH (aa (ad 0) ae)) ap))
 (aj (aV (ff (ge (aX (Sz hr.g7) (ad 1) (cr ae)) (jY (dF (cU (C0<$>T.jr (aa (ce (bG (K:=K) rfl) (ad 1) (ii j0 ap)) ae))))))) (aj (kO lq rfl rfl T.lL T.kG T.lU (lO T) hr.m T.iU.b (aa am ae))) bv)))) ?_
 exists 1;right;show#[t,rfl,sp.l1,sp.l2,sp.all,fun H1 l p s1 _ hl hp=>?_]
 rwa [hp]
 rw[show cS [V.bl (cO t),V.ref l] 1=some (V.ref l) from rfl];show#[fits (),fun d hd=>?_];show dh hd fun H2 s2 b2=>?_;have cA:=s2 _ _ hl;cases hs with
 | nil e =>
  rw[e]at cA;show#[[],[],cA,b2,bI (sw rfl) #[_,rfl,fun d' hd'=>(q2 rfl).raise (s1.trans s2) hd']]
 | @vZ qs nm e hn xn =>
  rw[e]at cA;have jl:H2 l=!.lst (PV qs++[V.str (Tx.S nm)]):=by rw[cA];simp[PV]
  show#[qs.map Tx.S++[Tx.S nm],[],by rw[jl];simp[PV],b2,?_];rw[kt ()];show bf ?_
  rwa [jl,kx]
  show#[#[_,rfl],by change(Tx.S nm).length<=1000;rw[Tx.cE];omega,fun H3 s3=>?_];rw[Ij hn];show bS #[_,rfl,fun d' hd'=>(q2 rfl).raise ((s1.trans s2).trans s3) hd']
 | @Lf qs nm e hn =>
  rw[e]at cA;let⟨h1,h2,h3,h4⟩:=zd hn;have jl:H2 l=!.lst (PV qs++[V.str (Tx.S nm)]):=by rw[cA];simp[PV]
  show#[qs.map Tx.S++[Tx.S nm],[],by rw[jl];simp[PV],b2,?_];rw[kt ()];show bf ?_
  rwa [jl,kx]
  show#[#[_,rfl],by change(Tx.S nm).length<=1000;rw[Tx.cE];omega,fun H3 s3=>?_];rw[DG hn];show bf (q1 _ rfl _ ((s1.trans s2).trans s3))
def o8{H H':Hp}{x:ϋ}(s:ai H H')(h:H' x=none):H x=none:=by
 cases e:H x with
 | none=>rfl
 | some o=>rw[s _ _ e]at h;cases h
abbrev zg(f:Nat)(nm:List Nat):List (Str×V):=az "name" (.str (Tx.S nm)) (az "folder" (.int (f:Int)) [])
inductive lR(d:Wd)(t:List Nat):Sum Rf (Nat×List Nat)->Prop
 | vZ:kI (told (Tx.words 47 t) t) none->lR d t (.inl (.dz "dots"))
 | way {q nm e}:kI (told (Tx.words 47 t) t) (!(q,nm))->q.length<=900->mG d (cO t) (q.map Tx.S++[(".":Str)]) e->(∀ k ns,e.res≠.found k ns)->lR d t (.inl (.way e.res))
 | Jq {q nm e f ns}:kI (told (Tx.words 47 t) t) (!(q,nm))->q.length<=900->mG d (cO t) (q.map Tx.S++[(".":Str)]) e->e.res=.found f ns->lR d t (.inr (f,nm))
def  ZZ(N:Cn):Sp:=jg fun h z pt H Q E=>X6 fun A L M root t r=>A7 (pt=Tx.S t) (fb t) (aF N.CH N.CS N.CT H A L M) (A.a=h) (lR #[L,M,z,true,root] t r) (∀ x,r=.inl x->cM N H E x) (∀ f nm,r=.inr (f,nm)->∀ x dx H',H x=none->ai H H'->H' x=!.ins N.CE dx (zg f nm)->Q (-x) H')
def ac4:aA P w K mg base (cB P w) 13 T.rf.f T.rf.d ["house","asker","path"] (ZZ T.cn):=by
 show T.rf.F.dG FP (fun _ _ _ _ h=>eG h fun _ _ _ _=>rfl) fun ax A _ s H vs Q E hr h=>eG h fun hh z pt h=>?_;let⟨AA,L,M,root,t,r,rfl,sp,i,rfl,g,q1,q2⟩:=h;show bF (b:=aU BP) ((al (aN (ab1<*>T.qX (aa (ad 2) ae)))
 (al (aM 3 FP.nd (kX<$>T.cH (aa (ad 2) ae)))
 (al (aM 4 FP.nd (Jr<$>T.mv (aa (ad 0) (aa (ad 1) (aa (ce (bG (K:=K) rfl) (ad 3) ap) (aa (db ej (im (nS (K:=K) rfl) (ce (bG (K:=K) rfl) (ad 3) ap) kW (jh (ii j0 ap))) (cr (aa am ae))) (aa em ae)))))))
 (aj (aL (io T.YQ (ZR T) hr.m T.Uy T.vb.b .nil aq (aa (N8<*>T.mJ (aa (bi T.aP T.nN (ad 4)) ae)) (aa (ce (bG (K:=K) rfl) (ce (bG (K:=K) rfl) (ad 3) ap) (ii j0 ap)) ae))))))))) ?_
 exists 2;right;have hs:(r=.inl (.dz "dots")/\kI (told (Tx.words 47 t) t) none)\/∃ qs nm e,kI (told (Tx.words 47 t) t) (!(qs,nm))/\qs.length<=900/\mG #[L,M,z,true,root] (cO t) (qs.map Tx.S++[(".":Str)]) e/\((∀ k ns,e.res≠.found k ns)->r=.inl (.way e.res))/\∀ f ns,e.res=.found f ns->r=.inr (f,nm):=by
  cases g with
  | vZ h=>show .inl #[rfl,h]
  | way h1 h2 h3 h4=>show .inr #[_,_,_,h1,h2,h3,fun _=>rfl,fun f ns e=>absurd e (h4 f ns)]
  | Jq h1 h2 h3 h4=>show .inr #[_,_,_,h1,h2,h3,fun k=>absurd h4 (k _ _),fun f ns e=>by rw[h4]at e;cases e;rfl]
 rcases hs with ⟨rfl,hs⟩ | ⟨qs,nm,e,hs,hq,g,r1,r2⟩
 ·show#[t,none,rfl,sp,hs,(fun x e=>by cases e),fun _=>q1 _ rfl]
 show#[t,_,rfl,sp,hs,fun x _ H1 s1=>ao ?_,fun e=>by cases e];have he:told (Tx.words 47 t) t=qs++[nm]:=by cases hs;assumption
 left;show#[t,rfl,sp.l1,sp.l2,sp.all,fun H2 l p s2 _ hl hp=>ao ?_];rw[he,show PV (qs++[nm])=PV qs++[V.str (Tx.S nm)] from by simp[PV]]at hl;left
 rwa [hp]
 rw[show cS [V.bl (cO t),V.ref l] 1=some (V.ref l) from rfl,show cS [V.bl (cO t),V.ref l] 0=some (V.bl (cO t)) from rfl]
 try dsimp only
 show#[_,aC.of hl,fun p1 oy=>?_];rw[VE];show#[fits (),fun p2 cL=>?_];have s3:=(ai.upd (o:=.lst (PV qs)) oy).trans (ai.upd (o:=.lst [V.str "."]) cL);have n12:p1≠p2:=bD (ay (o:=.lst (PV qs))) cL;have b3:upd (upd H2 p1 (.lst (PV qs))) p2 (.lst [V.str "."]) p1=!.lst (PV qs):=by rw[ag n12,ay]
 have b4:upd (upd H2 p1 (.lst (PV qs))) p2 (.lst [V.str "."]) p2=!.lst [V.str "."]:=ay;generalize upd (upd H2 p1 (.lst (PV qs))) p2 (.lst [V.str "."])=H3 at s3 b3 b4 ⊢
 rwa [b3,b4]
 show#[fits (by simp;omega),fun p3 iY=>?_];have s4:=s3.trans (ai.upd (o:=.lst (PV qs++[V.str "."])) iY);have b5:upd H3 p3 (.lst (PV qs++[V.str "."])) p3=!.lst (PV qs++[V.str "."]):=ay;generalize upd H3 p3 (.lst (PV qs++[V.str "."]))=H4 at s4 b5 ⊢;show#[AA,L,M,root,qs.map Tx.S++[(".":Str)],e,i.same ((s1.trans s2).trans s4),rfl,by rw[b5];simp[PV],g,?_];intro x H5 z0;let⟨s5,dx,gs,fd,av,hx,zX,bx,uo,gD⟩:=z0;have jJ:=((s1.trans s2).trans s4).trans s5;show#[x,_,_,_,rfl,hx,zX,_,bx,fun k ns hk=>?_,fun hk=>(q1 _ (r1 hk)).of jJ]
 ·have tI:=(s4.trans s5) _ _ hp;have iB:=(s4.trans s5) _ _ hl
  rwa [tI]
  rw[show cS [V.bl (cO t),V.ref l] 1=some (V.ref l) from rfl]
  rwa [iB,kx]
  try dsimp only
  intro y dy hy hdy ndy;show#[dy,ay,rfl,?_];rw[nH];show q2 _ _ (r2 _ _ hk) y dy _ (o8 jJ hy) (jJ.trans ((ai.upd (o:=.own y) hdy).trans (ai.upd (p:=y) (by rw[ag (ss ndy)];show hy)))) ay
def  Z9(N:Cn):Sp:=IZ fun h z n r y H Q E=>X5 fun A L M t (k:Nat)=>A8 (n=(k:Int)) (aF N.CH N.CS N.CT H A L M) (A.a=h) ((ah (sD M.ro) (.inr z)).isSome=true) (lh (.str r)=true) (M.ts[k]?=!t) (dO r (dB t z)=true->Q .aw H) (dO r (dB t z)=false->cM N H E (.dz y))
def YM:aA P w K mg base (cB P w) 4 T.rq.f T.rq.d ["house","asker","number","right","reason"] (Z9 T.cn):=by
 show T.rq.F.dG abT (fun _ _ _ _ h=>NA h fun _ _ _ _ _ _=>rfl) fun ax A _ s H vs Q E hr h=>NA h fun hh z n r rs h=>?_;let⟨AA,L,M,t,k,rfl,i,rfl,hz,dM,ht,q1,q2⟩:=h;let⟨oU,gc,gh,oY,gi⟩:=i.h;show bF (b:=aU D9) ((aj (aV (dF (cU (CB<&>T.mD (ad 0) (aa (ad 1) (aa (ad 2) (aa (ad 3) ae)))))) (aj (kO lq rfl rfl T.lL T.kG T.lU (lO T) hr.m T.iU.b (aa (ad 4) ae))) bv))) ?_;exists 0;left;show(mI gh gi (Fq i hz dM ht ?_));cases hm:dO r (dB t z) with
 | true=>show bf (q1 hm)
 | false=>show bS #[_,rfl,fun d hd=>(q2 hm).raise (fun _ _ e=>e) hd]
def  T8(N:Cn):Sp:=kg fun h z n H Q E=>X5 fun A L M t (k:Nat)=>A7 (n=(k:Int)) (aF N.CH N.CS N.CT H A L M) (A.a=h) ((ah (sD M.ro) (.inr z)).isSome=true) (M.ts[k]?=!t) (dO ("w":Str) (dB t z)=true->Q .aw H) (dO ("w":Str) (dB t z)=false->cM N H E (.dz "kept"))
def CZ:aA P w K mg base (cB P w) 5 T.jn.f T.jn.d ["house","asker","folder"] (T8 T.cn):=by
 show T.jn.F.dG ZH (fun _ _ _ _ h=>fL h fun _ _ _ _=>rfl) fun ax A _ s H vs Q E hr h=>fL h fun hh z n h=>?_;let⟨AA,L,M,t,k,rfl,i,rfl,hz,ht,q1,q2⟩:=h;show bF (b:=aU Dx) ((aj (aN (YM<*>T.rq (aa (ad 0) (aa (ad 1) (aa (ad 2) (aa am (aa am ae))))))))) ?_;exists 0;left;show#[AA,L,M,t,k,rfl,i,rfl,hz,by symm,ht,q1,q2]
def  XD(N:Cn):Sp:=uR fun h x H Q _=>X8 fun A L M a t dx nm (k:Nat)=>A7 (aF N.CH N.CS N.CT H A L M) (A.a=h) (H x=!.ins N.CE dx (zg k nm)) (isNm nm=true) (L[k]?=!a) (M.ts[k]?=!t) (∀ H',ai H H'->Q ((ah (sD t.bb) (.inr (Tx.S nm))).getD .aw) H')
def VN:T.sy.k P w base 5 (XD T.cn):=by
 show T.sy.F.ok Xv (fun _ _ _ _ h=>nT h fun _ _ _=>rfl) fun ax A _ s H vs Q E hr h=>nT h fun hh x h=>?_;let⟨AA,L,M,a,t,dx,nm,k,i,rfl,hx,hn,ha,ht,q⟩:=h;let⟨oU,gc,gh,oY,gi⟩:=i.h;let⟨h1,h2,h3,h4⟩:=zd hn;show bF (b:=aU AH) ((aj (aL (Cb<*T.mq (ad 0) (aa (bi T.pY T.zJ (ad 1)) (aa (bi T.pY T.DL (ad 1)) ae)))))) ?_;exists 0;left;show(mI gh gi #[x,_,_,_,rfl,hx,rfl,x,_,_,_,rfl,hx,rfl,AA,L,M,k,a,t,i,rfl,rfl,ha,ht,DG hn,by rw[Tx.cE];omega,q])
def  aaa(N:Cn):Sp:=uR fun h x H Q E=>X8 fun A L M a t dx nm (k:Nat)=>A8 (aF N.CH N.CS N.CT H A L M) (A.a=h) (H x=!.ins N.CE dx (zg k nm)) (isNm nm=true) (L[k]?=!a) (M.ts[k]?=!t) (ah (sD t.bb) (.inr (Tx.S nm))=none->∀ H',ai H H'->Q .aw H') (∀ c:Int,ah (sD t.bb) (.inr (Tx.S nm))=!.int c->cM N H E (.dz "there"))
def pV{l:List (Str×Nat)}{z:Key}{v:V}(h:ah (sD l) z=!v):∃ c:Nat,v=.int (c:Int):=by
 unfold ah at h;let⟨kv,h1,rfl⟩:=LT.mp h;let⟨e,_,rfl⟩:=wS.mp (_e h1);show#[_,rfl]
def Vp:aA P w K mg base (cB P w) 6 T.qT.f T.qT.d ["house","seat"] (aaa T.cn):=by
 show T.qT.F.dG UK (fun _ _ _ _ h=>nT h fun _ _ _=>rfl) fun ax A _ s H vs Q E hr h=>nT h fun hh x h=>?_;let⟨AA,L,M,a,t,dx,nm,k,i,rfl,hx,hn,ha,ht,q1,q2⟩:=h;show bF (b:=aU Fv) ((aj (aV (aX mx (VN<$>T.sy (aa (ad 0) (aa (ad 1) ae))) aw) (aj (kO lq rfl rfl T.lL T.kG T.lU (lO T) hr.m T.iU.b (aa am ae))) bv))) ?_;exists 0;left;show#[AA,L,M,a,t,dx,nm,k,i,rfl,hx,hn,ha,ht,fun H1 s1=>?_];cases hv:ah (sD t.bb) (.inr (Tx.S nm)) with
 | none=>show#[by trivial,bf (q1 hv H1 s1)]
 | some v =>
  let⟨c,rfl⟩:=pV hv;show#[by trivial,bS #[_,rfl,fun d hd=>(q2 _ hv).raise s1 hd]]
inductive pf(d:Wd)(t:List Nat):Sum Rf (Nat×List Nat)->Prop
 | no {x}:lR d t (.inl x)->pf d t (.inl x)
 | kept {f nm tf}:lR d t (.inr (f,nm))->d.M.ts[f]?=!tf->dO ("w":Str) (dB tf d.z)=false->pf d t (.inl (.dz "kept"))
 | there {f nm a tf c}:lR d t (.inr (f,nm))->isNm nm=true->d.L[f]?=!a->d.M.ts[f]?=!tf->dO ("w":Str) (dB tf d.z)=true->ah (sD tf.bb) (.inr (Tx.S nm))=!.int (c:Int)->pf d t (.inl (.dz "there"))
 | free {f nm a tf}:lR d t (.inr (f,nm))->isNm nm=true->d.L[f]?=!a->d.M.ts[f]?=!tf->dO ("w":Str) (dB tf d.z)=true->ah (sD tf.bb) (.inr (Tx.S nm))=none->pf d t (.inr (f,nm))
def  Zr(N:Cn):Sp:=jg fun h z pt H Q E=>X6 fun A L M root t r=>A8 (pt=Tx.S t) (fb t) (aF N.CH N.CS N.CT H A L M) (A.a=h) ((ah (sD M.ro) (.inr z)).isSome=true) (pf #[L,M,z,true,root] t r) (∀ x,r=.inl x->cM N H E x) (∀ f nm,r=.inr (f,nm)->∀ x dx H',H x=none->ai H H'->H' x=!.ins N.CE dx (zg f nm)->Q (-x) H')
def Dy:aA P w K mg base (cB P w) 14 T.jk.f T.jk.d ["house","asker","path"] (Zr T.cn):=by
 show T.jk.F.dG JT (fun _ _ _ _ h=>eG h fun _ _ _ _=>rfl) fun ax A _ s H vs Q E hr h=>eG h fun hh z pt h=>?_;let⟨AA,L,M,root,t,r,rfl,sp,i,rfl,Gj,g,q1,q2⟩:=h;show bF (b:=aU FD) ((al (aM 3 JT.nd (ac4<*>T.rf (aa (ad 0) (aa (ad 1) (aa (ad 2) ae)))))
 (al (aN (CZ<*>T.jn (aa (ad 0) (aa (ad 1) (aa (bi T.pY T.zJ (ad 3)) ae)))))
 (al (aN (Vp<*>T.qT (aa (ad 0) (aa (ad 3) ae))))
 (aj (aL (ad 3))))))) ?_
 exists 1;right;cases g with
 | no g=>show#[AA,L,M,root,t,_,rfl,sp,i,rfl,g,fun x e=>(by cases e;show q1 _ rfl),fun f nm e=>by cases e]
 | kept g qo hw =>
  show#[AA,L,M,root,t,_,rfl,sp,i,rfl,g,fun x e=>(by cases e),fun f nm e=>?_];cases e;intro x dx H1 fx s1 hx;right;show#[x,_,_,_,rfl,hx,rfl,AA,L,M,_,_,rfl,i.same s1,rfl,Gj,qo,fun e=>(by rw[hw]at e;cases e),fun _=>(q1 _ rfl).of s1]
 | there g hn G4 qo hw hv =>
  show#[AA,L,M,root,t,_,rfl,sp,i,rfl,g,fun x e=>(by cases e),fun f nm e=>?_];cases e;intro x dx H1 fx s1 hx;right;show#[x,_,_,_,rfl,hx,rfl,AA,L,M,_,_,rfl,i.same s1,rfl,Gj,qo,fun _=>ao ?_,fun e=>by rw[hw]at e;cases e];left;show#[AA,L,M,_,_,dx,_,_,i.same s1,rfl,hx,hn,G4,qo,fun e=>(by rw[hv]at e;cases e),fun _ _=>(q1 _ rfl).of s1]
 | free g hn G4 qo hw hv =>
  show#[AA,L,M,root,t,_,rfl,sp,i,rfl,g,fun x e=>(by cases e),fun f nm e=>?_];cases e;intro x dx H1 fx s1 hx;right;show#[x,_,_,_,rfl,hx,rfl,AA,L,M,_,_,rfl,i.same s1,rfl,Gj,qo,fun _=>ao ?_,fun e=>by rw[hw]at e;cases e];left;show#[AA,L,M,_,_,dx,_,_,i.same s1,rfl,hx,hn,G4,qo,fun _ H2 s2=>q2 _ _ rfl x dx H2 fx (s1.trans s2) (s2 _ _ hx),fun _ e=>by rw[hv]at e;cases e]
def  XG:Sp:=km fun z H Q _=>z.length<=60/\Q (.bl true) H
def  Q9:Sp:=km fun z H Q _=>z.length<=60/\Q .aw H
def acD:T.qJ.k P w base 1 XG:=by
 show T.qJ.F.ok Y9 (fun _ _ _ _ h=>fP h fun _ _=>rfl) fun ax A _ s H vs Q E hr h=>fP h fun z h=>?_;let⟨hz,q⟩:=h;show#[_,((aj (aL (yR (cT kY T.gO gS (aa (ad 0) (aa (kC (.ty "str") T.nY nj rfl) ae))) (Dv.one (f8 qG (cT (l8 (K:=K) rfl) T.ki Tk (aa (ad 0) ae)) (dl (.int 60) T.U9 #[_,rfl]))))))).h,?_];exists 0;left;show#[⋯,bS #[fits ∅,?_]];rw[sw (show(z.length:Int)<=60 by omega)];show q
def Y0:T.su.k P w base 2 Q9:=by
 show T.su.F.ok Rx (fun _ _ _ _ h=>fP h fun _ _=>rfl) fun ax A _ s H vs Q E hr h=>fP h fun z h=>?_;let⟨hz,q⟩:=h;show#[_,((aj (aV (dF (cU (acD<$>T.qJ (aa (ad 0) ae)))) (aj jT) bv))).h,?_];exists 0;left;show#[hz,bf q]
def YR:T.vk.k P w mg base 4 (UO T.aK T.aQ):=by
 show T.vk.F.ok Tr (fun _ _ _ _ h=>OD h fun _ _ _ _ _ _=>rfl) fun ax A _ s H vs Q E hr h=>OD h fun x ow tx mi re h=>?_;let⟨dt,ml,rs,at',fA,q⟩:=h;let⟨fs,c,hx,aO,sf⟩:=at'.o;show#[_,((aj (aL (FW*>T.md (ad 0) (aa (dl (.str "file") T.Ba #[_,rfl]) (aa (ad 1) (aa (ad 3) (aa (ad 4) (aa (ad 2) ae))))))))).h,?_];exists 0;left;show#[x,dt,fs,rfl,hx,(sf _).trans rfl,dt,ml,rs,at',fA,q]
def Zv:T.vd.k P w mg base 3 (pd T.aI T.aK T.aQ Ad.a S3):=by
 show T.vd.F.ok adm (fun _ _ _ _ h=>cz h fun _ _ _=>rfl) fun ax A _ s H vs Q E hr h=>cz h fun x n h=>?_;let⟨AA,L,M,k,a,t,i,rfl,rfl,ha,aS,q⟩:=h;let⟨fs,c,hx,aO,sf⟩:=i.h;let⟨gs,c2,ht,eX,sg⟩:=i.t;have dS:=gX i ha aS;let⟨ks,ho,jC,so⟩:=dS.o;show#[_,((aj (aL (bi T.et T.Ep (dA T.cG T.eB.h (kM T) hr.m T.eB.b .nil gy (bi T.aD T.gR (ad 0)) (aa (ad 1) ae)))))).h,?_];exists 0;left;show#[AA.a,_,_,-AA.t,rfl,hx,(sf _).trans rfl,AA.t,_,_,rfl,ht,(sg _).trans rfl,mh i ha aS (fI ho so rfl q)]
def  U0(CH CS CT:ϋ):Sp:=LD fun x n m r H Q _=>X6 fun A L M (k:Nat) a t=>A6 (aF CH CS CT H A L M) (A.t=x) (n=(k:Int)) (L[k]?=!a) (M.ts[k]?=!t) (∀ H',aF CH CS CT H' A L { M with ts:=M.ts.set k { t with mi:=m,re:=r } }->Kp [A.t,a.th] H H'->Q .aw H')
def Wa:T.uu.k P w mg base 3 (U0 T.aI T.aK T.aQ):=by
 show T.uu.F.ok LK (fun _ _ _ _ h=>JW h fun _ _ _ _ _=>rfl) fun ax A _ s H vs Q E hr h=>JW h fun x n m r h=>?_;let⟨AA,L,M,k,a,t,i,rfl,rfl,ha,aS,q⟩:=h;let⟨fs,c,hx,aO,sf⟩:=i.h;let⟨gs,c2,ht,eX,sg⟩:=i.t;have dS:=gX i ha aS;let⟨ks,ho,jC,so⟩:=dS.o;have off:=i.o7 ha;have n1:AA.t≠a.th:=off _ (by simp[Ad.w]) _ (by simp[Ta.l]);have n2:AA.a≠a.th:=off _ (by simp[Ad.w]) _ (by simp[Ta.l]);have n3:=i.own ha;show#[_,((al (aM 4 LK.nd (dA T.cG T.eB.h (kM T) hr.m T.eB.b .nil gy (ad 0) (aa (ad 1) ae)))
 (al (js T.cG T.zx jv (ad 0) ap)
 (al (bN T.et T.DT (ad 4) (ad 2))
 (aj (bN T.et T.CU (ad 4) (ad 3))))))).h,?_]
 exists 1;right;show(mI ht sg (mh i ha aS ?_));right;show#[AA.t,_,_,.int c2,rfl,ht,(sg _).trans rfl,_,_,rfl,rfl,_,_,ht,∅,ao ?_];left;show#[a.th,_,_,rfl,by rw[ag (ss n1)];show ho,∅,?_];left;show#[a.th,_,_,rfl,ay,by rw[fC (u:=.str t.mi) ((so _).trans rfl)];omega,?_];show q _ (i.write (t':={ t with mi:=m,re:=r }) ha #[fs,c,by rw[ag n2,ag n2,ag i.aT];show hx,aO,sf] #[_,c2+1,by rw[ag n1,ag n1,ay],by rw[fC (u:=.int c2) ((sg _).trans rfl)];show eX,fun f=>by rw[(sg.put "changes" (.int (c2+1))) f];rfl] #[#[_,ay,?_,fun f=>((so.put "mine" (.str m)).put "rest" (.str r) f).trans rfl],?_,?_] (fun b o hb e=>?_)) (fun b o hb e=>?_)
 ·rw[fC (u:=.str t.re) (by rw[en,wf ⋯];show(so _).trans rfl),fC (u:=.str t.mi) ((so _).trans rfl)];show jC
 ·rw[ag (ss n3.1),ag (ss n3.1),ag (ss (off _ (by simp[Ad.w]) _ (by simp[Ta.l])))];show dS.nm
 ·rw[ag (ss n3.2.1),ag (ss n3.2.1),ag (ss (off _ (by simp[Ad.w]) _ (by simp[Ta.l])))];show dS.pl
 ·simp only[li,lm,wP,Ps]at hb;rw[ag hb.2.2.1,ag hb.2.2.1,ag hb.2.1];show e
 ·simp only[li,lm,wP,Ps]at hb;rw[ag hb.2,ag hb.2,ag hb.1];show e
section
variable {CH CS CT:ϋ}{H H':Hp}{A:Ad}{L:List Ta}{M:Hs}
def aF.some(i:aF CH CS CT H A L M):∀ b∈A.w++L.flatMap Ta.l,∃ o,H b=.some o:=fun b hb=>by
 rcases No.mp hb with h | h
 ·simp only[Ad.w,li,lm,wP]at h;rcases h with rfl | rfl | rfl | rfl | rfl | rfl | rfl | rfl
  ·let⟨_,_,e,_⟩:=i.h;show#[_,e]
  ·let⟨_,_,e,_⟩:=i.t;show#[_,e]
  ·show#[_,i.ml]
  ·show#[_,i.ro]
  ·show#[_,i.st]
  ·show#[_,i.tr]
  ·show#[_,i.ov]
  ·show#[_,i.un]
 ·let⟨a,ha,hb⟩:=List.mem_flatMap.mp h;let⟨k,hk⟩:=_j ha;have b8:k < M.ts.length:=by rw[<- i.len];show(sB.mp hk).1
  let⟨a',e1,t⟩:=i.th k _ (ul b8);rw[hk]at e1;cases e1;simp only[Ta.l,li,lm,wP]at hb;rcases hb with rfl | rfl | rfl
  ·let⟨_,e,_⟩:=t.o;show#[_,e]
  ·show#[_,t.nm]
  ·show#[_,t.pl]
def aF.add{th dI nm pl:ϋ}{ks:List (Str×V)}{kd ow mi re tx:Str}(i:aF CH CS CT H A L M)(f1:H th=none)(f2:H nm=none)(f3:H pl=none)(at':lH CS H' A.t A.dt A.ml ((L.map fun a=>V.ref a.th)++[-th]))(aS:H' th=Option.some (.ins CT dI ks))(kl:ks.length<=40)(sk:dv ks (uM (.int (L.length:Nat)) (.str kd) (.str ow) (.str mi) (.str re) (.str tx) (-nm) (-pl)))(cj:H' nm=Option.some (.dK []))(bt:H' pl=Option.some (.dT []))(kp:Kp [A.t,A.ml] H H') :
  aF CH CS CT H' A (L++[#[th,dI,nm,pl]]) { M with ts:=M.ts++[#[kd,ow,mi,re,tx,[],[]]] }:=by
 have nd:=i.nd;have sm:=i.some;have nw:∀ b∈A.w++L.flatMap Ta.l,b≠th/\b≠nm/\b≠pl:=fun b hb=>by
  let⟨o,e⟩:=sm b hb;show#[bD e f1,bD e f2,bD e f3]
 have sV:th≠nm:=eQ aS cj (by nofun);have oZ:th≠pl:=eQ aS bt (by nofun);have h23:nm≠pl:=eQ cj bt (by nofun);have n0:=nd;rw[Fa]at n0;let⟨n1,n2,n3⟩:=n0;simp only[Ad.w,AT,li,lm,wP,Ps]at n1;have kA:∀ b∈[A.a,A.ro,A.st,A.tr,A.ov,A.un],b ∉ [A.t,A.ml]:=by
  intro b hb hm;simp only[li,lm,wP]at hb hm;rcases hb with rfl | rfl | rfl | rfl | rfl | rfl <;> rcases hm with h | h
  ·show n1.1.1 h
  ·show n1.1.2.1 h
  ·show n1.2.1.2.1 h.symm
  ·show n1.2.2.1.1 h.symm
  ·show n1.2.1.2.2.1 h.symm
  ·show n1.2.2.1.2.1 h.symm
  ·show n1.2.1.2.2.2.1 h.symm
  ·show n1.2.2.1.2.2.1 h.symm
  ·show n1.2.1.2.2.2.2.1 h.symm
  ·show n1.2.2.1.2.2.2.1 h.symm
  ·show n1.2.1.2.2.2.2.2 h.symm
  ·show n1.2.2.1.2.2.2.2 h.symm
 show#[?_,at'.o,?_,by simp[i.len],fun j t e=>?_,kp _ _ (kA _ ()) i.ro,kp _ _ (kA _ ()) i.st,kp _ _ (kA _ ()) i.tr,kp _ _ (kA _ ()) i.ov,kp _ _ (kA _ ()) i.un,?_]
 ·let⟨fs,c,e,r⟩:=i.h;show#[fs,c,kp _ _ (kA _ ()) e,r]
 ·rw[at'.ml];simp
 ·have e':(M.ts++[(#[kd,ow,mi,re,tx,[],[]]:Th)])[j]?=.some t:=e;by_cases hj:j < M.ts.length
  ·rw[Cl hj]at e';let⟨a,e1,h1⟩:=i.th j t e';show#[a,by rw[Cl (by rw[i.len];show hj)];show e1,h1.keep kp fun b hb hm=>?_];have mW:=kL e1 hb;simp only[li,lm,wP]at hm;rcases hm with rfl | rfl
   ·show n3 _ (by simp[Ad.w]) _ mW rfl
   ·show n3 _ (by simp[Ad.w]) _ mW rfl
  ·rw[EQ ∅]at e';have hj0:j - M.ts.length=0:=by
    rcases Nat.eq_zero_or_pos (j - M.ts.length) with h | h
    ·show h
    ·rw[_6 (by simp;omega)]at e';cases e'
   rw[hj0]at e';cases e';have w8:j=L.length:=by rw[i.len];omega
   subst w8;show#[_,by rw[EQ (pi _),_1];rfl,#[#[ks,aS,kl,sk],cj,bt]]
 ·rw[List.flatMap_append,<- _V,Fa];show#[nd,?_,fun b hb c hc e=>?_]
  ·simp only[T0,List.flatMap_nil,UV,Ta.l,AT,li,lm,wP,Ps,not_false_eq_true,_X,and_true];show#[#[sV,oZ],h23]
  ·let⟨q1,q2,q3⟩:=nw b hb;simp only[T0,List.flatMap_nil,UV,Ta.l,li,lm,wP]at hc;rcases hc with h | h | h
   ·show q1 (e.trans h)
   ·show q2 (e.trans h)
   ·show q3 (e.trans h)
end
def  Mg(CH CS CT CE:ϋ):Sp:=KD fun h x n H Q _=>JK fun A L M (f:Nat) (k:Nat) af tf ak tk dx nm=>Dq (aF CH CS CT H A L M) (A.a=h) (H x=!.ins CE dx (az "name" (.str nm) (az "folder" (.int (f:Int)) []))) (n=(k:Int)) (L[f]?=!af) (M.ts[f]?=!tf) (L[k]?=!ak) (M.ts[k]?=!tk) (f≠k) (ah (sD tf.bb) (.inr nm)=none) (tf.bb.length<=500) (tk.bV=[]) (∀ H',aF CH CS CT H' A L { M with ts:=(M.ts.set f { tf with bb:=tf.bb++[(nm,k)] }).set k { tk with bV:=[(f,nm)] } }->Kp [A.t,af.nm,ak.pl] H H'->Q (.int (k:Int)) H')
def Be:T.jo.k P w base 6 (Mg T.aI T.aK T.aQ T.mY):=by
 show T.jo.F.ok Ra (fun _ _ _ _ h=>HD h fun _ _ _ _=>rfl) fun ax A _ s H vs Q E hr h=>HD h fun hh x n h=>?_;let⟨AA,L,M,f,k,af,tf,ak,tk,dx,nm,i,rfl,hx,rfl,gA,bE,jG,fw,cQ,hv,hl,bt,q⟩:=h;let⟨oU,gc,gh,oY,gi⟩:=i.h;let⟨gs,c2,ht,eX,sg⟩:=i.t;show bF (b:=aU BN) ((al (aN (SO*>T.vE (bi T.aD T.gR (ad 0)) (aa (bi T.pY T.zJ (ad 1)) (aa (bi T.pY T.DL (ad 1)) (aa (ad 2) ae)))))
 (aj (aL (ad 2))))) ?_
 exists 0;right;show(fI gh gi rfl (mI ht sg #[x,_,_,_,rfl,hx,rfl,x,_,_,_,rfl,hx,rfl,AA,L,M,f,k,af,tf,ak,tk,i,rfl,rfl,rfl,gA,bE,jG,fw,cQ,hv,hl,bt,q]))
def  vF(CH CS CT:ϋ)(A:Ad)(L:List Ta)(M:Hs)(f:Nat)(t0:Th)(a0:Ta)(nm kd ow mi re tx:Str)(H:Hp)(Q:VK):Prop :=
 ∀ a H',aF CH CS CT H' A (L++[a]) { M with ts:=M.ts.set f { t0 with bb:=t0.bb++[(nm,M.ts.length)] }++[#[kd,ow,mi,re,tx,[],[(f,nm)]]] }->Kp [A.t,A.ml,a0.nm] H H'->Q (.int (M.ts.length:Nat)) H'
def Nh{α:Type}{y b:α}:∀ r:List α,(r++[y]).set r.length b=r++[b]
 | []=>rfl
 | c::r=>by simp only[List.cons_append,xz,List.set_cons_succ];rw[Nh r]
def aaN{α:Type}:∀ {xs:List α}{f:Nat}{y a b:α},f < xs.length->((xs++[y]).set f a).set xs.length b=xs.set f a++[b]:=fun {xs f y a b} h=>by
 rw[List.set_append_left _ _ h];have:=Nh (y:=y) (b:=b) (xs.set f a)
 rwa [List.length_set]at this
def Cg{CH CS CT CE:ϋ}{H:Hp}{A:Ad}{L:List Ta}{M:Hs}{f:Nat}{z nm kd mi re tx:Str}{a0:Ta}{t0:Th}{x dx:ϋ}{Q:VK}{E:XK}(i:aF CH CS CT H A L M)(jB:L[f]?=!a0)(iE:M.ts[f]?=!t0)(hx:H x=!.ins CE dx (az "name" (.str nm) (az "folder" (.int (f:Int)) [])))(hv:ah (sD t0.bb) (.inr nm)=none)(hl:t0.bb.length<=400)(nx1:x≠A.t)(mp:vF CH CS CT A L M f t0 a0 nm kd z mi re tx H Q):vT CS CT A.t A.dt A.ml (L.map fun a=>V.ref a.th) (.str kd) (.str z) (.str mi) (.str re) (.str tx) H (fun v H'=>Mg CH CS CT CE [-A.a,-x,v] H' Q E):=by
 intro th dI nm' pl ks H' f1 f2 f3 at' aS kl sk cj bt kp;have nx2:x≠A.ml:=eQ hx i.ml (by nofun);have hlen:(L.map fun a=>V.ref a.th).length=L.length:=lv _;rw[hlen]at sk ⊢;have i2:=i.add f1 f2 f3 at' aS kl sk cj bt kp;have h0:f < M.ts.length:=(sB.mp iE).1;have wR:=i.len;have e0:(M.ts++[(#[kd,z,mi,re,tx,[],[]]:Th)])[f]?=!t0:=by rw[Cl h0];show iE
 have ek:(M.ts++[(#[kd,z,mi,re,tx,[],[]]:Th)])[L.length]?=!#[kd,z,mi,re,tx,[],[]]:=by rw[wR,EQ (pi _),_1];rfl
 show#[A,L++[#[th,dI,nm',pl]],_,f,L.length,a0,t0,#[th,dI,nm',pl],#[kd,z,mi,re,tx,[],[]],dx,nm,i2,rfl,kp _ _ (by simp[nx1,nx2]) hx,rfl,by rw[Cl ∅];show jB,e0,by rw[EQ (pi _),_1];rfl,ek,∅,hv,∅,rfl,fun H2 i3 k3=>?_];have:=mp #[th,dI,nm',pl] H2 (by
  have e:=i3;dsimp only at e;rw[wR]at e;rw[aaN h0]at e;show e) (fun b o hb e=>?_)
 ·rw[wR];show this
 ·simp only[li,lm,wP,Ps]at hb;have nbp:b≠pl:=bD e f3;show k3 _ _ (by simp[hb.1,hb.2.2,nbp]) (kp _ _ (by simp[hb.1,hb.2.1]) e)
def yT{CH CS CT:ϋ}{H:Hp}{A:Ad}{L:List Ta}{M:Hs}(i:aF CH CS CT H A L M):lH CS H A.t A.dt A.ml (L.map fun a=>V.ref a.th):=#[i.t,i.ml]
def vF.of{CH CS CT:ϋ}{H H1:Hp}{A:Ad}{L:List Ta}{M:Hs}{f:Nat}{t0:Th}{a0:Ta}{nm kd ow mi re tx:Str}{Q:VK}(s:ai H H1)(m:vF CH CS CT A L M f t0 a0 nm kd ow mi re tx H Q):vF CH CS CT A L M f t0 a0 nm kd ow mi re tx H1 Q:=fun a H' i k=>m a H' i ((Kp.of s).trans k)
def  Sr(K:ν):Sp:=km fun pt H Q _=>X1 fun t=>A4 (pt=Tx.S t) (fb t) (t.length<=120) (∀ H',ai H H'->Q .aw H')
def Xu:T.sj.k P w base 4 (Sr K):=by
 show T.sj.F.ok Tc (fun _ _ _ _ h=>fP h fun _ _=>rfl) fun ax A _ s H vs Q E hr h=>fP h fun pt h=>?_;let⟨t,rfl,pt,hl,q⟩:=h;show bF (b:=aU AX) ((al (aN (kX<$>T.cH (aa (ad 0) ae)))
 (aj (aV (aX wb (cT (l8 (K:=K) rfl) T.ki Tk (aa (ad 0) ae)) (dl (.int 120) T.TV #[_,rfl])) (aj jT) bv)))) ?_
 exists 0;right;show#[t,rfl,pt.l1,pt.l2,pt.all,fun H1 l p s1 _ _ _=>?_];left;show#[by rw[Tx.cE];show fits ∅,?_];rw[Tx.cE,kt (show ¬ (t.length:Int) > 120 by omega)];show bf (q _ s1)
def aaQ:T.wH.k P w mg base 4 (SA T.aK T.aQ):=by
 show T.wH.F.ok Vx (fun _ _ _ _ h=>nB h fun _ _ _ _=>rfl) fun ax A _ s H vs Q E hr h=>nB h fun x ow tx h=>?_;let⟨dt,ml,rs,at',fA,q⟩:=h;let⟨fs,c,hx,aO,sf⟩:=at'.o;show#[_,((aj (aL (FW*>T.md (ad 0) (aa (dl (.str "lead") T.RX #[_,rfl]) (aa (ad 1) (aa am (aa am (aa (ad 2) ae))))))))).h,?_];exists 0;left;show#[x,dt,fs,rfl,hx,(sf _).trans rfl,dt,ml,rs,at',fA,q]
structure yf(N:Cn)(H:Hp)(A:Ad)(L:List Ta)(M:Hs)(z:Str)(t:List Nat)(kd mi re tx:Str)(Q:VK)(E:XK):Prop where
 i:aF N.CH N.CS N.CT H A L M
 p:fb t
 hz:(ah (sD M.ro) (.inr z)).isSome=true
 nM:mi∈jU
 iO:re∈jU
 hL:L.length<=400
 hl:∀ (f:Nat) t0,M.ts[f]?=!t0->t0.bb.length<=400
 r:∃ root r,pf #[L,M,z,true,root] t r/\(∀ x,r=.inl x->cM N H E x)/\∀ f nm a0 t0,r=.inr (f,nm)->L[f]?=!a0->M.ts[f]?=!t0->vF N.CH N.CS N.CT A L M f t0 a0 (Tx.S nm) kd z mi re tx H Q
def  WQ(N:Cn):Sp:=Fy fun h z pt mi re H Q E=>X4 fun A L M t=>A3 (pt=Tx.S t) (yf N H A L M z t "folder" mi re "" Q E) (A.a=h)
def  Ww(N:Cn):Sp:=NW fun h z pt tx mi re H Q E=>X4 fun A L M t=>A4 (pt=Tx.S t) (yf N H A L M z t "file" mi re tx Q E) (A.a=h) (tx.length<=60)
def TU:aA P w K mg base (cB P w) 15 T.Hc T.xq ["house","asker","path","mine","rest"] (WQ T.cn):=by
 show T.zt.dG Nv (fun vs H Q E h=>?_) (fun ax A _ s H vs Q E hr h=>?_)
 ·show yh h fun _ _ _ _ _ _=>rfl
 ·show yh h fun hh z pt mi re h=>?_;let⟨AA,L,M,t,rfl,pr,rfl⟩:=h;let⟨oU,gc,gh,oY,gi⟩:=pr.i.h;let⟨root,r,dM,q1,q2⟩:=pr.r;show bF (b:=aU rp) ((al (aN (jW<&>T.dP (ad 0) (aa (ad 1) ae)))
  (al (aN (kX<$>T.cH (aa (ad 2) ae)))
  (al (aN (rS<$>T.fe (aa (ad 3) ae)))
  (al (aN (rS<$>T.fe (aa (ad 4) ae)))
  (al (aM 5 Nv.nd (Dy<*>T.jk (aa (ad 0) (aa (ad 1) (aa (ad 2) ae)))))
  (aj (aL (Be<$>T.jo (aa (ad 0) (aa (ad 5) (aa (BG*>T.l9 (bi T.aD T.gR (ad 0)) (aa (ad 1) (aa (ad 3) (aa (ad 4) ae)))) ae)))))))))))) ?_
  exists 1;right;show(mI gh gi (kZ pr.i pr.hz (ao ?_)));left;show#[t,rfl,pr.p.l1,pr.p.l2,pr.p.all,fun H1 l p s1 _ hl hp=>ao ?_];left;show#[pr.nM,ao ?_];left;show#[pr.iO,ao ?_];left;show#[AA,L,M,root,t,r,rfl,pr.p,pr.i.same s1,rfl,pr.hz,dM,fun x e=>(q1 x e).of s1,fun f nm e x dx H2 fx s2 hx=>?_];left;have i2:=pr.i.same (s1.trans s2);let⟨Hw,GN,oW,GI,oz⟩:=i2.h;let⟨gs,c2,ht,eX,sg⟩:=i2.t;let⟨_,_,ka,_⟩:=(pr.i.same s1).t;subst e;cases dM with
  | free g hn jB iE hw hv =>
   show(fI oW oz rfl (mI ht sg #[AA.dt,AA.ml,_,yT i2,by rw[lv];have:=pr.hL;omega,Cg i2 jB iE hx hv (pr.hl _ _ iE) (ss (bD ka fx)) ((q2 _ _ _ _ rfl jB iE).of (s1.trans s2))]))
def Ua:aA P w K mg base (cB P w) 15 T.Hg T.wZ ["house","asker","path","text","mine","rest"] (Ww T.cn):=by
 show T.yZ.dG LL (fun vs H Q E h=>?_) (fun ax A _ s H vs Q E hr h=>?_)
 ·show LA h fun _ _ _ _ _ _ _=>rfl
 ·show LA h fun hh z pt tx mi re h=>?_;let⟨AA,L,M,t,rfl,pr,rfl,iu⟩:=h;let⟨oU,gc,gh,oY,gi⟩:=pr.i.h;let⟨root,r,dM,q1,q2⟩:=pr.r;show bF (b:=aU qK) ((al (aN (jW<&>T.dP (ad 0) (aa (ad 1) ae)))
  (al (aN (kX<$>T.cH (aa (ad 2) ae)))
  (al (aN (rS<$>T.fe (aa (ad 4) ae)))
  (al (aN (rS<$>T.fe (aa (ad 5) ae)))
  (al (aN (Y0<$>T.su (aa (ad 3) ae)))
  (al (aM 6 LL.nd (Dy<*>T.jk (aa (ad 0) (aa (ad 1) (aa (ad 2) ae)))))
  (aj (aL (Be<$>T.jo (aa (ad 0) (aa (ad 6) (aa (YR*>T.vk (bi T.aD T.gR (ad 0)) (aa (ad 1) (aa (ad 3) (aa (ad 4) (aa (ad 5) ae))))) ae))))))))))))) ?_
  exists 1;right;show(mI gh gi (kZ pr.i pr.hz (ao ?_)));left;show#[t,rfl,pr.p.l1,pr.p.l2,pr.p.all,fun H1 l p s1 _ hl hp=>ao ?_];left;show#[pr.nM,ao ?_];left;show#[pr.iO,ao ?_];left;show#[iu,ao ?_];left;show#[AA,L,M,root,t,r,rfl,pr.p,pr.i.same s1,rfl,pr.hz,dM,fun x e=>(q1 x e).of s1,fun f nm e x dx H2 fx s2 hx=>?_];left;have i2:=pr.i.same (s1.trans s2);let⟨Hw,GN,oW,GI,oz⟩:=i2.h;let⟨gs,c2,ht,eX,sg⟩:=i2.t;let⟨_,_,ka,_⟩:=(pr.i.same s1).t;subst e;cases dM with
  | free g hn jB iE hw hv =>
   show(fI oW oz rfl (mI ht sg #[AA.dt,AA.ml,_,yT i2,by rw[lv];have:=pr.hL;omega,Cg i2 jB iE hx hv (pr.hl _ _ iE) (ss (bD ka fx)) ((q2 _ _ _ _ rfl jB iE).of (s1.trans s2))]))
def  abz(N:Cn):Sp:=BQ fun h z pt tx H Q E=>X5 fun A L M t tl=>A6 (pt=Tx.S t) (tx=Tx.S tl) (yf N H A L M z t "lead" "" "" tx Q E) (A.a=h) (fb tl) (tl.length<=120)
def Ye:aA P w K mg base (cB P w) 15 T.sR.f T.sR.d ["house","asker","path","lead"] (abz T.cn):=by
 show T.sR.F.dG Ih (fun _ _ _ _ h=>xE h fun _ _ _ _ _=>rfl) fun ax A _ s H vs Q E hr h=>xE h fun hh z pt tx h=>?_;let⟨AA,L,M,t,tl,rfl,rfl,pr,rfl,qp,P9⟩:=h;let⟨oU,gc,gh,oY,gi⟩:=pr.i.h;let⟨root,r,dM,q1,q2⟩:=pr.r;show bF (b:=aU A0) ((al (aN (jW<&>T.dP (ad 0) (aa (ad 1) ae)))
 (al (aN (kX<$>T.cH (aa (ad 2) ae)))
 (al (aN (Xu<$>T.sj (aa (ad 3) ae)))
 (al (aM 4 Ih.nd (Dy<*>T.jk (aa (ad 0) (aa (ad 1) (aa (ad 2) ae)))))
 (aj (aL (Be<$>T.jo (aa (ad 0) (aa (ad 4) (aa (aaQ*>T.wH (bi T.aD T.gR (ad 0)) (aa (ad 1) (aa (ad 3) ae))) ae))))))))))) ?_
 exists 1;right;show(mI gh gi (kZ pr.i pr.hz (ao ?_)));left;show#[t,rfl,pr.p.l1,pr.p.l2,pr.p.all,fun H1 l p s1 _ hl hp=>ao ?_];left;show#[tl,rfl,qp,P9,fun H1' s1'=>ao ?_]
 replace s1:=s1.trans s1'
 clear hl hp;generalize H1'=H1 at s1 ⊢;left;show#[AA,L,M,root,t,r,rfl,pr.p,pr.i.same s1,rfl,pr.hz,dM,fun x e=>(q1 x e).of s1,fun f nm e x dx H2 fx s2 hx=>?_];left;have i2:=pr.i.same (s1.trans s2);let⟨Hw,GN,oW,GI,oz⟩:=i2.h;let⟨gs,c2,ht,eX,sg⟩:=i2.t;let⟨_,_,ka,_⟩:=(pr.i.same s1).t;subst e;cases dM with
 | free g hn jB iE hw hv =>
  show(fI oW oz rfl (mI ht sg #[AA.dt,AA.ml,_,yT i2,by rw[lv];have:=pr.hL;omega,Cg i2 jB iE hx hv (pr.hl _ _ iE) (ss (bD ka fx)) ((q2 _ _ _ _ rfl jB iE).of (s1.trans s2))]))
inductive ju(d:Wd)(t:List Nat):Sum Rf Nat->Prop
 | way {e}:eM d t e->(∀ k ns,e.res≠.found k ns)->ju d t (.inl (.way e.res))
 | file {e k ns a th}:eM d t e->e.res=.found k ns->d.L[k]?=!a->d.M.ts[k]?=!th->th.kd≠("folder":Str)->ju d t (.inl (.dz "file"))
 | ok {e k ns a th}:eM d t e->e.res=.found k ns->d.L[k]?=!a->d.M.ts[k]?=!th->th.kd=("folder":Str)->ju d t (.inr k)
def  XW(N:Cn):Sp:=jg fun x z pt H Q E=>X6 fun A L M root t r=>A7 (pt=Tx.S t) (aF N.CH N.CS N.CT H A L M) (A.a=x) (ju #[L,M,z,true,root] t r) (M.st.length<=40) (∀ x,r=.inl x->cM N H E x) (∀ k,r=.inr k->∀ H',aF N.CH N.CS N.CT H' A L { M with st:=fH M.st z k }->Kp [A.a,A.st] H H'->Q .aw H')
def Yh:aA P w K mg base (cB P w) 17 T.sS.f T.sS.d ["house","asker","path"] (XW T.cn):=by
 show T.sS.F.dG aa4 (fun _ _ _ _ h=>eG h fun _ _ _ _=>rfl) fun ax A _ s H vs Q E hr h=>eG h fun x z pt h=>?_;let⟨AA,L,M,root,t,r,rfl,i,rfl,dM,hl,q1,q2⟩:=h;let⟨fs,c,hx,aO,sf⟩:=i.h;show bF (b:=aU B9) ((aj (aN (KC<*T.jS (ad 0) (aa (ad 1) (aa (Cj<*>T.je (aa (ad 0) (aa (ad 1) (aa (ad 2) ae)))) ae)))))) ?_;exists 0;left;have hq:∃ e,eM #[L,M,z,true,root] t e/\((∀ k ns,e.res≠.found k ns)->r=.inl (.way e.res))/\∀ k ns,e.res=.found k ns->∃ a th,L[k]?=!a/\M.ts[k]?=!th/\(th.kd=("folder":Str)->r=.inr k)/\(th.kd≠("folder":Str)->r=.inl (.dz "file")):=by
  cases dM with
  | way h1 h2=>show#[_,h1,fun _=>rfl,fun k ns e=>absurd e (h2 k ns)]
  | file h1 h2 h3 h4 h5=>show#[_,h1,fun k=>absurd h2 (k _ _),fun k ns e=>by rw[h2]at e;cases e;show#[_,_,h3,h4,fun z=>absurd z h5,fun _=>rfl]]
  | ok h1 h2 h3 h4 h5=>show#[_,h1,fun k=>absurd h2 (k _ _),fun k ns e=>by rw[h2]at e;cases e;show#[_,_,h3,h4,fun _=>rfl,fun z=>absurd h5 z]]
 let⟨e,pg,g1,g2⟩:=hq;show(mI hx sf #[AA,L,M,root,t,e,rfl,i,rfl,pg,fun k ns he=>?_,fun hn=>q1 _ (g1 hn)])
 ·let⟨a,th,ha,aS,r1,r2⟩:=g2 k ns he;show#[a,th,ha,aS,fun hk H1 s1=>#[AA,L,M,k,i.same s1,rfl,rfl,hl,fun H' i' k'=>q2 _ (r1 hk) H' i' ((Kp.of s1).trans k')],fun hk=>q1 _ (r2 hk)]
inductive zH(d:Wd)(t:List Nat):Sum Rf Nat->Prop
 | way {e}:eM d t e->(∀ k ns,e.res≠.found k ns)->zH d t (.inl (.way e.res))
 | acv {e k ns a th}:eM d t e->e.res=.found k ns->d.L[k]?=!a->d.M.ts[k]?=!th->th.ow≠d.z->zH d t (.inl (.dz "mine"))
 | ok {e k ns a th}:eM d t e->e.res=.found k ns->d.L[k]?=!a->d.M.ts[k]?=!th->th.ow=d.z->zH d t (.inr k)
def  acG(N:Cn):Sp:=Fy fun h z pt m r H Q E=>X6 fun A L M root t x=>A8 (pt=Tx.S t) (aF N.CH N.CS N.CT H A L M) (A.a=h) (zH #[L,M,z,true,root] t x) (m∈jU) (r∈jU) (∀ y,x=.inl y->cM N H E y) (∀ k a th,x=.inr k->L[k]?=!a->M.ts[k]?=!th ->
   ∀ H',aF N.CH N.CS N.CT H' A L { M with ts:=M.ts.set k { th with mi:=m,re:=r } }->Kp [A.t,a.th] H H'->Q .aw H')
def R5:aA P w K mg base (cB P w) 16 T.rP.f T.rP.d ["house","asker","path","mine","rest"] (acG T.cn):=by
 show T.rP.F.dG LN (fun _ _ _ _ h=>yh h fun _ _ _ _ _ _=>rfl) fun ax A _ s H vs Q E hr h=>yh h fun hh z pt m r h=>?_;let⟨AA,L,M,root,tt,x,rfl,i,rfl,hx,hm,hr',q1,q2⟩:=h;let⟨e,pa,g1,g2⟩:∃ e,eM ⟨L,M,z,true,root⟩ tt e/\((∀ k ns,e.res≠.found k ns)->x=.inl (.way e.res))/\∀ k ns,e.res=.found k ns->∃ a th,L[k]?=!a/\M.ts[k]?=!th/\(th.ow=z->x=.inr k)/\(th.ow≠z->x=.inl (.dz "mine")):=by
  cases hx with
  | way h1 h2=>show#[_,h1,fun _=>rfl,fun k ns e=>absurd e (h2 k ns)]
  | acv h1 h2 h3 h4 h5=>show#[_,h1,fun k=>absurd h2 (k _ _),fun k ns e=>by rw[h2]at e;cases e;show#[_,_,h3,h4,fun z=>absurd z h5,fun _=>rfl]]
  | ok h1 h2 h3 h4 h5=>show#[_,h1,fun k=>absurd h2 (k _ _),fun k ns e=>by rw[h2]at e;cases e;show#[_,_,h3,h4,fun _=>rfl,fun z=>absurd h5 z]]
 let⟨oU,gc,gh,oY,gi⟩:=i.h;show bF (b:=aU By) ((al (aN (jW<&>T.dP (ad 0) (aa (ad 1) ae)))
 (al (aN (kX<$>T.cH (aa (ad 2) ae)))
 (al (aN (rS<$>T.fe (aa (ad 3) ae)))
 (al (aN (rS<$>T.fe (aa (ad 4) ae)))
 (al (aM 5 LN.nd (Nz<*>T.mL (aa (ad 0) (aa (ad 1) (aa (ad 2) ae)))))
 (al (aV (aX me (Zv<*T.vd (ad 0) (aa (ad 5) ae)) (ad 1)) (aj (kO lq rfl rfl T.lL T.kG T.lU (lO T) hr.m T.iU.b (aa am ae))) bv)
 (aj (aN (Wa*>T.uu (bi T.aD T.gR (ad 0)) (aa (ad 5) (aa (ad 3) (aa (ad 4) ae))))))))))))) ?_
 exists 1;right;show(mI gh gi (kZ i pa.hz (ao ?_)));left;show#[tt,rfl,pa.l1,pa.l2,pa.all,fun H1 l p s1 _ hl hp=>ao ?_];left;show#[hm,ao ?_];left;show#[hr',ao ?_];left;show#[AA,L,M,root,tt,e,rfl,i.same s1,rfl,pa,fun k ns he H2 s2=>ao ?_,fun hn=>(q1 _ (g1 hn)).of s1]
 ·left;have i2:=i.same (s1.trans s2);let⟨Hw,GN,oW,GI,oz⟩:=i2.h;let⟨gs,c2,oE,eX,sg⟩:=i2.t;let⟨a,t,ha,ht,g3,g4⟩:=g2 k ns he;show(mI oW oz #[AA,L,M,k,a,t,i2,rfl,rfl,ha,ht,?_]);change(if (Bool.not (decide (t.ow=z)))=true then _ else _);by_cases how:t.ow=z
  ·rw[sw how];show bf (fI oW oz rfl (mI oE sg #[AA,L,M,k,a,t,i2,rfl,rfl,ha,ht,fun H3 i3 k3=>q2 k a t (g3 how) ha ht H3 i3 ((Kp.of (s1.trans s2)).trans k3)]))
  ·rw[kt how];show bS #[_,rfl,fun d hd=>(q1 _ (g4 how)).raise (s1.trans s2) hd]
def  SS(N:Cn):Sp:=jg fun x z pt H Q E=>X6 fun A L M root t r=>A8 (pt=Tx.S t) (aF N.CH N.CS N.CT H A L M) (A.a=x) (ju #[L,M,z,true,root] t r) (M.st.length<=40) (M.ro.length<=40) (∀ x,r=.inl x->cM N H E x) (∀ k,r=.inr k->∀ H',aF N.CH N.CS N.CT H' A L { M with ro:=fH M.ro z k,st:=fH M.st z k }->Kp [A.a,A.ro,A.st] H H'->Q .aw H')
def Wj:aA P w K mg base (cB P w) 17 T.qR.f T.qR.d ["house","asker","path"] (SS T.cn):=by
 show T.qR.F.dG IE (fun _ _ _ _ h=>eG h fun _ _ _ _=>rfl) fun ax A _ s H vs Q E hr h=>eG h fun x z pt h=>?_;let⟨AA,L,M,root,t,r,rfl,i,rfl,dM,hl,hlr,q1,q2⟩:=h;let⟨e,pg,g1,g2⟩:∃ e,eM ⟨L,M,z,true,root⟩ t e/\((∀ k ns,e.res≠.found k ns)->r=.inl (.way e.res))/\∀ k ns,e.res=.found k ns->∃ a th,L[k]?=!a/\M.ts[k]?=!th/\(th.kd=("folder":Str)->r=.inr k)/\(th.kd≠("folder":Str)->r=.inl (.dz "file")):=by
  cases dM with
  | way h1 h2=>show#[_,h1,fun _=>rfl,fun k ns e=>absurd e (h2 k ns)]
  | file h1 h2 h3 h4 h5=>show#[_,h1,fun k=>absurd h2 (k _ _),fun k ns e=>by rw[h2]at e;cases e;show#[_,_,h3,h4,fun z=>absurd z h5,fun _=>rfl]]
  | ok h1 h2 h3 h4 h5=>show#[_,h1,fun k=>absurd h2 (k _ _),fun k ns e=>by rw[h2]at e;cases e;show#[_,_,h3,h4,fun _=>rfl,fun z=>absurd h5 z]]
 show bF (b:=aU E2) ((al (aM 3 IE.nd (Cj<*>T.je (aa (ad 0) (aa (ad 1) (aa (ad 2) ae)))))
 (al (aN (aay<*T.lS (ad 0) (aa (ad 1) (aa (ad 3) ae))))
 (aj (aN (KC<*T.jS (ad 0) (aa (ad 1) (aa (ad 3) ae)))))))) ?_
 exists 1;right;show#[AA,L,M,root,t,e,rfl,i,rfl,pg,fun k ns he=>?_,fun hn=>q1 _ (g1 hn)]
 ·let⟨a,th,ha,aS,r1,r2⟩:=g2 k ns he;show#[a,th,ha,aS,fun hk H1 s1=>ao ?_,fun hk=>q1 _ (r2 hk)];have i1:=i.same s1;let⟨eY,c1,bg,fT,bX⟩:=i1.h;left;show(mI bg bX #[AA,L,M,k,i1,rfl,rfl,hlr,fun H2 i2 k2=>?_]);let⟨ia,c2,bT,gF,bY⟩:=i2.h;left;show(mI bT bY #[AA,L,_,k,i2,rfl,rfl,hl,fun H3 i3 k3=>q2 _ (r1 hk) H3 i3 ((Kp.of s1).trans ((k2.more ()).trans (k3.more ())))])
def  RE(CH CS CT:ϋ):Sp:=jg fun x m own H Q _=>X3 fun A L M=>A6 (aF CH CS CT H A L M) (A.a=x) (ah (sD M.tr) (.inr m)=none) (L.length<=400) (M.tr.length<=40) (∀ a' H',aF CH CS CT H' A (L++[a']) { M with ts:=M.ts++[#["folder",own,"lgw","lg","",[],[]]],tr:=M.tr++[(m,M.ts.length)] }->Kp [A.a,A.t,A.ml,A.tr] H H'->Q (.int (M.ts.length:Nat)) H')
def Wk:T.ku.k P w mg base 5 (RE T.aI T.aK T.aQ):=by
 show T.ku.F.ok yJ (fun _ _ _ _ h=>eG h fun _ _ _ _=>rfl) fun ax A _ s H vs Q E hr h=>eG h fun x m own h=>?_;let⟨AA,L,M,i,rfl,hm,hL,ly,q⟩:=h;let⟨fs,c,hx,aO,sf⟩:=i.h;let⟨gs,c2,ht,eX,sg⟩:=i.t;show#[_,((al (aM 3 yJ.nd (BG*>T.l9 (bi T.aD T.gR (ad 0)) (aa (ad 2) (aa am (aa am ae)))))
 (al (js T.aD T.qf jv (ad 0) ap)
 (al (ng (eL hr) (bi T.aD T.nR (ad 0)) (ad 1) (ad 3))
 (aj (aL (ad 3))))))).h,?_]
 exists 1;right;show#[AA.a,_,fs,-AA.t,rfl,hx,(sf _).trans rfl,AA.t,_,gs,rfl,ht,(sg _).trans rfl,?_];show#[AA.dt,AA.ml,_,yT i,by rw[lv];omega,?_];intro th dI nm pl ks H1 f1 f2 f3 at1 hth1 hkl1 sk1 hnm1 tR iz;have hlen:(L.map fun a=>V.ref a.th).length=L.length:=lv _;rw[hlen]at sk1 ⊢;have i1:=i.add f1 f2 f3 at1 hth1 hkl1 sk1 hnm1 tR iz;let⟨eY,c1,bg,fT,bX⟩:=i1.h;let⟨e1,e2,e3,e4,e5,e6,e7,e8,e9,tP,qA,tY,wX,wL,qq⟩:=i1.uS;have wR:=i.len;right;show#[AA.a,_,eY,.int c1,rfl,bg,(bX _).trans rfl,_,_,rfl,rfl,_,eY,bg,∅,ao ?_];left;show#[AA.a,_,_,-AA.tr,rfl,ay,by rw[en,wf ⋯];show(bX _).trans rfl,AA.tr,_,rfl,ie.k (k:=.inr m) (by rw[ag e3];show i1.tr) (gG (by rw[E4];change M.tr.length<=1000;omega)),?_];rw[show((L.length:Nat):Int)=((M.ts.length:Nat):Int) by rw[wR]];rw[we (l:=M.tr) hm];left;show q #[th,dI,nm,pl] _ (i1.sI (ro':=M.ro) (st':=M.st) (tr':=M.tr++[(m,M.ts.length)]) (ov':=M.ov) (un':=M.un) #[az "changes" (.int (c1+1)) eY,c1+1,by rw[ag (ss e3),ay],by rw[fC (u:=.int c1) ((bX _).trans rfl)];show fT,fun f=>((bX.put "changes" (.int (c1+1))) f).trans rfl] (by rw[ag (ss e7),ag e1];show i1.ro) (by rw[ag (ss tP),ag e2];show i1.st) ay (by rw[ag wX,ag e4];show i1.ov) (by rw[ag wL,ag e5];show i1.un) ?_) ?_
 ·intro b o hb e;simp only[li,lm,wP,Ps]at hb;rw[ag hb.2.2.2.1,ag hb.1];show e
 ·intro b o hb e;simp only[li,lm,wP,Ps]at hb;rw[ag hb.2.2.2,ag hb.1];show iz _ _ (by simp[hb.2.1,hb.2.2.1]) e
def Xa{M:Hs}{m:Str}:g9 (V.str m) ((cK M).map V.str)=(ah (sD M.tr) (.inr m)).isSome:=by
 have h1:(m∈cK M) ↔ m∈M.tr.map (·.1):=(lQ _).mem_iff;cases e:(ah (sD M.tr) (.inr m)).isSome with
 | true =>
  show Ja8.mpr #[.str m,wS.mpr #[m,h1.mpr ?_,rfl],by simp[fE]];unfold ah at e;rw[SL,_C]at e;let⟨x,hx,hk⟩:=e;let⟨y,hy,rfl⟩:=wS.mp hx;have:y.1=m:=Jaa (_A hk);show wS.mpr #[y,hy,this]
 | false =>
  cases e2:g9 (V.str m) ((cK M).map V.str) with
  | false=>rfl
  | true =>
   let⟨v,hv,hq⟩:=Ja8.mp e2;let⟨y,hy,rfl⟩:=wS.mp hv;have hym:y=m:=by simpa [fE] using hq
   subst hym;let⟨x,hx,rfl⟩:=wS.mp ((lQ _).mem_iff.mp hy);have:(ah (sD M.tr) (.inr x.1)).isSome=true:=by
    unfold ah;rw[SL,_C];show#[_,wS.mpr #[x,hx,rfl],()]
   rw[this]at e;cases e
def  RM(N:Cn):Sp:=jg fun x z m H Q E=>X3 fun A L M=>A9 (aF N.CH N.CS N.CT H A L M) (A.a=x) ((ah (sD M.ro) (.inr z)).isSome=true) (fS (.str m)=true) (m.length<=1000) (L.length<=400) (M.tr.length<=40) ((ah (sD M.tr) (.inr m)).isSome=true->cM N H E (.dz "there")) (ah (sD M.tr) (.inr m)=none->∀ a' H',aF N.CH N.CS N.CT H' A (L++[a']) { M with ts:=M.ts++[#["folder",z,"lgw","lg","",[],[]]],tr:=M.tr++[(m,M.ts.length)] }->Kp [A.a,A.t,A.ml,A.tr] H H'->Q (.int (M.ts.length:Nat)) H')
def Zt:aA P w K mg base (cB P w) 6 T.rH.f T.rH.d ["house","asker","tree"] (RM T.cn):=by
 show T.rH.F.dG Wl (fun _ _ _ _ h=>eG h fun _ _ _ _=>rfl) fun ax A _ s H vs Q E hr h=>eG h fun x z m h=>?_;let⟨AA,L,M,i,rfl,hz,hn,iw,hL,ly,q1,q2⟩:=h;let⟨fs,c,hx,aO,sf⟩:=i.h;show bF (b:=aU B0) ((al (aN (jW<&>T.dP (ad 0) (aa (ad 1) ae)))
 (al (aN (y8<$>T.hV (aa (ad 2) ae)))
 (al (aV (aX (rT (K:=K) rfl) (ad 2) (lT T.aD T.gL.h (rY T) hr.m T.gL.b .nil aq (ad 0))) (aj (kO lq rfl rfl T.lL T.kG T.lU (lO T) hr.m T.iU.b (aa am ae))) bv)
 (aj (aL (Wk<*T.ku (ad 0) (aa (ad 2) (aa (ad 1) ae))))))))) ?_
 exists 0;right;show(mI hx sf (kZ i hz (ao ?_)));left;show#[#[_,rfl],iw,hn,fun H1 s1=>ao ?_];have i1:=i.same s1;let⟨eY,c1,bg,fT,bX⟩:=i1.h;left;show(mI bg bX #[AA,L,M,i1,rfl,∅,fun l hl=>?_]);show dh hl fun H2 s2 b2=>?_;have i2:=i1.same s2;let⟨ia,c2,bT,gF,bY⟩:=i2.h
 rwa [b2]
 show#[rfl,by simp[cN],?_];rw[Xa];cases hv:ah (sD M.tr) (.inr m) with
 | some v=>show bS #[_,rfl,fun d hd=>(q1 (by rw[hv];rfl)).raise (s1.trans s2) hd]
 | none =>
  show bf ?_;left;show(mI bT bY #[AA,L,M,i2,rfl,hv,hL,ly,fun a' H' i' k'=>q2 hv a' H' i' ((Kp.of (s1.trans s2)).trans k')])
def  iS(M:Hs)(L:List Ta)(o:Str):Nat->Str->Bool->Prop
 | n,y,v=>if y=o then v=true else ∃ r:Nat,ah (sD M.tr) (.inr y)=!.int (r:Int)/\((ah (nD M.un) (.inl (r:Int))=none/\v=false)\/∃ (f u:Nat) (y':Str),ah (nD M.un) (.inl (r:Int))=!.int (f:Int)/\(∃ m,gY M L m f u)/\sL M u y'/\match n with | 0=>False | n+1=>iS M L o n y' v)
def  acg(CH CS CT:ϋ):Sp:=jg fun x y o H Q _=>X4 fun A L M v=>A5 (aF CH CS CT H A L M) (A.a=x) (M.tr.length < 64) (∃ m,iS M L o m y v) (∀ H',ai H H'->Q (.bl v) H')
def abv:T.rn.k P w base 6 (acg T.aI T.aK T.aQ):=by
 show T.rn.F.ok y9 (fun _ _ _ _ h=>eG h fun _ _ _ _=>rfl) fun ax A _ s H vs Q E hr h=>eG h fun x y o h=>?_;let⟨AA,L,M,v,i,rfl,dE,⟨m,hm⟩,q⟩:=h;show bF (b:=aU FG) ((al (aM 3 y9.nd (ad 1))
 (al (j3 Db (aX me (ad 3) (ad 2)) (al (aM 4 y9.nd (pF<*T.fV (ad 0) (aa (ad 3) ae)))
 (al (aV (aX nF (ad 4) aw) (aj (aL em)) bv)
 (aj (aM 3 y9.nd (Lv<$>T.lJ (aa (ad 0) (aa (ad 4) ae))))))))
 (aj (aL em))))) ?_
 exists 2;right;let⟨PV,ja⟩:∃ PV:Nat->St->Hp->Prop,PV=fun m σ' H'=>ai H H'/\∃ (y':Str) (pv:Option V),σ'=[!V.ref AA.a,!V.str y,!V.str o,!V.str y',pv]/\iS M L o m y' v:=#[_,rfl];show ao #[PV,#[m,by rw[ja];show#[ai.refl _,y,none,rfl,hm]],?_];clear hm;intro m σ' H' hI;rw[ja]at hI;let⟨s',y',pv,rfl,hm⟩:=hI;have i':=i.same s';let⟨fs,c,hx,aO,sf⟩:=i'.h;unfold iS at hm;left;by_cases hy:y'=o
 ·rw[wl hy]at hm;subst hm;rw[sw hy];show bf (q _ s')
 ·rw[wf hy]at hm;rw[kt hy];let⟨r,hr,hc⟩:=hm;show bS #[_,fun _ _ h=>h,?_];right;show(mI hx sf #[AA,L,M,r,i',rfl,hr,?_]);rcases hc with ⟨hu,rfl⟩ | ⟨f,u,y2,hu,lD,ht,hn⟩
  ·rw[hu];right;show#[by trivial,bS (q _ s')]
  ·rw[hu];right;show#[by trivial,?_];rw[kt (by nofun)];show bf ?_;show#[AA,L,M,f,u,y2,i',rfl,rfl,lD,dE,ht,fun H2 s2=>?_];cases m with
   | zero=>show hn.elim
   | succ m =>
    show#[m,FM m,?_];rw[ja];show#[s'.trans s2,y2,_,rfl,hn]
def cu{A B:TS}{D:Ends}{σ:L2.St}{H:Hp}(h:∀ N:L2.St->Hp->Prop,(∀ σ' H',B D σ' H'->N σ' H')->A { D with nx:=N } σ H):lK A B D σ H:=ao (h _ fun _ _ x=>x)
inductive pR(d:Wd)(f:Nat)(y:Str):Sum Rf Nat->Prop
 | main:y=("main":Str)->pR d f y (.inl (.dz "hung"))
 | Jg {r g:Nat}:y≠("main":Str)->ah (sD d.M.tr) (.inr y)=!.int (r:Int)->ah (nD d.M.un) (.inl (r:Int))=!.int (g:Int)->pR d f y (.inl (.dz "hung"))
 | ring {r u:Nat}{x:Str}:y≠("main":Str)->ah (sD d.M.tr) (.inr y)=!.int (r:Int)->ah (nD d.M.un) (.inl (r:Int))=none->(∃ m,gY d.M d.L m f u)->sL d.M u x->(∃ m,iS d.M d.L y m x true)->pR d f y (.inl (.dz "ring"))
 | ok {r u:Nat}{x:Str}{tf:Th}{o:Sum Rf Nat}:y≠("main":Str)->ah (sD d.M.tr) (.inr y)=!.int (r:Int)->ah (nD d.M.un) (.inl (r:Int))=none->(∃ m,gY d.M d.L m f u)->sL d.M u x->(∃ m,iS d.M d.L y m x false)->d.M.ts[f]?=!tf->ah (nD d.M.ov) (.inl (f:Int))=none->o=(if dO ("w":Str) (dB tf d.z)=true then .inr r else .inl (.dz "kept"))->pR d f y o
inductive uF(d:Wd)(t:List Nat)(y:Str):Sum Rf (Nat×Nat)->Prop
 | no {x}:ju d t (.inl x)->uF d t y (.inl x)
 | go {f x}:ju d t (.inr f)->pR d f y (.inl x)->uF d t y (.inl x)
 | ok {f r}:ju d t (.inr f)->pR d f y (.inr r)->uF d t y (.inr (f,r))
def ju.go{d:Wd}{t:List Nat}{r:Sum Rf Nat}(h:ju d t r):∃ e,eM d t e/\((∀ k ns,e.res≠.found k ns)->r=.inl (.way e.res))/\∀ k ns,e.res=.found k ns->∃ a th,d.L[k]?=!a/\d.M.ts[k]?=!th/\(th.kd=("folder":Str)->r=.inr k)/\(th.kd≠("folder":Str)->r=.inl (.dz "file")):=by
 cases h with
 | way h1 h2=>show#[_,h1,fun _=>rfl,fun k ns e=>absurd e (h2 k ns)]
 | file h1 h2 h3 h4 h5=>show#[_,h1,fun k=>absurd h2 (k _ _),fun k ns e=>by rw[h2]at e;cases e;show#[_,_,h3,h4,fun z=>absurd z h5,fun _=>rfl]]
 | ok h1 h2 h3 h4 h5=>show#[_,h1,fun k=>absurd h2 (k _ _),fun k ns e=>by rw[h2]at e;cases e;show#[_,_,h3,h4,fun _=>rfl,fun z=>absurd h5 z]]
def  ab9(N:Cn)(CR:ϋ):Sp:=BQ fun x z y pt H Q E=>X5 fun A L M root t=>rB (pt=Tx.S t) (aF N.CH N.CS N.CT H A L M) (A.a=x) (fb t) ((ah (sD M.ro) (.inr z)).isSome=true) (M.tr.length < 64) (M.ov.length<=40) (M.un.length<=40) (ah (sD M.tr) (.inr y)=none->∀ H',ai H H'->E (-CR) none H') ((ah (sD M.tr) (.inr y)).isSome=true->∃ r,uF #[L,M,z,true,root] t y r/\(∀ x,r=.inl x->cM N H E x)/\∀ f k,r=.inr (f,k)->∀ H',aF N.CH N.CS N.CT H' A L { M with ov:=M.ov++[(f,k)],un:=M.un++[(k,f)] }->Kp [A.a,A.ov,A.un] H H'->Q .aw H')
def aci:aA P w K mg base (cB P w) 17 T.rG.f T.rG.d ["house","asker","tree","path"] (ab9 T.cn T.mT):=by
 show T.rG.F.dG Jy (fun _ _ _ _ h=>xE h fun _ _ _ _ _=>rfl) fun ax A _ s H vs Q E hr h=>xE h fun x z y pt h=>?_;let⟨AA,L,M,root,t,rfl,i,rfl,hp,hz,dE,jC,hul,q1,q2⟩:=h;let⟨fs,c,hx,aO,sf⟩:=i.h;show bF (b:=aU Bh) ((al (aN (jW<&>T.dP (ad 0) (aa (ad 1) ae)))
 (al (aN (kX<$>T.cH (aa (ad 3) ae)))
 (al (aN (Ff<&>T.mw (ad 0) (aa (ad 2) ae)))
 (al (aM 4 Jy.nd (Cj<*>T.je (aa (ad 0) (aa (ad 1) (aa (ad 3) ae)))))
 (al (aV (ff (ge (aX cF (ad 2) (dl (.str "main") T.Mq #[_,rfl])) (jY (aX mx (pF<*T.fV (ad 0) (aa (ad 2) ae)) aw)))) (aj (kO lq rfl rfl T.lL T.kG T.lU (lO T) hr.m T.iU.b (aa am ae))) bv)
 (al (aV (cU (abv<$>T.rn (aa (ad 0) (aa (Lv<$>T.lJ (aa (ad 0) (aa (ad 4) ae))) (aa (ad 2) ae))))) (aj (kO lq rfl rfl T.lL T.kG T.lU (lO T) hr.m T.iU.b (aa am ae))) bv)
 (al (aN (CZ<*>T.jn (aa (ad 0) (aa (ad 1) (aa (ad 4) ae)))))
 (aj (aN (Q8<*T.vh (ad 0) (aa (ad 2) (aa (ad 4) ae))))))))))))) ?_
 exists 1;show cu fun N hN=>?_;left;show(mI hx sf (kZ i hz (hN _ _ (cu fun N hN=>?_))));left;show#[t,rfl,hp.l1,hp.l2,hp.all,fun H1 l p s1 _ hl oy=>hN _ _ (cu fun N hN=>?_)];have i1:=i.same s1;let⟨eY,c1,bg,fT,bX⟩:=i1.h;left;show(mI bg bX #[AA,L,M,i1,rfl,#[_,rfl],fun y' e hy=>?_,fun h=>q1 (h y rfl) _ s1]);cases e;let⟨rr,dM,q3,q4⟩:=q2 hy;let⟨r,hr⟩:∃ r:Nat,ah (sD M.tr) (.inr y)=!.int (r:Int):=by
  let⟨v,hv⟩:=On.mp hy;let⟨k,rfl⟩:=pV hv;show#[k,hv]
 let⟨sr,hsr,g0,g3⟩:∃ sr,ju ⟨L,M,z,true,root⟩ t sr/\(∀ x,sr=.inl x->rr=.inl x)/\∀ f,sr=.inr f->∃ o,pR ⟨L,M,z,true,root⟩ f y o/\(∀ x,o=.inl x->rr=.inl x)/\∀ k,o=.inr k->rr=.inr (f,k):=by
  cases dM with
  | no h=>show#[_,h,fun x e=>by cases e;rfl,nofun]
  | go h h2=>show#[_,h,nofun,fun f e=>by cases e;show#[_,h2,fun x e=>by cases e;rfl,nofun]]
  | ok h h2=>show#[_,h,nofun,fun f e=>by cases e;show#[_,h2,nofun,fun x e=>by cases e;rfl]]
 let⟨e,pg,g1,g2⟩:=hsr.go;show hN _ _ (cu fun N hN=>?_);left;show#[AA,L,M,root,t,e,rfl,i1,rfl,pg,fun k ns he=>?_,fun hn=>(q3 _ (g0 _ (g1 hn))).of s1];let⟨a,th,ha,aS,r1,r2⟩:=g2 k ns he;show#[a,th,ha,aS,fun hk H2 s2=>?_,fun hk=>(q3 _ (g0 _ (r2 hk))).of s1];let⟨o,hF,o1,o2⟩:=g3 k (r1 hk);have i2:=i1.same s2;have qD:=s1.trans s2;let⟨ia,c2,bT,gF,bY⟩:=i2.h;show hN _ _ (cu fun N hN=>?_);left;cases hF with
 | main e =>
  show bI (sw e) (bS #[_,rfl,fun d hd=>(q3 _ (o1 _ rfl)).raise qD hd])
 | Jg n1 n2 n3 =>
  show bh (kt n1) (mI bT bY #[AA,L,M,_,i2,rfl,n2,?_]);rw[n3];show#[by trivial,?_];show bI (GE not (kt (by nofun))) #[_,rfl,fun d hd=>(q3 _ (o1 _ rfl)).raise qD hd]
 | @ring r u x n1 n2 n3 n4 n5 n6 =>
  show bh (kt n1) (mI bT bY #[AA,L,M,_,i2,rfl,n2,?_]);rw[n3];show#[by trivial,bh (GE not (sw rfl)) (hN _ _ (cu fun N hN=>?_))];left;show#[AA,L,M,k,u,x,i2,rfl,rfl,n4,dE,n5,fun H3 s3=>#[AA,L,M,true,i2.same s3,rfl,dE,n6,fun H4 s4=>bS #[_,rfl,fun d hd=>(q3 _ (o1 _ rfl)).raise ((qD.trans s3).trans s4) hd]]]
 | @ok r u x tf _ n1 n2 n3 n4 n5 n6 n7 n8 n9 =>
  show bh (kt n1) (mI bT bY #[AA,L,M,_,i2,rfl,n2,?_]);rw[n3];show#[by trivial,bh (GE not (sw rfl)) (hN _ _ (cu fun N hN=>?_))];left;show#[AA,L,M,k,u,x,i2,rfl,rfl,n4,dE,n5,fun H3 s3=>#[AA,L,M,false,i2.same s3,rfl,dE,n6,fun H4 s4=>bf (hN _ _ (cu fun N hN=>?_))]];have tE:=(qD.trans s3).trans s4;have i4:=i.same tE;let⟨oX,c4,f6,mX,jb⟩:=i4.h;left;show#[AA,L,M,tf,k,rfl,i4,rfl,hz,n7,fun hw=>hN _ _ ?_,fun hw=>(q3 _ (o1 _ ?_)).of tE]
  ·left;show(mI f6 jb #[AA,L,M,k,r,i4,rfl,rfl,n2,n8,n3,jC,hul,fun H' i' k'=>q4 k r (o2 r (by rw[n9];show wl hw)) H' i' ((Kp.of tE).trans k')])
  ·rw[n9];show wf (by rw[hw];nofun)
def  eK(l:List (Nat×Nat))(k:Nat):List (Nat×Nat):=l.filter fun e=>decide (e.1≠k)
def D3{l:List (Nat×Nat)}{k:Nat}:gk (nD l) (.inl (k:Int))=nD (eK l k):=by
 unfold gk nD eK;rw[List.filter_map]
 congr 1
 show List.filter_congr fun e _=>?_;rw[UF];simp only[Function.comp,_i];constructor
 ·show fun h z=>h (by rw[z])
 ·show fun h z=>h (KM (Sum.inl.inj z))
def ke{l:List (Nat×Nat)}{z:Key}{v:V}(h:ah (nD l) z=!v):∃ c:Nat,v=.int (c:Int):=by
 unfold ah at h;let⟨kv,h1,rfl⟩:=LT.mp h;let⟨e,_,rfl⟩:=wS.mp (_e h1);show#[e.2,rfl]
def  aaP(CH CS CT:ϋ):Sp:=iJ fun x z H Q _=>X5 fun A L M (f:Nat) (r:Nat)=>A6 (aF CH CS CT H A L M) (A.a=x) (ah (sD M.tr) (.inr z)=!.int (r:Int)) (ah (nD M.un) (.inl (r:Int))=!.int (f:Int)) (ah (nD M.ov) (.inl (f:Int))=!.int (r:Int)) (∀ H',aF CH CS CT H' A L { M with ov:=eK M.ov f,un:=eK M.un r }->Kp [A.a,A.ov,A.un] H H'->Q .aw H')
def XE:T.wA.k P w mg base 1 (aaP T.aI T.aK T.aQ):=by
 show T.wA.F.ok My (fun _ _ _ _ h=>dU h fun _ _ _=>rfl) fun ax A _ s H vs Q E hr h=>dU h fun x z h=>?_;let⟨AA,L,M,f,r,i,rfl,hz,cZ,eS,q⟩:=h;let⟨fs,c,hx,aO,sf⟩:=i.h;let⟨e1,e2,e3,e4,e5,e6,e7,e8,e9,tP,qA,tY,wX,wL,qq⟩:=i.uS;show bF (b:=aU DH) ((al (js T.aD T.qf jv (ad 0) ap)
 (al (aM 2 My.nd (K7 (bi T.aD T.rV (ad 0)) (pN (eL hr) (bi T.aD T.nR (ad 0)) (ad 1))))
 (aj (aN (K7 (bi T.aD T.u4 (ad 0)) (ad 2))))))) ?_
 exists 1;right;show#[AA.a,_,_,.int c,rfl,hx,(sf _).trans rfl,_,_,rfl,rfl,_,_,hx,∅,ao ?_];have bg:upd H AA.a (.ins T.aI AA.dx (az "changes" (.int (c+1)) fs)) AA.a=!.ins T.aI AA.dx (az "changes" (.int (c+1)) fs):=ay;have bX:dv (az "changes" (.int (c+1)) fs) (pM (c+1) AA):=fun f=>((sf.put "changes" (.int (c+1))) f).trans rfl;have ik:(az "changes" (.int (c+1)) fs).length<=40:=by rw[fC (u:=.int c) ((sf _).trans rfl)];show aO
 have i1:aF T.aI T.aK T.aQ (upd H AA.a (.ins T.aI AA.dx (az "changes" (.int (c+1)) fs))) AA L M:=i.sI (ro':=M.ro) (st':=M.st) (tr':=M.tr) (ov':=M.ov) (un':=M.un) #[_,_,bg,ik,bX] (by rw[ag e1];show i.ro) (by rw[ag e2];show i.st) (by rw[ag e3];show i.tr) (by rw[ag e4];show i.ov) (by rw[ag e5];show i.un) (fun b o hb e=>by
  simp only[li,lm,wP,Ps]at hb;rw[ag hb.1];show e)
 have k1:Kp [AA.a,AA.ov,AA.un] H (upd H AA.a (.ins T.aI AA.dx (az "changes" (.int (c+1)) fs))):=fun b o hb e=>by
  simp only[li,lm,wP,Ps]at hb;rw[ag hb.1];show e
 generalize upd H AA.a (.ins T.aI AA.dx (az "changes" (.int (c+1)) fs))=H1 at bg i1 k1 ⊢;generalize az "changes" (.int (c+1)) fs=eY at bg bX ik;left;show#[AA.a,_,_,-AA.un,rfl,bg,(bX _).trans rfl,AA.un,rfl,.inl #[_,.inl i1.un],AA.a,_,_,-AA.tr,rfl,bg,(bX _).trans rfl,AA.tr,.int r,rfl,?_,_,.inl (r:Int),_,i1.un,rfl,cZ,?_]
 ·have:=dN.k (k:=.inr z) i1.tr;rw[hz]at this;show this
 rw[D3];show#[AA.a,_,_,-AA.ov,rfl,by rw[ag (ss e5)];show bg,(bX _).trans rfl,AA.ov,rfl,.inl #[_,.inl (by rw[ag (ss qq)];show i1.ov)],_,.inl (f:Int),_,by rw[ag (ss qq)];show i1.ov,rfl,eS,?_];rw[D3];show q _ (i1.sI (ro':=M.ro) (st':=M.st) (tr':=M.tr) (ov':=eK M.ov f) (un':=eK M.un r) #[_,_,by rw[ag (ss e4),ag (ss e5)];show bg,ik,bX] (by rw[ag (ss e8),ag (ss e9)];show i1.ro) (by rw[ag (ss qA),ag (ss tY)];show i1.st) (by rw[ag (ss wX),ag (ss wL)];show i1.tr) ay (by rw[ag qq];show ay) (fun b o hb e=>by
  simp only[li,lm,wP,Ps]at hb;rw[ag hb.2.2.2.2.1,ag hb.2.2.2.2.2];show e)) (k1.trans fun b o hb e=>by
  simp only[li,lm,wP,Ps]at hb;rw[ag hb.2.1,ag hb.2.2];show e)
def  XC(N:Cn)(CR:ϋ):Sp:=jg fun x z y H Q E=>X3 fun A L M=>A5 (aF N.CH N.CS N.CT H A L M) (A.a=x) ((ah (sD M.ro) (.inr z)).isSome=true) (ah (sD M.tr) (.inr y)=none->E (-CR) none H) (∀ r:Nat,ah (sD M.tr) (.inr y)=!.int (r:Int)->(ah (nD M.un) (.inl (r:Int))=none->cM N H E (.dz "free"))/\∀ f:Nat,ah (nD M.un) (.inl (r:Int))=!.int (f:Int)->∃ tf,M.ts[f]?=!tf/\(dO ("w":Str) (dB tf z)=false->cM N H E (.dz "kept"))/\(dO ("w":Str) (dB tf z)=true->ah (nD M.ov) (.inl (f:Int))=!.int (r:Int) /\
   ∀ H',aF N.CH N.CS N.CT H' A L { M with ov:=eK M.ov f,un:=eK M.un r }->Kp [A.a,A.ov,A.un] H H'->Q .aw H'))
def Ro:aA P w K mg base (cB P w) 6 T.ra.f T.ra.d ["house","asker","tree"] (XC T.cn T.mT):=by
 show T.ra.F.dG Jk (fun _ _ _ _ h=>eG h fun _ _ _ _=>rfl) fun ax A _ s H vs Q E hr h=>eG h fun x z y h=>?_;let⟨AA,L,M,i,rfl,hz,q1,q2⟩:=h;let⟨fs,c,hx,aO,sf⟩:=i.h;show bF (b:=aU FV) ((al (aN (jW<&>T.dP (ad 0) (aa (ad 1) ae)))
 (al (aN (Ff<&>T.mw (ad 0) (aa (ad 2) ae)))
 (al (aM 3 Jk.nd (pF<*T.fV (ad 0) (aa (ad 2) ae)))
 (al (aV (aX nF (ad 3) aw) (aj (kO lq rfl rfl T.lL T.kG T.lU (lO T) hr.m T.iU.b (aa am ae))) bv)
 (al (aN (CZ<*>T.jn (aa (ad 0) (aa (ad 1) (aa (ad 3) ae)))))
 (aj (aN (XE<*T.wA (ad 0) (aa (ad 2) ae)))))))))) ?_
 exists 1;show cu fun N hN=>?_;left;show(mI hx sf (kZ i hz (hN _ _ (cu fun N hN=>?_))));left;show(mI hx sf #[AA,L,M,i,rfl,#[_,rfl],fun y' e hy=>?_,fun h=>q1 (h y rfl)]);cases e;let⟨v,hv⟩:=On.mp hy;let⟨r,rfl⟩:=pV hv;let⟨q3,q4⟩:=q2 r hv;show hN _ _ (cu fun N hN=>?_);left;show(mI hx sf #[AA,L,M,r,i,rfl,hv,?_]);cases hu:ah (nD M.un) (.inl (r:Int)) with
 | none =>
  show hN _ _ (cu fun N hN=>?_);left;show#[by trivial,bS #[_,rfl,fun d hd=>(q3 hu).raise (fun _ _ e=>e) hd]]
 | some v =>
  let⟨f,rfl⟩:=ke hu;let⟨tf,bE,q5,q6⟩:=q4 f hu;show hN _ _ (cu fun N hN=>?_);left;show#[by trivial,bh (kt (by nofun)) (hN _ _ (cu fun N hN=>?_))];left;show#[AA,L,M,tf,f,rfl,i,rfl,hz,bE,fun hw=>hN _ _ ?_,q5];left;let⟨q7,q8⟩:=q6 hw;show(mI hx sf #[AA,L,M,f,r,i,rfl,hv,hu,q7,q8])
def  AS:List Str:=["ann","bo","cy"]
inductive fR(M:Hs)(k f:Nat):Prop
 | un:ah (nD M.un) (.inl (k:Int))=!.int (f:Int)->fR M k f
 | pl {t:Th}{nm:Str}:M.ts[k]?=!t->t.bV=[(f,nm)]->fR M k f
def  cC(M:Hs):Nat->Nat->Prop
 | 0,k=>∀ f,¬ fR M k f
 | n+1,k=>∃ f,fR M k f/\cC M n f
structure uL(M:Hs)(k:Nat)(t:Th):Prop where
 nl:t.bb.length<=M.ts.length
 kd:t.kd=("folder":Str)\/t.kd=("file":Str)\/t.kd=("lead":Str)
 ld:t.kd=("lead":Str)->∃ tl,t.tx=Tx.S tl/\fb tl/\tl.length<=120
 pl:(t.bV=[]/\t.kd=("folder":Str)/\∃ z,ah (sD M.tr) (.inr z)=!.int (k:Int))\/∃ (f:Nat) (nm:Str) (tf:Th),t.bV=[(f,nm)]/\nm.length<=8/\M.ts[f]?=!tf/\tf.kd=("folder":Str)
 ch:∀ z v,ah (sD t.bb) (.inr z)=!v->∃ (c:Nat) (tc:Th),v=.int (c:Int)/\M.ts[c]?=!tc/\tc.bV=[(k,z)]
structure DC(M:Hs)(z:Str)(r k:Nat):Prop where
 ro:ah (sD M.ro) (.inr z)=!.int (r:Int)
 st:ah (sD M.st) (.inr z)=!.int (k:Int)
 tr:∃ t,M.ts[r]?=!t/\t.kd=("folder":Str)
 tk:∃ t,M.ts[k]?=!t/\t.kd=("folder":Str)
structure Gd(M:Hs):Prop where
 ji:M.tr.length<=M.ts.length
 tn:(M.tr.map (·.1)).Nodup
 tm:ah (sD M.tr) (.inr ("main":Str))=!.int ((0:Nat):Int)
 tq:∀ z v,ah (sD M.tr) (.inr z)=!v->∃ (r:Nat) (t:Th),v=.int (r:Int)/\M.ts[r]?=!t/\t.kd=("folder":Str)/\t.bV=[]
 tu:∀ z z' v,ah (sD M.tr) (.inr z)=!v->ah (sD M.tr) (.inr z')=!v->z=z'
 ou:∀ f r:Nat,ah (nD M.ov) (.inl (f:Int))=some (.int (r:Int)) ↔ ah (nD M.un) (.inl (r:Int))=!.int (f:Int)
 uq:∀ r f:Nat,ah (nD M.un) (.inl (r:Int))=!.int (f:Int)->(∃ z,ah (sD M.tr) (.inr z)=!.int (r:Int))/\∃ t,M.ts[f]?=!t/\t.kd=("folder":Str)
 as:∀ z∈AS,∃ r k,DC M z r k
 rl:M.ro.length<=3
 sl:M.st.length<=3
 t0:∃ t,M.ts[0]?=!t/\t.kd=("folder":Str)
 th:∀ k t,M.ts[k]?=!t->uL M k t
 ac:∀ k t,M.ts[k]?=!t->∃ n,cC M n k
section
variable {M:Hs}{L:List Ta}{z:Str}{r:Nat}
def adr(hL:L.length=M.ts.length){k:Nat}{t:Th}(h:M.ts[k]?=!t):∃ a,L[k]?=!a :=
 #[_,ul (by rw[hL];show(sB.mp h).1)]
def Gd.o9(g:Gd M){k f:Nat}(h:ah (nD M.un) (.inl (k:Int))=!.int (f:Int)):∃ t,M.ts[k]?=!t/\t.bV=[]/\t.kd=("folder":Str):=by
 let⟨⟨z,hz⟩,_⟩:=g.uq k f h;let⟨r,t,e,h1,h2,h3⟩:=g.tq z _ hz;injection e with e;obtain rfl:=KM e;show#[t,h1,h3,h2]
def Gd.mB(g:Gd M){k f f':Nat}(h:fR M k f)(h':fR M k f'):f=f':=by
 cases h with
 | un h =>
  cases h' with
  | un h'=>rw[h]at h';show dH h'
  | pl a b=>let⟨t,h1,h2,_⟩:=g.o9 h;rw[a]at h1;cases h1;rw[h2]at b;cases b
 | pl a b =>
  cases h' with
  | un h'=>let⟨t,h1,h2,_⟩:=g.o9 h';rw[a]at h1;cases h1;rw[h2]at b;cases b
  | pl c d=>rw[a]at c;cases c;rw[b]at d;cases d;rfl
def Gd.kj(g:Gd M){k f:Nat}(h:fR M k f):∃ t,M.ts[f]?=!t/\t.kd=("folder":Str):=by
 cases h with
 | un h=>show(g.uq k f h).2
 | pl a b =>
  rcases (g.th _ _ a).pl with ⟨e,_⟩ | ⟨f',nm,tf,e,_,h1,h2⟩
  ·rw[e]at b;cases b
  ·rw[e]at b;cases b;show#[tf,h1,h2]
def Gd.yy(g:Gd M):∀ {n m k:Nat},cC M n k->cC M m k->n=m
 | 0,0,_,_,_=>rfl
 | 0,m+1,k,h,⟨f,h1,_⟩=>absurd h1 (h f)
 | n+1,0,k,⟨f,h1,_⟩,h=>absurd h1 (h f)
 | n+1,m+1,k,⟨f,h1,h2⟩,⟨f',h3,h4⟩=>by
  obtain rfl:=g.mB h1 h3;rw[g.yy h2 h4]
def Mf:∀ (N:Nat) (l:List Nat),l.Nodup->(∀ x∈l,x < N)->l.length<=N
 | 0,[],_,_=>pi _
 | 0,a::l,_,h=>absurd (h a ()) (_g _)
 | N+1,l,nd,h=>by
  have h1:=Mf N (l.erase N) (nd.erase N) fun x hx=>by
   have h2:=h x (List.mem_of_mem_erase hx);have:x≠N:=fun e=>by rw[e]at hx;show(nd.mem_erase_iff.mp hx).1 rfl
   omega
  have h2:=List.length_erase (a:=N) (l:=l);split at h2 <;> omega
def Gd.Ou(g:Gd M):∀ (n k:Nat) (t:Th),M.ts[k]?=!t->cC M n k->∃ l:List Nat,l.length=n+1/\l.Nodup/\∀ x∈l,x < M.ts.length/\∃ j,j<=n/\cC M j x
 | 0,k,t,ht,h=>#[[k],rfl,(),fun x hx=>by rw[Ch.mp hx];show#[(sB.mp ht).1,0,pi _,h]]
 | n+1,k,t,ht,⟨f,h1,h2⟩=>by
  let⟨tf,hf,_⟩:=g.kj h1;let⟨l,e1,e2,e3⟩:=g.Ou n f tf hf h2;show#[k::l,by rw[xz,e1],AT.mpr #[fun hm=>?_,e2],fun x hx=>?_]
  ·let⟨_,j,hj,hd⟩:=e3 k hm;have:=g.yy hd (show cC M (n+1) k from#[f,h1,h2]);omega
  ·rcases li.mp hx with rfl | hx
   ·show#[(sB.mp ht).1,n+1,pi _,f,h1,h2]
   ·let⟨a,j,hj,hd⟩:=e3 x hx;show#[a,j,∅,hd]
def Gd.zE(g:Gd M){n k:Nat}{t:Th}(ht:M.ts[k]?=!t)(h:cC M n k):n < M.ts.length:=by
 let⟨l,e1,e2,e3⟩:=g.Ou n k t ht h;have:=Mf _ l e2 fun x hx=>(e3 x hx).1;omega
def Gd.AR(g:Gd M):∀ (n k:Nat) (t:Th),M.ts[k]?=!t->t.kd=("folder":Str)->cC M n k->∃ m b tb n',eI M m k b/\M.ts[b]?=!tb/\tb.kd=("folder":Str)/\n'<=n/\cC M n' b
 | n,k,t,ht,hk,h=>by
  cases hu:ah (nD M.un) (.inl (k:Int)) with
  | none=>show#[0,k,t,n,#[hu,rfl],ht,hk,pi _,h]
  | some v =>
   let⟨f,rfl⟩:=ke hu
   match n,h with
   | 0,h=>show absurd (.un hu) (h f)
   | n+1,⟨f',h1,h2⟩ =>
    obtain rfl:=g.mB h1 (.un hu);let⟨tf,h3,h4⟩:=g.kj h1;let⟨m,b,tb,n',a1,a2,a3,a4,a5⟩:=g.AR n f' tf h3 h4 h2;show#[m+1,b,tb,n',#[f',hu,a1],a2,a3,∅,a5]
def Gd.Om(g:Gd M):∀ (j n k:Nat) (t:Th),M.ts[k]?=!t->t.kd=("folder":Str)->cC M n k->M.ts.length<=n+j->∃ m l,cX M m k l/\m<=j
 | 0,n,k,t,ht,_,h,hj=>by have:=g.zE ht h;omega
 | j+1,n,k,t,ht,hk,h,hj=>by
  cases ho:ah (nD M.ov) (.inl (k:Int)) with
  | none=>show#[0,[],#[ho,rfl],wT _]
  | some v =>
   let⟨q,rfl⟩:=ke ho;have hu:=(g.ou k q).mp ho;let⟨tq,h1,_,h2⟩:=g.o9 hu;let⟨m,l,a1,a2⟩:=g.Om j (n+1) q tq h1 h2 #[k,.un hu,h] ∅;show#[m+1,q::l,#[q,l,ho,a1,rfl],∅]
def Gd.dk(g:Gd M)(hn:M.ts.length<=90){k:Nat}{t:Th}(ht:M.ts[k]?=!t)(hk:t.kd=("folder":Str)):∃ b l,cf M k b l:=by
 let⟨n,hd⟩:=g.ac k t ht;let⟨m,b,tb,n',a1,a2,a3,a4,a5⟩:=g.AR n k t ht hk hd;let⟨m2,l,b1,b2⟩:=g.Om M.ts.length n' b tb a2 a3 a5 ∅;show#[b,l,#[m,a1],m2,b1,∅]
def oi(b q:Nat)(l:List Nat):aZ b (q::l)=aZ q l:=by unfold aZ;simp
def Gd.JU(g:Gd M){b:Nat}:∀ {m n k:Nat}{l:List Nat},cX M m k l->eI M n k b->∃ n',eI M n' (aZ k l) b
 | 0,n,k,l,⟨_,e⟩,h=>by rw[e];show#[n,h]
 | m+1,n,k,l,⟨q,l',h1,h2,e⟩,h=>by
  rw[e,oi];show g.JU h2 (n:=n+1) #[k,(g.ou k q).mp h1,h]
def cX.top:∀ {m k:Nat}{l:List Nat},cX M m k l->ah (nD M.ov) (.inl ((aZ k l:Nat):Int))=none
 | 0,k,l,⟨h,e⟩=>by rw[e];show h
 | m+1,k,l,⟨q,l',h1,h2,e⟩=>by rw[e,oi];show cX.top h2
def Gd.EH(g:Gd M){k b:Nat}{l:List Nat}(h:cf M k b l):cf M (aZ b l) b l:=by
 let⟨⟨n,h1⟩,m,h2,h3⟩:=h;have h0:eI M 0 b b:=by
  clear h2 h3
  induction n generalizing k with
  | zero=>let⟨e,rfl⟩:=h1;show#[e,rfl]
  | succ n ih=>let⟨k',_,h⟩:=h1;show ih h
 show#[g.JU h2 h0,m,h2,h3]
def Gd.xK(g:Gd M):∀ {m k b:Nat}{t:Th},eI M m k b->M.ts[k]?=!t->t.kd=("folder":Str)->∃ tb,M.ts[b]?=!tb/\tb.kd=("folder":Str)
 | 0,k,b,t,⟨_,e⟩,ht,hk=>by rw[e];show#[t,ht,hk]
 | m+1,k,b,t,⟨k',h1,h⟩,_,_=>by
  let⟨_,t',h2,h3⟩:=g.uq k k' h1;show g.xK h h2 h3
def Gd.EO(g:Gd M):∀ {m k:Nat}{l:List Nat}{t:Th},cX M m k l->M.ts[k]?=!t->t.kd=("folder":Str)->∃ tb,M.ts[aZ k l]?=!tb/\tb.kd=("folder":Str)
 | 0,k,l,t,⟨_,e⟩,ht,hk=>by rw[e];show#[t,ht,hk]
 | m+1,k,l,t,⟨q,l',h1,h2,e⟩,ht,hk=>by
  let⟨tq,h3,_,h4⟩:=g.o9 ((g.ou k q).mp h1);rw[e,oi];show g.EO h2 h3 h4
def Gd.jq(g:Gd M){k b:Nat}{l:List Nat}{t:Th}(h:cf M k b l)(ht:M.ts[k]?=!t)(hk:t.kd=("folder":Str)):(∃ tb,M.ts[b]?=!tb/\tb.kd=("folder":Str))/\∃ tb,M.ts[aZ b l]?=!tb/\tb.kd=("folder":Str):=by
 let⟨⟨n,h1⟩,m,h2,h3⟩:=h;let⟨tb,a1,a2⟩:=g.xK h1 ht hk;show#[#[tb,a1,a2],g.EO h2 a1 a2]
def Gd.seen(g:Gd M)(hL:L.length=M.ts.length)(hn:M.ts.length<=90):∀ (n k:Nat) (t:Th),M.ts[k]?=!t->t.kd=("folder":Str)->(∃ j,j<=n/\cC M j k)->∃ v,eg M L r (n+1) k v
 | n,k,t,ht,hk,⟨j,hj,hd⟩=>by
  let⟨a,ha⟩:=adr hL ht;let⟨b,l,hs⟩:=g.dk hn ht hk;by_cases h1:k=aZ b l
  ·by_cases h2:fg r (b::l)=true
   ·show#[true,by unfold eg;show#[b,l,a,t,ha,ht,hs,by rw[wl h1,wl h2]]]
   ·let⟨⟨tb,c9,z8⟩,_⟩:=g.jq hs ht hk;let⟨ab,c8⟩:=adr hL c9;rcases (g.th _ _ c9).pl with ⟨e,_⟩ | ⟨f,nm,tf,e,_,bE,cD⟩
    ·show#[false,by unfold eg;show#[b,l,a,t,ha,ht,hs,by rw[wl h1,wf h2];show#[ab,tb,c8,c9,.inl #[e,rfl]]]]
    ·let⟨m',b',tb',n',a1,a2,_,a4,a5⟩:=g.AR j k t ht hk hd;obtain rfl:b=b':=by let⟨⟨_,h⟩,_⟩:=hs;show eI.uniq h a1
     have lD:fR M b f:=.pl c9 e
     match n',a5 with
     | 0,a5=>show absurd lD (a5 f)
     | n' + 1,⟨f',b1,b2⟩ =>
      obtain rfl:=g.mB b1 lD
      match n,hj with
      | 0,hj=>omega
      | n+1,hj =>
       let⟨v,hv⟩:=g.seen hL hn n f' tf bE cD #[n',∅,b2];show#[v,by unfold eg;show#[b,l,a,t,ha,ht,hs,by rw[wl h1,wf h2];show#[ab,tb,c8,c9,.inr #[f',nm,e,hv]]]]
  ·show#[false,by unfold eg;show#[b,l,a,t,ha,ht,hs,by rw[wf h1]]]
end
section
variable {M:Hs}{L:List Ta}{z:Str}{r:Nat}
def  fj(M:Hs)(L:List Ta)(r k:Nat):Prop:=∃ m,eg M L r m k true
def cX.next:∀ {m k:Nat}{l:List Nat}{x y:Nat},cX M m k l->x∈k::l->ah (nD M.ov) (.inl (x:Int))=!.int (y:Int)->y∈k::l
 | 0,k,l,x,y,⟨h,e⟩,hx,hy=>by
  subst e;rw[Ch.mp hx,h]at hy;cases hy
 | m+1,k,l,x,y,⟨q,l',h1,h2,e⟩,hx,hy=>by
  subst e;rcases li.mp hx with rfl | hx
  ·rw[h1]at hy;obtain rfl:=dH hy;simp
  ·show Fr _ (cX.next h2 hx hy)
def Gd.IM(g:Gd M):∀ {n m k b:Nat}{l:List Nat},eI M n k b->cX M m b l->k∈b::l
 | 0,m,k,b,l,⟨_,e⟩,_=>by rw[e];simp
 | n+1,m,k,b,l,⟨k',h1,h⟩,hu=>hu.next (g.IM h hu) ((g.ou k' k).mpr h1)
def Gd.SJ(g:Gd M){k b:Nat}{l:List Nat}(h:cf M k b l):k∈b::l:=by
 let⟨⟨n,h1⟩,m,h2,_⟩:=h;show g.IM h1 h2
def Gd.yB(g:Gd M)(hL:L.length=M.ts.length){b:Nat}{l:List Nat}{t:Th}(h:cf M r b l)(ht:M.ts[r]?=!t)(hk:t.kd=("folder":Str)):fj M L r (aZ b l):=by
 let⟨_,tt,h1,h2⟩:=g.jq h ht hk;let⟨a,ha⟩:=adr hL h1;show#[0,?_];unfold eg;show#[b,l,a,tt,ha,h1,g.EH h,by rw[wl rfl,wl (AN (g.SJ h))]]
def Gd.S8(g:Gd M){k f:Nat}{nm:Str}{t:Th}(ht:M.ts[k]?=!t)(hp:t.bV=[(f,nm)]):ah (nD M.un) (.inl (k:Int))=none:=by
 cases hu:ah (nD M.un) (.inl (k:Int)) with
 | none=>rfl
 | some v =>
  let⟨q,rfl⟩:=ke hu;let⟨t',h1,h2,_⟩:=g.o9 hu;rw[ht]at h1;cases h1;rw[h2]at hp;cases hp
def Gd.aaF(g:Gd M){k f b:Nat}{nm:Str}{t:Th}{l:List Nat}(ht:M.ts[k]?=!t)(hp:t.bV=[(f,nm)])(h:cf M k b l):b=k:=by
 let⟨⟨n,h1⟩,_⟩:=h;show eI.uniq h1 (show eI M 0 k k from#[g.S8 ht hp,rfl])
def Gd.Md(g:Gd M)(hL:L.length=M.ts.length){k f b:Nat}{l:List Nat}{nm:Str}{t:Th}(ht:M.ts[k]?=!t)(hk:t.kd=("folder":Str))(hp:t.bV=[(f,nm)])(hf:fj M L r f)(h:cf M k b l):fj M L r (aZ b l):=by
 obtain rfl:=g.aaF ht hp h;let⟨m,hm⟩:=hf;let⟨_,tt,h1,h2⟩:=g.jq h ht hk;let⟨a,ha⟩:=adr hL h1;let⟨ab,c8⟩:=adr hL ht;show#[m+1,?_];unfold eg;show#[b,l,a,tt,ha,h1,g.EH h,?_];rw[wl rfl];by_cases h3:fg r (b::l)=true
 ·rw[wl h3]
 ·rw[wf h3];show#[ab,t,c8,ht,.inr #[f,nm,hp,hm]]
def fj.inv{k b:Nat}{l:List Nat}(h:fj M L r k)(hs:cf M k b l):k=aZ b l/\(fg r (b::l)=true\/fg r (b::l)=false/\∃ ab tb f nm,L[b]?=!ab/\M.ts[b]?=!tb/\tb.bV=[(f,nm)]/\fj M L r f):=by
 let⟨m,h⟩:=h;unfold eg at h;let⟨b',l',a,t,ha,ht,hs',h⟩:=h;let⟨rfl,rfl⟩:=hs.uniq hs';split at h
 ·rename_i e;show#[e,?_];split at h
  ·rename_i e2;show .inl e2
  ·rename_i e2;let⟨ab,tb,h1,h2,h3⟩:=h;rcases h3 with ⟨_,h3⟩ | ⟨f,nm,h3,h4⟩
   ·cases h3
   ·match m,h4 with
    | 0,h4=>show h4.elim
    | m+1,h4=>show .inr #[_Z.mpr e2,ab,tb,f,nm,h1,h2,h3,m,h4]
 ·cases h
def Gd.OG(g:Gd M):∀ {j n k b:Nat},eI M j k b->cC M n k->∃ n',n'<=n/\cC M n' b
 | 0,n,k,b,⟨_,e⟩,hd=>by rw[e];show#[n,pi _,hd]
 | j+1,0,k,b,⟨k',e1,_⟩,hd=>absurd (.un e1) (hd k')
 | j+1,n+1,k,b,⟨k',e1,e3⟩,⟨f',u1,u2⟩=>by
  obtain rfl:=g.mB u1 (.un e1);let⟨n',x1,x2⟩:=g.OG e3 u2;show#[n',∅,x2]
def Gd.BZ(g:Gd M):∀ {m n k:Nat},eg M L r m k true->cC M n k->∃ ns,iP M L r m k ns/\ns.length<=n/\∀ s∈ns,s.length<=8
 | m,n,k,h,hd=>by
  unfold eg at h;let⟨b,l,a,t,ha,ht,hs,h⟩:=h;split at h
  ·split at h
   ·rename_i e2;show#[[],by unfold iP;show#[b,l,a,t,ha,ht,hs,by rw[wl e2]],wT _,nofun]
   ·rename_i e2;let⟨ab,tb,h1,h2,h3⟩:=h;rcases h3 with ⟨_,h3⟩ | ⟨f,nm,h3,h4⟩
    ·cases h3
    ·match m,h4 with
     | 0,h4=>show h4.elim
     | m+1,h4 =>
      have hb:∃ n',n'<=n/\cC M n' b:=by
       let⟨⟨j,hj⟩,_⟩:=hs;show g.OG hj hd
      let⟨n',hn',hd'⟩:=hb
      match n',hd' with
      | 0,hd'=>show absurd (.pl h2 h3) (hd' f)
      | n' + 1,⟨f',u1,u2⟩ =>
       obtain rfl:=g.mB u1 (.pl h2 h3);let⟨ns,x1,x2,x3⟩:=g.BZ h4 u2;have h8:nm.length<=8:=by
        rcases (g.th _ _ h2).pl with ⟨e,_⟩ | ⟨_,_,_,e,e8,_⟩
        ·rw[e]at h3;cases h3
        ·rw[e]at h3;cases h3;show e8
       show#[ns++[nm],by unfold iP;show#[b,l,a,t,ha,ht,hs,by rw[wf e2];show#[ab,tb,f',nm,h1,h2,h3,ns,rfl,x1]],by simp;omega,fun s hs=>?_];rcases No.mp hs with hs | hs
       ·show x3 s hs
       ·rw[Ch.mp hs];show h8
  ·cases h
end
def  kb(p:Str):Prop:=p=(".":Str)\/p=("..":Str)\/fS (.str p)=true/\p.length<=8
def Me{wd:List Nat}(h:cP wd=true):kb (Tx.S wd):=by
 unfold cP at h;simp only[Bool.or_eq_true,_i]at h;rcases h with (rfl | rfl) | h
 ·show .inl (by symm)
 ·show .inr (.inl (by symm))
 ·show .inr (.inr #[DG h,by rw[Tx.cE];show(zd h).2.2.2])
def ade{t:Th}(h:t.kd=("file":Str)\/t.kd=("lead":Str)):t.kd≠("folder":Str):=by rcases h with h | h <;> rw[h] <;> symm
def zj:fS (.str (".":Str))=false/\fS (.str ("..":Str))=false:=by symm
def  Val(d:Wd)(S:Ws):Prop:=∃ t,d.M.ts[S.here]?=!t/\(t.kd=("folder":Str)/\fj d.M d.L d.root S.here\/t.kd≠("folder":Str)/\∃ (f:Nat) (nm:Str) (tf:Th),S.place=!(f,nm)/\nm.length<=8/\d.M.ts[f]?=!tf/\fj d.M d.L d.root f)
def  dY:List (Sum Nat Str)->Nat
 | []=>0
 | .inl _::r=>dY r+1
 | .inr _::r=>dY r
def jf:∀ (a b:List (Sum Nat Str)),dY (a++b)=dY a+dY b
 | [],b=>by simp[dY]
 | .inl _::a,b=>by change dY (a++b)+1=dY a+1+dY b;rw[jf a b];omega
 | .inr _::a,b=>jf a b
def Fp(c:Nat)(t:List Nat):(Tx.words c t).length<=t.length+1:=ut (TD _ _) (Tx.yY c t)
def KI:∀ ps:List Str,dY (ps.map Sum.inr)=0
 | []=>rfl
 | _::r=>KI r
def xC(ps:List Str):dY (cJ ps)=0:=by
 unfold cJ;rw[<- List.map_reverse];show KI _
structure pT(d:Wd)(S:Ws):Prop where
 v:Val d S
 ps:∀ p,Sum.inr p∈S.left->kb p
 cn:dY S.left=S.aY.length
 rl:S.read<=40
def  mu(S:Ws):Nat:=126 * (40 - S.read)+S.left.length
def zp{t:List Nat}(h:(Tx.words 47 t).all cP=true):∀ p∈dj t,kb p:=fun p hp=>by
 let⟨x,hx,rfl⟩:=wS.mp hp;show Me (FS.mp (Di (t:=t) h) x hx)
def xM{ps:List Str}{p:Str}(h:Sum.inr p∈cJ ps):p∈ps:=by
 unfold cJ at h;let⟨q,hq,e⟩:=wS.mp (List.mem_reverse.mp h);cases e;show hq
section
variable {d:Wd}
def Vg(g:Gd d.M)(hL:d.L.length=d.M.ts.length)(hn:d.M.ts.length<=90)(hr:∃ t,d.M.ts[d.root]?=!t/\t.kd=("folder":Str)){S:Ws}{p:Str}(w:pT d S)(hp:kb p):∃ S' o,eJ d S p S' o/\(o=none->pT d S'/\mu S'<=mu S):=by
 let⟨t,ht,hk⟩:=w.v;let⟨a,ha⟩:=adr hL ht;by_cases cm:t.kd=("folder":Str)
 ·have hb:fj d.M d.L d.root S.here:=by
   rcases hk with h | h
   ·show h.2
   ·show absurd cm h.1
  cases hm:dO ("g":Str) (dB t d.z) with
  | false=>show#[_,_,.lZ ha ht cm hm,nofun]
  | true =>
   have hA:zu d S t:=#[#[a,ha],ht,cm,hm];rcases hp with hp | hp | ⟨hp,P4⟩
   ·show#[_,_,.dot hA hp,fun _=>#[#[#[t,ht,.inl #[cm,hb]],w.ps,w.cn,w.rl],pi _]]
   ·let⟨b,l,hs⟩:=g.dk hn ht cm;obtain⟨_,h0 | ⟨h0,ab,tb,f,nm,c8,c9,bt,hf⟩⟩:=hb.inv hs
    ·show#[_,_,.up hA hp (.gz ha ht hs h0),fun _=>#[#[#[t,ht,.inl #[cm,hb]],w.ps,w.cn,w.rl],pi _]]
    ·let⟨tf,bE,cD⟩:=g.kj (.pl c9 bt);let⟨af,gA⟩:=adr hL bE;let⟨b',l',hs'⟩:=g.dk hn bE cD;have e:=(hf.inv hs').1;show#[_,_,.up hA hp (.up ha ht hs h0 c8 c9 bt gA bE hs'),fun _=>#[#[#[tf,by change d.M.ts[aZ b' l']?=_;rw[<- e];show bE,.inl #[cD,by change fj _ _ _ (aZ b' l');rw[<- e];show hf]],w.ps,w.cn,w.rl],pi _]]
   ·have n1:p≠("..":Str):=fun e=>by rw[e,zj.2]at hp;cases hp
    have n2:p≠(".":Str):=fun e=>by rw[e,zj.1]at hp;cases hp
    cases hv:ah (sD t.bb) (.inr p) with
    | none=>show#[_,_,.go hA n1 n2 hp ∅ (.no hv),nofun]
    | some u =>
     let⟨k,tc,rfl,bW,AD⟩:=(g.th _ t ht).ch _ _ hv;let⟨ac,du⟩:=adr hL bW;by_cases dJ:tc.kd=("folder":Str)
     ·let⟨b,l,hs⟩:=g.dk hn bW dJ;let⟨_,tt,h1,h2⟩:=g.jq hs bW dJ;show#[_,_,.go hA n1 n2 hp ∅ (.folder hv du bW dJ hs),fun _=>#[#[#[tt,h1,.inl #[h2,g.Md hL bW dJ AD hb hs]],w.ps,w.cn,w.rl],pi _]]
     by_cases hf:tc.kd=("file":Str)\/S.left=[]/\d.last=false
     ·show#[_,_,.go hA n1 n2 hp ∅ (.fin hv du bW dJ hf),fun _=>#[#[#[tc,bW,.inr #[dJ,_,_,t,rfl,P4,ht,hb]],w.ps,w.cn,w.rl],pi _]]
     have gB:tc.kd=("lead":Str):=by
      rcases (g.th _ tc bW).kd with h | h | h
      ·show absurd h dJ
      ·show absurd (.inl h) hf
      ·show h
     have fJ:tc.kd≠("file":Str):=fun z=>hf (.inl z);have iw:¬ (S.left=[]/\d.last=false):=fun z=>hf (.inr z);by_cases zZ:k∈S.aY
     ·show#[_,_,.go hA n1 n2 hp ∅ (.lead hv du bW dJ fJ iw (.ring zZ)),nofun]
     by_cases oC:S.read=40
     ·show#[_,_,.go hA n1 n2 hp ∅ (.lead hv du bW dJ fJ iw (.many zZ oC)),nofun]
     let⟨tl,e1,e2,e3⟩:=(g.th _ tc bW).ld gB;let⟨tr,eU,i9⟩:=hr;let⟨ar,xo⟩:=adr hL eU;let⟨rb,rl,tO⟩:=g.dk hn eU i9;let⟨_,tt,ka,gb⟩:=g.jq tO eU i9;have hlen:(dj tl).length<=124:=by
      have h1:=@yq (Tx.words 47 tl) tl;have h2:=Fp 47 tl;unfold dj;rw[lv];omega
     have oF:=yj (dj tl);have fA:=w.rl;show#[_,_,.go hA n1 n2 hp ∅ (.lead hv du bW dJ fJ iw (.read zZ oC (.mk du bW e1 e2.l1 e2.l2 e2.all hlen xo eU tO))),fun _=>#[#[?_,fun q hq=>?_,?_,?_],?_]]
     ·unfold iq;by_cases hrt:cO tl=true
      ·rw[wl hrt];show#[tt,ka,.inl #[gb,g.yB hL tO eU i9]]
      ·rw[wf hrt];show#[t,ht,.inl #[cm,hb]]
     ·unfold iq at hq;rcases No.mp hq with hq | hq
      ·rcases No.mp hq with hq | hq
       ·show w.ps q hq
       ·cases Ch.mp hq
      ·show zp e2.all q (xM hq)
     ·unfold iq;change dY ((S.left++[.inl k])++cJ (dj tl))=(S.aY++[k]).length;rw[jf,jf,xC,w.cn,mo];rfl
     ·unfold iq;change S.read+1<=40;omega
     ·unfold iq mu dW;simp only[mo,xz,_M,oF];omega
 ·show#[_,_,.flat ha ht cm,nofun]
def Fo(g:Gd d.M)(hL:d.L.length=d.M.ts.length)(Gi:d.M.ts.length<=90)(hr:∃ t,d.M.ts[d.root]?=!t/\t.kd=("folder":Str)):∀ (n:Nat) {S:Ws},mu S<=n->pT d S->∃ m S' o,fi d m S S' o/\(o=none->Val d S')
 | n,S,hn,w=>by
  rcases Ja1 S.left with e | ⟨l,x,e⟩
  ·show#[_,_,_,.done e,fun _=>w.v]
  rw[Ja2]at e;have hlen:S.left.length=l.length+1:=by rw[e,mo];rfl
  have dZ:∀ p,Sum.inr p∈l->kb p:=fun p hp=>w.ps p (by rw[e];show GT _ hp);have jz:=w.cn;rw[e,jf]at jz
  match n,hn with
  | 0,hn=>unfold mu at hn;omega
  | n+1,hn =>
   cases x with
   | inl k =>
    have h1:dY [Sum.inl (β:=Str) k]=1:=rfl;rw[h1]at jz;rcases Ja1 S.aY with er | ⟨r,j,er⟩
    ·rw[er]at jz;simp at jz
    rw[Ja2]at er;rw[er,mo]at jz;let⟨m,S',o,h2,h3⟩:=Fo g hL Gi hr n (S:={ S with left:=l,aY:=r }) (by unfold mu at hn ⊢;dsimp only;omega) #[w.v,dZ,by change dY l=r.length;simp at jz;omega,w.rl];show#[_,_,_,.pop e er h2,h3]
   | inr p =>
    have h1:dY [Sum.inr (α:=Nat) p]=0:=rfl;rw[h1]at jz;let⟨S1,o,h2,h3⟩:=Vg g hL Gi hr (S:={ S with left:=l }) (p:=p) #[w.v,dZ,jz,w.rl] (w.ps p (by rw[e];simp));cases o with
    | some y=>show#[_,_,_,.fail e h2,nofun]
    | none =>
     let⟨w1,hm⟩:=h3 rfl;let⟨m,S',o,h4,h5⟩:=Fo g hL Gi hr n (S:=S1) (by unfold mu at hn hm ⊢;dsimp only at hm;omega) w1;show#[_,_,_,.step e h2 h4,h5]
def eJ.Ux{S S':Ws}{p:Str}{o:Option Tl}{x:Sum Nat Str}{r:List (Sum Nat Str)}(h:eJ d S p S' o)(e:S.left=x::r):∃ r',S'.left=x::r':=by
 cases h with
 | flat=>show#[_,e]
 | lZ=>show#[_,e]
 | dot=>show#[_,e]
 | up=>show#[_,e]
 | go _ _ _ _ _ hb =>
  cases hb with
  | no=>show#[_,e]
  | folder=>show#[_,e]
  | fin=>show#[_,e]
  | lead _ _ _ _ _ _ hm =>
   cases hm with
   | ring=>show#[_,e]
   | many=>show#[_,e]
   | read _ _ hr =>
    cases hr;unfold iq;dsimp only;show#[_,by rw[show(dW S).left=x::r from e];rfl]
def Ry{n:Nat}{S S':Ws}{o:Option Tl}(h:fi d n S S' o):o=none->∀ {r},S.left=.inr (".":Str)::r->∃ t,d.M.ts[S'.here]?=!t/\t.kd=("folder":Str):=by
 induction h with
 | done e=>intro _ r e';rw[e]at e';cases e'
 | @pop n S k l r j S' o e er _ ih =>
  intro ho r' e';rw[e]at e'
  match l,e' with
  | [],e'=>cases e'
  | y::l,e' =>
   rw[List.cons_append]at e';injection e' with e1 e2;show ih ho (by rw[e1])
 | @step n S p l S1 S' o e hs hr ih =>
  intro ho r' e';rw[e]at e'
  match l,e' with
  | [],e' =>
   have ep:p=(".":Str):=by injection e' with e1 e2;show Jaa e1
   subst ep;cases hs with
   | dot hA _ =>
    cases hr with
    | done _=>show#[_,hA.e,hA.k]
    | pop e1=>show absurd e1 (by unfold dW;simp)
    | step e1=>show absurd e1 (by unfold dW;simp)
    | fail e1=>show absurd e1 (by unfold dW;simp)
   | up _ h5=>show absurd h5 (by symm)
   | go _ _ h6=>show absurd rfl h6
  | y::l,e' =>
   rw[List.cons_append]at e';injection e' with e1 e2;let⟨r2,e3⟩:=hs.Ux (x:=y) (r:=l) rfl;show ih ho (by rw[e3,e1])
 | fail=>intro ho;cases ho
def NF(g:Gd d.M)(hL:d.L.length=d.M.ts.length)(hn:d.M.ts.length<=90){S:Ws}(v:Val d S):∃ ns bZ,vx d.M d.L d.root S ns bZ:=by
 let⟨t,ht,hk⟩:=v;let⟨a,ha⟩:=adr hL ht;rcases hk with ⟨cm,m,hb⟩ | ⟨cm,f,nm,tf,hp,h8,bE,m,hb⟩
 ·let⟨n,hd⟩:=g.ac _ t ht;let⟨ns,h1,h2,h3⟩:=g.BZ hb hd;have:=g.zE ht hd;show#[ns,[],S.here,a,t,ha,ht,.inl #[cm,rfl,rfl],#[_,h1],∅,h3]
 ·let⟨n,hd⟩:=g.ac _ tf bE;let⟨ns,h1,h2,h3⟩:=g.BZ hb hd;have:=g.zE bE hd;show#[ns,[nm],f,a,t,ha,ht,.inr #[cm,nm,hp,rfl,h8],#[_,h1],∅,h3]
end
def  NM(M:Hs)(L:List Ta)(r:Nat)(e:End):Prop:=∀ k ns,e.res=.found k ns->∃ t,M.ts[k]?=!t/\(t.kd=("folder":Str)->fj M L r k)
section
variable {M:Hs}{L:List Ta}{z:Str}{r:Nat}{last:Bool}
def NK(g:Gd M)(hL:L.length=M.ts.length)(hn:M.ts.length<=90)(hz:z∈AS)(last:Bool){fr:Bool}{ps:List Str}(dZ:∀ p∈ps,kb p)(hl:ps.length<=2500) :
  ∃ r e,ah (sD M.ro) (.inr z)=!.int ((r:Nat):Int)/\mG #[L,M,z,last,r] fr ps e/\NM M L r e/\∀ qs,ps=qs++[(".":Str)]->∀ k ns,e.res=.found k ns->∃ t,M.ts[k]?=!t/\t.kd=("folder":Str):=by
 let⟨r,k0,ga⟩:=g.as z hz;let⟨st,t,aR,ht,cm⟩:∃ (st:Nat) (t:Th),(fr=true/\st=r\/fr=false/\ah (sD M.st) (.inr z)=!.int (st:Int))/\M.ts[st]?=!t/\t.kd=("folder":Str):=by
  cases fr with
  | true=>let⟨t,h1,h2⟩:=ga.tr;show#[r,t,.inl #[rfl,rfl],h1,h2]
  | false=>let⟨t,h1,h2⟩:=ga.tk;show#[k0,t,.inr #[rfl,ga.st],h1,h2]
 let⟨a,ha⟩:=adr hL ht;let⟨b,l,hs⟩:=g.dk hn ht cm;let⟨_,tt,h1,h2⟩:=g.jq hs ht cm;let⟨j,hj⟩:=g.ac _ tt h1;let⟨sn,f7⟩:=g.seen (L:=L) (r:=r) hL hn j _ tt h1 h2 #[j,pi _,hj];cases sn with
 | false=>show#[r,_,ga.ro,.out #[ga.ro,st,b,l,a,t,aR,ha,ht,hs,_,f7],nofun,fun qs _=>nofun]
 | true =>
  let⟨n,S',o,hr,hv⟩:=Fo (d:=#[L,M,z,last,r]) g hL hn ga.tr _ (S:=#[aZ b l,none,0,[],cJ ps,[],0,0]) (pi _) #[#[tt,h1,.inl #[h2,_,f7]],fun p hp=>dZ p (xM hp),xC ps,wT _];have hB:zo #[L,M,z,last,r] fr (aZ b l):=#[ga.ro,st,b,l,a,t,aR,ha,ht,hs,#[_,f7],rfl];cases o with
  | some y=>show#[r,_,ga.ro,.told hB hl hr,fun k ns e=>(by cases y <;> cases e),fun qs _ k ns e=>by cases y <;> cases e]
  | none =>
   let⟨ns,bZ,eU⟩:=NF (d:=#[L,M,z,last,r]) g hL hn (hv rfl);show#[r,_,ga.ro,.found hB hl hr eU,fun k ns' e=>?_,fun qs hq k ns' e=>?_]
   ·cases e;let⟨t',h,hh⟩:=hv rfl;show#[t',h,fun hf=>?_];rcases hh with hh | hh
    ·show hh.2
    ·show absurd hf hh.1
   ·cases e;show Ry hr rfl (r:=cJ qs |>.map id) (by rw[hq];unfold cJ;simp)
def xO(g:Gd M)(hL:L.length=M.ts.length)(hn:M.ts.length<=90)(hz:z∈AS)(last:Bool){t:List Nat}(p:fb t):∃ r e,ah (sD M.ro) (.inr z)=!.int ((r:Nat):Int)/\eM #[L,M,z,last,r] t e/\NM M L r e:=by
 have hw:=@yq (Tx.words 47 t) t;have h2:=Fp 47 t;have h3:=p.l2;let⟨r,e,h0,h1,h2,_⟩:=NK g hL hn hz last (fr:=cO t) (zp p.all) (by unfold dj;rw[lv];omega);show#[r,e,h0,#[p.l1,p.l2,p.all,h1],h2]
def WB{ps:List (List Nat)}(h:ps.all cP=true):∃ r,kI ps r:=by
 rcases Ja1 ps with e | ⟨q,nm,e⟩
 ·show#[none,.nil e]
 ·rw[Ja2]at e;cases hn:isNm nm with
  | true=>show#[_,.Lf e hn]
  | false=>show#[none,.vZ e hn (rA (FS.mp h nm (by rw[e];simp))).2.2]
def aaC(g:Gd M)(hL:L.length=M.ts.length)(hn:M.ts.length<=90)(hz:z∈AS){t:List Nat}(p:fb t)(hl:(Tx.words 47 t).length<=300) :
  ∃ root r,pf #[L,M,z,true,root] t r/\∀ f nm,r=.inr (f,nm)->∃ tf,M.ts[f]?=!tf/\tf.kd=("folder":Str)/\isNm nm=true/\ah (sD tf.bb) (.inr (Tx.S nm))=none:=by
 have hw:=@yq (Tx.words 47 t) t;let⟨r,hr⟩:=WB (Di (t:=t) p.all);cases r with
 | none=>show#[0,_,.no (.vZ hr),fun f nm e=>by cases e]
 | some qn =>
  let⟨q,nm⟩:=qn;have he:told (Tx.words 47 t) t=q++[nm]:=by cases hr;assumption
  have cj:isNm nm=true:=by cases hr;assumption
  have iF:=Di (t:=t) p.all;rw[he,List.all_append,AC]at iF;have hq:q.length<=900:=by rw[he,mo]at hw;omega
  let⟨root,e,_,h1,h2,h3⟩:=NK g hL hn hz true (fr:=cO t) (ps:=q.map Tx.S++[(".":Str)]) (fun x hx=>by
   rcases No.mp hx with hx | hx
   ·let⟨y,hy,rfl⟩:=wS.mp hx;show Me (FS.mp iF.1 y hy)
   ·show .inl (Ch.mp hx)) (by simp;omega)
  by_cases hf:∃ f ns,e.res=.found f ns
  ·let⟨f,ns,mU⟩:=hf;have hs:lR #[L,M,z,true,root] t (.inr (f,nm)):=.Jq hr hq h1 mU;let⟨tf,bE,cD⟩:=h3 _ rfl f ns mU;let⟨a,ha⟩:=adr hL bE;cases hm:dO ("w":Str) (dB tf z) with
   | false=>show#[root,_,.kept hs bE hm,fun f nm e=>by cases e]
   | true =>
    cases hv:ah (sD tf.bb) (.inr (Tx.S nm)) with
    | some v =>
     let⟨c,rfl⟩:=pV hv;show#[root,_,.there hs cj ha bE hm hv,fun f nm e=>by cases e]
    | none=>show#[root,_,.free hs cj ha bE hm hv,fun f' nm' e=>by cases e;show#[tf,bE,cD,cj,hv]]
  ·show#[root,_,.no (.way hr hq h1 fun k ns hk=>hf #[k,ns,hk]),fun f nm e=>by cases e]
def Mm(g:Gd M)(hL:L.length=M.ts.length)(hn:M.ts.length<=90)(hz:z∈AS){t:List Nat}(p:fb t) :
  ∃ root r,ah (sD M.ro) (.inr z)=!.int ((root:Nat):Int)/\ju #[L,M,z,true,root] t r/\∀ k,r=.inr k->∃ tf,M.ts[k]?=!tf/\tf.kd=("folder":Str)/\fj M L root k:=by
 let⟨root,e,h0,h1,h2⟩:=xO g hL hn hz true p;by_cases hf:∃ f ns,e.res=.found f ns
 ·let⟨f,ns,mU⟩:=hf;let⟨tf,bE,hb⟩:=h2 f ns mU;let⟨a,ha⟩:=adr hL bE;by_cases hk:tf.kd=("folder":Str)
  ·show#[root,_,h0,.ok h1 mU ha bE hk,fun k e=>by cases e;show#[tf,bE,hk,hb hk]]
  ·show#[root,_,h0,.file h1 mU ha bE hk,fun f e=>by cases e]
 ·show#[root,_,h0,.way h1 fun k ns hk=>hf #[k,ns,hk],fun f e=>by cases e]
end
section
variable {M:Hs}{L:List Ta}{z:Str}{r:Nat}
def y3{M':Hs}(g:Gd M)(hu:M'.un=M.un)(old:∀ (k:Nat) (t:Th),M.ts[k]?=!t->∃ t':Th,M'.ts[k]?=!t'/\t'.kd=t.kd/\t'.bV=t.bV):∀ {n k:Nat}{t:Th},M.ts[k]?=!t->cC M n k->cC M' n k
 | 0,k,t,ht,h=>fun f hf=>by
  let⟨t',e1,_,e3⟩:=old k t ht;cases hf with
  | un hf=>rw[hu]at hf;show h f (.un hf)
  | pl a b=>rw[e1]at a;cases a;rw[e3]at b;show h f (.pl ht b)
 | n+1,k,t,ht,⟨f,h1,h2⟩=>by
  let⟨tf,h3,_⟩:=g.kj h1;show#[f,?_,y3 g hu old h3 h2];cases h1 with
  | un h1=>show .un (by rw[hu];show h1)
  | pl a b =>
   let⟨t',e1,_,e3⟩:=old k _ a;show .pl e1 (e3.trans b)
def Gd.lift{M':Hs}(g:Gd M)(h1:M'.ro=M.ro)(h2:M'.st=M.st)(h3:M'.tr=M.tr)(h4:M'.ov=M.ov)(h5:M'.un=M.un)(hl:M.ts.length<=M'.ts.length)(old:∀ (k:Nat) (t:Th),M.ts[k]?=!t->∃ t':Th,M'.ts[k]?=!t'/\t'.kd=t.kd/\t'.bV=t.bV)(th:∀ k t,M'.ts[k]?=!t->uL M' k t)(ac:∀ k t,M'.ts[k]?=!t->M.ts[k]?=none->∃ n,cC M' n k):Gd M':=by
 have fo:∀ {k:Nat},(∃ t,M.ts[k]?=!t/\t.kd=("folder":Str))->∃ t,M'.ts[k]?=!t/\t.kd=("folder":Str):=fun {k} ⟨t,e1,e2⟩=>by
  let⟨t',e3,e4,_⟩:=old _ _ e1;show#[t',e3,e4.trans e2]
 show#[by rw[h3];show ut g.ji hl,by rw[h3];show g.tn,by rw[h3];show g.tm,fun z v hv=>?_,by rw[h3];show g.tu,by rw[h4,h5];show g.ou,fun r f hf=>?_,fun z hz=>?_,by rw[h1];show g.rl,by rw[h2];show g.sl,fo g.t0,th,fun k t ht=>?_]
 ·rw[h3]at hv;let⟨r,t,e1,e2,e3,e4⟩:=g.tq z v hv;let⟨t',e5,e6,e7⟩:=old _ _ e2;show#[r,t',e1,e5,e6.trans e3,e7.trans e4]
 ·rw[h5]at hf;let⟨⟨z,hz⟩,h⟩:=g.uq r f hf;show#[#[z,by rw[h3];show hz],fo h]
 ·let⟨r,k,a⟩:=g.as z hz;show#[r,k,by rw[h1];show a.ro,by rw[h2];show a.st,fo a.tr,fo a.tk]
 ·cases e:M.ts[k]? with
  | none=>show ac k t ht e
  | some t0 =>
   let⟨n,hd⟩:=g.ac k t0 e;show#[n,y3 g h5 old e hd]
def uL.lift{M':Hs}{k:Nat}{t t':Th}(h:uL M k t)(hl:M.ts.length<=M'.ts.length)(h3:∀ z v,ah (sD M.tr) (.inr z)=!v->ah (sD M'.tr) (.inr z)=!v)(e1:t'.kd=t.kd)(e2:t'.bV=t.bV)(e3:t'.bb=t.bb)(e4:t'.tx=t.tx)(old:∀ (k:Nat) (t:Th),M.ts[k]?=!t->∃ t':Th,M'.ts[k]?=!t'/\t'.kd=t.kd/\t'.bV=t.bV):uL M' k t':=by
 show#[by rw[e3];show ut h.nl hl,by rw[e1];show h.kd,by rw[e1,e4];show h.ld,?_,fun z v hv=>?_]
 ·rcases h.pl with ⟨a,b,z,c⟩ | ⟨f,nm,tf,a2,a3,a4,a5⟩
  ·show .inl #[e2.trans a,e1.trans b,z,h3 _ _ c]
  ·let⟨t2,b1,b2,_⟩:=old _ _ a4;show .inr #[f,nm,t2,e2.trans a2,a3,b1,b2.trans a5]
 ·rw[e3]at hv;let⟨c,tc,a1,a2,a3⟩:=h.ch z v hv;let⟨t2,b1,_,b3⟩:=old _ _ a2;show#[c,t2,a1,b1,b3.trans a3]
def Gd.make(g:Gd M){f:Nat}{tf:Th}{nm kd mi re tx:Str}(bE:M.ts[f]?=!tf)(cD:tf.kd=("folder":Str))(cj:nm.length<=8)(hvf:ah (sD tf.bb) (.inr nm)=none)(hk:kd=("folder":Str)\/kd=("file":Str)\/kd=("lead":Str))(Ge:kd=("lead":Str)->∃ tl,tx=Tx.S tl/\fb tl/\tl.length<=120) :
  Gd { M with ts:=M.ts.set f { tf with bb:=tf.bb++[(nm,M.ts.length)] }++[#[kd,z,mi,re,tx,[],[(f,nm)]]] }:=by
 have hf:=(sB.mp bE).1;have hlen:(M.ts.set f { tf with bb:=tf.bb++[(nm,M.ts.length)] }).length=M.ts.length:=List.length_set;have old:∀ (k:Nat) (t:Th),M.ts[k]?=!t->∃ t':Th,(M.ts.set f { tf with bb:=tf.bb++[(nm,M.ts.length)] }++[(#[kd,z,mi,re,tx,[],[(f,nm)]]:Th)])[k]?=!t'/\t'.kd=t.kd/\t'.bV=t.bV:=fun k t ht=>by
  have hk:=(sB.mp ht).1;rw[Cl (by rw[hlen];show hk)];by_cases e:k=f
  ·subst e;rw[Sc hk];rw[bE]at ht;cases ht;show#[_,rfl,rfl,rfl]
  ·rw[Re (ss e)];show#[t,ht,rfl,rfl]
 have new:(M.ts.set f { tf with bb:=tf.bb++[(nm,M.ts.length)] }++[(#[kd,z,mi,re,tx,[],[(f,nm)]]:Th)])[M.ts.length]?=!#[kd,z,mi,re,tx,[],[(f,nm)]]:=by
  rw[EQ (by rw[hlen];show pi _),hlen,_1];rfl
 have ll:M.ts.length<=(M.ts.set f { tf with bb:=tf.bb++[(nm,M.ts.length)] }++[(#[kd,z,mi,re,tx,[],[(f,nm)]]:Th)]).length:=by rw[mo,hlen];omega
 show g.lift rfl rfl rfl rfl rfl ll old (fun k t ht=>?_) (fun k t ht hk=>?_)
 rotate_left
 ·have GF:k=M.ts.length:=by
   have h1:=(sB.mp ht).1;have h2:=List.getElem?_eq_none_iff.mp hk;have h3:(M.ts.set f { tf with bb:=tf.bb++[(nm,M.ts.length)] }++[(#[kd,z,mi,re,tx,[],[(f,nm)]]:Th)]).length=M.ts.length+1:=by rw[mo,hlen];rfl
   change k < (M.ts.set f { tf with bb:=tf.bb++[(nm,M.ts.length)] }++[(#[kd,z,mi,re,tx,[],[(f,nm)]]:Th)]).length at h1;omega
  subst GF;let⟨n,hd⟩:=g.ac f tf bE;show#[n+1,f,.pl new rfl,y3 (M':={ M with ts:=M.ts.set f { tf with bb:=tf.bb++[(nm,M.ts.length)] }++[#[kd,z,mi,re,tx,[],[(f,nm)]]] }) g rfl old bE hd]
 have ht':(M.ts.set f { tf with bb:=tf.bb++[(nm,M.ts.length)] }++[(#[kd,z,mi,re,tx,[],[(f,nm)]]:Th)])[k]?=!t:=ht;by_cases hk':k < M.ts.length
 ·rw[Cl (by rw[hlen];show hk')]at ht';by_cases e:k=f
  ·subst e;rw[Sc hk']at ht';cases ht';have h0:=g.th k tf bE;have h:=h0.lift (M':={ M with ts:=M.ts.set k { tf with bb:=tf.bb++[(nm,M.ts.length)] }++[#[kd,z,mi,re,tx,[],[(k,nm)]]] }) (t':=tf) ll (fun _ _ h=>h) rfl rfl rfl rfl old;show#[by change(tf.bb++[(nm,M.ts.length)]).length<=_;rw[mo,mo,hlen];have:=h0.nl;simp;omega,h.kd,h.ld,h.pl,fun y v hv=>?_];have e:sD (tf.bb++[(nm,M.ts.length)])=sD tf.bb++[(.inr nm,.int ((M.ts.length:Nat):Int))]:=by unfold sD;rw[Da];rfl
   have hv':ah (sD (tf.bb++[(nm,M.ts.length)])) (.inr y)=!v:=hv;rw[e,Dc _ _ _ _ hvf]at hv';split at hv'
   ·rename_i he;cases hv';injection he with he;show#[M.ts.length,_,rfl,new,by rw[he]]
   ·show h.ch y v hv'
  ·rw[Re (ss e)]at ht';show(g.th k t ht').lift ll (fun _ _ h=>h) rfl rfl rfl rfl old
 ·have GF:k < M.ts.length+1:=by
   have:=(sB.mp ht').1;rw[mo,hlen]at this;show this
  have:k=M.ts.length:=∅
  subst this;rw[new]at ht';cases ht';let⟨t',e1,e2,_⟩:=old _ _ bE;show#[by change 0<=_;show wT _,hk,Ge,.inr #[f,nm,t',rfl,cj,e1,e2.trans cD],fun y v hv=>by cases hv]
def sM{l:List (Str×Nat)}{y:Str}{k:Nat}:ah (sD (fH l z k)) (.inr y)=if y=z then !.int (k:Int) else ah (sD l) (.inr y):=by
 rw[<- BF,D2];by_cases e:y=z
 ·rw[wl e,wl (by rw[e])]
 ·rw[wf e,wf (fun h=>e (Jaa h))]
def DK{l:List (Str×Nat)}{k:Nat}{v:V}(h:ah (sD l) (.inr z)=!v):(fH l z k).length=l.length:=by
 unfold fH;rw[wl (by rw[h];rfl),lv]
def Wr{M':Hs}(h1:M'.ts=M.ts)(h2:M'.un=M.un):∀ {n k:Nat},cC M n k->cC M' n k:=fun {n k} h=>by
 have up:∀ {k f},fR M k f ↔ fR M' k f:=fun {k f}=>by
  constructor
  ·intro h;cases h with
   | un h=>show .un (by rw[h2];show h)
   | pl a b=>show .pl (by rw[h1];show a) b
  ·intro h;cases h with
   | un h=>rw[h2]at h;show .un h
   | pl a b=>rw[h1]at a;show .pl a b
 induction n generalizing k with
 | zero=>show fun f hf=>h f (up.mpr hf)
 | succ n ih=>let⟨f,a,b⟩:=h;show#[f,up.mp a,ih b]
def Gd.Oq(g:Gd M){ro st:List (Str×Nat)}(ha:∀ y∈AS,∃ r j,DC { M with ro:=ro,st:=st } y r j)(h1:ro.length<=3)(h2:st.length<=3):Gd { M with ro:=ro,st:=st } :=
 #[g.ji,g.tn,g.tm,g.tq,g.tu,g.ou,g.uq,ha,h1,h2,g.t0,fun k t ht=>#[(g.th k t ht).nl,(g.th k t ht).kd,(g.th k t ht).ld,(g.th k t ht).pl,(g.th k t ht).ch],fun k t ht=>let ⟨n,h⟩:=g.ac k t ht;#[n,Wr (M:=M) (M':={ M with ro:=ro,st:=st }) rfl rfl h]]
def Gd.TH(g:Gd M){k:Nat}{t:Th}(ht:M.ts[k]?=!t)(hk:t.kd=("folder":Str))(hz:z∈AS):Gd { M with st:=fH M.st z k }:=by
 show g.Oq (ro:=M.ro) (fun y hy=>?_) g.rl ?_
 ·let⟨r,j,a⟩:=g.as y hy;by_cases e:y=z
  ·subst e;show#[r,k,a.ro,by change ah (sD (fH M.st y k)) (.inr y)=_;rw[sM,wl rfl],a.tr,t,ht,hk]
  ·show#[r,j,a.ro,by change ah (sD (fH M.st z k)) (.inr y)=_;rw[sM,wf e];show a.st,a.tr,a.tk]
 ·let⟨r,j,a⟩:=g.as z hz;rw[DK a.st];show g.sl
def Gd.root(g:Gd M){k:Nat}{t:Th}(ht:M.ts[k]?=!t)(hk:t.kd=("folder":Str))(hz:z∈AS):Gd { M with ro:=fH M.ro z k,st:=fH M.st z k }:=by
 show g.Oq (fun y hy=>?_) ?_ ?_
 ·let⟨r,j,a⟩:=g.as y hy;by_cases e:y=z
  ·subst e;show#[k,k,by change ah (sD (fH M.ro y k)) (.inr y)=_;rw[sM,wl rfl],by change ah (sD (fH M.st y k)) (.inr y)=_;rw[sM,wl rfl],#[t,ht,hk],t,ht,hk]
  ·show#[r,j,by change ah (sD (fH M.ro z k)) (.inr y)=_;rw[sM,wf e];show a.ro,by change ah (sD (fH M.st z k)) (.inr y)=_;rw[sM,wf e];show a.st,a.tr,a.tk]
 ·let⟨r,j,a⟩:=g.as z hz;rw[DK a.ro];show g.rl
 ·let⟨r,j,a⟩:=g.as z hz;rw[DK a.st];show g.sl
end
section
variable {M:Hs}{L:List Ta}{z:Str}{r:Nat}
def  Av(M:Hs)(r:Nat):Nat->Nat->Prop
 | 0,k=>k≠r/\∀ f,¬ fR M k f
 | n+1,k=>k≠r/\∃ f,fR M k f/\Av M r n f
def Gd.Bs(g:Gd M)(hL:L.length=M.ts.length):∀ (n k:Nat) (t:Th),M.ts[k]?=!t->cC M n k->∃ m u tu,gY M L m k u/\M.ts[u]?=!tu/\tu.bV=[]/\∃ n',n'<=n/\cC M n' u
 | n,k,t,ht,hd=>by
  let⟨a,ha⟩:=adr hL ht;rcases (g.th k t ht).pl with ⟨e,_⟩ | ⟨f,nm,tf,e,_,bE,_⟩
  ·show#[0,k,t,by unfold gY;show#[a,t,ha,ht,.inl #[e,rfl]],ht,e,n,pi _,hd]
  ·match n,hd with
   | 0,hd=>show absurd (.pl ht e) (hd f)
   | n+1,⟨f',h1,h2⟩ =>
    obtain rfl:=g.mB h1 (.pl ht e);let⟨m,u,tu,a1,a2,a3,n',a4,a5⟩:=g.Bs hL n f' tf bE h2;show#[m+1,u,tu,by unfold gY;show#[a,t,ha,ht,.inr #[f',nm,e,a1]],a2,a3,n',∅,a5]
def IA{l:List (Str×Nat)}{y:Str}{v:V}(h:ah (sD l) (.inr y)=!v):y∈l.map (·.1):=by
 unfold ah at h;let⟨kv,h1,_⟩:=LT.mp h;let⟨e,he,rfl⟩:=wS.mp (_e h1);have:=List.find?_some h1;show wS.mpr #[e,he,Jaa (_A this)]
def Gd.NY(g:Gd M){u:Nat}{t:Th}(ht:M.ts[u]?=!t)(hp:t.bV=[]):∃ y,sL M u y:=by
 rcases (g.th u t ht).pl with ⟨_,_,y,hy⟩ | ⟨f,nm,tf,e,_⟩
 ·have hm:y∈cK M:=(lQ _).mem_iff.mpr (IA hy);let⟨pre,post,e⟩:=List.append_of_mem hm;have nd:(cK M).Nodup:=(lQ _).nodup_iff.mpr g.tn;show#[y,pre,post,e,fun x hx=>?_,hy];have bT:x∈cK M:=by rw[e];show GT _ hx
  have da:=(lQ _).mem_iff.mp bT;have hs:(ah (sD M.tr) (.inr x)).isSome=true:=by
   let⟨w,hw,rfl⟩:=wS.mp da;unfold ah;rw[SL,_C];show#[_,wS.mpr #[w,hw,rfl],()]
  let⟨v,hv⟩:=On.mp hs;let⟨q,rfl⟩:=pV hv;show#[q,hv,fun eq=>?_];rw[eq]at hv;have:=g.tu _ _ _ hv hy;rw[e,Fa]at nd;show nd.2.2 x hx y () this
 ·rw[hp]at e;cases e
def Gd.HL(g:Gd M)(hL:L.length=M.ts.length)(o:Str):∀ (n u:Nat) (y:Str) (t:Th),M.ts[u]?=!t->ah (sD M.tr) (.inr y)=!.int (u:Int)->(∃ j,j<=n/\cC M j u)->∃ v,iS M L o n y v
 | n,u,y,t,ht,hy,⟨j,hj,hd⟩=>by
  by_cases e:y=o
  ·show#[true,by unfold iS;rw[wl e]]
  ·cases hu:ah (nD M.un) (.inl (u:Int)) with
   | none=>show#[false,by unfold iS;rw[wf e];show#[u,hy,.inl #[hu,rfl]]]
   | some v =>
    let⟨f,rfl⟩:=ke hu
    match j,hd with
    | 0,hd=>show absurd (.un hu) (hd f)
    | j+1,⟨f',h1,h2⟩ =>
     obtain rfl:=g.mB h1 (.un hu);let⟨tf,h3,_⟩:=g.kj h1;let⟨m,u2,tu,a1,a2,a3,n',a4,a5⟩:=g.Bs hL j f' tf h3 h2;let⟨y',hy'⟩:=g.NY a2 a3
     match n,hj with
     | 0,hj=>omega
     | n+1,hj =>
      let⟨v,hv⟩:=g.HL hL o n u2 y' tu a2 (by let⟨_,_,_,_,h⟩:=hy';show h) #[n',∅,a5];show#[v,by unfold iS;rw[wf e];show#[u,hy,.inr #[f',u2,y',hu,#[m,a1],hy',hv]]]
def Gd.FH(g:Gd M){tr:Th}(hr:M.ts[r]?=!tr)(oH:tr.bV=[]):∀ {m k u:Nat},gY M L m k u->(∃ n,Av M r n u)->∃ n,Av M r n k
 | m,k,u,h,ha=>by
  unfold gY at h;let⟨a,t,h1,h2,h3⟩:=h;rcases h3 with ⟨_,rfl⟩ | ⟨f,nm,h3,h4⟩
  ·show ha
  ·match m,h4 with
   | 0,h4=>show h4.elim
   | m+1,h4 =>
    let⟨n,hn⟩:=g.FH hr oH h4 ha;have cQ:k≠r:=fun e=>by
     rw[e,hr]at h2;cases h2;rw[oH]at h3;cases h3
    show#[n+1,cQ,f,.pl h2 h3,hn]
def Gd.Mu(g:Gd M){o:Str}{tr:Th}(hr:M.ts[r]?=!tr)(oH:tr.bV=[])(ho:ah (sD M.tr) (.inr o)=!.int (r:Int)):∀ {m:Nat}{y:Str}{u:Nat},iS M L o m y false->ah (sD M.tr) (.inr y)=!.int (u:Int)->∃ n,Av M r n u
 | m,y,u,h,hy=>by
  unfold iS at h;split at h
  ·cases h
  ·rename_i e;have cQ:u≠r:=fun z=>e (g.tu _ _ _ hy (z ▸ ho));let⟨u',h1,h2⟩:=h;rw[hy]at h1;obtain rfl:=dH h1;rcases h2 with ⟨h2,_⟩ | ⟨f,u2,y',h2,⟨m2,h3⟩,h4,h5⟩
   ·show#[0,cQ,fun f hf=>?_];cases hf with
    | un hf=>rw[h2]at hf;cases hf
    | pl a b =>
     let⟨q,t,e1,e2,_,e4⟩:=g.tq y _ hy;injection e1 with e1;obtain rfl:=KM e1;rw[a]at e2;cases e2;rw[e4]at b;cases b
   ·match m,h5 with
    | 0,h5=>show h5.elim
    | m+1,h5 =>
     let⟨n,hn⟩:=g.FH hr oH h3 (g.Mu hr oH ho h5 (by let⟨_,_,_,_,h⟩:=h4;show h));show#[n+1,cQ,f,.un h2,hn]
def HP(k j:Key):∀ kvs:List (Key×V),ah (gk kvs k) j=if j=k then none else ah kvs j
 | []=>by simp[ah,gk]
 | p::kvs=>by
  have ih:=HP k j kvs;by_cases e:p.1=k
  ·rw[UQ e,ih];by_cases e2:j=k
   ·rw[wl e2,wl e2]
   ·rw[wf e2,wf e2];unfold ah;rw[_2 (by simp[e,ss e2])]
  ·rw[adn e];unfold ah at ih ⊢;by_cases e3:p.1=j
   ·rw[List.find?_cons_of_pos (by simp[e3]),List.find?_cons_of_pos (by simp[e3]),wf (fun z=>e (e3.trans z))]
   ·rw[_2 (by simp[e3]),_2 (by simp[e3])];show ih
def zm{l:List (Nat×Nat)}{k j:Nat}:ah (nD (eK l k)) (.inl (j:Int))=if j=k then none else ah (nD l) (.inl (j:Int)):=by
 rw[<- D3,HP];by_cases e:j=k
 ·rw[wl e,wl (by rw[e])]
 ·rw[wf e,wf (fun h:(Sum.inl (j:Int):Key)=Sum.inl (k:Int)=>e (KM (Sum.inl.inj h)))]
def vp{l:List (Nat×Nat)}{k v j:Nat}(h:ah (nD l) (.inl (k:Int))=none):ah (nD (l++[(k,v)])) (.inl (j:Int))=if j=k then !.int (v:Int) else ah (nD l) (.inl (j:Int)):=by
 rw[<- Fm h,D2];by_cases e:j=k
 ·rw[wl e,wl (by rw[e])]
 ·rw[wf e,wf (fun h:(Sum.inl (j:Int):Key)=Sum.inl (k:Int)=>e (KM (Sum.inl.inj h)))]
def Gd.UX(g:Gd M){o y:Str}{f u m:Nat}{tf:Th}(hm:o≠("main":Str))(ho:ah (sD M.tr) (.inr o)=!.int (r:Int))(cZ:ah (nD M.un) (.inl (r:Int))=none)(eS:ah (nD M.ov) (.inl (f:Int))=none)(bE:M.ts[f]?=!tf)(hk:tf.kd=("folder":Str))(lD:gY M L m f u)(hti:sL M u y){m2:Nat}(iO:iS M L o m2 y false):Gd { M with ov:=M.ov++[(f,r)],un:=M.un++[(r,f)] }:=by
 let⟨q,tr,e1,eU,_,oH⟩:=g.tq o _ ho;injection e1 with e0;obtain rfl:=KM e0;clear e0;let⟨nf,gD⟩:=g.FH eU oH lD (g.Mu eU oH ho iO (by let⟨_,_,_,_,h⟩:=hti;show h));have old:∀ {k f'},k≠r->(fR M k f' ↔ fR { M with ov:=M.ov++[(f,r)],un:=M.un++[(r,f)] } k f'):=fun {k f'} hk=>by
  have e:ah (nD (M.un++[(r,f)])) (.inl (k:Int))=ah (nD M.un) (.inl (k:Int)):=by rw[vp cZ,wf hk]
  constructor
  ·intro h;cases h with
   | un h=>show .un (by change ah (nD (M.un++[(r,f)])) _=_;rw[e];show h)
   | pl a b=>show .pl a b
  ·intro h;cases h with
   | un h=>show .un (by rw[<- e];show h)
   | pl a b=>show .pl a b
 have avD:∀ {n k},Av M r n k->cC { M with ov:=M.ov++[(f,r)],un:=M.un++[(r,f)] } n k:=fun {n k} h=>by
  induction n generalizing k with
  | zero=>show fun f' hf=>h.2 f' ((old h.1).mpr hf)
  | succ n ih=>let⟨h1,f',h2,h3⟩:=h;show#[f',(old h1).mp h2,ih h3]
 have hr:cC { M with ov:=M.ov++[(f,r)],un:=M.un++[(r,f)] } (nf+1) r:=#[f,.un (by change ah (nD (M.un++[(r,f)])) _=_;rw[vp cZ,wl rfl]),avD gD];have ac:∀ {n k},cC M n k->∃ n',cC { M with ov:=M.ov++[(f,r)],un:=M.un++[(r,f)] } n' k:=fun {n k} h=>by
  induction n generalizing k with
  | zero =>
   by_cases e:k=r
   ·rw[e];show#[_,hr]
   ·show#[0,fun f' hf=>h f' ((old e).mpr hf)]
  | succ n ih =>
   by_cases e:k=r
   ·rw[e];show#[_,hr]
   ·let⟨f',h1,h2⟩:=h;let⟨n',h3⟩:=ih h2;show#[n' + 1,f',(old e).mp h1,h3]
 show#[g.ji,g.tn,g.tm,g.tq,g.tu,fun f' r'=>?_,fun r' f' h=>?_,fun z hz=>?_,g.rl,g.sl,g.t0,fun k t ht=>#[(g.th k t ht).nl,(g.th k t ht).kd,(g.th k t ht).ld,(g.th k t ht).pl,(g.th k t ht).ch],fun k t ht=>let ⟨n,h⟩:=g.ac k t ht;ac h]
 ·change ah (nD (M.ov++[(f,r)])) _=_ ↔ ah (nD (M.un++[(r,f)])) _=_;rw[vp eS,vp cZ];by_cases e1:f'=f
  ·subst e1;rw[wl rfl];by_cases e2:r'=r
   ·subst e2;rw[wl rfl];simp
   ·rw[wf e2];constructor
    ·intro h;show absurd (dH h).symm e2
    ·intro h;rw[(g.ou f' r').mpr h]at eS;cases eS
  ·rw[wf e1];by_cases e2:r'=r
   ·subst e2;rw[wl rfl];constructor
    ·intro h;rw[(g.ou f' r').mp h]at cZ;cases cZ
    ·intro h;show absurd (dH h).symm (by assumption)
   ·rw[wf e2];show g.ou f' r'
 ·have h':ah (nD (M.un++[(r,f)])) (.inl (r':Int))=!.int (f':Int):=h;rw[vp cZ]at h';split at h'
  ·rename_i e;obtain rfl:=dH h';show#[#[o,by rw[e];show ho],tf,bE,hk]
  ·show g.uq r' f' h'
 ·let⟨r,k,a⟩:=g.as z hz;show#[r,k,a.ro,a.st,a.tr,a.tk]
def Gd.take(g:Gd M){f:Nat}(cZ:ah (nD M.un) (.inl (r:Int))=!.int (f:Int)):Gd { M with ov:=eK M.ov f,un:=eK M.un r }:=by
 have eS:=(g.ou f r).mpr cZ;have up:∀ {k f'},fR { M with ov:=eK M.ov f,un:=eK M.un r } k f'->fR M k f':=fun {k f'} h=>by
  cases h with
  | un h =>
   have h':ah (nD (eK M.un r)) (.inl (k:Int))=_:=h;rw[zm]at h';split at h'
   ·cases h'
   ·show .un h'
  | pl a b=>show .pl a b
 have ac:∀ {n k},cC M n k->∃ n',cC { M with ov:=eK M.ov f,un:=eK M.un r } n' k:=fun {n k} h=>by
  induction n generalizing k with
  | zero=>show#[0,fun f' hf=>h f' (up hf)]
  | succ n ih =>
   let⟨f',h1,h2⟩:=h;let⟨n',h3⟩:=ih h2;by_cases e:∃ f2,fR { M with ov:=eK M.ov f,un:=eK M.un r } k f2
   ·let⟨f2,h4⟩:=e;obtain rfl:=g.mB h1 (up h4);show#[n' + 1,f',h4,h3]
   ·show#[0,fun f2 h4=>e #[f2,h4]]
 show#[g.ji,g.tn,g.tm,g.tq,g.tu,fun f' r'=>?_,fun r' f' h=>?_,fun z hz=>?_,g.rl,g.sl,g.t0,fun k t ht=>#[(g.th k t ht).nl,(g.th k t ht).kd,(g.th k t ht).ld,(g.th k t ht).pl,(g.th k t ht).ch],fun k t ht=>let ⟨n,h⟩:=g.ac k t ht;ac h]
 ·change ah (nD (eK M.ov f)) _=_ ↔ ah (nD (eK M.un r)) _=_;rw[zm,zm];by_cases e1:f'=f
  ·subst e1;rw[wl rfl];constructor
   ·intro h;cases h
   ·intro h;split at h
    ·cases h
    ·rename_i e2;have:=(g.ou f' r').mpr h;rw[eS]at this;show absurd (dH this).symm e2
  ·rw[wf e1];by_cases e2:r'=r
   ·subst e2;rw[wl rfl];constructor
    ·intro h;have:=(g.ou f' r').mp h;rw[cZ]at this;show absurd (dH this).symm e1
    ·intro h;cases h
   ·rw[wf e2];show g.ou f' r'
 ·have h':ah (nD (eK M.un r)) (.inl (r':Int))=!.int (f':Int):=h;rw[zm]at h';split at h'
  ·cases h'
  ·show g.uq r' f' h'
 ·let⟨r,k,a⟩:=g.as z hz;show#[r,k,a.ro,a.st,a.tr,a.tk]
end
section
variable {M:Hs}{L:List Ta}{z:Str}{r:Nat}
def va{l:List (Str×Nat)}{m y:Str}{n:Nat}(h:ah (sD l) (.inr m)=none):ah (sD (l++[(m,n)])) (.inr y)=if y=m then !.int (n:Int) else ah (sD l) (.inr y):=by
 rw[<- we h,D2];by_cases e:y=m
 ·rw[wl e,wl (by rw[e])]
 ·rw[wf e,wf (fun h:(Sum.inr y:Key)=Sum.inr m=>e (Jaa h))]
def Gd.tree(g:Gd M){m:Str}(hm:ah (sD M.tr) (.inr m)=none):Gd { M with ts:=M.ts++[#["folder",z,"lgw","lg","",[],[]]],tr:=M.tr++[(m,M.ts.length)] }:=by
 have new:(M.ts++[(#["folder",z,"lgw","lg","",[],[]]:Th)])[M.ts.length]?=!#["folder",z,"lgw","lg","",[],[]]:=by rw[EQ (pi _),_1];rfl
 have old:∀ (k:Nat) (t:Th),M.ts[k]?=!t->∃ t':Th,(M.ts++[(#["folder",z,"lgw","lg","",[],[]]:Th)])[k]?=!t'/\t'.kd=t.kd/\t'.bV=t.bV:=fun k t ht=>by
  rw[Cl (sB.mp ht).1];show#[t,ht,rfl,rfl]
 have inv:∀ {k:Nat}{t:Th},(M.ts++[(#["folder",z,"lgw","lg","",[],[]]:Th)])[k]?=!t->M.ts[k]?=!t\/k=M.ts.length/\t=#["folder",z,"lgw","lg","",[],[]]:=fun {k t} h=>by
  by_cases hk:k < M.ts.length
  ·rw[Cl hk]at h;show .inl h
  ·have:=(sB.mp h).1;rw[mo]at this;have e:k=M.ts.length:=by simp at this;omega
   subst e;rw[new]at h;cases h;show .inr #[rfl,rfl]
 have none_:M.ts[M.ts.length]?=none:=List.getElem?_eq_none_iff.mpr (pi _);have xw:∀ y v,ah (sD M.tr) (.inr y)=!v->ah (sD (M.tr++[(m,M.ts.length)])) (.inr y)=!v:=fun y v h=>by
  rw[va hm,wf (fun e=>by rw[e,hm]at h;cases h)];show h
 have fo:∀ {k:Nat},(∃ t,M.ts[k]?=!t/\t.kd=("folder":Str))->∃ t,(M.ts++[(#["folder",z,"lgw","lg","",[],[]]:Th)])[k]?=!t/\t.kd=("folder":Str):=fun {k} ⟨t,e1,e2⟩=>by
  let⟨t',e3,e4,_⟩:=old _ _ e1;show#[t',e3,e4.trans e2]
 have ll:M.ts.length<=(M.ts++[(#["folder",z,"lgw","lg","",[],[]]:Th)]).length:=by rw[mo];omega
 show#[?_,?_,xw _ _ g.tm,fun y v hv=>?_,fun y y' v h1 h2=>?_,g.ou,fun q f h=>?_,fun y hy=>?_,g.rl,g.sl,fo g.t0,fun k t ht=>?_,fun k t ht=>?_]
 ·change(M.tr++[(m,M.ts.length)]).length<=(M.ts++[(#["folder",z,"lgw","lg","",[],[]]:Th)]).length;have:=g.ji;simp;omega
 ·change((M.tr++[(m,M.ts.length)]).map (·.1)).Nodup;rw[Da];show Fa.mpr #[g.tn,(),fun a ha b hb e=>?_];have hb':b=m:=by simpa using hb
  rw[e,hb']at ha;let⟨w,hw,e2⟩:=wS.mp ha;have hs:(ah (sD M.tr) (.inr m)).isSome=true:=by
   unfold ah;rw[SL,_C];show#[_,wS.mpr #[w,hw,rfl],by simp[e2]]
  rw[hm]at hs;cases hs
 ·have hv':ah (sD (M.tr++[(m,M.ts.length)])) (.inr y)=!v:=hv;rw[va hm]at hv';split at hv'
  ·cases hv';show#[M.ts.length,_,rfl,new,rfl,rfl]
  ·let⟨q,t,e1,e2,e3,e4⟩:=g.tq y v hv';let⟨t',e5,e6,e7⟩:=old _ _ e2;show#[q,t',e1,e5,e6.trans e3,e7.trans e4]
 ·have h1':ah (sD (M.tr++[(m,M.ts.length)])) (.inr y)=!v:=h1;have h2':ah (sD (M.tr++[(m,M.ts.length)])) (.inr y')=!v:=h2;rw[va hm]at h1' h2';have no:∀ y,ah (sD M.tr) (.inr y)≠!.int ((M.ts.length:Nat):Int):=fun y h=>by
   let⟨q,t,e1,e2,_⟩:=g.tq y _ h;injection e1 with e1;rw[<- KM e1,none_]at e2;cases e2
  split at h1'
  ·rename_i a;split at h2'
   ·rename_i b;show a.trans b.symm
   ·cases h1';show absurd h2' (no y')
  ·split at h2'
   ·cases h2';show absurd h1' (no y)
   ·show g.tu y y' v h1' h2'
 ·let⟨⟨y,hy⟩,h2⟩:=g.uq q f h;show#[#[y,xw _ _ hy],fo h2]
 ·let⟨r,k,a⟩:=g.as y hy;show#[r,k,a.ro,a.st,fo a.tr,fo a.tk]
 ·rcases inv ht with h | ⟨rfl,rfl⟩
  ·show(g.th k t h).lift ll xw rfl rfl rfl rfl old
  ·show#[wT _,.inl rfl,fun e=>absurd (show("folder":Str) = "lead" from e) (by symm),.inl #[rfl,rfl,m,by change ah (sD (M.tr++[(m,M.ts.length)])) _=_;rw[va hm,wl rfl]],fun y v h=>by cases h]
 ·rcases inv ht with h | ⟨rfl,rfl⟩
  ·let⟨n,hd⟩:=g.ac k t h;show#[n,y3 (M':={ M with ts:=M.ts++[#["folder",z,"lgw","lg","",[],[]]],tr:=M.tr++[(m,M.ts.length)] }) g rfl old h hd]
  ·show#[0,fun f hf=>?_];cases hf with
   | un h=>let⟨t',e,_⟩:=g.o9 h;rw[none_]at e;cases e
   | pl a b =>
    have a':(M.ts++[(#["folder",z,"lgw","lg","",[],[]]:Th)])[M.ts.length]?=!_:=a;rw[new]at a';cases a';cases b
def YG(g:Gd M)(hL:L.length=M.ts.length)(hn:M.ts.length<=90)(hz:z∈AS){t:List Nat}(p:fb t){y:Str}(hy:(ah (sD M.tr) (.inr y)).isSome=true) :
  ∃ root r,uF #[L,M,z,true,root] t y r/\∀ f k,r=.inr (f,k)->Gd { M with ov:=M.ov++[(f,k)],un:=M.un++[(k,f)] }:=by
 let⟨root,sr,h0,h1,h2⟩:=Mm g hL hn hz p;cases sr with
 | inl x=>show#[root,_,.no h1,nofun]
 | inr f =>
  let⟨tf,bE,cD,f7⟩:=h2 f rfl;let⟨v,hv⟩:=On.mp hy;let⟨r,rfl⟩:=pV hv;by_cases e:y=("main":Str)
  ·show#[root,_,.go h1 (.main e),nofun]
  ·cases hu:ah (nD M.un) (.inl (r:Int)) with
   | some v =>
    let⟨q,rfl⟩:=ke hu;show#[root,_,.go h1 (.Jg e hv hu),nofun]
   | none =>
    let⟨n,hd⟩:=g.ac f tf bE;let⟨m,u,tu,a1,a2,a3,n',a4,a5⟩:=g.Bs hL n f tf bE hd;let⟨x,hx⟩:=g.NY a2 a3;let⟨b,hb⟩:=g.HL hL y n' u x tu a2 (by let⟨_,_,_,_,h⟩:=hx;show h) #[n',pi _,a5];cases b with
    | true=>show#[root,_,.go h1 (.ring e hv hu #[m,a1] hx #[_,hb]),nofun]
    | false =>
     let⟨b,l,hs⟩:=g.dk hn bE cD;have GW:ah (nD M.ov) (.inl (f:Int))=none:=by
      have e2:=(f7.inv hs).1;let⟨_,m3,hu3,_⟩:=hs;rw[e2];show hu3.top
     cases hw:dO ("w":Str) (dB tf z) with
     | false=>show#[root,_,.go h1 (.ok (x:=x) (o:=.inl (.dz "kept")) e hv hu #[m,a1] hx #[_,hb] bE GW (by rw[wf (by change ¬ dO ("w":Str) (dB tf z)=true;rw[hw];nofun)])),nofun]
     | true =>
      show#[root,_,.ok h1 (.ok (x:=x) (o:=.inr r) e hv hu #[m,a1] hx #[_,hb] bE GW (by rw[wl (show dO ("w":Str) (dB tf z)=true from hw)])),fun f' k e'=>?_];cases e';show g.UX e hv hu GW bE cD a1 hx hb
end
def  J1(m:Nat)(CH CS CT:ϋ):Sp:=iN fun x n H Q _=>X6 fun A L M (k:Nat) (j:Nat) l=>A8 (aF CH CS CT H A L M) (A.a=x) (n=(k:Int)) (Gd M) (M.tr.length < 64) (cX M j k l) (j<=m) (∀ H',ai H H'->Q (.int ((aZ k l:Nat):Int)) H')
def E7{M:Hs}{y:Str}(h:y∈cK M):∃ r:Nat,ah (sD M.tr) (.inr y)=!.int (r:Int):=by
 let⟨w,hw,rfl⟩:=wS.mp ((lQ _).mem_iff.mp h);have hs:(ah (sD M.tr) (.inr w.1)).isSome=true:=by
  unfold ah;rw[SL,_C];show#[_,wS.mpr #[w,hw,rfl],()]
 let⟨v,hv⟩:=On.mp hs;let⟨q,rfl⟩:=pV hv;show#[q,hv]
def CQ{M:Hs}{y:Str}{v:V}(h:ah (sD M.tr) (.inr y)=!v):y∈cK M:=(lQ _).mem_iff.mpr (IA h)
def Iu{d m:Nat}{sp':Sp}(hd:3<=d)(jD:aA P w K mg base aJ d T.di.f T.di.d ["_law_house_here","_law_folder"] sp')(gE:∀ {A:Ad}{L:List Ta}{M:Hs}{q j:Nat}{l:List Nat}{H:Hp}{Q:VK}{E:XK},aF T.aI T.aK T.aQ H A L M->Gd M->M.tr.length < 64->cX M j q l->j+1<=m->(∀ H',ai H H'->Q (.int ((aZ q l:Nat):Int)) H')->sp' [-A.a,.int (q:Int)] H Q E) :
  aA P w K mg base aJ (d+1) T.di.f T.di.d ["_law_house_here","_law_folder"] (J1 m T.aI T.aK T.aQ):=by
 show T.di.F.ok IJ (fun _ _ _ _ h=>cz h fun _ _ _=>rfl) fun ax A _ s H vs Q E hr h=>cz h fun x n h=>?_;let⟨AA,L,M,k,j,l,i,rfl,rfl,g,dE,hu,hj,q⟩:=h;let⟨fs,c,hx,aO,sf⟩:=i.h;show bF (b:=aU D7) ((al (m9 Db rfl (iH (K:=K) rfl (lT T.aD T.gL.h (rY T) (hr.mono ∅) T.gL.b .nil aq (ad 0))) (eN 2 IJ.nd) (aj (aV (aX cF (aW T.aD T.fV.h (pF T) (hr.mono ∅) T.fV.b .nil aq (ad 0) (aa (ad 2) ae)) (ad 1)) (aj (aL (bn jD (hr.mono ∅) T.di.m T.di.F.kp T.di.b .nil aq (aa (ad 0) (aa (aW T.aD T.iI.h (uk T) (hr.mono ∅) T.iI.b .nil aq (ad 0) (aa (ad 2) ae)) ae))))) bv)))
 (aj (aL (ad 1))))) ?_
 exists 1;show cu fun N hN=>?_;left;show(mI hx sf #[AA,L,M,i,rfl,dE,fun tl ly=>?_]);show dh ly fun H1 s1 b1=>?_;have i1:=i.same s1;let⟨eY,c1,bg,fT,bX⟩:=i1.h;show#[#[_,aC.of b1],qe (xs:=(cK M).map V.str) (fun jj σ' H'=>H'=H1/\(∃ t,σ'=[!V.ref AA.a,!V.int (k:Int),t])/\∀ i' y r,i' < jj->(cK M)[i']?=!y->ah (sD M.tr) (.inr y)=!.int ((r:Nat):Int)->ah (nD M.un) (.inl (r:Int))≠!.int (k:Int)) #[rfl,#[_,rfl],fun i' y r h=>absurd h (_g _)] (fun jj σ' H' _ h=>by rw[h.1];show aC.of b1) ?_ (fun σ' H' h=>hN _ _ ?_)]
 ·rintro jj v σ' H' hv ⟨rfl,⟨t,rfl⟩,eF⟩;rw[At]at hv;let⟨y,hy,rfl⟩:=LT.mp hv;let⟨r,dM⟩:=E7 (LE hy);left;show(mI bg bX #[AA,L,M,r,i1,rfl,dM,?_]);have more:ah (nD M.un) (.inl (r:Int))≠!.int (k:Int)->H'=H'/\(∃ t,[!V.ref AA.a,!V.int (k:Int),!V.str y]=[!V.ref AA.a,!V.int (k:Int),t])/\∀ i' y r,i' < jj+1->(cK M)[i']?=!y->ah (sD M.tr) (.inr y)=!.int ((r:Nat):Int)->ah (nD M.un) (.inl (r:Int))≠!.int (k:Int):=fun e=>by
   show#[rfl,#[_,rfl],fun i' y' r' hi hy' hr'=>?_];by_cases lA:i'=jj
   ·subst lA;rw[hy]at hy';cases hy';rw[dM]at hr';obtain rfl:=dH hr';show e
   ·show eF i' y' r' ∅ hy' hr'
  cases e:ah (nD M.un) (.inl (r:Int)) with
  | none=>show#[rfl,bh (kt (by nofun)) (more (by rw[e];nofun))]
  | some v =>
   let⟨f,rfl⟩:=ke e;by_cases ef:f=k
   ·subst ef;show bI (sw rfl) (mI bg bX #[AA,L,M,r,i1,rfl,dM,?_]);have ho:=(g.ou f r).mpr e
    match j,hu with
    | 0,hu=>rw[hu.1]at ho;cases ho
    | j+1,⟨q',l',h1,h2,e2⟩ =>
     rw[ho]at h1;obtain rfl:=dH h1;rw[e2]at q;show gE i1 g dE h2 hj fun H' s'=>by have:=q H' (s1.trans s');rw[oi]at this;show this
   ·show bh (kt fun z=>ef (KM z)) (more (by rw[e];intro z;show ef (dH z)))
 ·let⟨rfl,⟨t,rfl⟩,eF⟩:=h;left;have eS:ah (nD M.ov) (.inl (k:Int))=none:=by
   cases ho:ah (nD M.ov) (.inl (k:Int)) with
   | none=>rfl
   | some v =>
    let⟨r,rfl⟩:=ke ho;have cZ:=(g.ou k r).mp ho;let⟨⟨y,hy⟩,_⟩:=g.uq r k cZ;let⟨i',hi'⟩:=_j (CQ hy);show absurd cZ (eF i' y r (by rw[lv];show(sB.mp hi').1) hi' hy)
  match j,hu with
  | 0,hu=>rw[hu.2]at q;show q _ s1
  | j+1,⟨q',l',h1,_⟩=>rw[eS]at h1;cases h1
def wD:∀ m,aA P w K mg base aJ (m+4) T.di.f T.di.d ["_law_house_here","_law_folder"] (J1 m T.aI T.aK T.aQ):=by
 intro m
 induction m with
 | zero=>show Iu T (pi 3) (sp':=fun _ _ _ _=>False) aA.never fun _ _ _ _ h _=>absurd h ∅
 | succ m ih=>show Iu T (d:=m+4) ∅ ih fun {A L M q j l H Q E} i g dE hu hj h=>#[A,L,M,q,j,l,i,rfl,rfl,g,dE,hu,∅,h]
section
variable {M:Hs}{L:List Ta}{z:Str}{r:Nat}
def HJ:∀ {l m:List Nat},l.Nodup->(∀ x∈l,x∈m)->l.length<=m.length
 | [],_,_,_=>wT _
 | a::l,m,nd,h=>by
  let⟨h1,h2⟩:=AT.mp nd;have ha:=h a ();have h3:=HJ (m:=m.erase a) h2 fun x hx=>(List.mem_erase_of_ne (fun e:x=a=>h1 (by rw[<- e];show hx))).mpr (h x (by simp[hx]));rw[List.length_erase_of_mem ha]at h3;have:=List.length_pos_of_mem ha;rw[xz];omega
def US{y:Str}{q:Nat}(h:ah (sD M.tr) (.inr y)=!.int (q:Int)):q∈M.tr.map (·.2):=by
 unfold ah at h;let⟨kv,h1,h2⟩:=LT.mp h;let⟨e,he,rfl⟩:=wS.mp (_e h1);injection h2 with h2;show wS.mpr #[e,he,KM h2]
def Gd.Kd(g:Gd M):∀ {n k b d:Nat},eI M n k b->cC M d k->∃ rs:List Nat,rs.length=n/\rs.Nodup/\∀ x∈rs,x∈M.tr.map (·.2)/\∃ j,j<=d/\cC M j x
 | 0,k,b,d,_,_=>#[[],rfl,.nil,nofun]
 | n+1,k,b,0,⟨k',h1,_⟩,hd=>absurd (.un h1) (hd k')
 | n+1,k,b,d+1,⟨k',h1,h2⟩,⟨f,u1,u2⟩=>by
  obtain rfl:=g.mB u1 (.un h1);let⟨rs,e1,e2,e3⟩:=g.Kd h2 u2;let⟨⟨y,hy⟩,_⟩:=g.uq k f h1;show#[k::rs,by rw[xz,e1],AT.mpr #[fun hm=>?_,e2],fun x hx=>?_]
  ·let⟨_,j,hj,hd⟩:=e3 k hm;have:=g.yy hd (show cC M (d+1) k from#[f,u1,u2]);omega
  ·rcases li.mp hx with rfl | hx
   ·show#[US hy,d+1,pi _,f,u1,u2]
   ·let⟨a,j,hj,hd⟩:=e3 x hx;show#[a,j,∅,hd]
def Gd.HQ(g:Gd M){n k b:Nat}{t:Th}(ht:M.ts[k]?=!t)(h:eI M n k b):n<=(cK M).length:=by
 let⟨d,hd⟩:=g.ac k t ht;let⟨rs,e1,e2,e3⟩:=g.Kd h hd;have:=HJ e2 fun x hx=>(e3 x hx).1;rw[e1,lv]at this;unfold cK;rw[yK,lv];show this
def Gd.Fd(g:Gd M):∀ {m n k:Nat}{l:List Nat},cX M m k l->cC M n k->cC M (n+m) (aZ k l)
 | 0,n,k,l,⟨_,e⟩,hd=>by rw[e];show hd
 | m+1,n,k,l,⟨q,l',h1,h2,e⟩,hd=>by
  rw[e,oi,show n+(m+1)=(n+1)+m by omega];show g.Fd h2 #[k,.un ((g.ou k q).mp h1),hd]
def Gd.TB(g:Gd M){m k:Nat}{l:List Nat}{t:Th}(ht:M.ts[k]?=!t)(h:cX M (m+1) k l):aZ k l≠k:=fun e=>by
 let⟨n,hd⟩:=g.ac k t ht;have h2:=g.Fd h hd;rw[e]at h2;have:=g.yy hd h2;omega
def Gd.rJ(g:Gd M){m k:Nat}{l:List Nat}{t:Th}(ht:M.ts[k]?=!t)(hk:t.kd=("folder":Str))(h:cX M m k l):m < M.ts.length:=by
 let⟨n,hd⟩:=g.ac k t ht;have h2:=g.Fd h hd;let⟨tt,h3,_⟩:=g.EO h ht hk;have:=g.zE h3 h2;omega
end
def  WA(CH CS CT:ϋ):Sp:=iN fun x n H Q _=>X7 fun A L M (k:Nat) (b:Nat) r t=>A9 (aF CH CS CT H A L M) (A.a=x) (n=(k:Int)) (Gd M) (M.ts.length<=40) (M.ts[k]?=!t) (t.kd=("folder":Str)) (cf M k b r) (∀ l H',ai H H'->H l=none->H' l=!.lst (nV (b::r))->Q (-l) H')
def  Lk(M:Hs):List Nat->Prop
 | x::y::l=>ah (nD M.un) (.inl (y:Int))=!.int (x:Int)/\Lk M (y::l)
 | _=>True
def N1{M:Hs}(g:Gd M):∀ {l:List Nat}{h m:Nat}{r:List Nat},Lk M (h::l)->cX M m h r->∃ m' rest,cX M m' (aZ h l) rest/\h::r=(h::l)++rest
 | [],h,m,r,_,hu=>#[m,r,hu,rfl]
 | y::l,h,m,r,⟨h1,h2⟩,hu=>by
  have ho:=(g.ou h y).mpr h1
  match m,hu with
  | 0,hu=>rw[hu.1]at ho;cases ho
  | m+1,⟨q,r',h3,h4,e⟩ =>
   rw[ho]at h3;obtain rfl:=dH h3;let⟨m',rest,h5,h6⟩:=N1 g h2 h4;show#[m',rest,by rw[oi];show h5,by rw[e,List.cons_append,h6]]
structure zA(M:Hs)(H:Hp)(a:ϋ)(k b n0 rem h:Nat)(σ:L2.St)(H':Hp):Prop where
 s:ai H H'
 ex:∃ (l:List Nat) (lf:ϋ) (t1 t2:Option V),σ=[!V.ref a,!V.int (k:Int),!V.ref lf,t1,t2]/\H lf=none/\H' lf=!.lst (nV (h::l))/\l.length+rem=n0/\Lk M (h::l)/\aZ h l=k
 b:eI M rem h b
structure zl(M:Hs)(H:Hp)(a:ϋ)(k b:Nat)(r:List Nat)(lf:ϋ)(m x:Nat)(σ:L2.St)(H':Hp):Prop where
 s:ai H H'
 ex:∃ (pre rest:List Nat) (t1 t2:Option V),σ=[!V.ref a,!V.int (k:Int),!V.ref lf,t1,t2]/\H' lf=!.lst (nV (pre++[x]))/\b::r=(pre++[x])++rest/\cX M m x rest
 t:∃ tx,M.ts[x]?=!tx/\tx.kd=("folder":Str)
def IS{a b:Nat}(h:a < b+1)(n:a≠b):a < b:=∅
def Il{a b:Nat}(h:a+1=b):a < b:=∅
def ye:T.gU.k P w base 45 (WA T.aI T.aK T.aQ):=by
 have jD:=wD (P:=P) (w:=w) (base:=base) T 40;show T.gU.F.ok qN (fun _ _ _ _ h=>cz h fun _ _ _=>rfl) fun ax A _ s H vs Q E hr h=>cz h fun x n h=>?_;let⟨AA,L,M,k,b,r,t,i,rfl,rfl,g,hn,ht,hk,⟨⟨n0,hB⟩,m0,hU,_⟩,q⟩:=h;have dE:M.tr.length < 64:=by have:=g.ji;omega
 show bF (b:=aU Cw) ((al (aM 2 qN.nd (cr (aa (ad 1) ae)))
 (al (m9 Db rfl (iH (K:=K) rfl (lT T.aD T.gL.h (rY T) hr.m T.gL.b .nil aq (ad 0))) (eN 3 qN.nd) (aj (m9 Db rfl (iH (K:=K) rfl (lT T.aD T.gL.h (rY T) hr.m T.gL.b .nil aq (ad 0))) (eN 4 qN.nd) (aj (aV (ff (gl (aX cF (uk<*T.iI (ad 0) (aa (ad 4) ae)) (ce (bG (K:=K) rfl) (ad 2) ap)) (kE (aX mx (pF<*T.fV (ad 0) (aa (ad 4) ae)) aw)))) (aj (aM 2 qN.nd (db ej (cr (aa (pF<*T.fV (ad 0) (aa (ad 4) ae)) ae)) (ad 2)))) bv)))))
 (al (j3 Db (aX me (bn jD hr.m T.di.m T.di.F.kp T.di.b .nil aq (aa (ad 0) (aa (ce (bG (K:=K) rfl) (ad 2) (ii j0 ap)) ae))) (ce (bG (K:=K) rfl) (ad 2) (ii j0 ap))) (aj (m9 Db rfl (iH (K:=K) rfl (lT T.aD T.gL.h (rY T) hr.m T.gL.b .nil aq (ad 0))) (eN 4 qN.nd) (aj (aV (aX cF (pF<*T.fV (ad 0) (aa (ad 4) ae)) (ce (bG (K:=K) rfl) (ad 2) (ii j0 ap))) (aj (aN (fX Do Ev jQ (ad 2) (aa (uk<*T.iI (ad 0) (aa (ad 4) ae)) ae)))) bv)))))
 (aj (aL (ad 2))))))) ?_
 exists 3;show cu fun N hN=>?_;left;show#[fits (),fun lf oR=>hN _ _ (cu fun N hN=>?_)];have s0:=ai.upd (o:=.lst [V.int (k:Int)]) oR;have b0:upd H lf (.lst [V.int (k:Int)]) lf=!.lst (nV [k]):=ay;generalize upd H lf (.lst [V.int (k:Int)])=H0 at s0 b0 ⊢;have tl:∀ {H1:Hp}{R:VK},ai H H1->(∀ l H2,ai H1 H2->H1 l=none->H2 l=!.lst ((cK M).map V.str)->R (-l) H2)->JY T.aI T.aK T.aQ [-AA.a] H1 R E0:=fun {H1 R} s1 hR=>#[AA,L,M,i.same s1,rfl,dE,fun l hl=>hR l _ (ai.upd hl) hl ay];show(show ∀ N':L2.St->Hp->Prop,(∀ σ' H' h,zA M H AA.a k b n0 0 h σ' H'->N' σ' H')->uJ _ _ _ { nx:=N',rt:=_ } _ _ from fun N' hN'=>?_) _ fun σ1 H1 h1 hI=>hN _ _ (cu fun N hN=>?_)
 ·left;have i0:=i.same s0;let⟨fs0,c0,zR,hfl0,sf0⟩:=i0.h;show(mI zR sf0 (tl s0 fun la H1 s1 _ b1=>#[#[_,aC.of b1],qe (xs:=(cK M).map V.str) (fun tt σ' H'=>H' la=!.lst ((cK M).map V.str)/\∃ rem h,zA M H AA.a k b n0 rem h σ' H'/\(rem=0\/rem+tt<=n0)) #[b1,n0,k,#[s0.trans s1,#[[],lf,_,_,rfl,oR,s1 _ _ b0,Nat.zero_add _,trivial,rfl],hB],.inr (pi _)] (fun jj σ' H' _ h=>aC.of h.1) ?_ (fun σ' H' h=>?_)]))
  ·intro tt v σ' H2 hv z0;let⟨b2,qF,h0,⟨s2,⟨l0,G8,t1,t2,rfl,f0,c0,e0,k0,z0⟩,Ql⟩,G3⟩:=z0;have i2:=i.same s2;let⟨ia,c2,bT,gF,bY⟩:=i2.h;left;show(mI bT bY (tl s2 fun lb H3 s3 _ b3=>#[#[_,aC.of b3],qe (xs:=(cK M).map V.str) (fun jj σ' H'=>H' la=!.lst ((cK M).map V.str)/\H' lb=!.lst ((cK M).map V.str)/\∃ rem h,zA M H AA.a k b n0 rem h σ' H'/\(rem < qF\/rem=qF/\h=h0/\∀ i' y,i' < jj->(cK M)[i']?=!y->ah (sD M.tr) (.inr y)=!.int (h0:Int)->ah (nD M.un) (.inl (h0:Int))=none)) #[s3 _ _ b2,b3,qF,h0,#[s2.trans s3,#[l0,G8,_,_,rfl,f0,s3 _ _ c0,e0,k0,z0],Ql],.inr #[rfl,rfl,fun i' y h=>absurd h (_g _)]] (fun jj σ' H' _ h=>aC.of h.2.1) ?_ (fun σ' H' h=>?_)]))
   ·intro jj v σ' H4 hv z0;let⟨b4,b5,rem,h,⟨s4,⟨l,i8,t1,t2,rfl,f1,c1,e1,k1,z1⟩,tT⟩,cg⟩:=z0;rw[At]at hv;let⟨y,hy,rfl⟩:=LT.mp hv;let⟨rr,oM⟩:=E7 (LE hy);have i4:=i.same s4;let⟨oX,c4,f6,mX,jb⟩:=i4.h;left;show(mI f6 jb #[AA,L,M,rr,i4,rfl,oM,?_]);simp only[ee,c1,show cS (nV (h::l)) 0=some (.int (h:Int)) from gZ (j:=0) rfl];have keep:rr≠h\/ah (nD M.un) (.inl (h:Int))=none->∃ rem h,zA M H AA.a k b n0 rem h [!V.ref AA.a,!V.int (k:Int),!V.ref i8,t1,!V.str y] H4/\(rem < qF\/rem=qF/\h=h0/\∀ i' y,i' < jj+1->(cK M)[i']?=!y->ah (sD M.tr) (.inr y)=!.int (h0:Int)->ah (nD M.un) (.inl (h0:Int))=none):=fun cQ=>by
     show#[rem,h,#[s4,#[l,i8,_,_,rfl,f1,c1,e1,k1,z1],tT],?_];rcases cg with cg | ⟨e,rfl,cg⟩
     ·show .inl cg
     ·show .inr #[e,rfl,fun i' y' hi hy' hr'=>?_];by_cases lA:i'=jj
      ·subst lA;rw[hy]at hy';cases hy';rw[oM]at hr';show cQ.resolve_left fun z=>z (dH hr')
      ·show cg i' y' (IS hi lA) hy' hr'
    by_cases er:rr=h
    ·subst er;show bI (sw rfl) (mI f6 jb #[AA,L,M,rr,i4,rfl,oM,by trivial,?_]);cases hu:ah (nD M.un) (.inl (rr:Int)) with
     | none=>show bh (GE not (sw rfl)) #[b4,b5,keep (.inr hu)]
     | some v =>
      let⟨f,rfl⟩:=ke hu;show bI (GE not (kt (by nofun))) (mI f6 jb #[AA,L,M,rr,i4,rfl,oM,?_]);rw[hu,Option.getD_some];show#[fits (),fun p hp=>?_];show dh hp fun H5 s5 d5=>?_;simp only[d5,s5 _ _ c1];cases rem with
      | zero=>rw[tT.1]at hu;cases hu
      | succ rem =>
       let⟨f',hf',bn2⟩:=tT;rw[hu]at hf';obtain rfl:=dH hf';have hlen:l.length<=40:=by have:=g.HQ ht hB;have h5:=g.ji;unfold cK at this;rw[yK,lv]at this;omega
       show#[fits (by simp;omega),fun p2 cL=>?_];have s6:=ai.upd (o:=.lst ([V.int (f:Int)]++nV (rr::l))) cL;show#[(s5.trans s6) _ _ b4,(s5.trans s6) _ _ b5,rem,f,#[s4.trans (s5.trans s6),#[rr::l,p2,_,_,rfl,o8 (s4.trans s5) cL,by rw[ay];rfl,by rw[xz];omega,#[hu,k1],by rw[oi];show z1],bn2],?_];rcases cg with cg | ⟨e,_⟩
       ·show .inl (Nat.lt_of_succ_lt cg)
       ·show .inl (Il e)
    ·show bh (kt fun z=>er (KM z)) (bf #[b4,b5,keep (.inl er)])
   ·let⟨b4,b5,rem,h,hI,cg⟩:=h;show#[b4,rem,h,hI,?_];rcases G3 with G3 | G3
    ·rcases cg with cg | ⟨e,_⟩
     ·omega
     ·show .inl ∅
    ·rcases cg with cg | ⟨e,e2,eF⟩
     ·show .inr ∅
     ·cases qF with
      | zero=>show .inl e
      | succ qF =>
       let⟨f,hf,_⟩:=Ql;let⟨⟨y,hy⟩,_⟩:=g.uq h0 f hf;let⟨i',hi'⟩:=_j (CQ hy);have:=eF i' y (by rw[lv];show(sB.mp hi').1) hi' hy;rw[hf]at this;cases this
  ·let⟨_,rem,h,hI,cg⟩:=h;have hle:=g.HQ ht hB;have:rem=0:=by
    rcases cg with cg | cg
    ·show cg
    ·rw[lv]at cg;omega
   subst this;show hN' _ _ h hI
 ·let⟨s1,⟨l1,i8,t1,t2,rfl,f1,c1,e1,k1,z1⟩,tT⟩:=hI;obtain rfl:b=h1:=tT.2;let⟨m1,rest,u1,er⟩:=N1 g k1 hU;rw[z1]at u1;let⟨pre,gf⟩:=D5 (b:=b) (r:=l1);rw[z1]at gf;have start:zl M H AA.a k b r i8 m1 k [!V.ref AA.a,!V.int (k:Int),!V.ref i8,t1,t2] H1:=#[s1,#[pre,rest,_,_,rfl,by rw[<- gf];show c1,by rw[<- gf];show er,u1],t,ht,hk];show#[fun m σ' H'=>∃ x,zl M H AA.a k b r i8 m x σ' H',#[m1,k,start],?_];clear start er u1 gf pre c1 e1 k1 z1 tT s1 rest;intro m σ' H2 z0;let⟨x,s2,⟨pre,rest,t1,t2,rfl,c2,er,hu⟩,tx,iu,Qo⟩:=z0;have i2:=i.same s2;have c2':H2 i8=!.lst (nV pre++[V.int (x:Int)]):=by rw[c2,iQ];rfl
  left
  rwa [c2',kx]
  have iA:=g.rJ iu Qo hu;show#[AA,L,M,x,m,rest,i2,rfl,rfl,g,dE,hu,∅,fun H3 s3=>?_];simp only[s3 _ _ c2',kx];cases m with
  | zero =>
   let⟨_,e⟩:=hu;subst e;show bh (by simp[aZ]) (hN _ _ ?_);left;rw[UV]at er;show q i8 H3 (s2.trans s3) f1 (by rw[er];show s3 _ _ c2)
  | succ m =>
   show bI (GE not (kt fun z=>g.TB iu hu (KM z))) #[_,fun _ _ h=>h,?_];have i3:=i.same (s2.trans s3);let⟨hX,c3,da,f9,dR⟩:=i3.h;left;show(mI da dR (tl (s2.trans s3) fun la H4 s4 fa b4=>#[#[_,aC.of b4],qe (xs:=(cK M).map V.str) (fun jj σ' H'=>H' la=!.lst ((cK M).map V.str)/\∃ m' x',zl M H AA.a k b r i8 m' x' σ' H'/\(m' < m+1\/m'=m+1/\x'=x/\∀ i' y r',i' < jj->(cK M)[i']?=!y->ah (sD M.tr) (.inr y)=!.int ((r':Nat):Int)->ah (nD M.un) (.inl (r':Int))≠!.int (x:Int))) #[b4,m+1,x,#[(s2.trans s3).trans s4,#[pre,rest,_,_,rfl,(s3.trans s4) _ _ c2,er,hu],tx,iu,Qo],.inr #[rfl,rfl,fun i' y r' h=>absurd h (_g _)]] (fun jj σ' H' _ h=>aC.of h.1) ?_ (fun σ' H' h=>?_)]))
   ·intro jj v σ' H5 hv z0;let⟨b5,m',x',⟨s5,⟨pre',rest',t1',t2',rfl,c5,er',hu'⟩,tx',htx',hkx'⟩,cg⟩:=z0;rw[At]at hv;let⟨y,hy,rfl⟩:=LT.mp hv;let⟨rr,oM⟩:=E7 (LE hy);have i5:=i.same s5;let⟨tD,c6,gg,hfl5,mV⟩:=i5.h;have c5':H5 i8=!.lst (nV pre'++[V.int (x':Int)]):=by rw[c5,iQ];rfl
    have nla:la≠i8:=fun z=>by rw[z,s3 _ _ c2]at fa;cases fa
    left;show(mI gg mV #[AA,L,M,rr,i5,rfl,oM,?_])
    rwa [c5',kx]
    have keep:ah (nD M.un) (.inl (rr:Int))≠!.int (x':Int)->∃ m' x',zl M H AA.a k b r i8 m' x' [!V.ref AA.a,!V.int (k:Int),!V.ref i8,t1',!V.str y] H5/\(m' < m+1\/m'=m+1/\x'=x/\∀ i' y r',i' < jj+1->(cK M)[i']?=!y->ah (sD M.tr) (.inr y)=!.int ((r':Nat):Int)->ah (nD M.un) (.inl (r':Int))≠!.int (x:Int)):=fun cQ=>by
     show#[m',x',#[s5,#[pre',rest',_,_,rfl,c5,er',hu'],tx',htx',hkx'],?_];rcases cg with cg | ⟨e,rfl,cg⟩
     ·show .inl cg
     ·show .inr #[e,rfl,fun i' y' r' hi hy' hr'=>?_];by_cases lA:i'=jj
      ·subst lA;rw[hy]at hy';cases hy';rw[oM]at hr';obtain rfl:=dH hr';show cQ
      ·show cg i' y' r' (IS hi lA) hy' hr'
    cases e:ah (nD M.un) (.inl (rr:Int)) with
    | none=>show#[rfl,bh (kt (by nofun)) #[b5,keep (by rw[e];nofun)]]
    | some v =>
     let⟨f,rfl⟩:=ke e;by_cases ef:f=x'
     ·subst ef;show bI (sw rfl) (mI gg mV #[AA,L,M,rr,i5,rfl,oM,?_]);have ho:=(g.ou f rr).mpr e;cases m' with
      | zero=>rw[hu'.1]at ho;cases ho
      | succ m' =>
       let⟨q',l',w1,w2,w3⟩:=hu';rw[ho]at w1;obtain rfl:=dH w1;subst w3
       rwa [c5']
       have hlen:(pre'++[f]).length<=200:=by
        have h1:=GE List.length er';have h2:=hU.len;have h3:=g.rJ (g.xK hB ht hk).choose_spec.1 (g.xK hB ht hk).choose_spec.2 hU;rw[mo,xz]at h1;omega
       show#[gG (by rw[<- lv (f:=fun n:Nat=>V.int (n:Int))]at hlen;simp at hlen ⊢;omega),by rw[ag nla];show b5,m',rr,#[s5.fN f1,#[pre'++[f],l',_,_,rfl,by rw[ay,iQ,iQ];rfl,by rw[er',_V];simp,w2],?_],?_]
       ·let⟨tq,h1,_,h2⟩:=g.o9 e;show#[tq,h1,h2]
       ·rcases cg with cg | ⟨e2,_⟩
        ·show .inl (Nat.lt_of_succ_lt cg)
        ·show .inl (Il e2)
     ·show bh (kt fun z=>ef (KM z)) #[b5,keep (by rw[e];intro z;show ef (dH z))]
   ·let⟨_,m',x',hJ,cg⟩:=h;rcases cg with cg | ⟨_,_,eF⟩
    ·show#[m',cg,x',hJ]
    ·let⟨q',l',w1,_⟩:=hu;have cZ:=(g.ou x q').mp w1;let⟨⟨y,hy⟩,_⟩:=g.uq q' x cZ;let⟨i',hi'⟩:=_j (CQ hy);show absurd cZ (eF i' y q' (by rw[lv];show(sB.mp hi').1) hi' hy)
def Cf(l:List Nat):(nV l).all cN=true:=FS.mpr fun v hv=>by let⟨n,_,rfl⟩:=wS.mp hv;rfl
def uy{M:Hs}(g:Gd M):∀ {n m j b:Nat}{l:List Nat},eI M n j b->cX M m b l->∃ m' rest,cX M m' j rest/\aZ j rest=aZ b l
 | 0,m,j,b,l,⟨_,e⟩,hu=>by subst e;show#[m,l,hu,rfl]
 | n+1,m,j,b,l,⟨k',h1,h⟩,hu=>by
  let⟨m',rest,h2,h3⟩:=uy g h hu;have ho:=(g.ou k' j).mpr h1
  match m',h2 with
  | 0,h2=>rw[h2.1]at ho;cases ho
  | m' + 1,⟨q,r',h4,h5,e⟩ =>
   rw[ho]at h4;obtain rfl:=dH h4;rw[e,oi]at h3;show#[m',r',h5,h3]
def  YO(CH CS CT:ϋ):Sp:=kg fun x z n H Q _=>X6 fun A L M (k:Nat) (r:Nat) (v:Bool)=>A9 (aF CH CS CT H A L M) (A.a=x) (n=(k:Int)) (ah (sD M.ro) (.inr z)=!.int (r:Int)) (Gd M) (M.ts.length<=40) (∃ t,M.ts[k]?=!t/\t.kd=("folder":Str)) (∃ m,eg M L r m k v) (∀ H',ai H H'->Q (.bl v) H')
def UD:T.qH.k P w base 46 (YO T.aI T.aK T.aQ):=by
 have jD:=wD (P:=P) (w:=w) (base:=base) T 40;show T.qH.F.ok vz (fun _ _ _ _ h=>fL h fun _ _ _ _=>rfl) fun ax A _ s H vs Q E hr h=>fL h fun x z n h=>?_;let⟨AA,L,M,k,r,v,i,rfl,rfl,hz,g,hn,Pu,⟨m0,zS⟩,q⟩:=h;have dE:M.tr.length < 64:=by have:=g.ji;omega
 show bF (b:=aU C4) ((al (j3 Db (ff (gl (aX mx (ad 2) aw) (kE (aX cF (bn jD hr.m T.di.m T.di.F.kp T.di.b .nil aq (aa (ad 0) (aa (ad 2) ae))) (ad 2))))) (al (aM 3 vz.nd (ye<$>T.gU (aa (ad 0) (aa (ad 2) ae))))
 (al (aV (aX (rT (K:=K) rfl) (pk<*T.fY (ad 0) (aa (ad 1) ae)) (ad 3)) (aj (aL em)) bv)
 (al (aM 4 vz.nd (ny<*T.fG (ad 0) (aa (ce (bG (K:=K) rfl) (ad 3) ap) ae)))
 (al (aM 2 vz.nd aw)
 (aj (aV (aX mx (ad 4) aw) (aj (aM 2 vz.nd (ce (bG (K:=K) rfl) (ad 4) ap))) bv)))))))
 (aj (aL em)))) ?_
 exists 2;show cu fun N hN=>#[fun m σ' H'=>ai H H'/\∃ fv t1 t2,σ'=[!V.ref AA.a,!V.str z,!fv,t1,t2]/\(m=0/\fv=.aw/\v=false\/∃ m' j,m=m' + 1/\fv=.int ((j:Nat):Int)/\(∃ t,M.ts[j]?=!t/\t.kd=("folder":Str))/\eg M L r m' j v),#[m0+1,fun _ _ e=>e,_,_,_,rfl,.inr #[m0,k,rfl,rfl,Pu,zS]],?_];clear Pu zS;rintro m σ' H1 ⟨s1,fv,t1,t2,rfl,⟨rfl,rfl,rfl⟩ | ⟨m',j,rfl,rfl,⟨t,ht,hk⟩,hs⟩⟩
 ·left;show#[by trivial,bh (GE not (sw rfl)) (bf (hN _ _ ?_))];left;show q _ s1
 have i1:=i.same s1;unfold eg at hs;let⟨b,l,a,t',ha,ht',aR,hs⟩:=hs;let⟨⟨n1,hB⟩,m1,hU,zZ⟩:=id aR;let⟨mj,lj,uj,jH⟩:=uy g hB hU;have Gv:=g.rJ ht hk uj;left;show#[by trivial,bI (GE not (kt (by nofun))) ?_];show#[AA,L,M,j,mj,lj,i1,rfl,rfl,g,dE,uj,∅,fun H2 s2=>?_];rw[jH];have i2:=i1.same s2;by_cases h1:j=aZ b l
 ·rw[wl h1]at hs;rw[<- h1];show bI (sw rfl) #[_,fun _ _ h=>h,cu fun N2 hN2=>?_];left;show#[AA,L,M,j,b,l,t,i2,rfl,rfl,g,hn,ht,hk,aR,fun ls H3 s3 _ oG=>hN2 _ _ (cu fun N3 hN3=>?_)];have i3:=i2.same s3;let⟨fs,c,hx,aO,sf⟩:=i3.h;left;show(mI hx sf #[AA,L,M,r,i3,rfl,hz,?_])
  rwa [oG]
  show#[rfl,Cf _,?_];rw[my];by_cases h2:fg r (b::l)=true
  ·rw[wl h2]at hs;subst hs;show bI h2 (q _ ((s1.trans s2).trans s3))
  ·rw[wf h2]at hs;show bh (_Z.mpr h2) (hN3 _ _ (cu fun N4 PQ=>?_));let⟨ab,tb,c8,c9,hs⟩:=hs;left;simp only[ee,oG,show cS (nV (b::l)) 0=some (.int (b:Int)) from gZ (j:=0) rfl];show(mI hx sf #[AA,L,M,b,ab,tb,i3,rfl,rfl,c8,c9,?_]);rcases hs with ⟨e,rfl⟩ | ⟨f,nm,e,hs⟩
   ·show .inl #[e,PQ _ _ (ao ?_)];left;show#[by trivial,bh (GE not (sw rfl)) #[0,Nat.zero_lt_succ _,(s1.trans s2).trans s3,_,_,_,rfl,.inl #[rfl,rfl,rfl]]]
   ·show .inr #[f,nm,e,fun p tJ=>PQ _ _ (ao ?_)];left;show#[by trivial,bI (GE not (kt (by nofun))) ?_]
    rwa [tJ,eO]
    match m',hs with
    | 0,hs=>show hs.elim
    | m' + 1,hs=>show#[m' + 1,FM _,(s1.trans s2).trans s3,_,_,_,rfl,.inr #[m',f,rfl,rfl,g.kj (.pl c9 e),hs]]
 ·rw[wf h1]at hs;subst hs;show bh (kt fun z=>h1 (KM z).symm) (hN _ _ ?_);left;show q _ (s1.trans s2)
def  Ub(CH CS CT:ϋ):Sp:=IB fun x z n nv H Q _=>X7 fun A L M (k:Nat) (r:Nat) (ns:List Str) (bZ:List Str)=>KY (aF CH CS CT H A L M) (A.a=x) (n=(k:Int)) (ah (sD M.ro) (.inr z)=!.int (r:Int)) (Gd M) (M.ts.length<=40) (∃ t,M.ts[k]?=!t/\t.kd=("folder":Str)) (nv=.aw/\bZ=[]\/∃ nm:Str,nv=.str nm/\bZ=[nm]/\nm.length<=8) (∃ m,iP M L r m k ns) (ns.length<=99) (∀ s∈ns,s.length<=8) (∀ H',ai H H'->Q (.str (iR (ns++bZ))) H')
def W2:T.rK.k P w base 46 (Ub T.aI T.aK T.aQ):=by
 show T.rK.F.ok wu (fun _ _ _ _ h=>Ng h fun _ _ _ _ _=>rfl) fun ax A _ s H vs Q E hr h=>Ng h fun x z n nv h=>?_;let⟨AA,L,M,k,r,ns,bZ,i,rfl,rfl,hz,g,hn,ht,Gq,cj,hl99,h8,q⟩:=h;show bF (b:=aU AZ) ((al (aM 4 wu.nd (im (nS (K:=K) rfl) (cr (aa (ad 3) ae)) kW (jh (nJ yQ T.vo uK (aa (f8 mx (ad 3) aw) ae)))))
 (al (j3 Db (aX (xH (K:=K) rfl) (pk<*T.fY (ad 0) (aa (ad 1) ae)) (ye<$>T.gU (aa (ad 0) (aa (ad 2) ae)))) (al (vD (ny<*T.fG (ad 0) (aa (ce (bG (K:=K) rfl) (ye<$>T.gU (aa (ad 0) (aa (ad 2) ae))) ap) ae)) (xT (K:=K) (n:=2) rfl rfl (nW (eN 2 wu.nd) (nW (eN 5 wu.nd) yH))))
 (aj (aM 4 wu.nd (db ej (cr (aa (ad 5) ae)) (ad 4))))))
 (aj (aL (db ej am (qb _7 _8 (En (K:=K) rfl) am (aa (ad 4) ae)))))))) ?_
 exists 2;show gx (fun σ' H'=>ai H H'/\∃ l,σ'=[!V.ref AA.a,!V.str z,!V.int (k:Int),!nv,!V.ref l,none]/\H' l=!.lst (bZ.map V.str)) ?_ ?_
 ·left;show#[fits (),fun p hp=>#[by trivial,_,aC.of ay,fun p1 oy=>#[(ai.upd hp).trans (ai.upd oy),p1,rfl,?_]]];rw[ay];rcases Gq with ⟨rfl,rfl⟩ | ⟨nm,rfl,rfl,_⟩
  ·rw[sw rfl];rfl
  ·rw[kt (by nofun)];rfl
 rintro σ' H1 ⟨s1,l,rfl,b1⟩;let⟨m0,cj⟩:=cj;have ik:bZ.length<=1:=by rcases Gq with ⟨_,rfl⟩ | ⟨nm,_,rfl,_⟩ <;> simp
 show ao #[fun m σ' H'=>ai H H'/\∃ (j:Nat) (pre xu:List Str) (l':ϋ) (o:Option V),σ'=[!V.ref AA.a,!V.str z,!V.int (j:Int),!nv,!V.ref l',o]/\H' l'=!.lst (xu.map V.str)/\(∃ t,M.ts[j]?=!t/\t.kd=("folder":Str))/\iP M L r m j pre/\pre++xu=ns++bZ,#[m0,s1,k,ns,bZ,l,none,rfl,b1,ht,cj,rfl],?_];clear s1 b1 ht cj;intro m σ' H1 z0;let⟨s1,j,pre,xu,l',o,rfl,b1,⟨t',ht,hk⟩,cj,dZ⟩:=z0;have i1:=i.same s1;let⟨fs,c,hx,aO,sf⟩:=i1.h;have hlen:pre.length+xu.length<=100:=by
  have:=GE List.length dZ;rw[mo,mo]at this;omega
 let⟨b',r',a',t'',ha',ht',jI,zT⟩:=(by unfold iP at cj;show cj:∃ b r a t,L[j]?=!a/\M.ts[j]?=!t/\cf M j b r/\_);left;show(mI hx sf #[AA,L,M,r,i1,rfl,hz,AA,L,M,j,b',r',t',i1,rfl,rfl,g,hn,ht,hk,jI,fun l2 H2 s2 _ cA=>?_]);have i2:=i1.same s2;let⟨ia,c2,bT,gF,bY⟩:=i2.h;have b2:=s2 _ _ b1;show#[_,.inl (aC.of cA),rfl,Cf _,?_];rw[my];by_cases h0:fg r (b'::r')=true
 ·rw[wl h0]at zT;rw[zT,List.nil_append]at dZ;subst dZ;have hn8':∀ s∈ns++bZ,s.length<=8:=fun s hs=>by
   rcases No.mp hs with hs | hs
   ·show h8 s hs
   ·rcases Gq with ⟨_,rfl⟩ | ⟨nm,_,rfl,h⟩
    ·cases hs
    ·rw[Ch.mp hs];show h
  let⟨qz,qk⟩:=Jn hn8' (by rw[mo];omega);have lj:(ώ "/").length=1:=by symm
  show bh (GE not h0) #[_,aC.of b2,_,rfl,fits ∅,fits ∅,q _ (s1.trans s2)]
 ·rw[wf h0]at zT;let⟨ab,tb,f,zz,c8,c9,bt,hm⟩:=zT;cases m with
  | zero=>show hm.elim
  | succ m =>
   let⟨ns',rfl,hm⟩:=hm;show bI (GE not (_Z.mpr h0)) #[_,fun _ _ h=>h,ao ?_];left;show(mI bT bY #[AA,L,M,j,b',r',t',i2,rfl,rfl,g,hn,ht,hk,jI,fun l3 H3 s3 _ jl=>?_]);have i3:=i2.same s3;let⟨hX,c3,da,f9,dR⟩:=i3.h;have b3:=s3 _ _ b2;simp only[ee,jl,show cS (nV (b'::r')) 0=some (.int (b':Int)) from gZ (j:=0) rfl];show#[AA,L,M,b',ab,tb,i3,rfl,rfl,c8,c9,.inr #[f,zz,bt,fun p hp=>#[p,_,rfl,bK.of hp,rfl,_,_,rfl,_,_,rfl,rfl,fits (),fun p4 jE=>?_]]];show dh jE fun H4 s4 c4=>?_;have b4:=s4 _ _ b3
   rwa [b4,c4]
   show#[fits (by rw[mo]at hlen;simp at hlen ⊢;omega),fun p5 tI=>#[m,FM m,(((s1.trans s2).trans s3).trans s4).trans (ai.upd tI),f,ns',zz::xu,p5,_,rfl,ay,g.kj (.pl c9 bt),hm,by rw[<- dZ];simp]]
def gp:T.bO.k P w base 1 v8:=by
 show T.bO.F.ok yP (fun vs H Q E h=>?_) (fun ax A _ s H vs Q E hr h=>?_)
 ·unfold v8 at h;split at h
  ·rfl
  ·show h.elim
 ·unfold v8 at h;split at h
  ·rename_i st b;let⟨zs,hz,hl,ox,qz,q⟩:=h;show#[_,((al (aV (aX cF (cT (l8 (K:=K) rfl) T.ki Tk (aa (ad 0) ae)) ap) (aj (aN (fX PySem.F.slot_list_extend PySem.F.type_list_extend K3 (ad 0) (aa (cr (aa (db oj (ce (bG (K:=K) rfl) (ad 0) ap) ap) (aa ap ae))) ae)))) bv)
   (al (aV (aX wb (ce (bG (K:=K) rfl) (ad 0) ap) ap) (al (aM 2 yP.nd (db oj (ce (bG (K:=K) rfl) (ad 0) ap) (ad 1)))
   (al (vD (db Ct (ce (bG (K:=K) rfl) (ad 0) ap) (ad 1)) (Iw (ad 0) ap HG))
   (aj (aL (ad 2))))) bv)
   (al (vD (db ej (ce (bG (K:=K) rfl) (ad 0) ap) ap) (Iw (ad 0) ap HG))
   (al (aM 3 yP.nd (db oj (db yu (db ej (db ej (ce (bG (K:=K) rfl) (ad 0) ap) (db yu ap (ce (bG (K:=K) rfl) (ad 0) ap))) ap) ap) ap))
   (al (aM 3 yP.nd (db oj (db yu (ad 3) (db ej (db Ct (ad 3) ap) ap)) ap))
   (aj (aL (db oj (db oj (db yu (ad 3) (db ej (db Ct (ad 3) ap) ap)) ap) (ad 1)))))))))).h,?_]
   exists 2;show gx (fun σ' H'=>σ'=[!-st,!.int b,none,none]/\∃ x y z,H' st=!.lst [.int x,.int y,.int z]/\dm st H H') ?_ ?_
   ·have hc:(∃ a,zs=[a])\/∃ a b c,zs=[a,b,c]:=by
     rcases hl with hl | hl
     ·match zs,hl with
      | [a],_=>show .inl #[a,rfl]
     ·match zs,hl with
      | [a,b,c],_=>show .inr #[a,b,c,rfl]
    walk_at "rd";rcases hc with ⟨a,rfl⟩ | ⟨a,b',c,rfl⟩
    ·simp only[List.map]at hz
     rwa [hz,eO]
     show bS #[⋯,fits (),fun p hp=>?_];simp only[Je hz hp,ay];show#[fits (),by trivial,_,_,_,rfl,?_];show(ai.upd hp).keep st |>.trans dm.upd
    ·simp only[List.map]at hz
     rwa [hz,eO]
     show bf #[by trivial,_,_,_,rfl,fun c o _ e=>e]
   ·rintro σ' H1 ⟨rfl,x,y,z,h1,k1⟩;show ao ?_;walk_at "rd"
    rwa [h1,eO]
    show nk (fun _=>?_) (fun _=>?_)
    ·show ao ?_;walk_at "rd"
     rwa [h1,eO]
     show#[ox,ao ?_];walk_at "rd";simp only[ee,h1,eO,xz,Tq,List.set_cons_zero];show#[#[ox,qz],?_];show q _ [_,_,_] _ (Jai _ ∅) (_P _ ox) rfl ay (k1.trans dm.upd)
    ·show ao ?_;walk_at "rd";simp only[ee,h1,JX,xz,_M,Y1,List.set_cons_zero,List.set_cons_succ];show ao ?_;walk_at "rd";simp only[ee,ay,uO,JX];show#[.inl #[⋯,⋯],.inr #[⋯,⋯],⋯,ao ?_];walk_at "rd";generalize hm:(y+7919 * (z+1)+1) * 48271 % 2147483647=m;have m0:0<=m:=by rw[<- hm];show Jai _ ⋯
     have m1:m < 2147483647:=by rw[<- hm];show _P _ ⋯
     show#[#[⋯,⋯],.inl #[∅,∅],⋯,?_];generalize hn:m * (m / 1009+69621) % 2147483647=n;have n0:0<=n:=by rw[<- hn];show Jai _ ⋯
     have n1:n < 2147483647:=by rw[<- hn];show _P _ ⋯
     show#[#[⋯,⋯],.inl #[∅,∅],⋯,ox,?_];show q _ [_,_,_] _ (Jai _ ∅) (_P _ ox) rfl ay (k1.trans dm.upd)
  ·show h.elim
def  Dr(st:ϋ)(H:Hp):Prop:=∃ zs:List Int,H st=!.lst (zs.map V.int)/\(zs.length=1\/zs.length=3)
def Dr.same{st:ϋ}{H H':Hp}(h:Dr st H)(s:ai H H'):Dr st H':=let ⟨zs,e,l⟩:=h;#[zs,s _ _ e,l]
def Dr.ne{st p:ϋ}{H:Hp}(h:Dr st H)(hp:H p=none):p≠st:=let ⟨zs,e,l⟩:=h;fun z=>by rw[z,e]at hp;cases hp
def rX{st:ϋ}{b:Int}{H:Hp}{Q:VK}{E:XK}(h:Dr st H)(ox:0 < b)(qz:b<=1000)(q:∀ d H',0<=d->d < b->Dr st H'->dm st H H'->Q (.int d) H'):v8 [-st,.int b] H Q E:=by
 let⟨zs,e,l⟩:=h;show#[zs,e,l,ox,∅,fun d zs' H' d0 d1 l' e' k=>q d H' d0 d1 #[zs',e',.inr l'] k]
def pick{xs:List V}{d:Int}(h0:0<=d)(h1:d < xs.length):∃ v∈xs,cS xs d=!v:=by
 let⟨n,rfl⟩:=Uf h0;have hn:n < xs.length:=∅
 show#[xs[n],XV hn,gZ (ul hn)]
def jM{H:Hp}{st:ϋ}{xs:List V}{Q:VK}{E:XK}{b:Int}(h:Dr st H)(hb:b=xs.length)(hn:xs.length<=1000)(h0:0 < xs.length)(q:∀ v H',v∈xs->Dr st H'->dm st H H'->Q v H') :
  xs.length<=sizeLine/\∀ p,H p=none->v8 [-st,.int b] (upd H p (.lst xs)) (fun y H2=>pW K (-p) y H2 Q) E:=by
 show#[fits hn,fun p hp=>?_];show dh hp fun H1 s1 b1=>?_;have np:=h.ne hp;show rX (h.same s1) ∅ ∅ fun d H2 d0 d1 h2 k2=>?_;let⟨v,hv,e⟩:=pick (xs:=xs) d0 ∅;simp only[pW,ee,k2 _ _ np b1,e];show q v H2 hv h2 ((s1.keep st).trans k2)
def  abn:Sp:=jN fun st H Q _=>Dr st H/\∀ nm H',isNm nm=true->Dr st H'->dm st H H'->Q (.str (Tx.S nm)) H'
def abe:T.r6.k P w base 2 abn:=by
 show T.r6.F.ok SD (fun _ _ _ _ h=>fm h fun _ _=>rfl) fun ax A _ s H vs Q E hr h=>fm h fun st h=>?_;let⟨aR,q⟩:=h;show bF (b:=aU Dl) ((aj (aL (ce (bG (K:=K) rfl) (cr (aa am (aa am (aa am (aa am (aa am (aa am ae))))))) (gp<$>T.bO (aa (ad 0) (aa ap ae))))))) ?_;exists 0;left;show jM aR rfl () () fun v H1 hv h1 k1=>?_;let⟨nm,hn,rfl⟩:∃ nm,isNm nm=true/\v=V.str (Tx.S nm):=by
  simp only[li,lm,wP]at hv;rcases hv with rfl | rfl | rfl | rfl | rfl | rfl
  ·show#[[97],by symm,by symm]
  ·show#[[98],by symm,by symm]
  ·show#[[97,98],by symm,by symm]
  ·show#[[98,97],by symm,by symm]
  ·show#[[99],by symm,by symm]
  ·show#[[108,101,97,100],by symm,by symm]
 show q nm H1 hn h1 k1
def  VX:Sp:=jN fun st H Q _=>Dr st H/\∀ z H',z∈jU->Dr st H'->dm st H H'->Q (.str z) H'
def yV:T.gP.k P w base 2 VX:=by
 show T.gP.F.ok aaX (fun _ _ _ _ h=>fm h fun _ _=>rfl) fun ax A _ s H vs Q E hr h=>fm h fun st h=>?_;let⟨aR,q⟩:=h;show bF (b:=aU DM) ((aj (aL (ce (bG (K:=K) rfl) (cr (aa am (aa am (aa am (aa am (aa am (aa am (aa am (aa am ae))))))))) (gp<$>T.bO (aa (ad 0) (aa ap ae))))))) ?_;exists 0;left;show jM aR rfl () () fun v H1 hv h1 k1=>?_;let⟨z,hn,rfl⟩:∃ z,z∈jU/\v=V.str z:=by
  simp only[li,lm,wP]at hv;rcases hv with rfl | rfl | rfl | rfl | rfl | rfl | rfl | rfl
  all_goals show#[_,by symm,rfl]
 show q z H1 hn h1 k1
def  joinR(n:Nat):List (List Nat)->List Nat
 | []=>[]
 | [x]=>x
 | x::y::r=>x++List.replicate n 47++joinR n (y::r)
def Ka(n:Nat):∀ ps:List (List Nat),Str.join (Tx.S (List.replicate n 47)) (ps.map Tx.S)=Tx.S (joinR n ps)
 | []=>rfl
 | [x]=>rfl
 | x::y::r=>by
  have ih:=Ka n (y::r);change Tx.S x++Tx.S (List.replicate n 47)++Str.join (Tx.S (List.replicate n 47)) ((y::r).map Tx.S)=Tx.S (x++List.replicate n 47++joinR n (y::r));rw[ih,Tx.qU,Tx.qU]
def Fc(n:Nat):∀ ps:List (List Nat),(∀ w∈ps,47 ∉ w/\w≠[])->Tx.words 47 (joinR (n+1) ps)=ps
 | [],_=>rfl
 | [x],h=>Tx.NT 47 x (h x ()).1 (h x ()).2
 | x::y::r,h=>by
  have ih:=Fc n (y::r) (fun w hw=>h w (Fr _ hw));change Tx.words 47 (x++List.replicate (n+1) 47++joinR (n+1) (y::r))=_;rw[WF,_V,List.cons_append,Tx.Dd,Tx.NN,ih,Tx.NT 47 x (h x ()).1 (h x ()).2];rfl
def JC(n k:Nat):∀ ps:List (List Nat),(∀ w∈ps,w.length<=k)->(joinR n ps).length<=ps.length * (k+n)
 | [],_=>wT _
 | [x],h=>by
  have:=h x ();change x.length<=1 * (k+n);omega
 | x::y::r,h=>by
  have ih:=JC n k (y::r) (fun w hw=>h w (Fr _ hw));have:=h x ();change(x++List.replicate n 47++joinR n (y::r)).length<=((y::r).length+1) * (k+n);rw[mo,mo,_4,Nat.add_mul,Nat.one_mul];omega
structure xZ(t:List Nat):Prop where
 l1:1<=t.length
 l2:t.length<=80
 all:(Tx.words 47 t).all cP=true
 n:(Tx.words 47 t).length<=6
def  TY:Sp:=iN fun st n H Q _=>A4 (Dr st H) (0<=n) (n<=6) (∀ t H',xZ t->Dr st H'->dm st H H'->Q (.str (Tx.S t)) H')
structure V4(st l:ϋ)(n:Int)(ps:List (List Nat))(H:Hp)(σ:L2.St)(H':Hp):Prop where
 k:dm st H H'
 d:Dr st H'
 e:∃ (tx:List Nat) (t1 t2:Option V),σ=[!V.ref st,!V.int n,!V.ref l,t1,t2,!V.str (Tx.S tx)]/\Tx.words 47 tx=ps/\tx.length<=62
def B3:T.jt.k P w base 3 TY:=by
 show T.jt.F.ok rk (fun _ _ _ _ h=>cz h fun _ _ _=>rfl) fun ax A _ s H vs Q E hr h=>cz h fun st n h=>?_;let⟨aR,hn0,Pm,q⟩:=h;show bF (b:=aU Eo) ((al (aM 2 rk.nd (cr ae))
 (al (m9 Db rfl (Tp T.R0 (aa (gp<$>T.bO (aa (ad 0) (aa (db ej (ad 1) ap) ae))) ae)) (eN 3 rk.nd) (al (aM 4 rk.nd (abe<$>T.r6 (aa (ad 0) ae)))
 (aj (aN (fX Do Ev jQ (ad 2) (aa (ce (bG (K:=K) rfl) (cr (aa (ad 4) (aa (ad 4) (aa (ad 4) (aa (ad 4) (aa (ad 4) (aa am (aa am ae)))))))) (gp<$>T.bO (aa (ad 0) (aa ap ae)))) ae))))))
 (al (aM 5 rk.nd (db ej (ce (bG (K:=K) rfl) (cr (aa am (aa am ae))) (gp<$>T.bO (aa (ad 0) (aa ap ae)))) (qb _7 _8 (En (K:=K) rfl) (ce (bG (K:=K) rfl) (cr (aa am (aa am (aa am ae)))) (gp<$>T.bO (aa (ad 0) (aa ap ae)))) (aa (ad 2) ae))))
 (al (aV (ff (gl (aX (FQ hr.g7) (ad 2) (cr ae)) (kE (aX cF (gp<$>T.bO (aa (ad 0) (aa ap ae))) ap)))) (aj (aM 5 rk.nd (db ej (ad 5) am))) bv)
 (aj (aL (ce (bG (K:=K) rfl) (cr (aa (ad 5) (aa am ae))) (nJ yQ T.vo uK (aa (f8 cF (ad 5) am) ae)))))))))) ?_
 exists 4;right;show#[fits (),fun l hl=>?_];have s1:=ai.upd (o:=.lst []) hl;have b1:upd H l (.lst []) l=!.lst (PV []):=ay;have nl:=aR.ne hl;generalize upd H l (.lst [])=H1 at s1 b1 ⊢;show gx (fun σ' H'=>dm st H H'/\Dr st H'/\∃ (ps:List (List Nat)) (t1 t2:Option V),σ'=[!V.ref st,!V.int n,!V.ref l,t1,t2,none]/\ps.all cP=true/\ps.length<=6/\H' l=!.lst (PV ps)) ?_ ?_
 ·left;show rX (aR.same s1) ∅ ∅ fun d H2 d0 d1 h2 k2=>?_;let⟨m,rfl⟩:=Uf d0;show#[#[∅,∅],?_];show WL (fun i σ' H'=>dm st H H'/\Dr st H'/\∃ (ps:List (List Nat)) (t1 t2:Option V),σ'=[!V.ref st,!V.int n,!V.ref l,t1,t2,none]/\ps.all cP=true/\ps.length=i/\H' l=!.lst (PV ps)) #[(s1.keep st).trans k2,h2,[],_,_,rfl,rfl,rfl,k2 _ _ nl b1] ?_ ?_
  ·intro i σ' H3 hi z0;let⟨k3,h3,ps,t1,t2,rfl,dZ,bt,b3⟩:=z0;right;show#[h3,fun nm H4 cj h4 k4=>?_];left;have b4:=k4 _ _ nl b3
   rwa [b4]
   show jM h4 rfl () () fun v H5 hv h5 k5=>?_;let⟨wd,hwd,rfl⟩:∃ wd,cP wd=true/\v=V.str (Tx.S wd):=by
    simp only[li,lm,wP]at hv;have hp:cP nm=true:=by unfold cP;rw[cj];simp
    rcases hv with rfl | rfl | rfl | rfl | rfl | rfl | rfl
    ·show#[nm,hp,rfl]
    ·show#[nm,hp,rfl]
    ·show#[nm,hp,rfl]
    ·show#[nm,hp,rfl]
    ·show#[nm,hp,rfl]
    ·show#[[46],by symm,by symm]
    ·show#[[46,46],by symm,by symm]
   have b5:=k5 _ _ nl b4
   rwa [b5]
   have hil:i < m:=by simpa using hi
   show#[gG (by simp[PV];omega),fun c o hc e=>?_,?_,ps++[wd],_,_,rfl,by rw[List.all_append,dZ];simp[hwd],by rw[mo,bt];rfl,by rw[ay];simp[PV]]
   ·have ncl:c≠l:=fun z=>by rw[z,hl]at e;cases e
    rw[ag ncl];show((k3.trans k4).trans k5) c o hc e
   ·let⟨zs,e,h⟩:=h5;show#[zs,by rw[ag (ss nl)];show e,h]
  ·intro σ' H3 z0;let⟨k3,h3,ps,t1,t2,rfl,dZ,bt,b3⟩:=z0;show#[k3,h3,ps,t1,t2,rfl,dZ,by rw[bt];simp;omega,b3]
 ·intro σ' H2 z0;let⟨k2,d2,ps,t1,t2,rfl,dZ,bt,b2⟩:=z0;have tM:ώ "/" = Tx.S [47]:=by symm
  have e0:ώ "" = Tx.S []:=by symm
  have hw:∀ w'∈ps,47 ∉ w'/\w'≠[]:=fun w' hw'=>let q:=rA (FS.mp dZ w' hw');#[q.1,q.2.1]
  have h8:∀ w'∈ps,w'.length<=8:=fun w' hw'=>(rA (FS.mp dZ w' hw')).2.2;right;show jM d2 rfl () () fun v H3 hv d3 k3=>?_;let⟨pre,gf,rfl⟩:∃ pre:List Nat,(pre=[]\/pre=[47])/\v=V.str (Tx.S pre):=by
   simp only[li,lm,wP]at hv;rcases hv with rfl | rfl
   ·show#[[],.inl rfl,by symm]
   ·show#[[47],.inr rfl,by symm]
  have b3:=k3 _ _ nl b2;show jM d3 rfl () () fun v H4 hv d4 k4=>?_;let⟨m,hm,rfl⟩:∃ m:Nat,m<=1/\v=V.str (Tx.S (List.replicate (m+1) 47)):=by
   simp only[li,lm,wP]at hv;rcases hv with rfl | rfl | rfl
   ·show#[0,⋯,by symm]
   ·show#[0,⋯,by symm]
   ·show#[1,⋯,by symm]
  have b4:=k4 _ _ nl b3;have P8:=(k2.trans k3).trans k4;have w8:=JC (m+1) 8 ps h8;have hjb:(joinR (m+1) ps).length<=60:=ut w8 (by have:ps.length * (8+(m+1))<=6 * 10:=Nat.mul_le_mul bt ∅;show this);have tR:pre.length<=1:=by rcases gf with rfl | rfl <;> simp
  show#[_,aC.of b4,ps.map Tx.S,rfl,?_,?_]
  ·have:=Ej (Tx.S (List.replicate (m+1) 47)).length (ps.map Tx.S) 0 (fun s hs=>by
    let⟨x,hx,rfl⟩:=wS.mp hs;rw[Tx.cE];show h8 x hx)
   show fits (ut this ?_);rw[Tx.cE,_4,lv];have:(8+(m+1)) * ps.length<=10 * 6:=Nat.mul_le_mul ∅ bt;omega
  rw[Ka];simp only[Tx.qU];have Ag:Tx.words 47 (pre++joinR (m+1) ps)=ps:=by
   rcases gf with rfl | rfl
   ·show Fc m ps hw
   ·show(Tx.BX 47 _).trans (Fc m ps hw)
  show#[fits (by rw[Tx.cE,Tx.cE];omega),?_];generalize iu:pre++joinR (m+1) ps=tx at Ag ⊢;have ly:tx.length<=61:=by rw[<- iu,mo];omega
  show gx (V4 st l n ps H) ?_ ?_
  ·left;show#[fits (),fun p hp=>?_];show dh hp fun H5 s5 b5=>?_;show#[ps.map Tx.S,[],s5 _ _ b4,b5,?_];by_cases hps0:ps=[]
   ·show bh (by rw[sw (by rw[hps0];rfl)];rfl) (bf #[P8.trans (s5.keep st),d4.same s5,_,_,_,rfl,Ag,∅])
   ·show bI (by rw[kt (fun e=>hps0 (Jam.mp e))];rfl) ?_;show rX (d4.same s5) ⋯ ⋯ fun d H6 _ _ d6 k6=>?_;have k6':=(P8.trans (s5.keep st)).trans k6;show nk (fun _=>?_) (fun _=>#[k6',d6,_,_,_,rfl,Ag,∅]);rw[tM,Tx.qU];show#[fits (by rw[Tx.cE,Tx.cE];change tx.length+1<=1000;omega),k6',d6,_,_,_,rfl,(Tx.Dd 47 tx []).trans (by rw[Ag];show UV _),by rw[mo];change tx.length+1<=62;omega]
  ·rintro σ' H5 ⟨k5,d5,tx,t1,t2,rfl,OW,iB⟩;left;show#[fits (),fun p hp=>?_];simp only[ee,ay];have k6:=k5.trans ((ai.upd (o:=.lst [V.str (Tx.S tx),V.str "."]) hp).keep st);have d6:=d5.same (ai.upd (o:=.lst [V.str (Tx.S tx),V.str "."]) hp);by_cases htx0:tx=[]
   ·rw[sw (by rw[htx0,e0]),wl rfl];rw[show cS [V.str (Tx.S tx),V.str "."] 1=some (V.str ".") from gZ (j:=1) rfl,show ώ "." = Tx.S [46] by symm];rw[show ώ "." = Tx.S [46] by symm]at k6 d6;show q [46] _ #[⋯,⋯,by symm,⋯] d6 k6
   ·rw[kt (fun e=>htx0 (Tx.sQ (e.trans e0))),wf (by nofun)];rw[show cS [V.str (Tx.S tx),V.str "."] 0=some (V.str (Tx.S tx)) from gZ (j:=0) rfl];show q tx _ #[by have:tx.length≠0:=fun e=>htx0 (IR.mp e);omega,∅,by rw[OW];show dZ,by rw[OW];show bt] d6 k6
def  acQ(K:ν):Sp:=iN fun a k H Q _=>A3 (∃ ns:List Int,aC K H a (ns.map V.int)) (0<=k) (∀ c:Int,Q (.int c) H)
def Rl:T.sE.k P w base 1 (acQ K):=by
 show T.sE.F.ok UZ (fun _ _ _ _ h=>cz h fun _ _ _=>rfl) fun ax A _ s H vs Q E hr h=>cz h fun a k h=>?_;let⟨⟨ns,hS⟩,hk,q⟩:=h;let⟨k,rfl⟩:=Uf hk;show#[_,((al (aV (aX MD (ad 1) (cT (Sf (K:=K) rfl) T.ki Tk (aa (ad 0) ae))) (aj (aL (ce (qxE (K:=K) rfl) (ad 0) (ad 1)))) bv)
 (aj (aL ap)))).h,?_]
 exists 0;right;show#[_,hS,?_];show nk (fun hd=>?_) (fun _=>q _);have hl:k < ns.length:=by have:=_A hd;rw[lv]at this;omega
 show#[_,.int ns[k],hS,?_,q _];show gZ (j:=k) ?_;rw[At,ul hl];rfl
def  UN:Sp:=km fun pt H Q _=>X1 fun t=>A4 (pt=Tx.S t) (fb t) (t.length<=400) (∀ l H',ai H H'->H' l=!.lst (PV (told (Tx.words 47 t) t))->Q (-l) H')
def JP:T.lI.k P w base 1 UN:=by
 show T.lI.F.ok OH (fun _ _ _ _ h=>fP h fun _ _=>rfl) fun ax A _ s H vs Q E hr h=>fP h fun pt h=>?_;let⟨t,rfl,pt,hl,q⟩:=h;have tM:ώ "/" = Tx.S [47]:=by symm
 have e0:ώ "" = Tx.S []:=by symm
 let⟨OR,c,ht⟩:∃ OR c,t=OR++[c]:=#[_,_,(List.dropLast_concat_getLast (l:=t) (fun e=>by have:=pt.l1;rw[e]at this;simp at this)).symm];show bF (b:=aU Em) ((al (C3 1 rfl OH.nd (x:=("_law_part":Str)) (iH (K:=K) rfl (qb PySem.F.slot_str_split PySem.F.type_str_split IC (ad 0) (aa am ae))) (fun _ _ _ _=>by show(Oe (aX me (ad 0) am))) (fun _ _ _ _=>by show(eN 0 (show List.Nodup (["_law_part"]:List Str) by decide))) (fun _ _ _ _=>by show(ad 0)) (.of rfl (by show trivial) (by walk_at "c") rfl (by show trivial)))
 (al (aV (ff (gl (aX (FQ hr.g7) (ad 1) (cr ae)) (kE (aX cF (ce (bG (K:=K) rfl) (ad 0) (ii j0 ap)) am)))) (aj (aN (fX Do Ev jQ (ad 1) (aa am ae)))) bv)
 (aj (aL (ad 1)))))) ?_
 exists 1;right;have sY:=Tx.yY 47 t
 rwa [tM,e0]
 show#[rfl,by rw[Tx.cE];show fits ∅,?_,?_]
 ·rw[Tx.C7,Tx.om,Tx.Dh,Tx.vK,lv];show fits ∅
 intro l hl;rw[Tx.Lh t 47 ⋯];show dh hl fun H1 s1 b1=>?_;show#[#[_,aC.of b1],Eb (fun x=>match x with | .str z=>Bool.not (decide (z=Tx.S [])) | _=>false) id (aC.of b1) (by rw[lv,lv];show fits ∅) ?_ ?_ ?_]
 ·intro x hx H2 _ R hR;let⟨z,_,rfl⟩:=wS.mp hx;left;show hR H2 (ai.refl H2)
 ·intro x hx _ H2 _ R hR;left;show hR H2 (ai.refl H2)
 intro H2 s2 l2 cA;have ew:((((Tx.cut 47 t).map Tx.S).map V.str).filter (fun x=>match x with | .str z=>Bool.not (decide (z=Tx.S [])) | _=>false)).map id=PV (Tx.words 47 t):=by
  rw[List.map_id,List.filter_map];change((((Tx.cut 47 t).map Tx.S)).filter _).map V.str=_
  congr 1
  rw[<- Tx.LF];show List.filter_congr fun z _=>?_;change(Bool.not (decide (z=Tx.S [])))=decide (z≠Tx.S []);by_cases h:z=Tx.S [] <;> simp[h]
 rw[ew];show dh cA fun H3 s3 b3=>?_;have j8:H l2=none:=o8 (s1.trans s2) cA;have lE:ai H H3:=(s1.trans s2).trans s3;have qm:(Tx.words 47 t).length<=401:=ut (TD _ _) ∅;have jH:t.getLast?=!c:=by rw[ht];simp
 show gx (fun σ' H'=>ai H H'/\σ'=[!V.str (Tx.S t),!V.ref l2]/\H' l2=!.lst (PV (told (Tx.words 47 t) t))) ?_ ?_
 ·left;show#[fits (),fun p hp=>?_];show dh hp fun H4 s4 b4=>?_;have Ax:=s4 _ _ b3;show#[(Tx.words 47 t).map Tx.S,[],Ax,b4,?_];by_cases h0:Tx.words 47 t=[]
  ·show bh (by rw[sw (by rw[h0];rfl)];rfl) (bf #[lE.trans s4,by trivial,?_]);unfold told;rw[wf (fun z=>z.1 h0)];show Ax
  ·show bI (by rw[kt (fun e=>h0 (Jam.mp e))];rfl) #[by rw[Tx.cE];show fits ∅,?_];rw[Tx.kF];rw[show cS t ((unop% Neg.neg (1)))=!c by rw[ht];show kx _ _];by_cases hc:c=47
   ·show bI (sw (by rw[hc];rfl)) ?_
    rwa [Ax]
    show#[gG (by simp[PV];omega),fun x o e=>?_,by trivial,?_]
    ·rw[ag (fun z=>by rw[z,j8]at e;cases e)];show(lE.trans s4) x o e
    ·rw[ay];unfold told;rw[wl #[h0,by rw[jH,hc]],show ώ "." = Tx.S [46] by symm];simp[PV]
   ·show bh (kt (fun e=>hc ?_)) #[lE.trans s4,by trivial,?_]
    ·have:=Tx.sQ (a:=[c]) (b:=[47]) e;injection this
    ·unfold told;rw[wf (fun z=>hc (by rw[jH]at z;show Fk z.2))];show Ax
 ·rintro σ' H4 ⟨s4,rfl,b4⟩;left;show q l2 H4 s4 b4
def  WM(CH CS CT:ϋ):Sp:=Od fun x z pt n H Q _=>X6 fun A L M t (k:Nat) (r:Nat)=>rB (pt=Tx.S t) (fb t) (aF CH CS CT H A L M) (A.a=x) (n=(k:Int)) (ah (sD M.ro) (.inr z)=!.int (r:Int)) (Gd M) (M.ts.length<=40) (∃ tr,M.ts[r]?=!tr/\tr.kd=("folder":Str)) (X2 fun b l=>A2 (cf M r b l) (∀ H',ai H H'->Q (.int ((if cO t=true then aZ b l else k:Nat):Int)) H'))
def LB:T.mr.k P w base 45 (WM T.aI T.aK T.aQ):=by
 have jD:=wD (P:=P) (w:=w) (base:=base) T 40;show T.mr.F.ok Za (fun _ _ _ _ h=>IU h fun _ _ _ _ _=>rfl) fun ax A _ s H vs Q E hr h=>IU h fun x z pt n h=>?_;let⟨AA,L,M,t,k,r',rfl,hp,i,rfl,rfl,hz,g,hn,⟨tr,eU,i9⟩,b,l,⟨⟨n1,hB⟩,m1,hU,_⟩,q⟩:=h;let⟨mj,lj,uj,jH⟩:=uy g hB hU;have Gv:=g.rJ eU i9 uj;have dE:M.tr.length < 64:=by have:=g.ji;omega
 let⟨c,r,ht⟩:∃ c r,t=c::r:=by
  cases t with
  | nil=>show absurd hp.l1 ()
  | cons c r=>show#[c,r,rfl]
 let⟨fs,cc,hx,aO,sf⟩:=i.h;show bF (b:=aU DJ) ((al (aV (aX cF (ce (bG (K:=K) rfl) (ad 2) ap) am) (aj (aL (bn jD hr.m T.di.m T.di.F.kp T.di.b .nil aq (aa (ad 0) (aa (pk<*T.fY (ad 0) (aa (ad 1) ae)) ae))))) bv)
 (aj (aL (ad 3))))) ?_
 exists 0;right;show#[by rw[Tx.cE];show ut hp.l2 ⋯,?_];rw[Tx.kF,show cS t 0=!c by rw[ht];show gZ (j:=0) rfl];have hh:cO t=decide (c=47):=by unfold cO;rw[ht];simp
 rw[hh]at q;by_cases hc:c=47
 ·rw[wl (sw hc)]at q;show bI (sw (by rw[hc];symm)) (mI hx sf #[AA,L,M,r',i,rfl,hz,AA,L,M,r',mj,lj,i,rfl,rfl,g,dE,uj,∅,fun H' s'=>by rw[jH];show q H' s'])
 ·rw[wf (by rw[kt hc];nofun)]at q;show bh (kt (fun e=>hc ?_)) (q _ fun _ _ e=>e);have:=Tx.sQ (a:=[c]) (b:=[47]) (e.trans (by symm));injection this
def  Rv(CH CS CT:ϋ):Sp:=kg fun x z n H Q _=>X4 fun A d (k:Nat) (h':Nat)=>A9 (aF CH CS CT H A d.L d.M) (A.a=x) (n=(k:Int)) (ah (sD d.M.ro) (.inr z)=!.int (d.root:Int)) (Gd d.M) (d.M.ts.length<=40) (∃ t,d.M.ts[k]?=!t/\t.kd=("folder":Str)) (qO d k h') (∀ H',ai H H'->Q (.int (h':Int)) H')
def abj:T.qP.k P w base 46 (Rv T.aI T.aK T.aQ):=by
 have jD:=wD (P:=P) (w:=w) (base:=base) T 40;show T.qP.F.ok HI (fun _ _ _ _ h=>fL h fun _ _ _ _=>rfl) fun ax A _ s H vs Q E hr h=>fL h fun x z n h=>?_;let⟨AA,d,k,h',i,rfl,rfl,hz,g,hn,⟨t,ht,hk⟩,lD,q⟩:=h;have dE:d.M.tr.length < 64:=by have:=g.ji;omega
 let⟨b,l,hs,cg⟩:∃ b l,cf d.M k b l/\(fg d.root (b::l)=true/\h'=k\/fg d.root (b::l)=false/\∃ ab tb f nm b' l',d.L[b]?=!ab/\d.M.ts[b]?=!tb/\tb.bV=[(f,nm)]/\cf d.M f b' l'/\h'=aZ b' l'):=by
  cases lD with
  | gz _ _ h1 h2=>show#[_,_,h1,.inl #[h2,rfl]]
  | up _ _ h1 h2 h3 h4 h5 _ _ h8=>show#[_,_,h1,.inr #[h2,_,_,_,_,_,_,h3,h4,h5,h8,rfl]]
 show bF (b:=aU DI) ((al (aM 3 HI.nd (ye<$>T.gU (aa (ad 0) (aa (ad 2) ae))))
 (al (aV (aX (rT (K:=K) rfl) (pk<*T.fY (ad 0) (aa (ad 1) ae)) (ad 3)) (aj (aL (ad 2))) bv)
 (aj (aL (bn jD hr.m T.di.m T.di.F.kp T.di.b .nil aq (aa (ad 0) (aa (ce (bG (K:=K) rfl) (ny<*T.fG (ad 0) (aa (ce (bG (K:=K) rfl) (ad 3) ap) ae)) ap) ae)))))))) ?_
 exists 1;right;show#[AA,d.L,d.M,k,b,l,t,i,rfl,rfl,g,hn,ht,hk,hs,fun ls H1 s1 _ hl=>ao ?_];have i1:=i.same s1;let⟨fs,c,hx,aO,sf⟩:=i1.h;left;show(mI hx sf #[AA,d.L,d.M,d.root,i1,rfl,hz,?_])
 rwa [hl]
 show#[rfl,Cf _,?_];rw[my];rcases cg with ⟨h0,rfl⟩ | ⟨h0,ab,tb,f,nm,b',l',c8,c9,hp,hs',rfl⟩
 ·show bI h0 (q H1 s1)
 ·show bh h0 ?_;simp only[show cS (nV (b::l)) 0=some (.int (b:Int)) from gZ (j:=0) rfl];show(mI hx sf #[AA,d.L,d.M,b,ab,tb,i1,rfl,rfl,c8,c9,.inr #[f,nm,hp,fun p tJ=>?_]])
  rwa [tJ,eO]
  let⟨⟨n1,hB⟩,m1,hU,_⟩:=hs';let⟨mj,lj,uj,jH⟩:=uy g hB hU;let⟨tf,bE,cD⟩:=g.kj (.pl c9 hp);have Gv:=g.rJ bE cD uj;show#[AA,d.L,d.M,f,mj,lj,i1,rfl,rfl,g,dE,uj,∅,fun H2 s2=>by rw[jH];show q _ (s1.trans s2)]
inductive jx(d:Wd)(h:Nat)(t:Th)(p:Str):V->Prop
 | up {h':Nat}:p=("..":Str)->qO d h h'->jx d h t p (.int (h':Int))
 | dot:p=(".":Str)->jx d h t p (.int (h:Int))
 | nm:p≠("..":Str)->p≠(".":Str)->jx d h t p ((ah (sD t.bb) (.inr p)).getD .aw)
def  Xl(CH CS CT:ϋ):Sp:=Kg fun x z n p H Q _=>X5 fun A d t (k:Nat) v=>ML (aF CH CS CT H A d.L d.M) (A.a=x) (n=(k:Int)) (ah (sD d.M.ro) (.inr z)=!.int (d.root:Int)) (Gd d.M) (d.M.ts.length<=40) (d.M.ts[k]?=!t) (t.kd=("folder":Str)) (kb p) (jx d k t p v) (∀ H',ai H H'->Q v H')
def Sv:T.sv.k P w base 47 (Xl T.aI T.aK T.aQ):=by
 show T.sv.F.ok Rb (fun _ _ _ _ h=>Lj h fun _ _ _ _ _=>rfl) fun ax A _ s H vs Q E hr h=>Lj h fun x z n p h=>?_;let⟨AA,d,t,k,v,i,rfl,rfl,hz,g,hn,ht,hk,hp,hv,q⟩:=h;let⟨a,ha⟩:=adr i.len ht;let⟨fs,c,hx,aO,sf⟩:=i.h;show bF (b:=aU C8) ((al (aV (aX cF (ad 3) am) (aj (aL (abj<$>T.qP (aa (ad 0) (aa (ad 1) (aa (ad 2) ae)))))) bv)
 (al (aV (aX cF (ad 3) am) (aj (aL (ad 2))) bv)
 (aj (aL (Cb<*T.mq (ad 0) (aa (ad 2) (aa (ad 3) ae)))))))) ?_
 exists 0;right;cases hv with
 | up h1 lD=>show bI (sw h1) #[AA,d,k,_,i,rfl,rfl,hz,g,hn,#[t,ht,hk],lD,q]
 | dot h1 =>
  show bh (kt (by rw[h1];symm)) (ao ?_);left;show bI (sw h1) (q _ fun _ _ e=>e)
 | nm h1 h2 =>
  show bh (kt h1) (ao ?_);left;rcases hp with hp | hp | ⟨hp,h8⟩
  ·show absurd hp h2
  ·show absurd hp h1
  show bh (kt h2) (mI hx sf #[AA,d.L,d.M,k,a,t,i,rfl,rfl,ha,ht,hp,∅,q])
def  Xe:Sp:=iN fun c n H Q _=>X2 fun (ns:List Nat) (k:Nat)=>A5 (n=(k:Int)) (H c=!.tup (nV ns)) (k∈ns) (ns.length<=400) (∀ l H',ai H H'->H' l=!.lst (nV (kS (ns.drop (ns.idxOf k))))->Q (-l) H')
def XQ:T.r9.k P w base 1 Xe:=by
 show T.r9.F.ok BY (fun _ _ _ _ h=>cz h fun _ _ _=>rfl) fun ax A _ s H vs Q E hr h=>cz h fun cc n h=>?_;let⟨ms,k,rfl,hc,hk,hlen,q⟩:=h;show bF (b:=aU E1) ((al (aM 2 BY.nd (nJ (J6 (K:=K) rfl) T.pA zF (aa (im (TQ (K:=K) rfl) (ad 0) (jh (Dv.bmT PySem.F.slot_tuple_index PySem.F.type_tuple_index (ac1 (K:=K) rfl) (ad 0) (aa (ad 1) ae))) kW) ae)))
 (al (aM 3 BY.nd (fX _r _R (DN (K:=K) rfl) (ad 2) (aa (cT (OE (K:=K) rfl rfl) T.D4 Ow (aa (ad 2) ae)) ae)))
 (aj (aL (db ej (im (nS (K:=K) rfl) (ad 2) (jh (ad 3)) kW) (im (nS (K:=K) rfl) (ad 2) kW (jh (ad 3))))))))) ?_
 exists 2;have hj:ms.idxOf k < ms.length:=_l.mpr hk;show gx (fun σ' H'=>∃ l,σ'=[!V.ref cc,!V.int (k:Int),!V.ref l,none]/\ai H H'/\H' l=!.lst (nV (ms.drop (ms.idxOf k)))) ?_ ?_
 ·left
  rwa [hc]
  show#[_,bK.of (by rw[hc,xI]),mem_cast hk,nV ms,bK.of hc,fun hw=>?_,fun p hp=>?_]
  ·rw[r8]at hw;have h0:ms.idxOf k=0:=by
    have:=hw.1;rw[HT.vg]at this;have e:(nV ms).length=ms.length:=lv _;omega
   skip
   show fun l hl=>#[l,rfl,ai.upd hl,by rw[ay,h0];rfl]
  ·rw[r8,zk];simp only[ee,ay];show fun l hl=>#[l,rfl,(ai.upd hp).trans (ai.upd hl),by rw[ay];unfold nV;rw[Ja9]]
 rintro σ' H1 ⟨l,rfl,s0,hl⟩;have cQ:ms.drop (ms.idxOf k)≠[]:=fun e=>by have:=GE List.length e;simp at this;omega
 have cA:(ms.drop (ms.idxOf k)).length<=400:=by simp;omega
 generalize ms.drop (ms.idxOf k)=ns at hl cQ cA q;right
 rwa [hl]
 have hS:aC K H1 l ((ns.map (fun k:Nat=>(k:Int))).map V.int):=aC.of (by rw[hl,xI]);show#[_,_,hS,mem_cast (wk cQ),fun k hk=>?_,_,hS,mem_cast (wk cQ),nV ns,aC.of hl,fun p hp=>?_]
 ·let⟨k',hk',rfl⟩:=wS.mp hk;have:=FF hk';omega
 rw[r8,zk];show dh hp fun H2 s1 b1=>?_;show#[nV ns,aC.of (s1 _ _ hl),fun p2 cL=>?_];rw[Ko];show dh cL fun H3 s2 b2=>?_;simp only[s2 _ _ b1,b2];show#[fits (by simp[nV];omega),fun p3 iY=>?_];show q p3 _ (((s0.trans s1).trans s2).trans (ai.upd iY)) ?_;rw[ay];unfold kS nV;rw[Da,Ja9,List.map_take]
def  eC:List (Sum Nat Str)->List Nat->List (Str×List Nat)
 | [],_=>[]
 | .inr p::l,r=>(p,r)::eC l r
 | .inl _::l,r=>eC l r.dropLast
def AV(r:List Nat)(l:List (Sum Nat Str)):∀ ps:List Str,eC (ps.map Sum.inr++l) r=ps.map (fun p=>(p,r))++eC l r
 | []=>rfl
 | p::ps=>by change(p,r)::eC (ps.map Sum.inr++l) r=_;rw[AV r l ps];rfl
def N5(ps:List Str):(cJ ps).reverse=ps.map Sum.inr:=by unfold cJ;rw[List.reverse_reverse]
def Wg(l:List (Sum Nat Str))(k:Nat)(ps:List Str)(ch:List Nat):eC (((l++[Sum.inl k])++cJ ps).reverse) (ch++[k])=ps.map (fun p=>(p,ch++[k]))++eC l.reverse ch:=by
 rw[_o,N5,AV,_o];change _++eC l.reverse (ch++[k]).dropLast=_;rw[Jae]
def Cd:∀ l:List (Sum Nat Str),dY l.reverse=dY l
 | []=>rfl
 | .inl k::l=>by rw[List.reverse_cons,jf,Cd l];rfl
 | .inr k::l=>by rw[List.reverse_cons,jf,Cd l];rfl
def NZ{l:List (Sum Nat Str)}{ch:List Nat}(hc:dY l=ch.length):l=[] ↔ eC l.reverse ch=[]/\ch=[]:=by
 constructor
 ·rintro rfl;show#[rfl,IR.mp hc.symm]
 ·rintro⟨h,rfl⟩;rw[<- Cd]at hc;have:l.reverse=[]:=by
   generalize l.reverse=m at h hc
   match m,h,hc with
   | [],_,_=>rfl
   | .inr p::m,h,_=>cases h
   | .inl p::m,_,hc=>cases hc
  rw[<- List.reverse_reverse l,this];rfl
section
variable {d:Wd}{S S' S1:Ws}{o:Option Tl}{n:Nat}{p:Str}
def acI(h:fi d n S S' o):(eC S.left.reverse S.aY=[]->o=none/\S'.here=S.here/\S'.place=S.place/\S'.step=S.step/\S'.asked=S.asked) /\
  ∀ p ch ts,eC S.left.reverse S.aY=(p,ch)::ts->∃ l S1 o1,eJ d { S with left:=l,aY:=ch } p S1 o1/\eC l.reverse ch=ts/\(dY S.left=S.aY.length->dY l=ch.length)/\(∀ q,Sum.inr q∈l->Sum.inr q∈S.left)/\Sum.inr p∈S.left/\l.length < S.left.length/\ch.length<=S.aY.length /\
   ((∃ n',n' < n/\o1=none/\fi d n' S1 S' o)\/∃ y,o1=!y/\o=!y/\S'=S1):=by
 induction h with
 | @done S e =>
  rw[e];show#[fun _=>#[rfl,rfl,rfl,rfl,rfl],fun p ch ts h=>by cases h]
 | @pop n S k l r j S' o e er _ ih =>
  have hu:eC S.left.reverse S.aY=eC l.reverse r:=by
   rw[e,er,_o];change eC l.reverse (r++[j]).dropLast=_;rw[Jae]
  rw[hu];show#[ih.1,fun p ch ts h=>?_];let⟨l2,S1,o1,h1,h2,h3,h4,h5,h6,h7,h8⟩:=ih.2 p ch ts h;show#[l2,S1,o1,h1,h2,fun hc=>h3 ?_,fun q hq=>by rw[e];show GT _ (h4 q hq),by rw[e];show GT _ h5,by rw[e,mo];show _0 h6,by rw[er,mo];show Os h7,?_]
  ·rw[e,jf,er,mo]at hc;have h1:dY [Sum.inl (β:=Str) k]=1:=rfl;rw[h1]at hc;change dY l=r.length;simp at hc;show hc
  ·rcases h8 with ⟨n',hn,a,b⟩ | h8
   ·show .inl #[n',∅,a,b]
   ·show .inr h8
 | @step n S p l S1 S' o e hs hr ih =>
  have hu:eC S.left.reverse S.aY=(p,S.aY)::eC l.reverse S.aY:=by
   rw[e,_o];rfl
  rw[hu];show#[fun h=>(by cases h),fun p' ch ts h=>?_];cases h;show#[l,S1,none,hs,rfl,fun hc=>?_,fun q hq=>by rw[e];show GT _ hq,by rw[e];simp,by rw[e];simp,pi _,.inl #[n,∅,rfl,hr]];rw[e,jf]at hc;show hc
 | @fail S p l S1 y e hs =>
  have hu:eC S.left.reverse S.aY=(p,S.aY)::eC l.reverse S.aY:=by
   rw[e,_o];rfl
  rw[hu];show#[fun h=>(by cases h),fun p' ch ts h=>?_];cases h;show#[l,S1,!y,hs,rfl,fun hc=>?_,fun q hq=>by rw[e];show GT _ hq,by rw[e];simp,by rw[e];simp,pi _,.inr #[y,rfl,rfl,rfl]];rw[e,jf]at hc;show hc
def aac{t:Th}{o1:Option Tl}(h:eJ d S p S1 o1)(ht:d.M.ts[S.here]?=!t)(hk:t.kd≠("folder":Str)):o1=!.fail "flat"/\S1.step=S.step+1/\S1.asked=S.asked:=by
 cases h with
 | flat h1 h2 h3=>show#[rfl,rfl,rfl]
 | lZ h1 h2 h3=>rw[ht]at h2;cases h2;show absurd h3 hk
 | dot hA=>have h2:=hA.e;rw[ht]at h2;cases h2;show absurd hA.k hk
 | up hA=>have h2:=hA.e;rw[ht]at h2;cases h2;show absurd hA.k hk
 | go hA=>have h2:=hA.e;rw[ht]at h2;cases h2;show absurd hA.k hk
def RY{t:Th}{o1:Option Tl}(h:eJ d S p S1 o1)(ht:d.M.ts[S.here]?=!t)(hk:t.kd=("folder":Str))(hm:dO ("g":Str) (dB t d.z)=false):o1=!.fail "shut"/\S1.step=S.step+1/\S1.asked=S.asked++[S.here]:=by
 cases h with
 | flat h1 h2 h3=>rw[ht]at h2;cases h2;show absurd hk h3
 | lZ h1 h2 h3 h4=>show#[rfl,rfl,rfl]
 | dot hA=>have h2:=hA.e;rw[ht]at h2;cases h2;have:=hA.g;rw[hm]at this;cases this
 | up hA=>have h2:=hA.e;rw[ht]at h2;cases h2;have:=hA.g;rw[hm]at this;cases this
 | go hA=>have h2:=hA.e;rw[ht]at h2;cases h2;have:=hA.g;rw[hm]at this;cases this
inductive mQ(d:Wd)(S:Ws)(t:Th)(p:Str)(S1:Ws):Option Tl->Prop
 | none:jx d S.here t p .aw->mQ d S t p S1 (!.fail "none")
 | folder {k b:Nat}{l:List Nat}{tc:Th}:jx d S.here t p (.int ((k:Nat):Int))->d.M.ts[k]?=!tc->tc.kd=("folder":Str)->cf d.M k b l->S1.here=aZ b l->fj d.M d.L d.root (aZ b l)->S1.left=S.left->S1.aY=S.aY->S1.read=S.read->mQ d S t p S1 none
 | fin {k tc}:jx d S.here t p (.int ((k:Nat):Int))->d.M.ts[k]?=!tc->tc.kd≠("folder":Str)->(tc.kd=("file":Str)\/S.left=[]/\d.last=false)->S1.here=k->S1.place=!(S.here,p)->p.length<=8->S1.left=S.left->S1.aY=S.aY->S1.read=S.read->mQ d S t p S1 none
 | lead {k tc o}:jx d S.here t p (.int ((k:Nat):Int))->d.M.ts[k]?=!tc->tc.kd=("lead":Str)->¬ (S.left=[]/\d.last=false)->l6 d { dW S with look:=S.look+1 } k S1 o->mQ d S t p S1 o
def l6.keep{k:Nat}(h:l6 d S k S1 o):S1.step=S.step/\S1.asked=S.asked:=by
 cases h with
 | ring=>show#[rfl,rfl]
 | many=>show#[rfl,rfl]
 | read _ _ h=>cases h;show#[rfl,rfl]
def toStep{o1:Option Tl}{t:Th}(g:Gd d.M)(hL:d.L.length=d.M.ts.length)(hn:d.M.ts.length<=90)(h:eJ d S p S1 o1)(ht:d.M.ts[S.here]?=!t)(hk:t.kd=("folder":Str))(hm:dO ("g":Str) (dB t d.z)=true)(hp:kb p)(hb:fj d.M d.L d.root S.here) :
  S1.step=S.step+1/\S1.asked=S.asked++[S.here]/\mQ d S t p S1 o1:=by
 let⟨b,l,hs⟩:=g.dk hn ht hk;have hl:=(hb.inv hs).1;cases h with
 | flat h1 h2 h3=>rw[ht]at h2;cases h2;show absurd hk h3
 | lZ h1 h2 h3 h4=>rw[ht]at h2;cases h2;rw[hm]at h4;cases h4
 | dot hA h5=>show#[rfl,rfl,.folder (.dot h5) ht hk hs hl (hl ▸ hb) rfl rfl rfl]
 | up hA h5 hu =>
  cases hu with
  | gz h1 h2 h6 h7=>show#[rfl,rfl,.folder (.up h5 (.gz h1 h2 h6 h7)) ht hk hs hl (hl ▸ hb) rfl rfl rfl]
  | @up a t' b0 l0 ab tb f zz af tf b' l' h1 h2 h6 h7 h8 h9 oS zP sV oZ =>
   obtain⟨_,h0 | ⟨_,ab2,tb2,f2,nm2,e1,e2,e3,hf⟩⟩:=hb.inv h6
   ·rw[h7]at h0;cases h0
   rw[h9]at e2;cases e2;rw[oS]at e3;cases e3;let⟨tf',tV,cD⟩:=g.kj (.pl h9 oS);have hl':=(hf.inv oZ).1;show#[rfl,rfl,.folder (.up h5 (.up h1 h2 h6 h7 h8 h9 oS zP sV oZ)) (by rw[<- hl'];show tV) cD (g.EH oZ) rfl (hl' ▸ hf) rfl rfl rfl]
 | go hA h5 h6 h7 h8 qk =>
  have h2:=hA.e;rw[ht]at h2;cases h2;have mR:∀ {v:V},(ah (sD t.bb) (.inr p)).getD .aw=v->jx d S.here t p v:=fun {v} e=>e ▸ .nm h5 h6;have h88:p.length<=8:=by
   rcases hp with e | e | e
   ·show absurd e h6
   ·show absurd e h5
   ·show e.2
  cases qk with
  | no hv=>show#[rfl,rfl,.none (mR (by rw[hv];rfl))]
  | folder hv du bW dJ aR =>
   let⟨c',tc',e1,e2,e3⟩:=(g.th _ t ht).ch _ _ hv;injection e1 with e1;obtain rfl:=KM e1;rw[bW]at e2;cases e2;show#[rfl,rfl,.folder (mR (by rw[hv];rfl)) bW dJ aR rfl (g.Md hL bW dJ e3 hb aR) rfl rfl rfl]
  | fin hv du bW dJ hf=>show#[rfl,rfl,.fin (mR (by rw[hv];rfl)) bW dJ hf rfl rfl h88 rfl rfl rfl]
  | lead hv du bW dJ fJ iw hm =>
   have gB:=(g.th _ _ bW).kd;let⟨e1,e2⟩:=hm.keep;show#[e1,e2,.lead (mR (by rw[hv];rfl)) bW ?_ iw hm];rcases gB with h | h | h
   ·show absurd h dJ
   ·show absurd h fJ
   ·show h
def stepOk{t:Th}(g:Gd d.M)(hL:d.L.length=d.M.ts.length)(hr:∃ t,d.M.ts[d.root]?=!t/\t.kd=("folder":Str))(w:pT d S)(ht:d.M.ts[S.here]?=!t)(hk:t.kd=("folder":Str))(hb:fj d.M d.L d.root S.here)(h:mQ d S t p S1 none):pT d S1:=by
 cases h with
 | folder h1 h2 h3 h4 h5 h5b h6 h7 h8 =>
  let⟨_,tt,t1,t2⟩:=g.jq h4 h2 h3;show#[#[tt,by rw[h5];show t1,.inl #[t2,by rw[h5];show h5b]],by rw[h6];show w.ps,by rw[h6,h7];show w.cn,by rw[h8];show w.rl]
 | fin h1 h2 h3 h4 h5 h6 h7 h8 h9 oS=>show#[#[_,by rw[h5];show h2,.inr #[h3,_,_,t,h6,h7,ht,hb]],by rw[h8];show w.ps,by rw[h8,h9];show w.cn,by rw[oS];show w.rl]
 | @lead k tc _ h1 h2 h3 h4 hm =>
  have fA:=w.rl;cases hm with
  | read hn qE hR =>
   have h40':S.read≠40:=qE;cases hR with
   | @mk a tc2 tl ar tr b r du bW iu l1 l2 iF hlen xo eU aR =>
    show#[?_,fun q hq=>?_,?_,?_]
    ·let⟨tr2,xB,i9⟩:=hr;let⟨_,tt,t1,t2⟩:=g.jq aR xB i9;unfold iq;by_cases hrt:cO tl=true
     ·rw[wl hrt];show#[tt,t1,.inl #[t2,g.yB hL aR xB i9]]
     ·rw[wf hrt];show#[t,ht,.inl #[hk,hb]]
    ·unfold iq at hq;rcases No.mp hq with hq | hq
     ·rcases No.mp hq with hq | hq
      ·show w.ps q hq
      ·cases Ch.mp hq
     ·show zp iF q (xM hq)
    ·change dY ((S.left++[.inl k])++cJ (dj tl))=(S.aY++[k]).length;rw[jf,jf,xC,w.cn,mo];rfl
    ·change S.read+1<=40;omega
end
def  Due(H:Hp)(d:ϋ):Res->Prop
 | .found k ns=>H d=!.tup [.str "found",.int (k:Int),.str (iR ns)]
 | .failed k y=>H d=!.tup [.str "failed",.int (k:Int),.str y]
 | .ring ns=>∃ rl,H d=!.tup [.str "ring",-rl]/\H rl=!.lst (nV ns)
def Due.same{H H':Hp}{d:ϋ}(s:ai H H'):∀ {r:Res},Due H d r->Due H' d r
 | .found _ _,e=>s _ _ e
 | .failed _ _,e=>s _ _ e
 | .ring _,⟨l,e,f⟩=>#[l,s _ _ e,s _ _ f]
def  jZ(H:Hp)(v:V)(pc:Str×List Nat):Prop:=∃ a c,v=-a/\H a=!.tup [.str pc.1,-c]/\H c=!.tup (nV pc.2)
def  Toks(H:Hp):List V->List (Str×List Nat)->Prop
 | [],[]=>True
 | v::vs,p::ps=>jZ H v p/\Toks H vs ps
 | _,_=>False
def jZ.same{H H':Hp}(s:ai H H'){v:V}{p:Str×List Nat}(h:jZ H v p):jZ H' v p:=let ⟨a,c,e,x,y⟩:=h;#[a,c,e,s _ _ x,s _ _ y]
def jZ.upd{H:Hp}{tk:ϋ}{xs:List V}{o:HO}(hk:H tk=!.lst xs){v:V}{p:Str×List Nat}(h:jZ H v p):jZ (upd H tk o) v p :=
 let ⟨a,c,e,x,y⟩:=h;#[a,c,e,by rw[ag (eQ x hk (by nofun))];show x,by rw[ag (eQ y hk (by nofun))];show y]
def Toks.imp{H H':Hp}(f:∀ v p,jZ H v p->jZ H' v p):∀ {vs:List V}{ps:List (Str×List Nat)},Toks H vs ps->Toks H' vs ps
 | [],[],_=>trivial
 | v::vs,p::ps,h=>#[f _ _ h.1,Toks.imp f h.2]
 | [],_::_,h=>h.elim
 | _::_,[],h=>h.elim
def Toks.same{H H':Hp}(s:ai H H'){vs:List V}{ps:List (Str×List Nat)}(h:Toks H vs ps):Toks H' vs ps:=h.imp fun _ _=>jZ.same s
def Toks.upd{H:Hp}{tk:ϋ}{xs:List V}{o:HO}(hk:H tk=!.lst xs){vs:List V}{ps:List (Str×List Nat)}(h:Toks H vs ps):Toks (upd H tk o) vs ps:=h.imp fun _ _=>jZ.upd hk
def Toks.app{H:Hp}{ws:List V}{qs:List (Str×List Nat)}(hw:Toks H ws qs):∀ {vs:List V}{ps:List (Str×List Nat)},Toks H vs ps->Toks H (vs++ws) (ps++qs)
 | [],[],_=>hw
 | w::vs,q::ps,h=>#[h.1,Toks.app hw h.2]
 | [],_::_,h=>h.elim
 | _::_,[],h=>h.elim
def Toks.len{H:Hp}:∀ {vs:List V}{ps:List (Str×List Nat)},Toks H vs ps->vs.length=ps.length
 | [],[],_=>rfl
 | v::vs,p::ps,h=>by rw[xz,xz,Toks.len h.2]
 | [],_::_,h=>h.elim
 | _::_,[],h=>h.elim
def YU{lp:ϋ}{ps:List Str}{Q:VK}{H:Hp}(dq:aC K H lp (ps.map V.str))(hz:ps.length<=500)(q:∀ tk vs H',ai H H'->H tk=none->H' tk=!.lst vs->Toks H' vs (ps.map fun p=>(p,[]))->Q (-tk) H') :
  qI (jV K lp) iL (mF (gn (fB 0) (gn (mF gW) gW))) Q H:=by
 have hl:(ps.map V.str).length=ps.length:=lv _;show#[fun i ys m H1=>ai H H1/\Toks H1 ys ((ps.take i).map fun p=>(p,[]))/\i<=ps.length/\m=ps.length - i,#[_,ai.refl H,by trivial,wT _,rfl],?_];rintro i ys m H1 ⟨s1,hy,hi,rfl⟩;have hlen:=hy.len;rw[lv,W1]at hlen;show#[fits ∅,?_];by_cases h:i < ps.length
 ·have hx:(ps.map V.str)[i]?=!.str ps[i]:=by rw[At,ul h];rfl
  show .inr #[#[_,_,s1.seq dq,hx],gG ∅,?_];rintro y H' ⟨rfl,hy'⟩;have j9:(ps.map V.str)[i]?=!y:=hy' _ (s1.seq dq);rw[hx]at j9;cases j9;unfold iL;show bI rfl ?_;left;show#[fits (),fun p hp=>#[fits (),fun p2 cL=>#[_,?_,?_,?_,h,rfl]]]
  ·omega
  ·show(s1.trans (ai.upd hp)).trans (ai.upd cL)
  ·rw[_z,ul h,Da];show Toks.app (ws:=[-p2]) (qs:=[(ps[i],[])]) #[#[p2,p,rfl,ay,ai.upd cL _ _ ay],by trivial] (hy.same ((ai.upd hp).trans (ai.upd cL)))
 ·show .inl #[?_,fun l hl=>?_]
  ·show#[_,s1.seq dq,by rw[hl];omega]
  ·have e:ps.take i=ps:=GM ∅;rw[e]at hy;show q l ys _ (s1.trans (ai.upd hl)) (o8 s1 hl) ay (hy.same (ai.upd hl))
def Ue{lp cc:ϋ}{ps:List Str}{Q:VK}{H:Hp}{ch:List Nat}{k:Nat}(dq:aC K H lp (ps.map V.str))(hz:ps.length<=500)(hc:H cc=!.tup (nV ch))(jc:ch.length<=400)(q:∀ tk vs H',ai H H'->H tk=none->H' tk=!.lst vs->Toks H' vs (ps.map fun p=>(p,ch++[k]))->Q (-tk) H') :
  wo (jV K lp) 1 [V.ref cc,V.int (k:Int)] (fO 0) iL (mF (gn (fB 0) (gn (jy (yF K) (fB 1) (mF (gn (fB 2) gW))) gW))) Q H:=by
 have hl:(ps.map V.str).length=ps.length:=lv _;show#[fun i ys m H1=>ai H H1/\Toks H1 ys ((ps.take i).map fun p=>(p,ch++[k]))/\i<=ps.length/\m=ps.length - i,#[_,ai.refl H,by trivial,wT _,rfl],?_];rintro i ys m H1 ⟨s1,hy,hi,rfl⟩;have hlen:=hy.len;rw[lv,W1]at hlen;show#[fits ∅,?_];by_cases h:i < ps.length
 ·have hx:(ps.map V.str)[i]?=!.str ps[i]:=by rw[At,ul h];rfl
  show .inr #[#[_,_,s1.seq dq,hx],gG ∅,?_];rintro y H' ⟨rfl,hy'⟩ σ0 hσ0;let⟨a,rfl⟩:=DV hσ0;have j9:(ps.map V.str)[i]?=!y:=hy' _ (s1.seq dq);rw[hx]at j9;cases j9;show#[#[[!_],rfl,rfl],?_];change iL _ _ _;unfold iL;dsimp only;rw[wl rfl];change mF _ [!V.str ps[i],!V.ref cc,!V.int (k:Int)] H' _;left;show#[fits (),fun p hp=>?_];have s2:=ai.upd (o:=.tup [V.int (k:Int)]) hp;have b2:upd H' p (.tup [V.int (k:Int)]) p=!.tup [V.int (k:Int)]:=ay;generalize upd H' p (.tup [V.int (k:Int)])=H2 at s2 b2 ⊢;have j5:=s2 _ _ (s1 _ _ hc);have fin:∀ (H3:Hp) (c:ϋ),ai H' H3->H3 c=!.tup (nV (ch++[k]))->[V.str ps[i],V.ref c].length<=sizeLine/\∀ p2,H3 p2=none->∃ m',m' < ps.length - i/\ai H (upd H3 p2 (.tup [V.str ps[i],V.ref c]))/\Toks (upd H3 p2 (.tup [V.str ps[i],V.ref c])) (ys++[-p2]) ((ps.take (i+1)).map fun p=>(p,ch++[k]))/\i+1<=ps.length/\m'=ps.length - (i+1):=fun H3 c s3 hc3=>by
   show#[fits (),fun p2 cL=>#[_,?_,?_,?_,h,rfl]]
   ·omega
   ·show(s1.trans s3).trans (ai.upd cL)
   ·rw[_z,ul h,Da];show Toks.app (ws:=[-p2]) (qs:=[(ps[i],ch++[k])]) #[#[p2,c,rfl,ay,ai.upd cL _ _ hc3],by trivial] (hy.same (s3.trans (ai.upd cL)))
  show#[nV ch,[V.int (k:Int)],bK.of j5,bK.of b2,fits (by simp[nV];omega),?_];by_cases he:ch=[]
  ·subst he;show .inl #[rfl,fin _ _ s2 b2]
  ·show .inr #[fun z=>he (Jam.mp z),(),fun p3 iY=>?_];show fin _ _ (s2.trans (ai.upd iY)) (by rw[ay,iQ];rfl)
 ·show .inl #[?_,fun l hl=>?_]
  ·show#[_,s1.seq dq,by rw[hl];omega]
  ·have e:ps.take i=ps:=GM ∅;rw[e]at hy;show q l ys _ (s1.trans (ai.upd hl)) (o8 s1 hl) ay (hy.same (ai.upd hl))
def Fg:∀ (l:List (Sum Nat Str)) (r:List Nat),(eC l r).length<=l.length
 | [],_=>pi _
 | .inr _::l,r=>_q (Fg l r)
 | .inl _::l,r=>Os (Fg l _)
def  aaV(N:Cn):Sp:=rR fun x z pt fin H Q _=>X6 fun A L M root t e=>A9 (pt=Tx.S t) (aF N.CH N.CS N.CT H A L M) (A.a=x) (z∈AS) (Gd M) (M.ts.length<=40) (t.length<=400) (eM #[L,M,z,fin,root] t e) (∀ p d av H',ai H H'->H' p=!.tup [-d,-av]->Due H' d e.res->H' av=!.lst (nV e.asked)->Q (-p) H')
def  J3(L:List Ta)(M:Hs)(r:Nat)(S:Ws)(k:Nat)(nv tv:V):Prop:=∃ t,M.ts[S.here]?=!t/\(t.kd=("folder":Str)/\k=S.here/\nv=.aw/\fj M L r S.here\/t.kd≠("folder":Str)/\∃ (nm:Str) (tf:Th),S.place=!(k,nm)/\nv=.str nm/\nm.length<=8/\tv=.int (S.here:Int)/\M.ts[k]?=!tf/\tf.kd=("folder":Str))
def  WX(H:Hp)(a:ϋ)(d:Wd)(pt:Str)(av:ϋ)(S':Ws)(o:Option Tl)(m:Nat)(σ:L2.St)(H':Hp):Prop :=
 ∃ (S:Ws) (vs:List V) (k:Nat) (nv tv:V) (tk:ϋ) (o1 o2 o3:Option V),ai H H'/\H tk=none/\av≠tk/\σ=[!-a,!.str d.z,!.str pt,!.bl d.last,!-av,!.int (k:Int),!-tk,!nv,!tv,!.int (S.step:Int),!.int (S.read:Int),o1,o2,o3] /\
  H' av=!.lst (nV S.asked)/\H' tk=!.lst vs/\Toks H' vs (eC S.left.reverse S.aY)/\pT d S/\Bd S/\fi d m S S' o/\J3 d.L d.M d.root S k nv tv
def pO{H3:Hp}{vs:List V}{av:ϋ}{xs:List V}{Q:VK}(hv:vs.length<=10)(ha:H3 av=!.lst xs)(q:∀ p d H',ai H3 H'->H' p=!.tup [-d,-av]->H' d=!.tup vs->H' av=!.lst xs->Q (-p) H') :
  vs.length<=sizeLine/\∀ d,H3 d=none->[V.ref d,V.ref av].length<=sizeLine/\∀ p,upd H3 d (.tup vs) p=none->Q (-p) (upd (upd H3 d (.tup vs)) p (.tup [-d,-av])):=by
 show#[fits ∅,fun d hd=>#[fits (),fun p hp=>?_]];have s:=(ai.upd (o:=.tup vs) hd).trans (ai.upd (o:=.tup [-d,-av]) hp);show q p d _ s ay (ai.upd hp _ _ ay) (s _ _ ha)
def UT{A:TS}{D:Ends}{σ:L2.St}{H:Hp}(h:∀ D':Ends,(∀ σ' H',D.nx σ' H'->D'.nx σ' H')->(∀ v H',D.rt v H'->D'.rt v H')->A D' σ H):A D σ H:=h D (fun _ _ x=>x) fun _ _ x=>x
def Ob{c:TT}{t u:TS}{D:Ends}{σ:L2.St}{H:Hp}(h:∀ U:TS,(∀ σ' H',u D σ' H'->U D σ' H')->vG c t U D σ H):vG c t u D σ H:=h u fun _ _ x=>x
def abP{t:Th}(h:t.kd=("lead":Str)):t.kd≠("file":Str):=by rw[h];symm
inductive sN(d:Wd)(S:Ws)(p:Str)(S1:Ws):V->Option Tl->Prop
 | none:sN d S p S1 .aw (!.fail "none")
 | folder {k b:Nat}{l:List Nat}{tc:Th}:d.M.ts[k]?=!tc->tc.kd=("folder":Str)->cf d.M k b l->S1.here=aZ b l->fj d.M d.L d.root (aZ b l)->S1.left=S.left->S1.aY=S.aY->S1.read=S.read->sN d S p S1 (.int (k:Int)) none
 | fin {k:Nat}{tc:Th}:d.M.ts[k]?=!tc->tc.kd≠("folder":Str)->(tc.kd=("file":Str)\/S.left=[]/\d.last=false)->S1.here=k->S1.place=!(S.here,p)->p.length<=8->S1.left=S.left->S1.aY=S.aY->S1.read=S.read->sN d S p S1 (.int (k:Int)) none
 | lead {k:Nat}{tc:Th}{o:Option Tl}:d.M.ts[k]?=!tc->tc.kd=("lead":Str)->¬ (S.left=[]/\d.last=false)->l6 d { dW S with look:=S.look+1 } k S1 o->sN d S p S1 (.int (k:Int)) o
def mQ.x{d:Wd}{S S1:Ws}{t:Th}{p:Str}{o:Option Tl}(h:mQ d S t p S1 o):∃ v,jx d S.here t p v/\sN d S p S1 v o:=by
 cases h with
 | none h=>show#[_,h,.none]
 | folder h h1 h2 h3 h4 h5 h6 h7 h8=>show#[_,h,.folder h1 h2 h3 h4 h5 h6 h7 h8]
 | fin h h1 h2 h3 h4 h5 h6 h7 h8 h9=>show#[_,h,.fin h1 h2 h3 h4 h5 h6 h7 h8 h9]
 | lead h h1 h2 h3 h4=>show#[_,h,.lead h1 h2 h3 h4]
def aaI{d:Wd}{k:Nat}{t:Th}{p:Str}(g:Gd d.M)(hL:d.L.length=d.M.ts.length)(hn:d.M.ts.length<=90)(ht:d.M.ts[k]?=!t)(hk:t.kd=("folder":Str))(hp:kb p)(hb:fj d.M d.L d.root k):∃ v,jx d k t p v:=by
 let⟨a,ha⟩:=adr hL ht;rcases hp with hp | hp | ⟨hp,P4⟩
 ·show#[_,.dot hp]
 ·let⟨b,l,hs⟩:=g.dk hn ht hk;obtain⟨_,h0 | ⟨h0,ab,tb,f,nm,c8,c9,bt,hf⟩⟩:=hb.inv hs
  ·show#[_,.up hp (.gz ha ht hs h0)]
  ·let⟨tf,bE,cD⟩:=g.kj (.pl c9 bt);let⟨af,gA⟩:=adr hL bE;let⟨b',l',hs'⟩:=g.dk hn bE cD;show#[_,.up hp (.up ha ht hs h0 c8 c9 bt gA bE hs')]
 ·show#[_,.nm (fun e=>by rw[e,zj.2]at hp;cases hp) (fun e=>by rw[e,zj.1]at hp;cases hp)]
def toAny{d:Wd}{S S1:Ws}{p:Str}{o1:Option Tl}{t:Th}{l:List (Sum Nat Str)}{ch:List Nat}(g:Gd d.M)(hL:d.L.length=d.M.ts.length)(hn:d.M.ts.length<=90)(h:eJ d { S with left:=l,aY:=ch } p S1 o1)(ht:d.M.ts[S.here]?=!t)(hk:t.kd=("folder":Str))(hp:kb p)(hb:fj d.M d.L d.root S.here) :
  ∃ v,jx d S.here t p v/\(dO ("g":Str) (dB t d.z)=true->S1.step=S.step+1/\S1.asked=S.asked++[S.here]/\mQ d { S with left:=l,aY:=ch } t p S1 o1/\sN d { S with left:=l,aY:=ch } p S1 v o1):=by
 cases hm:dO ("g":Str) (dB t d.z) with
 | false=>let⟨v,hv⟩:=aaI g hL hn ht hk hp hb;show#[v,hv,nofun]
 | true =>
  let⟨e1,e2,e3⟩:=toStep g hL hn h ht hk hm hp hb;let⟨v,hv,hx⟩:=e3.x;show#[v,hv,fun _=>#[e1,e2,e3,hx]]
def Ik{M:Hs}{k b:Nat}{l:List Nat}(g:Gd M)(hn:M.ts.length<=40)(hs:cf M k b l)(ht:∃ t,M.ts[k]?=!t/\t.kd=("folder":Str)):∃ mj lj,cX M mj k lj/\mj<=40/\aZ k lj=aZ b l:=by
 let⟨t,ht,hk⟩:=ht;let⟨⟨n1,hB⟩,m1,hU,_⟩:=hs;let⟨mj,lj,uj,jH⟩:=uy g hB hU;have Gv:=g.rJ ht hk uj;show#[mj,lj,uj,∅,jH]
def eM.beg{L:List Ta}{M:Hs}{z:Str}{fin:Bool}{r0:Nat}{t:List Nat}{e:End}(pw:eM #[L,M,z,fin,r0] t e):∃ (st b:Nat) (r:List Nat) (a:Ta) (t0:Th) (sn:Bool),(cO t=true/\st=r0\/cO t=false/\ah (sD M.st) (.inr z)=!.int (st:Int))/\L[st]?=!a/\M.ts[st]?=!t0/\cf M st b r/\(∃ m,eg M L r0 m (aZ b r) sn)/\ah (sD M.ro) (.inr z)=!.int (r0:Int)/\(sn=false->e=#[[],.failed 0 "outside"]) /\
  (sn=true->(dj t).length<=2500/\∃ n S' o,fi #[L,M,z,fin,r0] n #[aZ b r,none,0,[],cJ (dj t),[],0,0] S' o/\(∀ y,o=!y->e=#[S'.asked,ud S'.step y])/\(o=none->∃ ns bZ,vx M L r0 S' ns bZ/\e=#[S'.asked,.found S'.here (ns++bZ)])):=by
 cases pw.g with
 | out bo =>
  let⟨st,b,r,a,t0,h1,h2,h3,h4,h5⟩:=bo.ex;show#[st,b,r,a,t0,false,h1,h2,h3,h4,h5,bo.z,fun _=>rfl,nofun]
 | told bw hp hr =>
  let⟨st,b,r,a,t0,h1,h2,h3,h4,h5,rfl⟩:=bw.ex;show#[st,b,r,a,t0,true,h1,h2,h3,h4,h5,bw.z,nofun,fun _=>#[hp,_,_,_,hr,fun y hy=>(by cases hy;rfl),nofun]]
 | found bw hp hr ht =>
  let⟨st,b,r,a,t0,h1,h2,h3,h4,h5,rfl⟩:=bw.ex;show#[st,b,r,a,t0,true,h1,h2,h3,h4,h5,bw.z,nofun,fun _=>#[hp,_,_,_,hr,nofun,fun _=>#[_,_,ht,rfl]]]
def bdU{a b c e:Nat}(h:a+b+c<=8000)(hl:e < b):a+1+e+c<=8000:=∅
def ZU{a b c e v:Nat}(h:a+b+c<=8000)(hl:e < b)(h2:v<=e):v<=8000:=∅
def Ys:T.qQ.k P w base 48 (aaV T.cn):=by
 have jD:=wD (P:=P) (w:=w) (base:=base) T 40;show T.qQ.F.ok fQ (fun _ _ _ _ h=>kh h fun _ _ _ _ _=>rfl) fun ax A _ s H vs Q E hr h=>kh h fun x z pt fin h=>?_;let⟨AA,L,M,r0,t,e,rfl,i,rfl,hz,g,hn,hl,pw,q⟩:=h;let⟨st,b,r,a,t0,sn,aR,ha,ot,jI,f7,Aj,hF,hT⟩:=pw.beg;have lC:M.ts.length<=90:=ut hn ⋯;have dE:M.tr.length < 64:=by have:=g.ji;omega
 let⟨r1,gd,ga⟩:=g.as z hz;rw[ga.ro]at Aj;obtain rfl:r1=r0:=dH Aj;have hk0:t0.kd=("folder":Str):=by
  rcases aR with ⟨e1,e2⟩ | ⟨e1,e2⟩
  ·let⟨t',h1,h2⟩:=ga.tr;rw[e2,h1]at ot;cases ot;show h2
  ·rw[ga.st]at e2;obtain rfl:gd=st:=dH e2;let⟨t',h1,h2⟩:=ga.tk;rw[h1]at ot;cases ot;show h2
 let⟨sb,sl,rb,rl,Aa,tL,hb⟩:∃ sb sl rb rl,cf M gd sb sl/\cf M r1 rb rl/\(if cO t=true then aZ rb rl else aZ sb sl)=aZ b r:=by
  let⟨tr,h1,h2⟩:=ga.tr;let⟨tk,h3,h4⟩:=ga.tk;rcases aR with ⟨e1,e2⟩ | ⟨e1,e2⟩
  ·let⟨sb,sl,h⟩:=g.dk lC h3 h4;show#[sb,sl,b,r,h,e2 ▸ jI,wl e1]
  ·rw[ga.st]at e2;obtain rfl:gd=st:=dH e2;let⟨rb,rl,h⟩:=g.dk lC h1 h2;show#[b,r,rb,rl,jI,h,wf (by rw[e1];nofun)]
 let⟨_,tb,c9,z8⟩:=g.jq jI ot hk0;let⟨mj,lj,uj,hj40,jH⟩:=Ik g hn Aa ga.tk;have qj:=ga.ro;show bF (b:=aU Bp) ((al (aM 4 fQ.nd (cr ae))
 (al (aM 5 fQ.nd (LB<$>T.mr (aa (ad 0) (aa (ad 1) (aa (ad 2) (aa (bn jD hr.m T.di.m T.di.F.kp T.di.b .nil aq (aa (ad 0) (aa (NI<*T.pI (ad 0) (aa (ad 1) ae)) ae))) ae))))))
 (al (aV (dF (cU (UD<$>T.qH (aa (ad 0) (aa (ad 1) (aa (ad 5) ae)))))) (aj (aL (dL (aa (dL (aa am (aa ap (aa am ae)))) (aa (ad 4) ae))))) bv)
 (al (C3 6 rfl fQ.nd (x:=("_law_part":Str)) (iH (K:=K) rfl (JP<$>T.lI (aa (ad 2) ae))) (fun _ _ _ _=>by show u0) (fun _ _ _ _=>by show(eN 0 (show List.Nodup (["_law_part"]:List Str) by decide))) (fun _ _ _ _=>by show(dL (aa (ad 0) (aa (dL ae) ae)))) (.of rfl (by show trivial) (by walk_at "c") rfl (by show trivial)))
 (al (aM 7 fQ.nd aw)
 (al (aM 8 fQ.nd aw)
 (al (aM 9 fQ.nd ap)
 (al (aM 10 fQ.nd ap)
 (al (j3 Db (aX (Ln (K:=K) rfl hr.g7) (ad 6) (cr ae)) (al (vD (fX _9 Ja0 Tb (ad 6) (aa ap ae)) (xT (K:=K) (n:=2) rfl rfl (nW (eN 11 fQ.nd) (nW (eN 12 fQ.nd) yH))))
 (al (aM 9 fQ.nd (db ej (ad 9) ap))
 (al (aV (aX mx (ad 7) aw) (aj (aL (dL (aa (dL (aa am (aa (ad 9) (aa am ae)))) (aa (ad 4) ae))))) bv)
 (al (aN (fX Do Ev jQ (ad 4) (aa (ad 5) ae)))
 (al (aM 13 fQ.nd (Sv<$>T.sv (aa (ad 0) (aa (ad 1) (aa (ad 5) (aa (ad 11) ae))))))
 (al (aV (dF (cU (dA T.aD T.mD.h (CB T) hr.m T.mD.b .nil gy (ad 0) (aa (ad 1) (aa (ad 5) (aa am ae)))))) (aj (aL (dL (aa (dL (aa am (aa (ad 9) (aa am ae)))) (aa (ad 4) ae))))) bv)
 (al (aV (aX nF (ad 13) aw) (aj (aL (dL (aa (dL (aa am (aa (ad 9) (aa am ae)))) (aa (ad 4) ae))))) bv)
 (aj (aV (aX cF (rL<*T.gT (ad 0) (aa (ad 13) ae)) am) (aj (aM 5 fQ.nd (bn jD hr.m T.di.m T.di.F.kp T.di.b .nil aq (aa (ad 0) (aa (ad 13) ae))))) (aj (aV (ff (ge (aX cF (rL<*T.gT (ad 0) (aa (ad 13) ae)) am) (jY (ff (gl (dF (cU (ad 3))) (gl (aX (Iy (K:=K) rfl hr.g7) (ad 6) (cr ae)) (kE (aX (Xf (K:=K) rfl hr.g7) (ad 12) (dL ae))))))))) (al (aM 7 fQ.nd (ad 11))
 (aj (aM 8 fQ.nd (ad 13)))) (aj (aV (aX (zy (K:=K) rfl) (ad 13) (ad 12)) (aj (aL (dL (aa (dL (aa am (aa (XQ<$>T.r9 (aa (ad 12) (aa (ad 13) ae))) ae))) (aa (ad 4) ae))))) (aj (aV (aX cF (ad 10) ap) (aj (aL (dL (aa (dL (aa am (aa (ad 9) (aa am ae)))) (aa (ad 4) ae))))) (al (aM 10 fQ.nd (db ej (ad 10) ap))
 (al (aM 5 fQ.nd (LB<$>T.mr (aa (ad 0) (aa (ad 1) (aa (Cy<*T.mf (ad 0) (aa (ad 13) ae)) (aa (ad 5) ae))))))
 (aj (aM 6 fQ.nd (db ej (DS rfl (TN:=["_law_one"]) (caps:=["_law_chain","_law_number"]) (ix:=[12,13]) (iH (K:=K) rfl (JP<$>T.lI (aa (Cy<*T.mf (ad 0) (aa (ad 13) ae)) ae))) (fun _ _ _ _=>by show u0) (fun _ _ _ _=>by show(eN 0 (show List.Nodup (["_law_one","_law_chain","_law_number"]:List Str) by decide))) (fun _ _ _ _=>by show(dL (aa (ad 0) (aa (db (acS (K:=K) rfl) (ad 1) (dL (aa (ad 2) ae))) ae)))) (.of rfl (by show#[rfl,rfl,trivial]) (by walk_at "c") rfl (by show#[#[rfl,rfl,rfl,rfl],#[rfl,rfl,rfl,rfl],trivial]))) (ad 6))))))))))))))))))))))
 (aj (aL (dL (aa (dL (aa am (aa (ce (bG (K:=K) rfl) (cr (aa (ad 8) (aa (ad 5) ae))) (nJ yQ T.vo uK (aa (f8 nF (ad 7) aw) ae))) (aa (W2<$>T.rK (aa (ad 0) (aa (ad 1) (aa (ad 5) (aa (ad 7) ae))))) ae)))) (aa (ad 4) ae))))))))))))))) ?_
 exists 10;show cu fun N hN=>?_;left;show#[fits (),fun av gD=>hN _ _ (cu fun N hN=>?_)];have s1:=ai.upd (o:=.lst []) gD;have b1:upd H av (.lst []) av=!.lst (nV []):=ay;generalize upd H av (.lst [])=H1 at s1 b1 ⊢;have i1:=i.same s1;let⟨fs,c,hx,aO,sf⟩:=i1.h;left;show(mI hx sf #[AA,L,M,gd,i1,rfl,by rw[qj];rfl,ga.st,AA,L,M,gd,mj,lj,i1,rfl,rfl,g,dE,uj,hj40,fun H2 s2=>?_]);have i2:=i1.same s2;show#[AA,L,M,t,aZ gd lj,r1,rfl,#[pw.l1,pw.l2,pw.all],i2,rfl,rfl,qj,g,hn,ga.tr,rb,rl,tL,fun H3 s3=>hN _ _ (cu fun N hN=>?_)];rw[jH,hb];have i3:=i2.same s3;left;show#[AA,L,M,aZ b r,r1,sn,i3,rfl,rfl,qj,g,hn,#[tb,c9,z8],f7,fun H4 s4=>?_];cases sn with
 | false =>
  show bI rfl ?_;have tE:=((s2.trans s3).trans s4);show pO () (tE _ _ b1) fun p d H' s' hp hd ha=>q p d av H' ((s1.trans tE).trans s') hp (by rw[hF rfl];show hd) (by rw[hF rfl];show ha)
 | true =>
 show bh rfl (hN _ _ (cu fun N hN=>?_));let⟨hps25,n0,S',o,ic,f1,f2⟩:=hT rfl;have P0:fj M L r1 (aZ b r):=f7;have i4:=i3.same s4;left;show#[t,rfl,#[pw.l1,pw.l2,pw.all],hl,fun lp H5 s5 dq=>#[#[_,aC.of dq],?_]];have jJ:=((s2.trans s3).trans s4).trans s5;have b5:=jJ _ _ b1;rw[yp]at dq;have dZ:=zp pw.all;have GB:(dj t).length<=402:=by
  have h1:=@yq (Tx.words 47 t) t;have h2:=Fp 47 t;unfold dj;rw[lv];omega
 replace dq:H5 lp=!.lst ((dj t).map V.str):=dq
 generalize dj t=ps at dq ic GB dZ;show YU (aC.of dq) (ut GB ⋯) fun tk vs H6 s6 GR fw mR=>hN _ _ (cu fun N hN=>?_);have OV:=jJ.trans s6;have b6:=s6 _ _ b5;left;show hN _ _ (cu fun N hN=>?_);left;show hN _ _ (cu fun N hN=>?_);left;show hN _ _ (cu fun N hN=>?_);left;have nat:av≠tk:=bD b5 GR;have ftk':H tk=none:=o8 (s1.trans jJ) GR;have oF:=yj ps;show hN _ _ (cu fun N hN=>#[WX H AA.a #[L,M,z,fin,r1] (Tx.S t) av S' o,#[n0,#[aZ b r,none,0,[],cJ ps,[],0,0],vs,aZ b r,.aw,.aw,tk,none,none,none,s1.trans OV,ftk',nat,rfl,b6,fw,by dsimp only;rw[N5,<- UV (ps.map _),AV];show(UV (ps.map fun p=>(p,([]:List Nat)))).symm ▸ mR,#[#[tb,c9,.inl #[z8,P0]],fun q hq=>dZ q (xM hq),xC ps,wT _],#[wT _,by dsimp only;omega,wT _,wT _],ic,tb,c9,.inl #[z8,rfl,rfl,P0]],?_]);clear mR fw b6 OV s6 GR dq b5 jJ s5 i4 s4 i3 s3 i2 s2 hx aO sf i1 b1 ic dZ GB nat ftk' oF vs tk;intro m σ' H1 z0;let⟨S,vs,k,nv,tv,tk,o1,o2,o3,s1',ftk',nat,rfl,b1,fw,mR,hw,j4,ic,lz⟩:=z0;have i1:=i.same s1';let⟨fs,c,hx,aO,sf⟩:=i1.h;left;show#[fits (),fun pn hpn=>?_];show dh hpn fun H2 s2 c2=>?_;have i2:=i1.same s2;have b2:=s2 _ _ b1;have t2:=s2 _ _ fw;show#[vs,[],aC.of t2,aC.of c2,.inl #[rfl,?_]];show zzh fun _ x0=>?_;have Ay:=mR.same s2;have Qj:=s1'.trans s2;let⟨dM,xt⟩:=acI ic;generalize htoks:eC S.left.reverse S.aY=toks at Ay dM xt;cases toks with
 | nil =>
  cases vs with
  | cons v vs=>show Ay.elim
  | nil =>
   let⟨ho,eh,F9,es,ea⟩:=dM rfl;show x0 (bh rfl (hN _ _ ?_));clear x0;left;let⟨ns,bZ,⟨f,a',t',ha',ht',hk',cj,hn99,GU⟩,mU⟩:=f2 ho;rw[eh]at ht' hk';rw[F9]at hk';show#[fits (),fun pl bt=>#[by trivial,?_]];show dh bt fun H3 s3 c3=>?_
   rwa [c3]
   let⟨tt,j7,lz⟩:=lz;rw[j7]at ht';cases ht';have hq:cS [tv,V.int (k:Int)] (if decide (nv=V.aw)=true then 1 else 0)=!V.int (S.here:Int)/\k=f/\(nv=.aw/\bZ=[]\/∃ nm:Str,nv=.str nm/\bZ=[nm]/\nm.length<=8)/\∃ tk,M.ts[k]?=!tk/\tk.kd=("folder":Str):=by
    rcases lz with ⟨h1,rfl,rfl,_⟩ | ⟨h1,nm,tf,h2,rfl,h3,rfl,h4⟩
    ·rcases hk' with ⟨_,rfl,rfl⟩ | ⟨h,_⟩
     ·show#[by rw[wl (sw rfl)];show gZ (j:=1) rfl,rfl,.inl #[rfl,rfl],_,j7,h1]
     ·show absurd h1 h
    ·rcases hk' with ⟨h,_⟩ | ⟨_,nm',h5,rfl,h6⟩
     ·show absurd h h1
     ·rw[h2]at h5;cases h5;show#[by rw[wf (by rw[kt (by nofun)];nofun)];show gZ (j:=0) rfl,rfl,.inr #[_,rfl,rfl,h3],tf,h4]
   let⟨e1,rfl,e2,e3⟩:=hq;rw[e1];show#[AA,L,M,k,r1,ns,bZ,i2.same s3,rfl,rfl,qj,g,hn,e3,e2,cj,hn99,GU,fun H4 s4=>?_];show pO () ((s3.trans s4) _ _ b2) fun p d H' s' hp hd ha=>q p d av H' ((Qj.trans (s3.trans s4)).trans s') hp (by rw[mU,eh];show hd) (by rw[mU,ea];show ha)
 | cons pc ts =>
  let⟨p,ch⟩:=pc;cases vs with
  | nil=>show Ay.elim
  | cons v vs =>
   let⟨l,S1,o1',aR,oE,jz,GK,hpin,oF,Pf,cg⟩:=xt p ch ts rfl;let⟨⟨pa,pc,rfl,Qy,AD⟩,Qm⟩:=Ay;have tJ:=hw.ps p hpin;have tU:pT #[L,M,z,fin,r1] { S with left:=l,aY:=ch }:=#[hw.v,fun q hq=>hw.ps q (GK q hq),jz hw.cn,hw.rl];have bA:=j4.a;have bP:=j4.p;have bR:=j4.r;have bQ:=j4.q;have Hk:Bd S1:=eJ.OJ (S:={ S with left:=l,aY:=ch }) bA (bdU bP oF) (ut Pf bR) bQ aR;have O8:ch.length<=40:=ut Pf (ut bR bQ);have F5:vs.length<=8000:=by
    have h2:=Fg l.reverse ch;rw[oE,_J,<- Qm.len]at h2;show ZU bP oF h2
   show x0 (bI rfl #[_,fun _ _ h=>h,UT fun D hnx hrt=>cu fun N hN=>?_]);clear x0;left;have t3:upd H2 tk (.lst vs) tk=!.lst vs:=ay;have Qc:=Qm.upd (o:=.lst vs) t2;have Pk:upd H2 tk (.lst vs) pa=!.tup [V.str p,-pc]:=by rw[ag (eQ Qy t2 (by nofun))];show Qy
   have FZ:upd H2 tk (.lst vs) pc=!.tup (nV ch):=by rw[ag (eQ AD t2 (by nofun))];show AD
   have b3:upd H2 tk (.lst vs) av=!.lst (nV S.asked):=by rw[ag nat];show b2
   have lE:ai H (upd H2 tk (.lst vs)):=Qj.fN ftk';simp only[t2];show#[_,_,rfl,pa,_,rfl,bK.of Pk,rfl,_,_,rfl,_,_,rfl,rfl,hN _ _ (cu fun N hN=>?_)];generalize upd H2 tk (.lst vs)=H3 at t3 Qc Pk FZ b3 lE ⊢;left;show hN _ _ (cu fun N hN=>?_);have i3:=i.same lE;let⟨hX,c3,da,f9,dR⟩:=i3.h;let⟨tt,j7,lz⟩:=lz;left;show#[by trivial,?_];rcases lz with ⟨cD,rfl,rfl,Hx⟩ | ⟨cD,nm,tf,bt,rfl,_⟩
   ·show bh (GE not (sw rfl)) (hN _ _ (cu fun N hN=>?_));left
    rwa [b3]
    show#[ww (FM _) (vP (by simp;omega)),hN _ _ (cu fun N hN=>?_)];have b4:upd H3 av (.lst (nV S.asked++[V.int (S.here:Int)])) av=!.lst (nV (S.asked++[S.here])):=by rw[ay,iQ];rfl
    have t4:upd H3 av (.lst (nV S.asked++[V.int (S.here:Int)])) tk=!.lst vs:=by rw[ag (ss nat)];show t3
    have Pa:=Qc.upd (o:=.lst (nV S.asked++[V.int (S.here:Int)])) b3;have Qw:upd H3 av (.lst (nV S.asked++[V.int (S.here:Int)])) pc=!.tup (nV ch):=by rw[ag (eQ FZ b3 (by nofun))];show FZ
    have G6:ai H (upd H3 av (.lst (nV S.asked++[V.int (S.here:Int)]))):=lE.fN gD;generalize upd H3 av (.lst (nV S.asked++[V.int (S.here:Int)]))=H4 at b4 t4 Pa Qw G6 ⊢;have i4:=i.same G6;left;let⟨v,hv,Hj⟩:=toAny (d:=#[L,M,z,fin,r1]) g i4.len lC aR j7 cD tJ Hx;show#[AA,#[L,M,z,fin,r1],tt,S.here,v,i4,rfl,rfl,qj,g,hn,j7,cD,tJ,hv,fun H5 s5=>hN _ _ (cu fun N hN=>?_)];have b5:=s5 _ _ b4;have t5:=s5 _ _ t4;have GO:=s5 _ _ Qw;have wV:=Pa.same s5;have lG:=G6.trans s5;have i5:=i.same lG;let⟨tD,c5,gg,hfl5,mV⟩:=i5.h;left;show(mI gg mV (Fq i5 (by rw[qj];rfl) (by symm) j7 ?_));cases hm:dO ("g":Str) (dB tt z) with
    | false =>
     show bI rfl ?_;let⟨rfl,e2,e3⟩:=RY aR j7 cD hm;rcases cg with ⟨_,_,e,_⟩ | ⟨y,e,rfl,rfl⟩
     ·cases e
     cases e;show pO () b5 fun p d H' s' hp hd ha=>hrt _ _ (q p d av H' (lG.trans s') hp ?_ (by rw[f1 _ rfl,e3];show ha));rw[f1 _ rfl,e2];show hd
    | true =>
     show bh rfl (hN _ _ (cu fun N hN=>?_));left;show#[by trivial,?_];let⟨e2,e3,hS,hto7⟩:=Hj hm;have aE:=stepOk (d:=#[L,M,z,fin,r1]) (S1:=S1) (p:=p) g i5.len ga.tr tU j7 cD Hx;cases hto7 with
     | none =>
      rcases cg with ⟨_,_,e,_⟩ | ⟨y,e,rfl,rfl⟩
      ·cases e
      cases e;show bI (sw rfl) ?_;show pO () b5 fun p d H' s' hp hd ha=>hrt _ _ (q p d av H' (lG.trans s') hp ?_ (by rw[f1 _ rfl,e3];show ha));rw[f1 _ rfl,e2];show hd
     | @folder cn bc lc tc bW dJ hsc e4 hbc e5 e6 e7 =>
      have qi:=aE hS;let⟨mc,lk,uc,hc40,sY⟩:=Ik g hn hsc #[tc,bW,dJ];let⟨_,tcc,htcc,hkcc⟩:=g.jq hsc bW dJ;let⟨n',hn',_,hrun'⟩:∃ n',n' < m/\True/\fi ⟨L,M,z,fin,r1⟩ n' S1 S' o:=by
       rcases cg with ⟨n',h1,_,h⟩ | ⟨y,e,_⟩
       ·show#[n',h1,trivial,h]
       ·cases e
      show bh (kt (by nofun)) (hN _ _ ?_);let⟨ac,du⟩:=adr i5.len bW;left;show(mI gg mV #[AA,L,M,cn,ac,tc,i5,rfl,rfl,du,bW,?_]);dsimp only[mH];show bI (sw dJ) ?_;show#[AA,L,M,cn,mc,lk,i5,rfl,rfl,g,dE,uc,hc40,fun H6 s6=>hnx _ _ #[n',hn',S1,vs,aZ bc lc,.aw,tv,tk,_,_,_,lG.trans s6,ftk',nat,by rw[e2,e7,sY];rfl,by rw[e3];show s6 _ _ b5,s6 _ _ t5,by rw[e5,e6];dsimp only;rw[oE];show wV.same s6,qi,Hk,hrun',tcc,by rw[e4];show htcc,.inl #[hkcc,e4.symm,rfl,by rw[e4];show hbc]]]
     | @fin cn tc bW dJ hf e4 F9 h8 e5 e6 e7 =>
      have qi:=aE hS;let⟨n',hn',_,hrun'⟩:∃ n',n' < m/\True/\fi ⟨L,M,z,fin,r1⟩ n' S1 S' o:=by
       rcases cg with ⟨n',h1,_,h⟩ | ⟨y,e,_⟩
       ·show#[n',h1,trivial,h]
       ·cases e
      show bh (kt (by nofun)) (hN _ _ ?_);let⟨ac,du⟩:=adr i5.len bW;left;show(mI gg mV #[AA,L,M,cn,ac,tc,i5,rfl,rfl,du,bW,?_]);simp only[mH];show bh (kt dJ) ?_;show(mI gg mV #[AA,L,M,cn,ac,tc,i5,rfl,rfl,du,bW,?_]);simp only[mH];have OT:∀ H6,ai H5 H6->lK (kP (fB 11) (fO 7)) (kP (fB 13) (fO 8)) D [!V.ref AA.a,!V.str z,!V.str (Tx.S t),!V.bl fin,!V.ref av,!V.int (S.here:Int),!V.ref tk,!V.aw,!tv,!V.int ((S.step:Int)+1),!V.int (S.read:Int),!V.str p,!V.ref pc,!V.int (cn:Int)] H6:=fun H6 s6=>by
       right;show hnx _ _ #[n',hn',S1,vs,S.here,.str p,.int (cn:Int),tk,_,_,_,lG.trans s6,ftk',nat,by rw[e2,e7];rfl,by rw[e3];show s6 _ _ b5,s6 _ _ t5,by rw[e5,e6];dsimp only;rw[oE];show wV.same s6,qi,Hk,hrun',tc,by rw[e4];show bW,.inr #[dJ,p,tt,F9,rfl,h8,by rw[e4],j7,cD]]
      by_cases aO:tc.kd=("file":Str)
      ·show bI (sw aO) ((wl trivial).mpr (OT _ (ai.refl _)))
      let⟨hle,GX⟩:l=[]/\fin=false:=hf.resolve_left aO;let⟨hts0,hch0⟩:=(NZ (jz hw.cn)).mp hle;show bh (kt aO) ?_;have xj:vs=[]:=IR.mp (by rw[wV.len,<- oE,hts0];rfl);show bI (by rw[GX];rfl) #[fits (),fun d1 fK=>#[vs,[],aC.of (ai.upd fK _ _ t5),aC.of ay,.inl #[rfl,bI (by rw[xj];rfl) #[fits (),fun d2 hd2=>#[nV ch,bK.of (ai.upd hd2 _ _ (ai.upd fK _ _ GO)),bK.of ay,bI (by rw[hch0];rfl) (OT _ ((ai.upd fK).trans (ai.upd hd2)))]]]]]
     | @lead cn tc _ bW gB iw oC =>
      have dJ:tc.kd≠("folder":Str):=ade (.inr gB);show bh (kt (by nofun)) (hN _ _ (Ob fun U hU=>?_));let⟨ac,du⟩:=adr i5.len bW;left;show(mI gg mV #[AA,L,M,cn,ac,tc,i5,rfl,rfl,du,bW,?_]);dsimp only[mH];show bh (kt dJ) (hU _ _ (Ob fun U2 hU2=>?_));have rest:∀ H6,ai H5 H6->U2 D [!V.ref AA.a,!V.str z,!V.str (Tx.S t),!V.bl fin,!V.ref av,!V.int (S.here:Int),!V.ref tk,!V.aw,!tv,!V.int ((S.step:Int)+1),!V.int (S.read:Int),!V.str p,!V.ref pc,!V.int (cn:Int)] H6:=fun H6 s6=>hU2 _ _ (by
       have b6:=s6 _ _ b5;have t6:=s6 _ _ t5;have Ga:=s6 _ _ GO;have hto8:=wV.same s6;have wJ:=lG.trans s6;have i6:=i.same wJ;let⟨fs6,c6,Az,hfl6,Ao⟩:=i6.h;left;show#[nV ch,.inr (bK.of Ga),rfl,by simp[cN],?_];rw[my];cases oC with
       | ring hk =>
        replace hk:cn∈ch:=hk
        rw[AN hk];rcases cg with ⟨_,_,e,_⟩ | ⟨y,e,rfl,rfl⟩
        ·cases e
        cases e;show bS #[ch,cn,rfl,Ga,hk,ut O8 ⋯,fun rl H7 s7 fA=>?_];show pO () (s7 _ _ b6) fun p d H' s' hp hd ha=>hrt _ _ (q p d av H' ((wJ.trans s7).trans s') hp ?_ (by rw[f1 _ rfl];show ha));rw[f1 _ rfl];show#[rl,hd,s' _ _ fA]
       | many hk qE =>
        rw[zK (show cn ∉ ch from hk)];rcases cg with ⟨_,_,e,_⟩ | ⟨y,e,rfl,rfl⟩
        ·cases e
        cases e;have h40':S.read=40:=qE;show bf (bI (sw (by rw[h40'];rfl)) ?_);show pO () b6 fun p d H' s' hp hd ha=>hrt _ _ (q p d av H' (wJ.trans s') hp ?_ (by rw[f1 _ rfl];show ha));rw[f1 _ rfl];show hd
       | read hk qE hR =>
        rw[zK (show cn ∉ ch from hk)];have h40':S.read≠40:=qE;have qi:=aE hS;let⟨n',hn',_,hrun'⟩:∃ n',n' < m/\True/\fi ⟨L,M,z,fin,r1⟩ n' S1 S' o:=by
         rcases cg with ⟨n',h1,_,h⟩ | ⟨y,e,_⟩
         ·show#[n',h1,trivial,h]
         ·cases e
        show bf (bh (kt fun e=>h40' (KM e)) ?_);cases hR with
        | @mk a2 tc2 tl ar tr b2' r2' hac2 htc2 iu l1 l2 iF hlen xo eU oK =>
        rw[bW]at htc2;cases htc2;let⟨tl',e5,qp,P9⟩:=(g.th _ tc bW).ld gB;obtain rfl:tl=tl':=Tx.sQ (iu.symm.trans e5);right;right;show(mI Az Ao #[AA,L,M,cn,ac,tc,i6,rfl,rfl,du,bW,?_]);dsimp only[yO];rw[iu];show#[AA,L,M,tl,S.here,r1,rfl,qp,i6,rfl,rfl,qj,g,hn,ga.tr,b2',r2',oK,fun H7 s7=>?_];have i7:=i6.same s7;let⟨PF,c7,xi,O1,sf7⟩:=i7.h;left;show#[[V.ref pc,V.int (cn:Int)],#[rfl,fun i j v h1 h2=>?_],?_]
        ·match i,h1,h2 with
         | 0,h1,h2=>cases h1;cases h2;rfl
         | 1,h1,h2=>cases h1;cases h2;rfl
        show(mI xi sf7 #[AA,L,M,cn,ac,tc,i7,rfl,rfl,du,bW,?_]);dsimp only[yO];rw[iu];show#[tl,rfl,qp,∅,fun lp H8 s8 dq=>?_];rw[yp]at dq;show#[#[_,aC.of dq],Ue (k:=cn) (ch:=ch) (aC.of dq) (by have:=hlen;unfold dj at this;show ut this ⋯) ((s7.trans s8) _ _ Ga) (ut O8 ⋯) fun tk2 O2 H9 s9 ftk2 htk2 PZ=>?_];have Ac:=(s7.trans s8).trans s9;have t9:=Ac _ _ t6;simp only[htk2,t9];have hl9:=PZ.len;show#[vP (by rw[hl9,lv];unfold dj at hlen;omega),fun p9 hp9=>?_];have Hr:=Ac.trans (ai.upd (o:=.lst (O2++vs)) hp9);show hnx _ _ #[n',hn',_,O2++vs,(if cO tl=true then aZ b2' r2' else S.here:Nat),.aw,tv,p9,_,_,_,wJ.trans Hr,o8 (wJ.trans Ac) hp9,bD (Ac _ _ b6) hp9,by rfl,by show Hr _ _ b6,ay,?_,qi,Hk,hrun',?_]
        ·change Toks _ _ (eC (((l++[Sum.inl cn])++cJ (dj tl)).reverse) (ch++[cn]));rw[Wg,oE];show Toks.app ((hto8.same Hr)) (PZ.same (ai.upd hp9))
        ·let⟨tr2,xB,i9⟩:=ga.tr;change J3 L M r1 (iq _ _ _ (if cO tl=true then aZ b2' r2' else S.here)) _ _ _;by_cases hrt:cO tl=true
         ·rw[wl hrt];let⟨_,tq,htq,hkq⟩:=g.jq oK xB i9;show#[tq,htq,.inl #[hkq,rfl,rfl,g.yB i6.len oK xB i9]]
         ·rw[wf hrt];show#[tt,j7,.inl #[cD,rfl,rfl,Hx]])
      have hff:tc.kd≠("file":Str):=abP gB;left;show(mI gg mV #[AA,L,M,cn,ac,tc,i5,rfl,rfl,du,bW,?_]);dsimp only[mH];show bh (kt hff) ?_;cases tj:fin with
      | true =>
       rw[tj]at rest;show bf (bf (rest _ (ai.refl _)))
      | false =>
       rw[tj]at rest;show bS #[fits (),fun d1 fK=>#[vs,[],aC.of (ai.upd fK _ _ t5),aC.of ay,.inl #[rfl,?_]]];by_cases xj:vs=[]
       ·show bI (by rw[xj];rfl) #[fits (),fun d2 hd2=>#[nV ch,bK.of (ai.upd hd2 _ _ (ai.upd fK _ _ GO)),bK.of ay,bh ?_ (rest _ ((ai.upd fK).trans (ai.upd hd2)))]];cases jc:ch with
        | cons _ _=>rfl
        | nil =>
         have jF:l=[]:=(NZ (jz hw.cn)).mpr #[by rw[oE];show IR.mp (by rw[<- wV.len,xj];rfl),jc];show absurd #[jF,tj] iw
       ·show bh (by cases hv:vs with | nil=>show absurd hv xj | cons _ _=>rfl) (bf (rest _ (ai.upd fK)))
   ·show bI (GE not (kt (by nofun))) ?_;let⟨rfl,e2,e3⟩:=aac aR j7 cD;rcases cg with ⟨_,_,e,_⟩ | ⟨y,e,rfl,rfl⟩
    ·cases e
    cases e;show pO () b3 fun p d H' s' hp hd ha=>hrt _ _ (q p d av H' (lE.trans s') hp ?_ (by rw[f1 _ rfl,e3];show ha));rw[f1 _ rfl,e2];show hd
def CL(l:List Nat):(nV l).all cN=true:=by
 rw[FS];intro x hx;let⟨n,_,rfl⟩:=wS.mp hx;rfl
def  W4(N:Cn):Sp:=uR fun fd d H Q _=>X1 fun e=>A3 (lP N H fd e) (Due H d e) (∀ H',ai H H'->Q (.bl true) H')
def  Ks(w0:Str):List V:=[("found":Str),("failed":Str),("ring":Str)].map fun y=>V.bl (decide (w0=y))
def EC{w0:Str}{r:List V}{fd d p:ϋ}{H:Hp}{xs:List V}{C Q:Hp->Prop}(hd:H d=!.tup (.str w0::r))(hp:H p=!.lst xs)(hx:xs=Ks w0)(q:∀ H',ai H H'->Q H') :
  lV [("_law_word_here":Str)].length [1] (zN K (yg (gn (tC (V.str "found")) (gn (tC (V.str "failed")) (gn (tC (V.str "ring")) gW))))) (fO 0) iL (jy (qY false) (jy (pW K) (fB 1) (tC (V.int 0))) (fB 0))
   [!V.ref fd,!V.ref d,!V.ref p] H (fun y H2=>ig K true (-p) y H2 (fun v H3=>match v with | .bl b=>if b=true then C H3 else Q H3 | _=>False)):=by
 rw[Bn];show#[[V.ref d],#[rfl,fun i j v h1 h2=>?_],?_]
 ·match i,h1,h2 with
  | 0,h1,h2=>cases h1;cases h2;rfl
 left;show#[fits (),fun l hl=>?_];show dh hl fun H1 s1 b1=>?_;have fK:=s1 _ _ hd;show#[#[_,aC.of b1],VD (fun x=>match x with | .str y=>V.bl (decide (w0=y)) | _=>.aw) (aC.of b1) () (fun x hx R hR=>?_) (fun l2 cA=>?_)]
 ·simp only[li,lm,wP]at hx;simp only[FB,_W];left
  rwa [fK,eO]
  rcases hx with rfl | rfl | rfl <;> show hR
 ·have s2:=s1.trans (ai.upd (o:=.lst ([V.str "found",V.str "failed",V.str "ring"].map fun x=>match x with | .str y=>V.bl (decide (w0=y)) | _=>.aw)) cA);subst hx;show ig.same (K:=K) (neg:=true) (Q:=fun v H3=>match v with | .bl b=>if b=true then C H3 else Q H3 | _=>False) (xs:=Ks w0) (.inl #[aC.of (s2 _ _ hp),aC.of ay]) rfl ?_;show bh rfl (q _ s2)
def NP:T.mm.k P w base 1 (W4 T.cn):=by
 show T.mm.F.ok JO (fun _ _ _ _ h=>nT h fun _ _ _=>rfl) fun ax A _ s H vs Q E hr h=>nT h fun fd d h=>?_;let⟨e,bx,hd,q⟩:=h;show bF (b:=aU DA) ((al (aM 2 JO.nd (cr (aa (cT (ue (K:=K) rfl) T.gO gS (aa (ad 0) (aa (dl (-T.eE) T.BC rfl) ae))) (aa (cT (ue (K:=K) rfl) T.gO gS (aa (ad 0) (aa (dl (-T.eR) T.MJ rfl) ae))) (aa (cT (ue (K:=K) rfl) T.gO gS (aa (ad 0) (aa (dl (-T.eW) T.Mz rfl) ae))) ae)))))
 (al (aV (ff (ge (dF (cU (cT (ue (K:=K) rfl) T.gO gS (aa (ad 0) (aa (dl (-T.xb) T.Xz rfl) ae))))) (jY (aX (MP (K:=K) rfl hr.g7) (ad 2) (DS rfl (TN:=["_law_word_here"]) (caps:=["_law_due"]) (ix:=[1]) (iH (K:=K) rfl (cr (aa am (aa am (aa am ae))))) (fun _ _ _ _=>by show u0) (fun _ _ _ _=>by show(eN 0 (show List.Nodup (["_law_word_here","_law_due"]:List Str) by decide))) (fun _ _ _ _=>by show(f8 (cF) (ce (bG (K:=K) rfl) (ad 1) ap) (ad 0))) (.of rfl (by show#[rfl,trivial]) (by walk_at "c") rfl (by show#[#[rfl,rfl,rfl,rfl],trivial]))))))) (aj (aL em)) bv)
 (al (aV (aX cF (ce (bG (K:=K) rfl) (ad 1) ap) am) (aj (aL (f8 (yM (K:=K) rfl hr.g7) (dL (aa (bi T.kf T.Bj (ad 0)) (aa (bi T.kf T.MZ (ad 0)) ae))) (im (J4 (K:=K) rfl) (ad 1) (jh ap) kW)))) bv)
 (al (aV (aX cF (ce (bG (K:=K) rfl) (ad 1) ap) am) (aj (aL (f8 (yM (K:=K) rfl hr.g7) (dL (aa (bi T.mC T.Mc (ad 0)) (aa (bi T.mC T.Ir (ad 0)) ae))) (im (J4 (K:=K) rfl) (ad 1) (jh ap) kW)))) bv)
 (aj (aL (yR (cT kY T.gO gS (aa (bi T.og T.Ex (ad 0)) (aa (kC (.ty "list") T.pA zF rfl) ae))) (Dv.one (f8 (yM (K:=K) rfl hr.g7) (bi T.og T.Ex (ad 0)) (ce (bG (K:=K) rfl) (ad 1) ap))))))))))) ?_
 exists 1;right;cases e with
 | found k ns =>
  let⟨bL,bx⟩:=bx
  replace hd:H d=!.tup [.str "found",.int (k:Int),.str (iR ns)]:=hd
  show#[_,_,_,.of (.ins bx T.kf T.q1 T.q2 T.q3 T.q4),.cls T.q5,_,_,_,.of (.ins bx T.kf T.q1 T.q2 T.q3 T.q4),.cls T.q9,_,_,_,.of (.ins bx T.kf T.q1 T.q2 T.q3 T.q4),.cls T.nh,fits (),fun p hp=>ao ?_];show dh hp fun H1 s1 b1=>?_;have oA:=s1 _ _ bx;have fK:=s1 _ _ hd;left;show#[_,_,_,.of (.ins oA T.kf T.q1 T.q2 T.q3 T.q4),.cls T.YC,bf ?_];show EC (w0 := "found") (r:=[V.int (k:Int),V.str (iR ns)]) fK b1 rfl fun H2 s2=>ao ?_;left;have hd2:=s2 _ _ fK;have oT:=s2 _ _ oA
  rwa [hd2,eO]
  show bI (sw (by trivial)) ?_;show#[fd,_,_,_,rfl,oT,rfl,fd,_,_,_,rfl,oT,rfl,?_];show#[fits (),fun p2 cL=>?_];have s3:=s2.trans (ai.upd (o:=.tup [V.int (k:Int),V.str (iR ns)]) cL);have c3:upd H2 p2 (.tup [V.int (k:Int),V.str (iR ns)]) p2=!.tup [V.int (k:Int),V.str (iR ns)]:=ay;have qy:=(ai.upd (o:=.tup [V.int (k:Int),V.str (iR ns)]) cL) _ _ hd2;generalize upd H2 p2 (.tup [V.int (k:Int),V.str (iR ns)])=H3 at s3 c3 qy ⊢;show#[d,_,rfl,bK.of qy,fun z=>(by have:=z.1;simp[HT.bC]at this),fun p4 jE=>?_];have s4:=ai.upd (o:=.tup [V.int (k:Int),V.str (iR ns)]) jE;show ig.same (K:=K) (neg:=false) (xs:=[V.int (k:Int),V.str (iR ns)]) (.inr #[bK.of (s4 _ _ c3),bK.of ay]) rfl (q _ ((s1.trans s3).trans s4))
 | failed k y =>
  let⟨bL,bx⟩:=bx
  replace hd:H d=!.tup [.str "failed",.int (k:Int),.str y]:=hd
  show#[_,_,_,.of (.ins bx T.mC T.q6 T.q2 T.q3 T.q7),.cls T.q8,_,_,_,.of (.ins bx T.mC T.q6 T.q2 T.q3 T.q7),.cls T.q12,_,_,_,.of (.ins bx T.mC T.q6 T.q2 T.q3 T.q7),.cls T.Ru,fits (),fun p hp=>ao ?_];show dh hp fun H1 s1 b1=>?_;have oA:=s1 _ _ bx;have fK:=s1 _ _ hd;left;show#[_,_,_,.of (.ins oA T.mC T.q6 T.q2 T.q3 T.q7),.cls T.YX,bf ?_];show EC (w0 := "failed") (r:=[V.int (k:Int),V.str y]) fK b1 rfl fun H2 s2=>ao ?_;left;have hd2:=s2 _ _ fK;have oT:=s2 _ _ oA
  rwa [hd2,eO]
  show bh (kt (by symm)) (ao ?_);left
  rwa [hd2,eO]
  show bI (sw (by trivial)) ?_;show#[fd,_,_,_,rfl,oT,rfl,fd,_,_,_,rfl,oT,rfl,?_];show#[fits (),fun p2 cL=>?_];have s3:=s2.trans (ai.upd (o:=.tup [V.int (k:Int),V.str y]) cL);have c3:upd H2 p2 (.tup [V.int (k:Int),V.str y]) p2=!.tup [V.int (k:Int),V.str y]:=ay;have qy:=(ai.upd (o:=.tup [V.int (k:Int),V.str y]) cL) _ _ hd2;generalize upd H2 p2 (.tup [V.int (k:Int),V.str y])=H3 at s3 c3 qy ⊢;show#[d,_,rfl,bK.of qy,fun z=>(by have:=z.1;simp[HT.bC]at this),fun p4 jE=>?_];have s4:=ai.upd (o:=.tup [V.int (k:Int),V.str y]) jE;show ig.same (K:=K) (neg:=false) (xs:=[V.int (k:Int),V.str y]) (.inr #[bK.of (s4 _ _ c3),bK.of ay]) rfl (q _ ((s1.trans s3).trans s4))
 | ring ns =>
  let⟨bL,rl,bx,fA⟩:=bx;let⟨rl2,hd,hrl2⟩:=hd;show#[_,_,_,.of (.ins bx T.og T.v9 T.q2 T.q3 T.vi),.cls T.KP,_,_,_,.of (.ins bx T.og T.v9 T.q2 T.q3 T.vi),.cls T.q18,_,_,_,.of (.ins bx T.og T.v9 T.q2 T.q3 T.vi),.cls T.ZK,fits (),fun p hp=>ao ?_];show dh hp fun H1 s1 b1=>?_;have oA:=s1 _ _ bx;have fK:=s1 _ _ hd;left;show#[_,_,_,.of (.ins oA T.og T.v9 T.q2 T.q3 T.vi),.cls T.ZW,bf ?_];show EC (w0 := "ring") (r:=[V.ref rl2]) fK b1 rfl fun H2 s2=>ao ?_;left;have hd2:=s2 _ _ fK;have oT:=s2 _ _ oA
  rwa [hd2,eO]
  show bh (kt (by symm)) (ao ?_);left
  rwa [hd2,eO]
  show bh (kt (by symm)) ?_;left;have xt:=(s1.trans s2) _ _ fA;show#[fd,bL,_,-rl,rfl,oT,rfl,⋯,?_];rw[show clsName H2 (-rl)=some "list" from by simp[clsName,xt]];show bI ⋯ #[fd,bL,_,-rl,rfl,oT,rfl,?_];rw[uO];show ig.same (K:=K) (neg:=false) (Q:=Q) (.inl #[aC.of xt,aC.of ((s1.trans s2) _ _ hrl2)]) (CL _) (q _ (s1.trans s2))
def  Sq(N:Cn):Sp:=rR fun x z pt fin H Q _=>X4 fun A L M t=>A9 (pt=Tx.S t) (aF N.CH N.CS N.CT H A L M) (A.a=x) (z∈AS) (Gd M) (M.ts.length<=40) (fb t) (t.length<=300) (∀ H',ai H H'->Q (.bl true) H')
structure vy(a:ϋ)(z pt:Str)(fin:Bool)(d av:ϋ)(wh:Int)(H1:Hp)(σ:L2.St)(H':Hp):Prop where
 e:σ=[!V.ref a,!V.str z,!V.str pt,!V.bl fin,!V.ref d,!V.ref av,!V.int wh]
 s:ai H1 H'
def ZE:T.qS.k P w base 49 (Sq T.cn):=by
 show T.qS.F.ok yk (fun _ _ _ _ h=>kh h fun _ _ _ _ _=>rfl) fun ax A _ s H vs Q E hr h=>kh h fun x z pt fin h=>?_;let⟨AA,L,M,t,rfl,i,rfl,hz,g,hn,hp,hl,q⟩:=h;have lC:M.ts.length<=90:=ut hn ⋯;let⟨root,e,_,pw,_⟩:=xO (L:=L) g i.len lC hz fin hp;show bF (b:=aU De) ((al (vD (Ys<$>T.qQ (aa (ad 0) (aa (ad 1) (aa (ad 2) (aa (ad 3) ae))))) (xT (K:=K) (n:=2) rfl rfl (nW (eN 4 yk.nd) (nW (eN 5 yk.nd) yH))))
 (al (aM 6 yk.nd (db oj (db ej (cT (l8 (K:=K) rfl) T.ki Tk (aa (ad 2) ae)) (nJ yQ T.vo uK (aa (ad 3) ae))) ap))
 (al (aV (ff (gl (aX wb (ad 6) ap) (kE (aX (MP (K:=K) rfl hr.g7) (bn (Le T) hr.m T.LQ T.vH.kp T.zC .nil aq (aa (ad 0) (aa (ad 1) (aa (ad 2) (aa (ad 3) ae))))) (ad 5))))) (aj (aL em)) bv)
 (al (aV (aX cF (ad 6) ap) (aj (aN (bn (wc T) hr.m T.ve T.mO.kp T.uX (.cons (show RelV (.bl true) _ from rfl) .nil) aq (aa (ad 0) (aa am (aa am ae)))))) bv)
 (al (aV (dF (cU (NP<$>T.mm (aa (Uw (wc T) hr.m T.ve T.mO.kp (Up T.mO rfl (fun _ _ _ _ _ _ _ _ _ _ _=>#[_,rfl,rfl])) aq (aa (ad 0) (aa (ad 1) (aa (ad 2) ae))) (ad 3)) (aa (ad 4) ae))))) (aj (aL em)) bv)
 (al (aV (ff (gl (cU (ad 3)) (kE (dF (cU (NP<$>T.mm (aa (bn (wc T) hr.m T.ve T.mO.kp T.uX (.cons (show RelV (.bl true) _ from rfl) .nil) aq (aa (ad 0) (aa (ad 1) (aa (ad 2) ae)))) (aa (ad 4) ae)))))))) (aj (aL em)) bv)
 (al (aN (bn (wc T) hr.m T.ve T.mO.kp T.EN .nil aq (aa (ad 0) (aa am (aa am (aa em ae))))))
 (aj (aL (f8 (yM (K:=K) rfl hr.g7) (bn (Le T) hr.m T.LQ T.vH.kp T.zC .nil aq (aa (ad 0) (aa (ad 1) (aa (ad 2) (aa (ad 3) ae))))) (ad 5)))))))))))) ?_
 exists 3;right;show#[AA,L,M,root,t,e,rfl,i,rfl,hz,g,hn,∅,pw,fun p d av H1 s1 oy hd gD=>?_];show#[p,_,rfl,bK.of oy,rfl,_,_,rfl,_,_,rfl,rfl,ao ?_];have i1:=i.same s1;left;show#[by rw[Tx.cE];show fits ∅,⋯,?_];generalize (((Tx.S t).length:Int)+if fin=true then 1 else 0) % 3=wh;show gx (vy AA.a z (Tx.S t) fin d av wh H1) ?_ ?_
 ·left;show nk (fun _=>?_) (fun _=>bf #[rfl,fun _ _ e=>e]);show#[AA,L,M,root,t,e,rfl,i1,rfl,pw,fun av2 H2 s2 hav2=>?_];show ig.same (K:=K) (neg:=true) (Q:=fun v H3=>match v with | .bl b=>if b=true then Q (.bl false) H3 else vy AA.a z (Tx.S t) fin d av wh H1 _ H3 | _=>False) (.inl #[aC.of hav2,aC.of (s2 _ _ gD)]) (CL _) (bh rfl #[rfl,s2])
 rintro σ' H2 ⟨rfl,s2⟩;have AB:("ann":Str)∈AS:=by symm
 show gx (vy AA.a z (Tx.S t) fin d av wh H1) ?_ ?_
 ·left;let⟨rt2,e2,_,pw2,_⟩:=xO (L:=L) g i1.len lC AB true (t:=[47,97,47,46,46]) #[⋯,⋯,by symm];show nk (fun _=>#[AA,L,M,rt2,_,e2,by symm,i1.same s2,rfl,pw2,fun fd H3 s3 _=>#[rfl,s2.trans s3]]) (fun _=>#[rfl,s2])
 clear s2 H2;rintro σ' H2 ⟨rfl,s2⟩;show gx (vy AA.a z (Tx.S t) fin d av wh H1) ?_ ?_
 ·left;show#[AA,L,M,root,t,e,rfl,i1.same s2,rfl,pw,fun fd H3 s3 bx=>#[e.res,bx,hd.same (s2.trans s3),fun H4 s4=>bh rfl #[rfl,(s2.trans s3).trans s4]]]
 clear s2 H2;rintro σ' H2 ⟨rfl,s2⟩;show gx (vy AA.a z (Tx.S t) fin d av wh H1) ?_ ?_
 ·left;cases fin with
  | false=>show bh rfl (bf #[rfl,s2])
  | true =>
   show bI rfl ?_;show#[AA,L,M,root,t,e,rfl,i1.same s2,rfl,pw,fun fd H3 s3 bx=>#[e.res,bx,hd.same (s2.trans s3),fun H4 s4=>bh rfl #[rfl,(s2.trans s3).trans s4]]]
 clear s2 H2;rintro σ' H2 ⟨rfl,s2⟩;right;let⟨rt3,e3,_,pw3,_⟩:=xO (L:=L) g i1.len lC AB false (t:=[98,47,46,46,47,97]) #[⋯,⋯,by symm];show#[AA,L,M,rt3,_,e3,by symm,i1.same s2,rfl,pw3,fun fd H3 s3 _=>?_];left;show#[AA,L,M,root,t,e,rfl,i1.same (s2.trans s3),rfl,pw,fun av2 H4 s4 hav2=>?_];show ig.same (K:=K) (neg:=false) (Q:=Q) (.inl #[aC.of hav2,aC.of (((s2.trans s3).trans s4) _ _ gD)]) (CL _) (q _ (s1.trans ((s2.trans s3).trans s4)))
def  Dk(xs:List V):Prop:=∀ v∈xs,∀ a,v≠V.ref a
def AK(zs:List Int):Dk (zs.map V.int):=fun v hv a=>by let⟨z,_,rfl⟩:=wS.mp hv;nofun
def aaj(zs:List Str):Dk (zs.map V.str):=fun v hv a=>by let⟨z,_,rfl⟩:=wS.mp hv;nofun
def  y4:HO->Prop
 | .lst xs=>Dk xs
 | .df _ _=>True
 | _=>False
def  eZ(st:ϋ)(H H':Hp):Prop:=∀ c o,c≠st->y4 o->H c=!o->H' c=!o
def  ed(H H':Hp):Prop:=∀ c o,y4 o->H c=!o->H' c=!o
def ed.l{st:ϋ}{H H':Hp}(k:ed H H'):eZ st H H':=fun c o _ h e=>k c o h e
def eZ.trans{st:ϋ}{H H1 H2:Hp}(a:eZ st H H1)(b:eZ st H1 H2):eZ st H H2:=fun c o n h e=>b c o n h (a c o n h e)
def ed.trans{H H1 H2:Hp}(a:ed H H1)(b:ed H1 H2):ed H H2:=fun c o h e=>b c o h (a c o h e)
def ed.of{H H':Hp}(s:ai H H'):ed H H':=fun c o _ e=>s _ _ e
def eZ.of{st:ϋ}{H H':Hp}(k:dm st H H'):eZ st H H':=fun c o n _ e=>k _ _ n e
def Dr.kp{st:ϋ}{H H':Hp}(d:Dr st H)(k:ed H H'):Dr st H':=let ⟨zs,e,l⟩:=d;#[zs,k _ _ (AK zs) e,l]
section
variable {CH CS CT:ϋ}{H H':Hp}{A:Ad}{L:List Ta}{M:Hs}
def aF.Mh(i:aF CH CS CT H A L M)(h0:M.ts≠[]){b:ϋ}{o:HO}(hb:b∈A.w++L.flatMap Ta.l)(hx:y4 o)(e:H b=Option.some o):False:=by
 rcases No.mp hb with h | h
 ·simp only[Ad.w,li,lm,wP]at h;rcases h with rfl | rfl | rfl | rfl | rfl | rfl | rfl | rfl
  ·let⟨_,_,e',_⟩:=i.h;rw[e']at e;cases e;show hx
  ·let⟨_,_,e',_⟩:=i.t;rw[e']at e;cases e;show hx
  ·rw[i.ml]at e;cases e;cases L with
   | nil=>show h0 (IR.mp i.len.symm)
   | cons a r=>show hx (-a.th) () a.th rfl
  ·rw[i.ro]at e;cases e;show hx
  ·rw[i.st]at e;cases e;show hx
  ·rw[i.tr]at e;cases e;show hx
  ·rw[i.ov]at e;cases e;show hx
  ·rw[i.un]at e;cases e;show hx
 ·let⟨a,ha,h⟩:=List.mem_flatMap.mp h;let⟨j,ha⟩:=_j ha;have b8:j < M.ts.length:=by rw[<- i.len];show(sB.mp ha).1
  let⟨a',e1,t⟩:=i.th j _ (ul b8);rw[ha]at e1;cases e1;simp only[Ta.l,li,lm,wP]at h;rcases h with rfl | rfl | rfl
  ·let⟨_,e',_⟩:=t.o;rw[e']at e;cases e;show hx
  ·rw[t.nm]at e;cases e;show hx
  ·rw[t.pl]at e;cases e;show hx
def aF.off(i:aF CH CS CT H A L M)(h0:M.ts≠[]){W:List ϋ}(hW:∀ b∈W,b∈A.w++L.flatMap Ta.l)(k:Kp W H H'):ed H H':=fun c o ho e=>k c _ (fun hc=>i.Mh h0 (hW c hc) ho e) e
def aF.drawn{st:ϋ}(i:aF CH CS CT H A L M)(h0:M.ts≠[])(d:Dr st H)(k:dm st H H'):aF CH CS CT H' A L M:=by
 show i.keep (W:=[st]) (fun b o hb e=>k b o (by simpa using hb) e) fun b hb hm=>?_;obtain rfl:b=st:=by simpa using hm
 let⟨zs,e,_⟩:=d;show i.Mh h0 hb (show y4 (.lst (zs.map V.int)) from AK zs) e
end
def  Hz(CH CS CT:ϋ)(A:Ad)(n:Nat)(H:Hp):Prop:=∃ L M,aF CH CS CT H A L M/\Gd M/\M.ts.length<=n/\M.ov.length<=n/\M.un.length<=n
def Gd.ne{M:Hs}(g:Gd M):M.ts≠[]:=fun e=>by let⟨t,h,_⟩:=g.t0;rw[e]at h;cases h
def  E8:List Str:=["folder","file","lead","tree","hang","take","stand","root"]
def  adx(N:Cn)(CR:ϋ):Sp:=B5 fun x z kd pt st H Q E=>X3 fun A t n=>rB (pt=Tx.S t) (Hz N.CH N.CS N.CT A n H) (A.a=x) (z∈AS) (n<=35) (xZ t) (Dr st H) (kd∈E8) (∀ v H',Hz N.CH N.CS N.CT A (n+1) H'->Dr st H'->eZ st H H'->Q v H') (∀ C od H',(C=N.CN\/C=N.CD)\/C=CR->Hz N.CH N.CS N.CT A (n+1) H'->Dr st H'->eZ st H H'->E (-C) od H')
def Hz.of{CH CS CT:ϋ}{A:Ad}{n:Nat}{H:Hp}{L:List Ta}{M:Hs}(i:aF CH CS CT H A L M)(g:Gd M)(h1:M.ts.length<=n+1)(h2:M.ov.length<=n+1)(h3:M.un.length<=n+1):Hz CH CS CT A (n+1) H:=#[L,M,i,g,h1,h2,h3]
def NS(l:List (Nat×Nat))(k:Nat):(eK l k).length<=l.length:=TD _ _
def cM.mk{N:Cn}{H:Hp}{E:XK}(h:∀ C d H',C=N.CN\/C=N.CD->ai H H'->E (-C) (!d) H'):∀ r:Rf,cM N H E r
 | .dz y=>fun d H' s _=>h _ d H' (.inr rfl) s
 | .way r=>fun fd d H' s _ _=>h _ d H' (.inl rfl) s
def Ew{N:Cn}{H H1:Hp}{A:Ad}{L:List Ta}{M:Hs}{n:Nat}{z kd mi re tx:Str}{t:List Nat}{st:ϋ}{Q:VK}{E:XK}(i:aF N.CH N.CS N.CT H1 A L M)(g:Gd M)(hn:M.ts.length<=n)(eS:M.ov.length<=n)(cZ:M.un.length<=n)(tG:n<=35)(hz:z∈AS)(hp:xZ t)(d:Dr st H1)(kl:eZ st H H1)(nM:mi∈jU)(iO:re∈jU)(cm:kd=("folder":Str)\/kd=("file":Str)\/kd=("lead":Str))(Ge:kd=("lead":Str)->∃ tl,tx=Tx.S tl/\fb tl/\tl.length<=120)(q1:∀ v H',Hz N.CH N.CS N.CT A (n+1) H'->Dr st H'->eZ st H H'->Q v H')(q2:∀ C od H',C=N.CN\/C=N.CD->Hz N.CH N.CS N.CT A (n+1) H'->Dr st H'->eZ st H H'->E (-C) od H') :
  yf N H1 A L M z t kd mi re tx Q E:=by
 have mZ:fb t:=#[hp.l1,by have:=hp.l2;omega,hp.all];have hw:=hp.n;let⟨root,r,hr,hf⟩:=aaC (L:=L) g i.len ∅ hz mZ ∅;let⟨r0,k0,ga⟩:=g.as z hz;show#[i,mZ,by rw[ga.ro];rfl,nM,iO,by rw[i.len];omega,fun f t0 h=>by have:=(g.th f t0 h).nl;omega,root,r,hr,fun x e=>cM.mk (fun C dd H' hC s=>q2 C (!dd) H' hC (.of (i.same s) g (Os hn) (Os eS) (Os cZ)) (d.same s) (kl.trans (ed.of s).l)) x,fun f nm a0 t0 e jB ot a H' i' k'=>?_];let⟨tf,bE,cD,cj,hv⟩:=hf f nm e;rw[ot]at bE;cases bE;have kA:=i.off g.ne (W:=[A.t,A.ml,a0.nm]) (fun b hb=>by
  simp only[li,lm,wP]at hb;rcases hb with rfl | rfl | rfl
  ·simp[Ad.w]
  ·simp[Ad.w]
  ·show xL _ (kL jB (by simp[Ta.l]))) k'
 show q1 _ H' #[_,_,i',g.make ot cD (by rw[Tx.cE];show(zd cj).2.2.2) hv cm Ge,?_,Os eS,Os cZ] (d.kp kA) (kl.trans kA.l);simp;omega
def V6(m:Nat)(h:m < 100):(ώ (toString (m:Int))).length<=10:=by
 have:∀ m < 100,(ώ (toString ((m:Nat):Int))).length<=10:=by symm
 show this m h
def Y4(m:Nat)(h:m < 100):((m:Int)).natAbs.log2 < 1920:=by
 have:∀ m < 100,(((m:Nat):Int)).natAbs.log2 < 1920:=by symm
 show this m h
def VS(a b:Str):(a++b).length=a.length+b.length:=by
 rw[<- Tx.FN a,<- Tx.FN b,Tx.qU,Tx.cE,Tx.cE,Tx.cE,mo]
def Sb:aA P w K mg base (cB P w) 18 T.rN.f T.rN.d ["_law_house_here","_law_asker","_law_kind","_law_path_here","_law_state"] (adx T.cn T.mT):=by
 show T.rN.F.dG QY (fun _ _ _ _ h=>zG h fun _ _ _ _ _ _=>rfl) fun ax A _ s H vs Q E hr h=>zG h fun x z kd pt st h=>?_;let⟨AA,t,n,rfl,⟨L,M,i,g,hn,eS,cZ⟩,rfl,hz,tG,hp,d,cm,q1,q2⟩:=h;have n1:=Os hn;have n2:=Os eS;have n3:=Os cZ;show bF (b:=aU CP) ((aj (aV (aX cF (ad 2) am) (aj (aN (de (TU T) hr.m T.RW T.zt.kp T.DW .nil cv (aa (ad 0) (aa (ad 1) (aa (ad 3) (aa (yV<$>T.gP (aa (ad 4) ae)) (aa (yV<$>T.gP (aa (ad 4) ae)) ae)))))))) (aj (aV (aX cF (ad 2) am) (aj (aN (de (Ua T) hr.m T.RH T.yZ.kp T.Ci .nil cv (aa (ad 0) (aa (ad 1) (aa (ad 3) (aa (db ej am (nJ Zk T.nY nj (aa (gp<$>T.bO (aa (ad 4) (aa ap ae))) ae))) (aa (yV<$>T.gP (aa (ad 4) ae)) (aa (yV<$>T.gP (aa (ad 4) ae)) ae))))))))) (aj (aV (aX cF (ad 2) am) (aj (aN (Ye<*>T.sR (aa (ad 0) (aa (ad 1) (aa (ad 3) (aa (B3<$>T.jt (aa (ad 4) (aa ap ae))) ae))))))) (aj (aV (aX cF (ad 2) am) (aj (aN (Zt<*>T.rH (aa (ad 0) (aa (ad 1) (aa (ce (bG (K:=K) rfl) (cr (aa am (aa am (aa am ae)))) (gp<$>T.bO (aa (ad 4) (aa ap ae)))) ae)))))) (aj (aV (aX cF (ad 2) am) (aj (aN (aci<*>T.rG (aa (ad 0) (aa (ad 1) (aa (ce (bG (K:=K) rfl) (cr (aa am (aa am (aa am ae)))) (gp<$>T.bO (aa (ad 4) (aa ap ae)))) (aa (ad 3) ae))))))) (aj (aV (aX cF (ad 2) am) (aj (aN (Ro<*>T.ra (aa (ad 0) (aa (ad 1) (aa (ce (bG (K:=K) rfl) (cr (aa am (aa am (aa am ae)))) (gp<$>T.bO (aa (ad 4) (aa ap ae)))) ae)))))) (aj (aV (aX cF (ad 2) am) (aj (aN (Yh<*>T.sS (aa (ad 0) (aa (ad 1) (aa (ad 3) ae)))))) (aj (aN (Wj<*>T.qR (aa (ad 0) (aa (ad 1) (aa (ad 3) ae))))))))))))))))))))) ?_;exists 0;left;by_cases h1:kd=("folder":Str)
 ·show bI (sw h1) ?_;show#[d,fun mi H1 nM d1 k1=>#[d1,fun re H2 iO d2 k2=>?_]];have qC:=k1.trans k2;show#[AA,L,M,t,rfl,Ew (i.drawn g.ne d qC) g hn eS cZ tG hz hp d2 (eZ.of qC) nM iO (.inl rfl) (fun e=>absurd e (by symm)) (fun v H' a b c=>q1 _ H' a b c) (fun C od H' hC=>q2 C od H' (.inl hC)),rfl]
 ·show bh (kt h1) ?_;by_cases h2:kd=("file":Str)
  ·show bI (sw h2) ?_;show rX d ⋯ ⋯ fun dg H0 d0 d1 dr0 k0=>?_;let⟨m,rfl⟩:=Uf d0;have hm:m < 100:=∅
   have ht:=V6 m hm;have h5:(ώ "text ").length=5:=by symm
   show#[Y4 m hm,fits ∅,dr0,fun mi H1 nM d1 k1=>#[d1,fun re H2 iO d2 k2=>?_]];have qC:=(k0.trans k1).trans k2;show#[AA,L,M,t,rfl,Ew (i.drawn g.ne d qC) g hn eS cZ tG hz hp d2 (eZ.of qC) nM iO (.inr (.inl rfl)) (fun e=>absurd e (by symm)) (fun v H' a b c=>q1 _ H' a b c) (fun C od H' hC=>q2 C od H' (.inl hC)),rfl,by rw[VS];omega]
  ·show bh (kt h2) ?_;have mZ:fb t:=#[hp.l1,by have:=hp.l2;omega,hp.all];have hw:=hp.n;by_cases h3:kd=("lead":Str)
   ·show bI (sw h3) ?_;show#[d,⋯,⋯,fun tl H1 ly d1 k1=>?_];have hl80:=ly.l2;have qp:fb tl:=#[ly.l1,∅,ly.all];show#[AA,L,M,t,tl,rfl,rfl,Ew (i.drawn g.ne d k1) g hn eS cZ tG hz hp d1 (eZ.of k1) (by symm) (by symm) (.inr (.inr rfl)) (fun _=>#[tl,rfl,qp,∅]) (fun v H' a b c=>q1 _ H' a b c) (fun C od H' hC=>q2 C od H' (.inl hC)),rfl,qp,∅]
   ·show bh (kt h3) ?_;have lC:M.ts.length<=90:=∅
    have htr40:M.tr.length<=40:=by have:=g.ji;omega
    have oO:(ah (sD M.ro) (.inr z)).isSome=true:=by
     let⟨r0,k0,ga⟩:=g.as z hz;rw[ga.ro];rfl
    have wI:∀ b∈[AA.a,AA.ov,AA.un],b∈AA.w++L.flatMap Ta.l:=fun b hb=>by
     simp only[li,lm,wP]at hb;rcases hb with rfl | rfl | rfl <;> simp[Ad.w]
    have trees:∀ {v:V},v∈[V.str "ta",V.str "tb",V.str "tc"]->∃ y:Str,v=.str y/\fS (.str y)=true/\y.length<=1000:=fun {v} hv=>by
     simp only[li,lm,wP]at hv;rcases hv with rfl | rfl | rfl <;> show#[_,rfl,by symm,by symm]
    by_cases h5:kd=("tree":Str)
    ·show bI (sw h5) ?_;show jM d rfl () () fun v H1 hv d1 k1=>?_;let⟨y,rfl,Hq,F8⟩:=trees hv;have i1:=i.drawn g.ne d k1;have kl:=eZ.of k1;show#[AA,L,M,i1,rfl,oO,Hq,F8,by rw[i.len];omega,htr40,fun _=>cM.mk (fun C dd H' hC s=>q2 C (!dd) H' (.inl hC) (.of (i1.same s) g n1 n2 n3) (d1.same s) (kl.trans (ed.of s).l)) _,fun eF a' H' i' k'=>?_];have kA:=i1.off g.ne (W:=[AA.a,AA.t,AA.ml,AA.tr]) (fun b hb=>by
      simp only[li,lm,wP]at hb;rcases hb with rfl | rfl | rfl | rfl <;> simp[Ad.w]) k'
     show q1 _ H' (.of i' (g.tree eF) (by change(M.ts++[_]).length<=_;rw[mo];show _q hn) n2 n3) (d1.kp kA) (kl.trans kA.l)
    show bh (kt h5) ?_;by_cases h6:kd=("hang":Str)
    ·show bI (sw h6) ?_;show jM d rfl () () fun v H1 hv d1 k1=>?_;let⟨y,rfl,Hq,F8⟩:=trees hv;have i1:=i.drawn g.ne d k1;have kl:=eZ.of k1;have eF:∀ H',ai H1 H'->E (-T.mT) none H':=fun H' s=>q2 _ none H' (.inr rfl) (.of (i1.same s) g n1 n2 n3) (d1.same s) (kl.trans (ed.of s).l);by_cases hy:(ah (sD M.tr) (.inr y)).isSome=true
     ·let⟨root,r,hr,hg⟩:=YG (L:=L) g i.len lC hz mZ hy;show#[AA,L,M,root,t,rfl,i1,rfl,mZ,oO,∅,∅,∅,fun _=>eF,fun _=>#[r,hr,fun x e=>cM.mk (fun C dd H' hC s=>q2 C (!dd) H' (.inl hC) (.of (i1.same s) g n1 n2 n3) (d1.same s) (kl.trans (ed.of s).l)) x,fun f k e H' i' k'=>?_]];have kA:=i1.off g.ne wI k';show q1 _ H' (.of i' (hg f k e) n1 (by change(M.ov++[_]).length<=_;rw[mo];show _q eS) (by change(M.un++[_]).length<=_;rw[mo];show _q cZ)) (d1.kp kA) (kl.trans kA.l)
     ·show#[AA,L,M,0,t,rfl,i1,rfl,mZ,oO,∅,∅,∅,fun _=>eF,fun z=>absurd z hy]
    show bh (kt h6) ?_;by_cases h7:kd=("take":Str)
    ·show bI (sw h7) ?_;show jM d rfl () () fun v H1 hv d1 k1=>?_;let⟨y,rfl,Hq,F8⟩:=trees hv;have i1:=i.drawn g.ne d k1;have kl:=eZ.of k1;have OQ:∀ x:Rf,cM T.cn H1 E x:=cM.mk (fun C dd H' hC s=>q2 C (!dd) H' (.inl hC) (.of (i1.same s) g n1 n2 n3) (d1.same s) (kl.trans (ed.of s).l));show#[AA,L,M,i1,rfl,oO,fun _=>q2 _ none H1 (.inr rfl) (.of i1 g n1 n2 n3) d1 kl,fun r hr=>#[fun _=>OQ _,fun f hf=>?_]];let⟨_,tf,bE,cD⟩:=g.uq r f hf;show#[tf,bE,fun _=>OQ _,fun _=>#[(g.ou f r).mpr hf,fun H' i' k'=>?_]];have kA:=i1.off g.ne wI k';show q1 _ H' (.of i' (g.take hf) n1 (ut (NS _ _) n2) (ut (NS _ _) n3)) (d1.kp kA) (kl.trans kA.l)
    show bh (kt h7) ?_;let⟨root,r,_,hr,hf⟩:=Mm (L:=L) g i.len lC hz mZ;by_cases h4:kd=("stand":Str)
    ·show bI (sw h4) ?_;show#[AA,L,M,root,t,r,rfl,i,rfl,hr,by have:=g.sl;omega,fun x e=>cM.mk (fun C dd H' hC s=>q2 C (!dd) H' (.inl hC) (.of (i.same s) g n1 n2 n3) (d.same s) (ed.of s).l) x,fun k e H' i' k'=>?_];let⟨tf,bE,cD,mW⟩:=hf k e;have kA:=i.off g.ne (W:=[AA.a,AA.st]) (fun b hb=>by
      simp only[li,lm,wP]at hb;rcases hb with rfl | rfl <;> simp[Ad.w]) k'
     show q1 _ H' (.of i' (g.TH bE cD hz) n1 n2 n3) (d.kp kA) kA.l
    ·show bh (kt h4) ?_;show#[AA,L,M,root,t,r,rfl,i,rfl,hr,by have:=g.sl;omega,by have:=g.rl;omega,fun x e=>cM.mk (fun C dd H' hC s=>q2 C (!dd) H' (.inl hC) (.of (i.same s) g n1 n2 n3) (d.same s) (ed.of s).l) x,fun k e H' i' k'=>?_];let⟨tf,bE,cD,mW⟩:=hf k e;have kA:=i.off g.ne (W:=[AA.a,AA.ro,AA.st]) (fun b hb=>by
      simp only[li,lm,wP]at hb;rcases hb with rfl | rfl | rfl <;> simp[Ad.w]) k'
     show q1 _ H' (.of i' (g.root bE cD hz) n1 n2 n3) (d.kp kA) kA.l
def  aa3(CH CS CT:ϋ):Sp:=B5 fun x z kd pt st H Q _=>X3 fun A t n=>A9 (pt=Tx.S t) (Hz CH CS CT A n H) (A.a=x) (z∈AS) (n<=35) (xZ t) (Dr st H) (kd∈E8) (∀ b H',Hz CH CS CT A (n+1) H'->Dr st H'->eZ st H H'->Q (.bl b) H')
def ads:T.sH.k P w base 19 (aa3 T.aI T.aK T.aQ):=by
 show T.sH.F.ok aad (fun _ _ _ _ h=>zG h fun _ _ _ _ _ _=>rfl) fun ax A _ s H vs Q E hr h=>zG h fun x z kd pt st h=>?_;let⟨AA,t,n,rfl,hh,rfl,hz,tG,hp,d,cm,q⟩:=h;show bF (b:=aU E3) ((al (WT #[rfl,rfl,rfl] (fun _ _=>by show(aj (aN (de (Sb T) hr.m T.rN.m T.rN.F.kp T.rN.b .nil ZG (aa (ad 0) (aa (ad 1) (aa (ad 2) (aa (ad 3) (aa (ad 4) ae))))))))) (Tf (K:=K) rfl T.RQ T.abH T.ab6 (fun _=>by show(aj (aL em))) UH))
 (aj (aL em)))) ?_
 exists 0;show gx (fun σ' H'=>Hz T.aI T.aK T.aQ AA (n+1) H'/\Dr st H'/\eZ st H H') ?_ ?_
 ·show#[fun σ' v od H'=>(∃ C,v=ϊ.ref C/\((C=T.oP\/C=T.oJ)\/C=T.mT))/\Hz T.aI T.aK T.aQ AA (n+1) H'/\Dr st H'/\eZ st H H',?_,?_]
  ·left;show#[AA,t,n,rfl,hh,rfl,hz,tG,hp,d,cm,fun v H' a b c=>#[a,b,c],fun C dd H' hC a b c=>#[#[C,rfl,hC],a,b,c]]
  ·rintro σ' C od H' ⟨⟨C',e,hC⟩,a,b,c⟩;cases e;show#[true,?_,?_]
   ·rcases hC with (rfl | rfl) | rfl
    ·show T.Rp
    ·show T.To
    ·show T.Vq
   ·rw[wl rfl];left;show q false H' a b c
 ·rintro σ' H' ⟨a,b,c⟩;left;show q true H' a b c
def  M3(re:Str):Hs:={ ts:=[{ kd := "folder",ow := "ann",mi := "lgw",re:=re,tx := "",bb:=[],bV:=[] }],ro:=[("ann",0),("bo",0),("cy",0)],st:=[("ann",0),("bo",0),("cy",0)],tr:=[("main",0)],ov:=[],un:=[] }
def Jv{re:Str}:∀ z∈AS,ah (sD (M3 re).ro) (.inr z)=!.int ((0:Nat):Int):=by
 intro z hz;unfold AS at hz;simp only[li,lm,wP]at hz;change ah (sD [(("ann":Str),0),(("bo":Str),0),(("cy":Str),0)]) (.inr z)=_;rcases hz with rfl | rfl | rfl <;> symm
def NJ{re:Str}:∀ z∈AS,DC (M3 re) z 0 0:=fun z hz=>#[Jv z hz,Jv (re:=re) z hz,#[_,rfl,rfl],_,rfl,rfl]
def Dp{re:Str}{z:Str}{v:V}(h:ah (sD (M3 re).tr) (.inr z)=!v):z=("main":Str)/\v=.int ((0:Nat):Int):=by
 have e:(M3 re).tr=[]++[(("main":Str),0)]:=rfl;rw[e,va (l:=[]) rfl]at h;by_cases hz:z=("main":Str)
 ·rw[wl hz]at h;show#[hz,(Fk h).symm]
 ·rw[wf hz]at h;cases h
def NB{re:Str}:ah (sD (M3 re).tr) (.inr ("main":Str))=!.int ((0:Nat):Int):=show ah (sD [(("main":Str),0)]) (.inr ("main":Str))=_ by symm
def DZ{re:Str}:Gd (M3 re):=by
 have up0:∀ k f,¬ fR (M3 re) k f:=fun k f h=>by
  cases h with
  | un h=>cases h
  | pl h1 h2 =>
   cases k with
   | zero=>cases h1;cases h2
   | succ k=>simp[M3]at h1
 show#[pi 1,AT.mpr #[nofun,_X],NB,fun z v h=>#[0,_,(Dp h).2,rfl,rfl,rfl],fun z z' v h h'=>(Dp h).1.trans (Dp h').1.symm,fun f r=>#[nofun,nofun],nofun,fun z hz=>#[0,0,NJ z hz],pi 3,pi 3,#[_,rfl,rfl],fun k t ht=>?_,fun k t ht=>#[0,up0 k]];cases k with
 | zero =>
  cases ht;show#[wT _,.inl rfl,fun e=>absurd (show("folder":Str) = "lead" from e) (by symm),.inl #[rfl,rfl,"main",NB],fun z v h=>by cases h]
 | succ k=>simp[M3]at ht
def acB{re:Str}{L:List Ta}(hL:L.length=(M3 re).ts.length):∃ e ns,eM #[L,M3 re,"ann",true,0] [47] e/\e.res=.found 0 ns:=by
 have hn:(M3 re).ts.length<=90:=show 1<=90 by decide
 have AB:("ann":Str)∈AS:=by symm
 have g:=DZ (re:=re);let⟨a,ha⟩:=adr (M:=M3 re) (k:=0) hL rfl;let⟨b,l,hs⟩:=g.dk hn (k:=0) rfl rfl;let⟨_,tt,h1,h2⟩:=g.jq hs rfl rfl;have h0:aZ b l=0:=by
  cases h:aZ b l with
  | zero=>rfl
  | succ k=>rw[h]at h1;simp[M3]at h1
 have f7:=g.yB hL hs rfl rfl;let⟨ns,bZ,ht⟩:=NF (d:=#[L,M3 re,"ann",true,0]) g hL hn (S:=#[aZ b l,none,0,[],cJ (dj [47]),[],0,0]) #[tt,h1,.inl #[h2,f7]];show#[_,ns++bZ,#[⋯,⋯,by symm,.found #[(NJ _ AB).ro,0,b,l,a,_,.inl #[⋯,rfl],ha,rfl,hs,f7,rfl] (by symm) (.done (show cJ (dj [47])=[] by symm)) ht],?_];change Res.found (aZ b l) _=_;rw[h0]
def  Vy(CH CS CT:ϋ):Sp:=Ov fun _ H Q _=>∀ A H',Hz CH CS CT A 1 H'->ed H H'->Q (-A.a) H'
def Ti:T.sO.k P w base 17 (Vy T.aI T.aK T.aQ):=by
 show T.sO.F.ok Nk (fun _ _ _ _ h=>K6 h fun _ _=>rfl) fun ax A _ s H vs Q E hr h=>K6 h fun c h=>?_;show bF (b:=aU Cr) ((al (aM 1 Nk.nd (io T.V1 (Rq T) hr.m T.Tt T.vY.b .nil aq (aa am ae)))
 (al (aN (KR<*T.qg (ad 1) (aa am ae)))
 (al (aN (KR<*T.qg (ad 1) (aa am ae)))
 (al (aV (aX wb (db oj (ad 0) ap) ap) (aj (aN (de (R5 T) hr.m T.rP.m T.rP.F.kp T.rP.b .nil gy (aa (ad 1) (aa am (aa am (aa am (aa am ae)))))))) bv)
 (aj (aL (ad 1)))))))) ?_
 exists 1;right;intro x dx hx m6 cQ;show#[#[dx,ay],by symm,by symm,fun A1 L1 H2 hA1 i2 tF iz=>#[rfl,?_]];subst hA1;have k2:ed H H2:=fun b o ho e=>iz _ _ (by rw[Ch];show bD e hx) (by rw[ag (bD e hx),ag (bD e m6)];show e);let⟨oU,gc,gh,oY,gi⟩:=i2.h;have wI:∀ {L:List Ta},∀ b∈[A1.a,A1.ro,A1.st],b∈A1.w++L.flatMap Ta.l:=fun b hb=>by
  simp only[li,lm,wP]at hb;rcases hb with rfl | rfl | rfl <;> simp[Ad.w]
 right;show(mI gh gi #[A1,L1,_,i2,rfl,by symm,by symm,⋯,⋯,by symm,by symm,fun H3 i3 k3=>ao ?_]);have k3':=k2.trans (i2.off (by nofun) wI k3);let⟨gfs3,gc3,gh3,ghl3,gsf3⟩:=i3.h;left;show(mI gh3 gsf3 #[A1,L1,_,i3,rfl,by symm,by symm,⋯,⋯,by symm,by symm,fun H4 i4 k4=>?_]);have k4':=k3'.trans (i3.off (by nofun) wI k4);have i4':aF T.aI T.aK T.aQ H4 A1 L1 (M3 "lg"):=i4;show gx (fun σ' H'=>σ'=[!V.int c,!V.ref A1.a]/\Hz T.aI T.aK T.aQ A1 1 H'/\ed H H') ?_ ?_
 ·left;show#[⋯,nk (fun _=>?_) (fun _=>#[by trivial,#[L1,_,i4',DZ,⋯,⋯,⋯],k4'])];let⟨e,ns,pw,he⟩:=acB i4'.len;let⟨a,ha⟩:=adr (k:=0) i4'.len rfl;show#[A1,L1,_,0,[47],.inr 0,by symm,i4',rfl,.ok pw he ha rfl rfl,by symm,by symm,(fun y e=>by cases e),fun k a' th e ha' aS H5 i5 k5=>?_];cases e;rw[ha]at ha';cases ha';cases aS;show#[by trivial,#[L1,M3 "lgw",i5,DZ,⋯,⋯,⋯],k4'.trans (i4'.off (by nofun) (fun b hb=>?_) k5)];simp only[li,lm,wP]at hb;rcases hb with rfl | rfl
  ·simp[Ad.w]
  ·show xL _ (kL ha (by simp[Ta.l]))
 ·rintro σ' H5 ⟨rfl,h5,k5⟩;left;show h A1 H5 h5 k5
def  BH(K:ν):Sp:=jN fun a H Q _=>A3 (∃ ns:List Int,aC K H a (ns.map V.int)) (um H) (∀ H',Q (.bl true) H')
def  rC(K:ν)(H:Hp)(a:ϋ)(ns:List Int):Prop:=(∀ J,aC K J a (ns.map V.int))\/∃ o,H a=!.df o (.lst (ns.map V.int))
def rC.sq{H:Hp}{a:ϋ}{ns:List Int}(h:rC K H a ns):aC K H a (ns.map V.int):=by
 rcases h with h | h
 ·show h H
 ·show .inl (.inr h)
def rC.kp{H H':Hp}{a:ϋ}{ns:List Int}(h:rC K H a ns)(k:ed H H'):rC K H' a ns:=by
 rcases h with h | ⟨o,h⟩
 ·show .inl h
 ·show .inr #[o,k _ _ trivial h]
def R3(xs:List V)(a b:Nat):gq xs (!(a:Int)) (!(b:Int))=(xs.drop a).take (b - a):=by
 unfold gq;rw[HT.vg,HT.vg];by_cases h:a<=xs.length
 ·rw[_N h];by_cases h2:b<=xs.length
  ·rw[_N h2]
  ·rw[Ja5 ∅,GM (by rw[Ja3];omega),GM (by rw[Ja3];omega)]
 ·rw[show min a xs.length=xs.length by omega,List.drop_of_length_le (pi _),List.drop_of_length_le ∅,List.take_nil,List.take_nil]
def  lW:List Str:=["folder","folder","file","lead","tree","hang","hang","take","stand","root"]
structure KN(CH CS CT:ϋ)(A:Ad)(lk ll:ϋ)(zs:List Int)(i:Nat)(H':Hp):Prop where
 h:Hz CH CS CT A (1+i) H'
 k:H' lk=!.lst (lW.map V.str)
 l:H' ll=!.lst (zs.map V.int)
def Hz.same{CH CS CT:ϋ}{A:Ad}{n:Nat}{H H':Hp}(h:Hz CH CS CT A n H)(s:ai H H'):Hz CH CS CT A n H':=let ⟨L,M,i,g,l⟩:=h;#[L,M,i.same s,g,l]
def Hz.drawn{CH CS CT:ϋ}{A:Ad}{n:Nat}{H H':Hp}{st:ϋ}(h:Hz CH CS CT A n H)(d:Dr st H)(k:dm st H H'):Hz CH CS CT A n H':=let ⟨L,M,i,g,l⟩:=h;#[L,M,i.drawn g.ne d k,g,l]
structure uw(CH CS CT:ϋ)(A:Ad)(lk ll st:ϋ)(zs:List Int)(i:Nat)(H':Hp):Prop where
 h:Hz CH CS CT A (1+i) H'
 k:H' lk=!.lst (lW.map V.str)
 l:H' ll=!.lst (zs.map V.int)
 d:Dr st H'
 n1:lk≠st
 n2:ll≠st
def uw.keep{CH CS CT:ϋ}{A:Ad}{lk ll st:ϋ}{zs:List Int}{i:Nat}{H H':Hp}(h:uw CH CS CT A lk ll st zs i H)(k:dm st H H')(d:Dr st H'):uw CH CS CT A lk ll st zs i H':=#[h.h.drawn h.d k,k _ _ h.n1 h.k,k _ _ h.n2 h.l,d,h.n1,h.n2]
def Xg:aA P w K mg base aJ 50 T.wY T.Au ["_law_script"] (BH K):=by
 show T.xY.ok nU (fun vs H Q E h=>?_) (fun ax A _ s H vs Q E hr h=>?_)
 ·show fm h fun _ _=>rfl
 ·show fm h fun a h=>?_;let⟨⟨ns,hS⟩,hO,q⟩:=h;show bF (b:=aU Dg) ((al (aM 1 nU.nd (Ti<$>T.sO (aa (Rl<$>T.sE (aa (ad 0) (aa ap ae))) ae)))
  (al (aM 2 nU.nd (cr (aa am (aa am (aa am (aa am (aa am (aa am (aa am (aa am (aa am (aa am ae))))))))))))
  (al (m9 Db rfl (iH (K:=K) rfl (db ej (cr (aa ap ae)) (im (nS (K:=K) rfl) (ad 0) (jh ap) (jh ap)))) (eN 3 nU.nd) (al (aM 4 nU.nd (cr (aa (ad 3) ae)))
  (al (aM 5 nU.nd (ce (bG (K:=K) rfl) (cr (aa am (aa am (aa am (aa am ae))))) (gp<$>T.bO (aa (ad 4) (aa ap ae)))))
  (al (aN (ads<$>T.sH (aa (ad 1) (aa (ad 5) (aa (ce (bG (K:=K) rfl) (ad 2) (gp<$>T.bO (aa (ad 4) (aa (cT (l8 (K:=K) rfl) T.ki Tk (aa (ad 2) ae)) ae)))) (aa (B3<$>T.jt (aa (ad 4) (aa ap ae))) (aa (ad 4) ae)))))))
  (al (aM 5 nU.nd (ce (bG (K:=K) rfl) (cr (aa am (aa am (aa am ae)))) (gp<$>T.bO (aa (ad 4) (aa ap ae)))))
  (al (aM 6 nU.nd (db ej (ce (bG (K:=K) rfl) (cr (aa am (aa am (aa am ae)))) (gp<$>T.bO (aa (ad 4) (aa ap ae)))) (B3<$>T.jt (aa (ad 4) (aa ap ae)))))
  (aj (aV (dF (cU (ZE<$>T.qS (aa (ad 1) (aa (ad 5) (aa (ad 6) (aa (f8 wb (gp<$>T.bO (aa (ad 4) (aa ap ae))) ap) ae))))))) (aj (aL em)) bv))))))))
  (aj (aL em)))))) ?_
  exists 6;have sc0:rC K H a ns:=by
   rcases hS with hS | hS
   ·rcases hS with hS | hS
    ·rcases hO a with z | ⟨o,xs,z⟩
     ·rw[z]at hS;cases hS
     ·rw[z]at hS;cases hS
    ·show .inr hS
   ·show .inl fun J=>.inr hS
  right;show#[#[ns,hS],⋯,fun c A1 H1 h1 k1=>ao ?_];have sc1:=sc0.kp k1;left;show#[fits (),fun lk j6=>ao ?_];have s2:=ai.upd (o:=.lst (lW.map V.str)) j6;have b2:upd H1 lk (.lst (lW.map V.str)) lk=!.lst (lW.map V.str):=ay;change uJ _ _ _ _ _ (upd H1 lk (.lst (lW.map V.str)));generalize upd H1 lk (.lst (lW.map V.str))=H2 at s2 b2 ⊢;have h2:=h1.same s2;have sc2:=sc1.kp (ed.of s2);left;show#[fits (),fun l7 hl7=>#[_,(sc2.kp (ed.of (ai.upd hl7))).sq,fun ls oG=>?_]];rw[show(1:Int)=((1:Nat):Int) from rfl,show(23:Int)=((23:Nat):Int) from rfl,R3,<- Ja9,<- List.map_take];have s3:=(ai.upd (o:=.lst [V.int 7]) hl7).trans (ai.upd (o:=.lst (((ns.drop 1).take (23 - 1)).map V.int)) oG);have c3:upd (upd H2 l7 (.lst [V.int 7])) ls (.lst (((ns.drop 1).take (23 - 1)).map V.int)) l7=!.lst [V.int 7]:=ai.upd oG _ _ ay;have e3:upd (upd H2 l7 (.lst [V.int 7])) ls (.lst (((ns.drop 1).take (23 - 1)).map V.int)) ls=!.lst (((ns.drop 1).take (23 - 1)).map V.int):=ay;generalize upd (upd H2 l7 (.lst [V.int 7])) ls (.lst (((ns.drop 1).take (23 - 1)).map V.int))=H3 at s3 c3 e3 ⊢;have hzl:((ns.drop 1).take (23 - 1)).length<=22:=List.length_take_le _ _;generalize (ns.drop 1).take (23 - 1)=zs at hzl c3 e3 s3 ⊢
  rwa [c3,e3]
  show#[fits (by simp;omega),fun ll oF=>?_];have s4:=s3.trans (ai.upd (o:=.lst ([V.int 7]++zs.map V.int)) oF);have b4:upd H3 ll (.lst ([V.int 7]++zs.map V.int)) ll=!.lst ((7::zs).map V.int):=ay;generalize upd H3 ll (.lst ([V.int 7]++zs.map V.int))=H4 at s4 b4 ⊢;have h4:KN T.aI T.aK T.aQ A1 lk ll (7::zs) 0 H4:=#[h2.same s4,s4 _ _ b2,b4];show#[#[_,aC.of b4],qe (xs:=(7::zs).map V.int) (fun i σ' H'=>KN T.aI T.aK T.aQ A1 lk ll (7::zs) i H'/\∃ t1 t2 t3 t4,σ'=[!V.ref a,!V.ref A1.a,!V.ref lk,t1,t2,t3,t4]) #[h4,_,_,_,_,rfl] (fun i σ' H' _ h=>aC.of h.1.l) ?_ (fun σ' H' h=>?_)]
  ·rintro i x σ' H5 hx ⟨h5,t1,t2,t3,t4,rfl⟩;have hi:i<=22:=by
    have:=(sB.mp hx).1;simp at this;omega
   let⟨cell,rfl⟩:∃ cell:Int,x=.int cell:=by
    let⟨z,_,rfl⟩:=wS.mp (LE hx);show#[z,rfl]
   right;show#[fits (),fun st aR=>ao ?_];have s6:=ai.upd (o:=.lst [V.int cell]) aR;have d6:Dr st (upd H5 st (.lst [V.int cell])):=#[[cell],ay,.inl rfl];have h6:uw T.aI T.aK T.aQ A1 lk ll st (7::zs) i (upd H5 st (.lst [V.int cell])):=#[h5.h.same s6,s6 _ _ h5.k,s6 _ _ h5.l,d6,bD h5.k aR,bD h5.l aR];generalize upd H5 st (.lst [V.int cell])=H6 at h6 ⊢;left;show jM h6.d rfl () () fun v H7 hv d7 k7=>ao ?_;have h7:=h6.keep k7 d7;let⟨z,hz,rfl⟩:∃ z,z∈AS/\v=V.str z:=by
    simp only[li,lm,wP]at hv;rcases hv with rfl | rfl | rfl | rfl <;> show#[_,by symm,rfl]
   left
   rwa [h7.k]
   show rX h7.d ⋯ ⋯ fun dg H8 d0 d1 d8 k8=>?_;have h8:=h7.keep k8 d8;let⟨v,hv',e8⟩:=pick (xs:=lW.map V.str) d0 d1;simp only[h8.k,e8];let⟨kd,cm,rfl⟩:∃ kd,kd∈E8/\v=V.str kd:=by
    let⟨y,hy,rfl⟩:=wS.mp hv';show#[y,?_,rfl];unfold lW at hy;simp only[li,lm,wP]at hy;rcases hy with rfl | rfl | rfl | rfl | rfl | rfl | rfl | rfl | rfl | rfl <;> symm
   show#[h8.d,⋯,⋯,fun t H9 ht d9 k9=>?_];have h9:=h8.keep k9 d9;show#[A1,t,1+i,rfl,h9.h,rfl,hz,∅,ht,d9,cm,fun b xy hz10 d10 Pw=>ao ?_];have oS:uw T.aI T.aK T.aQ A1 lk ll st (7::zs) (i+1) xy:=#[hz10,Pw _ _ h9.n1 (aaj _) h9.k,Pw _ _ h9.n2 (AK _) h9.l,d10,h9.n1,h9.n2];left;show jM oS.d rfl () () fun v Ap hv d11 k11=>ao ?_;have zP:=oS.keep k11 d11;let⟨z2,hz2,rfl⟩:∃ z,z∈AS/\v=V.str z:=by
    simp only[li,lm,wP]at hv;rcases hv with rfl | rfl | rfl <;> show#[_,by symm,rfl]
   left;show jM zP.d rfl () () fun v H12 hv d12 qC=>?_;have sV:=zP.keep qC d12;let⟨pre,gf,rfl⟩:∃ pre:List Nat,(pre=[]\/pre=[47])/\v=V.str (Tx.S pre):=by
    simp only[li,lm,wP]at hv;rcases hv with rfl | rfl | rfl
    ·show#[[],.inl rfl,by symm]
    ·show#[[],.inl rfl,by symm]
    ·show#[[47],.inr rfl,by symm]
   show#[sV.d,⋯,⋯,fun t2 H13 gb d13 k13=>?_];have oZ:=sV.keep k13 d13;simp only[Tx.qU];have bt:pre.length<=1:=by rcases gf with rfl | rfl <;> simp
   have ly:=gb.l2;show#[fits (by rw[Tx.cE,Tx.cE];omega),?_];have mZ:fb (pre++t2):=#[by rw[mo];have:=gb.l1;omega,by rw[mo];omega,by
    rcases gf with rfl | rfl
    ·show gb.all
    ·show(GE (List.all · cP) (Tx.BX 47 t2)).trans gb.all]
   show rX oZ.d ⋯ ⋯ fun dg2 H14 _ _ d14 k14=>?_;have tV:=oZ.keep k14 d14;let⟨L,M,iM,gM,lM,_⟩:=tV.h;show#[A1,L,M,pre++t2,rfl,iM,rfl,hz2,gM,∅,mZ,by rw[mo];omega,fun H15 jJ=>bh rfl #[?_,_,_,_,_,rfl]];show#[tV.h.same jJ,jJ _ _ tV.k,jJ _ _ tV.l]
  ·left;show q _
end
def aaY{K:ν}{a:ϋ}{od:Option ϋ}{tk:Nat}{sl:Array (Option ϊ)}{t0 t1:Tok}(l:K.lookup a=!#[.type "tuple",od,.seq ([.str "." t0,.str ".." t1]:List ϊ).toArray tk,sl])(H:Hp):bK K H a [.str ".",.str ".."]:=.inr #[_,_,_,l,rfl,rfl,fits (),(.cons #[_,rfl] (.cons #[_,rfl] .nil))]
def WK{K:ν}{a:ϋ}{od:Option ϋ}{tk:Nat}{sl:Array (Option ϊ)}{t0 t1 t2 t3 t4 t5 t6 t7:Tok}(l:K.lookup a=!#[.type "tuple",od,.seq ([.str "" t0,.str "l" t1,.str "g" t2,.str "w" t3,.str "lg" t4,.str "lw" t5,.str "gw" t6,.str "lgw" t7]:List ϊ).toArray tk,sl])(H:Hp):bK K H a [.str "",.str "l",.str "g",.str "w",.str "lg",.str "lw",.str "gw",.str "lgw"]:=.inr #[_,_,_,l,rfl,rfl,fits (),(.cons #[_,rfl] (.cons #[_,rfl] (.cons #[_,rfl] (.cons #[_,rfl] (.cons #[_,rfl] (.cons #[_,rfl] (.cons #[_,rfl] (.cons #[_,rfl] .nil))))))))]
def Tv{K:ν}{a:ϋ}{od:Option ϋ}{tk:Nat}{sl:Array (Option ϊ)}{t0 t1 t2:Tok}(l:K.lookup a=!#[.type "tuple",od,.seq ([.str "l" t0,.str "g" t1,.str "w" t2]:List ϊ).toArray tk,sl])(H:Hp):bK K H a [.str "l",.str "g",.str "w"]:=.inr #[_,_,_,l,rfl,rfl,fits (),(.cons #[_,rfl] (.cons #[_,rfl] (.cons #[_,rfl] .nil)))]
def Ug{K:ν}{H:Hp}{a:ϋ}{ns:List Int}(hO:um H)(hS:aC K H a (ns.map V.int)):BH K [-a] H (fun v _=>v=.bl true) fun _ _ _=>False:=#[#[ns,hS],hO,fun _=>rfl]
def walk{l:W.OpenLaw}{q:ύ}{loose:List Str}{XP:(Str->Option ϊ)->Heap->Prop}{YP:World->Heap->Prop}{d:DefRec}{K:Params->ν}(hn:l.most=!63)(w6:d.params.defaults=[])(tS:d.name = "law")(hY:∀ (w:World) (h:Heap),YP w h->(K w.params).In h)(F:∀ (w:World) (mg:Str->Option ϊ) (h:Heap),(K w.params).In h->h.Ns mainGlobals mg->∃ T:Tx (K w.params) mg,T.wY=T.wY) :
  W.WalkO q loose XP YP l.row.toRowW d [] (fun f vs=>PySem.call f vs) :=
 L2.RF (n:=63) (k:=50) (x := "_law_script") (CX:=fun _=>aJ) (sp:=fun w=>BH (K w.params)) hn ⋯ w6 #[rfl,⋯,⋯] hY
  (fun w mg fa h KX G hfa=>by
   let⟨T,_⟩:=F w mg h KX G;rw[tS]at hfa;have e:=hfa.symm.trans T.abE;cases e;show#[T.Au,fun s u=>by let⟨oc,od,kV,doc,pm,an,ax,ct,eV,e,_⟩:=T.xY.ex;rw[e];show .of_eq rfl,fun base _ _=>Xg T])
  (fun _ _ a ns _ hO hS=>Ug hO hS) fun _ _ _ _ _ z=>z
end L2.b7

end
local macro_rules | `(#[$xs,*]) => `(⟨$xs,*⟩)
open PySem PySem.W PyProof.Rows
local macro_rules | `(tactic| walk_at "fa")=>`(tactic| (refine' L2.FA.mk ?n ?l ?c ?k;(case n=>k_is);(case l=>k_is);(case c=>k_is);(case k=>k_is)))
local macro_rules | `(tactic| walk_at "ma")=>`(tactic| (refine' L2.MA.mk ?n ?l ?c ?k ?t;(case n=>k_is);(case l=>k_is);(case c=>k_is);(case k=>k_is);(case t=>k_is)))
local macro_rules | `(tactic| walk_at "ar")=>`(tactic| (intro _ _ _ _ _ _;first | (refine L2.Jd ?_;exact fun _=>rfl) | (refine L2.IL ?_;exact fun _ _=>rfl) | (refine L2.wz ?_;exact fun _ _ _=>rfl) | (refine L2.sx ?_;exact fun _ _ _ _=>rfl) | (refine L2.yw ?_;exact fun _ _ _ _ _=>rfl) | (refine L2.EL ?_;exact fun _ _ _ _ _ _=>rfl) | (refine L2.WD ?_;exact fun _ _ _ _ _ _ _=>rfl) | (refine L2.JB ?_;exact rfl)))
local macro_rules | `(tactic| walk_at "mg")=>`(tactic| (refine' PySem.W.mg_of (by assumption) (by assumption) ?n;(case n=>k_is)))
local macro_rules | `(tactic| walk_at "mn")=>`(tactic| (refine' PySem.W.mg_none_of (by assumption) (by assumption) ?n;(case n=>k_is)))
local macro_rules | `(tactic| walk_at "ft")=>`(tactic| (refine' Classical.choice (L2.FA.gt (by assumption) (by assumption) ?b ?a);(case a=>walk_at "fa");(case b=>walk_at "ar")))
local macro_rules | `(tactic| walk_at "mt")=>`(tactic| (refine' Classical.choice (L2.MA.gt ?b ?a);(case a=>walk_at "ma");(case b=>walk_at "ar")))
local macro_rules | `(tactic| walk_at "mk")=>`(tactic| (refine' L2.VG ?a ?b;(case a=>k_is);(case b=>k_is)))
local macro_rules | `(tactic| walk_at "xf")=>`(tactic| (refine' L2.aau ?a ?b ?c ?d ?e ?f ?g;(case a=>kernel_rfl);(case b=>k_is);(case c=>k_is);(case d=>k_is);(case e=>k_is);(case f=>k_is);(case g=>k_is)))
local macro_rules | `(tactic| walk_at "cl")=>`(tactic| (refine' L2.dD.mk ?a ?b ?c ?d;(case a=>k_is);(case b=>k_is);(case c=>k_is);(case d=>k_is)))
local macro_rules | `(tactic| walk_at "fu")=>`(tactic| (refine' L2.B1 ?l ?c ?k;(case l=>k_is);(case c=>k_is);(case k=>k_is)))
local macro_rules | `(tactic| walk_at "fd")=>`(tactic| (refine' L2.RU ?l ?c ?k ?d ?h;(case l=>k_is);(case c=>k_is);(case k=>k_is);(case d=>k_is);(case h=>exact rfl)))
set_option maxRecDepth 100000 in
set_option maxHeartbeats 0 in
theorem PySem.Challenge.cw_leadnames_k36_walks_among_hung_trees_holds : PySem.Challenge.rw_leadnames_k36_walks_among_hung_trees.Holds := by
 refine L2.b7.hd0 ?_;unfold L2.b7.fZ
 k_fill
 refine L2.b7.walk (l:=PySem.Challenge.rw_leadnames_k36_walks_among_hung_trees) rfl rfl rfl (fun w h Y=>W.kIn_of (e:=fun _=>by kernel_rfl) Y) ?F
 case F =>
  intro w mg h KX G;refine' #[L2.b7.Tx.mk ?_ ?_ ?_ ?_ ?_ ?_ ?_ ?_ ?_ ?_ ?_ ?_ ?_ ?_ ?_ ?_ ?_ ?_ ?_ ?_ ?mO ?_ ?EN ?uX ?vH ?_ ?zC ?Jc ?_ ?_ ?_ ?_ ?_ ?_ ?_ ?_ ?_ ?_ ?_ ?_ ?zt ?_ ?DW ?Mv ?HW ?yZ ?_ ?Ci ?LR ?OA ?_ ?_ ?_ ?_ ?_ ?_ ?_ ?_ ?_ ?_ ?_ ?_ ?_ ?_ ?_ ?_ ?_ ?_ ?_ ?_ ?_ ?_ ?_ ?_ ?_ ?_ ?_ ?_ ?xY ?_ ?Of ?_ ?Ea ?_ ?_ ?_ ?_ ?_ ?_ ?_ ?_ ?_ ?_ ?_ ?_ ?_ ?_ ?_ ?_ ?_ ?_ ?_ ?_ ?_ ?CK ?_ ?_ ?Bw ?_ ?_ ?_ ?_ ?_ ?_ ?_ ?_ ?_ ?_ ?_ ?_ ?_ ?_ ?_ ?_ ?_ ?_ ?_ ?_ ?_ ?_ ?_ ?_ ?_ ?_ ?_ ?_ ?_ ?_ ?_ ?_ ?_ ?_ ?_ ?_ ?_ ?_ ?_ ?_ ?_ ?_ ?_ ?_ ?_ ?_ ?_ ?_ ?_ ?_ ?_ ?_ ?_ ?_ ?_ ?_ ?_ ?_ ?_ ?_ ?_ ?_ ?_ ?_ ?_ ?_ ?_ ?_ ?_ ?_ ?_ ?_ ?_ ?_ ?_ ?_ ?_ ?_ ?_ ?_ ?_ ?_ ?_ ?_ ?_ ?_ ?_ ?_ ?_ ?_ ?_ ?_ ?_ ?_ ?_ ?_ ?_ ?_ ?_ ?_ ?_ ?_ ?_ ?_ ?_ ?_ ?_ ?_ ?_ ?_ ?_ ?_ ?_ ?_ ?_ ?_ ?_ ?_ ?_ ?_ ?_ ?_ ?_ ?_ ?_ ?_ ?_ ?_ ?_ ?_ ?_ ?_ ?_ ?_ ?_ ?_ ?_ ?_ ?_ ?_ ?_ ?_ ?_ ?_ ?_ ?_ ?_ ?_ ?_ ?_ ?_ ?_ ?_ ?_ ?_ ?_,rfl]

  all_goals try (first | walk_at "mg" | walk_at "ft" | walk_at "mt" | k_is | (show W.findIn _ _ _=some none;k_is) | walk_at "mn" | kit_is | k_exc | walk_at "mk" | walk_at "cl" | walk_at "xf" | exact rfl | kernel_rfl)
  (case Ea=>(refine' L2.b7.aaY ?l_DOTS;(case l_DOTS=>k_is)))
  (case CK=>(refine' L2.b7.WK ?l_RIGHTS;(case l_RIGHTS=>k_is)))
  (case Bw=>(refine' L2.b7.Tv ?l_SINGLE_RIGHTS;(case l_SINGLE_RIGHTS=>k_is)))
  (case mO=>walk_at "fd")
  (case EN=>exact L2.kD (x := "walk") (y := "walk") (st:=L2.b7.uP) (ds:=[.bool true]) 1 (by k_is) (by exact rfl) (fun _ _ _ _ _ _ _ us hl=>by (have e:us.length=4:=(by have h:=hl;rw[List.length_append]at h;simp at h;omega));clear hl;revert us;refine L2.sx ?_;exact fun _ _ _ _=>#[_,rfl,rfl]))
  (case uX=>exact L2.kD (x := "walk") (y := "walk") (st:=L2.b7.uP) (ds:=[.bool true]) 0 (by k_is) (by exact rfl) (fun _ _ _ _ _ _ _ us hl=>by (have e:us.length=3:=(by have h:=hl;rw[List.length_append]at h;simp at h;omega));clear hl;revert us;refine L2.wz ?_;exact fun _ _ _=>#[_,rfl,rfl]))
  (case vH=>walk_at "fd")
  (case zC=>exact L2.kD (x := "asked_of") (y := "asked_of") (st:=L2.b7.uh) (ds:=[.bool true]) 1 (by k_is) (by exact rfl) (fun _ _ _ _ _ _ _ us hl=>by (have e:us.length=4:=(by have h:=hl;rw[List.length_append]at h;simp at h;omega));clear hl;revert us;refine L2.sx ?_;exact fun _ _ _ _=>#[_,rfl,rfl]))
  (case Jc=>exact L2.kD (x := "asked_of") (y := "asked_of") (st:=L2.b7.uh) (ds:=[.bool true]) 0 (by k_is) (by exact rfl) (fun _ _ _ _ _ _ _ us hl=>by (have e:us.length=3:=(by have h:=hl;rw[List.length_append]at h;simp at h;omega));clear hl;revert us;refine L2.wz ?_;exact fun _ _ _=>#[_,rfl,rfl]))
  (case zt=>walk_at "fd")
  (case DW=>exact L2.kD (x := "make_folder") (y := "make_folder") (st:=L2.b7.rp) (ds:=[.str "lgw" _,.str "" _]) 2 (by k_is) (by exact rfl) (fun _ _ _ _ _ _ _ us hl=>by (have e:us.length=5:=(by have h:=hl;rw[List.length_append]at h;simp at h;omega));clear hl;revert us;refine L2.yw ?_;exact fun _ _ _ _ _=>#[_,rfl,rfl]))
  (case Mv=>exact L2.kD (x := "make_folder") (y := "make_folder") (st:=L2.b7.rp) (ds:=[.str "lgw" _,.str "" _]) 1 (by k_is) (by exact rfl) (fun _ _ _ _ _ _ _ us hl=>by (have e:us.length=4:=(by have h:=hl;rw[List.length_append]at h;simp at h;omega));clear hl;revert us;refine L2.sx ?_;exact fun _ _ _ _=>#[_,rfl,rfl]))
  (case HW=>exact L2.kD (x := "make_folder") (y := "make_folder") (st:=L2.b7.rp) (ds:=[.str "lgw" _,.str "" _]) 0 (by k_is) (by exact rfl) (fun _ _ _ _ _ _ _ us hl=>by (have e:us.length=3:=(by have h:=hl;rw[List.length_append]at h;simp at h;omega));clear hl;revert us;refine L2.wz ?_;exact fun _ _ _=>#[_,rfl,rfl]))
  (case yZ=>walk_at "fd")
  (case Ci=>exact L2.kD (x := "make_file") (y := "make_file") (st:=L2.b7.qK) (ds:=[.str "lgw" _,.str "" _]) 2 (by k_is) (by exact rfl) (fun _ _ _ _ _ _ _ us hl=>by (have e:us.length=6:=(by have h:=hl;rw[List.length_append]at h;simp at h;omega));clear hl;revert us;refine L2.EL ?_;exact fun _ _ _ _ _ _=>#[_,rfl,rfl]))
  (case LR=>exact L2.kD (x := "make_file") (y := "make_file") (st:=L2.b7.qK) (ds:=[.str "lgw" _,.str "" _]) 1 (by k_is) (by exact rfl) (fun _ _ _ _ _ _ _ us hl=>by (have e:us.length=5:=(by have h:=hl;rw[List.length_append]at h;simp at h;omega));clear hl;revert us;refine L2.yw ?_;exact fun _ _ _ _ _=>#[_,rfl,rfl]))
  (case OA=>exact L2.kD (x := "make_file") (y := "make_file") (st:=L2.b7.qK) (ds:=[.str "lgw" _,.str "" _]) 0 (by k_is) (by exact rfl) (fun _ _ _ _ _ _ _ us hl=>by (have e:us.length=4:=(by have h:=hl;rw[List.length_append]at h;simp at h;omega));clear hl;revert us;refine L2.sx ?_;exact fun _ _ _ _=>#[_,rfl,rfl]))
  (case xY=>walk_at "fu")
  (case Of=>exact L2.Binds.all (fun us hl=>match us,hl with | [_],_=>rfl))
  all_goals try (first | walk_at "mg" | walk_at "ft" | walk_at "mt" | k_is | (show W.findIn _ _ _=some none;k_is) | walk_at "mn" | kit_is | k_exc | walk_at "mk" | walk_at "cl" | walk_at "xf" | exact rfl | kernel_rfl)

