import PyProof.Rows.All
import Wide.All
import OpenK.AllK
import Wide.FinOn
import Lean
import PyProof.EqAt
import PyProof.EqKinds
import PyProof.TupleCall
import PyProof.NsDelKeeps
import PyProof.InstStoreFacts
import KE.KRevIter
import PyProof.ZipIter
import KE.KUnpack
import PyProof.Conv_int_bool
import PyProof.CallStr
import PySem.Challenge.RW_leadnames_k32_walks_that_fail
set_option Elab.async false
set_option linter.all false
set_option maxRecDepth 100000
namespace L2
open PySem PySem.W
def nT (tb:String→Option Builtin) (p:Program) (w:World) (n₀:Nat) (ann:Option Value):Nat→SharedT→Thread→Option SharedT
 | 0,_,_=>none
 | n+1,s,t=>match through t with
  | true=>some s
  | false=>match stepOk n₀ ann t with
   | false=>none
   | true=>match stepT (denote tb) p w s t with
    | some (s',t')=>nT tb p w n₀ ann n s' t'
    | none=>none
theorem Ea {tb:String→Option Builtin} {p:Program} {w:World} {n₀:Nat} {ann:Option Value}:∀ {n:Nat} {s s':SharedT} {t:Thread},nT tb p w n₀ ann n s t=some s'→topRun tb p w n₀ ann n s.abs t=some s'.abs
 | 0,_,_,_,h=>by cases h
 | n+1,s,s',t,h=>by
  unfold nT at h;unfold topRun;cases he:through t with
  | true=>rw [he] at h; cases h; rfl
  | false =>
   rw [he] at h;cases hk:stepOk n₀ ann t with
   | false=>rw [hk] at h; cases h
   | true =>
    rw [hk] at h;cases hs:stepT (denote tb) p w s t with
    | none=>rw [hs] at h; cases h
    | some r=>obtain ⟨s₂,t₂⟩:=r; rw [hs] at h; rw [stepT_spec hs]; exact Ea h
def treeOf:List Obj→Nat→BT→BT
 | [],_,t=>t
 | o::r,n,t=>treeOf r (n+1) (t.ins n o)
theorem LeftO.OP {p q:Program} {loose:List Str} {Xt:Shared→Bool} {α:Type} {Yf:Shared→α} {Ya:World→α} {N:Nat} {g0:Bool} {H₀:Params→Heap} {T₀:Params→BT} {n₀:Nat} {life:Life} {kR:Array GenState} {d₀:Drawn} {k₀:Nat} {ann:Option Value}
  (AH:∀ w:World,(fencedOpening treeTable p w N).map (fun s=>(s.heap,s.gens,s.drawn,s.toks))=some (H₀ w.params,kR,d₀,k₀))
  (tr:∀ P:Params,absHeap (T₀ P) n₀ life=H₀ P)
  (size:∀ P:Params,((H₀ P).isNs mainGlobals && kR.size == 0,(H₀ P).objs.size,(H₀ P).nsMap mainGlobals "__annotations__")=(true,n₀,ann))
  (run:∀ (w:World) (os:OsState),(nT treeTable p w n₀ ann N ⟨T₀ w.params,n₀,life,kR,d₀,k₀,os⟩ (topStub p)).map (fun s=>((staticsOk (importedModules p.main.body) (H₀ w.params) s.abs.heap && namesBound p s.abs.heap && gensDone s.abs && laidKept (H₀ w.params) s.abs.heap),
    openSeen q loose (importedModules p.main.body) Xt g0 s.abs,Yf s.abs))=some (true,openGood q loose,Ya w)):LeftO p q loose Xt Yf Ya N g0:=fun w=>by
 obtain ⟨⟨h,gs,d,k,os⟩,e,e'⟩:=Option.map_eq_some_iff.mp (AH w);obtain ⟨rfl,rfl,rfl,rfl⟩:h=H₀ w.params∧gs=kR∧d=d₀∧k=k₀:=by simpa using e'
 obtain ⟨z1,z2,z3⟩:_∧_∧_:=by simpa only [Prod.mk.injEq] using size w.params
 obtain ⟨s₁,r1,r2⟩:=Option.map_eq_some_iff.mp (run w os);obtain ⟨l1,l2,l3⟩:_∧_∧_:=by simpa only [Prod.mk.injEq] using r2
 have r:=Ea r1;have ea:SharedT.abs ⟨T₀ w.params,n₀,life,gs,d,k,os⟩=⟨H₀ w.params,gs,d,k,os⟩:=by
  unfold SharedT.abs;rw [tr]
 rw [ea] at r;have t:topFrom treeTable p w N ⟨H₀ w.params,gs,d,k,os⟩=some s₁.abs:=by
  unfold topFrom;dsimp only;rw [z1,z2,z3,r];show (match staticsOk (importedModules p.main.body) (H₀ w.params) s₁.abs.heap && namesBound p s₁.abs.heap && gensDone s₁.abs && laidKept (H₀ w.params) s₁.abs.heap with | true=>_ | false=>_)=_;rw [l1]
 unfold openEnds;rw [e];show (topFrom treeTable p w N _).map _=_;rw [t];exact congrArg some (Prod.ext l2 l3)
def dJ (ok:Nat→Option Value→Thread→Bool) (st:SharedT→Thread→Option (SharedT×Thread)) (n₀:Nat) (ann:Option Value):Nat→SharedT→Thread→Option SharedT
 | 0,_,_=>none
 | n+1,s,t=>match through t with
  | true=>some s
  | false=>match ok n₀ ann t with
   | false=>none
   | true=>match st s t with
    | some (s',t')=>dJ ok st n₀ ann n s' t'
    | none=>none
theorem D4 {tb:String→Option Builtin} {p:Program} {w:World} {n₀:Nat} {ann:Option Value}:∀ (n:Nat) (s:SharedT) (t:Thread),dJ stepOk (stepT (denote tb) p w) n₀ ann n s t=nT tb p w n₀ ann n s t
 | 0,_,_=>rfl
 | n+1,s,t=>by
  unfold dJ nT;cases through t with
  | true=>rfl
  | false =>
   cases stepOk n₀ ann t with
   | false=>rfl
   | true =>
    cases stepT (denote tb) p w s t with
    | none=>rfl
    | some r=>exact D4 n r.1 r.2
theorem LeftO.MB {p q:Program} {loose:List Str} {Xt:Shared→Bool} {α:Type} {Yf:Shared→α} {Ya:World→α} {N:Nat} {g0:Bool} {H₀:Params→Heap} {T₀:Params→BT} {n₀:Nat} {life:Life} {kR:Array GenState} {d₀:Drawn} {k₀:Nat} {ann:Option Value}
  {ok:Nat→Option Value→Thread→Bool} {st:(Code→Sem Fin)→Program→World→SharedT→Thread→Option (SharedT×Thread)} {den:(String→Option Builtin)→Code→Sem Fin} {tb:String→Option Builtin}
  (e1:stepOk=ok) (e2:stepT=st) (e3:denote=den) (e4:treeTable=tb)
  (AH:∀ w:World,(fencedOpening treeTable p w N).map (fun s=>(s.heap,s.gens,s.drawn,s.toks))=some (H₀ w.params,kR,d₀,k₀))
  (tr:∀ P:Params,absHeap (T₀ P) n₀ life=H₀ P)
  (size:∀ P:Params,((H₀ P).isNs mainGlobals && kR.size == 0,(H₀ P).objs.size,(H₀ P).nsMap mainGlobals "__annotations__")=(true,n₀,ann))
  (run:∀ (w:World) (os:OsState),(dJ ok (st (den tb) p w) n₀ ann N ⟨T₀ w.params,n₀,life,kR,d₀,k₀,os⟩ (topStub p)).map (fun s=>((staticsOk (importedModules p.main.body) (H₀ w.params) s.abs.heap && namesBound p s.abs.heap && gensDone s.abs && laidKept (H₀ w.params) s.abs.heap),
    openSeen q loose (importedModules p.main.body) Xt g0 s.abs,Yf s.abs))=some (true,openGood q loose,Ya w)):LeftO p q loose Xt Yf Ya N g0:=by
 subst e1 e2 e3 e4;refine LeftO.OP AH tr size fun w os=>?_;rw [← D4];exact run w os
noncomputable def eD (P:Params):BT:=treeOf (boot_heap P).objs.toList 0 .nil
end L2

namespace L2
open PySem PySem.W PyProof.Rows
theorem Wo {α β γ:Type} {o:Option α} {F:α→β×γ} {G:β×γ} (h1:o.map (fun s=>(F s).1)=some G.1) (h2:o.map (fun s=>(F s).2)=some G.2):o.map F=some G:=by
 cases o with
 | none=>cases h1
 | some a=>injection h1 with h1; injection h2 with h2; exact congrArg some (Prod.ext h1 h2)
theorem atS {α β:Type} {o:Option α} {s:α} {f:α→β} {g:β} (hs:o=some s) (h:o.map f=some g):f s=g:=by
 subst hs; exact Option.some.inj h
theorem iO {α β:Type} {a b:α} {c d:β} (h:a=b) (k:c=d):(a,c)=(b,d):=by rw [h,k]
def F0 (p:Program) (H₀:Heap) (s:SharedT):Bool:=staticsOk (importedModules p.main.body) H₀ s.abs.heap && namesBound p s.abs.heap && gensDone s.abs && laidKept H₀ s.abs.heap
def F3 (p q:Program) (loose:List Str) (Xt:Shared→Bool) (g0:Bool) (s:SharedT):Bool:=s.abs.heap.keysOk (looseW q loose) ((recsOf q).map (·.name)) ((litsOf q).map (·.1)) ((clssOf q (looseW q loose)).map (·.name)) && s.abs.heap.accountedOkI (importedModules p.main.body) && s.abs.heap.isNs mainGlobals && s.abs.heap.isNs builtinsNs && tablesOk q s.abs.heap && Xt s.abs && (if g0 then s.abs.gens.size == 0 else !leftWithCleanup s.abs.gens)
def F1 (q:Program) (s:SharedT):=seen ((recsOf q).map (·.name)) (ownsOf q) [] { s.abs with gens:=#[] }
theorem Qi {p q:Program} {loose:List Str} {Xt:Shared→Bool} {α:Type} {Yf:Shared→α} {Ya:World→α} {g0:Bool} {H₀:Heap} {o:Option SharedT} {w:World}
  (q0:o.map (F0 p H₀)=some true) (q1:o.map (F1 q)=some (expectedOf q)) (q2:o.map (fun s:SharedT=>s.abs.heap.bltView)=some bltViewBooted)
  (q3:o.map (F3 p q loose Xt g0)=some true) (q4:o.map (fun s:SharedT=>tabsOk q s.abs)=some true) (q5:o.map (fun s:SharedT=>pinSeenD q (drecsOf q) s.abs)=some (pinGoodD (drecsOf q)))
  (q6:o.map (fun s:SharedT=>plainSeenE q (looseW q loose) s.abs)=some (plainGoodE q (looseW q loose))) (q7:o.map (fun s:SharedT=>plainSeenD q loose s.abs)=some (plainGoodD q loose))
  (q8:o.map (fun s:SharedT=>wideSeen q s.abs)=some (wideGood q)) (q9:o.map (fun s:SharedT=>clsSeenW q loose s.abs)=some (clsGoodW q loose))
  (kJ:o.map (fun s:SharedT=>Yf s.abs)=some (Ya w)) :
  o.map (fun s:SharedT=>(F0 p H₀ s,openSeen q loose (importedModules p.main.body) Xt g0 s.abs,Yf s.abs))=some (true,openGood q loose,Ya w):=by
 obtain ⟨s,hs,a0⟩:=Option.map_eq_some_iff.mp q0;have a1:=atS hs q1;have a2:=atS hs q2;have a3:=atS hs q3;have a4:=atS hs q4;have a5:=atS hs q5;have a6:=atS hs q6;have a7:=atS hs q7;have a8:=atS hs q8;have a9:=atS hs q9;have a10:=atS hs kJ;clear q0 q1 q2 q3 q4 q5 q6 q7 q8 q9 kJ;subst hs;show some _=some _;refine congrArg some (iO a0 (iO ?_ a10));unfold openSeen openGood;exact iO a1 (iO a2 (iO a3 (iO a4 (iO a5 (iO a6 (iO a7 (iO a8 a9)))))))
theorem tW {α β γ:Type} {o:Option α} {f:α→β} {g:α→γ} {b:β} {c:γ} (h:o.map (fun s=>(f s,g s))=some (b,c)):o.map f=some b:=by
 cases o with
 | none=>cases h
 | some a=>injection h with h; exact congrArg some (congrArg Prod.fst h)
theorem hX {α β γ:Type} {o:Option α} {f:α→β} {g:α→γ} {b:β} {c:γ} (h:o.map (fun s=>(f s,g s))=some (b,c)):o.map g=some c:=by
 cases o with
 | none=>cases h
 | some a=>injection h with h; exact congrArg some (congrArg Prod.snd h)
theorem rT {α β γ:Type} {o:Option α} {l:List β} {f:α→β→γ} {g:β→γ} (n:Nat) (h1:o.map (fun s=>(l.take n).map (f s))=some ((l.take n).map g)) (h2:o.map (fun s=>(l.drop n).map (f s))=some ((l.drop n).map g)):o.map (fun s=>l.map (f s))=some (l.map g):=by
 cases o with
 | none=>cases h1
 | some a =>
  injection h1 with h1;injection h2 with h2;refine congrArg some ?_;show l.map (f a)=l.map g;rw [← List.take_append_drop n l,List.map_append,List.map_append];exact congr (congrArg _ h1) h2
theorem Wg {K:Params→Frag} {as:List Addr} {e:∀ P,as=(K P).map (·.1)} {o:Option SharedT} {w:World} (h:o.map (fun s=>(K w.params).map fun p=>s.abs.heap.get? p.1)=some ((K w.params).map fun p=>some p.2)) :
  o.map (fun s=>(kHook K as e).obs s.abs)=some ((kHook K as e).val w):=by
 show o.map (fun s:SharedT=>as.map s.abs.heap.get?)=some ((K w.params).map fun p=>some p.2);rw [e w.params];simp only [List.map_map];exact h
end L2

section
open PySem PySem.W PyProof.Rows
namespace L2.bD
theorem sa:(PySem.Challenge.rw_leadnames_k32_walks_that_fail).row.wellSaid=true:=by kernel_rfl
theorem Gb:(PySem.Challenge.rw_leadnames_k32_walks_that_fail).wellSaid=true:=by
 unfold OpenLaw.wellSaid
 iterate 18 refine look_both ?_ ?_
 ·exact sa
 all_goals kernel_rfl
noncomputable def QV:Program:=view (PySem.Challenge.rw_leadnames_k32_walks_that_fail).prog [0,2,3,4,5,7,8,9,10,11,12,13,14,15,16,18,19,20,21,22,23,24,25,26,27,28,29,30,31,32,33,34,36,37,38,39,41,42,43,44,45,46,47,48,49,50,54,55,57,58,59,60,61,62,63,64,65,66,67,68,69,72,74,75,77,78,79,80,81,82,83,84,85,86,87,88,89,90,91,92,93,94,95,96,97]
theorem rj:∀ w:World,(fencedOpening treeTable (PySem.Challenge.rw_leadnames_k32_walks_that_fail).prog w 16394).map (fun s=>(s.heap,s.gens,s.drawn,s.toks))=some (boot_heap w.params,Array.mk [],boot_drawn,boot_toks):=boot_open rfl rfl (fun _=>rfl)
theorem cv:∀ P:Params,absHeap (L2.eD P) 11 {}=boot_heap P:=by intro P; kernel_rfl
theorem gG:∀ P:Params,((boot_heap P).isNs mainGlobals && (Array.mk ([]:List GenState)).size == 0,(boot_heap P).objs.size,(boot_heap P).nsMap mainGlobals "__annotations__")=(true,11,some (.ref 6)):=by intro P; kernel_rfl
set_option maxHeartbeats 0
theorem qL (w:World) (os:OsState):((dJ PySem.W.Fast.tw6613529449190102663 (PySem.W.Fast.tw10156331382660048174 (PySem.W.Fast.tw11892475500146522536 PySem.W.Fast.tw14364793385576792824) (PySem.Challenge.rw_leadnames_k32_walks_that_fail).prog w) 11 (some (.ref 6)) 16394 ⟨L2.eD w.params,11,{},Array.mk [],boot_drawn,boot_toks,os⟩ (topStub (PySem.Challenge.rw_leadnames_k32_walks_that_fail).prog))).map (fun s=>(((staticsOk (importedModules (PySem.Challenge.rw_leadnames_k32_walks_that_fail).prog.main.body) (boot_heap w.params) s.abs.heap && namesBound (PySem.Challenge.rw_leadnames_k32_walks_that_fail).prog s.abs.heap && gensDone s.abs && laidKept (boot_heap w.params) s.abs.heap)),s.abs.heap.bltView,pinSeenD QV (drecsOf QV) s.abs,plainSeenD QV [PySem.Str.ofString "walk",PySem.Str.ofString "asked_of",PySem.Str.ofString "make_folder",PySem.Str.ofString "make_file"] s.abs,clsSeenW QV [PySem.Str.ofString "walk",PySem.Str.ofString "asked_of",PySem.Str.ofString "make_folder",PySem.Str.ofString "make_file"] s.abs))=some ((true,bltViewBooted,pinGoodD (drecsOf QV),plainGoodD QV [PySem.Str.ofString "walk",PySem.Str.ofString "asked_of",PySem.Str.ofString "make_folder",PySem.Str.ofString "make_file"],clsGoodW QV [PySem.Str.ofString "walk",PySem.Str.ofString "asked_of",PySem.Str.ofString "make_folder",PySem.Str.ofString "make_file"])):=by kernel_rfl
theorem RQ (w:World) (os:OsState):((dJ PySem.W.Fast.tw6613529449190102663 (PySem.W.Fast.tw10156331382660048174 (PySem.W.Fast.tw11892475500146522536 PySem.W.Fast.tw14364793385576792824) (PySem.Challenge.rw_leadnames_k32_walks_that_fail).prog w) 11 (some (.ref 6)) 16394 ⟨L2.eD w.params,11,{},Array.mk [],boot_drawn,boot_toks,os⟩ (topStub (PySem.Challenge.rw_leadnames_k32_walks_that_fail).prog))).map (fun s=>seen ((recsOf QV).map (·.name)) (ownsOf QV) [] { s.abs with gens:=#[] })=some (expectedOf QV):=by kernel_rfl
theorem OE (w:World) (os:OsState):((dJ PySem.W.Fast.tw6613529449190102663 (PySem.W.Fast.tw10156331382660048174 (PySem.W.Fast.tw11892475500146522536 PySem.W.Fast.tw14364793385576792824) (PySem.Challenge.rw_leadnames_k32_walks_that_fail).prog w) 11 (some (.ref 6)) 16394 ⟨L2.eD w.params,11,{},Array.mk [],boot_drawn,boot_toks,os⟩ (topStub (PySem.Challenge.rw_leadnames_k32_walks_that_fail).prog))).map (fun s=>wideSeen QV s.abs)=some (wideGood QV):=by kernel_rfl
theorem q3 (w:World) (os:OsState):((dJ PySem.W.Fast.tw6613529449190102663 (PySem.W.Fast.tw10156331382660048174 (PySem.W.Fast.tw11892475500146522536 PySem.W.Fast.tw14364793385576792824) (PySem.Challenge.rw_leadnames_k32_walks_that_fail).prog w) 11 (some (.ref 6)) 16394 ⟨L2.eD w.params,11,{},Array.mk [],boot_drawn,boot_toks,os⟩ (topStub (PySem.Challenge.rw_leadnames_k32_walks_that_fail).prog))).map (fun s=>(s.abs.heap.keysOk (looseW QV [PySem.Str.ofString "walk",PySem.Str.ofString "asked_of",PySem.Str.ofString "make_folder",PySem.Str.ofString "make_file"]) ((recsOf QV).map (·.name)) ((litsOf QV).map (·.1)) ((clssOf QV (looseW QV [PySem.Str.ofString "walk",PySem.Str.ofString "asked_of",PySem.Str.ofString "make_folder",PySem.Str.ofString "make_file"])).map (·.name)) && s.abs.heap.accountedOkI (importedModules (PySem.Challenge.rw_leadnames_k32_walks_that_fail).prog.main.body) && s.abs.heap.isNs mainGlobals && s.abs.heap.isNs builtinsNs && tablesOk QV s.abs.heap && (fun s=>xlAt QV [] s && recOk (RowW.records (OpenRow.toRowW (PySem.Challenge.rw_leadnames_k32_walks_that_fail).row)) s) s.abs && (if true then s.abs.gens.size == 0 else !leftWithCleanup s.abs.gens)))=some (true):=by kernel_rfl
theorem q4 (w:World) (os:OsState):((dJ PySem.W.Fast.tw6613529449190102663 (PySem.W.Fast.tw10156331382660048174 (PySem.W.Fast.tw11892475500146522536 PySem.W.Fast.tw14364793385576792824) (PySem.Challenge.rw_leadnames_k32_walks_that_fail).prog w) 11 (some (.ref 6)) 16394 ⟨L2.eD w.params,11,{},Array.mk [],boot_drawn,boot_toks,os⟩ (topStub (PySem.Challenge.rw_leadnames_k32_walks_that_fail).prog))).map (fun s=>tabsOk QV s.abs)=some (true):=by kernel_rfl
theorem S2 (w:World) (os:OsState):((dJ PySem.W.Fast.tw6613529449190102663 (PySem.W.Fast.tw10156331382660048174 (PySem.W.Fast.tw11892475500146522536 PySem.W.Fast.tw14364793385576792824) (PySem.Challenge.rw_leadnames_k32_walks_that_fail).prog w) 11 (some (.ref 6)) 16394 ⟨L2.eD w.params,11,{},Array.mk [],boot_drawn,boot_toks,os⟩ (topStub (PySem.Challenge.rw_leadnames_k32_walks_that_fail).prog))).map (fun s=>(((plainsOf QV (looseW QV [PySem.Str.ofString "walk",PySem.Str.ofString "asked_of",PySem.Str.ofString "make_folder",PySem.Str.ofString "make_file"])).take 8).take 4).map fun c=>s.abs.heap.plainShapeAt c.withCmp)=some ((((plainsOf QV (looseW QV [PySem.Str.ofString "walk",PySem.Str.ofString "asked_of",PySem.Str.ofString "make_folder",PySem.Str.ofString "make_file"])).take 8).take 4).map fun c=>some c.withCmp.plainShape):=by kernel_rfl
theorem T6 (w:World) (os:OsState):((dJ PySem.W.Fast.tw6613529449190102663 (PySem.W.Fast.tw10156331382660048174 (PySem.W.Fast.tw11892475500146522536 PySem.W.Fast.tw14364793385576792824) (PySem.Challenge.rw_leadnames_k32_walks_that_fail).prog w) 11 (some (.ref 6)) 16394 ⟨L2.eD w.params,11,{},Array.mk [],boot_drawn,boot_toks,os⟩ (topStub (PySem.Challenge.rw_leadnames_k32_walks_that_fail).prog))).map (fun s=>(((plainsOf QV (looseW QV [PySem.Str.ofString "walk",PySem.Str.ofString "asked_of",PySem.Str.ofString "make_folder",PySem.Str.ofString "make_file"])).take 8).drop 4).map fun c=>s.abs.heap.plainShapeAt c.withCmp)=some ((((plainsOf QV (looseW QV [PySem.Str.ofString "walk",PySem.Str.ofString "asked_of",PySem.Str.ofString "make_folder",PySem.Str.ofString "make_file"])).take 8).drop 4).map fun c=>some c.withCmp.plainShape):=by kernel_rfl
theorem OZ (w:World) (os:OsState):((dJ PySem.W.Fast.tw6613529449190102663 (PySem.W.Fast.tw10156331382660048174 (PySem.W.Fast.tw11892475500146522536 PySem.W.Fast.tw14364793385576792824) (PySem.Challenge.rw_leadnames_k32_walks_that_fail).prog w) 11 (some (.ref 6)) 16394 ⟨L2.eD w.params,11,{},Array.mk [],boot_drawn,boot_toks,os⟩ (topStub (PySem.Challenge.rw_leadnames_k32_walks_that_fail).prog))).map (fun s=>((plainsOf QV (looseW QV [PySem.Str.ofString "walk",PySem.Str.ofString "asked_of",PySem.Str.ofString "make_folder",PySem.Str.ofString "make_file"])).take 8).map fun c=>s.abs.heap.plainShapeAt c.withCmp)=some (((plainsOf QV (looseW QV [PySem.Str.ofString "walk",PySem.Str.ofString "asked_of",PySem.Str.ofString "make_folder",PySem.Str.ofString "make_file"])).take 8).map fun c=>some c.withCmp.plainShape):=L2.rT 4 (S2 w os) (T6 w os)
theorem MO (w:World) (os:OsState):((dJ PySem.W.Fast.tw6613529449190102663 (PySem.W.Fast.tw10156331382660048174 (PySem.W.Fast.tw11892475500146522536 PySem.W.Fast.tw14364793385576792824) (PySem.Challenge.rw_leadnames_k32_walks_that_fail).prog w) 11 (some (.ref 6)) 16394 ⟨L2.eD w.params,11,{},Array.mk [],boot_drawn,boot_toks,os⟩ (topStub (PySem.Challenge.rw_leadnames_k32_walks_that_fail).prog))).map (fun s=>((plainsOf QV (looseW QV [PySem.Str.ofString "walk",PySem.Str.ofString "asked_of",PySem.Str.ofString "make_folder",PySem.Str.ofString "make_file"])).drop 8).map fun c=>s.abs.heap.plainShapeAt c.withCmp)=some (((plainsOf QV (looseW QV [PySem.Str.ofString "walk",PySem.Str.ofString "asked_of",PySem.Str.ofString "make_folder",PySem.Str.ofString "make_file"])).drop 8).map fun c=>some c.withCmp.plainShape):=by kernel_rfl
theorem q6 (w:World) (os:OsState):((dJ PySem.W.Fast.tw6613529449190102663 (PySem.W.Fast.tw10156331382660048174 (PySem.W.Fast.tw11892475500146522536 PySem.W.Fast.tw14364793385576792824) (PySem.Challenge.rw_leadnames_k32_walks_that_fail).prog w) 11 (some (.ref 6)) 16394 ⟨L2.eD w.params,11,{},Array.mk [],boot_drawn,boot_toks,os⟩ (topStub (PySem.Challenge.rw_leadnames_k32_walks_that_fail).prog))).map (fun s=>plainSeenE QV (looseW QV [PySem.Str.ofString "walk",PySem.Str.ofString "asked_of",PySem.Str.ofString "make_folder",PySem.Str.ofString "make_file"]) s.abs)=some (plainGoodE QV (looseW QV [PySem.Str.ofString "walk",PySem.Str.ofString "asked_of",PySem.Str.ofString "make_folder",PySem.Str.ofString "make_file"])):=L2.rT 8 (OZ w os) (MO w os)
end L2.bD
end
section
open PySem PySem.W PyProof.Rows
local macro_rules | `(tactic| o_head $H)=>`(tactic| (refine (by assumption:∀ h':PySem.W.Hook,h'=_→PySem.W.OpenRow.Holds _) $H ?_; rfl))
set_option maxHeartbeats 0 in
noncomputable def L2.bD.eh:(h:Hook) ×' ((∀ h':Hook,h'=h→(PySem.Challenge.rw_leadnames_k32_walks_that_fail).row.Holds)→(PySem.Challenge.rw_leadnames_k32_walks_that_fail).row.Holds):=by
 refine' ⟨_,fun x=>_⟩
 rotate_left
 k_head
end
section
open PySem PySem.W PyProof.Rows
namespace L2.bD
set_option maxHeartbeats 0
theorem ya (w:World) (os:OsState):((dJ PySem.W.Fast.tw6613529449190102663 (PySem.W.Fast.tw10156331382660048174 (PySem.W.Fast.tw11892475500146522536 PySem.W.Fast.tw14364793385576792824) (PySem.Challenge.rw_leadnames_k32_walks_that_fail).prog w) 11 (some (.ref 6)) 16394 ⟨L2.eD w.params,11,{},Array.mk [],boot_drawn,boot_toks,os⟩ (topStub (PySem.Challenge.rw_leadnames_k32_walks_that_fail).prog))).map (fun s=>(((eh.heap_1 w.params).take 355).take 177).map fun p=>s.abs.heap.get? p.1)=some ((((eh.heap_1 w.params).take 355).take 177).map fun p=>some p.2):=by kernel_rfl
theorem yb (w:World) (os:OsState):((dJ PySem.W.Fast.tw6613529449190102663 (PySem.W.Fast.tw10156331382660048174 (PySem.W.Fast.tw11892475500146522536 PySem.W.Fast.tw14364793385576792824) (PySem.Challenge.rw_leadnames_k32_walks_that_fail).prog w) 11 (some (.ref 6)) 16394 ⟨L2.eD w.params,11,{},Array.mk [],boot_drawn,boot_toks,os⟩ (topStub (PySem.Challenge.rw_leadnames_k32_walks_that_fail).prog))).map (fun s=>(((eh.heap_1 w.params).take 355).drop 177).map fun p=>s.abs.heap.get? p.1)=some ((((eh.heap_1 w.params).take 355).drop 177).map fun p=>some p.2):=by kernel_rfl
theorem yc (w:World) (os:OsState):((dJ PySem.W.Fast.tw6613529449190102663 (PySem.W.Fast.tw10156331382660048174 (PySem.W.Fast.tw11892475500146522536 PySem.W.Fast.tw14364793385576792824) (PySem.Challenge.rw_leadnames_k32_walks_that_fail).prog w) 11 (some (.ref 6)) 16394 ⟨L2.eD w.params,11,{},Array.mk [],boot_drawn,boot_toks,os⟩ (topStub (PySem.Challenge.rw_leadnames_k32_walks_that_fail).prog))).map (fun s=>(((eh.heap_1 w.params).drop 355).take 178).map fun p=>s.abs.heap.get? p.1)=some ((((eh.heap_1 w.params).drop 355).take 178).map fun p=>some p.2):=by kernel_rfl
theorem yd (w:World) (os:OsState):((dJ PySem.W.Fast.tw6613529449190102663 (PySem.W.Fast.tw10156331382660048174 (PySem.W.Fast.tw11892475500146522536 PySem.W.Fast.tw14364793385576792824) (PySem.Challenge.rw_leadnames_k32_walks_that_fail).prog w) 11 (some (.ref 6)) 16394 ⟨L2.eD w.params,11,{},Array.mk [],boot_drawn,boot_toks,os⟩ (topStub (PySem.Challenge.rw_leadnames_k32_walks_that_fail).prog))).map (fun s=>(((eh.heap_1 w.params).drop 355).drop 178).map fun p=>s.abs.heap.get? p.1)=some ((((eh.heap_1 w.params).drop 355).drop 178).map fun p=>some p.2):=by kernel_rfl
theorem kJ (w:World) (os:OsState):((dJ PySem.W.Fast.tw6613529449190102663 (PySem.W.Fast.tw10156331382660048174 (PySem.W.Fast.tw11892475500146522536 PySem.W.Fast.tw14364793385576792824) (PySem.Challenge.rw_leadnames_k32_walks_that_fail).prog w) 11 (some (.ref 6)) 16394 ⟨L2.eD w.params,11,{},Array.mk [],boot_drawn,boot_toks,os⟩ (topStub (PySem.Challenge.rw_leadnames_k32_walks_that_fail).prog))).map (fun s=>Hook.obs eh.1 s.abs)=some (Hook.val eh.1 w) :=
 L2.Wg (K:=eh.heap_1) (e:=fun _=>by kernel_rfl) (L2.rT 355 (L2.rT 177 (ya w os) (yb w os)) (L2.rT 178 (yc w os) (yd w os)))
end L2.bD
local macro_rules | `(tactic| o_law)=>`(tactic| refine PySem.W.holds_law L2.bD.Gb fun Gb=>?_)
local macro_rules | `(tactic| k_head)=>`(tactic| (
 refine holds_open (q:=L2.bD.QV) (loose:=[PySem.Str.ofString "walk",PySem.Str.ofString "asked_of",PySem.Str.ofString "make_folder",PySem.Str.ofString "make_file"]) (Xt:=fun s=>xlAt L2.bD.QV [] s && recOk (RowW.records (OpenRow.toRowW (PySem.Challenge.rw_leadnames_k32_walks_that_fail).row)) s) (XP:=XL L2.bD.QV []) (Yf:=Hook.obs L2.bD.eh.1) (Ya:=Hook.val L2.bD.eh.1) (YP:=Hook.says L2.bD.eh.1) (N:=16394) ?hl (Hook.of L2.bD.eh.1) (Hook.keeps L2.bD.eh.1) (fun s e=>xl_of s (Bool.and_eq_true_iff.mp e).1) XL.keeps (by rfl) (by rfl) (by rfl) (fun s e=>recFacts_of (Bool.and_eq_true_iff.mp e).2) (by rfl) (by first | assumption | decide +kernel) (by decide +kernel) ⟨rfl,rfl,rfl,rfl,rfl,by decide +kernel⟩ ?hw ?hc
 case hl =>
  refine L2.LeftO.MB PySem.W.Fast.te6613529449190102663 PySem.W.Fast.te10156331382660048174 PySem.W.Fast.te11892475500146522536 PySem.W.Fast.te14364793385576792824 L2.bD.rj L2.bD.cv L2.bD.gG (fun w os=>?_);exact L2.Qi (L2.tW (L2.bD.qL w os)) (L2.bD.RQ w os) (L2.tW (L2.hX (L2.bD.qL w os))) (L2.bD.q3 w os) (L2.bD.q4 w os) (L2.tW (L2.hX (L2.hX (L2.bD.qL w os)))) (L2.bD.q6 w os) (L2.tW (L2.hX (L2.hX (L2.hX (L2.bD.qL w os))))) (L2.bD.OE w os) (L2.hX (L2.hX (L2.hX (L2.hX (L2.bD.qL w os))))) (L2.bD.kJ w os)))
set_option maxHeartbeats 0 in
open_top L2.bD.hd0 for PySem.Challenge.rw_leadnames_k32_walks_that_fail
end

namespace L2
open PySem PySem.Spec PyProof.Rows
abbrev Key:=Sum Int Str
def lY:Key→Value→Bool
 | .inl k,v=>Value.isInt k v
 | .inr x,v=>Value.isStrOf x v
def MS (w:World):Key→Int
 | .inl k=>hashInt k
 | .inr x=>hashStr w x
theorem jk:∀ {k:Key} {v:Value},lY k v=true→(∃ i t,k=Sum.inl i∧v=Value.int i t)∨(∃ x t,k=Sum.inr x∧v=Value.str x t)
 | .inl i,v,h=>by
  obtain ⟨t,e⟩:=Value.isInt_shape (k:=i) (v:=v) h;exact .inl ⟨i,t,rfl,e⟩
 | .inr x,v,h=>by
  obtain ⟨t,e⟩:=Value.isStrOf_shape (x:=x) (v:=v) h;exact .inr ⟨x,t,rfl,e⟩
theorem SU (i:Int) (t:Tok):lY (.inl i) (.int i t)=true:=by simp [lY,Value.isInt]
theorem N2 (x:Str) (t:Tok):lY (.inr x) (.str x t)=true:=by simp [lY,Value.isStrOf]
theorem KL (a b:Int):decide ((Sum.inl a:Key)=Sum.inl b)=(a == b):=by
 by_cases e:a=b
 ·subst e; simp
 ·have h:¬ (Sum.inl a:Key)=Sum.inl b:=fun q=>e (Sum.inl.inj q);rw [decide_eq_false h];exact (beq_eq_false_iff_ne.mpr e).symm
theorem OK (a b:Str):decide ((Sum.inr a:Key)=Sum.inr b)=decide (a=b):=by
 by_cases e:a=b
 ·subst e; simp
 ·have h:¬ (Sum.inr a:Key)=Sum.inr b:=fun q=>e (Sum.inr.inj q);rw [decide_eq_false h,decide_eq_false e]
theorem SI (a:Int) (b:Str):decide ((Sum.inl a:Key)=Sum.inr b)=false:=decide_eq_false (fun q=>nomatch q)
theorem RE (a:Str) (b:Int):decide ((Sum.inr a:Key)=Sum.inl b)=false:=decide_eq_false (fun q=>nomatch q)
def dU (prog:Program) (w:World):PySem.KeyKind prog w Key where
 is:=lY
 hash:=MS w
 inj:=fun v a b ha hb=>by
  rcases jk ha with ⟨i,t,rfl,rfl⟩ | ⟨x,t,rfl,rfl⟩
  ·rcases jk hb with ⟨j,u,rfl,e⟩ | ⟨y,u,rfl,e⟩
   ·injection e with e1 _; rw [e1]
   ·exact nomatch e
  ·rcases jk hb with ⟨j,u,rfl,e⟩ | ⟨y,u,rfl,e⟩
   ·exact nomatch e
   ·injection e with e1 _; rw [e1]
 byValue:=fun k v h=>by
  rcases jk h with ⟨i,t,rfl,rfl⟩ | ⟨x,t,rfl,rfl⟩ <;> rfl
 pyHash:=fun hv h=>by
  rcases jk hv with ⟨i,t,rfl,rfl⟩ | ⟨x,t,rfl,rfl⟩
  ·exact wpAny_pyHash_int h
  ·exact wpAny_pyHash_str h
 eqBool:=fun hu hv h=>by
  rcases jk hu with ⟨i,t,rfl,rfl⟩ | ⟨x,t,rfl,rfl⟩
  ·rcases jk hv with ⟨j,u,rfl,rfl⟩ | ⟨y,u,rfl,rfl⟩
   ·rw [KL] at h; exact wpAny_eqBool_int h
   ·rw [SI] at h; exact SeqAt.EqAt.int_str i t y u _ _ _ _ h
  ·rcases jk hv with ⟨j,u,rfl,rfl⟩ | ⟨y,u,rfl,rfl⟩
   ·rw [RE] at h; exact SeqAt.EqAt.str_int x t j u _ _ _ _ h
   ·rw [OK] at h; exact wpAny_eqBool_str h
 «strs»:=fun k x t v h=>by
  rcases jk h with ⟨i,u,rfl,e⟩ | ⟨y,u,rfl,e⟩
  ·exact nomatch e
  ·injection e with e1 _;subst e1;cases v <;> rfl
theorem Ry (prog:Program) (w:World) (i:Int) (t:Tok):(dU prog w).is (.inl i) (.int i t)=true:=SU i t
theorem LF (prog:Program) (w:World) (x:Str) (t:Tok):(dU prog w).is (.inr x) (.str x t)=true:=N2 x t
end L2
namespace L2
open PySem PySem.Spec PyProof.Rows
inductive V where
 | ax | bl (b:Bool) | int (i:Int) | str (x:Str) | byt (b:Array UInt8) | lW (b:UInt64) | ref (a:Addr) | ty (n:String)
 deriving DecidableEq
def RelV:V→Value→Prop
 | .ax,u=>u=Value.none
 | .bl b,u=>u=Value.bool b
 | .int i,u=>∃ t,u=Value.int i t
 | .str x,u=>∃ t,u=Value.str x t
 | .byt b,u=>∃ t,u=Value.bytes b t
 | .lW b,u=>∃ t,u=Value.float b t
 | .ref a,u=>u=Value.ref a
 | .ty n,u=>u=Value.type n
abbrev Vals:List V→List Value→Prop:=Paired RelV
theorem Vals.length {xs:List V} {us:List Value} (r:Vals xs us):xs.length=us.length:=Paired.length r
theorem Vals.get:∀ {xs:List V} {us:List Value} {i:Nat} {x:V},Vals xs us→xs[i]?=some x→∃ u,us[i]?=some u∧RelV x u
 | _,_,_,_,.nil,e=>by simp at e
 | _,_,0,_,.cons r _,e=>by simp at e; subst e; exact ⟨_,rfl,r⟩
 | _,_,i+1,x,.cons _ t,e=>by
  obtain ⟨u,h1,h2⟩:=Vals.get (i:=i) (x:=x) t (by simpa using e);exact ⟨u,by simpa using h1,h2⟩
theorem Vals.set {x:V} {u:Value} (r:RelV x u):∀ {xs:List V} {us:List Value} (i:Nat),Vals xs us→Vals (xs.set i x) (us.set i u)
 | _,_,_,.nil=>.nil
 | _,_,0,.cons _ t=>.cons r t
 | _,_,i+1,.cons q t=>.cons q (Vals.set r i t)
theorem Vals.append:∀ {xs ys:List V} {us ws:List Value},Vals xs us→Vals ys ws→Vals (xs++ys) (us++ws)
 | _,_,_,_,.nil,s=>s
 | _,_,_,_,.cons r t,s=>.cons r (Vals.append t s)
theorem Vals.take:∀ {xs:List V} {us:List Value} (n:Nat),Vals xs us→Vals (xs.take n) (us.take n)
 | _,_,0,_=>.nil
 | _,_,_+1,.nil=>.nil
 | _,_,n+1,.cons r t=>.cons r (Vals.take n t)
theorem Vals.drop:∀ {xs:List V} {us:List Value} (n:Nat),Vals xs us→Vals (xs.drop n) (us.drop n)
 | _,_,0,r=>r
 | _,_,_+1,.nil=>.nil
 | _,_,n+1,.cons _ t=>Vals.drop n t
def dS:Option V→Option Value→Prop
 | some v,some u=>RelV v u
 | none,none=>True
 | _,_=>False
def KV {κ:Type}:List (κ×V)→List (κ×Value)→Prop:=Paired fun (p:κ×V) (q:κ×Value)=>p.1=q.1∧RelV p.2 q.2
def kV:Key→V
 | .inl i=>.int i
 | .inr x=>.str x
inductive HO where
 /-- a list -/
 | lst (xs:List V)
 /-- a tuple (never changes) -/
 | tup (xs:List V)
 /-- a dict whose keys are ints and texts; one whose keys are tuples of ints and texts (gb empty one is both) -/
 | dK (kvs:List (Key×V)) | dT (kvs:List (List Key×V))
 /-- a set of ints: aq members,aq size -/
 | set (S:Int→Bool) (n:Nat)
 /-- an instance of gb class at C,aq dict at dx,aq attributes -/
 | ins (C dx:Addr) (fs:List (Str×V))
 /-- gb dict of gb instance at x -/
 | own (x:Addr)
 /-- gb dict of an exception -/
 | xd (fs:List (Str×V))
 /-- a bound method,f of x -/
 | met (f x:Addr)
 /-- a range object lo,lo+1,.. below hi -/
 | uA (lo hi:Int)
 /-- a thing that is known to gb object (gb script; a dict while a loop walks it): read,never written while it is so -/
 | dY (o:Obj) (u:HO)
 /-- a code object's table -/
 | km (ps:Array Value)
 /-- any other thing,by what is true of aq one object (a def of one's own: SetO a S n:=HO.ext fun h=>..) -/
 | ext (φ:Heap→Prop)
abbrev Hp:=Addr→Option HO
def upd (H:Hp) (a:Addr) (o:HO):Hp:=fun b=>if b=a then some o else H b
theorem ay {H:Hp} {a:Addr} {o:HO}:upd H a o a=some o:=by unfold upd; rw [if_pos rfl]
theorem ah {H:Hp} {a b:Addr} {o:HO} (h:b≠a):upd H a o b=H b:=by unfold upd; rw [if_neg h]
theorem kb {H:Hp} {a:Addr} {o u:HO}:upd (upd H a o) a u=upd H a u:=by
 funext b; unfold upd; split <;> rfl
theorem PD {H:Hp} {a b:Addr} {o u:HO} (h:H a=some o) (h':H b=some u) (d:o≠u):a≠b:=by
 intro e; subst e; rw [h] at h'; exact d (Option.some.inj h')
theorem fe {H:Hp} {a b:Addr} {o:HO} (h:H a=some o) (h':H b=none):a≠b:=by
 intro e; subst e; rw [h] at h'; cases h'
section
variable (P:Program) (w:World)
def bP (H:Hp) (h:Heap) (a:Addr):HO→Prop
 | .lst xs=>xs.length≤sizeLine∧∃ (aq:List Value) (n:Nat),Vals xs aq∧h.get? a=some { cls:=.type "list",data:=.seq aq.toArray n }
 | .tup xs=>xs.length≤sizeLine∧∃ aq:List Value,Vals xs aq∧IsTup h a aq.toArray
 | .dK kvs=>kvs.length≤sizeLine∧(a == sysModules)=false∧∃ vs,KV kvs vs∧h.DictOf (dU P w) a vs
 | .dT kvs=>kvs.length≤sizeLine∧(a == sysModules)=false∧∃ xs:List (List Key×Addr×Value),
   Paired (fun (p:List Key×V) (q:List Key×Addr×Value)=>p.1=q.1∧H q.2.1=some (.tup (p.1.map kV))∧RelV p.2 q.2.2) kvs xs ∧
   ∃ o es ep,h.get? a=some o∧o.ExactDict∧o.data=.dict es ep∧es.toList=xs.map (entryOfKey (tupleKind (dU P w)))∧(xs.map (·.1)).Nodup
 | .set S n=>h.SetOf (intKind P w) a S n
 | .ins C dx fs=>H dx=some (.own a)∧fs.length≤1000∧dx≠a∧h.get? a=some (PySem.W.instObj C dx) ∧
   ∃ mA,h.Ns1 dx mA∧(∀ f,dS (fs.lookup f) (mA f))∧PySem.Within mA (fs.map (·.1))
 | .own _=>∃ o,h.get? a=some o
 | .xd fs=>∃ mA,h.Ns1 a mA∧∀ f,dS (fs.lookup f) (mA f)
 | .uA lo hi=>∃ t u v,h.get? a=some { cls:=.type "range",data:=.fields #[.int lo t,.int hi u,.int 1 v] }
 | .dY o u=>h.get? a=some o∧bP H h a u
 | .km ps=>h.get? a=some { cls:=.none,data:=.fields ps }
 | .met f x=>h.get? a=some (PySem.W.methodObj (.ref f) (.ref x))
 | .ext φ=>φ h∧(∃ o,h.get? a=some o)∧∀ h1 h2:Heap,φ h1→(∀ o,h1.get? a=some o→h2.get? a=some o)→φ h2
def bS (H:Hp) (h:Heap):Prop:=∀ a o,H a=some o→bP P w H h a o
end
section
variable {P:Program} {w:World} {H H':Hp} {h h':Heap} {a:Addr} {o:HO}
theorem bP.lt (x:bP P w H h a o):a < h.objs.size:=by
 cases o with
 | lst xs=>obtain ⟨_,_,_,_,e⟩:=x; exact Heap.lt_size e
 | tup xs=>obtain ⟨_,_,_,p⟩:=x; exact p.lt
 | dK kvs=>obtain ⟨_,_,_,_,o,_,_,e,_⟩:=x; exact Heap.lt_size e
 | dT kvs=>obtain ⟨_,_,_,_,o,_,_,e,_⟩:=x; exact Heap.lt_size e
 | set S n=>obtain ⟨o,_,_,_,e,_⟩:=x; exact Heap.lt_size e
 | ins C dx fs=>obtain ⟨_,_,_,e,_⟩:=x; exact Heap.lt_size e
 | own y=>obtain ⟨_,e⟩:=x; exact Heap.lt_size e
 | xd fs=>obtain ⟨_,⟨_,_,_,e,_⟩,_⟩:=x; exact Heap.lt_size e
 | uA lo hi=>obtain ⟨_,_,_,e⟩:=x; exact Heap.lt_size e
 | dY ob u=>obtain ⟨e,_⟩:=x; exact Heap.lt_size e
 | km ps=>exact Heap.lt_size (show h.get? a=some _ from x)
 | met f y=>exact Heap.lt_size (show h.get? a=some _ from x)
 | ext φ=>obtain ⟨_,⟨_,e⟩,_⟩:=x; exact Heap.lt_size e
theorem Paired.wQ {α β:Type} {F G:α→β→Prop}:∀ {l₁:List α} {l₂:List β},Paired F l₁ l₂→(∀ a b,F a b→G a b)→Paired G l₁ l₂
 | _,_,.nil,_=>.nil
 | _,_,.cons r t,f=>.cons (f _ _ r) (Paired.wQ t f)
theorem bP.ei (x:bP P w H h a o) (k:∀ b u,(b=a∨H b=some (.own a))→h.get? b=some u→h'.get? b=some u)
  (ho:∀ b,H b=some (.own a)→H' b=some (.own a)) (ht:∀ b xs,H b=some (.tup xs)→H' b=some (.tup xs)):bP P w H' h' a o:=by
 induction o with
 | lst xs=>obtain ⟨z,aq,n,r,e⟩:=x; exact ⟨z,aq,n,r,k _ _ (.inl rfl) e⟩
 | tup xs=>obtain ⟨z,aq,r,ob,e,c⟩:=x; exact ⟨z,aq,r,ob,k _ _ (.inl rfl) e,c⟩
 | dK kvs=>obtain ⟨z,y,vs,r,ob,es,ep,e,c⟩:=x; exact ⟨z,y,vs,r,ob,es,ep,k _ _ (.inl rfl) e,c⟩
 | dT kvs =>
  obtain ⟨z,y,xs,r,ob,es,ep,e,c⟩:=x;exact ⟨z,y,xs,Paired.wQ r fun p q z=>⟨z.1,ht _ _ z.2.1,z.2.2⟩,ob,es,ep,k _ _ (.inl rfl) e,c⟩
 | set S n=>obtain ⟨ob,es,ep,t,e,c⟩:=x; exact ⟨ob,es,ep,t,k _ _ (.inl rfl) e,c⟩
 | ins C dx fs =>
  obtain ⟨d,z,ne,e,mA,⟨od,es,ep,e2,c⟩,r⟩:=x;exact ⟨ho _ d,z,ne,k _ _ (.inl rfl) e,mA,⟨od,es,ep,k _ _ (.inr d) e2,c⟩,r⟩
 | own y=>obtain ⟨ob,e⟩:=x; exact ⟨ob,k _ _ (.inl rfl) e⟩
 | xd fs=>obtain ⟨mA,⟨od,es,ep,e,c⟩,r⟩:=x; exact ⟨mA,⟨od,es,ep,k _ _ (.inl rfl) e,c⟩,r⟩
 | uA lo hi=>obtain ⟨t,u,v,e⟩:=x; exact ⟨t,u,v,k _ _ (.inl rfl) e⟩
 | dY ob u ih=>obtain ⟨e,q⟩:=x; exact ⟨k _ _ (.inl rfl) e,ih q⟩
 | km ps =>
  have e:h.get? a=some { cls:=.none,data:=.fields ps }:=x;show h'.get? a=some { cls:=.none,data:=.fields ps };exact k a _ (.inl rfl) e
 | met f y =>
  have e:h.get? a=some (PySem.W.methodObj (.ref f) (.ref y)):=x;show h'.get? a=some (PySem.W.methodObj (.ref f) (.ref y));exact k a _ (.inl rfl) e
 | ext φ=>obtain ⟨p,⟨o,e⟩,st⟩:=x; exact ⟨st _ _ p fun o q=>k _ _ (.inl rfl) q,⟨o,k _ _ (.inl rfl) e⟩,st⟩
theorem bS.lt (x:bS P w H h) (e:H a=some o):a < h.objs.size:=(x a o e).lt
theorem bS.fresh (x:bS P w H h) (e:h.objs.size≤a):H a=none:=by
 cases q:H a with
 | none=>rfl
 | some u=>exact absurd (Nat.lt_of_lt_of_le (x.lt q) e) (Nat.lt_irrefl _)
theorem bS.kept (x:bS P w H h) (k:∀ b u,h.get? b=some u→h'.get? b=some u):bS P w H h':=fun a o e =>
 (x a o e).ei (fun b u _ q=>k b u q) (fun _ q=>q) fun _ _ q=>q
theorem bS.laid (x:bS P w H h) (k:∀ b u,h.get? b=some u→h'.get? b=some u) (hp:h.objs.size≤a) (new:bP P w (upd H a o) h' a o):bS P w (upd H a o) h':=fun b u e=>by
 have hn:=x.fresh hp;by_cases hb:b=a
 ·subst hb; rw [ay] at e; cases e; exact new
 ·rw [ah hb] at e;exact (x b u e).ei (fun c v _ q=>k c v q) (fun c q=>by rw [ah (fe q hn)]; exact q) fun c xs q=>by rw [ah (fe q hn)]; exact q
end
def Rd (H:Hp) (a:Addr) (u:HO):Prop:=H a=some u∨∃ o,H a=some (.dY o u)
theorem Rd.ok {P:Program} {w:World} {H:Hp} {h:Heap} {a:Addr} {u:HO} (r:Rd H a u) (x:bS P w H h):bP P w H h a u:=by
 rcases r with r | ⟨o,r⟩
 ·exact x a u r
 ·obtain ⟨_,q⟩:=x a _ r;exact q
def p9:Option HO→Prop
 | some (.lst _)=>True
 | some (.dK _)=>True
 | some (.dT _)=>True
 | some (.set _ _)=>True
 | some (.ins _ _ _)=>True
 | some (.ext _)=>True
 | _=>False
section
variable {P:Program} {w:World} {H:Hp} {h h':Heap} {x e:Addr} {o':HO}
theorem bS.write (ok:bS P w H h) (mu:p9 (H x)) (he:e=x∨H e=some (.own x)) (k:∀ b u,b≠e→h.get? b=some u→h'.get? b=some u) (pH:∃ u,h'.get? e=some u)
  (new:bP P w (upd H x o') h' x o'):bS P w (upd H x o') h':=fun b u q=>by
 have JD:∀ c y,H c=some (.own y)→c≠x:=fun c y r z=>by subst z; rw [r] at mu; exact mu
 have ntup:∀ c xs,H c=some (.tup xs)→c≠x:=fun c xs r z=>by subst z; rw [r] at mu; exact mu
 by_cases hb:b=x
 ·subst hb; rw [ay] at q; cases q; exact new
 ·rw [ah hb] at q;by_cases mS:b=e
  ·have q':H b=some (.own x):=by
    rcases he with z | z
    ·exact absurd (mS.trans z) hb
    ·rw [mS]; exact z
   rw [q] at q'; cases q';obtain ⟨v,hv⟩:=pH;exact ⟨v,by rw [mS]; exact hv⟩
  ·refine (ok b u q).ei (fun c v hc r=>k c v ?_ r) (fun c r=>by rw [ah (JD c b r)]; exact r) fun c xs r=>by rw [ah (ntup c xs r)]; exact r
   rcases hc with rfl | hc
   ·exact mS
   ·rintro rfl;rcases he with z | z
    ·exact JD c b hc z
    ·rw [hc] at z; cases z; exact hb rfl
end
structure Un (fs ex:List Addr) (H H':Hp) (h h':Heap):Prop where
 keep:∀ b o,h.get? b=some o→H b=none→b ∉ fs→b ∉ ex→h'.get? b=some o
 slot:∀ b o,h.get? b=some o→H b=none→b∈fs→b ∉ ex→∃ sl,h'.get? b=some { o with slots:=sl }
 free:∀ b o,h.get? b=some o→H b=none→b ∉ ex→H' b=none
 there:∀ b o,h.get? b=some o→b ∉ ex→∃ o',h'.get? b=some o'
 fo:∀ b xs,H b=some (.tup xs)→H' b=some (.tup xs)
 eZ:∀ b o u,H b=some (.dY o u)→H' b=some (.dY o u)
 fE:∀ b ps,H b=some (.km ps)→∃ more,H' b=some (.km (ps++more))
section
variable {fs fs' ex ex':List Addr} {H H1 H2:Hp} {h h1 h2 h':Heap} {a x e:Addr} {o:HO}
theorem Un.any (u:Un fs ex H H1 h h1) {b:Addr} {ob:Obj} (q:h.get? b=some ob) (n:H b=none) (hx:b ∉ ex):∃ sl,h1.get? b=some { ob with slots:=sl }:=by
 by_cases hb:b∈fs
 ·exact u.slot b ob q n hb hx
 ·exact ⟨ob.slots,u.keep b ob q n hb hx⟩
theorem Un.kept (k:∀ b u,h.get? b=some u→h'.get? b=some u):Un fs ex H H h h' :=
 ⟨fun b ob q _ _ _=>k b ob q,fun b ob q _ _ _=>⟨ob.slots,k b ob q⟩,fun _ _ _ n _=>n,fun b ob q _=>⟨ob,k b ob q⟩,fun _ _ q=>q,fun _ _ _ q=>q,fun _ ps q=>⟨#[],by rw [q]; simp⟩⟩
theorem Un.refl:Un fs ex H H h h:=Un.kept fun _ _ q=>q
theorem Un.laid (k:∀ b u,h.get? b=some u→h'.get? b=some u) (hp:h.objs.size≤a) (hn:H a=none):Un fs ex H (upd H a o) h h' where
 keep:=fun b u q _ _ _=>k b u q
 slot:=fun b u q _ _ _=>⟨u.slots,k b u q⟩
 free:=fun b u q n _=>by rw [ah (Nat.ne_of_lt (Nat.lt_of_lt_of_le (Heap.lt_size q) hp))]; exact n
 there:=fun b u q _=>⟨u,k b u q⟩
 fo:=fun b xs q=>by rw [ah (fe q hn)]; exact q
 eZ:=fun b u xs q=>by rw [ah (fe q hn)]; exact q
 fE:=fun b ps q=>⟨#[],by rw [ah (fe q hn),q]; simp⟩
theorem Un.write (mu:p9 (H x)) (he:e=x∨H e=some (.own x)) (k:∀ b u,b≠e→h.get? b=some u→h'.get? b=some u) (pH:∃ u,h'.get? e=some u):Un fs ex H (upd H x o) h h':=by
 have hx:∀ b,H b=none→b≠x:=fun b n z=>by subst z; rw [n] at mu; exact mu
 have hb:∀ b,H b=none→b≠e:=fun b n z=>by
  subst z;rcases he with r | r
  ·exact hx b n r
  ·rw [n] at r; cases r
 have hm:∀ b u,H b=some u→¬ p9 (some u)→b≠x:=fun b u q nm z=>by subst z; rw [q] at mu; exact nm mu
 refine ⟨fun b u q n _ _=>k b u (hb b n) q,fun b u q n _ _=>⟨u.slots,k b u (hb b n) q⟩,fun b u q n _=>by rw [ah (hx b n)]; exact n,fun b u q _=>?_,
  fun b xs q=>by rw [ah (hm b _ q fun z=>z)]; exact q,fun b u xs q=>by rw [ah (hm b _ q fun z=>z)]; exact q,fun b ps q=>⟨#[],by rw [ah (hm b _ q fun z=>z),q]; simp⟩⟩
 by_cases mS:b=e
 ·subst mS; exact pH
 ·exact ⟨u,k b u mS q⟩
end
def tF (h:Heap) (H:Hp):List Addr:=(List.range h.objs.size).filter fun a=>(H a).isSome
def jc (h:Heap) (H:Hp):Heap:=PySem.W.hideAll h (tF h H)
theorem UC (h:Heap) (H:Hp):(jc h H).objs.size=h.objs.size:=PySem.W.hideAll_size _ _
theorem UM {h:Heap} {H:Hp} {b:Addr} {o:Obj} (e:h.get? b=some o) (n:H b=none):(jc h H).get? b=some o :=
 PySem.W.hideAll_get _ e fun hm=>by
  have q:(H b).isSome=true:=(List.mem_filter.mp hm).2;rw [n] at q; simp at q
theorem Ro {h:Heap} {H:Hp} {b:Addr} {o:Obj} (e:(jc h H).get? b=some o):h.get? b=some o∧H b=none:=by
 have e':h.get? b=some o:=PySem.W.of_hideAll (tF h H) e;refine ⟨e',?_⟩;cases q:H b with
 | none=>rfl
 | some x =>
  have hm:b∈tF h H:=List.mem_filter.mpr ⟨List.mem_range.mpr (Heap.lt_size e'),by simp [q]⟩;have z:(jc h H).get? b=none:=PySem.W.hideAll_none (tF h H) hm;rw [z] at e; cases e
def KA (g h:Heap) (L:Addr):List (Addr×Obj):=(List.range h.objs.size).filterMap fun a=>if a=L∨(g.get? a).isSome=true then none else (h.get? a).map fun o=>(a,o)
def rest (g h:Heap) (L d:Addr):List (Addr×Obj):=(KA g h L).filter fun p=>decide (p.1≠d)
end L2
namespace L2
open PySem PySem.Spec PyProof.Rows
structure Mod (K:PySem.W.Frag) (mg:Str→Option Value) (base:Heap):Prop where
 gK:K.In base
 glob:base.Ns mainGlobals mg
 blt:∃ mb,base.Ns builtinsNs mb∧∀ x:Str,x ≠ "__name__" → mb x=bootBuiltins x
 nolimit:base.NoLimit
structure Cx where
 prog:Program
 w:World
 K:PySem.W.Frag
 mg:Str→Option Value
 base:Heap
 A:Around
 N:List Str
 s₀:Shared
 H₀:Hp
 env:Env
 outer:List Env
 stack:List Env
 ex:List Addr
 fn:Str→Bool
 calm:Bool
 pn:List (Addr×Obj)
 xe:Value→Shared→Prop
def bH (l:List Env):List Addr:=l.filterMap (·.frame)
abbrev Cx.fs (X:Cx):List Addr:=bH X.outer
def pX (sc:Scope) (x:Str):Prop:=sc.names.lookup x=some .local∨sc.names.lookup x=some .cell∨sc.names.lookup x=some .free
def Loc (sc:Scope) (x:Str):Prop:=sc.names.lookup x=some .local∨sc.names.lookup x=some .cell
def Look (env:Env) (h:Heap) (m:Str→Option Value) (x:Str) (u:Value):Prop :=
 (env.kindOf x=some .local∧m x=some u)∨((env.kindOf x=some .cell∨env.kindOf x=some .free)∧∃ c,env.cells.lookup x=some c∧h.IsCell c (some u))
structure Cx.Ok (X:Cx):Prop where
 mod:Mod X.K X.mg X.base
 kind:X.env.scope.kind=.function
 glob:X.env.globals=mainGlobals
 blt:X.env.builtins=builtinsNs
 above:X.s₀.heap.objs.size≤X.env.locals
 inj:∀ x y c,X.env.cells.lookup x=some c→X.env.cells.lookup y=some c→x=y
 has:∀ x,(X.env.kindOf x=some .cell∨X.env.kindOf x=some .free)→∃ c,X.env.cells.lookup x=some c
 kD:∀ x c,X.fn x=true→X.env.cells.lookup x=some c→X.s₀.heap.objs.size≤c
 hd:X.calm=true→X.A.handled=none
 frames:X.A.frames=some X.stack
 cM:X.stack=X.outer∨(X.stack=X.env::X.outer∧X.env.frame=some X.env.locals)
 pU:∀ b∈X.ex,b≠X.env.locals∧∀ x c,X.env.cells.lookup x=some c→c≠b
 bs:∀ b o,X.base.get? b=some o→X.s₀.heap.get? b=some o∧X.H₀ b=none
 gr:X.base.objs.size≤X.s₀.heap.objs.size
 ku:∀ b o,X.base.get? b=some o→b ∉ X.ex
 kC:∀ b∈X.ex,b ∉ X.fs
 fb:X.s₀.heap.FunFrames X.base X.outer
 iG:∀ b∈X.fs,X.H₀ b=none
structure Inv (X:Cx) (pins:List (Addr×Obj)) (σ:List (Option V)) (H:Hp) (s:Shared):Prop where
 ok:X.Ok
 os:s.os=X.s₀.os
 bare:AllBare s.gens
 base:Un X.fs X.ex X.H₀ H X.s₀.heap s.heap
 loc:∃ m,s.heap.Ns X.env.locals m∧∀ (i:Nat) (x:Str) (v:V),X.N[i]?=some x→σ[i]?=some (some v)→pX X.env.scope x→∃ u,RelV v u∧Look X.env s.heap m x u
 cell:∀ x c,X.env.cells.lookup x=some c→∃ v,s.heap.IsCell c v
 free:H X.env.locals=none
 eV:∀ x c,X.env.cells.lookup x=some c→H c=none
 pin:∀ p∈X.pn++pins,s.heap.get? p.1=some p.2∧H p.1=none∧p.1≠X.env.locals∧p.1 ∉ X.fs∧∀ v,p.2.data≠.cell v
 aC:bS X.prog X.w H s.heap
 len:σ.length=X.N.length
section
variable {X:Cx} {pins:List (Addr×Obj)} {σ:List (Option V)} {H H':Hp} {s:Shared} {h':Heap}
theorem Cx.Ok.TM (ok:X.Ok) {b:Addr} {o:Obj} (e:X.base.get? b=some o):b ∉ X.fs:=fun hb=>by
 have:=(ok.fb.mem hb).1;rw [e] at this; cases this
theorem Inv.bs (I:Inv X pins σ H s):∀ b o,X.base.get? b=some o→s.heap.get? b=some o∧H b=none:=fun b o e =>
 ⟨I.base.keep b o (I.ok.bs b o e).1 (I.ok.bs b o e).2 (I.ok.TM e) (I.ok.ku b o e),I.base.free b o (I.ok.bs b o e).1 (I.ok.bs b o e).2 (I.ok.ku b o e)⟩
theorem Inv.bk (I:Inv X pins σ H s):∀ b o,X.base.get? b=some o→s.heap.get? b=some o:=fun b o e=>(I.bs b o e).1
theorem Inv.mod (I:Inv X pins σ H s):Mod X.K X.mg X.base:=I.ok.mod
theorem Inv.bQ (I:Inv X pins σ H s):X.K.In s.heap:=I.ok.mod.gK.keeps I.bk
theorem Inv.lt (I:Inv X pins σ H s):X.env.locals < s.heap.objs.size:=let ⟨_,hn,_⟩:=I.loc; hn.lt
theorem Inv.sz (I:Inv X pins σ H s):X.s₀.heap.objs.size≤s.heap.objs.size:=Nat.le_trans I.ok.above (Nat.le_of_lt I.lt)
theorem Inv.FU (I:Inv X pins σ H s) {a:Addr} (h:s.heap.objs.size≤a):a ∉ X.fs:=fun hb=>by
 obtain ⟨_,o,ho,_⟩:=I.ok.fb.mem hb;exact absurd (Nat.lt_of_lt_of_le (Heap.lt_size ho) (Nat.le_trans I.sz h)) (Nat.lt_irrefl _)
theorem Inv.lI (I:Inv X pins σ H s):∀ x c,X.env.cells.lookup x=some c→c≠X.env.locals:=fun x c e z=>by
 obtain ⟨v,o,ho,hd⟩:=I.cell x c e;obtain ⟨m,⟨o',es,ep,ho',hd',_⟩,_⟩:=I.loc;rw [z,ho'] at ho; cases ho; rw [hd'] at hd; cases hd
theorem Inv.fb (I:Inv X pins σ H s):s.heap.FunFrames X.base X.outer:=by
 have all:∀ (l:List Env),(∀ b∈bH l,b∈X.fs)→X.s₀.heap.FunFrames X.base l→s.heap.FunFrames X.base l:=by
  intro l
  induction l with
  | nil=>intro _ _; trivial
  | cons env r ih =>
   intro hs hl;obtain ⟨hk,⟨L,o,hf,hn,ho,hd⟩,hr⟩:=hl;have hL:L∈X.fs:=hs L (by unfold bH; rw [List.filterMap_cons,hf]; exact List.mem_cons_self);obtain ⟨sl,e⟩:=I.base.slot L o ho (I.ok.iG L hL) hL fun z=>I.ok.kC L z hL;exact ⟨hk,⟨L,_,hf,hn,e,hd⟩,ih (fun b hb=>hs b (by unfold bH; rw [List.filterMap_cons,hf]; exact List.mem_cons_of_mem _ hb)) hr⟩
 exact all X.outer (fun _ hb=>hb) I.ok.fb
theorem Inv.stack (I:Inv X pins σ H s):s.heap.FunFrames X.base X.stack:=by
 rcases I.ok.cM with e | ⟨e,hf⟩
 ·rw [e]; exact I.fb
 ·rw [e];obtain ⟨m,hn,_⟩:=I.loc;refine .cons (by rw [I.ok.kind]; decide) hf hn ?_ I.fb;exact Heap.get?_none_of_le (Nat.le_trans I.ok.gr I.ok.above)
theorem Inv.ux (I:Inv X pins σ H s):∀ b∈bH X.stack,b∈X.env.locals::X.fs:=fun b hb=>by
 rcases I.ok.cM with e | ⟨e,hf⟩
 ·rw [e] at hb; exact List.mem_cons_of_mem _ hb
 ·rw [e] at hb;unfold bH at hb;rw [List.filterMap_cons,hf] at hb;exact hb
theorem Inv.tY (I:Inv X pins σ H s):∀ b∈bH X.stack,H b=none:=fun b hb=>by
 rcases List.mem_cons.mp (I.ux b hb) with e | hb
 ·rw [e]; exact I.free
 ·obtain ⟨_,o,ho,_⟩:=I.ok.fb.mem hb;exact I.base.free b o ho (I.ok.iG b hb) fun z=>I.ok.kC b z hb
theorem Inv.step {g':Array GenState} {t':Nat} {d':Drawn} {ch:List Addr} (I:Inv X pins σ H s)
  (iY:∀ b∈ch,(b∈X.ex∨X.s₀.heap.objs.size≤b)∧b≠X.env.locals∧(∀ x c,X.env.cells.lookup x=some c→c≠b)∧∀ p∈X.pn++pins,p.1≠b)
  (keep:∀ b o,b≠X.env.locals→b ∉ X.fs→b ∉ ch→s.heap.get? b=some o→H b=none→h'.get? b=some o)
  (slot:∀ b o,b≠X.env.locals→b∈X.fs→b ∉ ch→s.heap.get? b=some o→H b=none→∃ sl,h'.get? b=some { o with slots:=sl }) (free:∀ b o,b ∉ ch→s.heap.get? b=some o→H b=none→H' b=none)
  (there:∀ b o,b ∉ ch→s.heap.get? b=some o→∃ o',h'.get? b=some o')
  (fo:∀ b xs,H b=some (.tup xs)→H' b=some (.tup xs)) (eZ:∀ b o u,H b=some (.dY o u)→H' b=some (.dY o u)) (fE:∀ b ps,H b=some (.km ps)→∃ more,H' b=some (.km (ps++more)))
  (ns:∀ m,s.heap.Ns X.env.locals m→h'.Ns X.env.locals m) (aC:bS X.prog X.w H' h') (hg:AllBare g') :
  Inv X pins σ H' { s with heap:=h',gens:=g',drawn:=d',toks:=t' }:=by
 have sV:∀ b o,X.s₀.heap.get? b=some o→b≠X.env.locals:=fun b o e=>Nat.ne_of_lt (Nat.lt_of_lt_of_le (Heap.lt_size e) I.ok.above);have vx:∀ b o,X.s₀.heap.get? b=some o→b ∉ X.ex→b ∉ ch:=fun b o e hx hb=>by
  rcases (iY b hb).1 with z | z
  ·exact hx z
  ·exact absurd (Nat.lt_of_lt_of_le (Heap.lt_size e) z) (Nat.lt_irrefl _)
 have cellK:∀ x c,X.env.cells.lookup x=some c→∀ v,s.heap.IsCell c v→h'.IsCell c v:=fun x c e v ⟨o,ho,hd⟩=>by
  have sO:c ∉ ch:=fun z=>(iY c z).2.2.1 x c e rfl;by_cases hc:c∈X.fs
  ·obtain ⟨sl,q⟩:=slot c o (I.lI x c e) hc sO ho (I.eV x c e);exact ⟨_,q,hd⟩
  ·exact ⟨o,keep c o (I.lI x c e) hc sO ho (I.eV x c e),hd⟩
 refine ⟨I.ok,I.os,hg,⟨fun b o e n hb hx=>?_,fun b o e n hb hx=>?_,fun b o e n hx=>?_,fun b o e hx=>?_,fun b xs e=>fo b xs (I.base.fo b xs e),fun b o xs e=>eZ b o xs (I.base.eZ b o xs e),fun b ps e=>?_⟩,?_,fun x c e=>?_,?_,fun x c e=>?_,fun p hp=>?_,aC,I.len⟩
 ·exact keep b o (sV b o e) hb (vx b o e hx) (I.base.keep b o e n hb hx) (I.base.free b o e n hx)
 ·obtain ⟨sl,e1⟩:=I.base.slot b o e n hb hx;obtain ⟨sl',e2⟩:=slot b _ (sV b o e) hb (vx b o e hx) e1 (I.base.free b o e n hx);exact ⟨sl',e2⟩
 ·obtain ⟨o',e1⟩:=I.base.there b o e hx;exact free b o' (vx b o e hx) e1 (I.base.free b o e n hx)
 ·obtain ⟨o',e1⟩:=I.base.there b o e hx;exact there b o' (vx b o e hx) e1
 ·obtain ⟨m1,e1⟩:=I.base.fE b ps e;obtain ⟨m2,e2⟩:=fE b _ e1;exact ⟨m1++m2,by rw [e2,Array.append_assoc]⟩
 ·obtain ⟨m,hn,hl⟩:=I.loc;refine ⟨m,ns m hn,fun i x v e1 e2 e3=>?_⟩;obtain ⟨u,r,l⟩:=hl i x v e1 e2 e3;refine ⟨u,r,?_⟩;rcases l with l | ⟨k,c,e,z⟩
  ·exact .inl l
  ·exact .inr ⟨k,c,e,cellK x c e _ z⟩
 ·obtain ⟨v,z⟩:=I.cell x c e;exact ⟨v,cellK x c e v z⟩
 ·obtain ⟨m,⟨o,_,_,ho,_⟩,_⟩:=I.loc;exact free _ o (fun z=>(iY _ z).2.1 rfl) ho I.free
 ·obtain ⟨v,o,ho,hd⟩:=I.cell x c e;exact free c o (fun z=>(iY c z).2.2.1 x c e rfl) ho (I.eV x c e)
 ·obtain ⟨e,n,ne,nf,d⟩:=I.pin p hp;have sO:p.1 ∉ ch:=fun z=>(iY p.1 z).2.2.2 p hp rfl;exact ⟨keep p.1 p.2 ne nf sO e n,free p.1 p.2 sO e n,ne,nf,d⟩
theorem Inv.un {t':Nat} (I:Inv X pins σ H s) (u:Un X.fs [] H H' s.heap h') (aC:bS X.prog X.w H' h'):Inv X pins σ H' { s with heap:=h',toks:=t' }:=by
 obtain ⟨m,⟨o,es,ep,ho,r⟩,_⟩:=id I.loc;obtain ⟨sl,hL⟩:=u.any ho I.free (by simp);exact I.step (g':=s.gens) (d':=s.drawn) (ch:=[]) (fun _ z=>nomatch z) (fun b o _ hb _ e n=>u.keep b o e n hb (by simp)) (fun b o _ hb _ e n=>u.slot b o e n hb (by simp)) (fun b o _ e n=>u.free b o e n (by simp)) (fun b o _ e=>u.there b o e (by simp)) u.fo u.eZ u.fE (fun m' hm=>by
  obtain ⟨o',es',ep',ho',r'⟩:=hm;rw [ho] at ho'; cases ho';exact ⟨_,es',ep',hL,r'⟩) aC I.bare
theorem Inv.call {g':Array GenState} {t':Nat} {d':Drawn} {ch:List Addr} (I:Inv X pins σ H s) (u:Un (bH X.stack) ch H H' s.heap h') (aC:bS X.prog X.w H' h') (hg:AllBare g')
  (iY:∀ b∈ch,(b∈X.ex∨X.s₀.heap.objs.size≤b)∧b≠X.env.locals∧(∀ x c,X.env.cells.lookup x=some c→c≠b)∧∀ p∈X.pn++pins,p.1≠b) :
  Inv X pins σ H' { s with heap:=h',gens:=g',drawn:=d',toks:=t' }:=by
 obtain ⟨m,⟨o,es,ep,ho,r⟩,_⟩:=id I.loc;obtain ⟨sl,hL⟩:=u.any ho I.free fun z=>(iY _ z).2.1 rfl;exact I.step (ch:=ch) iY (fun b o hL hb hc e n=>u.keep b o e n (fun z=>(List.mem_cons.mp (I.ux b z)).elim hL hb) hc) (fun b o _ _ hc e n=>u.any e n hc) (fun b o hc e n=>u.free b o e n hc) (fun b o hc e=>u.there b o e hc) u.fo u.eZ u.fE (fun m' hm=>by
  obtain ⟨o',es',ep',ho',r'⟩:=hm;rw [ho] at ho'; cases ho';exact ⟨_,es',ep',hL,r'⟩) aC hg
theorem Inv.turned {t':Nat} {it:Addr} (I:Inv X pins σ H s) (k:∀ b o,b≠it→s.heap.get? b=some o→h'.get? b=some o) (hn:H it=none) (hL:it≠X.env.locals)
  (h1:it∈X.ex∨X.s₀.heap.objs.size≤it) (h2:∀ x c,X.env.cells.lookup x=some c→c≠it) (h3:∀ p∈X.pn++pins,p.1≠it):Inv X pins σ H { s with heap:=h',toks:=t' }:=by
 have JE:∀ b u,H b=some u→b≠it:=fun b u e z=>by rw [z,hn] at e; cases e
 refine I.step (g':=s.gens) (d':=s.drawn) (ch:=[it]) (fun b hb=>?_) (fun b o _ _ hc e _=>k b o (fun z=>hc (by simp [z])) e) (fun b o _ _ hc e _=>⟨o.slots,k b o (fun z=>hc (by simp [z])) e⟩) (fun _ _ _ _ n=>n)
  (fun b o hc e=>⟨o,k b o (fun z=>hc (by simp [z])) e⟩) (fun _ _ e=>e) (fun _ _ _ e=>e) (fun b ps e=>⟨#[],by rw [e]; simp⟩) (fun m hm=>?_) (fun b u e=>?_) I.bare
 ·have e:b=it:=by simpa using hb
  subst e;exact ⟨h1,hL,h2,h3⟩
 ·obtain ⟨o,es,ep,ho,r⟩:=hm;exact ⟨o,es,ep,k _ o (Ne.symm hL) ho,r⟩
 ·refine (I.aC b u e).ei (fun c v hc q=>k c v ?_ q) (fun _ q=>q) fun _ _ q=>q;rcases hc with z | z
  ·rw [z]; exact JE b u e
  ·exact JE c _ z
theorem Inv.tok (I:Inv X pins σ H s) (t:Nat):Inv X pins σ H { s with toks:=t }:=I.un (h':=s.heap) (t':=t) Un.refl I.aC
theorem Inv.kept {t':Nat} (I:Inv X pins σ H s) (k:∀ b u,s.heap.get? b=some u→h'.get? b=some u):Inv X pins σ H { s with heap:=h',toks:=t' }:=I.un (Un.kept k) (I.aC.kept k)
theorem Inv.laid {a:Addr} {o:HO} {t':Nat} (I:Inv X pins σ H s) (k:∀ b u,s.heap.get? b=some u→h'.get? b=some u) (hp:s.heap.objs.size≤a) (new:bP X.prog X.w (upd H a o) h' a o) :
  Inv X pins σ (upd H a o) { s with heap:=h',toks:=t' }:=I.un (Un.laid k hp (I.aC.fresh hp)) (I.aC.laid k hp new)
theorem Inv.write {x e:Addr} {o:HO} {t':Nat} (I:Inv X pins σ H s) (mu:p9 (H x)) (he:e=x∨H e=some (.own x)) (k:∀ b u,b≠e→s.heap.get? b=some u→h'.get? b=some u) (pH:∃ u,h'.get? e=some u)
  (new:bP X.prog X.w (upd H x o) h' x o):Inv X pins σ (upd H x o) { s with heap:=h',toks:=t' }:=I.un (Un.write mu he k pH) (I.aC.write mu he k pH new)
theorem Inv.rH {pins':List (Addr×Obj)} (I:Inv X pins σ H s) (h:∀ p∈pins',s.heap.get? p.1=some p.2∧H p.1=none∧p.1≠X.env.locals∧p.1 ∉ X.fs∧∀ v,p.2.data≠.cell v):Inv X pins' σ H s :=
 ⟨I.ok,I.os,I.bare,I.base,I.loc,I.cell,I.free,I.eV,fun p hp=>(List.mem_append.mp hp).elim (fun z=>I.pin p (List.mem_append_left _ z)) (h p),I.aC,I.len⟩
theorem Hx {N:List Str} (hN:N.Nodup) {i j:Nat} {x:Str} (a:N[i]?=some x) (b:N[j]?=some x):i=j:=by
 obtain ⟨h1,e1⟩:=List.getElem?_eq_some_iff.mp a;obtain ⟨h2,e2⟩:=List.getElem?_eq_some_iff.mp b;exact (List.getElem_inj hN).mp (e1.trans e2.symm)
theorem Fe {M:Model} {A:Around} {E:Value→Shared→Prop} {i:Nat} {x:Str} {v:V} {u:Value} {Q:Unit→Shared→Prop} (I:Inv X pins σ H s) (hN:X.N.Nodup) (hi:X.N[i]?=some x) (hx:Loc X.env.scope x) (r:RelV v u)
  (h:∀ s',Inv X pins (σ.set i (some v)) H s'→(∃ a,Heap.SameBut a s.heap s'.heap∧(a=X.env.locals∨X.env.cells.lookup x=some a))→Q () s') (hf:X.fn x=true∨X.env.scope.names.lookup x=some .local:=by first | exact .inl rfl | exact .inr rfl | assumption):wpAny M A (storeName X.env x u) Q E s:=by
 obtain ⟨m,hn,hl⟩:=id I.loc;have hcls:(X.env.scope.kind == .class || (X.env.scope.kind == .module && X.env.locals != X.env.globals))=false:=by rw [I.ok.kind]; rfl
 have Ju:i < σ.length:=by rw [I.len]; exact (List.getElem?_eq_some_iff.mp hi).1
 have lI:=I.lI;have tracked:∀ {a:Addr} {h':Heap},(∃ o,s.heap.get? a=some o∧H a=none)→Heap.SameBut a s.heap h'→bS X.prog X.w H h':=fun {a h'} ha hs b ob e=>by
  obtain ⟨_,_,kW⟩:=ha;refine (I.aC b ob e).ei (fun c w' hc q=>(hs.2 c ?_).trans q) (fun _ q=>q) fun _ _ q=>q;rintro rfl;rcases hc with rfl | hc
  ·rw [kW] at e; cases e
  ·rw [kW] at hc; cases hc
 rcases hx with hk | hk
 ·refine wpAny_storeName_local hk hn (fun h' hn' hs=>?_) hcls;obtain ⟨oL,_,_,jO,_⟩:=id hn;refine h _ ⟨I.ok,I.os,I.bare,⟨fun b o e n hb hx=>?_,fun b o e n hb hx=>?_,I.base.free,fun b o e hx=>?_,I.base.fo,I.base.eZ,I.base.fE⟩,⟨_,hn',fun j y v' e1 e2 e3=>?_⟩,fun y c e=>?_,I.free,I.eV,fun p hp=>?_,tracked ⟨oL,jO,I.free⟩ hs,by simpa using I.len⟩ ⟨_,hs,.inl rfl⟩
  ·exact (hs.2 b (Nat.ne_of_lt (Nat.lt_of_lt_of_le (Heap.lt_size e) I.ok.above))).trans (I.base.keep b o e n hb hx)
  ·obtain ⟨sl,e1⟩:=I.base.slot b o e n hb hx;exact ⟨sl,(hs.2 b (Nat.ne_of_lt (Nat.lt_of_lt_of_le (Heap.lt_size e) I.ok.above))).trans e1⟩
  ·obtain ⟨o',e1⟩:=I.base.there b o e hx;exact ⟨o',(hs.2 b (Nat.ne_of_lt (Nat.lt_of_lt_of_le (Heap.lt_size e) I.ok.above))).trans e1⟩
  ·by_cases hj:j=i
   ·subst hj;rw [hi] at e1; cases e1;rw [List.getElem?_set_self Ju] at e2;cases e2;exact ⟨u,r,.inl ⟨hk,by simp⟩⟩
   ·rw [List.getElem?_set_ne (Ne.symm hj)] at e2;obtain ⟨u',r',q⟩:=hl j y v' e1 e2 e3;refine ⟨u',r',?_⟩;rcases q with ⟨k,e⟩ | ⟨k,c,e,z⟩
    ·refine .inl ⟨k,?_⟩;have:y≠x:=fun e=>hj (Hx hN e1 (e ▸ hi));simp [this,e]
    ·exact .inr ⟨k,c,e,z.sameBut hs (lI y c e)⟩
  ·obtain ⟨w',z⟩:=I.cell y c e;exact ⟨w',z.sameBut hs (lI y c e)⟩
  ·obtain ⟨e,n,ne,nf,d⟩:=I.pin p hp;exact ⟨(hs.2 p.1 ne).trans e,n,ne,nf,d⟩
 ·have BC:X.fn x=true:=by
   rcases hf with z | z
   ·exact z
   ·rw [z] at hk; cases hk
  obtain ⟨c,hc⟩:=I.ok.has x (.inl hk);obtain ⟨w',z⟩:=I.cell x c hc;refine wpAny_storeName_cell I.ok.kind hk hc z (fun h' hc' hs=>?_);obtain ⟨oc,Jd,hocd⟩:=id z;refine h { s with heap:=h' } ⟨I.ok,I.os,I.bare,⟨fun b o e n hb hx=>?_,fun b o e n hb hx=>?_,I.base.free,fun b o e hx=>?_,I.base.fo,I.base.eZ,I.base.fE⟩,⟨m,hn.sameBut hs (Ne.symm (lI x c hc)),fun j y v' e1 e2 e3=>?_⟩,fun y c' e=>?_,I.free,I.eV,fun p hp=>?_,tracked ⟨oc,Jd,I.eV x c hc⟩ hs,by simpa using I.len⟩ ⟨c,hs,.inr hc⟩
  ·exact (hs.2 b (Nat.ne_of_lt (Nat.lt_of_lt_of_le (Heap.lt_size e) (I.ok.kD x c BC hc)))).trans (I.base.keep b o e n hb hx)
  ·obtain ⟨sl,e1⟩:=I.base.slot b o e n hb hx;exact ⟨sl,(hs.2 b (Nat.ne_of_lt (Nat.lt_of_lt_of_le (Heap.lt_size e) (I.ok.kD x c BC hc)))).trans e1⟩
  ·obtain ⟨o',e1⟩:=I.base.there b o e hx;exact ⟨o',(hs.2 b (Nat.ne_of_lt (Nat.lt_of_lt_of_le (Heap.lt_size e) (I.ok.kD x c BC hc)))).trans e1⟩
  ·by_cases hj:j=i
   ·subst hj;rw [hi] at e1; cases e1;rw [List.getElem?_set_self Ju] at e2;cases e2;exact ⟨u,r,.inr ⟨.inl hk,c,hc,hc'⟩⟩
   ·rw [List.getElem?_set_ne (Ne.symm hj)] at e2;obtain ⟨u',r',q⟩:=hl j y v' e1 e2 e3;refine ⟨u',r',?_⟩;rcases q with q | ⟨k,c',e,z'⟩
    ·exact .inl q
    ·refine .inr ⟨k,c',e,z'.sameBut hs ?_⟩;rintro rfl;exact hj (Hx hN e1 (I.ok.inj _ _ _ e hc ▸ hi))
  ·by_cases vC:c'=c
   ·subst vC; exact ⟨_,hc'⟩
   ·obtain ⟨w2,z2⟩:=I.cell y c' e;exact ⟨w2,z2.sameBut hs vC⟩
  ·obtain ⟨e,n,ne,nf,d⟩:=I.pin p hp;refine ⟨(hs.2 p.1 ?_).trans e,n,ne,nf,d⟩;intro q;rw [q,Jd] at e;have q':oc=p.2:=Option.some.inj e;exact d w' (by rw [← q']; exact hocd)
theorem F2 {M:Model} {A:Around} {E:Value→Shared→Prop} {i:Nat} {x:Str} {v:V} {u:Value} {Q:Unit→Shared→Prop} (I:Inv X pins σ H s) (hN:X.N.Nodup) (hi:X.N[i]?=some x) (hx:Loc X.env.scope x) (r:RelV v u)
  (h:∀ s',Inv X pins (σ.set i (some v)) H s'→Q () s') (hf:X.fn x=true∨X.env.scope.names.lookup x=some .local:=by first | exact .inl rfl | exact .inr rfl | assumption):wpAny M A (storeName X.env x u) Q E s :=
 Fe I hN hi hx r (fun s' I' _=>h s' I') hf
theorem Inv.FF {s':Shared} {ch:List Addr} (I:Inv X pins σ H s) (ho:s'.os=s.os) (u:Un (bH X.stack) ch H H' s.heap s'.heap) (aC:bS X.prog X.w H' s'.heap) (hg:AllBare s'.gens)
  (iY:∀ b∈ch,(b∈X.ex∨X.s₀.heap.objs.size≤b)∧b≠X.env.locals∧(∀ x c,X.env.cells.lookup x=some c→c≠b)∧∀ p∈X.pn++pins,p.1≠b):Inv X pins σ H' s':=by
 obtain ⟨h',g',d',t',o'⟩:=s';have e:o'=s.os:=ho;subst e;exact I.call (g':=g') (t':=t') (d':=d') u aC hg iY
end
abbrev XK:=Value→Option Addr→Hp→Prop
abbrev St:=List (Option V)
abbrev VK:=V→Hp→Prop
abbrev TE:=St→Hp→VK→Prop
abbrev TT:=St→Hp→(Bool→Hp→Prop)→Prop
abbrev TA:=St→Hp→(List V→Hp→Prop)→Prop
structure Ends where
 nx:St→Hp→Prop
 rt:VK
 bk:St→Hp→Prop:=fun _ _=>False
 ct:St→Hp→Prop:=fun _ _=>False
abbrev TS:=Ends→St→Hp→Prop
def EP (X:Cx) (pins:List (Addr×Obj)) (σ:St) (Q:VK) (u:Value) (s':Shared):Prop:=∃ v H',Inv X pins σ H' s'∧RelV v u∧Q v H'
def TP (X:Cx) (pins:List (Addr×Obj)) (σ:St) (Q:Bool→Hp→Prop) (b:Bool) (s':Shared):Prop:=∃ H',Inv X pins σ H' s'∧Q b H'
def AP (X:Cx) (pins:List (Addr×Obj)) (σ:St) (Q:List V→Hp→Prop) (us:List Value) (s':Shared):Prop:=∃ vs H',Inv X pins σ H' s'∧Vals vs us∧Q vs H'
def SP (X:Cx) (pins:List (Addr×Obj)) (D:Ends) (f:Flow) (s':Shared):Prop :=
 match f with
 | .next=>∃ σ' H',Inv X pins σ' H' s'∧D.nx σ' H'
 | .brk=>∃ σ' H',Inv X pins σ' H' s'∧D.bk σ' H'
 | .cont=>∃ σ' H',Inv X pins σ' H' s'∧D.ct σ' H'
 | .ret u=>∃ v σ' H',Inv X pins σ' H' s'∧RelV v u∧D.rt v H'
def PE (X:Cx) (e:Expr) (t:TE):Prop :=
 ∀ (pins:List (Addr×Obj)) (s:Shared) (σ:St) (H:Hp) (Q:VK),Inv X pins σ H s→t σ H Q→wpAny (model X.prog X.w) X.A (eval e X.env) (EP X pins σ Q) X.xe s
def PT (X:Cx) (e:Expr) (t:TT):Prop :=
 ∀ (pins:List (Addr×Obj)) (s:Shared) (σ:St) (H:Hp) (Q:Bool→Hp→Prop),Inv X pins σ H s→t σ H Q→wpAny (model X.prog X.w) X.A (isTrue e X.env (eval e X.env)) (TP X pins σ Q) X.xe s
def PW (X:Cx) (e:Expr) (t:TT):Prop :=
 ∀ (whole:Sem Value) (pins:List (Addr×Obj)) (s:Shared) (σ:St) (H:Hp) (Q:Bool→Hp→Prop),Inv X pins σ H s→t σ H Q→wpAny (model X.prog X.w) X.A (isTrue e X.env whole) (TP X pins σ Q) X.xe s
theorem PW.pt {X:Cx} {e:Expr} {t:TT} (h:PW X e t):PT X e t:=h _
def PA (X:Cx) (es:List Expr) (t:TA):Prop :=
 ∀ (pos:Pos) (pins:List (Addr×Obj)) (s:Shared) (σ:St) (H:Hp) (Q:List V→Hp→Prop),Inv X pins σ H s→t σ H Q→wpAny (model X.prog X.w) X.A (spliced (backTo pos (starEach es X.env))) (AP X pins σ Q) X.xe s
def PS (X:Cx) (st:Stmt) (t:TS):Prop :=
 ∀ (pins:List (Addr×Obj)) (s:Shared) (σ:St) (H:Hp) (D:Ends),Inv X pins σ H s→t D σ H→wpAny (model X.prog X.w) X.A (exec st X.env) (SP X pins D) X.xe s
def cT (X:Cx) (st:List Stmt) (t:TS):Prop :=
 ∀ (pins:List (Addr×Obj)) (s:Shared) (σ:St) (H:Hp) (D:Ends),Inv X pins σ H s→t D σ H→wpAny (model X.prog X.w) X.A (execs st X.env) (SP X pins D) X.xe s
theorem aE {α:Type} {t:Sem α} {Q Q':α→Shared→Prop} {M:Model} {A:Around} {E:Value→Shared→Prop} {s:Shared} (h:wpAny M A t Q E s) (hQ:∀ a s,Q a s→Q' a s):wpAny M A t Q' E s:=wpAny_mono h hQ fun _ _ x=>x
end L2
namespace L2
open PySem PySem.Spec PyProof.Rows
section
variable {X:Cx}
def Hn (i:Nat):TE:=fun σ H Q=>∃ v,σ[i]?=some (some v)∧Q v H
def tC (v:V):TE:=fun _ H Q=>Q v H
theorem Fy {i:Nat} {x:Str} {pos:Pos} (hN:X.N[i]?=some x) (hv:pX X.env.scope x) (hd:(x == ("__debug__" : Str))=false:=by decide) (cI:(x == ("__classdict__" : Str))=false:=by decide):PE X (.Name x pos) (Hn i):=by
 intro pins s σ H Q I h;obtain ⟨v,e,h⟩:=h;obtain ⟨m,hn,hl⟩:=I.loc;obtain ⟨u,r,l⟩:=hl i x v hN e hv;have fin:EP X pins σ Q u s:=⟨v,H,I,r,h⟩;rcases l with ⟨hk,hm⟩ | ⟨hk,c,hc,J4⟩
 ·exact wpAny_Name (wpAny_loadName_local I.ok.kind hk hn hm fin) hd
 ·rcases hk with hk | hk
  ·exact wpAny_Name (wpAny_loadName_cell I.ok.kind hk hc J4 fin) hd
  ·exact wpAny_Name (wpAny_loadName_free I.ok.kind hk hc J4 fin cI) hd
theorem T1 {i j pos}:PE X (.Constant (.int i) j pos) (tC (.int i)):=fun _ _ _ H _ I h=>wpAny_Constant_int ⟨.int i,H,I.tok _,⟨_,rfl⟩,h⟩
theorem Ue {b j pos}:PE X (.Constant (.bool b) j pos) (tC (.bl b)):=fun _ _ _ H _ I h=>Constant_bool ⟨.bl b,H,I,rfl,h⟩
theorem Ny {j pos}:PE X (.Constant .none j pos) (tC .ax):=fun _ _ _ H _ I h=>Constant_none ⟨.ax,H,I,rfl,h⟩
theorem Rn {x j pos}:PE X (.Constant (.str x) j pos) (tC (.str x)):=fun _ _ _ H _ I h=>Calls.Constant_str ⟨.str x,H,I.tok _,⟨_,rfl⟩,h⟩
def Gl (X:Cx) (x:Str):Prop:=X.env.kindOf x=some .globalImplicit
theorem jv {E:Value→Shared→Prop} {pins:List (Addr×Obj)} {s:Shared} {σ:St} {H:Hp} {x:Str} {u:Value} {pos:Pos} {Q:Value→Shared→Prop} (I:Inv X pins σ H s) (hg:Gl X x) (hm:X.mg x=some u) (h:Q u s)
  (hd:(x == ("__debug__" : Str))=false:=by decide):wpAny (model X.prog X.w) X.A (eval (.Name x pos) X.env) Q E s :=
 Calls.Name_function_global I.ok.kind hg (Calls.loadGlobal_global (by rw [I.ok.glob]; exact I.mod.glob.keeps I.bk) hm h) hd
theorem lx {E:Value→Shared→Prop} {pins:List (Addr×Obj)} {s:Shared} {σ:St} {H:Hp} {x:Str} {u:Value} {pos:Pos} {Q:Value→Shared→Prop} (I:Inv X pins σ H s) (hg:Gl X x) (hm:X.mg x=none) (hv:bootBuiltins x=some u) (h:Q u s)
  (hn:x ≠ "__name__" := by decide) (hd:(x == ("__debug__" : Str))=false:=by decide):wpAny (model X.prog X.w) X.A (eval (.Name x pos) X.env) Q E s:=by
 obtain ⟨mb,h1,h2⟩:=I.mod.blt;exact Calls.Name_function_global I.ok.kind hg (Calls.loadGlobal_builtin (by rw [I.ok.glob]; exact I.mod.glob.keeps I.bk) hm (by rw [I.ok.blt]; exact h1.keeps I.bk) ((h2 x hn).trans hv) h) hd
theorem Uk {x:Str} {v:V} {u:Value} {pos:Pos} (hg:Gl X x) (hm:X.mg x=some u) (r:RelV v u) (hd:(x == ("__debug__" : Str))=false:=by decide):PE X (.Name x pos) (tC v) :=
 fun _ _ _ H _ I h=>jv I hg hm ⟨v,H,I,r,h⟩ hd
theorem Mc {x:Str} {v:V} {u:Value} {pos:Pos} (hg:Gl X x) (hm:X.mg x=none) (hv:bootBuiltins x=some u) (r:RelV v u) (hn:x ≠ "__name__" := by decide) (hd:(x == ("__debug__" : Str))=false:=by decide):PE X (.Name x pos) (tC v) :=
 fun _ _ _ H _ I h=>lx I hg hm hv ⟨v,H,I,r,h⟩ hn hd
def Pm (ta tb:TE) (k:Int→Int→Hp→Prop):St→Hp→Prop:=fun σ H=>ta σ H fun x H1=>tb σ H1 fun y H2=>∃ i j,x=.int i∧y=.int j∧k i j H2
variable {a b:Expr} {ta tb:TE} {pos:Pos}
def PC (X:Cx) (op:CmpOp) (a b:Expr) (t:TE):Prop :=
 ∀ (pins:List (Addr×Obj)) (s:Shared) (σ:St) (H:Hp) (Q:VK),Inv X pins σ H s→t σ H Q →
  wpAny (model X.prog X.w) X.A (eval a X.env) (fun v s₁=>wpAny (model X.prog X.w) X.A (eval b X.env) (fun u s₂=>wpAny (model X.prog X.w) X.A (compareOp op v u) (EP X pins σ Q) X.xe s₂) X.xe s₁) X.xe s
theorem tK (b:Expr) {op:CmpOp} (h:op≠.In) (h2:op≠.NotIn):behindInMarks op b=false:=by
 have e1:(op == CmpOp.In)=false:=by cases op <;> first | rfl | exact absurd rfl h
 have e2:(op == CmpOp.NotIn)=false:=by cases op <;> first | rfl | exact absurd rfl h2
 cases b <;> simp [behindInMarks,e1,e2]
def nJ (p:Int→Int→Bool) (ta tb:TE):TE:=fun σ H Q=>Pm ta tb (fun i j H2=>Q (.bl (p i j)) H2) σ H
abbrev WH:TE→TE→TE:=nJ fun i j=>decide (i < j)
abbrev Wt:TE→TE→TE:=nJ fun i j=>decide (i≤j)
abbrev WL:TE→TE→TE:=nJ fun i j=>decide (j < i)
abbrev Wn:TE→TE→TE:=nJ fun i j=>decide (j≤i)
abbrev WK:TE→TE→TE:=nJ fun i j=>decide (i=j)
abbrev WN:TE→TE→TE:=nJ fun i j=>!decide (i=j)
def RC (ta:TE):TE:=fun σ H Q=>ta σ H fun x H1=>Q (.bl (decide (x=.ax))) H1
def tB (t:TE):TT:=fun σ H Q=>t σ H fun x H1=>∃ c,x=.bl c∧Q c H1
variable {tA tB':TT} {rest:List Expr}
def yP (t u:TT):TT:=fun σ H Q=>t σ H fun c H1=>if c=true then u σ H1 Q else Q false H1
def yg (t u:TT):TT:=fun σ H Q=>t σ H fun c H1=>if c=true then Q true H1 else u σ H1 Q
def xi (t:TT):TT:=fun σ H Q=>t σ H fun c H1=>Q (!c) H1
theorem SG (ha:PT X a tA):PW X (.BoolOp .And [a] pos) tA:=by
 intro wh pins s σ H Q I h;refine isTrue_and (aE (ha pins s σ H Q I h) fun c s1 e=>?_);cases c with
 | true=>exact isTrue_and_nil e
 | false=>exact e
theorem O7 (ha:PT X a tA):PW X (.BoolOp .Or [a] pos) tA:=by
 intro wh pins s σ H Q I h;refine isTrue_or (aE (ha pins s σ H Q I h) fun c s1 e=>?_);cases c with
 | false=>exact isTrue_or_nil e
 | true=>exact e
theorem RB (ha:PT X a tA) (hb:PW X (.BoolOp .And (b::rest) pos) tB'):PW X (.BoolOp .And (a::b::rest) pos) (yP tA tB'):=by
 intro wh pins s σ H Q I h;refine isTrue_and (aE (ha pins s σ H _ I h) fun c s1 ⟨H1,I1,q1⟩=>?_);cases c with
 | true=>exact hb wh pins s1 σ H1 Q I1 q1
 | false=>exact ⟨H1,I1,q1⟩
theorem LO (ha:PT X a tA) (hb:PW X (.BoolOp .Or (b::rest) pos) tB'):PW X (.BoolOp .Or (a::b::rest) pos) (yg tA tB'):=by
 intro wh pins s σ H Q I h;refine isTrue_or (aE (ha pins s σ H _ I h) fun c s1 ⟨H1,I1,q1⟩=>?_);cases c with
 | true=>exact ⟨H1,I1,q1⟩
 | false=>exact hb wh pins s1 σ H1 Q I1 q1
theorem N3 (ha:PT X a tA):PT X (.UnaryOp .Not a pos) (xi tA):=by
 intro pins s σ H Q I h;exact isTrue_not (ha pins s σ H (fun c H1=>Q (!c) H1) I h)
theorem MZ {op} {t:TE} (h:PE X a t):PE X (.BoolOp op [a] pos) t:=fun pins s σ H Q I hw=>BoolOp_one (h pins s σ H Q I hw)
def yH (t:TT) (ta tb:TE):TE:=fun σ H Q=>t σ H fun c H1=>if c=true then ta σ H1 Q else tb σ H1 Q
theorem Lk {c:Expr} (hc:PT X c tA) (ha:PE X a ta) (hb:PE X b tb):PE X (.IfExp c a b pos) (yH tA ta tb):=by
 intro pins s σ H Q I h;refine wpAny_IfExp (aE (hc pins s σ H _ I h) fun d s1 ⟨H1,I1,q1⟩=>?_);cases d with
 | true=>exact ha pins s1 σ H1 Q I1 q1
 | false=>exact hb pins s1 σ H1 Q I1 q1
end
end L2
namespace L2
open PySem PySem.Spec PyProof.Rows
def aL (K:PySem.W.Frag) (H:Hp) (a:Addr) (xs:List V):Prop :=
 Rd H a (.lst xs) ∨
  ∃ (o:Obj) (aq:Array Value) (n:Nat),K.lookup a=some o∧o.cls=.type "list" ∧ o.dict=none∧o.data=.seq aq n∧aq.size≤sizeLine∧Vals xs aq.toList
def bW (K:PySem.W.Frag) (H:Hp) (a:Addr) (xs:List V):Prop :=
 Rd H a (.tup xs) ∨
  ∃ (o:Obj) (aq:Array Value) (n:Nat),K.lookup a=some o∧o.cls=.type "tuple" ∧ o.data=.seq aq n∧aq.size≤sizeLine∧Vals xs aq.toList
def Ld:Value→Option V
 | .none=>some .ax
 | .bool b=>some (.bl b)
 | .int i _=>some (.int i)
 | .str x _=>some (.str x)
 | .bytes b _=>some (.byt b)
 | .float b _=>some (.lW b)
 | .ref a=>some (.ref a)
 | .type n=>some (.ty n)
 | _=>none
theorem RelV.abs {x:V} {u:Value} (r:RelV x u):Ld u=some x:=by
 cases x with
 | ax=>cases r; rfl
 | bl _=>cases r; rfl
 | int _=>obtain ⟨t,rfl⟩:=r; rfl
 | str _=>obtain ⟨t,rfl⟩:=r; rfl
 | byt _=>obtain ⟨t,rfl⟩:=r; rfl
 | lW _=>obtain ⟨t,rfl⟩:=r; rfl
 | ref _=>cases r; rfl
 | ty _=>cases r; rfl
theorem RelV.inj {x y:V} {u:Value} (r:RelV x u) (q:RelV y u):x=y:=Option.some.inj (r.abs.symm.trans q.abs)
theorem Vals.inj:∀ {xs ys:List V} {us:List Value},Vals xs us→Vals ys us→xs=ys
 | _,_,_,.nil,.nil=>rfl
 | _,_,_,.cons r t,.cons r' t'=>by rw [r.inj r',Vals.inj t t']
section
variable {X:Cx} {pins:List (Addr×Obj)} {σ:St} {H:Hp} {s:Shared} {a:Addr} {xs ys:List V}
theorem aL.of {K:PySem.W.Frag} (h:H a=some (.lst xs)):aL K H a xs:=.inl (.inl h)
theorem bW.of {K:PySem.W.Frag} (h:H a=some (.tup xs)):bW K H a xs:=.inl (.inl h)
theorem Inv.list (I:Inv X pins σ H s) (h:aL X.K H a xs):∃ aq:List Value,Vals xs aq∧PlainL s.heap a aq.toArray∧xs.length≤sizeLine:=by
 rcases h with h | ⟨o,aq,n,hk,hc,hd,hs,hz,r⟩
 ·obtain ⟨z,aq,n,r,e⟩:=h.ok I.aC;exact ⟨aq,r,⟨_,n,e,rfl,rfl,rfl⟩,z⟩
 ·refine ⟨aq.toList,r,⟨o,n,I.bQ a o hk,hc,hd,by simpa using hs⟩,?_⟩;have e:=r.length;simp only [Array.length_toList] at e;omega
theorem Inv.tuple (I:Inv X pins σ H s) (h:bW X.K H a xs):∃ aq:List Value,Vals xs aq∧IsTup s.heap a aq.toArray∧xs.length≤sizeLine:=by
 rcases h with h | ⟨o,aq,n,hk,hc,hs,hz,r⟩
 ·obtain ⟨z,aq,r,p⟩:=h.ok I.aC;exact ⟨aq,r,p,z⟩
 ·refine ⟨aq.toList,r,⟨o,I.bQ a o hk,hc,n,by simpa using hs⟩,?_⟩;have e:=r.length;simp only [Array.length_toList] at e;omega
theorem Inv.Uw (I:Inv X pins σ H s) (h:aL X.K H a xs) (h':aL X.K H a ys):xs=ys:=by
 obtain ⟨aq,r,⟨o,n,e,_,_,d⟩,_⟩:=I.list h;obtain ⟨its',r',⟨o',n',e',_,_,d'⟩,_⟩:=I.list h';rw [e] at e'; cases e';rw [d] at d';injection d' with d1 _;have:aq=its':=by simpa using congrArg Array.toList d1
 subst this;exact r.inj r'
end
abbrev Cx.ig (X:Cx) (E:Value→Shared→Prop):Cx:={ X with xe:=E }
abbrev Cx.nN (X:Cx):Cx:=X.ig fun _ _=>False
theorem Cx.Ok.ig {X:Cx} (ok:X.Ok) (E:Value→Shared→Prop):(X.ig E).Ok :=
 ⟨ok.mod,ok.kind,ok.glob,ok.blt,ok.above,ok.inj,ok.has,ok.kD,ok.hd,ok.frames,ok.cM,ok.pU,ok.bs,ok.gr,ok.ku,ok.kC,ok.fb,ok.iG⟩
theorem Cx.Ok.kg {X:Cx} {E:Value→Shared→Prop} (ok:(X.ig E).Ok):X.Ok :=
 ⟨ok.mod,ok.kind,ok.glob,ok.blt,ok.above,ok.inj,ok.has,ok.kD,ok.hd,ok.frames,ok.cM,ok.pU,ok.bs,ok.gr,ok.ku,ok.kC,ok.fb,ok.iG⟩
section
variable {X:Cx} {pins:List (Addr×Obj)} {σ:St} {H:Hp} {s:Shared} {E:Value→Shared→Prop}
theorem Inv.ig (I:Inv X pins σ H s) (E:Value→Shared→Prop):Inv (X.ig E) pins σ H s:=⟨I.ok.ig E,I.os,I.bare,I.base,I.loc,I.cell,I.free,I.eV,I.pin,I.aC,I.len⟩
theorem Inv.kg (I:Inv (X.ig E) pins σ H s):Inv X pins σ H s:=⟨I.ok.kg,I.os,I.bare,I.base,I.loc,I.cell,I.free,I.eV,I.pin,I.aC,I.len⟩
theorem SP.kg {D:Ends} {f:Flow} {s':Shared} (h:SP (X.ig E) pins D f s'):SP X pins D f s':=by
 cases f with
 | next=>obtain ⟨σ',H',I,q⟩:=h; exact ⟨σ',H',I.kg,q⟩
 | brk=>obtain ⟨σ',H',I,q⟩:=h; exact ⟨σ',H',I.kg,q⟩
 | cont=>obtain ⟨σ',H',I,q⟩:=h; exact ⟨σ',H',I.kg,q⟩
 | ret u=>obtain ⟨v,σ',H',I,r,q⟩:=h; exact ⟨v,σ',H',I.kg,r,q⟩
theorem cT.nN {st:List Stmt} {t:TS} (h:cT X.nN st t):cT X st t:=fun pins s σ H D I hw =>
 wpAny_mono (h pins s σ H D (I.ig _) hw) (fun _ _ q=>q.kg) fun _ _ z=>False.elim z
end
section
variable {X:Cx} {st:Stmt} {rest:List Stmt} {t u:TS} {e:Expr} {te:TE} {pos:Pos}
def yZ:TS:=fun D σ H=>D.nx σ H
def U5 (t u:TS):TS:=fun D σ H=>t { D with nx:=u D } σ H
theorem LM:cT X [] yZ:=fun _ _ σ H _ I h=>wpAny_execs_nil ⟨σ,H,I,h⟩
theorem Qk (h1:PS X st t) (h2:cT X rest u):cT X (st::rest) (U5 t u):=by
 intro pins s σ H D I h;refine wpAny_execs_cons (aE (h1 pins s σ H { D with nx:=u D } I h) fun f s1 q=>?_);cases f with
 | next =>
  obtain ⟨σ',H',I',q⟩:=q;exact h2 pins s1 σ' H' D I' q
 | ret v=>exact q
 | brk=>exact q
 | cont=>exact q
theorem Vh (h1:PS X st t):cT X [st] t:=by
 intro pins s σ H D I h;refine wpAny_execs_cons (aE (h1 pins s σ H D I h) fun f s1 q=>?_);cases f with
 | next=>exact wpAny_execs_nil q
 | ret v=>exact q
 | brk=>exact q
 | cont=>exact q
theorem Inv.quiet {pins:List (Addr×Obj)} {σ:St} {H:Hp} {s:Shared} (I:Inv X pins σ H s):interactive X.env=false:=by simp [interactive,I.ok.kind]
def wJ (te:TE):TS:=fun D σ H=>te σ H fun _ H1=>D.nx σ H1
theorem Mt (he:PE X e te) (hs:swapsWith e none pos.line X.env=pure false:=by rfl):PS X (.Expr e pos) (wJ te):=by
 intro pins s σ H D I h;exact wpAny_Expr_any (aE (he pins s σ H _ I h) fun v s1 ⟨x,H1,I1,r1,q1⟩=>⟨σ,H1,I1,q1⟩) I.quiet hs
def vX (te:TE):TS:=fun D σ H=>te σ H D.rt
theorem LP (he:PE X e te):PS X (.Return (some e) pos) (vX te):=by
 intro pins s σ H D I h;exact wpAny_Return_some (aE (he pins s σ H _ I h) fun v s1 ⟨x,H1,I1,r1,q1⟩=>⟨x,σ,H1,I1,r1,q1⟩)
def xH:TS:=fun D _ H=>D.rt .ax H
theorem NT:PS X (.Return none pos) xH:=fun _ _ σ H _ I h=>wpAny_Return_none ⟨.ax,σ,H,I,rfl,h⟩
def xG (c:TT) (t u:TS):TS:=fun D σ H=>c σ H fun b H1=>if b=true then t D σ H1 else u D σ H1
theorem Ve {c:Expr} {a b:List Stmt} {tc:TT} (hc:PT X c tc) (ha:cT X a t) (hb:cT X b u):PS X (.If c a b pos) (xG tc t u):=by
 intro pins s σ H D I h;refine wpAny_If (aE (hc pins s σ H _ I h) fun d s1 ⟨H1,I1,q1⟩=>?_);cases d with
 | true=>exact ha pins s1 σ H1 D I1 q1
 | false=>exact hb pins s1 σ H1 D I1 q1
def yW:TS:=fun _ _ _=>False
theorem U7:PS X st yW:=fun _ _ _ _ _ _ h=>h.elim
end
abbrev TG:=V→St→Hp→(St→Hp→Prop)→Prop
abbrev iK:=List V→St→Hp→(St→Hp→Prop)→Prop
def PG (X:Cx) (target:Expr) (t:TG):Prop :=
 ∀ (pins:List (Addr×Obj)) (s:Shared) (σ:St) (H:Hp) (v:V) (u:Value) (Q:St→Hp→Prop),Inv X pins σ H s→RelV v u→t v σ H Q →
  wpAny (model X.prog X.w) X.A (assign target X.env u) (fun _ s'=>∃ σ' H',Inv X pins σ' H' s'∧Q σ' H') X.xe s
def qO (X:Cx) (ts:List Expr) (t:iK):Prop :=
 ∀ (pins:List (Addr×Obj)) (s:Shared) (σ:St) (H:Hp) (vs:List V) (us:List Value) (Q:St→Hp→Prop),Inv X pins σ H s→Vals vs us→t vs σ H Q →
  wpAny (model X.prog X.w) X.A (assignInOrder ((assignEach ts X.env).map (·.2)) us) (fun _ s'=>∃ σ' H',Inv X pins σ' H' s'∧Q σ' H') X.xe s
abbrev qo:=V→V→V→Hp→(Hp→Prop)→Prop
def uz (X:Cx) (t:qo):Prop :=
 ∀ (pins:List (Addr×Obj)) (s:Shared) (σ:St) (H:Hp) (o i v:V) (ov iv u:Value) (Q:Hp→Prop),Inv X pins σ H s→RelV o ov→RelV i iv→RelV v u→t o i v H Q →
  wpAny (model X.prog X.w) X.A (setItem ov iv u) (fun _ s'=>∃ H',Inv X pins σ H' s'∧Q H') X.xe s
abbrev WG:=V→V→Hp→VK→Prop
section
variable {X:Cx} {pos:Pos}
def eX (i:Nat):TG:=fun v σ H Q=>Q (σ.set i (some v)) H
theorem V8 {i:Nat} {x:Str} (hN:X.N.Nodup) (hi:X.N[i]?=some x) (hx:Loc X.env.scope x) (hf:X.fn x=true∨X.env.scope.names.lookup x=some .local:=by first | exact .inl rfl | exact .inr rfl | assumption):PG X (.Name x pos) (eX i):=by
 intro pins s σ H v u Q I r h;exact wpAny_assign_Name (F2 I hN hi hx r (fun s' I'=>⟨_,H,I',h⟩) hf)
def xA:iK:=fun vs σ H Q=>vs=[]∧Q σ H
def xJ (t:TG) (u:iK):iK:=fun vs σ H Q=>∃ v r,vs=v::r∧t v σ H fun σ' H'=>u r σ' H' Q
theorem Uz:qO X [] xA:=by
 intro pins s σ H vs us Q I r h;obtain ⟨e,h⟩:=h;subst e;cases r;exact assignInOrder_nil ⟨σ,H,I,h⟩
theorem Si {e:Expr} {es:List Expr} {t:TG} {u:iK} (h1:PG X e t) (h2:qO X es u)
  (hs:(assignEach (e::es) X.env).map (·.2)=assign e X.env::(assignEach es X.env).map (·.2):=by rfl):qO X (e::es) (xJ t u):=by
 intro pins s σ H vs us Q I r h;obtain ⟨v,vr,e1,h⟩:=h;subst e1;cases r with
 | cons r rr =>
  rw [hs];refine assignInOrder_cons (aE (h1 pins s σ H _ _ _ I r h) fun _ s1 ⟨σ1,H1,I1,q1⟩=>?_);exact h2 pins s1 σ1 H1 _ _ Q I1 rr q1
def xP (K:PySem.W.Frag) (n:Nat) (t:iK):TG:=fun v σ H Q=>∃ a xs,v=.ref a∧bW K H a xs∧xs.length=n∧t xs σ H Q
theorem Q7 {es:List Expr} {k:Nat} {t:iK} {n:Nat} (hc:X.calm=true) (h:qO X es t)
  (hn:(assignEach es X.env).length=n:=by rfl) (aQ:(assignEach es X.env).findIdx? (·.1)=none:=by rfl):PG X (.Tuple es k pos) (xP X.K n t):=by
 intro pins s σ H v u Q I r hw;obtain ⟨a,xs,e1,hq,hl,hw⟩:=hw;subst e1;cases r;obtain ⟨aq,rv,ht,hz⟩:=I.tuple hq;refine assign_Tuple_tuple (I.ok.hd hc) ht (by simp [hn,← hl,rv.length]) aQ fun h' hx=>?_;have I1:Inv X pins σ H { s with heap:=h' }:=I.kept (t':=s.toks) fun b o e=>hx b o (Nat.ne_of_lt (Heap.lt_size e)) e;exact h pins _ σ H xs _ Q I1 (by simpa using rv) hw
def Ag (to ti:TE) (t:qo):TG:=fun v σ H Q=>to σ H fun o H1=>ti σ H1 fun i H2=>t o i v H2 fun H3=>Q σ H3
theorem VA {o i:Expr} {to ti:TE} {t:qo} (ho:PE X o to) (hi:PE X i ti) (hs:uz X t)
  (ha:∀ v,assign (.Subscript o i pos) X.env v=(do
   let ov ← holding [v] (eval o X.env)
   let iv ← holding [v,ov] (eval i X.env)
   standAt pos
   holding [v,ov,iv] (setItem ov iv v)
   release [v,ov,iv] []):=by intro _; rfl):PG X (.Subscript o i pos) (Ag to ti t):=by
 intro pins s σ H v u Q I r h;rw [ha];refine wpAny_bind (wpAny_holding (aE (ho pins s σ H _ I h) fun ov s1 ⟨x,H1,I1,r1,q1⟩=>?_));refine wpAny_bind (wpAny_holding (aE (hi pins s1 σ H1 _ I1 q1) fun iv s2 ⟨y,H2,I2,r2,q2⟩=>?_));refine wpAny_bind (wpAny_standAt (wpAny_bind (wpAny_holding (aE (hs pins s2 σ H2 x y v ov iv u _ I2 r1 r2 r q2) fun _ s3 ⟨H3,I3,q3⟩=>?_))));exact wpAny_release ⟨σ,H3,I3,q3⟩
def kK (te:TE) (g:TG):TS:=fun D σ H=>te σ H fun x H1=>g x σ H1 D.nx
theorem N8 {tg e:Expr} {te:TE} {g:TG} (he:PE X e te) (hg:PG X tg g) (hs:swapsWithSole [tg] e pos.line X.env=pure false:=by rfl) (hw:swappedStores [tg] e X.env=pure none:=by rfl)
  (h1:(assignEach [tg] X.env).map (·.2)=[assign tg X.env]:=by rfl):PS X (.Assign [tg] e pos) (kK te g):=by
 intro pins s σ H D I h;refine wpAny_Assign_stores (aE (he pins s σ H _ I h) fun v s1 ⟨x,H1,I1,r1,q1⟩=>?_) hs hw;rw [h1];exact aE (hg pins s1 σ H1 x v _ I1 r1 q1) fun _ s2 q=>q
theorem Vz {i:Nat} {x:Str} {e:Expr} {te:TE} {pos':Pos} (hN:X.N.Nodup) (hi:X.N[i]?=some x) (hx:Loc X.env.scope x) (he:PE X e te) (hs:swapsWith e (some (.Name x pos')) pos.line X.env=pure false:=by rfl) (hf:X.fn x=true∨X.env.scope.names.lookup x=some .local:=by first | exact .inl rfl | exact .inr rfl | assumption) :
  PS X (.Assign [.Name x pos'] e pos) (kK te (eX i)):=by
 intro pins s σ H D I h;refine wpAny_Assign_Name (aE (he pins s σ H _ I h) fun v s1 ⟨y,H1,I1,r1,q1⟩=>?_) hs;exact F2 I1 hN hi hx r1 (fun s2 I2=>⟨_,H1,I2,q1⟩) hf
end
section
variable {X:Cx} {pos:Pos}
def Hk (c:TT) (tb:TS):TS:=fun D σ H=>∃ W:Nat→St→Hp→Prop,(∃ m,W m σ H)∧∀ m σ H,W m σ H →
 c σ H fun b H1=>if b=true then ∃ N:St→Hp→Prop,(∀ σ' H',N σ' H'→∃ m',m' < m∧W m' σ' H')∧tb { D with nx:=N,ct:=N,bk:=D.nx } σ H1 else D.nx σ H1
theorem Ud {c:Expr} {body:List Stmt} {tc:TT} {tb:TS} (hp:PassesOwn (model X.prog X.w) X.A X.env X.xe) (hc:PT X c tc) (hb:cT X body tb):PS X (.While c body [] pos) (Hk tc tb):=by
 intro pins s σ H D I h;obtain ⟨W,⟨m0,w0⟩,turn⟩:=h;refine wpAny_While (codeAny_whileLoop (fun n s'=>∃ σ' H',Inv X pins σ' H' s'∧W n σ' H') ?_ m0 ⟨σ,H,I,w0⟩);rintro n s1 ⟨σ1,H1,I1,w1⟩;refine wpAny_passesOwn hp (aE (hc pins s1 σ1 H1 _ I1 (turn n σ1 H1 w1)) fun b s2 ⟨H2,I2,q2⟩=>?_);cases b with
 | true =>
  obtain ⟨N,hN,q2⟩:=q2;rw [if_pos rfl];refine wpAny_passesOwn hp (aE (hb pins s2 σ1 H2 _ I2 q2) fun f s3 q3=>?_);cases f with
  | next =>
   obtain ⟨σ3,H3,I3,n3⟩:=q3;obtain ⟨m',hm,w3⟩:=hN σ3 H3 n3;exact ⟨m',hm,σ3,H3,I3,w3⟩
  | cont =>
   obtain ⟨σ3,H3,I3,n3⟩:=q3;obtain ⟨m',hm,w3⟩:=hN σ3 H3 n3;exact ⟨m',hm,σ3,H3,I3,w3⟩
  | brk=>exact q3
  | ret v=>exact q3
 | false =>
  rw [if_neg Bool.false_ne_true];exact wpAny_execs_nil ⟨σ1,H2,I2,q2⟩
end
structure It where
 go:Nat→Hp→Prop
 jz:Nat→Hp→V→Hp→Prop
 stop:Nat→Hp→Prop
def jq (X:Cx) (pins:List (Addr×Obj)) (H:Hp) (b:Addr):Prop :=
 H b=none∧b≠X.env.locals∧b ∉ X.fs∧(b∈X.ex∨X.s₀.heap.objs.size≤b)∧(∀ x c,X.env.cells.lookup x=some c→c≠b)∧∀ p∈X.pn++pins,p.1≠b
theorem Inv.wb {X:Cx} {pins:List (Addr×Obj)} {σ:St} {H H':Hp} {s:Shared} {b:Addr} (I:Inv X pins σ H s) (hb:s.heap.objs.size≤b) (hn:H' b=none):jq X pins H' b:=by
 refine ⟨hn,Nat.ne_of_gt (Nat.lt_of_lt_of_le I.lt hb),I.FU hb,.inr (Nat.le_trans I.sz hb),fun x c e z=>?_,fun p hp z=>?_⟩
 ·obtain ⟨v,q⟩:=I.cell x c e;exact absurd (Nat.lt_of_lt_of_le q.lt (by rw [z]; exact hb)) (Nat.lt_irrefl _)
 ·exact absurd (Nat.lt_of_lt_of_le (Heap.lt_size (I.pin p hp).1) (by rw [z]; exact hb)) (Nat.lt_irrefl _)
structure Turn (P:Program) (w:World) (K:PySem.W.Frag) (tg:Expr) (J:It) (fp:List Addr) (it:Addr) (tn:Nat→Heap→Prop):Prop where
 mem:it∈fp
 obj:∀ i h,tn i h→∀ b∈fp,∃ o,h.get? b=some o∧∀ v,o.data≠.cell v
 keep:∀ i h h',tn i h→(∀ b∈fp,∀ o,h.get? b=some o→h'.get? b=some o)→tn i h'
 item:∀ (X:Cx),X.prog=P→X.w=w→X.K=K→X.calm=true→∀ (i:Nat) (pins:List (Addr×Obj)) (s:Shared) (σ:St) (H:Hp) (E:Value→Shared→Prop),Inv X pins σ H s→(∀ b∈fp,jq X pins H b)→tn i s.heap→J.go i H →
  wpAny (model P w) X.A (pyNext (.ref it)) (fun r s1=>∃ u,r=some u ∧
   wpAny (model P w) X.A (letOwnedTupleGo tg (.ref it) u) (fun _ s2=>∃ x H',Inv X pins σ H' s2∧RelV x u∧J.jz i H x H'∧tn (i+1) s2.heap∧∀ b∈fp,H' b=none) E s1) E s
 done:∀ (X:Cx),X.prog=P→X.w=w→X.K=K→X.calm=true→∀ (i:Nat) (pins:List (Addr×Obj)) (s:Shared) (σ:St) (H:Hp) (E:Value→Shared→Prop),Inv X pins σ H s→(∀ b∈fp,jq X pins H b)→tn i s.heap→J.stop i H →
  wpAny (model P w) X.A (pyNext (.ref it)) (fun r s1=>r=none∧Inv X pins σ H s1) E s
 self:∀ (A:Around) (i:Nat) (s:Shared) (Q:Value→Shared→Prop) (E:Value→Shared→Prop),tn i s.heap→Q (.ref it) s→wpAny (model P w) A (pyIter (.ref it)) Q E s
abbrev TI:=St→Hp→(It→Hp→Prop)→Prop
def CV (X:Cx) (pins:List (Addr×Obj)) (σ:St) (tg:Expr) (R:It→Hp→Prop) (BL:Value) (s2:Shared):Prop :=
 ∃ (it:Addr) (fp:List Addr) (tn:Nat→Heap→Prop) (J:It) (H':Hp),BL=.ref it∧Inv X pins σ H' s2∧Turn X.prog X.w X.K tg J fp it tn∧tn 0 s2.heap∧(∀ b∈fp,jq X pins H' b)∧R J H'
def PI (X:Cx) (tg iter:Expr) (wi:TI):Prop :=
 ∀ (pins:List (Addr×Obj)) (s:Shared) (σ:St) (H:Hp) (R:It→Hp→Prop),Inv X pins σ H s→wi σ H R →
  wpAny (model X.prog X.w) X.A (eval iter X.env) (fun v s1=>wpAny (model X.prog X.w) X.A (pyIter v) (CV X pins σ tg R) X.xe s1) X.xe s
theorem Ah {M:Model} {A:Around} {E:Value→Shared→Prop} {s:Shared} {tg:Expr} {it:Addr} {u:Value} {o:Obj} {n:String} {vs:Array Value} {Q:Unit→Shared→Prop} (ho:s.heap.get? it=some o) (hc:o.cls=.type n) (hd:o.data=.fields vs)
  (hn:["enumerate", "zip", "dict_itemiterator", "dict_reverseitemiterator", "odict_iterator", "itertools.zip_longest", "itertools.pairwise"].contains n=false) (hQ:Q () s):wpAny M A (letOwnedTupleGo tg (.ref it) u) Q E s:=by
 unfold letOwnedTupleGo;cases tg <;> first
  | exact wpAny_pure hQ
  | (cases u <;> first
    | exact wpAny_pure hQ
    | (refine wpAny_bind (wpAny_load ho ?_)
       rw [hc,hd];show wpAny M A (if (["enumerate", "zip", "dict_itemiterator", "dict_reverseitemiterator", "odict_iterator", "itertools.zip_longest", "itertools.pairwise"].contains n && vs[0]? == some (rawInt _))=true then _ else _) Q E s;rw [if_neg (by intro h; rw [hn,Bool.false_and] at h; cases h)];exact wpAny_pure hQ))
def hV (K:PySem.W.Frag) (a:Addr):It :=
 ⟨fun i H=>∃ xs x,aL K H a xs∧xs[i]?=some x,fun i H x H'=>H'=H∧∀ xs,aL K H a xs→xs[i]?=some x,fun i H=>∃ xs,aL K H a xs∧xs.length≤i⟩
def ki (lo:Int) (n:Nat):It:=⟨fun i _=>i < n,fun i H x H'=>H'=H∧x=.int (lo+i),fun i _=>n≤i⟩
theorem Td {P:Program} {w:World} {K:PySem.W.Frag} {tg:Expr} (a it:Addr):Turn P w K tg (hV K a) [it] it (fun i h=>h.IsListIter it a i) where
 mem:=by simp
 obj:=fun i h st b hb=>by
  have e:b=it:=by simpa using hb
  subst e;obtain ⟨o,e,c,d⟩:=st;exact ⟨o,e,fun v z=>by rw [d] at z; cases z⟩
 keep:=fun i h h' st k=>st.at fun o e=>k it (by simp) o e
 item:=by
  intro X hP hw hK hc i pins s σ H E I hf st hg;subst hP hw hK;obtain ⟨xs,x,hq,hx⟩:=hg;obtain ⟨aq,rv,p,hz⟩:=I.list hq;obtain ⟨u,hu,ru⟩:=rv.get hx;obtain ⟨f0,f1,f2,f3,f4,f5⟩:=hf it (by simp);refine wpAny_pyNext_list_item st p.isList (x:=u) (by simpa using hu) fun h' st' sb=>?_;have I1:Inv X pins σ H { s with heap:=h' }:=I.turned (t':=s.toks) (fun b o hb e=>(sb.2 b hb).trans e) f0 f1 f3 f4 f5;obtain ⟨o,e,c,d⟩:=id st';exact ⟨u,rfl,Ah (s:={ s with heap:=h' }) e c d (by decide) ⟨x,H,I1,ru,⟨rfl,fun ys hy=>by rw [I.Uw hy hq]; exact hx⟩,st',fun b hb=>(hf b hb).1⟩⟩
 done:=by
  intro X hP hw hK hc i pins s σ H E I hf st hg;subst hP hw hK;obtain ⟨xs,hq,hx⟩:=hg;obtain ⟨aq,rv,p,hz⟩:=I.list hq;obtain ⟨f0,f1,f2,f3,f4,f5⟩:=hf it (by simp);have hl:=rv.length;exact wpAny_pyNext_list_end (I.ok.hd hc) st p.isList (by simp; omega) fun h' eb=>⟨rfl,I.turned (t':=s.toks) (fun b o hb e=>eb b o hb e) f0 f1 f3 f4 f5⟩
 self:=fun _ _ _ _ _ st h=>wpAny_pyIter_listiter st h
theorem Ru {P:Program} {w:World} {K:PySem.W.Frag} {tg:Expr} (it:Addr) (lo:Int) (n:Nat):Turn P w K tg (ki lo n) [it] it (fun i h=>IsRangeIter h it (lo+(i:Nat) * 1) ((n:Int) - (i:Nat)) 1) where
 mem:=by simp
 obj:=fun i h st b hb=>by
  have e:b=it:=by simpa using hb
  subst e;exact ⟨_,st,fun v z=>by
   have z':Data.fields _=Data.cell v:=z;cases z'⟩
 keep:=fun i h h' st k=>k it (by simp) _ st
 item:=by
  intro X hP hw hK hc i pins s σ H E I hf st hg;subst hP hw hK;obtain ⟨f0,f1,f2,f3,f4,f5⟩:=hf it (by simp);have W:=Walks.range (prog:=X.prog) (w:=X.w) (I.ok.hd hc) it lo 1 n;refine W.item i s _ _ hg st fun v h' tk hv st' kk=>?_;obtain ⟨t,rfl⟩:=hv;have I1:Inv X pins σ H { s with heap:=h',toks:=tk }:=I.turned (fun b o hb e=>kk b o (by simpa using hb) e) f0 f1 f3 f4 f5;refine ⟨_,rfl,Ah (s:={ s with heap:=h',toks:=tk }) (n := "range_iterator") st' rfl rfl (by decide) ⟨.int (lo+i),H,I1,⟨t,?_⟩,⟨rfl,rfl⟩,st',fun b hb=>(hf b hb).1⟩⟩;rw [Int.mul_one]
 done:=by
  intro X hP hw hK hc i pins s σ H E I hf st hg;subst hP hw hK;obtain ⟨f0,f1,f2,f3,f4,f5⟩:=hf it (by simp);exact wpAny_pyNext_range_end (I.ok.hd hc) st (by have:n≤i:=hg; omega) fun h' eb=>⟨rfl,I.turned (t':=s.toks) (fun b o hb e=>eb b o hb e) f0 f1 f3 f4 f5⟩
 self:=fun _ _ _ _ _ st h=>wpAny_pyIter_rangeiter st h
end L2
namespace L2
open PySem PySem.Spec PyProof.Rows
section
variable {X:Cx} {tg:Expr}
def NG (K:PySem.W.Frag) (tl:TE):TI:=fun σ H R=>tl σ H fun x H1=>∃ a,x=.ref a∧(∃ xs,aL K H1 a xs)∧R (hV K a) H1
theorem M6 {l:Expr} {tl:TE} (hl:PE X l tl):PI X tg l (NG X.K tl):=by
 intro pins s σ H R I h;refine aE (hl pins s σ H _ I h) fun v s1 ⟨x,H1,I1,r1,q1⟩=>?_;obtain ⟨a,e,⟨xs,hq⟩,q⟩:=q1;subst e;cases r1;obtain ⟨aq,rv,p,hz⟩:=I1.list hq;refine wpAny_pyIter_list p.isList ?_;refine ⟨s1.heap.objs.size,[s1.heap.objs.size],_,_,H1,rfl,I1.kept (t':=s1.toks) fun b o e=>Heap.get?_push_of_some _ e,Td a _,⟨_,Heap.get?_push_size _ rfl,rfl,rfl⟩,fun b hb=>?_,q⟩;have e:b=s1.heap.objs.size:=by simpa using hb
 subst e;exact I1.wb (Nat.le_refl _) (I1.aC.fresh (Nat.le_refl _))
theorem Ra {pins:List (Addr×Obj)} {σ:St} {H:Hp} {s:Shared} {R:It→Hp→Prop} {E:Value→Shared→Prop} {lo hi:Int} {t u v:Tok} {tk:Nat} (I:Inv X pins σ H s) (h1:-(2 ^ 62)≤lo) (h2:lo < 2 ^ 62) (h3:-(2 ^ 62)≤hi) (h4:hi < 2 ^ 62)
  (q:R (ki lo (hi - lo).toNat) H):wpAny (model X.prog X.w) X.A (pyIter (.ref s.heap.objs.size)) (CV X pins σ tg R) E { s with heap:=s.heap.push { cls:=.type "range",data:=.fields #[.int lo t,.int hi u,.int 1 v] },toks:=tk }:=by
 refine wpAny_pyIter_range (IsRange.new ..) (small_one h1 h2 h3 h4) ?_;have I1:Inv X pins σ H { s with heap:=s.heap.push { cls:=.type "range",data:=.fields #[.int lo t,.int hi u,.int 1 v] },toks:=tk }:=I.kept fun b o e=>Heap.get?_push_of_some _ e;refine ⟨(s.heap.push { cls:=.type "range",data:=.fields #[.int lo t,.int hi u,.int 1 v] }).objs.size,[(s.heap.push { cls:=.type "range",data:=.fields #[.int lo t,.int hi u,.int 1 v] }).objs.size],_,_,H,rfl,
  I1.kept (t':=tk) fun b o e=>Heap.get?_push_of_some _ e,Ru _ lo (hi - lo).toNat,?_,fun b hb=>?_,q⟩
 ·have e1:lo+((0:Nat):Int) * 1=lo:=by simp
  have e2:(((hi - lo).toNat:Nat):Int) - ((0:Nat):Int)=Builtin.Range.rangeSize lo hi 1:=by rw [rangeSize_one]; split <;> omega
  show IsRangeIter _ _ (lo+((0:Nat):Int) * 1) ((((hi - lo).toNat:Nat):Int) - ((0:Nat):Int)) 1;rw [e1,e2];exact Heap.get?_push_size _ rfl
 ·have e:b=(s.heap.push { cls:=.type "range",data:=.fields #[.int lo t,.int hi u,.int 1 v] }).objs.size:=by simpa using hb
  subst e;exact I1.wb (Nat.le_refl _) (I1.aC.fresh (Nat.le_refl _))
def VS (ta:TA):TI:=fun σ H R=>ta σ H fun vs H1=>∃ j:Int,vs=[.int j]∧-(2 ^ 62)≤j∧j < 2 ^ 62∧R (ki 0 j.toNat) H1
theorem UR {a:Expr} {ta:TA} {p pos:Pos} (hg:Gl X "range") (hm:X.mg "range" = none) (ha:PA X [a] ta) (hs:starEach [a] X.env=[(false,eval a X.env)]:=by rfl):PI X tg (.Call (.Name "range" p) [a] [] pos) (VS ta):=by
 intro pins s σ H R I h;refine Call_ (lx I hg hm boot_range (PyProof.Rows.callWith_type1 (aE (ha pos pins s σ H _ I h) fun us s1 ⟨vs,H1,I1,r1,q1⟩=>?_) hs rfl));obtain ⟨j,e,q1,q2,q⟩:=q1;subst e;cases r1 with
 | cons r rr =>
  cases rr;obtain ⟨t,rfl⟩:=r;exact call_range_1 (Ra I1 (by omega) (by omega) q1 q2 (by simpa using q))
def tN (wi:TI) (g:TG) (tb:TS):TS:=fun D σ H=>wi σ H fun J H1=>∃ W:Nat→Nat→St→Hp→Prop,(∃ m,W 0 m σ H1)∧∀ i m σ H,W i m σ H →
 (J.stop i H∧D.nx σ H)∨(J.go i H∧∃ N:St→Hp→Prop,(∀ σ' H',N σ' H'→∃ m',m' < m∧W (i+1) m' σ' H')∧∀ x H',J.jz i H x H'→g x σ H' fun σ2 H2=>tb { D with nx:=N,ct:=N,bk:=D.nx } σ2 H2)
def qF (fp:List Addr) (h:Heap):List (Addr×Obj):=fp.filterMap fun b=>(h.get? b).map fun o=>(b,o)
theorem tD {fp:List Addr} {h:Heap} {b:Addr} {o:Obj} (hb:b∈fp) (e:h.get? b=some o):(b,o)∈qF fp h:=List.mem_filterMap.mpr ⟨b,hb,by rw [e]; rfl⟩
theorem ON {fp:List Addr} {h:Heap} {p:Addr×Obj} (hp:p∈qF fp h):p.1∈fp∧h.get? p.1=some p.2:=by
 obtain ⟨b,hb,e⟩:=List.mem_filterMap.mp hp;cases q:h.get? b with
 | none=>rw [q] at e; cases e
 | some o =>
  rw [q] at e;have e':(b,o)=p:=Option.some.inj e;subst e';exact ⟨hb,q⟩
theorem Inv.pinned {pins:List (Addr×Obj)} {σ:St} {H:Hp} {s:Shared} {fp:List Addr} (I:Inv X pins σ H s) (hf:∀ b∈fp,jq X pins H b) (ho:∀ b∈fp,∃ o,s.heap.get? b=some o∧∀ v,o.data≠.cell v):Inv X (pins++qF fp s.heap) σ H s :=
 I.rH fun p hp=>(List.mem_append.mp hp).elim (fun z=>I.pin p (List.mem_append_right _ z)) fun z=>by
  obtain ⟨hb,e⟩:=ON z;obtain ⟨f0,f1,f2,_⟩:=hf p.1 hb;obtain ⟨o,e',d⟩:=ho p.1 hb;rw [e] at e'; cases e';exact ⟨e,f0,f1,f2,d⟩
theorem Inv.yM {pins pl:List (Addr×Obj)} {σ:St} {H:Hp} {s:Shared} (I:Inv X (pins++pl) σ H s):Inv X pins σ H s:=I.rH fun p hp=>I.pin p (List.mem_append_right _ (List.mem_append_left _ hp))
theorem O1 {iter:Expr} {body:List Stmt} {wi:TI} {g:TG} {tb:TS} {pos:Pos} (hp:PassesOwn (model X.prog X.w) X.A X.env X.xe) (hc:X.calm=true) (hi:PI X tg iter wi) (hg:PG X tg g) (hb:cT X body tb)
  (hs:∀ x,foldedSetIterable iter X.env x=pure x:=by intro _; rfl):PS X (.For tg iter body [] pos) (tN wi g tb):=by
 intro pins s σ H D I h;refine wpAny_For (aE (hi pins s σ H _ I h) fun v s1 h1=>aE h1 fun BL s2 h2=>?_) hs;obtain ⟨it,fp,tn,J,H2,e,I2,T,eN,f2,W,⟨m0,w0⟩,turn⟩:=h2;subst e
 -- what stays true of gb iterator's objects through gb loop
 have Ax:∀ {H':Hp},(∀ b∈fp,H' b=none)→∀ b∈fp,jq X pins H' b:=fun hn b hb=>⟨hn b hb,(f2 b hb).2⟩;refine codeAny_forLoop_any (fun n s'=>∃ i σ' H',Inv X pins σ' H' s'∧tn i s'.heap∧(∀ b∈fp,H' b=none)∧W i n σ' H') ?_ m0 ⟨0,σ,H2,I2,eN,fun b hb=>(f2 b hb).1,w0⟩;rintro n s3 ⟨i,σ3,H3,I3,JR,vm,w3⟩;rcases turn i n σ3 H3 w3 with ⟨stop,qn⟩ | ⟨go,N,hN,step⟩
 ·refine wpAny_passesOwn hp (aE (T.done X rfl rfl rfl hc i pins s3 σ3 H3 X.xe I3 (Ax vm) JR stop) fun r s4 ⟨hr,I4⟩=>?_);subst hr;exact wpAny_execs_nil ⟨σ3,H3,I4,qn⟩
 ·refine wpAny_passesOwn hp (aE (T.item X rfl rfl rfl hc i pins s3 σ3 H3 X.xe I3 (Ax vm) JR go) fun r s4 ⟨u,hr,h4⟩=>?_);subst hr;refine wpAny_passesOwn hp (aE h4 fun _ s5 ⟨x,H5,I5,r5,y5,pM,vP⟩=>?_);have I5':=I5.pinned (Ax vP) (T.obj _ _ pM);refine wpAny_passesOwn hp (aE (hg _ s5 σ3 H5 x u _ I5' r5 (step x H5 y5)) fun _ s6 ⟨σ6,H6,I6,q6⟩=>?_);refine wpAny_passesOwn hp (aE (hb _ s6 σ6 H6 _ I6 q6) fun f s7 q7=>?_);have again:∀ {σ7:St} {H7:Hp},Inv X (pins++qF fp s5.heap) σ7 H7 s7→N σ7 H7→∃ m,m < n∧∃ i σ' H',Inv X pins σ' H' s7∧tn i s7.heap∧(∀ b∈fp,H' b=none)∧W i m σ' H':=fun {σ7 H7} I7 n7=>by
   obtain ⟨m',hm,w7⟩:=hN σ7 H7 n7;refine ⟨m',hm,i+1,σ7,H7,I7.yM,T.keep _ _ _ pM fun b hb o e=>(I7.pin (b,o) (List.mem_append_right _ (List.mem_append_right _ (tD hb e)))).1,fun b hb=>?_,w7⟩;obtain ⟨o,e,d⟩:=T.obj _ _ pM b hb;exact (I7.pin (b,o) (List.mem_append_right _ (List.mem_append_right _ (tD hb e)))).2.1
  cases f with
  | next=>obtain ⟨σ7,H7,I7,n7⟩:=q7; exact again I7 n7
  | cont=>obtain ⟨σ7,H7,I7,n7⟩:=q7; exact again I7 n7
  | brk=>obtain ⟨σ7,H7,I7,q7⟩:=q7; exact ⟨σ7,H7,I7.yM,q7⟩
  | ret v=>obtain ⟨x7,σ7,H7,I7,r7,q7⟩:=q7; exact ⟨x7,σ7,H7,I7.yM,r7,q7⟩
end
theorem N5 {K:PySem.W.Frag} {a:Addr} {xs:List V} {g:TG} {tb:TS} {D:Ends} {σ:St} {H:Hp} (Pv:Nat→St→Hp→Prop) (h0:Pv 0 σ H) (hl:∀ i σ H,i≤xs.length→Pv i σ H→aL K H a xs)
  (hs:∀ i x σ H,xs[i]?=some x→Pv i σ H→g x σ H fun σ2 H2=>tb { D with nx:=Pv (i+1),ct:=Pv (i+1),bk:=D.nx } σ2 H2) (hd:∀ σ H,Pv xs.length σ H→D.nx σ H) :
  ∃ W:Nat→Nat→St→Hp→Prop,(∃ m,W 0 m σ H)∧∀ i m σ H,W i m σ H →
   ((hV K a).stop i H∧D.nx σ H)∨((hV K a).go i H∧∃ N:St→Hp→Prop,(∀ σ' H',N σ' H'→∃ m',m' < m∧W (i+1) m' σ' H')∧∀ x H',(hV K a).jz i H x H'→g x σ H' fun σ2 H2=>tb { D with nx:=N,ct:=N,bk:=D.nx } σ2 H2):=by
 refine ⟨fun i m σ H=>m=xs.length - i∧i≤xs.length∧Pv i σ H,⟨xs.length,by simp,Nat.zero_le _,h0⟩,?_⟩;rintro i m σ H ⟨rfl,hi,p⟩;have q:=hl i σ H hi p;by_cases bV:i < xs.length
 ·refine .inr ⟨⟨xs,xs[i],q,by simp [bV]⟩,Pv (i+1),fun σ' H' p'=>⟨xs.length - (i+1),by omega,rfl,bV,p'⟩,fun x H' y=>?_⟩;obtain ⟨e,y⟩:=y;subst e;exact hs i x σ _ (y xs q) p
 ·have e:i=xs.length:=by omega
  subst e;exact .inl ⟨⟨xs,q,Nat.le_refl _⟩,hd σ H p⟩
theorem Py {lo:Int} {n:Nat} {g:TG} {tb:TS} {D:Ends} {σ:St} {H:Hp} (Pv:Nat→St→Hp→Prop) (h0:Pv 0 σ H)
  (hs:∀ i σ H,i < n→Pv i σ H→g (.int (lo+i)) σ H fun σ2 H2=>tb { D with nx:=Pv (i+1),ct:=Pv (i+1),bk:=D.nx } σ2 H2) (hd:∀ σ H,Pv n σ H→D.nx σ H) :
  ∃ W:Nat→Nat→St→Hp→Prop,(∃ m,W 0 m σ H)∧∀ i m σ H,W i m σ H →
   ((ki lo n).stop i H∧D.nx σ H)∨((ki lo n).go i H∧∃ N:St→Hp→Prop,(∀ σ' H',N σ' H'→∃ m',m' < m∧W (i+1) m' σ' H')∧∀ x H',(ki lo n).jz i H x H'→g x σ H' fun σ2 H2=>tb { D with nx:=N,ct:=N,bk:=D.nx } σ2 H2):=by
 refine ⟨fun i m σ H=>m=n - i∧i≤n∧Pv i σ H,⟨n,by simp,Nat.zero_le _,h0⟩,?_⟩;rintro i m σ H ⟨rfl,hi,p⟩;by_cases bV:i < n
 ·refine .inr ⟨bV,Pv (i+1),fun σ' H' p'=>⟨n - (i+1),by omega,rfl,bV,p'⟩,fun x H' y=>?_⟩;obtain ⟨e,y⟩:=y;subst e y;exact hs i σ _ bV p
 ·have e:i=n:=by omega
  subst e;exact .inl ⟨Nat.le_refl _,hd σ H p⟩
end L2
namespace L2
open PySem PySem.Spec PyProof.Rows
abbrev R2:=V→V→Hp→VK→Prop
def bc (X:Cx) (f:Value→Value→Sem Value) (r:R2):Prop :=
 ∀ (pins:List (Addr×Obj)) (s:Shared) (σ:St) (H:Hp) (x y:V) (v u:Value) (Q:VK),Inv X pins σ H s→RelV x v→RelV y u→r x y H Q →
  wpAny (model X.prog X.w) X.A (f v u) (EP X pins σ Q) X.xe s
def qr (X:Cx) (f:Value→Sem Value) (r:V→Hp→VK→Prop):Prop :=
 ∀ (pins:List (Addr×Obj)) (s:Shared) (σ:St) (H:Hp) (x:V) (v:Value) (Q:VK),Inv X pins σ H s→RelV x v→r x H Q →
  wpAny (model X.prog X.w) X.A (f v) (EP X pins σ Q) X.xe s
def cE (X:Cx) (f:Value) (r:List V→Hp→VK→Prop):Prop :=
 ∀ (pins:List (Addr×Obj)) (s:Shared) (σ:St) (H:Hp) (xs:List V) (us:List Value) (Q:VK),Inv X pins σ H s→Vals xs us→r xs H Q →
  wpAny (model X.prog X.w) X.A (call f us) (EP X pins σ Q) X.xe s
def gN (r:R2) (ta tb:TE):TE:=fun σ H Q=>ta σ H fun x H1=>tb σ H1 fun y H2=>r x y H2 Q
def zP (r:V→Hp→VK→Prop) (ta:TE):TE:=fun σ H Q=>ta σ H fun x H1=>r x H1 Q
def rI (C:Int→Int→Prop) (g:Int→Int→V):R2:=fun x y H Q=>∃ i j,x=.int i∧y=.int j∧C i j∧Q (g i j) H
def lU (g:Int→Int→V):R2:=fun x y H Q=>∃ i j,x=.int i∧y=.int j∧Q (g i j) H
def rU (g:Int→V):V→Hp→VK→Prop:=fun x H Q=>∃ i,x=.int i∧Q (g i) H
section
variable {X:Cx} {a b c:Expr} {ta tb tc:TE} {pos:Pos}
theorem xg (ha:PE X a ta) (hb:PE X b tb) {pins:List (Addr×Obj)} {s:Shared} {σ:St} {H:Hp} {R:V→V→Hp→Prop} (I:Inv X pins σ H s)
  (h:ta σ H fun x H1=>tb σ H1 fun y H2=>R x y H2) {Q:Value→Shared→Prop} {f:Value→Value→Sem Value}
  (hf:∀ v u s2 x y H2,Inv X pins σ H2 s2→RelV x v→RelV y u→R x y H2→wpAny (model X.prog X.w) X.A (f v u) Q X.xe s2) :
  wpAny (model X.prog X.w) X.A (eval a X.env) (fun v s₁=>wpAny (model X.prog X.w) X.A (eval b X.env) (fun u s₂=>wpAny (model X.prog X.w) X.A (f v u) Q X.xe s₂) X.xe s₁) X.xe s:=by
 refine aE (ha pins s σ H _ I h) fun v s1 ⟨x,H1,I1,r1,q1⟩=>?_;refine aE (hb pins s1 σ H1 _ I1 q1) fun u s2 ⟨y,H2,I2,r2,q2⟩=>?_;exact hf v u s2 x y H2 I2 r1 r2 q2
theorem Rb {op:Operator} {r:R2} (ho:bc X (binaryOp op) r) (ha:PE X a ta) (hb:PE X b tb):PE X (.BinOp a op b pos) (gN r ta tb):=by
 intro pins s σ H Q I h;exact wpAny_BinOp (xg ha hb I h fun v u s2 x y H2 I2 rx ry q=>ho pins s2 σ H2 x y v u Q I2 rx ry q)
theorem ME {op:UnaryOp} {r:V→Hp→VK→Prop} (ho:qr X (unaryOp op) r) (ha:PE X a ta):PE X (.UnaryOp op a pos) (zP r ta):=by
 intro pins s σ H Q I h;exact UnaryOp_ (aE (ha pins s σ H _ I h) fun v s1 ⟨x,H1,I1,r1,q1⟩=>ho pins s1 σ H1 x v Q I1 r1 q1)
theorem Aj {f:Value→Value→Sem Value} {C:Int→Int→Prop} {g:Int→Int→Int}
  (rule:∀ (i j:Int) (t u:Tok) (s:Shared) (Q:Value→Shared→Prop) (E:Value→Shared→Prop),C i j→Q (.int (g i j) s.toks) { s with toks:=s.toks+1 }→wpAny (model X.prog X.w) X.A (f (.int i t) (.int j u)) Q E s) :
  bc X f (rI C fun i j=>.int (g i j)):=by
 intro pins s σ H x y v u Q I rx ry h;obtain ⟨i,j,rfl,rfl,hc,q⟩:=h;obtain ⟨t,rfl⟩:=rx;obtain ⟨t',rfl⟩:=ry;exact rule i j t t' s _ _ hc ⟨.int (g i j),H,I.tok _,⟨_,rfl⟩,q⟩
theorem Q2 {f:Value→Value→Sem Value} {g:Int→Int→Int}
  (rule:∀ (i j:Int) (t u:Tok) (s:Shared) (Q:Value→Shared→Prop) (E:Value→Shared→Prop),Q (.int (g i j) s.toks) { s with toks:=s.toks+1 }→wpAny (model X.prog X.w) X.A (f (.int i t) (.int j u)) Q E s) :
  bc X f (lU fun i j=>.int (g i j)):=by
 intro pins s σ H x y v u Q I rx ry h;obtain ⟨i,j,rfl,rfl,q⟩:=h;obtain ⟨t,rfl⟩:=rx;obtain ⟨t',rfl⟩:=ry;exact rule i j t t' s _ _ ⟨.int (g i j),H,I.tok _,⟨_,rfl⟩,q⟩
theorem yx {f:Value→Value→Sem Value} {g:Int→Int→Bool}
  (rule:∀ (i j:Int) (t u:Tok) (s:Shared) (Q:Value→Shared→Prop) (E:Value→Shared→Prop),Q (.bool (g i j)) s→wpAny (model X.prog X.w) X.A (f (.int i t) (.int j u)) Q E s) :
  bc X f (lU fun i j=>.bl (g i j)):=by
 intro pins s σ H x y v u Q I rx ry h;obtain ⟨i,j,rfl,rfl,q⟩:=h;obtain ⟨t,rfl⟩:=rx;obtain ⟨t',rfl⟩:=ry;exact rule i j t t' s _ _ ⟨.bl (g i j),H,I,rfl,q⟩
def G7 (i j:Int):Prop:=0 < j∧j < 1073741824
def uS (i j:Int):Prop:=(-(2 ^ 64) < i∧i < 2 ^ 64)∨(-(2 ^ 64) < j∧j < 2 ^ 64)
theorem uS.ok {i j:Int} (h:uS i j):IntMulOk i j:=by
 rcases h with ⟨h1,h2⟩ | ⟨h1,h2⟩
 ·exact .of_left (intBits_le_64 h1 h2)
 ·exact .of_right (intBits_le_64 h1 h2)
theorem Mo:bc X (binaryOp .Add) (lU fun i j=>.int (i+j)):=Q2 fun _ _ _ _ _ _ _ q=>add_int q
theorem K5:bc X (binaryOp .Mult) (rI uS fun i j=>.int (i * j)):=Aj fun _ _ _ _ _ _ _ hc q=>mul_int q hc.ok
theorem Vp:bc X (binaryOp .FloorDiv) (rI G7 fun i j=>.int (i / j)):=Aj fun i j _ _ _ _ _ hc q=>by
 have h1:(0:Int) < j:=hc.1;have h2:j < 1073741824:=hc.2;exact floordiv_int (by omega) (by rw [Int.fdiv_eq_ediv_of_nonneg i (by omega)]; exact q) (.inl (PyProof.noPylong_small (by omega)))
theorem Qs:bc X (binaryOp .Mod) (rI (fun _ j=>0 < j) fun i j=>.int (i % j)):=Aj fun i j _ _ _ _ _ hc q=>by
 have h1:(0:Int) < j:=hc;exact mod_int' (by omega) (by rw [Int.fmod_eq_emod_of_nonneg i (by omega)]; exact q)
theorem KC {f:Value→Sem Value} {g:Int→Int}
  (rule:∀ (i:Int) (t:Tok) (s:Shared) (Q:Value→Shared→Prop) (E:Value→Shared→Prop),Q (.int (g i) s.toks) { s with toks:=s.toks+1 }→wpAny (model X.prog X.w) X.A (f (.int i t)) Q E s) :
  qr X f (rU fun i=>.int (g i)):=by
 intro pins s σ H x v Q I rx h;obtain ⟨i,rfl,q⟩:=h;obtain ⟨t,rfl⟩:=rx;exact rule i t s _ _ ⟨.int (g i),H,I.tok _,⟨_,rfl⟩,q⟩
theorem Q3:qr X (unaryOp .USub) (rU fun i=>.int (-i)):=KC fun _ _ _ _ _ q=>neg_int q
end
def u3:V→V→Bool
 | .ax,.ax=>true | .ax,.int _=>true | .int _,.ax=>true | .ax,.bl _=>true | .bl _,.ax=>true | .ax,.str _=>true | .str _,.ax=>true
 | .int _,.int _=>true | .bl _,.bl _=>true | .str _,.str _=>true | .byt _,.byt _=>true
 | .int _,.str _=>true | .str _,.int _=>true | .bl _,.str _=>true | .str _,.bl _=>true
 | _,_=>false
def Rk:R2:=fun x y H Q=>u3 x y=true∧Q (.bl (decide (x=y))) H
def RO:R2:=fun x y H Q=>u3 x y=true∧Q (.bl (!decide (x=y))) H
theorem DT {i j:Int}:decide (V.int i=V.int j)=(i == j):=by
 rw [Bool.eq_iff_iff];simp
theorem Gz {i j:Bool}:decide (V.bl i=V.bl j)=(i == j):=by
 rw [Bool.eq_iff_iff];simp
theorem Ct {i j:Str}:decide (V.str i=V.str j)=(i == j):=by
 rw [Bool.eq_iff_iff];simp
theorem FH {i j:Array UInt8}:decide (V.byt i=V.byt j)=(i.toList == j.toList):=by
 rw [Bool.eq_iff_iff];cases i;cases j;simp
section
variable {X:Cx} {a b c:Expr} {ta tb tc:TE} {pos:Pos}
theorem bX {pins:List (Addr×Obj)} {σ:St} {H:Hp} {s:Shared} {Q:VK} {k k':Bool} (I:Inv X pins σ H s) (q:Q (.bl k) H) (e:k=k'):EP X pins σ Q (.bool k') s:=by
 subst e;exact ⟨.bl k,H,I,rfl,q⟩
theorem PJ:bc X (compareOp .Eq) Rk:=by
 intro pins s σ H x y v u Q I rx ry h;obtain ⟨hs,q⟩:=h;cases x with
 | ax =>
  cases rx;cases y with
  | ax=>cases ry; exact PySem.EqNone.eq_none_none (bX I q (by simp))
  | bl j=>cases ry; exact PySem.EqNone.eq_none_bool (bX I q (by simp))
  | int j=>obtain ⟨t',rfl⟩:=ry; exact PySem.EqNone.eq_none_int (bX I q (by simp))
  | str j=>obtain ⟨t',rfl⟩:=ry; exact PySem.EqNone.eq_none_str (bX I q (by simp))
  | _=>exact absurd (show false=true from hs) Bool.false_ne_true
 | bl i =>
  cases rx;cases y with
  | ax=>cases ry; exact PySem.EqNone.eq_bool_none (bX I q (by simp))
  | bl j=>cases ry; exact eq_bool (bX I q Gz)
  | str j=>obtain ⟨t',rfl⟩:=ry; exact PySem.EqMixed.eq_bool_str (bX I q (by simp))
  | _=>exact absurd (show false=true from hs) Bool.false_ne_true
 | int i =>
  obtain ⟨t,rfl⟩:=rx;cases y with
  | ax=>cases ry; exact PySem.EqNone.eq_int_none (bX I q (by simp))
  | int j=>obtain ⟨t',rfl⟩:=ry; exact eq_int (bX I q DT)
  | str j=>obtain ⟨t',rfl⟩:=ry; exact PySem.EqMixed.eq_int_str (bX I q (by simp))
  | _=>exact absurd (show false=true from hs) Bool.false_ne_true
 | str i =>
  obtain ⟨t,rfl⟩:=rx;cases y with
  | ax=>cases ry; exact PySem.EqNone.eq_str_none (bX I q (by simp))
  | bl j=>cases ry; exact PySem.EqMixed.eq_str_bool (bX I q (by simp))
  | int j=>obtain ⟨t',rfl⟩:=ry; exact PySem.EqMixed.eq_str_int (bX I q (by simp))
  | str j=>obtain ⟨t',rfl⟩:=ry; exact eq_str (bX I q Ct)
  | _=>exact absurd (show false=true from hs) Bool.false_ne_true
 | byt i =>
  obtain ⟨t,rfl⟩:=rx;cases y with
  | byt j=>obtain ⟨t',rfl⟩:=ry; exact PySem.W.eq_bytes (bX I q FH)
  | _=>exact absurd (show false=true from hs) Bool.false_ne_true
 | _=>cases y <;> exact absurd (show false=true from hs) Bool.false_ne_true
theorem N1:bc X (compareOp .NotEq) RO:=by
 intro pins s σ H x y v u Q I rx ry h;obtain ⟨hs,q⟩:=h;cases x with
 | ax =>
  cases rx;cases y with
  | ax=>cases ry; exact PySem.EqNone.ne_none_none (bX I q (by simp))
  | bl j=>cases ry; exact PySem.EqNone.ne_none_bool (bX I q (by simp))
  | int j=>obtain ⟨t',rfl⟩:=ry; exact PySem.EqNone.ne_none_int (bX I q (by simp))
  | str j=>obtain ⟨t',rfl⟩:=ry; exact PySem.EqNone.ne_none_str (bX I q (by simp))
  | _=>exact absurd (show false=true from hs) Bool.false_ne_true
 | bl i =>
  cases rx;cases y with
  | ax=>cases ry; exact PySem.EqNone.ne_bool_none (bX I q (by simp))
  | bl j=>cases ry; exact ne_bool (bX I q (congrArg not Gz))
  | str j=>obtain ⟨t',rfl⟩:=ry; exact PySem.EqMixed.ne_bool_str (bX I q (by simp))
  | _=>exact absurd (show false=true from hs) Bool.false_ne_true
 | int i =>
  obtain ⟨t,rfl⟩:=rx;cases y with
  | ax=>cases ry; exact PySem.EqNone.ne_int_none (bX I q (by simp))
  | int j=>obtain ⟨t',rfl⟩:=ry; exact ne_int (bX I q (congrArg not DT))
  | str j=>obtain ⟨t',rfl⟩:=ry; exact PySem.EqMixed.ne_int_str (bX I q (by simp))
  | _=>exact absurd (show false=true from hs) Bool.false_ne_true
 | str i =>
  obtain ⟨t,rfl⟩:=rx;cases y with
  | ax=>cases ry; exact PySem.EqNone.ne_str_none (bX I q (by simp))
  | bl j=>cases ry; exact PySem.EqMixed.ne_str_bool (bX I q (by simp))
  | int j=>obtain ⟨t',rfl⟩:=ry; exact PySem.EqMixed.ne_str_int (bX I q (by simp))
  | str j=>obtain ⟨t',rfl⟩:=ry; exact ne_str (bX I q (congrArg not Ct))
  | _=>exact absurd (show false=true from hs) Bool.false_ne_true
 | byt i =>
  obtain ⟨t,rfl⟩:=rx;cases y with
  | byt j=>obtain ⟨t',rfl⟩:=ry; exact PySem.W.ne_bytes (bX I q (congrArg not FH))
  | _=>exact absurd (show false=true from hs) Bool.false_ne_true
 | _=>cases y <;> exact absurd (show false=true from hs) Bool.false_ne_true
theorem Nu:bc X (compareOp .Lt) (lU fun i j=>.bl (decide (i < j))):=yx fun _ _ _ _ _ _ _ q=>lt_int q
theorem Ml:bc X (compareOp .LtE) (lU fun i j=>.bl (decide (i≤j))):=yx fun _ _ _ _ _ _ _ q=>le_int q
theorem ND:bc X (compareOp .Gt) (lU fun i j=>.bl (decide (j < i))):=yx fun _ _ _ _ _ _ _ q=>gt_int q
theorem Mh:bc X (compareOp .In) (fun x y H Q=>∃ i j,x=.str i∧y=.str j∧Q (.bl (!(Builtin.Str.occurrences j i 0 j.length 1).isEmpty)) H):=by
 intro pins s σ H x y v u Q I rx ry h;obtain ⟨i,j,rfl,rfl,q⟩:=h;obtain ⟨t,rfl⟩:=rx;obtain ⟨t',rfl⟩:=ry;exact in_str (bX I q rfl)
theorem oQ:bc X (compareOp .Is) (fun x y H Q=>y=.ax∧Q (.bl (decide (x=.ax))) H):=by
 intro pins s σ H x y v u Q I rx ry h;obtain ⟨rfl,q⟩:=h;cases ry;refine is_none_gen (bX I q ?_);cases x <;> first
  | (cases rx; rfl)
  | (obtain ⟨t,rfl⟩:=rx; rfl)
theorem lR:bc X (compareOp .IsNot) (fun x y H Q=>y=.ax∧Q (.bl (!decide (x=.ax))) H):=by
 intro pins s σ H x y v u Q I rx ry h;obtain ⟨rfl,q⟩:=h;cases ry;refine isnot_none_gen (bX I q ?_);cases x <;> first
  | (cases rx; rfl)
  | (obtain ⟨t,rfl⟩:=rx; rfl)
theorem bc.or {f:Value→Value→Sem Value} {r r':R2} (h:bc X f r) (h':bc X f r'):bc X f (fun x y H Q=>r x y H Q∨r' x y H Q):=by
 intro pins s σ H x y v u Q I rx ry q;rcases q with q | q
 ·exact h pins s σ H x y v u Q I rx ry q
 ·exact h' pins s σ H x y v u Q I rx ry q
theorem S3 {op:CmpOp} {r:R2} (ho:bc X (compareOp op) r) (ha:PE X a ta) (hb:PE X b tb) (hm:behindInMarks op b=false):PE X (.Compare a [op] [b] pos) (gN r ta tb):=by
 intro pins s σ H Q I h;exact wpAny_Compare1 (xg ha hb I h fun v u s2 x y H2 I2 rx ry q=>ho pins s2 σ H2 x y v u Q I2 rx ry q) hm
theorem pR:(sizeLine:Nat) < 2 ^ 63:=by rw [sizeLine_eq]; decide
theorem TX:bc X (binaryOp .Add) (fun x y H Q=>∃ i j,x=.str i∧y=.str j∧i.length+j.length≤sizeLine∧Q (.str (i++j)) H):=by
 intro pins s σ H x y v u Q I rx ry h;obtain ⟨i,j,rfl,rfl,hz,q⟩:=h;obtain ⟨t,rfl⟩:=rx;obtain ⟨t',rfl⟩:=ry;exact add_str (fun t' tk=>⟨.str (i++j),H,I.tok _,⟨_,rfl⟩,q⟩) hz
theorem vals1 {x:V} {us:List Value} (r:Vals [x] us):∃ u,us=[u]∧RelV x u:=by
 cases r with
 | cons r1 r2=>cases r2; exact ⟨_,rfl,r1⟩
theorem vals2 {x y:V} {us:List Value} (r:Vals [x,y] us):∃ u w',us=[u,w']∧RelV x u∧RelV y w':=by
 cases r with
 | cons r1 r2 =>
  cases r2 with
  | cons r3 r4=>cases r4; exact ⟨_,_,rfl,r1,r3⟩
def OH (K:PySem.W.Frag) (x:V) (H:Hp) (n:Nat):Prop :=
 match x with
 | .str y=>y.length≤sizeLine∧n=y.length
 | .byt y=>y.size≤sizeLine∧n=y.size
 | .ref p=>(∃ xs,aL K H p xs∧n=xs.length)∨∃ xs,bW K H p xs∧n=xs.length
 | _=>False
theorem DN:cE X (.builtin "len") (fun xs H Q=>∃ x n,xs=[x]∧OH X.K x H n∧Q (.int n) H):=by
 intro pins s σ H xs us Q I r h;obtain ⟨x,n,rfl,e,q⟩:=h;obtain ⟨u,rfl,rx⟩:=vals1 r;have hl:=pR;have hs:sizeLine=16777216:=sizeLine_eq;cases x with
 | str y =>
  obtain ⟨t,rfl⟩:=rx;obtain ⟨hy,e'⟩:y.length≤sizeLine∧n=y.length:=e;subst e';exact len_str (by omega) ⟨.int _,H,I.tok _,⟨_,rfl⟩,q⟩
 | byt y =>
  obtain ⟨t,rfl⟩:=rx;obtain ⟨hy,e'⟩:y.size≤sizeLine∧n=y.size:=e;subst e';exact PySem.W.len_bytes (by omega) ⟨.int _,H,I.tok _,⟨_,rfl⟩,q⟩
 | ref p =>
  cases rx;have e':(∃ xs,aL X.K H p xs∧n=xs.length)∨∃ xs,bW X.K H p xs∧n=xs.length:=e;rcases e' with ⟨xs,hx,e'⟩ | ⟨xs,hx,e'⟩
  ·subst e';obtain ⟨aq,r',pl,hz⟩:=I.list hx;have hlen:=r'.length;exact Calls.call_len_list pl.isList (by simp only [List.size_toArray]; omega) ⟨.int xs.length,H,I.tok _,⟨_,by simp only [List.size_toArray]; rw [hlen]⟩,q⟩
  ·subst e';obtain ⟨aq,r',pl,hz⟩:=I.tuple hx;have hlen:=r'.length;exact len_tuple pl (by simp only [List.size_toArray]; omega) ⟨.int xs.length,H,I.tok _,⟨_,by simp only [List.size_toArray]; rw [hlen]⟩,q⟩
 | _=>exact (show False from e).elim
end
end L2
namespace L2
open PySem PySem.Spec PyProof.Rows
structure l9 (h:Heap) (x dx C:Addr) (mA:Str→Option Value):Prop where
 obj:h.get? x=some (PySem.W.instObj C dx)
 ns:h.Ns1 dx mA
 ne:dx≠x
theorem RV {h:Heap} {dx:Addr} {mA:Str→Option Value} (n:h.Ns1 dx mA):∃ od,h.get? dx=some od∧∀ name,PySem.W.lookIn name od=some (mA name):=by
 obtain ⟨o,es,ep,ho,hd,hk,_,hm⟩:=n;refine ⟨o,ho,fun name=>?_⟩;have e:=hm name;unfold nsFind findBy at e;rw [← Array.find?_toList] at e;unfold PySem.W.lookIn;rw [hd];dsimp only;split
 ·rename_i y q;rw [q] at e;exact congrArg some e
 ·rename_i q;rw [q] at e;have a:es.toList.any (·.refKey)=false:=by
   rw [List.any_eq_false];intro y hy;obtain ⟨z,t,hkey⟩:=hk y (Array.mem_toList_iff.mp hy);simp [DictEntry.refKey,hkey]
  have a':¬ es.toList.any (·.refKey)=true:=by rw [a]; exact Bool.false_ne_true
  rw [if_neg a'];exact congrArg some e
theorem l9.look {h:Heap} {x dx C:Addr} {mA:Str→Option Value} (I:l9 h x dx C mA):∃ od,PySem.W.InstAt h x (PySem.W.instObj C dx) C (some od)∧∀ name,PySem.W.lookIn name od=some (mA name) :=
 let ⟨od,ho,hl⟩:=RV I.ns
 ⟨od,⟨I.obj,rfl,rfl,ho⟩,hl⟩
section
variable {prog:Program} {w:World} {A:Around} {E:Value→Shared→Prop} {s:Shared} {K:PySem.W.Frag} {x dx C f:Addr} {mA:Str→Option Value} {name:Str} {v:Value}
theorem get_map {expr:Bool} {Q:Value→Shared→Prop} (X:K.In s.heap) (I:l9 s.heap x dx C mA) (hg:PySem.W.plainGet K C name=true) (hh:PySem.W.hasDictIn K C=true)
  (ha:PySem.W.findIn K (.ref C) name=some none) (hv:mA name=some v) (hv':PySem.W.handedIn v=true) (h:Q v { s with toks:=s.toks+1 }) :
  wpAny (model prog w) A (getAttr (.ref x) name expr) Q E s:=by
 obtain ⟨od,J,hl⟩:=I.look;exact PySem.W.get_value X J (PySem.W.plainGet_of hg).1 (PySem.W.findObj_own hh ha rfl (by rw [hl,hv])) hv' h
theorem Rm {pl:Sem Bool} {Q:Value×List Value→Shared→Prop} (X:K.In s.heap) (I:l9 s.heap x dx C mA) (hg:PySem.W.plainGet K C name=true)
  (hf:PySem.W.findIn K (.ref C) name=some (some (.ref f))) (ht:PySem.W.isFn K (.ref f)=true) (hv:mA name=none) (h:Q (.ref f,[.ref x]) s) :
  wpAny (model prog w) A (getMethod (.ref x) name pl) Q E s:=by
 obtain ⟨od,J,hl⟩:=I.look;exact PySem.W.method_fn X J (PySem.W.plainGet_of hg).1 (PySem.W.plainGet_of hg).2 hf (beq_iff_eq.mp ht) (by show (PySem.W.lookIn name od).map (·.isSome)=some false; rw [hl,hv]; rfl) h
theorem R8 {ns:List Str} {Q:Unit→Shared→Prop} (X:K.In s.heap) (I:l9 s.heap x dx C mA)
  (hs:PySem.W.findIn K (.ref C) "__setattr__" = some (some (.builtin "object.__setattr__"))) (hp:PySem.W.plainOver K C=true) (ht:PySem.W.takerIn K C name=some none) (hh:PySem.W.hasDictIn K C=true)
  (hw:PySem.Within mA ns) (hsz:ns.length≤sizeLine)
  (h:∀ h',l9 h' x dx C (fun y=>if y=name then some v else mA y)→Heap.SameBut dx s.heap h'→Q () { s with heap:=h',toks:=s.toks+2 }) :
  wpAny (model prog w) A (setAttr (.ref x) name v) Q E s:=by
 obtain ⟨od,J,hl⟩:=I.look;refine PySem.W.set_plain X J hs (PySem.W.osa_open (s:={ s with toks:=s.toks+1 }) (r:=none) X J hp ht fun b=>?_);obtain ⟨cd,hc,hd'⟩:=PySem.W.any_some hh;have hx:s.heap.get? x=some ⟨.ref C,some dx,.plain,#[]⟩:=I.obj;refine wpAny_bind (wpAny_pure (wpAny_bind (wpAny_bind (wpAny_loadPart hx (wpAny_bind (PySem.W.Looks.here (s:={ s with toks:=s.toks+1 }) (PySem.W.looks_clsIn X hc) ?_))))));rw [hd'];refine wpAny_pure (a:=some dx) (wpAny_bind (wpAny_pure (wpAny_bind ?_)));refine wpAny_nsSet1 (s:={ s with toks:=s.toks+1 }) I.ns fun h' hJ vq=>?_;obtain ⟨oD,esD,epD,B1,AO,B3⟩:=hJ.count (PySem.Within.cons name v hw);refine wpAny_bind (wpAny_lookBehind B1 (by rw [AO]; exact pastItsLine_dict (Nat.le_trans B3 (by rw [List.length_cons]; omega))) ?_);exact wpAny_pure (h _ ⟨(vq.2 _ (Ne.symm I.ne)).trans I.obj,hJ,I.ne⟩ vq)
theorem Pw {R:Result→Shared→Prop} {vs:List Value} {kw:List (Str×Value)} (X:K.In s.heap) (hm:PySem.W.makesIn K C=true)
  (hi:PySem.W.findIn K (.ref C) "__init__" = some (some (.ref f))) (hf:PySem.W.typeIn K (.ref f)=some (.type "function"))
  (h:codeAny (model prog w) (A.under (.builtin "type.__call__" ⟨.ref C::vs,kw⟩)) (.call (.ref f) ⟨.ref (s.heap.objs.size+1)::vs,kw⟩) (PySem.W.InitBack (s.heap.objs.size+1) R)
   { s with heap:=(s.heap.push PySem.W.emptyDict).push (PySem.W.instObj C s.heap.objs.size) }) :
  codeAny (model prog w) A (.call (.ref C) ⟨vs,kw⟩) R s:=by
 obtain ⟨hh,g,d,t,os⟩:=s;exact PySem.W.make_core (PySem.W.makes_of X hm) (PySem.W.looks_findIn X hi) (fun self=>PySem.W.bind_fn X self hf) (.inl rfl) h
end
def ae (f:Str) (v:V):List (Str×V)→List (Str×V)
 | []=>[(f,v)]
 | (g,x)::r=>if g=f then (g,v)::r else (g,x)::ae f v r
theorem dC (f g:Str) (v:V):∀ fs:List (Str×V),(ae f v fs).lookup g=if g=f then some v else fs.lookup g
 | []=>by
  show List.lookup g [(f,v)]=_;by_cases h:g=f
  ·have hb:(g == f)=true:=beq_iff_eq.mpr h;simp only [List.lookup,hb,if_pos h]
  ·have hb:(g == f)=false:=beq_eq_false_iff_ne.mpr h;simp only [List.lookup,hb,if_neg h]
 | (k,x)::r=>by
  have ih:=dC f g v r;rw [show ae f v ((k,x)::r)=(if k=f then (k,v)::r else (k,x)::ae f v r) from rfl];by_cases hk:k=f
  ·rw [if_pos hk];by_cases h:g=k
   ·have hb:(g == k)=true:=beq_iff_eq.mpr h;simp only [List.lookup,hb,if_pos (h.trans hk)]
   ·have hb:(g == k)=false:=beq_eq_false_iff_ne.mpr h;simp only [List.lookup,hb,if_neg (fun e:g=f=>h (e.trans hk.symm))]
  ·rw [if_neg hk];by_cases h:g=k
   ·have hb:(g == k)=true:=beq_iff_eq.mpr h;simp only [List.lookup,hb,if_neg (fun e:g=f=>hk (h.symm.trans e))]
   ·have hb:(g == k)=false:=beq_eq_false_iff_ne.mpr h;simp only [List.lookup,hb];exact ih
theorem y1 (f:Str) (v:V):∀ fs:List (Str×V),f∈(ae f v fs).map (·.1)∧∀ g,g∈fs.map (·.1)→g∈(ae f v fs).map (·.1)
 | []=>⟨by simp [ae],fun g h=>by simp at h⟩
 | (k,x)::r=>by
  obtain ⟨i1,i2⟩:=y1 f v r;rw [show ae f v ((k,x)::r)=(if k=f then (k,v)::r else (k,x)::ae f v r) from rfl];by_cases hk:k=f
  ·rw [if_pos hk];subst hk;exact ⟨by simp,fun g h=>by simpa using h⟩
  ·rw [if_neg hk];refine ⟨?_,fun g h=>?_⟩
   ·rw [List.map_cons];exact List.mem_cons_of_mem _ i1
   ·rw [List.map_cons] at h ⊢;rcases List.mem_cons.mp h with e | e
    ·exact List.mem_cons.mpr (.inl e)
    ·exact List.mem_cons_of_mem _ (i2 g e)
theorem xC (f:Str) (v:V):∀ fs:List (Str×V),(ae f v fs).length≤fs.length+1
 | []=>by simp [ae]
 | (k,x)::r=>by
  have ih:=xC f v r;rw [show ae f v ((k,x)::r)=(if k=f then (k,v)::r else (k,x)::ae f v r) from rfl];by_cases hk:k=f
  ·rw [if_pos hk,List.length_cons,List.length_cons]; omega
  ·rw [if_neg hk,List.length_cons,List.length_cons]; omega
theorem dS.some_of {v:V} {o:Option Value} (r:dS (some v) o):∃ u,o=some u∧RelV v u:=by
 cases o with
 | none=>exact (show False from r).elim
 | some u=>exact ⟨u,rfl,r⟩
theorem dS.none_of {o:Option Value} (r:dS none o):o=none:=by
 cases o with
 | none=>rfl
 | some u=>exact (show False from r).elim
theorem P6 {v:V} {u:Value} (r:RelV v u):PySem.W.handedIn u=true:=by
 cases v with
 | ax=>cases (show u=Value.none from r); rfl
 | bl b=>cases (show u=Value.bool b from r); rfl
 | int i=>obtain ⟨t,e⟩:=(show ∃ t,u=Value.int i t from r); cases e; rfl
 | str x=>obtain ⟨t,e⟩:=(show ∃ t,u=Value.str x t from r); cases e; rfl
 | byt b=>obtain ⟨t,e⟩:=(show ∃ t,u=Value.bytes b t from r); cases e; rfl
 | lW b=>obtain ⟨t,e⟩:=(show ∃ t,u=Value.float b t from r); cases e; rfl
 | ref a=>cases (show u=Value.ref a from r); rfl
 | ty n=>cases (show u=Value.type n from r); rfl
section
variable {P:Program} {w:World} {H H':Hp} {h h':Heap} {a C dx:Addr} {fs fs':List (Str×V)}
theorem va (aC:bS P w H h) (e:H a=some (.ins C dx fs)):∃ mA,l9 h a dx C mA∧(∀ f,dS (fs.lookup f) (mA f))∧PySem.Within mA (fs.map (·.1))∧fs.length≤1000∧H dx=some (.own a):=by
 obtain ⟨d,z,ne,ob,mA,n,r,q⟩:=(show bP P w H h a (.ins C dx fs) from aC a _ e);exact ⟨mA,⟨ob,n,ne⟩,r,q,z,d⟩
end
structure cF (K:PySem.W.Frag) (C:Addr):Prop where
 pg:PySem.W.plainGet K C Str.empty=true
 hd:PySem.W.hasDictIn K C=true
 po:PySem.W.plainOver K C=true
 sa:PySem.W.findIn K (.ref C) "__setattr__" = some (some (.builtin "object.__setattr__"))
theorem cF.get {K:PySem.W.Frag} {C:Addr} (c:cF K C) (f:Str):PySem.W.plainGet K C f=true:=c.pg
def bx (K:PySem.W.Frag) (C:Addr) (f:Str):Prop:=PySem.W.findIn K (.ref C) f=some none
theorem bx.Lf {K:PySem.W.Frag} {C:Addr} {f:Str} (n:bx K C f):PySem.W.takerIn K C f=some none:=by
 unfold PySem.W.takerIn;rw [show PySem.W.findIn K (.ref C) f=some none from n];rfl
structure WA (K:PySem.W.Frag) (C:Addr) (f:Str) (v:V) (u:Value):Prop where
 at_:PySem.W.findIn K (.ref C) f=some (some u)
 rel:RelV v u
 get:PySem.W.specialIn K u "__get__" = some none
 cp:PySem.W.copiedNames.contains f=false
structure Meth (K:PySem.W.Frag) (C:Addr) (m:Str) (f:Addr):Prop where
 at_:PySem.W.findIn K (.ref C) m=some (some (.ref f))
 fn:PySem.W.isFn K (.ref f)=true
 kp:PySem.W.keepIn K (.ref f)=true
section
variable {X:Cx} {pins:List (Addr×Obj)} {σ:St} {H:Hp} {s:Shared} {a C dx:Addr} {fs:List (Str×V)} {f:Str} {v:V} {A:Around} {E:Value→Shared→Prop}
theorem CM {b:Bool} {Q:Value→Shared→Prop} (I:Inv X pins σ H s) (e:H a=some (.ins C dx fs)) (c:cF X.K C) (n:bx X.K C f) (l:fs.lookup f=some v)
  (h:∀ u s',Inv X pins σ H s'→RelV v u→Q u s'):wpAny (model X.prog X.w) A (getAttr (.ref a) f b) Q E s:=by
 obtain ⟨mA,O,r,_,_,_⟩:=va I.aC e;obtain ⟨u,hu,ru⟩:=dS.some_of (v:=v) (o:=mA f) (by rw [← l]; exact r f);exact get_map I.bQ O (c.get f) c.hd n hu (P6 ru) (h u _ (I.tok _) ru)
theorem xb {m:Str} {g:Addr} {pl:Sem Bool} {Q:Value×List Value→Shared→Prop} (I:Inv X pins σ H s) (e:H a=some (.ins C dx fs)) (c:cF X.K C) (k:Meth X.K C m g) (l:fs.lookup m=none)
  (h:Q (.ref g,[.ref a]) s):wpAny (model X.prog X.w) A (getMethod (.ref a) m pl) Q E s:=by
 obtain ⟨mA,O,r,_,_,_⟩:=va I.aC e;have hn:mA m=none:=dS.none_of (by rw [← l]; exact r m);exact Rm I.bQ O (c.get m) k.at_ k.fn hn h
theorem E2 {y:V} {u:Value} {Q:Unit→Shared→Prop} (I:Inv X pins σ H s) (e:H a=some (.ins C dx fs)) (c:cF X.K C) (n:bx X.K C f) (hl:fs.length < 1000) (ry:RelV y u)
  (h:∀ s',Inv X pins σ (upd H a (.ins C dx (ae f y fs))) s'→Q () s'):wpAny (model X.prog X.w) A (setAttr (.ref a) f u) Q E s:=by
 obtain ⟨mA,O,r,wi,_,ho⟩:=va I.aC e;have hz:(fs.map (·.1)).length≤sizeLine:=by rw [List.length_map,sizeLine_eq]; omega
 refine R8 I.bQ O c.sa c.po n.Lf c.hd wi hz fun h' O' sb=>h _ ?_;have hd:∃ o,h'.get? dx=some o:=let ⟨o,_,_,e',_⟩:=O'.ns; ⟨o,e'⟩
 refine I.write (x:=a) (e:=dx) (by rw [e]; exact True.intro) (.inr ho) (fun b q hb z=>(sb.2 b hb).trans z) hd ?_;refine ⟨by rw [ah O.ne]; exact ho,?_,O.ne,O'.obj,_,O'.ns,fun g=>?_,fun g hg=>?_⟩
 ·have:=xC f y fs; omega
 ·show dS ((ae f y fs).lookup g) (if g=f then some u else mA g);rw [dC];by_cases q:g=f
  ·rw [if_pos q,if_pos q]; exact ry
  ·rw [if_neg q,if_neg q]; exact r g
 ·by_cases q:g=f
  ·rw [q]; exact (y1 f y fs).1
  ·refine (y1 f y fs).2 g (wi g fun z=>hg ?_);show (if g=f then some u else mA g)=none;rw [if_neg q]; exact z
theorem Inv.made (I:Inv X pins σ H s):Inv X pins σ (upd (upd H s.heap.objs.size (.own (s.heap.objs.size+1))) (s.heap.objs.size+1) (.ins C s.heap.objs.size []))
  { s with heap:=(s.heap.push PySem.W.emptyDict).push (PySem.W.instObj C s.heap.objs.size) }:=by
 have e1:(s.heap.push PySem.W.emptyDict).get? s.heap.objs.size=some PySem.W.emptyDict:=Heap.get?_push_size s.heap rfl;have e2:((s.heap.push PySem.W.emptyDict).push (PySem.W.instObj C s.heap.objs.size)).get? (s.heap.objs.size+1)=some (PySem.W.instObj C s.heap.objs.size):=by
  have:=Heap.get?_push_size (s.heap.push PySem.W.emptyDict) (o:=PySem.W.instObj C s.heap.objs.size) rfl
  rwa [Heap.size_push] at this
 have e3:(s.heap.push PySem.W.emptyDict).Ns s.heap.objs.size (fun _=>none):=⟨PySem.W.emptyDict,#[],_,e1,rfl,(fun e he=>absurd he (by simp)),fun _=>rfl⟩;have I1:=I.laid (a:=s.heap.objs.size) (o:=.own (s.heap.objs.size+1)) (h':=s.heap.push PySem.W.emptyDict) (t':=s.toks) (fun b u q=>Heap.get?_push_of_some _ q) (Nat.le_refl _) ⟨_,e1⟩;refine I1.laid (a:=s.heap.objs.size+1) (o:=.ins C s.heap.objs.size []) (t':=s.toks) (fun b u q=>Heap.get?_push_of_some _ q) (Nat.le_of_eq (Heap.size_push _ _)) ?_;have ne:s.heap.objs.size≠s.heap.objs.size+1:=Nat.ne_of_lt (Nat.lt_succ_self _);refine ⟨by rw [ah ne,ay],Nat.zero_le _,ne,e2,fun _=>none,(Heap.Ns1.of_empty e3).at fun o q=>Heap.get?_push_of_some _ q,fun _=>True.intro,fun y hy=>absurd rfl hy⟩
theorem LW {prog:Program} {w:World} {env:Env} {e:Expr} {f:Str} {pos:Pos} {s:Shared} {Q:Value→Shared→Prop} (hb:attributeBase e f env (eval e env)=eval e env)
  (h:wpAny (model prog w) A (eval e env) (fun o s₁=>wpAny (model prog w) A (getAttr o f true) Q E s₁) E s):wpAny (model prog w) A (eval (.Attribute e f pos) env) Q E s :=
 Attribute_any_ h (by rw [arm_eval_Attribute,hb])
end
def zr (X:Cx) (op:Operator) (rd:V→V→Hp→VK→Prop):Prop :=
 ∀ (pins:List (Addr×Obj)) (s:Shared) (σ:St) (H:Hp) (x y:V) (u v:Value) (Q:VK),Inv X pins σ H s→RelV x u→RelV y v→rd x y H Q→wpAny (model X.prog X.w) X.A (inplaceOp op u v) (EP X pins σ Q) X.xe s
section
variable {X:Cx} {o e value:Expr} {f:Str} {pos pos' tpos:Pos} {ta tv:TE}
def Ht:V→V→Hp→VK→Prop:=fun x y H Q=>∃ i j,x=.int i∧y=.int j∧Q (.int (i+j)) H
theorem kc:zr X .Add Ht:=by
 rintro pins s σ H x y u v Q I rx ry ⟨i,j,rfl,rfl,q⟩;obtain ⟨t,rfl⟩:=(show ∃ t,u=Value.int i t from rx);obtain ⟨t',rfl⟩:=(show ∃ t',v=Value.int j t' from ry);exact PyProof.Rows.iadd_int ⟨.int (i+j),H,I.tok _,⟨_,rfl⟩,q⟩
end
section
variable {X:Cx} {pins:List (Addr×Obj)} {σ:St} {H:Hp} {s:Shared} {A:Around} {E:Value→Shared→Prop} {Q:Value→Shared→Prop} {c:Value} {b:Bool}
inductive eK (K:PySem.W.Frag) (H:Hp):V→Value→Prop where
 | ax:eK K H .ax (.type "NoneType")
 | bl (x:Bool):eK K H (.bl x) (.type "bool")
 | int (i:Int):eK K H (.int i) (.type "int")
 | str (x:Str):eK K H (.str x) (.type "str")
 | lW (x:UInt64):eK K H (.lW x) (.type "float")
 | lst {a:Addr} {xs:List V} (e:H a=some (.lst xs)):eK K H (.ref a) (.type "list")
 | dY {a:Addr} {o:Obj} {xs:List V} (e:H a=some (.dY o (.lst xs))):eK K H (.ref a) (.type "list")
 | tup {a:Addr} {xs:List V} (e:H a=some (.tup xs)):eK K H (.ref a) (.type "tuple")
 | dK {a:Addr} {kvs:List (Key×V)} (e:H a=some (.dK kvs)):eK K H (.ref a) (.type "dict")
 | dT {a:Addr} {kvs:List (List Key×V)} (e:H a=some (.dT kvs)):eK K H (.ref a) (.type "dict")
 | ins {a C dx:Addr} {fs:List (Str×V)} (e:H a=some (.ins C dx fs)) (cl:cF K C) (ha:PySem.W.findIn K (.ref C) "__class__" = some (some (.builtin "object.__class__")))
   (hn:PySem.W.specialIn K (.builtin "object.__class__") "__get__" = some (some (.builtin "getset_descriptor.__get__"))) (dF:PySem.W.takesIn K (.builtin "object.__class__")=some true)
   (hm:PySem.W.mroIn K C (.type "object")=some true):eK K H (.ref a) (.ref C)
theorem xM {x:V} {u t:Value} (I:Inv X pins σ H s) (rx:RelV x u) (ty:eK X.K H x t) (e:PySem.W.kitOne X.K t c=some b) (h:∀ tk,Q (.bool b) { s with toks:=tk }) :
  wpAny (model X.prog X.w) A (call (.builtin "isinstance") [u,c]) Q E s:=by
 cases ty with
 | ax=>cases (show u=Value.none from rx); exact PySem.W.kia_one PySem.W.kitx_none I.bQ True.intro e (fun z=>nomatch z) h
 | bl y=>cases (show u=Value.bool y from rx); exact PySem.W.kia_one PySem.W.kitx_bool I.bQ True.intro e (fun z=>nomatch z) h
 | int i=>obtain ⟨t,q⟩:=(show ∃ t,u=Value.int i t from rx); cases q; exact PySem.W.kia_one PySem.W.kitx_int I.bQ True.intro e (fun z=>nomatch z) h
 | str y=>obtain ⟨t,q⟩:=(show ∃ t,u=Value.str y t from rx); cases q; exact PySem.W.kia_one PySem.W.kitx_str I.bQ True.intro e (fun z=>nomatch z) h
 | lW y=>obtain ⟨t,q⟩:=(show ∃ t,u=Value.float y t from rx); cases q; exact PySem.W.kia_one PySem.W.kitx_float I.bQ True.intro e (fun z=>nomatch z) h
 | @lst a xs ea =>
  cases (show u=Value.ref a from rx);obtain ⟨_,_,n,_,h1⟩:=(show bP X.prog X.w H s.heap a (.lst xs) from I.aC a _ ea);exact PySem.W.kia_one PySem.W.kitx_list I.bQ ⟨_,h1,rfl⟩ e (fun z=>nomatch z) h
 | @dY a ob xs ea =>
  cases (show u=Value.ref a from rx);obtain ⟨_,_,_,n,_,h1⟩:=(show bP X.prog X.w H s.heap a (.dY ob (.lst xs)) from I.aC a _ ea);exact PySem.W.kia_one PySem.W.kitx_list I.bQ ⟨_,h1,rfl⟩ e (fun z=>nomatch z) h
 | @tup a xs ea =>
  cases (show u=Value.ref a from rx);obtain ⟨_,_,_,p⟩:=(show bP X.prog X.w H s.heap a (.tup xs) from I.aC a _ ea);obtain ⟨o,h1,h2,_⟩:=p;exact PySem.W.kia_one PySem.W.kitx_tuple I.bQ ⟨o,h1,h2⟩ e (fun z=>nomatch z) h
 | @dK a kvs ea =>
  cases (show u=Value.ref a from rx);obtain ⟨_,_,vs,_,p⟩:=(show bP X.prog X.w H s.heap a (.dK kvs) from I.aC a _ ea);obtain ⟨o,es,ep,h1,h2,_⟩:=p;exact PySem.W.kia_one PySem.W.kitx_dict I.bQ ⟨o,h1,h2.1⟩ e (fun z=>nomatch z) h
 | @dT a kvs ea =>
  cases (show u=Value.ref a from rx);obtain ⟨_,_,xs,_,o,es,ep,h1,h2,_⟩:=(show bP X.prog X.w H s.heap a (.dT kvs) from I.aC a _ ea);exact PySem.W.kia_one PySem.W.kitx_dict I.bQ ⟨o,h1,h2.1⟩ e (fun z=>nomatch z) h
 | @ins a C dx fs ea cl ha hn dF hm =>
  cases (show u=Value.ref a from rx);obtain ⟨mA,O,_⟩:=va I.aC ea;obtain ⟨od,J,_⟩:=O.look;exact PySem.W.kia_one (PySem.W.kitx_own (cl.get _) cl.hd ha hn dF hm) I.bQ J e (fun z=>nomatch z) h
end
end L2
namespace L2
open PySem PySem.Spec PyProof.Rows
structure bB (k:Nat) (A:Around):Prop where
 hd:A.handled=none
 dp:A.depth+3 * k+5 < recursionLimit
 un:A.units+16 * k+200 < cLine
theorem bB.mono {j k:Nat} {A:Around} (r:bB k A) (h:j≤k):bB j A:=⟨r.hd,by have:=r.dp; omega,by have:=r.un; omega⟩
theorem bB.deeper {k:Nat} {A:Around} (r:bB (k+1) A) (env:Env):bB k (A.deeper env) :=
 ⟨r.hd,by have:=r.dp; show A.depth+1+3 * k+5 < _; omega,by have:=r.un; show A.units+3+16 * k+200 < _; omega⟩
theorem U9 {A:Around} {C:Addr} {us:List Value} {kw:List (Str×Value)}:(A.under (.builtin "type.__call__" ⟨.ref C::us,kw⟩)).depth=A.depth+1:=by
 first | rfl | simp [Around.under,Code.weight,Code.isCreation,Code.isGuard,Code.isCaller,Code.frames,Code.isFrame,guardIds]
theorem Pb {A:Around} {C:Addr} {us:List Value} {kw:List (Str×Value)}:(A.under (.builtin "type.__call__" ⟨.ref C::us,kw⟩)).units=A.units+1:=by
 first | rfl | simp [Around.under,Code.cUnits,Code.frames,Code.isFrame]
theorem bB.make {k:Nat} {A:Around} (r:bB (k+1) A) (C:Addr) (us:List Value) (kw:List (Str×Value)):bB k (A.under (.builtin "type.__call__" ⟨.ref C::us,kw⟩)) :=
 ⟨r.hd,by have:=r.dp; rw [U9]; omega,by have:=r.un; rw [Pb]; omega⟩
theorem bB.depth {k:Nat} {A:Around} (r:bB k A):A.depth < recursionLimit:=by have:=r.dp; omega
theorem bB.units {k:Nat} {A:Around} (r:bB k A):A.units+64 < cLine:=by have:=r.un; omega
theorem bB.fV {k:Nat} {A:Around} (r:bB k A):A.units < cLine:=by have:=r.un; omega
def gg:TA:=fun _ H Q=>Q [] H
def gO (ta:TE) (tr:TA):TA:=fun σ H Q=>ta σ H fun x H1=>tr σ H1 fun xs H2=>Q (x::xs) H2
section
variable {X:Cx} {e:Expr} {es:List Expr} {te:TE} {t:TA} {pos:Pos}
theorem Lz:PA X [] gg:=fun _ _ _ _ H Q I h=>Calls.spliced_nil ⟨[],H,I,.nil,h⟩
theorem K2 (ha:PE X e te) (hr:PA X es t) (hs:starEach (e::es) X.env=(false,eval e X.env)::starEach es X.env:=by rfl):PA X (e::es) (gO te t):=by
 intro pos pins s σ H Q I h;rw [hs];show wpAny _ _ (spliced ((false,eval e X.env)::backTo pos (starEach es X.env))) _ _ s;refine Calls.spliced_cons (aE (ha pins s σ H _ I h) fun u s1 ⟨x,H1,I1,r1,q1⟩=>?_);exact aE (hr pos pins s1 σ H1 _ I1 q1) fun us s2 ⟨xs,H2,I2,r2,q2⟩=>⟨x::xs,H2,I2,.cons r1 r2,q2⟩
def qW (t:TA):TE:=fun σ H Q=>t σ H fun xs H1=>xs.length≤sizeLine∧∀ p,H1 p=none→Q (.ref p) (upd H1 p (.tup xs))
def ua (t:TA):TE:=fun σ H Q=>t σ H fun xs H1=>xs.length≤sizeLine∧∀ p,H1 p=none→Q (.ref p) (upd H1 p (.lst xs))
theorem NR {x1} (h:PA X es t):PE X (.Tuple es x1 pos) (qW t):=by
 intro pins s σ H Q I hq;refine wpAny_Tuple_spliced (aE (h pos pins s σ H _ I hq) fun us s1 ⟨xs,H1,I1,r,z,q⟩=>⟨by rw [← r.length]; exact z,?_⟩);have hf:H1 s1.heap.objs.size=none:=I1.aC.fresh (Nat.le_refl _);refine ⟨.ref s1.heap.objs.size,upd H1 s1.heap.objs.size (.tup xs),I1.laid (t':=s1.toks) (fun b u e=>Heap.get?_push_of_some _ e) (Nat.le_refl _) ?_,rfl,q _ hf⟩;exact ⟨z,us,r,⟨_,Heap.get?_push_size _ rfl,rfl,_,rfl⟩⟩
theorem LQ (h:PA X es t):PE X (.List es pos) (ua t):=by
 intro pins s σ H Q I hq;refine wpAny_List_spliced (aE (h pos pins s σ H _ I hq) fun us s1 ⟨xs,H1,I1,r,z,q⟩=>⟨by rw [← r.length]; exact z,?_⟩);have hf:H1 s1.heap.objs.size=none:=I1.aC.fresh (Nat.le_refl _);refine ⟨.ref s1.heap.objs.size,upd H1 s1.heap.objs.size (.lst xs),I1.laid (t':=s1.toks) (fun b u e=>Heap.get?_push_of_some _ e) (Nat.le_refl _) ?_,rfl,q _ hf⟩;exact ⟨z,us,0,r,Heap.get?_push_size _ rfl⟩
end
abbrev Sp:=List V→Hp→VK→XK→Prop
abbrev dh:=List Env→Hp→Shared→XK→Value→Shared→Prop
structure kE (P:Program) (w:World) (K:PySem.W.Frag) (mg:Str→Option Value) (base:Heap) (A:Around) (outer:List Env) (s:Shared) (H:Hp):Prop where
 frames:A.frames=some outer
 mod:Mod K mg base
 bs:∀ b o,base.get? b=some o→s.heap.get? b=some o∧H b=none
 gr:base.objs.size≤s.heap.objs.size
 fb:s.heap.FunFrames base outer
 iG:∀ b∈bH outer,H b=none
 aC:bS P w H s.heap
 bare:AllBare s.gens
def CE (outer:List Env) (P:Program) (w:World) (H:Hp) (s:Shared) (Q:VK) (u:Value) (s':Shared):Prop :=
 ∃ v H',s'.os=s.os∧AllBare s'.gens∧Un (bH outer) [] H H' s.heap s'.heap∧bS P w H' s'.heap∧RelV v u∧Q v H'
def CR (CX:dh) (outer:List Env) (P:Program) (w:World) (H:Hp) (s:Shared) (Q:VK) (E:XK) (r:Result) (s':Shared):Prop :=
 match r with
 | .ok (.ret u)=>CE outer P w H s Q u s'
 | .ok _=>False
 | .error e=>CX outer H s E e s'
structure aA (P:Program) (w:World) (K:PySem.W.Frag) (mg:Str→Option Value) (base:Heap) (CX:dh) (k:Nat) (f:Addr) (fd:FuncData) (ps:List Str) (sp:Sp):Prop where
 len:∀ vs H Q E,sp vs H Q E→vs.length=ps.length
 run:∀ (A:Around) (outer:List Env) (s:Shared) (H:Hp) (args:Args) (us:List Value) (vs:List V) (Q:VK) (E:XK),bB k A→kE P w K mg base A outer s H→BindsTo s fd args (ps.zip us)→Vals vs us→sp vs H Q E →
  codeAny (model P w) A (.call (.ref f) args) (CR CX outer P w H s Q E) s
theorem aA.imp {P:Program} {w:World} {K:PySem.W.Frag} {mg:Str→Option Value} {base:Heap} {CX:dh} {k:Nat} {f:Addr} {fd:FuncData} {ps:List Str} {sp sp':Sp} (F:aA P w K mg base CX k f fd ps sp)
  (h:∀ vs H Q E,sp' vs H Q E→sp vs H Q E):aA P w K mg base CX k f fd ps sp' :=
 ⟨fun vs H Q E q=>F.len vs H Q E (h _ _ _ _ q),fun A outer s H args us vs Q E hr he hb hv hs=>F.run A outer s H args us vs Q E hr he hb hv (h _ _ _ _ hs)⟩
theorem kE.make {P:Program} {w:World} {K:PySem.W.Frag} {mg:Str→Option Value} {base:Heap} {A:Around} {outer:List Env} {s:Shared} {H:Hp} (e:kE P w K mg base A outer s H) (C:Addr) (us:List Value) (kw:List (Str×Value)) :
  kE P w K mg base (A.under (.builtin "type.__call__" ⟨.ref C::us,kw⟩)) outer s H:=⟨by first | exact e.frames | (simpa [Around.under,Code.envs,Code.isFrame,pushEnvs] using e.frames),e.mod,e.bs,e.gr,e.fb,e.iG,e.aC,e.bare⟩
section
variable {X:Cx} {pins:List (Addr×Obj)} {σ:St} {H:Hp} {s s':Shared}
theorem Inv.qE (I:Inv X pins σ H s):kE X.prog X.w X.K X.mg X.base X.A X.stack s H :=
 ⟨I.ok.frames,I.ok.mod,I.bs,Nat.le_trans I.ok.gr I.sz,I.stack,I.tY,I.aC,I.bare⟩
theorem Inv.after {Q:VK} {u:Value} (I:Inv X pins σ H s) (h:CE X.stack X.prog X.w H s Q u s'):EP X pins σ Q u s':=by
 obtain ⟨v,H',os,bare,un,aC,r,q⟩:=h;obtain ⟨hh,g,d,t,os'⟩:=s';obtain rfl:os'=s.os:=os;exact ⟨v,H',I.call (h':=hh) (g':=g) (d':=d) (t':=t) (ch:=[]) un aC bare (fun b z=>absurd z (by simp)),r,q⟩
end
def tQ (sp:Sp) (bp:List V) (E:XK) (t:TA):TE:=fun σ H Q=>t σ H fun vs H1=>sp (vs++bp) H1 Q E
def qP (C:Addr) (m:Str) (sp:Sp) (bp:List V) (E:XK) (ta:TE) (t:TA):TE:=fun σ H Q=>ta σ H fun x H1=>∃ a dx fs,x=.ref a∧H1 a=some (.ins C dx fs)∧fs.lookup m=none ∧
 t σ H1 fun vs H2=>sp (x::(vs++bp)) H2 Q E
def rq (C:Addr) (sp:Sp) (bp:List V) (E:XK) (t:TA):TE:=fun σ H Q=>t σ H fun vs H1=>∀ x dx,H1 x=none→H1 dx=none→dx≠x →
 sp (.ref x::(vs++bp)) (upd (upd H1 dx (.own x)) x (.ins C dx [])) (fun v H2=>v=.ax∧Q (.ref x) H2) E
def Binds (K:PySem.W.Frag) (fd:FuncData) (ps:List Str) (ds:List Value):Prop :=
 ∀ (s:Shared) (us:List Value),K.In s.heap→(us++ds).length=ps.length→BindsTo s fd ⟨us,[]⟩ (ps.zip (us++ds))
theorem Binds.all {K:PySem.W.Frag} {fd:FuncData} {ps:List Str} (h:∀ us:List Value,us.length=ps.length→bindArgs fd ⟨us,[]⟩=pure (ps.zip us)):Binds K fd ps []:=fun s us _ hl=>by
 rw [List.append_nil] at hl ⊢;exact .of_eq (h us hl)
def Passes (CX:dh) (X:Cx) (E:XK):Prop:=∀ (pins:List (Addr×Obj)) (σ:St) (H:Hp) (s:Shared) (e:Value) (s':Shared),Inv X pins σ H s→CX X.stack H s E e s'→X.xe e s'
section
variable {X:Cx} {CX:dh} {k:Nat} {f C:Addr} {fd:FuncData} {ps:List Str} {sp:Sp} {bp:List V} {ds:List Value} {E:XK} {x m:Str} {p pos apos:Pos} {e o:Expr} {es:List Expr} {ta:TE} {t:TA}
theorem Ak {pins:List (Addr×Obj)} {σ:St} {H:Hp} {s:Shared} {Q:VK} {us:List Value} {vs:List V} (F:aA X.prog X.w X.K X.mg X.base CX k f fd ps sp) (hr:bB k X.A) (hb:Binds X.K fd ps ds) (hd:Vals bp ds) (hx:Passes CX X E)
  (I:Inv X pins σ H s) (r:Vals vs us) (h:sp (vs++bp) H Q E):wpAny (model X.prog X.w) X.A (call (.ref f) us) (EP X pins σ Q) X.xe s:=by
 have r2:Vals (vs++bp) (us++ds):=r.append hd;have hl:(us++ds).length=ps.length:=by rw [← r2.length]; exact F.len _ _ _ _ h
 refine wpAny_call (codeAny_mono (F.run X.A X.stack s H ⟨us,[]⟩ (us++ds) (vs++bp) Q E hr I.qE (hb s us I.bQ hl) r2 h) fun r s' hq=>?_);cases r with
 | error e=>exact hx pins σ H s e s' I hq
 | ok fl =>
  cases fl with
  | ret u=>exact I.after hq
  | next=>exact False.elim hq
  | brk=>exact False.elim hq
  | cont=>exact False.elim hq
theorem Tw (F:aA X.prog X.w X.K X.mg X.base CX k f fd ps sp) (hr:bB k X.A) (hg:Gl X x) (hm:X.mg x=some (.ref f)) (hk:PySem.W.keepIn X.K (.ref f)=true) (hb:Binds X.K fd ps ds) (hd:Vals bp ds) (hx:Passes CX X E)
  (ha:PA X (e::es) t) (bF:(x == ("__debug__" : Str))=false:=by decide) (he:starEach (e::es) X.env=(false,eval e X.env)::starEach es X.env:=by rfl) (bb:(backTo pos (starEach es X.env)).any (·.1)=false:=by rfl) :
  PE X (.Call (.Name x p) (e::es) [] pos) (tQ sp bp E t):=by
 intro pins s σ H Q I h;refine wpAny_Call_Name_kw (jv I hg hm ?_ bF);refine PySem.W.callWith_K (h₀:=X.base) I.ok.mod.gK hk (aE (ha pos pins s σ H _ I h) fun us s1 ⟨vs,H1,I1,r,q⟩=>⟨I1.bQ,?_⟩) he bb;exact Ak F hr hb hd hx I1 r q
theorem QJ {pl:Sem Bool} (he:PE X o ta) (c:cF X.K C) (hm:Meth X.K C m f) (F:aA X.prog X.w X.K X.mg X.base CX k f fd ps sp) (hr:bB k X.A) (hb:Binds X.K fd ps ds) (hd:Vals bp ds) (hx:Passes CX X E) (ha:PA X (e::es) t)
  (aQ:starEach (e::es) X.env=(false,eval e X.env)::starEach es X.env:=by rfl) (bb:(backTo pos (starEach es X.env)).any (·.1)=false:=by rfl)
  (ht:eval (.Call (.Attribute o m apos) (e::es) [] pos) X.env=(do
   let ov ← eval o X.env
   standAt apos.atName
   let (f,first) ← holding [ov] (getMethod ov m pl)
   callWith pos f first (backTo pos (starEach (e::es) X.env)) (backToKw pos (keywordEach [] X.env))):=by rfl) :
  PE X (.Call (.Attribute o m apos) (e::es) [] pos) (qP C m sp bp E ta t):=by
 intro pins s σ H Q I h;refine PySem.W.methodCall_KW (pl:=pl) (aE (he pins s σ H _ I h) fun u s1 ⟨x,H1,I1,rx,a,dx,fs,ex,ea,l,q⟩=>?_) ht;subst ex;obtain rfl:u=Value.ref a:=rx;refine xb I1 ea c hm l ?_;refine PySem.W.callWith_K (first:=[.ref a]) (h₀:=X.base) I.ok.mod.gK hm.kp (aE (ha pos pins s1 σ H1 _ I1 q) fun us s2 ⟨vs,H2,I2,r,q2⟩=>⟨I2.bQ,?_⟩) aQ bb;exact Ak (us:=.ref a::us) (vs:=.ref a::vs) F hr hb hd hx I2 (.cons rfl r) q2
theorem UU {pl:Sem Bool} (he:PE X o ta) (c:cF X.K C) (hm:Meth X.K C m f) (F:aA X.prog X.w X.K X.mg X.base CX k f fd ps sp) (hr:bB k X.A) (hb:Binds X.K fd ps ds) (hd:Vals bp ds) (hx:Passes CX X E)
  (ht:eval (.Call (.Attribute o m apos) [] [] pos) X.env=(do
   let ov ← eval o X.env
   standAt apos.atName
   let (f,first) ← holding [ov] (getMethod ov m pl)
   callWith pos f first (backTo pos (starEach [] X.env)) (backToKw pos (keywordEach [] X.env))):=by rfl) :
  PE X (.Call (.Attribute o m apos) [] [] pos) (qP C m sp bp E ta gg):=by
 intro pins s σ H Q I h;refine PySem.W.methodCall_KW (pl:=pl) (aE (he pins s σ H _ I h) fun u s1 ⟨x,H1,I1,rx,a,dx,fs,ex,ea,l,q⟩=>?_) ht;subst ex;obtain rfl:u=Value.ref a:=rx;refine xb I1 ea c hm l ?_;exact PySem.W.callWith_K0 (first:=[.ref a]) I1.bQ hm.kp (Ak (us:=[.ref a]) (vs:=[.ref a]) F hr hb hd hx I1 (.cons rfl .nil) q)
structure Mk (K:PySem.W.Frag) (C f:Addr):Prop where
 makes:PySem.W.makesIn K C=true
 init:PySem.W.findIn K (.ref C) "__init__" = some (some (.ref f))
 fn:PySem.W.isFn K (.ref f)=true
 kp:PySem.W.keepIn K (.ref C)=true
theorem Hu {pins:List (Addr×Obj)} {σ:St} {H:Hp} {s:Shared} {Q:VK} {us:List Value} {vs:List V} (M:Mk X.K C f) (F:aA X.prog X.w X.K X.mg X.base CX k f fd ps sp) (hr:bB (k+1) X.A) (hb:Binds X.K fd ps ds) (hd:Vals bp ds)
  (hx:Passes CX X E) (I:Inv X pins σ H s) (r:Vals vs us)
  (h:∀ x dx,H x=none→H dx=none→dx≠x→sp (.ref x::(vs++bp)) (upd (upd H dx (.own x)) x (.ins C dx [])) (fun v H2=>v=.ax∧Q (.ref x) H2) E) :
  wpAny (model X.prog X.w) X.A (call (.ref C) us) (EP X pins σ Q) X.xe s:=by
 have hq:=h (s.heap.objs.size+1) s.heap.objs.size (I.aC.fresh (Nat.le_succ _)) (I.aC.fresh (Nat.le_refl _)) (Nat.ne_of_lt (Nat.lt_succ_self _));have I2:=Inv.made (C:=C) I;have r2:Vals (V.ref (s.heap.objs.size+1)::(vs++bp)) (Value.ref (s.heap.objs.size+1)::(us++ds)):=.cons rfl (r.append hd);have hl:(Value.ref (s.heap.objs.size+1)::us++ds).length=ps.length:=by
  have e:=r2.length;rw [F.len _ _ _ _ hq] at e;exact e.symm
 refine wpAny_call (Pw (f:=f) I.bQ M.makes M.init (beq_iff_eq.mp M.fn) (codeAny_mono (F.run _ X.stack _ _ ⟨Value.ref (s.heap.objs.size+1)::us,[]⟩ (Value.ref (s.heap.objs.size+1)::(us++ds)) _ _ E (hr.make C us [])
  (I2.qE.make C us []) (hb _ (Value.ref (s.heap.objs.size+1)::us) I2.bQ hl) r2 hq) fun r s' hq'=>?_))
 cases r with
 | error e=>exact hx pins σ _ _ e s' I2 hq'
 | ok fl =>
  cases fl with
  | ret u =>
   obtain ⟨v,H',I3,rv,ev,q3⟩:=I2.after hq';subst ev;exact ⟨rv,⟨V.ref (s.heap.objs.size+1),H',I3,rfl,q3⟩⟩
  | next=>exact False.elim hq'
  | brk=>exact False.elim hq'
  | cont=>exact False.elim hq'
theorem LK (M:Mk X.K C f) (F:aA X.prog X.w X.K X.mg X.base CX k f fd ps sp) (hr:bB (k+1) X.A) (hg:Gl X x) (hm:X.mg x=some (.ref C)) (hb:Binds X.K fd ps ds) (hd:Vals bp ds) (hx:Passes CX X E)
  (ha:PA X (e::es) t) (bF:(x == ("__debug__" : Str))=false:=by decide) (he:starEach (e::es) X.env=(false,eval e X.env)::starEach es X.env:=by rfl) (bb:(backTo pos (starEach es X.env)).any (·.1)=false:=by rfl) :
  PE X (.Call (.Name x p) (e::es) [] pos) (rq C sp bp E t):=by
 intro pins s σ H Q I h;refine wpAny_Call_Name_kw (jv I hg hm ?_ bF);refine PySem.W.callWith_K (h₀:=X.base) I.ok.mod.gK M.kp (aE (ha pos pins s σ H _ I h) fun us s1 ⟨vs,H1,I1,r,q⟩=>⟨I1.bQ,?_⟩) he bb;exact Hu M F hr hb hd hx I1 r q
theorem MU (M:Mk X.K C f) (F:aA X.prog X.w X.K X.mg X.base CX k f fd ps sp) (hr:bB (k+1) X.A) (hg:Gl X x) (hm:X.mg x=some (.ref C)) (hb:Binds X.K fd ps ds) (hd:Vals bp ds) (hx:Passes CX X E)
  (bF:(x == ("__debug__" : Str))=false:=by decide):PE X (.Call (.Name x p) [] [] pos) (rq C sp bp E gg):=by
 intro pins s σ H Q I h;refine wpAny_Call_Name_kw (jv I hg hm ?_ bF);exact PySem.W.callWith_K0 I.bQ M.kp (Hu (us:=[]) M F hr hb hd hx I .nil h)
end
def PK (X:Cx) (iW:List Keyword) (t:TA):Prop :=
 ∀ (pos:Pos) (pins:List (Addr×Obj)) (s:Shared) (σ:St) (H:Hp) (Q:List V→Hp→Prop),Inv X pins σ H s→t σ H Q→wpAny (model X.prog X.w) X.A (evalAll ((backToKw pos (keywordEach iW X.env)).map (·.2))) (AP X pins σ Q) X.xe s
section
variable {X:Cx} {CX:dh} {k:Nat} {f C:Addr} {fd:FuncData} {ps ks:List Str} {sp:Sp} {E:XK} {x m:Str} {p pos apos vF:Pos} {e o:Expr} {es:List Expr} {iW:List Keyword} {te ta:TE} {t tk:TA} {nm:Option Str}
theorem PY:PK X [] gg:=fun _ _ _ _ H Q I h=>wpAny_evalAll_nil ⟨[],H,I,.nil,h⟩
theorem Sd (ha:PE X e te) (hr:PK X iW t):PK X (⟨nm,e,vF⟩::iW) (gO te t):=by
 intro pos pins s σ H Q I h;show wpAny _ _ (evalAll ((do let v ← eval e X.env; standAt pos; pure v)::(backToKw pos (keywordEach iW X.env)).map (·.2))) _ _ s;refine wpAny_evalAll_cons (wpAny_bind (aE (ha pins s σ H _ I h) fun u s1 ⟨x,H1,I1,r1,q1⟩=>wpAny_bind (wpAny_standAt (wpAny_pure ?_))));exact aE (hr pos pins s1 σ H1 _ I1 q1) fun us s2 ⟨xs,H2,I2,r2,q2⟩=>⟨x::xs,H2,I2,.cons r1 r2,q2⟩
structure ui (K:PySem.W.Frag) (fd:FuncData) (ps ks:List Str) (g:List Value→List Value→List Value) (gV:List V→List V→List V):Prop where
 to:∀ (s:Shared) (us ws:List Value),K.In s.heap→(g us ws).length=ps.length→BindsTo s fd ⟨us,ks.zip ws⟩ (ps.zip (g us ws))
 rel:∀ {vs:List V} {us:List Value} {zs:List V} {ws:List Value},Vals vs us→Vals zs ws→Vals (gV vs zs) (g us ws)
def zZ (sp:Sp) (gV:List V→List V→List V) (E:XK) (t tk:TA):TE:=fun σ H Q=>t σ H fun vs H1=>tk σ H1 fun zs H2=>sp (gV vs zs) H2 Q E
variable {g:List Value→List Value→List Value} {gV:List V→List V→List V}
theorem Ql {pins:List (Addr×Obj)} {σ:St} {H:Hp} {s:Shared} {Q:VK} {us ws:List Value} {vs zs:List V} (F:aA X.prog X.w X.K X.mg X.base CX k f fd ps sp) (hr:bB k X.A) (hb:ui X.K fd ps ks g gV) (hx:Passes CX X E)
  (I:Inv X pins σ H s) (r:Vals vs us) (rz:Vals zs ws) (h:sp (gV vs zs) H Q E):wpAny (model X.prog X.w) X.A (call (.ref f) us (ks.zip ws)) (EP X pins σ Q) X.xe s:=by
 have r2:=hb.rel r rz;have hl:(g us ws).length=ps.length:=by rw [← r2.length]; exact F.len _ _ _ _ h
 refine wpAny_call (codeAny_mono (F.run X.A X.stack s H ⟨us,ks.zip ws⟩ (g us ws) (gV vs zs) Q E hr I.qE (hb.to s us ws I.bQ hl) r2 h) fun r s' hq=>?_);cases r with
 | error e=>exact hx pins σ H s e s' I hq
 | ok fl =>
  cases fl with
  | ret u=>exact I.after hq
  | next=>exact False.elim hq
  | brk=>exact False.elim hq
  | cont=>exact False.elim hq
theorem LL (F:aA X.prog X.w X.K X.mg X.base CX k f fd ps sp) (hr:bB k X.A) (hg:Gl X x) (hm:X.mg x=some (.ref f)) (hk:PySem.W.keepIn X.K (.ref f)=true) (hb:ui X.K fd ps ks g gV) (hx:Passes CX X E)
  (ha:PA X (e::es) t) (AZ:PK X iW tk) (jN:(backToKw pos (keywordEach iW X.env)).all (·.1.isSome)=true:=by rfl) (sH:(backToKw pos (keywordEach iW X.env)).filterMap (·.1)=ks:=by rfl)
  (bF:(x == ("__debug__" : Str))=false:=by decide) (he:starEach (e::es) X.env=(false,eval e X.env)::starEach es X.env:=by rfl)
  (bb:((backTo pos (starEach (e::es) X.env)).any (·.1) || (backToKw pos (keywordEach iW X.env)).any (·.1.isNone))=false:=by rfl) :
  PE X (.Call (.Name x p) (e::es) iW pos) (zZ sp gV E t tk):=by
 intro pins s σ H Q I h;refine wpAny_Call_Name_kw (jv I hg hm ?_ bF);refine PySem.W.callWith_KW (h₀:=X.base) I.ok.mod.gK hk jN (aE (ha pos pins s σ H _ I h) fun us s1 ⟨vs,H1,I1,r,q⟩=>?_) bb he;refine aE (AZ pos pins s1 σ H1 _ I1 q) fun ws s2 ⟨zs,H2,I2,rz,q2⟩=>⟨I2.bQ,?_⟩;rw [sH];exact Ql F hr hb hx I2 r rz q2
end
structure aH (N P:List Str) (sc:Scope):Prop where
 kind:sc.kind=.function
 co:sc.isCoroutine=false
 gen:sc.isGenerator=false
 nd:N.Nodup
 pre:N.take P.length=P
 par:∀ x∈P,sc.names.lookup x=some .local∨sc.names.lookup x=some .cell
 Ol:∀ y∈sc.names,y.2≠.free
theorem GR {kindOf:Str→Option NameKind} {x:Str}:∀ {binds:List (Str×Value)} {m:Str→Option Value},(∀ v,(x,v) ∉ binds)→bindL kindOf binds m x=m x
 | [],_,_=>rfl
 | (n,v)::r,m,h=>by
  unfold bindL;rw [GR fun w hw=>h w (List.mem_cons_of_mem _ hw)];split
  ·have:x≠n:=by rintro rfl; exact h v List.mem_cons_self
   simp [this]
  ·rfl
theorem Dh {kindOf:Str→Option NameKind} {x:Str}:∀ {binds:List (Str×Value)} {m:Str→Option Value},(∀ v,(x,v) ∉ binds)→bindC kindOf binds m x=m x
 | [],_,_=>rfl
 | (n,v)::r,m,h=>by
  unfold bindC;rw [Dh fun w hw=>h w (List.mem_cons_of_mem _ hw)];split
  ·rfl
  ·have:x≠n:=by rintro rfl; exact h v List.mem_cons_self
   simp [this]
theorem DU {kindOf:Str→Option NameKind} {x:Str} {v:Value}:∀ {P:List Str} {vs:List Value} {i:Nat} {m:Str→Option Value},P.Nodup→P[i]?=some x→vs[i]?=some v→kindOf x=some .local →
  bindL kindOf (P.zip vs) m x=some v
 | [],_,_,_,_,h,_,_=>by simp at h
 | _::_,[],_,_,_,_,h,_=>by simp at h
 | p::P,w::vs,0,m,nd,h1,h2,hk=>by
  simp at h1 h2; subst h1; subst h2;show bindL kindOf ((p,w)::P.zip vs) m p=_;unfold bindL;rw [GR fun v hv=>(List.nodup_cons.mp nd).1 (List.of_mem_zip hv).1,if_pos hk];simp
 | p::P,w::vs,i+1,m,nd,h1,h2,hk=>by
  show bindL kindOf ((p,w)::P.zip vs) m x=_;unfold bindL;exact DU (i:=i) (List.nodup_cons.mp nd).2 (by simpa using h1) (by simpa using h2) hk
theorem Ib {kindOf:Str→Option NameKind} {x:Str} {v:Value}:∀ {P:List Str} {vs:List Value} {i:Nat} {m:Str→Option Value},P.Nodup→P[i]?=some x→vs[i]?=some v→kindOf x≠some .local →
  bindC kindOf (P.zip vs) m x=some v
 | [],_,_,_,_,h,_,_=>by simp at h
 | _::_,[],_,_,_,_,h,_=>by simp at h
 | p::P,w::vs,0,m,nd,h1,h2,hk=>by
  simp at h1 h2; subst h1; subst h2;show bindC kindOf ((p,w)::P.zip vs) m p=_;unfold bindC;rw [Dh fun v hv=>(List.nodup_cons.mp nd).1 (List.of_mem_zip hv).1,if_neg hk];simp
 | p::P,w::vs,i+1,m,nd,h1,h2,hk=>by
  show bindC kindOf ((p,w)::P.zip vs) m x=_;unfold bindC;exact Ib (i:=i) (List.nodup_cons.mp nd).2 (by simpa using h1) (by simpa using h2) hk
def start (N:List Str) (vs:List V):St:=vs.map some++List.replicate (N.length - vs.length) none
def fX (CX:dh) (P:Program) (w:World) (K:PySem.W.Frag) (mg:Str→Option Value) (base:Heap) (N:List Str) (qual:Str) (scope:Scope) (f:Addr) (cd:Value) (A:Around) (outer:List Env) (s:Shared) (H:Hp) (E:XK):Cx where
 prog:=P
 w:=w
 K:=K
 mg:=mg
 base:=base
 A:=A.deeper (envOfC qual scope s.heap.objs.size f cd)
 N:=N
 s₀:=s
 H₀:=H
 env:=envOfC qual scope s.heap.objs.size f cd
 outer:=outer
 stack:=envOfC qual scope s.heap.objs.size f cd::outer
 ex:=[]
 calm:=true
 fn:=fun _=>true
 pn:=[]
 xe:=fun e s'=>wpAny (model P w) (A.deeper (envOfC qual scope s.heap.objs.size f cd)) (leaving (envOfC qual scope s.heap.objs.size f cd) e) (fun _ s''=>CX outer H s E e s'') (fun e' s''=>CX outer H s E e' s'') s'
theorem GH {sc:Scope} {n:Nat} {x:Str} (h:sc.names.lookup x=some .cell):∃ c,(cellsFrom n sc.names []).lookup x=some c:=by
 have q:=PySem.W.cellsFrom_some sc.names n [] (.inl h);exact Option.isSome_iff_exists.mp q
theorem Ni {CX:dh} {P:Program} {w:World} {K:PySem.W.Frag} {mg:Str→Option Value} {base:Heap} {N ps:List Str} {qual:Str} {scope:Scope} {f:Addr} {cd:Value} {A:Around} {outer:List Env} {s s1:Shared} {H:Hp} {E:XK} {us:List Value} {vs:List V}
  (S:aH N ps scope) (hd:A.handled=none) (e0:kE P w K mg base A outer s H) (hl:vs.length=ps.length) (r:Vals vs us)
  (x:InCallC s s.heap.objs.size (bindL (envOfC qual scope s.heap.objs.size f cd).kindOf (ps.zip us) fun _=>none) (cellsFrom (s.heap.objs.size+1) scope.names []) (bindC (envOfC qual scope s.heap.objs.size f cd).kindOf (ps.zip us) fun _=>none) s1) :
  Inv (fX CX P w K mg base N qual scope f cd A outer s H E) [] (start N vs) H s1:=by
 have bb:ps.length≤N.length:=by have:=congrArg List.length S.pre; rw [List.length_take] at this; omega
 obtain ⟨h1,tk,rfl,hk⟩:=x.done;have sx:∀ b:Addr,b ∉ (fX CX P w K mg base N qual scope f cd A outer s H E).ex:=fun b z=>absurd (show b∈([]:List Addr) from z) (by simp);refine ⟨⟨e0.mod,S.kind,rfl,rfl,Nat.le_refl _,fun y z c h1 h2=>?_,fun y hy=>?_,fun y c _ h=>?_,fun _=>hd,Around.frames_deeper e0.frames,.inr ⟨rfl,rfl⟩,fun b z=>absurd z (sx b),e0.bs,e0.gr,fun b _ _=>sx b,fun b z=>absurd z (sx b),e0.fb,e0.iG⟩,
  rfl,e0.bare,Un.kept hk,⟨_,x.toInCall.ns,fun i y v h1 h2 h3=>?_⟩,fun y c h=>⟨_,x.cell y c h⟩,e0.aC.fresh (Nat.le_refl _),fun y c h=>?_,fun p hp=>absurd (show p∈([]:List (Addr×Obj)) from hp) (by simp),e0.aC.kept hk,?_⟩
 ·exact name_of_addr x.apart (PySem.mem_of_lookup h1) (PySem.mem_of_lookup h2)
 ·have hy:scope.names.lookup y=some .cell∨scope.names.lookup y=some .free:=hy;rcases hy with hy | hy
  ·exact GH hy
  ·exact absurd rfl (S.Ol _ (PySem.mem_of_lookup hy))
 ·exact Nat.le_of_lt (x.above y c (PySem.mem_of_lookup h))
 ·have hi:i < vs.length:=by
   unfold start at h2;by_cases hi:i < vs.length
   ·exact hi
   ·rw [List.getElem?_append_right (by simpa using hi)] at h2;rw [List.getElem?_replicate] at h2;split at h2 <;> cases h2
  have ha:vs[i]?=some v:=by
   unfold start at h2;rw [List.getElem?_append_left (by simpa using hi),List.getElem?_map] at h2;cases e:vs[i]? with
   | none=>rw [e] at h2; cases h2
   | some a=>rw [e] at h2; cases h2; rfl
  obtain ⟨u,hu,rv⟩:=r.get ha;have hp:ps[i]?=some y:=by
   rw [← S.pre,List.getElem?_take_of_lt (by omega)]; exact h1
  have Ki:ps.Nodup:=by rw [← S.pre]; exact S.nd.sublist (List.take_sublist _ _)
  refine ⟨u,rv,?_⟩;rcases S.par y (List.mem_of_getElem? hp) with k | k
  ·exact .inl ⟨k,DU Ki hp hu k⟩
  ·obtain ⟨c,e⟩:=GH (n:=s.heap.objs.size+1) k;refine .inr ⟨.inl k,c,e,?_⟩;have q:=x.cell y c e;rw [Ib Ki hp hu (by show scope.names.lookup y≠_; rw [k]; decide)] at q;exact q
 ·exact e0.aC.fresh (Nat.le_of_lt (x.above y c (PySem.mem_of_lookup h)))
 ·unfold start;show _=N.length;rw [List.length_append,List.length_map,List.length_replicate];omega
theorem yk {CX:dh} {P:Program} {w:World} {K:PySem.W.Frag} {mg:Str→Option Value} {base:Heap} {k:Nat} {f:Addr} {name qual:Str} {params:Arguments} {body:List Stmt} {scope:Scope} {dV kV doc pm az ct oc:Value} {an od:Option Addr}
  {c8:Array (Option Value)} {N ps:List Str} {sp:Sp} (lk:K.lookup f=some ⟨oc,od,.func (PySem.W.fnOf name qual params body scope dV kV doc pm an az ct),c8⟩) (cI:PySem.W.codeIn K az qual=true) (S:aH N ps scope)
  (len:∀ vs H Q E,sp vs H Q E→vs.length=ps.length)
  (AN:∀ (A:Around) (outer:List Env) (s:Shared) (H:Hp) (vs:List V) (Q:VK) (E:XK),bB k (A.deeper (envOfC qual scope s.heap.objs.size f az))→sp vs H Q E →
   ∃ t,cT (fX CX P w K mg base N qual scope f az A outer s H E) body t∧t { nx:=fun _ H'=>Q .ax H',rt:=Q } (start N vs) H) :
  aA P w K mg base CX (k+1) f (PySem.W.fnOf name qual params body scope dV kV doc pm an az ct) ps sp:=by
 refine ⟨len,fun A outer s H args us vs Q E hr e0 hb r fH=>?_⟩;have hl:=len _ _ _ _ fH;have KX:K.In s.heap:=e0.mod.gK.keeps fun b o e=>(e0.bs b o e).1;have lim:s.heap.NoLimit:=e0.mod.nolimit.keeps fun b o e=>(e0.bs b o e).1;have hkind:∀ y∈ps.zip us,scope.names.lookup y.1=some .local∨(scope.names.lookup y.1=some .cell∧((cellsFrom (s.heap.objs.size+1) scope.names []).lookup y.1).isSome=true):=fun ⟨n,v⟩ hy=>by
  rcases S.par n (List.of_mem_zip hy).1 with q | q
  ·exact .inl q
  ·exact .inr ⟨q,PySem.W.cellsFrom_some _ _ _ (.inl q)⟩
 refine codeAny_call_function hr.depth (KX _ _ lk) rfl S.co S.gen rfl (PySem.W.codeRec_of KX cI) (hb _ _ _ _ ?_);refine wpAny_newFunctionEnv_cells S.kind hkind fun env he s1 x=>?_;subst he;refine ⟨lim.keeps x.toInCall.keep,codeAny_func ?_⟩;obtain ⟨t,ht,hq⟩:=AN A outer s H vs Q E (hr.deeper _) fH;have I:Inv (fX CX P w K mg base N qual scope f az A outer s H E) [] (start N vs) H s1:=Ni S hr.hd e0 hl r x;refine wpAny_mono (ht [] s1 (start N vs) H _ I hq) (fun fl s' hs=>?_) fun e s' hs=>hs;have fin:∀ {σ':St} {H':Hp} {v:V} {u:Value},Inv (fX CX P w K mg base N qual scope f az A outer s H E) [] σ' H' s'→RelV v u→Q v H'→CE outer P w H s Q u s' :=
  fun {σ' H' v u} J rv q=>⟨v,H',J.os,J.bare,J.base,J.aC,rv,q⟩
 cases fl with
 | ret u =>
  obtain ⟨v,σ',H',J,rv,q⟩:=hs;exact fin J rv q
 | next =>
  obtain ⟨σ',H',J,q⟩:=hs;exact fin (v:=V.ax) (u:=Value.none) J rfl q
 | brk =>
  obtain ⟨_,_,_,q⟩:=hs;exact False.elim q
 | cont =>
  obtain ⟨_,_,_,q⟩:=hs;exact False.elim q
end L2
namespace L2
open PySem PySem.Spec PyProof.Rows
section
variable {X:Cx} {x:Str} {p pos:Pos} {e:Expr} {es:List Expr} {t:TA} {id T:String} {r:List V→Hp→VK→Prop}
def l8 (r:List V→Hp→VK→Prop) (t:TA):TE:=fun σ H Q=>t σ H fun vs H1=>r vs H1 Q
theorem Lu (hc:cE X (.builtin id) r) (hg:Gl X x) (hm:X.mg x=none) (hv:bootBuiltins x=some (.builtin id)) (ha:PA X (e::es) t) (hn:x ≠ "__name__" := by decide) (bF:(x == ("__debug__" : Str))=false:=by decide)
  (he:starEach (e::es) X.env=(false,eval e X.env)::starEach es X.env:=by rfl) (bb:(backTo pos (starEach es X.env)).any (·.1)=false:=by rfl):PE X (.Call (.Name x p) (e::es) [] pos) (l8 r t):=by
 intro pins s σ H Q I h;refine wpAny_Call_Name_kw (lx I hg hm hv ?_ hn bF);exact PyProof.Rows.callWith_builtin1 (aE (ha pos pins s σ H _ I h) fun us s1 ⟨vs,H1,I1,r1,q1⟩=>hc pins s1 σ H1 vs us Q I1 r1 q1) he bb
theorem LA (hc:cE X (.type T) r) (hg:Gl X x) (hm:X.mg x=none) (hv:bootBuiltins x=some (.type T)) (ha:PA X (e::es) t) (hn:x ≠ "__name__" := by decide) (bF:(x == ("__debug__" : Str))=false:=by decide)
  (he:starEach (e::es) X.env=(false,eval e X.env)::starEach es X.env:=by rfl) (bb:(backTo pos (starEach es X.env)).any (·.1)=false:=by rfl):PE X (.Call (.Name x p) (e::es) [] pos) (l8 r t):=by
 intro pins s σ H Q I h;refine wpAny_Call_Name_kw (lx I hg hm hv ?_ hn bF);exact PyProof.Rows.callWith_type1 (aE (ha pos pins s σ H _ I h) fun us s1 ⟨vs,H1,I1,r1,q1⟩=>hc pins s1 σ H1 vs us Q I1 r1 q1) he bb
end
end L2
namespace HT
open PySem PyProof.Rows
section
open PySem.SeqAt
open PySem.AutoSeq1 (wpAny_loadPart')
open PySem.MeetsSeq PySem.MeetsSeq2 PySem.MeetsSeq3
end
section
variable {prog:Program} {w:World} {A:Around} {E:Value→Shared→Prop} {s:Shared}
def bj (n d:Nat):Option Int→Nat
 | none=>d
 | some v=>if v < 0 then (v+(n:Int)).toNat else min v.toNat n
theorem Rq (n d:Nat):bj n d none=d:=rfl
theorem Ef (n d k:Nat):bj n d (some (k:Int))=min k n:=by
 show (if (k:Int) < 0 then ((k:Int)+(n:Int)).toNat else min (k:Int).toNat n)=min k n;rw [if_neg (by omega),Int.toNat_natCast]
theorem UX (n d:Nat) (hd:d≤n) (o:Option Int):bj n d o≤n:=by
 cases o with
 | none=>exact hd
 | some v =>
  show (if v < 0 then (v+(n:Int)).toNat else min v.toNat n)≤n;by_cases hv:v < 0
  ·rw [if_pos hv]; omega
  ·rw [if_neg hv]; exact Nat.min_le_right _ _
theorem Hw (v:Int) (n d:Nat):(if v < 0 then max (v+(n:Int)) 0 else min v (n:Int))=((bj n d (some v):Nat):Int):=by
 show (if v < 0 then max (v+(n:Int)) 0 else min v (n:Int))=(((if v < 0 then (v+(n:Int)).toNat else min v.toNat n):Nat):Int);by_cases hv:v < 0
 ·simp only [if_pos hv]; omega
 ·simp only [if_neg hv]; omega
theorem KD (lo hi:Option Int) (n:Nat):Builtin.Slice.sliceAdjust lo hi 1 (n:Int)=(((bj n 0 lo:Nat):Int),((bj n n hi:Nat):Int)):=by
 have h1:¬ ((1:Int) < 0):=by omega
 unfold Builtin.Slice.sliceAdjust;simp only [h1,if_false];refine Prod.ext ?_ ?_
 ·cases lo with
  | none=>rfl
  | some v=>exact Hw v n 0
 ·cases hi with
  | none=>rfl
  | some v=>exact Hw v n n
theorem VN (i j:Nat):Builtin.Slice.slicePlaces (i:Int) (j:Int) 1=j - i:=by
 unfold Builtin.Slice.slicePlaces;have h1:(1:Int) > 0:=by omega
 simp only [h1,if_true,Int.ediv_one];split <;> omega
theorem Ft {v:Value} {o:Option Int} {Q:Option Int→Shared→Prop} (p:IsPart v o) (h:Q o s):wpAny (model prog w) A (Builtin.Slice.slicePartIndex v) Q E s:=by
 cases p with
 | none=>exact slicePart_none h
 | int i t=>exact slicePart_int h
theorem LI {sl:Addr} {vl vu:Value} {lo hi:Option Int} {n:Nat} {Q:Int×Int×Nat→Shared→Prop} (hs:s.heap.IsSliceOf sl vl vu .none) (pl:IsPart vl lo) (pu:IsPart vu hi)
  (h:Q (((bj n 0 lo:Nat):Int),1,bj n n hi - bj n 0 lo) s):wpAny (model prog w) A (Builtin.Slice.sliceApplied (.ref sl) (pure (n:Int))) Q E s:=by
 obtain ⟨os,mL,JA,vJ⟩:=id hs;unfold Builtin.Slice.sliceApplied Builtin.Slice.sliceFields;refine wpAny_bind (wpAny_bind (wpAny_field mL vJ (x:=vl) rfl (wpAny_bind (wpAny_field mL vJ (x:=vu) rfl (wpAny_bind (wpAny_field mL vJ (x:=.none) rfl (wpAny_pure ?_)))))));refine wpAny_bind (slicePart_none ?_);show wpAny _ _ (if ((1:Int) == 0)=true then _ else _) _ _ s;rw [if_neg (by decide)];refine wpAny_bind (Ft pl (wpAny_bind (Ft pu (wpAny_bind (wpAny_pure ?_)))));show wpAny _ _ (match Builtin.Slice.sliceAdjust lo hi 1 (n:Int) with | (lo,hi)=>pure (lo,(1:Int),Builtin.Slice.slicePlaces lo hi 1)) _ _ s;rw [KD lo hi n];show wpAny _ _ (pure (((bj n 0 lo:Nat):Int),(1:Int),Builtin.Slice.slicePlaces ((bj n 0 lo:Nat):Int) ((bj n n hi:Nat):Int) 1)) _ _ s;rw [VN];exact wpAny_pure h
theorem Le (xs:Array Value) (i k:Nat):((List.range k).filterMap fun (m:Nat)=>xs[((i:Int)+(m:Int) * 1).toNat]?).toArray=((xs.toList.drop i).take k).toArray:=by
 have e:(fun (m:Nat)=>xs[((i:Int)+(m:Int) * 1).toNat]?)=fun m=>xs[i+m]?:=by
  funext m
  have:((i:Int)+(m:Int) * 1).toNat=i+m:=by omega
  rw [this]
 rw [e];have:=pick_run xs i k;rw [List.filterMap_map] at this;have e2:((fun x=>xs[x]?) ∘ fun x=>i+x)=fun m=>xs[i+m]?:=rfl;rw [e2] at this;rw [this]
theorem Uq {t sl:Addr} {items:Array Value} {vl vu:Value} {lo hi:Option Int} {Q:Value→Shared→Prop} (ht:IsTup s.heap t items) (hs:s.heap.IsSliceOf sl vl vu .none) (pl:IsPart vl lo) (pu:IsPart vu hi)
  (hw:¬ (bj items.size 0 lo=0∧bj items.size items.size hi=items.size))
  (h:Q (.ref s.heap.objs.size) { s with heap:=s.heap.push { cls:=.type "tuple",data:=.seq ((items.toList.drop (bj items.size 0 lo)).take (bj items.size items.size hi - bj items.size 0 lo)).toArray } })
  (hsz:items.size≤sizeLine):wpAny (model prog w) A (getItem (.ref t) (.ref sl)) Q E s:=by
 have vM:sizeOk (.seq ((items.toList.drop (bj items.size 0 lo)).take (bj items.size items.size hi - bj items.size 0 lo)).toArray):=by
  show ((items.toList.drop (bj items.size 0 lo)).take (bj items.size items.size hi - bj items.size 0 lo)).toArray.size≤sizeLine;rw [List.size_toArray,List.length_take,List.length_drop,Array.length_toList];omega
 have hj:bj items.size items.size hi≤items.size:=UX _ _ (Nat.le_refl _) hi;obtain ⟨os,mL,JA,vJ⟩:=id hs;have hTs:s.TypeIs (.ref sl) "slice" := ⟨os,mL,JA⟩;unfold getItem
 try with_reducible refine wpAny_holding ?_
 first | refine wpAny_bind (wpAny_pure ?_) | skip
 refine wpAny_bind (wpAny_sequenceKey ht.typeIs (by decide) ?_);refine wpAny_bind (wpAny_callSpecial?_slot (name:=Str.ofString "__getitem__") ht.typeIs PyProof.Rows.slot_tuple_getitem
  (wpAny_call_entry PyProof.Rows.slot_tuple_getitem ht.typeIs entry_tuple_getitem ?_ (args_tuple_getitem _ _)))
 show wpAny _ _ (Builtin.Tuple.tupleItemsOf (.ref t) >>= _) _ _ s;refine wpAny_bind (tupleItemsOf_ ht ?_);refine wpAny_bind (wpAny_typeOf hTs ?_);rw [if_pos (by decide)];refine wpAny_bind (LI hs pl pu ?_);have hno:¬ ((((bj items.size 0 lo:Nat):Int) == 0 && (1:Int) == 1 && (bj items.size items.size hi - bj items.size 0 lo) == items.size)=true):=by
  intro q;rw [Bool.and_eq_true,Bool.and_eq_true] at q;have q1:((bj items.size 0 lo:Nat):Int)=0:=eq_of_beq q.1.1;have q2:bj items.size items.size hi - bj items.size 0 lo=items.size:=eq_of_beq q.2;exact hw ⟨by omega,by omega⟩
 show wpAny _ _ (if (((bj items.size 0 lo:Nat):Int) == 0 && (1:Int) == 1 && (bj items.size items.size hi - bj items.size 0 lo) == items.size)=true then _ else _) _ _ s;rw [if_neg hno,Le]
 first
  | exact wpAny_bind (m:=Builtin.Tuple.tupleExact _) (wpAny_newObj_type (wpAny_pure ⟨_,rfl,wpAny_pure h⟩) vM)
  | exact wpAny_bind (m:=Builtin.Tuple.tupleExact _) (wpAny_newObj_type (wpAny_bind (wpAny_pure (wpAny_pure ⟨_,rfl,wpAny_pure h⟩))) vM)
  | exact wpAny_bind (wpAny_bind (m:=Builtin.Tuple.tupleExact _) (wpAny_newObj_type (wpAny_pure (wpAny_pure ⟨_,rfl,wpAny_pure h⟩)) vM))
  | exact wpAny_bind (wpAny_bind (m:=Builtin.Tuple.tupleExact _) (wpAny_newObj_type (wpAny_pure ⟨_,rfl,wpAny_pure h⟩) vM))
end
end HT
namespace L2
open PySem PySem.Spec PyProof.Rows
abbrev TO:=St→Hp→(Option Int→Hp→Prop)→Prop
def PO (X:Cx) (e:Option Expr) (t:TO):Prop :=
 ∀ (pins:List (Addr×Obj)) (s:Shared) (σ:St) (H:Hp) (Q:Option Int→Hp→Prop),Inv X pins σ H s→t σ H Q →
  wpAny (model X.prog X.w) X.A (evalPart e X.env) (fun u s'=>∃ o H',Inv X pins σ H' s'∧IsPart u o∧Q o H') X.xe s
def v9:TO:=fun _ H Q=>Q none H
section
variable {X:Cx} {e:Expr} {te:TE} {lo hi:Option Expr} {tl th:TO} {pos p2:Pos}
theorem VL:PO X none v9:=by
 intro pins s σ H Q I h;rw [evalPart_none];exact wpAny_pure ⟨none,H,I,.none,h⟩
def gp (X:Cx) (r:V→Option Int→Option Int→Hp→VK→Prop):Prop :=
 ∀ (pins:List (Addr×Obj)) (s:Shared) (σ:St) (H:Hp) (x:V) (v vl vu:Value) (lo hi:Option Int) (sl:Addr) (Q:VK),Inv X pins σ H s→RelV x v→s.heap.IsSliceOf sl vl vu .none→IsPart vl lo→IsPart vu hi→r x lo hi H Q →
  ∃ T id,typeLookup (.type T) "__getitem__" = pure (some (.builtin id))∧s.TypeIs v T∧wpAny (model X.prog X.w) X.A (getItem v (.ref sl)) (EP X pins σ Q) X.xe s
theorem gp.or {r r':V→Option Int→Option Int→Hp→VK→Prop} (h:gp X r) (h':gp X r'):gp X (fun x lo hi H Q=>r x lo hi H Q∨r' x lo hi H Q):=by
 intro pins s σ H x v vl vu lo hi sl Q I rx hs pl pu q;rcases q with q | q
 ·exact h pins s σ H x v vl vu lo hi sl Q I rx hs pl pu q
 ·exact h' pins s σ H x v vl vu lo hi sl Q I rx hs pl pu q
def wN (r:V→Option Int→Option Int→Hp→VK→Prop) (te:TE) (tl th:TO):TE:=fun σ H Q=>te σ H fun x H1=>tl σ H1 fun l H2=>th σ H2 fun u H3=>r x l u H3 Q
theorem R4 {r:V→Option Int→Option Int→Hp→VK→Prop} (hr:gp X r) (he:PE X e te) (hl:PO X lo tl) (hu:PO X hi th):PE X (.Subscript e (.Slice lo hi none p2) pos) (wN r te tl th):=by
 intro pins s σ H Q I h;refine Subscript_ (aE (he pins s σ H _ I h) fun v s1 ⟨x,H1,I1,r1,q1⟩=>?_);refine wpAny_Slice (aE (hl pins s1 σ H1 _ I1 q1) fun vl s2 ⟨l,H2,I2,pl,q2⟩=>aE (hu pins s2 σ H2 _ I2 q2) fun vu s3 ⟨u,H3,I3,pu,q3⟩=>?_);rw [evalPart_none];refine wpAny_pure ?_;have I4:Inv X pins σ H3 { s3 with heap:=s3.heap.push { cls:=.type "slice",data:=.fields #[vl,vu,.none] } }:=I3.kept (t':=s3.toks) fun b ob q=>Heap.get?_push_of_some _ q;obtain ⟨T,id,hT,ht,hg⟩:=hr pins { s3 with heap:=s3.heap.push { cls:=.type "slice",data:=.fields #[vl,vu,.none] } } σ H3 x v vl vu l u s3.heap.objs.size Q I4 r1 (Heap.IsSliceOf.new ..) pl pu q3;show wpAny (model X.prog X.w) X.A (subscriptTail e (.Slice lo hi none p2) v (.ref s3.heap.objs.size)) (EP X pins σ Q) X.xe { s3 with heap:=s3.heap.push { cls:=.type "slice",data:=.fields #[vl,vu,.none] } };exact tail_any (ops:=[.ref s3.heap.objs.size,v]) ht hT hg (by with_unfolding_all rfl)
def gH (xs:List V) (lo hi:Option Int):List V:=(xs.drop (HT.bj xs.length 0 lo)).take (HT.bj xs.length xs.length hi - HT.bj xs.length 0 lo)
theorem Fq (xs:List V) (lo hi:Option Int):(gH xs lo hi).length≤xs.length:=by
 unfold gH;rw [List.length_take,List.length_drop];omega
def C8 (K:PySem.W.Frag):V→Option Int→Option Int→Hp→VK→Prop:=fun x lo hi H Q=>∃ a xs,x=.ref a∧bW K H a xs ∧
 ¬ (HT.bj xs.length 0 lo=0∧HT.bj xs.length xs.length hi=xs.length)∧∀ p,H p=none→Q (.ref p) (upd H p (.tup (gH xs lo hi)))
theorem QQ:gp X (C8 X.K):=by
 intro pins s σ H x v vl vu lo hi sl Q I rx hs pl pu h;obtain ⟨a,xs,rfl,hx,hw,q⟩:=h;cases rx;obtain ⟨aq,r,ht,hz⟩:=I.tuple hx;have hlen:aq.toArray.size=xs.length:=by rw [List.size_toArray]; exact r.length.symm
 refine ⟨"tuple",_,PyProof.Rows.slot_tuple_getitem.lookup,ht.typeIs,?_⟩;refine HT.Uq ht hs pl pu (by rw [hlen]; exact hw) ?_ (by rw [hlen]; exact hz);rw [hlen];refine ⟨.ref s.heap.objs.size,_,I.laid (t':=s.toks) (o:=.tup (gH xs lo hi)) (fun b ob q=>Heap.get?_push_of_some _ q) (Nat.le_refl _) ?_,rfl,q _ (I.aC.fresh (Nat.le_refl _))⟩;exact ⟨Nat.le_trans (Fq xs lo hi) hz,_,(r.drop (HT.bj xs.length 0 lo)).take (HT.bj xs.length xs.length hi - HT.bj xs.length 0 lo),IsTup.new _ _⟩
end
end L2
namespace L2
open PySem PySem.Spec PyProof.Rows
def fq (n:Nat) (i:Int):Option Nat:=if 0≤i then (if i < n then some i.toNat else none) else if -(n:Int)≤i then some (i+n).toNat else none
def cx {α:Type} (xs:List α) (i:Int):Option α:=(fq xs.length i).bind fun j=>xs[j]?
theorem GI {n:Nat} {i:Int} {j:Nat} (h:fq n i=some j):seqIndex? i n=some j∧j < n∧-(n:Int)≤i∧i < n:=by
 unfold fq at h;by_cases h0:0≤i
 ·rw [if_pos h0] at h;by_cases h1:i < n
  ·rw [if_pos h1] at h;have e:i.toNat=j:=Option.some.inj h;exact ⟨by rw [seqIndex_of h0 h1,e],by omega,by omega,h1⟩
  ·rw [if_neg h1] at h; cases h
 ·rw [if_neg h0] at h;by_cases h1:-(n:Int)≤i
  ·rw [if_pos h1] at h;have e:(i+n).toNat=j:=Option.some.inj h;exact ⟨by rw [seqIndex_neg (by omega) h1,e],by omega,h1,by omega⟩
  ·rw [if_neg h1] at h; cases h
theorem zK {α:Type} {xs:List α} {i:Int} {v:α} (h:cx xs i=some v):∃ j,seqIndex? i xs.length=some j∧xs[j]?=some v∧j < xs.length∧-(xs.length:Int)≤i∧i < xs.length:=by
 unfold cx at h;cases e:fq xs.length i with
 | none=>rw [e] at h; cases h
 | some j =>
  rw [e] at h;obtain ⟨h1,h2,h3,h4⟩:=GI e;exact ⟨j,h1,h,h2,h3,h4⟩
theorem gJ {α:Type} {xs:List α} {j:Nat} {v:α} (h:xs[j]?=some v):cx xs (j:Int)=some v:=by
 have hj:j < xs.length:=(List.getElem?_eq_some_iff.mp h).1;have e:fq xs.length (j:Int)=some j:=by
  unfold fq;rw [if_pos (by omega),if_pos (by omega)]; simp
 unfold cx; rw [e]; exact h
theorem je {α:Type} (xs:List α) (v:α):cx (xs++[v]) (-1)=some v:=by
 have hl:(xs++[v]).length=xs.length+1:=by simp
 have e:fq (xs++[v]).length (-1)=some xs.length:=by
  unfold fq;rw [hl,if_neg (by decide),if_pos (by omega)]
  congr 1
  omega
 unfold cx;rw [e];show (xs++[v])[xs.length]?=some v;simp
def HI (b:Expr):Prop:=∀ o i,subscripted b false o i=operate [o,i] (getItem o i)
def eJ (X:Cx) (r:R2):Prop :=
 ∀ (value slice:Expr) (pins:List (Addr×Obj)) (s:Shared) (σ:St) (H:Hp) (x y:V) (v u:Value) (Q:VK),Inv X pins σ H s→RelV x v→RelV y u→r x y H Q →
  subscripted slice false v u=operate [v,u] (getItem v u)→wpAny (model X.prog X.w) X.A (subscriptTail value slice v u) (EP X pins σ Q) X.xe s
def cS (X:Cx) (id:String) (r:V→List V→Hp→VK→Prop):Prop :=
 ∀ (pins:List (Addr×Obj)) (s:Shared) (σ:St) (H:Hp) (x:V) (xs:List V) (v:Value) (us:List Value) (Q:VK),Inv X pins σ H s→RelV x v→Vals xs us→r x xs H Q →
  wpAny (model X.prog X.w) X.A (call (.builtin id) (v::us)) (EP X pins σ Q) X.xe s
section
variable {X:Cx} {a b:Expr} {ta tb:TE} {pos:Pos}
theorem eJ.or {r r':R2} (h:eJ X r) (h':eJ X r'):eJ X (fun x y H Q=>r x y H Q∨r' x y H Q):=by
 intro value slice pins s σ H x y v u Q I rx ry q hs;rcases q with q | q
 ·exact h value slice pins s σ H x y v u Q I rx ry q hs
 ·exact h' value slice pins s σ H x y v u Q I rx ry q hs
theorem Wk {r:R2} (hr:eJ X r) (ha:PE X a ta) (hb:PE X b tb) (hs:HI b):PE X (.Subscript a b pos) (gN r ta tb):=by
 intro pins s σ H Q I h;exact Subscript_ (xg ha hb I h fun v u s2 x y H2 I2 rx ry q=>hr a b pins s2 σ H2 x y v u Q I2 rx ry q (hs _ _))
def Fh (K:PySem.W.Frag):R2:=fun x y H Q=>∃ p xs i v,x=.ref p∧y=.int i∧aL K H p xs∧cx xs i=some v∧Q v H
def HY (K:PySem.W.Frag):R2:=fun x y H Q=>∃ p xs i v,x=.ref p∧y=.int i∧bW K H p xs∧cx xs i=some v∧Q v H
def Hb:R2:=fun x y H Q=>∃ z i c,x=.str z∧y=.int i∧z.length≤sizeLine∧cx z.cps.toList i=some c∧Q (.str ⟨#[c]⟩) H
theorem FV:eJ X (Fh X.K):=by
 intro value slice pins s σ H x y v u Q I rx ry h hs;obtain ⟨p,xs,i,z,rfl,rfl,hq,he,q⟩:=h;cases rx;obtain ⟨t,rfl⟩:=ry;obtain ⟨aq,r,pl,hz⟩:=I.list hq;obtain ⟨j,h1,h2,h3,h4,h5⟩:=zK he;obtain ⟨w,ew,rw'⟩:=r.get h2;have hl:=r.length;have hn:=pR;have fin:EP X pins σ Q w s:=⟨z,H,I,rw',q⟩;by_cases h0:0≤i
 ·have hj:i.toNat=j:=by
   rw [seqIndex_of h0 h5] at h1;exact Option.some.inj h1
  exact item_listR pl.isList h0 (by omega) (by rw [hj]; simpa using ew) fin hs
 ·have hj:(i+(aq.toArray.size:Int)).toNat=j:=by
   rw [seqIndex_neg (by omega) h4] at h1;rw [List.size_toArray,← hl];exact Option.some.inj h1
  exact subscriptTail_builtinR (x:=w) pl.isList.typeIs slot_list_getitem.lookup
   (wpAny_getItem_list_neg (Q:=fun r s'=>r=w∧EP X pins σ Q r s') pl.isList (by omega) (by rw [List.size_toArray] <;> omega) (by omega) (by rw [hj]; simpa using ew) ⟨rfl,fin⟩) hs
theorem OU:eJ X (HY X.K):=by
 intro value slice pins s σ H x y v u Q I rx ry h hs;obtain ⟨p,xs,i,z,rfl,rfl,hq,he,q⟩:=h;cases rx;obtain ⟨t,rfl⟩:=ry;obtain ⟨aq,r,pl,hz⟩:=I.tuple hq;obtain ⟨j,h1,h2,h3,h4,h5⟩:=zK he;obtain ⟨w,ew,rw'⟩:=r.get h2;have hl:=r.length;have hn:=pR;have fin:EP X pins σ Q w s:=⟨z,H,I,rw',q⟩;exact subscriptTail_builtinR (x:=w) pl.typeIs slot_tuple_getitem.lookup
  (getItem_tuple (j:=j) (Q:=fun r s'=>r=w∧EP X pins σ Q r s') pl (by omega) (by omega) (by rw [List.size_toArray,← hl]; exact h1) (by simpa using ew) ⟨rfl,fin⟩) hs
theorem S5:eJ X Hb:=by
 intro value slice pins s σ H x y v u Q I rx ry h hs;obtain ⟨z,i,c,rfl,rfl,hz,he,q⟩:=h;obtain ⟨t,rfl⟩:=rx;obtain ⟨t',rfl⟩:=ry;obtain ⟨j,h1,h2,h3,h4,h5⟩:=zK he;have hl:z.cps.toList.length=z.length:=by simp [Str.length]
 rw [hl] at h1 h4 h5;have hn:=pR;exact tail_any (typeIs_str s z t) slot_str_getitem.lookup (getItem_str (c:=c) (by
  have e1:decide (i < -(2 ^ 63:Int))=false:=decide_eq_false (by omega);have e2:decide (i ≥ 2 ^ 63)=false:=decide_eq_false (by omega);rw [e1,e2,Bool.or_false]) (by rw [h1]; simpa using h2) ⟨.str ⟨#[c]⟩,H,I.tok _,⟨_,rfl⟩,q⟩) hs
def Nj (K:PySem.W.Frag):R2:=fun x y H Q=>Fh K x y H Q∨HY K x y H Q∨Hb x y H Q
theorem UT:eJ X (Nj X.K):=FV.or (OU.or S5)
theorem Ly (aq:List Value) (n j:Nat) (u:Value):Obj.mapSeq (·.setIfInBounds j u) { cls:=.type "list",data:=.seq aq.toArray n }={ cls:=.type "list",data:=.seq (aq.set j u).toArray n }:=by
 simp [Obj.mapSeq]
theorem Inv.lst {pins:List (Addr×Obj)} {σ:St} {H:Hp} {s:Shared} {p:Addr} {xs:List V} (I:Inv X pins σ H s) (h:H p=some (.lst xs)) :
  ∃ (aq:List Value) (n:Nat),Vals xs aq∧s.heap.get? p=some { cls:=.type "list",data:=.seq aq.toArray n }∧xs.length≤sizeLine:=by
 obtain ⟨z,aq,n,r,e⟩:=I.aC p _ h;exact ⟨aq,n,r,e,z⟩
theorem Inv.NB {pins:List (Addr×Obj)} {σ:St} {H:Hp} {s:Shared} {p:Addr} {xs ys:List V} {aq its':List Value} {n n':Nat} {f:Obj→Obj} (I:Inv X pins σ H s) (h:H p=some (.lst xs))
  (ho:s.heap.get? p=some { cls:=.type "list",data:=.seq aq.toArray n }) (hf:f { cls:=.type "list",data:=.seq aq.toArray n }={ cls:=.type "list",data:=.seq its'.toArray n' }) (r:Vals ys its') (hz:ys.length≤sizeLine) (t:Nat) :
  Inv X pins σ (upd H p (.lst ys)) { s with heap:=s.heap.update p f,toks:=t }:=by
 have e:(s.heap.update p f).get? p=some { cls:=.type "list",data:=.seq its'.toArray n' }:=by
  rw [Heap.get?_update_self f ho (by rw [hf] <;> rfl),hf]
 refine I.write (x:=p) (e:=p) (by rw [h]; trivial) (.inl rfl) (fun b u hb q=>(Heap.get?_update_other _ _ (Ne.symm hb)).trans q) ⟨_,e⟩ ?_;exact ⟨hz,its',n',r,e⟩
def Vv:V→V→V→Hp→(Hp→Prop)→Prop:=fun o i v H Q=>∃ p xs k j,o=.ref p∧i=.int k∧H p=some (.lst xs)∧fq xs.length k=some j∧Q (upd H p (.lst (xs.set j v)))
theorem set_list:uz X Vv:=by
 intro pins s σ H o i v ov iv u Q I ro ri rv h;obtain ⟨p,xs,k,j,rfl,rfl,hp,hj,q⟩:=h;cases ro;obtain ⟨t,rfl⟩:=ri;obtain ⟨aq,n,r,ho,hz⟩:=I.lst hp;obtain ⟨h1,h2,h3,h4⟩:=GI hj;have hl:=r.length;have hn:=pR;have I':Inv X pins σ (upd H p (.lst (xs.set j v))) { s with heap:=s.heap.update p (Obj.mapSeq (·.setIfInBounds j u)) } :=
  I.NB hp ho (Ly aq n j u) (r.set rv j) (by rw [List.length_set]; exact hz) s.toks
 by_cases h0:0≤k
 ·have hk:k.toNat=j:=by
   rw [seqIndex_of h0 h4] at h1;exact Option.some.inj h1
  exact PySem.W.ki_setAt ho h0 (by omega) (by rw [List.size_toArray,← hl]; exact h4) (by rw [hk]; exact ⟨_,I',q⟩)
 ·have hk:(k+(aq.toArray.size:Int)).toNat=j:=by
   rw [seqIndex_neg (by omega) h3] at h1;rw [List.size_toArray,← hl];exact Option.some.inj h1
  exact PySem.W.ki_setBack ho (by omega) (by rw [List.size_toArray,← hl]; exact h3) (by omega) (by rw [hk]; exact ⟨_,I',q⟩)
theorem TU (lo hi:Option Int) (n:Nat):(sliceBounds lo hi none n).1=((HT.bj n 0 lo:Nat):Int)∧(sliceBounds lo hi none n).2.1=((HT.bj n n hi:Nat):Int)∧(sliceBounds lo hi none n).2.2=1:=by
 refine ⟨?_,?_,rfl⟩
 ·cases lo with
  | none=>simp [sliceBounds,HT.bj]
  | some i =>
   simp only [sliceBounds,HT.bj,Option.getD_none,show (1:Int) > 0 by decide,if_true];by_cases h:i < 0
   ·simp only [h,if_true] <;> omega
   ·simp only [h,if_false] <;> omega
 ·cases hi with
  | none=>simp [sliceBounds,HT.bj]
  | some i =>
   simp only [sliceBounds,HT.bj,Option.getD_none,show (1:Int) > 0 by decide,if_true];by_cases h:i < 0
   ·simp only [h,if_true] <;> omega
   ·simp only [h,if_false] <;> omega
theorem Ma (aq:List Value) (lo hi:Option Int):slicePick aq.toArray lo hi none=((aq.drop (HT.bj aq.length 0 lo)).take (HT.bj aq.length aq.length hi - HT.bj aq.length 0 lo)).toArray:=by
 obtain ⟨h1,h2,h3⟩:=TU lo hi aq.toArray.size;unfold slicePick;rw [h1,h2,h3];simp only [sliceRange_one,pick_run,List.size_toArray] <;> rfl
def TJ (K:PySem.W.Frag):V→Option Int→Option Int→Hp→VK→Prop:=fun x lo hi H Q=>∃ a xs,x=.ref a∧aL K H a xs∧∀ p,H p=none→Q (.ref p) (upd H p (.lst (gH xs lo hi)))
theorem Vc:gp X (TJ X.K):=by
 intro pins s σ H x v vl vu lo hi sl Q I rx hs pl pu h;obtain ⟨a,xs,rfl,hx,q⟩:=h;cases rx;obtain ⟨aq,r,ht,hz⟩:=I.list hx;have hlen:=r.length;refine ⟨"list",_,slot_list_getitem.lookup,ht.isList.typeIs,?_⟩;refine wpAny_getItem_list_slice ht.isList hs pl pu .none (by simp) ?_ (by rw [List.size_toArray] <;> omega);rw [Ma,← hlen];refine ⟨.ref s.heap.objs.size,_,I.laid (t':=s.toks) (o:=.lst (gH xs lo hi)) (fun b ob q=>Heap.get?_push_of_some _ q) (Nat.le_refl _) ?_,rfl,q _ (I.aC.fresh (Nat.le_refl _))⟩;exact ⟨Nat.le_trans (Fq xs lo hi) hz,_,0,(r.drop (HT.bj xs.length 0 lo)).take (HT.bj xs.length xs.length hi - HT.bj xs.length 0 lo),Heap.get?_push_size _ rfl⟩
def cw:V→Bool
 | .ax=>true
 | .bl _=>true
 | .int _=>true
 | .str _=>true
 | _=>false
def fg:V→V→Bool
 | .ax,.ax=>true
 | .bl a,.bl b=>a == b
 | .bl a,.int b=>(if a then 1 else 0) == b
 | .int a,.bl b=>a == (if b then 1 else 0)
 | .int a,.int b=>a == b
 | .str a,.str b=>a == b
 | _,_=>false
theorem B6 {A:Around} {s:Shared} {y x:V} {u v:Value} (ry:RelV y u) (rx:RelV x v) (fy:cw y=true) (fx:cw x=true):SeqAt.EqAt A s u v (fg y x):=by
 cases y with
 | ax =>
  cases ry;cases x with
  | ax=>cases rx; exact SeqAt.EqAt.same _
  | bl b=>cases rx; exact SeqAt.EqAt.none_bool b
  | int b=>obtain ⟨t,rfl⟩:=rx; exact SeqAt.EqAt.none_int b t
  | str b=>obtain ⟨t,rfl⟩:=rx; exact SeqAt.EqAt.none_str b t
  | _=>exact absurd (show false=true from fx) Bool.false_ne_true
 | bl a =>
  cases ry;cases x with
  | ax=>cases rx; exact SeqAt.EqAt.bool_none a
  | bl b=>cases rx; exact SeqAt.EqAt.bool_bool a b
  | int b=>obtain ⟨t,rfl⟩:=rx; exact SeqAt.EqAt.bool_int a b t
  | str b=>obtain ⟨t,rfl⟩:=rx; exact SeqAt.EqAt.bool_str a b t
  | _=>exact absurd (show false=true from fx) Bool.false_ne_true
 | int a =>
  obtain ⟨t',rfl⟩:=ry;cases x with
  | ax=>cases rx; exact SeqAt.EqAt.int_none a t'
  | bl b=>cases rx; exact SeqAt.EqAt.int_bool a t' b
  | int b=>obtain ⟨t,rfl⟩:=rx; exact SeqAt.EqAt.int_int a t' b t
  | str b=>obtain ⟨t,rfl⟩:=rx; exact SeqAt.EqAt.int_str a t' b t
  | _=>exact absurd (show false=true from fx) Bool.false_ne_true
 | str a =>
  obtain ⟨t',rfl⟩:=ry;cases x with
  | ax=>cases rx; exact SeqAt.EqAt.str_none a t'
  | bl b=>cases rx; exact SeqAt.EqAt.str_bool a t' b
  | int b=>obtain ⟨t,rfl⟩:=rx; exact SeqAt.EqAt.str_int a t' b t
  | str b=>obtain ⟨t,rfl⟩:=rx; exact SeqAt.EqAt.str_str a t' b t
  | _=>exact absurd (show false=true from fx) Bool.false_ne_true
 | _=>exact absurd (show false=true from fy) Bool.false_ne_true
def ff (x:V) (u:Value):Bool:=match u with
 | .none=>fg .ax x
 | .bool b=>fg (.bl b) x
 | .int i _=>fg (.int i) x
 | .str z _=>fg (.str z) x
 | _=>false
theorem Fb {x y:V} {u:Value} (r:RelV y u) (f:cw y=true):ff x u=fg y x:=by
 cases y with
 | ax=>cases r; rfl
 | bl b=>cases r; rfl
 | int i=>obtain ⟨t,rfl⟩:=r; rfl
 | str z=>obtain ⟨t,rfl⟩:=r; rfl
 | _=>exact absurd (show false=true from f) Bool.false_ne_true
theorem qH {x:V}:∀ {xs:List V} {us:List Value},Vals xs us→xs.all cw=true→us.any (ff x)=xs.any fun y=>fg y x
 | _,_,.nil,_=>rfl
 | y::xs,u::us,.cons r t,f=>by
  rw [List.all_cons,Bool.and_eq_true] at f;rw [List.any_cons,List.any_cons,Fb r f.1,qH t f.2]
theorem qK {A:Around} {s:Shared} {x:V} {v:Value} (rx:RelV x v) (fx:cw x=true):∀ {xs:List V} {us:List Value},Vals xs us→xs.all cw=true→∀ u∈us,SeqAt.EqAt A s u v (ff x u)
 | _,_,.nil,_=>fun u hu=>by cases hu
 | y::xs,u::us,.cons r t,f=>fun u' hu=>by
  rw [List.all_cons,Bool.and_eq_true] at f;rcases List.mem_cons.mp hu with rfl | hu
  ·rw [Fb r f.1]; exact B6 r rx f.1 fx
  ·exact qK rx fx t f.2 u' hu
def fU (x:V) (xs:List V):Bool:=xs.any fun y=>fg y x
def E6 (K:PySem.W.Frag) (neg:Bool):R2:=fun x y H Q=>∃ p xs,y=.ref p∧(aL K H p xs∨bW K H p xs)∧cw x=true∧xs.all cw=true∧Q (.bl (if neg then !fU x xs else fU x xs)) H
theorem D5:bc X (compareOp .In) (E6 X.K false):=by
 intro pins s σ H x y v u Q I rx ry h;obtain ⟨p,xs,rfl,hq,fx,fs,q⟩:=h;cases ry;rcases hq with hq | hq
 ·obtain ⟨aq,r,pl,hz⟩:=I.list hq;refine SeqAt.in_listAt (ff x) pl.isList (fun w hw=>qK rx fx r fs w (by simpa using hw)) ⟨.bl _,H,I,rfl,?_⟩;rw [show aq.toArray.any (ff x)=aq.any (ff x) by simp,qH r fs];exact q
 ·obtain ⟨aq,r,pl,hz⟩:=I.tuple hq;refine SeqAt.in_tupleAt (ff x) pl (fun w hw=>qK rx fx r fs w (by simpa using hw)) ⟨.bl _,H,I,rfl,?_⟩;rw [show aq.toArray.any (ff x)=aq.any (ff x) by simp,qH r fs];exact q
theorem KU:bc X (compareOp .NotIn) (E6 X.K true):=by
 intro pins s σ H x y v u Q I rx ry h;obtain ⟨p,xs,rfl,hq,fx,fs,q⟩:=h;cases ry;rcases hq with hq | hq
 ·obtain ⟨aq,r,pl,hz⟩:=I.list hq;refine SeqAt.notIn_listAt (ff x) pl.isList (fun w hw=>qK rx fx r fs w (by simpa using hw)) ⟨.bl _,H,I,rfl,?_⟩;rw [show aq.toArray.any (ff x)=aq.any (ff x) by simp,qH r fs];exact q
 ·obtain ⟨aq,r,pl,hz⟩:=I.tuple hq;refine SeqAt.notIn_tupleAt (ff x) pl (fun w hw=>qK rx fx r fs w (by simpa using hw)) ⟨.bl _,H,I,rfl,?_⟩;rw [show aq.toArray.any (ff x)=aq.any (ff x) by simp,qH r fs];exact q
def SD (K:PySem.W.Frag) (T:String) (x:V) (H:Hp):Prop:=match x with
 | .str _=>T = "str"
 | .int _=>T = "int"
 | .ref p=>(T = "list" ∧ ∃ xs,aL K H p xs)∨(T = "tuple" ∧ ∃ o,K.lookup p=some o∧o.cls=.type "tuple" ∧ o.dict=none) ∨
   (T = "dict" ∧ ((∃ kvs,H p=some (.dK kvs))∨∃ kvs,H p=some (.dT kvs)))∨(T = "set" ∧ ∃ S n,H p=some (.set S n))
 | _=>False
theorem wt {pins:List (Addr×Obj)} {σ:St} {H:Hp} {s:Shared} {T:String} {x:V} {v:Value} (I:Inv X pins σ H s) (r:RelV x v) (ty:SD X.K T x H) :
  s.TypeIs v T∧∀ a,v=.ref a→∃ ob,s.heap.get? a=some ob∧ob.dict=none:=by
 cases x with
 | str z =>
  obtain ⟨t,rfl⟩:=r;cases (show T = "str" from ty);exact ⟨typeIs_str s z t,fun _ e=>nomatch e⟩
 | int i =>
  obtain ⟨t,rfl⟩:=r;cases (show T = "int" from ty);exact ⟨typeIs_int s i t,fun _ e=>nomatch e⟩
 | ref p =>
  cases r;rcases ty with ⟨rfl,xs,hq⟩ | ⟨rfl,o,hk,hc,hd⟩ | ⟨rfl,hk⟩ | ⟨rfl,S,n,hk⟩
  ·obtain ⟨aq,_,pl,_⟩:=I.list hq;refine ⟨pl.isList.typeIs,fun a e=>?_⟩;cases e;obtain ⟨o,n,e,c,hd,_⟩:=pl;exact ⟨o,e,hd⟩
  ·refine ⟨⟨o,I.bQ p o hk,hc⟩,fun a e=>?_⟩;cases e;exact ⟨o,I.bQ _ o hk,hd⟩
  ·have z:∃ o,s.heap.get? p=some o∧o.ExactDict:=by
    rcases hk with ⟨kvs,hk⟩ | ⟨kvs,hk⟩
    ·obtain ⟨_,_,_,_,o,_,_,e,ex,_⟩:=I.aC p _ hk;exact ⟨o,e,ex⟩
    ·obtain ⟨_,_,_,_,o,_,_,e,ex,_⟩:=I.aC p _ hk;exact ⟨o,e,ex⟩
   obtain ⟨o,e,ex⟩:=z;refine ⟨⟨o,e,ex.1⟩,fun a e2=>?_⟩;cases e2;exact ⟨o,e,ex.2.1⟩
  ·obtain ⟨o,_,_,_,e,ex,_⟩:=I.aC p _ hk;refine ⟨⟨o,e,ex.1⟩,fun a e2=>?_⟩;cases e2;exact ⟨o,e,ex.2.1⟩
 | _=>exact False.elim ty
variable {o e:Expr} {es:List Expr} {to:TE} {t:TA} {name:Str} {apos bw:Pos} {T id:String} {r:V→List V→Hp→VK→Prop}
/- xs.append(e),list.index on a module's tuple .. are cS facts of 06m -/
end
end L2
namespace L2
open PySem PySem.Spec PyProof.Rows
def tI (X:Cx) (id:String) (r:V→List V→Hp→VK→Prop):Prop :=
 ∀ (pins:List (Addr×Obj)) (s:Shared) (σ:St) (H:Hp) (x:V) (xs:List V) (v:Value) (us:List Value) (Q:VK),Inv X pins σ H s→RelV x v→Vals xs us→r x xs H Q →
  wpAny (model X.prog X.w) X.A (call (.builtin id) (v::us)) (EP X pins σ Q) X.xe s
theorem Vals.one:∀ {x:V} {us:List Value},Vals [x] us→∃ u,us=[u]∧RelV x u
 | _,_,.cons r .nil=>⟨_,rfl,r⟩
theorem Vals.zero:∀ {us:List Value},Vals [] us→us=[]
 | _,.nil=>rfl
theorem Vals.dropLast {xs:List V} {us:List Value} (h:Vals xs us):Vals xs.dropLast us.dropLast:=by
 induction h with
 | nil=>exact .nil
 | cons r t ih =>
  cases t with
  | nil=>exact .nil
  | cons q t'=>exact .cons r ih
theorem Vals.eraseIdx:∀ {xs:List V} {us:List Value} (i:Nat),Vals xs us→Vals (xs.eraseIdx i) (us.eraseIdx i)
 | _,_,_,.nil=>.nil
 | _,_,0,.cons _ t=>t
 | _,_,i+1,.cons r t=>.cons r (Vals.eraseIdx i t)
theorem Vals.rep {xs:List V} {us:List Value} (h:Vals xs us):∀ k:Nat,Vals (List.replicate k xs).flatten (List.replicate k us).flatten
 | 0=>.nil
 | k+1=>by
  rw [List.replicate_succ,List.replicate_succ,List.flatten_cons,List.flatten_cons];exact Vals.append h (Vals.rep h k)
theorem VC {α:Type} (l:List α):l.eraseIdx (l.length - 1)=l.dropLast:=by
 induction l with
 | nil=>rfl
 | cons a r ih =>
  cases r with
  | nil=>rfl
  | cons b r =>
   have e:(a::b::r).length - 1=((b::r).length - 1)+1:=by
    have h1:(a::b::r).length=r.length+2:=rfl;have h2:(b::r).length=r.length+1:=rfl;omega
   rw [e,List.eraseIdx_cons_succ,ih]
   all_goals rfl
theorem Ij {α:Type}:∀ (l:List α) (i:Nat),(l.eraseIdx i).length≤l.length
 | [],_=>Nat.le_refl _
 | _::_,0=>Nat.le_succ _
 | _::r,i+1=>Nat.succ_le_succ (Ij r i)
theorem foldl_rep (aq:List Value):∀ (k:Nat) (acc:List Value),
  List.foldl (fun x1 x2=>x1++x2) acc.toArray (List.replicate k aq.toArray)=(acc++(List.replicate k aq).flatten).toArray
 | 0,acc=>by simp
 | k+1,acc=>by
  have e:acc.toArray++aq.toArray=(acc++aq).toArray:=by simp
  have e2:(acc++aq)++(List.replicate k aq).flatten=acc++(List.replicate (k+1) aq).flatten:=by
   rw [List.replicate_succ,List.flatten_cons,List.append_assoc]
  rw [← e2,← foldl_rep aq k (acc++aq),← e,List.replicate_succ,List.foldl_cons]
section
variable {X:Cx} {pins:List (Addr×Obj)} {σ:St} {H:Hp} {s:Shared} {l b:Addr} {xs ys zs:List V}
theorem Inv.uN {aq its':List Value} {n:Nat} {f:Array Value→Array Value} {t':Nat} (I:Inv X pins σ H s) (hH:H l=some (.lst xs))
  (e:s.heap.get? l=some { cls:=.type "list",data:=.seq aq.toArray n }) (hf:f aq.toArray=its'.toArray) (hv:Vals ys its') (hz:ys.length≤sizeLine) :
  Inv X pins σ (upd H l (.lst ys)) { s with heap:=s.heap.update l (Obj.mapSeq f),toks:=t' }:=by
 have q:=PySem.IsL.update e f;rw [hf] at q;refine I.write (x:=l) (e:=l) (by rw [hH]; exact trivial) (.inl rfl) (fun b' u hb hu=>(Heap.get?_update_other s.heap (Obj.mapSeq f) (Ne.symm hb)).trans hu) ⟨_,q⟩ ?_;exact ⟨hz,its',_,hv,q⟩
theorem Inv.GK {aq:List Value} {t':Nat} (I:Inv X pins σ H s) (hv:Vals ys aq) (hz:ys.length≤sizeLine) :
  Inv X pins σ (upd H s.heap.objs.size (.lst ys)) { s with heap:=s.heap.push { cls:=.type "list",data:=.seq aq.toArray },toks:=t' } :=
 I.laid (fun _ _ q=>Heap.get?_push_of_some _ q) (Nat.le_refl _) ⟨hz,aq,0,hv,Heap.get?_push_size _ rfl⟩
theorem Inv.fresh (I:Inv X pins σ H s):H s.heap.objs.size=none:=I.aC.fresh (Nat.le_refl _)
theorem Inv.j7 (I:Inv X pins σ H s) (hH:H l=some (.lst xs)):xs.length≤sizeLine∧∃ (aq:List Value) (n:Nat),Vals xs aq∧xs.length=aq.length∧s.heap.get? l=some { cls:=.type "list",data:=.seq aq.toArray n }:=by
 obtain ⟨z,aq,n,r,e⟩:=I.aC l _ hH;exact ⟨z,aq,n,r,r.length,e⟩
theorem Cg {n:Nat} (h:n≤sizeLine):Builtin.List.listTooLong n=false:=by
 unfold Builtin.List.listTooLong;exact decide_eq_false (by omega)
end
section
variable {X:Cx}
def Uc:V→List V→Hp→VK→Prop:=fun x vs H Q=>∃ l xs y,x=.ref l∧vs=[y]∧H l=some (.lst xs)∧xs.length < sizeLine∧Q .ax (upd H l (.lst (xs++[y])))
theorem S8:tI X "list.append" Uc:=by
 intro pins s σ H x vs v us Q I rx rv h;obtain ⟨l,xs,y,rfl,rfl,hH,hz,q⟩:=h;cases rx;obtain ⟨u,rfl,ru⟩:=rv.one;obtain ⟨z,aq,n,r,hl,e⟩:=I.j7 hH;refine call_meets F.slot_list_append ⟨_,e,rfl⟩ F.entry_list_append (F.args_list_append_2 _ _) (PySem.list_append l aq.toArray n u (by rw [List.size_toArray]; omega)) ⟨e,?_⟩;refine ⟨.ax,_,I.uN (its':=aq++[u]) hH e (by simp) (r.append (.cons ru .nil)) ?_,rfl,q⟩;rw [List.length_append,List.length_singleton];omega
def Kx:V→List V→Hp→VK→Prop:=fun x vs H Q=>∃ l b xs zs,x=.ref l∧vs=[.ref b]∧H l=some (.lst xs)∧H b=some (.lst zs)∧xs.length+zs.length≤sizeLine∧Q .ax (upd H l (.lst (xs++zs)))
theorem RI:tI X "list.extend" Kx:=by
 intro pins s σ H x vs v us Q I rx rv h;obtain ⟨l,b,xs,zs,rfl,rfl,hH,hB,hz,q⟩:=h;cases rx;obtain ⟨u,rfl,ru⟩:=rv.one;cases ru;obtain ⟨z,aq,n,r,hl,e⟩:=I.j7 hH;obtain ⟨z2,my,n2,r2,cv,e2⟩:=I.j7 hB;have hsz:aq.toArray.size+my.toArray.size≤sizeLine:=by rw [List.size_toArray,List.size_toArray]; omega
 have Bt:¬ (!aq.toArray.isEmpty && Builtin.List.listTooLong (aq.toArray.size+my.toArray.size))=true:=by
  rw [Cg hsz,Bool.and_false];exact Bool.false_ne_true
 refine call_meets F.slot_list_extend ⟨_,e,rfl⟩ F.entry_list_extend (F.args_list_extend_2 _ _)
  (AutoSeq1.list_extend_list_list_0 l aq.toArray n b my.toArray n2 Bt (by rw [List.size_toArray]; omega) (by omega)) ⟨e,e2,?_⟩
 refine ⟨.ax,_,I.uN (its':=aq++my) hH e (by simp) (r.append r2) ?_,rfl,q⟩;rw [List.length_append];omega
def Ej:V→List V→Hp→VK→Prop:=fun x vs H Q=>∃ l xs y,x=.ref l∧vs=[]∧H l=some (.lst xs)∧xs[xs.length - 1]?=some y∧Q y (upd H l (.lst xs.dropLast))
theorem SH:tI X "list.pop" Ej:=by
 intro pins s σ H x vs v us Q I rx rv h;obtain ⟨l,xs,y,rfl,rfl,hH,hy,q⟩:=h;cases rx;have hus:=rv.zero;subst hus;obtain ⟨z,aq,n,r,hl,e⟩:=I.j7 hH;obtain ⟨u,hu,ru⟩:=r.get hy;have hy':aq.toArray[aq.toArray.size - 1]?=some u:=by
  show aq.toArray[aq.length - 1]?=some u;rw [← Array.getElem?_toList,← hl];exact hu
 refine call_meets F.slot_list_pop ⟨_,e,rfl⟩ F.entry_list_pop (F.args_list_pop_1 _) (MeetsSeq.list_pop_last l aq.toArray n u hy' (by rw [List.size_toArray]; omega)) ⟨e,?_⟩;refine ⟨y,_,I.uN (its':=aq.dropLast) hH e ?_ r.dropLast ?_,ru,q⟩
 ·show aq.toArray.eraseIdxIfInBounds (aq.toArray.size - 1)=aq.dropLast.toArray;rw [List.size_toArray,List.eraseIdxIfInBounds_toArray,VC]
 ·rw [List.length_dropLast];omega
def F6:V→List V→Hp→VK→Prop:=fun x vs H Q=>∃ l xs i k y,x=.ref l∧vs=[.int i]∧H l=some (.lst xs)∧-(2 ^ 63)≤i∧i < 2 ^ 63∧seqIndex? i xs.length=some k∧xs[k]?=some y∧Q y (upd H l (.lst (xs.eraseIdx k)))
theorem NL:tI X "list.pop" F6:=by
 intro pins s σ H x vs v us Q I rx rv h;obtain ⟨l,xs,i,k,y,rfl,rfl,hH,h1,h2,hk,hy,q⟩:=h;cases rx;obtain ⟨u,rfl,ru⟩:=rv.one;obtain ⟨t,rfl⟩:=ru;obtain ⟨z,aq,n,r,hl,e⟩:=I.j7 hH;obtain ⟨w,hw,rw'⟩:=r.get hy;refine call_meets F.slot_list_pop ⟨_,e,rfl⟩ F.entry_list_pop (F.args_list_pop_2 _ _)
  (MeetsSeq.list_pop_at l aq.toArray n i t k w (fitsIndex_both h1 h2) (by rw [List.size_toArray,← hl]; exact hk) (by rw [← Array.getElem?_toList]; exact hw) (by rw [List.size_toArray]; omega)) ⟨e,?_⟩
 refine ⟨y,_,I.uN (its':=aq.eraseIdx k) hH e ?_ (r.eraseIdx k) ?_,rw',q⟩
 ·show aq.toArray.eraseIdxIfInBounds k=(aq.eraseIdx k).toArray;rw [List.eraseIdxIfInBounds_toArray]
 ·have:=Ij xs k;omega
def Lx:R2:=fun x y H Q=>∃ l b xs zs,x=.ref l∧y=.ref b∧H l=some (.lst xs)∧H b=some (.lst zs)∧xs.length+zs.length≤sizeLine∧∀ p,H p=none→Q (.ref p) (upd H p (.lst (xs++zs)))
theorem KJ:bc X (binaryOp .Add) Lx:=by
 intro pins s σ H x y v u Q I rx ry h;obtain ⟨l,b,xs,zs,rfl,rfl,hH,hB,hz,q⟩:=h;cases rx;cases ry;obtain ⟨z,aq,n,r,hl,e⟩:=I.j7 hH;obtain ⟨z2,my,n2,r2,cv,e2⟩:=I.j7 hB;refine PySem.P.add_list e e2 ?_ (by rw [List.size_toArray,List.size_toArray]; omega);have ea:aq.toArray++my.toArray=(aq++my).toArray:=by simp
 rw [ea];exact ⟨.ref _,_,I.GK (t':=s.toks) (r.append r2) (by rw [List.length_append]; omega),rfl,q _ I.fresh⟩
def Qm:R2:=fun x y H Q=>∃ l k xs,x=.ref l∧y=.int k∧H l=some (.lst xs)∧-(2 ^ 63)≤k∧k < 2 ^ 63∧xs.length * k.toNat≤sizeLine ∧
 ∀ p,H p=none→Q (.ref p) (upd H p (.lst (List.replicate k.toNat xs).flatten))
theorem len_rep {α:Type} (xs:List α) (k:Nat):(List.replicate k xs).flatten.length=k * xs.length:=by
 induction k with
 | zero=>simp
 | succ k ih=>rw [List.replicate_succ,List.flatten_cons,List.length_append,ih,Nat.succ_mul,Nat.add_comm]
theorem VQ:bc X (binaryOp .Mult) Qm:=by
 intro pins s σ H x y v u Q I rx ry h;obtain ⟨l,k,xs,rfl,rfl,hH,h1,h2,hz,q⟩:=h;cases rx;obtain ⟨t,rfl⟩:=ry;obtain ⟨z,aq,n,r,hl,e⟩:=I.j7 hH;have hlen:aq.toArray.size * k.toNat≤sizeLine:=by rw [List.size_toArray,← hl]; exact hz
 have hcap:¬ aq.toArray.size * k.toNat > (2 ^ 63 - 1) / 8:=by
  have:(sizeLine:Nat)≤(2 ^ 63 - 1) / 8:=by decide
  omega
 have Bp:¬ (!Builtin.List.listFitsIndex k)=true:=by
  rw [fitsIndex_both h1 h2];exact Bool.false_ne_true
 have Bt:¬ Builtin.List.listTooLong (aq.toArray.size * k.toNat)=true:=by
  rw [Cg hlen];exact Bool.false_ne_true
 have hnew:List.foldl (fun x1 x2=>x1++x2) #[] (List.replicate (if aq.toArray.isEmpty=true then 0 else k.toNat) aq.toArray)=(List.replicate k.toNat aq).flatten.toArray:=by
  have f0:∀ m:Nat,List.foldl (fun x1 x2=>x1++x2) #[] (List.replicate m aq.toArray)=(List.replicate m aq).flatten.toArray:=fun m=>by
   have:=foldl_rep aq m [];rw [List.nil_append] at this;exact this
  rw [f0];cases aq with
  | nil=>simp
  | cons a r'=>rw [if_neg (by simp)]
 refine wpAny_binaryOp_repeat_ref (T := "list") (U := "int") (by decide) ⟨_,e,rfl⟩ (fun s'=>typeIs_int s' k t) noFill_list_mul F.fills_int_mul F.slot_int_rmul repeat_list F.slot_int_index.lookup
  (call_meets F.slot_int_rmul (typeIs_int s k t) F.entry_int_rmul (F.args_int_rmul_2 _ _) (int___rmul___int_list k t l aq.toArray n)
   ⟨e,rfl,⟨_,e,rfl⟩,call_meets F.slot_list_mul ⟨_,e,rfl⟩ F.entry_list_mul (F.args_list_mul_2 _ _) (AutoListH.list___mul___list_int_3 l aq.toArray n k t Bp hcap Bt) ⟨e,?_⟩⟩)
 rw [hnew];exact ⟨.ref _,_,I.GK (t':=s.toks) (r.rep k.toNat) (by rw [len_rep,Nat.mul_comm]; exact hz),rfl,q _ I.fresh⟩
end
section
variable {prog:Program} {w:World} {A:Around} {E:Value→Shared→Prop} {s:Shared}
end
section
variable {X:Cx}
end
end L2
namespace L2
open PySem PySem.Spec PyProof.Rows
section
variable {κ:Type} [DecidableEq κ]
def aJ (kvs:List (κ×V)) (k:κ):Option V:=(kvs.find? fun kv=>decide (kv.1=k)).map (·.2)
def putK (kvs:List (κ×V)) (k:κ) (v:V):List (κ×V) :=
 if (kvs.any fun kv=>decide (kv.1=k))=true then kvs.map (fun kv=>if kv.1=k then (kv.1,v) else kv) else kvs++[(k,v)]
theorem gQ {p:κ×V} {r:List (κ×V)} {k:κ} (e:p.1=k):aJ (p::r) k=some p.2:=by simp [aJ,List.find?_cons,e]
theorem gI {p:κ×V} {r:List (κ×V)} {k:κ} (e:¬ p.1=k):aJ (p::r) k=aJ r k:=by simp [aJ,List.find?_cons,e]
theorem nU (k:κ):∀ kvs:List (κ×V),(kvs.any fun kv=>decide (kv.1=k))=(aJ kvs k).isSome
 | []=>rfl
 | p::r=>by
  rw [List.any_cons];by_cases e:p.1=k
  ·simp only [gQ e,decide_eq_true e,Bool.true_or,Option.isSome_some]
  ·rw [gI e,decide_eq_false e,Bool.false_or]; exact nU k r
theorem Fw (k j:κ) (y:V):∀ kvs:List (κ×V),aJ (kvs.map fun kv=>if kv.1=k then (kv.1,y) else kv) j=(aJ kvs j).map fun x=>if j=k then y else x
 | []=>rfl
 | p::r=>by
  have ih:=Fw k j y r;rw [List.map_cons];by_cases h:p.1=k
  ·rw [if_pos h];by_cases e:p.1=j
   ·rw [gQ (p:=(p.1,y)) e,gQ e,Option.map_some,if_pos (e.symm.trans h)]
   ·rw [gI (p:=(p.1,y)) e,gI e,ih]
  ·rw [if_neg h];by_cases e:p.1=j
   ·rw [gQ (p:=p) e,gQ e,Option.map_some,if_neg (fun z=>h (e.trans z))]
   ·rw [gI (p:=p) e,gI e,ih]
theorem zM (k j:κ) (y:V):∀ kvs:List (κ×V),aJ kvs k=none→aJ (kvs++[(k,y)]) j=if j=k then some y else aJ kvs j
 | [],_=>by
  by_cases e:k=j
  ·rw [if_pos e.symm]; exact gQ (p:=(k,y)) e
  ·rw [if_neg (fun z=>e z.symm)]; exact gI (p:=(k,y)) e
 | p::r,hn=>by
  rw [List.cons_append];have hk:¬ p.1=k:=fun z=>by rw [gQ z] at hn; cases hn
  rw [gI hk] at hn;have ih:=zM k j y r hn;by_cases e:p.1=j
  ·rw [gQ e,gQ e,if_neg (fun z=>hk (e.trans z))]
  ·rw [gI e,gI e,ih]
theorem VG (kvs:List (κ×V)) (k j:κ) (y:V):aJ (putK kvs k y) j=if j=k then some y else aJ kvs j:=by
 unfold putK;by_cases a:(kvs.any fun kv=>decide (kv.1=k))=true
 ·rw [if_pos a,Fw];rw [nU] at a;by_cases e:j=k
  ·obtain ⟨x,hx⟩:=Option.isSome_iff_exists.mp a;rw [if_pos e,e,hx,Option.map_some,if_pos rfl]
  ·rw [if_neg e];cases aJ kvs j with
   | none=>rfl
   | some x=>rw [Option.map_some,if_neg e]
 ·rw [if_neg a];refine zM k j y kvs ?_;rw [nU] at a;cases q:aJ kvs k with
  | none=>rfl
  | some x=>rw [q] at a; exact (a rfl).elim
theorem EJ (kvs:List (κ×V)) (k:κ) (v:V):(putK kvs k v).length≤kvs.length+1:=by
 unfold putK;split
 ·rw [List.length_map]; omega
 ·rw [List.length_append,List.length_cons,List.length_nil]; omega
theorem dS.qY {o:Option V} {u:Option Value} (r:dS o u):o.isSome=u.isSome:=by
 cases o with
 | none=>cases u with
  | none=>rfl
  | some _=>exact (show False from r).elim
 | some _=>cases u with
  | none=>exact (show False from r).elim
  | some _=>rfl
theorem dS.getD {o:Option V} {u:Option Value} {d:V} {d':Value} (r:dS o u) (rd:RelV d d'):RelV (o.getD d) (u.getD d'):=by
 cases o with
 | none=>cases u with
  | none=>exact rd
  | some _=>exact (show False from r).elim
 | some _=>cases u with
  | none=>exact (show False from r).elim
  | some _=>exact r
theorem KV.val {kvs:List (κ×V)} {vs:List (κ×Value)} (r:KV kvs vs) (k:κ):dS (aJ kvs k) (valueAt vs k):=by
 unfold KV at r
 induction r with
 | nil=>exact True.intro
 | @cons p q ps qs h t ih =>
  obtain ⟨h1,h2⟩:=h;by_cases e:p.1=k
  ·have e':q.1=k:=h1.symm.trans e;have b:valueAt (q::qs) k=some q.2:=by simp [valueAt,List.find?_cons,e']
   rw [gQ e,b]; exact h2
  ·have e':¬ q.1=k:=fun z=>e (h1.trans z);have b:valueAt (q::qs) k=valueAt qs k:=by simp [valueAt,List.find?_cons,e']
   rw [gI e,b]; exact ih
theorem KV.any {kvs:List (κ×V)} {vs:List (κ×Value)} (r:KV kvs vs) (k:κ):(kvs.any fun kv=>decide (kv.1=k))=vs.any fun kv=>decide (kv.1=k):=by
 unfold KV at r
 induction r with
 | nil=>rfl
 | cons h t ih=>rw [List.any_cons,List.any_cons,ih,h.1]
theorem KV.w8 {kvs:List (κ×V)} {vs:List (κ×Value)} (r:KV kvs vs) (k:κ) {y:V} {u:Value} (ry:RelV y u) :
  KV (kvs.map fun kv=>if kv.1=k then (kv.1,y) else kv) (vs.map fun kv=>if kv.1=k then (kv.1,u) else kv):=by
 unfold KV at r ⊢
 induction r with
 | nil=>exact .nil
 | @cons p q ps qs h t ih =>
  rw [List.map_cons,List.map_cons];refine .cons ?_ ih;obtain ⟨h1,h2⟩:=h;by_cases e:p.1=k
  ·rw [if_pos e,if_pos (h1.symm.trans e)]; exact ⟨h1,ry⟩
  ·rw [if_neg e,if_neg (fun z=>e (h1.trans z))]; exact ⟨h1,h2⟩
theorem KV.put {kvs:List (κ×V)} {vs:List (κ×Value)} (r:KV kvs vs) (k:κ) {y:V} {u:Value} (ry:RelV y u):KV (putK kvs k y) (stored vs k u):=by
 unfold putK stored;rw [r.any k];by_cases e:(vs.any fun kv=>decide (kv.1=k))=true
 ·rw [if_pos e,if_pos e]; exact r.w8 k ry
 ·rw [if_neg e,if_neg e]; exact Paired.snoc r ⟨rfl,ry⟩
theorem KV.keys {kvs:List (κ×V)} {vs:List (κ×Value)} (r:KV kvs vs):kvs.map (·.1)=vs.map (·.1):=by
 unfold KV at r
 induction r with
 | nil=>rfl
 | cons h t ih=>rw [List.map_cons,List.map_cons,ih,h.1]
theorem KV.length {kvs:List (κ×V)} {vs:List (κ×Value)} (r:KV kvs vs):kvs.length=vs.length:=Paired.length r
end
theorem pb {P:Program} {w:World} {k:Key} {u:Value} (r:RelV (kV k) u):(dU P w).is k u=true:=by
 cases k with
 | inl i=>obtain ⟨t,e⟩:=(show ∃ t,u=Value.int i t from r); subst e; exact Ry P w i t
 | inr x=>obtain ⟨t,e⟩:=(show ∃ t,u=Value.str x t from r); subst e; exact LF P w x t
theorem F5 {P:Program} {w:World}:∀ {ks:List Key} {us:List Value},Vals (ks.map kV) us→ItemsAre (dU P w) ks us
 | [],_,r=>by rw [List.map_nil] at r; cases r; exact .nil
 | k::ks,_,r=>by
  rw [List.map_cons] at r;cases r with
  | cons h t=>exact .cons (pb h) (F5 t)
abbrev KT (H:Hp):List (List Key×V)→List (List Key×Addr×Value)→Prop:=Paired fun p q=>p.1=q.1∧H q.2.1=some (.tup (p.1.map kV))∧RelV p.2 q.2.2
theorem KT.val {H:Hp} {kvs:List (List Key×V)} {xs:List (List Key×Addr×Value)} (r:KT H kvs xs) (k:List Key):dS (aJ kvs k) ((atKey xs k).map (·.2)):=by
 induction r with
 | nil=>exact True.intro
 | @cons p q ps qs h t ih =>
  obtain ⟨h1,_,h2⟩:=h;by_cases e:p.1=k
  ·have e':q.1=k:=h1.symm.trans e;have b:atKey (q::qs) k=some q.2:=by simp [atKey,List.find?_cons,e']
   rw [gQ e,b]; exact h2
  ·have e':¬ q.1=k:=fun z=>e (h1.trans z);have b:atKey (q::qs) k=atKey qs k:=by simp [atKey,List.find?_cons,e']
   rw [gI e,b]; exact ih
theorem KT.w8 {H:Hp} {kvs:List (List Key×V)} {xs:List (List Key×Addr×Value)} (r:KT H kvs xs) (k:List Key) {y:V} {u:Value} (ry:RelV y u) :
  KT H (kvs.map fun kv=>if kv.1=k then (kv.1,y) else kv) (xs.map (putAt k u)):=by
 induction r with
 | nil=>exact .nil
 | @cons p q ps qs h t ih =>
  rw [List.map_cons,List.map_cons];refine .cons ?_ ih;obtain ⟨h1,h2,h3⟩:=h;unfold putAt;by_cases e:p.1=k
  ·rw [if_pos e,if_pos (h1.symm.trans e)]; exact ⟨h1,h2,ry⟩
  ·rw [if_neg e,if_neg (fun z=>e (h1.trans z))]; exact ⟨h1,h2,h3⟩
theorem KT.put {H:Hp} {kvs:List (List Key×V)} {xs:List (List Key×Addr×Value)} (r:KT H kvs xs) (k:List Key) {b:Addr} {y:V} {u:Value} (hb:H b=some (.tup (k.map kV))) (ry:RelV y u) :
  KT H (putK kvs k y) (storedH xs k b u):=by
 have e:(kvs.any fun kv=>decide (kv.1=k))=(atKey xs k).isSome:=by
  rw [nU,(r.val k).qY,Option.isSome_map]
 unfold putK storedH;rw [e];by_cases q:(atKey xs k).isSome=true
 ·rw [if_pos q,if_pos q]; exact r.w8 k ry
 ·rw [if_neg q,if_neg q]; exact Paired.snoc r ⟨rfl,hb,ry⟩
theorem KT.keeps {H H':Hp} {kvs:List (List Key×V)} {xs:List (List Key×Addr×Value)} (r:KT H kvs xs) (ht:∀ b ys,H b=some (.tup ys)→H' b=some (.tup ys)):KT H' kvs xs :=
 Paired.wQ r fun _ _ z=>⟨z.1,ht _ _ z.2.1,z.2.2⟩
section
variable {P:Program} {w:World} {H:Hp} {h:Heap} {a:Addr}
theorem EX {u:HO} (ok:bS P w H h) (e:Rd H a u):bP P w H h a u:=e.ok ok
theorem lX {kvs:List (Key×V)} (ok:bS P w H h) (e:Rd H a (.dK kvs)):kvs.length≤sizeLine∧(a == sysModules)=false∧∃ vs,KV kvs vs∧h.DictOf (dU P w) a vs :=
 show bP P w H h a (.dK kvs) from EX ok e
theorem S0 {kvs:List (Key×V)} (ok:bS P w H h) (e:H a=some (.dK kvs)):kvs.length≤sizeLine∧(a == sysModules)=false∧∃ vs,KV kvs vs∧h.DictOf (dU P w) a vs:=lX ok (.inl e)
theorem oA {ks:List Key} (ok:bS P w H h) (e:H a=some (.tup (ks.map kV))):(tupleKind (dU P w)).is h ks a:=by
 obtain ⟨_,aq,r,o,h1,h2,n,h3⟩:=(show bP P w H h a (.tup (ks.map kV)) from ok a _ e);exact ⟨o,aq.toArray,n,h1,h2,h3,by simpa using F5 r⟩
theorem lO {kvs:List (List Key×V)} (ok:bS P w H h) (e:Rd H a (.dT kvs)):kvs.length≤sizeLine∧(a == sysModules)=false ∧
  ∃ xs,KT H kvs xs∧h.DictOfH (tupleKind (dU P w)) a xs:=by
 obtain ⟨z,y,xs,r,o,es,ep,h1,h2,h3,h4,h5⟩:=(show bP P w H h a (.dT kvs) from EX ok e);refine ⟨z,y,xs,r,o,es,ep,h1,h2,h3,h4,fun x hx=>?_,h5⟩;have all:∀ {l:List (List Key×V)} {m:List (List Key×Addr×Value)},KT H l m→∀ x∈m,(tupleKind (dU P w)).is h x.1 x.2.1:=by
  intro l m q
  induction q with
  | nil=>intro x hx; exact nomatch hx
  | @cons p q ps qs hq t ih =>
   intro x hx;rcases List.mem_cons.mp hx with e | hx
   ·subst e;exact oA ok (by rw [← hq.1]; exact hq.2.1)
   ·exact ih x hx
 exact all r x hx
theorem T7 {kvs:List (List Key×V)} (ok:bS P w H h) (e:H a=some (.dT kvs)):kvs.length≤sizeLine∧(a == sysModules)=false ∧
  ∃ xs,KT H kvs xs∧h.DictOfH (tupleKind (dU P w)) a xs:=lO ok (.inl e)
end
def cQ (H:Hp) (a:Addr) (y:V) (r:Option V):Prop :=
 (∃ kvs k,Rd H a (.dK kvs)∧y=kV k∧r=aJ kvs k)∨∃ kvs k b,Rd H a (.dT kvs)∧y=.ref b∧H b=some (.tup (k.map kV))∧r=aJ kvs k
def gD (H:Hp) (a:Addr) (y v:V) (H':Hp):Prop :=
 (∃ kvs k,H a=some (.dK kvs)∧y=kV k∧kvs.length < sizeLine∧H'=upd H a (.dK (putK kvs k v))) ∨
 ∃ kvs k b,H a=some (.dT kvs)∧y=.ref b∧H b=some (.tup (k.map kV))∧kvs.length < sizeLine∧H'=upd H a (.dT (putK kvs k v))
theorem cQ.k {H:Hp} {a:Addr} {kvs:List (Key×V)} {k:Key} (e:H a=some (.dK kvs)):cQ H a (kV k) (aJ kvs k):=.inl ⟨kvs,k,.inl e,rfl,rfl⟩
theorem gD.k {H:Hp} {a:Addr} {kvs:List (Key×V)} {k:Key} {v:V} (e:H a=some (.dK kvs)) (hl:kvs.length < sizeLine):gD H a (kV k) v (upd H a (.dK (putK kvs k v))):=.inl ⟨kvs,k,e,rfl,hl,rfl⟩
theorem gD.t {H:Hp} {a b:Addr} {kvs:List (List Key×V)} {k:List Key} {v:V} (e:H a=some (.dT kvs)) (eb:H b=some (.tup (k.map kV))) (hl:kvs.length < sizeLine) :
  gD H a (.ref b) v (upd H a (.dT (putK kvs k v))):=.inr ⟨kvs,k,b,e,rfl,eb,hl,rfl⟩
section
variable {X:Cx} {pins:List (Addr×Obj)} {σ:St} {H:Hp} {s:Shared} {a:Addr} {y v:V} {u r:Value} {o:Option V} {A:Around} {E:Value→Shared→Prop}
theorem Inv.big (I:Inv X pins σ H s):sysModules < s.heap.objs.size:=by
 have h:mainGlobals < s.heap.objs.size:=(I.mod.glob.keeps I.bk).lt;exact Nat.lt_trans (by decide) h
theorem Sl {Q:Value→Shared→Prop} (hu:A.units+1 < cLine) (I:Inv X pins σ H s) (g:cQ H a y (some v)) (ry:RelV y u) (h:∀ w' s',Inv X pins σ H s'→RelV v w'→Q w' s') :
  wpAny (model X.prog X.w) A (getItem (.ref a) u) Q E s:=by
 rcases g with ⟨kvs,k,e,ey,l⟩ | ⟨kvs,k,b,e,ey,eb,l⟩
 ·subst ey;obtain ⟨z,hd,vs,rel,dd⟩:=lX I.aC e;obtain ⟨w',hw,rw'⟩:=dS.some_of (v:=v) (o:=valueAt vs k) (by rw [l]; exact rel.val k);exact wpAny_getItem_of (pb ry) dd.mapOf hw (h w' _ (I.tok _) rw')
 ·subst ey;cases (show u=Value.ref b from ry);obtain ⟨z,hd,xs,rel,dd⟩:=lO I.aC e;obtain ⟨w',hw,rw'⟩:=dS.some_of (v:=v) (o:=(atKey xs k).map (·.2)) (by rw [l]; exact rel.val k);obtain ⟨p,hp,eC⟩:=Option.map_eq_some_iff.mp hw;refine wpAny_getItem_heap (tupleKind_room_in1 hu) (oA I.aC eb) dd hp ?_;rw [eC];exact h w' _ (I.tok _) rw'
theorem PM {Q:Value→Shared→Prop} (hu:A.units+1 < cLine) (I:Inv X pins σ H s) (g:cQ H a y o) (ry:RelV y u) (h:∀ s',Inv X pins σ H s'→Q (.bool o.isSome) s') :
  wpAny (model X.prog X.w) A (compareOp .In u (.ref a)) Q E s:=by
 rcases g with ⟨kvs,k,e,ey,l⟩ | ⟨kvs,k,b,e,ey,eb,l⟩
 ·subst ey;obtain ⟨z,hd,vs,rel,dd⟩:=lX I.aC e;refine wpAny_in_of (pb ry) hd dd.mapOf ?_;rw [← (rel.val k).qY,← l];exact h _ (I.tok _)
 ·subst ey;cases (show u=Value.ref b from ry);obtain ⟨z,hd,xs,rel,dd⟩:=lO I.aC e;refine wpAny_in_heap (tupleKind_room_in1 hu) (oA I.aC eb) hd dd ?_;have q:=(rel.val k).qY;rw [Option.isSome_map] at q;rw [← q,← l];exact h _ (I.tok _)
theorem Tr {Q:Value→Shared→Prop} (hu:A.units+1 < cLine) (I:Inv X pins σ H s) (g:cQ H a y o) (ry:RelV y u) (h:∀ s',Inv X pins σ H s'→Q (.bool (!o.isSome)) s') :
  wpAny (model X.prog X.w) A (compareOp .NotIn u (.ref a)) Q E s:=by
 rcases g with ⟨kvs,k,e,ey,l⟩ | ⟨kvs,k,b,e,ey,eb,l⟩
 ·subst ey;obtain ⟨z,hd,vs,rel,dd⟩:=lX I.aC e;refine wpAny_notIn_of (pb ry) hd dd.mapOf ?_;rw [← (rel.val k).qY,← l];exact h _ (I.tok _)
 ·subst ey;cases (show u=Value.ref b from ry);obtain ⟨z,hd,xs,rel,dd⟩:=lO I.aC e;refine wpAny_notIn_heap (tupleKind_room_in1 hu) (oA I.aC eb) hd dd ?_;have q:=(rel.val k).qY;rw [Option.isSome_map] at q;rw [← q,← l];exact h _ (I.tok _)
theorem DA {h':Heap} {t':Nat} {ob:HO} (I:Inv X pins σ H s) (mu:p9 (H a)) (hs:Heap.SameBut a s.heap h') (he:∃ q,h'.get? a=some q) (new:bP X.prog X.w (upd H a ob) h' a ob) :
  Inv X pins σ (upd H a ob) { s with heap:=h',toks:=t' } :=
 I.write (x:=a) (e:=a) mu (.inl rfl) (fun b q hb z=>(hs.2 b hb).trans z) he new
theorem Qy {P:Program} {w:World} {H':Hp} {h':Heap} {kvs:List (Key×V)} {vs:List (Key×Value)} (z:kvs.length≤sizeLine) (hd:(a == sysModules)=false) (rel:KV kvs vs) (dd:h'.DictOf (dU P w) a vs) :
  bP P w H' h' a (.dK kvs):=⟨z,hd,vs,rel,dd⟩
theorem OL {H':Hp} {Q:Unit→Shared→Prop} (hu:A.units+1 < cLine) (I:Inv X pins σ H s) (g:gD H a y v H') (ry:RelV y u) (rv:RelV v r) (h:∀ s',Inv X pins σ H' s'→Q () s') :
  wpAny (model X.prog X.w) A (setItem (.ref a) u r) Q E s:=by
 rcases g with ⟨kvs,k,e,ey,l,eH⟩ | ⟨kvs,k,b,e,ey,eb,l,eH⟩
 ·subst ey eH;obtain ⟨z,hd,vs,rel,dd⟩:=S0 I.aC e;have hz:vs.length≤sizeLine:=by rw [← rel.length]; exact z
  have hl:(putK kvs k v).length≤sizeLine:=by have:=EJ kvs k v; omega
  refine wpAny_setItem_pairs (hsz:=hz) (pb ry) dd fun h' dd' hs=>h _ ?_;have he:∃ q,h'.get? a=some q:=let ⟨q,_,_,hq,_⟩:=dd'; ⟨q,hq⟩
  exact DA I (by rw [e]; exact True.intro) hs he (Qy hl hd (rel.put k rv) dd')
 ·subst ey eH;cases (show u=Value.ref b from ry);obtain ⟨z,hd,xs,rel,dd⟩:=T7 I.aC e;have hz:xs.length≤sizeLine:=by rw [← Paired.length rel]; exact z
  have hl:(putK kvs k v).length≤sizeLine:=by have:=EJ kvs k v; omega
  refine wpAny_setItem_heap (hsz:=hz) (tupleKind_room_in1 hu) (oA I.aC eb) dd fun h' dd' hs=>h _ ?_;obtain ⟨q,es,ep,hq,h2,h3,h4,_,h5⟩:=dd';refine DA I (by rw [e]; exact True.intro) hs ⟨q,hq⟩ ⟨hl,hd,_,(rel.put k eb rv).keeps fun c ys ec=>?_,q,es,ep,hq,h2,h3,h4,h5⟩;rw [ah (PD ec e (fun z=>nomatch z))];exact ec
end
section
variable {X:Cx} {pins:List (Addr×Obj)} {σ:St} {H:Hp} {s:Shared} {a:Addr} {kvs:List (Key×V)} {k:Key} {u:Value} {A:Around} {E:Value→Shared→Prop}
end
def z8 (i:Expr):Prop:=∀ ov iv,subscripted i false ov iv=operate [ov,iv] (getItem ov iv)
theorem Uu {prog:Program} {w:World} {A:Around} {E:Value→Shared→Prop} {s:Shared} {env:Env} {value slice:Expr} {pos:Pos} {T id:String} {Q:Value→Shared→Prop}
  (hl:typeLookup (.type T) "__getitem__" = pure (some (.builtin id))) (hs:z8 slice)
  (h:wpAny (model prog w) A (eval value env) (fun o s₁=>wpAny (model prog w) A (eval slice env) (fun i s₂=>s₂.TypeIs o T∧wpAny (model prog w) A (getItem o i) Q E s₂) E s₁) E s) :
  wpAny (model prog w) A (eval (.Subscript value slice pos) env) Q E s:=by
 refine Subscript_ (wpAny_mono h (fun o s₁ h₁=>wpAny_mono h₁ (fun i s₂ h₂=>?_) fun _ _ x=>x) fun _ _ x=>x);obtain ⟨hT,h₂⟩:=h₂;unfold subscriptTail;refine wpAny_bind ?_;rw [getitemInPython_of_ne hT.not_modules];refine wpAny_bind (wpAny_specialOf hT hl ?_);have fin:wpAny (model prog w) A (subscripted slice false o i) (fun r s₃=>wpAny (model prog w) A (letTemporaryGo value o r >>= fun _=>pure r) Q E s₃) E s₂:=by
  rw [hs o i];exact wpAny_operating (wpAny_mono h₂ (fun r s₃ h₃=>wpAny_bind (wpAny_letTemporaryGo (wpAny_pure h₃))) fun _ _ x=>x)
 first
  | exact wpAny_pure (wpAny_bind fin)
  | exact wpAny_bind (wpAny_pure (wpAny_bind fin))
  | exact wpAny_bind fin
theorem M5 {X:Cx} {pins:List (Addr×Obj)} {σ:St} {H:Hp} {s:Shared} {a:Addr} {y:V} {o:Option V} (I:Inv X pins σ H s) (g:cQ H a y o):s.TypeIs (.ref a) "dict" := by
 rcases g with ⟨kvs,k,e,_,_⟩ | ⟨kvs,k,b,e,_,_,_⟩
 ·obtain ⟨_,_,vs,_,dd⟩:=lX I.aC e;exact dd.typeIs
 ·obtain ⟨_,_,xs,_,dd⟩:=lO I.aC e;exact dd.typeIs
def yD (td ty:TE):TE:=fun σ H Q=>td σ H fun x H1=>ty σ H1 fun y H2=>∃ a v,x=.ref a∧cQ H2 a y (some v)∧Q v H2
def xQ (ty td:TE):TE:=fun σ H Q=>ty σ H fun y H1=>td σ H1 fun x H2=>∃ a o,x=.ref a∧cQ H2 a y o∧Q (.bl o.isSome) H2
def vY (ty td:TE):TE:=fun σ H Q=>ty σ H fun y H1=>td σ H1 fun x H2=>∃ a o,x=.ref a∧cQ H2 a y o∧Q (.bl (!o.isSome)) H2
def zo (td ty tv:TE):TS:=fun D σ H=>tv σ H fun v H1=>td σ H1 fun x H2=>ty σ H2 fun y H3=>∃ a H4,x=.ref a∧gD H3 a y v H4∧D.nx σ H4
section
variable {X:Cx} {o i e value:Expr} {pos pos' tpos:Pos} {td ty tv:TE}
theorem Nq (hu:X.A.units+1 < cLine) (ho:PE X o td) (hi:PE X i ty) (hs:z8 i):PE X (.Subscript o i pos) (yD td ty):=by
 intro pins s σ H Q I h;refine Uu PySem.F.slot_dict_getitem.lookup hs (aE (ho pins s σ H _ I h) fun u s1 ⟨x,H1,I1,rx,q1⟩=>aE (hi pins s1 σ H1 _ I1 q1) fun iv s2 ⟨y,H2,I2,ry,a,v,ex,g,q2⟩=>?_);subst ex;obtain rfl:u=Value.ref a:=rx;exact ⟨M5 I2 g,Sl hu I2 g ry fun w' s3 I3 rw'=>⟨v,H2,I3,rw',q2⟩⟩
theorem Q9 (hu:X.A.units+1 < cLine) (hi:PE X i ty) (ho:PE X o td):PC X .In i o (xQ ty td):=by
 intro pins s σ H Q I h;refine aE (hi pins s σ H _ I h) fun iv s1 ⟨y,H1,I1,ry,q1⟩=>aE (ho pins s1 σ H1 _ I1 q1) fun u s2 ⟨x,H2,I2,rx,a,ov,ex,g,q2⟩=>?_;subst ex;obtain rfl:u=Value.ref a:=rx;exact PM hu I2 g ry fun s3 I3=>⟨.bl ov.isSome,H2,I3,rfl,q2⟩
theorem Nm (hu:X.A.units+1 < cLine) (hi:PE X i ty) (ho:PE X o td):PC X .NotIn i o (vY ty td):=by
 intro pins s σ H Q I h;refine aE (hi pins s σ H _ I h) fun iv s1 ⟨y,H1,I1,ry,q1⟩=>aE (ho pins s1 σ H1 _ I1 q1) fun u s2 ⟨x,H2,I2,rx,a,ov,ex,g,q2⟩=>?_;subst ex;obtain rfl:u=Value.ref a:=rx;exact Tr hu I2 g ry fun s3 I3=>⟨.bl (!ov.isSome),H2,I3,rfl,q2⟩
theorem KP (hu:X.A.units+1 < cLine) (ho:PE X o td) (hi:PE X i ty) (hv:PE X value tv) (hs:swapsWith value (some (.Subscript o i pos')) pos.line X.env=pure false) :
  PS X (.Assign [.Subscript o i pos'] value pos) (zo td ty tv):=by
 intro pins s σ H D I h;refine wpAny_Assign_Subscript (aE (hv pins s σ H _ I h) fun r s1 ⟨v,H1,I1,rv,q1⟩=>aE (ho pins s1 σ H1 _ I1 q1) fun u s2 ⟨x,H2,I2,rx,q2⟩=>aE (hi pins s2 σ H2 _ I2 q2) fun iv s3 ⟨y,H3,I3,ry,a,H4,ex,g,q3⟩=>?_) hs;subst ex;obtain rfl:u=Value.ref a:=rx;exact OL hu I3 g ry rv fun s4 I4=>⟨σ,H4,I4,q3⟩
end
theorem S7 {P:Program} {w:World} {H:Hp} (h:Heap) (hb:sysModules < h.objs.size):bP P w H (h.push { cls:=.type "dict",data:=.dict #[] }) h.objs.size (.dK []) :=
 ⟨Nat.zero_le _,beq_eq_false_iff_ne.mpr (Ne.symm (Nat.ne_of_lt hb)),[],.nil,Heap.DictOf.new h⟩
theorem SN {P:Program} {w:World} {H:Hp} (h:Heap) (hb:sysModules < h.objs.size):bP P w H (h.push { cls:=.type "dict",data:=.dict #[] }) h.objs.size (.dT []) :=
 ⟨Nat.zero_le _,beq_eq_false_iff_ne.mpr (Ne.symm (Nat.ne_of_lt hb)),[],.nil,_,#[],0,Heap.get?_push_size _ rfl,⟨rfl,rfl,rfl⟩,rfl,rfl,List.nodup_nil⟩
def xK:TE:=fun _ H Q=>∀ p,H p=none→Q (.ref p) (upd H p (.dK []))
def Al:TE:=fun _ H Q=>∀ p,H p=none→Q (.ref p) (upd H p (.dT []))
section
variable {X:Cx} {pos:Pos}
theorem KH:PE X (.Dict [] [] pos) xK:=fun pins s σ H Q I h =>
 wpAny_Dict_empty ⟨.ref s.heap.objs.size,_,I.laid (a:=s.heap.objs.size) (o:=.dK []) (t':=s.toks) (fun _ _ q=>Heap.get?_push_of_some _ q) (Nat.le_refl _) (S7 s.heap I.big),rfl,h _ (I.aC.fresh (Nat.le_refl _))⟩
theorem QU:PE X (.Dict [] [] pos) Al:=fun pins s σ H Q I h =>
 wpAny_Dict_empty ⟨.ref s.heap.objs.size,_,I.laid (a:=s.heap.objs.size) (o:=.dT []) (t':=s.toks) (fun _ _ q=>Heap.get?_push_of_some _ q) (Nat.le_refl _) (SN s.heap I.big),rfl,h _ (I.aC.fresh (Nat.le_refl _))⟩
end
def B5:List (TE×TE)→St→Hp→(List (V×V)→Hp→Prop)→Prop
 | [],_,H,Q=>Q [] H
 | (tk,tv)::r,σ,H,Q=>tk σ H fun x H1=>tv σ H1 fun y H2=>B5 r σ H2 fun ps H3=>Q ((x,y)::ps) H3
abbrev VV:List (V×V)→List (Value×Value)→Prop:=Paired fun p q=>RelV p.1 q.1∧RelV p.2 q.2
def P8 (X:Cx) (pos:Pos) (keys:List (Option Expr)) (values:List Expr) (trs:List (TE×TE)):Prop :=
 ∀ (pins:List (Addr×Obj)) (s:Shared) (σ:St) (H:Hp) (Q:List (V×V)→Hp→Prop),Inv X pins σ H s→B5 trs σ H Q →
  wpAny (model X.prog X.w) X.A (evalPairs (pairTrees keys values X.env pos)) (fun vs s'=>∃ ps H',Inv X pins σ H' s'∧VV ps vs∧Q ps H') X.xe s
structure M1 (X:Cx) (o:Expr) (m:Str) (apos:Pos) (e:Expr) (bw:Pos):Prop where
 base:attributeBase o m X.env (eval o X.env)=eval o X.env
 HE:((backTo bw (starEach [e] X.env)).all (fun x=>!x.1) && (backToKw bw (keywordEach [] X.env)).all (fun x=>x.1.isSome)
  && decide (([e]:List Expr).length+([]:List Keyword).length+(if ([]:List Keyword).isEmpty then 0 else 1) < 30))=true
 line:(apos.endLine == bw.line)=true
 trees:backTo bw (starEach [e] X.env)=[(false,eval e X.env)]
structure M2 (X:Cx) (o:Expr) (m:Str) (apos:Pos) (e f:Expr) (bw:Pos):Prop where
 base:attributeBase o m X.env (eval o X.env)=eval o X.env
 HE:((backTo bw (starEach [e,f] X.env)).all (fun x=>!x.1) && (backToKw bw (keywordEach [] X.env)).all (fun x=>x.1.isSome)
  && decide (([e,f]:List Expr).length+([]:List Keyword).length+(if ([]:List Keyword).isEmpty then 0 else 1) < 30))=true
 line:(apos.endLine == bw.line)=true
 trees:backTo bw (starEach [e,f] X.env)=[(false,eval e X.env),(false,eval f X.env)]
def Fm (H:Hp) (a:Addr):Prop:=(∃ kvs,Rd H a (.dK kvs))∨∃ kvs,Rd H a (.dT kvs)
theorem LS {X:Cx} {pins:List (Addr×Obj)} {σ:St} {H:Hp} {s:Shared} {a:Addr} (I:Inv X pins σ H s) (d:Fm H a) :
  s.TypeIs (.ref a) "dict" ∧ (∀ b,Value.ref a=.ref b→∃ ob,s.heap.get? b=some ob∧ob.dict=none)∧(a == sysModules)=false:=by
 rcases d with ⟨kvs,e⟩ | ⟨kvs,e⟩
 ·obtain ⟨_,hd,vs,_,dd⟩:=lX I.aC e;refine ⟨dd.typeIs,fun b q=>?_,hd⟩;cases q;obtain ⟨ob,_,_,h1,h2,_⟩:=dd;exact ⟨ob,h1,h2.2.1⟩
 ·obtain ⟨_,hd,xs,_,dd⟩:=lO I.aC e;refine ⟨dd.typeIs,fun b q=>?_,hd⟩;cases q;obtain ⟨ob,_,_,h1,h2,_⟩:=dd;exact ⟨ob,h1,h2.2.1⟩
section
variable {X:Cx} {pins:List (Addr×Obj)} {σ:St} {H:Hp} {s:Shared} {a:Addr} {y d:V} {u r:Value} {o:Option V} {A:Around} {E:Value→Shared→Prop}
theorem RY {Q:Value→Shared→Prop} (hu:A.units+1 < cLine) (I:Inv X pins σ H s) (g:cQ H a y o) (ry:RelV y u) (h:∀ w' s',Inv X pins σ H s'→RelV (o.getD .ax) w'→Q w' s') :
  wpAny (model X.prog X.w) A (call (.builtin "dict.get") [.ref a,u]) Q E s:=by
 rcases g with ⟨kvs,k,e,ey,l⟩ | ⟨kvs,k,b,e,ey,eb,l⟩
 ·subst ey;obtain ⟨z,hd,vs,rel,dd⟩:=lX I.aC e;refine call_meetsIn PySem.F.slot_dict_get dd.typeIs PySem.F.entry_dict_get (PySem.F.args_dict_get_2 _ _) (meets_dict_get (dU X.prog X.w) a (pb ry) hd) ⟨_,dd.mapOf,h _ _ (I.tok _) ?_⟩;rw [l];exact (rel.val k).getD rfl
 ·subst ey;cases (show u=Value.ref b from ry);obtain ⟨z,hd,xs,rel,dd⟩:=lO I.aC e;refine call_meetsIn PySem.F.slot_dict_get dd.typeIs PySem.F.entry_dict_get (PySem.F.args_dict_get_2 _ _) (meetsH_dict_get (tupleKind (dU X.prog X.w)) a b hd) ⟨tupleKind_room_in1 hu,k,xs,oA I.aC eb,dd,h _ _ (I.tok _) ?_⟩;rw [l];exact (rel.val k).getD rfl
end
def xN (td ty:TE):TE:=fun σ H Q=>td σ H fun x H1=>∃ a,x=.ref a∧Fm H1 a∧ty σ H1 fun y H2=>∃ o,cQ H2 a y o∧Q (o.getD .ax) H2
section
variable {X:Cx} {o e f:Expr} {apos bw:Pos} {td ty tx:TE}
theorem Pp (hu:X.A.units+1 < cLine) (ho:PE X o td) (he:PE X e ty) (m:M1 X o "get" apos e bw):PE X (.Call (.Attribute o "get" apos) [e] [] bw) (xN td ty):=by
 intro pins s σ H Q I h;refine wpAny_Call_method m.base m.HE m.line PySem.F.plainAttrs_dict PySem.F.slot_dict_get PySem.F.type_dict_get (aE (ho pins s σ H _ I h) fun u s1 ⟨x,H1,I1,rx,a,ex,d,q1⟩=>?_);subst ex;obtain rfl:u=Value.ref a:=rx;obtain ⟨t1,t2,_⟩:=LS I1 d;refine ⟨t1,t2,?_⟩;rw [m.trees];refine Calls.callWith_builtin rfl (Calls.evalArgs_plain (Calls.spliced_cons (aE (he pins s1 σ H1 _ I1 q1) fun iv s2 ⟨y,H2,I2,ry,ov,g,q2⟩=>Calls.spliced_nil ?_)));exact RY hu I2 g ry fun w' s3 I3 rw'=>⟨_,H2,I3,rw',q2⟩
end
section
variable {X:Cx} {pins:List (Addr×Obj)} {σ:St} {H:Hp} {s:Shared} {a:Addr} {kvs:List (Key×V)} {A:Around} {E:Value→Shared→Prop}
end
section
variable {X:Cx} {pins:List (Addr×Obj)} {σ:St} {H:Hp} {s:Shared} {a:Addr} {y:V} {u:Value} {A:Around} {E:Value→Shared→Prop}
end
end L2
namespace Att
open PySem PySem.W PySem.Calls PyProof.Rows
theorem SS {P:Params} {h:Heap}:∀ (ns:List Int) (vs:List Value),WellAll P h vs (ns.map WData.int)→IntsAre vs ns:=by
 intro ns
 induction ns with
 | nil =>
  intro vs w;rw [List.map_nil] at w;cases w;exact .nil
 | cons n ns ih =>
  intro vs w;rw [List.map_cons] at w;cases w with
  | cons a b =>
   cases a;exact .cons _ _ (ih _ b)
theorem V5 {l:OpenLaw} {n:Nat} (hn:l.most=some n) {P:Params} {h:Heap} {args:List WData} {vals:List Value}
  (iT:l.row.toRowW.claim.pre args=true) (mQ:WellAll P h vals args) :
  ∃ a vs ns,vals=[Value.ref a]∧args=[WData.list (ns.map WData.int)]∧h.get? a=some { cls:=.type "list",data:=.seq vs.toArray }∧IntsAre vs ns∧ns.length≤n:=by
 have jM:WShape.hasAll [] args [.list .int]=true:=(pre_splitW iT).1;have hc:l.pre.holds [] { args:=args }=true:=(pre_splitW iT).2;obtain ⟨d,r,rfl,h1,h2⟩:=hasAllW_cons jM;obtain rfl:=hasAllW_nil h2;obtain ⟨xs,rfl,h3⟩:=hasW_list h1;obtain ⟨ns,rfl⟩:=items_int h3;have hlen:ns.length≤n:=by
  unfold OpenLaw.pre at hc;have h4:(WTm.not (.lt (.lit (.int (n:Int))) (.len (.arg 0)))).holds [] { args:=[.list (ns.map .int)] }=true:=by
   have h4:=(holds_andW hc).1;rw [hn] at h4;exact h4
  have h5:=condW_of h4 (w_not (w_lt w_lit (w_len_list (w_arg rfl))));rw [List.length_map] at h5;refine Nat.le_of_not_lt fun q=>?_;have q':(n:Int) < ((ns.length:Nat):Int):=by omega
  first
   | (rw [decide_eq_true q'] at h5; exact absurd h5 (by decide))
   | (simp at h5; omega)
 cases mQ with
 | cons w1 w2 =>
  cases w2;cases w1 with
  | list ho jN=>exact ⟨_,_,ns,rfl,rfl,ho,SS ns _ jN,hlen⟩
theorem LC (l:OpenLaw) (args:List WData):l.row.toRowW.claim.post args (.bool true) args=true :=
 postW_of (r:=l.row.toRowW) (X:=(true == true))
  (show WShape.has [] (.bool true) .bool=true by first | rfl | decide | simp [WShape.has,WShape.arms,WShape.armsAll])
  (show (WTm.eq .res (.lit (.bool true))).value [] { args:=args,res:=some (.bool true),after:=args }=some (.bool (true == true)) from w_eq_bool (w_res rfl) w_lit) rfl
theorem Up {l:OpenLaw} {n:Nat} {q:Program} {loose:List Str} {XP:(Str→Option Value)→Heap→Prop} {YP:World→Heap→Prop} {d:DefRec}
  (hn:l.most=some n) (sJ:d.params.defaults=[])
  (call:∀ (w:World) (s₀ s₁:Shared) (mg mb:Str→Option Value) (fa:Addr) (o:Obj) (pm cd doc:Value) (a:Addr) (vs:List Value) (ns:List Int),
   Ground q loose [] XP w s₀ mg mb s₁.heap→YP w s₁.heap →
   s₁.heap.get? fa=some o→o.data=.func (docDef d.name d.params d.body d.scope pm cd doc)→s₁.heap.CodeRec cd d.name→mg d.name=some (.ref fa) →
   s₁.heap.get? a=some { cls:=.type "list",data:=.seq vs.toArray }→IntsAre vs ns→ns.length≤n→s₁.gens=#[] →
   codeAny (model l.prog w) callerA (.call (.ref fa) ⟨[.ref a],[]⟩) (fun r s'=>r=.ok (.ret (.bool true))∧OldK s₁.heap s'.heap∧s'.os=s₁.os∧AllBare s'.gens) s₁) :
  WalkO q loose XP YP l.row.toRowW d [] (fun f vs=>PySem.call f vs):=by
 intro w s₀ s₁ mg mb G Y fa o pm cd doc dV kV ho hd cI hD hmg hg args vals as iT hlay hrd mQ hlo;obtain rfl:dV=.none:=Dflts.none hD sJ;obtain rfl:kV=.none:=Dflts.noKw hD;obtain ⟨a,vs,ns,rfl,rfl,sS,hints,hlen⟩:=V5 hn iT mQ;refine enter_call (codeAny_mono (call w s₀ s₁ mg mb fa o pm cd doc a vs ns G Y ho (fd_plain hd) cI hmg sS hints hlen hg) fun r s' hq=>?_);obtain ⟨rfl,h2,h3,h4⟩:=hq;exact ⟨.inl ⟨.bool true,.bool true,[],rfl,fun _=>rfl,.bool true,LC l _,fun _=>⟨List.Pairwise.nil,fun _ hm=>(nomatch hm)⟩⟩,h2,h3,h4⟩
section
variable {prog:Program} {w:World} {A:Around} {E:Value→Shared→Prop} {s:Shared} {K:Frag}
end
end Att
namespace L2
open PySem PySem.Spec PyProof.Rows
theorem GQ:∀ {vs:List Value} {ns:List Int},IntsAre vs ns→Vals (ns.map V.int) vs
 | _,_,.nil=>.nil
 | _,_,.cons n t h=>.cons ⟨t,rfl⟩ (GQ h)
def rX (H:Hp):Prop:=∀ b,H b=none∨∃ o xs,H b=some (.dY o (.lst xs))
theorem TK {P:Program} {w:World} {K:PySem.W.Frag} {mg mb:Str→Option Value} {CX:dh} {k:Nat} {fa a:Addr} {fd:FuncData} {x:Str} {sp:Sp} {s₁:Shared} {vs:List Value} {ns:List Int}
  (KX:K.In s₁.heap) (fO:s₁.heap.Ns mainGlobals mg) (hb:s₁.heap.Ns builtinsNs mb) (hbb:∀ x:Str,x ≠ "__name__" → mb x=bootBuiltins x) (hlim:s₁.heap.NoLimit) (hg:s₁.gens=#[])
  (ha:s₁.heap.get? a=some { cls:=.type "list",data:=.seq vs.toArray }) (hi:IntsAre vs ns) (hl:ns.length≤sizeLine) (hr:bB k callerA)
  (F:∀ base:Heap,K.In base→base.Ns mainGlobals mg→aA P w K mg base CX k fa fd [x] sp) (hbind:∀ (s:Shared) (u:Value),BindsTo s fd ⟨[u],[]⟩ [(x,u)])
  (fH:∀ H:Hp,rX H→aL K H a (ns.map V.int)→sp [.ref a] H (fun v _=>v=.bl true) fun _ _ _=>False)
  (BB:∀ H e s',CX [] H s₁ (fun _ _ _=>False) e s'→False) :
  codeAny (model P w) callerA (.call (.ref fa) ⟨[.ref a],[]⟩) (fun r s'=>r=.ok (.ret (.bool true))∧OldK s₁.heap s'.heap∧s'.os=s₁.os∧AllBare s'.gens) s₁:=by
 have rv:=GQ hi;have lenV:=hi.length
 -- from an abstract heap in which nothing but gb script may be tracked
 have core:∀ H:Hp,rX H→aL K H a (ns.map V.int)→bS P w H s₁.heap→(∀ b,H b≠none→b=a)→(H a≠none→K.lookup a=none) →
   codeAny (model P w) callerA (.call (.ref fa) ⟨[.ref a],[]⟩) (fun r s'=>r=.ok (.ret (.bool true))∧OldK s₁.heap s'.heap∧s'.os=s₁.os∧AllBare s'.gens) s₁:=by
  intro H hO hS aC hA hK;have JI:∀ {b:Addr} {o:Obj},s₁.heap.get? b=some o→H b=none→(jc s₁.heap H).get? b=some o:=fun e n=>UM e n;have sx:∀ {b:Addr} {o:Obj} {es:Array DictEntry} {ep:Nat},s₁.heap.get? b=some o→o.data=.dict es ep→H b=none:=fun {b o es ep} e d=>by
   cases q:H b with
   | none=>rfl
   | some u =>
    have e':b=a:=hA b (by rw [q]; simp);subst e';rw [ha] at e; cases e;have d':Data.seq vs.toArray _=Data.dict es ep:=d;cases d'
  have vc:∀ {b:Addr} {m:Str→Option Value},s₁.heap.Ns b m→(jc s₁.heap H).Ns b m:=fun {b m} ⟨o,es,ep,e,d,r⟩=>⟨o,es,ep,JI e (sx e d),d,r⟩;have Jc:K.In (jc s₁.heap H):=fun b o e=>JI (KX b o e) (by
   cases q:H b with
   | none=>rfl
   | some u =>
    have e':b=a:=hA b (by rw [q]; simp);subst e';rw [hK (by rw [q]; simp)] at e; cases e)
  have hM:Mod K mg (jc s₁.heap H):=⟨Jc,vc fO,⟨mb,vc hb,hbb⟩,let ⟨mc,h1,h2⟩:=hlim; ⟨mc,vc h1,h2⟩⟩;have e0:kE P w K mg (jc s₁.heap H) callerA [] s₁ H:=⟨rfl,hM,fun b o e=>Ro e,Nat.le_of_eq (UC _ _),trivial,fun b hb=>absurd (show b∈([]:List Addr) from hb) (by simp),aC,.of_eq hg⟩;refine codeAny_mono ((F _ Jc (vc fO)).run callerA [] s₁ H ⟨[.ref a],[]⟩ [.ref a] [.ref a] _ _ hr e0 (hbind s₁ (.ref a)) (.cons rfl .nil) (fH H hO hS)) fun r s' h=>?_;cases r with
  | error e=>exact (BB H e s' h).elim
  | ok fl =>
   cases fl with
   | next=>exact False.elim h
   | brk=>exact False.elim h
   | cont=>exact False.elim h
   | ret u =>
    obtain ⟨v,H',os,bare,un,hok',r',q⟩:=h;have q':v=.bl true:=q;subst q';obtain rfl:u=Value.bool true:=r';refine ⟨rfl,OldK.of_keep fun b o e=>?_,os,bare⟩;cases q:H b with
    | none=>exact un.keep b o e q (by intro z; exact absurd (show b∈([]:List Addr) from z) (by simp)) (by simp)
    | some u =>
     rcases hO b with z | ⟨ob,xs,z⟩
     ·rw [q] at z; cases z
     ·have z2:=un.eZ b ob _ z;obtain ⟨e1,_⟩:=aC b _ z;obtain ⟨e2,_⟩:=hok' b _ z2;rw [e] at e1; cases e1;exact e2
 cases hk:K.lookup a with
 | some o =>
  -- gb script is one of gb module's own objects
  have e:=KX a o hk;rw [ha] at e;cases e;refine core (fun _=>none) (fun _=>.inl rfl) (.inr ⟨_,vs.toArray,_,hk,rfl,rfl,rfl,by rw [List.size_toArray,lenV]; exact hl,by simpa using rv⟩) (fun b u z=>by have z':(none:Option HO)=some u:=z; cases z') (fun b z=>absurd rfl z) fun z=>absurd rfl z
 | none =>
  refine core (fun b=>if b=a then some (.dY { cls:=.type "list",data:=.seq vs.toArray } (.lst (ns.map V.int))) else none) (fun b=>?_) (.inl (.inr ⟨{ cls:=.type "list",data:=.seq vs.toArray },if_pos rfl⟩)) (fun b u z=>?_) (fun b z=>?_) fun _=>hk
  ·by_cases hb:b=a
   ·exact .inr ⟨_,_,if_pos hb⟩
   ·exact .inl (if_neg hb)
  ·by_cases hb:b=a
   ·have z':=(if_pos hb).symm.trans z;cases z';subst hb;exact ⟨ha,by rw [List.length_map]; exact hl,vs,_,rv,ha⟩
   ·have z':=(if_neg hb).symm.trans z;cases z'
  ·by_cases hb:b=a
   ·exact hb
   ·exact absurd (if_neg hb) z
end L2
namespace L2
open PySem PySem.Spec PyProof.Rows
abbrev Wu {K:PySem.W.Frag} {h:Heap} (_:K.In h):PySem.W.Frag:=K
theorem PX {l:PySem.W.OpenLaw} {n k:Nat} {q:Program} {loose:List Str} {XP:(Str→Option Value)→Heap→Prop} {YP:World→Heap→Prop} {d:DefRec} {K:Params→PySem.W.Frag} {CX:World→dh} {sp:World→Sp} {x:Str}
  (hn:l.most=some n) (hJ:n≤sizeLine) (sJ:d.params.defaults=[]) (hr:bB k callerA)
  (hY:∀ (w:World) (h:Heap),YP w h→(K w.params).In h)
  (F:∀ (w:World) (mg:Str→Option Value) (fa:Addr) (h:Heap),(K w.params).In h→h.Ns mainGlobals mg→mg d.name=some (.ref fa) →
   ∃ fd:FuncData,(∀ (s:Shared) (u:Value),BindsTo s fd ⟨[u],[]⟩ [(x,u)]) ∧
    ∀ base:Heap,(K w.params).In base→base.Ns mainGlobals mg→aA l.prog w (K w.params) mg base (CX w) k fa fd [x] (sp w))
  (fH:∀ (w:World) (H:Hp) (a:Addr) (ns:List Int),ns.length≤n→rX H→aL (K w.params) H a (ns.map V.int)→sp w [.ref a] H (fun v _=>v=.bl true) fun _ _ _=>False)
  (BB:∀ (w:World) (H:Hp) (s:Shared) (e:Value) (s':Shared),CX w [] H s (fun _ _ _=>False) e s'→False) :
  PySem.W.WalkO q loose XP YP l.row.toRowW d [] (fun f vs=>PySem.call f vs):=by
 refine Att.Up hn sJ fun w s₀ s₁ mg mb fa o pm cd doc a vs ns G Y ho hd cI hmg sS hints hlen hg=>?_;have KX:=hY w _ Y;obtain ⟨fd,hb,hF⟩:=F w mg fa _ KX G.T.g hmg;exact TK KX G.T.g G.T.b G.T.builtins G.T.nolimit hg sS hints (Nat.le_trans hlen hJ) hr hF hb (fun H hO hS=>fH w H a ns hlen hO hS) fun H e s'=>BB w H s₁ e s'
end L2
namespace L2
open PySem PySem.Spec PyProof.Rows
def inClass (s:Stmt) (j:Nat):Stmt:=match s with
 | .ClassDef _ _ _ body _ _ _ _ _ _ _=>body.getD j (.Pass ⟨0,0,0,0⟩)
 | _=>.Pass ⟨0,0,0,0⟩
def dZ (s:Stmt):Arguments:=match s with
 | .FunctionDef _ a _ _ _ _ _ _ _ _=>a
 | _=>{ posonlyargs:=[],args:=[],vararg:=none,kwonlyargs:=[],kw_defaults:=[],kwarg:=none,defaults:=[] }
def aU (s:Stmt):List Stmt:=match s with
 | .FunctionDef _ _ b _ _ _ _ _ _ _=>b
 | _=>[]
def aB (s:Stmt):Scope:=match s with
 | .FunctionDef _ _ _ _ _ _ sc _ _ _=>sc
 | _=>{ kind:=.function,names:=[],isGenerator:=false,isCoroutine:=false }
abbrev aO:dh:=fun _ _ _ _ _ _=>False
abbrev E0:XK:=fun _ _ _=>False
theorem aw {X:Cx}:Passes aO X E0:=fun _ _ _ _ _ _ _ h=>h.elim
structure iq (K:PySem.W.Frag) (x qual:Str) (st:Stmt) (f:Addr) (fd:FuncData):Prop where
 ex:∃ (oc:Value) (od:Option Addr) (kV doc pm:Value) (an:Option Addr) (az ct:Value) (c8:Array (Option Value)),
  fd=PySem.W.fnOf x qual (dZ st) (aU st) (aB st) .none kV doc pm an az ct∧K.lookup f=some ⟨oc,od,.func fd,c8⟩∧PySem.W.codeIn K az qual=true
 kp:PySem.W.keepIn K (.ref f)=true
section
variable {P:Program} {w:World} {K:PySem.W.Frag} {mg:Str→Option Value} {base:Heap}
theorem iq.ok {x qual:Str} {st:Stmt} {f:Addr} {fd:FuncData} {N ps:List Str} {k:Nat} {sp:Sp} (F:iq K x qual st f fd) (S:aH N ps (aB st)) (len:∀ vs H Q E,sp vs H Q E→vs.length=ps.length)
  (AN:∀ (az:Value) (A:Around) (outer:List Env) (s:Shared) (H:Hp) (vs:List V) (Q:VK) (E:XK),bB k (A.deeper (envOfC qual (aB st) s.heap.objs.size f az))→sp vs H Q E →
   ∃ t,cT (fX aO P w K mg base N qual (aB st) f az A outer s H E).nN (aU st) t∧t { nx:=fun _ H'=>Q .ax H',rt:=Q } (start N vs) H):aA P w K mg base aO (k+1) f fd ps sp:=by
 obtain ⟨oc,od,kV,doc,pm,an,az,ct,c8,rfl,lk,cI⟩:=F.ex;refine yk lk cI S len fun A outer s H vs Q E hr fH=>?_;obtain ⟨t,h,q⟩:=AN az A outer s H vs Q E hr fH;exact ⟨t,h.nN,q⟩
theorem iq.binds {x qual:Str} {st:Stmt} {f:Addr} {fd:FuncData} {ps:List Str} (F:iq K x qual st f fd)
  (h:∀ (kV doc pm:Value) (an:Option Addr) (az ct:Value) (us:List Value),us.length=ps.length→bindArgs (PySem.W.fnOf x qual (dZ st) (aU st) (aB st) .none kV doc pm an az ct) ⟨us,[]⟩=pure (ps.zip us)):Binds K fd ps []:=by
 obtain ⟨oc,od,kV,doc,pm,an,az,ct,c8,rfl,lk,cI⟩:=F.ex;exact .all (h kV doc pm an az ct)
theorem zX {x qual:Str} {st:Stmt} {f:Addr} {oc:Value} {od an:Option Addr} {c8:Array (Option Value)} {kV doc pm az ct:Value} (l:K.lookup f=some ⟨oc,od,.func (PySem.W.fnOf x qual (dZ st) (aU st) (aB st) .none kV doc pm an az ct),c8⟩)
  (c:PySem.W.codeIn K az qual=true) (k:PySem.W.keepIn K (.ref f)=true):iq K x qual st f (PySem.W.fnOf x qual (dZ st) (aU st) (aB st) .none kV doc pm an az ct):=⟨⟨oc,od,kV,doc,pm,an,az,ct,c8,rfl,l,c⟩,k⟩
end
theorem en {A:Around} {k:Nat} (hr:bB k A):A.units+1 < cLine:=Nat.lt_of_le_of_lt (Nat.add_le_add_left (by decide:1≤64) _) hr.units
theorem Co {n:Nat} (h:n≤1000):n < sizeLine:=Nat.lt_of_le_of_lt h (by decide)
section
variable {X:Cx}
theorem pv (i:Nat) {x:Str} {pos:Pos} (hN:X.N[i]?=some x:=by rfl) (hv:pX X.env.scope x:=by first | exact Or.inl rfl | exact Or.inr (Or.inl rfl) | exact Or.inr (Or.inr rfl)) (hd:(x == ("__debug__" : Str))=false:=by decide)
  (cI:(x == ("__classdict__" : Str))=false:=by decide):PE X (.Name x pos) (Hn i):=Fy hN hv hd cI
end
theorem bf {A B:Prop} (h:B):if false=true then A else B:=by
 rw [if_neg Bool.false_ne_true];exact h
theorem bM {A B:Prop} (h:A):if true=true then A else B:=by
 rw [if_pos rfl];exact h
theorem i8 {c A B:Prop} [Decidable c] (h1:c→A) (h2:¬ c→B):if c then A else B:=by
 by_cases h:c
 ·rw [if_pos h];exact h1 h
 ·rw [if_neg h];exact h2 h
def ai (H H':Hp):Prop:=∀ b o,H b=some o→H' b=some o
theorem ai.refl (H:Hp):ai H H:=fun _ _ h=>h
theorem ai.trans {H H1 H2:Hp} (a:ai H H1) (b:ai H1 H2):ai H H2:=fun c o h=>b c o (a c o h)
theorem ai.free {H H':Hp} (e:ai H H') {l:Addr} (h:H' l=Option.none):H l=Option.none:=by
 cases q:H l with
 | none=>rfl
 | some o =>
  rw [e l o q] at h;cases h
theorem ai.seq {K:PySem.W.Frag} {H H':Hp} {a:Addr} {xs:List V} (e:ai H H') (h:aL K H a xs):aL K H' a xs:=by
 rcases h with (h | ⟨o,h⟩) | h
 ·exact .inl (.inl (e _ _ h))
 ·exact .inl (.inr ⟨o,e _ _ h⟩)
 ·exact .inr h
end L2
namespace L2
open PySem PySem.Spec PyProof.Rows
section
variable {X:Cx}
end
end L2
namespace L2
open PySem PySem.Spec PyProof.Rows
section
variable {κ:Type} [DecidableEq κ]
end
end L2
namespace Tx
open PySem PySem.Builtin PySem.Builtin.Str PySem.StrLaws
def S (l:List Nat):Str:=⟨l.toArray⟩
theorem iP (l:List Nat):(S l).cps.toList=l:=by simp [S]
theorem zj (s:Str):S s.cps.toList=s:=by cases s; simp [S]
theorem bY (l:List Nat):(S l).length=l.length:=by simp [S,Str.length]
theorem qZ {a b:List Nat} (h:S a=S b):a=b:=by
 have:=congrArg (fun s=>s.cps.toList) h
 simpa [iP] using this
theorem nW (a b:List Nat):S a++S b=S (a++b):=by
 apply Str.ext';rw [Str.cps_append];simp [S]
theorem kz (c:Nat):(S [c]).length=1:=by rw [bY]; rfl
theorem subAt_one (x:List Nat) (c i:Nat) (h:i < x.length):subAt (S x) (S [c]) i=decide (x[i]?=some c):=by
 rw [subAt_eq,iP,iP,kz];rw [List.drop_eq_getElem_cons h,List.take_succ_cons,List.take_zero,List.getElem?_eq_getElem h];by_cases e:x[i]=c
 ·simp [e]
 ·simp [e]
theorem Uh (x:List Nat) (c:Nat):(!(occurrences (S x) (S [c]) 0 (S x).length 1).isEmpty)=x.contains c:=by
 rw [Bool.eq_iff_iff,found_iff,kz,bY];constructor
 ·rintro ⟨i,h1,h2⟩;rw [subAt_one x c i (by omega)] at h2;have h3:=of_decide_eq_true h2;exact List.elem_iff.mpr (List.mem_of_getElem? h3)
 ·intro h;obtain ⟨i,hi,e⟩:=List.getElem_of_mem (List.elem_iff.mp h);refine ⟨i,by omega,?_⟩;rw [subAt_one x c i hi,List.getElem?_eq_getElem hi,e];simp
def cut (c:Nat):List Nat→List (List Nat)
 | []=>[[]]
 | a::r=>if a=c then []::cut c r else match cut c r with
  | []=>[[a]]
  | h::t=>(a::h)::t
theorem TB (c:Nat):∀ l,cut c l≠[]
 | []=>by simp [cut]
 | a::r=>by
  unfold cut;split
  ·simp
  ·split <;> simp
def cz (c:Nat):Nat→List Nat→List Nat
 | _,[]=>[]
 | k,a::r=>if a=c then k::cz c (k+1) r else cz c (k+1) r
theorem HV (c:Nat):∀ (l:List Nat) (k j:Nat),cz c (k+j) l=(cz c k l).map (· + j)
 | [],_,_=>rfl
 | a::r,k,j=>by
  unfold cz;have e:k+j+1=(k+1)+j:=by omega
  rw [e,HV c r (k+1) j];split <;> simp
theorem yX (x:List Nat) (c limit:Nat):∀ (l:List Nat) (k:Nat) (acc:Array Nat) (free:Nat),x.drop k=l→free≤k→acc.size+l.length < limit→k≤x.length →
  (forIn (List.range' k (x.length+1 - k)) (acc,free) (occBody (S x) (S [c]) x.length limit)).run.fst.toList=acc.toList++cz c k l
 | [],k,acc,free,hd,hf,hl,hk=>by
  have hk2:k=x.length:=by
   have:=congrArg List.length hd;simp at this;omega
  have e:x.length+1 - k=1:=by omega
  have e1:List.range' k 1=[k]:=rfl;rw [e,e1,List.forIn_cons];unfold occBody;have hc:¬ (((((acc,free):Array Nat×Nat).fst.size < limit∧((acc,free):Array Nat×Nat).snd≤k)∧k+(S [c]).length≤x.length)∧subAt (S x) (S [c]) k=true):=by
   rw [kz];rintro ⟨⟨_,h⟩,_⟩;omega
  rw [if_neg hc];simp [cz]
 | a::r,k,acc,free,hd,hf,hl,hk=>by
  have bV:k < x.length:=by
   have:=congrArg List.length hd;simp at this;omega
  have e:x.length+1 - k=(x.length+1 - (k+1))+1:=by omega
  have hx:x[k]?=some a:=by
   have h1:(x.drop k)[0]?=some a:=by rw [hd]; rfl
   rw [List.getElem?_drop] at h1
   simpa using h1
  have hr:x.drop (k+1)=r:=by
   rw [← List.drop_drop,hd]; rfl
  rw [e,List.range'_succ,List.forIn_cons];unfold occBody;simp only [List.length_cons] at hl;by_cases gf:a=c
  ·have hc:(((((acc,free):Array Nat×Nat).fst.size < limit∧((acc,free):Array Nat×Nat).snd≤k)∧k+(S [c]).length≤x.length)∧subAt (S x) (S [c]) k=true):=by
    rw [kz,subAt_one x c k bV,hx,gf];refine ⟨⟨⟨?_,hf⟩,by omega⟩,by simp⟩;show acc.size < limit;omega
   rw [if_pos hc];have ih:=yX x c limit r (k+1) (acc.push k) (k+(S [c]).length) hr (by rw [kz]; omega) (by simp; omega) (by omega);refine Eq.trans ih ?_;rw [show cz c k (a::r)=k::cz c (k+1) r from if_pos gf];simp
  ·have hc:¬ (((((acc,free):Array Nat×Nat).fst.size < limit∧((acc,free):Array Nat×Nat).snd≤k)∧k+(S [c]).length≤x.length)∧subAt (S x) (S [c]) k=true):=by
    rw [subAt_one x c k bV,hx];rintro ⟨_,h⟩;exact gf (Option.some.inj (of_decide_eq_true h))
   rw [if_neg hc];have ih:=yX x c limit r (k+1) acc free hr (by omega) (by omega) (by omega);refine Eq.trans ih ?_
   conv=>rhs; unfold cz
   rw [if_neg gf]
theorem zy (x:List Nat) (c:Nat):occurrences (S x) (S [c]) 0 (S x).length ((S x).length+1)=cz c 0 x:=by
 rw [occ_eq,bY];have h:=yX x c (x.length+1) x 0 #[] 0 rfl (Nat.le_refl _) (by simp) (Nat.zero_le _);rw [h];simp
def pieces (l:List Nat) (ps:List Nat):List (List Nat):=((0::ps.map (· + 1)).zip (ps++[l.length])).map fun p=>(l.drop p.1).take (p.2 - p.1)
theorem qU (c:Nat):∀ l:List Nat,pieces l (cz c 0 l)=cut c l
 | []=>rfl
 | a::r=>by
  have ih:=qU c r;have sh:cz c (0+1) r=(cz c 0 r).map (· + 1):=HV c r 0 1;have tail:∀ (A B:List Nat),((A.map (· + 1)).zip (B.map (· + 1))).map (fun p:Nat×Nat=>((a::r).drop p.1).take (p.2 - p.1))=(A.zip B).map (fun p:Nat×Nat=>(r.drop p.1).take (p.2 - p.1)):=fun A B=>by
   rw [List.zip_map,List.map_map];refine List.map_congr_left fun p _=>?_;show ((a::r).drop (p.1+1)).take (p.2+1 - (p.1+1))=_;rw [List.drop_succ_cons]
   congr 1
   omega
  unfold pieces at ih ⊢;unfold cz cut;rw [sh];by_cases h:a=c
  ·rw [if_pos h,if_pos h];have e1:(0::(0::(cz c 0 r).map (· + 1)).map (· + 1))=0::((0::(cz c 0 r).map (· + 1)).map (· + 1)):=rfl;have e2:(0::(cz c 0 r).map (· + 1))++[(a::r).length]=0::((cz c 0 r++[r.length]).map (· + 1)):=by simp
   rw [e1,e2,List.zip_cons_cons,List.map_cons,tail,ih];simp
  ·rw [if_neg h,if_neg h];have e2:(cz c 0 r).map (· + 1)++[(a::r).length]=(cz c 0 r++[r.length]).map (· + 1):=by simp
   rw [e2];generalize hB:cz c 0 r++[r.length]=B at ih;cases B with
   | nil=>simp at hB
   | cons b B' =>
    rw [List.zip_cons_cons,List.map_cons] at ih;rw [← ih];rw [List.map_cons (l:=B'),List.zip_cons_cons,List.map_cons,tail];simp
theorem SA (x:List Nat) (i j:Nat):strSub (S x) i j=S ((x.drop i).take (j - i)):=by
 rw [← zj (strSub (S x) i j),strSub_toList,iP]
theorem zD (x:List Nat) (ps:List Nat):partsBetween (S x) ps 1=(pieces x ps).map S:=by
 unfold partsBetween pieces;rw [List.map_map,bY];refine List.map_congr_left fun p _=>?_;exact SA x p.1 p.2
theorem CB (c:Nat):∀ l:List Nat,cz c 0 l=[]→cut c l=[l]
 | l,h=>by
  have:=qU c l;rw [h] at this;rw [← this];simp [pieces]
theorem GW (x:List Nat) (c:Nat) (hc:c < 256):Txt.split (S x) (S [c])=(cut c x).map S:=by
 unfold Txt.split;rw [zy,kz,zD,qU];have nop:∀ k,¬ c∈x→cz c k x=[]:=by
  intro k
  induction x generalizing k with
  | nil=>intro _; rfl
  | cons a r ih =>
   intro hm;unfold cz;rw [if_neg (fun e=>hm (by simp [e]))];exact ih (k+1) fun m=>hm (List.mem_cons_of_mem _ m)
 by_cases h1:(decide ((S x).length < 1) || decide (PySem.Builtin.Str.strKind (S x) < PySem.Builtin.Str.strKind (S [c])))=true
 ·rw [if_pos h1];have hx:cz c 0 x=[]:=by
   refine nop 0 fun m=>?_;rw [bY] at h1;have hk:PySem.Builtin.Str.strKind (S [c])=1:=by unfold PySem.Builtin.Str.strKind S; simp [hc]
   rw [hk] at h1;have hp:¬ x.length < 1:=by cases x with | nil=>simp at m | cons _ _=>simp
   have hq:¬ PySem.Builtin.Str.strKind (S x) < 1:=by unfold PySem.Builtin.Str.strKind; split <;> (try split) <;> omega
   simp [hp,hq] at h1
  rw [CB c x hx]; rfl
 ·rw [if_neg h1];by_cases h2:(cz c 0 x).isEmpty=true
  ·rw [if_pos h2];rw [CB c x (List.isEmpty_iff.mp h2)]; rfl
  ·rw [if_neg h2]
end Tx
namespace L2
open PySem PySem.Spec PyProof.Rows
def noStar:Expr→Bool
 | .Starred _ _=>false
 | _=>true
theorem eG {e:Expr} {es:List Expr} {env:Env} (h:noStar e=true):starEach (e::es) env=(false,eval e env)::starEach es env:=by
 cases e <;> first | rfl | cases h
theorem gq {pos:Pos} {env:Env}:∀ {es:List Expr},es.all noStar=true→(backTo pos (starEach es env)).any (·.1)=false
 | [],_=>rfl
 | e::es,h=>by
  rw [List.all_cons,Bool.and_eq_true] at h;rw [eG h.1];have ih:=gq (pos:=pos) (env:=env) h.2;show ((false || (backTo pos (starEach es env)).any (·.1)))=false;rw [ih];rfl
theorem wW {pos:Pos} {env:Env}:∀ {es:List Expr},es.all noStar=true→(backTo pos (starEach es env)).all (fun x=>!x.1)=true
 | [],_=>rfl
 | e::es,h=>by
  rw [List.all_cons,Bool.and_eq_true] at h;rw [eG h.1];have ih:=wW (pos:=pos) (env:=env) h.2;show ((true && (backTo pos (starEach es env)).all (fun x=>!x.1)))=true;rw [ih];rfl
section
variable {X:Cx}
theorem VJ {e:Expr} {es:List Expr} {te:TE} {t:TA} (ha:PE X e te) (hr:PA X es t) (hs:noStar e=true:=by rfl):PA X (e::es) (gO te t):=K2 ha hr (eG hs)
theorem Mb {CX:dh} {k:Nat} {f:Addr} {fd:FuncData} {ps:List Str} {sp:Sp} {bp:List V} {ds:List Value} {E:XK} {x:Str} {p pos:Pos} {e:Expr} {es:List Expr} {t:TA}
  (F:aA X.prog X.w X.K X.mg X.base CX k f fd ps sp) (hr:bB k X.A) (hg:Gl X x) (hm:X.mg x=some (.ref f)) (hk:PySem.W.keepIn X.K (.ref f)=true) (hb:Binds X.K fd ps ds) (hd:Vals bp ds) (hx:Passes CX X E)
  (ha:PA X (e::es) t) (hs:(e::es).all noStar=true:=by rfl) (bF:(x == ("__debug__" : Str))=false:=by decide):PE X (.Call (.Name x p) (e::es) [] pos) (tQ sp bp E t):=by
 have hs':=hs;rw [List.all_cons,Bool.and_eq_true] at hs';exact Tw F hr hg hm hk hb hd hx ha bF (eG hs'.1) (gq hs'.2)
theorem QZ {x:Str} {p pos:Pos} {e:Expr} {es:List Expr} {t:TA} {id:String} {r:List V→Hp→VK→Prop} (hc:cE X (.builtin id) r) (hg:Gl X x) (hm:X.mg x=none) (hv:bootBuiltins x=some (.builtin id)) (ha:PA X (e::es) t)
  (hs:(e::es).all noStar=true:=by rfl) (hn:x ≠ "__name__" := by decide) (bF:(x == ("__debug__" : Str))=false:=by decide):PE X (.Call (.Name x p) (e::es) [] pos) (l8 r t):=by
 have hs':=hs;rw [List.all_cons,Bool.and_eq_true] at hs';exact Lu hc hg hm hv ha hn bF (eG hs'.1) (gq hs'.2)
theorem Lq {x:Str} {p pos:Pos} {e:Expr} {es:List Expr} {t:TA} {T:String} {r:List V→Hp→VK→Prop} (hc:cE X (.type T) r) (hg:Gl X x) (hm:X.mg x=none) (hv:bootBuiltins x=some (.type T)) (ha:PA X (e::es) t)
  (hs:(e::es).all noStar=true:=by rfl) (hn:x ≠ "__name__" := by decide) (bF:(x == ("__debug__" : Str))=false:=by decide):PE X (.Call (.Name x p) (e::es) [] pos) (l8 r t):=by
 have hs':=hs;rw [List.all_cons,Bool.and_eq_true] at hs';exact LA hc hg hm hv ha hn bF (eG hs'.1) (gq hs'.2)
end
end L2
namespace L2
open PySem PySem.Spec PyProof.Rows
section
variable {X:Cx}
theorem PE.imp {e:Expr} {t t':TE} (h:PE X e t) (i:∀ σ H Q,t' σ H Q→t σ H Q):PE X e t':=fun pins s σ H Q I hw=>h pins s σ H Q I (i σ H Q hw)
theorem PS.imp {e:Stmt} {t t':TS} (h:PS X e t) (i:∀ D σ H,t' D σ H→t D σ H):PS X e t':=fun pins s σ H D I hw=>h pins s σ H D I (i D σ H hw)
theorem bc.imp {f:Value→Value→Sem Value} {r r':R2} (h:bc X f r) (i:∀ x y H Q,r' x y H Q→r x y H Q):bc X f r':=fun pins s σ H x y v u Q I rx ry q=>h pins s σ H x y v u Q I rx ry (i x y H Q q)
theorem cE.imp {f:Value} {r r':List V→Hp→VK→Prop} (h:cE X f r) (i:∀ xs H Q,r' xs H Q→r xs H Q):cE X f r':=fun pins s σ H xs us Q I rx q=>h pins s σ H xs us Q I rx (i xs H Q q)
def lV (i:Nat):TE:=fun σ H Q=>match σ[i]? with
 | some (some v)=>Q v H
 | _=>False
theorem qv (i:Nat) {x:Str} {pos:Pos} (hN:X.N[i]?=some x:=by rfl) (hv:pX X.env.scope x:=by first | exact Or.inl rfl | exact Or.inr (Or.inl rfl) | exact Or.inr (Or.inr rfl)) (hd:(x == ("__debug__" : Str))=false:=by decide)
  (cI:(x == ("__classdict__" : Str))=false:=by decide):PE X (.Name x pos) (lV i):=(Fy hN hv hd cI).imp fun σ H Q h=>by
 unfold lV at h;split at h
 ·rename_i v e;exact ⟨v,e,h⟩
 ·exact h.elim
def wX:R2:=fun x y H Q=>match x,y with
 | .int i,.int j=>Q (.int (i+j)) H
 | .str a,.str b=>a.length+b.length≤sizeLine∧Q (.str (a++b)) H
 | .ref l,.ref b=>match H l,H b with
  | some (.lst xs),some (.lst zs)=>xs.length+zs.length≤sizeLine∧∀ p,H p=none→Q (.ref p) (upd H p (.lst (xs++zs)))
  | _,_=>False
 | _,_=>False
theorem ee:bc X (binaryOp .Add) wX:=(Mo.or (TX.or KJ)).imp fun x y H Q h=>by
 unfold wX at h;split at h
 ·exact .inl ⟨_,_,rfl,rfl,h⟩
 ·exact .inr (.inl ⟨_,_,rfl,rfl,h.1,h.2⟩)
 ·split at h
  ·rename_i xs zs h1 h2;exact .inr (.inr ⟨_,_,xs,zs,rfl,rfl,h1,h2,h.1,h.2⟩)
  ·exact h.elim
 ·exact h.elim
def bG (K:PySem.W.Frag) (H:Hp) (p:Addr) (R:List V→Prop):Prop:=match H p with
 | some (.lst xs)=>R xs
 | some (.tup xs)=>R xs
 | _=>∃ xs,(aL K H p xs∨bW K H p xs)∧R xs
theorem zW {K:PySem.W.Frag} {H:Hp} {p:Addr} {R:List V→Prop} (h:bG K H p R):∃ xs,(aL K H p xs∨bW K H p xs)∧R xs:=by
 unfold bG at h;split at h
 ·rename_i xs e;exact ⟨xs,.inl (aL.of e),h⟩
 ·rename_i xs e;exact ⟨xs,.inr (bW.of e),h⟩
 ·exact h
def u9 (K:PySem.W.Frag) (H:Hp) (p:Addr) (R:List V→Prop):Prop:=∃ xs,aL K H p xs∧R xs
theorem xY {K:PySem.W.Frag} {H:Hp} {p:Addr} {R:List V→Prop} (h:u9 K H p R):∃ xs,aL K H p xs∧R xs:=h
def rB (C:Int→Int→Prop) (f:Int→Int→Int):R2:=fun x y H Q=>match x,y with
 | .int i,.int j=>C i j∧Q (.int (f i j)) H
 | _,_=>False
theorem EU {C:Int→Int→Prop} {f:Int→Int→Int} {x y:V} {H:Hp} {Q:VK} (h:rB C f x y H Q):rI C (fun i j=>.int (f i j)) x y H Q:=by
 unfold rB at h;split at h
 ·exact ⟨_,_,rfl,rfl,h.1,h.2⟩
 ·exact h.elim
theorem kx:bc X (binaryOp .Mod) (rB (fun _ j=>0 < j) fun i j=>i % j):=Qs.imp fun _ _ _ _ h=>EU h
theorem xp:bc X (binaryOp .FloorDiv) (rB G7 fun i j=>i / j):=Vp.imp fun _ _ _ _ h=>EU h
def oK (neg:Bool):R2:=fun x y H Q=>match x,y with
 | .int i,.int j=>Q (.bl (neg ^^ decide (i=j))) H
 | .str i,.str j=>Q (.bl (neg ^^ decide (i=j))) H
 | .bl i,.bl j=>Q (.bl (neg ^^ decide (i=j))) H
 | _,_=>u3 x y=true∧Q (.bl (neg ^^ decide (x=y))) H
theorem Gm (i j:Int):decide (V.int i=V.int j)=decide (i=j):=by by_cases h:i=j <;> simp [h]
theorem C7 (i j:Str):decide (V.str i=V.str j)=decide (i=j):=by by_cases h:i=j <;> simp [h]
theorem Hi (i j:Bool):decide (V.bl i=V.bl j)=decide (i=j):=by by_cases h:i=j <;> simp [h]
theorem RA:bc X (compareOp .Eq) (oK false):=PJ.imp fun x y H Q h=>by
 unfold oK at h;simp only [Bool.false_bne] at h;split at h
 ·exact ⟨rfl,by rw [Gm]; exact h⟩
 ·exact ⟨rfl,by rw [C7]; exact h⟩
 ·exact ⟨rfl,by rw [Hi]; exact h⟩
 ·exact h
theorem QL:bc X (compareOp .NotEq) (oK true):=N1.imp fun x y H Q h=>by
 unfold oK at h;simp only [Bool.true_bne] at h;split at h
 ·exact ⟨rfl,by rw [Gm]; exact h⟩
 ·exact ⟨rfl,by rw [C7]; exact h⟩
 ·exact ⟨rfl,by rw [Hi]; exact h⟩
 ·exact h
def ie (f:Int→Int→Bool):R2:=fun x y H Q=>match x,y with
 | .int i,.int j=>Q (.bl (f i j)) H
 | _,_=>False
theorem Af {f:Int→Int→Bool} {x y:V} {H:Hp} {Q:VK} (h:ie f x y H Q):lU (fun i j=>.bl (f i j)) x y H Q:=by
 unfold ie at h;split at h
 ·exact ⟨_,_,rfl,rfl,h⟩
 ·exact h.elim
theorem C3:bc X (compareOp .Lt) (ie fun i j=>decide (i < j)):=Nu.imp fun _ _ _ _ h=>Af h
theorem oR:bc X (compareOp .LtE) (ie fun i j=>decide (i≤j)):=Ml.imp fun _ _ _ _ h=>Af h
theorem tR:bc X (compareOp .Gt) (ie fun i j=>decide (j < i)):=ND.imp fun _ _ _ _ h=>Af h
def uQ (K:PySem.W.Frag):R2:=fun x y H Q=>match x,y with
 | .str i,.str j=>Q (.bl (!(Builtin.Str.occurrences j i 0 j.length 1).isEmpty)) H
 | _,.ref p=>bG K H p fun xs=>cw x=true∧xs.all cw=true∧Q (.bl (fU x xs)) H
 | _,_=>False
theorem Se:bc X (compareOp .In) (uQ X.K):=(Mh.or D5).imp fun x y H Q h=>by
 unfold uQ at h;split at h
 ·exact .inl ⟨_,_,rfl,rfl,h⟩
 ·obtain ⟨xs,h1,h2,h3,h4⟩:=zW h;exact .inr ⟨_,xs,rfl,h1,h2,h3,h4⟩
 ·exact h.elim
def kh (t:TE):TT:=fun σ H Q=>t σ H fun x H'=>match x with
 | .bl k=>Q k H'
 | _=>False
theorem vW {x:V} {H:Hp} {Q:Bool→Hp→Prop} (h:(match x with | .bl k=>Q k H | _=>False)):∃ k,x=.bl k∧Q k H:=by
 split at h
 ·exact ⟨_,rfl,h⟩
 ·exact h.elim
theorem VU {op:CmpOp} {r:R2} {a b:Expr} {ta tb:TE} {pos:Pos} (ho:bc X (compareOp op) r) (ha:PE X a ta) (hb:PE X b tb) (hm:behindInMarks op b=false:=by first | exact tK _ (by decide) (by decide) | rfl) :
  PT X (.Compare a [op] [b] pos) (kh (gN r ta tb)):=by
 intro pins s σ H Q I h;refine wpAny_isTrue_Compare1 ?_ hm;refine aE (ha pins s σ H _ I h) fun v s1 ⟨x,H1,I1,r1,q1⟩=>aE (hb pins s1 σ H1 _ I1 q1) fun u s2 ⟨y,H2,I2,r2,q2⟩=>?_;refine aE (ho pins s2 σ H2 x y v u _ I2 r1 r2 q2) fun c s3 ⟨z,H3,I3,r3,q3⟩=>?_;obtain ⟨k,rfl,q⟩:=vW q3;cases r3;exact wpAny_truthy_bool ⟨H3,I3,q⟩
theorem Nf {e:Expr} {t:TE} (h:PE X e t) (he:∀ whole,isTrue e X.env whole=(do let v ← whole; standAt e.pos; holding [v] (truthy v)):=by intro _; rfl):PT X e (kh t):=by
 intro pins s σ H Q I hw;refine isTrue_plain (aE (h pins s σ H _ I hw) fun v s1 ⟨x,H1,I1,r1,q1⟩=>?_) (he _);obtain ⟨d,rfl,q⟩:=vW q1;cases r1;exact wpAny_truthy_bool ⟨H1,I1,q⟩
def yj (f g:Int→Int→Bool) (ta tb tc:TE):TT:=fun σ H Q=>ta σ H fun x H1=>tb σ H1 fun y H2=>match x,y with
 | .int i,.int j=>if f i j=true then tc σ H2 fun z H3=>(match z with | .int k=>Q (g j k) H3 | _=>False) else Q false H2
 | _,_=>False
def zm (ta tb:TE):TE:=fun σ H Q=>ta σ H fun x H1=>match x with
 | .bl c=>if c=true then tb σ H1 Q else Q (.bl false) H1
 | _=>False
def zp (ta tb:TE):TE:=fun σ H Q=>ta σ H fun x H1=>match x with
 | .bl c=>if c=true then Q (.bl true) H1 else tb σ H1 Q
 | _=>False
def yO (ta:TE):TE:=fun σ H Q=>ta σ H fun x H1=>match x with
 | .bl c=>Q (.bl (!c)) H1
 | _=>False
variable {a b:Expr} {ta tb:TE} {pos:Pos} {rest:List Expr}
theorem O8 (ha:PE X a ta) (hb:PE X (.BoolOp .And (b::rest) pos) tb):PE X (.BoolOp .And (a::b::rest) pos) (zm ta tb):=by
 intro pins s σ H Q I h;refine BoolOp_and (aE (ha pins s σ H _ I h) fun v s1 ⟨x,H1,I1,r1,q1⟩=>?_);have q1':∃ c,x=.bl c∧if c=true then tb σ H1 Q else Q (.bl false) H1:=by
  dsimp only at q1;split at q1
  ·exact ⟨_,rfl,q1⟩
  ·exact q1.elim
 obtain ⟨c,rfl,q1⟩:=q1';cases r1;refine wpAny_truthy_bool ?_;cases c with
 | true=>exact hb pins s1 σ H1 Q I1 q1
 | false=>exact ⟨.bl false,H1,I1,rfl,q1⟩
theorem PU (ha:PE X a ta) (hb:PE X (.BoolOp .Or (b::rest) pos) tb):PE X (.BoolOp .Or (a::b::rest) pos) (zp ta tb):=by
 intro pins s σ H Q I h;refine BoolOp_or (aE (ha pins s σ H _ I h) fun v s1 ⟨x,H1,I1,r1,q1⟩=>?_);have q1':∃ c,x=.bl c∧if c=true then Q (.bl true) H1 else tb σ H1 Q:=by
  dsimp only at q1;split at q1
  ·exact ⟨_,rfl,q1⟩
  ·exact q1.elim
 obtain ⟨c,rfl,q1⟩:=q1';cases r1;refine wpAny_truthy_bool ?_;cases c with
 | false=>exact hb pins s1 σ H1 Q I1 q1
 | true=>exact ⟨.bl true,H1,I1,rfl,q1⟩
def uR:V→Value
 | .ty n=>.type n
 | .ref a=>.ref a
 | _=>.none
theorem TV:cE X (.builtin "isinstance") (fun xs H Q=>∃ x cV t b,xs=[x,cV]∧((∃ n,cV=.ty n)∨∃ a,cV=.ref a)∧eK X.K H x t∧PySem.W.kitOne X.K t (uR cV)=some b∧Q (.bl b) H):=by
 intro pins s σ H xs us Q I r h;obtain ⟨x,cV,t,b,rfl,hc,ty,e,q⟩:=h;obtain ⟨u,c',rfl,ru,rc'⟩:=vals2 r;have ec:c'=uR cV:=by
  rcases hc with ⟨n,rfl⟩ | ⟨a,rfl⟩
  ·exact rc'
  ·exact rc'
 subst ec;exact xM I ru ty e fun tk=>⟨.bl b,H,I.tok tk,rfl,q⟩
end
end L2
namespace L2
open PySem PySem.Spec PyProof.Rows
section
variable {X:Cx}
def xn:V→List V→Hp→VK→Prop:=fun x xs H Q=>match x,xs with
 | .str a,[.str b]=>Q (.bl (Txt.startswith a b)) H
 | _,_=>False
theorem Vt:cS X "str.startswith" xn:=by
 intro pins s σ H x xs v us Q I rx r h;unfold xn at h;split at h
 ·rename_i a b;obtain ⟨t,rfl⟩:=rx;obtain ⟨u,rfl,t',rfl⟩:=vals1 r;exact call_meets F.slot_str_startswith (typeIs_str s a t) F.entry_str_startswith (F.args_str_startswith_2 _ _) (gives_str_startswith a b t t').meets ⟨.bl _,H,I,rfl,h⟩
 ·exact h.elim
def zC:V→List V→Hp→VK→Prop:=fun x xs H Q=>match x,xs with
 | .str a,[.str b]=>Q (.bl (Txt.endswith a b)) H
 | _,_=>False
theorem NP:cS X "str.endswith" zC:=by
 intro pins s σ H x xs v us Q I rx r h;unfold zC at h;split at h
 ·rename_i a b;obtain ⟨t,rfl⟩:=rx;obtain ⟨u,rfl,t',rfl⟩:=vals1 r;exact call_meets F.slot_str_endswith (typeIs_str s a t) F.entry_str_endswith (F.args_str_endswith_2 _ _) (gives_str_endswith a b t t').meets ⟨.bl _,H,I,rfl,h⟩
 ·exact h.elim
theorem FG:∀ (l:List (Str×Tok)),Vals ((l.map (·.1)).map V.str) (strValues l)
 | []=>.nil
 | p::r=>.cons ⟨p.2,rfl⟩ (FG r)
theorem tP:∀ {ts:List Str} {us:List Value},Vals (ts.map V.str) us→∃ l:List (Str×Tok),us=strValues l∧l.map (·.1)=ts
 | [],_,.nil=>⟨[],rfl,rfl⟩
 | t::r,_,.cons h h'=>by
  obtain ⟨k,rfl⟩:=h;obtain ⟨l,e1,e2⟩:=tP h';exact ⟨(t,k)::l,by rw [e1]; rfl,by rw [← e2]; rfl⟩
def zx:V→List V→Hp→VK→Prop:=fun x xs H Q=>match x,xs with
 | .str a,[.str b]=>(b.length == 0)=false∧a.length≤sizeLine∧(Builtin.Str.partsBetween a (Builtin.Str.occurrences a b 0 a.length (a.length+1)) b.length).length≤sizeLine ∧
   ∀ l,H l=none→Q (.ref l) (upd H l (.lst ((Txt.split a b).map V.str)))
 | _,_=>False
theorem Cs:cS X "str.split" zx:=by
 intro pins s σ H x xs v us Q I rx r h;unfold zx at h;split at h
 ·rename_i a b;obtain ⟨hy,hx,hn,q⟩:=h;obtain ⟨t,rfl⟩:=rx;obtain ⟨w',rfl,u,rfl⟩:=vals1 r;have fin:∀ (l:List (Str×Tok)) (tk:Nat),l.map (·.1)=Txt.split a b→l.length≤sizeLine →
    EP X pins σ Q (.ref s.heap.objs.size) { s with heap:=s.heap.push { cls:=.type "list",data:=.seq (strValues l).toArray },toks:=tk }:=fun l tk e hz =>
   ⟨.ref _,_,I.laid (t':=tk) (o:=.lst ((Txt.split a b).map V.str)) (fun b' o' q'=>Heap.get?_push_of_some _ q') (Nat.le_refl _)
    ⟨by rw [List.length_map,← e,List.length_map]; exact hz,strValues l,0,by rw [← e]; exact FG l,Heap.get?_push_size _ rfl⟩,rfl,q _ (I.aC.fresh (Nat.le_refl _))⟩
  cases h1:(decide (a.length < b.length) || decide (Builtin.Str.strKind a < Builtin.Str.strKind b))
  ·cases hf:(Builtin.Str.occurrences a b 0 a.length (a.length+1)).isEmpty
   ·refine call_meets F.slot_str_split (typeIs_str s a t) F.entry_str_split (F.args_str_split_2 _ _) (meets_str_split_sep a b t u h1 hy hf hx hn) ?_;have e:Txt.split a b=Builtin.Str.partsBetween a (Builtin.Str.occurrences a b 0 a.length (a.length+1)) b.length:=(if_neg (ne_true_of_eq_false h1)).trans (if_neg (ne_true_of_eq_false hf));have z:=fin (numbered s.toks (Builtin.Str.partsBetween a (Builtin.Str.occurrences a b 0 a.length (a.length+1)) b.length)) (s.toks+(Builtin.Str.partsBetween a (Builtin.Str.occurrences a b 0 a.length (a.length+1)) b.length).length)
     ((numbered_texts _ _).trans e.symm) (by
      have:=congrArg List.length (numbered_texts s.toks (Builtin.Str.partsBetween a (Builtin.Str.occurrences a b 0 a.length (a.length+1)) b.length));rw [List.length_map] at this;rw [this]; exact hn)
    rw [← strsFrom_eq] at z;exact z
   ·exact call_meets F.slot_str_split (typeIs_str s a t) F.entry_str_split (F.args_str_split_2 _ _) (meets_str_split_not_found a b t u h1 hy hf)
     (fin [(a,t)] s.toks ((if_neg (ne_true_of_eq_false h1)).trans (if_pos hf)).symm (by show 1≤sizeLine; decide))
  ·exact call_meets F.slot_str_split (typeIs_str s a t) F.entry_str_split (F.args_str_split_2 _ _) (meets_str_split_cannot_occur a b t u h1)
    (fin [(a,t)] s.toks (if_pos h1).symm (by show 1≤sizeLine; decide))
 ·exact h.elim
def rJoin (K:PySem.W.Frag):V→List V→Hp→VK→Prop:=fun x xs H Q=>match x,xs with
 | .str a,[.ref p]=>u9 K H p fun xs=>∃ ts:List Str,xs=ts.map V.str∧ts.foldl (fun n z=>n+z.length+a.length) 0≤sizeLine∧Q (.str (Str.join a ts)) H
 | _,_=>False
theorem Nt:cS X "str.join" (rJoin X.K):=by
 intro pins s σ H x xs v us Q I rx r h;unfold rJoin at h;split at h
 ·rename_i a p;obtain ⟨xs,hq,ts,rfl,hz,q⟩:=xY h;obtain ⟨t,rfl⟩:=rx;obtain ⟨w',rfl,e⟩:=vals1 r;cases e;obtain ⟨aq,rv,pl,hl⟩:=I.list hq;obtain ⟨l,rfl,e2⟩:=tP rv;have Bp:Builtin.Str.tooLong ((l.map (·.1)).toArray.foldl (· + ·.length+a.length) 0)=false:=by
   unfold Builtin.Str.tooLong;refine decide_eq_false (Nat.not_lt.mpr ?_);rw [List.foldl_toArray,e2];exact hz
  refine call_meets F.slot_str_join (typeIs_str s a t) F.entry_str_join (F.args_str_join_2 _ _) (meets_str_join_list a t p l Bp) ⟨pl.isList,?_⟩;have hlen:(Builtin.Str.glued a (l.map (·.1))).length≤sizeLine:=by
   rw [e2,StrLaws.glued_eq_join];refine Nat.le_trans ?_ hz;have:∀ (us:List Str) (n:Nat),n+(Str.join a us).length≤us.foldl (fun n z=>n+z.length+a.length) n:=by
    intro us
    induction us with
    | nil=>intro n; exact Nat.le_refl _
    | cons y r ih =>
     intro n;cases r with
     | nil=>show n+y.length≤n+y.length+a.length; omega
     | cons z r' =>
      have h1:(Str.join a (y::z::r')).length=y.length+a.length+(Str.join a (z::r')).length:=by
       show ((y++a)++Str.join a (z::r')).length=_;rw [Str.length_append,Str.length_append]
      have h2:=ih (n+y.length+a.length);rw [h1];refine Nat.le_trans ?_ h2;omega
   have h0:=this ts 0;omega
  have e3:Builtin.Str.glued a (l.map (·.1))=Str.join a ts:=by rw [e2,StrLaws.glued_eq_join]
  match l,e2,e3,hlen with
  | [],e2,e3,hlen=>exact ⟨hlen,⟨.str (Str.join a ts),H,I.tok _,⟨_,by rw [e3]⟩,q⟩⟩
  | [p],e2,e3,hlen =>
   have e4:Str.join a ts=p.1:=by rw [← e2]; rfl
   exact ⟨.str (Str.join a ts),H,I.tok _,⟨_,by rw [e4]⟩,q⟩
  | p1::p2::r',e2,e3,hlen=>exact ⟨hlen,⟨.str (Str.join a ts),H,I.tok _,⟨_,by rw [e3]⟩,q⟩⟩
 ·exact h.elim
theorem DE {v:Value} {o:Option Int} (p:IsPart v o):∃ l:Option (Int×Tok),v=partValue l∧l.map (·.1)=o:=by
 cases p with
 | none=>exact ⟨none,rfl,rfl⟩
 | int i t=>exact ⟨some (i,t),rfl,rfl⟩
def Fp:V→Option Int→Option Int→Hp→VK→Prop:=fun x lo hi H Q=>match x with
 | .str z=>z.length≤sizeLine∧Q (.str (Txt.slice z lo hi)) H
 | _=>False
theorem MX:gp X Fp:=by
 intro pins s σ H x v vl vu lo hi sl Q I rx hs pl pu h;unfold Fp at h;split at h
 ·rename_i z;obtain ⟨hz,q⟩:=h;obtain ⟨t,rfl⟩:=rx;obtain ⟨l,rfl,rfl⟩:=DE pl;obtain ⟨u,rfl,rfl⟩:=DE pu;refine ⟨"str",_,F.slot_str_getitem.lookup,typeIs_str _ _ _,wpAny_getItem_str_slice (l:=l) (u:=u) (st:=none) hs rfl
   (post_val_or_str ⟨Nat.le_trans (Txt.slice_le z _ _) hz,fun t' k=>?_⟩)⟩
  exact ⟨.str (Txt.slice z (l.map (·.1)) (u.map (·.1))),H,I.tok k,⟨t',rfl⟩,q⟩
 ·exact h.elim
def zV:R2:=fun x y H Q=>match x,y with
 | .int i,.int j=>uS i j∧Q (.int (i * j)) H
 | .str z,.int n=>MulOk z n∧Q (.str (Txt.mul z n)) H
 | .ref l,.int k=>match H l with
  | some (.lst xs)=>-(2 ^ 63)≤k∧k < 2 ^ 63∧xs.length * k.toNat≤sizeLine∧∀ p,H p=none→Q (.ref p) (upd H p (.lst (List.replicate k.toNat xs).flatten))
  | _=>False
 | _,_=>False
theorem RL:bc X (binaryOp .Mult) (fun x y H Q=>∃ z n,x=.str z∧y=.int n∧MulOk z n∧Q (.str (Txt.mul z n)) H):=by
 intro pins s σ H x y v u Q I rx ry h;obtain ⟨z,n,rfl,rfl,hm,q⟩:=h;obtain ⟨t,rfl⟩:=rx;obtain ⟨t',rfl⟩:=ry;exact SB.mul hm fun t2 k=>⟨.str _,H,I.tok _,⟨_,rfl⟩,q⟩
theorem uG:bc X (binaryOp .Mult) zV:=(K5.or (RL.or VQ)).imp fun x y H Q h=>by
 unfold zV at h;split at h
 ·exact .inl ⟨_,_,rfl,rfl,h.1,h.2⟩
 ·exact .inr (.inl ⟨_,_,rfl,rfl,h.1,h.2⟩)
 ·split at h
  ·rename_i xs h1;obtain ⟨h2,h3,h4,h5⟩:=h;exact .inr (.inr ⟨_,_,xs,rfl,rfl,h1,h2,h3,h4,h5⟩)
  ·exact h.elim
 ·exact h.elim
theorem CJ:∀ {bs:List Bool} {us:List Value},Vals (bs.map V.bl) us→us=bs.map Value.bool
 | [],_,.nil=>rfl
 | b::r,_,.cons h h'=>by
  have h:_=Value.bool b:=h;rw [h,CJ h'];rfl
theorem all_range (bs:List Bool):(List.range bs.length).all (fun j=>bs.getD j true)=bs.all id:=by
 rw [Bool.eq_iff_iff,List.all_eq_true,List.all_eq_true];constructor
 ·intro h b hb;obtain ⟨i,hi,e⟩:=List.getElem_of_mem hb;have:=h i (List.mem_range.mpr hi);rw [List.getD_eq_getElem?_getD,List.getElem?_eq_getElem hi,e] at this;exact this
 ·intro h j hj;have hj:=List.mem_range.mp hj;rw [List.getD_eq_getElem?_getD,List.getElem?_eq_getElem hj];exact h _ (List.getElem_mem hj)
theorem Mg (hc:X.calm=true):cE X (.builtin "all") (fun xs H Q=>∃ (p:Addr) (bs:List Bool),xs=[.ref p]∧aL X.K H p (bs.map V.bl)∧Q (.bl (bs.all id)) H):=by
 intro pins s σ H xs us Q I r h;obtain ⟨p,bs,rfl,hq,q⟩:=h;obtain ⟨u,rfl,e⟩:=vals1 r;cases e;obtain ⟨aq,rv,pl,hz⟩:=I.list hq;have eb:=CJ rv;subst eb;have bb:p < s.heap.objs.size:=pl.lt;refine call_all_walk (wpAny_pyIter_list pl.isList ?_);refine ⟨s.heap.objs.size,_,_,_,_,_,fun j=>bs.getD j true,rfl,Walks.list (A:=X.A.in1) (show X.A.in1.handled=none from I.ok.hd hc) _ p (Nat.ne_of_lt bb) (bs.map Value.bool).toArray,⟨⟨_,Heap.get?_push_size _ rfl,rfl,rfl⟩,pl.isList.push _⟩,?_,?_⟩
 ·intro i v s' Q' E' hP hQ;have hi:bs[i]?=some (bs.getD i true)∧v=.bool (bs.getD i true):=by
   have hP:(bs.map Value.bool).toArray[i]?=some v:=hP;rw [List.getElem?_toArray,List.getElem?_map] at hP;cases e:bs[i]? with
   | none=>rw [e] at hP; cases hP
   | some b =>
    rw [e] at hP;have:bs.getD i true=b:=by rw [List.getD_eq_getElem?_getD,e]; rfl
    rw [this];exact ⟨rfl,(Option.some.inj hP).symm⟩
  rw [hi.2];exact wpAny_truthy_bool hQ
 ·intro h' tk hk;have e:(List.range (bs.map Value.bool).toArray.size).all (fun j=>bs.getD j true)=bs.all id:=by
   rw [List.size_toArray,List.length_map];exact all_range bs
  rw [e];refine ⟨.bl (bs.all id),H,I.kept (t':=tk) (fun b o eo=>?_),rfl,q⟩;refine hk b o ?_ (Heap.get?_push_of_some _ eo);intro hm;have e1:b=s.heap.objs.size:=by simpa using hm
  exact absurd (Heap.lt_size eo) (by rw [e1]; exact Nat.lt_irrefl _)
def uk (x:Str):It:=⟨fun i _=>i < x.length,fun i H y H'=>H'=H∧∃ c,x.cps[i]?=some c∧y=.str ⟨#[c]⟩,fun i _=>x.length≤i⟩
theorem HQ {P:Program} {w:World} {K:PySem.W.Frag} {tg:Expr} {x:Str} {t:Tok} {ty:String} (it:Addr)
  (cf:["enumerate", "zip", "dict_itemiterator", "dict_reverseitemiterator", "odict_iterator", "itertools.zip_longest", "itertools.pairwise"].contains ty=false)
  (W:∀ A:Around,A.handled=none→Walks P w A it [it] [it] x.cps.size (SignAt x) (fun i h=>h.IsStrIter it ty x t i)) (W0:∀ (A:Around) (i:Nat) (s:Shared) (Q:Value→Shared→Prop) (E:Value→Shared→Prop),s.heap.IsStrIter it ty x t i→Q (.ref it) s→wpAny (model P w) A (pyIter (.ref it)) Q E s) :
  Turn P w K tg (uk x) [it] it (fun i h=>i≤x.length∧h.IsStrIter it ty x t i) where
 mem:=by simp
 obj:=fun i h st b hb=>by
  have e:b=it:=by simpa using hb
  subst e;obtain ⟨_,o,e,c,d⟩:=st;exact ⟨o,e,fun v z=>by rw [d] at z; cases z⟩
 keep:=fun i h h' st k=>⟨st.1,let ⟨o,ho,r⟩:=st.2; ⟨o,k it (by simp) o ho,r⟩⟩
 item:=by
  intro X hP hw hK hc i pins s σ H E I hf st hg;subst hP hw hK;obtain ⟨f0,f1,f2,f3,f4,f5⟩:=hf it (by simp);refine (W X.A (I.ok.hd hc)).item i s _ E hg st.2 fun v h' tk hv st' hk=>?_;obtain ⟨c,u,hcx,rfl⟩:=hv;have I1:Inv X pins σ H { s with heap:=h',toks:=tk }:=I.turned (t':=tk) (fun b o hb e=>hk b o (by simpa using hb) e) f0 f1 f3 f4 f5;obtain ⟨o,e,cc,d⟩:=id st';exact ⟨_,rfl,Ah (s:={ s with heap:=h',toks:=tk }) e cc d cf ⟨.str ⟨#[c]⟩,H,I1,⟨u,rfl⟩,⟨rfl,c,hcx,rfl⟩,⟨hg,st'⟩,fun b hb=>(hf b hb).1⟩⟩
 done:=by
  intro X hP hw hK hc i pins s σ H E I hf st hg;subst hP hw hK;obtain ⟨f0,f1,f2,f3,f4,f5⟩:=hf it (by simp);have hi:i=x.cps.size:=Nat.le_antisymm st.1 hg;subst hi;exact (W X.A (I.ok.hd hc)).done s _ E st.2 fun h' tk hk=>⟨rfl,I.turned (t':=tk) (fun b o hb e=>hk b o (by simpa using hb) e) f0 f1 f3 f4 f5⟩
 self:=fun A i s Q E st h=>W0 A i s Q E st.2 h
def yG (tl:TE):TI:=fun σ H R=>tl σ H fun x H1=>match x with
 | .str z=>R (uk z) H1
 | _=>False
theorem OF {tg l:Expr} {tl:TE} (hl:PE X l tl):PI X tg l (yG tl):=by
 intro pins s σ H R I h;refine aE (hl pins s σ H _ I h) fun v s1 ⟨x,H1,I1,r1,q1⟩=>?_;have q1':∃ z,x=.str z∧R (uk z) H1:=by
  dsimp only at q1;split at q1
  ·exact ⟨_,rfl,q1⟩
  ·exact q1.elim
 obtain ⟨z,rfl,q⟩:=q1';obtain ⟨t,rfl⟩:=r1;have fp:∀ b∈[s1.heap.objs.size],jq X pins H1 b:=fun b hb=>by
  have e:b=s1.heap.objs.size:=by simpa using hb
  subst e;exact I1.wb (Nat.le_refl _) (I1.aC.fresh (Nat.le_refl _))
 cases ha:z.cps.all (· < 128)
 ·refine wpAny_pyIter_wide ha ⟨s1.heap.objs.size,[s1.heap.objs.size],_,_,H1,rfl,I1.kept (t':=s1.toks) fun b o e=>Heap.get?_push_of_some _ e,
   HQ (ty := "str_iterator") (t:=t) _ (by decide) (fun A hA=>Walks.strWide hA _ z t) (fun A i s Q E st h=>wpAny_pyIter_striter_wide st h),⟨Nat.zero_le _,_,Heap.get?_push_size _ rfl,rfl,rfl⟩,fp,q⟩
 ·refine wpAny_pyIter_ascii ha ⟨s1.heap.objs.size,[s1.heap.objs.size],_,_,H1,rfl,I1.kept (t':=s1.toks) fun b o e=>Heap.get?_push_of_some _ e,
   HQ (ty := "str_ascii_iterator") (t:=t) _ (by decide) (fun A hA=>Walks.strAscii hA _ z t) (fun A i s Q E st h=>wpAny_pyIter_striter_ascii st h),⟨Nat.zero_le _,_,Heap.get?_push_size _ rfl,rfl,rfl⟩,fp,q⟩
end
end L2
namespace L2
open PySem PySem.Spec PyProof.Rows
section
variable {X:Cx} {a b c:Expr} {ta tb tc:TE} {pos:Pos}
theorem Pn (ha:PE X a ta):PE X (.UnaryOp .Not a pos) (yO ta):=by
 intro pins s σ H Q I h;refine UnaryOp_ (aE (ha pins s σ H _ I h) fun v s1 ⟨x,H1,I1,r1,q1⟩=>?_);have q1':∃ k,x=.bl k∧Q (.bl (!k)) H1:=by
  dsimp only at q1;split at q1
  ·exact ⟨_,rfl,q1⟩
  ·exact q1.elim
 obtain ⟨k,rfl,z1⟩:=q1';cases r1;exact not_of (wpAny_truthy_bool ⟨.bl (!k),H1,I1,rfl,z1⟩)
theorem MQ {op op':CmpOp} {f g:Int→Int→Bool} (ho:bc X (compareOp op) (ie f)) (ho':bc X (compareOp op') (ie g)) (ha:PE X a ta) (hb:PE X b tb) (hc:PE X c tc)
  (hm:lastMarks [op,op'] [b,c]=false:=by with_unfolding_all rfl):PT X (.Compare a [op,op'] [b,c] pos) (yj f g ta tb tc):=by
 intro pins s σ H Q I h;refine isTrue_chain (aE (ha pins s σ H _ I h) fun v s1 ⟨x,H1,I1,r1,q1⟩=>test_link (aE (hb pins s1 σ H1 _ I1 q1) fun u s2 ⟨y,H2,I2,r2,q2⟩=>?_)) hm;have q2':∃ i j,x=.int i∧y=.int j∧if f i j=true then tc σ H2 (fun z H3=>(match z with | .int k=>Q (g j k) H3 | _=>False)) else Q false H2:=by
  dsimp only at q2;split at q2
  ·exact ⟨_,_,rfl,rfl,q2⟩
  ·exact q2.elim
 obtain ⟨i,j,rfl,rfl,z2⟩:=q2';refine aE (ho pins s2 σ H2 (.int i) (.int j) v u (fun z H3=>z=.bl (f i j)∧H3=H2) I2 r1 r2 ⟨rfl,rfl⟩) fun d s3 ⟨z,H3,I3,r3,e,e'⟩=>?_;subst e e';cases r3;refine wpAny_truthy_bool ?_;cases hf:f i j with
 | false =>
  rw [hf] at z2;exact ite_ff ⟨H3,I3,z2⟩
 | true =>
  rw [hf,if_pos rfl] at z2;refine ite_tt (test_last (aE (hc pins s3 σ H3 _ I3 z2) fun w' s4 ⟨z',H4,I4,r4,q4⟩=>?_));have q4':∃ k,z'=.int k∧Q (g j k) H4:=by
   dsimp only at q4;split at q4
   ·exact ⟨_,rfl,q4⟩
   ·exact q4.elim
  obtain ⟨k,rfl,z4⟩:=q4';refine aE (ho' pins s4 σ H4 (.int j) (.int k) u w' (fun z H5=>z=.bl (g j k)∧H5=H4) I4 r2 r4 ⟨rfl,rfl⟩) fun d' s5 ⟨z2,H5,I5,r5,e,e'⟩=>?_;subst e e';cases r5;exact wpAny_truthy_bool ⟨H5,I5,z4⟩
def uc (K:PySem.W.Frag):List V→Hp→VK→Prop:=fun xs H Q=>match xs with
 | [.str y]=>y.length≤sizeLine∧Q (.int y.length) H
 | [.ref p]=>bG K H p fun ys=>Q (.int ys.length) H
 | _=>False
theorem Mj:cE X (.builtin "len") (uc X.K):=DN.imp fun xs H Q h=>by
 unfold uc at h;split at h
 ·exact ⟨_,_,rfl,⟨h.1,rfl⟩,h.2⟩
 ·obtain ⟨ys,h1,h2⟩:=zW h;rcases h1 with h1 | h1
  ·exact ⟨_,_,rfl,.inl ⟨ys,h1,rfl⟩,h2⟩
  ·exact ⟨_,_,rfl,.inr ⟨ys,h1,rfl⟩,h2⟩
 ·exact h.elim
def Es (K:PySem.W.Frag):List V→Hp→VK→Prop:=fun xs H Q=>match xs with
 | [x,cV]=>∃ t b,((∃ n,cV=.ty n)∨∃ a,cV=.ref a)∧eK K H x t∧PySem.W.kitOne K t (uR cV)=some b∧Q (.bl b) H
 | _=>False
theorem MW:cE X (.builtin "isinstance") (Es X.K):=TV.imp fun xs H Q h=>by
 unfold Es at h;split at h
 ·obtain ⟨t,b,h1,h2,h3,h4⟩:=h;exact ⟨_,_,t,b,rfl,h1,h2,h3,h4⟩
 ·exact h.elim
def uL (K:PySem.W.Frag):List V→Hp→VK→Prop:=fun xs H Q=>match xs with
 | [.ref p]=>u9 K H p fun xs=>∃ bs:List Bool,xs=bs.map V.bl∧Q (.bl (bs.all id)) H
 | _=>False
theorem LH (hc:X.calm=true):cE X (.builtin "all") (uL X.K):=(Mg hc).imp fun xs H Q h=>by
 unfold uL at h;split at h
 ·obtain ⟨xs,h1,bs,rfl,h2⟩:=xY h;exact ⟨_,bs,rfl,h1,h2⟩
 ·exact h.elim
def me (K:PySem.W.Frag):R2:=fun x y H Q=>match x,y with
 | .ref p,.int i=>bG K H p fun xs=>match cx xs i with
  | some v=>Q v H
  | none=>False
 | .str z,.int i=>z.length≤sizeLine∧match cx z.cps.toList i with
  | some c=>Q (.str ⟨#[c]⟩) H
  | none=>False
 | _,_=>False
theorem eJ.imp {r r':R2} (h:eJ X r) (i:∀ x y H Q,r' x y H Q→r x y H Q):eJ X r':=fun value slice pins s σ H x y v u Q I rx ry q=>h value slice pins s σ H x y v u Q I rx ry (i x y H Q q)
theorem qx:eJ X (me X.K):=UT.imp fun x y H Q h=>by
 unfold me at h;split at h
 ·obtain ⟨xs,h1,h2⟩:=zW h;split at h2
  ·rename_i v e;rcases h1 with h1 | h1
   ·exact .inl ⟨_,xs,_,v,rfl,rfl,h1,e,h2⟩
   ·exact .inr (.inl ⟨_,xs,_,v,rfl,rfl,h1,e,h2⟩)
  ·exact h2.elim
 ·obtain ⟨h1,h2⟩:=h;split at h2
  ·rename_i d e;exact .inr (.inr ⟨_,_,d,rfl,rfl,h1,e,h2⟩)
  ·exact h2.elim
 ·exact h.elim
def uh (K:PySem.W.Frag):V→Option Int→Option Int→Hp→VK→Prop:=fun x lo hi H Q=>match x with
 | .str z=>z.length≤sizeLine∧Q (.str (Txt.slice z lo hi)) H
 | .ref a=>u9 K H a fun xs=>∀ p,H p=none→Q (.ref p) (upd H p (.lst (gH xs lo hi)))
 | _=>False
theorem Mq:gp X (uh X.K):=by
 intro pins s σ H x v vl vu lo hi sl Q I rx hs pl pu h;refine (MX.or Vc) pins s σ H x v vl vu lo hi sl Q I rx hs pl pu ?_;unfold uh at h;split at h
 ·exact .inl h
 ·obtain ⟨xs,h1,h2⟩:=xY h;exact .inr ⟨_,xs,rfl,h1,h2⟩
 ·exact h.elim
def ye (t:TE):TO:=fun σ H Q=>t σ H fun x H1=>match x with
 | .int i=>Q (some i) H1
 | _=>False
theorem Mu {e:Expr} {te:TE} (h:PE X e te):PO X (some e) (ye te):=by
 intro pins s σ H Q I q;refine evalPart_some_step (aE (h pins s σ H _ I q) fun v s1 ⟨x,H1,I1,r1,q1⟩=>?_);have q1':∃ i,x=.int i∧Q (some i) H1:=by
  dsimp only at q1;split at q1
  ·exact ⟨_,rfl,q1⟩
  ·exact q1.elim
 obtain ⟨i,rfl,z1⟩:=q1';obtain ⟨t,rfl⟩:=r1;exact ⟨some i,H1,I1,.int i t,z1⟩
def zH:qo:=fun o i v H Q=>match o,i with
 | .ref p,.int k=>match H p with
  | some (.lst xs)=>(match fq xs.length k with
   | some j=>Q (upd H p (.lst (xs.set j v)))
   | none=>False)
  | _=>False
 | _,_=>False
theorem CZ:uz X zH:=by
 intro pins s σ H o i v ov iv u Q I ro ri rv h;refine set_list pins s σ H o i v ov iv u Q I ro ri rv ?_;unfold zH at h;split at h
 ·split at h
  ·rename_i xs h1;split at h
   ·rename_i j h2;exact ⟨_,xs,_,j,rfl,rfl,h1,h2,h⟩
   ·exact h.elim
  ·exact h.elim
 ·exact h.elim
theorem cS.imp {id:String} {r r':V→List V→Hp→VK→Prop} (h:cS X id r) (i:∀ x xs H Q,r' x xs H Q→r x xs H Q):cS X id r':=fun pins s σ H x xs v us Q I rx rv q=>h pins s σ H x xs v us Q I rx rv (i x xs H Q q)
def Av:V→List V→Hp→VK→Prop:=fun x vs H Q=>match x,vs with
 | .ref l,[y]=>match H l with
  | some (.lst xs)=>xs.length < sizeLine∧Q .ax (upd H l (.lst (xs++[y])))
  | _=>False
 | _,_=>False
theorem kM:cS X "list.append" Av:=cS.imp S8 fun x xs H Q h=>by
 unfold Av at h;split at h
 ·split at h
  ·rename_i zs h1;exact ⟨_,zs,_,rfl,rfl,h1,h.1,h.2⟩
  ·exact h.elim
 ·exact h.elim
def yw:V→List V→Hp→VK→Prop:=fun x vs H Q=>match x,vs with
 | .ref l,[.ref b]=>match H l,H b with
  | some (.lst xs),some (.lst zs)=>xs.length+zs.length≤sizeLine∧Q .ax (upd H l (.lst (xs++zs)))
  | _,_=>False
 | _,_=>False
theorem NH:cS X "list.extend" yw:=cS.imp RI fun x xs H Q h=>by
 unfold yw at h;split at h
 ·split at h
  ·rename_i zs ws h1 h2;exact ⟨_,_,zs,ws,rfl,rfl,h1,h2,h.1,h.2⟩
  ·exact h.elim
 ·exact h.elim
def clsName (H:Hp):V→Option String
 | .ax=>some "NoneType"
 | .bl _=>some "bool"
 | .int _=>some "int"
 | .str _=>some "str"
 | .ref p=>match H p with
  | some (.lst _)=>some "list"
  | some (.tup _)=>some "tuple"
  | some (.dK _)=>some "dict"
  | _=>none
 | _=>none
def rE (T n:String):Bool:=T == n || (T == "bool" && n == "int")
theorem U4 {K:PySem.W.Frag} {H:Hp} {x:V} {T:String} (h:clsName H x=some T):eK K H x (.type T)∧T∈["NoneType", "bool", "int", "str", "list", "tuple", "dict"]:=by
 unfold clsName at h;split at h
 ·cases h; exact ⟨.ax,by simp⟩
 ·cases h; exact ⟨.bl _,by simp⟩
 ·cases h; exact ⟨.int _,by simp⟩
 ·cases h; exact ⟨.str _,by simp⟩
 ·split at h
  ·rename_i e; cases h; exact ⟨.lst e,by simp⟩
  ·rename_i e; cases h; exact ⟨.tup e,by simp⟩
  ·rename_i e; cases h; exact ⟨.dK e,by simp⟩
  ·cases h
 ·cases h
theorem MP (K:PySem.W.Frag):∀ T,T∈["NoneType", "bool", "int", "str", "list", "tuple", "dict"]→∀ n,n∈["bool", "int", "str", "list", "tuple", "dict"]→PySem.W.kitOne K (.type T) (.type n)=some (rE T n):=by
 intro T hT n hn;simp only [List.mem_cons,List.mem_nil_iff,or_false] at hT hn;rcases hT with rfl | rfl | rfl | rfl | rfl | rfl | rfl <;> rcases hn with rfl | rfl | rfl | rfl | rfl | rfl <;> kernel_rfl
def zY:List V→Hp→VK→Prop:=fun xs H Q=>match xs with
 | [x,.ty n]=>n∈["bool", "int", "str", "list", "tuple", "dict"]∧match clsName H x with
  | some T=>Q (.bl (rE T n)) H
  | none=>False
 | _=>False
theorem i0:cE X (.builtin "isinstance") zY:=MW.imp fun xs H Q h=>by
 unfold zY at h;split at h
 ·rename_i x n;obtain ⟨hn,h⟩:=h;split at h
  ·rename_i T e;obtain ⟨h1,h2⟩:=U4 (K:=X.K) e;exact ⟨_,_,.inl ⟨_,rfl⟩,h1,MP _ T h2 n hn,h⟩
  ·exact h.elim
 ·exact h.elim
def yU (r:V→List V→Hp→VK→Prop) (to:TE) (t:TA):TE:=fun σ H Q=>to σ H fun x H1=>match x with
 | .str z=>t σ H1 fun xs H2=>r (.str z) xs H2 Q
 | _=>False
def x9 (r:V→List V→Hp→VK→Prop) (to:TE) (t:TA):TE:=fun σ H Q=>to σ H fun x H1=>match x with
 | .ref l=>(match H1 l with
  | some (.lst _)=>t σ H1 fun xs H2=>r (.ref l) xs H2 Q
  | _=>False)
 | _=>False
section
variable {T:String} {name:Str} {id:String} {r:V→List V→Hp→VK→Prop} {o e:Expr} {es:List Expr} {to:TE} {t:TA} {apos bw:Pos}
theorem K6 (slot:Slot "str" name id) (cf:typeOf (.builtin id)=pure (.type "method_descriptor")) (hm:cS X id r) (ho:PE X o to) (ha:PA X (e::es) t)
  (hs:(e::es).all noStar=true:=by rfl) (aV:decide ((e::es).length+([]:List Keyword).length+(if ([]:List Keyword).isEmpty then 0 else 1) < 30)=true:=by rfl)
  (g7:attributeBase o name X.env (eval o X.env)=eval o X.env:=by rfl) (g9:(apos.endLine == bw.line)=true:=by rfl) :
  PE X (.Call (.Attribute o name apos) (e::es) [] bw) (yU r to t):=by
 have hs':=hs;rw [List.all_cons,Bool.and_eq_true] at hs';have aQ:starEach (e::es) X.env=(false,eval e X.env)::starEach es X.env:=eG hs'.1;have AW:(backTo bw (starEach es X.env)).any (·.1)=false:=gq hs'.2;have AJ:((backTo bw (starEach (e::es) X.env)).all (fun x=>!x.1) && (backToKw bw (keywordEach [] X.env)).all (fun x=>x.1.isSome)
   && decide ((e::es).length+([]:List Keyword).length+(if ([]:List Keyword).isEmpty then 0 else 1) < 30))=true:=by
  rw [wW hs,aV];rfl
 intro pins s σ H Q I h;refine wpAny_Call_method_late g7 AJ g9 rfl (aE (ho pins s σ H _ I h) fun v s1 ⟨x,H1,I1,r1,q1⟩=>?_);dsimp only at q1;split at q1
 ·rename_i z;obtain ⟨h1,h2⟩:=wt (T := "str") I1 r1 rfl;refine ⟨"str",id,PySem.F.plainAttrs_str,slot,cf,h1,h2,?_⟩;have hA:=ha bw pins s1 σ H1 _ I1 q1;rw [aQ] at hA ⊢;refine Calls.callWith_builtin (by show (false || (backTo bw (starEach es X.env)).any (·.1))=false; rw [AW] <;> rfl) (Calls.evalArgs_plain ?_);exact aE hA fun us s2 ⟨vs,H2,I2,r2,q2⟩=>hm pins s2 σ H2 (.str z) vs v us Q I2 r1 r2 q2
 ·exact q1.elim
theorem PZ (slot:Slot "list" name id) (cf:typeOf (.builtin id)=pure (.type "method_descriptor")) (hm:cS X id r) (ho:PE X o to) (ha:PA X (e::es) t)
  (hs:(e::es).all noStar=true:=by rfl) (aV:decide ((e::es).length+([]:List Keyword).length+(if ([]:List Keyword).isEmpty then 0 else 1) < 30)=true:=by rfl)
  (g7:attributeBase o name X.env (eval o X.env)=eval o X.env:=by rfl) (g9:(apos.endLine == bw.line)=true:=by rfl) :
  PE X (.Call (.Attribute o name apos) (e::es) [] bw) (x9 r to t):=by
 have hs':=hs;rw [List.all_cons,Bool.and_eq_true] at hs';have aQ:starEach (e::es) X.env=(false,eval e X.env)::starEach es X.env:=eG hs'.1;have AW:(backTo bw (starEach es X.env)).any (·.1)=false:=gq hs'.2;have AJ:((backTo bw (starEach (e::es) X.env)).all (fun x=>!x.1) && (backToKw bw (keywordEach [] X.env)).all (fun x=>x.1.isSome)
   && decide ((e::es).length+([]:List Keyword).length+(if ([]:List Keyword).isEmpty then 0 else 1) < 30))=true:=by
  rw [wW hs,aV];rfl
 intro pins s σ H Q I h;refine wpAny_Call_method_late g7 AJ g9 rfl (aE (ho pins s σ H _ I h) fun v s1 ⟨x,H1,I1,r1,q1⟩=>?_);dsimp only at q1;split at q1
 ·rename_i l;split at q1
  ·rename_i zs el;obtain ⟨h1,h2⟩:=wt (T := "list") I1 r1 (.inl ⟨rfl,zs,aL.of el⟩);refine ⟨"list",id,PySem.F.plainAttrs_list,slot,cf,h1,h2,?_⟩;have hA:=ha bw pins s1 σ H1 _ I1 q1;rw [aQ] at hA ⊢;refine Calls.callWith_builtin (by show (false || (backTo bw (starEach es X.env)).any (·.1))=false; rw [AW] <;> rfl) (Calls.evalArgs_plain ?_);exact aE hA fun us s2 ⟨vs,H2,I2,r2,q2⟩=>hm pins s2 σ H2 (.ref l) vs v us Q I2 r1 r2 q2
  ·exact q1.elim
 ·exact q1.elim
end
theorem LD {CX:dh} {P:Program} {w:World} {K:PySem.W.Frag} {mg:Str→Option Value} {base:Heap} {N:List Str} {qual:Str} {scope:Scope} {f:Addr} {cd:Value} {A:Around} {outer:List Env} {s:Shared} {H:Hp} {E:XK} :
  (fX CX P w K mg base N qual scope f cd A outer s H E).K=K:=rfl
theorem c7 {α:Type} (a:α) (l:List α):cx (a::l) 0=some a:=gJ (j:=0) rfl
theorem wC {α:Type} (a b:α) (l:List α):cx (a::b::l) 1=some b:=gJ (j:=1) rfl
theorem Dg {α:Type} (a b c:α) (l:List α):cx (a::b::c::l) 2=some c:=gJ (j:=2) rfl
theorem Sg (n:Nat):fq (n+1) 0=some 0:=by
 unfold fq;rw [if_pos (by decide),if_pos (by omega)];rfl
theorem Vf (n:Nat):fq (n+3) 2=some 2:=by
 unfold fq;rw [if_pos (by decide),if_pos (by omega)];rfl
theorem EO {H:Hp} {p b:Addr} {o u:HO} (h:H b=some u) (hp:H p=Option.none):upd H p o b=some u:=by rw [ah (fe h hp)]; exact h
theorem fB:bootBuiltins "isinstance" = some (.builtin "isinstance"):=by decide +kernel
theorem EN:bootBuiltins "all" = some (.builtin "all"):=by decide +kernel
theorem j0:bootBuiltins "str" = some (.type "str"):=by decide +kernel
theorem Ur:bootBuiltins "bool" = some (.type "bool"):=by decide +kernel
theorem qj:bootBuiltins "int" = some (.type "int"):=by decide +kernel
theorem PN:bootBuiltins "list" = some (.type "list"):=by decide +kernel
end
end L2
namespace L2
open PySem PySem.Spec PyProof.Rows
abbrev Du (ifs:List Expr) (env:Env):Sem Bool:=forIn ifs true fun c r=>if r=true then do let ok ← isTrue c env (eval c env); pure (ForInStep.yield ok) else pure (ForInStep.yield r)
section
variable {prog:Program} {w:World} {A:Around} {R:Result→Shared→Prop} {s:Shared}
theorem QN {elt tg iter:Expr} {ifs:List Expr} {scope:Scope} {pos:Pos} {it acc:Value} {env:Env} (J:Nat→Shared→Prop) (hN:∀ e s',notedBy (model prog w) A env (fun e s'=>R (.error e) s') e s'→True)
  (turn:∀ n s,J n s→wpAny (model prog w) A (pyNext it) (fun r s1=>match r with
   | none=>R (.ok .next) s1
   | some v=>wpAny (model prog w) A (letOwnedTupleGo tg it v) (fun _ s2=>wpAny (model prog w) A (assign tg env v) (fun _ s3=>wpAny (model prog w) A (Du ifs env)
     (fun ok s4=>if ok=true then wpAny (model prog w) A (eval elt env) (fun x s5=>wpAny (model prog w) A (call (.builtin "list.append") [acc,x]) (fun _ s6=>∃ m,m < n∧J m s6) (fun _ _=>False) s5) (fun _ _=>False) s4
      else ∃ m,m < n∧J m s4) (fun _ _=>False) s3) (fun _ _=>False) s2) (fun _ _=>False) s1) (fun _ _=>False) s)
  (n:Nat) (h:J n s):codeAny (model prog w) A (.compLoop (.ListComp elt [⟨tg,iter,ifs,0⟩] scope pos) 0 it acc env) R s:=by
 have no:∀ {E:Value→Shared→Prop} (e:Value) (s':Shared),False→E e s':=fun _ _ z=>z.elim;refine codeAny_loop rfl J (fun n s hI=>?_) n h;refine (show wpAny _ A (Sem.onRaise (compTurn (.ListComp elt [⟨tg,iter,ifs,0⟩] scope pos) 0 it acc env) (fun x=>do noteFrame x env; theTreesLotGoes x)) _ _ s from ?_);refine wpAny_noted ?_;rw [compTurn_list];refine wpAny_bind (wpAny_standAt (wpAny_bind (wpAny_mono (turn n s hI) (fun r s1 q1=>?_) no)));cases r with
 | none=>exact wpAny_pure q1
 | some v =>
  refine wpAny_bind (wpAny_mono q1 (fun _ s2 q2=>wpAny_bind (wpAny_mono q2 (fun _ s3 q3=>wpAny_bind (wpAny_mono q3 (fun ok s4 q4=>?_) no)) no)) no);cases ok with
  | false=>exact wpAny_pure ⟨rfl,q4⟩
  | true=>exact wpAny_bind (wpAny_bind (wpAny_mono q4 (fun x s5 q5=>wpAny_bind (wpAny_mono q5 (fun _ s6 q6=>wpAny_pure (wpAny_pure ⟨rfl,q6⟩)) no)) no))
end
def oW (X:Cx) (ifs:List Expr) (t:TT):Prop :=
 ∀ (pins:List (Addr×Obj)) (s:Shared) (σ:St) (H:Hp) (Q:Bool→Hp→Prop),Inv X pins σ H s→t σ H Q→wpAny (model X.prog X.w) X.A (Du ifs X.env) (TP X pins σ Q) X.xe s
def il:TT:=fun _ H Q=>Q true H
theorem KZ {X:Cx}:oW X [] il:=fun _ _ _ H _ I h=>wpAny_tests_nil ⟨H,I,h⟩
theorem NU {X:Cx} {c:Expr} {t:TT} (h:PT X c t):oW X [c] t:=fun pins s σ H Q I q=>wpAny_tests_one (h pins s σ H Q I q)
def uV (wi:TI) (tt:TT) (te:TE):TE:=fun σ H Q=>wi σ H fun J H1=>∃ W:Nat→List V→Nat→Hp→Prop,(∃ m,W 0 [] m H1)∧∀ i ys m H,W i ys m H →
 ys.length≤sizeLine∧((J.stop i H∧∀ l,H l=none→Q (.ref l) (upd H l (.lst ys))) ∨
  (J.go i H∧ys.length < sizeLine∧∀ y H',J.jz i H y H'→tt [some y] H' fun c H2=>if c=true then te [some y] H2 fun z H3=>∃ m',m' < m∧W (i+1) (ys++[z]) m' H3 else ∃ m',m' < m∧W (i+1) ys m' H2))
section
variable {X:Cx}
structure yF (X:Cx) (pins:List (Addr×Obj)) (H:Hp) (C:Addr):Prop where
 fr:H C=none
 nl:C≠X.env.locals
 ab:X.s₀.heap.objs.size≤C
 nc:∀ x c,X.env.cells.lookup x=some c→c≠C
 np:∀ p∈X.pn++pins,p.1≠C
theorem yF.go {pins:List (Addr×Obj)} {σ:St} {H:Hp} {s:Shared} {C:Addr} {h':Heap} (o:yF X pins H C) (I:Inv X pins σ H s) (hs:Heap.SameBut C s.heap h'):Inv X pins σ H { s with heap:=h' } :=
 I.turned (t':=s.toks) (fun b ob hb e=>(hs.2 b hb).trans e) o.fr o.nl (.inr o.ab) o.nc o.np
end
end L2
namespace L2
open PySem PySem.Spec PyProof.Rows
def ck (st:Addr) (H H':Hp):Prop:=∀ c o,c≠st→H c=some o→H' c=some o
theorem ck.trans {st:Addr} {H H1 H2:Hp} (a:ck st H H1) (b:ck st H1 H2):ck st H H2:=fun c o n e=>b c o n (a c o n e)
theorem ai.upd {H:Hp} {p:Addr} {o:HO} (h:H p=Option.none):ai H (upd H p o):=fun b u e=>by rw [ah (fe e h)]; exact e
theorem ai.keep {H H':Hp} (h:ai H H') (st:Addr):ck st H H':=fun c o _ e=>h c o e
theorem ck.upd {H:Hp} {p:Addr} {o:HO}:ck p H (upd H p o):=fun c u n e=>by rw [ah n]; exact e
theorem ck.same {H H1 H':Hp} {st:Addr} (a:ai H H1) (h:H st=Option.none) (k:ck st H1 H'):ai H H':=fun c o e=>k c o (fe e h) (a c o e)
def sW:V→Bool
 | .str _=>true
 | _=>false
def mE (t:TE):TE:=fun σ H Q=>∃ M:VK,t σ H M∧∀ v H1,M v H1→Q v H1
def mA (t:TA):TA:=fun σ H Q=>∃ M:List V→Hp→Prop,t σ H M∧∀ v H1,M v H1→Q v H1
theorem PE.m {X:Cx} {e:Expr} {t:TE} (h:PE X e t):PE X e (mE t):=fun pins s σ H Q I ⟨M,h1,h2⟩=>aE (h pins s σ H M I h1) fun _ _ ⟨v,H1,I1,r,q⟩=>⟨v,H1,I1,r,h2 v H1 q⟩
theorem PA.m {X:Cx} {e:List Expr} {t:TA} (h:PA X e t):PA X e (mA t):=fun pos pins s σ H Q I ⟨M,h1,h2⟩=>aE (h pos pins s σ H M I h1) fun _ _ ⟨v,H1,I1,r,q⟩=>⟨v,H1,I1,r,h2 v H1 q⟩
theorem PI.imp {X:Cx} {tg it:Expr} {t t':TI} (h:PI X tg it t) (i:∀ σ H R,t' σ H R→t σ H R):PI X tg it t':=fun pins s σ H R I hw=>h pins s σ H R I (i σ H R hw)
def yB (ta:TA):TI:=fun σ H R=>ta σ H fun vs H1=>match vs with
 | [.int j]=>(-(2 ^ 62)≤j∧j < 2 ^ 62)∧R (ki 0 j.toNat) H1
 | _=>False
theorem Nr {X:Cx} {tg a:Expr} {ta:TA} {p pos:Pos} (hg:Gl X "range") (hm:X.mg "range" = none) (ha:PA X [a] ta) (hs:starEach [a] X.env=[(false,eval a X.env)]:=by rfl):PI X tg (.Call (.Name "range" p) [a] [] pos) (yB ta) :=
 (UR hg hm ha.m hs).imp fun σ H R h=>⟨_,h,fun vs H1 z=>by
  split at z
  ·exact ⟨_,rfl,z.1.1,z.1.2,z.2⟩
  ·exact z.elim⟩
def t9 (K:PySem.W.Frag) (tl:TE):TI:=fun σ H R=>tl σ H fun x H1=>match x with
 | .ref a=>(∃ xs,aL K H1 a xs)∧R (hV K a) H1
 | _=>False
theorem TL {X:Cx} {tg l:Expr} {tl:TE} (hl:PE X l tl):PI X tg l (t9 X.K tl):=(M6 hl.m).imp fun σ H R h=>⟨_,h,fun x H1 z=>by
  split at z
  ·exact ⟨_,rfl,z.1,z.2⟩
  ·exact z.elim⟩
def wH (J:It) (g:TG) (tb:TS) (D:Ends) (σ:St) (H1:Hp):Prop:=∃ W:Nat→Nat→St→Hp→Prop,(∃ m,W 0 m σ H1)∧∀ i m σ H,W i m σ H →
 (J.stop i H∧D.nx σ H)∨(J.go i H∧∃ N:St→Hp→Prop,(∀ σ' H',N σ' H'→∃ m',m' < m∧W (i+1) m' σ' H')∧∀ x H',J.jz i H x H'→g x σ H' fun σ2 H2=>tb { D with nx:=N,ct:=N,bk:=D.nx } σ2 H2)
theorem Pa {wi:TI} {g:TG} {tb:TS} {D:Ends} {σ:St} {H:Hp}:tN wi g tb D σ H=wi σ H fun J H1=>wH J g tb D σ H1:=rfl
theorem R7 {lo:Int} {n:Nat} {g:TG} {tb:TS} {D:Ends} {σ:St} {H:Hp} (Pv:Nat→St→Hp→Prop) (h0:Pv 0 σ H)
  (hs:∀ i σ H,i < n→Pv i σ H→g (.int (lo+i)) σ H fun σ2 H2=>tb { D with nx:=Pv (i+1),ct:=Pv (i+1),bk:=D.nx } σ2 H2) (hd:∀ σ H,Pv n σ H→D.nx σ H):wH (ki lo n) g tb D σ H:=Py Pv h0 hs hd
theorem qf {K:PySem.W.Frag} {a:Addr} {xs:List V} {g:TG} {tb:TS} {D:Ends} {σ:St} {H:Hp} (Pv:Nat→St→Hp→Prop) (h0:Pv 0 σ H) (hl:∀ i σ H,i≤xs.length→Pv i σ H→aL K H a xs)
  (hs:∀ i x σ H,xs[i]?=some x→Pv i σ H→g x σ H fun σ2 H2=>tb { D with nx:=Pv (i+1),ct:=Pv (i+1),bk:=D.nx } σ2 H2) (hd:∀ σ H,Pv xs.length σ H→D.nx σ H):wH (hV K a) g tb D σ H:=N5 Pv h0 hl hs hd
theorem fits {n:Nat} (h:n≤1000):n≤sizeLine:=Nat.le_of_lt (Co h)
theorem gP {n:Nat} (h:n≤1000):n < sizeLine:=Co h
def p6 (t u:TS):TS:=fun D σ H=>∃ P:St→Hp→Prop,t { D with nx:=P } σ H∧∀ σ' H',P σ' H'→u D σ' H'
theorem Rh {X:Cx} {st:Stmt} {rest:List Stmt} {t u:TS} (h1:PS X st t) (h2:cT X rest u):cT X (st::rest) (p6 t u):=by
 intro pins s σ H D I h;obtain ⟨P,ht,hu⟩:=h;have h1':PS X st (fun D' σ' H'=>D'={ D with nx:=P }∧t D' σ' H'):=h1.imp fun _ _ _ z=>z.2;have h2':cT X rest (fun D' σ' H'=>P σ' H'∧D'=D):=fun pins s σ H D' I z=>by
  obtain ⟨z1,rfl⟩:=z;exact h2 pins s σ H D' I (hu σ H z1)
 refine Qk (t:=fun D' σ' H'=>t { D with nx:=P } σ' H'∧D'.rt=D.rt∧D'.bk=D.bk∧D'.ct=D.ct∧∀ σ'' H'',P σ'' H''→D'.nx σ'' H'') (u:=fun D' σ' H'=>P σ' H'∧D'=D) ?_ h2' pins s σ H D I ⟨ht,rfl,rfl,rfl,fun σ'' H'' z=>⟨z,rfl⟩⟩;intro pins s σ H D' I z;obtain ⟨z1,z2,z3,z4,z5⟩:=z;refine aE (h1 pins s σ H { D with nx:=P } I z1) fun f s' hq=>?_;cases f with
 | next=>obtain ⟨σ',H',I',q⟩:=hq; exact ⟨σ',H',I',z5 _ _ q⟩
 | brk=>obtain ⟨σ',H',I',q⟩:=hq; exact ⟨σ',H',I',by rw [z3]; exact q⟩
 | cont=>obtain ⟨σ',H',I',q⟩:=hq; exact ⟨σ',H',I',by rw [z4]; exact q⟩
 | ret u=>obtain ⟨v,σ',H',I',r,q⟩:=hq; exact ⟨v,σ',H',I',r,by rw [z2]; exact q⟩
theorem ao {t u:TS} {D:Ends} {σ:St} {H:Hp} (h:t { D with nx:=u D } σ H):p6 t u D σ H:=⟨u D,h,fun _ _ z=>z⟩
theorem eE {t u:TS} {D:Ends} {σ:St} {H:Hp} (P:St→Hp→Prop) (h1:t { D with nx:=P } σ H) (h2:∀ σ' H',P σ' H'→u D σ' H'):p6 t u D σ H:=⟨P,h1,h2⟩
theorem wA {H:Hp} {x:V} {T:String} (h:clsName H x=some T):rE T "str" = sW x:=by
 unfold clsName at h;split at h
 ·cases h; rfl
 ·cases h; rfl
 ·cases h; rfl
 ·cases h; rfl
 ·split at h
  ·cases h; rfl
  ·cases h; rfl
  ·cases h; rfl
  ·cases h
 ·cases h
theorem VB (H:Hp) (z:Str):clsName H (.str z)=some "str" := rfl
theorem Md (H:Hp) (z:Bool):clsName H (.bl z)=some "bool" := rfl
theorem Vn (H:Hp) (z:Int):clsName H (.int z)=some "int" := rfl
theorem Lp (H:Hp):clsName H .ax=some "NoneType" := rfl
theorem tV (n:String) (h:["bool", "int", "str", "list", "tuple", "dict"].contains n=true):n∈["bool", "int", "str", "list", "tuple", "dict"]:=by simpa using h
def tO (K:PySem.W.Frag):R2:=fun x y H Q=>match y with
 | .ref p=>∃ xs,(aL K H p xs∨bW K H p xs)∧cw x=true∧xs.all cw=true∧Q (.bl (fU x xs)) H
 | _=>False
theorem Nd {X:Cx}:bc X (compareOp .In) (tO X.K):=D5.imp fun x y H Q h=>by
 unfold tO at h;split at h
 ·obtain ⟨xs,h1,h2,h3,h4⟩:=h;exact ⟨_,xs,rfl,h1,h2,h3,h4⟩
 ·exact h.elim
section
variable {X:Cx} {K:PySem.W.Frag}
theorem m8 (h:X.K=K):bc X (compareOp .In) (uQ K):=h ▸ Se
theorem Gn (h:X.K=K):bc X (compareOp .In) (tO K):=h ▸ Nd
theorem kI (h:X.K=K):cE X (.builtin "len") (uc K):=h ▸ Mj
theorem EV (h:X.K=K) (hc:X.calm=true):cE X (.builtin "all") (uL K):=h ▸ LH hc
theorem br (h:X.K=K):eJ X (me K):=h ▸ qx
theorem zw (h:X.K=K):gp X (uh K):=h ▸ Mq
theorem zQ (h:X.K=K):cS X "str.join" (rJoin K):=h ▸ Nt
end
def rQ:Sp:=fun vs H Q _=>match vs with
 | [.ref st,.int b]=>∃ zs:List Int,H st=some (.lst (zs.map V.int))∧(zs.length=1∨zs.length=3)∧0 < b∧b < 1073741824 ∧
   ∀ (d:Int) (zs':List Int) (H':Hp),0≤d→d < b→zs'.length=3→H' st=some (.lst (zs'.map V.int))→ck st H H'→Q (.int d) H'
 | _=>False
def oz (J:It) (tt:TT) (te:TE) (Q:VK) (H0:Hp):Prop:=∃ W:Nat→List V→Nat→Hp→Prop,(∃ m,W 0 [] m H0)∧∀ i ys m H,W i ys m H →
 ys.length≤sizeLine∧((J.stop i H∧∀ l,H l=none→Q (.ref l) (upd H l (.lst ys))) ∨
  (J.go i H∧ys.length < sizeLine∧∀ y H',J.jz i H y H'→tt [some y] H' fun c H2=>if c=true then te [some y] H2 fun z H3=>∃ m',m' < m∧W (i+1) (ys++[z]) m' H3 else ∃ m',m' < m∧W (i+1) ys m' H2))
theorem Fj {wi:TI} {tt:TT} {te:TE} {σ:St} {H:Hp} {Q:VK}:uV wi tt te σ H Q=wi σ H fun J H1=>oz J tt te Q H1:=rfl
theorem Qb {z:Str} {te:TE} {H:Hp} {Q:VK} (f:Nat→V) (hz:z.length≤sizeLine)
  (he:∀ c,c∈z.cps.toList→∀ H1,ai H H1→∀ R:VK,(∀ H2,ai H1 H2→R (f c) H2)→te [some (.str ⟨#[c]⟩)] H1 R)
  (q:∀ H1,ai H H1→∀ l,H1 l=none→Q (.ref l) (upd H1 l (.lst (z.cps.toList.map f)))):oz (uk z) il te Q H:=by
 have hl:z.cps.toList.length=z.length:=by simp [Str.length]
 refine ⟨fun i ys m H1=>ai H H1∧ys=(z.cps.toList.take i).map f∧i≤z.length∧m=z.length - i,⟨_,ai.refl H,rfl,Nat.zero_le _,rfl⟩,?_⟩;rintro i ys m H1 ⟨s1,rfl,hi,rfl⟩;have hlen:((z.cps.toList.take i).map f).length=i:=by rw [List.length_map,List.length_take,hl]; omega
 refine ⟨by rw [hlen]; omega,?_⟩;by_cases h:i < z.length
 ·refine .inr ⟨h,by rw [hlen]; omega,?_⟩;rintro y H' ⟨rfl,c,hc,rfl⟩;have A6:z.cps.toList[i]?=some c:=by simpa using hc
  simp only [il,if_true];refine he c (List.mem_of_getElem? A6) H' s1 _ fun H2 s2=>⟨_,?_,s1.trans s2,?_,h,rfl⟩
  ·omega
  ·rw [List.take_add_one,A6,List.map_append]; rfl
 ·have Kl:i=z.length:=by omega
  refine .inl ⟨Nat.le_of_eq Kl.symm,fun l hl'=>?_⟩;have:=q H1 s1 l hl';rw [List.take_of_length_le (by rw [hl]; omega)];exact this
theorem y3 {K:PySem.W.Frag} {a:Addr} {xs:List V} {tt:TT} {te:TE} {H:Hp} {Q:VK} (p:V→Bool) (f:V→V) (Bc:aL K H a xs) (hz:xs.length≤sizeLine)
  (ht:∀ x,x∈xs→∀ H1,ai H H1→∀ R:Bool→Hp→Prop,(∀ H2,ai H1 H2→R (p x) H2)→tt [some x] H1 R)
  (he:∀ x,x∈xs→p x=true→∀ H1,ai H H1→∀ R:VK,(∀ H2,ai H1 H2→R (f x) H2)→te [some x] H1 R)
  (q:∀ H1,ai H H1→∀ l,H1 l=none→Q (.ref l) (upd H1 l (.lst ((xs.filter p).map f)))):oz (hV K a) tt te Q H:=by
 refine ⟨fun i ys m H1=>ai H H1∧ys=((xs.take i).filter p).map f∧i≤xs.length∧m=xs.length - i,⟨_,ai.refl H,rfl,Nat.zero_le _,rfl⟩,?_⟩;rintro i ys m H1 ⟨s1,rfl,hi,rfl⟩;have hlen:(((xs.take i).filter p).map f).length≤i:=by
  rw [List.length_map];refine Nat.le_trans (List.length_filter_le _ _) ?_;rw [List.length_take]; omega
 refine ⟨by omega,?_⟩;by_cases h:i < xs.length
 ·have hx:xs[i]?=some xs[i]:=List.getElem?_eq_getElem h;refine .inr ⟨⟨xs,xs[i],s1.seq Bc,hx⟩,by omega,?_⟩;rintro y H' ⟨rfl,hy⟩;have kT:xs[i]?=some y:=hy xs (s1.seq Bc);have hm:y∈xs:=List.mem_of_getElem? kT;have e1:(xs.take (i+1)).filter p=(xs.take i).filter p++(if p y=true then [y] else []):=by
   rw [List.take_add_one,kT,List.filter_append];by_cases hp:p y=true
   ·simp [hp]
   ·simp [hp]
  refine ht y hm H' s1 _ fun H2 s2=>?_;by_cases hp:p y=true
  ·rw [if_pos hp];refine he y hm hp H2 (s1.trans s2) _ fun H3 s3=>⟨_,?_,(s1.trans s2).trans s3,?_,h,rfl⟩
   ·omega
   ·rw [e1,if_pos hp,List.map_append]; rfl
  ·rw [if_neg hp];refine ⟨_,?_,s1.trans s2,?_,h,rfl⟩
   ·omega
   ·rw [e1,if_neg hp,List.append_nil]
 ·have Kl:i=xs.length:=by omega
  refine .inl ⟨⟨xs,s1.seq Bc,by omega⟩,fun l hl'=>?_⟩;have:=q H1 s1 l hl';rw [List.take_of_length_le (by omega)];exact this
end L2
namespace L2
open PySem PySem.Spec PyProof.Rows
structure QE (X:Cx) (e:Expr) (t:TE):Prop where
 h:PE X e t
structure QA (X:Cx) (e:List Expr) (t:TA):Prop where
 h:PA X e t
structure QT (X:Cx) (e:Expr) (t:TT):Prop where
 h:PT X e t
structure QW (X:Cx) (e:Expr) (t:TT):Prop where
 h:PW X e t
structure QS (X:Cx) (e:Stmt) (t:TS):Prop where
 h:PS X e t
structure QB (X:Cx) (e:List Stmt) (t:TS):Prop where
 h:cT X e t
structure QI (X:Cx) (tg it:Expr) (t:TI):Prop where
 h:PI X tg it t
structure QG (X:Cx) (e:Expr) (t:TG):Prop where
 h:PG X e t
structure u6 (X:Cx) (e:List Expr) (t:iK):Prop where
 h:qO X e t
structure nq (X:Cx) (e:List Expr) (t:TT):Prop where
 h:oW X e t
structure QO (X:Cx) (e:Option Expr) (t:TO):Prop where
 h:PO X e t
structure QP (X:Cx) (pos:Pos) (ks:List (Option Expr)) (vs:List Expr) (t:List (TE×TE)):Prop where
 h:P8 X pos ks vs t
namespace Dv
section
variable {X:Cx} {a b c:Expr} {ta tb tc:TE} {pos:Pos} {rest:List Expr} {tA tB':TT}
theorem v (i:Nat) {x:Str} {pos:Pos} (hN:X.N[i]?=some x:=by rfl) (hv:pX X.env.scope x:=by first | exact Or.inl rfl | exact Or.inr (Or.inl rfl) | exact Or.inr (Or.inr rfl)) (hd:(x == ("__debug__" : Str))=false:=by decide)
  (cI:(x == ("__classdict__" : Str))=false:=by decide):QE X (.Name x pos) (lV i):=⟨qv i hN hv hd cI⟩
theorem int {i j pos}:QE X (.Constant (.int i) j pos) (tC (.int i)):=⟨T1⟩
theorem bl {b j pos}:QE X (.Constant (.bool b) j pos) (tC (.bl b)):=⟨Ue⟩
theorem ax {j pos}:QE X (.Constant .none j pos) (tC .ax):=⟨Ny⟩
theorem str {x j pos}:QE X (.Constant (.str x) j pos) (tC (.str x)):=⟨Rn⟩
theorem glob {x:Str} (v:V) {u:Value} {pos:Pos} (hm:X.mg x=some u) (r:RelV v u) (hg:Gl X x:=by rfl) (hd:(x == ("__debug__" : Str))=false:=by decide):QE X (.Name x pos) (tC v):=⟨Uk hg hm r hd⟩
theorem js {x:Str} (v:V) {u:Value} {pos:Pos} (hm:X.mg x=none) (hv:bootBuiltins x=some u) (r:RelV v u) (hg:Gl X x:=by rfl) (hn:x ≠ "__name__" := by decide) (hd:(x == ("__debug__" : Str))=false:=by decide):QE X (.Name x pos) (tC v):=⟨Mc hg hm hv r hn hd⟩
theorem op {o:Operator} {r:R2} (ho:bc X (binaryOp o) r) (ha:QE X a ta) (hb:QE X b tb):QE X (.BinOp a o b pos) (gN r ta tb):=⟨Rb ho ha.h hb.h⟩
theorem un {o:UnaryOp} {r:V→Hp→VK→Prop} (ho:qr X (unaryOp o) r) (ha:QE X a ta):QE X (.UnaryOp o a pos) (zP r ta):=⟨ME ho ha.h⟩
theorem cmp {o:CmpOp} {r:R2} (ho:bc X (compareOp o) r) (ha:QE X a ta) (hb:QE X b tb) (hm:behindInMarks o b=false:=by first | exact tK _ (by decide) (by decide) | rfl):QE X (.Compare a [o] [b] pos) (gN r ta tb):=⟨S3 ho ha.h hb.h hm⟩
theorem Ae (ha:QE X a ta) (hb:QE X (.BoolOp .And (b::rest) pos) tb):QE X (.BoolOp .And (a::b::rest) pos) (zm ta tb):=⟨O8 ha.h hb.h⟩
theorem ML (ha:QE X a ta) (hb:QE X (.BoolOp .Or (b::rest) pos) tb):QE X (.BoolOp .Or (a::b::rest) pos) (zp ta tb):=⟨PU ha.h hb.h⟩
theorem one {o} {t:TE} (h:QE X a t):QE X (.BoolOp o [a] pos) t:=⟨MZ h.h⟩
theorem Rj (ha:QE X a ta):QE X (.UnaryOp .Not a pos) (yO ta):=⟨Pn ha.h⟩
theorem ag:QA X [] gg:=⟨Lz⟩
theorem aa {e:Expr} {es:List Expr} {te:TE} {t:TA} (ha:QE X e te) (hr:QA X es t) (hs:noStar e=true:=by rfl):QA X (e::es) (gO te t):=⟨VJ ha.h hr.h hs⟩
theorem call {CX:dh} {k:Nat} {f:Addr} {fd:FuncData} {ps:List Str} {sp:Sp} {bp:List V} {ds:List Value} {E:XK} {x:Str} {p pos:Pos} {e:Expr} {es:List Expr} {t:TA}
  (F:aA X.prog X.w X.K X.mg X.base CX k f fd ps sp) (hr:bB k X.A) (hm:X.mg x=some (.ref f)) (hk:PySem.W.keepIn X.K (.ref f)=true) (hb:Binds X.K fd ps ds) (hd:Vals bp ds) (hx:Passes CX X E)
  (ha:QA X (e::es) t) (hg:Gl X x:=by rfl) (hs:(e::es).all noStar=true:=by rfl) (bF:(x == ("__debug__" : Str))=false:=by decide):QE X (.Call (.Name x p) (e::es) [] pos) (tQ sp bp E t):=⟨Mb F hr hg hm hk hb hd hx ha.h hs bF⟩
theorem cA {x:Str} {p pos:Pos} {e:Expr} {es:List Expr} {t:TA} {id:String} {r:List V→Hp→VK→Prop} (hc:cE X (.builtin id) r) (hm:X.mg x=none) (hv:bootBuiltins x=some (.builtin id)) (ha:QA X (e::es) t)
  (hg:Gl X x:=by rfl) (hs:(e::es).all noStar=true:=by rfl) (hn:x ≠ "__name__" := by decide) (bF:(x == ("__debug__" : Str))=false:=by decide):QE X (.Call (.Name x p) (e::es) [] pos) (l8 r t):=⟨QZ hc hg hm hv ha.h hs hn bF⟩
theorem nE {x:Str} {p pos:Pos} {e:Expr} {es:List Expr} {t:TA} {T:String} {r:List V→Hp→VK→Prop} (hc:cE X (.type T) r) (hm:X.mg x=none) (hv:bootBuiltins x=some (.type T)) (ha:QA X (e::es) t)
  (hg:Gl X x:=by rfl) (hs:(e::es).all noStar=true:=by rfl) (hn:x ≠ "__name__" := by decide) (bF:(x == ("__debug__" : Str))=false:=by decide):QE X (.Call (.Name x p) (e::es) [] pos) (l8 r t):=⟨Lq hc hg hm hv ha.h hs hn bF⟩
section
variable {name:Str} {id:String} {r:V→List V→Hp→VK→Prop} {o e:Expr} {es:List Expr} {to:TE} {t:TA} {apos bw:Pos}
theorem lL (slot:Slot "str" name id) (cf:typeOf (.builtin id)=pure (.type "method_descriptor")) (hm:cS X id r) (ho:QE X o to) (ha:QA X (e::es) t)
  (hs:(e::es).all noStar=true:=by rfl) (aV:decide ((e::es).length+([]:List Keyword).length+(if ([]:List Keyword).isEmpty then 0 else 1) < 30)=true:=by rfl)
  (g7:attributeBase o name X.env (eval o X.env)=eval o X.env:=by rfl) (g9:(apos.endLine == bw.line)=true:=by rfl):QE X (.Call (.Attribute o name apos) (e::es) [] bw) (yU r to t):=⟨K6 slot cf hm ho.h ha.h hs aV g7 g9⟩
theorem ir (slot:Slot "list" name id) (cf:typeOf (.builtin id)=pure (.type "method_descriptor")) (hm:cS X id r) (ho:QE X o to) (ha:QA X (e::es) t)
  (hs:(e::es).all noStar=true:=by rfl) (aV:decide ((e::es).length+([]:List Keyword).length+(if ([]:List Keyword).isEmpty then 0 else 1) < 30)=true:=by rfl)
  (g7:attributeBase o name X.env (eval o X.env)=eval o X.env:=by rfl) (g9:(apos.endLine == bw.line)=true:=by rfl):QE X (.Call (.Attribute o name apos) (e::es) [] bw) (x9 r to t):=⟨PZ slot cf hm ho.h ha.h hs aV g7 g9⟩
end
theorem tS:QO X none v9:=⟨VL⟩
theorem oY (h:QE X a ta):QO X (some a) (ye ta):=⟨Mu h.h⟩
theorem slice {r:V→Option Int→Option Int→Hp→VK→Prop} {lo hi:Option Expr} {tl th:TO} {p2:Pos} (hr:gp X r) (he:QE X a ta) (hl:QO X lo tl) (hu:QO X hi th):QE X (.Subscript a (.Slice lo hi none p2) pos) (wN r ta tl th):=⟨R4 hr he.h hl.h hu.h⟩
theorem ix {r:R2} (hr:eJ X r) (ha:QE X a ta) (hb:QE X b tb) (hs:HI b:=by intro _ _; rfl):QE X (.Subscript a b pos) (gN r ta tb):=⟨Wk hr ha.h hb.h hs⟩
theorem lst {es:List Expr} {t:TA} (h:QA X es t):QE X (.List es pos) (ua t):=⟨LQ h.h⟩
theorem tup {es:List Expr} {x1} {t:TA} (h:QA X es t):QE X (.Tuple es x1 pos) (qW t):=⟨NR h.h⟩
theorem l6:QE X (.Dict [] [] pos) xK:=⟨KH⟩
theorem aY {o:CmpOp} {r:R2} (ho:bc X (compareOp o) r) (ha:QE X a ta) (hb:QE X b tb) (hm:behindInMarks o b=false:=by first | exact tK _ (by decide) (by decide) | rfl):QT X (.Compare a [o] [b] pos) (kh (gN r ta tb)):=⟨VU ho ha.h hb.h hm⟩
theorem zh {o o':CmpOp} {f g:Int→Int→Bool} (ho:bc X (compareOp o) (ie f)) (ho':bc X (compareOp o') (ie g)) (ha:QE X a ta) (hb:QE X b tb) (hc:QE X c tc)
  (hm:lastMarks [o,o'] [b,c]=false:=by with_unfolding_all rfl):QT X (.Compare a [o,o'] [b,c] pos) (yj f g ta tb tc):=⟨MQ ho ho' ha.h hb.h hc.h hm⟩
theorem cu {t:TE} (h:QE X a t) (he:∀ whole,isTrue a X.env whole=(do let v ← whole; standAt a.pos; holding [v] (truthy v)):=by intro _; rfl):QT X a (kh t):=⟨Nf h.h he⟩
theorem cC (ha:QT X a tA):QT X (.UnaryOp .Not a pos) (xi tA):=⟨N3 ha.h⟩
theorem dE (h:QW X a tA):QT X a tA:=⟨h.h.pt⟩
theorem iD (ha:QT X a tA):QW X (.BoolOp .And [a] pos) tA:=⟨SG ha.h⟩
theorem iL (ha:QT X a tA):QW X (.BoolOp .Or [a] pos) tA:=⟨O7 ha.h⟩
theorem w_and (ha:QT X a tA) (hb:QW X (.BoolOp .And (b::rest) pos) tB'):QW X (.BoolOp .And (a::b::rest) pos) (yP tA tB'):=⟨RB ha.h hb.h⟩
theorem w_or (ha:QT X a tA) (hb:QW X (.BoolOp .Or (b::rest) pos) tB'):QW X (.BoolOp .Or (a::b::rest) pos) (yg tA tB'):=⟨LO ha.h hb.h⟩
variable {st:Stmt} {IC:List Stmt} {t u:TS} {tg:Expr} {g:TG}
theorem dM (i:Nat) {x:Str} (hN:X.N.Nodup) (hi:X.N[i]?=some x:=by rfl) (hx:Loc X.env.scope x:=by first | exact Or.inl rfl | exact Or.inr rfl) (hf:X.fn x=true∨X.env.scope.names.lookup x=some .local:=by first | exact .inl rfl | exact .inr rfl):QG X (.Name x pos) (eX i):=⟨V8 hN hi hx hf⟩
theorem E4 {o i:Expr} {to ti:TE} {s:qo} (ho:QE X o to) (hi:QE X i ti) (hs:uz X s) (ha:∀ v,assign (.Subscript o i pos) X.env v=(do
   let ov ← holding [v] (eval o X.env)
   let iv ← holding [v,ov] (eval i X.env)
   standAt pos
   holding [v,ov,iv] (setItem ov iv v)
   release [v,ov,iv] []):=by intro _; rfl):QG X (.Subscript o i pos) (Ag to ti s):=⟨VA ho.h hi.h hs ha⟩
theorem uT:u6 X [] xA:=⟨Uz⟩
theorem j6 {e:Expr} {es:List Expr} {t:TG} {u:iK} (h1:QG X e t) (h2:u6 X es u) (hs:(assignEach (e::es) X.env).map (·.2)=assign e X.env::(assignEach es X.env).map (·.2):=by rfl):u6 X (e::es) (xJ t u):=⟨Si h1.h h2.h hs⟩
theorem tm {K:PySem.W.Frag} {es:List Expr} {k:Nat} {t:iK} {n:Nat} (hK:X.K=K) (hc:X.calm=true) (h:u6 X es t) (hn:(assignEach es X.env).length=n:=by rfl) (aQ:(assignEach es X.env).findIdx? (·.1)=none:=by rfl):QG X (.Tuple es k pos) (xP K n t):=hK ▸ ⟨Q7 hc h.h hn aQ⟩
theorem aS (i:Nat) {x:Str} {e:Expr} {te:TE} {pos':Pos} (hN:X.N.Nodup) (he:QE X e te) (hi:X.N[i]?=some x:=by rfl) (hx:Loc X.env.scope x:=by first | exact Or.inl rfl | exact Or.inr rfl) (hs:swapsWith e (some (.Name x pos')) pos.line X.env=pure false:=by rfl)
  (hf:X.fn x=true∨X.env.scope.names.lookup x=some .local:=by first | exact .inl rfl | exact .inr rfl):QS X (.Assign [.Name x pos'] e pos) (kK te (eX i)):=⟨Vz hN hi hx he.h hs hf⟩
theorem pS {e:Expr} {te:TE} (he:QE X e te) (hg:QG X tg g) (hs:swapsWithSole [tg] e pos.line X.env=pure false:=by rfl) (hw:swappedStores [tg] e X.env=pure none:=by rfl) (h1:(assignEach [tg] X.env).map (·.2)=[assign tg X.env]:=by rfl) :
  QS X (.Assign [tg] e pos) (kK te g):=⟨N8 he.h hg.h hs hw h1⟩
theorem aP (he:QE X a ta):QS X (.Return (some a) pos) (vX ta):=⟨LP he.h⟩
theorem EY:QS X (.Return none pos) xH:=⟨NT⟩
theorem aW (he:QE X a ta) (hs:swapsWith a none pos.line X.env=pure false:=by rfl):QS X (.Expr a pos) (wJ ta):=⟨Mt he.h hs⟩
theorem aX {A B:List Stmt} (hc:QT X a tA) (ha:QB X A t) (hb:QB X B u):QS X (.If a A B pos) (xG tA t u):=⟨Ve hc.h ha.h hb.h⟩
theorem ng {iter:Expr} {body:List Stmt} {wi:TI} {tb:TS} (hp:PassesOwn (model X.prog X.w) X.A X.env X.xe) (hc:X.calm=true) (hi:QI X tg iter wi) (hg:QG X tg g) (hb:QB X body tb) (hs:∀ x,foldedSetIterable iter X.env x=pure x:=by intro _; rfl) :
  QS X (.For tg iter body [] pos) (tN wi g tb):=⟨O1 hp hc hi.h hg.h hb.h hs⟩
theorem nil:QB X [] yZ:=⟨LM⟩
theorem aj (h1:QS X st t):QB X [st] t:=⟨Vh h1.h⟩
theorem cut (h1:QS X st t) (h2:QB X IC u):QB X (st::IC) (p6 t u):=⟨Rh h1.h h2.h⟩
theorem iH {K:PySem.W.Frag} {l:Expr} {tl:TE} (h:X.K=K) (hl:QE X l tl):QI X tg l (t9 K tl):=h ▸ ⟨TL hl.h⟩
theorem Vo {l:Expr} {tl:TE} (hl:QE X l tl):QI X tg l (yG tl):=⟨OF hl.h⟩
theorem LG {ta:TA} {p:Pos} (hm:X.mg "range" = none) (ha:QA X [a] ta) (hg:Gl X "range" := by rfl) (hs:noStar a=true:=by rfl):QI X tg (.Call (.Name "range" p) [a] [] pos) (yB ta):=⟨Nr hg hm ha.h (eG hs)⟩
theorem uZ:nq X [] il:=⟨KZ⟩
theorem Hl (h:QT X c tA):nq X [c] tA:=⟨NU h.h⟩
end
end Dv
end L2
namespace Tx
open PySem PySem.Builtin PySem.StrLaws
end Tx
namespace Tx
open PySem PySem.Builtin PySem.StrLaws
theorem xl {c a:Nat} (h:a=c) (r:List Nat):cut c (a::r)=[]::cut c r:=if_pos h
theorem D3 {c a:Nat} {r:List Nat} {x:List Nat} {y:List (List Nat)} (h:¬ a=c) (e:cut c r=x::y):cut c (a::r)=(a::x)::y:=by
 show (if a=c then _ else _)=_;rw [if_neg h,e]
theorem DL (c:Nat):∀ (t r:List Nat),cut c (t++c::r)=cut c t++cut c r
 | [],r=>xl rfl r
 | a::t,r=>by
  have ih:=DL c t r;show cut c (a::(t++c::r))=_;by_cases h:a=c
  ·rw [xl h,xl h,ih]; rfl
  ·cases e:cut c t with
   | nil=>exact absurd e (TB c t)
   | cons x y =>
    rw [e] at ih;rw [D3 h ih,D3 h e]; rfl
def words (c:Nat) (t:List Nat):List (List Nat):=(cut c t).filter fun w=>decide (w≠[])
theorem yp (c:Nat) (t r:List Nat):words c (t++c::r)=words c t++words c r:=by
 unfold words;rw [DL,List.filter_append]
theorem zq (c:Nat) (r:List Nat):words c (c::r)=words c r:=yp c [] r
theorem HF (c:Nat) (r:List Nat):∀ n:Nat,words c (List.replicate n c++r)=words c r
 | 0=>rfl
 | n+1=>by
  show words c (c::(List.replicate n c++r))=_;rw [zq,HF c r n]
theorem Ic (c:Nat):∀ w:List Nat,c ∉ w→cut c w=[w]
 | [],_=>rfl
 | a::r,h=>by
  unfold cut;rw [if_neg (fun e=>h (by rw [e]; exact List.mem_cons_self)),Ic c r (fun m=>h (List.mem_cons_of_mem _ m))]
theorem Dk (c:Nat) (w:List Nat) (h:c ∉ w) (hn:w≠[]):words c w=[w]:=by
 unfold words;rw [Ic c w h];simp [hn]
theorem uo (c:Nat):∀ t:List Nat,(cut c t).length≤t.length+1
 | []=>Nat.le_refl _
 | a::r=>by
  have ih:=uo c r;unfold cut;split
  ·simp only [List.length_cons]; omega
  ·split
   ·simp
   ·rename_i h t' e;rw [e] at ih;simp only [List.length_cons] at ih ⊢;omega
theorem Fd (t:List Nat) (c:Nat):((cut c t).map S).filter (fun z=>decide (z≠S []))=(words c t).map S:=by
 unfold words;rw [List.filter_map]
 congr 1
 refine List.filter_congr fun w _=>?_;show decide (S w≠S [])=decide (w≠[]);by_cases h:w=[]
 ·simp [h]
 ·have:S w≠S []:=fun e=>h (qZ e);simp [h,this]
theorem Vs (x:List Nat) (c:Nat):Txt.startswith (S x) (S [c])=decide (x.head?=some c):=by
 unfold Txt.startswith;rw [bY,bY];cases x with
 | nil=>simp
 | cons a r =>
  rw [subAt_one (a::r) c 0 (by simp)];simp
theorem RW (x:List Nat) (c:Nat):Txt.endswith (S x) (S [c])=decide (x.getLast?=some c):=by
 unfold Txt.endswith;rw [bY,bY];cases hx:x with
 | nil=>simp
 | cons a r =>
  have hl:(a::r).length - [c].length < (a::r).length:=by simp
  rw [subAt_one (a::r) c _ hl];have e:(a::r)[(a::r).length - [c].length]?=(a::r).getLast?:=by
   rw [List.getLast?_eq_getElem?]; rfl
  rw [e];have:decide (0+[c].length≤(a::r).length)=true:=decide_eq_true (by simp);rw [this,Bool.true_and]
end Tx
namespace L2
open PySem PySem.Spec PyProof.Rows
theorem FC {A:Around} {s:Shared} {l1 l2:List (Str×Tok)} (j:Nat) (h1:j < (strValues l1).toArray.size) (h2:j < (strValues l2).toArray.size) :
  SeqAt.EqAt A s (strValues l1).toArray[j] (strValues l2).toArray[j] (decide ((l1.map (·.1))[j]?=(l2.map (·.1))[j]?)):=by
 have g1:j < l1.length:=by simpa [strValues] using h1
 have g2:j < l2.length:=by simpa [strValues] using h2
 have e1:(strValues l1).toArray[j]=Value.str l1[j].1 l1[j].2:=by simp [strValues]
 have e2:(strValues l2).toArray[j]=Value.str l2[j].1 l2[j].2:=by simp [strValues]
 rw [e1,e2];have e:decide ((l1.map (·.1))[j]?=(l2.map (·.1))[j]?)=(l1[j].1 == l2[j].1):=by
  rw [List.getElem?_map,List.getElem?_map,List.getElem?_eq_getElem g1,List.getElem?_eq_getElem g2];by_cases q:l1[j].1=l2[j].1
  ·simp [q]
  ·simp [q]
 rw [e];exact SeqAt.EqAt.str_str _ _ _ _
theorem all_eq {α:Type} [DecidableEq α] {xs ys:List α} (h:xs.length=ys.length):(List.range xs.length).all (fun j=>decide (xs[j]?=ys[j]?))=decide (xs=ys):=by
 rw [Bool.eq_iff_iff,List.all_eq_true,decide_eq_true_eq];constructor
 ·intro q;apply List.ext_getElem?;intro i;by_cases hi:i < xs.length
  ·exact of_decide_eq_true (q i (List.mem_range.mpr hi))
  ·rw [List.getElem?_eq_none (by omega),List.getElem?_eq_none (by omega)]
 ·rintro rfl j _;simp
section
variable {X:Cx}
theorem EW {pins:List (Addr×Obj)} {σ:St} {H:Hp} {s:Shared} {A:Around} {a b:Addr} {ts us:List Str} (I:Inv X pins σ H s) (ha:H a=some (.lst (ts.map V.str))) (hb:H b=some (.lst (us.map V.str))) (hu:A.units < cLine) :
  SeqAt.RcAt A s (.ref a) (.ref b) (decide (ts=us))∧SeqAt.RcNeAt A s (.ref a) (.ref b) (!decide (ts=us)):=by
 obtain ⟨i1,r1,p1,_⟩:=I.list (aL.of ha);obtain ⟨i2,r2,p2,_⟩:=I.list (aL.of hb);obtain ⟨l1,rfl,e1⟩:=tP r1;obtain ⟨l2,rfl,e2⟩:=tP r2;have n1:(strValues l1).toArray.size=ts.length:=by rw [← e1]; simp [strValues]
 have n2:(strValues l2).toArray.size=us.length:=by rw [← e2]; simp [strValues]
 by_cases h:ts.length=us.length
 ·have hsz:(strValues l1).toArray.size=(strValues l2).toArray.size:=by rw [n1,n2,h]
  have k1:=SeqAt.RcAt.lists (A:=A) p1.isList p2.isList hsz hu (fun j g1 g2=>FC j g1 g2);have k2:=SeqAt.RcNeAt.lists (A:=A) p1.isList p2.isList hsz hu (fun j g1 g2=>FC j g1 g2);rw [n1,e1,e2,all_eq h] at k1 k2;exact ⟨k1,k2⟩
 ·have hsz:((strValues l1).toArray.size != (strValues l2).toArray.size)=true:=by rw [n1,n2]; simpa using h
  have e:decide (ts=us)=false:=decide_eq_false fun z=>h (by rw [z]);rw [e];exact ⟨SeqAt.RcAt.lists_lengths p1.isList p2.isList hsz hu,SeqAt.RcNeAt.lists_lengths p1.isList p2.isList hsz hu⟩
def oi (neg:Bool):R2:=fun x y H Q=>match x,y with
 | .ref a,.ref b=>∃ ts us:List Str,H a=some (.lst (ts.map V.str))∧H b=some (.lst (us.map V.str))∧Q (.bl (neg ^^ decide (ts=us))) H
 | _,_=>False
theorem Oi (hu:X.A.units < cLine):bc X (compareOp .Eq) (oi false):=by
 intro pins s σ H x y v u Q I rx ry h;unfold oi at h;split at h
 ·obtain ⟨ts,us,ha,hb,q⟩:=h;cases rx; cases ry;simp only [Bool.false_bne] at q;exact (EW I ha hb hu).1 _ _ _ _ ⟨.bl _,H,I,rfl,q⟩
 ·exact h.elim
theorem Rp (hu:X.A.units < cLine):bc X (compareOp .NotEq) (oi true):=by
 intro pins s σ H x y v u Q I rx ry h;unfold oi at h;split at h
 ·obtain ⟨ts,us,ha,hb,q⟩:=h;cases rx; cases ry;simp only [Bool.true_bne] at q;exact (EW I ha hb hu).2 _ _ _ _ ⟨.bl _,H,I,rfl,q⟩
 ·exact h.elim
theorem Dv.cR {st:Stmt}:QS X st yW:=⟨U7⟩
end
end L2
namespace Tx
open PySem PySem.Builtin PySem.StrLaws
end Tx
namespace L2
open PySem PySem.Spec PyProof.Rows
end L2
namespace Tx
open PySem PySem.Builtin PySem.StrLaws
end Tx
namespace L2
open PySem PySem.Spec PyProof.Rows
def xB:V→Hp→VK→Prop:=fun x H Q=>match x with
 | .int i=>Q (.int (-i)) H
 | _=>False
theorem iz {X:Cx}:qr X (unaryOp .USub) xB:=fun pins s σ H x v Q I rx h=>Q3 pins s σ H x v Q I rx (by
 unfold xB at h;split at h
 ·exact ⟨_,rfl,h⟩
 ·exact h.elim)
theorem Wd (r:List V) (x:V):gH (r++[x]) Option.none (some (-1))=r:=by
 unfold gH;have e1:HT.bj (r++[x]).length (r++[x]).length (some (-1))=r.length:=by
  unfold HT.bj;simp;omega
 rw [HT.Rq,e1];simp
end L2
namespace L2
open PySem PySem.Spec PyProof.Rows
section
variable {X:Cx} {K:PySem.W.Frag}
def zg (K:PySem.W.Frag):List V→Hp→VK→Prop:=fun xs H Q=>match xs with
 | [.ref p]=>∃ ys,aL K H p ys∧Q (.int ys.length) H
 | _=>False
theorem Mf (h:X.K=K):cE X (.builtin "len") (zg K):=h ▸ DN.imp fun xs H Q h=>by
 unfold zg at h;split at h
 ·obtain ⟨ys,h1,h2⟩:=h;exact ⟨_,_,rfl,.inl ⟨ys,h1,rfl⟩,h2⟩
 ·exact h.elim
def zt (K:PySem.W.Frag):R2:=fun x y H Q=>match x,y with
 | .ref p,.int i=>∃ xs v,aL K H p xs∧cx xs i=some v∧Q v H
 | _,_=>False
theorem MH (h:X.K=K):eJ X (zt K):=h ▸ FV.imp fun x y H Q h=>by
 unfold zt at h;split at h
 ·obtain ⟨xs,v,h1,h2,h3⟩:=h;exact ⟨_,xs,_,v,rfl,rfl,h1,h2,h3⟩
 ·exact h.elim
end
end L2
namespace Tx
end Tx
namespace L2
open PySem
open Sem (wp)
def cO (e:Addr) (c:Value) (od:Option Addr) (h:Heap):Prop:=∃ o,h.get? e=some o∧o.cls=c∧o.dict=od∧∃ vs,o.data=.fields vs
structure Kp (e:Addr) (c:Value) (od:Option Addr) {α:Type} (t:Sem α):Prop where
 out:∀ (M:Model) (Γ:Ctx) (P:α→Pos→Shared→Prop) (Ee:Value→Pos→Shared→Prop) (p:Pos) (s:Shared),cO e c od s.heap→wp M Γ t P Ee p s→wp M Γ t (fun a p' s'=>P a p' s'∧cO e c od s'.heap) Ee p s
section
variable {e:Addr} {c:Value} {od:Option Addr} {α β:Type}
theorem Kp.pure (a:α):Kp e c od (Pure.pure a:Sem α):=⟨fun _ _ _ _ _ _ hd h=>⟨h,hd⟩⟩
theorem Kp.unsupported (w:String):Kp e c od (PySem.unsupported w:Sem α):=⟨fun _ _ _ _ _ _ _ h=>h⟩
theorem Kp.bind {m:Sem α} {f:α→Sem β} (hm:Kp e c od m) (hf:∀ a,Kp e c od (f a)):Kp e c od (m >>= f):=⟨fun M Γ P Ee p s hd h=>by
 rw [Sem.wp_bind'] at h ⊢;exact Sem.wp_mono M Γ m (fun a p' s' h'=>(hf a).out M Γ P Ee p' s' h'.2 h'.1) (fun _ _ _ x=>x) p s (hm.out M Γ _ Ee p s hd h)⟩
theorem Kp.ite {q:Prop} [Decidable q] {t u:Sem α} (ht:Kp e c od t) (hu:Kp e c od u):Kp e c od (if q then t else u):=by split <;> assumption
theorem Kp.load (a:Addr):Kp e c od (PySem.load a):=⟨fun _ _ _ _ _ _ hd h=>let ⟨o,ho,z⟩:=h; ⟨o,ho,z,hd⟩⟩
theorem Kp.stack:Kp e c od PySem.stack:=⟨fun M Γ P Ee p s hd h=>by
 unfold PySem.stack at h ⊢;rw [Sem.wp_stack] at h ⊢;exact ⟨h,hd⟩⟩
theorem cO.push {h:Heap} (x:cO e c od h) (o:Obj):cO e c od (h.push o):=let ⟨u,hu,r⟩:=x; ⟨u,Heap.get?_push_of_some _ hu,r⟩
theorem cO.update {h:Heap} (x:cO e c od h) (a:Addr) (f:Obj→Obj) (hf:∀ o,(f o).cls=o.cls∧(f o).dict=o.dict∧∀ vs,o.data=.fields vs→∃ ws,(f o).data=.fields ws):cO e c od (h.update a f):=by
 obtain ⟨u,hu,h1,h2,vs,h3⟩:=x;by_cases q:a=e
 ·subst q;obtain ⟨ws,h4⟩:=(hf u).2.2 vs h3;exact ⟨f u,Heap.get?_update_self f hu (Obj.isFreed_of_fields h4),(hf u).1.trans h1,(hf u).2.1.trans h2,ws,h4⟩
 ·exact ⟨u,(Heap.get?_update_other _ _ q).trans hu,h1,h2,vs,h3⟩
theorem Kp.update (a:Addr) (f:Obj→Obj) (hf:∀ o,(f o).cls=o.cls∧(f o).dict=o.dict∧∀ vs,o.data=.fields vs→∃ ws,(f o).data=.fields ws):Kp e c od (PySem.update a f) :=
 ⟨fun _ _ _ _ _ _ hd h=>⟨h.1,h.2,hd.update a f hf⟩⟩
theorem M7 (g:Array Value→Array Value) (o:Obj):(Obj.mapFields g o).cls=o.cls∧(Obj.mapFields g o).dict=o.dict∧∀ vs,o.data=.fields vs→∃ ws,(Obj.mapFields g o).data=.fields ws:=by
 obtain ⟨c1,d1,dt,sl⟩:=o;refine ⟨Obj.cls_mapFields _ _,?_,fun vs h=>⟨_,Obj.data_mapFields h g⟩⟩;cases dt <;> rfl
theorem Kp.alloc (o:Obj):Kp e c od (PySem.alloc o):=⟨fun _ _ _ _ _ _ hd h=>⟨h,hd.push o⟩⟩
theorem Kp.field (v:Value) (i:Nat):Kp e c od (PySem.field v i):=⟨fun _ Γ _ _ _ _ hd h=>by
 rw [wp_field_iff] at h ⊢;obtain ⟨a,o,vs,x,h1,h2,h3,h4,h5⟩:=h;exact ⟨a,o,vs,x,h1,h2,h3,h4,h5,hd⟩⟩
theorem Kp.setField (v:Value) (i:Nat) (x:Value):Kp e c od (PySem.setField v i x):=⟨fun _ Γ _ _ _ _ hd h=>by
 rw [wp_setField_iff] at h ⊢;obtain ⟨a,o,vs,h1,h2,h3,h4,h5⟩:=h;exact ⟨a,o,vs,h1,h2,h3,h4,h5,hd.update a _ (M7 _)⟩⟩
local macro_rules | `(tactic| walk_at "kps")=>`(tactic| repeat' with_reducible first | assumption | exact Kp.pure _ | exact Kp.unsupported _ | exact Kp.field _ _ | exact Kp.setField _ _ _ | exact Kp.load _ | exact Kp.stack | exact Kp.alloc _ | apply Kp.ite | apply Kp.bind | intro _ | split)
theorem Kp.newFields (ty:String) (vs:List Value):Kp e c od (PySem.newFields ty vs):=by
 unfold PySem.newFields newObj newObjAsIs;walk_at "kps"
theorem Kp.frameEnvs:Kp e c od PySem.frameEnvs:=by
 unfold PySem.frameEnvs;walk_at "kps"
theorem Kp.isImport (env:Env) (outer:List Env):Kp e c od (behindIsImport env outer):=by
 unfold behindIsImport;walk_at "kps"
theorem Kp.caller:Kp e c od underTheClaimsCaller:=by
 unfold underTheClaimsCaller;walk_at "kps"
theorem Kp.keptBack (env:Env) (i:Bool) (l:List Env):Kp e c od (PySem.keptBack env i l):=by
 have:=Kp.caller (e:=e) (c:=c) (od:=od);cases l <;> unfold PySem.keptBack <;> walk_at "kps"
theorem Kp.ready:∀ l:List Env,Kp e c od (readyFrames l)
 | []=>Kp.pure _
 | env::outer=>by
  have ih:=Kp.ready outer;have h1:=Kp.isImport (e:=e) (c:=c) (od:=od) env outer;have h2:=fun i=>Kp.keptBack (e:=e) (c:=c) (od:=od) env i outer;unfold readyFrames;walk_at "kps"
  all_goals first | exact h2 _ | exact Kp.update _ _ (fun o=>⟨rfl,rfl,fun vs h=>⟨vs,h⟩⟩) | skip
theorem Kp.frameObject (l:List Env):Kp e c od (PySem.frameObject l):=by
 cases l with
 | nil=>exact Kp.pure _
 | cons env outer =>
  have:=Kp.ready (e:=e) (c:=c) (od:=od) (env::outer);unfold PySem.frameObject;walk_at "kps"
theorem Kp.frameOf (env:Env):Kp e c od (PySem.frameOf env):=by
 have h1:=Kp.frameEnvs (e:=e) (c:=c) (od:=od);have h2:=Kp.frameObject (e:=e) (c:=c) (od:=od);unfold PySem.frameOf;walk_at "kps"
 all_goals first | exact h2 _ | skip
theorem Kp.place (f:Addr) (b:Bool):Kp e c od (entryPlaceOf f b):=by
 unfold entryPlaceOf;walk_at "kps"
theorem Kp.setFlight (v:Value) (fr:Option Addr):Kp e c od (PySem.setFlight v fr):=by
 unfold PySem.setFlight;walk_at "kps"
theorem Kp.noteFrame (v:Value) (env:Env):Kp e c od (PySem.noteFrame v env):=by
 have h1:=Kp.frameOf (e:=e) (c:=c) (od:=od) env;have h2:=fun f b=>Kp.place (e:=e) (c:=c) (od:=od) f b;unfold PySem.noteFrame EntryCells.newEntry;walk_at "kps"
 all_goals first | exact h2 _ _ | exact Kp.newFields _ _ | skip
theorem Kp.leaving (env:Env) (v:Value):Kp e c od (PySem.leaving env v):=by
 have h1:=Kp.noteFrame (e:=e) (c:=c) (od:=od) v env;have h2:=Kp.setFlight (e:=e) (c:=c) (od:=od) v none;unfold PySem.leaving;walk_at "kps"
theorem Kp.any {t:Sem α} (k:Kp e c od t) {M:Model} {A:Around} {Q:α→Shared→Prop} {E:Value→Shared→Prop} {s:Shared} (hd:cO e c od s.heap) (h:wpAny M A t Q E s):wpAny M A t (fun a s'=>Q a s'∧cO e c od s'.heap) E s :=
 fun Γ p hΓ=>k.out M Γ _ _ p s hd (h Γ p hΓ)
end
end L2
namespace Tx
open PySem PySem.Builtin PySem.StrLaws
end Tx
namespace Tx
end Tx
namespace L2
end L2
namespace L2
open PySem PySem.Spec PyProof.Rows
theorem bP.there {P:Program} {w:World} {H:Hp} {h:Heap} {a:Addr} {o:HO} (x:bP P w H h a o):∃ u,h.get? a=some u:=by
 cases o with
 | lst xs=>obtain ⟨_,_,_,_,e⟩:=x; exact ⟨_,e⟩
 | tup xs=>obtain ⟨_,_,_,u,e,_⟩:=x; exact ⟨_,e⟩
 | dK kvs=>obtain ⟨_,_,_,_,o,_,_,e,_⟩:=x; exact ⟨_,e⟩
 | dT kvs=>obtain ⟨_,_,_,_,o,_,_,e,_⟩:=x; exact ⟨_,e⟩
 | set S n=>obtain ⟨o,_,_,_,e,_⟩:=x; exact ⟨_,e⟩
 | ins C dx fs=>obtain ⟨_,_,_,e,_⟩:=x; exact ⟨_,e⟩
 | own y=>exact x
 | xd fs=>obtain ⟨_,⟨_,_,_,e,_⟩,_⟩:=x; exact ⟨_,e⟩
 | uA lo hi=>obtain ⟨_,_,_,e⟩:=x; exact ⟨_,e⟩
 | dY ob u=>obtain ⟨e,_⟩:=x; exact ⟨_,e⟩
 | km ps=>exact ⟨_,(show h.get? a=some _ from x)⟩
 | met f y=>exact ⟨_,(show h.get? a=some _ from x)⟩
 | ext φ=>obtain ⟨_,e,_⟩:=x; exact e
def pW (B:Heap) (fs:List Addr) (h:Heap) (H':Hp) (h':Heap):Prop :=
 ∀ b o,h'.get? b=some o→b ∉ fs→((∃ u,h.get? b=some u)∨∃ u,H' b=some u)→B.get? b=some o
theorem DH {P:Program} {w:World} {fs:List Addr} {H H':Hp} {h h1 h2 B:Heap} (u:Un fs [] H H' h h1) (aC:bS P w H' h1) (hf:∀ b∈fs,H b=none∧∃ o,h.get? b=some o∧∀ vs,o.data≠.fields vs) (fL:pW B fs h H' h1)
  (st:B.StaysIn h2) (up:h1.UpToSlots h2):Un fs [] H H' h h2∧bS P w H' h2:=by
 have kB:∀ b o,h1.get? b=some o→b ∉ fs→((∃ u,h.get? b=some u)∨∃ u,H' b=some u)→h2.get? b=some o:=fun b o e hb z=>st b o (fL b o e hb z);have fr:∀ b∈fs,∀ o,h.get? b=some o→∃ sl,h2.get? b=some { o with slots:=sl }:=fun b hb o e=>by
  obtain ⟨n,o',e',nf⟩:=hf b hb;rw [e] at e'; cases e';obtain ⟨sl,e1⟩:=u.slot b o e n hb (by simp);obtain ⟨sl',e2⟩:=up b _ e1 nf;exact ⟨sl',e2⟩
 refine ⟨⟨fun b o q n hb hx=>kB b o (u.keep b o q n hb hx) hb (.inl ⟨o,q⟩),fun b o q n hb hx=>fr b hb o q,u.free,fun b o q hx=>?_,u.fo,u.eZ,u.fE⟩,fun a v e=>?_⟩
 ·by_cases hb:b∈fs
  ·obtain ⟨sl,e⟩:=fr b hb o q;exact ⟨_,e⟩
  ·obtain ⟨o',e1⟩:=u.there b o q hx;exact ⟨o',kB b o' e1 hb (.inl ⟨o,q⟩)⟩
 ·have tr:∀ b,(∃ u,H' b=some u)→b ∉ fs:=fun b ⟨v',e'⟩ hb=>by
   obtain ⟨n,o,ho,_⟩:=hf b hb;have:=u.free b o ho n (by simp);rw [e'] at this; cases this
  refine (aC a v e).ei (fun b x hb q=>?_) (fun _ q=>q) fun _ _ q=>q;have hs:∃ u,H' b=some u:=by
   rcases hb with rfl | hb
   ·exact ⟨v,e⟩
   ·exact ⟨_,hb⟩
  exact kB b x q (tr b hs) (.inr hs)
structure md (P:Program) (w:World) (outer:List Env) (H:Hp) (s:Shared) (ea C:Addr) (od:Option Addr) (H':Hp) (s':Shared):Prop where
 os:s'.os=s.os
 bare:AllBare s'.gens
 un:Un (bH outer) [] H H' s.heap s'.heap
 aC:bS P w H' s'.heap
 free:H' ea=none
 new:s.heap.get? ea=none
 hd:cO ea (.ref C) od s'.heap
 Cq:∃ B a0,Heap.FlyingW B outer ea (.ref C) a0 s'.heap∧pW B (bH outer) s.heap H' s'.heap
def cm (P:Program) (w:World):dh:=fun outer H s E e s'=>∃ ea C od H',e=.ref ea∧md P w outer H s ea C od H' s'∧E (.ref C) od H'
section
variable {X:Cx} {pins:List (Addr×Obj)} {σ:St} {H H':Hp} {s s':Shared} {ea C:Addr} {od:Option Addr}
theorem Inv.DF (I:Inv X pins σ H s):∀ b∈bH X.stack,H b=none∧∃ o,s.heap.get? b=some o∧∀ vs,o.data≠.fields vs:=fun b hb=>⟨I.tY b hb,(I.stack.mem hb).2⟩
structure Own (X:Cx):Prop where
 cM:X.stack=X.env::X.outer
 frame:X.env.frame=some X.env.locals
 ex:X.ex=[]
theorem Inv.xv {h1 B:Heap} {a0:Value} (I:Inv X pins σ H s) (O:Own X) (os:s'.os=s.os) (bare:AllBare s'.gens) (un:Un (bH X.stack) [] H H' s.heap h1) (aC:bS X.prog X.w H' h1) (free:H' ea=none) (new:s.heap.get? ea=none)
  (fL:pW B (bH X.stack) s.heap H' h1) (fl:Heap.FlyingW B X.outer ea (.ref C) a0 s'.heap) (up:h1.UpToSlots s'.heap) (hd:cO ea (.ref C) od s'.heap):md X.prog X.w X.outer X.H₀ X.s₀ ea C od H' s':=by
 obtain ⟨u2,hok2⟩:=DH un aC I.DF fL fl.1 up;have A8:bH X.stack=X.env.locals::X.fs:=by
  rw [O.cM];unfold bH;rw [List.filterMap_cons,O.frame];rfl
 have sV:∀ b o,X.s₀.heap.get? b=some o→b≠X.env.locals:=fun b o e=>Nat.ne_of_lt (Nat.lt_of_lt_of_le (Heap.lt_size e) I.ok.above);have nx:∀ b:Addr,b ∉ X.ex:=fun b=>by rw [O.ex]; simp
 have eO:∀ b o,X.s₀.heap.get? b=some o→b ∉ X.fs→b ∉ bH X.stack:=fun b o e hb z=>by
  rw [A8] at z;rcases List.mem_cons.mp z with q | q
  ·exact sV b o e q
  ·exact hb q
 have Lfree:H' X.env.locals=none:=by
  obtain ⟨m,⟨o,_,_,ho,_⟩,_⟩:=I.loc;exact un.free _ o ho I.free (by simp)
 refine ⟨os.trans I.os,bare,⟨fun b o q n hb _=>?_,fun b o q n hb _=>?_,fun b o q n _=>?_,fun b o q _=>?_,fun b xs q=>?_,fun b o v q=>?_,fun b ps q=>?_⟩,hok2,free,?_,hd,B,a0,fl,fun b o e hb z=>?_⟩
 ·exact u2.keep b o (I.base.keep b o q n hb (nx b)) (I.base.free b o q n (nx b)) (eO b o q hb) (by simp)
 ·obtain ⟨sl,e1⟩:=I.base.slot b o q n hb (nx b);obtain ⟨sl',e2⟩:=u2.slot b _ e1 (I.base.free b o q n (nx b)) (by rw [A8]; exact List.mem_cons_of_mem _ hb) (by simp);exact ⟨sl',e2⟩
 ·obtain ⟨o',e1⟩:=I.base.there b o q (nx b);exact u2.free b o' e1 (I.base.free b o q n (nx b)) (by simp)
 ·obtain ⟨o',e1⟩:=I.base.there b o q (nx b);exact u2.there b o' e1 (by simp)
 ·exact u2.fo b xs (I.base.fo b xs q)
 ·exact u2.eZ b o v (I.base.eZ b o v q)
 ·obtain ⟨m1,e1⟩:=I.base.fE b ps q;obtain ⟨m2,e2⟩:=u2.fE b _ e1;exact ⟨m1++m2,by rw [e2,Array.append_assoc]⟩
 ·cases q:X.s₀.heap.get? ea with
  | none=>rfl
  | some u =>
   obtain ⟨u',e'⟩:=I.base.there ea u q (nx ea);rw [new] at e'; cases e'
 ·have hn:b ∉ bH X.stack:=fun z'=>by
   rw [A8] at z';rcases List.mem_cons.mp z' with q | q
   ·rcases z with ⟨o',e'⟩ | ⟨v,e'⟩
    ·exact sV b o' e' q
    ·rw [q,Lfree] at e'; cases e'
   ·exact hb q
  have hs:∃ o',h1.get? b=some o'∧((∃ u,s.heap.get? b=some u)∨∃ u,H' b=some u):=by
   rcases z with ⟨o',e'⟩ | ⟨v,e'⟩
   ·obtain ⟨o2,e2⟩:=I.base.there b o' e' (nx b);obtain ⟨o3,e3⟩:=un.there b o2 e2 (by simp);exact ⟨o3,e3,.inl ⟨o2,e2⟩⟩
   ·obtain ⟨o3,e3⟩:=(aC b v e').there;exact ⟨o3,e3,.inr ⟨v,e'⟩⟩
  obtain ⟨o3,e3,z3⟩:=hs;have e4:=fL b o3 e3 hn z3;have e5:=fl.1 b o3 e4;rw [e] at e5; cases e5;exact e4
theorem Inv.MY {M:Model} {A:Around} {E:Value→Shared→Prop} (I:Inv X pins σ H s) (O:Own X) (hA:A.frames=some X.stack) (F:md X.prog X.w X.stack H s ea C od H' s') :
  wpAny M A (leaving X.env (.ref ea)) (fun _ s''=>md X.prog X.w X.outer X.H₀ X.s₀ ea C od H' s'') E s':=by
 obtain ⟨B,a0,fl,fL⟩:=F.Cq;have fl':=fl;rw [O.cM] at fl' hA;refine aE ((Kp.leaving X.env (.ref ea)).any F.hd (wpAny_leaves_onW (Q:=fun _ s''=>∃ h',s''={ s' with heap:=h' }∧Heap.FlyingW B X.outer ea (.ref C) a0 h'∧s'.heap.UpToSlots h') hA O.frame fl' fun h' x1 x2=>⟨h',rfl,x1,x2⟩)) fun _ s'' ⟨⟨h',e,x1,x2⟩,hd⟩=>?_;subst e;exact I.xv (s':={ s' with heap:=h' }) O F.os F.bare F.un F.aC F.free F.new fL x1 x2 hd
theorem ES {h h':Heap} {e:Addr} {cls:Value} {args:List Value} (hx:Heap.MadeExcOf h h' e cls args):cO e cls none h':=by
 obtain ⟨t,he,_⟩:=hx.there;exact ⟨_,he,rfl,rfl,_,rfl⟩
theorem Inv.Pf {M:Model} {A:Around} {E:Value→Shared→Prop} {h':Heap} {vs:List Value} (I:Inv X pins σ H s) (O:Own X) (hA:A.frames=some X.stack) (hx:Heap.MadeExcOf s.heap h' ea (.ref C) vs) :
  wpAny M A (leaving X.env (.ref ea)) (fun _ s''=>md X.prog X.w X.outer X.H₀ X.s₀ ea C none H s'') E { s with heap:=h' }:=by
 have aQ:(PySem.W.hideAll s.heap (bH X.stack)).StaysIn s.heap:=fun b o q=>PySem.W.of_hideAll _ q;have jR:s.heap.FunFrames (PySem.W.hideAll s.heap (bH X.stack)) X.stack:=PySem.W.funFrames_hide I.stack fun env he a ha=>List.mem_filterMap.mpr ⟨env,he,ha⟩;have kW:H ea=none:=by
  cases q:H ea with
  | none=>rfl
  | some u =>
   obtain ⟨o,e⟩:=(I.aC ea u q).there;have:=hx.new;rw [e] at this; cases this
 have fL:pW (PySem.W.hideAll s.heap (bH X.stack)) (bH X.stack) s.heap H h':=fun b o e hb z=>by
  have hs:∃ u,s.heap.get? b=some u:=by
   rcases z with z | ⟨v,z⟩
   ·exact z
   ·exact (I.aC b v z).there
  obtain ⟨u,eu⟩:=hs;have:=hx.keeps b u eu;rw [e] at this; cases this;exact PySem.W.hideAll_get _ eu hb
 generalize PySem.W.hideAll s.heap (bH X.stack)=B at aQ jR fL;have hfr':=jR;rw [O.cM] at hfr' hA;refine aE ((Kp.leaving X.env (.ref ea)).any (s:={ s with heap:=h' }) (ES hx) (wpAny_leaves_madeW (s:={ s with heap:=h' }) (Q:=fun _ s''=>∃ h2 t,s''={ s with heap:=h2 }∧Heap.FlyingW B X.outer ea (.ref C) (.ref t) h2∧h'.UpToSlots h2) hA O.frame aQ hfr' hx
  fun h2 t x1 _ _ x4=>⟨h2,t,rfl,x1,x4⟩)) fun _ s'' ⟨⟨h2,t,e,x1,x4⟩,hd⟩=>?_
 subst e;exact I.xv (s':={ s with heap:=h2 }) O rfl I.bare (Un.kept hx.keeps) (I.aC.kept hx.keeps) kW hx.new fL x1 x4 hd
structure kG (X:Cx) (R:St→XK):Prop where
 pass:∀ (pins:List (Addr×Obj)) (σ:St) (H:Hp) (s:Shared) (e:Value) (s':Shared),Inv X pins σ H s→cm X.prog X.w X.stack H s (R σ) e s'→X.xe e s'
structure Raises (X:Cx) (R:St→XK):Prop where
 made:∀ (pins:List (Addr×Obj)) (σ:St) (H:Hp) (s:Shared) (h':Heap) (ea C:Addr) (vs:List Value),Inv X pins σ H s→Heap.MadeExcOf s.heap h' ea (.ref C) vs→R σ (.ref C) none H→X.xe (.ref ea) { s with heap:=h' }
theorem cG {P:Program} {w:World} {K:PySem.W.Frag} {mg:Str→Option Value} {base:Heap} {N:List Str} {qual:Str} {scope:Scope} {f:Addr} {cd:Value} {A:Around} {outer:List Env} {s₀:Shared} {H₀:Hp} {E:XK} :
  kG (fX (cm P w) P w K mg base N qual scope f cd A outer s₀ H₀ E) (fun _=>E) where
 pass:=fun pins σ H s e s' I hc=>by
  obtain ⟨ea,C,od,H',rfl,F,hE⟩:=hc;exact aE (I.MY ⟨rfl,rfl,rfl⟩ I.ok.frames F) fun _ s'' z=>⟨ea,C,od,H',rfl,z,hE⟩
theorem Au {P:Program} {w:World} {K:PySem.W.Frag} {mg:Str→Option Value} {base:Heap} {N:List Str} {qual:Str} {scope:Scope} {f:Addr} {cd:Value} {A:Around} {outer:List Env} {s₀:Shared} {H₀:Hp} {E:XK} :
  Raises (fX (cm P w) P w K mg base N qual scope f cd A outer s₀ H₀ E) (fun _=>E) where
 made:=fun pins σ H s h' ea C vs I hx hE=>aE (I.Pf ⟨rfl,rfl,rfl⟩ I.ok.frames hx) fun _ s'' z=>⟨ea,C,none,H,rfl,z,hE⟩
def yA (sp:Sp) (bp:List V) (R:St→XK) (t:TA):TE:=fun σ H Q=>t σ H fun vs H1=>sp (vs++bp) H1 Q (R σ)
section
variable {k:Nat} {f:Addr} {fd:FuncData} {ps:List Str} {sp:Sp} {bp:List V} {ds:List Value} {R:St→XK} {x:Str} {p pos:Pos} {e:Expr} {es:List Expr} {t:TA}
theorem Eo {Q:VK} {us:List Value} {vs:List V} (F:aA X.prog X.w X.K X.mg X.base (cm X.prog X.w) k f fd ps sp) (hr:bB k X.A) (hb:Binds X.K fd ps ds) (hd:Vals bp ds) (hx:kG X R)
  (I:Inv X pins σ H s) (r:Vals vs us) (h:sp (vs++bp) H Q (R σ)):wpAny (model X.prog X.w) X.A (call (.ref f) us) (EP X pins σ Q) X.xe s:=by
 have r2:Vals (vs++bp) (us++ds):=r.append hd;have hl:(us++ds).length=ps.length:=by rw [← r2.length]; exact F.len _ _ _ _ h
 refine wpAny_call (codeAny_mono (F.run X.A X.stack s H ⟨us,[]⟩ (us++ds) (vs++bp) Q (R σ) hr I.qE (hb s us I.bQ hl) r2 h) fun r s' hq=>?_);cases r with
 | error e=>exact hx.pass pins σ H s e s' I hq
 | ok fl =>
  cases fl with
  | ret u=>exact I.after hq
  | next=>exact False.elim hq
  | brk=>exact False.elim hq
  | cont=>exact False.elim hq
theorem RT (F:aA X.prog X.w X.K X.mg X.base (cm X.prog X.w) k f fd ps sp) (hr:bB k X.A) (hg:Gl X x) (hm:X.mg x=some (.ref f)) (hk:PySem.W.keepIn X.K (.ref f)=true) (hb:Binds X.K fd ps ds) (hd:Vals bp ds) (hx:kG X R)
  (ha:PA X (e::es) t) (hs:(e::es).all noStar=true:=by rfl) (bF:(x == ("__debug__" : Str))=false:=by decide):PE X (.Call (.Name x p) (e::es) [] pos) (yA sp bp R t):=by
 have hs':=hs;rw [List.all_cons,Bool.and_eq_true] at hs';intro pins s σ H Q I h;refine wpAny_Call_Name_kw (jv I hg hm ?_ bF);refine PySem.W.callWith_K (h₀:=X.base) I.ok.mod.gK hk (aE (ha pos pins s σ H _ I h) fun us s1 ⟨vs,H1,I1,r,q⟩=>⟨I1.bQ,?_⟩) (eG hs'.1) (gq hs'.2);exact Eo F hr hb hd hx I1 r q
end
end
abbrev qq:List Value:=[.type "ValueError",.type "Exception",.type "BaseException",.type "object"]
theorem Rz {K:PySem.W.Frag} {h:Heap} {C:Addr} {Kn:List Value} {newId:String} (X:K.In h) (q:PySem.W.excIn K C Kn newId=true) :
  ∃ bm N nm q bs hdct sn sub ab col dd k0 k1 k2 k3 k5 mN,h.get? C=some (excClassObj nm q C N bs bm hdct sn sub ab col dd k0 k1 k2 k3 k5 newId)∧h.Ns N mN∧mN "__init__" = none∧OwnTail h Kn bm:=by
 unfold PySem.W.excIn at q;split at q
 ·rename_i dd cd sl ho;split at q
  ·rename_i C' bm k0 k1 k2 k3 n k5 hm hs;simp only [Bool.and_eq_true,beq_iff_eq,Bool.not_eq_true'] at q;obtain ⟨⟨⟨⟨⟨q1,q2⟩,q3⟩,q4⟩,q5⟩,q6⟩:=q;subst q1 q2;obtain ⟨nm,bs,mro,ns,qn,hd,sn,sub,ab,col,del⟩:=cd;dsimp only at hm q3 q5 q6;subst hm q3;have e1:sl=#[k0,k1,k2,k3,some (.builtin n),k5]:=by
    obtain ⟨l⟩:=sl;simp only at hs;rw [hs]
   subst e1;exact ⟨bm,ns,nm,qn,bs,hd,sn,sub,ab,col,dd,k0,k1,k2,k3,k5,_,X _ _ ho,.of_isNs (PySem.W.isNs_of_in X q5),PySem.W.nsMap_none_of_in X q5 q6,PySem.W.tail_of_in X q4⟩
  ·cases q
 ·cases q
def As (C:Addr) (R:St→XK) (t:TA):TS:=fun _ σ H=>t σ H fun vs H1=>vs.length≤sizeLine∧R σ (.ref C) none H1
theorem OA {X:Cx} {R:St→XK} {x:Str} {C:Addr} {e:Expr} {es:List Expr} {t:TA} {np bw pos:Pos} (hx:Raises X R) (hc:X.calm=true) (hm:X.mg x=some (.ref C)) (q:PySem.W.excIn X.K C qq "ValueError.__new__" = true) (ha:PA X (e::es) t)
  (hg:Gl X x:=by rfl) (hs:(e::es).all noStar=true:=by rfl) (bF:(x == ("__debug__" : Str))=false:=by decide):PS X (.Raise (some (.Call (.Name x np) (e::es) [] bw)) none pos) (As C R t):=by
 have hs':=hs;rw [List.all_cons,Bool.and_eq_true] at hs';intro pins s σ H D I h;obtain ⟨bm,N,nm,qn,bs,hdct,sn,sub,ab,col,dd,k0,k1,k2,k3,k5,mN,hC,hN,hni,T⟩:=Rz I.ok.mod.gK q;refine wpAny_Raise_call_subT (C:=C) (nm:=nm) (q:=qn) (N:=N) (bs:=bs) (bm:=bm) (hdct:=hdct) (sn:=sn) (sub:=sub) (ab:=ab) (col:=col) (dd:=dd) (k0:=k0) (k1:=k1) (k2:=k2) (k3:=k3) (k5:=k5)
  PySem.F.excBase_ValueError (mN:=mN) (T.hasType PySem.F.excBase_ValueError.hasBase) (I.ok.hd hc) (by rw [eG hs'.1]; exact gq hs'.2) hni (jv I hg hm ⟨rfl,?_⟩ bF)
 have ha':=ha bw pins s σ H _ I h;rw [eG hs'.1] at ha' ⊢;refine Calls.evalArgs_plain (aE ha' fun us s2 ⟨vs,H2,I2,r,z,hR⟩=>?_);exact ⟨rfl,by rw [← r.length]; exact z,I2.bk _ _ hC,hN.keeps I2.bk,T.keeps I2.bk,fun h' ea hm'=>hx.made pins σ H2 s2 h' ea C us I2 hm' hR⟩
end L2
namespace L2
open PySem PySem.Spec PyProof.Rows
def Eg (ea C:Addr) (od:Option Addr):HO:=.ext (cO ea (.ref C) od)
abbrev Cx.lK (X:Cx) (v:Value):Cx:={ X with A:=X.A.mark (some v),calm:=false,xe:=fun _ _=>False }
abbrev Cx.lE (X:Cx) (pins:List (Addr×Obj)) (R:St→XK):Cx:={ X with pn:=X.pn++pins,xe:=fun e s'=>∃ (σ':St) (H H':Hp) (s:Shared) (ea C:Addr) (od:Option Addr),Inv X pins σ' H s∧e=.ref ea∧md X.prog X.w X.stack H s ea C od H' s'∧R σ' (.ref C) od H' }
section
variable {X:Cx} {pins pins':List (Addr×Obj)} {σ:St} {H H':Hp} {s s':Shared} {R:St→XK} {v:Value}
theorem Inv.lK (I:Inv X pins σ H s) (v:Value):Inv (X.lK v) pins σ H s :=
 ⟨⟨I.ok.mod,I.ok.kind,I.ok.glob,I.ok.blt,I.ok.above,I.ok.inj,I.ok.has,I.ok.kD,(fun z=>Bool.noConfusion z),I.ok.frames,I.ok.cM,I.ok.pU,I.ok.bs,I.ok.gr,I.ok.ku,I.ok.kC,I.ok.fb,I.ok.iG⟩,
  I.os,I.bare,I.base,I.loc,I.cell,I.free,I.eV,I.pin,I.aC,I.len⟩
theorem Inv.uE (I:Inv (X.lK v) pins σ H s) (ok:X.Ok):Inv X pins σ H s:=⟨ok,I.os,I.bare,I.base,I.loc,I.cell,I.free,I.eV,I.pin,I.aC,I.len⟩
theorem Inv.lE (I:Inv X pins σ H s) (R:St→XK):Inv (X.lE pins R) [] σ H s :=
 ⟨⟨I.ok.mod,I.ok.kind,I.ok.glob,I.ok.blt,I.ok.above,I.ok.inj,I.ok.has,I.ok.kD,I.ok.hd,I.ok.frames,I.ok.cM,I.ok.pU,I.ok.bs,I.ok.gr,I.ok.ku,I.ok.kC,I.ok.fb,I.ok.iG⟩,
  I.os,I.bare,I.base,I.loc,I.cell,I.free,I.eV,fun p hp=>I.pin p (by simpa using hp),I.aC,I.len⟩
theorem Inv.rD (I:Inv (X.lE pins R) pins' σ H s):Inv X pins σ H s :=
 ⟨⟨I.ok.mod,I.ok.kind,I.ok.glob,I.ok.blt,I.ok.above,I.ok.inj,I.ok.has,I.ok.kD,I.ok.hd,I.ok.frames,I.ok.cM,I.ok.pU,I.ok.bs,I.ok.gr,I.ok.ku,I.ok.kC,I.ok.fb,I.ok.iG⟩,
  I.os,I.bare,I.base,I.loc,I.cell,I.free,I.eV,fun p hp=>I.pin p (List.mem_append_left _ hp),I.aC,I.len⟩
theorem Lh:kG (X.lE pins R) R:=⟨fun pins' σ H s e s' I hc=>by
 obtain ⟨ea,C,od,H',rfl,F,hE⟩:=hc;exact ⟨σ,H,H',s,ea,C,od,I.rD,rfl,F,hE⟩⟩
theorem Inv.Dw {a:Addr} {o:HO} (I:Inv X pins σ H s) (hn:H a=none) (n0:X.s₀.heap.get? a=none) (nL:a≠X.env.locals) (nC:∀ x c,X.env.cells.lookup x=some c→c≠a) (nP:∀ p∈X.pn++pins,p.1≠a)
  (new:bP X.prog X.w (upd H a o) s.heap a o):Inv X pins σ (upd H a o) s:=by
 have ne:∀ b u,H b=some u→b≠a:=fun b u e=>fe e hn;have n0':∀ b u,X.s₀.heap.get? b=some u→b≠a:=fun b u e z=>by rw [z,n0] at e; cases e
 refine ⟨I.ok,I.os,I.bare,⟨I.base.keep,I.base.slot,fun b u e n hx=>by rw [ah (n0' b u e)]; exact I.base.free b u e n hx,I.base.there,fun b xs e=>by have:=I.base.fo b xs e; rw [ah (ne b _ this)]; exact this,
  fun b u v e=>by have:=I.base.eZ b u v e; rw [ah (ne b _ this)]; exact this,fun b ps e=>?_⟩,I.loc,I.cell,by rw [ah (Ne.symm nL)]; exact I.free,fun x c e=>by rw [ah (nC x c e)]; exact I.eV x c e,fun p hp=>?_,fun b u e=>?_,I.len⟩
 ·obtain ⟨m,e1⟩:=I.base.fE b ps e;exact ⟨m,by rw [ah (ne b _ e1)]; exact e1⟩
 ·obtain ⟨e1,e2,r⟩:=I.pin p hp;exact ⟨e1,by rw [ah (nP p hp)]; exact e2,r⟩
 ·by_cases hb:b=a
  ·subst hb;rw [ay] at e; cases e;exact new
  ·rw [ah hb] at e;exact (I.aC b u e).ei (fun _ _ _ q=>q) (fun c q=>by rw [ah (ne c _ q)]; exact q) fun c xs q=>by rw [ah (ne c _ q)]; exact q
end
end L2
namespace L2
open PySem PySem.Spec PyProof.Rows
structure p7 (K:PySem.W.Frag) (C:Addr):Prop where
 ha:PySem.W.findIn K (.ref C) "__class__" = some (some (.builtin "object.__class__"))
 hn:PySem.W.specialIn K (.builtin "object.__class__") "__get__" = some (some (.builtin "getset_descriptor.__get__"))
 dF:PySem.W.takesIn K (.builtin "object.__class__")=some true
 hm:PySem.W.mroIn K C (.type "object")=some true
 qp:PySem.W.findIn K (.ref C) "__getattribute__" = some (some (.builtin "BaseException.__getattribute__"))
 Wj:PySem.W.findIn K (.ref C) "__getattr__" = some none
 hb:PySem.W.mroIn K C (.type "BaseException")=some true
theorem mY {M:Model} {h:Heap} {x C:Addr} {od:Option Addr} (I:cO x (.ref C) od h):PySem.W.Looks M h (typeOf (.ref x)) (.ref C):=by
 obtain ⟨o,e,c,_⟩:=I;exact c ▸ (PySem.W.Looks.ld e).andThen .now
theorem yY {K:PySem.W.Frag} {C:Addr} {b:Value} {r:Bool} (h:PySem.W.mroIn K C b=some r):∃ c d cd sl,K.lookup C=some ⟨c,d,.cls cd,sl⟩:=by
 obtain ⟨cd,cI,_⟩:=Option.bind_eq_some_iff.mp h;unfold PySem.W.clsIn at cI;split at cI
 ·rename_i c' d' cd' sl' ho;exact ⟨_,_,_,_,ho⟩
 ·cases cI
section
variable {prog:Program} {w:World} {A:Around} {E:Value→Shared→Prop} {s:Shared} {K:PySem.W.Frag} {x C:Addr} {od:Option Addr}
theorem KN {M:Model} {h:Heap} {name:Str} {a g:Value} (X:K.In h) (ha:PySem.W.findIn K (.ref C) name=some (some a)) (hn:PySem.W.specialIn K a "__get__" = some (some g)) (dF:PySem.W.takesIn K a=some true) :
  PySem.W.Looks M h (Builtin.ObjectAttr.find (.ref x) (.ref C) name) (.bind g a):=by
 have L1:=PySem.W.looks_findIn (M:=M) X ha;have L2:PySem.W.Looks M h (Builtin.ObjectAttr.getOf (some a)) (some g):=PySem.W.looks_specialIn X hn;have L3:=PySem.W.looks_takesIn (M:=M) X dF;unfold Builtin.ObjectAttr.find;refine L1.andThen (L2.andThen ?_);have L4:PySem.W.Looks M h (Builtin.ObjectAttr.dataDescriptor? (some a) (some g)) (some (g,a)):=by
  unfold Builtin.ObjectAttr.dataDescriptor?;exact L3.andThen .now
 exact L4.andThen (PySem.W.Looks.tag .now)
open PySem.W in
open Builtin Builtin.ObjectAttr Builtin.Getset_descriptor in
theorem Qp {R:Result→Shared→Prop} {tp:Value} (Z:p7 K C) (X:K.In s.heap) (I:cO x (.ref C) od s.heap) (h:R (.ok (.ret (.ref C))) s) :
  codeAny (model prog w) A (.call (.builtin "getset_descriptor.__get__") ⟨[.builtin "object.__class__",.ref x,tp],[]⟩) R s:=by
 obtain ⟨hh,g,dr,t,os⟩:=s;have L0:=mY (M:=model prog w) I;have L1:=looks_mroIn (M:=model prog w) X Z.hm;refine codeAny_call_builtin KF.slot_gs.plain KF.entry_gs (KF.slot_gs.check _ _ _ _ _ _ _ _ KF.type_class (KF.args_gs _ _ _) ?_);unfold Builtin.«getset_descriptor.__get__» descrGet;rw [dga_obj];refine wpAny_bind (wpAny_pure ?_);unfold descrGetter descrCheckInstance descrNameAndClass isInstance;simp only [KF.owner_class]
 repeat lk
 refine ⟨Code.quiet_builtin _ (by decide +kernel),codeAny_builtin KF.entry_class ?_⟩;unfold Builtin.«object.__class__» shownTypeOf
 repeat lk
 exact h
theorem V6 {M:Model} {JU:Value} {Q:Unit→Shared→Prop} (Z:p7 K C) (X:K.In s.heap) (I:cO x (.ref C) od s.heap) (h:Q () s):wpAny M A (checkBuiltinCall "BaseException.__getattribute__" ⟨[.ref x,JU],[]⟩) Q E s:=by
 have k1:builtinKind "BaseException.__getattribute__" = some .slot:=by decide +kernel
 have k2:splitId "BaseException.__getattribute__" = some ("BaseException", "__getattribute__"):=by decide +kernel
 have k3:=PySem.F.args_bexc_ga (.ref x) JU;have L0:=mY (M:=M) I;have L1:=PySem.W.looks_mroIn (M:=M) X Z.hb;obtain ⟨hh,g,d,t,os⟩:=s;have L2:PySem.W.Looks M hh (isInstance (.ref x) (.type "BaseException")) true:=L0.andThen L1;simp only [checkBuiltinCall,k1,k2];refine wpAny_bind (L2.at ?_)
 repeat (any_goals (first | assumption | wp_step))
theorem L7 {Q:Option Value→Shared→Prop} (Z:p7 K C) (X:K.In s.heap) (I:cO x (.ref C) od s.heap) (h:Q (some (.ref C)) { s with toks:=s.toks+1 }):wpAny (model prog w) A (getAttr? (.ref x) "__class__") Q E s:=by
 obtain ⟨hh,g,d,t,os⟩:=s;have L0:=mY (M:=model prog w) I;have L1:=PySem.W.looks_findIn (M:=model prog w) X Z.qp;have L2:=PySem.W.looks_findIn (M:=model prog w) X Z.Wj;have L3:=KN (M:=model prog w) (x:=x) X Z.ha Z.hn Z.dF;unfold getAttr? getAttrBy? getAttrBy;refine wpAny_bind (wpAny_mkText (wpAny_bind (wpAny_attempt (wpAny_holding (wpAny_bind (L0.at (wpAny_bind (L1.at ?_))))))));show wpAny _ _ (getAttrByItsOwn (.ref x) (.str "__class__" t) (.ref C) (.builtin "BaseException.__getattribute__") false false) _ _ _;unfold getAttrByItsOwn;refine wpAny_bind (L2.at ?_);refine wpAny_bind (wpAny_attempt (wpAny_holding ?_));show wpAny _ _ (boundAndCalled (.builtin "BaseException.__getattribute__") (.ref x) (.str "__class__" t)) _ _ _;unfold boundAndCalled;refine wpAny_bind (wpAny_of_eq (PySem.F.attr_ValueError.ga.bind (.ref x)) ?_);refine wpAny_call (codeAny_call_builtin PySem.F.attr_ValueError.ga.plain PySem.F.entry_bexc_ga (V6 Z X I ?_));show wpAny _ _ (Builtin.«object.__getattribute__» ⟨[.ref x,.str "__class__" t],[]⟩) _ _ _;unfold Builtin.«object.__getattribute__»;refine wpAny_bind (wpAny_pure ?_);refine wpAny_bind (wpAny_pure ?_);refine wpAny_bind (L0.at (wpAny_bind (L3.at ?_)));show wpAny _ _ (Builtin.ObjectAttr.bindTo (.builtin "getset_descriptor.__get__") (.builtin "object.__class__") (.ref x) (.ref C)) _ _ _;show wpAny _ _ (holding [.builtin "object.__class__"] (call (.builtin "getset_descriptor.__get__") [.builtin "object.__class__",.ref x,.ref C]) >>= fun v=>ret v) _ _ _;refine wpAny_bind (wpAny_holding (wpAny_call (Qp Z X I (wpAny_pure ?_))));exact wpAny_pure (wpAny_pure h)
theorem wz (Z:p7 K C):PySem.W.KitX K (.ref x) (.ref C) (cO x (.ref C) od) where
 ty:=fun _ _ _ I=>mY I
 it:=fun _ _ X _=>by
  obtain ⟨c',d',cd',sl',ho⟩:=yY Z.hm;intro A' Q' E' s' k q;unfold isType loadHead;exact wpAny_bind (wpAny_loadPart (k _ _ (X _ _ ho)) (wpAny_pure q))
 ne:=fun h tp dd aq n sl X htp=>by
  obtain ⟨c',d',cd',sl',ho⟩:=yY Z.hm;refine Bool.eq_false_iff.mpr fun q=>?_;have e:C=tp:=Value.ref.inj (beq_iff_eq.mp q);subst e;have z:=(X _ _ ho).symm.trans htp;cases z
 ca:=fun X I k=>L7 Z X I k
end
inductive ug (K:PySem.W.Frag) (H:Hp):V→Value→Bool→Prop where
 | of {x:V} {t:Value} (h:eK K H x t):ug K H x t false
 | exc {ea C:Addr} {od:Option Addr} (e:H ea=some (Eg ea C od)) (Z:p7 K C):ug K H (.ref ea) (.ref C) true
inductive qi (K:PySem.W.Frag) (H:Hp) (t:Value):Bool→V→Bool→Prop where
 | ty {f:Bool} {n:String} {b:Bool} (e:PySem.W.kitOne K t (.type n)=some b):qi K H t f (.ty n) b
 | cls {f:Bool} {a:Addr} {b:Bool} (e:PySem.W.kitOne K t (.ref a)=some b):qi K H t f (.ref a) b
 | tup {p:Addr} {cs:List V} {us:List Value} {b:Bool} (h:H p=some (.tup cs)) (hu:∀ ws,Vals cs ws→ws=us) (e:PySem.W.kitAny K t us=some b):qi K H t true (.ref p) b
section
variable {X:Cx} {K:PySem.W.Frag}
def An (K:PySem.W.Frag):List V→Hp→VK→Prop:=fun xs H Q=>match xs with
 | [x,c]=>∃ (t:Value) (f b:Bool),ug K H x t f∧qi K H t f c b∧Q (.bl b) H
 | _=>False
theorem Va {x c:V} {u v t:Value} {pins:List (Addr×Obj)} {σ:St} {H:Hp} {s:Shared} {A:Around} {E:Value→Shared→Prop} {Q:Value→Shared→Prop} {f b:Bool} (I:Inv X pins σ H s) (rx:RelV x u) (rc:RelV c v) (ty:ug X.K H x t f) (a:qi X.K H t f c b)
  (h:∀ tk,Q (.bool b) { s with toks:=tk }):wpAny (model X.prog X.w) A (call (.builtin "isinstance") [u,v]) Q E s:=by
 cases ty with
 | of ty =>
  cases a with
  | ty e=>cases (show v=Value.type _ from rc); exact xM I rx ty e h
  | cls e=>cases (show v=Value.ref _ from rc); exact xM I rx ty e h
 | @exc ea C od e Z =>
  cases (show u=Value.ref ea from rx);obtain ⟨p,_,_⟩:=(show bP X.prog X.w H s.heap ea (Eg ea C od) from I.aC ea _ e);cases a with
  | ty e'=>cases (show v=Value.type _ from rc); exact PySem.W.kia_one (wz Z) I.bQ p e' (fun z=>nomatch z) h
  | cls e'=>cases (show v=Value.ref _ from rc); exact PySem.W.kia_one (wz Z) I.bQ p e' (fun z=>nomatch z) h
  | @tup tp cs us b hp hu e' =>
   cases (show v=Value.ref tp from rc);obtain ⟨_,aq,rv,o,ho,hc,n,hd⟩:=(show bP X.prog X.w H s.heap tp (.tup cs) from I.aC tp _ hp);obtain rfl:=hu aq rv;obtain ⟨oc,odd,Iq,c8⟩:=o;dsimp only at hc hd;subst hc hd;exact PySem.W.kia_tup (wz Z) I.bQ p ho e' (fun z=>nomatch z) h
theorem rg (h:X.K=K):cE X (.builtin "isinstance") (An K):=h ▸ fun pins s σ H xs us Q I r q=>by
 unfold An at q;split at q
 ·rename_i x c;obtain ⟨t,f,b,ty,a,q⟩:=q;obtain ⟨u,v,rfl,ru,rv⟩:=vals2 r;exact Va I ru rv ty a fun tk=>⟨.bl b,H,I.tok tk,rfl,q⟩
 ·exact q.elim
end
namespace Dv
section
variable {X:Cx} {st:Stmt} {t:TS}
theorem dj {k:Nat} {f:Addr} {fd:FuncData} {ps:List Str} {sp:Sp} {bp:List V} {ds:List Value} {R:St→XK} {x:Str} {p pos:Pos} {e:Expr} {es:List Expr} {t:TA}
  (F:aA X.prog X.w X.K X.mg X.base (cm X.prog X.w) k f fd ps sp) (hr:bB k X.A) (hm:X.mg x=some (.ref f)) (hk:PySem.W.keepIn X.K (.ref f)=true) (hb:Binds X.K fd ps ds) (hd:Vals bp ds) (hx:kG X R)
  (ha:QA X (e::es) t) (hg:Gl X x:=by rfl) (hs:(e::es).all noStar=true:=by rfl) (bF:(x == ("__debug__" : Str))=false:=by decide):QE X (.Call (.Name x p) (e::es) [] pos) (yA sp bp R t):=⟨RT F hr hg hm hk hb hd hx ha.h hs bF⟩
theorem Ab {R:St→XK} {x:Str} {C:Addr} {e:Expr} {es:List Expr} {t:TA} {np bw pos:Pos} (hx:Raises X R) (hc:X.calm=true) (hm:X.mg x=some (.ref C)) (q:PySem.W.excIn X.K C qq "ValueError.__new__" = true) (ha:QA X (e::es) t)
  (hg:Gl X x:=by rfl) (hs:(e::es).all noStar=true:=by rfl) (bF:(x == ("__debug__" : Str))=false:=by decide):QS X (.Raise (some (.Call (.Name x np) (e::es) [] bw)) none pos) (As C R t):=⟨OA hx hc hm q ha.h hg hs bF⟩
end
end Dv
end L2
namespace L2
end L2
namespace L2
open PySem PySem.Spec PyProof.Rows
theorem iq.di {P:Program} {w:World} {K:PySem.W.Frag} {mg:Str→Option Value} {base:Heap} {CX:dh} {x qual:Str} {st:Stmt} {f:Addr} {fd:FuncData} {N ps:List Str} {k:Nat} {sp:Sp} (F:iq K x qual st f fd) (S:aH N ps (aB st)) (len:∀ vs H Q E,sp vs H Q E→vs.length=ps.length)
  (hb:∀ (az:Value) (A:Around) (outer:List Env) (s:Shared) (H:Hp) (vs:List V) (Q:VK) (E:XK),bB k (A.deeper (envOfC qual (aB st) s.heap.objs.size f az))→sp vs H Q E →
   ∃ t,cT (fX CX P w K mg base N qual (aB st) f az A outer s H E) (aU st) t∧t { nx:=fun _ H'=>Q .ax H',rt:=Q } (start N vs) H):aA P w K mg base CX (k+1) f fd ps sp:=by
 obtain ⟨oc,od,kV,doc,pm,an,az,ct,c8,rfl,lk,cI⟩:=F.ex;exact yk lk cI S len fun A outer s H vs Q E hr fH=>hb az A outer s H vs Q E hr fH
end L2
namespace L2
open PySem PySem.Spec PyProof.Rows
def p8:List Value→Bool
 | []=>false
 | v::r=>(v::r) == qq || match v with
  | .ref _=>p8 r
  | _=>false
theorem Dx (self:Value):∀ {l:List Value},p8 l=true→refuseLoop self "__setattr__" l=pure ()
 | [],e=>nomatch e
 | v::r,e=>by
  unfold p8 at e;rcases Bool.or_eq_true_iff.mp e with q | q
  ·rw [beq_iff_eq.mp q]; exact PySem.F.store_ValueError.passes self
  ·split at q
   ·rw [refuseLoop_ref];exact Dx self q
   ·cases q
def sX (K:PySem.W.Frag) (C:Addr):Bool:=match K.lookup C with
 | some ⟨.type "type",_,.cls cd,sl⟩=>(match cd.mro,sl.toList with
  | .ref C'::bm,[_,_,_,_,some (.builtin n),_]=>C' == C && n == "ValueError.__new__" && !cd.hasDel && PySem.W.tailIn K qq bm && p8 cd.mro && cd.hasDict
  | _,_=>false)
 | _=>false
structure iC (K:PySem.W.Frag) (C f:Addr) (fld:Str):Prop where
 q:sX K C=true
 hi:PySem.W.findIn K (.ref C) "__init__" = some (some (.ref f))
 hf:PySem.W.typeIn K (.ref f)=some (.type "function")
 sa:PySem.W.findIn K (.ref C) "__setattr__" = some (some (.builtin "object.__setattr__"))
 na:PySem.W.findIn K (.ref C) fld=some none
 ob:PySem.W.mroIn K C (.type "object")=some true
 be:PySem.W.mroIn K C (.type "BaseException")=some true
 self:PySem.W.mroIn K C (.ref C)=some true
 kp:PySem.W.keepIn K (.ref C)=true
theorem yE {K:PySem.W.Frag} {h:Heap} {C:Addr} (X:K.In h) (q:sX K C=true) :
  ∃ bm N nm q bs sn sub ab col dd k0 k1 k2 k3 k5,h.get? C=some (excClassObj nm q C N bs bm true sn sub ab col dd k0 k1 k2 k3 k5 "ValueError.__new__")∧OwnTail h qq bm∧p8 (.ref C::bm)=true:=by
 unfold sX at q;split at q
 ·rename_i dd cd sl ho;split at q
  ·rename_i C' bm k0 k1 k2 k3 n k5 hm hs;simp only [Bool.and_eq_true,beq_iff_eq,Bool.not_eq_true'] at q;obtain ⟨⟨⟨⟨⟨q1,q2⟩,q3⟩,q4⟩,q5⟩,q6⟩:=q;subst q1 q2;obtain ⟨nm,bs,mro,ns,qn,hd,sn,sub,ab,col,del⟩:=cd;dsimp only at hm q3 q5 q6;subst hm q3 q6;have e1:sl=#[k0,k1,k2,k3,some (.builtin "ValueError.__new__"),k5]:=by
    obtain ⟨l⟩:=sl;simp only at hs;rw [hs]
   subst e1;exact ⟨bm,ns,nm,qn,bs,sn,sub,ab,col,dd,k0,k1,k2,k3,k5,X _ _ ho,PySem.W.tail_of_in X q4,q5⟩
  ·cases q
 ·cases q
section
variable {prog:Program} {w:World} {A:Around} {E:Value→Shared→Prop} {s:Shared} {K:PySem.W.Frag} {x C f:Addr} {fld:Str} {v:Value}
open Builtin Builtin.ObjectAttr in
theorem OX {Q:Unit→Shared→Prop} (Z:iC K C f fld) (X:K.In s.heap) (I:cO x (.ref C) none s.heap)
  (h:∀ h' d tk,s.heap.objs.size≤d→d≠x→(∃ o,s.heap.get? x=some o∧h'.get? x=some { o with dict:=some d })→h'.Ns1 d (fun y=>if y=fld then some v else none)→(∀ b o,b≠x→s.heap.get? b=some o→h'.get? b=some o)→Q () { s with heap:=h',toks:=tk }) :
  wpAny (model prog w) A (setAttr (.ref x) fld v) Q E s:=by
 obtain ⟨hh,g,dr,t,os⟩:=s;have L0:=mY (M:=model prog w) I;have L1:=PySem.W.looks_findIn (M:=model prog w) X Z.sa;have L2:=PySem.W.looks_findIn (M:=model prog w) X Z.na;obtain ⟨bm,N,nm,qn,bs,sn,sub,ab,col,dd,k0,k1,k2,k3,k5,hC,T,hve⟩:=yE X Z.q;have Lo:=PySem.W.looks_mroIn (M:=model prog w) X Z.ob;have Li:PySem.W.Looks (model prog w) hh (isInstance (.ref x) (.type "object")) true:=L0.andThen Lo;have SF:=PySem.F.store_object;refine wpAny_bind (wpAny_mkText (wpAny_bind (wpAny_bind (wpAny_bind (L0.at (L1.at (wpAny_holding ?_)))))));rw [SF.slot.bind];refine wpAny_bind (wpAny_pure (wpAny_bind (wpAny_call ?_)));refine codeAny_call_builtin SF.slot.plain SF.entry ?_;refine @PySem.W.check_slot (model prog w) _ _ ⟨hh,g,dr,t+1,os⟩ "object.__setattr__" "object" "__setattr__" (.ref x) [.str fld t,v] [] _ SF.kind SF.split Li (SF.args (.ref x) (.str fld t) v) ?_;show wpAny _ _ (Builtin.«object.__setattr__» ⟨[.ref x,.str fld t,v],[]⟩) _ _ _;rw [PySem.W.osa_eq,refuse_eq];refine wpAny_bind (wpAny_bind (L0.at (wpAny_bind (wpAny_mroOf_exc hC ?_))));rw [Dx _ hve];refine wpAny_pure (wpAny_bind (L0.at (wpAny_bind (L2.at (wpAny_bind (wpAny_pure ?_))))));obtain ⟨o,hx,hc,pj,vs,gC⟩:=I;show wpAny _ _ (storeInOwnDict (.ref x) (.ref C) (.str fld t) fld v false) _ _ _;have Lc:PySem.W.Looks (model prog w) hh (classData C) _:=(PySem.W.Looks.ld (part:=none) hC).andThen .now;obtain ⟨oc,od,Iq,c8⟩:=o;dsimp only at hc pj gC;subst hc pj gC;have bu:(hh.push { cls:=.type "dict",data:=.dict #[] }).get? x=some ⟨.ref C,none,.fields vs,c8⟩:=Heap.get?_push_of_some _ hx;have BS:x≠hh.objs.size:=Nat.ne_of_lt (Heap.lt_size hx);unfold storeInOwnDict ownDictForStores instanceDict;refine wpAny_bind (wpAny_pure ?_);refine wpAny_bind (wpAny_bind (wpAny_loadPart hx (wpAny_bind (Lc.at ?_))));refine wpAny_bind (wpAny_alloc' ?_);refine wpAny_bind (wpAny_update' bu (wpAny_pure ?_));show wpAny _ _ (storeInDict hh.objs.size (.str fld t) fld v) _ _ _;have hself:((hh.push { cls:=.type "dict",data:=.dict #[] }).update x fun o=>{ o with dict:=some hh.objs.size }).get? x=some ⟨.ref C,some hh.objs.size,.fields vs,c8⟩:=Heap.get?_update_self _ bu rfl;have hdict:((hh.push { cls:=.type "dict",data:=.dict #[] }).update x fun o=>{ o with dict:=some hh.objs.size }).get? hh.objs.size=some { cls:=.type "dict",data:=.dict #[] } :=
  (Heap.get?_update_ne _ _ _ _ BS.symm).trans (Heap.get?_push_at rfl rfl)
 have hoth:∀ b o,b≠x→hh.get? b=some o→((hh.push { cls:=.type "dict",data:=.dict #[] }).update x fun o=>{ o with dict:=some hh.objs.size }).get? b=some o:=fun b o hb e =>
  (Heap.get?_update_ne _ _ _ _ hb).trans (Heap.get?_push_of_some _ e)
 have fO:((hh.push { cls:=.type "dict",data:=.dict #[] }).update x fun o=>{ o with dict:=some hh.objs.size }).Ns hh.objs.size (fun _=>none):=⟨_,#[],_,hdict,rfl,fun e he=>absurd he (by simp),fun _=>rfl⟩;unfold storeInDict newKeyGuard;refine wpAny_bind (wpAny_pure (wpAny_bind (wpAny_nsSet1 (Heap.Ns1.of_empty fO) fun h' hn' hs=>?_)));obtain ⟨oD,esD,epD,B1,AO,B3⟩:=hn'.count (Within.cons fld v Within.nil);refine wpAny_bind (wpAny_lookBehind B1 (by rw [AO]; exact pastItsLine_dict (Nat.le_trans B3 (by rw [List.length_cons,List.length_nil,sizeLine_eq]; omega))) ?_);refine wpAny_pure (wpAny_pure (wpAny_pure ?_));exact h h' hh.objs.size _ (Nat.le_refl _) (Ne.symm BS) ⟨_,hx,(hs.2 x BS).trans hself⟩ hn' fun b o hb e=>(hs.2 b (Nat.ne_of_lt (Heap.lt_size e))).trans (hoth b o hb e)
end
end L2
namespace L2
open PySem PySem.Spec PyProof.Rows
def kf (e:Addr) (c:Value) (od:Option Addr) (h:Heap):Prop:=∃ o,h.get? e=some o∧o.cls=c∧o.dict=od∧∃ vs a0,o.data=.fields vs∧vs[1]?=some .none∧vs[0]?=some a0
theorem kf.hd {e:Addr} {c:Value} {od:Option Addr} {h:Heap} (x:kf e c od h):cO e c od h:=let ⟨o,a,b,c,vs,_,d,_⟩:=x; ⟨o,a,b,c,vs,d⟩
def cL (ea C:Addr) (od:Option Addr):HO:=.ext (kf ea (.ref C) od)
theorem FE {P:Program} {w:World} {H:Hp} {h:Heap} {ea C:Addr} {od:Option Addr} (x:kf ea (.ref C) od h):bP P w H h ea (cL ea C od) :=
 ⟨x,let ⟨o,e,_⟩:=x; ⟨o,e⟩,fun _ _ ⟨o,e,r⟩ k=>⟨o,k o e,r⟩⟩
theorem VT {h h':Heap} {e:Addr} {cls:Value} {args:List Value} (hx:Heap.MadeExcOf h h' e cls args):kf e cls none h':=by
 obtain ⟨t,he,_⟩:=hx.there;exact ⟨_,he,rfl,rfl,_,_,rfl,rfl,rfl⟩
def yR (C:Addr) (fld:Str) (ta tv:TE):TS:=fun D σ H=>tv σ H fun y H1=>ta σ H1 fun x H2=>∃ ea,x=.ref ea∧H2 ea=some (cL ea C none)∧∀ d,H2 d=none→D.nx σ (upd (upd H2 ea (cL ea C (some d))) d (.xd [(fld,y)]))
theorem Vw {fld g:Str} {y:V} {u:Value} (r:RelV y u):dS (([(fld,y)]:List (Str×V)).lookup g) (if g=fld then some u else none):=by
 by_cases h:g=fld
 ·have hb:(g == fld)=true:=beq_iff_eq.mpr h;simp only [List.lookup,hb,if_pos h];exact r
 ·have hb:(g == fld)=false:=beq_eq_false_iff_ne.mpr h;simp only [List.lookup,hb,if_neg h];exact True.intro
section
variable {X:Cx} {C f:Addr} {fld:Str} {o value:Expr} {ta tv:TE} {pos pos':Pos}
theorem Of (Z:iC X.K C f fld) (ha:PE X o ta) (hv:PE X value tv) (hs:swapsWith value (some (.Attribute o fld pos')) pos.line X.env=pure false):PS X (.Assign [.Attribute o fld pos'] value pos) (yR C fld ta tv):=by
 intro pins s σ H D I h;refine plainObj_wpAny_Assign_Attribute (aE (hv pins s σ H _ I h) fun u s1 ⟨y,H1,I1,ry,q⟩=>aE (ha pins s1 σ H1 _ I1 q) fun ov s2 ⟨x,H2,I2,rx,ea,ex,he,q2⟩=>?_) hs;subst ex;obtain rfl:ov=Value.ref ea:=rx;obtain ⟨p,_,_⟩:=(show bP X.prog X.w H2 s2.heap ea (cL ea C none) from I2.aC ea _ he);refine OX Z I2.bQ p.hd fun h' d tk hsz jY sS fO hkeep=>?_;obtain ⟨o0,e0,e1⟩:=sS;obtain ⟨o0',e0',c0,d0,vs,a0,v0⟩:=p;rw [e0] at e0'; cases e0';have hd':kf ea (.ref C) (some d) h':=⟨_,e1,c0,rfl,vs,a0,v0⟩;have bt:H2 d=none:=I2.aC.fresh hsz;have J:Inv X pins σ (upd H2 ea (cL ea C (some d))) { s2 with heap:=h',toks:=tk } :=
  I2.write (x:=ea) (e:=ea) (o:=cL ea C (some d)) (t':=tk) (by rw [he]; exact True.intro) (.inl rfl) hkeep ⟨_,e1⟩ (FE hd')
 have big:∀ b,(∃ u,s2.heap.get? b=some u)→b≠d:=fun b ⟨u,e⟩ z=>absurd (Heap.lt_size e) (by rw [z]; exact Nat.not_lt.mpr hsz);refine ⟨σ,_,J.Dw (a:=d) (o:=.xd [(fld,y)]) (by rw [ah jY]; exact bt) (Heap.get?_none_of_le (Nat.le_trans I2.sz hsz)) ?_ ?_ ?_ ⟨_,fO,fun g=>Vw ry⟩,q2 d bt⟩
 ·obtain ⟨m,⟨o,_,_,ho,_⟩,_⟩:=I2.loc;exact Ne.symm (big _ ⟨o,ho⟩)
 ·intro z c e;obtain ⟨w',o,ho,_⟩:=I2.cell z c e;exact big _ ⟨o,ho⟩
 ·intro p hp;exact big _ ⟨_,(I2.pin p hp).1⟩
end
def kj (C:Addr) (fld:Str):Sp:=fun vs H Q _=>match vs with
 | [.ref ea,y]=>H ea=some (cL ea C none)∧∀ d,H d=none→Q .ax (upd (upd H ea (cL ea C (some d))) d (.xd [(fld,y)]))
 | _=>False
section
variable {prog:Program} {w:World} {A:Around} {E:Value→Shared→Prop} {h:Heap} {g:Array GenState} {d:Drawn} {t:Nat} {os:OsState} {K:PySem.W.Frag} {C f:Addr} {fld:Str}
theorem VM {rest:List Value} {Q:Fin→Shared→Prop} (Z:iC K C f fld) (X:K.In h) (de:rest.length≤sizeLine)
  (hq:∀ h' e,Heap.MadeExcOf h h' e (.ref C) rest→wpAny (model prog w) A (call (.ref f) (.ref e::rest)) (fun r s'=>r=.none∧Q (.done (.ret (.ref e))) s') E ⟨h',g,d,t,os⟩) :
  wpAny (model prog w) A (Builtin.«type.__call__» ⟨.ref C::rest,[]⟩) Q E ⟨h,g,d,t,os⟩:=by
 have F:=PySem.F.excBase_ValueError;obtain ⟨bm,N,nm,qn,bs,sn,sub,ab,col,dd,k0,k1,k2,k3,k5,hC,T,_⟩:=yE X Z.q
 repeat (first | with_reducible refine wpAny_loadPart_at hC ?_ | with_reducible refine wpAny_madeBy_exc hC ?_ | wp_step)
 refine codeAny_call_builtin_code (Code.quiet_builtin _ F.quiet) (wpAny_check_new_subT F T hC (codeAny_exc_new_subT F T hC ?_ de));show wpAny _ _ _ _ _ _;have kk:∀ b o,h.get? b=some o→((h.push { cls:=.type "tuple",data:=.seq rest.toArray }).push { cls:=.ref C,data:=.fields #[.ref h.objs.size,.none,.none,.none,.bool false,.none] }).get? b=some o:=fun b o e=>Heap.get?_push_of_some _ (Heap.get?_push_of_some _ e);have Jw:((h.push { cls:=.type "tuple",data:=.seq rest.toArray }).push { cls:=.ref C,data:=.fields #[.ref h.objs.size,.none,.none,.none,.bool false,.none] }).get? (h.objs.size+1)=some { cls:=.ref C,data:=.fields #[.ref h.objs.size,.none,.none,.none,.bool false,.none] }:=by heap_get
 have JY:((h.push { cls:=.type "tuple",data:=.seq rest.toArray }).push { cls:=.ref C,data:=.fields #[.ref h.objs.size,.none,.none,.none,.bool false,.none] }).get? h.objs.size=some { cls:=.type "tuple",data:=.seq rest.toArray }:=Heap.get?_push_of_some _ (Heap.get?_push_at rfl rfl);generalize Ko:(h.push { cls:=.type "tuple",data:=.seq rest.toArray }).push { cls:=.ref C,data:=.fields #[.ref h.objs.size,.none,.none,.none,.bool false,.none] }=h2 at kk Jw JY ⊢;have made:Heap.MadeExcOf h h2 (h.objs.size+1) (.ref C) rest:=⟨kk,Heap.get?_none_of_le (Nat.le_succ _),h.objs.size,Jw,Heap.get?_none_of_le (Nat.le_refl _),JY⟩;have X2:K.In h2:=fun b o e=>kk b o (X b o e);have L0:=mY (M:=model prog w) (ES made);have L1:=PySem.W.looks_findIn (M:=model prog w) X2 Z.hi;have Lb:=PySem.W.bind_fn (M:=model prog w) X2 (.ref (h.objs.size+1)) Z.hf;have Ls:PySem.W.Looks (model prog w) h2 (isSubtype (.ref C) (.ref C)) true:=PySem.W.looks_mroIn X2 Z.self;have Li:PySem.W.Looks (model prog w) h2 (isInstance (.ref (h.objs.size+1)) (.ref C)) true:=L0.andThen Ls;refine wpAny_bind (Li.at ?_);simp only [Bool.not_true,Bool.false_eq_true,if_false];refine wpAny_bind (wpAny_holding ?_);unfold callSpecial? specialOf;refine wpAny_bind (wpAny_bind (L0.at (L1.at ?_)));refine wpAny_holding (wpAny_bind (Lb.at (wpAny_bind (wpAny_mono (hq h2 _ made) (fun r s' z=>?_) fun _ _ z=>z))));obtain ⟨rfl,z⟩:=z;exact wpAny_pure (wpAny_pure z)
theorem Rr {rest:List Value} {Q:Value→Shared→Prop} (Z:iC K C f fld) (X:K.In h) (de:rest.length≤sizeLine)
  (hq:∀ h' e,Heap.MadeExcOf h h' e (.ref C) rest→wpAny (model prog w) (A.under (.builtin "type.__call__" ⟨.ref C::rest,[]⟩)) (call (.ref f) (.ref e::rest)) (fun r s'=>r=.none∧Q (.ref e) s') E ⟨h',g,d,t,os⟩) :
  wpAny (model prog w) A (call (.ref C) rest) Q E ⟨h,g,d,t,os⟩:=by
 obtain ⟨bm,N,nm,qn,bs,sn,sub,ab,col,dd,k0,k1,k2,k3,k5,hC,T,_⟩:=yE X Z.q;have f1:=tc_lookup;have f2:=tc_bind (.ref C);have hT:(⟨h,g,d,t,os⟩:Shared).TypeIs (.ref C) "type" := ⟨_,hC,rfl⟩;refine wpAny_call (codeAny_of_tree ?_);show wpAny _ _ (callAny (.ref C) _) _ _ _
 repeat (any_goals (first | assumption | with_reducible refine wpAny_loadPart_at hC ?_ | wp_step))
 exact ⟨rfl,codeAny_call_builtin_at (Code.quiet_builtin _ (by decide +kernel)) entry_typeCall (wpAny_check_type_call_sub hC (VM Z X de fun h' e hm=>hq h' e hm))⟩
end
theorem Vx {M:Model} {A:Around} {E:Value→Shared→Prop} {s:Shared} {env:Env} {K:PySem.W.Frag} {C:Addr} {x:Sem Value} {Q:Flow→Shared→Prop} (hb:PySem.W.mroIn K C (.type "BaseException")=some true) (cf:PySem.W.typeIn K (.ref C)=some (.type "type")) (hh:A.handled=none)
  (h:wpAny M A x (fun v s₁=>∃ e o vs,v=.ref e∧s₁.heap.get? e=some o∧o.cls=.ref C∧o.data=.fields vs∧vs[1]?=some .none∧K.In s₁.heap∧E (.ref e) s₁) E s) :
  wpAny M A (raiseStmt env (some x) none) Q E s:=by
 unfold raiseStmt;refine wpAny_bind (wpAny_mono h (fun v s₁ h₁=>?_) fun _ _ x=>x);obtain ⟨e,o,vs,rfl,he,hc,hd,h1,X,hE⟩:=h₁;obtain ⟨hp,g,d,tk,os⟩:=s₁;have L0:PySem.W.Looks M hp (typeOf (.ref e)) (.ref C):=hc ▸ (PySem.W.Looks.ld he).andThen .now;have L1:=PySem.W.looks_mroIn (M:=M) X hb;have L2:PySem.W.Looks M hp (isType (.ref e)) false:=by
  obtain ⟨oc,od,Iq,c8⟩:=o;dsimp only at hd;subst hd;intro A' Q' E' s' k q;unfold isType loadHead;exact wpAny_bind (wpAny_loadPart (k _ _ he) (wpAny_pure q))
 have L3:PySem.W.Looks M hp (isExcClass (.ref e)) false:=L2.andThen .now;have L4:PySem.W.Looks M hp (isInstance (.ref e) (.type "BaseException")) true:=L0.andThen L1;have L5:=PySem.W.looks_typeIn (M:=M) X cf;refine wpAny_bind (wpAny_pure (wpAny_bind (wpAny_holding ?_)));unfold excFromValue;refine wpAny_bind (L3.at ?_);simp only [Bool.false_eq_true,if_false];refine wpAny_bind (L4.at ?_);simp only [if_true];refine wpAny_pure ?_;refine wpAny_bind (L2.at ?_);simp only [Bool.false_eq_true,if_false];unfold raisedInstance;refine wpAny_bind (wpAny_bind (L0.at (wpAny_bind (L5.at ?_))));refine wpAny_pure ?_;unfold setFlight;refine wpAny_bind (wpAny_bind (wpAny_field he hd h1 ?_));refine wpAny_pure ?_;exact wpAny_raiseNew_none hh hE
end L2
namespace L2
open PySem PySem.Spec PyProof.Rows
theorem Dd {fs:List Addr} {H H':Hp} {h h1 base:Heap} (u:Un fs [] H H' h h1):∀ l:List Env,(∀ b∈bH l,b∈fs∧H b=none)→h.FunFrames base l→h1.FunFrames base l
 | [],_,_=>trivial
 | env::r,hs,⟨hk,⟨L,o,hf,hn,ho,hd⟩,hr⟩=>by
  have e:bH (env::r)=L::bH r:=by
   unfold bH;rw [List.filterMap_cons,hf]
  obtain ⟨h1',h2'⟩:=hs L (by rw [e]; exact List.mem_cons_self);obtain ⟨sl,e1⟩:=u.slot L o ho h2' h1' (by simp);exact ⟨hk,⟨L,_,hf,hn,e1,hd⟩,Dd u r (fun b hb=>hs b (by rw [e]; exact List.mem_cons_of_mem _ hb)) hr⟩
section
variable {X:Cx} {pins:List (Addr×Obj)} {σ:St} {H H':Hp} {s s1:Shared} {ea C:Addr} {od:Option Addr}
theorem Inv.Pu {M:Model} {A:Around} {E:Value→Shared→Prop} (I:Inv X pins σ H s) (O:Own X) (hA:A.frames=some X.stack) (os:s1.os=s.os) (bare:AllBare s1.gens) (un:Un (bH X.stack) [] H H' s.heap s1.heap) (aC:bS X.prog X.w H' s1.heap)
  (free:H' ea=none) (new:s.heap.get? ea=none) (hn:kf ea (.ref C) od s1.heap):wpAny M A (leaving X.env (.ref ea)) (fun _ s''=>md X.prog X.w X.outer X.H₀ X.s₀ ea C od H' s'') E s1:=by
 have aQ:(PySem.W.hideAll s1.heap (ea::bH X.stack)).StaysIn s1.heap:=fun b o q=>PySem.W.of_hideAll _ q;have jR:s1.heap.FunFrames (PySem.W.hideAll s1.heap (ea::bH X.stack)) X.stack:=PySem.W.funFrames_hide (Dd un X.stack (fun b hb=>⟨hb,I.tY b hb⟩) I.stack) fun env he a ha=>List.mem_cons_of_mem _ (List.mem_filterMap.mpr ⟨env,he,ha⟩);have BX:(PySem.W.hideAll s1.heap (ea::bH X.stack)).get? ea=none:=PySem.W.hideAll_none _ List.mem_cons_self;have fL:pW (PySem.W.hideAll s1.heap (ea::bH X.stack)) (bH X.stack) s.heap H' s1.heap:=fun b o e hb z=>by
  refine PySem.W.hideAll_get _ e fun hm=>?_;rcases List.mem_cons.mp hm with q | q
  ·rcases z with ⟨u,z⟩ | ⟨u,z⟩
   ·rw [q,new] at z; cases z
   ·rw [q,free] at z; cases z
  ·exact hb q
 generalize PySem.W.hideAll s1.heap (ea::bH X.stack)=B at aQ jR BX fL;rw [O.cM] at jR hA;obtain ⟨oe,he,hc,vt,vs,a0,hd,h1,h0⟩:=id hn;refine aE ((Kp.leaving X.env (.ref ea)).any hn.hd (wpAny_leaving_firstW (Q:=fun _ s''=>∃ h2,s''={ s1 with heap:=h2 }∧Heap.LeftW B (X.env::X.outer) ea oe.cls a0 s1.heap h2) hA jR O.frame he aQ BX hd h1 h0 fun h2 x=>⟨h2,rfl,x⟩)) fun _ s'' ⟨⟨h2,e,k1,⟨_,_,k2⟩,k3,k4⟩,hd2⟩=>?_;subst e;rw [hc] at k3;exact I.xv (s':={ s1 with heap:=h2 }) O os bare un aC free new fL ⟨k1,BX,k2,k3⟩ k4 hd2
structure xT (X:Cx) (R:St→XK):Prop where
 made:∀ (pins:List (Addr×Obj)) (σ:St) (H H':Hp) (s s1:Shared) (ea C:Addr) (od:Option Addr),Inv X pins σ H s→s1.os=s.os→AllBare s1.gens→Un (bH X.stack) [] H H' s.heap s1.heap→bS X.prog X.w H' s1.heap→H' ea=none→s.heap.get? ea=none →
  kf ea (.ref C) od s1.heap→R σ (.ref C) od H'→X.xe (.ref ea) s1
end
theorem mW {P:Program} {w:World} {K:PySem.W.Frag} {mg:Str→Option Value} {base:Heap} {N:List Str} {qual:Str} {scope:Scope} {f:Addr} {cd:Value} {A:Around} {outer:List Env} {s₀:Shared} {H₀:Hp} {E:XK} :
  xT (fX (cm P w) P w K mg base N qual scope f cd A outer s₀ H₀ E) (fun _=>E) where
 made:=fun pins σ H H' s s1 ea C od I os bare un aC free new hn hE=>aE (I.Pu ⟨rfl,rfl,rfl⟩ I.ok.frames os bare un aC free new hn) fun _ s'' z=>⟨ea,C,od,H',rfl,z,hE⟩
def Ap (C:Addr) (fld:Str) (R:St→XK) (t:TA):TS:=fun _ σ H=>t σ H fun vs H1=>∃ v,vs=[v]∧∀ d,H1 d=none→R σ (.ref C) (some d) (upd H1 d (.xd [(fld,v)]))
theorem U8 {X:Cx} {R:St→XK} {x fld:Str} {C f:Addr} {fd:FuncData} {k:Nat} {ps:List Str} {e:Expr} {es:List Expr} {t:TA} {np bw pos:Pos} (hx:xT X R) (hex:X.ex=[]) (hc:X.calm=true) (hm:X.mg x=some (.ref C)) (Z:iC X.K C f fld) (cf:PySem.W.typeIn X.K (.ref C)=some (.type "type"))
  (F:aA X.prog X.w X.K X.mg X.base aO k f fd ps (kj C fld)) (hr:bB (k+1) X.A) (hb:Binds X.K fd ps []) (ha:PA X (e::es) t)
  (hg:Gl X x:=by rfl) (hs:(e::es).all noStar=true:=by rfl) (bF:(x == ("__debug__" : Str))=false:=by decide):PS X (.Raise (some (.Call (.Name x np) (e::es) [] bw)) none pos) (Ap C fld R t):=by
 have hs':=hs;rw [List.all_cons,Bool.and_eq_true] at hs';intro pins s σ H D I h;rw [arm_exec_Raise];refine wpAny_bind (wpAny_standAt ?_);show wpAny _ _ (raiseStmt X.env (some (do let v ← eval (.Call (.Name x np) (e::es) [] bw) X.env; standAt pos; pure v)) none) _ _ s;refine Vx Z.be cf (I.ok.hd hc) (wpAny_bind (wpAny_mono (wpAny_Call_Name_kw (jv I hg hm ?_ bF)) (fun v s3 h3=>wpAny_bind (wpAny_standAt (wpAny_pure h3))) fun _ _ z=>z));refine PySem.W.callWith_K (h₀:=X.base) I.ok.mod.gK Z.kp (aE (ha bw pins s σ H _ I h) fun us s2 ⟨vs,H2,I2,r,v,ev,hR⟩=>⟨I2.bQ,?_⟩) (eG hs'.1) (gq hs'.2);subst ev;obtain ⟨u,rfl,ru⟩:=vals1 r;obtain ⟨h2,g2,d2,t2,vj⟩:=s2;refine Rr Z I2.bQ (by show 1≤sizeLine; decide) fun h3 ex kS=>?_;have eO:∀ b,(∃ o,h2.get? b=some o)→b≠ex:=fun b ⟨o,e'⟩ z=>by
  have:=kS.new;rw [z,this] at e'; cases e'
 have kW:H2 ex=none:=by
  cases q:H2 ex with
  | none=>rfl
  | some o=>exact absurd rfl (eO ex (I2.aC ex o q).there)
 have I3:Inv X pins σ H2 ⟨h3,g2,d2,t2,vj⟩:=I2.kept (t':=t2) kS.keeps;have I4:Inv X pins σ (upd H2 ex (cL ex C none)) ⟨h3,g2,d2,t2,vj⟩:=by
  refine I3.Dw kW ?_ ?_ ?_ ?_ (FE (VT kS))
  ·cases q:X.s₀.heap.get? ex with
   | none=>rfl
   | some o =>
    exact absurd rfl (eO ex (I2.base.there ex o q (by rw [hex]; simp)))
  ·obtain ⟨m,⟨o,_,_,ho,_⟩,_⟩:=I2.loc;exact Ne.symm (eO _ ⟨o,ho⟩)
  ·intro y c e';obtain ⟨w',o,ho,_⟩:=I2.cell y c e';exact eO _ ⟨o,ho⟩
  ·intro p hp;exact eO _ ⟨_,(I2.pin p hp).1⟩
 have hl:([Value.ref ex,u]++([]:List Value)).length=ps.length:=by
  have:=F.len [.ref ex,v] (upd H2 ex (cL ex C none)) (fun _ _=>True) E0 ⟨ay,fun _ _=>True.intro⟩;exact this
 refine wpAny_call (codeAny_mono (F.run (X.A.under (.builtin "type.__call__" ⟨[.ref C,u],[]⟩)) X.stack ⟨h3,g2,d2,t2,vj⟩ (upd H2 ex (cL ex C none)) ⟨[.ref ex,u],[]⟩ [.ref ex,u] [.ref ex,v]
  (fun r H5=>r=.ax∧∃ d,upd H2 ex (cL ex C none) d=none∧H5=upd (upd (upd H2 ex (cL ex C none)) ex (cL ex C (some d))) d (.xd [(fld,v)])) E0 (hr.make C [u] []) (I4.qE.make C [u] []) (hb _ [.ref ex,u] I4.bQ hl) (.cons rfl (.cons ru .nil))
  ⟨ay,fun d hd=>⟨rfl,d,hd,rfl⟩⟩) fun r s5 hq=>?_)
 cases r with
 | error e'=>exact False.elim hq
 | ok fl =>
  cases fl with
  | next=>exact False.elim hq
  | brk=>exact False.elim hq
  | cont=>exact False.elim hq
  | ret u5 =>
   obtain ⟨v5,H5,os5,bare5,kQ,AU,rv5,rfl,d,vA,rfl⟩:=hq;have jY:d≠ex:=fun z=>by rw [z,ay] at vA; cases vA
   have hd2:H2 d=none:=by rw [ah jY] at vA; exact vA
   have e5:upd (upd (upd H2 ex (cL ex C none)) ex (cL ex C (some d))) d (.xd [(fld,v)]) ex=some (cL ex C (some d)):=by rw [ah (Ne.symm jY),ay]
   have e6:∀ b,b≠ex→upd (upd (upd H2 ex (cL ex C none)) ex (cL ex C (some d))) d (.xd [(fld,v)]) b=upd H2 d (.xd [(fld,v)]) b:=fun b hb=>by
    by_cases q:b=d
    ·rw [q,ay,ay]
    ·rw [ah q,ah hb,ah hb,ah q]
   have e7:upd H2 d (.xd [(fld,v)]) ex=none:=by rw [ah (Ne.symm jY)]; exact kW
   have e4:∀ b,b≠ex→upd H2 ex (cL ex C none) b=H2 b:=fun b hb=>ah hb;generalize upd (upd (upd H2 ex (cL ex C none)) ex (cL ex C (some d))) d (.xd [(fld,v)])=H5 at kQ AU e5 e6;obtain ⟨hN,_,_⟩:=(show bP X.prog X.w H5 s5.heap ex (cL ex C (some d)) from AU ex _ e5);have pL:∀ b o,H2 b=some o→b≠ex:=fun b o q=>fe q kW;have Jk:Un (bH X.stack) [] H2 (upd H2 d (.xd [(fld,v)])) h2 s5.heap:=by
    refine ⟨fun b o q n hb hx=>?_,fun b o q n hb hx=>?_,fun b o q n hx=>?_,fun b o q hx=>?_,fun b xs q=>?_,fun b o v' q=>?_,fun b ps' q=>?_⟩
    ·exact kQ.keep b o (kS.keeps b o q) (by rw [e4 b (eO b ⟨o,q⟩)]; exact n) hb hx
    ·exact kQ.slot b o (kS.keeps b o q) (by rw [e4 b (eO b ⟨o,q⟩)]; exact n) hb hx
    ·rw [← e6 b (eO b ⟨o,q⟩)];exact kQ.free b o (kS.keeps b o q) (by rw [e4 b (eO b ⟨o,q⟩)]; exact n) hx
    ·exact kQ.there b o (kS.keeps b o q) hx
    ·rw [← e6 b (pL b _ q)];exact kQ.fo b xs (by rw [e4 b (pL b _ q)]; exact q)
    ·rw [← e6 b (pL b _ q)];exact kQ.eZ b o v' (by rw [e4 b (pL b _ q)]; exact q)
    ·rw [← e6 b (pL b _ q)];exact kQ.fE b ps' (by rw [e4 b (pL b _ q)]; exact q)
   have hokF:bS X.prog X.w (upd H2 d (.xd [(fld,v)])) s5.heap:=fun b o q=>by
    have hb:b≠ex:=fun z=>by rw [z,e7] at q; cases q
    have q5:H5 b=some o:=by rw [e6 b hb]; exact q
    have ne5:∀ c o',H5 c=some o'→o'≠cL ex C (some d)→c≠ex:=fun c o' z1 z2 z=>by rw [z,e5] at z1; exact z2 (Option.some.inj z1).symm
    refine (AU b o q5).ei (fun _ _ _ z=>z) (fun c z=>?_) fun c xs z=>?_
    ·rw [← e6 c (ne5 c _ z (fun z'=>by cases z'))]; exact z
    ·rw [← e6 c (ne5 c _ z (fun z'=>by cases z'))]; exact z
   obtain ⟨oe,he,vC,vt,vs',a0,pK,h1,h0⟩:=id hN;refine ⟨rv5,ex,oe,vs',rfl,he,vC,pK,h1,?_,hx.made pins σ H2 _ ⟨h2,g2,d2,t2,vj⟩ s5 ex C (some d) I2 os5 bare5 Jk hokF e7 kS.new hN (hR d hd2)⟩;exact I2.ok.mod.gK.keeps fun b o z=>Jk.keep b o (I2.bs b o z).1 (I2.bs b o z).2 (fun hb=>by have:=(I2.stack.mem hb).1; rw [z] at this; cases this) (by simp)
end L2
namespace L2
open PySem PySem.Spec PyProof.Rows
section
variable {prog:Program} {w:World} {A:Around} {E:Value→Shared→Prop} {s:Shared} {K:PySem.W.Frag} {x C f d:Addr} {fld:Str}
end
end L2
namespace L2
open PySem PySem.Spec PyProof.Rows
def wa (C:Addr) (f:Str) (ta:TE):TE:=fun σ H Q=>ta σ H fun x H1=>∃ a dx fs v,x=.ref a∧H1 a=some (.ins C dx fs)∧fs.lookup f=some v∧Q v H1
def yS (C:Addr) (f:Str) (ta tv:TE):TS:=fun D σ H=>tv σ H fun y H1=>ta σ H1 fun x H2=>∃ a dx fs,x=.ref a∧H2 a=some (.ins C dx fs)∧fs.length < 1000∧D.nx σ (upd H2 a (.ins C dx (ae f y fs)))
def Am (C:Addr) (f:Str) (ta tv:TE) (rd:R2):TS:=fun D σ H=>ta σ H fun x H1=>∃ a dx fs v,x=.ref a∧H1 a=some (.ins C dx fs)∧fs.lookup f=some v∧tv σ H1 fun y H2=>rd v y H2 fun z H3=>∃ dx' fs',H3 a=some (.ins C dx' fs')∧fs'.length < 1000∧D.nx σ (upd H3 a (.ins C dx' (ae f z fs')))
def zL (C:Addr) (m:Str) (sp:Sp) (bp:List V) (R:St→XK) (ta:TE) (t:TA):TE:=fun σ H Q=>ta σ H fun x H1=>∃ a dx fs,x=.ref a∧H1 a=some (.ins C dx fs)∧fs.lookup m=none∧t σ H1 fun vs H2=>sp (x::(vs++bp)) H2 Q (R σ)
section
variable {X:Cx} {k:Nat} {f C:Addr} {fd:FuncData} {ps:List Str} {sp:Sp} {bp:List V} {ds:List Value} {R:St→XK} {x m:Str} {p pos apos:Pos} {e o:Expr} {es:List Expr} {ta:TE} {t:TA}
theorem UG {pl:Sem Bool} (he:PE X o ta) (c:cF X.K C) (hm:Meth X.K C m f) (F:aA X.prog X.w X.K X.mg X.base (cm X.prog X.w) k f fd ps sp) (hr:bB k X.A) (hb:Binds X.K fd ps ds) (hd:Vals bp ds) (hx:kG X R) (ha:PA X (e::es) t) (hs:(e::es).all noStar=true:=by rfl)
  (ht:eval (.Call (.Attribute o m apos) (e::es) [] pos) X.env=(do
   let ov ← eval o X.env
   standAt apos.atName
   let (f,first) ← holding [ov] (getMethod ov m pl)
   callWith pos f first (backTo pos (starEach (e::es) X.env)) (backToKw pos (keywordEach [] X.env))):=by rfl):PE X (.Call (.Attribute o m apos) (e::es) [] pos) (zL C m sp bp R ta t):=by
 have hs':=hs;rw [List.all_cons,Bool.and_eq_true] at hs';intro pins s σ H Q I h;refine PySem.W.methodCall_KW (pl:=pl) (aE (he pins s σ H _ I h) fun u s1 ⟨x,H1,I1,rx,a,dx,fs,ex,ea,l,q⟩=>?_) ht;subst ex;obtain rfl:u=Value.ref a:=rx;refine xb I1 ea c hm l (PySem.W.callWith_K (first:=[.ref a]) (h₀:=X.base) I.ok.mod.gK hm.kp (aE (ha pos pins s1 σ H1 _ I1 q) fun us s2 ⟨vs,H2,I2,r,q2⟩=>⟨I2.bQ,?_⟩) (eG hs'.1) (gq hs'.2));exact Eo (us:=.ref a::us) (vs:=.ref a::vs) F hr hb hd hx I2 (.cons rfl r) q2
end
section
variable {X:Cx} {C:Addr} {f:Str} {e o value:Expr} {ta tv:TE} {pos pos' tpos:Pos}
theorem NI (c:cF X.K C) (n:bx X.K C f) (he:PE X e ta) (hb:attributeBase e f X.env (eval e X.env)=eval e X.env):PE X (.Attribute e f pos) (wa C f ta):=by
 intro pins s σ H Q I h;refine LW hb (aE (he pins s σ H _ I h) fun u s1 ⟨x,H1,I1,rx,a,dx,fs,v,ex,ea,l,q⟩=>?_);subst ex;obtain rfl:u=Value.ref a:=rx;exact CM I1 ea c n l fun u' s2 I2 ru=>⟨v,H1,I2,ru,q⟩
theorem RK (c:cF X.K C) (n:bx X.K C f) (ha:PE X o ta) (hv:PE X value tv) (hs:swapsWith value (some (.Attribute o f pos')) pos.line X.env=pure false):PS X (.Assign [.Attribute o f pos'] value pos) (yS C f ta tv):=by
 intro pins s σ H D I h;refine plainObj_wpAny_Assign_Attribute (aE (hv pins s σ H _ I h) fun u s1 ⟨y,H1,I1,ry,q⟩=>aE (ha pins s1 σ H1 _ I1 q) fun ov s2 ⟨x,H2,I2,rx,a,dx,fs,ex,ea,l,q2⟩=>?_) hs;subst ex;obtain rfl:ov=Value.ref a:=rx;exact E2 I2 ea c n l ry fun s3 I3=>⟨σ,_,I3,q2⟩
theorem Qf {op:Operator} {rd:R2} (c:cF X.K C) (n:bx X.K C f) (ha:PE X o ta) (hv:PE X value tv) (BR:zr X op rd):PS X (.AugAssign (.Attribute o f tpos) op value pos) (Am C f ta tv rd):=by
 intro pins s σ H D I h;refine wpAny_AugAssign_AttributeAny (aE (ha pins s σ H _ I h) fun ov s1 ⟨x,H1,I1,rx,a,dx,fs,v,ex,ea,l,q⟩=>?_);subst ex;obtain rfl:ov=Value.ref a:=rx;refine CM I1 ea c n l fun u s2 I2 ru=>aE (hv pins s2 σ H1 _ I2 q) fun w3 s3 ⟨y,H2,I3,ry,q3⟩=>aE (BR pins s3 σ H2 v y u w3 _ I3 ru ry q3) fun w4 s4 ⟨z,H3,I4,rz,dx',fs',ea',l',q4⟩=>?_;exact E2 I4 ea' c n l' rz fun s5 I5=>⟨σ,_,I5,q4⟩
end
theorem E3 {X:Cx} {op:CmpOp} {a b:Expr} {t:TE} {pos:Pos} (h:PC X op a b t) (hm:behindInMarks op b=false:=by first | exact tK _ (by decide) (by decide) | rfl):PT X (.Compare a [op] [b] pos) (kh t):=by
 intro pins s σ H Q I hw;refine wpAny_isTrue_Compare1 (aE (h pins s σ H _ I hw) fun v s1 h1=>aE h1 fun u s2 h2=>aE h2 fun c s3 ⟨x,H1,I1,r1,q1⟩=>?_) hm;obtain ⟨k,rfl,q⟩:=vW q1;cases r1;exact wpAny_truthy_bool ⟨H1,I1,q⟩
namespace Dv
section
variable {X:Cx} {a b o e i value:Expr} {ta tb td ty tv:TE} {es:List Expr} {t:TA} {pos pos' apos bw p tpos:Pos} {f C:Addr} {fn m x:Str} {k:Nat} {fd:FuncData} {ps:List Str} {sp:Sp} {bp:List V} {ds:List Value} {R:St→XK} {CX:dh} {E:XK} {tA:TT} {body:List Stmt} {tB:TS}
theorem fld (c:cF X.K C) (n:bx X.K C fn) (he:QE X e ta) (hb:attributeBase e fn X.env (eval e X.env)=eval e X.env:=by rfl):QE X (.Attribute e fn pos) (wa C fn ta):=⟨NI c n he.h hb⟩
theorem bz (c:cF X.K C) (n:bx X.K C fn) (ha:QE X o ta) (hv:QE X value tv) (hs:swapsWith value (some (.Attribute o fn pos')) pos.line X.env=pure false:=by rfl):QS X (.Assign [.Attribute o fn pos'] value pos) (yS C fn ta tv):=⟨RK c n ha.h hv.h hs⟩
theorem j9 {op:Operator} {rd:R2} (c:cF X.K C) (n:bx X.K C fn) (BR:zr X op rd) (ha:QE X o ta) (hv:QE X value tv):QS X (.AugAssign (.Attribute o fn tpos) op value pos) (Am C fn ta tv rd):=⟨Qf c n ha.h hv.h BR⟩
theorem GJ (Z:iC X.K C f fn) (ha:QE X o ta) (hv:QE X value tv) (hs:swapsWith value (some (.Attribute o fn pos')) pos.line X.env=pure false:=by rfl):QS X (.Assign [.Attribute o fn pos'] value pos) (yR C fn ta tv):=⟨Of Z ha.h hv.h hs⟩
theorem bh {pl:Sem Bool} (c:cF X.K C) (hm:Meth X.K C m f) (F:aA X.prog X.w X.K X.mg X.base CX k f fd ps sp) (hr:bB k X.A) (hb:Binds X.K fd ps ds) (hd:Vals bp ds) (hx:Passes CX X E) (ho:QE X o ta) (ha:QA X (e::es) t) (hs:(e::es).all noStar=true:=by rfl)
  (ht:eval (.Call (.Attribute o m apos) (e::es) [] pos) X.env=(do
   let ov ← eval o X.env
   standAt apos.atName
   let (f,first) ← holding [ov] (getMethod ov m pl)
   callWith pos f first (backTo pos (starEach (e::es) X.env)) (backToKw pos (keywordEach [] X.env))):=by rfl):QE X (.Call (.Attribute o m apos) (e::es) [] pos) (qP C m sp bp E ta t):=by
 have hs':=hs;rw [List.all_cons,Bool.and_eq_true] at hs';exact ⟨QJ ho.h c hm F hr hb hd hx ha.h (eG hs'.1) (gq hs'.2) ht⟩
theorem oV {pl:Sem Bool} (c:cF X.K C) (hm:Meth X.K C m f) (F:aA X.prog X.w X.K X.mg X.base CX k f fd ps sp) (hr:bB k X.A) (hb:Binds X.K fd ps ds) (hd:Vals bp ds) (hx:Passes CX X E) (ho:QE X o ta)
  (ht:eval (.Call (.Attribute o m apos) [] [] pos) X.env=(do
   let ov ← eval o X.env
   standAt apos.atName
   let (f,first) ← holding [ov] (getMethod ov m pl)
   callWith pos f first (backTo pos (starEach [] X.env)) (backToKw pos (keywordEach [] X.env))):=by rfl):QE X (.Call (.Attribute o m apos) [] [] pos) (qP C m sp bp E ta gg):=⟨UU ho.h c hm F hr hb hd hx ht⟩
theorem dP {pl:Sem Bool} (c:cF X.K C) (hm:Meth X.K C m f) (F:aA X.prog X.w X.K X.mg X.base (cm X.prog X.w) k f fd ps sp) (hr:bB k X.A) (hb:Binds X.K fd ps ds) (hd:Vals bp ds) (hx:kG X R) (ho:QE X o ta) (ha:QA X (e::es) t) (hs:(e::es).all noStar=true:=by rfl)
  (ht:eval (.Call (.Attribute o m apos) (e::es) [] pos) X.env=(do
   let ov ← eval o X.env
   standAt apos.atName
   let (f,first) ← holding [ov] (getMethod ov m pl)
   callWith pos f first (backTo pos (starEach (e::es) X.env)) (backToKw pos (keywordEach [] X.env))):=by rfl):QE X (.Call (.Attribute o m apos) (e::es) [] pos) (zL C m sp bp R ta t):=⟨UG ho.h c hm F hr hb hd hx ha.h hs ht⟩
theorem make (M:Mk X.K C f) (F:aA X.prog X.w X.K X.mg X.base CX k f fd ps sp) (hr:bB (k+1) X.A) (hm:X.mg x=some (.ref C)) (hb:Binds X.K fd ps ds) (hd:Vals bp ds) (hx:Passes CX X E) (ha:QA X (e::es) t) (hg:Gl X x:=by rfl) (hs:(e::es).all noStar=true:=by rfl) (bF:(x == ("__debug__" : Str))=false:=by decide) :
  QE X (.Call (.Name x p) (e::es) [] pos) (rq C sp bp E t):=by
 have hs':=hs;rw [List.all_cons,Bool.and_eq_true] at hs';exact ⟨LK M F hr hg hm hb hd hx ha.h bF (eG hs'.1) (gq hs'.2)⟩
theorem VX (M:Mk X.K C f) (F:aA X.prog X.w X.K X.mg X.base CX k f fd ps sp) (hr:bB (k+1) X.A) (hm:X.mg x=some (.ref C)) (hb:Binds X.K fd ps ds) (hd:Vals bp ds) (hx:Passes CX X E) (hg:Gl X x:=by rfl) (bF:(x == ("__debug__" : Str))=false:=by decide) :
  QE X (.Call (.Name x p) [] [] pos) (rq C sp bp E gg):=⟨MU M F hr hg hm hb hd hx bF⟩
theorem oy (hx:xT X R) (hex:X.ex=[]) (hc:X.calm=true) (hm:X.mg x=some (.ref C)) (Z:iC X.K C f fn) (cf:PySem.W.typeIn X.K (.ref C)=some (.type "type")) (F:aA X.prog X.w X.K X.mg X.base aO k f fd ps (kj C fn)) (hr:bB (k+1) X.A) (hb:Binds X.K fd ps []) (ha:QA X (e::es) t)
  (hg:Gl X x:=by rfl) (hs:(e::es).all noStar=true:=by rfl) (bF:(x == ("__debug__" : Str))=false:=by decide):QS X (.Raise (some (.Call (.Name x p) (e::es) [] bw)) none pos) (Ap C fn R t):=⟨U8 hx hex hc hm Z cf F hr hb ha.h hg hs bF⟩
theorem qz (hu:X.A.units+1 < cLine) (ho:QE X o td) (hi:QE X i ty) (hs:z8 i:=by intro _ _; rfl):QE X (.Subscript o i pos) (yD td ty):=⟨Nq hu ho.h hi.h hs⟩
theorem zB (hu:X.A.units+1 < cLine) (hi:QE X i ty) (ho:QE X o td) (hm:behindInMarks .In o=false:=by rfl):QT X (.Compare i [.In] [o] pos) (kh (xQ ty td)):=⟨E3 (Q9 hu hi.h ho.h) hm⟩
theorem Et (hu:X.A.units+1 < cLine) (hi:QE X i ty) (ho:QE X o td) (hm:behindInMarks .NotIn o=false:=by rfl):QT X (.Compare i [.NotIn] [o] pos) (kh (vY ty td)):=⟨E3 (Nm hu hi.h ho.h) hm⟩
theorem rO (hu:X.A.units+1 < cLine) (ho:QE X o td) (hi:QE X i ty) (hv:QE X value tv) (hs:swapsWith value (some (.Subscript o i pos')) pos.line X.env=pure false:=by rfl):QS X (.Assign [.Subscript o i pos'] value pos) (zo td ty tv):=⟨KP hu ho.h hi.h hv.h hs⟩
theorem Sk:QE X (.Dict [] [] pos) Al:=⟨QU⟩
theorem HL (hu:X.A.units+1 < cLine) (ho:QE X o td) (he:QE X e ty) (m1:M1 X o "get" apos e bw:=by exact ⟨rfl,rfl,rfl,rfl⟩):QE X (.Call (.Attribute o "get" apos) [e] [] bw) (xN td ty):=⟨Pp hu ho.h he.h m1⟩
theorem jE (hp:PassesOwn (model X.prog X.w) X.A X.env X.xe) (hc:QT X a tA) (hb:QB X body tB):QS X (.While a body [] pos) (Hk tA tB):=⟨Ud hp hc.h hb.h⟩
theorem CG (hc:QT X o tA) (ha:QE X a ta) (hb:QE X b tb):QE X (.IfExp o a b pos) (yH tA ta tb):=⟨Lk hc.h ha.h hb.h⟩
end
end Dv
end L2
namespace L2
open PySem PySem.Spec PyProof.Rows
theorem Ul {K:PySem.W.Frag} {M:Model} {A:Around} {E:Value→Shared→Prop} {s:Shared} {e C Cc:Addr} {od:Option Addr} {Q:Bool→Shared→Prop} {b:Bool} (X:K.In s.heap) (hd:cO e (.ref C) od s.heap) (h1:PySem.W.instIn K (.ref Cc) (.type "tuple")=some false)
  (h2:PySem.W.mroIn K Cc (.type "BaseException")=some true) (h3:PySem.W.subIn K (.ref C) (.ref Cc)=some b) (hq:Q b s):wpAny M A (excMatches (.ref e) (.ref Cc)) Q E s:=by
 obtain ⟨o,he,hc,_⟩:=hd;have L1:=PySem.W.looks_instIn (M:=M) X h1;have L2:=PySem.W.looks_mroIn (M:=M) X h2;have L3:=PySem.W.looks_subIn (M:=M) X h3;have L4:PySem.W.Looks M s.heap (isType (.ref Cc)) true:=by
  obtain ⟨c',d',cd',sl',ho⟩:=yY h2;intro A' Q' E' s' k q;unfold isType loadHead;exact wpAny_bind (wpAny_loadPart (k _ _ (X _ _ ho)) (wpAny_pure q))
 have L5:PySem.W.Looks M s.heap (typeOf (.ref e)) (.ref C):=hc ▸ (PySem.W.Looks.ld he).andThen .now;have L6:PySem.W.Looks M s.heap (isExcClass (.ref Cc)) true:=L4.andThen L2;obtain ⟨hh,g,d,t,os⟩:=s;unfold excMatches;refine wpAny_bind (L1.at ?_);simp only [Bool.false_eq_true,if_false,pure_bind];simp only [List.forIn_cons,List.forIn_nil,bind_assoc,pure_bind];refine wpAny_bind (L6.at ?_);simp only [Bool.not_true,Bool.false_eq_true,if_false,bind_assoc,pure_bind];refine wpAny_bind (L5.at (wpAny_bind (L3.at ?_)));cases b with
 | true =>
  simp only [if_true,pure_bind];exact wpAny_pure hq
 | false =>
  simp only [Bool.false_eq_true,if_false,pure_bind];exact wpAny_pure hq
structure yz (X:Cx) (pins:List (Addr×Obj)) (σ:St) (H:Hp) (ea C:Addr) (od:Option Addr) (s:Shared):Prop where
 fl:∃ B a0,Heap.FlyingW B (X.env::X.outer) ea (.ref C) a0 s.heap∧∀ h4:Heap,B.StaysIn h4→s.heap.UpToSlots h4→Inv X pins σ H { s with heap:=h4 }
 hd:cO ea (.ref C) od s.heap
 free:H ea=none
 n0:X.s₀.heap.get? ea=none
 nL:ea≠X.env.locals
 nC:∀ x c,X.env.cells.lookup x=some c→c≠ea
 nP:∀ p∈X.pn++pins,p.1≠ea
theorem yz.inv {X:Cx} {pins:List (Addr×Obj)} {σ:St} {H:Hp} {ea C:Addr} {od:Option Addr} {s:Shared} (L:yz X pins σ H ea C od s):Inv X pins σ H s:=by
 obtain ⟨B,a0,fl,k⟩:=L.fl;exact k s.heap fl.1 (Heap.UpToSlots.refl _)
abbrev iu:=Ends→St→Addr→Option Addr→Hp→Prop
def PH (X:Cx) (hs:List ExceptHandler) (t:iu):Prop:=∀ (pins:List (Addr×Obj)) (s:Shared) (σ:St) (H:Hp) (D:Ends) (ea C:Addr) (od:Option Addr),yz X pins σ H ea C od s→t D σ C od H→wpAny (model X.prog X.w) X.A (handleBy (.ref ea) X.env hs) (SP X pins D) X.xe s
def G4 (K:PySem.W.Frag) (Cc:Addr) (th:TS) (tr:iu):iu:=fun D σ C od H=>∃ b,PySem.W.subIn K (.ref C) (.ref Cc)=some b∧if b=true then th D σ H else tr D σ C od H
def DI:iu:=fun _ _ _ _ _=>False
theorem MM {X:Cx}:PH X [] DI:=fun _ _ _ _ _ _ _ _ _ h=>h.elim
section
variable {X:Cx} {K:PySem.W.Frag} {Cc:Addr} {n x:Str} {sM:List Stmt} {b₀:Stmt} {np hpos pos:Pos} {th:TS} {tr:iu} {rest:List ExceptHandler}
theorem VW (hK:X.K=K) (hm:X.mg x=some (.ref Cc)) (c1:PySem.W.instIn X.K (.ref Cc) (.type "tuple")=some false) (c2:PySem.W.mroIn X.K Cc (.type "BaseException")=some true) (hs:∀ v,cT (X.lK v) (b₀::sM) th) (hr:PH X rest tr)
  (hg:Gl X x:=by rfl) (bF:(x == ("__debug__" : Str))=false:=by decide):PH X (.ExceptHandler (some (.Name x np)) none (b₀::sM) hpos::rest) (G4 K Cc th tr):=by
 subst hK;intro pins s σ H D ea C od L h;obtain ⟨b,hsub,h⟩:=h;have I:=L.inv;refine wpAny_handleBy_cons (codeAny_handlers_test (jv (I.lK (.ref ea)) hg hm (Ul I.bQ L.hd c1 c2 hsub ?_) bF)) (by intro q; cases q);cases b with
 | false=>exact hr pins s σ H D ea C od L h
 | true =>
  have aN:=h;rw [if_pos rfl] at aN;obtain ⟨B,a0,fl,step⟩:=L.fl;refine codeAny_handlers_suite (aE (lands_againW (Q:=fun _ s4=>∃ h4,s4={ s with heap:=h4 }∧Heap.FlyingW B (X.env::X.outer) ea (.ref C) a0 h4∧s.heap.UpToSlots h4) fl fun h4 x1 x2=>⟨h4,rfl,x1,x2⟩) fun _ s4 ⟨h4,e4,fl4,up4⟩=>?_);subst e4;refine wpAny_mono (hs (.ref ea) pins _ _ _ D ((step h4 fl4.1 up4).lK (.ref ea)) aN) (fun f s7 z=>?_) fun _ _ z=>False.elim z;cases f with
  | next=>obtain ⟨σ7,H7,I7,q⟩:=z; exact ⟨_,H7,I7.uE I.ok,q⟩
  | ret u=>obtain ⟨v,σ7,H7,I7,r,q⟩:=z; exact ⟨v,_,H7,I7.uE I.ok,r,q⟩
  | brk=>obtain ⟨σ7,H7,I7,q⟩:=z; exact ⟨_,H7,I7.uE I.ok,q⟩
  | cont=>obtain ⟨σ7,H7,I7,q⟩:=z; exact ⟨_,H7,I7.uE I.ok,q⟩
def Ih (tb:(St→XK)→TS) (t:iu):TS:=fun D σ H=>∃ R:St→XK,tb R D σ H∧∀ σ' C od H',R σ' (.ref C) od H'→t D σ' C od H'
theorem LJ {body:List Stmt} {h₀:ExceptHandler} {tb:(St→XK)→TS} {t:iu} (O:Own X) (hb:∀ pins R,cT (X.lE pins R) body (tb R)) (hh:PH X (h₀::rest) t):PS X (.Try body (h₀::rest) [] [] pos) (Ih tb t):=by
 intro pins s σ H D I h;obtain ⟨R,hb',hR⟩:=h;refine wpAny_Try_except (wpAny_mono (hb pins R [] s σ H D (I.lE R) hb') (fun f s1 z=>?_) fun e s1 z=>?_)
 ·cases f with
  | next=>obtain ⟨σ',H',I',q⟩:=z; exact wpAny_execs_nil ⟨σ',H',I'.rD,q⟩
  | ret u=>obtain ⟨v,σ',H',I',r,q⟩:=z; exact ⟨v,σ',H',I'.rD,r,q⟩
  | brk=>obtain ⟨σ',H',I',q⟩:=z; exact ⟨σ',H',I'.rD,q⟩
  | cont=>obtain ⟨σ',H',I',q⟩:=z; exact ⟨σ',H',I'.rD,q⟩
 ·obtain ⟨σ',H0,H',s0,ea,C,od,I0,rfl,F,BG⟩:=z;obtain ⟨B,a0,fl,fL⟩:=F.Cq;have hA:X.A.frames=some (X.env::X.outer):=by rw [← O.cM]; exact I.ok.frames
  rw [O.cM] at fl;refine aE ((Kp.noteFrame (.ref ea) X.env).any F.hd (wpAny_looks_onW (Q:=fun _ s2=>∃ h2,s2={ s1 with heap:=h2 }∧Heap.HeldW B (X.env::X.outer) ea (.ref C) a0 X.env.locals h2∧s1.heap.UpToSlots h2) hA O.frame fl fun h2 x1 x2=>⟨h2,rfl,x1,x2⟩)) fun _ s2 ⟨⟨h2,e2,held,up2⟩,hd2⟩=>?_;subst e2;refine aE ((Kp.setFlight (.ref ea) none).any (s:={ s1 with heap:=h2 }) hd2 (wpAny_landsW (s:={ s1 with heap:=h2 }) (Q:=fun _ s3=>∃ h3,s3={ s1 with heap:=h3 }∧Heap.FlyingW B (X.env::X.outer) ea (.ref C) a0 h3∧h2.UpToSlots h3) held fun h3 x1 x2=>⟨h3,rfl,x1,x2⟩)) fun _ s3 ⟨⟨h3,e3,fl3,up3⟩,mB⟩=>?_;subst e3;have eO:∀ b,(∃ o,s0.heap.get? b=some o)→b≠ea:=fun b ⟨o,e⟩ z=>by rw [z,F.new] at e; cases e
  refine hh pins { s1 with heap:=h3 } σ' H' D ea C od ⟨⟨B,a0,fl3,fun h4 st up=>?_⟩,mB,F.free,?_,?_,fun y c e=>?_,fun p hp=>?_⟩ (hR σ' C od H' BG)
  ·obtain ⟨u,aC⟩:=DH F.un F.aC I0.DF fL st ((up2.trans up3).trans up);exact I0.FF (s':={ s1 with heap:=h4 }) (ch:=[]) F.os u aC F.bare (fun b z=>absurd z (by simp))
  ·cases q:X.s₀.heap.get? ea with
   | none=>rfl
   | some u=>exact absurd rfl (eO ea (I0.base.there ea u q (by rw [O.ex]; simp)))
  ·obtain ⟨m,⟨o,_,_,ho,_⟩,_⟩:=I0.loc;exact Ne.symm (eO _ ⟨o,ho⟩)
  ·obtain ⟨w',o,ho,_⟩:=I0.cell y c e;exact eO _ ⟨o,ho⟩
  ·exact eO _ ⟨_,(I0.pin p hp).1⟩
end
structure QH (X:Cx) (hs:List ExceptHandler) (t:iu):Prop where
 h:PH X hs t
namespace Dv
section
variable {X:Cx} {K:PySem.W.Frag} {Cc:Addr} {n x:Str} {sM:List Stmt} {b₀:Stmt} {np hpos pos:Pos} {th:TS} {tr:iu} {rest:List ExceptHandler}
theorem Ri:QH X [] DI:=⟨MM⟩
theorem P4 (hK:X.K=K) (hm:X.mg x=some (.ref Cc)) (c1:PySem.W.instIn X.K (.ref Cc) (.type "tuple")=some false) (c2:PySem.W.mroIn X.K Cc (.type "BaseException")=some true) (hs:∀ v,QB (X.lK v) (b₀::sM) th) (hr:QH X rest tr)
  (hg:Gl X x:=by rfl) (bF:(x == ("__debug__" : Str))=false:=by decide):QH X (.ExceptHandler (some (.Name x np)) none (b₀::sM) hpos::rest) (G4 K Cc th tr):=⟨VW hK hm c1 c2 (fun v=>(hs v).h) hr.h hg bF⟩
theorem MR {body:List Stmt} {h₀:ExceptHandler} {tb:(St→XK)→TS} {t:iu} (O:Own X) (hb:∀ pins R,QB (X.lE pins R) body (tb R)) (hh:QH X (h₀::rest) t):QS X (.Try body (h₀::rest) [] [] pos) (Ih tb t):=⟨LJ O (fun pins R=>(hb pins R).h) hh.h⟩
end
end Dv
end L2
namespace L2
open PySem PySem.Spec PyProof.Rows
def dI (a b:Str):Bool:=!ltCps b.cps.toList a.cps.toList
def fZ (ts:List Str):List Str:=ts.mergeSort dI
theorem uD {a b:Str}:dI a b=true ↔ ¬ b.cps.toList < a.cps.toList:=by
 unfold dI; rw [ltCps_eq]; simp
theorem Ex (a b c:Str) (h1:dI a b=true) (h2:dI b c=true):dI a c=true:=by
 rw [uD] at *;exact List.not_lt.mpr (List.le_trans (List.not_lt.mp h1) (List.not_lt.mp h2))
theorem QD (a b:Str):(dI a b || dI b a)=true:=by
 cases h:dI a b with
 | true=>rfl
 | false =>
  have:¬ dI a b=true:=by rw [h]; simp
  rw [uD,Classical.not_not] at this;simp only [Bool.false_or,uD];exact List.not_lt.mpr (List.le_of_lt this)
theorem Tv {a b:Str} (h1:dI a b=true) (h2:dI b a=true):a=b:=by
 rw [uD] at *;have:=List.le_antisymm (List.not_lt.mp h1) (List.not_lt.mp h2);obtain ⟨x⟩:=a; obtain ⟨y⟩:=b;exact congrArg Str.mk (Array.ext' this)
theorem GX (ts:List Str):(fZ ts).Perm ts:=List.mergeSort_perm ts dI
theorem Px (ts:List Str):(fZ ts).Pairwise (fun a b=>dI a b=true):=List.pairwise_mergeSort Ex QD ts
theorem Ce (ts:List Str):(fZ ts).length=ts.length:=(GX ts).length_eq
theorem El:∀ (p:Str) (l:List Str),risingS p l=true→(p::l).Pairwise (fun a b=>dI a b=true)
 | p,[],_=>List.pairwise_singleton _ _
 | p,x::r,h=>by
  have h':dI p x=true∧risingS x r=true:=by simpa [risingS,dI] using h
  have ih:=El x r h'.2;refine List.pairwise_cons.mpr ⟨fun y hy=>?_,ih⟩;rcases List.mem_cons.mp hy with e | hy
  ·exact e ▸ h'.1
  ·exact Ex p x y h'.1 (List.rel_of_pairwise_cons ih hy)
theorem GO:∀ (l:List Str),sortedS l=true→l.Pairwise (fun a b=>dI a b=true)
 | [],_=>.nil
 | x::r,h=>El x r h
theorem xw {us ts:List Str} (hp:us.Perm ts) (hs:us.Pairwise (fun a b=>dI a b=true)):us=fZ ts :=
 List.Perm.eq_of_pairwise (fun a b _ _ h1 h2=>Tv h1 h2) hs (Px ts) (hp.trans (GX ts).symm)
theorem Sa (x:Str):fZ [x]=[x]:=(xw (.refl _) (List.pairwise_singleton _ _)).symm
theorem EL:∀ {ts:List Str} {us:List Value},Vals (ts.map V.str) us→StrsAre us ts
 | [],_,.nil=>.nil
 | x::r,_,.cons h t=>by obtain ⟨t',rfl⟩:=h; exact .cons x t' (EL t)
theorem yy:∀ {us:List Value} {ts:List Str},StrsAre us ts→Vals (ts.map V.str) us
 | _,_,.nil=>.nil
 | _,_,.cons y t h=>.cons ⟨t,rfl⟩ (yy h)
section
variable {X:Cx}
def Fg (K:PySem.W.Frag):List V→Hp→VK→Prop:=fun xs H Q=>∃ p ts,xs=[.ref p]∧aL K H p (ts.map V.str)∧ts.length < 64∧∀ l,H l=none→Q (.ref l) (upd H l (.lst ((fZ ts).map V.str)))
theorem P9:cE X (.builtin "sorted") (Fg X.K):=by
 intro pins s σ H xs us Q I r h;obtain ⟨p,ts,rfl,hq,AE,q⟩:=h;obtain ⟨u,rfl,rx⟩:=vals1 r;cases rx;obtain ⟨aq,r',pl,hz⟩:=I.list hq;have hlen:=r'.length;refine sorted_strs pl.isList (EL r') (by rw [← hlen]; simpa using AE) fun out ss' a1 a2 a3=>?_;obtain ⟨e,he⟩:=sortedAll_at s.heap aq out;have e1:ss'=fZ ts:=xw a2 (GO _ a3);subst e1;refine ⟨.ref (s.heap.objs.size+1),_,I.laid (t':=s.toks) (fun _ _=>sortedAll_old) (Nat.le_succ _) (show bP X.prog X.w _ _ _ (.lst ((fZ ts).map V.str)) from ⟨?_,out.toList,e,yy a1,?_⟩),rfl,q _ (I.aC.fresh (Nat.le_succ _))⟩
 ·rw [List.length_map,Ce]; simpa using hz
 ·simpa [seqObj] using he
def D0:List V→Hp→VK→Prop:=fun xs H Q=>∃ p kvs,∃ ts:List Str,xs=[.ref p]∧H p=some (.dK kvs)∧kvs.map (·.1)=ts.map Sum.inr∧ts.length < 64∧∀ l,H l=none→Q (.ref l) (upd H l (.lst ((fZ ts).map V.str)))
theorem Oq {x:Str} {v:Value} (h:lY (.inr x) v=true):∃ t,v=Value.str x t:=Value.isStrOf_shape h
theorem K4 (hc:X.calm=true):cE X (.builtin "sorted") D0:=by
 intro pins s σ H xs us Q I r h;obtain ⟨p,kvs,ts,rfl,hq,hk,AE,q⟩:=h;obtain ⟨u,rfl,rx⟩:=vals1 r;cases rx;obtain ⟨hz,hS,vs,rv,m⟩:kvs.length≤sizeLine∧(p == sysModules)=false∧∃ vs,KV kvs vs∧s.heap.DictOf (dU X.prog X.w) p vs:=I.aC p _ hq;obtain ⟨ep,iX⟩:=m.dictAt;have kN:kvs.length=ts.length:=by simpa using congrArg List.length hk
 have JP:vs.length=ts.length:=by rw [← kN]; simpa using (congrArg List.length rv.keys).symm
 refine Calls.call_function_entry kind_sorted plain_sorted entry_sorted (args_sorted1 _) ?_;unfold Builtin.«sorted»;refine wpAny_bind (m:=checkCount "sorted" 1 1 _) (wpAny_pure ?_);refine wpAny_bind (PySem.W.kdu_collect (A:=X.A.in1) (PySem.W.kdl_dict (knd:=dU X.prog X.w) (kvs:=vs) (ep:=ep) hS) (I.ok.hd hc) iX (by rw [JP,← kN]; exact hz) fun h' tk acc hk' fM=>?_);have hl:acc.toList.length=ts.length:=by rw [Array.length_toList,← JP]; exact fM.1
 have hS':StrsAre acc.toList ts:=by
  have key:∀ (l:List Value) (us:List Str),l.length=us.length→(∀ (j:Nat) (v:Value) (x:Str),l[j]?=some v→us[j]?=some x→∃ t,v=Value.str x t)→StrsAre l us:=by
   intro l
   induction l with
   | nil=>intro us e _; cases us with | nil=>exact .nil | cons=>cases e
   | cons v l ih =>
    intro us e hh;cases us with
    | nil=>cases e
    | cons x us =>
     obtain ⟨t,rfl⟩:=hh 0 v x rfl rfl;exact .cons x t (ih us (by simpa using e) fun j v x h1 h2=>hh (j+1) v x h1 h2)
  refine key _ _ hl fun j v x h1 h2=>?_;obtain ⟨k,y,hx,hk1⟩:=fM.2 j v (by rw [← Array.getElem?_toList]; exact h1);have e1:(vs.map (·.1))[j]?=some k:=by rw [List.getElem?_map,hx]; rfl
  rw [← rv.keys,hk,List.getElem?_map,h2] at e1;cases e1;exact Oq hk1
 refine wpAny_bind (wpAny_newList ?_ (by rw [hl,← kN]; exact hz));have jO:(h'.push (seqObj "list" acc.toList.toArray 0)).get? h'.objs.size=some (seqObj "list" acc.toList.toArray 0):=Heap.get?_push_size _ rfl;refine wpAny_bind (wpAny_holding (wpAny_call_entry slot_list_sort ⟨_,jO,rfl⟩ entry_list_sort (list_sort_treeK strKind_oneLt jO hS'.keysOf (fun v₁ v₂ rest e=>keyKind_strs (by rw [← e]; exact hS')) (by rw [hl]; exact AE) fun st' a1 a2=>⟨_,rfl,?_⟩) (args_list_sort _)));refine wpAny_pure ⟨_,rfl,?_⟩;obtain ⟨ss',b1,b2,b3⟩:=sorted_out_str hS' a1 a2;have e1:ss'=fZ ts:=xw b2 (GO _ b3);subst e1;obtain ⟨e,he⟩:=sortedHeap_at (out:=(arrOf st').map (·.2)) jO;have I1:Inv X pins σ H { s with heap:=h',toks:=tk }:=I.kept (t':=tk) hk';refine ⟨.ref h'.objs.size,_,I1.laid (t':=tk) (fun b o z=>?_) (Nat.le_refl _) (show bP X.prog X.w _ _ _ (.lst ((fZ ts).map V.str)) from ⟨?_,_,e,yy b1,?_⟩),rfl,q _ (I1.aC.fresh (Nat.le_refl _))⟩
 ·have hb:b < h'.objs.size:=Heap.lt_size z;rw [sortedHeap_old (Nat.ne_of_lt hb) (by have:=Heap.size_push h' (seqObj "list" acc.toList.toArray 0); rw [this]; exact Nat.lt_succ_of_lt hb)];exact Heap.get?_push_of_some _ z
 ·rw [List.length_map,Ce,← kN]; exact hz
 ·rw [Array.toArray_toList]; exact he
end
end L2
namespace L2
open PySem PySem.Spec PyProof.Rows
def Hr (c:Addr) (q:Str):HO:=.ext fun h=>h.CodeRec (.ref c) q
structure WI (N:List Str) (scope:Scope) (cl:List (Str×Addr)):Prop where
 kind:scope.kind=.function
 co:scope.isCoroutine=false
 gen:scope.isGenerator=false
 WE:∀ x∈scope.names,x.2≠.cell
 free:∀ x∈N,scope.names.lookup x=some .free
 has:∀ x,scope.names.lookup x=some .free→∃ c,cl.lookup x=some c
 inj:∀ x y c,cl.lookup x=some c→cl.lookup y=some c→x=y
end L2
namespace L2
open PySem PySem.Spec PyProof.Rows
abbrev Ox:=List Env→Shared→Sp
structure Wx (P:Program) (w:World) (K:PySem.W.Frag) (mg:Str→Option Value) (base:Heap) (CX:dh) (k:Nat) (f:Addr) (fd:FuncData) (ps:List Str) (sp:Ox):Prop where
 len:∀ outer s vs H Q E,sp outer s vs H Q E→vs.length=ps.length
 run:∀ (A:Around) (outer:List Env) (s:Shared) (H:Hp) (args:Args) (us:List Value) (vs:List V) (Q:VK) (E:XK),bB k A→kE P w K mg base A outer s H→BindsTo s fd args (ps.zip us)→Vals vs us→sp outer s vs H Q E →
  codeAny (model P w) A (.call (.ref f) args) (CR CX outer P w H s Q E) s
end L2
namespace L2
open PySem PySem.Spec PyProof.Rows
abbrev Ent:=Int×Int×Addr
def Eu:List Ent→List Value
 | []=>[]
 | e::r=>rawInt e.1::rawInt e.2.1::.ref e.2.2::Eu r
def HN (P:Addr) (es:List Ent):HO:=.ext fun h=>h.get? P=some (PySem.W.tabObj (Eu es).toArray)
structure UH (H:Hp) (P:Addr) (q:Str) (es:List Ent):Prop where
 tab:H P=some (HN P es)
 code:∀ e∈es,H e.2.2=some (Hr e.2.2 q)
structure Wm (X:Cx) (P:Addr) (params:Arguments) (scope:Scope) (r9:List (Str×Addr)) (q:Str):Prop where
 dflt:defaultsOf params X.env=([],[])
 lQ:closureFor scope X.env=pure r9
 code:∃ c,X.env.code=.ref c∧PySem.W.CodeHd X.base c P
 blt:X.base.BuiltinsAt X.mg P
 qual:X.env.qual ++ "<lambda>" = q
structure Wr (P:Addr) (q:Str) (c:Addr) (H H1:Hp):Prop where
 rest:∀ b,b≠P→b≠c→H1 b=H b
 code:H1 c=some (Hr c q)
 old:H c=none∨H1=H
 tab:∃ es,UH H1 P q es
end L2
namespace L2
open PySem PySem.Spec PyProof.Rows
abbrev WB:=Hp→VK→XK→Prop
def wF (ix:List Nat) (σ:St) (vs:List V):Prop:=vs.length=ix.length∧∀ (i j:Nat) (v:V),ix[i]?=some j→vs[i]?=some v→σ[j]?=some (some v)
structure Wq (X:Cx) (N':List Str) (ix:List Nat) (r9:List (Str×Addr)):Prop where
 len:ix.length=N'.length
 at':∀ (i j:Nat),ix[i]?=some j→∃ x,N'[i]?=some x∧X.N[j]?=some x∧X.env.scope.names.lookup x=some .cell
 lQ:∀ x c,r9.lookup x=some c→X.env.cells.lookup x=some c
 Ww:∀ x∈N',r9.lookup x=X.env.cells.lookup x
 own:∀ x c,r9.lookup x=some c→X.fn x=true
end L2
namespace L2
open PySem PySem.Spec PyProof.Rows
abbrev Ot:=List (Addr×Addr)
structure Wz (tabs:Ot) (H:Hp):Prop where
 all:∀ b,H b=none∨(∃ o xs,H b=some (.dY o (.lst xs)))∨∃ q∈tabs,b=q.2
 tab:∀ q∈tabs,H q.2=some (HN q.2 [])
end L2
namespace L2
open PySem PySem.Spec PyProof.Rows
section
variable {prog:Program} {w:World} {A:Around} {R:Result→Shared→Prop} {I:Addr} {fp wr:List Addr} {P:Nat→Value→Prop} {St:Nat→Heap→Prop}
theorem Og (a d:Value):argsOk "min" ⟨[a],[("default",d)]⟩:=by unfold argsOk; kernel_rfl
theorem Pe (W:Walks prog w A.in1 I fp wr 0 P St) {S:Addr} {s:Shared} {c:Nat} {d:Value} (aQ:St 0 s.heap)
  (hS:s.heap.get? S=some { cls:=.type "list",dict:=none,data:=.seq #[] c,slots:=#[] })
  (hR:∀ h' tk,(∀ b o,b ∉ wr→s.heap.get? b=some o→h'.get? b=some o)→R (.ok (.ret d)) { s with heap:=h',toks:=tk }) :
  codeAny (model prog w) A (.builtin "min.loop" ⟨[.ref I,.none,.ref S],[("default",d)]⟩) R s:=by
 refine codeAny_builtin F.entry_min_loop ?_;rw [Around.under_plainId F.plain_min_loop _];show wpAny _ A.in1 (seqItems? (.ref S) >>= _) _ _ s;refine wpAny_bind (wpAny_seqItems hS rfl ?_);show wpAny _ A.in1 (tryCatch (pyNext (.ref I)) _ >>= _) _ _ s;refine wpAny_bind (wpAny_tryCatch (W.done s _ _ aQ fun h' tk hk'=>?_));exact wpAny_bind (wpAny_rule (wpAny_pure (hR h' tk hk')))
theorem T3 (W:Walks prog w A.in1 I fp wr 1 P St) {S:Addr} {s:Shared} {c:Nat} {d:Value} (pG:S ∉ fp) (aQ:St 0 s.heap)
  (hS:s.heap.get? S=some { cls:=.type "list",dict:=none,data:=.seq #[] c,slots:=#[] })
  (hR:∀ v h' tk,P 0 v→(∀ b o,b ∉ wr→b≠S→s.heap.get? b=some o→h'.get? b=some o)→R (.ok (.ret v)) { s with heap:=h',toks:=tk }) :
  codeAny (model prog w) A (.builtin "min.loop" ⟨[.ref I,.none,.ref S],[("default",d)]⟩) R s:=by
 have JF:S ∉ wr:=fun h=>pG (W.sub _ h);have Be:(toString "min" ++ toString ".loop" : String) = "min.loop" := by decide
 refine codeAny_builtin F.entry_min_loop ?_;rw [Around.under_plainId F.plain_min_loop _];show wpAny _ A.in1 (seqItems? (.ref S) >>= _) _ _ s;refine wpAny_bind (wpAny_seqItems hS rfl ?_);show wpAny _ A.in1 (tryCatch (pyNext (.ref I)) _ >>= _) _ _ s;refine wpAny_bind (wpAny_tryCatch (W.item 0 s _ _ (by decide) aQ fun v h' tk hP hst' hk'=>?_));have hS':=hk' S _ JF hS;show wpAny _ A.in1 (updateSeq S (fun _=>#[v,v]) >>= _) _ _ _;refine wpAny_bind ?_;refine wpAny_updateSeq hS' rfl ?_;rw [Be];refine wpAny_pure ⟨plainId_quiet F.plain_min_loop _,?_⟩;have key:∀ (s2:Shared) (c2:Nat),St 1 s2.heap→s2.heap.get? S=some { cls:=.type "list",dict:=none,data:=.seq #[v,v] c2,slots:=#[] }→(∀ h'' tk'',(∀ b o,b ∉ wr→b≠S→s2.heap.get? b=some o→h''.get? b=some o)→R (.ok (.ret v)) { s2 with heap:=h'',toks:=tk'' }) →
   codeAny (model prog w) A (.builtin "min.loop" ⟨[.ref I,.none,.ref S],[("default",d)]⟩) R s2:=fun s2 c2 eN hS2 hR2=>by
  refine codeAny_builtin F.entry_min_loop ?_;rw [Around.under_plainId F.plain_min_loop _];show wpAny _ A.in1 (seqItems? (.ref S) >>= _) _ _ s2;refine wpAny_bind (wpAny_seqItems hS2 rfl ?_);show wpAny _ A.in1 (tryCatch (pyNext (.ref I)) _ >>= _) _ _ s2;refine wpAny_bind (wpAny_tryCatch (W.done s2 _ _ eN fun h3 tk3 JW=>?_));have hS3:=JW S _ JF hS2;show wpAny _ A.in1 (updateSeq S (fun _=>#[]) >>= _) _ _ _;refine wpAny_bind ?_;refine wpAny_updateSeq hS3 rfl (wpAny_bind (wpAny_letGo (wpAny_pure ?_)));exact hR2 _ tk3 fun b o hbw hbS e=>(Heap.get?_update_other _ _ (Ne.symm hbS)).trans (JW b o hbw e)
 refine key _ _ (W.frame _ _ _ hst' fun b iQ o e=>(Heap.get?_update_other _ _ (fun h:S=b=>pG (by rw [h]; exact iQ))).trans e) (Heap.get?_update_self _ hS' rfl) fun h'' tk'' hk''=>?_;exact hR v h'' tk'' hP fun b o hbw hbS e=>hk'' b o hbw hbS ((Heap.get?_update_other _ _ (Ne.symm hbS)).trans (hk' b o hbw e))
theorem Sn {E:Value→Shared→Prop} {s:Shared} {x d:Value} {Q:Value→Shared→Prop}
  (h:wpAny (model prog w) A.in1 (pyIter x) (fun it s₂=>∃ I fp wr n P St,it=.ref I∧Walks prog w A.in1 I fp wr n P St∧St 0 s₂.heap∧(∀ b∈fp,b < s₂.heap.objs.size)∧n≤1 ∧
   ∀ v h' tk,(n=0∧v=d∨n=1∧P 0 v)→(∀ b o,b ∉ wr→s₂.heap.get? b=some o→h'.get? b=some o)→Q v { s₂ with heap:=h',toks:=tk }) E s) :
  wpAny (model prog w) A (call (.builtin "min") [x] [("default",d)]) Q E s:=by
 have Be:(toString "min" ++ toString ".loop" : String) = "min.loop" := by decide
 refine wpAny_call (codeAny_call_builtin F.plain_min F.entry_min ?_);have JZ:wpAny (model prog w) A.in1 (Builtin.«min» ⟨[x],[("default",d)]⟩) (fun fin s'=>match fin with
   | .done f=>(match (Except.ok f:Result) with | .ok (.ret v)=>Q v s' | .ok _=>False | .error e=>E e s')
   | .again c'=>c'.quiet=true∧codeAny (model prog w) A c' (fun r s'=>match r with | .ok (.ret v)=>Q v s' | .ok _=>False | .error e=>E e s') s') E s:=by
  show wpAny _ A.in1 (Builtin.Builtins.bindParams "min" ["key", "default"] 0 ⟨[],[("default",d)]⟩ >>= _) _ _ s;refine wpAny_bind (wpAny_of_eq (show Builtin.Builtins.bindParams "min" ["key", "default"] 0 ⟨[],[("default",d)]⟩=pure [none,some d] from rfl) ?_);refine wpAny_bind (wpAny_pure ?_);refine wpAny_bind (wpAny_mono h (fun it s₂ h₂=>?_) fun _ _ e=>e);obtain ⟨I,fp,wr,n,P,St,rfl,W,aQ,BQ,hn,hQ⟩:=h₂;refine wpAny_bind (wpAny_newObj_type ?_);have pG:s₂.heap.objs.size ∉ fp:=fun hm=>Nat.lt_irrefl _ (BQ _ hm);rw [Be];refine wpAny_pure ⟨plainId_quiet F.plain_min_loop _,?_⟩;have eN:=W.frame _ _ _ aQ (fun b _ o e=>Heap.get?_push_of_some { cls:=.type "list",data:=.seq ([]:List Value).toArray } e)
  match n,hn,W,hQ with
  | 0,_,W,hQ =>
   refine Pe W eN (Heap.get?_push_size _ rfl) fun h' tk hk=>?_;exact hQ d h' tk (.inl ⟨rfl,rfl⟩) fun b o hbw e=>hk b o hbw (Heap.get?_push_of_some _ e)
  | 1,_,W,hQ =>
   refine T3 W pG eN (Heap.get?_push_size _ rfl) fun v h' tk hP hk=>?_;exact hQ v h' tk (.inr ⟨rfl,hP⟩) fun b o hbw e=>hk b o hbw (Nat.ne_of_lt (Heap.lt_size e)) (Heap.get?_push_of_some _ e)
 have ha:=Og x d;simp only [checkBuiltinCall,F.kind_min];cases hsig:Manifest.signature? "min" with
 | none=>exact wpAny_pure JZ
 | some sig =>
  have ha':Bind.checkArgs "min" sig ⟨[x],[("default",d)]⟩=pure ():=by simpa only [argsOk,hsig] using ha
  simp only [ha'];exact wpAny_pure JZ
end
end L2
namespace L2
open PySem PySem.Spec PyProof.Rows
def ib (h:Heap) (d:Addr) (es:Array DictEntry) (ep:Nat):Prop:=∃ o,h.get? d=some o∧o.ExactDict∧o.data=.dict es ep
theorem ib.at' {h h':Heap} {d:Addr} {es:Array DictEntry} {ep:Nat} (x:ib h d es ep) (k:∀ o,h.get? d=some o→h'.get? d=some o):ib h' d es ep:=let ⟨o,e,r⟩:=x; ⟨o,k o e,r⟩
section
variable {prog:Program} {w:World} {A:Around} {E:Value→Shared→Prop} {s:Shared} {es:Array DictEntry}
theorem ib.typeIs {d:Addr} {ep:Nat} (x:ib s.heap d es ep):s.TypeIs (.ref d) "dict" := let ⟨o,e,c,_⟩:=x; ⟨o,e,c.1⟩
theorem De {d:Addr} {ep:Nat} {Q:Value→Shared→Prop} (hd:(d == sysModules)=false) (hm:ib s.heap d es ep)
  (hQ:Q (.ref s.heap.objs.size) { s with heap:=s.heap.push { cls:=.type "dict_keyiterator",data:=.fields #[.ref d,.int 0 0,.int es.size 0,.int ep 0] } }) :
  wpAny (model prog w) A (pyIter (.ref d)) Q E s:=by
 obtain ⟨o,ho,hc,gC⟩:=id hm;have hT:=hm.typeIs;refine wpAny_pyIter_slot hT F.slot_dict_iter (wpAny_call_entry F.slot_dict_iter hT F.entry_dict_iter ?_ (F.args_dict_iter_1 _));unfold Builtin.«dict.__iter__» Builtin.Dict.dictSlotNone;refine wpAny_bind (wpAny_bind (wpAny_notOrdered_dict hT ?_));show wpAny _ _ (pure (Value.ref d)) _ _ s;refine wpAny_pure ?_;show wpAny _ _ (Builtin.Dict.showsAll d >>= _) _ _ s;unfold Builtin.Dict.showsAll;rw [if_neg (by rw [hd]; exact Bool.false_ne_true)];refine wpAny_bind (wpAny_pure (wpAny_bind (wpAny_dictEntries ho gC (wpAny_bind (wpAny_dictEpoch ho gC ?_)))));refine wpAny_bind (wpAny_newObj_type (wpAny_pure ⟨_,rfl, "dict_keyiterator",_,⟨_,Heap.get?_push_size _ rfl,rfl⟩,F.slot_dict_keyiterator_next.lookup,?_⟩))
 simpa [rawInt] using hQ
theorem EI {it d:Addr} {i ep:Nat} {Q:Option Value→Shared→Prop} (hit:s.heap.IsKeyIter it d i es.size ep) (hm:ib s.heap d es ep)
  (h1:∀ bV:i < es.size,∀ h',h'.IsKeyIter it d (i+1) es.size ep→Heap.SameBut it s.heap h'→Q (some es[i].key) { s with heap:=h' })
  (h2:es.size≤i→A.handled=none∧∀ h',Heap.ExtBut it s.heap h'→Q none { s with heap:=h' }) :
  wpAny (model prog w) A (pyNext (.ref it)) Q E s:=by
 obtain ⟨o,ho,hc,hd⟩:=id hit;obtain ⟨od,Jy,cI,vt⟩:=id hm;unfold pyNext;refine wpAny_bind (wpAny_attempt (wpAny_callSpecial?_slot (name:=Str.ofString "__next__") hit.typeIs F.slot_dict_keyiterator_next
  (wpAny_call_entry F.slot_dict_keyiterator_next hit.typeIs F.entry_dict_keyiterator_next ?_ (F.args_dict_keyiterator_next_1 _))))
 refine wpAny_bind (wpAny_pure (wpAny_bind (wpAny_bind ?_)));refine wpAny_bind (wpAny_typeNameOfWhole_keyiter hit.typeIs (wpAny_pure ?_));refine wpAny_bind (wpAny_fieldsOf ho hd ?_);simp only [show Builtin.Dict_items.ownsTuple "dict_keyiterator" = false by decide,Bool.false_eq_true,if_false];show wpAny _ _ (if (Value.ref d == Value.none)=true then _ else _) _ _ s;rw [if_neg (show ¬ ((Value.ref d == Value.none)=true) from Bool.false_ne_true)];refine wpAny_bind (wpAny_pure (wpAny_bind (wpAny_dictEntries Jy vt ?_)));rw [if_neg (by simp)];refine wpAny_bind (wpAny_pure (wpAny_bind (wpAny_dictEpoch Jy vt ?_)));rw [if_neg (by simp)];refine wpAny_pure ?_;rcases Nat.lt_or_ge i es.size with bV | vT
 ·simp only [show ¬ ((i:Int) < 0) from by omega,if_false,Int.toNat_natCast,Array.getElem?_eq_getElem bV];refine wpAny_bind (wpAny_bind (wpAny_typeNameOfWhole_keyiter hit.typeIs (wpAny_pure ?_)));refine wpAny_bind (wpAny_isOneOf_keyiter hit.typeIs ?_);show wpAny _ _ (setField (.ref it) 1 (rawInt ((i:Int)+1)) >>= _) _ _ s;refine wpAny_bind (wpAny_setField ho hd (by simp) ?_);have hit':(s.heap.update it (Obj.mapFields (·.setIfInBounds 1 (rawInt ((i:Int)+1))))).IsKeyIter it d (i+1) es.size ep :=
   ⟨_,Heap.get?_update_self _ ho (Obj.isFreed_of_fields (Obj.data_mapFields hd _)),(Obj.cls_mapFields ..).trans hc,by rw [Obj.data_mapFields hd]; simp [rawInt]⟩
  refine wpAny_bind (wpAny_holding (wpAny_bind (wpAny_isOneOf_keyiter (s:={ s with heap:=s.heap.update it (Obj.mapFields (·.setIfInBounds 1 (rawInt ((i:Int)+1)))) }) hit'.typeIs ?_)));show wpAny _ _ (pure es[i].key) _ _ _;exact wpAny_pure (wpAny_pure ⟨_,rfl,wpAny_pure (h1 bV _ hit' (Heap.SameBut.update ..))⟩)
 ·obtain ⟨hh,hQ⟩:=h2 vT;simp only [show ¬ ((i:Int) < 0) from by omega,if_false,Int.toNat_natCast,Array.getElem?_eq_none vT];refine wpAny_bind (wpAny_bind (wpAny_typeNameOfWhole_keyiter hit.typeIs (wpAny_pure ?_)));show wpAny _ _ (setField (.ref it) 0 .none >>= _) _ _ s;refine wpAny_bind (wpAny_setField ho hd (by simp) ?_);show wpAny _ _ (newExc (.type "StopIteration") [] >>= _) _ _ _;refine wpAny_bind ?_;simp only [newExc,newTuple];refine wpAny_bind (wpAny_newObj_type ?_ (by size_fits));refine wpAny_bind (m:=firstArgMember _ _) (wpAny_of_eq (a:=Value.none) (by first | rfl | (simp only [firstArgMember]; rfl)) ?_);refine wpAny_newObj_type ?_ (by size_fits);simp only [raiseNew];refine wpAny_bind (wpAny_handled ?_);rw [show A.in1.handled=none from hh];refine wpAny_bind (wpAny_pure (wpAny_throw ?_));refine wpAny_bind (wpAny_isInstance (T := "StopIteration") (b:=true) ⟨_,Heap.get?_push_size _ rfl,rfl⟩ isSubtype_stop ?_);exact wpAny_pure (hQ _ (((Heap.SameBut.update ..).extBut.push _).push _))
theorem Cw (hh:A.handled=none) (I d:Addr) (fm:d≠I) (es:Array DictEntry) (ep:Nat) :
  Walks prog w A I [I,d] [I] es.size (fun i v=>∃ e,es[i]?=some e∧v=e.key) (fun i h=>h.IsKeyIter I d i es.size ep∧ib h d es ep) where
 sub:=fun b hb=>by simp at hb; simp [hb]
 frame:=fun _ _ _ st hk=>⟨st.1.at fun o e=>hk I (by simp) o e,st.2.at' fun o e=>hk d (by simp) o e⟩
 item:=fun i s Q E hi st hQ=>EI st.1 st.2 (fun bV h' hit' hs'=>hQ _ h' s.toks ⟨es[i],by simp [bV],rfl⟩ ⟨hit',st.2.at' fun o e=>hs'.extBut d o fm e⟩ fun b o hb e=>hs'.extBut b o (fun h=>hb (by simp [h])) e) fun vT=>absurd hi (Nat.not_lt.mpr vT)
 done:=fun s Q E st hQ=>EI st.1 st.2 (fun bV=>absurd bV (Nat.lt_irrefl _)) fun _=>⟨hh,fun h' he'=>hQ h' s.toks fun b o hb e=>he' b o (fun h=>hb (by simp [h])) e⟩
 self:=fun _ _ _ _ st hQ=>wpAny_pyIter_keyiter st.1 hQ
end
end L2
namespace L2
open PySem PySem.Spec PyProof.Rows
section
variable {X:Cx}
def yi (te:TE):TE:=fun σ H Q=>te σ H fun x H1=>∃ a kvs,x=.ref a∧H1 a=some (.dT kvs)∧((kvs=[]∧Q .ax H1)∨∃ k v,kvs=[(k,v)]∧∀ p,H1 p=some (.tup (k.map kV))→Q (.ref p) H1)
theorem OI {e:Expr} {te:TE} {p p2 p3 pos:Pos} {j:Nat} (hc:X.calm=true) (hg:Gl X "min") (hm:X.mg "min" = none) (he:PE X e te) (hs:starEach [e] X.env=[(false,eval e X.env)]:=by rfl) :
  PE X (.Call (.Name "min" p) [e] [⟨some "default",.Constant .none j p2,p3⟩] pos) (yi te):=by
 intro pins s σ H Q I h;refine wpAny_Call_Name_kw (lx (u:=.builtin "min") I hg hm (by kernel_rfl) ?_);refine callWith_kw ?_ (by rw [hs]; rfl) (by rw [hs]; rfl);rw [hs];show wpAny _ _ (spliced ((false,eval e X.env)::backTo pos [])) _ _ s;refine Calls.spliced_cons (aE (he pins s σ H _ I h) fun u s1 ⟨x,H1,I1,rx,a,kvs,ex,hd,q⟩=>Calls.spliced_nil ?_);subst ex;cases (show u=Value.ref a from rx);refine kws_cons (Constant_none (kws_nil ?_));show wpAny _ _ (call (.builtin "min") [.ref a] [("default",.none)]) _ _ s1;obtain ⟨hz,hS,xs,hp,o,es,ep,ho,hex,gC,mV,JQ⟩:=id (I1.aC a _ hd);refine Sn (De hS ⟨o,ho,hex,gC⟩ ?_);have bV:a < s1.heap.objs.size:=Heap.lt_size ho;have hW:=Cw (prog:=X.prog) (w:=X.w) (A:=X.A.in1) (I1.ok.hd hc) s1.heap.objs.size a (Nat.ne_of_lt bV) es ep;have vg:(s1.heap.push { cls:=.type "dict_keyiterator",data:=.fields #[.ref a,.int 0 0,.int es.size 0,.int ep 0] }).IsKeyIter s1.heap.objs.size a 0 es.size ep∧ib (s1.heap.push { cls:=.type "dict_keyiterator",data:=.fields #[.ref a,.int 0 0,.int es.size 0,.int ep 0] }) a es ep :=
  ⟨⟨_,Heap.get?_push_size _ rfl,rfl,rfl⟩,⟨o,Heap.get?_push_of_some _ ho,hex,gC⟩⟩
 have BQ:∀ b∈[s1.heap.objs.size,a],b < (s1.heap.push { cls:=.type "dict_keyiterator",data:=.fields #[.ref a,.int 0 0,.int es.size 0,.int ep 0] }).objs.size:=fun b hb=>by
  rw [Heap.size_push];rcases List.mem_cons.mp hb with e | hb
  ·rw [e]; exact Nat.lt_succ_self _
  ·rw [List.mem_singleton.mp hb]; exact Nat.lt_succ_of_lt bV
 have kp:∀ h':Heap,(∀ b o,b ∉ [s1.heap.objs.size]→(s1.heap.push { cls:=.type "dict_keyiterator",data:=.fields #[.ref a,.int 0 0,.int es.size 0,.int ep 0] }).get? b=some o→h'.get? b=some o)→∀ b o,s1.heap.get? b=some o→h'.get? b=some o:=fun h' k b o e =>
  k b o (fun z=>by have z':=List.mem_singleton.mp z; have:=Heap.lt_size e; rw [z'] at this; exact Nat.lt_irrefl _ this) (Heap.get?_push_of_some _ e)
 have hsz:es.size=xs.length:=by rw [← Array.length_toList,mV,List.length_map]
 refine ⟨_,_,_,_,_,_,rfl,hW,vg,BQ,?_,fun v h' tk hv hk=>?_⟩
 ·rcases q with ⟨rfl,_⟩ | ⟨k,v,rfl,_⟩
  ·cases hp; rw [hsz]; exact Nat.zero_le _
  ·cases hp with | cons _ t=>cases t; rw [hsz]; exact Nat.le_refl _
 ·have I2:Inv X pins σ H1 { s1 with heap:=h',toks:=tk }:=I1.kept (t':=tk) (kp h' hk);rcases q with ⟨rfl,q⟩ | ⟨k,v',rfl,q⟩
  ·cases hp;rcases hv with ⟨_,rfl⟩ | ⟨h1,_⟩
   ·exact ⟨.ax,H1,I2,rfl,q⟩
   ·rw [hsz] at h1; cases h1
  ·cases hp with
   | @cons _ y _ _ hh t =>
    cases t;rcases hv with ⟨h1,_⟩ | ⟨_,e,he,rfl⟩
    ·rw [hsz] at h1; cases h1
    ·rw [← Array.getElem?_toList,mV] at he;cases he;exact ⟨.ref y.2.1,H1,I2,rfl,q _ hh.2.1⟩
end
end L2
namespace L2
open PySem PySem.Spec PyProof.Rows
theorem bO {f:Str} {v:V} {fs:List (Str×V)} {m:Nat} (h:fs.length≤m):(ae f v fs).length≤m+1:=Nat.le_trans (xC f v fs) (Nat.succ_le_succ h)
def cB (fs gs:List (Str×V)):Prop:=∀ f,fs.lookup f=gs.lookup f
theorem cB.refl (fs:List (Str×V)):cB fs fs:=fun _=>rfl
theorem cB.put {fs gs:List (Str×V)} (h:cB fs gs) (f:Str) (v:V):cB (ae f v fs) (ae f v gs):=fun g=>by rw [dC,dC,h g]
section
variable {X:Cx}
theorem TR {pins:List (Addr×Obj)} {σ:St} {H:Hp} {s:Shared} {Q:VK} {p:Addr} (hc:X.calm=true) (I:Inv X pins σ H s) (hd:H p=some (.dT [])) (q:∀ l,H l=none→Q (.ref l) (upd H l (.lst []))) :
  wpAny (model X.prog X.w) X.A (call (.builtin "sorted") [.ref p]) (EP X pins σ Q) X.xe s:=by
 obtain ⟨hz,hS,xs,hp,o,es,ep,ho,hex,gC,mV,JQ⟩:=id (I.aC p _ hd);cases hp;have he:es=#[]:=by
  have:es.toList=[]:=mV;exact Array.toList_eq_nil_iff.mp this
 subst he;have iX:s.heap.DictAt (dU X.prog X.w) p [] ep:=⟨o,#[],ho,hex,gC,fun e z=>absurd z (by simp),.nil,.nil⟩;refine Calls.call_function_entry kind_sorted plain_sorted entry_sorted (args_sorted1 _) ?_;unfold Builtin.«sorted»;refine wpAny_bind (m:=checkCount "sorted" 1 1 _) (wpAny_pure ?_);refine wpAny_bind (PySem.W.kdu_collect (A:=X.A.in1) (PySem.W.kdl_dict (knd:=dU X.prog X.w) (kvs:=[]) (ep:=ep) hS) (I.ok.hd hc) iX (Nat.zero_le _) fun h' tk acc hk' fM=>?_);have ha:acc=#[]:=Array.eq_empty_of_size_eq_zero fM.1;subst ha;refine wpAny_bind (wpAny_newList ?_ (Nat.zero_le _));have jO:(h'.push (seqObj "list" ([]:List Value).toArray 0)).get? h'.objs.size=some (seqObj "list" ([]:List Value).toArray 0):=Heap.get?_push_size _ rfl;refine wpAny_bind (wpAny_holding (wpAny_call_entry slot_list_sort ⟨_,jO,rfl⟩ entry_list_sort (list_sort_treeK strKind_oneLt (vs:=[]) jO (StrsAre.nil).keysOf (fun v₁ v₂ rest e=>nomatch e) (by decide) fun st' a1 a2=>⟨_,rfl,?_⟩) (args_list_sort _)));refine wpAny_pure ⟨_,rfl,?_⟩;obtain ⟨e,he⟩:=sortedHeap_at (out:=(arrOf st').map (·.2)) jO;have aQ:arrOf st'=#[]:=Array.eq_empty_of_size_eq_zero (a1.size_eq.trans (pairsOf_size []));rw [aQ,Array.map_empty] at he;have I1:Inv X pins σ H { s with heap:=h',toks:=tk }:=I.kept (t':=tk) hk';rw [aQ,Array.map_empty];refine ⟨.ref h'.objs.size,_,I1.laid (t':=tk) (fun b o z=>?_) (Nat.le_refl _) (show bP X.prog X.w _ _ _ (.lst []) from ⟨Nat.zero_le _,[],e,.nil,he⟩),rfl,q _ (I1.aC.fresh (Nat.le_refl _))⟩;have hb:b < h'.objs.size:=Heap.lt_size z;rw [sortedHeap_old (Nat.ne_of_lt hb) (by have:=Heap.size_push h' (seqObj "list" ([]:List Value).toArray 0); rw [this]; exact Nat.lt_succ_of_lt hb)];exact Heap.get?_push_of_some _ z
def OS (K:PySem.W.Frag):List V→Hp→VK→Prop:=fun xs H Q=>Fg K xs H Q∨D0 xs H Q∨∃ p,xs=[.ref p]∧H p=some (.dT [])∧∀ l,H l=none→Q (.ref l) (upd H l (.lst []))
theorem Qw {K:PySem.W.Frag} (h:X.K=K) (hc:X.calm=true):cE X (.builtin "sorted") (OS K):=by
 subst h;intro pins s σ H xs us Q I r h;rcases h with h | h | ⟨p,rfl,hd,q⟩
 ·exact P9 pins s σ H xs us Q I r h
 ·exact K4 hc pins s σ H xs us Q I r h
 ·obtain ⟨u,rfl,rx⟩:=vals1 r;cases rx;exact TR hc I hd q
theorem RD:bootBuiltins "sorted" = some (.builtin "sorted"):=by kernel_rfl
theorem Dv.minD {e:Expr} {te:TE} {p p2 p3 pos:Pos} {j:Nat} (hc:X.calm=true) (hm:X.mg "min" = none) (he:QE X e te) (hg:Gl X "min" := by rfl) (hs:starEach [e] X.env=[(false,eval e X.env)]:=by rfl) :
  QE X (.Call (.Name "min" p) [e] [⟨some "default",.Constant .none j p2,p3⟩] pos) (yi te):=⟨OI hc hg hm he.h hs⟩
end
end L2
namespace L2
open PySem PySem.Spec PyProof.Rows
structure iF (K:PySem.W.Frag) (x qual:Str) (st:Stmt) (f:Addr) (fd:FuncData) (ds:List Value):Prop where
 ex:∃ (oc:Value) (od:Option Addr) (dt:Addr) (kV doc pm:Value) (an:Option Addr) (az ct:Value) (c8:Array (Option Value)) (o:Obj) (n:Nat),
  fd=PySem.W.fnOf x qual (dZ st) (aU st) (aB st) (.ref dt) kV doc pm an az ct∧K.lookup f=some ⟨oc,od,.func fd,c8⟩∧PySem.W.codeIn K az qual=true∧K.lookup dt=some o∧o.data=.seq ds.toArray n
 kp:PySem.W.keepIn K (.ref f)=true
section
variable {P:Program} {w:World} {K:PySem.W.Frag} {mg:Str→Option Value} {base:Heap} {CX:dh} {x qual:Str} {st:Stmt} {f:Addr} {fd:FuncData} {N ps:List Str} {k:Nat} {ds:List Value}
theorem iF.di {sp:Sp} (F:iF K x qual st f fd ds) (S:aH N ps (aB st)) (len:∀ vs H Q E,sp vs H Q E→vs.length=ps.length)
  (hb:∀ (az:Value) (A:Around) (outer:List Env) (s:Shared) (H:Hp) (vs:List V) (Q:VK) (E:XK),bB k (A.deeper (envOfC qual (aB st) s.heap.objs.size f az))→sp vs H Q E →
   ∃ t,cT (fX CX P w K mg base N qual (aB st) f az A outer s H E) (aU st) t∧t { nx:=fun _ H'=>Q .ax H',rt:=Q } (start N vs) H):aA P w K mg base CX (k+1) f fd ps sp:=by
 obtain ⟨oc,od,dt,kV,doc,pm,an,az,ct,c8,o,n,rfl,lk,cI,_⟩:=F.ex;exact yk lk cI S len fun A outer s H vs Q E hr fH=>hb az A outer s H vs Q E hr fH
theorem iF.ok {sp:Sp} (F:iF K x qual st f fd ds) (S:aH N ps (aB st)) (len:∀ vs H Q E,sp vs H Q E→vs.length=ps.length)
  (hb:∀ (az:Value) (A:Around) (outer:List Env) (s:Shared) (H:Hp) (vs:List V) (Q:VK) (E:XK),bB k (A.deeper (envOfC qual (aB st) s.heap.objs.size f az))→sp vs H Q E →
   ∃ t,cT (fX aO P w K mg base N qual (aB st) f az A outer s H E).nN (aU st) t∧t { nx:=fun _ H'=>Q .ax H',rt:=Q } (start N vs) H):aA P w K mg base aO (k+1) f fd ps sp :=
 F.di S len fun az A outer s H vs Q E hr fH=>by
  obtain ⟨t,h,q⟩:=hb az A outer s H vs Q E hr fH;exact ⟨t,h.nN,q⟩
theorem Mp {oc:Value} {od an:Option Addr} {c8:Array (Option Value)} {kV doc pm az ct:Value} {dt:Addr} {o:Obj} {n:Nat} (l:K.lookup f=some ⟨oc,od,.func (PySem.W.fnOf x qual (dZ st) (aU st) (aB st) (.ref dt) kV doc pm an az ct),c8⟩)
  (c:PySem.W.codeIn K az qual=true) (k:PySem.W.keepIn K (.ref f)=true) (ld:K.lookup dt=some o) (hd:o.data=.seq ds.toArray n):iF K x qual st f (PySem.W.fnOf x qual (dZ st) (aU st) (aB st) (.ref dt) kV doc pm an az ct) ds :=
 ⟨⟨oc,od,dt,kV,doc,pm,an,az,ct,c8,o,n,rfl,l,c,ld,hd⟩,k⟩
end
section
variable {X:Cx}
end
end L2
namespace L2
open PySem PySem.Spec PyProof.Rows
theorem fw {X:Cx}:kG X (fun _=>E0) where
 pass:=fun pins σ H s e s' I hc=>by
  obtain ⟨ea,C,od,H',rfl,F,hE⟩:=hc;exact hE.elim
section
variable {X:Cx}
end
end L2
namespace L2
open PySem PySem.Spec PyProof.Rows
def gS {α:Type} (p:α→Prop):List α→Prop
 | []=>True
 | a::r=>p a∧gS p r
theorem gS.mem {α:Type} {p:α→Prop}:∀ {l:List α},gS p l→∀ a∈l,p a
 | _::_,h,a,ha=>by
  rcases List.mem_cons.mp ha with rfl | ha
  ·exact h.1
  ·exact gS.mem h.2 a ha
end L2
namespace L2
open PySem PySem.Spec PyProof.Rows
section
variable {X:Cx}
theorem Dp {pins:List (Addr×Obj)} {σ:St} {H:Hp} {s:Shared} {A:Around} {a b:Addr} {xs ys:List V} (I:Inv X pins σ H s) (ha:aL X.K H a xs) (hb:aL X.K H b ys) (h0:xs=[]∨ys=[]) (hu:A.units < cLine) :
  SeqAt.RcAt A s (.ref a) (.ref b) (decide (xs=ys))∧SeqAt.RcNeAt A s (.ref a) (.ref b) (!decide (xs=ys)):=by
 obtain ⟨i1,r1,p1,_⟩:=I.list ha;obtain ⟨i2,r2,p2,_⟩:=I.list hb;have n1:i1.toArray.size=xs.length:=by rw [List.size_toArray,← r1.length]
 have n2:i2.toArray.size=ys.length:=by rw [List.size_toArray,← r2.length]
 by_cases h:xs.length=ys.length
 ·have e1:xs=[]:=by
   rcases h0 with e | e
   ·exact e
   ·rw [e] at h; exact List.length_eq_zero_iff.mp h
  have e2:ys=[]:=by rw [e1] at h; exact List.length_eq_zero_iff.mp h.symm
  subst e1 e2;have hsz:i1.toArray.size=i2.toArray.size:=by rw [n1,n2]
  have hz:i1.toArray.size=0:=n1;have k1:=SeqAt.RcAt.lists (A:=A) (s:=s) (e:=fun _=>true) p1.isList p2.isList hsz hu (fun j g1 g2=>absurd g1 (by rw [hz]; exact Nat.not_lt_zero _));have k2:=SeqAt.RcNeAt.lists (A:=A) (s:=s) (e:=fun _=>true) p1.isList p2.isList hsz hu (fun j g1 g2=>absurd g1 (by rw [hz]; exact Nat.not_lt_zero _));rw [hz] at k1 k2;exact ⟨k1,k2⟩
 ·have hsz:(i1.toArray.size != i2.toArray.size)=true:=by rw [n1,n2]; simpa using h
  have e:decide (xs=ys)=false:=decide_eq_false fun z=>h (by rw [z]);rw [e];exact ⟨SeqAt.RcAt.lists_lengths p1.isList p2.isList hsz hu,SeqAt.RcNeAt.lists_lengths p1.isList p2.isList hsz hu⟩
def tE (K:PySem.W.Frag) (neg:Bool):R2:=fun x y H Q=>match x,y with
 | .ref a,.ref b=>∃ xs ys:List V,aL K H a xs∧aL K H b ys∧((ys=[]∧Q (.bl (neg ^^ xs.isEmpty)) H)∨(xs=[]∧Q (.bl (neg ^^ ys.isEmpty)) H))
 | _,_=>False
theorem Nv {xs ys:List V} (h:ys=[]):decide (xs=ys)=xs.isEmpty:=by subst h; cases xs <;> simp
theorem KW {xs ys:List V} (h:xs=[]):decide (xs=ys)=ys.isEmpty:=by subst h; cases ys <;> simp
theorem Te {K:PySem.W.Frag} (hK:X.K=K) (hu:X.A.units < cLine):bc X (compareOp .NotEq) (tE K true):=by
 subst hK;intro pins s σ H x y v u Q I rx ry h;unfold tE at h;split at h
 ·obtain ⟨xs,ys,ha,hb,q⟩:=h;cases rx; cases ry;simp only [Bool.true_bne] at q;rcases q with ⟨e,q⟩ | ⟨e,q⟩
  ·exact (Dp I ha hb (.inr e) hu).2 _ _ _ _ ⟨.bl _,H,I,rfl,by rw [Nv e]; exact q⟩
  ·exact (Dp I ha hb (.inl e) hu).2 _ _ _ _ ⟨.bl _,H,I,rfl,by rw [KW e]; exact q⟩
 ·exact h.elim
def xu:V→List V→Hp→VK→Prop:=fun x vs H Q=>match x,vs with
 | .ref l,[]=>∃ xs y,H l=some (.lst (xs++[y]))∧Q y (upd H l (.lst xs))
 | _,_=>False
theorem PB:cS X "list.pop" xu:=cS.imp (r:=Ej) SH fun x vs H Q h=>by
 unfold xu at h;split at h
 ·obtain ⟨xs,y,hl,q⟩:=h;refine ⟨_,xs++[y],y,rfl,rfl,hl,?_,?_⟩
  ·simp
  ·rw [List.dropLast_concat]; exact q
 ·exact h.elim
def OY:List V→Hp→VK→Prop:=fun xs H Q=>∃ p kvs,xs=[.ref p]∧H p=some (.dT kvs)∧∀ l (ks:List Addr),ks.length=kvs.length→(∀ (i:Nat) (a:Addr) (k:List Key) (v:V),ks[i]?=some a→kvs[i]?=some (k,v)→H a=some (.tup (k.map kV)))→H l=none →
 Q (.ref l) (upd H l (.lst (ks.map V.ref)))
end
end L2
namespace L2
open PySem PySem.Spec PyProof.Rows
theorem Uv {prog:Program} {w:World} {d:Addr} {es:Array DictEntry} {ep:Nat} (lo:(d == sysModules)=false):PySem.W.KdlSrc prog w "dict" d d es.size (fun i v=>∃ e,es[i]?=some e∧v=e.key) (fun h=>ib h d es ep) where
 type:=fun _ hm=>hm.typeIs
 there:=fun _ hm=>let ⟨_,e,_⟩:=hm; ⟨Heap.lt_size e,Heap.lt_size e⟩
 keep:=fun _ _ hm hk=>hm.at' fun o e=>hk d (.inl rfl) o e
 notList:=by decide
 notTuple:=by decide
 hint:=fun _ _ _ _ hm hq=>PySem.W.kdl_hint_dict hm.typeIs hq
 iter:=fun _ _ hh hm=>⟨_,_,(fun _ _ hq=>De lo hm hq),Cw hh _ d (let ⟨_,e,_⟩:=hm; Nat.ne_of_lt (Heap.lt_size e)) es ep,⟨⟨_,Heap.get?_push_size _ rfl,rfl,rfl⟩,hm.at' fun o e=>Heap.get?_push_of_some _ e⟩⟩
theorem Ig {α β:Type} {F:α→β→Prop}:∀ {l₁:List α} {l₂:List β},Paired F l₁ l₂→∀ {i:Nat} {a:α} {b:β},l₁[i]?=some a→l₂[i]?=some b→F a b
 | _,_,.cons h _,0,_,_,e1,e2=>by cases e1; cases e2; exact h
 | _,_,.cons _ t,i+1,_,_,e1,e2=>Ig t e1 e2
section
variable {X:Cx}
theorem wg:∀ {vs:List V} {us:List Value},vs.length=us.length→(∀ (i:Nat) (v:V) (u:Value),vs[i]?=some v→us[i]?=some u→RelV v u)→Vals vs us
 | [],[],_,_=>.nil
 | v::vs,u::us,e,h=>.cons (h 0 v u rfl rfl) (wg (by simpa using e) fun i v u h1 h2=>h (i+1) v u h1 h2)
theorem LY (hc:X.calm=true):cE X (.type "list") OY:=by
 intro pins s σ H xs us Q I r h;obtain ⟨p,kvs,rfl,hd,q⟩:=h;obtain ⟨u,rfl,rx⟩:=vals1 r;cases rx;obtain ⟨hz,hS,ys,hp,o,es,ep,ho,hex,gC,mV,JQ⟩:=id (I.aC p _ hd);have hsz:es.size=ys.length:=by rw [← Array.length_toList,mV,List.length_map]
 have jX:kvs.length=ys.length:=hp.length;refine PySem.W.kdl_call (Uv (prog:=X.prog) (w:=X.w) (ep:=ep) (es:=es) hS) (I.ok.hd hc) ⟨o,ho,hex,gC⟩ (by rw [hsz,← jX]; exact hz) fun h' tk acc c hk hD fM=>?_;have hal:acc.toList.length=ys.length:=by rw [Array.length_toList,fM.1,hsz]
 have hv:Vals ((ys.map (·.2.1)).map V.ref) acc.toList:=by
  refine wg (by simp [hal]) fun i v u h1 h2=>?_;obtain ⟨e,he,rfl⟩:=fM.2 i u (by rw [← Array.getElem?_toList]; exact h2);rw [← Array.getElem?_toList,mV,List.getElem?_map] at he;rw [List.map_map,List.getElem?_map] at h1;cases hy:ys[i]? with
  | none=>rw [hy] at h1; cases h1
  | some y =>
   rw [hy] at h1 he;cases h1; cases he;exact rfl
 refine ⟨.ref s.heap.objs.size,_,I.laid (t':=tk) hk (Nat.le_refl _) (show bP X.prog X.w _ _ _ (.lst ((ys.map (·.2.1)).map V.ref)) from ⟨?_,_,c,hv,?_⟩),rfl,q _ (ys.map (·.2.1)) ?_ (fun i a k v h1 h2=>?_) (I.aC.fresh (Nat.le_refl _))⟩
 ·simp only [List.length_map]; rw [← jX]; exact hz
 ·rw [Array.toArray_toList]; exact hD
 ·rw [List.length_map,jX]
 ·rw [List.getElem?_map] at h1;cases hy:ys[i]? with
  | none=>rw [hy] at h1; cases h1
  | some y =>
   rw [hy] at h1;cases h1;have z:=Ig hp h2 hy;exact z.2.1
end
end L2
namespace L2
open PySem PySem.Spec PyProof.Rows
theorem P2:typeLookup (.type "list_reverseiterator") "__len__" = pure none:=by rw [typeLookup_type,builtinLookup_eq_fast]; kernel_rfl
theorem O9:typeLookup (.type "list_reverseiterator") "__length_hint__" = pure (some (.builtin "list_reverseiterator.__length_hint__")):=by rw [typeLookup_type,builtinLookup_eq_fast]; kernel_rfl
section
variable {prog:Program} {w:World} {A:Around} {E:Value→Shared→Prop} {s:Shared} {I:Addr}
theorem Wc {Q:Bool→Shared→Prop} (hT:s.TypeIs (.ref I) "list_reverseiterator") (h:Q false s):wpAny (model prog w) A (Builtin.List.listLengthHint (.ref I)) Q E s:=by
 unfold Builtin.List.listLengthHint;refine wpAny_bind (wpAny_specialOf hT P2 ?_);show wpAny _ A (specialOf (Value.ref I) (Str.ofString "__length_hint__") >>= _) _ _ _;refine wpAny_bind (wpAny_specialOf hT O9 ?_);generalize hid:("list_reverseiterator.__length_hint__" : String)=id0
 wp_delta
 rw [show splitId id0=some ("list_reverseiterator", "__length_hint__") from by subst hid; decide +kernel];subst hid;refine wpAny_bind (wpAny_isInstance (T := "list_reverseiterator") (b:=true) hT (by rw [isSubtype_type]; kernel_rfl) ?_);refine wpAny_ite_split (fun eS=>absurd eS (by decide)) (fun _=>?_);refine wpAny_ite_split (fun _=>?_) (fun eS=>absurd (by decide +kernel) eS);refine wpAny_ite_split (fun eS=>absurd eS (by decide +kernel)) (fun _=>?_);exact wpAny_pure h
theorem TC {R:Result→Shared→Prop} {l S:Addr} {items:Array Value} {res:Value} {c₀:Nat} (hh:A.handled=none) (hit:s.heap.IsRevIter I l ((items.size:Int) - 1)) (hl:s.heap.IsList l items) (fm:l≠I) (J7:S≠I) (hSl:S≠l) (hn:items.size≤sizeLine)
  (hS:s.heap.get? S=some { cls:=.type "list",data:=.seq #[] c₀ })
  (hR:∀ h' tk acc' c',(∀ b o,b≠S→b≠I→s.heap.get? b=some o→h'.get? b=some o)→h'.get? S=some { cls:=.type "list",dict:=none,data:=.seq acc' c',slots:=#[] }→ItemsOf (fun i v=>items[items.size - 1 - i]?=some v) acc' items.size→R (.ok (.ret res)) { s with heap:=h',toks:=tk }) :
  wpAny (model prog w) A.in1 (Builtin.List.listExtendWith (.ref S) (.ref I) res)
   (fun fin s'=>match fin with | .done f=>R (.ok f) s' | .again c'=>c'.quiet=true∧codeAny (model prog w) A c' R s') (fun e s'=>R (.error e) s') s:=by
 have W:=Walks.listRev (prog:=prog) (w:=w) (A:=A.in1) hh I l fm items;have pG:S ∉ [I,l]:=by simp only [List.mem_cons,List.not_mem_nil,or_false,not_or]; exact ⟨J7,hSl⟩
 have vg:0≤items.size∧s.heap.IsRevIter I l ((items.size:Int) - 1 - ((0:Nat):Int))∧s.heap.IsList l items:=⟨Nat.zero_le _,by simpa using hit,hl⟩;unfold Builtin.List.listExtendWith;refine wpAny_bind (wpAny_typeOf hit.typeIs ?_);have h1:Builtin.List.listSameRef (.ref S) (.ref I)=false:=by simp [Builtin.List.listSameRef,J7]
 simp only [h1,show (Value.type "list_reverseiterator" == Value.type "list")=false by decide,show (Value.type "list_reverseiterator" == Value.type "tuple")=false by decide,Bool.or_false,Bool.false_eq_true,if_false];refine wpAny_bind (W.self 0 _ _ _ vg ?_);refine wpAny_bind (wpAny_holding (Wc hit.typeIs ?_));refine wpAny_ite_split (fun h=>absurd h (by decide)) (fun _=>wpAny_pure ⟨plainId_quiet PySem.F.plain_extend_loop _,?_⟩);refine codeAny_extend_loopS W.toS hn S pG res items.size 0 _ #[] c₀ rfl (Nat.zero_le _) vg hS (ItemsOf.nil _) fun s' acc' c' hm hS' fM=>?_;rw [Moved.eq_with hm];refine hR s'.heap s'.toks acc' c' (fun b o hb hb' e=>hm.heap b o (fun hmem=>?_) e) hS' fM;rcases List.mem_cons.mp hmem with e' | hmem
 ·exact hb e'
 ·exact hb' (List.mem_singleton.mp hmem)
theorem Np {Q:Value→Shared→Prop} {l:Addr} {items:Array Value} (hh:A.handled=none) (hit:s.heap.IsRevIter I l ((items.size:Int) - 1)) (hl:s.heap.IsList l items) (fm:l≠I) (hn:items.size≤sizeLine)
  (hQ:∀ h' tk acc' c',(∀ b o,b≠I→s.heap.get? b=some o→h'.get? b=some o)→h'.get? s.heap.objs.size=some { cls:=.type "list",dict:=none,data:=.seq acc' c',slots:=#[] }→ItemsOf (fun i v=>items[items.size - 1 - i]?=some v) acc' items.size →
   Q (.ref s.heap.objs.size) { s with heap:=h',toks:=tk }):wpAny (model prog w) A (call (.type "list") [.ref I]) Q E s:=by
 have hIlt:I < s.heap.objs.size:=let ⟨_,e,_⟩:=hit; Heap.lt_size e
 have hllt:l < s.heap.objs.size:=let ⟨_,e,_⟩:=hl; Heap.lt_size e
 refine callType_codes (Q₁:=fun obj s₁=>obj=.ref s.heap.objs.size∧s₁={ s with heap:=s.heap.push { cls:=.type "list",data:=.seq #[] } }) PySem.F.called_list (PySem.F.typeCall_list_1 _) PySem.F.entry_list_init
  (code_list_new _ ⟨rfl,rfl⟩) fun obj s₁ h₁=>?_
 obtain ⟨rfl,rfl⟩:=h₁;have hS:(s.heap.push { cls:=.type "list",data:=.seq #[] }).get? s.heap.objs.size=some { cls:=.type "list",data:=.seq #[] }:=Heap.get?_push_size _ rfl;refine ⟨⟨_,hS,rfl⟩,PySem.F.args_list_init_2 _ _,?_⟩;show wpAny _ _ (do let old ← Builtin.List.listItems (.ref s.heap.objs.size); Builtin.List.listUpdate (.ref s.heap.objs.size) (fun _=>#[]); letGo old.toList.reverse; Builtin.List.listExtendWith (.ref s.heap.objs.size) (.ref I) .none) _ _ _;refine wpAny_bind ?_;unfold Builtin.List.listItems;refine wpAny_bind (wpAny_seqItems hS rfl (wpAny_pure ?_));show wpAny _ _ (updateSeq s.heap.objs.size (fun _=>#[]) >>= fun _=>letGo (#[]:Array Value).toList.reverse >>= fun _=>Builtin.List.listExtendWith (.ref s.heap.objs.size) (.ref I) .none) _ _ _;refine wpAny_bind (wpAny_updateSeq hS rfl ?_);have hS₂:=Heap.get?_update_self (Obj.mapSeq (fun _=>(#[]:Array Value))) hS rfl;have Bn:∀ b o,s.heap.get? b=some o→((s.heap.push { cls:=.type "list",data:=.seq #[] }).update s.heap.objs.size (Obj.mapSeq (fun _=>(#[]:Array Value)))).get? b=some o :=
  fun b o e=>(Heap.get?_update_other _ _ (Nat.ne_of_gt (Heap.lt_size e))).trans (Heap.get?_push_of_some _ e)
 refine wpAny_bind (wpAny_letGo ?_);refine TC (A:=A.in1) hh (hit.at fun o e=>Bn _ o e) (hl.at fun o e=>Bn _ o e) fm (Nat.ne_of_gt hIlt) (Nat.ne_of_gt hllt) hn hS₂ fun h' tk acc' c' hk hS' fM=>?_;exact ⟨rfl,hQ h' tk acc' c' (fun b o hb e=>hk b o (Nat.ne_of_lt (Heap.lt_size e)) hb (Bn b o e)) hS' fM⟩
end
end L2
namespace L2
open PySem PySem.Spec PyProof.Rows
section
variable {X:Cx}
def Hv (K:PySem.W.Frag) (te:TE):TE:=fun σ H Q=>te σ H fun x H1=>∃ p ys,x=.ref p∧aL K H1 p ys∧∀ l,H1 l=none→Q (.ref l) (upd H1 l (.lst ys.reverse))
theorem O3 {e:Expr} {te:TE} {p q pos qos:Pos} (hc:X.calm=true) (hg:Gl X "list") (hm:X.mg "list" = none) (BU:Gl X "reversed") (Bm:X.mg "reversed" = none) (he:PE X e te) (hs:starEach [e] X.env=[(false,eval e X.env)]:=by rfl) :
  PE X (.Call (.Name "list" p) [.Call (.Name "reversed" q) [e] [] qos] [] pos) (Hv X.K te):=by
 intro pins s σ H Q I h;refine wpAny_Call_Name_kw (lx (u:=.type "list") I hg hm (by kernel_rfl) ?_);refine PyProof.Rows.callWith_type1 ?_;show wpAny _ _ (spliced ((false,eval (.Call (.Name "reversed" q) [e] [] qos) X.env)::backTo pos (starEach [] X.env))) _ _ s;refine Calls.spliced_cons ?_;refine wpAny_Call_Name_kw (lx (u:=.type "reversed") I BU Bm (by kernel_rfl) ?_);refine PyProof.Rows.callWith_type1 ?_ (by rw [hs]; rfl) (by rfl);rw [hs];show wpAny _ _ (spliced ((false,eval e X.env)::backTo qos [])) _ _ s;refine Calls.spliced_cons (aE (he pins s σ H _ I h) fun u s1 ⟨x,H1,I1,rx,a,ys,ex,hl,q⟩=>Calls.spliced_nil ?_);subst ex;cases (show u=Value.ref a from rx);obtain ⟨aq,r',pl,hz⟩:=I1.list hl;have hlen:=r'.length;obtain ⟨oa,hoa,_⟩:=pl.isList;have halt:a < s1.heap.objs.size:=Heap.lt_size hoa;refine call_reversed_list pl.isList ?_;refine Calls.spliced_nil ?_;refine Np (I1.ok.hd hc) (l:=a) (items:=aq.toArray) ⟨_,Heap.get?_push_size _ rfl,rfl,rfl⟩ (pl.isList.at fun o e=>Heap.get?_push_of_some _ e) (Nat.ne_of_lt halt) (by rw [List.size_toArray,← hlen]; exact hz) fun h' tk acc c hk hD fM=>?_;have kp:∀ b o,s1.heap.get? b=some o→h'.get? b=some o:=fun b o e=>hk b o (Nat.ne_of_lt (Heap.lt_size e)) (Heap.get?_push_of_some _ e);have hsz:s1.heap.objs.size≤(s1.heap.push (revObj a ((aq.toArray.size:Int) - 1))).objs.size:=by rw [Heap.size_push]; exact Nat.le_succ _
 have hv:Vals ys.reverse acc.toList:=by
  have ha:acc.size=aq.length:=by rw [fM.1,List.size_toArray]
  refine wg (by rw [List.length_reverse,hlen,← ha]; exact Array.length_toList.symm) fun i v u h1 h2=>?_;have hu:=fM.2 i u (by rw [← Array.getElem?_toList]; exact h2);have hi:i < ys.length:=by have:=(List.getElem?_eq_some_iff.mp h1).1; rwa [List.length_reverse] at this
  rw [List.getElem?_reverse hi] at h1;obtain ⟨w,hw,rw'⟩:=r'.get h1;rw [List.getElem?_toArray,List.size_toArray,← hlen,hw] at hu;cases hu;exact rw'
 refine ⟨.ref _,_,I1.laid (t':=tk) kp hsz (show bP X.prog X.w _ _ _ (.lst ys.reverse) from ⟨by rw [List.length_reverse]; exact hz,_,c,hv,by rw [Array.toArray_toList]; exact hD⟩),rfl,q _ (I1.aC.fresh hsz)⟩
theorem Dv.listRev {e:Expr} {te:TE} {p q pos qos:Pos} {K:PySem.W.Frag} (hK:X.K=K) (hc:X.calm=true) (hm:X.mg "list" = none) (Bm:X.mg "reversed" = none) (he:QE X e te) (hg:Gl X "list" := by rfl) (BU:Gl X "reversed" := by rfl) (hs:starEach [e] X.env=[(false,eval e X.env)]:=by rfl) :
  QE X (.Call (.Name "list" p) [.Call (.Name "reversed" q) [e] [] qos] [] pos) (Hv K te):=hK ▸ ⟨O3 hc hg hm BU Bm he.h hs⟩
end
end L2
namespace L2
open PySem PySem.Spec PyProof.Rows
theorem WJ {K:PySem.W.Frag} {x:Str} {f c P:Addr} {oc occ:Value} {od odc:Option Addr} {fd:FuncData} {sl slc:Array (Option Value)} {vs:Array Value} (n:PySem.W.nsIn K mainGlobals x=some (some (.ref f))) (l:K.lookup f=some ⟨oc,od,.func fd,sl⟩) (hc:fd.code=.ref c)
  (lc:K.lookup c=some ⟨occ,odc,.fields vs,slc⟩) (hv:vs[11]?=some (.ref P)):PySem.W.tabIn K x=some (c,P):=by
 unfold PySem.W.tabIn;simp only [n,l,hc,lc,hv]
end L2
namespace L2
open PySem PySem.Spec PyProof.Rows
end L2
namespace L2
open PySem PySem.Spec PyProof.Rows
def b7 (X:Cx) (scope:Scope) (cl:List (Str×Addr)) (N:List Str) (s:Shared) (H:Hp) (ex:List Addr) (C:Addr):Cx :=
 { X with N:=N,s₀:=s,H₀:=H,env:=compEnvC scope cl C X.env,outer:=X.stack,stack:=X.stack,ex:=ex,fn:=fun _=>false,pn:=[],xe:=fun _ _=>False }
structure ic (X:Cx) (scope:Scope) (cl:List (Str×Addr)) (caps:List Str) (ix:List Nat):Prop where
 lQ:closureFor scope X.env=pure cl
 sub:∀ x c,cl.lookup x=some c→X.env.cells.lookup x=some c
 has:∀ y,((relabel scope X.env).names.lookup y=some .cell∨(relabel scope X.env).names.lookup y=some .free)→∃ c,cl.lookup y=some c
 len:ix.length=caps.length
 at':∀ (i j:Nat),ix[i]?=some j→∃ x,caps[i]?=some x∧X.N[j]?=some x∧X.env.scope.names.lookup x=some .cell∧(relabel scope X.env).names.lookup x=some .cell∧cl.lookup x=X.env.cells.lookup x
theorem ic.of {X:Cx} {scope:Scope} {cl:List (Str×Addr)} {caps:List Str} {ix:List Nat} (lQ:closureFor scope X.env=pure cl) (sub:gS (fun e:Str×Addr=>X.env.cells.lookup e.1=some e.2) cl)
  (has:gS (fun e:Str×NameKind=>(e.2=.cell∨e.2=.free)→∃ c,cl.lookup e.1=some c) (relabel scope X.env).names) (len:ix.length=caps.length)
  (at':gS (fun e:Nat×Str=>X.N[e.1]?=some e.2∧X.env.scope.names.lookup e.2=some .cell∧(relabel scope X.env).names.lookup e.2=some .cell∧cl.lookup e.2=X.env.cells.lookup e.2) (ix.zip caps)):ic X scope cl caps ix where
 lQ:=lQ
 sub:=fun x c h=>gS.mem sub _ (PySem.mem_of_lookup h)
 has:=fun y hy=>by
  rcases hy with h | h
  ·exact gS.mem has _ (PySem.mem_of_lookup h) (.inl rfl)
  ·exact gS.mem has _ (PySem.mem_of_lookup h) (.inr rfl)
 len:=len
 at':=fun i j h=>by
  have hi:=(List.getElem?_eq_some_iff.mp h).1;have hi':i < caps.length:=len ▸ hi;have hm:(j,caps[i])∈ix.zip caps:=by
   refine List.mem_iff_getElem?.mpr ⟨i,?_⟩;rw [List.getElem?_zip_eq_some];exact ⟨h,List.getElem?_eq_getElem hi'⟩
  have z:=gS.mem at' _ hm;exact ⟨caps[i],List.getElem?_eq_getElem hi',z⟩
def kH (n:Nat) (ix:List Nat) (wi:TI) (g:TG) (tt:TT) (te:TE):TE:=fun σ H Q=>∃ vs,wF ix σ vs∧wi σ H fun J H1=>∃ W:Nat→List V→Nat→Hp→Prop,(∃ m,W 0 [] m H1)∧∀ i ys m H,W i ys m H →
 ys.length≤sizeLine∧((J.stop i H∧∀ l,H l=none→Q (.ref l) (upd H l (.lst ys))) ∨
  (J.go i H∧ys.length < sizeLine∧∀ y H',J.jz i H y H'→∀ σ0:St,σ0.length=n→g y (σ0++vs.map some) H' fun σ1 H1=>(∃ σ2:St,σ1=σ2++vs.map some∧σ2.length=n) ∧
   tt σ1 H1 fun c H2=>if c=true then te σ1 H2 fun z H3=>∃ m',m' < m∧W (i+1) (ys++[z]) m' H3 else ∃ m',m' < m∧W (i+1) ys m' H2))
section
variable {X:Cx}
theorem U0 {pins:List (Addr×Obj)} {σ:St} {H:Hp} {s s4:Shared} {scope:Scope} {cl:List (Str×Addr)} {TN caps:List Str} {ix:List Nat} {vs:List V} {fp:List Addr} {C:Addr} {m:Str→Option Value} (I:Inv X pins σ H s) (CC:ic X scope cl caps ix) (hv:wF ix σ vs) (hf:∀ b∈fp,jq X pins H b) (bV:∀ b∈fp,b < s.heap.objs.size)
  (hk:scope.kind=.function) (hC:s.heap.objs.size≤C)
  (mL:s4.os=s.os) (hgen:s4.gens=s.gens) (old:∀ b o,s.heap.get? b=some o→s4.heap.get? b=some o) (fO:s4.heap.Ns C m):Inv (b7 X scope cl (TN++caps) s H fp C) [] ((TN.map fun _=>none)++vs.map some) H s4:=by
 refine ⟨⟨I.ok.mod,hk,I.ok.glob,I.ok.blt,hC,fun x y c e1 e2=>I.ok.inj x y c (CC.sub x c e1) (CC.sub y c e2),fun y hy=>CC.has y hy,fun _ _ e=>(by cases e),I.ok.hd,I.ok.frames,.inl rfl,fun b hb=>⟨Nat.ne_of_lt (Nat.lt_of_lt_of_le (bV b hb) hC),fun x c e=>(hf b hb).2.2.2.2.1 x c (CC.sub x c e)⟩,
  fun b o e=>I.bs b o e,Nat.le_trans I.ok.gr I.sz,fun b o e hb=>?_,fun b hb hm=>?_,I.stack,I.tY⟩,
  mL,by rw [hgen]; exact I.bare,Un.kept old,⟨m,fO,fun i y v e1 e2 _=>?_⟩,fun x c e=>?_,I.aC.fresh hC,fun x c e=>I.eV x c (CC.sub x c e),fun p hp=>absurd (show p∈([]:List (Addr×Obj)) from hp) (by simp),I.aC.kept old,?_⟩
 ·rcases (hf b hb).2.2.2.1 with z | z
  ·exact I.ok.ku b o e z
  ·exact absurd (Nat.lt_of_lt_of_le (Nat.lt_of_lt_of_le (Heap.lt_size e) I.ok.gr) z) (Nat.lt_irrefl _)
 ·rcases List.mem_cons.mp (I.ux b hm) with z | z
  ·exact (hf b hb).2.1 z
  ·exact (hf b hb).2.2.1 z
 ·have e1':(TN++caps)[i]?=some y:=e1;have e2':((TN.map fun _=>(none:Option V))++vs.map some)[i]?=some (some v):=e2;by_cases hi:i < TN.length
  ·rw [List.getElem?_append_left (by simpa using hi),List.getElem?_map] at e2';cases h:TN[i]? <;> rw [h] at e2' <;> simp at e2'
  ·rw [List.getElem?_append_right (by omega)] at e1';rw [List.getElem?_append_right (by simpa using Nat.not_lt.mp hi),List.length_map,List.getElem?_map] at e2';have ev:vs[i - TN.length]?=some v:=by
    cases h:vs[i - TN.length]? with
    | none=>rw [h] at e2'; cases e2'
    | some a=>rw [h] at e2'; cases e2'; rfl
   have hlt':i - TN.length < ix.length:=by
    rw [← hv.1]; exact (List.getElem?_eq_some_iff.mp ev).1
   obtain ⟨x,c1,c2,c3,c4,c5⟩:=CC.at' _ _ (List.getElem?_eq_getElem hlt');rw [e1'] at c1; cases c1;have hσ:=hv.2 _ _ v (List.getElem?_eq_getElem hlt') ev;obtain ⟨m0,_,hl⟩:=I.loc;obtain ⟨u,ru,lk⟩:=hl _ y v c2 hσ (.inr (.inl c3));rcases lk with ⟨k1,_⟩ | ⟨_,c,k2,o,k3,k4⟩
   ·have:X.env.scope.names.lookup y=some .local:=k1;rw [c3] at this; cases this
   ·exact ⟨u,ru,.inr ⟨.inl c4,c,by show cl.lookup y=some c; rw [c5]; exact k2,o,old _ _ k3,k4⟩⟩
 ·obtain ⟨v,o,e1,e2⟩:=I.cell x c (CC.sub x c e);exact ⟨v,o,old _ _ e1,e2⟩
 ·show ((TN.map fun _=>(none:Option V))++vs.map some).length=(TN++caps).length;rw [List.length_append,List.length_append,List.length_map,List.length_map,hv.1,CC.len]
theorem D6 {elt iter:Expr} {ifs:List Expr} {tg:Expr} {g:TG} {TN caps:List Str} {ix:List Nat} {cl:List (Str×Addr)} {pos:Pos} {scope:Scope} {wi:TI} {tt:TT} {te:TE} (hc:X.calm=true) (hi:PI X tg iter wi)
  (ht:∀ s H ex C,oW (b7 X scope cl (TN++caps) s H ex C) ifs tt) (f7:∀ s H ex C,PG (b7 X scope cl (TN++caps) s H ex C) tg g) (he:∀ s H ex C,PE (b7 X scope cl (TN++caps) s H ex C) elt te) (CC:ic X scope cl caps ix)
  (hk:scope.kind=.function) (f9:∀ y∈scope.names,y.2≠.cell)
  {pins:List (Addr×Obj)} {s:Shared} {σ:St} {H:Hp} {Q:VK} {RR:Value→Addr→Result→Shared→Prop} (I:Inv X pins σ H s) (h:kH TN.length ix wi g tt te σ H Q)
  (BG:∀ (a C:Addr) (s6:Shared) (H6:Hp),Inv X pins σ H6 s6→(∃ m,s6.heap.Ns C m)→yF X pins H6 C→Q (.ref a) H6→RR (.ref a) C (.ok .next) s6) :
  wpAny (model X.prog X.w) X.A (eval iter X.env) (fun v s1=>wpAny (model X.prog X.w) X.A (pyIter v) (fun it s2=>wpAny (model X.prog X.w) X.A (newList []) (fun acc s3 =>
   wpAny (model X.prog X.w) X.A (newFunctionEnv scope X.env.globals cl [] X.env.qual none .none (some X.env)) (fun Io s4 =>
    codeAny (model X.prog X.w) X.A (.compStart (.ListComp elt [⟨tg,iter,ifs,0⟩] scope pos) 0 it acc { Io with scope:=relabel scope X.env }) (RR acc Io.locals) s4) X.xe s3) X.xe s2) X.xe s1) X.xe s:=by
 obtain ⟨vs,hvs,h⟩:=h;refine aE (hi pins s σ H _ I h) fun v s1 h1=>aE h1 fun BL s2 h2=>?_;obtain ⟨it,fp,tn,J,H2,rfl,I2,T,eN,f2,W,⟨m0,w0⟩,turn⟩:=h2;have bV:∀ b∈fp,b < s2.heap.objs.size:=fun b hb=>let ⟨o,e,_⟩:=T.obj _ _ eN b hb; Heap.lt_size e
 refine wpAny_newObj_type (wpAny_newFunctionEnv f9 (by intro y hy; simp at hy) (fun h1 hns1 hsb1=>?_) hk);dsimp only at hns1 hsb1 ⊢;generalize Bo:s2.heap.push { cls:=.type "list",dict:=none,data:=.seq ([]:List Value).toArray }=G at hns1 hsb1 ⊢;have hG:G.objs.size=s2.heap.objs.size+1:=by rw [← Bo,Heap.size_push]
 have vG:s2.heap.objs.size≠G.objs.size:=by rw [hG]; exact Nat.ne_of_lt (Nat.lt_succ_self _)
 have mT:s2.heap.objs.size≤G.objs.size:=by rw [hG]; exact Nat.le_succ _
 have old:∀ b o,s2.heap.get? b=some o→h1.get? b=some o:=fun b o e=>by
  exact hsb1.extBut b o (Nat.ne_of_lt (Nat.lt_of_lt_of_le (Heap.lt_size e) mT)) (Heap.get?_push_of_some _ (Bo ▸ Heap.get?_push_of_some _ e))
 have accO:h1.get? s2.heap.objs.size=some { cls:=.type "list",dict:=none,data:=.seq ([]:List Value).toArray } :=
  hsb1.extBut _ _ vG (Heap.get?_push_of_some _ (Bo ▸ Heap.get?_push_size _ rfl))
 -- gb state at gb block's entry
 have main:∀ s4:Shared,s4={ s2 with heap:=h1,toks:=s2.toks+([]:List (Str×Value)).length } →
   codeAny (model X.prog X.w) X.A (.compLoop (.ListComp elt [⟨tg,iter,ifs,0⟩] scope pos) 0 (.ref it) (.ref s2.heap.objs.size) (compEnvC scope cl G.objs.size X.env))
    (RR (.ref s2.heap.objs.size) G.objs.size) s4:=by
  rintro s4 rfl;have I4:Inv (b7 X scope cl (TN++caps) s2 H2 fp G.objs.size) [] ((TN.map fun _=>none)++vs.map some) H2 { s2 with heap:=h1,toks:=s2.toks+([]:List (Str×Value)).length } :=
   U0 I2 CC hvs f2 bV hk mT rfl rfl old hns1
  have B2:∀ {H':Hp} {pl:List (Addr×Obj)},(∀ b∈fp,H' b=none)→(∀ p∈pl,p.1 ∉ fp)→∀ b∈fp,jq (b7 X scope cl (TN++caps) s2 H2 fp G.objs.size) pl H' b:=fun hn hp b hb =>
   ⟨hn b hb,Nat.ne_of_lt (Nat.lt_of_lt_of_le (bV b hb) mT),I4.ok.kC b hb,.inl hb,fun x c e=>(f2 b hb).2.2.2.2.1 x c (CC.sub x c e),fun p hp' e=>hp p (by simpa [b7] using hp') (e ▸ hb)⟩
  have Jl:s2.heap.objs.size ∉ fp:=fun z=>Nat.lt_irrefl _ (bV _ z);refine QN (fun n s'=>∃ (i:Nat) (ys:List V) (aq:List Value) (k:Nat) (σ':St) (H':Hp),(∃ σ0:St,σ'=σ0++vs.map some∧σ0.length=TN.length)∧Inv (b7 X scope cl (TN++caps) s2 H2 fp G.objs.size) [] σ' H' s'∧tn i s'.heap∧(∀ b∈fp,H' b=none)∧H' s2.heap.objs.size=none∧Vals ys aq ∧
   s'.heap.get? s2.heap.objs.size=some { cls:=.type "list",dict:=none,data:=.seq aq.toArray k }∧W i ys n H') (fun _ _ _=>trivial) ?_ m0
   ⟨0,[],[],0,_,H2,⟨_,rfl,by simp⟩,I4,T.keep _ _ _ eN (fun b _ o e=>old b o e),fun b hb=>(f2 b hb).1,I2.aC.fresh (Nat.le_refl _),.nil,accO,w0⟩
  rintro n s5 ⟨i,ys,aq,k,σ5,H5,⟨σ0,hq5,hσ⟩,I5,pM,vP,vw,rv,ea,w5⟩;subst hq5;have Ip:Inv (b7 X scope cl (TN++caps) s2 H2 fp G.objs.size) [(s2.heap.objs.size,{ cls:=.type "list",dict:=none,data:=.seq aq.toArray k })] (σ0++vs.map some) H5 s5:=I5.rH fun p hp=>by
   have e:p=(s2.heap.objs.size,{ cls:=.type "list",dict:=none,data:=.seq aq.toArray k }):=by simpa using hp
   subst e;refine ⟨ea,vw,vG,fun z=>?_,fun v z=>by cases z⟩;exact I2.FU (Nat.le_refl _) (by
    have hz:s2.heap.objs.size∈bH X.stack:=z;rcases List.mem_cons.mp (I2.ux _ hz) with q | q
    ·exact absurd I2.lt (by rw [← q]; exact Nat.lt_irrefl _)
    ·exact q)
  have AK:∀ p∈[((s2.heap.objs.size,{ cls:=.type "list",dict:=none,data:=.seq aq.toArray k }):Addr×Obj)],p.1 ∉ fp:=fun p hp=>by
   have e:p=(s2.heap.objs.size,{ cls:=.type "list",dict:=none,data:=.seq aq.toArray k }):=by simpa using hp
   subst e; exact Jl
  obtain ⟨hyl,alt⟩:=turn i ys n H5 w5;rcases alt with ⟨stop,qn⟩ | ⟨go,hys,step⟩
  ·refine aE (T.done (b7 X scope cl (TN++caps) s2 H2 fp G.objs.size) rfl rfl rfl hc i _ s5 (σ0++vs.map some) H5 (fun _ _=>False) Ip (B2 vP AK) pM stop) fun r s6 ⟨hr,I6⟩=>?_;subst hr;have ea6:=(I6.pin (s2.heap.objs.size,{ cls:=.type "list",dict:=none,data:=.seq aq.toArray k }) (List.mem_append_right _ (List.mem_singleton.mpr rfl))).1;obtain ⟨m,Jf,_⟩:=I6.loc;have hC6:H5 G.objs.size=none:=I6.free;have lt2:∀ b o,s2.heap.get? b=some o→b≠s2.heap.objs.size:=fun b o e=>Nat.ne_of_lt (Heap.lt_size e);have Iout:Inv X pins σ (upd H5 s2.heap.objs.size (.lst ys)) s6:=by
    refine I2.FF (s':=s6) (ch:=fp) I6.os ⟨fun b o e n hb hx=>?_,fun b o e n hb hx=>?_,fun b o e n hx=>?_,fun b o e hx=>?_,fun b xs e=>?_,fun b o u e=>?_,fun b ps e=>?_⟩ ?_ I6.bare fun b hb=>?_
    ·exact I6.base.keep b o e n hb hx
    ·exact I6.base.slot b o e n hb hx
    ·rw [ah (lt2 b o e)]; exact I6.base.free b o e n hx
    ·exact I6.base.there b o e hx
    ·rw [ah (fe e (I2.aC.fresh (Nat.le_refl _)))]; exact I6.base.fo b xs e
    ·rw [ah (fe e (I2.aC.fresh (Nat.le_refl _)))]; exact I6.base.eZ b o u e
    ·obtain ⟨more,e1⟩:=I6.base.fE b ps e;exact ⟨more,by rw [ah (fe e (I2.aC.fresh (Nat.le_refl _)))]; exact e1⟩
    ·intro b u e;by_cases hb:b=s2.heap.objs.size
     ·subst hb;rw [ay] at e;cases e;exact ⟨hyl,aq,k,rv,ea6⟩
     ·rw [ah hb] at e;exact (I6.aC b u e).ei (fun c v _ q=>q) (fun c q=>by rw [ah (fe q vw)]; exact q) fun c xs q=>by rw [ah (fe q vw)]; exact q
    ·obtain ⟨g1,g2,g3,g4,g5,g6⟩:=f2 b hb;exact ⟨g4,g2,g5,g6⟩
   refine BG _ _ s6 _ Iout ⟨m,Jf⟩ ⟨by rw [ah (Ne.symm vG)]; exact hC6,?_,?_,fun y c e z=>?_,fun p hp z=>?_⟩ (qn _ vw)
   ·exact Nat.ne_of_gt (Nat.lt_of_lt_of_le I2.lt mT)
   ·exact Nat.le_trans I2.sz mT
   ·obtain ⟨v',q⟩:=I2.cell y c e;exact absurd (Nat.lt_of_lt_of_le q.lt mT) (by rw [z]; exact Nat.lt_irrefl _)
   ·exact absurd (Nat.lt_of_lt_of_le (Heap.lt_size (I2.pin p hp).1) mT) (by rw [z]; exact Nat.lt_irrefl _)
  ·refine aE (T.item (b7 X scope cl (TN++caps) s2 H2 fp G.objs.size) rfl rfl rfl hc i _ s5 (σ0++vs.map some) H5 (fun _ _=>False) Ip (B2 vP AK) pM go) fun r s6 ⟨u,hr,h6⟩=>?_;subst hr;refine aE h6 fun _ s7 ⟨y,H7,I7,ry,y7,A7,fr7⟩=>?_;have I7':=I7.pinned (B2 fr7 AK) (T.obj _ _ A7);refine aE (f7 _ _ _ _ _ s7 (σ0++vs.map some) H7 y u _ I7' ry (step y H7 y7 σ0 hσ)) fun _ s8 ⟨σ8,H8,I8,Ik,q8⟩=>?_;refine aE (ht _ _ _ _ _ s8 σ8 H8 _ I8 q8) fun ok s9 ⟨H9,I9,q9⟩=>?_
   -- what is pinned stays
   have Jj:∀ {s':Shared} {H':Hp},Inv (b7 X scope cl (TN++caps) s2 H2 fp G.objs.size) ([(s2.heap.objs.size,{ cls:=.type "list",dict:=none,data:=.seq aq.toArray k })]++qF fp s7.heap) σ8 H' s' →
     tn (i+1) s'.heap∧(∀ b∈fp,H' b=none)∧H' s2.heap.objs.size=none∧s'.heap.get? s2.heap.objs.size=some { cls:=.type "list",dict:=none,data:=.seq aq.toArray k }:=fun {s' H'} J'=>by
    refine ⟨T.keep _ _ _ A7 fun b hb o e=>(J'.pin (b,o) (List.mem_append_right _ (List.mem_append_right _ (tD hb e)))).1,fun b hb=>?_,(J'.pin (s2.heap.objs.size,{ cls:=.type "list",dict:=none,data:=.seq aq.toArray k }) (List.mem_append_right _ (List.mem_append_left _ (List.mem_singleton.mpr rfl)))).2.1,(J'.pin (s2.heap.objs.size,{ cls:=.type "list",dict:=none,data:=.seq aq.toArray k }) (List.mem_append_right _ (List.mem_append_left _ (List.mem_singleton.mpr rfl)))).1⟩;obtain ⟨o,e,_⟩:=T.obj _ _ A7 b hb;exact (J'.pin (b,o) (List.mem_append_right _ (List.mem_append_right _ (tD hb e)))).2.1
   cases ok with
   | false =>
    obtain ⟨m',hm,w'⟩:=q9;obtain ⟨k1,k2,k3,k4⟩:=Jj I9;exact ⟨m',hm,i+1,ys,aq,k,σ8,H9,Ik,I9.rH (pins':=[]) (fun _ hp=>nomatch hp),k1,k2,k3,rv,k4,w'⟩
   | true =>
    refine aE (he _ _ _ _ _ s9 σ8 H9 _ I9 q9) fun zv s10 ⟨z,eP,J2,rz,kJ⟩=>?_;obtain ⟨m',hm,w'⟩:=kJ;obtain ⟨k1,k2,k3,k4⟩:=Jj J2;have hl:=rv.length;refine call_meets F.slot_list_append ⟨_,k4,rfl⟩ F.entry_list_append (F.args_list_append_2 _ _) (PySem.list_append s2.heap.objs.size aq.toArray k zv (by rw [List.size_toArray]; omega)) ⟨k4,?_⟩;have q:=PySem.IsL.update k4 (·.push zv);have ip:aq.toArray.push zv=(aq++[zv]).toArray:=by simp
    rw [ip] at q;have I11:Inv (b7 X scope cl (TN++caps) s2 H2 fp G.objs.size) [] σ8 eP s10:=J2.rH (pins':=[]) (fun _ hp=>nomatch hp);refine ⟨m',hm,i+1,ys++[z],aq++[zv],_,σ8,eP,Ik,I11.turned (t':=s10.toks) (it:=s2.heap.objs.size) (fun b o hb e=>(Heap.get?_update_other s10.heap _ (Ne.symm hb)).trans e) k3 vG (.inr (Nat.le_refl _)) (fun x c e z=>by obtain ⟨v',q⟩:=I2.cell x c (CC.sub x c e); exact absurd q.lt (by rw [z]; exact Nat.lt_irrefl _)) (fun p hp=>absurd (show p∈([]:List (Addr×Obj)) from hp) (by simp)),
     T.keep _ _ _ k1 fun b hb o e=>(Heap.get?_update_other s10.heap _ (fun z=>Jl (by rw [z]; exact hb))).trans e,k2,k3,rv.append (.cons rz .nil),q,w'⟩
 exact codeAny_compStart_list (main _ rfl) (T.self _ 0 _ _ _ (T.keep _ _ _ eN fun b _ o e=>old b o e) (main _ rfl))
theorem R0 {elt iter:Expr} {ifs:List Expr} {tg:Expr} {g:TG} {TN caps:List Str} {ix:List Nat} {cl:List (Str×Addr)} {pos:Pos} {scope:Scope} {wi:TI} {tt:TT} {te:TE} (hc:X.calm=true) (hi:PI X tg iter wi)
  (ht:∀ s H ex C,oW (b7 X scope cl (TN++caps) s H ex C) ifs tt) (f7:∀ s H ex C,PG (b7 X scope cl (TN++caps) s H ex C) tg g) (he:∀ s H ex C,PE (b7 X scope cl (TN++caps) s H ex C) elt te) (CC:ic X scope cl caps ix)
  (hk:scope.kind=.function:=by rfl) (bK:∀ y∈scope.names,y.2=.local→scope.names.lookup y.1=some .local:=by decide +kernel) (f9:∀ y∈scope.names,y.2≠.cell:=by decide +kernel)
  (hs:∀ x,foldedSetIterable iter X.env x=pure x:=by intro _; rfl):PE X (.ListComp elt [⟨tg,iter,ifs,0⟩] scope pos) (kH TN.length ix wi g tt te):=by
 intro pins s σ H Q I h;rw [eval_ListComp];refine wpAny_comprehension_free (use:=none) (cl:=cl) rfl hs CC.lQ hk bK ?_;refine D6 (RR:=fun acc C=>compPost (model X.prog X.w) X.A X.xe none (EP X pins σ Q) acc C) hc hi ht f7 he CC hk f9 I h ?_;intro a C s6 H6 I6 hm o q;obtain ⟨m,hn⟩:=hm;exact ⟨m,hn,fun h' sI=>⟨.ref a,H6,o.go I6 sI,rfl,q⟩⟩
theorem RJ {elt iter:Expr} {ifs:List Expr} {tg:Expr} {g:TG} {TN caps:List Str} {ix:List Nat} {cl:List (Str×Addr)} {y:Str} {i:Nat} {py pos spos:Pos} {scope:Scope} {wi:TI} {tt:TT} {te:TE} (hc:X.calm=true) (hN:X.N.Nodup) (sF:X.N[i]?=some y) (pq:X.env.scope.names.lookup y=some .local) (hi:PI X tg iter wi)
  (ht:∀ s H ex C,oW (b7 X scope cl (TN++caps) s H ex C) ifs tt) (f7:∀ s H ex C,PG (b7 X scope cl (TN++caps) s H ex C) tg g) (he:∀ s H ex C,PE (b7 X scope cl (TN++caps) s H ex C) elt te) (CC:ic X scope cl caps ix)
  (sG:swapsWith (.ListComp elt [⟨tg,iter,ifs,0⟩] scope pos) (some (.Name y py)) spos.line X.env=pure true:=by rfl)
  (hk:scope.kind=.function:=by rfl) (bK:∀ y∈scope.names,y.2=.local→scope.names.lookup y.1=some .local:=by decide +kernel) (f9:∀ y∈scope.names,y.2≠.cell:=by decide +kernel)
  (hs:∀ x,foldedSetIterable iter X.env x=pure x:=by intro _; rfl):PS X (.Assign [.Name y py] (.ListComp elt [⟨tg,iter,ifs,0⟩] scope pos) spos) (kK (kH TN.length ix wi g tt te) (eX i)):=by
 intro pins s σ H D I h;rw [exec_Assign_Name_used _ _ _ _ sG];refine wpAny_bind (wpAny_standAt (wpAny_bind ?_));refine wpAny_bind (wpAny_mono (wpAny_comprehension_free (e:=.ListComp elt [⟨tg,iter,ifs,0⟩] scope pos) (use:=some (assign (.Name y py) X.env)) (cl:=cl) (Q:=fun _ s'=>SP X pins D .next s') rfl hs CC.lQ hk bK
  (D6 (RR:=fun acc C=>compPost (model X.prog X.w) X.A X.xe (some (assign (.Name y py) X.env)) (fun _ s'=>SP X pins D .next s') acc C) hc hi ht f7 he CC hk f9 I h ?_)) (fun _ s' hq=>wpAny_pure (wpAny_pure hq)) fun _ _ e=>e)
 intro a C s6 H6 I6 hm o q;obtain ⟨m,hn⟩:=hm;refine (show wpAny (model X.prog X.w) X.A (assign (.Name y py) X.env (.ref a)) _ X.xe s6 from ?_);refine wpAny_assign_Name (Fe I6 hN sF (.inl pq) (v:=.ref a) rfl (fun s' I' sI=>?_) (.inr pq));obtain ⟨b,sI,hb⟩:=sI;have nb:C≠b:=by
  rcases hb with z | z
  ·rw [z]; exact o.nl
  ·exact fun e=>o.nc y b z e.symm
 exact ⟨m,hn.sameBut sI nb,fun h' hs'=>⟨_,H6,o.go I' hs',q⟩⟩
end
namespace Dv
section
variable {X:Cx}
theorem FD {elt iter tg:Expr} {g:TG} {ifs:List Expr} {TN caps:List Str} {ix:List Nat} {cl:List (Str×Addr)} {pos:Pos} {scope:Scope} {wi:TI} {tt:TT} {te:TE} (hc:X.calm=true) (hi:QI X tg iter wi)
  (ht:∀ s H ex C,nq (b7 X scope cl (TN++caps) s H ex C) ifs tt) (f7:∀ s H ex C,QG (b7 X scope cl (TN++caps) s H ex C) tg g) (he:∀ s H ex C,QE (b7 X scope cl (TN++caps) s H ex C) elt te) (CC:ic X scope cl caps ix)
  (hk:scope.kind=.function:=by rfl) (bK:∀ y∈scope.names,y.2=.local→scope.names.lookup y.1=some .local:=by decide +kernel) (f9:∀ y∈scope.names,y.2≠.cell:=by decide +kernel)
  (hs:∀ x,foldedSetIterable iter X.env x=pure x:=by intro _; rfl):QE X (.ListComp elt [⟨tg,iter,ifs,0⟩] scope pos) (kH TN.length ix wi g tt te):=⟨R0 hc hi.h (fun s H ex C=>(ht s H ex C).h) (fun s H ex C=>(f7 s H ex C).h) (fun s H ex C=>(he s H ex C).h) CC hk bK f9 hs⟩
theorem Tp (i:Nat) {elt iter tg:Expr} {g:TG} {ifs:List Expr} {TN caps:List Str} {ix:List Nat} {cl:List (Str×Addr)} {y:Str} {py pos spos:Pos} {scope:Scope} {wi:TI} {tt:TT} {te:TE} (hc:X.calm=true) (hN:X.N.Nodup) (hi:QI X tg iter wi)
  (ht:∀ s H ex C,nq (b7 X scope cl (TN++caps) s H ex C) ifs tt) (f7:∀ s H ex C,QG (b7 X scope cl (TN++caps) s H ex C) tg g) (he:∀ s H ex C,QE (b7 X scope cl (TN++caps) s H ex C) elt te) (CC:ic X scope cl caps ix) (sF:X.N[i]?=some y:=by rfl) (pq:X.env.scope.names.lookup y=some .local:=by rfl)
  (sG:swapsWith (.ListComp elt [⟨tg,iter,ifs,0⟩] scope pos) (some (.Name y py)) spos.line X.env=pure true:=by rfl)
  (hk:scope.kind=.function:=by rfl) (bK:∀ y∈scope.names,y.2=.local→scope.names.lookup y.1=some .local:=by decide +kernel) (f9:∀ y∈scope.names,y.2≠.cell:=by decide +kernel)
  (hs:∀ x,foldedSetIterable iter X.env x=pure x:=by intro _; rfl):QS X (.Assign [.Name y py] (.ListComp elt [⟨tg,iter,ifs,0⟩] scope pos) spos) (kK (kH TN.length ix wi g tt te) (eX i)):=⟨RJ hc hN sF pq hi.h (fun s H ex C=>(ht s H ex C).h) (fun s H ex C=>(f7 s H ex C).h) (fun s H ex C=>(he s H ex C).h) CC sG hk bK f9 hs⟩
end
end Dv
section
variable {X:Cx}
end
end L2
namespace L2
open PySem PySem.Spec PyProof.Rows
theorem Cy {σ:St} (h:σ.length=1):∃ a,σ=[a]:=by
 match σ,h with
 | [a],_=>exact ⟨a,rfl⟩
theorem dQ {f:Str} {v u:V}:∀ {fs:List (Str×V)},fs.lookup f=some u→(ae f v fs).length=fs.length
 | (g,x)::r,h=>by
  rw [show ae f v ((g,x)::r)=(if g=f then (g,v)::r else (g,x)::ae f v r) from rfl];by_cases e:g=f
  ·rw [if_pos e]; rfl
  ·rw [if_neg e];have hb:(f == g)=false:=beq_eq_false_iff_ne.mpr (Ne.symm e);have h':r.lookup f=some u:=by simpa [List.lookup,hb] using h
   rw [List.length_cons,dQ h']; rfl
def xU (r:V→List V→Hp→VK→Prop) (to:TE):TE:=fun σ H Q=>to σ H fun x H1=>match x with
 | .ref l=>(match H1 l with
  | some (.lst _)=>r (.ref l) [] H1 Q
  | _=>False)
 | _=>False
section
variable {X:Cx} {name:Str} {id:String} {r:V→List V→Hp→VK→Prop} {o:Expr} {to:TE} {apos bw:Pos}
theorem MD (slot:Slot "list" name id) (cf:typeOf (.builtin id)=pure (.type "method_descriptor")) (hm:cS X id r) (ho:PE X o to)
  (g7:attributeBase o name X.env (eval o X.env)=eval o X.env:=by rfl) (g9:(apos.endLine == bw.line)=true:=by rfl):PE X (.Call (.Attribute o name apos) [] [] bw) (xU r to):=by
 intro pins s σ H Q I h;refine wpAny_Call_method0_late g7 g9 (aE (ho pins s σ H _ I h) fun v s1 ⟨x,H1,I1,r1,q1⟩=>?_);dsimp only at q1;split at q1
 ·rename_i l;split at q1
  ·rename_i zs el;obtain ⟨h1,h2⟩:=wt (T := "list") I1 r1 (.inl ⟨rfl,zs,aL.of el⟩);exact ⟨"list",id,PySem.F.plainAttrs_list,slot,cf,h1,h2,Calls.callWith_builtin rfl (PySem.evalArgs_none (hm pins s1 σ H1 (.ref l) [] v [] Q I1 r1 .nil q1))⟩
  ·exact q1.elim
 ·exact q1.elim
theorem Dv.S6 (slot:Slot "list" name id) (cf:typeOf (.builtin id)=pure (.type "method_descriptor")) (hm:cS X id r) (ho:QE X o to)
  (g7:attributeBase o name X.env (eval o X.env)=eval o X.env:=by rfl) (g9:(apos.endLine == bw.line)=true:=by rfl):QE X (.Call (.Attribute o name apos) [] [] bw) (xU r to):=⟨MD slot cf hm ho.h g7 g9⟩
end
theorem ai.eL {H H1:Hp} {l:Addr} {o:HO} (s:ai H H1) (hl:H l=none):ai H (L2.upd H1 l o):=fun b u e=>by
 rw [ah (fun z=>by rw [z,hl] at e; cases e)]; exact s b u e
end L2
namespace L2
open PySem PySem.Spec PyProof.Rows
section
variable {X:Cx}
def yJ:List V→Hp→VK→Prop:=fun xs H Q=>match xs with
 | [.bl b]=>Q (.int (if b then 1 else 0)) H
 | _=>False
theorem uP:cE X (.type "int") yJ:=by
 intro pins s σ H xs us Q I r h;unfold yJ at h;split at h
 ·rename_i b;obtain ⟨u,rfl,rx⟩:=vals1 r;cases rx;exact call_int_bool ⟨.int (if b then 1 else 0),H,I.tok _,⟨_,rfl⟩,h⟩
 ·exact h.elim
end
def wm (K:PySem.W.Frag):R2:=fun x y H Q=>match y with
 | .ref p=>∃ xs,(aL K H p xs∨bW K H p xs)∧cw x=true∧xs.all cw=true∧Q (.bl (!fU x xs)) H
 | _=>False
theorem tT {X:Cx} {K:PySem.W.Frag} (h:X.K=K):bc X (compareOp .NotIn) (wm K):=h ▸ KU.imp fun x y H Q z=>by
 unfold wm at z;split at z
 ·obtain ⟨xs,z1,z2,z3,z4⟩:=z;exact ⟨_,xs,rfl,z1,z2,z3,z4⟩
 ·exact z.elim
end L2
namespace L2
open PySem PySem.Spec PyProof.Rows
structure FT (K:PySem.W.Frag) (mg:Str→Option Value) (x y:Str) (st:Stmt) (ps:List Str) where
 f:Addr
 d:FuncData
 F:iq K x y st f d
 m:mg x=some (.ref f)
 b:Binds K d ps []
structure MT (K:PySem.W.Frag) (C:Addr) (x y:Str) (st:Stmt) (ps:List Str) where
 f:Addr
 d:FuncData
 F:iq K x y st f d
 h:Meth K C x f
 b:Binds K d ps []
def FA (K:PySem.W.Frag) (x y:Str) (st:Stmt):Prop:=∃ (f:Addr) (oc:Value) (od:Option Addr) (kV dc pm:Value) (an:Option Addr) (cd ct:Value) (sl:Array (Option Value)),
 PySem.W.nsIn K mainGlobals x=some (some (.ref f))∧K.lookup f=some ⟨oc,od,.func (PySem.W.fnOf x y (dZ st) (aU st) (aB st) .none kV dc pm an cd ct),sl⟩∧PySem.W.codeIn K cd y=true∧PySem.W.keepIn K (.ref f)=true
def MA (K:PySem.W.Frag) (C:Addr) (x y:Str) (st:Stmt):Prop:=∃ (f:Addr) (oc:Value) (od:Option Addr) (kV dc pm:Value) (an:Option Addr) (cd ct:Value) (sl:Array (Option Value)),
 PySem.W.findIn K (.ref C) x=some (some (.ref f))∧K.lookup f=some ⟨oc,od,.func (PySem.W.fnOf x y (dZ st) (aU st) (aB st) .none kV dc pm an cd ct),sl⟩∧PySem.W.codeIn K cd y=true∧PySem.W.keepIn K (.ref f)=true∧PySem.W.isFn K (.ref f)=true
section
variable {K:PySem.W.Frag} {mg:Str→Option Value} {h:Heap} {C:Addr} {x y:Str} {st:Stmt} {ps:List Str}
theorem FA.ft (X:K.In h) (G:h.Ns mainGlobals mg) (ps:List Str) (hb:∀ (kV dc pm:Value) (an:Option Addr) (cd ct:Value) (us:List Value),us.length=ps.length→bindArgs (PySem.W.fnOf x y (dZ st) (aU st) (aB st) .none kV dc pm an cd ct) ⟨us,[]⟩=pure (ps.zip us)) (a:FA K x y st):Nonempty (FT K mg x y st ps):=by
 obtain ⟨f,oc,od,kV,dc,pm,an,cd,ct,sl,n,l,c,k⟩:=a;have F:=zX (st:=st) l c k;exact ⟨⟨f,_,F,PySem.W.mg_of X G n,F.binds hb⟩⟩
theorem MA.ft (ps:List Str) (hb:∀ (kV dc pm:Value) (an:Option Addr) (cd ct:Value) (us:List Value),us.length=ps.length→bindArgs (PySem.W.fnOf x y (dZ st) (aU st) (aB st) .none kV dc pm an cd ct) ⟨us,[]⟩=pure (ps.zip us)) (a:MA K C x y st):Nonempty (MT K C x y st ps):=by
 obtain ⟨f,oc,od,kV,dc,pm,an,cd,ct,sl,n,l,c,k,t⟩:=a;have F:=zX (st:=st) l c k;exact ⟨⟨f,_,F,⟨n,t,k⟩,F.binds hb⟩⟩
end
end L2
namespace L2
open PySem PySem.Spec PyProof.Rows
section
variable {K:PySem.W.Frag} {mg:Str→Option Value} {h:Heap} {C:Addr} {x y:Str} {st:Stmt} {ps:List Str}
theorem FA.mk {f:Addr} {oc:Value} {od:Option Addr} {kV dc pm:Value} {an:Option Addr} {cd ct:Value} {sl:Array (Option Value)} (n:PySem.W.nsIn K mainGlobals x=some (some (.ref f))) (l:K.lookup f=some ⟨oc,od,.func (PySem.W.fnOf x y (dZ st) (aU st) (aB st) .none kV dc pm an cd ct),sl⟩) (c:PySem.W.codeIn K cd y=true) (k:PySem.W.keepIn K (.ref f)=true):FA K x y st:=⟨_,_,_,_,_,_,_,_,_,_,n,l,c,k⟩
theorem MA.mk {f:Addr} {oc:Value} {od:Option Addr} {kV dc pm:Value} {an:Option Addr} {cd ct:Value} {sl:Array (Option Value)} (n:PySem.W.findIn K (.ref C) x=some (some (.ref f))) (l:K.lookup f=some ⟨oc,od,.func (PySem.W.fnOf x y (dZ st) (aU st) (aB st) .none kV dc pm an cd ct),sl⟩) (c:PySem.W.codeIn K cd y=true) (k:PySem.W.keepIn K (.ref f)=true) (t:PySem.W.isFn K (.ref f)=true):MA K C x y st:=⟨_,_,_,_,_,_,_,_,_,_,n,l,c,k,t⟩
theorem FA.gt (X:K.In h) (G:h.Ns mainGlobals mg) (hb:∀ (kV dc pm:Value) (an:Option Addr) (cd ct:Value) (us:List Value),us.length=ps.length→bindArgs (PySem.W.fnOf x y (dZ st) (aU st) (aB st) .none kV dc pm an cd ct) ⟨us,[]⟩=pure (ps.zip us)) (a:FA K x y st):Nonempty (FT K mg x y st ps):=FA.ft X G ps hb a
theorem MA.gt (hb:∀ (kV dc pm:Value) (an:Option Addr) (cd ct:Value) (us:List Value),us.length=ps.length→bindArgs (PySem.W.fnOf x y (dZ st) (aU st) (aB st) .none kV dc pm an cd ct) ⟨us,[]⟩=pure (ps.zip us)) (a:MA K C x y st):Nonempty (MT K C x y st ps):=MA.ft ps hb a
theorem Qt {M:MT K C "__init__" y st ps} (a:PySem.W.makesIn K C=true) (b:PySem.W.keepIn K (.ref C)=true):Mk K C M.f:=⟨a,M.h.at_,M.h.fn,b⟩
theorem ia {dt:Addr} {kV doc pm az ct:Value} {an:Option Addr} {o:Obj} {n:Nat} {ds:List Value} (j:Nat) (ld:K.lookup dt=some o) (hd:o.data=.seq ds.toArray n)
  (h:∀ (dt:Addr) (kV doc pm:Value) (an:Option Addr) (az ct:Value) (us:List Value),(us++ds.drop j).length=ps.length →
   ∃ k,bindArgs (PySem.W.fnOf x y (dZ st) (aU st) (aB st) (.ref dt) kV doc pm an az ct) ⟨us,[]⟩=seqItems? (.ref dt) >>= k∧k (some ds.toArray)=pure (ps.zip (us++ds.drop j))) :
  Binds K (PySem.W.fnOf x y (dZ st) (aU st) (aB st) (.ref dt) kV doc pm an az ct) ps (ds.drop j):=by
 intro s us X hl;obtain ⟨k,h1,h2⟩:=h dt kV doc pm an az ct us hl;exact BindsTo.of_defaults rfl (X _ _ ld) hd h1 h2
end
end L2
namespace L2
open PySem PySem.Spec PyProof.Rows
section
variable {X:Cx} {tg:Expr}
end
end L2
namespace L2
open PySem PySem.Spec PyProof.Rows
section
variable {X:Cx}
def zG:List V→Hp→VK→Prop:=fun xs H Q=>match xs with
 | [.int a]=>a.natAbs.log2 < 1920∧Q (.str (Str.ofString (toString a))) H
 | _=>False
theorem MJ:cE X (.type "str") zG:=by
 intro pins s σ H xs us Q I r h;unfold zG at h;split at h
 ·rename_i a;obtain ⟨hl,h⟩:=h;obtain ⟨u,rfl,rx⟩:=vals1 r;obtain ⟨t,rfl⟩:=rx;exact PySem.P.str_of_int hl ⟨.str (Str.ofString (toString a)),H,I.tok _,⟨_,rfl⟩,h⟩
 ·exact h.elim
end
end L2
namespace L2
open PySem PySem.Spec PyProof.Rows
section
variable {X:Cx}
def y4:V→List V→Hp→VK→Prop:=fun x vs H Q=>match x,vs with
 | .ref l,[.int 0]=>∃ y xs,H l=some (.lst (y::xs))∧Q y (upd H l (.lst xs))
 | _,_=>False
theorem Vj:cS X "list.pop" y4:=cS.imp (r:=F6) NL fun x vs H Q h=>by
 unfold y4 at h;split at h
 ·obtain ⟨y,xs,hl,q⟩:=h;exact ⟨_,y::xs,0,0,y,rfl,rfl,hl,by decide,by decide,by simp [seqIndex?],rfl,q⟩
 ·exact h.elim
end
end L2
namespace L2
open PySem PySem.Spec PyProof.Rows
section
variable {X:Cx}
theorem tM {A:Around} {s:Shared} {xs ys:List V} {i1 i2:List Value} (r1:Vals xs i1) (r2:Vals ys i2) (f1:xs.all cw=true) (f2:ys.all cw=true) (he:∀ i (h1:i < xs.length) (h2:i < ys.length),fg xs[i] ys[i]=true) (j:Nat) (g1:j < i1.toArray.size) (g2:j < i2.toArray.size):SeqAt.EqAt A s i1.toArray[j] i2.toArray[j] true:=by
 have j1:j < xs.length:=by rw [r1.length]; simpa using g1
 have j2:j < ys.length:=by rw [r2.length]; simpa using g2
 obtain ⟨u1,e1,ru1⟩:=r1.get (List.getElem?_eq_getElem j1);obtain ⟨u2,e2,ru2⟩:=r2.get (List.getElem?_eq_getElem j2);have w1:i1.toArray[j]=u1:=by
  have:=(List.getElem?_eq_some_iff.mp e1).2
  simpa using this
 have w2:i2.toArray[j]=u2:=by
  have:=(List.getElem?_eq_some_iff.mp e2).2
  simpa using this
 rw [w1,w2];have:=B6 (A:=A) (s:=s) ru1 ru2 (List.all_eq_true.mp f1 _ (List.getElem_mem j1)) (List.all_eq_true.mp f2 _ (List.getElem_mem j2));rw [he j j1 j2] at this;exact this
theorem all_true (n:Nat):(List.range n).all (fun _=>true)=true:=by rw [List.all_eq_true]; exact fun _ _=>rfl
def fW (K:PySem.W.Frag) (neg:Bool):R2:=fun x y H Q=>match x,y with
 | .ref a,.ref b=>∃ xs ys:List V,(aL K H a xs∧aL K H b ys∨bW K H a xs∧bW K H b ys)∧xs.length=ys.length∧xs.all cw=true∧ys.all cw=true∧(∀ i (h1:i < xs.length) (h2:i < ys.length),fg xs[i] ys[i]=true)∧Q (.bl (!neg)) H
 | _,_=>False
theorem xy {K:PySem.W.Frag} (hK:X.K=K) (hu:X.A.units < cLine):bc X (compareOp .Eq) (fW K false):=by
 subst hK;intro pins s σ H x y v u Q I rx ry h;unfold fW at h;split at h
 ·obtain ⟨xs,ys,eS,hl,f1,f2,he,q⟩:=h;cases rx; cases ry;rcases eS with ⟨ha,hb⟩ | ⟨ha,hb⟩
  ·obtain ⟨i1,r1,p1,_⟩:=I.list ha;obtain ⟨i2,r2,p2,_⟩:=I.list hb;have hsz:i1.toArray.size=i2.toArray.size:=by rw [List.size_toArray,List.size_toArray,← r1.length,← r2.length,hl]
   have k:=SeqAt.RcAt.lists (A:=X.A) (s:=s) (e:=fun _=>true) p1.isList p2.isList hsz hu (fun j g1 g2=>tM r1 r2 f1 f2 he j g1 g2);rw [all_true] at k;exact k _ _ _ _ ⟨.bl _,H,I,rfl,q⟩
  ·obtain ⟨i1,r1,p1,_⟩:=I.tuple ha;obtain ⟨i2,r2,p2,_⟩:=I.tuple hb;have hsz:i1.toArray.size=i2.toArray.size:=by rw [List.size_toArray,List.size_toArray,← r1.length,← r2.length,hl]
   have k:=SeqAt.RcAt.tuples (A:=X.A) (s:=s) (e:=fun _=>true) p1 p2 hu (fun j g1 g2=>tM r1 r2 f1 f2 he j g1 g2);rw [all_true,hsz,beq_self_eq_true,Bool.and_self] at k;exact k _ _ _ _ ⟨.bl _,H,I,rfl,q⟩
 ·exact h.elim
theorem F8 {K:PySem.W.Frag} (hK:X.K=K) (hu:X.A.units < cLine):bc X (compareOp .NotEq) (fW K true):=by
 subst hK;intro pins s σ H x y v u Q I rx ry h;unfold fW at h;split at h
 ·obtain ⟨xs,ys,eS,hl,f1,f2,he,q⟩:=h;cases rx; cases ry;rcases eS with ⟨ha,hb⟩ | ⟨ha,hb⟩
  ·obtain ⟨i1,r1,p1,_⟩:=I.list ha;obtain ⟨i2,r2,p2,_⟩:=I.list hb;have hsz:i1.toArray.size=i2.toArray.size:=by rw [List.size_toArray,List.size_toArray,← r1.length,← r2.length,hl]
   have k:=SeqAt.RcNeAt.lists (A:=X.A) (s:=s) (e:=fun _=>true) p1.isList p2.isList hsz hu (fun j g1 g2=>tM r1 r2 f1 f2 he j g1 g2);rw [all_true] at k;exact k _ _ _ _ ⟨.bl _,H,I,rfl,q⟩
  ·obtain ⟨i1,r1,p1,_⟩:=I.tuple ha;obtain ⟨i2,r2,p2,_⟩:=I.tuple hb;have hsz:i1.toArray.size=i2.toArray.size:=by rw [List.size_toArray,List.size_toArray,← r1.length,← r2.length,hl]
   have k:=SeqAt.RcNeAt.tuples (A:=X.A) (s:=s) (e:=fun _=>true) p1 p2 hu (fun j g1 g2=>tM r1 r2 f1 f2 he j g1 g2);rw [all_true,hsz,beq_self_eq_true,Bool.and_self] at k;exact k _ _ _ _ ⟨.bl _,H,I,rfl,q⟩
 ·exact h.elim
theorem Lm {v:V} (h:cw v=true):fg v v=true:=by
 cases v <;> first | rfl | (cases h; done) | simp [fg]
theorem fW.same {K:PySem.W.Frag} {neg:Bool} {a b:Addr} {xs:List V} {H:Hp} {Q:VK} (h:aL K H a xs∧aL K H b xs∨bW K H a xs∧bW K H b xs) (f:xs.all cw=true) (q:Q (.bl (!neg)) H):fW K neg (.ref a) (.ref b) H Q :=
 ⟨xs,xs,h,rfl,f,f,fun i h1 _=>Lm (List.all_eq_true.mp f _ (List.getElem_mem h1)),q⟩
end
end L2
namespace L2
open PySem PySem.Spec PyProof.Rows
def mj {α:Type} (us ws:List α):List α:=if ws.length=1 then us++ws else []
section
variable {K:PySem.W.Frag} {x qual nm:Str} {st:Stmt} {f:Addr} {fd:FuncData} {ps:List Str} {ds:List Value}
theorem UP {α:Type} {a b c d:α}:mj [a,b,c] [d]=[a,b,c,d]:=rfl
theorem Vi {vs:List V} {us:List Value} {zs:List V} {ws:List Value} (r:Vals vs us) (q:Vals zs ws):Vals (mj vs zs) (mj us ws):=by
 unfold mj;rw [q.length];split
 ·exact r.append q
 ·exact .nil
theorem Sh (F:iF K x qual st f fd ds) (hp:ps.length=4) (h:∀ (dt:Addr) (kV doc pm:Value) (an:Option Addr) (az ct a b c d:Value),
   ∃ k,bindArgs (PySem.W.fnOf x qual (dZ st) (aU st) (aB st) (.ref dt) kV doc pm an az ct) ⟨[a,b,c],[(nm,d)]⟩=seqItems? (.ref dt) >>= k∧k (some ds.toArray)=pure (ps.zip [a,b,c,d])):ui K fd ps [nm] mj mj where
 to:=by
  obtain ⟨oc,od,dt,kV,doc,pm,an,az,ct,c8,o,n,rfl,lk,cI,ldt,pK⟩:=F.ex;intro s us ws X hl;unfold mj at hl ⊢;split at hl
  ·rename_i h1;rw [if_pos h1];rw [List.length_append,h1,hp] at hl;obtain ⟨d,rfl⟩:=List.length_eq_one_iff.mp h1;have h3:us.length=3:=by omega
   obtain ⟨a,b,c,rfl⟩:∃ a b c,us=[a,b,c]:=by
    match us,h3 with
    | [a,b,c],_=>exact ⟨a,b,c,rfl⟩
   obtain ⟨k,h1,h2⟩:=h dt kV doc pm an az ct a b c d;exact BindsTo.of_defaults rfl (X _ _ ldt) pK h1 h2
  ·rw [hp] at hl; cases hl
 rel:=Vi
end
section
variable {X:Cx}
theorem Dv.UN {CX:dh} {k:Nat} {f:Addr} {fd:FuncData} {ps:List Str} {sp:Sp} {E:XK} {x nm:Str} {p pos vF:Pos} {e e2:Expr} {es:List Expr} {t:TA} {te:TE} {g:List Value→List Value→List Value} {gV:List V→List V→List V}
  (F:aA X.prog X.w X.K X.mg X.base CX k f fd ps sp) (hr:bB k X.A) (hm:X.mg x=some (.ref f)) (hk:PySem.W.keepIn X.K (.ref f)=true) (hb:ui X.K fd ps [nm] g gV) (hx:Passes CX X E)
  (ha:QA X (e::es) t) (AZ:QE X e2 te) (hg:Gl X x:=by rfl) (bF:(x == ("__debug__" : Str))=false:=by decide) (he:starEach (e::es) X.env=(false,eval e X.env)::starEach es X.env:=by rfl)
  (bb:((backTo pos (starEach (e::es) X.env)).any (·.1) || (backToKw pos (keywordEach [⟨some nm,e2,vF⟩] X.env)).any (·.1.isNone))=false:=by rfl) :
  QE X (.Call (.Name x p) (e::es) [⟨some nm,e2,vF⟩] pos) (zZ sp gV E t (gO te gg)) :=
 ⟨LL F hr hg hm hk hb hx ha.h (Sd AZ.h PY) rfl rfl bF he bb⟩
end
end L2
namespace L2
open PySem PySem.Spec PyProof.Rows
def tJ (J:It) (n:Nat) (vs:List V) (g:TG) (tt:TT) (te:TE) (Q:VK) (H1:Hp):Prop:=∃ W:Nat→List V→Nat→Hp→Prop,(∃ m,W 0 [] m H1)∧∀ i ys m H,W i ys m H →
 ys.length≤sizeLine∧((J.stop i H∧∀ l,H l=none→Q (.ref l) (upd H l (.lst ys))) ∨
  (J.go i H∧ys.length < sizeLine∧∀ y H',J.jz i H y H'→∀ σ0:St,σ0.length=n→g y (σ0++vs.map some) H' fun σ1 H1=>(∃ σ2:St,σ1=σ2++vs.map some∧σ2.length=n) ∧
   tt σ1 H1 fun c H2=>if c=true then te σ1 H2 fun z H3=>∃ m',m' < m∧W (i+1) (ys++[z]) m' H3 else ∃ m',m' < m∧W (i+1) ys m' H2))
theorem zF {n:Nat} {ix:List Nat} {wi:TI} {g:TG} {tt:TT} {te:TE} {σ:St} {H:Hp} {Q:VK}:kH n ix wi g tt te σ H Q=∃ vs,wF ix σ vs∧wi σ H fun J H1=>tJ J n vs g tt te Q H1:=rfl
theorem P7 {K:PySem.W.Frag} {l:Addr} {xs:List V} {te:TE} {H:Hp} {Q:VK} {vs:List V} (f:V→V) (hs:aL K H l xs) (hz:xs.length≤1000) (he:∀ x∈xs,∀ R:VK,R (f x) H→te (some x::vs.map some) H R)
  (q:∀ l',H l'=none→Q (.ref l') (upd H l' (.lst (xs.map f)))):tJ (hV K l) 1 vs (eX 0) il te Q H:=by
 have hsz:xs.length≤sizeLine:=fits hz;refine ⟨fun i zs k H1=>H1=H∧zs=(xs.take i).map f∧i≤xs.length∧k=xs.length - i,⟨_,rfl,rfl,Nat.zero_le _,rfl⟩,?_⟩;rintro i zs k H1 ⟨rfl,rfl,hi,rfl⟩;have hlen:((xs.take i).map f).length=i:=by rw [List.length_map,List.length_take]; omega
 refine ⟨by omega,?_⟩;by_cases h:i < xs.length
 ·have hx:xs[i]?=some xs[i]:=List.getElem?_eq_getElem h;refine .inr ⟨⟨xs,xs[i],hs,hx⟩,by omega,?_⟩;rintro y H' ⟨rfl,hy⟩ σ0 hσ0;obtain ⟨a,rfl⟩:=Cy hσ0;have kT:=hy xs hs;refine ⟨⟨[some y],rfl,rfl⟩,?_⟩;show il _ _ _;unfold il;dsimp only;rw [if_pos rfl];exact he y (List.mem_of_getElem? kT) _ ⟨xs.length - (i+1),by omega,rfl,by rw [List.take_add_one,kT,List.map_append]; rfl,h,rfl⟩
 ·have e:i=xs.length:=by omega
  subst e;refine .inl ⟨⟨xs,hs,Nat.le_refl _⟩,fun l' hl'=>?_⟩;have:=q l' hl';rw [List.take_of_length_le (Nat.le_refl _)];exact this
end L2
namespace L2
open PySem PySem.Spec PyProof.Rows
theorem Cj {X:Cx} {K:PySem.W.Frag} (h:X.K=K):gp X (C8 K):=h ▸ QQ
end L2
namespace L2
open PySem PySem.Spec PyProof.Rows
theorem R9 {K:PySem.W.Frag} {C:Addr} {y:Str} {st:Stmt} {ps:List Str} {fld:Str} {M:MT K C "__init__" y st ps} (q:sX K C=true) (sa:PySem.W.findIn K (.ref C) "__setattr__" = some (some (.builtin "object.__setattr__"))) (na:PySem.W.findIn K (.ref C) fld=some none) (ob:PySem.W.mroIn K C (.type "object")=some true)
  (be:PySem.W.mroIn K C (.type "BaseException")=some true) (self:PySem.W.mroIn K C (.ref C)=some true) (kp:PySem.W.keepIn K (.ref C)=true):iC K C M.f fld:=⟨q,M.h.at_,eq_of_beq M.h.fn,sa,na,ob,be,self,kp⟩
end L2
open PySem PySem.Spec PyProof.Rows
namespace L2
section
variable {X:Cx}
def xr (n b:Bool):Bool:=match n with | false=>b | true=>!b
theorem y9 (n b:Bool):(n ^^ b)=xr n b:=by cases n <;> cases b <;> rfl
def pe (neg:Bool):R2:=fun x y H Q=>match x,y with
 | .int i,.int j=>Q (.bl (xr neg (decide (i=j)))) H
 | .str i,.str j=>Q (.bl (xr neg (decide (i=j)))) H
 | .bl i,.bl j=>Q (.bl (xr neg (decide (i=j)))) H
 | _,_=>u3 x y=true∧Q (.bl (xr neg (decide (x=y)))) H
theorem FN (neg:Bool):oK neg=pe neg:=by
 funext x y H Q; unfold oK pe; simp only [y9] <;> rfl
theorem cq:bc X (compareOp .Eq) (pe false):=FN false ▸ RA
theorem ko:bc X (compareOp .NotEq) (pe true):=FN true ▸ QL
def qy (neg:Bool):R2:=fun x y H Q=>match x,y with
 | .ref a,.ref b=>∃ ts us:List Str,H a=some (.lst (ts.map V.str))∧H b=some (.lst (us.map V.str))∧Q (.bl (xr neg (decide (ts=us)))) H
 | _,_=>False
theorem DJ (neg:Bool):oi neg=qy neg:=by
 funext x y H Q; unfold oi qy; simp only [y9] <;> rfl
theorem xc (hu:X.A.units < cLine):bc X (compareOp .Eq) (qy false):=DJ false ▸ Oi hu
theorem uy (hu:X.A.units < cLine):bc X (compareOp .NotEq) (qy true):=DJ true ▸ Rp hu
def uX (K:PySem.W.Frag) (neg:Bool):R2:=fun x y H Q=>match x,y with
 | .ref a,.ref b=>∃ xs ys:List V,aL K H a xs∧aL K H b ys∧((ys=[]∧Q (.bl (xr neg xs.isEmpty)) H)∨(xs=[]∧Q (.bl (xr neg ys.isEmpty)) H))
 | _,_=>False
theorem LU {K:PySem.W.Frag} (neg:Bool):tE K neg=uX K neg:=by
 funext x y H Q; unfold tE uX; simp only [y9] <;> rfl
theorem Q1 {K:PySem.W.Frag} (hK:X.K=K) (hu:X.A.units < cLine):bc X (compareOp .NotEq) (uX K true):=LU (K:=K) true ▸ Te hK hu
end
end L2
namespace L2
open PySem PySem.Spec PyProof.Rows
theorem Sr {J:It} {tt:TT} {te:TE} {Q:VK} {H:Hp}:oz J tt te Q H ↔ tJ J 1 [] (eX 0) tt te Q H:=by
 constructor
 ·rintro ⟨W,w0,h⟩;refine ⟨W,w0,fun i ys m H hw=>⟨(h i ys m H hw).1,(h i ys m H hw).2.imp_right fun z=>⟨z.1,z.2.1,fun y H' hy σ0 hσ=>?_⟩⟩⟩;obtain ⟨a,rfl⟩:=Cy hσ;exact ⟨⟨[some y],rfl,rfl⟩,z.2.2 y H' hy⟩
 ·rintro ⟨W,w0,h⟩;exact ⟨W,w0,fun i ys m H hw=>⟨(h i ys m H hw).1,(h i ys m H hw).2.imp_right fun z=>⟨z.1,z.2.1,fun y H' hy=>(z.2.2 y H' hy [none] rfl).2⟩⟩⟩
theorem Fo {wi:TI} {tt:TT} {te:TE} {σ:St} {H:Hp} {Q:VK} (h:uV wi tt te σ H Q):kH 1 [] wi (eX 0) tt te σ H Q:=by
 rw [Fj] at h;rw [zF];have e:(fun (J:It) H1=>oz J tt te Q H1)=fun J H1=>tJ J 1 [] (eX 0) tt te Q H1:=by funext J H1; exact propext Sr
 rw [e] at h;exact ⟨[],⟨rfl,by simp⟩,h⟩
section
variable {X:Cx}
theorem Dv.FJ {elt iter tg:Expr} {ifs:List Expr} {x:Str} {cl:List (Str×Addr)} {pos:Pos} {scope:Scope} {wi:TI} {tt:TT} {te:TE} (hc:X.calm=true) (hi:QI X tg iter wi)
  (ht:∀ s H ex C,nq (b7 X scope cl ([x]++[]) s H ex C) ifs tt) (f7:∀ s H ex C,QG (b7 X scope cl ([x]++[]) s H ex C) tg (eX 0)) (he:∀ s H ex C,QE (b7 X scope cl ([x]++[]) s H ex C) elt te) (CC:ic X scope cl [] [])
  (hk:scope.kind=.function:=by rfl) (bK:∀ y∈scope.names,y.2=.local→scope.names.lookup y.1=some .local:=by decide +kernel) (f9:∀ y∈scope.names,y.2≠.cell:=by decide +kernel)
  (hs:∀ x,foldedSetIterable iter X.env x=pure x:=by intro _; rfl):QE X (.ListComp elt [⟨tg,iter,ifs,0⟩] scope pos) (uV wi tt te) :=
 ⟨fun pins s σ H Q I h=>(Dv.FD hc hi ht f7 he CC hk bK f9 hs).h pins s σ H Q I (Fo h)⟩
theorem Dv.v8 (i:Nat) {elt iter tg:Expr} {ifs:List Expr} {x:Str} {cl:List (Str×Addr)} {y:Str} {py pos spos:Pos} {scope:Scope} {wi:TI} {tt:TT} {te:TE} (hc:X.calm=true) (hN:X.N.Nodup) (hi:QI X tg iter wi)
  (ht:∀ s H ex C,nq (b7 X scope cl ([x]++[]) s H ex C) ifs tt) (f7:∀ s H ex C,QG (b7 X scope cl ([x]++[]) s H ex C) tg (eX 0)) (he:∀ s H ex C,QE (b7 X scope cl ([x]++[]) s H ex C) elt te) (CC:ic X scope cl [] []) (sF:X.N[i]?=some y:=by rfl) (pq:X.env.scope.names.lookup y=some .local:=by rfl)
  (sG:swapsWith (.ListComp elt [⟨tg,iter,ifs,0⟩] scope pos) (some (.Name y py)) spos.line X.env=pure true:=by rfl)
  (hk:scope.kind=.function:=by rfl) (bK:∀ y∈scope.names,y.2=.local→scope.names.lookup y.1=some .local:=by decide +kernel) (f9:∀ y∈scope.names,y.2≠.cell:=by decide +kernel)
  (hs:∀ x,foldedSetIterable iter X.env x=pure x:=by intro _; rfl):QS X (.Assign [.Name y py] (.ListComp elt [⟨tg,iter,ifs,0⟩] scope pos) spos) (kK (uV wi tt te) (eX i)) :=
 ⟨fun pins s σ H D I h=>(Dv.Tp i hc hN hi ht f7 he CC sF pq sG hk bK f9 hs).h pins s σ H D I (Fo h)⟩
end
end L2
namespace L2
theorem En {α:Type} {C:List α→Prop} (h:C []):∀ us:List α,us.length=0→C us
 | [],_=>h
theorem lq {α:Type} {C:List α→Prop} {n:Nat} (h:∀ a us,us.length=n→C (a::us)):∀ us:List α,us.length=n+1→C us
 | a::us,e=>h a us (Nat.succ.inj e)
theorem Ep {α:Type} {C:List α→Prop} (h:∀ a,C [a]):∀ us:List α,us.length=1→C us:=lq fun a=>En (C:=fun us=>C (a::us)) (h a)
theorem Hq {α:Type} {C:List α→Prop} (h:∀ a b,C [a,b]):∀ us:List α,us.length=2→C us:=lq fun a=>Ep (C:=fun us=>C (a::us)) (h a)
theorem ql {α:Type} {C:List α→Prop} (h:∀ a b c,C [a,b,c]):∀ us:List α,us.length=3→C us:=lq fun a=>Hq (C:=fun us=>C (a::us)) (h a)
theorem nA {α:Type} {C:List α→Prop} (h:∀ a b c d,C [a,b,c,d]):∀ us:List α,us.length=4→C us:=lq fun a=>ql (C:=fun us=>C (a::us)) (h a)
theorem sZ {α:Type} {C:List α→Prop} (h:∀ a b c d e,C [a,b,c,d,e]):∀ us:List α,us.length=5→C us:=lq fun a=>nA (C:=fun us=>C (a::us)) (h a)
theorem yC {α:Type} {C:List α→Prop} (h:∀ a b c d e f,C [a,b,c,d,e,f]):∀ us:List α,us.length=6→C us:=lq fun a=>sZ (C:=fun us=>C (a::us)) (h a)
theorem Mi {α:Type} {C:List α→Prop} (h:∀ a b c d e f g,C [a,b,c,d,e,f,g]):∀ us:List α,us.length=7→C us:=lq fun a=>yC (C:=fun us=>C (a::us)) (h a)
end L2
set_option maxHeartbeats 0
namespace L2.bD
open PySem PySem.Spec PyProof.Rows
local macro_rules | `(tactic| walk_at "s")=>`(tactic| exact ⟨rfl,rfl,rfl,by decide +kernel,rfl,by decide +kernel,by decide +kernel⟩)
def top (i:Nat):Stmt:=PySem.Challenge.pw_leadnames_k32_walks_that_fail.main.body.getD i (.Pass ⟨0,0,0,0⟩)
abbrev HS:Stmt:=top 2
abbrev GB:Stmt:=top 3
abbrev F4:Stmt:=top 4
abbrev zb:Stmt:=top 5
abbrev C1:Stmt:=top 25
abbrev Gr:Stmt:=top 26
abbrev Gw:Stmt:=top 27
abbrev C6:Stmt:=top 28
abbrev FR:Stmt:=top 29
abbrev Fl:Stmt:=top 30
abbrev GY:Stmt:=top 31
abbrev GN:Stmt:=top 32
abbrev Cn:Stmt:=top 33
abbrev DM:Stmt:=top 34
abbrev v7:Stmt:=top 47
abbrev wO:Stmt:=top 49
abbrev zi:Stmt:=top 50
abbrev pV:Stmt:=top 51
abbrev qI:Stmt:=top 52
abbrev w9:Stmt:=top 58
abbrev Ac:Stmt:=top 59
abbrev y2:Stmt:=top 60
abbrev zT:Stmt:=top 61
abbrev Ia:Stmt:=top 62
abbrev wL:Stmt:=top 63
abbrev wc:Stmt:=top 64
abbrev z6:Stmt:=top 65
abbrev wU:Stmt:=top 66
abbrev yn:Stmt:=top 67
abbrev wK:Stmt:=top 68
abbrev xD:Stmt:=top 69
abbrev oT:Stmt:=top 70
abbrev m6:Stmt:=top 71
abbrev zU:Stmt:=top 72
abbrev y8:Stmt:=top 74
abbrev xx:Stmt:=top 75
abbrev DW:Stmt:=top 77
abbrev EA:Stmt:=top 78
abbrev zE:Stmt:=top 79
abbrev yv:Stmt:=top 80
abbrev xS:Stmt:=top 81
abbrev yr:Stmt:=top 82
abbrev wG:Stmt:=top 83
abbrev xo:Stmt:=top 84
abbrev wZ:Stmt:=top 85
abbrev ze:Stmt:=top 86
abbrev xI:Stmt:=top 87
abbrev yl:Stmt:=top 88
abbrev yq:Stmt:=top 89
abbrev zA:Stmt:=top 90
abbrev xh:Stmt:=top 92
abbrev wR:Stmt:=top 93
abbrev zO:Stmt:=top 94
abbrev we:Stmt:=top 95
abbrev z0:Stmt:=top 96
abbrev zd:Stmt:=top 97
theorem UW:aH ["house", "folder"] ["house", "folder"] (aB HS):=by walk_at "s"
theorem xj:aH ["house", "folder", "base"] ["house", "folder"] (aB GB):=by walk_at "s"
theorem FX:aH ["house", "folder", "stack"] ["house", "folder"] (aB F4):=by walk_at "s"
theorem lZ:aH ["house", "asker", "folder", "root", "here", "stack", "place"] ["house", "asker", "folder"] (aB zb):=by walk_at "s"
theorem Ph:aH ["number"] ["number"] (aB C1):=by walk_at "s"
theorem Tb:aH ["text"] ["text"] (aB Gr):=by walk_at "s"
theorem N4:aH ["text"] ["text"] (aB Gw):=by walk_at "s"
theorem OT:aH ["text"] ["text"] (aB C6):=by walk_at "s"
theorem UE:aH ["text"] ["text"] (aB FR):=by walk_at "s"
theorem DX:aH ["path", "parts"] ["path"] (aB Fl):=by walk_at "s"
theorem QF:aH ["text"] ["text"] (aB GY):=by walk_at "s"
theorem Kw:aH ["text"] ["text"] (aB GN):=by walk_at "s"
theorem Qr:aH ["text"] ["text"] (aB Cn):=by walk_at "s"
theorem Pj:aH ["text"] ["text"] (aB DM):=by walk_at "s"
theorem oP:aH ["house", "asker", "folder", "root", "names", "stack", "place"] ["house", "asker", "folder"] (aB v7):=by walk_at "s"
theorem DG:aH ["house", "asker", "from_root", "parts", "last", "ended"] ["house", "asker", "from_root", "parts", "last"] (aB wO):=by walk_at "s"
theorem HK:aH ["house", "asker", "path", "last", "read"] ["house", "asker", "path", "last"] (aB zi):=by walk_at "s"
theorem T8:aH ["house", "asker", "path", "last"] ["house", "asker", "path", "last"] (aB pV):=by walk_at "s"
theorem Sv:aH ["house", "asker", "path", "last"] ["house", "asker", "path", "last"] (aB qI):=by walk_at "s"
theorem Hj:aH ["path", "parts"] ["path"] (aB w9):=by walk_at "s"
theorem Ai:aH ["house", "asker", "path", "asked", "ended"] ["house", "asker", "path"] (aB Ac):=by walk_at "s"
theorem M9:aH ["house", "seat"] ["house", "seat"] (aB y2):=by walk_at "s"
theorem Lv:aH ["told"] ["told"] (aB zT):=by walk_at "s"
theorem S4:aH ["house", "number"] ["house", "number"] (aB Ia):=by walk_at "s"
theorem Qq:aH ["house", "asker", "path"] ["house", "asker", "path"] (aB wL):=by walk_at "s"
theorem G8:aH ["house", "asker", "path", "number"] ["house", "asker", "path"] (aB wc):=by walk_at "s"
theorem Po:aH ["house", "asker", "number", "right", "reason"] ["house", "asker", "number", "right", "reason"] (aB z6):=by walk_at "s"
theorem SW:aH ["house", "asker", "folder"] ["house", "asker", "folder"] (aB wU):=by walk_at "s"
theorem RM:aH ["house", "seat"] ["house", "seat"] (aB yn):=by walk_at "s"
theorem Dz:aH ["house", "asker", "path", "seat"] ["house", "asker", "path"] (aB wK):=by walk_at "s"
theorem Sx:aH ["house", "seat", "number"] ["house", "seat", "number"] (aB xD):=by walk_at "s"
theorem Fi:aH ["house", "asker", "path", "mine", "rest", "seat"] ["house", "asker", "path", "mine", "rest"] (aB oT):=by walk_at "s"
theorem Hg:aH ["house", "asker", "path", "text", "mine", "rest", "seat"] ["house", "asker", "path", "text", "mine", "rest"] (aB m6):=by walk_at "s"
theorem Ge:aH ["house", "asker", "path", "mine", "rest", "number"] ["house", "asker", "path", "mine", "rest"] (aB zU):=by walk_at "s"
theorem Qu:aH ["house", "asker", "path"] ["house", "asker", "path"] (aB y8):=by walk_at "s"
theorem Cz:aH ["house", "asker", "path", "folder"] ["house", "asker", "path"] (aB xx):=by walk_at "s"
theorem NS:aH ["_law_script", "_law_k"] ["_law_script", "_law_k"] (aB DW):=by walk_at "s"
theorem uw:aH ["_law_state", "_law_base", "_law_found", "_law_number"] ["_law_state", "_law_base"] (aB EA):=by walk_at "s"
theorem Qv:aH ["_law_state"] ["_law_state"] (aB zE):=by walk_at "s"
theorem nO:aH ["_law_state", "_law_most", "_law_parts_here", "_law_k", "_law_name", "_law_text"] ["_law_state", "_law_most"] (aB yv):=by walk_at "s"
theorem Ou:aH ["_law_state"] ["_law_state"] (aB xS):=by walk_at "s"
theorem US:aH ["_law_house_here", "_law_asker", "_law_kind", "_law_path_here", "_law_state"] ["_law_house_here", "_law_asker", "_law_kind", "_law_path_here", "_law_state"] (aB yr):=by walk_at "s"
theorem RU:aH ["_law_house_here", "_law_asker", "_law_kind", "_law_path_here", "_law_state"] ["_law_house_here", "_law_asker", "_law_kind", "_law_path_here", "_law_state"] (aB wG):=by walk_at "s"
theorem B7:aH ["_law_house_here", "_law_folder", "_law_tree"] ["_law_house_here", "_law_folder"] (aB xo):=by walk_at "s"
theorem ur:aH ["_law_house_here", "_law_folder", "_law_found", "_law_turn", "_law_tree"] ["_law_house_here", "_law_folder"] (aB wZ):=by walk_at "s"
theorem qR:aH ["_law_house_here", "_law_asker", "_law_folder", "_law_stack_here", "_law_place"] ["_law_house_here", "_law_asker", "_law_folder"] (aB ze):=by walk_at "s"
theorem rN:aH ["_law_house_here", "_law_asker", "_law_folder", "_law_name", "_law_names", "_law_one"] ["_law_house_here", "_law_asker", "_law_folder", "_law_name"] (aB xI):=by walk_at "s"
theorem Cf:aH ["_law_path_here", "_law_parts_here"] ["_law_path_here"] (aB yl):=by walk_at "s"
theorem VP:aH ["_law_house_here", "_law_asker", "_law_path_here", "_law_here"] ["_law_house_here", "_law_asker", "_law_path_here", "_law_here"] (aB yq):=by walk_at "s"
theorem Gv:aH ["_law_house_here", "_law_asker", "_law_here", "_law_stack_here"] ["_law_house_here", "_law_asker", "_law_here"] (aB zA):=by walk_at "s"
theorem Pz:aH ["_law_house_here", "_law_asker", "_law_here", "_law_part"] ["_law_house_here", "_law_asker", "_law_here", "_law_part"] (aB xh):=by walk_at "s"
theorem eT:aH ["_law_house_here", "_law_asker", "_law_path_here", "_law_final", "_law_asked", "_law_here", "_law_tokens", "_law_name", "_law_thing", "_law_step", "_law_many", "_law_part", "_law_chain", "_law_number"] ["_law_house_here", "_law_asker", "_law_path_here", "_law_final"] (aB wR):=by walk_at "s"
theorem D8:aH ["_law_told", "_law_due", "_law_kinds"] ["_law_told", "_law_due"] (aB zO):=by walk_at "s"
theorem uO:aH ["_law_house_here", "_law_asker", "_law_path_here", "_law_final", "_law_due", "_law_asked", "_law_way_here"] ["_law_house_here", "_law_asker", "_law_path_here", "_law_final"] (aB we):=by walk_at "s"
theorem CK:aH ["_law_cell", "_law_house_here"] ["_law_cell"] (aB z0):=by walk_at "s"
theorem kF:aH ["_law_script", "_law_house_here", "_law_kinds", "_law_cell", "_law_state", "_law_asker", "_law_path_here"] ["_law_script"] (aB zd):=by walk_at "s"
abbrev DK:Stmt:=inClass (top 15) 0
theorem TZ:aH ["self", "told"] ["self", "told"] (aB DK):=by walk_at "s"
abbrev DC:Stmt:=inClass (top 16) 0
theorem Ug:aH ["self", "reason"] ["self", "reason"] (aB DC):=by walk_at "s"
abbrev FY:Stmt:=inClass (top 38) 0
theorem M8:aH ["self", "number", "kind", "owner", "mine", "rest", "text"] ["self", "number", "kind", "owner", "mine", "rest", "text"] (aB FY):=by walk_at "s"
abbrev Gp:Stmt:=inClass (top 38) 1
theorem Nn:aH ["self", "asker"] ["self", "asker"] (aB Gp):=by walk_at "s"
abbrev Ca:Stmt:=inClass (top 39) 0
theorem RS:aH ["self"] ["self"] (aB Ca):=by walk_at "s"
abbrev Fv:Stmt:=inClass (top 39) 1
theorem E9:aH ["self", "kind", "owner", "mine", "rest", "text", "number"] ["self", "kind", "owner", "mine", "rest", "text"] (aB Fv):=by walk_at "s"
abbrev HH:Stmt:=inClass (top 39) 2
theorem Ua:aH ["self", "owner", "mine", "rest"] ["self", "owner", "mine", "rest"] (aB HH):=by walk_at "s"
abbrev C5:Stmt:=inClass (top 39) 3
theorem Qx:aH ["self", "owner", "text", "mine", "rest"] ["self", "owner", "text", "mine", "rest"] (aB C5):=by walk_at "s"
abbrev Gk:Stmt:=inClass (top 39) 6
theorem Wa:aH ["self", "number"] ["self", "number"] (aB Gk):=by walk_at "s"
abbrev EE:Stmt:=inClass (top 39) 7
theorem Mv:aH ["self", "folder", "name"] ["self", "folder", "name"] (aB EE):=by walk_at "s"
abbrev CL:Stmt:=inClass (top 39) 10
theorem Mz:aH ["self", "number"] ["self", "number"] (aB CL):=by walk_at "s"
abbrev Cp:Stmt:=inClass (top 39) 11
theorem HB:aH ["self", "number", "mine", "rest", "thing"] ["self", "number", "mine", "rest"] (aB Cp):=by walk_at "s"
abbrev HU:Stmt:=inClass (top 39) 13
theorem uU:aH ["self", "folder", "name", "number", "thing", "former", "known"] ["self", "folder", "name", "number"] (aB HU):=by walk_at "s"
abbrev Ei:Stmt:=inClass (top 39) 14
theorem GS:aH ["self", "folder", "name", "number"] ["self", "folder", "name"] (aB Ei):=by walk_at "s"
abbrev Df:Stmt:=inClass (top 43) 0
theorem Lj:aH ["self", "number", "way"] ["self", "number", "way"] (aB Df):=by walk_at "s"
abbrev G5:Stmt:=inClass (top 44) 0
theorem Su:aH ["self", "step", "reason"] ["self", "step", "reason"] (aB G5):=by walk_at "s"
abbrev yN:Stmt:=inClass (top 46) 0
theorem MC:aH ["self", "house", "asker", "last"] ["self", "house", "asker", "last"] (aB yN):=by walk_at "s"
abbrev xE:Stmt:=inClass (top 46) 1
theorem Cv:aH ["self", "from_root", "parts", "start"] ["self", "from_root", "parts"] (aB xE):=by walk_at "s"
abbrev yt:Stmt:=inClass (top 46) 2
theorem E8:aH ["self", "part"] ["self"] (aB yt):=by walk_at "s"
abbrev yQ:Stmt:=inClass (top 46) 3
theorem LX:aH ["self", "reason"] ["self", "reason"] (aB yQ):=by walk_at "s"
abbrev wx:Stmt:=inClass (top 46) 4
theorem Rg:aH ["self", "part"] ["self", "part"] (aB wx):=by walk_at "s"
abbrev wq:Stmt:=inClass (top 46) 5
theorem G2:aH ["self", "stack"] ["self"] (aB wq):=by walk_at "s"
abbrev xm:Stmt:=inClass (top 46) 6
theorem wV:aH ["self", "name", "number", "kind"] ["self", "name"] (aB xm):=by walk_at "s"
abbrev z9:Stmt:=inClass (top 46) 9
theorem qe:aH ["self", "names", "folder"] ["self"] (aB z9):=by walk_at "s"
abbrev Dn:Stmt:=inClass (top 55) 0
theorem MV:aH ["self", "owner"] ["self", "owner"] (aB Dn):=by walk_at "s"
abbrev Ed:Stmt:=inClass (top 55) 1
theorem LB:aH ["self", "name"] ["self", "name"] (aB Ed):=by walk_at "s"
abbrev Fs:Stmt:=inClass (top 55) 3
theorem OQ:aH ["self"] ["self"] (aB Fs):=by walk_at "s"
abbrev Ho:Stmt:=inClass (top 55) 4
theorem VR:aH ["self", "asker"] ["self", "asker"] (aB Ho):=by walk_at "s"
abbrev FP:Stmt:=inClass (top 55) 5
theorem VY:aH ["self", "asker"] ["self", "asker"] (aB FP):=by walk_at "s"
abbrev EG:Stmt:=inClass (top 55) 6
theorem Pd:aH ["self", "number"] ["self", "number"] (aB EG):=by walk_at "s"
abbrev Gq:Stmt:=inClass (top 55) 7
theorem UB:aH ["self", "number"] ["self", "number"] (aB Gq):=by walk_at "s"
abbrev Hc:Stmt:=inClass (top 55) 10
theorem P5:aH ["self", "number", "name"] ["self", "number", "name"] (aB Hc):=by walk_at "s"
abbrev Tc:Stmt:=inClass (top 55) 12
abbrev Cd:Stmt:=inClass (top 55) 13
theorem Wi:aH ["self", "number"] ["self", "number"] (aB Cd):=by walk_at "s"
abbrev Dy:Stmt:=inClass (top 55) 15
theorem NY:aH ["self", "tree"] ["self", "tree"] (aB Dy):=by walk_at "s"
abbrev HP:Stmt:=inClass (top 55) 16
theorem Nz:aH ["self", "tree"] ["self", "tree"] (aB HP):=by walk_at "s"
abbrev FO:Stmt:=inClass (top 55) 17
theorem Ti:aH ["self", "asker", "number", "right"] ["self", "asker", "number", "right"] (aB FO):=by walk_at "s"
abbrev G9:Stmt:=inClass (top 55) 23
theorem PF:aH ["self", "asker"] ["self", "asker"] (aB G9):=by walk_at "s"
abbrev Dl:Stmt:=inClass (top 55) 24
theorem UA:aH ["self", "tree"] ["self", "tree"] (aB Dl):=by walk_at "s"
abbrev Em:Stmt:=inClass (top 55) 25
theorem UI:aH ["self", "number"] ["self", "number"] (aB Em):=by walk_at "s"
abbrev FI:Stmt:=inClass (top 55) 26
theorem UK:aH ["self", "name"] ["self", "name"] (aB FI):=by walk_at "s"
abbrev DD:Stmt:=inClass (top 55) 27
theorem UD:aH ["self", "asker", "folder"] ["self", "asker", "folder"] (aB DD):=by walk_at "s"
abbrev Hd:Stmt:=inClass (top 55) 28
theorem O4:aH ["self", "asker", "folder"] ["self", "asker", "folder"] (aB Hd):=by walk_at "s"
abbrev GL:Stmt:=inClass (top 55) 29
theorem EK:aH ["self", "tree", "owner", "root"] ["self", "tree", "owner"] (aB GL):=by walk_at "s"
abbrev Dm:Stmt:=inClass (top 57) 0
theorem Oh:aH ["self", "folder", "name"] ["self", "folder", "name"] (aB Dm):=by walk_at "s"
set_option genInjectivity false in
set_option genSizeOf false in
structure Tx (K:PySem.W.Frag) (mg:Str→Option Value) where
 gj:FT K mg "top_of" "top_of" HS ["house", "folder"]
 oh:FT K mg "base_of" "base_of" GB ["house", "folder"]
 dw:FT K mg "stack_of" "stack_of" F4 ["house", "folder"]
 ny:FT K mg "is_seen" "is_seen" zb ["house", "asker", "folder"]
 jg:FT K mg "is_whole" "is_whole" C1 ["number"]
 gk:FT K mg "is_name" "is_name" Gr ["text"]
 oM:FT K mg "is_rights" "is_rights" Gw ["text"]
 oF:FT K mg "is_text" "is_text" C6 ["text"]
 nQ:FT K mg "is_part" "is_part" FR ["text"]
 df:FT K mg "parts_of" "parts_of" Fl ["path"]
 gn:FT K mg "check_name" "check_name" GY ["text"]
 dm:FT K mg "check_rights" "check_rights" GN ["text"]
 oO:FT K mg "check_one_right" "check_one_right" Cn ["text"]
 nX:FT K mg "check_text" "check_text" DM ["text"]
 nB:FT K mg "names_to" "names_to" v7 ["house", "asker", "folder"]
 jD:FT K mg "walk_parts" "walk_parts" wO ["house", "asker", "from_root", "parts", "last"]
 jt:FT K mg "walk_path" "walk_path" zi ["house", "asker", "path", "last"]
 {B4:Addr}
 {ve:FuncData}
 ji:iF K "walk" "walk" pV B4 ve [.bool true]
 rn:mg "walk" = some (.ref B4)
 xX:Binds K ve ["house", "asker", "path", "last"] []
 qg:Binds K ve ["house", "asker", "path", "last"] [.bool true]
 {AV:Addr}
 {vV:FuncData}
 rF:iF K "asked_of" "asked_of" qI AV vV [.bool true]
 G3:mg "asked_of" = some (.ref AV)
 uI:Binds K vV ["house", "asker", "path", "last"] []
 Fc:Binds K vV ["house", "asker", "path", "last"] [.bool true]
 m5:FT K mg "check_seat" "check_seat" w9 ["path"]
 ni:FT K mg "seat_of" "seat_of" Ac ["house", "asker", "path"]
 nk:FT K mg "thing_at" "thing_at" y2 ["house", "seat"]
 jm:FT K mg "number_found" "number_found" zT ["told"]
 oq:FT K mg "is_folder" "is_folder" Ia ["house", "number"]
 jb:FT K mg "find_any" "find_any" wL ["house", "asker", "path"]
 i9:FT K mg "find_folder" "find_folder" wc ["house", "asker", "path"]
 n6:FT K mg "check_may" "check_may" z6 ["house", "asker", "number", "right", "reason"]
 nu:FT K mg "check_kept" "check_kept" wU ["house", "asker", "folder"]
 o7:FT K mg "check_free" "check_free" yn ["house", "seat"]
 ju:FT K mg "free_seat_of" "free_seat_of" wK ["house", "asker", "path"]
 i7:FT K mg "seat_thing" "seat_thing" xD ["house", "seat", "number"]
 {BH:Addr}
 {sR:FuncData}
 {ID:Tok}
 {Bq:Tok}
 tu:iF K "make_folder" "make_folder" oT BH sR [.str "lgw" ID,.str "" Bq]
 Pq:mg "make_folder" = some (.ref BH)
 xF:Binds K sR ["house", "asker", "path", "mine", "rest"] []
 Ie:Binds K sR ["house", "asker", "path", "mine", "rest"] [.str "" Bq]
 DR:Binds K sR ["house", "asker", "path", "mine", "rest"] [.str "lgw" ID,.str "" Bq]
 {AG:Addr}
 {sE:FuncData}
 {IZ:Tok}
 {BY:Tok}
 uC:iF K "make_file" "make_file" m6 AG sE [.str "lgw" IZ,.str "" BY]
 Q6:mg "make_file" = some (.ref AG)
 zc:Binds K sE ["house", "asker", "path", "text", "mine", "rest"] []
 EZ:Binds K sE ["house", "asker", "path", "text", "mine", "rest"] [.str "" BY]
 GU:Binds K sE ["house", "asker", "path", "text", "mine", "rest"] [.str "lgw" IZ,.str "" BY]
 ja:FT K mg "set_rights" "set_rights" zU ["house", "asker", "path", "mine", "rest"]
 mX:FT K mg "stand" "stand" y8 ["house", "asker", "path"]
 n9:FT K mg "set_root" "set_root" xx ["house", "asker", "path"]
 nS:FT K mg "_law_cell_at" "_law_cell_at" DW ["_law_script", "_law_k"]
 bJ:FT K mg "_law_digit" "_law_digit" EA ["_law_state", "_law_base"]
 nK:FT K mg "_law_word" "_law_word" zE ["_law_state"]
 jw:FT K mg "_law_path" "_law_path" yv ["_law_state", "_law_most"]
 dk:FT K mg "_law_rights" "_law_rights" xS ["_law_state"]
 oN:FT K mg "_law_deed" "_law_deed" yr ["_law_house_here", "_law_asker", "_law_kind", "_law_path_here", "_law_state"]
 oj:FT K mg "_law_done" "_law_done" wG ["_law_house_here", "_law_asker", "_law_kind", "_law_path_here", "_law_state"]
 dz:FT K mg "_law_top" "_law_top" xo ["_law_house_here", "_law_folder"]
 eW:FT K mg "_law_stack" "_law_stack" wZ ["_law_house_here", "_law_folder"]
 mZ:FT K mg "_law_seen" "_law_seen" ze ["_law_house_here", "_law_asker", "_law_folder"]
 ou:FT K mg "_law_way" "_law_way" xI ["_law_house_here", "_law_asker", "_law_folder", "_law_name"]
 m4:FT K mg "_law_parts" "_law_parts" yl ["_law_path_here"]
 o6:FT K mg "_law_start" "_law_start" yq ["_law_house_here", "_law_asker", "_law_path_here", "_law_here"]
 oG:FT K mg "_law_up" "_law_up" zA ["_law_house_here", "_law_asker", "_law_here"]
 oU:FT K mg "_law_to" "_law_to" xh ["_law_house_here", "_law_asker", "_law_here", "_law_part"]
 nI:FT K mg "_law_walked" "_law_walked" wR ["_law_house_here", "_law_asker", "_law_path_here", "_law_final"]
 jl:FT K mg "_law_alike" "_law_alike" zO ["_law_told", "_law_due"]
 n8:FT K mg "_law_question" "_law_question" we ["_law_house_here", "_law_asker", "_law_path_here", "_law_final"]
 nh:FT K mg "_law_house" "_law_house" z0 ["_law_cell"]
 {sy:Addr}
 {vi:FuncData}
 u4:iq K "law" "law" zd sy vi
 RF:mg "law" = some (.ref sy)
 E7:Binds K vi ["_law_script"] []
 {Bh:Addr}
 R6:mg "DOTS" = some (.ref Bh)
 Aa:∀ H:Hp,bW K H Bh [.str ".",.str ".."]
 {t_FILE:Tok}
 za:mg "FILE" = some (.str "file" t_FILE)
 {t_FIRST_TREE:Tok}
 NZ:mg "FIRST_TREE" = some (.str "main" t_FIRST_TREE)
 {t_FOLDER:Tok}
 rf:mg "FOLDER" = some (.str "folder" t_FOLDER)
 {bC:Addr}
 Dc:mg "Failed" = some (.ref bC)
 {cb:Addr}
 xR:mg "Found" = some (.ref cb)
 {au:Addr}
 KI:mg "House" = some (.ref au)
 {t_LETTERS:Tok}
 Tq:mg "LETTERS" = some (.str "abcdefghijklmnopqrstuvwxyz" t_LETTERS)
 {sN:Addr}
 OW:mg "LeadError" = some (.ref sN)
 {t_MOST_IN_NAME:Tok}
 P1:mg "MOST_IN_NAME" = some (.int 8 t_MOST_IN_NAME)
 {t_MOST_IN_PATH:Tok}
 KO:mg "MOST_IN_PATH" = some (.int 2000 t_MOST_IN_PATH)
 {t_MOST_IN_TEXT:Tok}
 Qh:mg "MOST_IN_TEXT" = some (.int 60 t_MOST_IN_TEXT)
 {pI:Addr}
 La:mg "NoAsker" = some (.ref pI)
 {dG:Addr}
 rM:mg "NoDeed" = some (.ref dG)
 {sL:Addr}
 V1:mg "NoRights" = some (.ref sL)
 {pk:Addr}
 Nw:mg "NoThing" = some (.ref pk)
 {c9:Addr}
 TY:mg "NoWay" = some (.ref c9)
 {Bf:Addr}
 U3:mg "RIGHTS" = some (.ref Bf)
 xq:∀ H:Hp,bW K H Bf [.str "",.str "l",.str "g",.str "w",.str "lg",.str "lw",.str "gw",.str "lgw"]
 {vk:Addr}
 Q0:mg "Ring" = some (.ref vk)
 {A0:Addr}
 UL:mg "SINGLE_RIGHTS" = some (.ref A0)
 Ar:∀ H:Hp,bW K H A0 [.str "l",.str "g",.str "w"]
 {gB:Addr}
 Mw:mg "Seat" = some (.ref gB)
 {aG:Addr}
 Tz:mg "Thing" = some (.ref aG)
 {aD:Addr}
 O2:mg "Things" = some (.ref aD)
 {vL:Addr}
 Rt:mg "Told" = some (.ref vL)
 {bg:Addr}
 Wf:mg "Walk" = some (.ref bg)
 HW:mg "all" = none
 g_bool:mg "bool" = none
 qB:mg "int" = none
 fC:mg "isinstance" = none
 jG:mg "len" = none
 wo:mg "list" = none
 Tn:mg "min" = none
 NC:mg "range" = none
 Cb:mg "reversed" = none
 VI:mg "sorted" = none
 j8:mg "str" = none
 rK:MT K c9 "__init__" "NoWay.__init__" DK ["self", "told"]
 i6:MT K dG "__init__" "NoDeed.__init__" DC ["self", "reason"]
 rS:MT K aG "__init__" "Thing.__init__" FY ["self", "number", "kind", "owner", "mine", "rest", "text"]
 pT:MT K aG "rights_for" "Thing.rights_for" Gp ["self", "asker"]
 qw:MT K aD "__init__" "Things.__init__" Ca ["self"]
 lG:MT K aD "add_thing" "Things.add_thing" Fv ["self", "kind", "owner", "mine", "rest", "text"]
 lF:MT K aD "add_folder" "Things.add_folder" HH ["self", "owner", "mine", "rest"]
 qA:MT K aD "add_file" "Things.add_file" C5 ["self", "owner", "text", "mine", "rest"]
 du:MT K aD "at" "Things.at" Gk ["self", "number"]
 lP:MT K aD "child" "Things.child" EE ["self", "folder", "name"]
 rP:MT K aD "place_of" "Things.place_of" CL ["self", "number"]
 qD:MT K aD "put_rights" "Things.put_rights" Cp ["self", "number", "mine", "rest"]
 rL:MT K aD "put_name" "Things.put_name" HU ["self", "folder", "name", "number"]
 qh:MT K aD "drop_name" "Things.drop_name" Ei ["self", "folder", "name"]
 rW:MT K cb "__init__" "Found.__init__" Df ["self", "number", "way"]
 qG:MT K bC "__init__" "Failed.__init__" G5 ["self", "step", "reason"]
 qX:MT K bg "__init__" "Walk.__init__" yN ["self", "house", "asker", "last"]
 ra:MT K bg "begin" "Walk.begin" xE ["self", "from_root", "parts"]
 pY:MT K bg "go_on" "Walk.go_on" yt ["self"]
 gL:MT K bg "fail" "Walk.fail" yQ ["self", "reason"]
 qV:MT K bg "take_step" "Walk.take_step" wx ["self", "part"]
 pZ:MT K bg "go_up" "Walk.go_up" wq ["self"]
 rp:MT K bg "go_by" "Walk.go_by" xm ["self", "name"]
 qM:MT K bg "true_path" "Walk.true_path" z9 ["self"]
 pQ:MT K au "__init__" "House.__init__" Dn ["self", "owner"]
 lT:MT K au "enroll" "House.enroll" Ed ["self", "name"]
 jh:MT K au "trees" "House.trees" Fs ["self"]
 ej:MT K au "root_of" "House.root_of" Ho ["self", "asker"]
 mm:MT K au "standing_of" "House.standing_of" FP ["self", "asker"]
 eU:MT K au "kind_of" "House.kind_of" EG ["self", "number"]
 qT:MT K au "owner_of" "House.owner_of" Gq ["self", "number"]
 jB:MT K au "child" "House.child" Hc ["self", "number", "name"]
 WM:MT K au "text_of" "House.text_of" Tc ["self", "number"]
 fc:MT K au "place_of" "House.place_of" Cd ["self", "number"]
 mh:MT K au "tree_root" "House.tree_root" Dy ["self", "tree"]
 lN:MT K au "covered_by" "House.covered_by" HP ["self", "tree"]
 jf:MT K au "may" "House.may" FO ["self", "asker", "number", "right"]
 er:MT K au "check_asker" "House.check_asker" G9 ["self", "asker"]
 qJ:MT K au "check_tree" "House.check_tree" Dl ["self", "tree"]
 rG:MT K au "check_thing" "House.check_thing" Em ["self", "number"]
 lD:MT K au "add_asker" "House.add_asker" FI ["self", "name"]
 jF:MT K au "put_root" "House.put_root" DD ["self", "asker", "folder"]
 gR:MT K au "put_standing" "House.put_standing" Hd ["self", "asker", "folder"]
 rR:MT K au "add_tree" "House.add_tree" GL ["self", "tree", "owner"]
 qC:MT K gB "__init__" "Seat.__init__" Dm ["self", "folder", "name"]
 jx:cF K bC
 Vq:Mk K bC qG.f
 iE:cF K cb
 NA:Mk K cb rW.f
 aM:cF K au
 KS:Mk K au pQ.f
 lz:cF K gB
 Kv:Mk K gB qC.f
 cY:cF K aG
 QY:Mk K aG rS.f
 cj:cF K aD
 Qn:Mk K aD qw.f
 aR:cF K bg
 RZ:Mk K bg qX.f
 EM:bx K bC "reason"
 ED:bx K bC "step"
 zu:bx K cb "number"
 Dq:bx K cb "way"
 tj:bx K au "changes"
 yI:bx K au "first_root"
 uu:bx K au "folder_under"
 Rx:bx K au "holds"
 N7:bx K au "holds_given"
 xW:bx K au "root_over"
 rh:bx K au "roots"
 yf:bx K au "standings"
 gu:bx K au "things"
 qd:bx K au "tree_roots"
 uv:bx K gB "folder"
 yo:bx K gB "name"
 yu:bx K aG "kind"
 zl:bx K aG "mine"
 xk:bx K aG "names"
 OD:bx K aG "number"
 xO:bx K aG "owner"
 tL:bx K aG "places"
 wD:bx K aG "rest"
 MF:bx K aG "text"
 ue:bx K aD "changes"
 qt:bx K aD "made"
 wI:bx K bg "asked"
 qk:bx K bg "asker"
 eY:bx K bg "here"
 fA:bx K bg "house"
 HD:bx K bg "last"
 Qd:bx K bg "leads_read"
 qu:bx K bg "left"
 Ci:bx K bg "looked_up"
 uJ:bx K bg "place"
 Q4:bx K bg "reading"
 u7:bx K bg "root"
 wj:bx K bg "step"
 lA:bx K bg "told"
 nZ:iC K dG i6.f "reason"
 qN:PySem.W.typeIn K (.ref dG)=some (.type "type")
 G6:iC K c9 rK.f "told"
 Mr:PySem.W.typeIn K (.ref c9)=some (.type "type")
 Vm:PySem.W.excIn K pI [.type "ValueError",.type "Exception",.type "BaseException",.type "object"] "ValueError.__new__" = true
 OV:PySem.W.excIn K sL [.type "ValueError",.type "Exception",.type "BaseException",.type "object"] "ValueError.__new__" = true
 Ng:PySem.W.excIn K pk [.type "ValueError",.type "Exception",.type "BaseException",.type "object"] "ValueError.__new__" = true
 Ts:PySem.W.instIn K (.ref sN) (.type "tuple")=some false
 Vd:PySem.W.mroIn K sN (.type "BaseException")=some true
 q1:PySem.W.findIn K (.ref cb) "__class__" = some (some (.builtin "object.__class__"))
 q2:PySem.W.specialIn K (.builtin "object.__class__") "__get__" = some (some (.builtin "getset_descriptor.__get__"))
 q3:PySem.W.takesIn K (.builtin "object.__class__")=some true
 q4:PySem.W.mroIn K cb (.type "object")=some true
 q5:PySem.W.kitOne K (.ref cb) (.ref cb)=some true
 q6:PySem.W.findIn K (.ref bC) "__class__" = some (some (.builtin "object.__class__"))
 q7:PySem.W.mroIn K bC (.type "object")=some true
 q8:PySem.W.kitOne K (.ref bC) (.ref cb)=some false
 q9:PySem.W.kitOne K (.ref cb) (.ref bC)=some false
 kJ:PySem.W.kitOne K (.ref cb) (.ref vk)=some false
 MG:PySem.W.kitOne K (.ref cb) (.ref vL)=some true
 Uo:PySem.W.kitOne K (.ref bC) (.ref bC)=some true
 So:PySem.W.kitOne K (.ref bC) (.ref vk)=some false
 LZ:PySem.W.kitOne K (.ref bC) (.ref vL)=some true
 LN:PySem.W.subIn K (.ref c9) (.ref sN)=some true
 Pc:PySem.W.subIn K (.ref dG) (.ref sN)=some true
def nF:List Nat:=List.range' 97 26
def isNm (l:List Nat):Bool:=decide (1≤l.length) && decide (l.length≤8) && l.all (nF.contains ·)
def dX:V→Bool
 | .str z=>isNm z.cps.toList
 | _=>false
def DO:V→Prop
 | .str z=>z.length≤1000
 | _=>True
theorem stI {t:TS} {D:Ends} {H:Hp} {σ:L2.St} (τ:L2.St) (h:t D τ H) (e:σ=τ:=by rfl):t D σ H:=e ▸ h
def a1 (f:V→Hp→VK→XK→Prop):Sp:=fun vs H Q E=>match vs with
 | [x1]=>f x1 H Q E
 | _=>False
theorem a1.o {f:V→Hp→VK→XK→Prop} {vs:List V} {H:Hp} {Q:VK} {E:XK} (h:a1 f vs H Q E):∃ x1,vs=[x1]∧f x1 H Q E:=by
 unfold a1 at h;split at h
 ·exact ⟨_,rfl,h⟩
 ·exact h.elim
def a2 (f:V→V→Hp→VK→XK→Prop):Sp:=fun vs H Q E=>match vs with
 | [x1,x2]=>f x1 x2 H Q E
 | _=>False
theorem a2.o {f:V→V→Hp→VK→XK→Prop} {vs:List V} {H:Hp} {Q:VK} {E:XK} (h:a2 f vs H Q E):∃ x1 x2,vs=[x1,x2]∧f x1 x2 H Q E:=by
 unfold a2 at h;split at h
 ·exact ⟨_,_,rfl,h⟩
 ·exact h.elim
def a3 (f:V→V→V→Hp→VK→XK→Prop):Sp:=fun vs H Q E=>match vs with
 | [x1,x2,x3]=>f x1 x2 x3 H Q E
 | _=>False
theorem a3.o {f:V→V→V→Hp→VK→XK→Prop} {vs:List V} {H:Hp} {Q:VK} {E:XK} (h:a3 f vs H Q E):∃ x1 x2 x3,vs=[x1,x2,x3]∧f x1 x2 x3 H Q E:=by
 unfold a3 at h;split at h
 ·exact ⟨_,_,_,rfl,h⟩
 ·exact h.elim
def a4 (f:V→V→V→V→Hp→VK→XK→Prop):Sp:=fun vs H Q E=>match vs with
 | [x1,x2,x3,x4]=>f x1 x2 x3 x4 H Q E
 | _=>False
theorem a4.o {f:V→V→V→V→Hp→VK→XK→Prop} {vs:List V} {H:Hp} {Q:VK} {E:XK} (h:a4 f vs H Q E):∃ x1 x2 x3 x4,vs=[x1,x2,x3,x4]∧f x1 x2 x3 x4 H Q E:=by
 unfold a4 at h;split at h
 ·exact ⟨_,_,_,_,rfl,h⟩
 ·exact h.elim
def a5 (f:V→V→V→V→V→Hp→VK→XK→Prop):Sp:=fun vs H Q E=>match vs with
 | [x1,x2,x3,x4,x5]=>f x1 x2 x3 x4 x5 H Q E
 | _=>False
theorem a5.o {f:V→V→V→V→V→Hp→VK→XK→Prop} {vs:List V} {H:Hp} {Q:VK} {E:XK} (h:a5 f vs H Q E):∃ x1 x2 x3 x4 x5,vs=[x1,x2,x3,x4,x5]∧f x1 x2 x3 x4 x5 H Q E:=by
 unfold a5 at h;split at h
 ·exact ⟨_,_,_,_,_,rfl,h⟩
 ·exact h.elim
def a6 (f:V→V→V→V→V→V→Hp→VK→XK→Prop):Sp:=fun vs H Q E=>match vs with
 | [x1,x2,x3,x4,x5,x6]=>f x1 x2 x3 x4 x5 x6 H Q E
 | _=>False
theorem a6.o {f:V→V→V→V→V→V→Hp→VK→XK→Prop} {vs:List V} {H:Hp} {Q:VK} {E:XK} (h:a6 f vs H Q E):∃ x1 x2 x3 x4 x5 x6,vs=[x1,x2,x3,x4,x5,x6]∧f x1 x2 x3 x4 x5 x6 H Q E:=by
 unfold a6 at h;split at h
 ·exact ⟨_,_,_,_,_,_,rfl,h⟩
 ·exact h.elim
def a7 (f:V→V→V→V→V→V→V→Hp→VK→XK→Prop):Sp:=fun vs H Q E=>match vs with
 | [x1,x2,x3,x4,x5,x6,x7]=>f x1 x2 x3 x4 x5 x6 x7 H Q E
 | _=>False
theorem a7.o {f:V→V→V→V→V→V→V→Hp→VK→XK→Prop} {vs:List V} {H:Hp} {Q:VK} {E:XK} (h:a7 f vs H Q E):∃ x1 x2 x3 x4 x5 x6 x7,vs=[x1,x2,x3,x4,x5,x6,x7]∧f x1 x2 x3 x4 x5 x6 x7 H Q E:=by
 unfold a7 at h;split at h
 ·exact ⟨_,_,_,_,_,_,_,rfl,h⟩
 ·exact h.elim
def vR (v:V) (k:Addr→Prop):Prop:=match v with
 | .ref x=>k x
 | _=>False
theorem vR.o {v:V} {k:Addr→Prop} (h:vR v k):∃ x,v=.ref x∧k x:=by
 unfold vR at h;split at h
 ·exact ⟨_,rfl,h⟩
 ·exact h.elim
def vS (v:V) (k:Str→Prop):Prop:=match v with
 | .str x=>k x
 | _=>False
theorem vS.o {v:V} {k:Str→Prop} (h:vS v k):∃ x,v=.str x∧k x:=by
 unfold vS at h;split at h
 ·exact ⟨_,rfl,h⟩
 ·exact h.elim
def vI (v:V) (k:Int→Prop):Prop:=match v with
 | .int x=>k x
 | _=>False
theorem vI.o {v:V} {k:Int→Prop} (h:vI v k):∃ x,v=.int x∧k x:=by
 unfold vI at h;split at h
 ·exact ⟨_,rfl,h⟩
 ·exact h.elim
def vB (v:V) (k:Bool→Prop):Prop:=match v with
 | .bl x=>k x
 | _=>False
theorem vB.o {v:V} {k:Bool→Prop} (h:vB v k):∃ x,v=.bl x∧k x:=by
 unfold vB at h;split at h
 ·exact ⟨_,rfl,h⟩
 ·exact h.elim
def F9 (f:Int→Hp→VK→XK→Prop):Sp:=a1 fun q1 H Q E=>vI q1 fun x1=>f x1 H Q E
@[elab_as_elim] theorem HA {f:Int→Hp→VK→XK→Prop} {vs:List V} {H:Hp} {Q:VK} {E:XK} {G:List V→Prop} (h:F9 f vs H Q E) (k:∀ x1,f x1 H Q E→G [.int x1]):G vs:=by
 obtain ⟨_,rfl,h⟩:=a1.o h;obtain ⟨x1,rfl,h⟩:=vI.o h;exact k x1 h
def ik (f:Addr→Hp→VK→XK→Prop):Sp:=a1 fun q1 H Q E=>vR q1 fun x1=>f x1 H Q E
@[elab_as_elim] theorem ed {f:Addr→Hp→VK→XK→Prop} {vs:List V} {H:Hp} {Q:VK} {E:XK} {G:List V→Prop} (h:ik f vs H Q E) (k:∀ x1,f x1 H Q E→G [.ref x1]):G vs:=by
 obtain ⟨_,rfl,h⟩:=a1.o h;obtain ⟨x1,rfl,h⟩:=vR.o h;exact k x1 h
def B8 (f:Addr→Bool→Addr→Hp→VK→XK→Prop):Sp:=a3 fun q1 q2 q3 H Q E=>vR q1 fun x1=>vB q2 fun x2=>vR q3 fun x3=>f x1 x2 x3 H Q E
@[elab_as_elim] theorem He {f:Addr→Bool→Addr→Hp→VK→XK→Prop} {vs:List V} {H:Hp} {Q:VK} {E:XK} {G:List V→Prop} (h:B8 f vs H Q E) (k:∀ x1 x2 x3,f x1 x2 x3 H Q E→G [.ref x1,.bl x2,.ref x3]):G vs:=by
 obtain ⟨_,_,_,rfl,h⟩:=a3.o h;obtain ⟨x1,rfl,h⟩:=vR.o h;obtain ⟨x2,rfl,h⟩:=vB.o h;obtain ⟨x3,rfl,h⟩:=vR.o h;exact k x1 x2 x3 h
def jd (f:Addr→Int→Hp→VK→XK→Prop):Sp:=a2 fun q1 q2 H Q E=>vR q1 fun x1=>vI q2 fun x2=>f x1 x2 H Q E
@[elab_as_elim] theorem cD {f:Addr→Int→Hp→VK→XK→Prop} {vs:List V} {H:Hp} {Q:VK} {E:XK} {G:List V→Prop} (h:jd f vs H Q E) (k:∀ x1 x2,f x1 x2 H Q E→G [.ref x1,.int x2]):G vs:=by
 obtain ⟨_,_,rfl,h⟩:=a2.o h;obtain ⟨x1,rfl,h⟩:=vR.o h;obtain ⟨x2,rfl,h⟩:=vI.o h;exact k x1 x2 h
def tG (f:Addr→Int→Str→Hp→VK→XK→Prop):Sp:=a3 fun q1 q2 q3 H Q E=>vR q1 fun x1=>vI q2 fun x2=>vS q3 fun x3=>f x1 x2 x3 H Q E
@[elab_as_elim] theorem oZ {f:Addr→Int→Str→Hp→VK→XK→Prop} {vs:List V} {H:Hp} {Q:VK} {E:XK} {G:List V→Prop} (h:tG f vs H Q E) (k:∀ x1 x2 x3,f x1 x2 x3 H Q E→G [.ref x1,.int x2,.str x3]):G vs:=by
 obtain ⟨_,_,_,rfl,h⟩:=a3.o h;obtain ⟨x1,rfl,h⟩:=vR.o h;obtain ⟨x2,rfl,h⟩:=vI.o h;obtain ⟨x3,rfl,h⟩:=vS.o h;exact k x1 x2 x3 h
def Ek (f:Addr→Int→Str→Int→Hp→VK→XK→Prop):Sp:=a4 fun q1 q2 q3 q4 H Q E=>vR q1 fun x1=>vI q2 fun x2=>vS q3 fun x3=>vI q4 fun x4=>f x1 x2 x3 x4 H Q E
@[elab_as_elim] theorem Dj {f:Addr→Int→Str→Int→Hp→VK→XK→Prop} {vs:List V} {H:Hp} {Q:VK} {E:XK} {G:List V→Prop} (h:Ek f vs H Q E) (k:∀ x1 x2 x3 x4,f x1 x2 x3 x4 H Q E→G [.ref x1,.int x2,.str x3,.int x4]):G vs:=by
 obtain ⟨_,_,_,_,rfl,h⟩:=a4.o h;obtain ⟨x1,rfl,h⟩:=vR.o h;obtain ⟨x2,rfl,h⟩:=vI.o h;obtain ⟨x3,rfl,h⟩:=vS.o h;obtain ⟨x4,rfl,h⟩:=vI.o h;exact k x1 x2 x3 x4 h
def Ck (f:Addr→Int→Str→Str→Hp→VK→XK→Prop):Sp:=a4 fun q1 q2 q3 q4 H Q E=>vR q1 fun x1=>vI q2 fun x2=>vS q3 fun x3=>vS q4 fun x4=>f x1 x2 x3 x4 H Q E
@[elab_as_elim] theorem HZ {f:Addr→Int→Str→Str→Hp→VK→XK→Prop} {vs:List V} {H:Hp} {Q:VK} {E:XK} {G:List V→Prop} (h:Ck f vs H Q E) (k:∀ x1 x2 x3 x4,f x1 x2 x3 x4 H Q E→G [.ref x1,.int x2,.str x3,.str x4]):G vs:=by
 obtain ⟨_,_,_,_,rfl,h⟩:=a4.o h;obtain ⟨x1,rfl,h⟩:=vR.o h;obtain ⟨x2,rfl,h⟩:=vI.o h;obtain ⟨x3,rfl,h⟩:=vS.o h;obtain ⟨x4,rfl,h⟩:=vS.o h;exact k x1 x2 x3 x4 h
def tZ (f:Addr→Addr→Hp→VK→XK→Prop):Sp:=a2 fun q1 q2 H Q E=>vR q1 fun x1=>vR q2 fun x2=>f x1 x2 H Q E
@[elab_as_elim] theorem nG {f:Addr→Addr→Hp→VK→XK→Prop} {vs:List V} {H:Hp} {Q:VK} {E:XK} {G:List V→Prop} (h:tZ f vs H Q E) (k:∀ x1 x2,f x1 x2 H Q E→G [.ref x1,.ref x2]):G vs:=by
 obtain ⟨_,_,rfl,h⟩:=a2.o h;obtain ⟨x1,rfl,h⟩:=vR.o h;obtain ⟨x2,rfl,h⟩:=vR.o h;exact k x1 x2 h
def HJ (f:Addr→Addr→Int→Hp→VK→XK→Prop):Sp:=a3 fun q1 q2 q3 H Q E=>vR q1 fun x1=>vR q2 fun x2=>vI q3 fun x3=>f x1 x2 x3 H Q E
@[elab_as_elim] theorem FK {f:Addr→Addr→Int→Hp→VK→XK→Prop} {vs:List V} {H:Hp} {Q:VK} {E:XK} {G:List V→Prop} (h:HJ f vs H Q E) (k:∀ x1 x2 x3,f x1 x2 x3 H Q E→G [.ref x1,.ref x2,.int x3]):G vs:=by
 obtain ⟨_,_,_,rfl,h⟩:=a3.o h;obtain ⟨x1,rfl,h⟩:=vR.o h;obtain ⟨x2,rfl,h⟩:=vR.o h;obtain ⟨x3,rfl,h⟩:=vI.o h;exact k x1 x2 x3 h
def Cm (f:Addr→Addr→Str→Bool→Hp→VK→XK→Prop):Sp:=a4 fun q1 q2 q3 q4 H Q E=>vR q1 fun x1=>vR q2 fun x2=>vS q3 fun x3=>vB q4 fun x4=>f x1 x2 x3 x4 H Q E
@[elab_as_elim] theorem E1 {f:Addr→Addr→Str→Bool→Hp→VK→XK→Prop} {vs:List V} {H:Hp} {Q:VK} {E:XK} {G:List V→Prop} (h:Cm f vs H Q E) (k:∀ x1 x2 x3 x4,f x1 x2 x3 x4 H Q E→G [.ref x1,.ref x2,.str x3,.bl x4]):G vs:=by
 obtain ⟨_,_,_,_,rfl,h⟩:=a4.o h;obtain ⟨x1,rfl,h⟩:=vR.o h;obtain ⟨x2,rfl,h⟩:=vR.o h;obtain ⟨x3,rfl,h⟩:=vS.o h;obtain ⟨x4,rfl,h⟩:=vB.o h;exact k x1 x2 x3 x4 h
def f6 (f:Addr→Str→Hp→VK→XK→Prop):Sp:=a2 fun q1 q2 H Q E=>vR q1 fun x1=>vS q2 fun x2=>f x1 x2 H Q E
@[elab_as_elim] theorem cJ {f:Addr→Str→Hp→VK→XK→Prop} {vs:List V} {H:Hp} {Q:VK} {E:XK} {G:List V→Prop} (h:f6 f vs H Q E) (k:∀ x1 x2,f x1 x2 H Q E→G [.ref x1,.str x2]):G vs:=by
 obtain ⟨_,_,rfl,h⟩:=a2.o h;obtain ⟨x1,rfl,h⟩:=vR.o h;obtain ⟨x2,rfl,h⟩:=vS.o h;exact k x1 x2 h
def C9 (f:Addr→Str→Bool→Addr→Bool→Hp→VK→XK→Prop):Sp:=a5 fun q1 q2 q3 q4 q5 H Q E=>vR q1 fun x1=>vS q2 fun x2=>vB q3 fun x3=>vR q4 fun x4=>vB q5 fun x5=>f x1 x2 x3 x4 x5 H Q E
@[elab_as_elim] theorem Ey {f:Addr→Str→Bool→Addr→Bool→Hp→VK→XK→Prop} {vs:List V} {H:Hp} {Q:VK} {E:XK} {G:List V→Prop} (h:C9 f vs H Q E) (k:∀ x1 x2 x3 x4 x5,f x1 x2 x3 x4 x5 H Q E→G [.ref x1,.str x2,.bl x3,.ref x4,.bl x5]):G vs:=by
 obtain ⟨_,_,_,_,_,rfl,h⟩:=a5.o h;obtain ⟨x1,rfl,h⟩:=vR.o h;obtain ⟨x2,rfl,h⟩:=vS.o h;obtain ⟨x3,rfl,h⟩:=vB.o h;obtain ⟨x4,rfl,h⟩:=vR.o h;obtain ⟨x5,rfl,h⟩:=vB.o h;exact k x1 x2 x3 x4 x5 h
def jy (f:Addr→Str→Int→Hp→VK→XK→Prop):Sp:=a3 fun q1 q2 q3 H Q E=>vR q1 fun x1=>vS q2 fun x2=>vI q3 fun x3=>f x1 x2 x3 H Q E
@[elab_as_elim] theorem eI {f:Addr→Str→Int→Hp→VK→XK→Prop} {vs:List V} {H:Hp} {Q:VK} {E:XK} {G:List V→Prop} (h:jy f vs H Q E) (k:∀ x1 x2 x3,f x1 x2 x3 H Q E→G [.ref x1,.str x2,.int x3]):G vs:=by
 obtain ⟨_,_,_,rfl,h⟩:=a3.o h;obtain ⟨x1,rfl,h⟩:=vR.o h;obtain ⟨x2,rfl,h⟩:=vS.o h;obtain ⟨x3,rfl,h⟩:=vI.o h;exact k x1 x2 x3 h
def D1 (f:Addr→Str→Int→Str→Hp→VK→XK→Prop):Sp:=a4 fun q1 q2 q3 q4 H Q E=>vR q1 fun x1=>vS q2 fun x2=>vI q3 fun x3=>vS q4 fun x4=>f x1 x2 x3 x4 H Q E
@[elab_as_elim] theorem EC {f:Addr→Str→Int→Str→Hp→VK→XK→Prop} {vs:List V} {H:Hp} {Q:VK} {E:XK} {G:List V→Prop} (h:D1 f vs H Q E) (k:∀ x1 x2 x3 x4,f x1 x2 x3 x4 H Q E→G [.ref x1,.str x2,.int x3,.str x4]):G vs:=by
 obtain ⟨_,_,_,_,rfl,h⟩:=a4.o h;obtain ⟨x1,rfl,h⟩:=vR.o h;obtain ⟨x2,rfl,h⟩:=vS.o h;obtain ⟨x3,rfl,h⟩:=vI.o h;obtain ⟨x4,rfl,h⟩:=vS.o h;exact k x1 x2 x3 x4 h
def Fz (f:Addr→Str→Int→Str→Str→Hp→VK→XK→Prop):Sp:=a5 fun q1 q2 q3 q4 q5 H Q E=>vR q1 fun x1=>vS q2 fun x2=>vI q3 fun x3=>vS q4 fun x4=>vS q5 fun x5=>f x1 x2 x3 x4 x5 H Q E
@[elab_as_elim] theorem Ec {f:Addr→Str→Int→Str→Str→Hp→VK→XK→Prop} {vs:List V} {H:Hp} {Q:VK} {E:XK} {G:List V→Prop} (h:Fz f vs H Q E) (k:∀ x1 x2 x3 x4 x5,f x1 x2 x3 x4 x5 H Q E→G [.ref x1,.str x2,.int x3,.str x4,.str x5]):G vs:=by
 obtain ⟨_,_,_,_,_,rfl,h⟩:=a5.o h;obtain ⟨x1,rfl,h⟩:=vR.o h;obtain ⟨x2,rfl,h⟩:=vS.o h;obtain ⟨x3,rfl,h⟩:=vI.o h;obtain ⟨x4,rfl,h⟩:=vS.o h;obtain ⟨x5,rfl,h⟩:=vS.o h;exact k x1 x2 x3 x4 x5 h
def Gx (f:Addr→Str→Int→V→Hp→VK→XK→Prop):Sp:=a4 fun q1 q2 q3 x4 H Q E=>vR q1 fun x1=>vS q2 fun x2=>vI q3 fun x3=>f x1 x2 x3 x4 H Q E
@[elab_as_elim] theorem B9 {f:Addr→Str→Int→V→Hp→VK→XK→Prop} {vs:List V} {H:Hp} {Q:VK} {E:XK} {G:List V→Prop} (h:Gx f vs H Q E) (k:∀ x1 x2 x3 x4,f x1 x2 x3 x4 H Q E→G [.ref x1,.str x2,.int x3,x4]):G vs:=by
 obtain ⟨_,_,_,x4,rfl,h⟩:=a4.o h;obtain ⟨x1,rfl,h⟩:=vR.o h;obtain ⟨x2,rfl,h⟩:=vS.o h;obtain ⟨x3,rfl,h⟩:=vI.o h;exact k x1 x2 x3 x4 h
def ke (f:Addr→Str→Str→Hp→VK→XK→Prop):Sp:=a3 fun q1 q2 q3 H Q E=>vR q1 fun x1=>vS q2 fun x2=>vS q3 fun x3=>f x1 x2 x3 H Q E
@[elab_as_elim] theorem fz {f:Addr→Str→Str→Hp→VK→XK→Prop} {vs:List V} {H:Hp} {Q:VK} {E:XK} {G:List V→Prop} (h:ke f vs H Q E) (k:∀ x1 x2 x3,f x1 x2 x3 H Q E→G [.ref x1,.str x2,.str x3]):G vs:=by
 obtain ⟨_,_,_,rfl,h⟩:=a3.o h;obtain ⟨x1,rfl,h⟩:=vR.o h;obtain ⟨x2,rfl,h⟩:=vS.o h;obtain ⟨x3,rfl,h⟩:=vS.o h;exact k x1 x2 x3 h
def m7 (f:Addr→Str→Str→Bool→Hp→VK→XK→Prop):Sp:=a4 fun q1 q2 q3 q4 H Q E=>vR q1 fun x1=>vS q2 fun x2=>vS q3 fun x3=>vB q4 fun x4=>f x1 x2 x3 x4 H Q E
@[elab_as_elim] theorem hZ {f:Addr→Str→Str→Bool→Hp→VK→XK→Prop} {vs:List V} {H:Hp} {Q:VK} {E:XK} {G:List V→Prop} (h:m7 f vs H Q E) (k:∀ x1 x2 x3 x4,f x1 x2 x3 x4 H Q E→G [.ref x1,.str x2,.str x3,.bl x4]):G vs:=by
 obtain ⟨_,_,_,_,rfl,h⟩:=a4.o h;obtain ⟨x1,rfl,h⟩:=vR.o h;obtain ⟨x2,rfl,h⟩:=vS.o h;obtain ⟨x3,rfl,h⟩:=vS.o h;obtain ⟨x4,rfl,h⟩:=vB.o h;exact k x1 x2 x3 x4 h
def GZ (f:Addr→Str→Str→Int→Hp→VK→XK→Prop):Sp:=a4 fun q1 q2 q3 q4 H Q E=>vR q1 fun x1=>vS q2 fun x2=>vS q3 fun x3=>vI q4 fun x4=>f x1 x2 x3 x4 H Q E
@[elab_as_elim] theorem ET {f:Addr→Str→Str→Int→Hp→VK→XK→Prop} {vs:List V} {H:Hp} {Q:VK} {E:XK} {G:List V→Prop} (h:GZ f vs H Q E) (k:∀ x1 x2 x3 x4,f x1 x2 x3 x4 H Q E→G [.ref x1,.str x2,.str x3,.int x4]):G vs:=by
 obtain ⟨_,_,_,_,rfl,h⟩:=a4.o h;obtain ⟨x1,rfl,h⟩:=vR.o h;obtain ⟨x2,rfl,h⟩:=vS.o h;obtain ⟨x3,rfl,h⟩:=vS.o h;obtain ⟨x4,rfl,h⟩:=vI.o h;exact k x1 x2 x3 x4 h
def wM (f:Addr→Str→Str→Str→Addr→Hp→VK→XK→Prop):Sp:=a5 fun q1 q2 q3 q4 q5 H Q E=>vR q1 fun x1=>vS q2 fun x2=>vS q3 fun x3=>vS q4 fun x4=>vR q5 fun x5=>f x1 x2 x3 x4 x5 H Q E
@[elab_as_elim] theorem ud {f:Addr→Str→Str→Str→Addr→Hp→VK→XK→Prop} {vs:List V} {H:Hp} {Q:VK} {E:XK} {G:List V→Prop} (h:wM f vs H Q E) (k:∀ x1 x2 x3 x4 x5,f x1 x2 x3 x4 x5 H Q E→G [.ref x1,.str x2,.str x3,.str x4,.ref x5]):G vs:=by
 obtain ⟨_,_,_,_,_,rfl,h⟩:=a5.o h;obtain ⟨x1,rfl,h⟩:=vR.o h;obtain ⟨x2,rfl,h⟩:=vS.o h;obtain ⟨x3,rfl,h⟩:=vS.o h;obtain ⟨x4,rfl,h⟩:=vS.o h;obtain ⟨x5,rfl,h⟩:=vR.o h;exact k x1 x2 x3 x4 x5 h
def zk (f:Addr→Str→Str→Str→Str→Hp→VK→XK→Prop):Sp:=a5 fun q1 q2 q3 q4 q5 H Q E=>vR q1 fun x1=>vS q2 fun x2=>vS q3 fun x3=>vS q4 fun x4=>vS q5 fun x5=>f x1 x2 x3 x4 x5 H Q E
@[elab_as_elim] theorem u0 {f:Addr→Str→Str→Str→Str→Hp→VK→XK→Prop} {vs:List V} {H:Hp} {Q:VK} {E:XK} {G:List V→Prop} (h:zk f vs H Q E) (k:∀ x1 x2 x3 x4 x5,f x1 x2 x3 x4 x5 H Q E→G [.ref x1,.str x2,.str x3,.str x4,.str x5]):G vs:=by
 obtain ⟨_,_,_,_,_,rfl,h⟩:=a5.o h;obtain ⟨x1,rfl,h⟩:=vR.o h;obtain ⟨x2,rfl,h⟩:=vS.o h;obtain ⟨x3,rfl,h⟩:=vS.o h;obtain ⟨x4,rfl,h⟩:=vS.o h;obtain ⟨x5,rfl,h⟩:=vS.o h;exact k x1 x2 x3 x4 x5 h
def D2 (f:Addr→Str→Str→Str→Str→Str→Hp→VK→XK→Prop):Sp:=a6 fun q1 q2 q3 q4 q5 q6 H Q E=>vR q1 fun x1=>vS q2 fun x2=>vS q3 fun x3=>vS q4 fun x4=>vS q5 fun x5=>vS q6 fun x6=>f x1 x2 x3 x4 x5 x6 H Q E
@[elab_as_elim] theorem Gj {f:Addr→Str→Str→Str→Str→Str→Hp→VK→XK→Prop} {vs:List V} {H:Hp} {Q:VK} {E:XK} {G:List V→Prop} (h:D2 f vs H Q E) (k:∀ x1 x2 x3 x4 x5 x6,f x1 x2 x3 x4 x5 x6 H Q E→G [.ref x1,.str x2,.str x3,.str x4,.str x5,.str x6]):G vs:=by
 obtain ⟨_,_,_,_,_,_,rfl,h⟩:=a6.o h;obtain ⟨x1,rfl,h⟩:=vR.o h;obtain ⟨x2,rfl,h⟩:=vS.o h;obtain ⟨x3,rfl,h⟩:=vS.o h;obtain ⟨x4,rfl,h⟩:=vS.o h;obtain ⟨x5,rfl,h⟩:=vS.o h;obtain ⟨x6,rfl,h⟩:=vS.o h;exact k x1 x2 x3 x4 x5 x6 h
def zR (f:Addr→V→Hp→VK→XK→Prop):Sp:=a2 fun q1 x2 H Q E=>vR q1 fun x1=>f x1 x2 H Q E
@[elab_as_elim] theorem t8 {f:Addr→V→Hp→VK→XK→Prop} {vs:List V} {H:Hp} {Q:VK} {E:XK} {G:List V→Prop} (h:zR f vs H Q E) (k:∀ x1 x2,f x1 x2 H Q E→G [.ref x1,x2]):G vs:=by
 obtain ⟨_,x2,rfl,h⟩:=a2.o h;obtain ⟨x1,rfl,h⟩:=vR.o h;exact k x1 x2 h
def HC (f:Addr→V→V→Hp→VK→XK→Prop):Sp:=a3 fun q1 x2 x3 H Q E=>vR q1 fun x1=>f x1 x2 x3 H Q E
@[elab_as_elim] theorem oJ {f:Addr→V→V→Hp→VK→XK→Prop} {vs:List V} {H:Hp} {Q:VK} {E:XK} {G:List V→Prop} (h:HC f vs H Q E) (k:∀ x1 x2 x3,f x1 x2 x3 H Q E→G [.ref x1,x2,x3]):G vs:=by
 obtain ⟨_,x2,x3,rfl,h⟩:=a3.o h;obtain ⟨x1,rfl,h⟩:=vR.o h;exact k x1 x2 x3 h
def Aq (f:Addr→V→V→V→Hp→VK→XK→Prop):Sp:=a4 fun q1 x2 x3 x4 H Q E=>vR q1 fun x1=>f x1 x2 x3 x4 H Q E
@[elab_as_elim] theorem uK {f:Addr→V→V→V→Hp→VK→XK→Prop} {vs:List V} {H:Hp} {Q:VK} {E:XK} {G:List V→Prop} (h:Aq f vs H Q E) (k:∀ x1 x2 x3 x4,f x1 x2 x3 x4 H Q E→G [.ref x1,x2,x3,x4]):G vs:=by
 obtain ⟨_,x2,x3,x4,rfl,h⟩:=a4.o h;obtain ⟨x1,rfl,h⟩:=vR.o h;exact k x1 x2 x3 x4 h
def C4 (f:Addr→V→V→V→V→Hp→VK→XK→Prop):Sp:=a5 fun q1 x2 x3 x4 x5 H Q E=>vR q1 fun x1=>f x1 x2 x3 x4 x5 H Q E
@[elab_as_elim] theorem Gg {f:Addr→V→V→V→V→Hp→VK→XK→Prop} {vs:List V} {H:Hp} {Q:VK} {E:XK} {G:List V→Prop} (h:C4 f vs H Q E) (k:∀ x1 x2 x3 x4 x5,f x1 x2 x3 x4 x5 H Q E→G [.ref x1,x2,x3,x4,x5]):G vs:=by
 obtain ⟨_,x2,x3,x4,x5,rfl,h⟩:=a5.o h;obtain ⟨x1,rfl,h⟩:=vR.o h;exact k x1 x2 x3 x4 x5 h
def C2 (f:Addr→V→V→V→V→V→Hp→VK→XK→Prop):Sp:=a6 fun q1 x2 x3 x4 x5 x6 H Q E=>vR q1 fun x1=>f x1 x2 x3 x4 x5 x6 H Q E
@[elab_as_elim] theorem Gi {f:Addr→V→V→V→V→V→Hp→VK→XK→Prop} {vs:List V} {H:Hp} {Q:VK} {E:XK} {G:List V→Prop} (h:C2 f vs H Q E) (k:∀ x1 x2 x3 x4 x5 x6,f x1 x2 x3 x4 x5 x6 H Q E→G [.ref x1,x2,x3,x4,x5,x6]):G vs:=by
 obtain ⟨_,x2,x3,x4,x5,x6,rfl,h⟩:=a6.o h;obtain ⟨x1,rfl,h⟩:=vR.o h;exact k x1 x2 x3 x4 x5 x6 h
def Ez (f:Addr→V→V→V→V→V→V→Hp→VK→XK→Prop):Sp:=a7 fun q1 x2 x3 x4 x5 x6 x7 H Q E=>vR q1 fun x1=>f x1 x2 x3 x4 x5 x6 x7 H Q E
@[elab_as_elim] theorem HG {f:Addr→V→V→V→V→V→V→Hp→VK→XK→Prop} {vs:List V} {H:Hp} {Q:VK} {E:XK} {G:List V→Prop} (h:Ez f vs H Q E) (k:∀ x1 x2 x3 x4 x5 x6 x7,f x1 x2 x3 x4 x5 x6 x7 H Q E→G [.ref x1,x2,x3,x4,x5,x6,x7]):G vs:=by
 obtain ⟨_,x2,x3,x4,x5,x6,x7,rfl,h⟩:=a7.o h;obtain ⟨x1,rfl,h⟩:=vR.o h;exact k x1 x2 x3 x4 x5 x6 x7 h
def jo (f:Str→Hp→VK→XK→Prop):Sp:=a1 fun q1 H Q E=>vS q1 fun x1=>f x1 H Q E
@[elab_as_elim] theorem eM {f:Str→Hp→VK→XK→Prop} {vs:List V} {H:Hp} {Q:VK} {E:XK} {G:List V→Prop} (h:jo f vs H Q E) (k:∀ x1,f x1 H Q E→G [.str x1]):G vs:=by
 obtain ⟨_,rfl,h⟩:=a1.o h;obtain ⟨x1,rfl,h⟩:=vS.o h;exact k x1 h
def pP (f:V→Hp→VK→XK→Prop):Sp:=a1 fun x1 H Q E=>f x1 H Q E
@[elab_as_elim] theorem kq {f:V→Hp→VK→XK→Prop} {vs:List V} {H:Hp} {Q:VK} {E:XK} {G:List V→Prop} (h:pP f vs H Q E) (k:∀ x1,f x1 H Q E→G [x1]):G vs:=by
 obtain ⟨x1,rfl,h⟩:=a1.o h;exact k x1 h
def LV (K:PySem.W.Frag):Sp:=pP fun x H Q _=>(∃ T,clsName H x=some T)∧DO x∧∀ H',ai H H'→Q (.bl (dX x)) H'
theorem Dt {nm:List Nat} (h:isNm nm=true):1≤nm.length∧nm.length≤8∧nm.all (nF.contains ·)=true:=by
 unfold isNm at h;simp only [Bool.and_eq_true,decide_eq_true_eq] at h;exact ⟨h.1.1,h.1.2,h.2⟩
theorem Q8:Str.ofString "abcdefghijklmnopqrstuvwxyz" = Tx.S nF:=by decide +kernel
def bZ (l:List Nat):Bool:=decide (l=[46]) || decide (l=[46,46]) || isNm l
theorem o9 {l:List Nat} (h:bZ l=true):47 ∉ l∧l≠[]∧l.length≤8:=by
 unfold bZ at h;simp only [Bool.or_eq_true,decide_eq_true_eq] at h;rcases h with (rfl | rfl) | h
 ·exact ⟨by decide,by decide,by decide⟩
 ·exact ⟨by decide,by decide,by decide⟩
 ·obtain ⟨h1,h2,h3⟩:=Dt h;refine ⟨fun m=>?_,fun e=>by rw [e] at h1; simp at h1,h2⟩;have:=List.all_eq_true.mp h3 47 m;exact absurd this (by decide +kernel)
abbrev PV (ps:List (List Nat)):List V:=(ps.map Tx.S).map V.str
def told (ps:List (List Nat)) (t:List Nat):List (List Nat):=if ps≠[]∧t.getLast?=some 47 then ps++[[46]] else ps
def dO (t:List Nat):Bool:=decide (t.head?=some 47)
theorem uF {ps:List (List Nat)} {t:List Nat} (h:ps.all bZ=true):(told ps t).all bZ=true:=by
 unfold told;split
 ·rw [List.all_append,h]; rfl
 ·exact h
theorem Gf {ps:List (List Nat)} {t:List Nat}:(told ps t).length≤ps.length+1:=by
 unfold told;split
 ·rw [List.length_append]; exact Nat.le_refl _
 ·omega
def Pt (K:PySem.W.Frag):Sp:=jo fun z H Q _=>∃ w:List Nat,z=Tx.S w∧w.length≤1000∧∀ H',ai H H'→Q (.bl (bZ w)) H'
def K9 (K:PySem.W.Frag):Sp:=jo fun z H Q _=>∃ t:List Nat,z=Tx.S t∧1≤t.length∧t.length≤2000∧(Tx.words 47 t).all bZ=true ∧
   ∀ (H':Hp) (l p:Addr),ai H H'→H l=none→H' l=some (.lst (PV (told (Tx.words 47 t) t)))→H' p=some (.tup [.bl (dO t),.ref l])→Q (.ref p) H'
structure Wv (ps:List (List Nat)) (t:List Nat):Prop where
 words:Tx.words 47 t=ps
 one:1≤t.length
 most:t.length≤150
def qb (n kd ow mi re tx nm pl:V):List (Str×V):=[("number",n),("kind",kd),("owner",ow),("mine",mi),("rest",re),("text",tx),("names",nm),("places",pl)]
def rJ (ml:Addr) (c:Int):List (Str×V):=[("made",.ref ml),("changes",.int c)]
structure Th where
 kd:Str
 ow:Str
 mi:Str
 re:Str
 tx:Str
 aZ:List (Str×Nat)
 bU:List (Nat×Str)
structure Hs where
 ts:List Th
 ro:List (Str×Nat)
 st:List (Str×Nat)
 tr:List (Str×Nat)
 ov:List (Nat×Nat)
 un:List (Nat×Nat)
structure Ta where
 th:Addr
 cN:Addr
 nm:Addr
 pl:Addr
structure Ad where
 a:Addr
 dx:Addr
 t:Addr
 dt:Addr
 ml:Addr
 ro:Addr
 st:Addr
 tr:Addr
 ov:Addr
 un:Addr
 ho:Addr
def oI (c:Int) (A:Ad):List (Str×V):=[("things",.ref A.t),("changes",.int c),("roots",.ref A.ro),("standings",.ref A.st),("tree_roots",.ref A.tr),("root_over",.ref A.ov),("folder_under",.ref A.un),("holds",.ref A.ho),("holds_given",.int 0),("first_root",.int 0)]
theorem Vy {f:Str} {c c':Int} {A:Ad} (h:f ≠ "changes"):(oI c A).lookup f=(oI c' A).lookup f:=by
 unfold oI;simp only [List.lookup];have:(f == ("changes" : Str))=false:=beq_eq_false_iff_ne.mpr h;rw [this]
def sD (l:List (Str×Nat)):List (Key×V):=l.map fun e=>(.inr e.1,.int e.2)
def nD (l:List (Nat×Nat)):List (Key×V):=l.map fun e=>(.inl (e.1:Int),.int e.2)
def pD (l:List (Nat×Str)):List (List Key×V):=l.map fun e=>([.inl (e.1:Int),.inr e.2],.bl true)
structure ly (CT:Addr) (H:Hp) (a:Ta) (i:Nat) (t:Th):Prop where
 o:∃ fs,H a.th=some (.ins CT a.cN fs)∧fs.length≤40∧cB fs (qb (.int i) (.str t.kd) (.str t.ow) (.str t.mi) (.str t.re) (.str t.tx) (.ref a.nm) (.ref a.pl))
 nm:H a.nm=some (.dK (sD t.aZ))
 pl:H a.pl=some (.dT (pD t.bU))
def Ad.w (A:Ad):List Addr:=[A.a,A.t,A.ml,A.ro,A.st,A.tr,A.ov,A.un]
def Ta.l (a:Ta):List Addr:=[a.th,a.nm,a.pl]
structure aI (CH CS CT:Addr) (H:Hp) (A:Ad) (L:List Ta) (M:Hs):Prop where
 h:∃ fs c,H A.a=some (.ins CH A.dx fs)∧fs.length≤40∧cB fs (oI c A)
 t:∃ fs c,H A.t=some (.ins CS A.dt fs)∧fs.length≤40∧cB fs (rJ A.ml c)
 ml:H A.ml=some (.lst (L.map fun a=>.ref a.th))
 len:L.length=M.ts.length
 th:∀ i t,M.ts[i]?=some t→∃ a,L[i]?=some a∧ly CT H a i t
 ro:H A.ro=some (.dK (sD M.ro))
 st:H A.st=some (.dK (sD M.st))
 tr:H A.tr=some (.dK (sD M.tr))
 ov:H A.ov=some (.dK (nD M.ov))
 un:H A.un=some (.dK (nD M.un))
 nd:(A.w++L.flatMap Ta.l).Nodup
def Kp (W:List Addr) (H H':Hp):Prop:=∀ b o,b ∉ W→H b=some o→H' b=some o
theorem Kp.trans {W:List Addr} {H H1 H2:Hp} (a:Kp W H H1) (b:Kp W H1 H2):Kp W H H2:=fun c o h e=>b c o h (a c o h e)
theorem Kp.of {W:List Addr} {H H':Hp} (s:ai H H'):Kp W H H':=fun b o _ e=>s b o e
theorem Kp.more {V W:List Addr} {H H':Hp} (k:Kp V H H') (h:∀ b∈V,b∈W):Kp W H H':=fun b o hb e=>k b o (fun z=>hb (h b z)) e
theorem bN {H:Hp} {a b:Addr} {o u:HO} (h1:H a=some o) (h2:H b=some u) (h:o≠u):a≠b:=fun e=>h (by rw [e,h2] at h1; cases h1; rfl)
theorem aF {H:Hp} {a b:Addr} {o:HO} (h1:H a=some o) (h2:H b=none):a≠b:=fun e=>by rw [e,h2] at h1; cases h1
theorem jC {H:Hp} {x d:Addr} {o O oo:HO} (hn:H d=none) (hx:H x=some oo):upd (upd H d o) x O x=some O∧upd (upd H d o) x O d=some o∧(∀ b u,b≠x→H b=some u→upd (upd H d o) x O b=some u)∧d≠x:=by
 have n:=aF hx hn;refine ⟨ay,by rw [ah (Ne.symm n),ay],fun b u hb e=>?_,Ne.symm n⟩;rw [ah hb,ah (aF e hn)]; exact e
section
variable {CH CS CT:Addr} {H H':Hp} {A:Ad} {L:List Ta} {M:Hs}
theorem ly.keep {W:List Addr} {a:Ta} {i:Nat} {t:Th} (h:ly CT H a i t) (k:Kp W H H') (hw:∀ b∈a.l,b ∉ W):ly CT H' a i t where
 o:=let ⟨fs,e,r⟩:=h.o; ⟨fs,k _ _ (hw _ (by simp [Ta.l])) e,r⟩
 nm:=k _ _ (hw _ (by simp [Ta.l])) h.nm
 pl:=k _ _ (hw _ (by simp [Ta.l])) h.pl
theorem gE {i:Nat} {a:Ta} (h:L[i]?=some a) {b:Addr} (hb:b∈a.l):b∈L.flatMap Ta.l:=List.mem_flatMap.mpr ⟨a,List.mem_of_getElem? h,hb⟩
theorem aI.keep {W:List Addr} (i:aI CH CS CT H A L M) (k:Kp W H H') (hw:∀ b∈A.w++L.flatMap Ta.l,b ∉ W):aI CH CS CT H' A L M where
 h:=let ⟨fs,c,e,r⟩:=i.h; ⟨fs,c,k _ _ (hw _ (by simp [Ad.w])) e,r⟩
 t:=let ⟨fs,c,e,r⟩:=i.t; ⟨fs,c,k _ _ (hw _ (by simp [Ad.w])) e,r⟩
 ml:=k _ _ (hw _ (by simp [Ad.w])) i.ml
 len:=i.len
 th:=fun j t e=>let ⟨a,e1,h⟩:=i.th j t e; ⟨a,e1,h.keep k fun b hb=>hw b (List.mem_append_right _ (gE e1 hb))⟩
 ro:=k _ _ (hw _ (by simp [Ad.w])) i.ro
 st:=k _ _ (hw _ (by simp [Ad.w])) i.st
 tr:=k _ _ (hw _ (by simp [Ad.w])) i.tr
 ov:=k _ _ (hw _ (by simp [Ad.w])) i.ov
 un:=k _ _ (hw _ (by simp [Ad.w])) i.un
 nd:=i.nd
theorem aI.same (i:aI CH CS CT H A L M) (s:ai H H'):aI CH CS CT H' A L M:=i.keep (W:=[]) (.of s) fun _ _=>by simp
theorem tU:∀ {L:List Ta} {i j:Nat} {a a':Ta} {b:Addr},(L.flatMap Ta.l).Nodup→L[i]?=some a→L[j]?=some a'→b∈a.l→b∈a'.l→i=j
 | [],_,_,_,_,_,_,h,_,_,_=>by simp at h
 | c::r,0,0,_,_,_,_,_,_,_,_=>rfl
 | c::r,0,j+1,a,a',b,nd,h1,h2,m1,m2=>by
  rw [List.flatMap_cons,List.nodup_append] at nd;simp only [List.getElem?_cons_zero,Option.some.injEq] at h1;simp only [List.getElem?_cons_succ] at h2;subst h1;exact absurd rfl (nd.2.2 b m1 b (gE h2 m2))
 | c::r,i+1,0,a,a',b,nd,h1,h2,m1,m2=>by
  rw [List.flatMap_cons,List.nodup_append] at nd;simp only [List.getElem?_cons_zero,Option.some.injEq] at h2;simp only [List.getElem?_cons_succ] at h1;subst h2;exact absurd rfl (nd.2.2 b m2 b (gE h1 m1))
 | c::r,i+1,j+1,a,a',b,nd,h1,h2,m1,m2=>by
  rw [List.flatMap_cons,List.nodup_append] at nd;simp only [List.getElem?_cons_succ] at h1 h2;rw [tU nd.2.1 h1 h2 m1 m2]
theorem aI.write {k:Nat} {a:Ta} {t':Th} (i:aI CH CS CT H A L M) (hk:L[k]?=some a) (hh:∃ fs c,H' A.a=some (.ins CH A.dx fs)∧fs.length≤40∧cB fs (oI c A)) (ht:∃ fs c,H' A.t=some (.ins CS A.dt fs)∧fs.length≤40∧cB fs (rJ A.ml c))
  (aN:ly CT H' a k t') (kp:Kp [A.a,A.t,a.th,a.nm,a.pl] H H'):aI CH CS CT H' A L { M with ts:=M.ts.set k t' }:=by
 have nd:=i.nd;rw [List.nodup_append] at nd;obtain ⟨n1,n2,n3⟩:=nd;have ma:∀ b∈a.l,b∈L.flatMap Ta.l:=fun b hb=>gE hk hb;have pA:∀ b∈[A.ml,A.ro,A.st,A.tr,A.ov,A.un],b ∉ [A.a,A.t,a.th,a.nm,a.pl]:=by
  intro b hb hm;have hw:b∈A.w:=by
   simp only [Ad.w,List.mem_cons,List.not_mem_nil,or_false] at hb ⊢;rcases hb with h | h | h | h | h | h <;> simp [h]
  simp only [List.mem_cons,List.not_mem_nil,or_false] at hm;rcases hm with rfl | rfl | rfl | rfl | rfl
  ·have:=(List.nodup_cons.mp n1).1;simp only [List.mem_cons,List.not_mem_nil,or_false,not_or] at hb this;rcases hb with h | h | h | h | h | h <;> simp [h] at this
  ·have:=(List.nodup_cons.mp (List.nodup_cons.mp n1).2).1;simp only [List.mem_cons,List.not_mem_nil,or_false,not_or] at hb this;rcases hb with h | h | h | h | h | h <;> simp [h] at this
  ·exact n3 _ hw _ (ma _ (by simp [Ta.l])) rfl
  ·exact n3 _ hw _ (ma _ (by simp [Ta.l])) rfl
  ·exact n3 _ hw _ (ma _ (by simp [Ta.l])) rfl
 refine ⟨hh,ht,kp _ _ (pA _ (by simp)) i.ml,by rw [i.len]; simp,fun j t e=>?_,kp _ _ (pA _ (by simp)) i.ro,kp _ _ (pA _ (by simp)) i.st,kp _ _ (pA _ (by simp)) i.tr,kp _ _ (pA _ (by simp)) i.ov,kp _ _ (pA _ (by simp)) i.un,i.nd⟩;by_cases hj:j=k
 ·subst hj;have bV:j < M.ts.length:=by rw [← i.len]; exact (List.getElem?_eq_some_iff.mp hk).1
  have e':(M.ts.set j t')[j]?=some t:=e;rw [List.getElem?_set_self bV] at e';cases e';exact ⟨a,hk,aN⟩
 ·have e':(M.ts.set k t')[j]?=some t:=e;rw [List.getElem?_set_ne (Ne.symm hj)] at e';obtain ⟨a',e1,h1⟩:=i.th j t e';refine ⟨a',e1,h1.keep kp fun b hb hm=>?_⟩;have iQ:=gE e1 hb;simp only [List.mem_cons,List.not_mem_nil,or_false] at hm;rcases hm with rfl | rfl | rfl | rfl | rfl
  ·exact n3 _ (by simp [Ad.w]) _ iQ rfl
  ·exact n3 _ (by simp [Ad.w]) _ iQ rfl
  ·exact hj (tU n2 e1 hk hb (by simp [Ta.l]))
  ·exact hj (tU n2 e1 hk hb (by simp [Ta.l]))
  ·exact hj (tU n2 e1 hk hb (by simp [Ta.l]))
end
def FQ:V→Bool
 | .int _=>true
 | _=>false
def KG:Sp:=pP fun v H Q _=>(∃ T,clsName H v=some T)∧Q (.bl (FQ v)) H
def Qz:Sp:=pP fun x H Q _=>(∃ T,clsName H x=some T)∧DO x∧dX x=true∧∀ H',ai H H'→Q .ax H'
def Ky (C:Addr):Sp:=Ez fun x n kd ow mi re tx H Q _=>∃ dx,H x=some (.ins C dx [])∧∀ l1 l2 H',H l1=none→H l2=none→l1≠l2→l1≠x→l2≠x→(∀ b,b≠x→b≠l1→b≠l2→H' b=H b)→H' l1=some (.dK [])→H' l2=some (.dT []) →
   (∀ fs,fs.length≤40→cB fs (qb n kd ow mi re tx (.ref l1) (.ref l2))→H' x=some (.ins C dx fs)→Q .ax H')
def L9 (C:Addr):Sp:=ik fun x H Q _=>∃ dx,H x=some (.ins C dx [])∧∀ l H',H l=none→l≠x→(∀ b,b≠x→b≠l→H' b=H b)→H' l=some (.lst [])→(∀ fs,fs.length≤40→cB fs (rJ l 0)→H' x=some (.ins C dx fs)→Q .ax H')
structure kL (CS:Addr) (H:Hp) (x dt ml:Addr) (rs:List V):Prop where
 o:∃ fs c,H x=some (.ins CS dt fs)∧fs.length≤40∧cB fs (rJ ml c)
 ml:H ml=some (.lst rs)
def uj (CS CT:Addr) (x dt ml:Addr) (rs:List V) (kd ow mi re tx:V) (H:Hp) (Q:VK):Prop :=
 ∀ th cN nm pl ks H',H th=none→H nm=none→H pl=none→kL CS H' x dt ml (rs++[.ref th])→H' th=some (.ins CT cN ks)→ks.length≤40→cB ks (qb (.int rs.length) kd ow mi re tx (.ref nm) (.ref pl)) →
  H' nm=some (.dK [])→H' pl=some (.dT [])→Kp [x,ml] H H'→Q (.int rs.length) H'
def My (CS CT:Addr):Sp:=C2 fun x kd ow mi re tx H Q _=>∃ dt ml rs,kL CS H x dt ml rs∧rs.length≤500∧uj CS CT x dt ml rs kd ow mi re tx H Q
def SJ (CS CT:Addr):Sp:=Aq fun x ow mi re H Q _=>∃ dt ml rs,kL CS H x dt ml rs∧rs.length≤500∧uj CS CT x dt ml rs (.str "folder") ow mi re (.str "") H Q
def Nl (CS CT:Addr):Sp:=C4 fun x ow tx mi re H Q _=>∃ dt ml rs,kL CS H x dt ml rs∧rs.length≤500∧uj CS CT x dt ml rs (.str "file") ow mi re tx H Q
def Hh (CH CS CT CN:Addr):Sp:=zR fun x v H Q E=>∃ A L M,aI CH CS CT H A L M∧A.t=x∧(∃ T,clsName H v=some T)∧(∀ (k:Nat) a t,v=.int k→L[k]?=some a→M.ts[k]?=some t→Q (.ref a.th) H)∧((∀ k:Nat,v=.int k→¬ k < M.ts.length)→E (.ref CN) none H)
abbrev j5:=Ad→List Ta→Hs→Nat→Ta→Th→Hp→VK→Prop
def oB (CH CS CT:Addr) (sel:Ad→Addr) (f:j5):Sp:=jd fun x n H Q _=>∃ A L M,∃ k:Nat,∃ a t,aI CH CS CT H A L M∧sel A=x∧n=(k:Int)∧L[k]?=some a∧M.ts[k]?=some t∧f A L M k a t H Q
def RX (CH CS CT:Addr) (sel:Ad→Addr):Sp:=tG fun x n z H Q _=>∃ A L M,∃ k:Nat,∃ a t,aI CH CS CT H A L M∧sel A=x∧n=(k:Int)∧L[k]?=some a∧M.ts[k]?=some t∧Q ((aJ (sD t.aZ) (.inr z)).getD .ax) H
def NV (CH CS CT:Addr):Sp:=tG fun x n z H Q _=>∃ A L M,∃ k:Nat,∃ a t,aI CH CS CT H A L M∧A.a=x∧n=(k:Int)∧L[k]?=some a∧M.ts[k]?=some t∧dX (.str z)=true∧z.length≤1000∧∀ H',ai H H'→Q ((aJ (sD t.aZ) (.inr z)).getD .ax) H'
abbrev Wy:j5:=fun _ _ _ _ _ t H Q=>t.aZ.length < 64∧∀ l,H l=none→Q (.ref l) (upd H l (.lst ((fZ (t.aZ.map (·.1))).map V.str)))
abbrev CI:j5:=fun _ _ _ _ _ t H Q=>(t.bU=[]∧Q .ax H)∨∃ f z,t.bU=[(f,z)]∧∀ p,H p=some (.tup [.int (f:Nat),.str z])→Q (.ref p) H
abbrev nH:j5:=fun _ _ _ _ _ t H Q=>Q (.str t.kd) H
abbrev Qj:j5:=fun _ _ _ _ _ t H Q=>Q (.str t.ow) H
abbrev WC:j5:=fun _ _ _ _ _ t H Q=>Q (.str t.tx) H
abbrev WD:j5:=fun _ _ _ _ _ t H Q=>∀ l,H l=none→Q (.ref l) (upd H l (.tup [.str t.mi,.str t.re]))
abbrev L8:j5:=fun _ _ _ _ _ _ H Q=>Q .ax H
def Hf (CH CS CT CA:Addr):Sp:=zR fun x v H Q E=>∃ A L M,aI CH CS CT H A L M∧A.a=x∧(∃ T,clsName H v=some T)∧(∀ z,v=.str z→(aJ (sD M.ro) (.inr z)).isSome=true→Q .ax H)∧((∀ z,v=.str z→aJ (sD M.ro) (.inr z)=none)→E (.ref CA) none H)
def PR (CH CS CT:Addr):Sp:=f6 fun x z H Q _=>∃ A L M,∃ r:Nat,aI CH CS CT H A L M∧A.a=x∧aJ (sD M.ro) (.inr z)=some (.int r)∧Q (.int r) H
def cK (t:Th) (asker:Str):Str:=if asker=t.ow then t.mi else t.re
def Sq (CT:Addr):Sp:=f6 fun x z H Q _=>∃ a i t,ly CT H a i t∧a.th=x∧Q (.str (cK t z)) H
def iB (v:V):Bool:=decide (v=.str "l") || decide (v=.str "g") || decide (v=.str "w")
def T9 (CR:Addr):Sp:=pP fun v H Q E=>(∃ T,clsName H v=some T)∧(iB v=true→Q .ax H)∧(iB v=false→E (.ref CR) none H)
def cZ (s:Str) (z:Str):Bool:=!(Builtin.Str.occurrences z s 0 z.length 1).isEmpty
def CU (CH CS CT CA CR CN:Addr):Sp:=Aq fun x w v r H Q E=>∃ A L M,aI CH CS CT H A L M∧A.a=x∧(∃ T,clsName H w=some T)∧(∃ T,clsName H v=some T)∧(∃ T,clsName H r=some T) ∧
   ((∀ z,w=.str z→aJ (sD M.ro) (.inr z)=none)→E (.ref CA) none H) ∧
   ∀ z,w=.str z→(aJ (sD M.ro) (.inr z)).isSome=true→(iB r=false→E (.ref CR) none H) ∧
    ∀ s,r=.str s→iB r=true→((∀ k:Nat,v=.int k→¬ k < M.ts.length)→E (.ref CN) none H)∧∀ (k:Nat) t,v=.int k→M.ts[k]?=some t→Q (.bl (cZ s (cK t z))) H
local macro_rules | `(tactic| walk_at "rd")=>`(tactic| dsimp only [xG,wJ,vX,xH,kK,eX,Ag,lV,tC,gN,zP,tQ,l8,gO,gg,ua,qW,yZ,yU,x9,wX,rB,ie,pe,xr,uQ,tO,kh,zm,zp,yO,zV,uc,zY,uL,yj,VB,Md,Vn,Lp,me,uh,zH,Av,yw,zx,zg,zt,xB,rJoin,xn,zC,qy,yW,wa,yS,Am,Ht,xu,y4,zG,wm,yJ,xU,Al,rq,qP,zL,yR,As,Ap,yA,An,xQ,vY,yD,xN,zo,yi,yH,RC,uX,fW,zZ,UP,zF,xP,xJ,xA,xi,yP,yg,ye,v9,wN,t9,yB,yG,Pa,Fj,xK,uR,LD,List.getElem?_cons_zero,List.getElem?_cons_succ,List.set_cons_zero,List.set_cons_succ,List.cons_append,List.nil_append])
local macro_rules | `(tactic| walk_at "w")=>`(tactic| (first | walk_at "rd" | skip))
section
variable {P:Program} {w:World} {K:PySem.W.Frag} {mg:Str→Option Value} {base:Heap}
theorem yL (T:Tx K mg):aA P w K mg base aO 1 T.gk.f T.gk.d ["text"] (LV K):=by
 refine T.gk.F.ok Tb (fun vs H Q E h=>?_) (fun az A outer s H vs Q E hr h=>?_)
 ·exact kq h fun _ _=>rfl
 ·refine kq h fun x h=>?_;obtain ⟨⟨ty,h1⟩,jM,q⟩:=h;refine ⟨_,((Dv.cut (Dv.aX (Dv.dE (Dv.w_or (Dv.cC (Dv.cu (Dv.cA i0 T.fC fB (Dv.aa (Dv.v 0) (Dv.aa (Dv.js (.ty "str") T.j8 j0 rfl) Dv.ag))))) (Dv.iL (Dv.cC (Dv.zh oR oR Dv.int (Dv.cA (kI (K:=K) rfl) T.jG PySem.boot_len (Dv.aa (Dv.v 0) Dv.ag)) (Dv.glob (.int 8) T.P1 ⟨_,rfl⟩)))))) (Dv.aj (Dv.aP Dv.bl)) Dv.nil)
  (Dv.aj (Dv.aP (Dv.cA (EV (K:=K) rfl rfl) T.HW EN (Dv.aa (Dv.FJ rfl (x:=("sign" : Str)) (Dv.Vo (Dv.v 0)) (fun _ _ _ _=>by exact Dv.uZ) (fun _ _ _ _=>by exact (Dv.dM 0 (show List.Nodup (["sign"]:List Str) by decide))) (fun _ _ _ _=>by exact (Dv.cmp (m8 (K:=K) rfl) (Dv.v 0) (Dv.glob (.str "abcdefghijklmnopqrstuvwxyz") T.Tq ⟨_,rfl⟩))) (.of rfl (by exact trivial) (by (repeat (first | exact trivial | (refine ⟨fun z=>(by first | exact ⟨_,rfl⟩ | (rcases z with z | z <;> cases z)),?_⟩)))) rfl (by exact trivial))) Dv.ag)))))).h,?_⟩
  refine stI [some x] ?_;refine ao ?_;walk_at "rd";simp only [h1,wA h1];refine ⟨tV _ rfl,?_⟩;cases x with
  | str z =>
   simp only [sW,Bool.not_true,Bool.false_eq_true,if_false];have hsh':z.length≤1000:=jM;have hl:z.cps.toList.length=z.length:=by simp [Str.length]
   refine ⟨fits hsh',?_⟩;by_cases a1:1≤z.length
   ·rw [decide_eq_true (show (1:Int)≤(z.length:Int) by omega)];refine bM ?_;by_cases a2:z.length≤8
    ·rw [decide_eq_true (show (z.length:Int)≤8 by omega)];refine bf ?_;refine Qb (fun c=>.bl (nF.contains c)) (fits hsh') ?_ ?_
     ·intro c _ H1 _ R hR;walk_at "rd";rw [Q8,show (⟨#[c]⟩:Str)=Tx.S [c] from rfl,Tx.Uh];exact hR H1 (ai.refl H1)
     ·intro H1 s1 l rj;refine ⟨_,aL.of ay,z.cps.toList.map (nF.contains ·),by rw [List.map_map]; rfl,?_⟩;have e:((z.cps.toList.map (nF.contains ·)).all id)=dX (.str z):=by
       show _=isNm z.cps.toList;unfold isNm;rw [hl,decide_eq_true a1,decide_eq_true a2,List.all_map];rfl
      rw [e];exact q _ (s1.trans (ai.upd rj))
    ·rw [decide_eq_false (show ¬ (z.length:Int)≤8 by omega)];refine bM ?_;have e:dX (.str z)=false:=by
      show isNm z.cps.toList=false;unfold isNm;rw [hl,decide_eq_false a2,Bool.and_false,Bool.false_and]
     have:=q H (ai.refl H);rw [e] at this;exact this
   ·rw [decide_eq_false (show ¬ (1:Int)≤(z.length:Int) by omega)];refine bf (bM ?_);have e:dX (.str z)=false:=by
     show isNm z.cps.toList=false;unfold isNm;rw [hl,decide_eq_false a1,Bool.false_and,Bool.false_and]
    have:=q H (ai.refl H);rw [e] at this;exact this
  | _=>exact q H (ai.refl H)
theorem bA {X:Cx} {b:List Stmt} {t:TS} {D:Ends} {σ:St} {H:Hp} (h:QB X b t) (q:t D σ H):∃ t,cT X b t∧t D σ H:=⟨t,h.h,q⟩
def VF:V→Bool
 | .int _=>true
 | .bl _=>true
 | _=>false
theorem Vk {H:Hp} {v:V} {ty:String} (h:clsName H v=some ty):rE ty "int" = VF v:=by
 unfold clsName at h;split at h
 ·cases h; rfl
 ·cases h; rfl
 ·cases h; rfl
 ·cases h; rfl
 ·split at h
  ·cases h; rfl
  ·cases h; rfl
  ·cases h; rfl
  ·cases h
 ·cases h
theorem Hm (T:Tx K mg):aA P w K mg base aO 1 T.jg.f T.jg.d ["number"] KG:=by
 refine T.jg.F.ok Ph (fun vs H Q E h=>?_) (fun az A outer s H vs Q E hr h=>?_)
 ·exact kq h fun _ _=>rfl
 ·refine kq h fun v h=>?_;obtain ⟨⟨ty,cf⟩,q⟩:=h;refine ⟨_,((Dv.aj (Dv.aP (Dv.Ae (Dv.cA i0 T.fC fB (Dv.aa (Dv.v 0) (Dv.aa (Dv.js (.ty "int") T.qB qj rfl) Dv.ag))) (Dv.one (Dv.Rj (Dv.cA i0 T.fC fB (Dv.aa (Dv.v 0) (Dv.aa (Dv.js (.ty "bool") T.g_bool Ur rfl) Dv.ag))))))))).h,?_⟩;refine stI [some v] ?_;walk_at "w";simp only [cf];refine ⟨by decide,?_⟩;cases v with
  | int i=>cases cf; exact bM ⟨by decide,q⟩
  | bl b=>cases cf; exact bM ⟨by decide,q⟩
  | _ =>
   rw [Vk cf];exact bf q
theorem zf (T:Tx K mg):aA P w K mg base aO 2 T.gn.f T.gn.d ["text"] Qz:=by
 refine T.gn.F.ok QF (fun vs H Q E h=>?_) (fun az A outer s H vs Q E hr h=>?_)
 ·exact kq h fun _ _=>rfl
 ·refine kq h fun x h=>?_;obtain ⟨hc,jM,hn,q1⟩:=h;refine ⟨_,((Dv.aj (Dv.aX (Dv.cC (Dv.cu (Dv.call (yL T) (hr.mono (by decide)) T.gk.m T.gk.F.kp T.gk.b .nil aw (Dv.aa (Dv.v 0) Dv.ag)))) (Dv.aj Dv.cR) Dv.nil))).h,?_⟩;refine stI [some x] ?_;walk_at "w";refine ⟨hc,jM,fun H' s'=>?_⟩;rw [hn];exact bf (q1 H' s')
def gF:List Str:=["", "l", "g", "w", "lg", "lw", "gw", "lgw"]
def Ux:Sp:=jo fun z H Q _=>z∈gF∧Q (.bl true) H
def QR:Sp:=jo fun z H Q _=>z∈gF∧Q .ax H
theorem Ob {z:Str} {zs:List Str} (h:z∈zs):fU (V.str z) (zs.map V.str)=true:=by
 unfold fU;rw [List.any_map,List.any_eq_true];exact ⟨z,h,show (z == z)=true from beq_self_eq_true z⟩
theorem Sj (T:Tx K mg):aA P w K mg base aO 1 T.oM.f T.oM.d ["text"] Ux:=by
 refine T.oM.F.ok N4 (fun vs H Q E h=>?_) (fun az A outer s H vs Q E hr h=>?_)
 ·exact eM h fun _ _=>rfl
 ·refine eM h fun z h=>?_;obtain ⟨hz,q⟩:=h;refine ⟨_,((Dv.aj (Dv.aP (Dv.Ae (Dv.cA i0 T.fC fB (Dv.aa (Dv.v 0) (Dv.aa (Dv.js (.ty "str") T.j8 j0 rfl) Dv.ag))) (Dv.one (Dv.cmp (Gn (K:=K) rfl) (Dv.v 0) (Dv.glob (.ref T.Bf) T.U3 rfl))))))).h,?_⟩;refine stI [some (V.str z)] ?_;walk_at "w";refine ⟨by decide,bM ⟨_,.inr (T.xq H),rfl,rfl,?_⟩⟩;rw [show [V.str (Str.ofString ""),V.str (Str.ofString "l"),V.str (Str.ofString "g"),V.str (Str.ofString "w"),V.str (Str.ofString "lg"),V.str (Str.ofString "lw"),V.str (Str.ofString "gw"),V.str (Str.ofString "lgw")]=gF.map V.str from rfl,Ob hz];exact q
theorem oS (T:Tx K mg):aA P w K mg base aO 2 T.dm.f T.dm.d ["text"] QR:=by
 refine T.dm.F.ok Kw (fun vs H Q E h=>?_) (fun az A outer s H vs Q E hr h=>?_)
 ·exact eM h fun _ _=>rfl
 ·refine eM h fun z h=>?_;obtain ⟨hz,q⟩:=h;refine ⟨_,((Dv.aj (Dv.aX (Dv.cC (Dv.cu (Dv.call (Sj T) (hr.mono (by decide)) T.oM.m T.oM.F.kp T.oM.b .nil aw (Dv.aa (Dv.v 0) Dv.ag)))) (Dv.aj Dv.cR) Dv.nil))).h,?_⟩;refine stI [some (V.str z)] ?_;walk_at "w";exact ⟨hz,bf q⟩
theorem N0 (v:V):fU v [V.str (Str.ofString "l"),V.str (Str.ofString "g"),V.str (Str.ofString "w")]=iB v:=by
 unfold fU iB;simp only [List.any_cons,List.any_nil,Bool.or_false];have key:∀ z:Str,fg (.str z) v=decide (v=.str z):=fun z=>by
  cases v with
  | str y =>
   show (z == y)=decide (V.str y=V.str z);by_cases e:z=y
   ·subst e; simp
   ·rw [decide_eq_false (by intro h; injection h with h; exact e h.symm)];exact beq_eq_false_iff_ne.mpr e
  | _=>rfl
 rw [key,key,key,Bool.or_assoc]
theorem TQ (T:Tx K mg):aA P w K mg base (cm P w) 1 T.oO.f T.oO.d ["text"] (T9 T.sL):=by
 refine T.oO.F.di Qr (fun vs H Q E h=>?_) (fun az A outer s H vs Q E hr h=>?_)
 ·exact kq h fun _ _=>rfl
 ·refine kq h fun v h=>?_;obtain ⟨⟨ty,cf⟩,q1,q2⟩:=h;refine ⟨_,((Dv.aj (Dv.aX (Dv.dE (Dv.w_or (Dv.cC (Dv.cu (Dv.cA i0 T.fC fB (Dv.aa (Dv.v 0) (Dv.aa (Dv.js (.ty "str") T.j8 j0 rfl) Dv.ag))))) (Dv.iL (Dv.aY (tT (K:=K) rfl) (Dv.v 0) (Dv.glob (.ref T.A0) T.UL rfl))))) (Dv.aj (Dv.Ab Au rfl T.V1 T.OV (Dv.aa Dv.str Dv.ag))) Dv.nil))).h,?_⟩;refine stI [some v] ?_;walk_at "w";simp only [cf,wA cf];refine ⟨tV _ rfl,?_⟩;cases v with
  | str z =>
   simp only [sW,Bool.not_true,Bool.false_eq_true,if_false];refine ⟨_,.inr (T.Ar H),rfl,rfl,?_⟩;rw [N0];cases ho:iB (.str z) with
   | true=>exact bf (q1 ho)
   | false=>exact bM ⟨fits (by simp),q2 ho⟩
  | _=>exact ⟨fits (by simp),q2 rfl⟩
theorem UZ (T:Tx K mg):aA P w K mg base aO 2 T.nQ.f T.nQ.d ["text"] (Pt K):=by
 refine T.nQ.F.ok UE (fun vs H Q E h=>?_) (fun az A outer s H vs Q E hr h=>?_)
 ·exact eM h fun _ _=>rfl
 ·refine eM h fun z h=>?_;obtain ⟨w',rfl,hw,q⟩:=h;refine ⟨_,((Dv.aj (Dv.aP (Dv.ML (Dv.cmp (Gn (K:=K) rfl) (Dv.v 0) (Dv.glob (.ref T.Bh) T.R6 rfl)) (Dv.one (Dv.call (yL T) (hr.mono (by decide)) T.gk.m T.gk.F.kp T.gk.b .nil aw (Dv.aa (Dv.v 0) Dv.ag))))))).h,?_⟩;refine stI [some (V.str (Tx.S w'))] ?_;walk_at "rd";refine ⟨_,.inr (T.Aa H),rfl,rfl,?_⟩;have e:fU (V.str (Tx.S w')) [V.str (Str.ofString "."),V.str (Str.ofString "..")]=(decide (w'=[46]) || decide (w'=[46,46])):=by
   rw [show Str.ofString "." = Tx.S [46] from by decide +kernel,show Str.ofString ".." = Tx.S [46,46] from by decide +kernel];unfold fU fg;simp only [List.any_cons,List.any_nil,Bool.or_false];have b:∀ m:List Nat,(Tx.S m == Tx.S w')=decide (w'=m):=fun m=>by
    by_cases h:w'=m
    ·rw [h]; simp
    ·have:Tx.S m≠Tx.S w':=fun e=>h (Tx.qZ e).symm;rw [decide_eq_false h];exact beq_eq_false_iff_ne.mpr this
   rw [b,b]
  rw [e];cases hd:(decide (w'=[46]) || decide (w'=[46,46])) with
  | true =>
   refine bM ?_;have:=q H (ai.refl H);unfold bZ at this;rw [hd] at this;exact this
  | false =>
   refine bf ?_;refine ⟨⟨_,rfl⟩,(by show (Tx.S w').length≤1000; rw [Tx.bY]; exact hw),fun H' s'=>?_⟩;have:=q H' s';unfold bZ at this;rw [hd,Bool.false_or] at this;have e2:dX (V.str (Tx.S w'))=isNm w':=by show isNm _=_; rw [Tx.iP]
   rw [e2];exact this
theorem o8 (T:Tx K mg):aA P w K mg base aO 3 T.df.f T.df.d ["path"] (K9 K):=by
 refine T.df.F.ok DX (fun vs H Q E h=>?_) (fun az A outer s H vs Q E hr h=>?_)
 ·exact eM h fun _ _=>rfl
 ·refine eM h fun z h=>?_;obtain ⟨t,rfl,t1,t2,jN,q⟩:=h;refine ⟨_,((Dv.cut (Dv.aX (Dv.dE (Dv.w_or (Dv.cC (Dv.cu (Dv.cA i0 T.fC fB (Dv.aa (Dv.v 0) (Dv.aa (Dv.js (.ty "str") T.j8 j0 rfl) Dv.ag))))) (Dv.iL (Dv.cC (Dv.zh oR oR Dv.int (Dv.cA (kI (K:=K) rfl) T.jG PySem.boot_len (Dv.aa (Dv.v 0) Dv.ag)) (Dv.glob (.int 2000) T.KO ⟨_,rfl⟩)))))) (Dv.aj Dv.cR) Dv.nil)
  (Dv.cut (Dv.v8 1 rfl DX.nd (x:=("part" : Str)) (Dv.iH (K:=K) rfl (Dv.lL PySem.F.slot_str_split PySem.F.type_str_split Cs (Dv.v 0) (Dv.aa Dv.str Dv.ag))) (fun _ _ _ _=>by exact (Dv.Hl (Dv.aY ko (Dv.v 0) Dv.str))) (fun _ _ _ _=>by exact (Dv.dM 0 (show List.Nodup (["part"]:List Str) by decide))) (fun _ _ _ _=>by exact (Dv.v 0)) (.of rfl (by exact trivial) (by (repeat (first | exact trivial | (refine ⟨fun z=>(by first | exact ⟨_,rfl⟩ | (rcases z with z | z <;> cases z)),?_⟩)))) rfl (by exact trivial)))
  (Dv.cut (Dv.aX (Dv.cC (Dv.cu (Dv.cA (EV (K:=K) rfl rfl) T.HW EN (Dv.aa (Dv.FJ rfl (x:=("part" : Str)) (Dv.iH (K:=K) rfl (Dv.v 1)) (fun _ _ _ _=>by exact Dv.uZ) (fun _ _ _ _=>by exact (Dv.dM 0 (show List.Nodup (["part"]:List Str) by decide))) (fun _ _ _ _=>by exact (Dv.call (UZ T) (hr.mono (by decide)) T.nQ.m T.nQ.F.kp T.nQ.b .nil aw (Dv.aa (Dv.v 0) Dv.ag))) (.of rfl (by exact trivial) (by (repeat (first | exact trivial | (refine ⟨fun z=>(by first | exact ⟨_,rfl⟩ | (rcases z with z | z <;> cases z)),?_⟩)))) rfl (by exact trivial))) Dv.ag)))) (Dv.aj Dv.cR) Dv.nil)
  (Dv.cut (Dv.aX (Dv.dE (Dv.w_and (Dv.aY (uy hr.fV) (Dv.v 1) (Dv.lst Dv.ag)) (Dv.iD (Dv.cu (Dv.lL PySem.F.slot_str_endswith PySem.F.type_str_endswith NP (Dv.v 0) (Dv.aa Dv.str Dv.ag)))))) (Dv.aj (Dv.aW (Dv.ir PySem.F.slot_list_append PySem.F.type_list_append kM (Dv.v 1) (Dv.aa Dv.str Dv.ag)))) Dv.nil)
  (Dv.aj (Dv.aP (Dv.tup (Dv.aa (Dv.lL PySem.F.slot_str_startswith PySem.F.type_str_startswith Vt (Dv.v 0) (Dv.aa Dv.str Dv.ag)) (Dv.aa (Dv.v 1) Dv.ag)))))))))).h,?_⟩
  refine stI [some (V.str (Tx.S t)),none] ?_;refine ao ?_;walk_at "rd";have pJ:Str.ofString "/" = Tx.S [47]:=by decide +kernel
  have e0:Str.ofString "" = Tx.S []:=by decide +kernel
  simp only [Tx.bY,pJ,e0];refine ⟨tV _ rfl,bf ⟨Nat.le_trans t2 (by decide),?_⟩⟩;rw [decide_eq_true (show (1:Int)≤(t.length:Int) by omega),decide_eq_true (show (t.length:Int)≤2000 by omega)];refine bM (bf (ao ?_));walk_at "rd";have ph:=Tx.uo 47 t;refine ⟨rfl,by rw [Tx.bY]; exact Nat.le_trans t2 (by decide),?_,?_⟩
  ·rw [Tx.zy,Tx.kz,Tx.zD,Tx.qU,List.length_map];exact Nat.le_trans (show _≤2001 by omega) (by decide)
  intro l hl;rw [Tx.GW t 47 (by decide)];have s1:=ai.upd (o:=.lst (((Tx.cut 47 t).map Tx.S).map V.str)) hl;have b1:upd H l (.lst (((Tx.cut 47 t).map Tx.S).map V.str)) l=some (.lst (((Tx.cut 47 t).map Tx.S).map V.str)):=ay;generalize upd H l (.lst (((Tx.cut 47 t).map Tx.S).map V.str))=H1 at s1 b1 ⊢;refine ⟨⟨_,aL.of b1⟩,y3 (fun x=>match x with | .str z=>!decide (z=Tx.S []) | _=>false) id (aL.of b1) (by rw [List.length_map,List.length_map]; exact Nat.le_trans (show _≤2001 by omega) (by decide)) ?_ ?_ ?_⟩
  ·intro x hx H2 _ R hR;obtain ⟨z,_,rfl⟩:=List.mem_map.mp hx;walk_at "rd";exact hR H2 (ai.refl H2)
  ·intro x hx _ H2 _ R hR;walk_at "rd";exact hR H2 (ai.refl H2)
  intro H2 s2 l2 cv;have ew:((((Tx.cut 47 t).map Tx.S).map V.str).filter (fun x=>match x with | .str z=>!decide (z=Tx.S []) | _=>false)).map id=PV (Tx.words 47 t):=by
   rw [List.map_id,List.filter_map];show ((((Tx.cut 47 t).map Tx.S)).filter _).map V.str=_
   congr 1
   rw [← Tx.Fd];refine List.filter_congr fun z _=>?_;show (!decide (z=Tx.S []))=decide (z≠Tx.S []);by_cases h:z=Tx.S [] <;> simp [h]
  rw [ew];have hJ:H l2=none:=(s1.trans s2).free cv;have s3:=ai.upd (o:=.lst (PV (Tx.words 47 t))) cv;have b3:upd H2 l2 (.lst (PV (Tx.words 47 t))) l2=some (.lst (PV (Tx.words 47 t))):=ay;generalize upd H2 l2 (.lst (PV (Tx.words 47 t)))=H3 at s3 b3 ⊢;have iU:ai H H3:=(s1.trans s2).trans s3;have mQ:(Tx.words 47 t).length≤2001:=Nat.le_trans (List.length_filter_le _ _) (by omega);refine ao ?_;walk_at "rd";refine ⟨⟨_,aL.of b3⟩,y3 (fun _=>true) (fun x=>match x with | .str z=>.bl (bZ z.cps.toList) | _=>.bl false) (aL.of b3) (by rw [List.length_map,List.length_map]; exact Nat.le_trans mQ (by decide)) ?_ ?_ ?_⟩
  ·intro x _ H4 _ R hR;exact hR H4 (ai.refl H4)
  ·intro x hx _ H4 _ R hR;obtain ⟨z,hz,rfl⟩:=List.mem_map.mp hx;obtain ⟨w',hw,rfl⟩:=List.mem_map.mp hz;walk_at "rd";obtain ⟨_,_,g3⟩:=o9 (List.all_eq_true.mp jN w' hw);refine ⟨w',rfl,by omega,fun H5 s5=>?_⟩;have:=hR H5 s5;simp only [Tx.iP] at this;exact this
  intro H4 s4 l4 hl4;have eb:((PV (Tx.words 47 t)).filter (fun _=>true)).map (fun x=>match x with | .str z=>V.bl (bZ z.cps.toList) | _=>V.bl false)=((Tx.words 47 t).map bZ).map V.bl:=by
   rw [List.filter_eq_self.mpr (fun _ _=>rfl),List.map_map,List.map_map,List.map_map];refine List.map_congr_left fun w' _=>?_;show V.bl (bZ (Tx.S w').cps.toList)=V.bl (bZ w');rw [Tx.iP]
  rw [eb];refine ⟨_,aL.of ay,_,rfl,?_⟩;have ea:((Tx.words 47 t).map bZ).all id=true:=by rw [List.all_map]; exact jN
  rw [ea];refine bf ?_;have s5:=ai.upd (o:=.lst (((Tx.words 47 t).map bZ).map V.bl)) hl4;generalize upd H4 l4 (.lst (((Tx.words 47 t).map bZ).map V.bl))=H5 at s5 ⊢;have b5:H5 l2=some (.lst (PV (Tx.words 47 t))):=s5 _ _ (s4 _ _ b3);have jL:ai H H5:=(iU.trans s4).trans s5;refine eE (fun σ' H'=>σ'=[some (V.str (Tx.S t)),some (V.ref l2)]∧ai H H'∧H' l2=some (.lst (PV (told (Tx.words 47 t) t)))) ?_ ?_
  ·walk_at "rd";refine ⟨fits (by simp),fun p hp=>?_⟩;have s6:=ai.upd (o:=.lst []) hp;have c6:upd H5 p (.lst []) p=some (.lst ((([]:List Str)).map V.str)):=ay;generalize upd H5 p (.lst [])=H6 at s6 c6 ⊢;have b6:H6 l2=some (.lst (PV (Tx.words 47 t))):=s6 _ _ b5;refine ⟨(Tx.words 47 t).map Tx.S,[],b6,c6,?_⟩;by_cases vh:Tx.words 47 t=[]
   ·rw [decide_eq_true (show (Tx.words 47 t).map Tx.S=[] by rw [vh]; rfl)];refine bf (bf ⟨by trivial,jL.trans s6,?_⟩);unfold told;rw [if_neg (fun z=>z.1 vh)];exact b6
   ·rw [decide_eq_false (show ¬ (Tx.words 47 t).map Tx.S=[] by simpa using vh)];refine bM ?_;rw [Tx.RW];by_cases vo:t.getLast?=some 47
    ·rw [decide_eq_true vo];refine bM ?_;simp only [b6];refine ⟨by rw [List.length_map,List.length_map]; exact Nat.lt_of_le_of_lt mQ (by decide),by trivial,ck.same (jL.trans s6) hJ ck.upd,?_⟩;unfold told;rw [if_pos ⟨vh,vo⟩,ay,show Str.ofString "." = Tx.S [46] from by decide +kernel];simp only [PV,List.map_append,List.map_cons,List.map_nil]
    ·rw [decide_eq_false vo];refine bf ⟨by trivial,jL.trans s6,?_⟩;unfold told;rw [if_neg (fun z=>vo z.2)];exact b6
  ·rintro σ' H6 ⟨rfl,s6,b6⟩;walk_at "rd";simp only [pJ,Tx.Vs];refine ⟨fits (by simp),fun p hp=>?_⟩;exact q _ l2 p (s6.trans (ai.upd hp)) hJ (EO b6 hp) ay
theorem MI (T:Tx K mg):aA P w K mg base aO 1 T.rS.f T.rS.d ["self", "number", "kind", "owner", "mine", "rest", "text"] (Ky T.aG):=by
 refine T.rS.F.ok M8 (fun vs H Q E h=>?_) (fun az A outer s H vs Q E hr h=>?_)
 ·exact HG h fun _ _ _ _ _ _ _ _=>rfl
 ·refine HG h fun x n kd ow mi re tx h=>?_;obtain ⟨dx,hx,q⟩:=h;refine ⟨_,((Dv.cut (Dv.bz T.cY T.OD (Dv.v 0) (Dv.v 1))
  (Dv.cut (Dv.bz T.cY T.yu (Dv.v 0) (Dv.v 2))
  (Dv.cut (Dv.bz T.cY T.xO (Dv.v 0) (Dv.v 3))
  (Dv.cut (Dv.bz T.cY T.zl (Dv.v 0) (Dv.v 4))
  (Dv.cut (Dv.bz T.cY T.wD (Dv.v 0) (Dv.v 5))
  (Dv.cut (Dv.bz T.cY T.MF (Dv.v 0) (Dv.v 6))
  (Dv.cut (Dv.bz T.cY T.xk (Dv.v 0) Dv.l6)
  (Dv.aj (Dv.bz T.cY T.tL (Dv.v 0) Dv.Sk)))))))))).h,?_⟩
  refine stI [some (.ref x),some n,some kd,some ow,some mi,some re,some tx] ?_;refine ao ?_;walk_at "rd";refine ⟨x,dx,_,rfl,hx,by decide,ao ?_⟩;walk_at "rd";refine ⟨x,dx,_,rfl,ay,by (refine Nat.lt_of_le_of_lt (m:=40) ?_ (by decide); (repeat (refine bO ?_)); exact Nat.zero_le _),ao ?_⟩;walk_at "rd";refine ⟨x,dx,_,rfl,ay,by (refine Nat.lt_of_le_of_lt (m:=40) ?_ (by decide); (repeat (refine bO ?_)); exact Nat.zero_le _),ao ?_⟩;walk_at "rd";refine ⟨x,dx,_,rfl,ay,by (refine Nat.lt_of_le_of_lt (m:=40) ?_ (by decide); (repeat (refine bO ?_)); exact Nat.zero_le _),ao ?_⟩;walk_at "rd";refine ⟨x,dx,_,rfl,ay,by (refine Nat.lt_of_le_of_lt (m:=40) ?_ (by decide); (repeat (refine bO ?_)); exact Nat.zero_le _),ao ?_⟩;walk_at "rd";refine ⟨x,dx,_,rfl,ay,by (refine Nat.lt_of_le_of_lt (m:=40) ?_ (by decide); (repeat (refine bO ?_)); exact Nat.zero_le _),ao ?_⟩;simp only [kb];walk_at "rd";intro l1 h1;have n1:l1≠x:=fun e=>by rw [e,ay] at h1; cases h1
  have h1':H l1=none:=by rw [ah n1] at h1; exact h1
  refine ⟨x,dx,_,rfl,by rw [ah (Ne.symm n1),ay],by (refine Nat.lt_of_le_of_lt (m:=40) ?_ (by decide); (repeat (refine bO ?_)); exact Nat.zero_le _),fun l2 h2=>?_⟩;have n2:l2≠x:=fun e=>by rw [e,ay] at h2; cases h2
  rw [ah n2] at h2;have n3:l2≠l1:=fun e=>by rw [e,ay] at h2; cases h2
  rw [ah n3,ah n2] at h2;refine ⟨x,dx,_,rfl,by rw [ah (Ne.symm n2),ay],by (refine Nat.lt_of_le_of_lt (m:=40) ?_ (by decide); (repeat (refine bO ?_)); exact Nat.zero_le _),?_⟩;refine q l1 l2 _ h1' h2 (Ne.symm n3) n1 n2 (fun b b1 b2 b3=>?_) ?_ ?_ _ ?_ (fun f=>?_) ay
  ·rw [ah b1,ah b3,ah b1,ah b2,ah b1]
  ·rw [ah n1,ah (Ne.symm n3),ah n1,ay]
  ·rw [ah n2,ay]
  ·exact Nat.le_trans (by (repeat (refine bO ?_)); exact Nat.zero_le _) (Nat.le_refl 40)
  ·rfl
theorem Pg (T:Tx K mg):aA P w K mg base aO 1 T.qw.f T.qw.d ["self"] (L9 T.aD):=by
 refine T.qw.F.ok RS (fun vs H Q E h=>?_) (fun az A outer s H vs Q E hr h=>?_)
 ·exact ed h fun _ _=>rfl
 ·refine ed h fun x h=>?_;obtain ⟨dx,hx,q⟩:=h;refine ⟨_,((Dv.cut (Dv.bz T.cj T.qt (Dv.v 0) (Dv.lst Dv.ag))
  (Dv.aj (Dv.bz T.cj T.ue (Dv.v 0) Dv.int)))).h,?_⟩
  refine stI [some (.ref x)] ?_;refine ao ?_;walk_at "rd";refine ⟨fits (by simp),fun l hl=>?_⟩;have n1:l≠x:=fun e=>by rw [e,hx] at hl; cases hl
  refine ⟨x,dx,_,rfl,by rw [ah (Ne.symm n1)]; exact hx,by decide,?_⟩;refine ⟨x,dx,_,rfl,ay,by (refine Nat.lt_of_le_of_lt (m:=40) ?_ (by decide); (repeat (refine bO ?_)); exact Nat.zero_le _),?_⟩;refine q l _ hl n1 (fun b b1 b2=>?_) ?_ _ ?_ (fun f=>?_) ay
  ·rw [ah b1,ah b1,ah b2]
  ·rw [ah n1,ah n1,ay]
  ·exact Nat.le_trans (bO (bO (Nat.zero_le _))) (show 0+1+1≤40 by decide)
  ·rfl
theorem TF (T:Tx K mg):aA P w K mg base aO 1 T.pT.f T.pT.d ["self", "asker"] (Sq T.aG):=by
 refine T.pT.F.ok Nn (fun vs H Q E h=>?_) (fun az A outer s H vs Q E hr h=>?_)
 ·exact cJ h fun _ _ _=>rfl
 ·refine cJ h fun x z h=>?_;obtain ⟨a,i,t,cW,rfl,q⟩:=h;obtain ⟨fs,hx,aV,sf⟩:=cW.o;refine ⟨_,((Dv.aj (Dv.aP (Dv.CG (Dv.aY cq (Dv.v 1) (Dv.fld T.cY T.xO (Dv.v 0))) (Dv.fld T.cY T.zl (Dv.v 0)) (Dv.fld T.cY T.wD (Dv.v 0)))))).h,?_⟩;refine stI [some (V.ref a.th),some (V.str z)] ?_;walk_at "w";refine ⟨a.th,_,_,_,rfl,hx,(sf _).trans rfl,?_⟩;dsimp only;unfold cK at q;by_cases e:z=t.ow
  ·rw [decide_eq_true e];rw [if_pos e] at q;exact bM ⟨a.th,_,_,_,rfl,hx,(sf _).trans rfl,q⟩
  ·rw [decide_eq_false e];rw [if_neg e] at q;exact bf ⟨a.th,_,_,_,rfl,hx,(sf _).trans rfl,q⟩
theorem E5 (T:Tx K mg):aA P w K mg base aO 3 T.lG.f T.lG.d ["self", "kind", "owner", "mine", "rest", "text"] (My T.aD T.aG):=by
 refine T.lG.F.ok E9 (fun vs H Q E h=>?_) (fun az A outer s H vs Q E hr h=>?_)
 ·exact Gi h fun _ _ _ _ _ _ _=>rfl
 ·refine Gi h fun x kd ow mi re tx h=>?_;obtain ⟨dt,ml,rs,⟨⟨fs,c,hx,aV,sf⟩,gz⟩,sd,q⟩:=h;refine ⟨_,((Dv.cut (Dv.j9 T.cj T.ue kc (Dv.v 0) Dv.int)
   (Dv.cut (Dv.aS 6 E9.nd (Dv.cA (kI (K:=K) rfl) T.jG PySem.boot_len (Dv.aa (Dv.fld T.cj T.qt (Dv.v 0)) Dv.ag)))
   (Dv.cut (Dv.aW (Dv.ir PySem.F.slot_list_append PySem.F.type_list_append kM (Dv.fld T.cj T.qt (Dv.v 0)) (Dv.aa (Dv.make T.QY (MI T) (hr.mono (by decide)) T.Tz T.rS.b .nil aw (Dv.aa (Dv.v 6) (Dv.aa (Dv.v 1) (Dv.aa (Dv.v 2) (Dv.aa (Dv.v 3) (Dv.aa (Dv.v 4) (Dv.aa (Dv.v 5) Dv.ag))))))) Dv.ag)))
   (Dv.aj (Dv.aP (Dv.v 6))))))).h,?_⟩
  refine stI [some (.ref x),some kd,some ow,some mi,some re,some tx,none] ?_;have fm:ml≠x:=fun e=>by rw [e,hx] at gz; cases gz
  refine ao ?_;walk_at "rd";refine ⟨x,dt,fs,.int c,rfl,hx,(sf _).trans rfl,_,_,rfl,rfl,dt,fs,hx,by omega,ao ?_⟩;have b9:cB (ae "changes" (.int (c+1)) fs) (rJ ml (c+1)):=fun f=>by rw [(sf.put "changes" (.int (c+1))) f]; rfl
  have iS:(ae "changes" (.int (c+1)) fs).length≤41:=bO aV;have bu:upd H x (.ins T.aD dt (ae "changes" (.int (c+1)) fs)) x=some (.ins T.aD dt (ae "changes" (.int (c+1)) fs)):=ay;have jS:upd H x (.ins T.aD dt (ae "changes" (.int (c+1)) fs)) ml=some (.lst rs):=by rw [ah fm]; exact gz
  have gT:Kp [x] H (upd H x (.ins T.aD dt (ae "changes" (.int (c+1)) fs))):=fun b o hb e=>by rw [ah (fun z=>hb (by simp [z]))]; exact e
  have pB:∀ b,b≠x→upd H x (.ins T.aD dt (ae "changes" (.int (c+1)) fs)) b=H b:=fun b hb=>ah hb;generalize upd H x (.ins T.aD dt (ae "changes" (.int (c+1)) fs))=H1 at bu jS gT pB ⊢;walk_at "rd";refine ⟨x,dt,_,.ref ml,rfl,bu,(b9 _).trans rfl,?_⟩;simp only [bG,jS];refine ao ?_;walk_at "rd";refine ⟨x,dt,_,.ref ml,rfl,bu,(b9 _).trans rfl,?_⟩;simp only [jS];intro th cN aN hdth pj;refine ⟨cN,ay,fun nm pl H2 bK bb hnp hn1 hJ fr2 hnm2 hpl2 ks kN sk hth2=>⟨rfl,?_⟩⟩;have Bx:∀ b o,H1 b=some o→upd (upd H1 cN (HO.own th)) th (HO.ins T.aG cN []) b=some o:=fun b o e=>by
   rw [ah (aF e aN),ah (aF e hdth)]; exact e
  have Bi:∀ b o,H1 b=some o→H2 b=some o:=fun b o e=>by
   rw [fr2 b (aF e aN) (aF (Bx b o e) bK) (aF (Bx b o e) bb)]; exact Bx b o e
  have dn:∀ d,d≠th→upd (upd H1 cN (HO.own th)) th (HO.ins T.aG cN []) d=none→H1 d=none:=fun d n e=>by
   rw [ah n] at e;by_cases z:d=cN
   ·rw [z,ay] at e; cases e
   ·rw [ah z] at e; exact e
  have Jz:=dn nm hn1 bK;have Kc:=dn pl hJ bb;have BW:∀ d,H1 d=none→H d=none:=fun d e=>by rw [← pB d (Ne.symm (aF bu e))]; exact e
  simp only [Bi _ _ jS];refine ⟨gP (by omega),?_⟩;refine q th cN nm pl ks _ (BW _ aN) (BW _ Jz) (BW _ Kc) ⟨⟨_,c+1,by rw [ah (Ne.symm fm)]; exact Bi _ _ bu,?_,b9⟩,ay⟩ (by rw [ah (Ne.symm (aF jS aN))]; exact hth2) kN sk
   (by rw [ah (Ne.symm (aF jS Jz))]; exact hnm2) (by rw [ah (Ne.symm (aF jS Kc))]; exact hpl2) (fun b o hb e=>?_)
  ·rw [dQ (u:=.int c) ((sf _).trans rfl)]; exact aV
  ·simp only [List.mem_cons,List.not_mem_nil,or_false,not_or] at hb;rw [ah hb.2];exact Bi _ _ (gT b o (by simp [hb.1]) e)
theorem Hy (T:Tx K mg):aA P w K mg base aO 4 T.lF.f T.lF.d ["self", "owner", "mine", "rest"] (SJ T.aD T.aG):=by
 refine T.lF.F.ok Ua (fun vs H Q E h=>?_) (fun az A outer s H vs Q E hr h=>?_)
 ·exact uK h fun _ _ _ _ _=>rfl
 ·refine uK h fun x ow mi re h=>?_;obtain ⟨dt,ml,rs,at',sd,q⟩:=h;obtain ⟨fs,c,hx,aV,sf⟩:=at'.o;refine ⟨_,((Dv.aj (Dv.aP (Dv.bh T.cj T.lG.h (E5 T) (hr.mono (by decide)) T.lG.b .nil aw (Dv.v 0) (Dv.aa (Dv.glob (.str "folder") T.rf ⟨_,rfl⟩) (Dv.aa (Dv.v 1) (Dv.aa (Dv.v 2) (Dv.aa (Dv.v 3) (Dv.aa Dv.str Dv.ag))))))))).h,?_⟩;refine stI [some (.ref x),some ow,some mi,some re] ?_;walk_at "w";exact ⟨x,dt,fs,rfl,hx,(sf _).trans rfl,dt,ml,rs,at',sd,q⟩
theorem jr (T:Tx K mg):aA P w K mg base (cm P w) 2 T.du.f T.du.d ["self", "number"] (Hh T.au T.aD T.aG T.pk):=by
 refine T.du.F.di Wa (fun vs H Q E h=>?_) (fun az A outer s H vs Q E hr h=>?_)
 ·exact t8 h fun _ _ _=>rfl
 ·refine t8 h fun x v h=>?_;obtain ⟨AA,L,M,i,rfl,ph,q1,q2⟩:=h;obtain ⟨fs,c,hx,aV,sf⟩:=i.t;refine ⟨_,((Dv.cut (Dv.aX (Dv.dE (Dv.w_or (Dv.cC (Dv.cu (Dv.call (Hm T) (hr.mono (by decide)) T.jg.m T.jg.F.kp T.jg.b .nil aw (Dv.aa (Dv.v 1) Dv.ag)))) (Dv.iL (Dv.cC (Dv.zh oR C3 Dv.int (Dv.v 1) (Dv.cA (kI (K:=K) rfl) T.jG PySem.boot_len (Dv.aa (Dv.fld T.cj T.qt (Dv.v 0)) Dv.ag))))))) (Dv.aj (Dv.Ab Au rfl T.Nw T.Ng (Dv.aa Dv.str Dv.ag))) Dv.nil)
  (Dv.aj (Dv.aP (Dv.ix (br (K:=K) rfl) (Dv.fld T.cj T.qt (Dv.v 0)) (Dv.v 1)))))).h,?_⟩
  refine stI [some (.ref AA.t),some v] ?_;refine ao ?_;walk_at "w";refine ⟨ph,?_⟩;cases v with
  | int n =>
   simp only [FQ,Bool.not_true,Bool.false_eq_true,if_false];refine i8 (fun h0=>?_) (fun h0=>bM ⟨fits (by simp),q2 fun j e=>?_⟩)
   ·have h0':0≤n:=of_decide_eq_true h0;refine ⟨AA.t,_,_,.ref AA.ml,rfl,hx,(sf _).trans rfl,?_⟩;simp only [bG,i.ml,List.length_map,i.len];obtain ⟨k,rfl⟩:=Int.eq_ofNat_of_zero_le h0';by_cases hk:k < M.ts.length
    ·rw [decide_eq_true (show (k:Int) < (M.ts.length:Int) by omega)];refine bf ⟨AA.t,_,_,.ref AA.ml,rfl,hx,(sf _).trans rfl,?_⟩;simp only [bG,i.ml];have Ke:k < L.length:=by rw [i.len]; exact hk
     rw [gJ (xs:=L.map fun a=>V.ref a.th) (j:=k) (by rw [List.getElem?_map,List.getElem?_eq_getElem Ke]; rfl)];exact q1 k _ _ rfl (List.getElem?_eq_getElem Ke) (List.getElem?_eq_getElem hk)
    ·rw [decide_eq_false (show ¬ (k:Int) < (M.ts.length:Int) by omega)];refine bM ⟨fits (by simp),q2 fun j e=>?_⟩;injection e with e;have:k=j:=by omega
     rw [← this]; exact hk
   ·injection e with e;exact absurd (decide_eq_true (show (0:Int)≤n by omega)) h0
  | _=>exact ⟨fits (by simp),q2 fun k e=>by cases e⟩
section
variable {T:Tx K mg} {H:Hp} {A:Ad} {L:List Ta} {M:Hs}
theorem j3 {k:Nat} {a:Ta} {t:Th} {Q:VK} {E:XK} (i:aI T.au T.aD T.aG H A L M) (ha:L[k]?=some a) (ht:M.ts[k]?=some t) (q:Q (.ref a.th) H):Hh T.au T.aD T.aG T.pk [.ref A.t,.int (k:Int)] H Q E :=
 ⟨A,L,M,i,rfl,⟨_,rfl⟩,fun j a' t' e h1 h2=>by
  injection e with e;have:k=j:=by omega
  subst this;rw [ha] at h1; cases h1;exact q,fun h=>absurd (List.getElem?_eq_some_iff.mp ht).1 (h k rfl)⟩
theorem fG {k:Nat} {a:Ta} {t:Th} (i:aI T.au T.aD T.aG H A L M) (ha:L[k]?=some a) (ht:M.ts[k]?=some t):ly T.aG H a k t:=by
 obtain ⟨a',e,h⟩:=i.th k t ht;rw [ha] at e; cases e;exact h
end
theorem GC (T:Tx K mg):aA P w K mg base aO 3 T.lP.f T.lP.d ["self", "folder", "name"] (RX T.au T.aD T.aG Ad.t):=by
 refine T.lP.F.ok Mv (fun vs H Q E h=>?_) (fun az A outer s H vs Q E hr h=>?_)
 ·exact oZ h fun _ _ _ _=>rfl
 ·refine oZ h fun x n z h=>?_;obtain ⟨AA,L,M,k,a,t,i,rfl,rfl,ha,aN,q⟩:=h;obtain ⟨fs,c,hx,aV,sf⟩:=i.h;obtain ⟨gs,c2,ht,dW,sg⟩:=i.t;have cW:=fG i ha aN;obtain ⟨ks,ho,jZ,so⟩:=cW.o;refine ⟨_,((Dv.aj (Dv.aP (Dv.HL (en hr) (Dv.fld T.cY T.xk (Dv.dP T.cj T.du.h (jr T) (hr.mono (by decide)) T.du.b .nil fw (Dv.v 0) (Dv.aa (Dv.v 1) Dv.ag))) (Dv.v 2))))).h,?_⟩;refine stI [some (V.ref AA.t),some (V.int (k:Int)),some (V.str z)] ?_;walk_at "w";refine ⟨AA.t,_,_,rfl,ht,(sg _).trans rfl,j3 i ha aN ⟨a.th,_,_,.ref a.nm,rfl,ho,(so _).trans rfl,a.nm,rfl,.inl ⟨_,.inl cW.nm⟩,_,cQ.k (k:=.inr z) cW.nm,q⟩⟩
theorem Uj (T:Tx K mg):aA P w K mg base aO 3 T.rP.f T.rP.d ["self", "number"] (oB T.au T.aD T.aG Ad.t CI):=by
 refine T.rP.F.ok Mz (fun vs H Q E h=>?_) (fun az A outer s H vs Q E hr h=>?_)
 ·exact cD h fun _ _ _=>rfl
 ·refine cD h fun x n h=>?_;obtain ⟨AA,L,M,k,a,t,i,rfl,rfl,ha,aN,q⟩:=h;obtain ⟨fs,c,hx,aV,sf⟩:=i.h;obtain ⟨gs,c2,ht,dW,sg⟩:=i.t;have cW:=fG i ha aN;obtain ⟨ks,ho,jZ,so⟩:=cW.o;refine ⟨_,((Dv.aj (Dv.aP (Dv.minD rfl T.Tn (Dv.fld T.cY T.tL (Dv.dP T.cj T.du.h (jr T) (hr.mono (by decide)) T.du.b .nil fw (Dv.v 0) (Dv.aa (Dv.v 1) Dv.ag))))))).h,?_⟩;refine stI [some (V.ref AA.t),some (V.int (k:Int))] ?_;walk_at "w";refine ⟨AA.t,_,_,rfl,ht,(sg _).trans rfl,j3 i ha aN ⟨a.th,_,_,.ref a.pl,rfl,ho,(so _).trans rfl,a.pl,_,rfl,cW.pl,?_⟩⟩;rcases q with ⟨e,q⟩ | ⟨f,z,e,q⟩
  ·rw [e]; exact .inl ⟨rfl,q⟩
  ·rw [e]; exact .inr ⟨_,_,rfl,q⟩
theorem pd (T:Tx K mg):aA P w K mg base aO 3 T.eU.f T.eU.d ["self", "number"] (oB T.au T.aD T.aG Ad.a nH):=by
 refine T.eU.F.ok Pd (fun vs H Q E h=>?_) (fun az A outer s H vs Q E hr h=>?_)
 ·exact cD h fun _ _ _=>rfl
 ·refine cD h fun x n h=>?_;obtain ⟨AA,L,M,k,a,t,i,rfl,rfl,ha,aN,q⟩:=h;obtain ⟨fs,c,hx,aV,sf⟩:=i.h;obtain ⟨gs,c2,ht,dW,sg⟩:=i.t;have cW:=fG i ha aN;obtain ⟨ks,ho,jZ,so⟩:=cW.o;refine ⟨_,((Dv.aj (Dv.aP (Dv.fld T.cY T.yu (Dv.dP T.cj T.du.h (jr T) (hr.mono (by decide)) T.du.b .nil fw (Dv.fld T.aM T.gu (Dv.v 0)) (Dv.aa (Dv.v 1) Dv.ag)))))).h,?_⟩;refine stI [some (V.ref AA.a),some (V.int (k:Int))] ?_;walk_at "w";exact ⟨AA.a,_,_,.ref AA.t,rfl,hx,(sf _).trans rfl,AA.t,_,_,rfl,ht,(sg _).trans rfl,j3 i ha aN ⟨a.th,_,_,_,rfl,ho,(so _).trans rfl,q⟩⟩
theorem oE (T:Tx K mg):aA P w K mg base aO 4 T.fc.f T.fc.d ["self", "number"] (oB T.au T.aD T.aG Ad.a CI):=by
 refine T.fc.F.ok Wi (fun vs H Q E h=>?_) (fun az A outer s H vs Q E hr h=>?_)
 ·exact cD h fun _ _ _=>rfl
 ·refine cD h fun x n h=>?_;obtain ⟨AA,L,M,k,a,t,i,rfl,rfl,ha,aN,q⟩:=h;obtain ⟨fs,c,hx,aV,sf⟩:=i.h;obtain ⟨gs,c2,ht,dW,sg⟩:=i.t;have cW:=fG i ha aN;obtain ⟨ks,ho,jZ,so⟩:=cW.o;refine ⟨_,((Dv.aj (Dv.aP (Dv.bh T.cj T.rP.h (Uj T) (hr.mono (by decide)) T.rP.b .nil aw (Dv.fld T.aM T.gu (Dv.v 0)) (Dv.aa (Dv.v 1) Dv.ag))))).h,?_⟩;refine stI [some (V.ref AA.a),some (V.int (k:Int))] ?_;walk_at "w";exact ⟨AA.a,_,_,.ref AA.t,rfl,hx,(sf _).trans rfl,AA.t,_,_,rfl,ht,(sg _).trans rfl,AA,L,M,k,a,t,i,rfl,rfl,ha,aN,q⟩
theorem SE (T:Tx K mg):aA P w K mg base aO 3 T.rG.f T.rG.d ["self", "number"] (oB T.au T.aD T.aG Ad.a L8):=by
 refine T.rG.F.ok UI (fun vs H Q E h=>?_) (fun az A outer s H vs Q E hr h=>?_)
 ·exact cD h fun _ _ _=>rfl
 ·refine cD h fun x n h=>?_;obtain ⟨AA,L,M,k,a,t,i,rfl,rfl,ha,aN,q⟩:=h;obtain ⟨fs,c,hx,aV,sf⟩:=i.h;obtain ⟨gs,c2,ht,dW,sg⟩:=i.t;have cW:=fG i ha aN;obtain ⟨ks,ho,jZ,so⟩:=cW.o;refine ⟨_,((Dv.aj (Dv.aW (Dv.dP T.cj T.du.h (jr T) (hr.mono (by decide)) T.du.b .nil fw (Dv.fld T.aM T.gu (Dv.v 0)) (Dv.aa (Dv.v 1) Dv.ag))))).h,?_⟩;refine stI [some (V.ref AA.a),some (V.int (k:Int))] ?_;walk_at "w";exact ⟨AA.a,_,_,.ref AA.t,rfl,hx,(sf _).trans rfl,AA.t,_,_,rfl,ht,(sg _).trans rfl,j3 i ha aN q⟩
section
variable {CH CS CT:Addr} {H:Hp} {A:Ad} {L:List Ta} {M:Hs}
theorem aI.lS (i:aI CH CS CT H A L M) {k:Nat} {a:Ta} (ha:L[k]?=some a):∀ b∈A.w,∀ c∈a.l,b≠c:=fun b hb c hc=>by
 have nd:=i.nd;rw [List.nodup_append] at nd;exact nd.2.2 b hb c (gE ha hc)
theorem aI.aT (i:aI CH CS CT H A L M):A.a≠A.t:=by
 have nd:=i.nd;rw [List.nodup_append] at nd;have:=(List.nodup_cons.mp nd.1).1;exact fun e=>this (by rw [e]; simp)
theorem FZ:∀ {L:List Ta} {k:Nat} {a:Ta},(L.flatMap Ta.l).Nodup→L[k]?=some a→a.l.Nodup
 | c::r,0,a,nd,h=>by
  rw [List.flatMap_cons,List.nodup_append] at nd;simp only [List.getElem?_cons_zero,Option.some.injEq] at h;subst h; exact nd.1
 | c::r,k+1,a,nd,h=>by
  rw [List.flatMap_cons,List.nodup_append] at nd;simp only [List.getElem?_cons_succ] at h;exact FZ nd.2.1 h
theorem aI.own (i:aI CH CS CT H A L M) {k:Nat} {a:Ta} (ha:L[k]?=some a):a.th≠a.nm∧a.th≠a.pl∧a.nm≠a.pl:=by
 have nd:=i.nd;rw [List.nodup_append] at nd;have:=FZ nd.2.1 ha;simp only [Ta.l,List.nodup_cons,List.mem_cons,List.not_mem_nil,or_false,not_or,not_false_eq_true,List.nodup_nil,and_true] at this;exact ⟨this.1.1,this.1.2,this.2⟩
end
def Vl (CH CS CT:Addr):Sp:=tG fun x n z H Q _=>∃ A L M,∃ k:Nat,∃ a t,aI CH CS CT H A L M∧A.t=x∧n=(k:Int)∧L[k]?=some a∧M.ts[k]?=some t∧aJ (sD t.aZ) (.inr z)=none∧Q .ax H
theorem V3 (T:Tx K mg):aA P w K mg base aO 4 T.qh.f T.qh.d ["self", "folder", "name"] (Vl T.au T.aD T.aG):=by
 refine T.qh.F.ok GS (fun vs H Q E h=>?_) (fun az A outer s H vs Q E hr h=>?_)
 ·exact oZ h fun _ _ _ _=>rfl
 ·refine oZ h fun x n z h=>?_;obtain ⟨AA,L,M,k,a,t,i,rfl,rfl,ha,aN,hv,q⟩:=h;obtain ⟨gs,c2,ht,dW,sg⟩:=i.t;refine ⟨_,((Dv.cut (Dv.aS 3 GS.nd (Dv.bh T.cj T.lP.h (GC T) (hr.mono (by decide)) T.lP.b .nil aw (Dv.v 0) (Dv.aa (Dv.v 1) (Dv.aa (Dv.v 2) Dv.ag))))
  (Dv.aj (Dv.aX (Dv.aY lR (Dv.v 3) Dv.ax) (Dv.cut Dv.cR
  (Dv.cut Dv.cR
  (Dv.aj Dv.cR))) Dv.nil)))).h,?_⟩
  refine stI [some (V.ref AA.t),some (V.int (k:Int)),some (V.str z),none] ?_;refine ao ?_;walk_at "w";refine ⟨AA.t,_,_,rfl,ht,(sg _).trans rfl,AA,L,M,k,a,t,i,rfl,rfl,ha,aN,?_⟩;rw [hv];refine ⟨by trivial,?_⟩;exact bf q
def Uy (CH CS CT:Addr):Sp:=Ek fun x fn z kn H Q _=>∃ A L M,∃ f k:Nat,∃ af tf ak tk,aI CH CS CT H A L M∧A.t=x∧fn=(f:Int)∧kn=(k:Int)∧L[f]?=some af∧M.ts[f]?=some tf∧L[k]?=some ak∧M.ts[k]?=some tk∧f≠k∧aJ (sD tf.aZ) (.inr z)=none∧tf.aZ.length≤500∧tk.bU=[] ∧
   ∀ H',aI CH CS CT H' A L { M with ts:=(M.ts.set f { tf with aZ:=tf.aZ++[(z,k)] }).set k { tk with bU:=[(f,z)] } }→Kp [A.t,af.nm,ak.pl] H H'→Q .ax H'
theorem wk {l:List (Str×Nat)} {z:Str} {k:Nat} (h:aJ (sD l) (.inr z)=none):putK (sD l) (.inr z) (.int (k:Int))=sD (l++[(z,k)]):=by
 have e:((sD l).any fun kv=>decide (kv.1=(Sum.inr z:Key)))=false:=by rw [nU,h]; rfl
 unfold putK;rw [e];simp [sD]
theorem Om (T:Tx K mg):aA P w K mg base aO 5 T.rL.f T.rL.d ["self", "folder", "name", "number"] (Uy T.au T.aD T.aG):=by
 refine T.rL.F.ok uU (fun vs H Q E h=>?_) (fun az A outer s H vs Q E hr h=>?_)
 ·exact Dj h fun _ _ _ _ _=>rfl
 ·refine Dj h fun x fn z kn h=>?_;obtain ⟨AA,L,M,f,k,af,tf,ak,tk,i,rfl,rfl,rfl,fP,bq,gA,dF,hfk,hv,Ja,bb,q⟩:=h;obtain ⟨fs,c,hx,aV,sf⟩:=i.h;obtain ⟨gs,c2,ht,dW,sg⟩:=i.t;have Ka:=fG i gA dF;obtain ⟨ks,ho,jZ,so⟩:=Ka.o;refine ⟨_,((Dv.cut (Dv.aS 4 uU.nd (Dv.dP T.cj T.du.h (jr T) (hr.mono (by decide)) T.du.b .nil fw (Dv.v 0) (Dv.aa (Dv.v 3) Dv.ag)))
  (Dv.cut (Dv.j9 T.cj T.ue kc (Dv.v 0) Dv.int)
  (Dv.cut (Dv.aW (Dv.bh T.cj T.qh.h (V3 T) (hr.mono (by decide)) T.qh.b .nil aw (Dv.v 0) (Dv.aa (Dv.v 1) (Dv.aa (Dv.v 2) Dv.ag))))
  (Dv.cut (Dv.aX (Dv.aY ko (Dv.fld T.cY T.yu (Dv.v 4)) (Dv.glob (.str "file") T.za ⟨_,rfl⟩)) (Dv.aj (Dv.ng PassesOwn.never rfl (Dv.iH (K:=K) rfl (Dv.nE (LY rfl) T.wo PN (Dv.aa (Dv.fld T.cY T.tL (Dv.v 4)) Dv.ag))) (Dv.tm (K:=K) (n:=2) rfl rfl (Dv.j6 (Dv.dM 5 uU.nd) (Dv.j6 (Dv.dM 6 uU.nd) Dv.uT))) (Dv.aj Dv.cR))) Dv.nil)
  (Dv.cut (Dv.rO (en hr) (Dv.fld T.cY T.xk (Dv.dP T.cj T.du.h (jr T) (hr.mono (by decide)) T.du.b .nil fw (Dv.v 0) (Dv.aa (Dv.v 1) Dv.ag))) (Dv.v 2) (Dv.v 3))
  (Dv.aj (Dv.rO (en hr) (Dv.fld T.cY T.tL (Dv.v 4)) (Dv.tup (Dv.aa (Dv.v 1) (Dv.aa (Dv.v 2) Dv.ag))) Dv.bl)))))))).h,?_⟩
  refine stI [some (V.ref AA.t),some (V.int (f:Int)),some (V.str z),some (V.int (k:Int)),none,none,none] ?_;refine ao ?_;walk_at "w";refine ⟨AA.t,_,_,rfl,ht,(sg _).trans rfl,j3 i gA dF ?_⟩;refine ao ?_;walk_at "w";refine ⟨AA.t,_,_,.int c2,rfl,ht,(sg _).trans rfl,_,_,rfl,rfl,_,_,ht,by omega,ao ?_⟩;have tn:∀ b∈ak.l,AA.t≠b:=i.lS gA _ (by simp [Ad.w]);have i1:aI T.au T.aD T.aG (upd H AA.t (.ins T.aD AA.dt (ae "changes" (.int (c2+1)) gs))) AA L M:=by
   have w:=i.write (H':=upd H AA.t (.ins T.aD AA.dt (ae "changes" (.int (c2+1)) gs))) (t':=tk) gA ⟨fs,c,by rw [ah i.aT]; exact hx,aV,sf⟩ ⟨_,c2+1,ay,by rw [dQ (u:=.int c2) ((sg _).trans rfl)]; exact dW,fun f=>by rw [(sg.put "changes" (.int (c2+1))) f]; rfl⟩
    (Ka.keep (W:=[AA.t]) (fun b o hb e=>by rw [ah (fun z=>hb (by simp [z]))]; exact e) fun b hb=>by simp [Ne.symm (tn b hb)]) (fun b o hb e=>by simp only [List.mem_cons,List.not_mem_nil,or_false,not_or] at hb; rw [ah hb.2.1]; exact e)
   have e:M.ts.set k tk=M.ts:=by
    apply List.ext_getElem?;intro j;by_cases hj:k=j
    ·subst hj; rw [List.getElem?_set_self (List.getElem?_eq_some_iff.mp dF).1,dF]
    ·rw [List.getElem?_set_ne hj]
   rw [e] at w;exact w
  have gT:Kp [AA.t] H (upd H AA.t (.ins T.aD AA.dt (ae "changes" (.int (c2+1)) gs))):=fun b o hb e=>by rw [ah (fun z=>hb (by simp [z]))]; exact e
  generalize upd H AA.t (.ins T.aD AA.dt (ae "changes" (.int (c2+1)) gs))=H1 at i1 gT ⊢;obtain ⟨gs1,c3,mr,Jb,By⟩:=i1.t;have Je:=fG i1 gA dF;have ithf1:=fG i1 fP bq;obtain ⟨ks1,Kr,hol1,IT⟩:=Je.o;obtain ⟨gY,mR,iS,b9⟩:=ithf1.o;walk_at "w";refine ⟨AA.t,_,_,rfl,mr,(By _).trans rfl,AA,L,M,f,af,tf,i1,rfl,rfl,fP,bq,hv,?_⟩;refine eE (fun σ' H'=>ai H1 H'∧∃ t5 t6,σ'=[some (V.ref AA.t),some (V.int (f:Int)),some (V.str z),some (V.int (k:Int)),some (.ref ak.th),t5,t6]) ?_ ?_
  ·walk_at "w";refine ⟨ak.th,_,_,_,rfl,Kr,(IT _).trans rfl,?_⟩;refine i8 (fun _=>?_) (fun _=>⟨ai.refl _,_,_,rfl⟩);refine ⟨ak.th,_,_,_,rfl,Kr,(IT _).trans rfl,?_⟩;have vb:H1 ak.pl=some (.dT []):=by have:=Je.pl; rw [bb] at this; exact this
   refine ⟨ak.pl,_,rfl,vb,?_⟩;intro l ks hk _ hl;have sH:ks=[]:=List.length_eq_zero_iff.mp hk;subst sH;refine ⟨⟨_,aL.of ay⟩,qf (xs:=[]) (fun _ σ' H'=>H'=upd H1 l (.lst [])∧σ'=[some (V.ref AA.t),some (V.int (f:Int)),some (V.str z),some (V.int (k:Int)),some (.ref ak.th),none,none]) ⟨rfl,rfl⟩ (fun _ σ' H' _ h=>by rw [h.1]; exact aL.of ay) (fun j x σ' H' hx _=>by simp at hx) (fun σ' H' h=>?_)⟩;obtain ⟨rfl,rfl⟩:=h;exact ⟨ai.upd hl,_,_,rfl⟩
  ·rintro σ' H2 ⟨s2,t5,t6,rfl⟩;have i2:=i1.same s2;obtain ⟨gs2,c4,gd,hgl2,Ku⟩:=i2.t;obtain ⟨vq,d2,bL,hxl2,sx2⟩:=i2.h;have AD:=fG i2 fP bq;obtain ⟨gX,kY,gZ,bR⟩:=AD.o;have Ks:=i2.own fP;have Im:=i2.own gA;have Jo:=i2.lS fP;have Iz:=i2.lS gA;refine ao ?_;walk_at "w";refine ⟨AA.t,_,_,rfl,gd,(Ku _).trans rfl,j3 i2 fP bq ⟨af.th,_,_,.ref af.nm,rfl,kY,(bR _).trans rfl,af.nm,_,rfl,gD.k (k:=.inr z) AD.nm (gP (by unfold sD; rw [List.length_map]; omega)),?_⟩⟩;rw [wk hv];have i3:aI T.au T.aD T.aG (upd H2 af.nm (.dK (sD (tf.aZ++[(z,k)])))) AA L { M with ts:=M.ts.set f { tf with aZ:=tf.aZ++[(z,k)] } }:=by
    refine i2.write fP ⟨vq,d2,by rw [ah (Jo _ (by simp [Ad.w]) _ (by simp [Ta.l]))]; exact bL,hxl2,sx2⟩ ⟨gs2,c4,by rw [ah (Jo _ (by simp [Ad.w]) _ (by simp [Ta.l]))]; exact gd,hgl2,Ku⟩ ⟨⟨gX,by rw [ah Ks.1]; exact kY,gZ,bR⟩,ay,by rw [ah (Ne.symm Ks.2.2)]; exact AD.pl⟩ (fun b o hb e=>?_);simp only [List.mem_cons,List.not_mem_nil,or_false,not_or] at hb;rw [ah hb.2.2.2.1]; exact e
   have Iy:Kp [AA.t,af.nm] H (upd H2 af.nm (.dK (sD (tf.aZ++[(z,k)])))):=fun b o hb e=>by
    simp only [List.mem_cons,List.not_mem_nil,or_false,not_or] at hb;rw [ah hb.2];exact s2 _ _ (gT b o (by simp [hb.1]) e)
   generalize upd H2 af.nm (.dK (sD (tf.aZ++[(z,k)])))=H3 at i3 Iy ⊢;have Kb:(M.ts.set f { tf with aZ:=tf.aZ++[(z,k)] })[k]?=some tk:=by rw [List.getElem?_set_ne hfk]; exact dF
   have ithk3:=fG i3 gA Kb;obtain ⟨ks3,ho3,hol3,so3⟩:=ithk3.o;walk_at "w";refine ⟨ak.th,_,_,.ref ak.pl,rfl,ho3,(so3 _).trans rfl,fits (by simp),fun p hp=>?_⟩;have s4:=ai.upd (o:=.tup [V.int (f:Int),V.str z]) hp;have b4:upd H3 p (.tup [V.int (f:Int),V.str z]) p=some (.tup [V.int (f:Int),V.str z]):=ay;generalize upd H3 p (.tup [V.int (f:Int),V.str z])=H4 at s4 b4 ⊢;have i4:=i3.same s4;have BA:=fG i4 gA Kb;obtain ⟨ks4,ho4,hol4,so4⟩:=BA.o;obtain ⟨gs4,c5,ht4,hgl4,sg4⟩:=i4.t;obtain ⟨hs4,d4,jV,hxl4,sx4⟩:=i4.h;have hpl4:H4 ak.pl=some (.dT []):=by have:=BA.pl; rw [bb] at this; exact this
   refine ⟨ak.pl,_,rfl,gD.t (k:=[.inl (f:Int),.inr z]) hpl4 b4 (by decide),?_⟩;refine q _ (i4.write gA ⟨hs4,d4,by rw [ah (Iz _ (by simp [Ad.w]) _ (by simp [Ta.l]))]; exact jV,hxl4,sx4⟩ ⟨gs4,c5,by rw [ah (Iz _ (by simp [Ad.w]) _ (by simp [Ta.l]))]; exact ht4,hgl4,sg4⟩ ⟨⟨ks4,by rw [ah Im.2.1]; exact ho4,hol4,so4⟩,by rw [ah Im.2.2]; exact BA.nm,ay⟩ (fun b o hb e=>?_)) (fun b o hb e=>?_)
   ·simp only [List.mem_cons,List.not_mem_nil,or_false,not_or] at hb;rw [ah hb.2.2.2.2]; exact e
   ·simp only [List.mem_cons,List.not_mem_nil,or_false,not_or] at hb;rw [ah hb.2.2];exact s4 _ _ (Iy b o (by simp [hb.1,hb.2.1]) e)
def CO (CH:Addr) (fld:Str):Sp:=jy fun x z n H Q _=>∃ dx fs c d kvs,H x=some (.ins CH dx fs)∧fs.length≤40∧fs.lookup ("changes" : Str)=some (.int c)∧fs.lookup fld=some (.ref d)∧H d=some (.dK kvs)∧kvs.length≤40 ∧
   Q .ax (upd (upd H x (.ins CH dx (ae "changes" (.int (c+1)) fs))) d (.dK (putK kvs (.inr z) (.int n))))
def Qc (CH:Addr):Sp:=f6 fun x z H Q _=>∃ dx fs c ro st kr ks,H x=some (.ins CH dx fs)∧fs.length≤40∧fs.lookup ("changes" : Str)=some (.int c)∧fs.lookup ("roots" : Str)=some (.ref ro)∧fs.lookup ("standings" : Str)=some (.ref st)∧fs.lookup ("first_root" : Str)=some (.int 0)∧fs.lookup ("put_root" : Str)=none∧fs.lookup ("put_standing" : Str)=none ∧
   H ro=some (.dK kr)∧kr.length≤40∧H st=some (.dK ks)∧ks.length≤40∧ro≠st ∧
   ∀ fs' c' H',H' x=some (.ins CH dx fs')→fs'.length≤40→cB fs' (ae "changes" (.int c') fs)→H' ro=some (.dK (putK kr (.inr z) (.int 0)))→H' st=some (.dK (putK ks (.inr z) (.int 0)))→(∀ b,b≠x→b≠ro→b≠st→H' b=H b)→Q .ax H'
theorem Eb (T:Tx K mg):aA P w K mg base aO 1 T.jF.f T.jF.d ["self", "asker", "folder"] (CO T.au "roots"):=by
 refine T.jF.F.ok UD (fun vs H Q E h=>?_) (fun az A outer s H vs Q E hr h=>?_)
 ·exact eI h fun _ _ _ _=>rfl
 ·refine eI h fun x z n h=>?_;obtain ⟨dx,fs,c,d,kvs,hx,aV,hc,hd,hD,kN,q⟩:=h;refine ⟨_,((Dv.cut (Dv.j9 T.aM T.tj kc (Dv.v 0) Dv.int)
  (Dv.aj (Dv.rO (en hr) (Dv.fld T.aM T.rh (Dv.v 0)) (Dv.v 1) (Dv.v 2))))).h,?_⟩
  refine stI [some (V.ref x),some (V.str z),some (V.int n)] ?_;have fm:d≠x:=fun e=>by rw [e,hx] at hD; cases hD
  refine ao ?_;walk_at "w";refine ⟨x,dx,fs,.int c,rfl,hx,hc,_,_,rfl,rfl,dx,fs,hx,by omega,?_⟩;walk_at "w";refine ⟨x,dx,_,.ref d,rfl,ay,by rw [dC,if_neg (by decide)]; exact hd,d,_,rfl,gD.k (k:=.inr z) (by rw [ah fm]; exact hD) (gP (by omega)),q⟩
theorem DV (T:Tx K mg):aA P w K mg base aO 1 T.gR.f T.gR.d ["self", "asker", "folder"] (CO T.au "standings"):=by
 refine T.gR.F.ok O4 (fun vs H Q E h=>?_) (fun az A outer s H vs Q E hr h=>?_)
 ·exact eI h fun _ _ _ _=>rfl
 ·refine eI h fun x z n h=>?_;obtain ⟨dx,fs,c,d,kvs,hx,aV,hc,hd,hD,kN,q⟩:=h;refine ⟨_,((Dv.cut (Dv.j9 T.aM T.tj kc (Dv.v 0) Dv.int)
  (Dv.aj (Dv.rO (en hr) (Dv.fld T.aM T.yf (Dv.v 0)) (Dv.v 1) (Dv.v 2))))).h,?_⟩
  refine stI [some (V.ref x),some (V.str z),some (V.int n)] ?_;have fm:d≠x:=fun e=>by rw [e,hx] at hD; cases hD
  refine ao ?_;walk_at "w";refine ⟨x,dx,fs,.int c,rfl,hx,hc,_,_,rfl,rfl,dx,fs,hx,by omega,?_⟩;walk_at "w";refine ⟨x,dx,_,.ref d,rfl,ay,by rw [dC,if_neg (by decide)]; exact hd,d,_,rfl,gD.k (k:=.inr z) (by rw [ah fm]; exact hD) (gP (by omega)),q⟩
theorem Fn (T:Tx K mg):aA P w K mg base aO 2 T.lD.f T.lD.d ["self", "name"] (Qc T.au):=by
 refine T.lD.F.ok UK (fun vs H Q E h=>?_) (fun az A outer s H vs Q E hr h=>?_)
 ·exact cJ h fun _ _ _=>rfl
 ·refine cJ h fun x z h=>?_;obtain ⟨dx,fs,c,ro,st,kr,ks,hx,aV,hc,mD,aQ,jR,mC,eC,BF,hkr,Bs,sH,JO,q⟩:=h;refine ⟨_,((Dv.cut (Dv.aW (Dv.bh T.aM T.jF.h (Eb T) (hr.mono (by decide)) T.jF.b .nil aw (Dv.v 0) (Dv.aa (Dv.v 1) (Dv.aa (Dv.fld T.aM T.yI (Dv.v 0)) Dv.ag))))
  (Dv.aj (Dv.aW (Dv.bh T.aM T.gR.h (DV T) (hr.mono (by decide)) T.gR.b .nil aw (Dv.v 0) (Dv.aa (Dv.v 1) (Dv.aa (Dv.fld T.aM T.yI (Dv.v 0)) Dv.ag))))))).h,?_⟩
  refine stI [some (V.ref x),some (V.str z)] ?_;have n1:ro≠x:=fun e=>by rw [e,hx] at BF; cases BF
  have n2:st≠x:=fun e=>by rw [e,hx] at Bs; cases Bs
  refine ao ?_;walk_at "w";refine ⟨x,dx,fs,rfl,hx,mC,x,dx,fs,.int 0,rfl,hx,jR,?_⟩;refine ⟨dx,fs,c,ro,kr,hx,by omega,hc,mD,BF,hkr,?_⟩;have bu:upd (upd H x (.ins T.au dx (ae "changes" (.int (c+1)) fs))) ro (.dK (putK kr (.inr z) (.int 0))) x=some (.ins T.au dx (ae "changes" (.int (c+1)) fs)):=by rw [ah (Ne.symm n1),ay]
  have fR:upd (upd H x (.ins T.au dx (ae "changes" (.int (c+1)) fs))) ro (.dK (putK kr (.inr z) (.int 0))) ro=some (.dK (putK kr (.inr z) (.int 0))):=ay;have J0:upd (upd H x (.ins T.au dx (ae "changes" (.int (c+1)) fs))) ro (.dK (putK kr (.inr z) (.int 0))) st=some (.dK ks):=by rw [ah (Ne.symm JO),ah n2]; exact Bs
  have pB:∀ b,b≠x→b≠ro→upd (upd H x (.ins T.au dx (ae "changes" (.int (c+1)) fs))) ro (.dK (putK kr (.inr z) (.int 0))) b=H b:=fun b b1 b2=>by rw [ah b2,ah b1]
  generalize upd (upd H x (.ins T.au dx (ae "changes" (.int (c+1)) fs))) ro (.dK (putK kr (.inr z) (.int 0)))=H1 at bu fR J0 pB ⊢;have lk:∀ f:Str,f ≠ "changes" → (ae "changes" (.int (c+1)) fs).lookup f=fs.lookup f:=fun f hf=>by rw [dC,if_neg hf]
  walk_at "w";refine ⟨x,dx,_,rfl,bu,(lk _ (by decide)).trans eC,x,dx,_,.int 0,rfl,bu,(lk _ (by decide)).trans jR,?_⟩;refine ⟨dx,_,c+1,st,ks,bu,by rw [dQ hc]; exact aV,by rw [dC,if_pos rfl],(lk _ (by decide)).trans aQ,J0,sH,?_⟩;refine q _ (c+1+1) _ (by rw [ah (Ne.symm n2),ay]) (by rw [dQ (u:=.int (c+1)) (by rw [dC,if_pos rfl]),dQ hc]; exact aV) (fun f=>?_) (by rw [ah JO,ah n1]; exact fR) ay (fun b b1 b2 b3=>by rw [ah b3,ah b1]; exact pB b b1 b2);rw [dC,dC,dC];by_cases e:f = "changes"
  ·rw [if_pos e,if_pos e]
  ·rw [if_neg e,if_neg e,if_neg e]
def OB (CH CS CT:Addr):Sp:=ke fun x m own H Q _=>m = "main" ∧ ∃ dx fs c t dt ml tr,H x=some (.ins CH dx fs)∧fs.length≤40∧fs.lookup ("things" : Str)=some (.ref t)∧fs.lookup ("changes" : Str)=some (.int c)∧fs.lookup ("tree_roots" : Str)=some (.ref tr)∧fs.lookup ("add_folder" : Str)=none ∧
   kL CS H t dt ml []∧H tr=some (.dK []) ∧
   ∀ th cN nm pl fs' ks c' H',H th=none→H nm=none→H pl=none→H' x=some (.ins CH dx fs')→fs'.length≤fs.length→cB fs' (ae "changes" (.int c') fs)→kL CS H' t dt ml [.ref th]→H' th=some (.ins CT cN ks)→ks.length≤40 →
    cB ks (qb (.int 0) (.str "folder") (.str own) (.str "lgw") (.str "lg") (.str "") (.ref nm) (.ref pl))→H' nm=some (.dK [])→H' pl=some (.dT [])→H' tr=some (.dK [(.inr "main",.int 0)])→Kp [x,t,ml,tr] H H'→Q (.int 0) H'
theorem Lr (T:Tx K mg):aA P w K mg base aO 5 T.rR.f T.rR.d ["self", "tree", "owner"] (OB T.au T.aD T.aG):=by
 refine T.rR.F.ok EK (fun vs H Q E h=>?_) (fun az A outer s H vs Q E hr h=>?_)
 ·exact fz h fun _ _ _ _=>rfl
 ·refine fz h fun x m own h=>?_;obtain ⟨rfl,dx,fs,c,t,dt,ml,tr,hx,aV,aN,hc,cU,fP,Bz,iR,q⟩:=h;obtain ⟨gs,d,ht,dW,sg⟩:=Bz.o;have gz:=Bz.ml;refine ⟨_,((Dv.cut (Dv.aS 3 EK.nd (Dv.bh T.cj T.lF.h (Hy T) (hr.mono (by decide)) T.lF.b .nil aw (Dv.fld T.aM T.gu (Dv.v 0)) (Dv.aa (Dv.v 2) (Dv.aa Dv.str (Dv.aa Dv.str Dv.ag)))))
  (Dv.cut (Dv.j9 T.aM T.tj kc (Dv.v 0) Dv.int)
  (Dv.cut (Dv.rO (en hr) (Dv.fld T.aM T.qd (Dv.v 0)) (Dv.v 1) (Dv.v 3))
  (Dv.aj (Dv.aP (Dv.v 3))))))).h,?_⟩
  refine stI [some (V.ref x),some (V.str "main"),some (V.str own),none] ?_;have n1:t≠x∨True:=.inr trivial;refine ao ?_;walk_at "w";refine ⟨x,dx,fs,.ref t,rfl,hx,aN,t,dt,gs,rfl,ht,(sg _).trans rfl,?_⟩;refine ⟨dt,ml,[],Bz,by simp,?_⟩;intro th cN nm pl ks H1 fth fnm fpl at1 hth1 hkl1 sk1 hnm1 vb gT;obtain ⟨gs',d',mr,Jb,By⟩:=at1.o;have jS:=at1.ml;have vv:x≠t:=fun e=>by
   rw [e,ht] at hx;injection hx with hx;injection hx with _ _ mw;rw [← mw] at aN;have:=(sg "things").symm.trans aN;cases this
  have J1:x≠ml:=fun e=>by rw [e,gz] at hx; cases hx
  have Kj:tr≠t:=fun e=>by rw [e,ht] at iR; cases iR
  have Kh:tr≠ml:=fun e=>by rw [e,gz] at iR; cases iR
  have JN:tr≠x:=fun e=>by rw [e,hx] at iR; cases iR
  have bu:H1 x=some (.ins T.au dx fs):=gT _ _ (by simp [vv,J1]) hx;have hTr1:H1 tr=some (.dK []):=gT _ _ (by simp [Kj,Kh]) iR;refine ao ?_;walk_at "w";refine ⟨x,dx,fs,.int c,rfl,bu,hc,_,_,rfl,rfl,dx,fs,bu,by omega,ao ?_⟩;walk_at "w";refine ⟨x,dx,_,.ref tr,rfl,ay,by rw [dC,if_neg (by decide)]; exact cU,tr,_,rfl,gD.k (k:=.inr "main") (by rw [ah JN]; exact hTr1) (by decide),?_⟩;walk_at "w";have old:∀ b o,H1 b=some o→b≠x→b≠tr→upd (upd H1 x (.ins T.au dx (ae "changes" (.int (c+1)) fs))) tr (.dK (putK [] (.inr "main") (.int 0))) b=some o:=fun b o e b1 b2=>by rw [ah b2,ah b1]; exact e
  have IL:th≠x∧th≠tr:=⟨Ne.symm (aF hx fth),Ne.symm (aF iR fth)⟩;have Km:nm≠x∧nm≠tr:=⟨Ne.symm (aF hx fnm),Ne.symm (aF iR fnm)⟩;have JJ:pl≠x∧pl≠tr:=⟨Ne.symm (aF hx fpl),Ne.symm (aF iR fpl)⟩;refine q th cN nm pl _ ks (c+1) _ fth fnm fpl (by rw [ah (Ne.symm JN),ay]) (Nat.le_of_eq (dQ hc)) (cB.refl _) ⟨⟨gs',d',old _ _ mr (Ne.symm vv) (Ne.symm Kj),Jb,By⟩,old _ _ jS (Ne.symm J1) (Ne.symm Kh)⟩ (old _ _ hth1 IL.1 IL.2) hkl1 sk1 (old _ _ hnm1 Km.1 Km.2) (old _ _ vb JJ.1 JJ.2) ay ?_;intro b o hb e;simp only [List.mem_cons,List.not_mem_nil,or_false,not_or] at hb;exact old _ _ (gT b o (by simp [hb.2.1,hb.2.2.1]) e) hb.1 hb.2.2.2
theorem lB (T:Tx K mg):aA P w K mg base (cm P w) 1 T.er.f T.er.d ["self", "asker"] (Hf T.au T.aD T.aG T.pI):=by
 refine T.er.F.di PF (fun vs H Q E h=>?_) (fun az A outer s H vs Q E hr h=>?_)
 ·exact t8 h fun _ _ _=>rfl
 ·refine t8 h fun x v h=>?_;obtain ⟨AA,L,M,i,rfl,⟨ty,cf⟩,q1,q2⟩:=h;obtain ⟨fs,c,hx,aV,sf⟩:=i.h;refine ⟨_,((Dv.aj (Dv.aX (Dv.dE (Dv.w_or (Dv.cC (Dv.cu (Dv.cA i0 T.fC fB (Dv.aa (Dv.v 1) (Dv.aa (Dv.js (.ty "str") T.j8 j0 rfl) Dv.ag))))) (Dv.iL (Dv.Et (en hr) (Dv.v 1) (Dv.fld T.aM T.rh (Dv.v 0)))))) (Dv.aj (Dv.Ab Au rfl T.La T.Vm (Dv.aa Dv.str Dv.ag))) Dv.nil))).h,?_⟩;refine stI [some (V.ref AA.a),some v] ?_;walk_at "w";simp only [cf,wA cf];refine ⟨tV _ rfl,?_⟩;cases v with
  | str z =>
   simp only [sW,Bool.not_true,Bool.false_eq_true,if_false];refine ⟨AA.a,_,_,.ref AA.ro,rfl,hx,(sf _).trans rfl,AA.ro,_,rfl,cQ.k (k:=.inr z) i.ro,?_⟩;cases hz:aJ (sD M.ro) (.inr z) with
   | none=>exact bM ⟨fits (by simp),q2 fun z' e=>by cases e; exact hz⟩
   | some u=>exact bf (q1 z rfl (by rw [hz]; rfl))
  | _=>exact ⟨fits (by simp),q2 fun z' e=>by cases e⟩
section
variable {T:Tx K mg} {H:Hp} {A:Ad} {L:List Ta} {M:Hs}
theorem ot {z:Str} {Q:VK} {E:XK} (i:aI T.au T.aD T.aG H A L M) (hz:(aJ (sD M.ro) (.inr z)).isSome=true) (q:Q .ax H):Hf T.au T.aD T.aG T.pI [.ref A.a,.str z] H Q E :=
 ⟨A,L,M,i,rfl,⟨_,rfl⟩,fun _ _ _=>q,fun h=>by rw [h z rfl] at hz; cases hz⟩
end
theorem lH (T:Tx K mg):aA P w K mg base aO 2 T.ej.f T.ej.d ["self", "asker"] (PR T.au T.aD T.aG):=by
 refine T.ej.F.ok VR (fun vs H Q E h=>?_) (fun az A outer s H vs Q E hr h=>?_)
 ·exact cJ h fun _ _ _=>rfl
 ·refine cJ h fun x z h=>?_;obtain ⟨AA,L,M,r,i,rfl,hz,q⟩:=h;obtain ⟨fs,c,hx,aV,sf⟩:=i.h;refine ⟨_,((Dv.cut (Dv.aW (Dv.dP T.aM T.er.h (lB T) (hr.mono (by decide)) T.er.b .nil fw (Dv.v 0) (Dv.aa (Dv.v 1) Dv.ag)))
  (Dv.aj (Dv.aP (Dv.qz (en hr) (Dv.fld T.aM T.rh (Dv.v 0)) (Dv.v 1)))))).h,?_⟩
  refine stI [some (V.ref AA.a),some (V.str z)] ?_;refine ao ?_;walk_at "w";refine ⟨AA.a,_,_,rfl,hx,(sf _).trans rfl,ot i (by rw [hz]; rfl) ?_⟩;refine ⟨AA.a,_,_,.ref AA.ro,rfl,hx,(sf _).trans rfl,AA.ro,.int r,rfl,?_,q⟩;have:=cQ.k (k:=.inr z) i.ro;rw [hz] at this;exact this
def Vr (CH CS CT:Addr):Sp:=f6 fun x z H Q _=>∃ A L M,∃ r:Nat,aI CH CS CT H A L M∧A.a=x∧(aJ (sD M.ro) (.inr z)).isSome=true∧aJ (sD M.st) (.inr z)=some (.int r)∧Q (.int r) H
theorem C0 (T:Tx K mg):aA P w K mg base aO 2 T.mm.f T.mm.d ["self", "asker"] (Vr T.au T.aD T.aG):=by
 refine T.mm.F.ok VY (fun vs H Q E h=>?_) (fun az A outer s H vs Q E hr h=>?_)
 ·exact cJ h fun _ _ _=>rfl
 ·refine cJ h fun x z h=>?_;obtain ⟨AA,L,M,r,i,rfl,hzr,hz,q⟩:=h;obtain ⟨fs,c,hx,aV,sf⟩:=i.h;refine ⟨_,((Dv.cut (Dv.aW (Dv.dP T.aM T.er.h (lB T) (hr.mono (by decide)) T.er.b .nil fw (Dv.v 0) (Dv.aa (Dv.v 1) Dv.ag)))
  (Dv.aj (Dv.aP (Dv.qz (en hr) (Dv.fld T.aM T.yf (Dv.v 0)) (Dv.v 1)))))).h,?_⟩
  refine stI [some (V.ref AA.a),some (V.str z)] ?_;refine ao ?_;walk_at "w";refine ⟨AA.a,_,_,rfl,hx,(sf _).trans rfl,ot i hzr ?_⟩;refine ⟨AA.a,_,_,.ref AA.st,rfl,hx,(sf _).trans rfl,AA.st,.int r,rfl,?_,q⟩;have:=cQ.k (k:=.inr z) i.st;rw [hz] at this;exact this
theorem wY (T:Tx K mg):aA P w K mg base aO 4 T.jB.f T.jB.d ["self", "number", "name"] (NV T.au T.aD T.aG):=by
 refine T.jB.F.ok P5 (fun vs H Q E h=>?_) (fun az A outer s H vs Q E hr h=>?_)
 ·exact oZ h fun _ _ _ _=>rfl
 ·refine oZ h fun x n z h=>?_;obtain ⟨AA,L,M,k,a,t,i,rfl,rfl,ha,aN,hn,hl,q⟩:=h;refine ⟨_,((Dv.cut (Dv.aW (Dv.call (zf T) (hr.mono (by decide)) T.gn.m T.gn.F.kp T.gn.b .nil aw (Dv.aa (Dv.v 2) Dv.ag)))
  (Dv.aj (Dv.aP (Dv.bh T.cj T.lP.h (GC T) (hr.mono (by decide)) T.lP.b .nil aw (Dv.fld T.aM T.gu (Dv.v 0)) (Dv.aa (Dv.v 1) (Dv.aa (Dv.v 2) Dv.ag))))))).h,?_⟩
  refine stI [some (V.ref AA.a),some (V.int (k:Int)),some (V.str z)] ?_;refine ao ?_;walk_at "w";refine ⟨⟨_,rfl⟩,hl,hn,fun H1 s1=>?_⟩;have i1:=i.same s1;obtain ⟨fs,c,hx,aV,sf⟩:=i1.h;obtain ⟨gs,c2,ht,dW,sg⟩:=i1.t;exact ⟨AA.a,_,_,.ref AA.t,rfl,hx,(sf _).trans rfl,AA.t,_,_,rfl,ht,(sg _).trans rfl,AA,L,M,k,a,t,i1,rfl,rfl,ha,aN,q H1 s1⟩
theorem wB (T:Tx K mg):aA P w K mg base (cm P w) 3 T.jf.f T.jf.d ["self", "asker", "number", "right"] (CU T.au T.aD T.aG T.pI T.sL T.pk):=by
 refine T.jf.F.di Ti (fun vs H Q E h=>?_) (fun az A outer s H vs Q E hr h=>?_)
 ·exact uK h fun _ _ _ _ _=>rfl
 ·refine uK h fun x wv v r h=>?_;obtain ⟨AA,L,M,i,rfl,hcw,hcv,hcr,q1,q2⟩:=h;obtain ⟨fs,c,hx,aV,sf⟩:=i.h;obtain ⟨gs,c2,ht,dW,sg⟩:=i.t;refine ⟨_,((Dv.cut (Dv.aW (Dv.dP T.aM T.er.h (lB T) (hr.mono (by decide)) T.er.b .nil cG (Dv.v 0) (Dv.aa (Dv.v 1) Dv.ag)))
  (Dv.cut (Dv.aW (Dv.dj (TQ T) (hr.mono (by decide)) T.oO.m T.oO.F.kp T.oO.b .nil cG (Dv.aa (Dv.v 3) Dv.ag)))
  (Dv.aj (Dv.aP (Dv.cmp (m8 (K:=K) rfl) (Dv.v 3) (Dv.bh T.cY T.pT.h (TF T) (hr.mono (by decide)) T.pT.b .nil aw (Dv.dP T.cj T.du.h (jr T) (hr.mono (by decide)) T.du.b .nil cG (Dv.fld T.aM T.gu (Dv.v 0)) (Dv.aa (Dv.v 2) Dv.ag)) (Dv.aa (Dv.v 1) Dv.ag)))))))).h,?_⟩
  refine stI [some (V.ref AA.a),some wv,some v,some r] ?_;refine ao ?_;walk_at "w";refine ⟨AA.a,_,_,rfl,hx,(sf _).trans rfl,AA,L,M,i,rfl,hcw,fun z ez hz=>?_,q1⟩;obtain ⟨q3,q4⟩:=q2 z ez hz;subst ez;refine ao ?_;walk_at "w";refine ⟨hcr,fun h1=>?_,q3⟩;obtain ⟨st,rfl⟩:∃ st,r=.str st:=by
   unfold iB at h1;simp only [Bool.or_eq_true,decide_eq_true_eq] at h1;rcases h1 with (h1 | h1) | h1 <;> exact ⟨_,h1⟩
  obtain ⟨q5,q6⟩:=q4 st rfl h1;refine ⟨AA.a,_,_,.ref AA.t,rfl,hx,(sf _).trans rfl,AA.t,_,_,rfl,ht,(sg _).trans rfl,AA,L,M,i,rfl,hcv,fun k a t ev ha aN=>?_,q5⟩;have cW:=fG i ha aN;obtain ⟨ks,ho,jZ,so⟩:=cW.o;exact ⟨a.th,_,_,rfl,ho,(so _).trans rfl,a,k,t,cW,rfl,q6 k t ev aN⟩
def M0 (z:Str):Hs:={ ts:=[{ kd := "folder",ow:=z,mi := "lgw",re := "lg",tx := "",aZ:=[],bU:=[] }],ro:=[(z,0)],st:=[(z,0)],tr:=[("main",0)],ov:=[],un:=[] }
def Ll (CH CS CT:Addr):Sp:=f6 fun x z H Q _=>(∃ dx,H x=some (.ins CH dx []))∧z.length≤1000∧dX (.str z)=true∧∀ A L H',A.a=x→aI CH CS CT H' A L (M0 z)→(∀ b∈A.w++L.flatMap Ta.l,b≠x→H b=none)→Kp [x] H H'→Q .ax H'
theorem K0 (T:Tx K mg):aA P w K mg base aO 6 T.pQ.f T.pQ.d ["self", "owner"] (Ll T.au T.aD T.aG):=by
 refine T.pQ.F.ok MV (fun vs H Q E h=>?_) (fun az A outer s H vs Q E hr h=>?_)
 ·exact cJ h fun _ _ _=>rfl
 ·refine cJ h fun x z h=>?_;obtain ⟨⟨dx,hx0⟩,jM,hn,q⟩:=h;refine ⟨_,((Dv.cut (Dv.aW (Dv.call (zf T) (hr.mono (by decide)) T.gn.m T.gn.F.kp T.gn.b .nil aw (Dv.aa (Dv.v 1) Dv.ag)))
  (Dv.cut (Dv.bz T.aM T.gu (Dv.v 0) (Dv.VX T.Qn (Pg T) (hr.mono (by decide)) T.O2 T.qw.b .nil aw))
  (Dv.cut (Dv.bz T.aM T.tj (Dv.v 0) Dv.int)
  (Dv.cut (Dv.bz T.aM T.rh (Dv.v 0) Dv.l6)
  (Dv.cut (Dv.bz T.aM T.yf (Dv.v 0) Dv.l6)
  (Dv.cut (Dv.bz T.aM T.qd (Dv.v 0) Dv.l6)
  (Dv.cut (Dv.bz T.aM T.xW (Dv.v 0) Dv.l6)
  (Dv.cut (Dv.bz T.aM T.uu (Dv.v 0) Dv.l6)
  (Dv.cut (Dv.bz T.aM T.Rx (Dv.v 0) Dv.l6)
  (Dv.cut (Dv.bz T.aM T.N7 (Dv.v 0) Dv.int)
  (Dv.cut (Dv.bz T.aM T.yI (Dv.v 0) (Dv.bh T.aM T.rR.h (Lr T) (hr.mono (by decide)) T.rR.b .nil aw (Dv.v 0) (Dv.aa (Dv.glob (.str "main") T.NZ ⟨_,rfl⟩) (Dv.aa (Dv.v 1) Dv.ag))))
  (Dv.aj (Dv.aW (Dv.bh T.aM T.lD.h (Fn T) (hr.mono (by decide)) T.lD.b .nil aw (Dv.v 0) (Dv.aa (Dv.v 1) Dv.ag)))))))))))))))).h,?_⟩
  refine stI [some (V.ref x),some (V.str z)] ?_;refine ao ?_;walk_at "w";refine ⟨⟨_,rfl⟩,jM,hn,fun H1 s1=>?_⟩;have bu:=s1 _ _ hx0;refine ao ?_;walk_at "w";intro t dt ht pK pj;refine ⟨dt,ay,fun ml H2 gz nml fr2 hml2 gs dW sg gd=>⟨rfl,?_⟩⟩;have vv:x≠t:=aF bu ht;have nxd:x≠dt:=aF bu pK;have hml':H1 ml=none:=by
   rw [ah nml] at gz;by_cases e:ml=dt
   ·rw [e,ay] at gz; cases gz
   ·rw [ah e] at gz; exact gz
  have s2:ai H1 H2:=fun b o e=>by
   rw [fr2 b (aF e ht) (aF e hml'),ah (aF e ht),ah (aF e pK)]; exact e
  refine ⟨x,dx,_,rfl,s2 _ _ bu,by decide,ao ?_⟩;have n1:t≠x:=Ne.symm vv;have n2:ml≠x:=Ne.symm (aF bu hml');have bL:upd H2 x (.ins T.au dx (ae "things" (.ref t) [])) x=some (.ins T.au dx (ae "things" (.ref t) [])):=ay;have t2:upd H2 x (.ins T.au dx (ae "things" (.ref t) [])) t=some (.ins T.aD dt gs):=by rw [ah n1]; exact gd
  have m2:upd H2 x (.ins T.au dx (ae "things" (.ref t) [])) ml=some (.lst []):=by rw [ah n2]; exact hml2
  have k2:Kp [x] H (upd H2 x (.ins T.au dx (ae "things" (.ref t) []))):=fun b o hb e=>by
   rw [ah (fun z=>hb (by simp [z]))]; exact s2 _ _ (s1 _ _ e)
  have ft:H t=none:=by
   cases e:H t with
   | none=>rfl
   | some o=>rw [s1 _ _ e] at ht; cases ht
  have Jq:H ml=none:=by
   cases e:H ml with
   | none=>rfl
   | some o=>rw [s1 _ _ e] at hml'; cases hml'
  clear fr2;generalize upd H2 x (.ins T.au dx (ae "things" (.ref t) []))=H3 at bL t2 m2 k2 ⊢;walk_at "w";refine ⟨x,dx,_,rfl,bL,by (refine Nat.lt_of_le_of_lt (m:=40) ?_ (by decide); (repeat (refine bO ?_)); exact Nat.zero_le _),ao ?_⟩;have cX:upd H3 x (.ins T.au dx (ae "changes" (.int 0) (ae "things" (.ref t) []))) x=some (.ins T.au dx (ae "changes" (.int 0) (ae "things" (.ref t) []))):=ay;have t3:upd H3 x (.ins T.au dx (ae "changes" (.int 0) (ae "things" (.ref t) []))) t=some (.ins T.aD dt gs):=by rw [ah n1]; exact t2
  have m3:upd H3 x (.ins T.au dx (ae "changes" (.int 0) (ae "things" (.ref t) []))) ml=some (.lst []):=by rw [ah n2]; exact m2
  have k3:Kp [x] H (upd H3 x (.ins T.au dx (ae "changes" (.int 0) (ae "things" (.ref t) [])))):=fun b o hb e=>by
   rw [ah (fun z=>hb (by simp [z]))]; exact k2 _ _ hb e
  generalize upd H3 x (.ins T.au dx (ae "changes" (.int 0) (ae "things" (.ref t) [])))=H4 at cX t3 m3 k3 ⊢;have fresh:∀ {J:Hp} {d:Addr},Kp [x] H J→d≠x→J d=none→H d=none:=fun {J d} k hd hn=>by
   cases e:H d with
   | none=>rfl
   | some o=>rw [k d o (by simp [hd]) e] at hn; cases hn
  walk_at "w";intro ro mD;refine ⟨x,dx,_,rfl,by rw [ah (aF cX mD)]; exact cX,by (refine Nat.lt_of_le_of_lt (m:=40) ?_ (by decide); (repeat (refine bO ?_)); exact Nat.zero_le _),ao ?_⟩;obtain ⟨gy,B0,kU,iV⟩:=jC (o:=.dK []) (O:=.ins T.au dx (ae "roots" (.ref ro) (ae "changes" (.int 0) (ae "things" (.ref t) [])))) mD cX;have JB:H ro=none:=fresh k3 iV mD;have k5:Kp [x] H (upd (upd H4 ro (.dK [])) x (.ins T.au dx (ae "roots" (.ref ro) (ae "changes" (.int 0) (ae "things" (.ref t) []))))):=fun b o hb e=>kU b o (fun z=>hb (by simp [z])) (k3 b o hb e);have Jr:=kU t _ n1 t3;have II:=kU ml _ n2 m3;clear kU;generalize upd (upd H4 ro (.dK [])) x (.ins T.au dx (ae "roots" (.ref ro) (ae "changes" (.int 0) (ae "things" (.ref t) []))))=H5 at gy B0 k5 Jr II ⊢;walk_at "w";intro st aQ;refine ⟨x,dx,_,rfl,by rw [ah (aF gy aQ)]; exact gy,by (refine Nat.lt_of_le_of_lt (m:=40) ?_ (by decide); (repeat (refine bO ?_)); exact Nat.zero_le _),ao ?_⟩;obtain ⟨vK,BN,sv,jI⟩:=jC (o:=.dK []) (O:=.ins T.au dx (ae "standings" (.ref st) (ae "roots" (.ref ro) (ae "changes" (.int 0) (ae "things" (.ref t) []))))) aQ gy;have IQ:H st=none:=fresh k5 jI aQ;have IE:ro≠st:=aF B0 aQ;have k6:Kp [x] H (upd (upd H5 st (.dK [])) x (.ins T.au dx (ae "standings" (.ref st) (ae "roots" (.ref ro) (ae "changes" (.int 0) (ae "things" (.ref t) [])))))):=fun b o hb e=>sv b o (fun z=>hb (by simp [z])) (k5 b o hb e);have Jt:=sv t _ n1 Jr;have IH:=sv ml _ n2 II;have AY:=sv ro _ iV B0;clear sv;generalize upd (upd H5 st (.dK [])) x (.ins T.au dx (ae "standings" (.ref st) (ae "roots" (.ref ro) (ae "changes" (.int 0) (ae "things" (.ref t) [])))))=H6 at vK BN k6 Jt IH AY ⊢;walk_at "w";intro tr cU;refine ⟨x,dx,_,rfl,by rw [ah (aF vK cU)]; exact vK,by (refine Nat.lt_of_le_of_lt (m:=40) ?_ (by decide); (repeat (refine bO ?_)); exact Nat.zero_le _),ao ?_⟩;obtain ⟨vn,A2,pN,mq⟩:=jC (o:=.dK []) (O:=.ins T.au dx (ae "tree_roots" (.ref tr) (ae "standings" (.ref st) (ae "roots" (.ref ro) (ae "changes" (.int 0) (ae "things" (.ref t) [])))))) cU vK;have IG:H tr=none:=fresh k6 mq cU;have AR:ro≠tr:=aF AY cU;have AM:st≠tr:=aF BN cU;have k7:Kp [x] H (upd (upd H6 tr (.dK [])) x (.ins T.au dx (ae "tree_roots" (.ref tr) (ae "standings" (.ref st) (ae "roots" (.ref ro) (ae "changes" (.int 0) (ae "things" (.ref t) []))))))):=fun b o hb e=>pN b o (fun z=>hb (by simp [z])) (k6 b o hb e);have IK:=pN t _ n1 Jt;have JK:=pN ml _ n2 IH;have BJ:=pN ro _ iV AY;have Bb:=pN st _ jI BN;clear pN;generalize upd (upd H6 tr (.dK [])) x (.ins T.au dx (ae "tree_roots" (.ref tr) (ae "standings" (.ref st) (ae "roots" (.ref ro) (ae "changes" (.int 0) (ae "things" (.ref t) []))))))=H7 at vn A2 k7 IK JK BJ Bb ⊢;walk_at "w";intro ov kO;refine ⟨x,dx,_,rfl,by rw [ah (aF vn kO)]; exact vn,by (refine Nat.lt_of_le_of_lt (m:=40) ?_ (by decide); (repeat (refine bO ?_)); exact Nat.zero_le _),ao ?_⟩;obtain ⟨vz,A9,mx,mK⟩:=jC (o:=.dK []) (O:=.ins T.au dx (ae "root_over" (.ref ov) (ae "tree_roots" (.ref tr) (ae "standings" (.ref st) (ae "roots" (.ref ro) (ae "changes" (.int 0) (ae "things" (.ref t) []))))))) kO vn;have fr_ov:H ov=none:=fresh k7 mK kO;have JV:ro≠ov:=aF BJ kO;have JC:st≠ov:=aF Bb kO;have J3:tr≠ov:=aF A2 kO;have k8:Kp [x] H (upd (upd H7 ov (.dK [])) x (.ins T.au dx (ae "root_over" (.ref ov) (ae "tree_roots" (.ref tr) (ae "standings" (.ref st) (ae "roots" (.ref ro) (ae "changes" (.int 0) (ae "things" (.ref t) [])))))))):=fun b o hb e=>mx b o (fun z=>hb (by simp [z])) (k7 b o hb e);have Iw:=mx t _ n1 IK;have Jp:=mx ml _ n2 JK;have Aw:=mx ro _ iV BJ;have Bv:=mx st _ jI Bb;have Bu:=mx tr _ mq A2;clear mx;generalize upd (upd H7 ov (.dK [])) x (.ins T.au dx (ae "root_over" (.ref ov) (ae "tree_roots" (.ref tr) (ae "standings" (.ref st) (ae "roots" (.ref ro) (ae "changes" (.int 0) (ae "things" (.ref t) [])))))))=H8 at vz A9 k8 Iw Jp Aw Bv Bu ⊢;walk_at "w";intro un fN;refine ⟨x,dx,_,rfl,by rw [ah (aF vz fN)]; exact vz,by (refine Nat.lt_of_le_of_lt (m:=40) ?_ (by decide); (repeat (refine bO ?_)); exact Nat.zero_le _),ao ?_⟩;obtain ⟨vD,AF,lb,pC⟩:=jC (o:=.dK []) (O:=.ins T.au dx (ae "folder_under" (.ref un) (ae "root_over" (.ref ov) (ae "tree_roots" (.ref tr) (ae "standings" (.ref st) (ae "roots" (.ref ro) (ae "changes" (.int 0) (ae "things" (.ref t) [])))))))) fN vz;have fr_un:H un=none:=fresh k8 pC fN;have Kf:ro≠un:=aF Aw fN;have IS:st≠un:=aF Bv fN;have Jm:tr≠un:=aF Bu fN;have eovun:ov≠un:=aF A9 fN;have k9:Kp [x] H (upd (upd H8 un (.dK [])) x (.ins T.au dx (ae "folder_under" (.ref un) (ae "root_over" (.ref ov) (ae "tree_roots" (.ref tr) (ae "standings" (.ref st) (ae "roots" (.ref ro) (ae "changes" (.int 0) (ae "things" (.ref t) []))))))))):=fun b o hb e=>lb b o (fun z=>hb (by simp [z])) (k8 b o hb e);have J6:=lb t _ n1 Iw;have Jg:=lb ml _ n2 Jp;have Ay:=lb ro _ iV Aw;have Bl:=lb st _ jI Bv;have AL:=lb tr _ mq Bu;have A4:=lb ov _ mK A9;clear lb;generalize upd (upd H8 un (.dK [])) x (.ins T.au dx (ae "folder_under" (.ref un) (ae "root_over" (.ref ov) (ae "tree_roots" (.ref tr) (ae "standings" (.ref st) (ae "roots" (.ref ro) (ae "changes" (.int 0) (ae "things" (.ref t) []))))))))=H9 at vD AF k9 J6 Jg Ay Bl AL A4 ⊢;walk_at "w";intro ho hho;refine ⟨x,dx,_,rfl,by rw [ah (aF vD hho)]; exact vD,by (refine Nat.lt_of_le_of_lt (m:=40) ?_ (by decide); (repeat (refine bO ?_)); exact Nat.zero_le _),ao ?_⟩;obtain ⟨Ji,Jn,jQ,JM⟩:=jC (o:=.dK []) (O:=.ins T.au dx (ae "holds" (.ref ho) (ae "folder_under" (.ref un) (ae "root_over" (.ref ov) (ae "tree_roots" (.ref tr) (ae "standings" (.ref st) (ae "roots" (.ref ro) (ae "changes" (.int 0) (ae "things" (.ref t) []))))))))) hho vD;have fr_ho:H ho=none:=fresh k9 JM hho;have eroho:ro≠ho:=aF Ay hho;have estho:st≠ho:=aF Bl hho;have etrho:tr≠ho:=aF AL hho;have eovho:ov≠ho:=aF A4 hho;have eunho:un≠ho:=aF AF hho;have r6:Kp [x] H (upd (upd H9 ho (.dK [])) x (.ins T.au dx (ae "holds" (.ref ho) (ae "folder_under" (.ref un) (ae "root_over" (.ref ov) (ae "tree_roots" (.ref tr) (ae "standings" (.ref st) (ae "roots" (.ref ro) (ae "changes" (.int 0) (ae "things" (.ref t) [])))))))))):=fun b o hb e=>jQ b o (fun z=>hb (by simp [z])) (k9 b o hb e);have IB:=jQ t _ n1 J6;have IW:=jQ ml _ n2 Jg;have Kk:=jQ ro _ iV Ay;have Il:=jQ st _ jI Bl;have JH:=jQ tr _ mq AL;have IY:=jQ ov _ mK A4;have IA:=jQ un _ pC AF;clear jQ;generalize upd (upd H9 ho (.dK [])) x (.ins T.au dx (ae "holds" (.ref ho) (ae "folder_under" (.ref un) (ae "root_over" (.ref ov) (ae "tree_roots" (.ref tr) (ae "standings" (.ref st) (ae "roots" (.ref ro) (ae "changes" (.int 0) (ae "things" (.ref t) [])))))))))=eP at Ji Jn r6 IB IW Kk Il JH IY IA ⊢;walk_at "w";refine ⟨x,dx,_,rfl,Ji,by (refine Nat.lt_of_le_of_lt (m:=40) ?_ (by decide); (repeat (refine bO ?_)); exact Nat.zero_le _),ao ?_⟩;have jP:upd eP x (.ins T.au dx (ae "holds_given" (.int 0) (ae "holds" (.ref ho) (ae "folder_under" (.ref un) (ae "root_over" (.ref ov) (ae "tree_roots" (.ref tr) (ae "standings" (.ref st) (ae "roots" (.ref ro) (ae "changes" (.int 0) (ae "things" (.ref t) [])))))))))) x=some (.ins T.au dx (ae "holds_given" (.int 0) (ae "holds" (.ref ho) (ae "folder_under" (.ref un) (ae "root_over" (.ref ov) (ae "tree_roots" (.ref tr) (ae "standings" (.ref st) (ae "roots" (.ref ro) (ae "changes" (.int 0) (ae "things" (.ref t) [])))))))))):=ay;have eB:upd eP x (.ins T.au dx (ae "holds_given" (.int 0) (ae "holds" (.ref ho) (ae "folder_under" (.ref un) (ae "root_over" (.ref ov) (ae "tree_roots" (.ref tr) (ae "standings" (.ref st) (ae "roots" (.ref ro) (ae "changes" (.int 0) (ae "things" (.ref t) [])))))))))) t=some (.ins T.aD dt gs):=by rw [ah n1]; exact IB
  have et:upd eP x (.ins T.au dx (ae "holds_given" (.int 0) (ae "holds" (.ref ho) (ae "folder_under" (.ref un) (ae "root_over" (.ref ov) (ae "tree_roots" (.ref tr) (ae "standings" (.ref st) (ae "roots" (.ref ro) (ae "changes" (.int 0) (ae "things" (.ref t) [])))))))))) ml=some (.lst []):=by rw [ah n2]; exact IW
  have fI:upd eP x (.ins T.au dx (ae "holds_given" (.int 0) (ae "holds" (.ref ho) (ae "folder_under" (.ref un) (ae "root_over" (.ref ov) (ae "tree_roots" (.ref tr) (ae "standings" (.ref st) (ae "roots" (.ref ro) (ae "changes" (.int 0) (ae "things" (.ref t) [])))))))))) ro=some (.dK []):=by rw [ah iV]; exact Kk
  have fQ:upd eP x (.ins T.au dx (ae "holds_given" (.int 0) (ae "holds" (.ref ho) (ae "folder_under" (.ref un) (ae "root_over" (.ref ov) (ae "tree_roots" (.ref tr) (ae "standings" (.ref st) (ae "roots" (.ref ro) (ae "changes" (.int 0) (ae "things" (.ref t) [])))))))))) st=some (.dK []):=by rw [ah jI]; exact Il
  have mJ:upd eP x (.ins T.au dx (ae "holds_given" (.int 0) (ae "holds" (.ref ho) (ae "folder_under" (.ref un) (ae "root_over" (.ref ov) (ae "tree_roots" (.ref tr) (ae "standings" (.ref st) (ae "roots" (.ref ro) (ae "changes" (.int 0) (ae "things" (.ref t) [])))))))))) tr=some (.dK []):=by rw [ah mq]; exact JH
  have jK:upd eP x (.ins T.au dx (ae "holds_given" (.int 0) (ae "holds" (.ref ho) (ae "folder_under" (.ref un) (ae "root_over" (.ref ov) (ae "tree_roots" (.ref tr) (ae "standings" (.ref st) (ae "roots" (.ref ro) (ae "changes" (.int 0) (ae "things" (.ref t) [])))))))))) ov=some (.dK []):=by rw [ah mK]; exact IY
  have jU:upd eP x (.ins T.au dx (ae "holds_given" (.int 0) (ae "holds" (.ref ho) (ae "folder_under" (.ref un) (ae "root_over" (.ref ov) (ae "tree_roots" (.ref tr) (ae "standings" (.ref st) (ae "roots" (.ref ro) (ae "changes" (.int 0) (ae "things" (.ref t) [])))))))))) un=some (.dK []):=by rw [ah pC]; exact IA
  have gho11:upd eP x (.ins T.au dx (ae "holds_given" (.int 0) (ae "holds" (.ref ho) (ae "folder_under" (.ref un) (ae "root_over" (.ref ov) (ae "tree_roots" (.ref tr) (ae "standings" (.ref st) (ae "roots" (.ref ro) (ae "changes" (.int 0) (ae "things" (.ref t) [])))))))))) ho=some (.dK []):=by rw [ah JM]; exact Jn
  have mU:Kp [x] H (upd eP x (.ins T.au dx (ae "holds_given" (.int 0) (ae "holds" (.ref ho) (ae "folder_under" (.ref un) (ae "root_over" (.ref ov) (ae "tree_roots" (.ref tr) (ae "standings" (.ref st) (ae "roots" (.ref ro) (ae "changes" (.int 0) (ae "things" (.ref t) []))))))))))):=fun b o hb e=>by rw [ah (fun z=>hb (by simp [z]))]; exact r6 b o hb e
  generalize upd eP x (.ins T.au dx (ae "holds_given" (.int 0) (ae "holds" (.ref ho) (ae "folder_under" (.ref un) (ae "root_over" (.ref ov) (ae "tree_roots" (.ref tr) (ae "standings" (.ref st) (ae "roots" (.ref ro) (ae "changes" (.int 0) (ae "things" (.ref t) []))))))))))=H11 at jP mU eB et fI fQ mJ jK jU gho11 ⊢;walk_at "w";refine ⟨x,dx,_,rfl,jP,rfl,?_⟩;refine ⟨rfl,dx,_,0,t,dt,ml,tr,jP,by (repeat (refine bO ?_)); exact Nat.zero_le _,rfl,rfl,rfl,rfl,⟨⟨gs,0,eB,dW,sg⟩,et⟩,mJ,?_⟩;intro th cN nm pl fs' ks c' H12 fth fnm fpl hxA hflA BZ atA hthA hklA skA hnmA hplA htrA si;obtain ⟨gs',d',htA,hglA,sgA⟩:=atA.o;have hmlA:=atA.ml;have lkA:∀ f:Str,f ≠ "changes" → fs'.lookup f=(ae "holds_given" (.int 0) (ae "holds" (.ref ho) (ae "folder_under" (.ref un) (ae "root_over" (.ref ov) (ae "tree_roots" (.ref tr) (ae "standings" (.ref st) (ae "roots" (.ref ro) (ae "changes" (.int 0) (ae "things" (.ref t) []))))))))).lookup f:=fun f hf=>by rw [BZ f,dC,if_neg hf]
  have qro:H12 ro=some (.dK []):=si _ _ (by simp [iV,bN fI eB (by nofun),bN fI et (by nofun),AR]) fI;have qst:H12 st=some (.dK []):=si _ _ (by simp [jI,bN fQ eB (by nofun),bN fQ et (by nofun),AM]) fQ;have qun:H12 un=some (.dK []):=si _ _ (by simp [pC,bN jU eB (by nofun),bN jU et (by nofun),Ne.symm Jm]) jU;have qov:H12 ov=some (.dK []):=si _ _ (by simp [mK,bN jK eB (by nofun),bN jK et (by nofun),Ne.symm J3]) jK;have hlN:(ae "holds_given" (.int 0) (ae "holds" (.ref ho) (ae "folder_under" (.ref un) (ae "root_over" (.ref ov) (ae "tree_roots" (.ref tr) (ae "standings" (.ref st) (ae "roots" (.ref ro) (ae "changes" (.int 0) (ae "things" (.ref t) []))))))))).length≤9:=by (repeat (refine bO ?_)); exact Nat.zero_le _
  have se:∀ f:Str,f ≠ "first_root" → f ≠ "changes" → (ae "first_root" (.int 0) fs').lookup f=(ae "holds_given" (.int 0) (ae "holds" (.ref ho) (ae "folder_under" (.ref un) (ae "root_over" (.ref ov) (ae "tree_roots" (.ref tr) (ae "standings" (.ref st) (ae "roots" (.ref ro) (ae "changes" (.int 0) (ae "things" (.ref t) []))))))))).lookup f:=fun f h1 h2=>by rw [dC,if_neg h1]; exact lkA f h2
  refine ⟨x,dx,fs',rfl,hxA,by omega,?_⟩;refine ⟨x,dx,_,rfl,ay,(se _ (by decide) (by decide)).trans rfl,?_⟩;refine ⟨dx,_,c',ro,st,[],[],ay,Nat.le_trans (bO (Nat.le_trans hflA hlN)) (by decide),by rw [dC,if_neg (by decide),BZ,dC,if_pos rfl],(se _ (by decide) (by decide)).trans rfl,(se _ (by decide) (by decide)).trans rfl,by rw [dC,if_pos rfl],(se _ (by decide) (by decide)).trans rfl,(se _ (by decide) (by decide)).trans rfl,by rw [ah iV]; exact qro,by decide,by rw [ah jI]; exact qst,by decide,IE,?_⟩;intro gU c3 H13 hx13 hU fk hro3 hst3 vm;have old:∀ b o,b≠x→b≠ro→b≠st→H12 b=some o→H13 b=some o:=fun b o b1 b2 b3 e=>by rw [vm b b1 b2 b3,ah b1]; exact e
  refine q ⟨x,dx,t,dt,ml,ro,st,tr,ov,un,ho⟩ [⟨th,cN,nm,pl⟩] H13 rfl ⟨⟨gU,c3,hx13,hU,fun f=>?_⟩,⟨gs',d',old _ _ (n1) (bN eB fI (by nofun)) (bN eB fQ (by nofun)) htA,hglA,sgA⟩,old _ _ (n2) (bN et fI (by nofun)) (bN et fQ (by nofun)) hmlA,rfl,fun j tt e=>?_,hro3,hst3,old _ _ (mq) (Ne.symm AR) (Ne.symm AM) htrA,old _ _ (mK) (Ne.symm JV) (Ne.symm JC) qov,old _ _ (pC) (Ne.symm Kf) (Ne.symm IS) qun,?_⟩ ?_ ?_
  ·rw [fk f];refine ((BZ.put "first_root" (.int 0)).put "changes" (.int c3) f).trans rfl
  ·have hj:j=0:=by
    have:=(List.getElem?_eq_some_iff.mp e).1;have h1:(M0 z).ts.length=1:=rfl;omega
   subst hj;cases e;exact ⟨_,rfl,⟨⟨ks,old _ _ (Ne.symm (aF jP fth)) (Ne.symm (aF fI fth)) (Ne.symm (aF fQ fth)) hthA,hklA,skA⟩,old _ _ (Ne.symm (aF jP fnm)) (Ne.symm (aF fI fnm)) (Ne.symm (aF fQ fnm)) hnmA,old _ _ (Ne.symm (aF jP fpl)) (Ne.symm (aF fI fpl)) (Ne.symm (aF fQ fpl)) hplA⟩⟩
  ·show List.Nodup [x,t,ml,ro,st,tr,ov,un,th,nm,pl];simp only [List.nodup_cons,List.mem_cons,List.not_mem_nil,or_false,not_or,not_false_eq_true,List.nodup_nil,and_true];exact ⟨⟨Ne.symm n1,Ne.symm n2,Ne.symm iV,Ne.symm jI,Ne.symm mq,Ne.symm mK,Ne.symm pC,aF jP fth,aF jP fnm,aF jP fpl⟩,⟨bN eB et (by nofun),bN eB fI (by nofun),bN eB fQ (by nofun),bN eB mJ (by nofun),bN eB jK (by nofun),bN eB jU (by nofun),aF eB fth,aF eB fnm,aF eB fpl⟩,⟨bN et fI (by nofun),bN et fQ (by nofun),bN et mJ (by nofun),bN et jK (by nofun),bN et jU (by nofun),aF et fth,aF et fnm,aF et fpl⟩,⟨IE,AR,JV,Kf,aF fI fth,aF fI fnm,aF fI fpl⟩,⟨AM,JC,IS,aF fQ fth,aF fQ fnm,aF fQ fpl⟩,⟨J3,Jm,aF mJ fth,aF mJ fnm,aF mJ fpl⟩,⟨eovun,aF jK fth,aF jK fnm,aF jK fpl⟩,⟨aF jU fth,aF jU fnm,aF jU fpl⟩,⟨bN hthA hnmA (by nofun),bN hthA hplA (by nofun)⟩,bN hnmA hplA (by nofun)⟩
  ·intro b hb mF;have hb':b∈[x,t,ml,ro,st,tr,ov,un,th,nm,pl]:=hb;simp only [List.mem_cons,List.not_mem_nil,or_false] at hb';rcases hb' with rfl | rfl | rfl | rfl | rfl | rfl | rfl | rfl | rfl | rfl | rfl
   ·exact absurd rfl mF
   ·exact ft
   ·exact Jq
   ·exact JB
   ·exact IQ
   ·exact IG
   ·exact fr_ov
   ·exact fr_un
   ·exact fresh mU mF fth
   ·exact fresh mU mF fnm
   ·exact fresh mU mF fpl
  ·intro b o hb e;have mF:b≠x:=fun z=>hb (by simp [z]);refine old b o mF (aF e JB) (aF e IQ) (si b o ?_ (mU b o hb e));simp only [List.mem_cons,List.not_mem_nil,or_false,not_or];exact ⟨mF,aF e ft,aF e Jq,aF e IG⟩
def Q5 (CH CS CT:Addr):Sp:=f6 fun x z H Q _=>∃ A L M,aI CH CS CT H A L M∧A.a=x∧z.length≤1000∧dX (.str z)=true∧M.ro.length≤30∧M.st.length≤30∧aJ (sD M.ro) (.inr z)=none∧aJ (sD M.st) (.inr z)=none ∧
   ∀ H',aI CH CS CT H' A L { M with ro:=M.ro++[(z,0)],st:=M.st++[(z,0)] }→Kp [A.a,A.ro,A.st] H H'→Q .ax H'
theorem Fu (T:Tx K mg):aA P w K mg base aO 3 T.lT.f T.lT.d ["self", "name"] (Q5 T.au T.aD T.aG):=by
 refine T.lT.F.ok LB (fun vs H Q E h=>?_) (fun az A outer s H vs Q E hr h=>?_)
 ·exact cJ h fun _ _ _=>rfl
 ·refine cJ h fun x z h=>?_;obtain ⟨AA,L,M,i,rfl,jM,hn,sd,hsl,Kd,hs0,q⟩:=h;refine ⟨_,((Dv.cut (Dv.aW (Dv.call (zf T) (hr.mono (by decide)) T.gn.m T.gn.F.kp T.gn.b .nil aw (Dv.aa (Dv.v 1) Dv.ag)))
  (Dv.cut (Dv.aX (Dv.zB (en hr) (Dv.v 1) (Dv.fld T.aM T.rh (Dv.v 0))) (Dv.aj Dv.cR) Dv.nil)
  (Dv.aj (Dv.aW (Dv.bh T.aM T.lD.h (Fn T) (hr.mono (by decide)) T.lD.b .nil aw (Dv.v 0) (Dv.aa (Dv.v 1) Dv.ag))))))).h,?_⟩
  refine stI [some (V.ref AA.a),some (V.str z)] ?_;refine ao ?_;walk_at "w";refine ⟨⟨_,rfl⟩,jM,hn,fun H1 s1=>?_⟩;have i1:=i.same s1;obtain ⟨fs,c,hx,aV,sf⟩:=i1.h;have nd:=i1.nd;rw [List.nodup_append] at nd;have AQ:=nd.1;simp only [Ad.w,List.nodup_cons,List.mem_cons,List.not_mem_nil,or_false,not_or] at AQ;refine ao ?_;walk_at "w";refine ⟨AA.a,_,_,.ref AA.ro,rfl,hx,(sf _).trans rfl,AA.ro,_,rfl,cQ.k (k:=.inr z) i1.ro,?_⟩;rw [Kd];refine bf ?_;walk_at "w";refine ⟨AA.a,_,_,rfl,hx,(sf _).trans rfl,AA.dx,fs,c,AA.ro,AA.st,_,_,hx,aV,(sf _).trans rfl,(sf _).trans rfl,(sf _).trans rfl,(sf _).trans rfl,(sf _).trans rfl,(sf _).trans rfl,i1.ro,by unfold sD; rw [List.length_map]; omega,i1.st,by unfold sD; rw [List.length_map]; omega,AQ.2.2.2.1.1,?_⟩;intro fs' c' H' hx' hfl' sf' hro' hst' fr';have e1:putK (sD M.ro) (.inr z) (.int 0)=sD (M.ro++[(z,0)]):=wk Kd;have e2:putK (sD M.st) (.inr z) (.int 0)=sD (M.st++[(z,0)]):=wk hs0;rw [e1] at hro';rw [e2] at hst';have kp:Kp [AA.a,AA.ro,AA.st] H1 H':=fun b o hb e=>by
   simp only [List.mem_cons,List.not_mem_nil,or_false,not_or] at hb;rw [fr' b hb.1 hb.2.1 hb.2.2]; exact e
  have sC:∀ b∈[AA.t,AA.ml,AA.tr,AA.ov,AA.un],b ∉ [AA.a,AA.ro,AA.st]:=by
   intro b hb hm;simp only [List.mem_cons,List.not_mem_nil,or_false] at hb hm;obtain ⟨⟨a1,a2,a3,a4,a5,a6,a7⟩,⟨b1,b2,b3,b4,b5,b6⟩,⟨c1,c2,c3,c4,c5⟩,⟨d1,d2,d3,d4⟩,⟨f1,f2,f3⟩,_⟩:=AQ;rcases hb with rfl | rfl | rfl | rfl | rfl <;> rcases hm with h | h | h <;> first
    | exact a1 h.symm | exact a2 h.symm | exact a5 h.symm | exact a6 h.symm | exact a7 h.symm
    | exact b2 h | exact b3 h | exact c1' h | exact c1 h | exact c2 h | exact c3 h
    | exact d2 h.symm | exact d3 h.symm | exact d4 h.symm | exact f1 h.symm | exact f2 h.symm | exact f3 h.symm | exact b1 h | exact b4 h
  refine q H' ⟨⟨fs',c',hx',hfl',fun f=>?_⟩,?_,kp _ _ (sC _ (by simp)) i1.ml,i1.len,fun j t e=>?_,hro',hst',kp _ _ (sC _ (by simp)) i1.tr,kp _ _ (sC _ (by simp)) i1.ov,kp _ _ (sC _ (by simp)) i1.un,i1.nd⟩ (fun b o hb e=>kp b o hb (s1 b o e))
  ·rw [sf' f,dC,sf f];by_cases e:f = "changes"
   ·rw [if_pos e,e]; rfl
   ·rw [if_neg e];exact Vy e
  ·obtain ⟨gs,d,e,r⟩:=i1.t;exact ⟨gs,d,kp _ _ (sC _ (by simp)) e,r⟩
  ·obtain ⟨a,e1,h1⟩:=i1.th j t e;refine ⟨a,e1,h1.keep kp fun b hb hm=>?_⟩;have:=i1.lS e1;simp only [List.mem_cons,List.not_mem_nil,or_false] at hm;rcases hm with rfl | rfl | rfl
   ·exact this _ (by simp [Ad.w]) _ hb rfl
   ·exact this _ (by simp [Ad.w]) _ hb rfl
   ·exact this _ (by simp [Ad.w]) _ hb rfl
def nY (M:Hs):Nat→Nat→Nat→Prop
 | 0,k,b=>aJ (nD M.un) (.inl (k:Int))=none∧b=k
 | n+1,k,b=>∃ k':Nat,aJ (nD M.un) (.inl (k:Int))=some (.int (k':Int))∧nY M n k' b
def lC (M:Hs):Nat→Nat→List Nat→Prop
 | 0,k,l=>aJ (nD M.ov) (.inl (k:Int))=none∧l=[]
 | n+1,k,l=>∃ (k':Nat) (r:List Nat),aJ (nD M.ov) (.inl (k:Int))=some (.int (k':Int))∧lC M n k' r∧l=k'::r
def dv (M:Hs) (k b:Nat) (r:List Nat):Prop:=(∃ n,nY M n k b)∧∃ n,lC M n b r∧n≤100
theorem lC.len {M:Hs}:∀ {n k:Nat} {l:List Nat},lC M n k l→l.length=n
 | 0,_,_,h=>by rw [h.2]; rfl
 | n+1,_,_,h=>by obtain ⟨k',r,_,h2,rfl⟩:=h; simp [h2.len]
abbrev nV (l:List Nat):List V:=l.map fun n:Nat=>V.int (n:Int)
def cP (b:Nat) (r:List Nat):Nat:=(b::r).getLast (by simp)
def NN (CH CS CT:Addr):Sp:=jd fun x n H Q _=>∃ A L M,∃ k b:Nat,∃ a t,aI CH CS CT H A L M∧A.a=x∧n=(k:Int)∧L[k]?=some a∧M.ts[k]?=some t∧(∃ m,nY M m k b)∧Q (.int (b:Int)) H
def K8 (CH CS CT:Addr):Sp:=jd fun x n H Q _=>∃ A L M,∃ k b:Nat,∃ r a t,aI CH CS CT H A L M∧A.a=x∧n=(k:Int)∧L[k]?=some a∧M.ts[k]?=some t∧dv M k b r∧∀ l H',ai H H'→H l=none→H' l=some (.lst (nV (b::r)))→Q (.ref l) H'
def Nb (CH CS CT:Addr):Sp:=jd fun x n H Q _=>∃ A L M,∃ k b:Nat,∃ r a t,aI CH CS CT H A L M∧A.a=x∧n=(k:Int)∧L[k]?=some a∧M.ts[k]?=some t∧dv M k b r∧∀ H',ai H H'→Q (.int (cP b r:Nat)) H'
theorem Um (T:Tx K mg):aA P w K mg base aO 4 T.oh.f T.oh.d ["house", "folder"] (NN T.au T.aD T.aG):=by
 refine T.oh.F.ok xj (fun vs H Q E h=>?_) (fun az A outer s H vs Q E hr h=>?_)
 ·exact cD h fun _ _ _=>rfl
 ·refine cD h fun x n h=>?_;obtain ⟨AA,L,M,k,b,a,t,i,rfl,rfl,ha,aN,⟨m,hb⟩,q⟩:=h;obtain ⟨fs,c,hx,aV,sf⟩:=i.h;refine ⟨_,((Dv.cut (Dv.aW (Dv.bh T.aM T.rG.h (SE T) (hr.mono (by decide)) T.rG.b .nil aw (Dv.v 0) (Dv.aa (Dv.v 1) Dv.ag)))
  (Dv.cut (Dv.aS 2 xj.nd (Dv.v 1))
  (Dv.cut (Dv.jE PassesOwn.never (Dv.zB (en hr) (Dv.v 2) (Dv.fld T.aM T.uu (Dv.v 0))) (Dv.aj (Dv.aS 2 xj.nd (Dv.qz (en hr) (Dv.fld T.aM T.uu (Dv.v 0)) (Dv.v 2)))))
  (Dv.aj (Dv.aP (Dv.v 2))))))).h,?_⟩
  refine stI [some (V.ref AA.a),some (V.int (k:Int)),none] ?_;refine ao ?_;walk_at "w";refine ⟨AA.a,_,_,rfl,hx,(sf _).trans rfl,AA,L,M,k,a,t,i,rfl,rfl,ha,aN,?_⟩;refine ao ?_;walk_at "w";refine ao ⟨fun m σ' H'=>∃ j:Nat,σ'=[some (V.ref AA.a),some (V.int (k:Int)),some (V.int (j:Int))]∧H'=H∧nY M m j b,⟨m,k,rfl,rfl,hb⟩,?_⟩;rintro m σ' H' ⟨j,rfl,rfl,hj⟩;walk_at "w";refine ⟨AA.a,_,_,.ref AA.un,rfl,hx,(sf _).trans rfl,AA.un,_,rfl,cQ.k (k:=.inl (j:Int)) i.un,?_⟩;cases m with
  | zero =>
   obtain ⟨h0,rfl⟩:=hj;rw [h0];exact bf q
  | succ m =>
   obtain ⟨k',h0,h1⟩:=hj;rw [h0];refine bM ⟨fun σ' H''=>∃ j:Nat,σ'=[some (V.ref AA.a),some (V.int (k:Int)),some (V.int (j:Int))]∧H''=H'∧nY M m j b,fun σ' H' z=>⟨m,Nat.lt_succ_self m,z⟩,?_⟩;walk_at "w";refine ⟨AA.a,_,_,.ref AA.un,rfl,hx,(sf _).trans rfl,AA.un,.int (k':Int),rfl,?_,k',rfl,by trivial,h1⟩;have:=cQ.k (k:=.inl (j:Int)) i.un;rw [h0] at this;exact this
theorem nR {a b:List Nat}:nV (a++b)=nV a++nV b:=List.map_append
theorem m9 (T:Tx K mg):aA P w K mg base aO 5 T.dw.f T.dw.d ["house", "folder"] (K8 T.au T.aD T.aG):=by
 refine T.dw.F.ok FX (fun vs H Q E h=>?_) (fun az A outer s H vs Q E hr h=>?_)
 ·exact cD h fun _ _ _=>rfl
 ·refine cD h fun x n h=>?_;obtain ⟨AA,L,M,k,b,r,a,t,i,rfl,rfl,ha,aN,⟨hb,⟨m,hu,hm⟩⟩,q⟩:=h;have hlen:=hu.len;refine ⟨_,((Dv.cut (Dv.aS 2 FX.nd (Dv.lst (Dv.aa (Dv.call (Um T) (hr.mono (by decide)) T.oh.m T.oh.F.kp T.oh.b .nil aw (Dv.aa (Dv.v 0) (Dv.aa (Dv.v 1) Dv.ag))) Dv.ag)))
  (Dv.cut (Dv.jE PassesOwn.never (Dv.zB (en hr) (Dv.ix (br (K:=K) rfl) (Dv.v 2) (Dv.un iz Dv.int)) (Dv.fld T.aM T.xW (Dv.v 0))) (Dv.aj (Dv.aW (Dv.ir PySem.F.slot_list_append PySem.F.type_list_append kM (Dv.v 2) (Dv.aa (Dv.qz (en hr) (Dv.fld T.aM T.xW (Dv.v 0)) (Dv.ix (br (K:=K) rfl) (Dv.v 2) (Dv.un iz Dv.int))) Dv.ag)))))
  (Dv.aj (Dv.aP (Dv.v 2)))))).h,?_⟩
  refine stI [some (V.ref AA.a),some (V.int (k:Int)),none] ?_;refine ao ?_;walk_at "w";refine ⟨AA,L,M,k,b,a,t,i,rfl,rfl,ha,aN,hb,fits (by simp),fun l hl=>?_⟩;have s1:=ai.upd (o:=.lst [V.int (b:Int)]) hl;have b1:upd H l (.lst [V.int (b:Int)]) l=some (.lst [V.int (b:Int)]):=ay;generalize upd H l (.lst [V.int (b:Int)])=H1 at s1 b1 ⊢;refine ao ⟨fun m σ' H'=>ai H H'∧∃ (pre:List Nat) (j:Nat) (r':List Nat),σ'=[some (V.ref AA.a),some (V.int (k:Int)),some (V.ref l)]∧H' l=some (.lst (nV pre++[V.int (j:Int)]))∧lC M m j r'∧pre++j::r'=b::r,⟨m,s1,[],b,r,rfl,b1,hu,rfl⟩,?_⟩;rintro m σ' H' ⟨s',pre,j,r',rfl,hl',hj,hp⟩;have i1:=i.same s';obtain ⟨fs,c,hx,aV,sf⟩:=i1.h;walk_at "w";simp only [bG,hl',je];refine ⟨AA.a,_,_,.ref AA.ov,rfl,hx,(sf _).trans rfl,AA.ov,_,rfl,cQ.k (k:=.inl (j:Int)) i1.ov,?_⟩;cases m with
  | zero =>
   obtain ⟨h0,rfl⟩:=hj;rw [h0];refine bf (q l H' s' hl ?_);rw [hl',← hp,nR];rfl
  | succ m =>
   obtain ⟨k',r2,h0,h1,rfl⟩:=hj;rw [h0];refine bM ⟨fun σ' H'=>ai H H'∧∃ (pre:List Nat) (j:Nat) (r':List Nat),σ'=[some (V.ref AA.a),some (V.int (k:Int)),some (V.ref l)]∧H' l=some (.lst (nV pre++[V.int (j:Int)]))∧lC M m j r'∧pre++j::r'=b::r,fun σ' H' z=>⟨m,Nat.lt_succ_self m,z⟩,?_⟩;walk_at "w";refine ⟨AA.a,_,_,.ref AA.ov,rfl,hx,(sf _).trans rfl,AA.ov,.int (k':Int),rfl,?_,?_⟩
   ·have:=cQ.k (k:=.inl (j:Int)) i1.ov;rw [h0] at this;exact this
   have bb:(pre++[j]).length≤102:=by
    have:=congrArg List.length hp;simp at this ⊢;omega
   refine ⟨gP (by simp at bb ⊢; omega),s'.eL hl,pre++[j],k',r2,by trivial,?_,h1,?_⟩
   ·rw [ay,nR]; rfl
   ·rw [← hp]; simp
theorem FW {b:Nat} {r:List Nat}:∃ pre,b::r=pre++[cP b r]:=⟨(b::r).dropLast,by unfold cP; exact (List.dropLast_concat_getLast (by simp)).symm⟩
theorem x8 (T:Tx K mg):aA P w K mg base aO 6 T.gj.f T.gj.d ["house", "folder"] (Nb T.au T.aD T.aG):=by
 refine T.gj.F.ok UW (fun vs H Q E h=>?_) (fun az A outer s H vs Q E hr h=>?_)
 ·exact cD h fun _ _ _=>rfl
 ·refine cD h fun x n h=>?_;obtain ⟨AA,L,M,k,b,r,a,t,i,rfl,rfl,ha,aN,hs,q⟩:=h;refine ⟨_,((Dv.aj (Dv.aP (Dv.ix (br (K:=K) rfl) (Dv.call (m9 T) (hr.mono (by decide)) T.dw.m T.dw.F.kp T.dw.b .nil aw (Dv.aa (Dv.v 0) (Dv.aa (Dv.v 1) Dv.ag))) (Dv.un iz Dv.int))))).h,?_⟩;refine stI [some (V.ref AA.a),some (V.int (k:Int))] ?_;walk_at "w";refine ⟨AA,L,M,k,b,r,a,t,i,rfl,rfl,ha,aN,hs,fun l H' s' _ hl=>?_⟩;dsimp only;obtain ⟨pre,hp⟩:=FW (b:=b) (r:=r);rw [hp,nR] at hl;simp only [bG,hl,List.map_cons,List.map_nil,je];exact q _ s'
def fv (r:Nat) (l:List Nat):Bool:=l.any (· == r)
theorem lh {r:Nat}:∀ {l:List Nat},fU (V.int (r:Int)) (nV l)=fv r l
 | []=>rfl
 | x::l=>by
  have ih:=lh (r:=r) (l:=l);unfold fU at ih ⊢;unfold fv at ih ⊢;simp only [nV,List.map_cons,List.any_cons] at ih ⊢;rw [ih]
  congr 1
  unfold fg;by_cases e:x=r
  ·subst e; simp
  ·rw [beq_eq_false_iff_ne.mpr e]
   first | exact beq_eq_false_iff_ne.mpr (by omega) | (simp; omega)
def iN (M:Hs) (L:List Ta) (root:Nat):Nat→Nat→Bool→Prop
 | n,k,v=>∃ b r a t,L[k]?=some a∧M.ts[k]?=some t∧dv M k b r ∧
  if k=cP b r then
   if fv root (b::r)=true then v=true
   else ∃ ab tb,L[b]?=some ab∧M.ts[b]?=some tb∧((tb.bU=[]∧v=false)∨∃ f z,tb.bU=[(f,z)]∧match n with | 0=>False | n+1=>iN M L root n f v)
  else v=false
def NO (CH CS CT:Addr):Sp:=jy fun x z n H Q _=>∃ A L M,∃ k root:Nat,∃ v,aI CH CS CT H A L M∧A.a=x∧n=(k:Int)∧aJ (sD M.ro) (.inr z)=some (.int (root:Int))∧(∃ m,iN M L root m k v)∧∀ H',ai H H'→Q (.bl v) H'
theorem Lg (T:Tx K mg):aA P w K mg base aO 6 T.ny.f T.ny.d ["house", "asker", "folder"] (NO T.au T.aD T.aG):=by
 refine T.ny.F.ok lZ (fun vs H Q E h=>?_) (fun az A outer s H vs Q E hr h=>?_)
 ·exact eI h fun _ _ _ _=>rfl
 ·refine eI h fun x z n h=>?_;obtain ⟨AA,L,M,k,root,v,i,rfl,rfl,hz,⟨m,hm⟩,q⟩:=h;obtain ⟨fs,c,hx,aV,sf⟩:=i.h;refine bA (b:=aU zb) ((Dv.cut (Dv.aS 3 lZ.nd (Dv.bh T.aM T.ej.h (lH T) (hr.mono (by decide)) T.ej.b .nil aw (Dv.v 0) (Dv.aa (Dv.v 1) Dv.ag)))
  (Dv.cut (Dv.aS 4 lZ.nd (Dv.v 2))
  (Dv.cut (Dv.aS 5 lZ.nd (Dv.call (m9 T) (hr.mono (by decide)) T.dw.m T.dw.F.kp T.dw.b .nil aw (Dv.aa (Dv.v 0) (Dv.aa (Dv.v 4) Dv.ag))))
  (Dv.cut (Dv.jE PassesOwn.never (Dv.aY cq (Dv.v 4) (Dv.ix (br (K:=K) rfl) (Dv.v 5) (Dv.un iz Dv.int))) (Dv.cut (Dv.aX (Dv.aY (m8 (K:=K) rfl) (Dv.v 3) (Dv.v 5)) (Dv.aj (Dv.aP Dv.bl)) Dv.nil)
  (Dv.cut (Dv.aS 6 lZ.nd (Dv.bh T.aM T.fc.h (oE T) (hr.mono (by decide)) T.fc.b .nil aw (Dv.v 0) (Dv.aa (Dv.ix (br (K:=K) rfl) (Dv.v 5) Dv.int) Dv.ag)))
  (Dv.cut (Dv.aX (Dv.aY oQ (Dv.v 6) Dv.ax) (Dv.aj (Dv.aP Dv.bl)) Dv.nil)
  (Dv.cut (Dv.aS 4 lZ.nd (Dv.ix (br (K:=K) rfl) (Dv.v 6) Dv.int))
  (Dv.aj (Dv.aS 5 lZ.nd (Dv.call (m9 T) (hr.mono (by decide)) T.dw.m T.dw.F.kp T.dw.b .nil aw (Dv.aa (Dv.v 0) (Dv.aa (Dv.v 4) Dv.ag))))))))))
  (Dv.aj (Dv.aP Dv.bl))))))) ?_
  refine stI [some (V.ref AA.a),some (V.str z),some (V.int (k:Int)),none,none,none,none] ?_;refine ao ?_;walk_at "w";refine ⟨AA.a,_,_,rfl,hx,(sf _).trans rfl,AA,L,M,root,i,rfl,hz,?_⟩;refine ao ?_;walk_at "w";refine ao ?_;walk_at "w";obtain ⟨b,r,a,t,ha,ht,aQ,de⟩:=(by unfold iN at hm; exact hm:∃ b r a t,L[k]?=some a∧M.ts[k]?=some t∧dv M k b r∧_);refine ⟨AA,L,M,k,b,r,a,t,i,rfl,rfl,ha,ht,aQ,fun l H1 s1 hl0 hl=>?_⟩;refine ao ⟨fun m σ' H'=>ai H H'∧∃ (j:Nat) (l:Addr) (b:Nat) (r:List Nat) (pv:Option V),σ'=[some (V.ref AA.a),some (V.str z),some (V.int (k:Int)),some (V.int (root:Int)),some (V.int (j:Int)),some (V.ref l),pv]∧H' l=some (.lst (nV (b::r)))∧dv M j b r ∧
   (if j=cP b r then
    if fv root (b::r)=true then v=true
    else ∃ ab tb,L[b]?=some ab∧M.ts[b]?=some tb∧((tb.bU=[]∧v=false)∨∃ f z,tb.bU=[(f,z)]∧match m with | 0=>False | n+1=>iN M L root n f v)
   else v=false),⟨m,s1,k,l,b,r,none,rfl,hl,aQ,de⟩,?_⟩
  clear de ha ht aQ hl hl0 s1 hm;rintro m σ' H' ⟨s',j,l,b,r,pv,rfl,hl,aQ,de⟩;have i':=i.same s';obtain ⟨pre,hp⟩:=FW (b:=b) (r:=r);have cv:=hl;rw [hp,nR] at cv;walk_at "w";simp only [bG,cv,List.map_cons,List.map_nil,je];by_cases hj:j=cP b r
  ·rw [if_pos hj] at de;rw [decide_eq_true (by rw [hj])];refine bM ⟨_,fun _ _ h=>h,?_⟩;refine ao ?_;walk_at "w";simp only [bG,hl];refine ⟨rfl,by simp [cw],?_⟩;rw [lh];cases hmem:fv root (b::r) with
   | true =>
    rw [if_pos hmem] at de;subst de;exact bM (q _ s')
   | false =>
    rw [if_neg (by rw [hmem]; nofun)] at de;obtain ⟨ab,tb,eS,la,bb⟩:=de;refine bf ?_;refine ao ?_;obtain ⟨fs,c,hx,aV,sf⟩:=i'.h;walk_at "w";simp only [bG,hl,nV,List.map_cons,c7];refine ⟨AA.a,_,_,rfl,hx,(sf _).trans rfl,AA,L,M,b,ab,tb,i',rfl,rfl,eS,la,?_⟩;rcases bb with ⟨bb,rfl⟩ | ⟨f,zz,bb,hn⟩
    ·refine .inl ⟨bb,?_⟩;refine ao ?_;walk_at "w";exact ⟨by trivial,bM (q _ s')⟩
    ·refine .inr ⟨f,zz,bb,fun p hp=>?_⟩;refine ao ?_;walk_at "w";refine ⟨by trivial,?_⟩;rw [decide_eq_false (by nofun)];refine bf ?_;refine ao ?_;walk_at "w";simp only [bG,hp,c7];cases m with
     | zero=>exact hn.elim
     | succ m =>
      obtain ⟨b2,r2,a2,t2,BE,gd,vQ,Bk⟩:=(by unfold iN at hn; exact hn:∃ b r a t,L[f]?=some a∧M.ts[f]?=some t∧dv M f b r∧_);refine ⟨AA,L,M,f,b2,r2,a2,t2,i',rfl,rfl,BE,gd,vQ,fun l2 H2 s2 hl0 cv=>?_⟩;exact ⟨m,Nat.lt_succ_self m,s'.trans s2,f,l2,b2,r2,some (V.ref p),rfl,cv,vQ,Bk⟩
  ·rw [if_neg hj] at de;rw [decide_eq_false (by omega)];subst de;refine bf ?_;walk_at "w";exact q _ s'
abbrev y6 (M:Hs):List Str:=fZ (M.tr.map (·.1))
def U1 (CH CS CT:Addr):Sp:=ik fun x H Q _=>∃ A L M,aI CH CS CT H A L M∧A.a=x∧M.tr.length < 64∧∀ l,H l=none→Q (.ref l) (upd H l (.lst ((y6 M).map V.str)))
def Ms (CH CS CT:Addr):Sp:=f6 fun x z H Q _=>∃ A L M,aI CH CS CT H A L M∧A.a=x∧(aJ (sD M.tr) (.inr z)).isSome=true∧Q .ax H
def Rl (CH CS CT:Addr):Sp:=f6 fun x z H Q _=>∃ A L M,∃ r:Nat,aI CH CS CT H A L M∧A.a=x∧aJ (sD M.tr) (.inr z)=some (.int (r:Int))∧Q (.int (r:Int)) H
def N6 (CH CS CT:Addr):Sp:=f6 fun x z H Q _=>∃ A L M,∃ r:Nat,aI CH CS CT H A L M∧A.a=x∧aJ (sD M.tr) (.inr z)=some (.int (r:Int))∧Q ((aJ (nD M.un) (.inl (r:Int))).getD .ax) H
theorem wy (T:Tx K mg):aA P w K mg base aO 1 T.jh.f T.jh.d ["self"] (U1 T.au T.aD T.aG):=by
 refine T.jh.F.ok OQ (fun vs H Q E h=>?_) (fun az A outer s H vs Q E hr h=>?_)
 ·exact ed h fun _ _=>rfl
 ·refine ed h fun x h=>?_;obtain ⟨AA,L,M,i,rfl,hl,q⟩:=h;obtain ⟨fs,c,hx,aV,sf⟩:=i.h;refine ⟨_,((Dv.aj (Dv.aP (Dv.cA (Qw (K:=K) rfl rfl) T.VI RD (Dv.aa (Dv.fld T.aM T.qd (Dv.v 0)) Dv.ag))))).h,?_⟩;refine stI [some (V.ref AA.a)] ?_;walk_at "w";exact ⟨AA.a,_,_,.ref AA.tr,rfl,hx,(sf _).trans rfl,.inr (.inl ⟨AA.tr,_,M.tr.map (·.1),rfl,i.tr,by unfold sD; rw [List.map_map,List.map_map]; rfl,by rw [List.length_map]; exact hl,q⟩)⟩
theorem To (T:Tx K mg):aA P w K mg base aO 1 T.qJ.f T.qJ.d ["self", "tree"] (Ms T.au T.aD T.aG):=by
 refine T.qJ.F.ok UA (fun vs H Q E h=>?_) (fun az A outer s H vs Q E hr h=>?_)
 ·exact cJ h fun _ _ _=>rfl
 ·refine cJ h fun x z h=>?_;obtain ⟨AA,L,M,i,rfl,hz,q⟩:=h;obtain ⟨fs,c,hx,aV,sf⟩:=i.h;refine ⟨_,((Dv.aj (Dv.aX (Dv.dE (Dv.w_or (Dv.cC (Dv.cu (Dv.cA i0 T.fC fB (Dv.aa (Dv.v 1) (Dv.aa (Dv.js (.ty "str") T.j8 j0 rfl) Dv.ag))))) (Dv.iL (Dv.Et (en hr) (Dv.v 1) (Dv.fld T.aM T.qd (Dv.v 0)))))) (Dv.aj Dv.cR) Dv.nil))).h,?_⟩;refine stI [some (V.ref AA.a),some (V.str z)] ?_;walk_at "w";refine ⟨by simp,?_⟩;rw [show (!rE "str" "str")=false from by decide +kernel];refine bf ?_;refine ⟨AA.a,_,_,.ref AA.tr,rfl,hx,(sf _).trans rfl,AA.tr,_,rfl,cQ.k (k:=.inr z) i.tr,?_⟩;rw [hz];exact bf q
theorem CQ (T:Tx K mg):aA P w K mg base aO 2 T.mh.f T.mh.d ["self", "tree"] (Rl T.au T.aD T.aG):=by
 refine T.mh.F.ok NY (fun vs H Q E h=>?_) (fun az A outer s H vs Q E hr h=>?_)
 ·exact cJ h fun _ _ _=>rfl
 ·refine cJ h fun x z h=>?_;obtain ⟨AA,L,M,r,i,rfl,hz,q⟩:=h;obtain ⟨fs,c,hx,aV,sf⟩:=i.h;refine ⟨_,((Dv.cut (Dv.aW (Dv.bh T.aM T.qJ.h (To T) (hr.mono (by decide)) T.qJ.b .nil aw (Dv.v 0) (Dv.aa (Dv.v 1) Dv.ag)))
  (Dv.aj (Dv.aP (Dv.qz (en hr) (Dv.fld T.aM T.qd (Dv.v 0)) (Dv.v 1)))))).h,?_⟩
  refine stI [some (V.ref AA.a),some (V.str z)] ?_;refine ao ?_;walk_at "w";refine ⟨AA.a,_,_,rfl,hx,(sf _).trans rfl,AA,L,M,i,rfl,by rw [hz]; rfl,?_⟩;refine ⟨AA.a,_,_,.ref AA.tr,rfl,hx,(sf _).trans rfl,AA.tr,.int r,rfl,?_,q⟩;have:=cQ.k (k:=.inr z) i.tr;rw [hz] at this;exact this
theorem Gu (T:Tx K mg):aA P w K mg base aO 3 T.lN.f T.lN.d ["self", "tree"] (N6 T.au T.aD T.aG):=by
 refine T.lN.F.ok Nz (fun vs H Q E h=>?_) (fun az A outer s H vs Q E hr h=>?_)
 ·exact cJ h fun _ _ _=>rfl
 ·refine cJ h fun x z h=>?_;obtain ⟨AA,L,M,r,i,rfl,hz,q⟩:=h;obtain ⟨fs,c,hx,aV,sf⟩:=i.h;refine ⟨_,((Dv.aj (Dv.aP (Dv.HL (en hr) (Dv.fld T.aM T.uu (Dv.v 0)) (Dv.bh T.aM T.mh.h (CQ T) (hr.mono (by decide)) T.mh.b .nil aw (Dv.v 0) (Dv.aa (Dv.v 1) Dv.ag)))))).h,?_⟩;refine stI [some (V.ref AA.a),some (V.str z)] ?_;walk_at "w";exact ⟨AA.a,_,_,.ref AA.un,rfl,hx,(sf _).trans rfl,AA.un,rfl,.inl ⟨_,.inl i.un⟩,AA.a,_,_,rfl,hx,(sf _).trans rfl,AA,L,M,r,i,rfl,hz,_,cQ.k (k:=.inl (r:Int)) i.un,q⟩
def cH (l:List (Str×Nat)) (z:Str) (n:Nat):List (Str×Nat):=if (aJ (sD l) (.inr z)).isSome=true then l.map (fun e=>if e.1=z then (e.1,n) else e) else l++[(z,n)]
theorem z7 {l:List (Str×Nat)} {z:Str} {n:Nat}:putK (sD l) (.inr z) (.int (n:Int))=sD (cH l z n):=by
 unfold cH putK;rw [nU];cases h:(aJ (sD l) (.inr z)).isSome with
 | true =>
  rw [if_pos rfl,if_pos rfl];unfold sD;rw [List.map_map,List.map_map];refine List.map_congr_left fun e _=>?_;by_cases he:e.1=z
  ·simp [he]
  ·simp [he]
 | false =>
  rw [if_neg (by nofun),if_neg (by nofun)];unfold sD;rw [List.map_append];rfl
section
variable {CH CS CT:Addr} {H H':Hp} {A:Ad} {L:List Ta} {M:Hs}
theorem aI.GF {ro' st' tr':List (Str×Nat)} {ov' un':List (Nat×Nat)} (i:aI CH CS CT H A L M) (hh:∃ fs c,H' A.a=some (.ins CH A.dx fs)∧fs.length≤40∧cB fs (oI c A)) (mD:H' A.ro=some (.dK (sD ro'))) (aQ:H' A.st=some (.dK (sD st'))) (cU:H' A.tr=some (.dK (sD tr'))) (kO:H' A.ov=some (.dK (nD ov'))) (fN:H' A.un=some (.dK (nD un')))
  (kp:Kp [A.a,A.ro,A.st,A.tr,A.ov,A.un] H H'):aI CH CS CT H' A L { ts:=M.ts,ro:=ro',st:=st',tr:=tr',ov:=ov',un:=un' }:=by
 have nd:=i.nd;rw [List.nodup_append] at nd;obtain ⟨n1,n2,n3⟩:=nd;have off:∀ b,b∈[A.t,A.ml]→b ∉ [A.a,A.ro,A.st,A.tr,A.ov,A.un]:=by
  intro b hb hm;simp only [Ad.w,List.nodup_cons,List.mem_cons,List.not_mem_nil,or_false,not_or] at n1 hb hm;obtain ⟨⟨a1,a2,a3,a4,a5,a6,a7⟩,⟨b1,b2,b3,b4,b5,b6⟩,⟨c1,c2,c3,c4,c5⟩,_⟩:=n1;rcases hb with rfl | rfl <;> rcases hm with h | h | h | h | h | h <;> simp_all
 have lS:∀ b,b∈L.flatMap Ta.l→b ∉ [A.a,A.ro,A.st,A.tr,A.ov,A.un]:=by
  intro b hb hm;have hw:b∈A.w:=by
   simp only [Ad.w,List.mem_cons,List.not_mem_nil,or_false] at hm ⊢;rcases hm with h | h | h | h | h | h <;> simp [h]
  exact n3 _ hw _ hb rfl
 refine ⟨hh,?_,kp _ _ (off _ (by simp)) i.ml,i.len,fun j t e=>?_,mD,aQ,cU,kO,fN,i.nd⟩
 ·obtain ⟨fs,c,e,r⟩:=i.t;exact ⟨fs,c,kp _ _ (off _ (by simp)) e,r⟩
 ·obtain ⟨a,e1,h1⟩:=i.th j t e;exact ⟨a,e1,h1.keep kp fun b hb=>lS b (gE e1 hb)⟩
theorem aI.Eh (i:aI CH CS CT H A L M):A.ro≠A.a∧A.st≠A.a∧A.tr≠A.a∧A.ov≠A.a∧A.un≠A.a∧A.st≠A.ro∧A.tr≠A.ro∧A.ov≠A.ro∧A.un≠A.ro∧A.tr≠A.st∧A.ov≠A.st∧A.un≠A.st∧A.ov≠A.tr∧A.un≠A.tr∧A.un≠A.ov:=by
 have nd:=i.nd;rw [List.nodup_append] at nd;have n1:=nd.1;simp only [Ad.w,List.nodup_cons,List.mem_cons,List.not_mem_nil,or_false,not_or] at n1;obtain ⟨⟨a1,a2,a3,a4,a5,a6,a7⟩,⟨b1,b2,b3,b4,b5,b6⟩,⟨c1,c2,c3,c4,c5⟩,⟨d1,d2,d3,d4⟩,⟨e1,e2,e3⟩,⟨f1,f2⟩,g1,_⟩:=n1;exact ⟨Ne.symm a3,Ne.symm a4,Ne.symm a5,Ne.symm a6,Ne.symm a7,Ne.symm d1,Ne.symm d2,Ne.symm d3,Ne.symm d4,Ne.symm e1,Ne.symm e2,Ne.symm e3,Ne.symm f1,Ne.symm f2,Ne.symm g1⟩
end
def Sf (CH CS CT:Addr):Sp:=jy fun x z n H Q _=>∃ A L M,∃ k:Nat,aI CH CS CT H A L M∧A.a=x∧n=(k:Int)∧M.ro.length≤40∧∀ H',aI CH CS CT H' A L { M with ro:=cH M.ro z k }→Kp [A.a,A.ro] H H'→Q .ax H'
def VO (CH CS CT:Addr):Sp:=jy fun x z n H Q _=>∃ A L M,∃ k:Nat,aI CH CS CT H A L M∧A.a=x∧n=(k:Int)∧M.st.length≤40∧∀ H',aI CH CS CT H' A L { M with st:=cH M.st z k }→Kp [A.a,A.st] H H'→Q .ax H'
theorem Gh {l:List (Str×Nat)}:(sD l).length=l.length:=List.length_map _
theorem Oc (T:Tx K mg):aA P w K mg base aO 1 T.jF.f T.jF.d ["self", "asker", "folder"] (Sf T.au T.aD T.aG):=by
 refine (Eb T).imp fun vs H Q E h=>?_;refine eI h fun x z n h=>?_;obtain ⟨AA,L,M,k,i,rfl,rfl,hl,q⟩:=h;obtain ⟨fs,c,hx,aV,sf⟩:=i.h;obtain ⟨e1,e2,e3,e4,e5,e6,e7,e8,e9,_⟩:=i.Eh;refine ⟨AA.dx,fs,c,AA.ro,_,hx,aV,(sf _).trans rfl,(sf _).trans rfl,i.ro,by rw [Gh]; exact hl,?_⟩;rw [z7];refine q _ (i.GF ⟨ae "changes" (.int (c+1)) fs,c+1,by rw [ah (Ne.symm e1),ay],by rw [dQ (u:=.int c) ((sf _).trans rfl)]; exact aV,fun f=>((sf.put "changes" (.int (c+1))) f).trans rfl⟩ ay (by rw [ah e6,ah e2]; exact i.st) (by rw [ah e7,ah e3]; exact i.tr) (by rw [ah e8,ah e4]; exact i.ov) (by rw [ah e9,ah e5]; exact i.un) ?_) ?_
 ·intro b o hb e;simp only [List.mem_cons,List.not_mem_nil,or_false,not_or] at hb;rw [ah hb.2.1,ah hb.1]; exact e
 ·intro b o hb e;simp only [List.mem_cons,List.not_mem_nil,or_false,not_or] at hb;rw [ah hb.2,ah hb.1]; exact e
theorem Ew (T:Tx K mg):aA P w K mg base aO 1 T.gR.f T.gR.d ["self", "asker", "folder"] (VO T.au T.aD T.aG):=by
 refine (DV T).imp fun vs H Q E h=>?_;refine eI h fun x z n h=>?_;obtain ⟨AA,L,M,k,i,rfl,rfl,hl,q⟩:=h;obtain ⟨fs,c,hx,aV,sf⟩:=i.h;obtain ⟨e1,e2,e3,e4,e5,e6,e7,e8,e9,e10,e11,e12,_⟩:=i.Eh;refine ⟨AA.dx,fs,c,AA.st,_,hx,aV,(sf _).trans rfl,(sf _).trans rfl,i.st,by rw [Gh]; exact hl,?_⟩;rw [z7];refine q _ (i.GF ⟨ae "changes" (.int (c+1)) fs,c+1,by rw [ah (Ne.symm e2),ay],by rw [dQ (u:=.int c) ((sf _).trans rfl)]; exact aV,fun f=>((sf.put "changes" (.int (c+1))) f).trans rfl⟩ (by rw [ah (Ne.symm e6),ah e1]; exact i.ro) ay (by rw [ah e10,ah e3]; exact i.tr) (by rw [ah e11,ah e4]; exact i.ov) (by rw [ah e12,ah e5]; exact i.un) ?_) ?_
 ·intro b o hb e;simp only [List.mem_cons,List.not_mem_nil,or_false,not_or] at hb;rw [ah hb.2.2.1,ah hb.1]; exact e
 ·intro b o hb e;simp only [List.mem_cons,List.not_mem_nil,or_false,not_or] at hb;rw [ah hb.2,ah hb.1]; exact e
def zI (C:Addr) (f1 f2:Str):Sp:=HC fun x v1 v2 H Q _=>∃ dx,H x=some (.ins C dx [])∧Q .ax (upd H x (.ins C dx (ae f2 v2 (ae f1 v1 []))))
theorem VH (T:Tx K mg):aA P w K mg base aO 1 T.rW.f T.rW.d ["self", "number", "way"] (zI T.cb "number" "way"):=by
 refine T.rW.F.ok Lj (fun vs H Q E h=>?_) (fun az A outer s H vs Q E hr h=>?_)
 ·exact oJ h fun _ _ _ _=>rfl
 ·refine oJ h fun x v1 v2 h=>?_;obtain ⟨dx,hx,q⟩:=h;refine ⟨_,((Dv.cut (Dv.bz T.iE T.zu (Dv.v 0) (Dv.v 1))
  (Dv.aj (Dv.bz T.iE T.Dq (Dv.v 0) (Dv.v 2))))).h,?_⟩
  refine stI [some (V.ref x),some v1,some v2] ?_;refine ao ?_;walk_at "w";refine ⟨x,dx,_,rfl,hx,by decide,?_⟩;refine ⟨x,dx,_,rfl,ay,by (refine Nat.lt_of_le_of_lt (m:=40) ?_ (by decide); (repeat (refine bO ?_)); exact Nat.zero_le _),?_⟩;rw [kb];exact q
theorem KR (T:Tx K mg):aA P w K mg base aO 1 T.qC.f T.qC.d ["self", "folder", "name"] (zI T.gB "folder" "name"):=by
 refine T.qC.F.ok Oh (fun vs H Q E h=>?_) (fun az A outer s H vs Q E hr h=>?_)
 ·exact oJ h fun _ _ _ _=>rfl
 ·refine oJ h fun x v1 v2 h=>?_;obtain ⟨dx,hx,q⟩:=h;refine ⟨_,((Dv.cut (Dv.bz T.lz T.uv (Dv.v 0) (Dv.v 1))
  (Dv.aj (Dv.bz T.lz T.yo (Dv.v 0) (Dv.v 2))))).h,?_⟩
  refine stI [some (V.ref x),some v1,some v2] ?_;refine ao ?_;walk_at "w";refine ⟨x,dx,_,rfl,hx,by decide,?_⟩;refine ⟨x,dx,_,rfl,ay,by (refine Nat.lt_of_le_of_lt (m:=40) ?_ (by decide); (repeat (refine bO ?_)); exact Nat.zero_le _),?_⟩;rw [kb];exact q
theorem Nh (T:Tx K mg):aA P w K mg base aO 1 T.qG.f T.qG.d ["self", "step", "reason"] (zI T.bC "step" "reason"):=by
 refine T.qG.F.ok Su (fun vs H Q E h=>?_) (fun az A outer s H vs Q E hr h=>?_)
 ·exact oJ h fun _ _ _ _=>rfl
 ·refine oJ h fun x v1 v2 h=>?_;obtain ⟨dx,hx,q⟩:=h;refine ⟨_,((Dv.cut (Dv.bz T.jx T.ED (Dv.v 0) (Dv.v 1))
  (Dv.aj (Dv.bz T.jx T.EM (Dv.v 0) (Dv.v 2))))).h,?_⟩
  refine stI [some (V.ref x),some v1,some v2] ?_;refine ao ?_;walk_at "w";refine ⟨x,dx,_,rfl,hx,by decide,?_⟩;refine ⟨x,dx,_,rfl,ay,by (refine Nat.lt_of_le_of_lt (m:=40) ?_ (by decide); (repeat (refine bO ?_)); exact Nat.zero_le _),?_⟩;rw [kb];exact q
def tq (h:Addr) (z:Str) (last:Bool) (root here:Int) (place:V) (step:Int) (av lf rd:Addr) (lr lu:Int) (told:V):List (Str×V):=[("house",.ref h),("asker",.str z),("last",.bl last),("root",.int root),("here",.int here),("place",place),("step",.int step),("asked",.ref av),("left",.ref lf),("reading",.ref rd),("leads_read",.int lr),("looked_up",.int lu),("told",told)]
structure Ws where
 here:Nat
 place:Option (Nat×Str)
 step:Nat
 asked:List Nat
 left:List (Sum Nat Str)
 Rv:List Nat
 read:Nat
 look:Nat
def qm:Sum Nat Str→V
 | .inl n=>.int (n:Int)
 | .inr z=>.str z
def iw (H0 H:Hp):Option (Nat×Str)→V→Prop
 | none,v=>v=.ax
 | some (k,nm),v=>∃ p,v=.ref p∧H0 p=none∧H p=some (.tup [.int (k:Int),.str nm])
structure ba (CH CS CT CW:Addr) (S:Ws) (H0 H:Hp) (A:Ad) (L:List Ta) (M:Hs) (x dx av lf rd:Addr) (z:Str) (last:Bool) (root:Nat) (told:V):Prop where
 i:aI CH CS CT H0 A L M
 s:ai H0 H
 x0:H0 x=none
 a0:H0 av=none
 l0:H0 lf=none
 r0:H0 rd=none
 o:∃ fs pv,H x=some (.ins CW dx fs)∧fs.length≤40∧iw H0 H S.place pv∧cB fs (tq A.a z last root S.here pv S.step av lf rd S.read S.look told)
 oa:H av=some (.lst (nV S.asked))
 ol:H lf=some (.lst (S.left.map qm))
 od:H rd=some (.lst (nV S.Rv))
 n1:av≠lf
 n2:av≠rd
 n3:lf≠rd
 hz:aJ (sD M.ro) (.inr z)=some (.int (root:Int))
section
variable {CH CS CT CW:Addr} {S:Ws} {H0 H H':Hp} {A:Ad} {L:List Ta} {M:Hs} {x dx av lf rd:Addr} {z:Str} {last:Bool} {root:Nat} {told:V}
theorem iw.same {p:Option (Nat×Str)} {v:V} (h:iw H0 H p v) (s:ai H H'):iw H0 H' p v:=by
 match p,h with
 | none,h=>exact h
 | some (k,nm),⟨q,e,e0,e1⟩=>exact ⟨q,e,e0,s _ _ e1⟩
theorem ba.same (v:ba CH CS CT CW S H0 H A L M x dx av lf rd z last root told) (s:ai H H'):ba CH CS CT CW S H0 H' A L M x dx av lf rd z last root told :=
 ⟨v.i,v.s.trans s,v.x0,v.a0,v.l0,v.r0,let ⟨fs,pv,e,l,p,f⟩:=v.o; ⟨fs,pv,s _ _ e,l,p.same s,f⟩,s _ _ v.oa,s _ _ v.ol,s _ _ v.od,v.n1,v.n2,v.n3,v.hz⟩
theorem ba.m (v:ba CH CS CT CW S H0 H A L M x dx av lf rd z last root told):aI CH CS CT H A L M:=v.i.same v.s
theorem ba.xa (v:ba CH CS CT CW S H0 H A L M x dx av lf rd z last root told):x≠av∧x≠lf∧x≠rd:=by
 obtain ⟨fs,pv,e,_⟩:=v.o;exact ⟨bN e v.oa (by nofun),bN e v.ol (by nofun),bN e v.od (by nofun)⟩
theorem iw.put {p:Option (Nat×Str)} {v:V} {fs:List (Str×V)} (h:iw H0 H p v) (hx:∃ gs,H x=some (.ins CW dx gs)):iw H0 (upd H x (.ins CW dx fs)) p v:=by
 match p,h with
 | none,h=>exact h
 | some (k,nm),⟨q,e,e0,e1⟩ =>
  obtain ⟨gs,hx⟩:=hx;exact ⟨q,e,e0,by rw [ah (Ne.symm (bN hx e1 (by nofun)))]; exact e1⟩
theorem ba.put (v:ba CH CS CT CW S H0 H A L M x dx av lf rd z last root told) {fs:List (Str×V)} {here':Nat} {step' look':Nat} {told':V} (hl:fs.length≤40)
  (sf:∀ pv,iw H0 H S.place pv→∀ gs,H x=some (.ins CW dx gs)→cB gs (tq A.a z last root S.here pv S.step av lf rd S.read S.look told)→cB fs (tq A.a z last root here' pv step' av lf rd S.read look' told')) :
  ba CH CS CT CW { S with here:=here',step:=step',look:=look' } H0 (upd H x (.ins CW dx fs)) A L M x dx av lf rd z last root told':=by
 obtain ⟨gs,pv,e,l,p,f⟩:=v.o;exact ⟨v.i,v.s.eL v.x0,v.x0,v.a0,v.l0,v.r0,⟨fs,pv,ay,hl,p.put ⟨gs,e⟩,sf pv p gs e f⟩,by rw [ah (Ne.symm v.xa.1)]; exact v.oa,by rw [ah (Ne.symm v.xa.2.1)]; exact v.ol,by rw [ah (Ne.symm v.xa.2.2)]; exact v.od,v.n1,v.n2,v.n3,v.hz⟩
end
def Sm (CH CS CT CW:Addr):Sp:=Cm fun x h z last H Q _=>∃ A L M dx H0,∃ root:Nat,aI CH CS CT H0 A L M∧A.a=h∧H x=some (.ins CW dx [])∧ai H0 H∧H0 x=none∧aJ (sD M.ro) (.inr z)=some (.int (root:Int)) ∧
   ∀ av lf rd H',ba CH CS CT CW ⟨root,none,0,[],[],[],0,0⟩ H0 H' A L M x dx av lf rd z last root .ax→Q .ax H'
theorem Oz (T:Tx K mg):aA P w K mg base aO 3 T.qX.f T.qX.d ["self", "house", "asker", "last"] (Sm T.au T.aD T.aG T.bg):=by
 refine T.qX.F.ok MC (fun vs H Q E h=>?_) (fun az A outer s H vs Q E hr h=>?_)
 ·exact E1 h fun _ _ _ _ _=>rfl
 ·refine E1 h fun x hh z last h=>?_;obtain ⟨AA,L,M,dx,H0,root,i,rfl,hx,s0,x0,hz,q⟩:=h;refine bA (b:=aU yN) ((Dv.cut (Dv.bz T.aR T.fA (Dv.v 0) (Dv.v 1))
  (Dv.cut (Dv.bz T.aR T.qk (Dv.v 0) (Dv.v 2))
  (Dv.cut (Dv.bz T.aR T.HD (Dv.v 0) (Dv.v 3))
  (Dv.cut (Dv.bz T.aR T.u7 (Dv.v 0) (Dv.bh T.aM T.ej.h (lH T) (hr.mono (by decide)) T.ej.b .nil aw (Dv.v 1) (Dv.aa (Dv.v 2) Dv.ag)))
  (Dv.cut (Dv.bz T.aR T.eY (Dv.v 0) (Dv.fld T.aR T.u7 (Dv.v 0)))
  (Dv.cut (Dv.bz T.aR T.uJ (Dv.v 0) Dv.ax)
  (Dv.cut (Dv.bz T.aR T.wj (Dv.v 0) Dv.int)
  (Dv.cut (Dv.bz T.aR T.wI (Dv.v 0) (Dv.lst Dv.ag))
  (Dv.cut (Dv.bz T.aR T.qu (Dv.v 0) (Dv.lst Dv.ag))
  (Dv.cut (Dv.bz T.aR T.Q4 (Dv.v 0) (Dv.lst Dv.ag))
  (Dv.cut (Dv.bz T.aR T.Qd (Dv.v 0) Dv.int)
  (Dv.cut (Dv.bz T.aR T.Ci (Dv.v 0) Dv.int)
  (Dv.aj (Dv.bz T.aR T.lA (Dv.v 0) Dv.ax))))))))))))))) ?_
  refine stI [some (V.ref x),some (V.ref AA.a),some (V.str z),some (V.bl last)] ?_;refine ao ?_;walk_at "w";refine ⟨x,dx,_,rfl,hx,by decide,ao ?_⟩;walk_at "w";refine ⟨x,dx,_,rfl,ay,by (refine Nat.lt_of_le_of_lt (m:=40) ?_ (by decide); (repeat (refine bO ?_)); exact Nat.zero_le _),ao ?_⟩;walk_at "w";refine ⟨x,dx,_,rfl,ay,by (refine Nat.lt_of_le_of_lt (m:=40) ?_ (by decide); (repeat (refine bO ?_)); exact Nat.zero_le _),ao ?_⟩;simp only [kb];walk_at "w";have s1:=s0.eL (o:=.ins T.bg dx (ae "last" (.bl last) (ae "asker" (.str z) (ae "house" (.ref AA.a) [])))) x0;have b1:upd H x (.ins T.bg dx (ae "last" (.bl last) (ae "asker" (.str z) (ae "house" (.ref AA.a) [])))) x=some (.ins T.bg dx (ae "last" (.bl last) (ae "asker" (.str z) (ae "house" (.ref AA.a) [])))):=ay;generalize upd H x (.ins T.bg dx (ae "last" (.bl last) (ae "asker" (.str z) (ae "house" (.ref AA.a) []))))=H1 at s1 b1 ⊢;have i1:=i.same s1;obtain ⟨fs,c,bu,aV,sf⟩:=i1.h;refine ⟨AA.a,_,_,rfl,bu,(sf _).trans rfl,AA,L,M,root,i1,rfl,hz,?_⟩;refine ⟨x,dx,_,rfl,b1,by (refine Nat.lt_of_le_of_lt (m:=40) ?_ (by decide); (repeat (refine bO ?_)); exact Nat.zero_le _),ao ?_⟩;walk_at "w";refine ⟨x,dx,_,_,rfl,ay,rfl,x,dx,_,rfl,ay,by (refine Nat.lt_of_le_of_lt (m:=40) ?_ (by decide); (repeat (refine bO ?_)); exact Nat.zero_le _),ao ?_⟩;walk_at "w";refine ⟨x,dx,_,rfl,ay,by (refine Nat.lt_of_le_of_lt (m:=40) ?_ (by decide); (repeat (refine bO ?_)); exact Nat.zero_le _),ao ?_⟩;walk_at "w";refine ⟨x,dx,_,rfl,ay,by (refine Nat.lt_of_le_of_lt (m:=40) ?_ (by decide); (repeat (refine bO ?_)); exact Nat.zero_le _),ao ?_⟩;simp only [kb];walk_at "w";have IJ:cB (ae "step" (.int 0) (ae "place" .ax (ae "here" (.int (root:Int)) (ae "root" (.int (root:Int)) (ae "last" (.bl last) (ae "asker" (.str z) (ae "house" (.ref AA.a) []))))))) [("house",.ref AA.a),("asker",.str z),("last",.bl last),("root",.int (root:Int)),("here",.int (root:Int)),("place",.ax),("step",.int 0)]:=fun f=>rfl;have J5:(ae "step" (.int 0) (ae "place" .ax (ae "here" (.int (root:Int)) (ae "root" (.int (root:Int)) (ae "last" (.bl last) (ae "asker" (.str z) (ae "house" (.ref AA.a) []))))))).length≤10:=by (repeat (refine bO ?_)); exact Nat.zero_le _
  generalize (ae "step" (.int 0) (ae "place" .ax (ae "here" (.int (root:Int)) (ae "root" (.int (root:Int)) (ae "last" (.bl last) (ae "asker" (.str z) (ae "house" (.ref AA.a) [])))))))=F7 at IJ J5 ⊢;have s2:=s1.eL (o:=.ins T.bg dx F7) x0;have b2:upd H1 x (.ins T.bg dx F7) x=some (.ins T.bg dx F7):=ay;generalize upd H1 x (.ins T.bg dx F7)=H2 at s2 b2 ⊢;have bH:∀ {J:Hp} {d:Addr},ai H0 J→J d=none→H0 d=none:=fun {J d} k hn=>by
   cases e:H0 d with
   | none=>rfl
   | some o=>rw [k d o e] at hn; cases hn
  refine ⟨fits (by simp),fun av fJ=>?_⟩;refine ⟨x,dx,_,rfl,by rw [ah (aF b2 fJ)]; exact b2,by omega,ao ?_⟩;obtain ⟨b3,o3,old3,n3⟩:=jC (o:=.lst []) (O:=.ins T.bg dx (ae "asked" (.ref av) F7)) fJ b2;have s3:=(s2.trans (ai.upd (o:=.lst []) fJ)).eL (o:=.ins T.bg dx (ae "asked" (.ref av) F7)) x0;have av0:=bH s2 fJ;generalize upd (upd H2 av (.lst [])) x (.ins T.bg dx (ae "asked" (.ref av) F7))=H3 at b3 o3 old3 s3 ⊢;walk_at "w";refine ⟨fits (by simp),fun lf hlf=>?_⟩;have l1:(ae "asked" (.ref av) F7).length≤11:=bO J5;refine ⟨x,dx,_,rfl,by rw [ah (aF b3 hlf)]; exact b3,by omega,ao ?_⟩;obtain ⟨b4,o4,Jh,n4⟩:=jC (o:=.lst []) (O:=.ins T.bg dx (ae "left" (.ref lf) (ae "asked" (.ref av) F7))) hlf b3;have s4:=(s3.trans (ai.upd (o:=.lst []) hlf)).eL (o:=.ins T.bg dx (ae "left" (.ref lf) (ae "asked" (.ref av) F7))) x0;have lf0:=bH s3 hlf;have BP:av≠lf:=aF o3 hlf;have Bw:=Jh av _ n3 o3;generalize upd (upd H3 lf (.lst [])) x (.ins T.bg dx (ae "left" (.ref lf) (ae "asked" (.ref av) F7)))=H4 at b4 o4 Jh s4 Bw ⊢;walk_at "w";refine ⟨fits (by simp),fun rd hrd=>?_⟩;have l2:(ae "left" (.ref lf) (ae "asked" (.ref av) F7)).length≤12:=bO l1;refine ⟨x,dx,_,rfl,by rw [ah (aF b4 hrd)]; exact b4,by omega,ao ?_⟩;obtain ⟨b5,o5,kU,n5⟩:=jC (o:=.lst []) (O:=.ins T.bg dx (ae "reading" (.ref rd) (ae "left" (.ref lf) (ae "asked" (.ref av) F7)))) hrd b4;have s5:=(s4.trans (ai.upd (o:=.lst []) hrd)).eL (o:=.ins T.bg dx (ae "reading" (.ref rd) (ae "left" (.ref lf) (ae "asked" (.ref av) F7)))) x0;have IP:=kU av _ n3 Bw;have Kt:=kU lf _ n4 o4;have rd0:=bH s4 hrd;have nar:av≠rd:=aF Bw hrd;have BO:lf≠rd:=aF o4 hrd;generalize upd (upd H4 rd (.lst [])) x (.ins T.bg dx (ae "reading" (.ref rd) (ae "left" (.ref lf) (ae "asked" (.ref av) F7))))=H5 at b5 o5 kU s5 IP Kt ⊢;have l3:(ae "reading" (.ref rd) (ae "left" (.ref lf) (ae "asked" (.ref av) F7))).length≤13:=bO l2;walk_at "w";refine ⟨x,dx,_,rfl,b5,by omega,ao ?_⟩;have l4:(ae "leads_read" (.int 0) (ae "reading" (.ref rd) (ae "left" (.ref lf) (ae "asked" (.ref av) F7)))).length≤14:=bO l3;walk_at "w";refine ⟨x,dx,_,rfl,ay,by omega,?_⟩;have l5:(ae "looked_up" (.int 0) (ae "leads_read" (.int 0) (ae "reading" (.ref rd) (ae "left" (.ref lf) (ae "asked" (.ref av) F7))))).length≤15:=bO l4;refine ⟨x,dx,_,rfl,ay,by omega,?_⟩;simp only [kb];refine q av lf rd _ ⟨i,s5.eL x0,x0,av0,lf0,rd0,⟨_,.ax,ay,Nat.le_trans (bO l5) (by decide),rfl,fun f=>?_⟩,by rw [ah n3]; exact IP,by rw [ah n4]; exact Kt,by rw [ah n5]; exact o5,BP,nar,BO,hz⟩;exact ((((((IJ.put "asked" (.ref av)).put "left" (.ref lf)).put "reading" (.ref rd)).put "leads_read" (.int 0)).put "looked_up" (.int 0)).put "told" .ax f).trans rfl
section
variable {CH CS CT CW:Addr} {S:Ws} {H0 H H':Hp} {A:Ad} {L:List Ta} {M:Hs} {x dx av lf rd:Addr} {z:Str} {last:Bool} {root:Nat} {told:V}
theorem ba.off {y:Addr} {o o':HO} (v:ba CH CS CT CW S H0 H A L M x dx av lf rd z last root told) (y0:H0 y=none) (hy:H y=some o) (nx:x≠y) (na:av≠y) (nl:lf≠y) (nr:rd≠y) (ht:∀ xs,o≠.tup xs):ba CH CS CT CW S H0 (upd H y o') A L M x dx av lf rd z last root told:=by
 obtain ⟨gs,pv,e,l,p,f⟩:=v.o;refine ⟨v.i,v.s.eL y0,v.x0,v.a0,v.l0,v.r0,⟨gs,pv,by rw [ah nx]; exact e,l,?_,f⟩,by rw [ah na]; exact v.oa,by rw [ah nl]; exact v.ol,by rw [ah nr]; exact v.od,v.n1,v.n2,v.n3,v.hz⟩;generalize S.place=pl at p
 match pl,p with
 | none,h=>exact h
 | some (k,nm),⟨q,e,e0,e1⟩ =>
  refine ⟨q,e,e0,?_⟩;rw [ah (fun z=>?_)]
  ·exact e1
  ·rw [z,hy] at e1;exact ht _ (Option.some.inj e1)
theorem ba.fresh {y:Addr} (v:ba CH CS CT CW S H0 H A L M x dx av lf rd z last root told) (hy:H y=none):H0 y=none:=by
 cases e:H0 y with
 | none=>rfl
 | some o=>rw [v.s y o e] at hy; cases hy
theorem ba.tell {told':V} (v:ba CH CS CT CW S H0 H A L M x dx av lf rd z last root told):∃ fs,H x=some (.ins CW dx fs)∧fs.length≤40∧ba CH CS CT CW S H0 (upd H x (.ins CW dx (ae "told" told' fs))) A L M x dx av lf rd z last root told':=by
 obtain ⟨fs,pv,e,l,p,f⟩:=v.o;refine ⟨fs,e,l,v.put (S:=S) (here':=S.here) (step':=S.step) (look':=S.look) (by rw [dQ (u:=told) ((f _).trans rfl)]; exact l) fun pv' p' gs e' f'=>?_⟩;rw [e] at e';cases e';exact fun g=>((f'.put "told" told') g).trans rfl
end
abbrev fD (k:Nat) (r:Str):List (Str×V):=ae "reason" (.str r) (ae "step" (.int (k:Int)) [])
def K7 (CH CS CT CW CF:Addr):Sp:=f6 fun x r H Q _=>∃ S H0 A L M dx av lf rd z last root,ba CH CS CT CW S H0 H A L M x dx av lf rd z last root .ax ∧
   ∀ fd aK H',ba CH CS CT CW S H0 H' A L M x dx av lf rd z last root (.ref fd)→H0 fd=none→H' fd=some (.ins CF aK (fD S.step r))→Q .ax H'
theorem sY (T:Tx K mg):aA P w K mg base aO 3 T.gL.f T.gL.d ["self", "reason"] (K7 T.au T.aD T.aG T.bg T.bC):=by
 refine T.gL.F.ok LX (fun vs H Q E h=>?_) (fun az A outer s H vs Q E hr h=>?_)
 ·exact cJ h fun _ _ _=>rfl
 ·refine cJ h fun x r h=>?_;obtain ⟨S,H0,AA,L,M,dx,av,lf,rd,z,last,root,v,q⟩:=h;refine bA (b:=aU yQ) ((Dv.aj (Dv.bz T.aR T.lA (Dv.v 0) (Dv.make T.Vq (Nh T) (hr.mono (by decide)) T.Dc T.qG.b .nil aw (Dv.aa (Dv.fld T.aR T.wj (Dv.v 0)) (Dv.aa (Dv.v 1) Dv.ag)))))) ?_;refine stI [some (V.ref x),some (V.str r)] ?_;obtain ⟨fs,pv,hx,aV,BV,sf⟩:=v.o;walk_at "w";refine ⟨x,_,_,_,rfl,hx,(sf _).trans rfl,fun fd aK bt hdfd nfd=>?_⟩;have s4:=(ai.upd (o:=.own fd) hdfd).trans (ai.upd (p:=fd) (o:=.ins T.bC aK []) (by rw [ah (Ne.symm nfd)]; exact bt));have b4:upd (upd H aK (.own fd)) fd (.ins T.bC aK []) fd=some (.ins T.bC aK []):=ay;have v4:=v.same s4;have f0:=v.fresh bt;have nx:x≠fd:=aF hx bt;have na:av≠fd:=aF v.oa bt;have nl:lf≠fd:=aF v.ol bt;have nr:rd≠fd:=aF v.od bt;generalize upd (upd H aK (.own fd)) fd (.ins T.bC aK [])=H4 at s4 b4 v4 ⊢;refine ⟨aK,b4,rfl,?_⟩;have v5:=v4.off (o':=.ins T.bC aK (fD S.step r)) f0 b4 nx na nl nr (by nofun);have b5:upd H4 fd (.ins T.bC aK (fD S.step r)) fd=some (.ins T.bC aK (fD S.step r)):=ay;generalize upd H4 fd (.ins T.bC aK (fD S.step r))=H5 at v5 b5 ⊢;obtain ⟨JG,gy,pf,v6⟩:=v5.tell (told':=.ref fd);exact ⟨x,_,_,rfl,gy,by omega,q fd aK _ v6 f0 (by rw [ah (Ne.symm nx)]; exact b5)⟩
section
variable {CH CS CT CW:Addr} {S:Ws} {H0 H H':Hp} {A:Ad} {L:List Ta} {M:Hs} {x dx av lf rd:Addr} {z:Str} {last:Bool} {root:Nat} {told:V}
theorem ba.goto {h':Nat} (v:ba CH CS CT CW S H0 H A L M x dx av lf rd z last root told):∃ fs,H x=some (.ins CW dx fs)∧fs.length≤40∧ba CH CS CT CW { S with here:=h' } H0 (upd H x (.ins CW dx (ae "here" (.int (h':Int)) fs))) A L M x dx av lf rd z last root told:=by
 obtain ⟨fs,pv,e,l,p,f⟩:=v.o;refine ⟨fs,e,l,v.put (S:=S) (here':=h') (step':=S.step) (look':=S.look) (by rw [dQ (u:=.int (S.here:Int)) ((f _).trans rfl)]; exact l) fun pv' p' gs e' f'=>?_⟩;rw [e] at e';cases e';exact fun g=>((f'.put "here" (.int (h':Int))) g).trans rfl
theorem ba.Ub {l:Addr} {ts:List (Sum Nat Str)} (v:ba CH CS CT CW S H0 H A L M x dx av lf rd z last root told) (l0:H0 l=none) (hl:H l=some (.lst (ts.map qm))) (n1:av≠l) (n3:l≠rd):∃ fs,H x=some (.ins CW dx fs)∧fs.length≤40∧ba CH CS CT CW { S with left:=ts } H0 (upd H x (.ins CW dx (ae "left" (.ref l) fs))) A L M x dx av l rd z last root told:=by
 obtain ⟨fs,pv,e,le,p,f⟩:=v.o;have nx:x≠l:=bN e hl (by nofun);exact ⟨fs,e,le,⟨v.i,v.s.eL v.x0,v.x0,v.a0,l0,v.r0,⟨_,pv,ay,by rw [dQ (u:=.ref lf) ((f _).trans rfl)]; exact le,p.put ⟨fs,e⟩,fun g=>((f.put "left" (.ref l)) g).trans rfl⟩,by rw [ah (Ne.symm v.xa.1)]; exact v.oa,by rw [ah (Ne.symm nx)]; exact hl,by rw [ah (Ne.symm v.xa.2.2)]; exact v.od,n1,v.n2,n3,v.hz⟩⟩
theorem ba.fld (v:ba CH CS CT CW S H0 H A L M x dx av lf rd z last root told):∃ fs pv,H x=some (.ins CW dx fs)∧fs.length≤40∧cB fs (tq A.a z last root S.here pv S.step av lf rd S.read S.look told):=by
 obtain ⟨fs,pv,e,l,p,f⟩:=v.o;exact ⟨fs,pv,e,l,f⟩
end
def Rw (CH CS CT CW CF:Addr):Sp:=B8 fun x fr lp H Q _=>∃ S H0 A L M dx av lf rd z last,∃ root st b:Nat,∃ (ps:List Str) (r:List Nat) (a:Ta) (t:Th) (sn:Bool),ba CH CS CT CW S H0 H A L M x dx av lf rd z last root .ax∧H lp=some (.lst (ps.map V.str))∧(fr=true∧st=root∨fr=false∧aJ (sD M.st) (.inr z)=some (.int (st:Int)))∧L[st]?=some a∧M.ts[st]?=some t∧dv M st b r∧(∃ m,iN M L root m (cP b r) sn) ∧
   (sn=true→∀ lf' H',ba CH CS CT CW { S with here:=cP b r,left:=(ps.map Sum.inr).reverse } H0 H' A L M x dx av lf' rd z last root .ax→Q .ax H') ∧
   (sn=false→∀ fd aK H',ba CH CS CT CW { S with here:=cP b r } H0 H' A L M x dx av lf rd z last root (.ref fd)→H0 fd=none→H' fd=some (.ins CF aK (fD S.step "outside"))→Q .ax H')
theorem UQ (T:Tx K mg):aA P w K mg base aO 7 T.ra.f T.ra.d ["self", "from_root", "parts"] (Rw T.au T.aD T.aG T.bg T.bC):=by
 refine T.ra.F.ok Cv (fun vs H Q E h=>?_) (fun az A outer s H vs Q E hr h=>?_)
 ·exact He h fun _ _ _ _=>rfl
 ·refine He h fun x fr lp h=>?_;obtain ⟨S,H0,AA,L,M,dx,av,lf,rd,z,last,root,st,b,ps,r,a,t,sn,v,fh,aQ,ha,ht,jH,kZ,q1,q2⟩:=h;obtain ⟨fs,pv,hx,aV,sf⟩:=v.fld;refine bA (b:=aU xE) ((Dv.cut (Dv.aS 3 Cv.nd (Dv.CG (Dv.cu (Dv.v 1)) (Dv.fld T.aR T.u7 (Dv.v 0)) (Dv.bh T.aM T.mm.h (C0 T) (hr.mono (by decide)) T.mm.b .nil aw (Dv.fld T.aR T.fA (Dv.v 0)) (Dv.aa (Dv.fld T.aR T.qk (Dv.v 0)) Dv.ag))))
  (Dv.cut (Dv.bz T.aR T.eY (Dv.v 0) (Dv.call (x8 T) (hr.mono (by decide)) T.gj.m T.gj.F.kp T.gj.b .nil aw (Dv.aa (Dv.fld T.aR T.fA (Dv.v 0)) (Dv.aa (Dv.v 3) Dv.ag))))
  (Dv.aj (Dv.aX (Dv.cu (Dv.call (Lg T) (hr.mono (by decide)) T.ny.m T.ny.F.kp T.ny.b .nil aw (Dv.aa (Dv.fld T.aR T.fA (Dv.v 0)) (Dv.aa (Dv.fld T.aR T.qk (Dv.v 0)) (Dv.aa (Dv.fld T.aR T.eY (Dv.v 0)) Dv.ag))))) (Dv.aj (Dv.bz T.aR T.qu (Dv.v 0) (Dv.listRev (K:=K) rfl rfl T.wo T.Cb (Dv.v 2)))) (Dv.aj (Dv.aW (Dv.bh T.aR T.gL.h (sY T) (hr.mono (by decide)) T.gL.b .nil aw (Dv.v 0) (Dv.aa Dv.str Dv.ag))))))))) ?_
  refine stI [some (V.ref x),some (V.bl fr),some (V.ref lp),none] ?_;refine eE (fun σ' H'=>σ'=[some (V.ref x),some (V.bl fr),some (V.ref lp),some (V.int (st:Int))]∧H'=H) ?_ ?_
  ·walk_at "w";rcases aQ with ⟨rfl,rfl⟩ | ⟨rfl,aQ⟩
   ·exact bM ⟨x,_,_,_,rfl,hx,(sf _).trans rfl,rfl,by trivial⟩
   ·obtain ⟨mw,hc,hh,sr,g8⟩:=v.m.h;exact bf ⟨x,_,_,_,rfl,hx,(sf _).trans rfl,AA.a,_,_,rfl,hh,(g8 _).trans rfl,x,_,_,_,rfl,hx,(sf _).trans rfl,AA,L,M,st,v.m,rfl,by rw [v.hz]; rfl,aQ,rfl,by first | rfl | trivial⟩
  rintro σ' H' ⟨rfl,rfl⟩;refine ao ?_;walk_at "w";refine ⟨x,_,_,_,rfl,hx,(sf _).trans rfl,AA,L,M,st,b,r,a,t,v.m,rfl,rfl,ha,ht,jH,fun H1 s1=>?_⟩;have v1:=v.same s1;obtain ⟨gY,bu,iS,v2⟩:=v1.goto (h':=cP b r);refine ⟨x,_,_,rfl,bu,by omega,?_⟩;have hlp1:=s1 _ _ fh;have BK:lp≠x:=fun e=>by rw [e,hx] at fh; cases fh
  have Iu:upd H1 x (.ins T.bg dx (ae "here" (.int ((cP b r:Nat):Int)) gY)) lp=some (.lst (ps.map V.str)):=by rw [ah BK]; exact hlp1
  generalize upd H1 x (.ins T.bg dx (ae "here" (.int ((cP b r:Nat):Int)) gY))=H2 at v2 Iu ⊢;obtain ⟨gX,rZ,bL,gZ,bR⟩:=v2.fld;walk_at "w";refine ⟨x,_,_,_,rfl,bL,(bR _).trans rfl,x,_,_,_,rfl,bL,(bR _).trans rfl,x,_,_,_,rfl,bL,(bR _).trans rfl,AA,L,M,cP b r,root,sn,v2.m,rfl,rfl,v2.hz,kZ,fun H3 s3=>?_⟩;have v3:=v2.same s3;cases sn
  ·obtain ⟨gU,vf,cX,hU,fk⟩:=v3.fld;exact bf ⟨x,_,_,rfl,cX,(fk _).trans rfl,_,H0,AA,L,M,dx,av,lf,rd,z,last,root,v3,fun fd aK H' v' f0 hf=>q2 rfl fd aK H' v' f0 hf⟩
  ·refine bM ?_;refine ⟨lp,ps.map V.str,rfl,aL.of (s3 _ _ Iu),fun l hl=>?_⟩;have v4:=v3.same (ai.upd (o:=.lst (ps.map V.str).reverse) hl);have b4:upd H3 l (.lst (ps.map V.str).reverse) l=some (.lst ((ps.map Sum.inr).reverse.map qm)):=by
    rw [ay,← List.map_reverse,← List.map_reverse,List.map_map]; rfl
   have l0:=v3.fresh hl;have BP:av≠l:=aF v3.oa hl;have BO:l≠rd:=Ne.symm (aF v3.od hl);generalize upd H3 l (.lst (ps.map V.str).reverse)=H4 at v4 b4 ⊢;obtain ⟨sA,jV,Bg,v5⟩:=v4.Ub l0 b4 BP BO;exact ⟨x,_,_,rfl,jV,by omega,q1 rfl l _ v5⟩
def fT (M:Hs) (L:List Ta) (root:Nat):Nat→Nat→List Str→Prop
 | n,k,ns=>∃ b r a t,L[k]?=some a∧M.ts[k]?=some t∧dv M k b r ∧
  if fv root (b::r)=true then ns=[]
  else ∃ ab tb f z,L[b]?=some ab∧M.ts[b]?=some tb∧tb.bU=[(f,z)]∧match n with | 0=>False | n+1=>∃ ns',ns=ns'++[z]∧fT M L root n f ns'
def Sw (CH CS CT:Addr):Sp:=jy fun x z n H Q _=>∃ A L M,∃ k root:Nat,∃ ns,aI CH CS CT H A L M∧A.a=x∧n=(k:Int)∧aJ (sD M.ro) (.inr z)=some (.int (root:Int))∧(∃ m,fT M L root m k ns)∧ns.length≤500∧∀ l H',ai H H'→H' l=some (.lst (ns.map V.str))→Q (.ref l) H'
theorem R3 (T:Tx K mg):aA P w K mg base aO 6 T.nB.f T.nB.d ["house", "asker", "folder"] (Sw T.au T.aD T.aG):=by
 refine T.nB.F.ok oP (fun vs H Q E h=>?_) (fun az A outer s H vs Q E hr h=>?_)
 ·exact eI h fun _ _ _ _=>rfl
 ·refine eI h fun x z n h=>?_;obtain ⟨AA,L,M,k,root,ns,i,rfl,rfl,hz,⟨m,hm⟩,hlen,q⟩:=h;obtain ⟨fs,c,hx,aV,sf⟩:=i.h;refine bA (b:=aU v7) ((Dv.cut (Dv.aS 3 oP.nd (Dv.bh T.aM T.ej.h (lH T) (hr.mono (by decide)) T.ej.b .nil aw (Dv.v 0) (Dv.aa (Dv.v 1) Dv.ag)))
  (Dv.cut (Dv.aS 4 oP.nd (Dv.lst Dv.ag))
  (Dv.cut (Dv.aS 5 oP.nd (Dv.call (m9 T) (hr.mono (by decide)) T.dw.m T.dw.F.kp T.dw.b .nil aw (Dv.aa (Dv.v 0) (Dv.aa (Dv.v 2) Dv.ag))))
  (Dv.cut (Dv.jE PassesOwn.never (Dv.aY (tT (K:=K) rfl) (Dv.v 3) (Dv.v 5)) (Dv.cut (Dv.aS 6 oP.nd (Dv.bh T.aM T.fc.h (oE T) (hr.mono (by decide)) T.fc.b .nil aw (Dv.v 0) (Dv.aa (Dv.ix (br (K:=K) rfl) (Dv.v 5) Dv.int) Dv.ag)))
  (Dv.cut (Dv.aW (Dv.ir PySem.F.slot_list_append PySem.F.type_list_append kM (Dv.v 4) (Dv.aa (Dv.ix (br (K:=K) rfl) (Dv.v 6) Dv.int) Dv.ag)))
  (Dv.aj (Dv.aS 5 oP.nd (Dv.call (m9 T) (hr.mono (by decide)) T.dw.m T.dw.F.kp T.dw.b .nil aw (Dv.aa (Dv.v 0) (Dv.aa (Dv.ix (br (K:=K) rfl) (Dv.v 6) Dv.int) Dv.ag))))))))
  (Dv.aj (Dv.aP (Dv.listRev (K:=K) rfl rfl T.wo T.Cb (Dv.v 4))))))))) ?_
  refine stI [some (V.ref AA.a),some (V.str z),some (V.int (k:Int)),none,none,none,none] ?_;refine ao ?_;walk_at "w";refine ⟨AA.a,_,_,rfl,hx,(sf _).trans rfl,AA,L,M,root,i,rfl,hz,?_⟩;refine ao ?_;walk_at "w";refine ⟨fits (by simp),fun ln vy=>?_⟩;have s1:=ai.upd (o:=.lst []) vy;have b1:upd H ln (.lst []) ln=some (.lst []):=ay;generalize upd H ln (.lst [])=H1 at s1 b1 ⊢;have i1:=i.same s1;refine ao ?_;walk_at "w";obtain ⟨b,r,a,t,ha,ht,aQ,de⟩:=(by unfold fT at hm; exact hm:∃ b r a t,L[k]?=some a∧M.ts[k]?=some t∧dv M k b r∧_);refine ⟨AA,L,M,k,b,r,a,t,i1,rfl,rfl,ha,ht,aQ,fun l2 H2 s2 hl20 cv=>?_⟩;have IV:=s1.trans s2;have c1:=s2 _ _ b1;obtain ⟨PV,kX⟩:∃ PV:Nat→St→Hp→Prop,PV=fun m σ' H'=>ai H H'∧∃ (ls:Addr) (b:Nat) (r:List Nat) (cs ns':List Str) (pv:Option V),σ'=[some (V.ref AA.a),some (V.str z),some (V.int (k:Int)),some (V.int (root:Int)),some (V.ref ln),some (V.ref ls),pv]∧H' ls=some (.lst (nV (b::r)))∧H' ln=some (.lst (cs.map V.str))∧ns=ns'++cs.reverse ∧
   (if fv root (b::r)=true then ns'=[]
    else ∃ ab tb f z,L[b]?=some ab∧M.ts[b]?=some tb∧tb.bU=[(f,z)]∧match m with | 0=>False | n+1=>∃ ns'',ns'=ns''++[z]∧fT M L root n f ns''):=⟨_,rfl⟩
  refine ao ⟨PV,⟨m,by rw [kX]; exact ⟨IV,l2,b,r,[],ns,none,rfl,cv,c1,by simp,de⟩⟩,?_⟩;clear de ha ht aQ cv hl20 c1 hm IV s2;intro m σ' H' hI;rw [kX] at hI;obtain ⟨s',ls,b,r,cs,ns',pv,rfl,rY,hln',fO,de⟩:=hI;have i':=i.same s';obtain ⟨fs',c',hx',hfl',sf'⟩:=i'.h;walk_at "w";refine ⟨_,.inl (aL.of rY),rfl,by simp [cw],?_⟩;rw [lh];cases hmem:fv root (b::r) with
  | true =>
   rw [if_pos hmem] at de;subst de;refine bf ?_;walk_at "w";refine ⟨ln,_,rfl,aL.of hln',fun l hl=>?_⟩;refine q l _ (s'.trans (ai.upd hl)) ?_;rw [ay,fO,List.nil_append,List.map_reverse]
  | false =>
   rw [if_neg (by rw [hmem]; nofun)] at de;obtain ⟨ab,tb,f,zz,eS,la,bb,hn⟩:=de;refine bM ⟨fun σ' H'=>∃ m',m' < m∧PV m' σ' H',fun σ' H' h=>h,?_⟩;refine ao ?_;walk_at "w";simp only [bG,rY,nV,List.map_cons,c7];refine ⟨AA.a,_,_,rfl,hx',(sf' _).trans rfl,AA,L,M,b,ab,tb,i',rfl,rfl,eS,la,.inr ⟨f,zz,bb,fun p hp=>?_⟩⟩;refine ao ?_;walk_at "w";simp only [hln',bG,hp,wC];cases m with
   | zero=>exact hn.elim
   | succ m =>
    obtain ⟨ns2,hns2,hn⟩:=hn;have ph:cs.length≤500:=by
     have:=congrArg List.length fO;simp at this;omega
    refine ⟨gP (by rw [List.length_map]; omega),?_⟩;have BK:p≠ln:=bN hp hln' (by nofun);have s4:=s'.eL (o:=.lst (List.map V.str cs++[V.str zz])) vy;have b4:upd H' ln (.lst (List.map V.str cs++[V.str zz])) ln=some (.lst ((cs++[zz]).map V.str)):=by rw [ay,List.map_append]; rfl
    have kP:upd H' ln (.lst (List.map V.str cs++[V.str zz])) p=some (.tup [V.int (f:Int),V.str zz]):=by rw [ah BK]; exact hp
    generalize upd H' ln (.lst (List.map V.str cs++[V.str zz]))=H4 at s4 b4 kP ⊢;walk_at "w";simp only [bG,kP,c7];obtain ⟨b2,r2,a2,t2,BE,gd,vQ,Bk⟩:=(by unfold fT at hn; exact hn:∃ b r a t,L[f]?=some a∧M.ts[f]?=some t∧dv M f b r∧_);refine ⟨AA,L,M,f,b2,r2,a2,t2,i.same s4,rfl,rfl,BE,gd,vQ,fun l5 H5 s5 hl50 pf=>⟨m,Nat.lt_succ_self m,?_⟩⟩;rw [kX];refine ⟨s4.trans s5,l5,b2,r2,cs++[zz],ns2,_,rfl,pf,s5 _ _ b4,?_,Bk⟩;rw [fO,hns2];simp
def Od (CH CS CT CW:Addr):Sp:=ik fun x H Q _=>∃ S H0 A L M dx av lf rd z last,∃ root b:Nat,∃ (r:List Nat) (a:Ta) (t:Th),ba CH CS CT CW S H0 H A L M x dx av lf rd z last root .ax∧L[S.here]?=some a∧M.ts[S.here]?=some t∧dv M S.here b r ∧
   (fv root (b::r)=true∧(∀ H',ba CH CS CT CW S H0 H' A L M x dx av lf rd z last root .ax→Q .ax H') ∨
     fv root (b::r)=false∧∃ (ab:Ta) (tb:Th) (f:Nat) (zz:Str) (af:Ta) (tf:Th) (b':Nat) (r':List Nat),L[b]?=some ab∧M.ts[b]?=some tb∧tb.bU=[(f,zz)]∧L[f]?=some af∧M.ts[f]?=some tf∧dv M f b' r'∧∀ H',ba CH CS CT CW { S with here:=cP b' r' } H0 H' A L M x dx av lf rd z last root .ax→Q .ax H')
theorem PQ (T:Tx K mg):aA P w K mg base aO 7 T.pZ.f T.pZ.d ["self"] (Od T.au T.aD T.aG T.bg):=by
 refine T.pZ.F.ok G2 (fun vs H Q E h=>?_) (fun az A outer s H vs Q E hr h=>?_)
 ·exact ed h fun _ _=>rfl
 ·refine ed h fun x h=>?_;obtain ⟨S,H0,AA,L,M,dx,av,lf,rd,z,last,root,b,r,a,t,v,ha,aN,aQ,q⟩:=h;obtain ⟨fs,pv,hx,aV,sf⟩:=v.fld;refine bA (b:=aU wq) ((Dv.cut (Dv.aS 1 G2.nd (Dv.call (m9 T) (hr.mono (by decide)) T.dw.m T.dw.F.kp T.dw.b .nil aw (Dv.aa (Dv.fld T.aR T.fA (Dv.v 0)) (Dv.aa (Dv.fld T.aR T.eY (Dv.v 0)) Dv.ag))))
  (Dv.aj (Dv.aX (Dv.aY (tT (K:=K) rfl) (Dv.fld T.aR T.u7 (Dv.v 0)) (Dv.v 1)) (Dv.aj (Dv.bz T.aR T.eY (Dv.v 0) (Dv.call (x8 T) (hr.mono (by decide)) T.gj.m T.gj.F.kp T.gj.b .nil aw (Dv.aa (Dv.fld T.aR T.fA (Dv.v 0)) (Dv.aa (Dv.ix (br (K:=K) rfl) (Dv.bh T.aM T.fc.h (oE T) (hr.mono (by decide)) T.fc.b .nil aw (Dv.fld T.aR T.fA (Dv.v 0)) (Dv.aa (Dv.ix (br (K:=K) rfl) (Dv.v 1) Dv.int) Dv.ag)) Dv.int) Dv.ag))))) Dv.nil)))) ?_
  refine stI [some (V.ref x),none] ?_;refine ao ?_;walk_at "w";refine ⟨x,_,_,_,rfl,hx,(sf _).trans rfl,x,_,_,_,rfl,hx,(sf _).trans rfl,AA,L,M,S.here,b,r,a,t,v.m,rfl,rfl,ha,aN,aQ,fun l H1 s1 hl0 hl=>?_⟩;have v1:=v.same s1;obtain ⟨gY,vU,bu,iS,b9⟩:=v1.fld;walk_at "w";refine ⟨x,_,_,_,rfl,bu,(b9 _).trans rfl,_,.inl (aL.of hl),rfl,by simp [cw],?_⟩;rw [lh];rcases q with ⟨hm,q⟩ | ⟨hm,ab,tb,f,zz,af,tf,b',r',eS,la,bb,fP,bq,hst',q⟩
  ·rw [hm];exact bf (q _ v1)
  ·rw [hm];refine bM ?_;obtain ⟨mw,hc,hh,sr,g8⟩:=v1.m.h;simp only [bG,hl,nV,List.map_cons,c7];refine ⟨x,_,_,_,rfl,bu,(b9 _).trans rfl,x,_,_,_,rfl,bu,(b9 _).trans rfl,AA.a,_,_,rfl,hh,(g8 _).trans rfl,AA,L,M,b,ab,tb,v1.m,rfl,rfl,eS,la,.inr ⟨f,zz,bb,fun p hp=>?_⟩⟩;simp only [hp,c7];refine ⟨AA,L,M,f,b',r',af,tf,v1.m,rfl,rfl,fP,bq,hst',fun H2 s2=>?_⟩;obtain ⟨gX,bL,gZ,v2⟩:=(v1.same s2).goto (h':=cP b' r');exact ⟨x,_,_,rfl,bL,by omega,q _ v2⟩
section
variable {CH CS CT CW:Addr} {S:Ws} {H0 H H':Hp} {A:Ad} {L:List Ta} {M:Hs} {x dx av lf rd:Addr} {z:Str} {last:Bool} {root:Nat} {told:V}
theorem ba.looked (v:ba CH CS CT CW S H0 H A L M x dx av lf rd z last root told):∃ fs,H x=some (.ins CW dx fs)∧fs.length≤40∧ba CH CS CT CW { S with look:=S.look+1 } H0 (upd H x (.ins CW dx (ae "looked_up" (.int ((S.look:Int)+1)) fs))) A L M x dx av lf rd z last root told∧List.lookup ("looked_up" : Str) fs=some (V.int (S.look:Int)):=by
 obtain ⟨fs,pv,e,l,p,f⟩:=v.o;refine ⟨fs,e,l,v.put (S:=S) (here':=S.here) (step':=S.step) (look':=S.look+1) (by rw [dQ (u:=.int (S.look:Int)) ((f _).trans rfl)]; exact l) fun pv' p' gs e' f'=>?_,(f _).trans rfl⟩;rw [e] at e';cases e';exact fun g=>((f'.put "looked_up" (.int ((S.look:Int)+1))) g).trans rfl
theorem ba.Ov (v:ba CH CS CT CW S H0 H A L M x dx av lf rd z last root told):∃ fs,H x=some (.ins CW dx fs)∧fs.length≤40∧ba CH CS CT CW { S with step:=S.step+1 } H0 (upd H x (.ins CW dx (ae "step" (.int ((S.step:Int)+1)) fs))) A L M x dx av lf rd z last root told∧List.lookup ("step" : Str) fs=some (V.int (S.step:Int)):=by
 obtain ⟨fs,pv,e,l,p,f⟩:=v.o;refine ⟨fs,e,l,v.put (S:=S) (here':=S.here) (step':=S.step+1) (look':=S.look) (by rw [dQ (u:=.int (S.step:Int)) ((f _).trans rfl)]; exact l) fun pv' p' gs e' f'=>?_,(f _).trans rfl⟩;rw [e] at e';cases e';exact fun g=>((f'.put "step" (.int ((S.step:Int)+1))) g).trans rfl
theorem ba.placed {p:Addr} {k:Nat} {nm:Str} (v:ba CH CS CT CW S H0 H A L M x dx av lf rd z last root told) (p0:H0 p=none) (hp:H p=some (.tup [.int (k:Int),.str nm])):∃ fs,H x=some (.ins CW dx fs)∧fs.length≤40∧ba CH CS CT CW { S with place:=some (k,nm) } H0 (upd H x (.ins CW dx (ae "place" (.ref p) fs))) A L M x dx av lf rd z last root told:=by
 obtain ⟨fs,pv,e,l,_,f⟩:=v.o;exact ⟨fs,e,l,⟨v.i,v.s.eL v.x0,v.x0,v.a0,v.l0,v.r0,⟨_,.ref p,ay,by rw [dQ (u:=pv) ((f _).trans rfl)]; exact l,⟨p,rfl,p0,by rw [ah (Ne.symm (bN e hp (by nofun)))]; exact hp⟩,fun g=>((f.put "place" (.ref p)) g).trans rfl⟩,by rw [ah (Ne.symm v.xa.1)]; exact v.oa,by rw [ah (Ne.symm v.xa.2.1)]; exact v.ol,by rw [ah (Ne.symm v.xa.2.2)]; exact v.od,v.n1,v.n2,v.n3,v.hz⟩⟩
end
def Oo (CH CS CT CW CF:Addr):Sp:=f6 fun x nm H Q _=>∃ S H0 A L M dx av lf rd z last,∃ root:Nat,∃ (a:Ta) (t:Th),ba CH CS CT CW S H0 H A L M x dx av lf rd z last root .ax∧L[S.here]?=some a∧M.ts[S.here]?=some t∧dX (.str nm)=true∧nm.length≤1000 ∧
   ((aJ (sD t.aZ) (.inr nm)=none∧∀ fd aK H',ba CH CS CT CW { S with look:=S.look+1 } H0 H' A L M x dx av lf rd z last root (.ref fd)→H0 fd=none→H' fd=some (.ins CF aK (fD S.step "none"))→Q .ax H') ∨
     ∃ (c:Nat) (ac:Ta) (tc:Th),aJ (sD t.aZ) (.inr nm)=some (.int (c:Int))∧L[c]?=some ac∧M.ts[c]?=some tc ∧
    ((tc.kd=("folder" : Str)∧∃ (b:Nat) (r:List Nat),dv M c b r∧∀ H',ba CH CS CT CW { S with look:=S.look+1,here:=cP b r } H0 H' A L M x dx av lf rd z last root .ax→Q .ax H') ∨
      (tc.kd=("file" : Str)∧∀ H',ba CH CS CT CW { S with look:=S.look+1,place:=some (S.here,nm),here:=c } H0 H' A L M x dx av lf rd z last root .ax→Q .ax H')))
theorem NK (T:Tx K mg):aA P w K mg base aO 7 T.rp.f T.rp.d ["self", "name"] (Oo T.au T.aD T.aG T.bg T.bC):=by
 refine T.rp.F.ok wV (fun vs H Q E h=>?_) (fun az A outer s H vs Q E hr h=>?_)
 ·exact cJ h fun _ _ _=>rfl
 ·refine cJ h fun x nm h=>?_;obtain ⟨S,H0,AA,L,M,dx,av,lf,rd,z,last,root,a,t,v,ha,aN,hn,Ja,q⟩:=h;refine bA (b:=aU xm) ((Dv.cut (Dv.j9 T.aR T.Ci kc (Dv.v 0) Dv.int)
  (Dv.cut (Dv.aS 2 wV.nd (Dv.bh T.aM T.jB.h (wY T) (hr.mono (by decide)) T.jB.b .nil aw (Dv.fld T.aR T.fA (Dv.v 0)) (Dv.aa (Dv.fld T.aR T.eY (Dv.v 0)) (Dv.aa (Dv.v 1) Dv.ag))))
  (Dv.cut (Dv.aX (Dv.aY oQ (Dv.v 2) Dv.ax) (Dv.cut (Dv.aW (Dv.bh T.aR T.gL.h (sY T) (hr.mono (by decide)) T.gL.b .nil aw (Dv.v 0) (Dv.aa Dv.str Dv.ag)))
  (Dv.aj Dv.EY)) Dv.nil)
  (Dv.cut (Dv.aS 3 wV.nd (Dv.bh T.aM T.eU.h (pd T) (hr.mono (by decide)) T.eU.b .nil aw (Dv.fld T.aR T.fA (Dv.v 0)) (Dv.aa (Dv.v 2) Dv.ag)))
  (Dv.aj (Dv.aX (Dv.aY cq (Dv.v 3) (Dv.glob (.str "folder") T.rf ⟨_,rfl⟩)) (Dv.aj (Dv.bz T.aR T.eY (Dv.v 0) (Dv.call (x8 T) (hr.mono (by decide)) T.gj.m T.gj.F.kp T.gj.b .nil aw (Dv.aa (Dv.fld T.aR T.fA (Dv.v 0)) (Dv.aa (Dv.v 2) Dv.ag))))) (Dv.aj (Dv.aX (Dv.dE (Dv.w_or (Dv.aY cq (Dv.v 3) (Dv.glob (.str "file") T.za ⟨_,rfl⟩)) (Dv.iL (Dv.dE (Dv.w_and (Dv.aY (xc hr.fV) (Dv.fld T.aR T.qu (Dv.v 0)) (Dv.lst Dv.ag)) (Dv.iD (Dv.cC (Dv.cu (Dv.fld T.aR T.HD (Dv.v 0)))))))))) (Dv.cut (Dv.bz T.aR T.uJ (Dv.v 0) (Dv.tup (Dv.aa (Dv.fld T.aR T.eY (Dv.v 0)) (Dv.aa (Dv.v 1) Dv.ag))))
  (Dv.aj (Dv.bz T.aR T.eY (Dv.v 0) (Dv.v 2)))) (Dv.aj Dv.cR)))))))))) ?_
  refine stI [some (V.ref x),some (V.str nm),none,none] ?_;obtain ⟨fs,hx,aV,v1,jX⟩:=v.looked;refine ao ?_;walk_at "w";refine ⟨x,_,_,.int (S.look:Int),rfl,hx,jX,_,_,rfl,rfl,_,_,hx,by omega,ao ?_⟩;generalize upd H x (.ins T.bg dx (ae "looked_up" (.int ((S.look:Int)+1)) fs))=H1 at v1 ⊢;obtain ⟨gY,vU,bu,iS,b9⟩:=v1.fld;obtain ⟨mw,hc,hh,sr,g8⟩:=v1.m.h;walk_at "w";refine ⟨x,_,_,_,rfl,bu,(b9 _).trans rfl,AA.a,_,_,rfl,hh,(g8 _).trans rfl,x,_,_,_,rfl,bu,(b9 _).trans rfl,AA,L,M,S.here,a,t,v1.m,rfl,rfl,ha,aN,hn,Ja,fun H2 s2=>?_⟩;have v2:=v1.same s2;obtain ⟨gX,rZ,bL,gZ,bR⟩:=v2.fld;obtain ⟨hfs2,A6,Ko,hhl2,hsf2⟩:=v2.m.h;rcases q with ⟨hv,q⟩ | ⟨c,ac,tc,hv,gf,eQ,q⟩
  ·rw [hv];refine ao ?_;walk_at "w";refine ⟨by trivial,bM ?_⟩;refine ao ?_;walk_at "w";exact ⟨x,_,_,rfl,bL,(bR _).trans rfl,_,H0,AA,L,M,dx,av,lf,rd,z,last,root,v2,fun fd aK H' v' f0 hf=>q fd aK H' v' f0 hf⟩
  rw [hv];refine ao ?_;walk_at "w";refine ⟨by trivial,?_⟩;rw [decide_eq_false (by nofun)];refine bf ?_;refine ao ?_;walk_at "w";refine ⟨x,_,_,_,rfl,bL,(bR _).trans rfl,AA.a,_,_,rfl,Ko,(hsf2 _).trans rfl,AA,L,M,c,ac,tc,v2.m,rfl,rfl,gf,eQ,?_⟩;rcases q with ⟨bI,b,r,aQ,q⟩ | ⟨bI,q⟩
  ·simp only [nH,bI,decide_true];walk_at "w";refine ⟨x,_,_,_,rfl,bL,(bR _).trans rfl,AA,L,M,c,b,r,ac,tc,v2.m,rfl,rfl,gf,eQ,aQ,fun H3 s3=>?_⟩;obtain ⟨gU,cX,hU,v3⟩:=(v2.same s3).goto (h':=cP b r);exact ⟨x,_,_,rfl,cX,by omega,q _ v3⟩
  ·simp only [nH,bI];rw [decide_eq_false (by decide +kernel)];refine bf ?_;walk_at "w";simp only [decide_true,if_true];refine ao ?_;walk_at "w";refine ⟨x,_,_,_,rfl,bL,(bR _).trans rfl,fits (by simp),fun p hp=>?_⟩;have v3:=v2.same (ai.upd (o:=.tup [V.int (S.here:Int),V.str nm]) hp);have b3:upd H2 p (.tup [V.int (S.here:Int),V.str nm]) p=some (.tup [V.int (S.here:Int),V.str nm]):=ay;have p0:=v2.fresh hp;generalize upd H2 p (.tup [V.int (S.here:Int),V.str nm])=H3 at v3 b3 ⊢;obtain ⟨gU,cX,hU,v4⟩:=v3.placed p0 b3;refine ⟨x,_,_,rfl,cX,by omega,?_⟩;generalize upd H3 x _=H4 at v4 ⊢;obtain ⟨sA,jV,Bg,v5⟩:=v4.goto (h':=c);exact ⟨x,_,_,rfl,jV,by omega,q _ v5⟩
theorem bT {b:Bool} {A B:Prop} {i:Decidable (b=true)} (h:b=false) (hb:B):if b=true then A else B:=by rw [if_neg (by rw [h]; decide)]; exact hb
theorem b8 {b:Bool} {A B:Prop} {i:Decidable (b=true)} (h:b=true) (hb:A):if b=true then A else B:=by rw [if_pos h]; exact hb
section
variable {T:Tx K mg} {H:Hp} {A:Ad} {L:List Ta} {M:Hs}
theorem yT {z s:Str} {k:Nat} {t:Th} {Q:VK} {E:XK} (i:aI T.au T.aD T.aG H A L M) (hz:(aJ (sD M.ro) (.inr z)).isSome=true) (hs:iB (.str s)=true) (ht:M.ts[k]?=some t) (q:Q (.bl (cZ s (cK t z))) H):CU T.au T.aD T.aG T.pI T.sL T.pk [.ref A.a,.str z,.int k,.str s] H Q E:=by
 refine ⟨A,L,M,i,rfl,⟨_,rfl⟩,⟨_,rfl⟩,⟨_,rfl⟩,fun h=>(by rw [h z rfl] at hz; cases hz),fun z' e _=>?_⟩;cases e;refine ⟨fun h=>(by rw [hs] at h; cases h),fun s' e _=>?_⟩;cases e;have bV:=(List.getElem?_eq_some_iff.mp ht).1;refine ⟨fun h=>absurd bV (h k rfl),fun k' t' e ht'=>?_⟩;cases e;rw [ht] at ht';cases ht';exact q
end
section
variable {CH CS CT CW:Addr} {S:Ws} {H0 H H':Hp} {A:Ad} {L:List Ta} {M:Hs} {x dx av lf rd:Addr} {z:Str} {last:Bool} {root:Nat} {told:V}
theorem ba.ask {k:Nat} (v:ba CH CS CT CW S H0 H A L M x dx av lf rd z last root told):ba CH CS CT CW { S with asked:=S.asked++[k] } H0 (upd H av (.lst (nV S.asked++[.int (k:Int)]))) A L M x dx av lf rd z last root told:=by
 obtain ⟨gs,pv,e,l,p,f⟩:=v.o;refine ⟨v.i,v.s.eL v.a0,v.x0,v.a0,v.l0,v.r0,⟨gs,pv,by rw [ah v.xa.1]; exact e,l,?_,f⟩,by rw [ay,nR]; rfl,by rw [ah (Ne.symm v.n1)]; exact v.ol,by rw [ah (Ne.symm v.n2)]; exact v.od,v.n1,v.n2,v.n3,v.hz⟩;show iw H0 _ S.place pv;generalize S.place=pl at p ⊢
 match pl,p with
 | none,h=>exact h
 | some (k,nm),⟨q,e,e0,e1⟩=>exact ⟨q,e,e0,by rw [ah (Ne.symm (bN v.oa e1 (by nofun)))]; exact e1⟩
end
inductive dD (M:Hs) (L:List Ta) (z:Str) (root:Nat) (S:Ws) (p:Str):Ws→Option Str→Prop
 | flat {a t}:L[S.here]?=some a→M.ts[S.here]?=some t→t.kd≠("folder" : Str)→dD M L z root S p { S with step:=S.step+1 } (some "flat")
 | om {a t}:L[S.here]?=some a→M.ts[S.here]?=some t→t.kd=("folder" : Str)→cZ ("g" : Str) (cK t z)=false→dD M L z root S p { S with step:=S.step+1,asked:=S.asked++[S.here] } (some "shut")
 | dot {a t}:L[S.here]?=some a→M.ts[S.here]?=some t→t.kd=("folder" : Str)→cZ ("g" : Str) (cK t z)=true→p=("." : Str)→dD M L z root S p { S with step:=S.step+1,asked:=S.asked++[S.here] } none
 | ei {a t b r}:L[S.here]?=some a→M.ts[S.here]?=some t→t.kd=("folder" : Str)→cZ ("g" : Str) (cK t z)=true→p=(".." : Str)→dv M S.here b r→fv root (b::r)=true→dD M L z root S p { S with step:=S.step+1,asked:=S.asked++[S.here] } none
 | up {a t b r ab tb f zz af tf b' r'}:L[S.here]?=some a→M.ts[S.here]?=some t→t.kd=("folder" : Str)→cZ ("g" : Str) (cK t z)=true→p=(".." : Str)→dv M S.here b r→fv root (b::r)=false→L[b]?=some ab→M.ts[b]?=some tb→tb.bU=[(f,zz)]→L[f]?=some af→M.ts[f]?=some tf→dv M f b' r'→dD M L z root S p { S with step:=S.step+1,asked:=S.asked++[S.here],here:=cP b' r' } none
 | no {a t}:L[S.here]?=some a→M.ts[S.here]?=some t→t.kd=("folder" : Str)→cZ ("g" : Str) (cK t z)=true→p≠(".." : Str)→p≠("." : Str)→dX (.str p)=true→p.length≤1000→aJ (sD t.aZ) (.inr p)=none→dD M L z root S p { S with step:=S.step+1,asked:=S.asked++[S.here],look:=S.look+1 } (some "none")
 | folder {a t c ac tc b r}:L[S.here]?=some a→M.ts[S.here]?=some t→t.kd=("folder" : Str)→cZ ("g" : Str) (cK t z)=true→p≠(".." : Str)→p≠("." : Str)→dX (.str p)=true→p.length≤1000→aJ (sD t.aZ) (.inr p)=some (.int ((c:Nat):Int))→L[c]?=some ac→M.ts[c]?=some tc→tc.kd=("folder" : Str)→dv M c b r→dD M L z root S p { S with step:=S.step+1,asked:=S.asked++[S.here],look:=S.look+1,here:=cP b r } none
 | file {a t c ac tc}:L[S.here]?=some a→M.ts[S.here]?=some t→t.kd=("folder" : Str)→cZ ("g" : Str) (cK t z)=true→p≠(".." : Str)→p≠("." : Str)→dX (.str p)=true→p.length≤1000→aJ (sD t.aZ) (.inr p)=some (.int ((c:Nat):Int))→L[c]?=some ac→M.ts[c]?=some tc→tc.kd=("file" : Str)→dD M L z root S p { S with step:=S.step+1,asked:=S.asked++[S.here],look:=S.look+1,place:=some (S.here,p),here:=c } none
def K1 (CH CS CT CW CF:Addr):Sp:=f6 fun x p H Q _=>∃ S H0 A L M dx av lf rd z last,∃ root:Nat,∃ S' o,ba CH CS CT CW S H0 H A L M x dx av lf rd z last root .ax∧S.asked.length≤900∧dD M L z root S p S' o ∧
   (o=none→∀ H',ba CH CS CT CW S' H0 H' A L M x dx av lf rd z last root .ax→Q .ax H') ∧
   (∀ y,o=some y→∀ fd aK H',ba CH CS CT CW S' H0 H' A L M x dx av lf rd z last root (.ref fd)→H0 fd=none→H' fd=some (.ins CF aK (fD S'.step y))→Q .ax H')
theorem KY (T:Tx K mg):aA P w K mg base aO 8 T.qV.f T.qV.d ["self", "part"] (K1 T.au T.aD T.aG T.bg T.bC):=by
 refine T.qV.F.ok Rg (fun vs H Q E h=>?_) (fun az A outer s H vs Q E hr h=>?_)
 ·exact cJ h fun _ _ _=>rfl
 ·refine cJ h fun x p h=>?_;obtain ⟨S,H0,AA,L,M,dx,av,lf,rd,z,last,root,S',o,v,hn,hp,q1,q2⟩:=h;have hb:∃ a t,L[S.here]?=some a∧M.ts[S.here]?=some t:=by
   cases hp <;> exact ⟨_,_,by assumption,by assumption⟩
  obtain ⟨a,t,ha,aN⟩:=hb;refine bA (b:=aU wx) ((Dv.cut (Dv.j9 T.aR T.wj kc (Dv.v 0) Dv.int)
  (Dv.cut (Dv.aX (Dv.aY ko (Dv.bh T.aM T.eU.h (pd T) (hr.mono (by decide)) T.eU.b .nil aw (Dv.fld T.aR T.fA (Dv.v 0)) (Dv.aa (Dv.fld T.aR T.eY (Dv.v 0)) Dv.ag)) (Dv.glob (.str "folder") T.rf ⟨_,rfl⟩)) (Dv.cut (Dv.aW (Dv.bh T.aR T.gL.h (sY T) (hr.mono (by decide)) T.gL.b .nil aw (Dv.v 0) (Dv.aa Dv.str Dv.ag)))
  (Dv.aj Dv.EY)) Dv.nil)
  (Dv.cut (Dv.aW (Dv.ir PySem.F.slot_list_append PySem.F.type_list_append kM (Dv.fld T.aR T.wI (Dv.v 0)) (Dv.aa (Dv.fld T.aR T.eY (Dv.v 0)) Dv.ag)))
  (Dv.aj (Dv.aX (Dv.cC (Dv.cu (Dv.dP T.aM T.jf.h (wB T) (hr.mono (by decide)) T.jf.b .nil fw (Dv.fld T.aR T.fA (Dv.v 0)) (Dv.aa (Dv.fld T.aR T.qk (Dv.v 0)) (Dv.aa (Dv.fld T.aR T.eY (Dv.v 0)) (Dv.aa Dv.str Dv.ag)))))) (Dv.aj (Dv.aW (Dv.bh T.aR T.gL.h (sY T) (hr.mono (by decide)) T.gL.b .nil aw (Dv.v 0) (Dv.aa Dv.str Dv.ag)))) (Dv.aj (Dv.aX (Dv.aY cq (Dv.v 1) Dv.str) (Dv.aj (Dv.aW (Dv.oV T.aR T.pZ.h (PQ T) (hr.mono (by decide)) T.pZ.b .nil aw (Dv.v 0)))) (Dv.aj (Dv.aX (Dv.aY ko (Dv.v 1) Dv.str) (Dv.aj (Dv.aW (Dv.bh T.aR T.rp.h (NK T) (hr.mono (by decide)) T.rp.b .nil aw (Dv.v 0) (Dv.aa (Dv.v 1) Dv.ag)))) Dv.nil)))))))))) ?_
  refine stI [some (V.ref x),some (V.str p)] ?_;obtain ⟨fs,hx,aV,v1,jX⟩:=v.Ov;refine ao ?_;walk_at "w";refine ⟨x,_,_,.int (S.step:Int),rfl,hx,jX,_,_,rfl,rfl,_,_,hx,by omega,ao ?_⟩;generalize upd H x (.ins T.bg dx (ae "step" (.int ((S.step:Int)+1)) fs))=H1 at v1 ⊢;obtain ⟨gY,vU,bu,iS,b9⟩:=v1.fld;obtain ⟨mw,hc,hh,sr,g8⟩:=v1.m.h;walk_at "w";refine ⟨x,_,_,_,rfl,bu,(b9 _).trans rfl,AA.a,_,_,rfl,hh,(g8 _).trans rfl,x,_,_,_,rfl,bu,(b9 _).trans rfl,AA,L,M,S.here,a,t,v1.m,rfl,rfl,ha,aN,?_⟩;simp only [nH];by_cases bI:t.kd=("folder" : Str)
  ·simp only [bI,decide_true];refine bf ?_;refine ao ?_;walk_at "w";refine ⟨x,_,_,_,rfl,bu,(b9 _).trans rfl,?_⟩;simp only [v1.oa];refine ⟨x,_,_,_,rfl,bu,(b9 _).trans rfl,?_⟩;have v2:=v1.ask (k:=S.here);refine ⟨gP (by simp; omega),?_⟩;dsimp only at v2;generalize upd H1 av (.lst (nV S.asked++[.int (S.here:Int)]))=H2 at v2 ⊢;obtain ⟨gX,rZ,bL,gZ,bR⟩:=v2.fld;obtain ⟨mO,gc,gh,mM,fi⟩:=v2.m.h;refine ⟨x,_,_,_,rfl,bL,(bR _).trans rfl,AA.a,_,_,rfl,gh,(fi _).trans rfl,x,_,_,_,rfl,bL,(bR _).trans rfl,x,_,_,_,rfl,bL,(bR _).trans rfl,yT v2.m (by rw [v2.hz]; rfl) (by decide +kernel) aN ?_⟩;cases hp with
   | flat h1 h2 h3=>rw [aN] at h2; cases h2; exact absurd bI h3
   | om h1 h2 h3 h4 =>
    rw [aN] at h2; cases h2;rw [h4];exact bM ⟨x,_,_,rfl,bL,(bR _).trans rfl,_,H0,AA,L,M,dx,av,lf,rd,z,last,root,v2,fun fd aK H' v' f0 hf=>q2 _ rfl fd aK H' v' f0 hf⟩
   | dot h1 h2 h3 h4 h5 =>
    rw [aN] at h2; cases h2;subst h5;rw [h4];refine bf (bT (decide_eq_false (by decide +kernel)) (bT (by rw [decide_eq_true rfl]; rfl) (q1 rfl _ v2)))
   | ei h1 h2 h3 h4 h5 h6 h7 =>
    rw [aN] at h2; cases h2;subst h5;rw [h4];exact bf (b8 (decide_eq_true rfl) ⟨x,_,_,rfl,bL,(bR _).trans rfl,_,H0,AA,L,M,dx,av,lf,rd,z,last,root,_,_,a,_,v2,ha,aN,h6,.inl ⟨h7,fun H' v'=>q1 rfl H' v'⟩⟩)
   | up h1 h2 h3 h4 h5 h6 h7 h8 h9 eA eR dA fK =>
    rw [aN] at h2; cases h2;subst h5;rw [h4];exact bf (b8 (decide_eq_true rfl) ⟨x,_,_,rfl,bL,(bR _).trans rfl,_,H0,AA,L,M,dx,av,lf,rd,z,last,root,_,_,a,_,v2,ha,aN,h6,.inr ⟨h7,_,_,_,_,_,_,_,_,h8,h9,eA,eR,dA,fK,fun H' v'=>q1 rfl H' v'⟩⟩)
   | no h1 h2 h3 h4 h5 h6 h7 h8 h9 =>
    rw [aN] at h2; cases h2;rw [h4];exact bf (bT (decide_eq_false h5) (b8 (by rw [decide_eq_false h6]; rfl) ⟨x,_,_,rfl,bL,(bR _).trans rfl,_,H0,AA,L,M,dx,av,lf,rd,z,last,root,a,_,v2,ha,aN,h7,h8,.inl ⟨h9,fun fd aK H' v' f0 hf=>q2 _ rfl fd aK H' v' f0 hf⟩⟩))
   | folder h1 h2 h3 h4 h5 h6 h7 h8 h9 eA eR dA fK =>
    rw [aN] at h2; cases h2;rw [h4];exact bf (bT (decide_eq_false h5) (b8 (by rw [decide_eq_false h6]; rfl) ⟨x,_,_,rfl,bL,(bR _).trans rfl,_,H0,AA,L,M,dx,av,lf,rd,z,last,root,a,_,v2,ha,aN,h7,h8,.inr ⟨_,_,_,h9,eA,eR,.inl ⟨dA,_,_,fK,fun H' v'=>q1 rfl H' v'⟩⟩⟩))
   | file h1 h2 h3 h4 h5 h6 h7 h8 h9 eA eR dA =>
    rw [aN] at h2; cases h2;rw [h4];exact bf (bT (decide_eq_false h5) (b8 (by rw [decide_eq_false h6]; rfl) ⟨x,_,_,rfl,bL,(bR _).trans rfl,_,H0,AA,L,M,dx,av,lf,rd,z,last,root,a,_,v2,ha,aN,h7,h8,.inr ⟨_,_,_,h9,eA,eR,.inr ⟨dA,fun H' v'=>q1 rfl H' v'⟩⟩⟩))
  ·refine b8 (by rw [decide_eq_false bI]; rfl) ?_;refine ao ?_;walk_at "w";have hf:S'={ S with step:=S.step+1 }∧o=some ("flat" : Str):=by
    cases hp with
    | flat h1 h2 h3=>exact ⟨rfl,rfl⟩
    | om h1 h2 h3 h4=>rw [aN] at h2; cases h2; exact absurd h3 bI
    | dot h1 h2 h3 h4 h5=>rw [aN] at h2; cases h2; exact absurd h3 bI
    | ei h1 h2 h3 h4 h5 h6 h7=>rw [aN] at h2; cases h2; exact absurd h3 bI
    | up h1 h2 h3 h4 h5 h6 h7 h8 h9 eA eR dA fK=>rw [aN] at h2; cases h2; exact absurd h3 bI
    | no h1 h2 h3 h4 h5 h6 h7 h8 h9=>rw [aN] at h2; cases h2; exact absurd h3 bI
    | folder h1 h2 h3 h4 h5 h6 h7 h8 h9 eA eR dA fK=>rw [aN] at h2; cases h2; exact absurd h3 bI
    | file h1 h2 h3 h4 h5 h6 h7 h8 h9 eA eR dA=>rw [aN] at h2; cases h2; exact absurd h3 bI
   obtain ⟨rfl,rfl⟩:=hf;exact ⟨x,_,_,rfl,bu,(b9 _).trans rfl,_,H0,AA,L,M,dx,av,lf,rd,z,last,root,v1,fun fd aK H' v' f0 hf=>q2 _ rfl fd aK H' v' f0 hf⟩
theorem wu (c:Nat):∀ (ns:List Str) (n:Nat),(∀ s∈ns,s.length≤8)→ns.foldl (fun n z=>n+z.length+c) n≤n+(8+c) * ns.length
 | [],n,_=>by simp
 | y::r,n,h=>by
  have h1:=h y (by simp);have h2:=wu c r (n+y.length+c) fun s hs=>h s (by simp [hs]);rw [List.foldl_cons,List.length_cons,Nat.mul_add];omega
theorem EF {ns:List Str} (h:∀ s∈ns,s.length≤8) (hl:ns.length≤100):ns.foldl (fun n z=>n+z.length+(Str.ofString "/").length) 0≤900∧(Str.join (Str.ofString "/") ns).length≤900:=by
 have lj:(Str.ofString "/").length=1:=by decide +kernel
 have h1:=wu 1 ns 0 h;have h2:=StrLaws.join_length_le (Str.ofString "/") ns;have h3:(ns.map (·.length)).sum≤8 * ns.length:=by
  clear h1 h2 hl
  induction ns with
  | nil=>simp
  | cons y r ih =>
   have:=ih fun s hs=>h s (by simp [hs]);have h4:=h y (by simp);rw [List.map_cons,List.sum_cons,List.length_cons];omega
 rw [lj] at h2 ⊢;omega
def gm (ns:List Str):Str:=Str.ofString "/" ++ Str.join (Str.ofString "/") ns
def O6 (CH CS CT CW:Addr):Sp:=ik fun x H Q _=>∃ S H0 A L M dx av lf rd z last,∃ (root f:Nat) (a:Ta) (t:Th) (ns bE:List Str) (told:V),ba CH CS CT CW S H0 H A L M x dx av lf rd z last root told∧L[S.here]?=some a∧M.ts[S.here]?=some t ∧
   (t.kd=("folder" : Str)∧f=S.here∧bE=[]∨t.kd≠("folder" : Str)∧∃ nm:Str,S.place=some (f,nm)∧bE=[nm]∧nm.length≤8)∧(∃ m,fT M L root m f ns)∧ns.length≤99∧(∀ s∈ns,s.length≤8)∧∀ H',ai H H'→Q (.str (gm (ns++bE))) H'
theorem Tg (T:Tx K mg):aA P w K mg base aO 7 T.qM.f T.qM.d ["self"] (O6 T.au T.aD T.aG T.bg):=by
 refine T.qM.F.ok qe (fun vs H Q E h=>?_) (fun az A outer s H vs Q E hr h=>?_)
 ·exact ed h fun _ _=>rfl
 ·refine ed h fun x h=>?_;obtain ⟨S,H0,AA,L,M,dx,av,lf,rd,z,last,root,f,a,t,ns,bE,told,v,ha,aN,hk,fO,hl100,A3,q⟩:=h;refine bA (b:=aU z9) ((Dv.cut (Dv.aS 1 qe.nd (Dv.lst Dv.ag))
  (Dv.cut (Dv.aS 2 qe.nd (Dv.fld T.aR T.eY (Dv.v 0)))
  (Dv.cut (Dv.aX (Dv.aY ko (Dv.bh T.aM T.eU.h (pd T) (hr.mono (by decide)) T.eU.b .nil aw (Dv.fld T.aR T.fA (Dv.v 0)) (Dv.aa (Dv.fld T.aR T.eY (Dv.v 0)) Dv.ag)) (Dv.glob (.str "folder") T.rf ⟨_,rfl⟩)) (Dv.cut (Dv.aS 2 qe.nd (Dv.ix (br (K:=K) rfl) (Dv.fld T.aR T.uJ (Dv.v 0)) Dv.int))
  (Dv.aj (Dv.aS 1 qe.nd (Dv.lst (Dv.aa (Dv.ix (br (K:=K) rfl) (Dv.fld T.aR T.uJ (Dv.v 0)) Dv.int) Dv.ag))))) Dv.nil)
  (Dv.aj (Dv.aP (Dv.op ee Dv.str (Dv.lL PySem.F.slot_str_join PySem.F.type_str_join (zQ (K:=K) rfl) Dv.str (Dv.aa (Dv.op ee (Dv.call (R3 T) (hr.mono (by decide)) T.nB.m T.nB.F.kp T.nB.b .nil aw (Dv.aa (Dv.fld T.aR T.fA (Dv.v 0)) (Dv.aa (Dv.fld T.aR T.qk (Dv.v 0)) (Dv.aa (Dv.v 2) Dv.ag)))) (Dv.v 1)) Dv.ag))))))))) ?_
  refine stI [some (V.ref x),none,none] ?_;refine ao ?_;walk_at "w";refine ⟨fits (by simp),fun ln vy=>?_⟩;have s1:=ai.upd (o:=.lst []) vy;have b1:upd H ln (.lst []) ln=some (.lst []):=ay;generalize upd H ln (.lst [])=H1 at s1 b1 ⊢;have v1:=v.same s1;obtain ⟨fs,pv,hx,aV,BV,sf⟩:=v1.o;obtain ⟨mw,hc,hh,sr,g8⟩:=v1.m.h;refine ao ?_;walk_at "w";refine ⟨x,_,_,_,rfl,hx,(sf _).trans rfl,?_⟩;refine eE (fun σ' H'=>∃ ln',σ'=[some (V.ref x),some (V.ref ln'),some (V.int (f:Int))]∧ai H H'∧H' ln'=some (.lst (bE.map V.str))∧bE.length≤1∧∀ s∈bE,s.length≤8) ?_ ?_
  ·walk_at "w";refine ⟨x,_,_,_,rfl,hx,(sf _).trans rfl,AA.a,_,_,rfl,hh,(g8 _).trans rfl,x,_,_,_,rfl,hx,(sf _).trans rfl,AA,L,M,S.here,a,t,v1.m,rfl,rfl,ha,aN,?_⟩;simp only [nH];rcases hk with ⟨bI,rfl,rfl⟩ | ⟨bI,nm,bb,rfl,bK⟩
   ·refine bT (by rw [decide_eq_true bI]; rfl) ?_;exact ⟨ln,rfl,s1,b1,by simp,fun s hs=>(by cases hs)⟩
   ·refine b8 (by rw [decide_eq_false bI]; rfl) ?_;rw [bb] at BV;obtain ⟨p,rfl,p0,hp⟩:=BV;refine ao ?_;walk_at "w";refine ⟨x,_,_,_,rfl,hx,(sf _).trans rfl,?_⟩;simp only [bG,hp,c7];refine ⟨x,_,_,_,rfl,hx,(sf _).trans rfl,?_⟩;simp only [hp,wC];exact ⟨fits (by simp),fun p2 eC=>⟨p2,rfl,s1.trans (ai.upd eC),by rw [ay]; rfl,by simp,fun s hs=>by rw [List.mem_singleton.mp hs]; exact bK⟩⟩
  rintro σ' H2 ⟨l2,rfl,s2,b2,rj,h8⟩;have v2:=v.same s2;obtain ⟨gX,rZ,bL,gZ,bR⟩:=v2.fld;walk_at "w";refine ⟨x,_,_,_,rfl,bL,(bR _).trans rfl,x,_,_,_,rfl,bL,(bR _).trans rfl,AA,L,M,f,root,ns,v2.m,rfl,rfl,v2.hz,fO,by omega,fun l H3 s3 hl=>?_⟩;have c3:=s3 _ _ b2;simp only [hl,c3];have hn8':∀ s∈ns++bE,s.length≤8:=fun s hs=>by
   rcases List.mem_append.mp hs with hs | hs
   ·exact A3 s hs
   ·exact h8 s hs
  obtain ⟨vN,hb2⟩:=EF hn8' (by rw [List.length_append]; omega);have lj:(Str.ofString "/").length=1:=by decide +kernel
  refine ⟨fits (by simp only [List.length_map]; omega),fun p hp=>?_⟩;refine ⟨_,aL.of ay,ns++bE,by simp,?_⟩;exact ⟨fits (by omega),fits (by omega),q _ ((s2.trans s3).trans (ai.upd hp))⟩
section
variable {CH CS CT CW:Addr} {S S':Ws} {H0 H H':Hp} {A:Ad} {L:List Ta} {M:Hs} {x dx av lf rd:Addr} {z:Str} {last:Bool} {root:Nat} {told:V} {p:Str} {o:Option Str}
theorem ba.pop {ts:List (Sum Nat Str)} (v:ba CH CS CT CW S H0 H A L M x dx av lf rd z last root told):ba CH CS CT CW { S with left:=ts } H0 (upd H lf (.lst (ts.map qm))) A L M x dx av lf rd z last root told:=by
 obtain ⟨gs,pv,e,l,p,f⟩:=v.o;refine ⟨v.i,v.s.eL v.l0,v.x0,v.a0,v.l0,v.r0,⟨gs,pv,by rw [ah v.xa.2.1]; exact e,l,?_,f⟩,by rw [ah v.n1]; exact v.oa,ay,by rw [ah (Ne.symm v.n3)]; exact v.od,v.n1,v.n2,v.n3,v.hz⟩;show iw H0 _ S.place pv;generalize S.place=pl at p ⊢
 match pl,p with
 | none,h=>exact h
 | some (k,nm),⟨q,e,e0,e1⟩=>exact ⟨q,e,e0,by rw [ah (Ne.symm (bN v.ol e1 (by nofun)))]; exact e1⟩
theorem dD.left (h:dD M L z root S p S' o):S'.left=S.left:=by cases h <;> rfl
theorem dD.asked (h:dD M L z root S p S' o):S'.asked.length≤S.asked.length+1:=by
 cases h <;> simp
end
def gi (ps:List Str):List (Sum Nat Str):=(ps.map Sum.inr).reverse
theorem uY (ps:List Str):(gi ps).map qm=ps.reverse.map V.str:=by
 unfold gi;rw [← List.map_reverse,List.map_map]; rfl
inductive fY (M:Hs) (L:List Ta) (z:Str) (root:Nat):Ws→List Str→Ws→Option Str→Prop
 | done (S):fY M L z root S [] S none
 | step {S p ps S1 S' o}:dD M L z root { S with left:=gi ps } p S1 none→fY M L z root S1 ps S' o→fY M L z root S (p::ps) S' o
 | fail {S p ps S1 y}:dD M L z root { S with left:=gi ps } p S1 (some y)→fY M L z root S (p::ps) S1 (some y)
abbrev nM (k:Nat) (ns:List Str):List (Str×V):=ae "way" (.str (gm ns)) (ae "number" (.int (k:Int)) [])
def xZ (M:Hs) (L:List Ta) (root:Nat) (S:Ws) (ns bE:List Str):Prop:=∃ (f:Nat) (a:Ta) (t:Th),L[S.here]?=some a∧M.ts[S.here]?=some t ∧
   (t.kd=("folder" : Str)∧f=S.here∧bE=[]∨t.kd≠("folder" : Str)∧∃ nm:Str,S.place=some (f,nm)∧bE=[nm]∧nm.length≤8)∧(∃ m,fT M L root m f ns)∧ns.length≤99∧(∀ s∈ns,s.length≤8)
def OJ (CH CS CT CW CF CX:Addr):Sp:=ik fun x H Q _=>∃ S H0 A L M dx av lf rd z last,∃ root:Nat,∃ ps:List Str,∃ S' o,ba CH CS CT CW S H0 H A L M x dx av lf rd z last root .ax∧S.left=gi ps∧S.asked.length+ps.length≤900∧fY M L z root S ps S' o ∧
   (∀ y,o=some y→∀ fd aK H',ba CH CS CT CW S' H0 H' A L M x dx av lf rd z last root (.ref fd)→H0 fd=none→H' fd=some (.ins CX aK (fD S'.step y))→Q .ax H') ∧
   (o=none→∃ ns bE,xZ M L root S' ns bE∧∀ fd aK H',ba CH CS CT CW S' H0 H' A L M x dx av lf rd z last root (.ref fd)→H0 fd=none→H' fd=some (.ins CF aK (nM S'.here (ns++bE)))→Q .ax H')
theorem QK (T:Tx K mg):aA P w K mg base aO 9 T.pY.f T.pY.d ["self"] (OJ T.au T.aD T.aG T.bg T.cb T.bC):=by
 refine T.pY.F.ok E8 (fun vs H Q E h=>?_) (fun az A outer s H vs Q E hr h=>?_)
 ·exact ed h fun _ _=>rfl
 ·refine ed h fun x h=>?_;obtain ⟨S,H0,AA,L,M,dx,av,lf,rd,z,last,root,ps,S',o,v,hle,hlen,ef,q1,q2⟩:=h;refine bA (b:=aU yt) ((Dv.cut (Dv.jE PassesOwn.never (Dv.dE (Dv.w_and (Dv.aY oQ (Dv.fld T.aR T.lA (Dv.v 0)) Dv.ax) (Dv.iD (Dv.aY (uy hr.fV) (Dv.fld T.aR T.qu (Dv.v 0)) (Dv.lst Dv.ag))))) (Dv.cut (Dv.aS 1 E8.nd (Dv.S6 PySem.F.slot_list_pop PySem.F.type_list_pop PB (Dv.fld T.aR T.qu (Dv.v 0))))
  (Dv.aj (Dv.aX (Dv.cu (Dv.call (Hm T) (hr.mono (by decide)) T.jg.m T.jg.F.kp T.jg.b .nil aw (Dv.aa (Dv.v 1) Dv.ag))) (Dv.aj Dv.cR) (Dv.aj (Dv.aW (Dv.bh T.aR T.qV.h (KY T) (hr.mono (by decide)) T.qV.b .nil aw (Dv.v 0) (Dv.aa (Dv.v 1) Dv.ag))))))))
  (Dv.aj (Dv.aX (Dv.aY oQ (Dv.fld T.aR T.lA (Dv.v 0)) Dv.ax) (Dv.aj (Dv.bz T.aR T.lA (Dv.v 0) (Dv.make T.NA (VH T) (hr.mono (by decide)) T.xR T.rW.b .nil aw (Dv.aa (Dv.fld T.aR T.eY (Dv.v 0)) (Dv.aa (Dv.oV T.aR T.qM.h (Tg T) (hr.mono (by decide)) T.qM.b .nil aw (Dv.v 0)) Dv.ag))))) Dv.nil)))) ?_
  refine stI [some (V.ref x),none] ?_;obtain ⟨PV,kX⟩:∃ PV:Nat→St→Hp→Prop,PV=fun m σ' H'=>∃ pv:Option V,σ'=[some (V.ref x),pv] ∧
    ((∃ S ps,m=ps.length+1∧ba T.au T.aD T.aG T.bg S H0 H' AA L M x dx av lf rd z last root .ax∧S.left=gi ps∧S.asked.length+ps.length≤900∧fY M L z root S ps S' o) ∨
      (∃ y fd aK,m=0∧o=some y∧ba T.au T.aD T.aG T.bg S' H0 H' AA L M x dx av lf rd z last root (.ref fd)∧H0 fd=none∧H' fd=some (.ins T.bC aK (fD S'.step y)))):=⟨_,rfl⟩
  refine ao ?_;refine ⟨PV,⟨ps.length+1,by rw [kX]; exact ⟨none,rfl,.inl ⟨S,ps,rfl,v,hle,hlen,ef⟩⟩⟩,?_⟩;clear v hle hlen ef;intro m σ' H' hI;rw [kX] at hI;obtain ⟨pv,rfl,⟨S,ps,hm,v1,hle,hlen,ef⟩ | ⟨y,fd,aK,hm,ho,v1,f0,bt⟩⟩:=hI
  ·walk_at "w";obtain ⟨gY,vU,bu,iS,b9⟩:=v1.fld;refine ⟨x,_,_,_,rfl,bu,(b9 _).trans rfl,by trivial,bM ?_⟩;refine ⟨x,_,_,_,rfl,bu,(b9 _).trans rfl,fits (by simp),fun d hd=>?_⟩;have v2:=v1.same (ai.upd (o:=.lst []) hd);have b2:upd H' d (.lst []) d=some (.lst []):=ay;generalize upd H' d (.lst [])=H2 at v2 b2 ⊢;obtain ⟨gX,rZ,bL,gZ,bR⟩:=v2.fld;cases ef with
   | done =>
    have mz:H2 lf=some (.lst (([]:List Str).map V.str)):=by rw [v2.ol,hle]; rfl
    refine ⟨[],[],mz,b2,bf ?_⟩;refine ⟨x,_,_,_,rfl,bL,(bR _).trans rfl,by trivial,bM ?_⟩;walk_at "w";obtain ⟨ns,bE,⟨f,a,t,h1,h2,h3,h4,h5,h6⟩,q⟩:=q2 rfl;refine ⟨x,_,_,_,rfl,bL,(bR _).trans rfl,x,_,_,rfl,bL,(bR _).trans rfl,_,H0,AA,L,M,dx,av,lf,rd,z,last,root,f,a,t,ns,bE,_,v2,h1,h2,h3,h4,h5,h6,fun H3 s3=>?_⟩;have v3:=v2.same s3;intro fd aK bt hdfd nfd;have s4:=(ai.upd (o:=.own fd) hdfd).trans (ai.upd (p:=fd) (o:=.ins T.cb aK []) (by rw [ah (Ne.symm nfd)]; exact bt));have b4:upd (upd H3 aK (.own fd)) fd (.ins T.cb aK []) fd=some (.ins T.cb aK []):=ay;have v4:=v3.same s4;have f0:=v3.fresh bt;obtain ⟨gU,vf,cX,hU,fk⟩:=v3.fld;have nx:x≠fd:=aF cX bt;have na:av≠fd:=aF v3.oa bt;have nl:lf≠fd:=aF v3.ol bt;have nr:rd≠fd:=aF v3.od bt;generalize upd (upd H3 aK (.own fd)) fd (.ins T.cb aK [])=H4 at s4 b4 v4 ⊢;refine ⟨aK,b4,rfl,?_⟩;have v5:=v4.off (o':=.ins T.cb aK (nM S'.here (ns++bE))) f0 b4 nx na nl nr (by nofun);have b5:upd H4 fd (.ins T.cb aK (nM S'.here (ns++bE))) fd=some (.ins T.cb aK (nM S'.here (ns++bE))):=ay;generalize upd H4 fd (.ins T.cb aK (nM S'.here (ns++bE)))=H5 at v5 b5 ⊢;obtain ⟨JG,gy,pf,v6⟩:=v5.tell (told':=.ref fd);exact ⟨x,_,_,rfl,gy,by omega,q fd aK _ v6 f0 (by rw [ah (Ne.symm nx)]; exact b5)⟩
   | @step _ p ps S1 _ _ aQ ef =>
    have mz:H2 lf=some (.lst ((ps.reverse++[p]).map V.str)):=by rw [v2.ol,hle,uY,List.reverse_cons]
    refine ⟨ps.reverse++[p],[],mz,b2,?_⟩;rw [decide_eq_false (by simp)];refine bM ⟨_,fun _ _ h=>h,?_⟩;refine ao ?_;walk_at "w";refine ⟨x,_,_,_,rfl,bL,(bR _).trans rfl,?_⟩;simp only [mz];refine ⟨ps.reverse.map V.str,V.str p,by simp,?_⟩;have v3:=v2.pop (ts:=gi ps);rw [uY] at v3;generalize upd H2 lf (.lst (ps.reverse.map V.str))=H3 at v3 ⊢;obtain ⟨gU,vf,cX,hU,fk⟩:=v3.fld;refine ⟨⟨_,rfl⟩,bf ?_⟩;refine ⟨x,_,_,rfl,cX,(fk _).trans rfl,_,H0,AA,L,M,dx,av,lf,rd,z,last,root,_,_,v3,by simp at hlen ⊢; omega,aQ,fun _ H4 v4=>⟨ps.length+1,by rw [hm]; simp,?_⟩,fun y hy=>by cases hy⟩;rw [kX];have h1:=aQ.asked;exact ⟨_,rfl,.inl ⟨S1,ps,rfl,v4,aQ.left,by simp at hlen h1 ⊢; omega,ef⟩⟩
   | @fail _ p ps _ y aQ =>
    have mz:H2 lf=some (.lst ((ps.reverse++[p]).map V.str)):=by rw [v2.ol,hle,uY,List.reverse_cons]
    refine ⟨ps.reverse++[p],[],mz,b2,?_⟩;rw [decide_eq_false (by simp)];refine bM ⟨_,fun _ _ h=>h,?_⟩;refine ao ?_;walk_at "w";refine ⟨x,_,_,_,rfl,bL,(bR _).trans rfl,?_⟩;simp only [mz];refine ⟨ps.reverse.map V.str,V.str p,by simp,?_⟩;have v3:=v2.pop (ts:=gi ps);rw [uY] at v3;generalize upd H2 lf (.lst (ps.reverse.map V.str))=H3 at v3 ⊢;obtain ⟨gU,vf,cX,hU,fk⟩:=v3.fld;refine ⟨⟨_,rfl⟩,bf ?_⟩;refine ⟨x,_,_,rfl,cX,(fk _).trans rfl,_,H0,AA,L,M,dx,av,lf,rd,z,last,root,_,_,v3,by simp at hlen ⊢; omega,aQ,(fun z=>by cases z),fun y' hy fd aK H4 v4 f0 hf=>⟨0,by rw [hm]; simp,?_⟩⟩;cases hy;rw [kX];exact ⟨_,rfl,.inr ⟨y,fd,aK,rfl,rfl,v4,f0,hf⟩⟩
  ·walk_at "w";obtain ⟨gY,vU,bu,iS,b9⟩:=v1.fld;refine ⟨x,_,_,_,rfl,bu,(b9 _).trans rfl,by trivial,?_⟩;refine bT (decide_eq_false (by nofun)) ?_
   first
    | exact ⟨x,_,_,_,rfl,bu,(b9 _).trans rfl,by trivial,bT (decide_eq_false (by nofun)) (q1 y ho fd aK _ v1 f0 bt)⟩
    | exact bf ⟨x,_,_,_,rfl,bu,(b9 _).trans rfl,by trivial,bT (decide_eq_false (by nofun)) (q1 y ho fd aK _ v1 f0 bt)⟩
    | (walk_at "w"; exact ⟨x,_,_,_,rfl,bu,(b9 _).trans rfl,by trivial,bT (decide_eq_false (by nofun)) (q1 y ho fd aK _ v1 f0 bt)⟩)
structure End where
 asked:List Nat
 res:Sum (Nat×List Str) (Nat×Str)
def ub:Sum (Nat×List Str) (Nat×Str)→List (Str×V)
 | .inl (k,ns)=>nM k ns
 | .inr (k,y)=>fD k y
def uM (CF CX:Addr):Sum (Nat×List Str) (Nat×Str)→Addr
 | .inl _=>CF
 | .inr _=>CX
structure nz (M:Hs) (L:List Ta) (z:Str) (fr:Bool) (ps:List Str) (e:End):Prop where
 ex:∃ (root st b:Nat) (r:List Nat) (a:Ta) (t:Th) (S':Ws) (o:Option Str),aJ (sD M.ro) (.inr z)=some (.int (root:Int))∧(fr=true∧st=root∨fr=false∧aJ (sD M.st) (.inr z)=some (.int (st:Int)))∧L[st]?=some a∧M.ts[st]?=some t∧dv M st b r∧(∃ m,iN M L root m (cP b r) true) ∧
  fY M L z root ⟨cP b r,none,0,[],gi ps,[],0,0⟩ ps S' o∧e.asked=S'.asked∧(∀ y,o=some y→e.res=.inr (S'.step,y))∧(o=none→∃ ns bE,xZ M L root S' ns bE∧e.res=.inl (S'.here,ns++bE))
 hp:ps.length≤500
def qQ (CW CF CX:Addr) (H H':Hp) (e:End) (x:Addr):Prop:=ai H H'∧∃ dx gs fd aK av,H' x=some (.ins CW dx gs)∧gs.lookup ("told" : Str)=some (.ref fd)∧H' fd=some (.ins (uM CF CX e.res) aK (ub e.res))∧gs.lookup ("asked" : Str)=some (.ref av)∧H' av=some (.lst (nV e.asked))
theorem qQ.of {CW CF CX:Addr} {H H1 H2:Hp} {e:End} {x:Addr} (s:ai H H1) (h:qQ CW CF CX H1 H2 e x):qQ CW CF CX H H2 e x:=⟨s.trans h.1,h.2⟩
def Ln (CH CS CT CW CF CX:Addr):Sp:=C9 fun h z fr lp last H Q _=>∃ A L M ps e,aI CH CS CT H A L M∧A.a=h∧H lp=some (.lst (ps.map V.str))∧nz M L z fr ps e∧∀ x H',qQ CW CF CX H H' e x→Q (.ref x) H'
theorem Ff (T:Tx K mg):aA P w K mg base aO 10 T.jD.f T.jD.d ["house", "asker", "from_root", "parts", "last"] (Ln T.au T.aD T.aG T.bg T.cb T.bC):=by
 refine T.jD.F.ok DG (fun vs H Q E h=>?_) (fun az A outer s H vs Q E hr h=>?_)
 ·exact Ey h fun _ _ _ _ _ _=>rfl
 ·refine Ey h fun hh z fr lp last h=>?_;obtain ⟨AA,L,M,ps,e,i,rfl,fh,g,q⟩:=h;obtain ⟨root,st,b,r,a,t,S',o,hz,aQ,ha,ht,jH,kZ,ef,has,mR,kY⟩:=g.ex;refine bA (b:=aU wO) ((Dv.cut (Dv.aS 5 DG.nd (Dv.make T.RZ (Oz T) (hr.mono (by decide)) T.Wf T.qX.b .nil aw (Dv.aa (Dv.v 0) (Dv.aa (Dv.v 1) (Dv.aa (Dv.v 4) Dv.ag)))))
  (Dv.cut (Dv.aW (Dv.bh T.aR T.ra.h (UQ T) (hr.mono (by decide)) T.ra.b .nil aw (Dv.v 5) (Dv.aa (Dv.v 2) (Dv.aa (Dv.v 3) Dv.ag))))
  (Dv.cut (Dv.aW (Dv.oV T.aR T.pY.h (QK T) (hr.mono (by decide)) T.pY.b .nil aw (Dv.v 5)))
  (Dv.aj (Dv.aP (Dv.v 5))))))) ?_
  refine stI [some (V.ref AA.a),some (V.str z),some (V.bl fr),some (V.ref lp),some (V.bl last),none] ?_;refine ao ?_;walk_at "w";intro x dx hx jY ndx;have s1:=(ai.upd (o:=.own x) jY).trans (ai.upd (p:=x) (o:=.ins T.bg dx []) (by rw [ah (Ne.symm ndx)]; exact hx));have b1:upd (upd H dx (.own x)) x (.ins T.bg dx []) x=some (.ins T.bg dx []):=ay;generalize upd (upd H dx (.own x)) x (.ins T.bg dx [])=H1 at s1 b1 ⊢;refine ⟨AA,L,M,dx,H,root,i,rfl,b1,s1,hx,hz,fun av lf rd H2 v2=>?_⟩;refine ⟨rfl,ao ?_⟩;walk_at "w";obtain ⟨gX,rZ,bL,gZ,bR⟩:=v2.fld;refine ⟨x,_,_,rfl,bL,(bR _).trans rfl,_,H,AA,L,M,dx,av,lf,rd,z,last,root,st,b,ps,r,a,t,true,v2,v2.s _ _ fh,aQ,ha,ht,jH,kZ,fun _ lf' H3 v3=>ao ?_,fun z=>by cases z⟩;walk_at "w";obtain ⟨gU,vf,cX,hU,fk⟩:=v3.fld;refine ⟨x,_,_,rfl,cX,(fk _).trans rfl,_,H,AA,L,M,dx,av,lf',rd,z,last,root,ps,S',o,v3,rfl,by have:=g.hp; simp; omega,ef,fun y hy fd aK H4 v4 f0 bt=>?_,fun ho=>?_⟩
  ·obtain ⟨sA,pv4,jV,Bg,sU⟩:=v4.fld;have he:=mR y hy;exact q x H4 ⟨v4.s,dx,sA,fd,aK,av,jV,(sU _).trans rfl,by rw [he]; exact bt,(sU _).trans rfl,by rw [has]; exact v4.oa⟩
  ·obtain ⟨ns,bE,ht,he⟩:=kY ho;refine ⟨ns,bE,ht,fun fd aK H4 v4 f0 bt=>?_⟩;obtain ⟨sA,pv4,jV,Bg,sU⟩:=v4.fld;exact q x H4 ⟨v4.s,dx,sA,fd,aK,av,jV,(sU _).trans rfl,by rw [he]; exact bt,(sU _).trans rfl,by rw [has]; exact v4.oa⟩
structure dN (M:Hs) (L:List Ta) (z:Str) (t:List Nat) (e:End):Prop where
 l1:1≤t.length
 l2:t.length≤2000
 all:(Tx.words 47 t).all bZ=true
 g:nz M L z (dO t) ((told (Tx.words 47 t) t).map Tx.S) e
theorem dN.hz {M:Hs} {L:List Ta} {z:Str} {t:List Nat} {e:End} (p:dN M L z t e):(aJ (sD M.ro) (.inr z)).isSome=true:=by
 obtain ⟨root,st,b,r,a,t,S',o,hz,_⟩:=p.g.ex;rw [hz]; rfl
theorem G0 (ps:List (List Nat)):PV ps=(ps.map Tx.S).map V.str:=by
 unfold PV
 first | rfl | simp [List.map_map,Function.comp_def]
def RH (CH CS CT CW CF CX:Addr):Sp:=m7 fun h z pt last H Q _=>∃ A L M t e,pt=Tx.S t∧aI CH CS CT H A L M∧A.a=h∧dN M L z t e∧∀ x H',qQ CW CF CX H H' e x→Q (.ref x) H'
theorem ER (T:Tx K mg):aA P w K mg base aO 11 T.jt.f T.jt.d ["house", "asker", "path", "last"] (RH T.au T.aD T.aG T.bg T.cb T.bC):=by
 refine T.jt.F.ok HK (fun vs H Q E h=>?_) (fun az A outer s H vs Q E hr h=>?_)
 ·exact hZ h fun _ _ _ _ _=>rfl
 ·refine hZ h fun hh z pt last h=>?_;obtain ⟨AA,L,M,t,e,rfl,i,rfl,pg,q⟩:=h;obtain ⟨mw,hc,hh,sr,g8⟩:=i.h;refine bA (b:=aU zi) ((Dv.cut (Dv.aW (Dv.dP T.aM T.er.h (lB T) (hr.mono (by decide)) T.er.b .nil fw (Dv.v 0) (Dv.aa (Dv.v 1) Dv.ag)))
  (Dv.cut (Dv.aS 4 HK.nd (Dv.call (o8 T) (hr.mono (by decide)) T.df.m T.df.F.kp T.df.b .nil aw (Dv.aa (Dv.v 2) Dv.ag)))
  (Dv.aj (Dv.aP (Dv.call (Ff T) (hr.mono (by decide)) T.jD.m T.jD.F.kp T.jD.b .nil aw (Dv.aa (Dv.v 0) (Dv.aa (Dv.v 1) (Dv.aa (Dv.ix (br (K:=K) rfl) (Dv.v 4) Dv.int) (Dv.aa (Dv.ix (br (K:=K) rfl) (Dv.v 4) Dv.int) (Dv.aa (Dv.v 3) Dv.ag))))))))))) ?_
  refine stI [some (V.ref AA.a),some (V.str z),some (V.str (Tx.S t)),some (V.bl last),none] ?_;refine ao ?_;walk_at "w";refine ⟨AA.a,_,_,rfl,hh,(g8 _).trans rfl,ot i pg.hz (ao ?_)⟩;walk_at "w";refine ⟨t,rfl,pg.l1,pg.l2,pg.all,fun H1 l p s1 _ hl hp=>?_⟩;simp only [bG,hp];walk_at "w";rw [show cx [V.bl (dO t),V.ref l] 0=some (V.bl (dO t)) from rfl,show cx [V.bl (dO t),V.ref l] 1=some (V.ref l) from rfl];rw [G0] at hl;exact ⟨AA,L,M,_,e,i.same s1,rfl,hl,pg.g,fun x H2 f=>q x H2 (f.of s1)⟩
def Na (CH CS CT CF CX:Addr):Sp:=m7 fun h z pt last H Q _=>∃ A L M t e,pt=Tx.S t∧aI CH CS CT H A L M∧A.a=h∧dN M L z t e∧∀ fd aK H',ai H H'→H' fd=some (.ins (uM CF CX e.res) aK (ub e.res))→Q (.ref fd) H'
theorem rm (T:Tx K mg):aA P w K mg base aO 12 T.B4 T.ve ["house", "asker", "path", "last"] (Na T.au T.aD T.aG T.cb T.bC):=by
 refine T.ji.ok T8 (fun vs H Q E h=>?_) (fun az A outer s H vs Q E hr h=>?_)
 ·exact hZ h fun _ _ _ _ _=>rfl
 ·refine hZ h fun hh z pt last h=>?_;obtain ⟨AA,L,M,t,e,rfl,i,rfl,pg,q⟩:=h;refine bA (b:=aU pV) ((Dv.aj (Dv.aP (Dv.fld T.aR T.lA (Dv.call (ER T) (hr.mono (by decide)) T.jt.m T.jt.F.kp T.jt.b .nil aw (Dv.aa (Dv.v 0) (Dv.aa (Dv.v 1) (Dv.aa (Dv.v 2) (Dv.aa (Dv.v 3) Dv.ag))))))))) ?_;refine stI [some (V.ref AA.a),some (V.str z),some (V.str (Tx.S t)),some (V.bl last)] ?_;walk_at "w";refine ⟨AA,L,M,t,e,rfl,i,rfl,pg,fun x H1 ⟨s1,dx,gs,fd,aK,av,hx,vE,bt,qp,fJ⟩=>?_⟩;exact ⟨x,_,_,_,rfl,hx,vE,q fd aK H1 s1 bt⟩
def Mx (CH CS CT:Addr):Sp:=m7 fun h z pt last H Q _=>∃ A L M t e,pt=Tx.S t∧aI CH CS CT H A L M∧A.a=h∧dN M L z t e∧∀ av H',ai H H'→H' av=some (.lst (nV e.asked))→Q (.ref av) H'
theorem Di (T:Tx K mg):aA P w K mg base aO 12 T.AV T.vV ["house", "asker", "path", "last"] (Mx T.au T.aD T.aG):=by
 refine T.rF.ok Sv (fun vs H Q E h=>?_) (fun az A outer s H vs Q E hr h=>?_)
 ·exact hZ h fun _ _ _ _ _=>rfl
 ·refine hZ h fun hh z pt last h=>?_;obtain ⟨AA,L,M,t,e,rfl,i,rfl,pg,q⟩:=h;refine bA (b:=aU qI) ((Dv.aj (Dv.aP (Dv.fld T.aR T.wI (Dv.call (ER T) (hr.mono (by decide)) T.jt.m T.jt.F.kp T.jt.b .nil aw (Dv.aa (Dv.v 0) (Dv.aa (Dv.v 1) (Dv.aa (Dv.v 2) (Dv.aa (Dv.v 3) Dv.ag))))))))) ?_;refine stI [some (V.ref AA.a),some (V.str z),some (V.str (Tx.S t)),some (V.bl last)] ?_;walk_at "w";refine ⟨AA,L,M,t,e,rfl,i,rfl,pg,fun x H1 ⟨s1,dx,gs,fd,aK,av,hx,vE,bt,qp,fJ⟩=>?_⟩;exact ⟨x,_,_,_,rfl,hx,qp,q av H1 s1 fJ⟩
theorem qa (T:Tx K mg):aA P w K mg base aO 1 T.i6.f T.i6.d ["self", "reason"] (kj T.dG "reason"):=by
 refine T.i6.F.ok Ug (fun vs H Q E h=>?_) (fun az A outer s H vs Q E hr h=>?_)
 ·unfold kj at h;split at h
  ·rfl
  ·exact h.elim
 ·unfold kj at h;split at h
  ·rename_i ea y;obtain ⟨he,q⟩:=h;refine ⟨_,((Dv.aj (Dv.GJ T.nZ (Dv.v 0) (Dv.v 1)))).h,?_⟩;refine stI [some (.ref ea),some y] ?_;walk_at "rd";exact ⟨ea,rfl,he,q⟩
  ·exact h.elim
theorem Pr (T:Tx K mg):aA P w K mg base aO 1 T.rK.f T.rK.d ["self", "told"] (kj T.c9 "told"):=by
 refine T.rK.F.ok TZ (fun vs H Q E h=>?_) (fun az A outer s H vs Q E hr h=>?_)
 ·unfold kj at h;split at h
  ·rfl
  ·exact h.elim
 ·unfold kj at h;split at h
  ·rename_i ea y;obtain ⟨he,q⟩:=h;refine ⟨_,((Dv.aj (Dv.GJ T.G6 (Dv.v 0) (Dv.v 1)))).h,?_⟩;refine stI [some (.ref ea),some y] ?_;walk_at "rd";exact ⟨ea,rfl,he,q⟩
  ·exact h.elim
def O0 (CF CX CN:Addr):Sp:=ik fun fd H Q E=>∃ aK e,H fd=some (.ins (uM CF CX e) aK (ub e))∧(∀ k ns,e=.inl (k,ns)→Q (.int (k:Int)) H)∧∀ k y,e=.inr (k,y)→∀ d,H d=none→E (.ref CN) (some d) (upd H d (.xd [("told",.ref fd)]))
theorem DY (T:Tx K mg):aA P w K mg base (cm P w) 3 T.jm.f T.jm.d ["told"] (O0 T.cb T.bC T.c9):=by
 refine T.jm.F.di Lv (fun vs H Q E h=>?_) (fun az A outer s H vs Q E hr h=>?_)
 ·exact ed h fun _ _=>rfl
 ·refine ed h fun fd h=>?_;obtain ⟨aK,e,bt,q1,q2⟩:=h;refine bA (b:=aU zT) ((Dv.cut (Dv.aX (Dv.cC (Dv.cu (Dv.cA (rg (K:=K) rfl) T.fC fB (Dv.aa (Dv.v 0) (Dv.aa (Dv.glob (.ref T.cb) T.xR rfl) Dv.ag))))) (Dv.aj (Dv.oy mW rfl rfl T.TY T.G6 T.Mr (Pr T) (hr.mono (by decide)) T.rK.b (Dv.aa (Dv.v 0) Dv.ag))) Dv.nil)
  (Dv.aj (Dv.aP (Dv.fld T.iE T.zu (Dv.v 0)))))) ?_
  refine stI [some (V.ref fd)] ?_;refine ao ?_;walk_at "w";rcases e with ⟨k,ns⟩ | ⟨k,y⟩
  ·exact ⟨_,_,_,.of (.ins bt T.iE T.q1 T.q2 T.q3 T.q4),.cls T.q5,bf ⟨fd,aK,_,_,rfl,bt,rfl,q1 k ns rfl⟩⟩
  ·exact ⟨_,_,_,.of (.ins bt T.jx T.q6 T.q2 T.q3 T.q7),.cls T.q8,bM ⟨_,rfl,fun d hd=>q2 k y rfl d hd⟩⟩
def Me (CH CS CT CX CN:Addr):Sp:=ke fun h z pt H Q E=>∃ A L M t e,pt=Tx.S t∧aI CH CS CT H A L M∧A.a=h∧dN M L z t e∧(∀ k ns,e.res=.inl (k,ns)→∀ H',ai H H'→Q (.int (k:Int)) H') ∧
   ∀ k y,e.res=.inr (k,y)→∀ fd aK d H',ai H H'→H' fd=some (.ins CX aK (fD k y))→H' d=none→E (.ref CN) (some d) (upd H' d (.xd [("told",.ref fd)]))
theorem GG (T:Tx K mg):aA P w K mg base (cm P w) 13 T.jb.f T.jb.d ["house", "asker", "path"] (Me T.au T.aD T.aG T.bC T.c9):=by
 refine T.jb.F.di Qq (fun vs H Q E h=>?_) (fun az A outer s H vs Q E hr h=>?_)
 ·exact fz h fun _ _ _ _=>rfl
 ·refine fz h fun hh z pt h=>?_;obtain ⟨AA,L,M,t,e,rfl,i,rfl,pg,q1,q2⟩:=h;refine bA (b:=aU wL) ((Dv.aj (Dv.aP (Dv.dj (DY T) (hr.mono (by decide)) T.jm.m T.jm.F.kp T.jm.b .nil cG (Dv.aa (Dv.call (rm T) (hr.mono (by decide)) T.rn T.ji.kp T.qg (.cons (show RelV (.bl true) _ from rfl) .nil) aw (Dv.aa (Dv.v 0) (Dv.aa (Dv.v 1) (Dv.aa (Dv.v 2) Dv.ag)))) Dv.ag))))) ?_;refine stI [some (V.ref AA.a),some (V.str z),some (V.str (Tx.S t))] ?_;walk_at "w";refine ⟨AA,L,M,t,e,rfl,i,rfl,pg,fun fd aK H1 s1 bt=>?_⟩;exact ⟨aK,e.res,bt,fun k ns he=>q1 k ns he H1 s1,fun k y he d hd=>q2 k y he fd aK d H1 s1 (by rw [he] at bt; exact bt) hd⟩
theorem N9 (T:Tx K mg):aA P w K mg base aO 4 T.oq.f T.oq.d ["house", "number"] (oB T.au T.aD T.aG Ad.a fun _ _ _ _ _ t H Q=>Q (.bl (decide (t.kd=("folder" : Str)))) H):=by
 refine T.oq.F.ok S4 (fun vs H Q E h=>?_) (fun az A outer s H vs Q E hr h=>?_)
 ·exact cD h fun _ _ _=>rfl
 ·refine cD h fun x n h=>?_;obtain ⟨AA,L,M,k,a,t,i,rfl,rfl,ha,aN,q⟩:=h;obtain ⟨fs,c,hx,aV,sf⟩:=i.h;refine ⟨_,((Dv.aj (Dv.aP (Dv.cmp cq (Dv.bh T.aM T.eU.h (pd T) (hr.mono (by decide)) T.eU.b .nil aw (Dv.v 0) (Dv.aa (Dv.v 1) Dv.ag)) (Dv.glob (.str "folder") T.rf ⟨_,rfl⟩))))).h,?_⟩;refine stI [some (V.ref AA.a),some (V.int (k:Int))] ?_;walk_at "w";exact ⟨AA.a,_,_,rfl,hx,(sf _).trans rfl,AA,L,M,k,a,t,i,rfl,rfl,ha,aN,q⟩
def QC (CH CS CT CX CN CD:Addr):Sp:=ke fun h z pt H Q E=>∃ A L M t e,pt=Tx.S t∧aI CH CS CT H A L M∧A.a=h∧dN M L z t e ∧
   (∀ k ns,e.res=.inl (k,ns)→∃ a t,L[k]?=some a∧M.ts[k]?=some t∧(t.kd=("folder" : Str)→∀ H',ai H H'→Q (.int (k:Int)) H')∧(t.kd≠("folder" : Str)→∀ d H',ai H H'→H' d=none→E (.ref CD) (some d) (upd H' d (.xd [("reason",.str "file")])))) ∧
   ∀ k y,e.res=.inr (k,y)→∀ fd aK d H',ai H H'→H' fd=some (.ins CX aK (fD k y))→H' d=none→E (.ref CN) (some d) (upd H' d (.xd [("told",.ref fd)]))
theorem EH (T:Tx K mg):aA P w K mg base (cm P w) 14 T.i9.f T.i9.d ["house", "asker", "path"] (QC T.au T.aD T.aG T.bC T.c9 T.dG):=by
 refine T.i9.F.di G8 (fun vs H Q E h=>?_) (fun az A outer s H vs Q E hr h=>?_)
 ·exact fz h fun _ _ _ _=>rfl
 ·refine fz h fun hh z pt h=>?_;obtain ⟨AA,L,M,t,e,rfl,i,rfl,pg,q1,q2⟩:=h;refine bA (b:=aU wc) ((Dv.cut (Dv.aS 3 G8.nd (Dv.dj (GG T) (hr.mono (by decide)) T.jb.m T.jb.F.kp T.jb.b .nil cG (Dv.aa (Dv.v 0) (Dv.aa (Dv.v 1) (Dv.aa (Dv.v 2) Dv.ag)))))
  (Dv.cut (Dv.aX (Dv.cC (Dv.cu (Dv.call (N9 T) (hr.mono (by decide)) T.oq.m T.oq.F.kp T.oq.b .nil aw (Dv.aa (Dv.v 0) (Dv.aa (Dv.v 3) Dv.ag))))) (Dv.aj (Dv.oy mW rfl rfl T.rM T.nZ T.qN (qa T) (hr.mono (by decide)) T.i6.b (Dv.aa Dv.str Dv.ag))) Dv.nil)
  (Dv.aj (Dv.aP (Dv.v 3)))))) ?_
  refine stI [some (V.ref AA.a),some (V.str z),some (V.str (Tx.S t)),none] ?_;refine ao ?_;walk_at "w";refine ⟨AA,L,M,t,e,rfl,i,rfl,pg,fun k ns he H1 s1=>?_,fun k y he fd aK d H1 s1 hf hd=>q2 k y he fd aK d H1 s1 hf hd⟩;obtain ⟨a,t',ha,ht,r1,r2⟩:=q1 k ns he;refine ao ?_;walk_at "w";refine ⟨AA,L,M,k,a,t',i.same s1,rfl,rfl,ha,ht,?_⟩;dsimp only;by_cases hk:t'.kd=("folder" : Str)
  ·rw [decide_eq_true hk];exact bf (r1 hk _ s1)
  ·rw [decide_eq_false hk];exact bM ⟨_,rfl,fun d hd=>r2 hk d H1 s1 hd⟩
inductive Rf
 | eg (y:Str)
 | way (k:Nat) (y:Str)
def dq (CX CN CD:Addr) (H:Hp) (E:XK):Rf→Prop
 | .eg y=>∀ d H',ai H H'→H' d=some (.xd [("reason",.str y)])→E (.ref CD) (some d) H'
 | .way k y=>∀ fd aK d H',ai H H'→H' fd=some (.ins CX aK (fD k y))→H' d=some (.xd [("told",.ref fd)])→E (.ref CN) (some d) H'
theorem dq.of {CX CN CD:Addr} {H H1:Hp} {E:XK} {r:Rf} (s:ai H H1) (h:dq CX CN CD H E r):dq CX CN CD H1 E r:=by
 cases r with
 | eg y=>exact fun d H' s' e=>h d H' (s.trans s') e
 | way k y=>exact fun fd aK d H' s' e1 e2=>h fd aK d H' (s.trans s') e1 e2
theorem dq.raise {CX CN CD:Addr} {H H1:Hp} {E:XK} {y:Str} {d:Addr} (h:dq CX CN CD H E (.eg y)) (s:ai H H1) (hd:H1 d=none):E (.ref CD) (some d) (upd H1 d (.xd [("reason",.str y)])):=h d _ (s.trans (ai.upd hd)) ay
inductive iA (ps:List (List Nat)):Option (List (List Nat)×List Nat)→Prop
 | nil:ps=[]→iA ps none
 | rk {q nm}:ps=q++[nm]→isNm nm=false→nm.length≤8→iA ps none
 | HR {q nm}:ps=q++[nm]→isNm nm=true→iA ps (some (q,nm))
structure fF (t:List Nat):Prop where
 l1:1≤t.length
 l2:t.length≤2000
 all:(Tx.words 47 t).all bZ=true
def Sz (CX CN CD:Addr):Sp:=jo fun pt H Q E=>∃ t r,pt=Tx.S t∧fF t∧iA (told (Tx.words 47 t) t) r∧(∀ x,r=some x→∀ H',ai H H'→Q .ax H')∧(r=none→dq CX CN CD H E (.eg "dots"))
theorem tw {w:List Nat} (h:isNm w=true):47 ∉ w∧w≠[]∧1≤w.length∧w.length≤8:=by
 have hp:bZ w=true:=by unfold bZ; rw [h]; simp
 obtain ⟨h1,h2,_⟩:=Dt h;exact ⟨(o9 hp).1,(o9 hp).2.1,h1,h2⟩
theorem GA {w:List Nat} {b:Bool} (h:isNm w=b):dX (.str (Tx.S w))=b:=by
 show isNm (Tx.S w).cps.toList=b;rw [Tx.iP]; exact h
theorem yV {w:List Nat} (h:isNm w=true):dX (.str (Tx.S w))=true:=GA h
theorem V7 (T:Tx K mg):aA P w K mg base (cm P w) 4 T.m5.f T.m5.d ["path"] (Sz T.bC T.c9 T.dG):=by
 refine T.m5.F.di Hj (fun vs H Q E h=>?_) (fun az A outer s H vs Q E hr h=>?_)
 ·exact eM h fun _ _=>rfl
 ·refine eM h fun pt h=>?_;obtain ⟨t,r,rfl,sp,hs,q1,q2⟩:=h;refine bA (b:=aU w9) ((Dv.cut (Dv.aS 1 Hj.nd (Dv.ix (br (K:=K) rfl) (Dv.call (o8 T) (hr.mono (by decide)) T.df.m T.df.F.kp T.df.b .nil aw (Dv.aa (Dv.v 0) Dv.ag)) Dv.int))
  (Dv.aj (Dv.aX (Dv.dE (Dv.w_or (Dv.aY (xc hr.fV) (Dv.v 1) (Dv.lst Dv.ag)) (Dv.iL (Dv.cC (Dv.cu (Dv.call (yL T) (hr.mono (by decide)) T.gk.m T.gk.F.kp T.gk.b .nil aw (Dv.aa (Dv.ix (br (K:=K) rfl) (Dv.v 1) (Dv.un iz Dv.int)) Dv.ag))))))) (Dv.aj (Dv.oy mW rfl rfl T.rM T.nZ T.qN (qa T) (hr.mono (by decide)) T.i6.b (Dv.aa Dv.str Dv.ag))) Dv.nil)))) ?_
  refine stI [some (V.str (Tx.S t)),none] ?_;refine ao ?_;walk_at "w";refine ⟨t,rfl,sp.l1,sp.l2,sp.all,fun H1 l p s1 _ hl hp=>?_⟩;simp only [bG,hp];rw [show cx [V.bl (dO t),V.ref l] 1=some (V.ref l) from rfl];refine ⟨fits (by simp),fun d hd=>?_⟩;have s2:=ai.upd (o:=.lst []) hd;have b2:upd H1 d (.lst []) d=some (.lst []):=ay;generalize upd H1 d (.lst [])=H2 at s2 b2 ⊢;have cv:=s2 _ _ hl;cases hs with
  | nil e =>
   rw [e] at cv;exact ⟨[],[],cv,b2,b8 (decide_eq_true rfl) ⟨_,rfl,fun d' hd'=>(q2 rfl).raise (s1.trans s2) hd'⟩⟩
  | @rk qs nm e hn hl8 =>
   rw [e] at cv;have gG:H2 l=some (.lst (PV qs++[V.str (Tx.S nm)])):=by rw [cv]; simp [PV]
   refine ⟨qs.map Tx.S++[Tx.S nm],[],by rw [gG]; simp [PV],b2,?_⟩;rw [decide_eq_false (by simp)];refine bf ?_;simp only [gG,je];refine ⟨⟨_,rfl⟩,by show (Tx.S nm).length≤1000; rw [Tx.bY]; omega,fun H3 s3=>?_⟩;rw [GA hn];exact bM ⟨_,rfl,fun d' hd'=>(q2 rfl).raise ((s1.trans s2).trans s3) hd'⟩
  | @HR qs nm e hn =>
   rw [e] at cv;obtain ⟨h1,h2,h3,h4⟩:=tw hn;have gG:H2 l=some (.lst (PV qs++[V.str (Tx.S nm)])):=by rw [cv]; simp [PV]
   refine ⟨qs.map Tx.S++[Tx.S nm],[],by rw [gG]; simp [PV],b2,?_⟩;rw [decide_eq_false (by simp)];refine bf ?_;simp only [gG,je];refine ⟨⟨_,rfl⟩,by show (Tx.S nm).length≤1000; rw [Tx.bY]; omega,fun H3 s3=>?_⟩;rw [yV hn];exact bf (q1 _ rfl _ ((s1.trans s2).trans s3))
theorem uq {H H':Hp} {x:Addr} (s:ai H H') (h:H' x=none):H x=none:=by
 cases e:H x with
 | none=>rfl
 | some o=>rw [s _ _ e] at h; cases h
abbrev um (f:Nat) (nm:List Nat):List (Str×V):=ae "name" (.str (Tx.S nm)) (ae "folder" (.int (f:Int)) [])
inductive jn (M:Hs) (L:List Ta) (z:Str) (t:List Nat):Sum Rf (Nat×List Nat)→Prop
 | rk:iA (told (Tx.words 47 t) t) none→jn M L z t (.inl (.eg "dots"))
 | way {q nm e k y}:iA (told (Tx.words 47 t) t) (some (q,nm))→q.length≤400→nz M L z (dO t) (q.map Tx.S++[("." : Str)]) e→e.res=.inr (k,y)→jn M L z t (.inl (.way k y))
 | G1 {q nm e f ns}:iA (told (Tx.words 47 t) t) (some (q,nm))→q.length≤400→nz M L z (dO t) (q.map Tx.S++[("." : Str)]) e→e.res=.inl (f,ns)→jn M L z t (.inr (f,nm))
def Rc (CH CS CT CE CX CN CD:Addr):Sp:=ke fun h z pt H Q E=>∃ A L M t r,pt=Tx.S t∧fF t∧aI CH CS CT H A L M∧A.a=h∧jn M L z t r∧(∀ x,r=.inl x→dq CX CN CD H E x) ∧
   ∀ f nm,r=.inr (f,nm)→∀ x dx H',H x=none→ai H H'→H' x=some (.ins CE dx (um f nm))→Q (.ref x) H'
theorem MK (T:Tx K mg):aA P w K mg base (cm P w) 11 T.ni.f T.ni.d ["house", "asker", "path"] (Rc T.au T.aD T.aG T.gB T.bC T.c9 T.dG):=by
 refine T.ni.F.di Ai (fun vs H Q E h=>?_) (fun az A outer s H vs Q E hr h=>?_)
 ·exact fz h fun _ _ _ _=>rfl
 ·refine fz h fun hh z pt h=>?_;obtain ⟨AA,L,M,t,r,rfl,sp,i,rfl,g,q1,q2⟩:=h;refine bA (b:=aU Ac) ((Dv.cut (Dv.aW (Dv.dj (V7 T) (hr.mono (by decide)) T.m5.m T.m5.F.kp T.m5.b .nil cG (Dv.aa (Dv.v 2) Dv.ag)))
  (Dv.cut (Dv.aS 3 Ai.nd (Dv.call (o8 T) (hr.mono (by decide)) T.df.m T.df.F.kp T.df.b .nil aw (Dv.aa (Dv.v 2) Dv.ag)))
  (Dv.cut (Dv.aS 4 Ai.nd (Dv.call (Ff T) (hr.mono (by decide)) T.jD.m T.jD.F.kp T.jD.b .nil aw (Dv.aa (Dv.v 0) (Dv.aa (Dv.v 1) (Dv.aa (Dv.ix (br (K:=K) rfl) (Dv.v 3) Dv.int) (Dv.aa (Dv.op ee (Dv.slice (zw (K:=K) rfl) (Dv.ix (br (K:=K) rfl) (Dv.v 3) Dv.int) Dv.tS (Dv.oY (Dv.un iz Dv.int))) (Dv.lst (Dv.aa Dv.str Dv.ag))) (Dv.aa Dv.bl Dv.ag)))))))
  (Dv.aj (Dv.aP (Dv.make T.Kv (KR T) (hr.mono (by decide)) T.Mw T.qC.b .nil aw (Dv.aa (Dv.dj (DY T) (hr.mono (by decide)) T.jm.m T.jm.F.kp T.jm.b .nil cG (Dv.aa (Dv.fld T.aR T.lA (Dv.v 4)) Dv.ag)) (Dv.aa (Dv.ix (br (K:=K) rfl) (Dv.ix (br (K:=K) rfl) (Dv.v 3) Dv.int) (Dv.un iz Dv.int)) Dv.ag))))))))) ?_
  refine stI [some (V.ref AA.a),some (V.str z),some (V.str (Tx.S t)),none,none] ?_;refine ao ?_;walk_at "w";have hs:(r=.inl (.eg "dots")∧iA (told (Tx.words 47 t) t) none)∨∃ qs nm e,iA (told (Tx.words 47 t) t) (some (qs,nm))∧qs.length≤400∧nz M L z (dO t) (qs.map Tx.S++[("." : Str)]) e∧(∀ k y,e.res=.inr (k,y)→r=.inl (.way k y))∧∀ f ns,e.res=.inl (f,ns)→r=.inr (f,nm):=by
   cases g with
   | rk h=>exact .inl ⟨rfl,h⟩
   | way h1 h2 h3 h4=>exact .inr ⟨_,_,_,h1,h2,h3,fun k y e=>(by rw [h4] at e; cases e; rfl),fun f ns e=>by rw [h4] at e; cases e⟩
   | G1 h1 h2 h3 h4=>exact .inr ⟨_,_,_,h1,h2,h3,fun k y e=>(by rw [h4] at e; cases e),fun f ns e=>by rw [h4] at e; cases e; rfl⟩
  rcases hs with ⟨rfl,hs⟩ | ⟨qs,nm,e,hs,hq,g,r1,r2⟩
  ·exact ⟨t,none,rfl,sp,hs,(fun x e=>by cases e),fun _=>q1 _ rfl⟩
  refine ⟨t,_,rfl,sp,hs,fun x _ H1 s1=>ao ?_,fun e=>by cases e⟩;have he:told (Tx.words 47 t) t=qs++[nm]:=by cases hs; assumption
  walk_at "w";refine ⟨t,rfl,sp.l1,sp.l2,sp.all,fun H2 l p s2 _ hl hp=>ao ?_⟩;rw [he,show PV (qs++[nm])=PV qs++[V.str (Tx.S nm)] from by simp [PV]] at hl;walk_at "w";simp only [bG,hp];rw [show cx [V.bl (dO t),V.ref l] 1=some (V.ref l) from rfl,show cx [V.bl (dO t),V.ref l] 0=some (V.bl (dO t)) from rfl]
  try dsimp only
  refine ⟨_,aL.of hl,fun p1 mC=>?_⟩;rw [Wd];refine ⟨fits (by simp),fun p2 eC=>?_⟩;have s3:=(ai.upd (o:=.lst (PV qs)) mC).trans (ai.upd (o:=.lst [V.str (Str.ofString ".")]) eC);have n12:p1≠p2:=aF (ay (o:=.lst (PV qs))) eC;have b3:upd (upd H2 p1 (.lst (PV qs))) p2 (.lst [V.str (Str.ofString ".")]) p1=some (.lst (PV qs)):=by rw [ah n12,ay]
  have b4:upd (upd H2 p1 (.lst (PV qs))) p2 (.lst [V.str (Str.ofString ".")]) p2=some (.lst [V.str (Str.ofString ".")]):=ay;generalize upd (upd H2 p1 (.lst (PV qs))) p2 (.lst [V.str (Str.ofString ".")])=H3 at s3 b3 b4 ⊢;simp only [b3,b4];refine ⟨fits (by simp; omega),fun p3 hp3=>?_⟩;have s4:=s3.trans (ai.upd (o:=.lst (PV qs++[V.str (Str.ofString ".")])) hp3);have b5:upd H3 p3 (.lst (PV qs++[V.str (Str.ofString ".")])) p3=some (.lst (PV qs++[V.str (Str.ofString ".")])):=ay;generalize upd H3 p3 (.lst (PV qs++[V.str (Str.ofString ".")]))=H4 at s4 b5 ⊢;refine ⟨AA,L,M,qs.map Tx.S++[("." : Str)],e,i.same ((s1.trans s2).trans s4),rfl,by rw [b5]; simp [PV],g,?_⟩;rintro x H5 ⟨s5,dx,gs,fd,aK,av,hx,vE,bt,qp,fJ⟩;have gv:=((s1.trans s2).trans s4).trans s5;refine ⟨x,_,_,_,rfl,hx,vE,aK,_,bt,fun k ns hk=>?_,fun k y hk d hd=>?_⟩
  ·have Bj:=(s4.trans s5) _ _ hp;have pf:=(s4.trans s5) _ _ hl;simp only [Bj];rw [show cx [V.bl (dO t),V.ref l] 1=some (V.ref l) from rfl];simp only [pf,je]
   try dsimp only
   intro y dy hy hdy ndy;refine ⟨dy,ay,rfl,?_⟩;rw [kb];exact q2 _ _ (r2 _ _ hk) y dy _ (uq gv hy) (gv.trans ((ai.upd (o:=.own y) hdy).trans (ai.upd (p:=y) (by rw [ah (Ne.symm ndy)]; exact hy)))) ay
  ·rw [hk] at bt;exact q1 _ (r1 _ _ hk) fd aK d _ (gv.trans (ai.upd hd)) (by rw [ah (aF bt hd)]; exact bt) ay
def P0 (CH CS CT CX CN CD:Addr):Sp:=Fz fun h z n r y H Q E=>∃ A L M t,∃ k:Nat,n=(k:Int)∧aI CH CS CT H A L M∧A.a=h∧(aJ (sD M.ro) (.inr z)).isSome=true∧iB (.str r)=true∧M.ts[k]?=some t∧(cZ r (cK t z)=true→Q .ax H)∧(cZ r (cK t z)=false→dq CX CN CD H E (.eg y))
theorem V0 (T:Tx K mg):aA P w K mg base (cm P w) 4 T.n6.f T.n6.d ["house", "asker", "number", "right", "reason"] (P0 T.au T.aD T.aG T.bC T.c9 T.dG):=by
 refine T.n6.F.di Po (fun vs H Q E h=>?_) (fun az A outer s H vs Q E hr h=>?_)
 ·exact Ec h fun _ _ _ _ _ _=>rfl
 ·refine Ec h fun hh z n r rs h=>?_;obtain ⟨AA,L,M,t,k,rfl,i,rfl,hz,fR,ht,q1,q2⟩:=h;obtain ⟨mO,gc,gh,mM,fi⟩:=i.h;refine bA (b:=aU z6) ((Dv.aj (Dv.aX (Dv.cC (Dv.cu (Dv.dP T.aM T.jf.h (wB T) (hr.mono (by decide)) T.jf.b .nil cG (Dv.v 0) (Dv.aa (Dv.v 1) (Dv.aa (Dv.v 2) (Dv.aa (Dv.v 3) Dv.ag)))))) (Dv.aj (Dv.oy mW rfl rfl T.rM T.nZ T.qN (qa T) (hr.mono (by decide)) T.i6.b (Dv.aa (Dv.v 4) Dv.ag))) Dv.nil))) ?_;refine stI [some (V.ref AA.a),some (V.str z),some (V.int (k:Int)),some (V.str r),some (V.str rs)] ?_;walk_at "w";refine ⟨AA.a,_,_,rfl,gh,(fi _).trans rfl,yT i hz fR ht ?_⟩;cases hm:cZ r (cK t z) with
  | true=>exact bf (q1 hm)
  | false=>exact bM ⟨_,rfl,fun d hd=>(q2 hm).raise (fun _ _ e=>e) hd⟩
def SX (CH CS CT CX CN CD:Addr):Sp:=jy fun h z n H Q E=>∃ A L M t,∃ k:Nat,n=(k:Int)∧aI CH CS CT H A L M∧A.a=h∧(aJ (sD M.ro) (.inr z)).isSome=true∧M.ts[k]?=some t∧(cZ ("w" : Str) (cK t z)=true→Q .ax H)∧(cZ ("w" : Str) (cK t z)=false→dq CX CN CD H E (.eg "kept"))
theorem QX (T:Tx K mg):aA P w K mg base (cm P w) 5 T.nu.f T.nu.d ["house", "asker", "folder"] (SX T.au T.aD T.aG T.bC T.c9 T.dG):=by
 refine T.nu.F.di SW (fun vs H Q E h=>?_) (fun az A outer s H vs Q E hr h=>?_)
 ·exact eI h fun _ _ _ _=>rfl
 ·refine eI h fun hh z n h=>?_;obtain ⟨AA,L,M,t,k,rfl,i,rfl,hz,ht,q1,q2⟩:=h;refine bA (b:=aU wU) ((Dv.aj (Dv.aW (Dv.dj (V0 T) (hr.mono (by decide)) T.n6.m T.n6.F.kp T.n6.b .nil cG (Dv.aa (Dv.v 0) (Dv.aa (Dv.v 1) (Dv.aa (Dv.v 2) (Dv.aa Dv.str (Dv.aa Dv.str Dv.ag))))))))) ?_;refine stI [some (V.ref AA.a),some (V.str z),some (V.int (k:Int))] ?_;walk_at "w";exact ⟨AA,L,M,t,k,rfl,i,rfl,hz,by decide +kernel,ht,q1,q2⟩
def Nc (CH CS CT CE:Addr):Sp:=tZ fun h x H Q _=>∃ A L M a t dx nm,∃ k:Nat,aI CH CS CT H A L M∧A.a=h∧H x=some (.ins CE dx (um k nm))∧isNm nm=true∧L[k]?=some a∧M.ts[k]?=some t∧∀ H',ai H H'→Q ((aJ (sD t.aZ) (.inr (Tx.S nm))).getD .ax) H'
theorem Sy (T:Tx K mg):aA P w K mg base aO 5 T.nk.f T.nk.d ["house", "seat"] (Nc T.au T.aD T.aG T.gB):=by
 refine T.nk.F.ok M9 (fun vs H Q E h=>?_) (fun az A outer s H vs Q E hr h=>?_)
 ·exact nG h fun _ _ _=>rfl
 ·refine nG h fun hh x h=>?_;obtain ⟨AA,L,M,a,t,dx,nm,k,i,rfl,hx,hn,ha,ht,q⟩:=h;obtain ⟨mO,gc,gh,mM,fi⟩:=i.h;obtain ⟨h1,h2,h3,h4⟩:=tw hn;refine bA (b:=aU y2) ((Dv.aj (Dv.aP (Dv.bh T.aM T.jB.h (wY T) (hr.mono (by decide)) T.jB.b .nil aw (Dv.v 0) (Dv.aa (Dv.fld T.lz T.uv (Dv.v 1)) (Dv.aa (Dv.fld T.lz T.yo (Dv.v 1)) Dv.ag)))))) ?_;refine stI [some (V.ref AA.a),some (V.ref x)] ?_;walk_at "w";exact ⟨AA.a,_,_,rfl,gh,(fi _).trans rfl,x,_,_,_,rfl,hx,rfl,x,_,_,_,rfl,hx,rfl,AA,L,M,k,a,t,i,rfl,rfl,ha,ht,yV hn,by rw [Tx.bY]; omega,q⟩
def Mm (CH CS CT CE CX CN CD:Addr):Sp:=tZ fun h x H Q E=>∃ A L M a t dx nm,∃ k:Nat,aI CH CS CT H A L M∧A.a=h∧H x=some (.ins CE dx (um k nm))∧isNm nm=true∧L[k]?=some a∧M.ts[k]?=some t∧(aJ (sD t.aZ) (.inr (Tx.S nm))=none→∀ H',ai H H'→Q .ax H')∧(∀ c:Int,aJ (sD t.aZ) (.inr (Tx.S nm))=some (.int c)→dq CX CN CD H E (.eg "there"))
theorem Ga {l:List (Str×Nat)} {z:Key} {v:V} (h:aJ (sD l) z=some v):∃ c:Nat,v=.int (c:Int):=by
 unfold aJ at h;obtain ⟨kv,h1,rfl⟩:=Option.map_eq_some_iff.mp h;obtain ⟨e,_,rfl⟩:=List.mem_map.mp (List.mem_of_find?_eq_some h1);exact ⟨_,rfl⟩
theorem S9 (T:Tx K mg):aA P w K mg base (cm P w) 6 T.o7.f T.o7.d ["house", "seat"] (Mm T.au T.aD T.aG T.gB T.bC T.c9 T.dG):=by
 refine T.o7.F.di RM (fun vs H Q E h=>?_) (fun az A outer s H vs Q E hr h=>?_)
 ·exact nG h fun _ _ _=>rfl
 ·refine nG h fun hh x h=>?_;obtain ⟨AA,L,M,a,t,dx,nm,k,i,rfl,hx,hn,ha,ht,q1,q2⟩:=h;refine bA (b:=aU yn) ((Dv.aj (Dv.aX (Dv.aY lR (Dv.call (Sy T) (hr.mono (by decide)) T.nk.m T.nk.F.kp T.nk.b .nil aw (Dv.aa (Dv.v 0) (Dv.aa (Dv.v 1) Dv.ag))) Dv.ax) (Dv.aj (Dv.oy mW rfl rfl T.rM T.nZ T.qN (qa T) (hr.mono (by decide)) T.i6.b (Dv.aa Dv.str Dv.ag))) Dv.nil))) ?_;refine stI [some (V.ref AA.a),some (V.ref x)] ?_;walk_at "w";refine ⟨AA,L,M,a,t,dx,nm,k,i,rfl,hx,hn,ha,ht,fun H1 s1=>?_⟩;cases hv:aJ (sD t.aZ) (.inr (Tx.S nm)) with
  | none=>exact ⟨by trivial,bf (q1 hv H1 s1)⟩
  | some v =>
   obtain ⟨c,rfl⟩:=Ga hv;exact ⟨by trivial,bM ⟨_,rfl,fun d hd=>(q2 _ hv).raise s1 hd⟩⟩
inductive mf (M:Hs) (L:List Ta) (z:Str) (t:List Nat):Sum Rf (Nat×List Nat)→Prop
 | no {x}:jn M L z t (.inl x)→mf M L z t (.inl x)
 | kept {f nm tf}:jn M L z t (.inr (f,nm))→M.ts[f]?=some tf→cZ ("w" : Str) (cK tf z)=false→mf M L z t (.inl (.eg "kept"))
 | there {f nm a tf c}:jn M L z t (.inr (f,nm))→isNm nm=true→L[f]?=some a→M.ts[f]?=some tf→cZ ("w" : Str) (cK tf z)=true→aJ (sD tf.aZ) (.inr (Tx.S nm))=some (.int (c:Int))→mf M L z t (.inl (.eg "there"))
 | free {f nm a tf}:jn M L z t (.inr (f,nm))→isNm nm=true→L[f]?=some a→M.ts[f]?=some tf→cZ ("w" : Str) (cK tf z)=true→aJ (sD tf.aZ) (.inr (Tx.S nm))=none→mf M L z t (.inr (f,nm))
def Vg (CH CS CT CE CX CN CD:Addr):Sp:=ke fun h z pt H Q E=>∃ A L M t r,pt=Tx.S t∧fF t∧aI CH CS CT H A L M∧A.a=h∧(aJ (sD M.ro) (.inr z)).isSome=true∧mf M L z t r∧(∀ x,r=.inl x→dq CX CN CD H E x) ∧
   ∀ f nm,r=.inr (f,nm)→∀ x dx H',H x=none→ai H H'→H' x=some (.ins CE dx (um f nm))→Q (.ref x) H'
theorem HX (T:Tx K mg):aA P w K mg base (cm P w) 12 T.ju.f T.ju.d ["house", "asker", "path"] (Vg T.au T.aD T.aG T.gB T.bC T.c9 T.dG):=by
 refine T.ju.F.di Dz (fun vs H Q E h=>?_) (fun az A outer s H vs Q E hr h=>?_)
 ·exact fz h fun _ _ _ _=>rfl
 ·refine fz h fun hh z pt h=>?_;obtain ⟨AA,L,M,t,r,rfl,sp,i,rfl,BD,g,q1,q2⟩:=h;refine bA (b:=aU wK) ((Dv.cut (Dv.aS 3 Dz.nd (Dv.dj (MK T) (hr.mono (by decide)) T.ni.m T.ni.F.kp T.ni.b .nil cG (Dv.aa (Dv.v 0) (Dv.aa (Dv.v 1) (Dv.aa (Dv.v 2) Dv.ag)))))
  (Dv.cut (Dv.aW (Dv.dj (QX T) (hr.mono (by decide)) T.nu.m T.nu.F.kp T.nu.b .nil cG (Dv.aa (Dv.v 0) (Dv.aa (Dv.v 1) (Dv.aa (Dv.fld T.lz T.uv (Dv.v 3)) Dv.ag)))))
  (Dv.cut (Dv.aW (Dv.dj (S9 T) (hr.mono (by decide)) T.o7.m T.o7.F.kp T.o7.b .nil cG (Dv.aa (Dv.v 0) (Dv.aa (Dv.v 3) Dv.ag))))
  (Dv.aj (Dv.aP (Dv.v 3))))))) ?_
  refine stI [some (V.ref AA.a),some (V.str z),some (V.str (Tx.S t)),none] ?_;refine ao ?_;walk_at "w";cases g with
  | no g=>exact ⟨AA,L,M,t,_,rfl,sp,i,rfl,g,fun x e=>(by cases e; exact q1 _ rfl),fun f nm e=>by cases e⟩
  | kept g mG hw =>
   refine ⟨AA,L,M,t,_,rfl,sp,i,rfl,g,fun x e=>(by cases e),fun f nm e=>?_⟩;cases e;intro x dx H1 fx s1 hx;refine ao ?_;walk_at "w";exact ⟨x,_,_,_,rfl,hx,rfl,AA,L,M,_,_,rfl,i.same s1,rfl,BD,mG,fun e=>(by rw [hw] at e; cases e),fun _=>(q1 _ rfl).of s1⟩
  | there g hn AB mG hw hv =>
   refine ⟨AA,L,M,t,_,rfl,sp,i,rfl,g,fun x e=>(by cases e),fun f nm e=>?_⟩;cases e;intro x dx H1 fx s1 hx;refine ao ?_;walk_at "w";refine ⟨x,_,_,_,rfl,hx,rfl,AA,L,M,_,_,rfl,i.same s1,rfl,BD,mG,fun _=>ao ?_,fun e=>by rw [hw] at e; cases e⟩;walk_at "w";exact ⟨AA,L,M,_,_,dx,_,_,i.same s1,rfl,hx,hn,AB,mG,fun e=>(by rw [hv] at e; cases e),fun _ _=>(q1 _ rfl).of s1⟩
  | free g hn AB mG hw hv =>
   refine ⟨AA,L,M,t,_,rfl,sp,i,rfl,g,fun x e=>(by cases e),fun f nm e=>?_⟩;cases e;intro x dx H1 fx s1 hx;refine ao ?_;walk_at "w";refine ⟨x,_,_,_,rfl,hx,rfl,AA,L,M,_,_,rfl,i.same s1,rfl,BD,mG,fun _=>ao ?_,fun e=>by rw [hw] at e; cases e⟩;walk_at "w";exact ⟨AA,L,M,_,_,dx,_,_,i.same s1,rfl,hx,hn,AB,mG,fun _ H2 s2=>q2 _ _ rfl x dx H2 fx (s1.trans s2) (s2 _ _ hx),fun _ e=>by rw [hv] at e; cases e⟩
def V4:Sp:=jo fun z H Q _=>z.length≤60∧Q (.bl true) H
def UY:Sp:=jo fun z H Q _=>z.length≤60∧Q .ax H
theorem T4 (T:Tx K mg):aA P w K mg base aO 1 T.oF.f T.oF.d ["text"] V4:=by
 refine T.oF.F.ok OT (fun vs H Q E h=>?_) (fun az A outer s H vs Q E hr h=>?_)
 ·exact eM h fun _ _=>rfl
 ·refine eM h fun z h=>?_;obtain ⟨hz,q⟩:=h;refine ⟨_,((Dv.aj (Dv.aP (Dv.Ae (Dv.cA i0 T.fC fB (Dv.aa (Dv.v 0) (Dv.aa (Dv.js (.ty "str") T.j8 j0 rfl) Dv.ag))) (Dv.one (Dv.cmp oR (Dv.cA (kI (K:=K) rfl) T.jG PySem.boot_len (Dv.aa (Dv.v 0) Dv.ag)) (Dv.glob (.int 60) T.Qh ⟨_,rfl⟩))))))).h,?_⟩;refine stI [some (V.str z)] ?_;walk_at "w";refine ⟨by decide,bM ⟨fits (by omega),?_⟩⟩;rw [decide_eq_true (show (z.length:Int)≤60 by omega)];exact q
theorem UO (T:Tx K mg):aA P w K mg base aO 2 T.nX.f T.nX.d ["text"] UY:=by
 refine T.nX.F.ok Pj (fun vs H Q E h=>?_) (fun az A outer s H vs Q E hr h=>?_)
 ·exact eM h fun _ _=>rfl
 ·refine eM h fun z h=>?_;obtain ⟨hz,q⟩:=h;refine ⟨_,((Dv.aj (Dv.aX (Dv.cC (Dv.cu (Dv.call (T4 T) (hr.mono (by decide)) T.oF.m T.oF.F.kp T.oF.b .nil aw (Dv.aa (Dv.v 0) Dv.ag)))) (Dv.aj Dv.cR) Dv.nil))).h,?_⟩;refine stI [some (V.str z)] ?_;walk_at "w";exact ⟨hz,bf q⟩
theorem R5 (T:Tx K mg):aA P w K mg base aO 4 T.qA.f T.qA.d ["self", "owner", "text", "mine", "rest"] (Nl T.aD T.aG):=by
 refine T.qA.F.ok Qx (fun vs H Q E h=>?_) (fun az A outer s H vs Q E hr h=>?_)
 ·exact Gg h fun _ _ _ _ _ _=>rfl
 ·refine Gg h fun x ow tx mi re h=>?_;obtain ⟨dt,ml,rs,at',sd,q⟩:=h;obtain ⟨fs,c,hx,aV,sf⟩:=at'.o;refine ⟨_,((Dv.aj (Dv.aP (Dv.bh T.cj T.lG.h (E5 T) (hr.mono (by decide)) T.lG.b .nil aw (Dv.v 0) (Dv.aa (Dv.glob (.str "file") T.za ⟨_,rfl⟩) (Dv.aa (Dv.v 1) (Dv.aa (Dv.v 3) (Dv.aa (Dv.v 4) (Dv.aa (Dv.v 2) Dv.ag))))))))).h,?_⟩;refine stI [some (.ref x),some ow,some tx,some mi,some re] ?_;walk_at "w";exact ⟨x,dt,fs,rfl,hx,(sf _).trans rfl,dt,ml,rs,at',sd,q⟩
theorem Qg (T:Tx K mg):aA P w K mg base aO 3 T.qT.f T.qT.d ["self", "number"] (oB T.au T.aD T.aG Ad.a Qj):=by
 refine T.qT.F.ok UB (fun vs H Q E h=>?_) (fun az A outer s H vs Q E hr h=>?_)
 ·exact cD h fun _ _ _=>rfl
 ·refine cD h fun x n h=>?_;obtain ⟨AA,L,M,k,a,t,i,rfl,rfl,ha,aN,q⟩:=h;obtain ⟨fs,c,hx,aV,sf⟩:=i.h;obtain ⟨gs,c2,ht,dW,sg⟩:=i.t;have cW:=fG i ha aN;obtain ⟨ks,ho,jZ,so⟩:=cW.o;refine ⟨_,((Dv.aj (Dv.aP (Dv.fld T.cY T.xO (Dv.dP T.cj T.du.h (jr T) (hr.mono (by decide)) T.du.b .nil fw (Dv.fld T.aM T.gu (Dv.v 0)) (Dv.aa (Dv.v 1) Dv.ag)))))).h,?_⟩;refine stI [some (V.ref AA.a),some (V.int (k:Int))] ?_;walk_at "w";exact ⟨AA.a,_,_,.ref AA.t,rfl,hx,(sf _).trans rfl,AA.t,_,_,rfl,ht,(sg _).trans rfl,j3 i ha aN ⟨a.th,_,_,_,rfl,ho,(so _).trans rfl,q⟩⟩
def We (CH CS CT:Addr):Sp:=Ck fun x n m r H Q _=>∃ A L M,∃ k:Nat,∃ a t,aI CH CS CT H A L M∧A.t=x∧n=(k:Int)∧L[k]?=some a∧M.ts[k]?=some t ∧
   ∀ H',aI CH CS CT H' A L { M with ts:=M.ts.set k { t with mi:=m,re:=r } }→Kp [A.t,a.th] H H'→Q .ax H'
theorem VD (T:Tx K mg):aA P w K mg base aO 3 T.qD.f T.qD.d ["self", "number", "mine", "rest"] (We T.au T.aD T.aG):=by
 refine T.qD.F.ok HB (fun vs H Q E h=>?_) (fun az A outer s H vs Q E hr h=>?_)
 ·exact HZ h fun _ _ _ _ _=>rfl
 ·refine HZ h fun x n m r h=>?_;obtain ⟨AA,L,M,k,a,t,i,rfl,rfl,ha,aN,q⟩:=h;obtain ⟨fs,c,hx,aV,sf⟩:=i.h;obtain ⟨gs,c2,ht,dW,sg⟩:=i.t;have cW:=fG i ha aN;obtain ⟨ks,ho,jZ,so⟩:=cW.o;have off:=i.lS ha;have n1:AA.t≠a.th:=off _ (by simp [Ad.w]) _ (by simp [Ta.l]);have n2:AA.a≠a.th:=off _ (by simp [Ad.w]) _ (by simp [Ta.l]);have n3:=i.own ha;refine ⟨_,((Dv.cut (Dv.aS 4 HB.nd (Dv.dP T.cj T.du.h (jr T) (hr.mono (by decide)) T.du.b .nil fw (Dv.v 0) (Dv.aa (Dv.v 1) Dv.ag)))
  (Dv.cut (Dv.j9 T.cj T.ue kc (Dv.v 0) Dv.int)
  (Dv.cut (Dv.bz T.cY T.zl (Dv.v 4) (Dv.v 2))
  (Dv.aj (Dv.bz T.cY T.wD (Dv.v 4) (Dv.v 3))))))).h,?_⟩
  refine stI [some (V.ref AA.t),some (V.int (k:Int)),some (V.str m),some (V.str r),none] ?_;refine ao ?_;walk_at "w";refine ⟨AA.t,_,_,rfl,ht,(sg _).trans rfl,j3 i ha aN ?_⟩;refine ao ?_;walk_at "w";refine ⟨AA.t,_,_,.int c2,rfl,ht,(sg _).trans rfl,_,_,rfl,rfl,_,_,ht,by omega,ao ?_⟩;walk_at "w";refine ⟨a.th,_,_,rfl,by rw [ah (Ne.symm n1)]; exact ho,by omega,?_⟩;walk_at "w";refine ⟨a.th,_,_,rfl,ay,by rw [dQ (u:=.str t.mi) ((so _).trans rfl)]; omega,?_⟩;refine q _ (i.write (t':={ t with mi:=m,re:=r }) ha ⟨fs,c,by rw [ah n2,ah n2,ah i.aT]; exact hx,aV,sf⟩ ⟨_,c2+1,by rw [ah n1,ah n1,ay],by rw [dQ (u:=.int c2) ((sg _).trans rfl)]; exact dW,fun f=>by rw [(sg.put "changes" (.int (c2+1))) f]; rfl⟩ ⟨⟨_,ay,?_,fun f=>((so.put "mine" (.str m)).put "rest" (.str r) f).trans rfl⟩,?_,?_⟩ (fun b o hb e=>?_)) (fun b o hb e=>?_)
  ·rw [dQ (u:=.str t.re) (by rw [dC,if_neg (by decide)]; exact (so _).trans rfl),dQ (u:=.str t.mi) ((so _).trans rfl)]; exact jZ
  ·rw [ah (Ne.symm n3.1),ah (Ne.symm n3.1),ah (Ne.symm (off _ (by simp [Ad.w]) _ (by simp [Ta.l])))]; exact cW.nm
  ·rw [ah (Ne.symm n3.2.1),ah (Ne.symm n3.2.1),ah (Ne.symm (off _ (by simp [Ad.w]) _ (by simp [Ta.l])))]; exact cW.pl
  ·simp only [List.mem_cons,List.not_mem_nil,or_false,not_or] at hb;rw [ah hb.2.2.1,ah hb.2.2.1,ah hb.2.1]; exact e
  ·simp only [List.mem_cons,List.not_mem_nil,or_false,not_or] at hb;rw [ah hb.2,ah hb.2,ah hb.1]; exact e
section
variable {CH CS CT:Addr} {H H':Hp} {A:Ad} {L:List Ta} {M:Hs}
theorem aI.some (i:aI CH CS CT H A L M):∀ b∈A.w++L.flatMap Ta.l,∃ o,H b=.some o:=fun b hb=>by
 rcases List.mem_append.mp hb with h | h
 ·simp only [Ad.w,List.mem_cons,List.not_mem_nil,or_false] at h;rcases h with rfl | rfl | rfl | rfl | rfl | rfl | rfl | rfl
  ·obtain ⟨_,_,e,_⟩:=i.h; exact ⟨_,e⟩
  ·obtain ⟨_,_,e,_⟩:=i.t; exact ⟨_,e⟩
  ·exact ⟨_,i.ml⟩
  ·exact ⟨_,i.ro⟩
  ·exact ⟨_,i.st⟩
  ·exact ⟨_,i.tr⟩
  ·exact ⟨_,i.ov⟩
  ·exact ⟨_,i.un⟩
 ·obtain ⟨a,ha,hb⟩:=List.mem_flatMap.mp h;obtain ⟨k,hk⟩:=List.getElem?_of_mem ha;have bV:k < M.ts.length:=by rw [← i.len]; exact (List.getElem?_eq_some_iff.mp hk).1
  obtain ⟨a',e1,t⟩:=i.th k _ (List.getElem?_eq_getElem bV);rw [hk] at e1;cases e1;simp only [Ta.l,List.mem_cons,List.not_mem_nil,or_false] at hb;rcases hb with rfl | rfl | rfl
  ·obtain ⟨_,e,_⟩:=t.o; exact ⟨_,e⟩
  ·exact ⟨_,t.nm⟩
  ·exact ⟨_,t.pl⟩
theorem aI.add {th cN nm pl:Addr} {ks:List (Str×V)} {kd ow mi re tx:Str} (i:aI CH CS CT H A L M) (f1:H th=none) (f2:H nm=none) (f3:H pl=none) (at':kL CS H' A.t A.dt A.ml ((L.map fun a=>V.ref a.th)++[.ref th])) (aN:H' th=Option.some (.ins CT cN ks)) (kl:ks.length≤40)
  (sk:cB ks (qb (.int (L.length:Nat)) (.str kd) (.str ow) (.str mi) (.str re) (.str tx) (.ref nm) (.ref pl))) (bK:H' nm=Option.some (.dK [])) (bb:H' pl=Option.some (.dT [])) (kp:Kp [A.t,A.ml] H H') :
  aI CH CS CT H' A (L++[⟨th,cN,nm,pl⟩]) { M with ts:=M.ts++[⟨kd,ow,mi,re,tx,[],[]⟩] }:=by
 have nd:=i.nd;have sm:=i.some;have nw:∀ b∈A.w++L.flatMap Ta.l,b≠th∧b≠nm∧b≠pl:=fun b hb=>by
  obtain ⟨o,e⟩:=sm b hb;exact ⟨aF e f1,aF e f2,aF e f3⟩
 have dA:th≠nm:=bN aN bK (by nofun);have fK:th≠pl:=bN aN bb (by nofun);have h23:nm≠pl:=bN bK bb (by nofun);have n0:=nd;rw [List.nodup_append] at n0;obtain ⟨n1,n2,n3⟩:=n0;simp only [Ad.w,List.nodup_cons,List.mem_cons,List.not_mem_nil,or_false,not_or] at n1;have kA:∀ b∈[A.a,A.ro,A.st,A.tr,A.ov,A.un],b ∉ [A.t,A.ml]:=by
  intro b hb hm;simp only [List.mem_cons,List.not_mem_nil,or_false] at hb hm;rcases hb with rfl | rfl | rfl | rfl | rfl | rfl <;> rcases hm with h | h
  ·exact n1.1.1 h
  ·exact n1.1.2.1 h
  ·exact n1.2.1.2.1 h.symm
  ·exact n1.2.2.1.1 h.symm
  ·exact n1.2.1.2.2.1 h.symm
  ·exact n1.2.2.1.2.1 h.symm
  ·exact n1.2.1.2.2.2.1 h.symm
  ·exact n1.2.2.1.2.2.1 h.symm
  ·exact n1.2.1.2.2.2.2.1 h.symm
  ·exact n1.2.2.1.2.2.2.1 h.symm
  ·exact n1.2.1.2.2.2.2.2 h.symm
  ·exact n1.2.2.1.2.2.2.2 h.symm
 refine ⟨?_,at'.o,?_,by simp [i.len],fun j t e=>?_,kp _ _ (kA _ (by simp)) i.ro,kp _ _ (kA _ (by simp)) i.st,kp _ _ (kA _ (by simp)) i.tr,kp _ _ (kA _ (by simp)) i.ov,kp _ _ (kA _ (by simp)) i.un,?_⟩
 ·obtain ⟨fs,c,e,r⟩:=i.h;exact ⟨fs,c,kp _ _ (kA _ (by simp)) e,r⟩
 ·rw [at'.ml]; simp
 ·have e':(M.ts++[(⟨kd,ow,mi,re,tx,[],[]⟩:Th)])[j]?=.some t:=e;by_cases hj:j < M.ts.length
  ·rw [List.getElem?_append_left hj] at e';obtain ⟨a,e1,h1⟩:=i.th j t e';refine ⟨a,by rw [List.getElem?_append_left (by rw [i.len]; exact hj)]; exact e1,h1.keep kp fun b hb hm=>?_⟩;have iQ:=gE e1 hb;simp only [List.mem_cons,List.not_mem_nil,or_false] at hm;rcases hm with rfl | rfl
   ·exact n3 _ (by simp [Ad.w]) _ iQ rfl
   ·exact n3 _ (by simp [Ad.w]) _ iQ rfl
  ·rw [List.getElem?_append_right (by omega)] at e';have hj0:j - M.ts.length=0:=by
    rcases Nat.eq_zero_or_pos (j - M.ts.length) with h | h
    ·exact h
    ·rw [List.getElem?_eq_none (by simp; omega)] at e'; cases e'
   rw [hj0] at e';cases e';have AI:j=L.length:=by rw [i.len]; omega
   subst AI;exact ⟨_,by rw [List.getElem?_append_right (Nat.le_refl _),Nat.sub_self]; rfl,⟨⟨ks,aN,kl,sk⟩,bK,bb⟩⟩
 ·rw [List.flatMap_append,← List.append_assoc,List.nodup_append];refine ⟨nd,?_,fun b hb c hc e=>?_⟩
  ·simp only [List.flatMap_cons,List.flatMap_nil,List.append_nil,Ta.l,List.nodup_cons,List.mem_cons,List.not_mem_nil,or_false,not_or,not_false_eq_true,List.nodup_nil,and_true];exact ⟨⟨dA,fK⟩,h23⟩
  ·obtain ⟨q1,q2,q3⟩:=nw b hb;simp only [List.flatMap_cons,List.flatMap_nil,List.append_nil,Ta.l,List.mem_cons,List.not_mem_nil,or_false] at hc;rcases hc with h | h | h
   ·exact q1 (e.trans h)
   ·exact q2 (e.trans h)
   ·exact q3 (e.trans h)
end
def Cu (CH CS CT CE:Addr):Sp:=HJ fun h x n H Q _=>∃ A L M,∃ f k:Nat,∃ af tf ak tk dx nm,aI CH CS CT H A L M∧A.a=h∧H x=some (.ins CE dx (ae "name" (.str nm) (ae "folder" (.int (f:Int)) [])))∧n=(k:Int)∧L[f]?=some af∧M.ts[f]?=some tf∧L[k]?=some ak∧M.ts[k]?=some tk∧f≠k∧aJ (sD tf.aZ) (.inr nm)=none∧tf.aZ.length≤500∧tk.bU=[] ∧
   ∀ H',aI CH CS CT H' A L { M with ts:=(M.ts.set f { tf with aZ:=tf.aZ++[(nm,k)] }).set k { tk with bU:=[(f,nm)] } }→Kp [A.t,af.nm,ak.pl] H H'→Q (.int (k:Int)) H'
theorem DQ (T:Tx K mg):aA P w K mg base aO 6 T.i7.f T.i7.d ["house", "seat", "number"] (Cu T.au T.aD T.aG T.gB):=by
 refine T.i7.F.ok Sx (fun vs H Q E h=>?_) (fun az A outer s H vs Q E hr h=>?_)
 ·exact FK h fun _ _ _ _=>rfl
 ·refine FK h fun hh x n h=>?_;obtain ⟨AA,L,M,f,k,af,tf,ak,tk,dx,nm,i,rfl,hx,rfl,fP,bq,gA,dF,fm,hv,hl,bb,q⟩:=h;obtain ⟨mO,gc,gh,mM,fi⟩:=i.h;obtain ⟨gs,c2,ht,dW,sg⟩:=i.t;refine bA (b:=aU xD) ((Dv.cut (Dv.aW (Dv.bh T.cj T.rL.h (Om T) (hr.mono (by decide)) T.rL.b .nil aw (Dv.fld T.aM T.gu (Dv.v 0)) (Dv.aa (Dv.fld T.lz T.uv (Dv.v 1)) (Dv.aa (Dv.fld T.lz T.yo (Dv.v 1)) (Dv.aa (Dv.v 2) Dv.ag)))))
  (Dv.aj (Dv.aP (Dv.v 2))))) ?_
  refine stI [some (V.ref AA.a),some (V.ref x),some (V.int (k:Int))] ?_;refine ao ?_;walk_at "w";exact ⟨AA.a,_,_,_,rfl,gh,(fi _).trans rfl,AA.t,_,_,rfl,ht,(sg _).trans rfl,x,_,_,_,rfl,hx,rfl,x,_,_,_,rfl,hx,rfl,AA,L,M,f,k,af,tf,ak,tk,i,rfl,rfl,rfl,fP,bq,gA,dF,fm,hv,hl,bb,q⟩
def rV (CH CS CT:Addr) (A:Ad) (L:List Ta) (M:Hs) (f:Nat) (t0:Th) (a0:Ta) (nm kd ow mi re tx:Str) (H:Hp) (Q:VK):Prop :=
 ∀ a H',aI CH CS CT H' A (L++[a]) { M with ts:=M.ts.set f { t0 with aZ:=t0.aZ++[(nm,M.ts.length)] }++[⟨kd,ow,mi,re,tx,[],[(f,nm)]⟩] }→Kp [A.t,A.ml,a0.nm] H H'→Q (.int (M.ts.length:Nat)) H'
theorem GV {α:Type} {y b:α}:∀ r:List α,(r++[y]).set r.length b=r++[b]
 | []=>rfl
 | c::r=>by simp only [List.cons_append,List.length_cons,List.set_cons_succ]; rw [GV r]
theorem OM {α:Type}:∀ {xs:List α} {f:Nat} {y a b:α},f < xs.length→((xs++[y]).set f a).set xs.length b=xs.set f a++[b]:=fun {xs f y a b} h=>by
 rw [List.set_append_left _ _ h];have:=GV (y:=y) (b:=b) (xs.set f a)
 rwa [List.length_set] at this
theorem Gy {CH CS CT CE:Addr} {H:Hp} {A:Ad} {L:List Ta} {M:Hs} {f:Nat} {z nm kd mi re tx:Str} {a0:Ta} {t0:Th} {x dx:Addr} {Q:VK} {E:XK} (i:aI CH CS CT H A L M) (jW:L[f]?=some a0) (iZ:M.ts[f]?=some t0) (hx:H x=some (.ins CE dx (ae "name" (.str nm) (ae "folder" (.int (f:Int)) [])))) (hv:aJ (sD t0.aZ) (.inr nm)=none) (hl:t0.aZ.length≤400)
  (nx1:x≠A.t) (mp:rV CH CS CT A L M f t0 a0 nm kd z mi re tx H Q):uj CS CT A.t A.dt A.ml (L.map fun a=>V.ref a.th) (.str kd) (.str z) (.str mi) (.str re) (.str tx) H (fun v H'=>Cu CH CS CT CE [.ref A.a,.ref x,v] H' Q E):=by
 intro th cN nm' pl ks H' f1 f2 f3 at' aN kl sk bK bb kp;have nx2:x≠A.ml:=bN hx i.ml (by nofun);have hlen:(L.map fun a=>V.ref a.th).length=L.length:=List.length_map _;rw [hlen] at sk ⊢;have i2:=i.add f1 f2 f3 at' aN kl sk bK bb kp;have h0:f < M.ts.length:=(List.getElem?_eq_some_iff.mp iZ).1;have AX:=i.len;have e0:(M.ts++[(⟨kd,z,mi,re,tx,[],[]⟩:Th)])[f]?=some t0:=by rw [List.getElem?_append_left h0]; exact iZ
 have ek:(M.ts++[(⟨kd,z,mi,re,tx,[],[]⟩:Th)])[L.length]?=some ⟨kd,z,mi,re,tx,[],[]⟩:=by rw [AX,List.getElem?_append_right (Nat.le_refl _),Nat.sub_self]; rfl
 refine ⟨A,L++[⟨th,cN,nm',pl⟩],_,f,L.length,a0,t0,⟨th,cN,nm',pl⟩,⟨kd,z,mi,re,tx,[],[]⟩,dx,nm,i2,rfl,kp _ _ (by simp [nx1,nx2]) hx,rfl,by rw [List.getElem?_append_left (by omega)]; exact jW,e0,by rw [List.getElem?_append_right (Nat.le_refl _),Nat.sub_self]; rfl,ek,by omega,hv,by omega,rfl,fun H2 i3 k3=>?_⟩;have:=mp ⟨th,cN,nm',pl⟩ H2 (by
  have e:=i3;dsimp only at e;rw [AX] at e;rw [OM h0] at e;exact e) (fun b o hb e=>?_)
 ·rw [AX]; exact this
 ·simp only [List.mem_cons,List.not_mem_nil,or_false,not_or] at hb;have nbp:b≠pl:=aF e f3;exact k3 _ _ (by simp [hb.1,hb.2.2,nbp]) (kp _ _ (by simp [hb.1,hb.2.1]) e)
theorem Cr {CH CS CT:Addr} {H:Hp} {A:Ad} {L:List Ta} {M:Hs} (i:aI CH CS CT H A L M):kL CS H A.t A.dt A.ml (L.map fun a=>V.ref a.th):=⟨i.t,i.ml⟩
theorem rV.of {CH CS CT:Addr} {H H1:Hp} {A:Ad} {L:List Ta} {M:Hs} {f:Nat} {t0:Th} {a0:Ta} {nm kd ow mi re tx:Str} {Q:VK} (s:ai H H1) (m:rV CH CS CT A L M f t0 a0 nm kd ow mi re tx H Q):rV CH CS CT A L M f t0 a0 nm kd ow mi re tx H1 Q:=fun a H' i k=>m a H' i ((Kp.of s).trans k)
structure xV (CH CS CT CX CN CD:Addr) (H:Hp) (A:Ad) (L:List Ta) (M:Hs) (z:Str) (t:List Nat) (kd mi re tx:Str) (Q:VK) (E:XK):Prop where
 i:aI CH CS CT H A L M
 p:fF t
 hz:(aJ (sD M.ro) (.inr z)).isSome=true
 ij:mi∈gF
 iJ:re∈gF
 hL:L.length≤400
 hl:∀ (f:Nat) t0,M.ts[f]?=some t0→t0.aZ.length≤400
 r:∃ r,mf M L z t r∧(∀ x,r=.inl x→dq CX CN CD H E x)∧∀ f nm a0 t0,r=.inr (f,nm)→L[f]?=some a0→M.ts[f]?=some t0→rV CH CS CT A L M f t0 a0 (Tx.S nm) kd z mi re tx H Q
def SQ (CH CS CT CX CN CD:Addr):Sp:=zk fun h z pt mi re H Q E=>∃ A L M t,pt=Tx.S t∧xV CH CS CT CX CN CD H A L M z t "folder" mi re "" Q E∧A.a=h
def OO (CH CS CT CX CN CD:Addr):Sp:=D2 fun h z pt tx mi re H Q E=>∃ A L M t,pt=Tx.S t∧xV CH CS CT CX CN CD H A L M z t "file" mi re tx Q E∧A.a=h∧tx.length≤60
theorem Tj (T:Tx K mg):aA P w K mg base (cm P w) 13 T.BH T.sR ["house", "asker", "path", "mine", "rest"] (SQ T.au T.aD T.aG T.bC T.c9 T.dG):=by
 refine T.tu.di Fi (fun vs H Q E h=>?_) (fun az A outer s H vs Q E hr h=>?_)
 ·exact u0 h fun _ _ _ _ _ _=>rfl
 ·refine u0 h fun hh z pt mi re h=>?_;obtain ⟨AA,L,M,t,rfl,pr,rfl⟩:=h;obtain ⟨mO,gc,gh,mM,fi⟩:=pr.i.h;obtain ⟨r,fR,q1,q2⟩:=pr.r;refine bA (b:=aU oT) ((Dv.cut (Dv.aW (Dv.dP T.aM T.er.h (lB T) (hr.mono (by decide)) T.er.b .nil cG (Dv.v 0) (Dv.aa (Dv.v 1) Dv.ag)))
  (Dv.cut (Dv.aW (Dv.call (o8 T) (hr.mono (by decide)) T.df.m T.df.F.kp T.df.b .nil aw (Dv.aa (Dv.v 2) Dv.ag)))
  (Dv.cut (Dv.aW (Dv.call (oS T) (hr.mono (by decide)) T.dm.m T.dm.F.kp T.dm.b .nil aw (Dv.aa (Dv.v 3) Dv.ag)))
  (Dv.cut (Dv.aW (Dv.call (oS T) (hr.mono (by decide)) T.dm.m T.dm.F.kp T.dm.b .nil aw (Dv.aa (Dv.v 4) Dv.ag)))
  (Dv.cut (Dv.aS 5 Fi.nd (Dv.dj (HX T) (hr.mono (by decide)) T.ju.m T.ju.F.kp T.ju.b .nil cG (Dv.aa (Dv.v 0) (Dv.aa (Dv.v 1) (Dv.aa (Dv.v 2) Dv.ag)))))
  (Dv.aj (Dv.aP (Dv.call (DQ T) (hr.mono (by decide)) T.i7.m T.i7.F.kp T.i7.b .nil aw (Dv.aa (Dv.v 0) (Dv.aa (Dv.v 5) (Dv.aa (Dv.bh T.cj T.lF.h (Hy T) (hr.mono (by decide)) T.lF.b .nil aw (Dv.fld T.aM T.gu (Dv.v 0)) (Dv.aa (Dv.v 1) (Dv.aa (Dv.v 3) (Dv.aa (Dv.v 4) Dv.ag)))) Dv.ag)))))))))))) ?_
  refine stI [some (V.ref AA.a),some (V.str z),some (V.str (Tx.S t)),some (V.str mi),some (V.str re),none] ?_;refine ao ?_;walk_at "w";refine ⟨AA.a,_,_,rfl,gh,(fi _).trans rfl,ot pr.i pr.hz (ao ?_)⟩;walk_at "w";refine ⟨t,rfl,pr.p.l1,pr.p.l2,pr.p.all,fun H1 l p s1 _ hl hp=>ao ?_⟩;walk_at "w";refine ⟨pr.ij,ao ?_⟩;walk_at "w";refine ⟨pr.iJ,ao ?_⟩;walk_at "w";refine ⟨AA,L,M,t,r,rfl,pr.p,pr.i.same s1,rfl,pr.hz,fR,fun x e=>(q1 x e).of s1,fun f nm e x dx H2 fx s2 hx=>?_⟩;walk_at "w";have i2:=pr.i.same (s1.trans s2);obtain ⟨Jv,JL,pO,IF,pz⟩:=i2.h;obtain ⟨gs,c2,ht,dW,sg⟩:=i2.t;obtain ⟨_,_,mr,_⟩:=(pr.i.same s1).t;subst e;cases fR with
  | free g hn jW iZ hw hv =>
   refine ⟨AA.a,_,_,_,rfl,pO,(pz _).trans rfl,AA.t,_,_,rfl,ht,(sg _).trans rfl,AA.dt,AA.ml,_,Cr i2,by rw [List.length_map]; have:=pr.hL; omega,Gy i2 jW iZ hx hv (pr.hl _ _ iZ) (Ne.symm (aF mr fx)) ((q2 _ _ _ _ rfl jW iZ).of (s1.trans s2))⟩
theorem Vb (T:Tx K mg):aA P w K mg base (cm P w) 13 T.AG T.sE ["house", "asker", "path", "text", "mine", "rest"] (OO T.au T.aD T.aG T.bC T.c9 T.dG):=by
 refine T.uC.di Hg (fun vs H Q E h=>?_) (fun az A outer s H vs Q E hr h=>?_)
 ·exact Gj h fun _ _ _ _ _ _ _=>rfl
 ·refine Gj h fun hh z pt tx mi re h=>?_;obtain ⟨AA,L,M,t,rfl,pr,rfl,Bd⟩:=h;obtain ⟨mO,gc,gh,mM,fi⟩:=pr.i.h;obtain ⟨r,fR,q1,q2⟩:=pr.r;refine bA (b:=aU m6) ((Dv.cut (Dv.aW (Dv.dP T.aM T.er.h (lB T) (hr.mono (by decide)) T.er.b .nil cG (Dv.v 0) (Dv.aa (Dv.v 1) Dv.ag)))
  (Dv.cut (Dv.aW (Dv.call (o8 T) (hr.mono (by decide)) T.df.m T.df.F.kp T.df.b .nil aw (Dv.aa (Dv.v 2) Dv.ag)))
  (Dv.cut (Dv.aW (Dv.call (oS T) (hr.mono (by decide)) T.dm.m T.dm.F.kp T.dm.b .nil aw (Dv.aa (Dv.v 4) Dv.ag)))
  (Dv.cut (Dv.aW (Dv.call (oS T) (hr.mono (by decide)) T.dm.m T.dm.F.kp T.dm.b .nil aw (Dv.aa (Dv.v 5) Dv.ag)))
  (Dv.cut (Dv.aW (Dv.call (UO T) (hr.mono (by decide)) T.nX.m T.nX.F.kp T.nX.b .nil aw (Dv.aa (Dv.v 3) Dv.ag)))
  (Dv.cut (Dv.aS 6 Hg.nd (Dv.dj (HX T) (hr.mono (by decide)) T.ju.m T.ju.F.kp T.ju.b .nil cG (Dv.aa (Dv.v 0) (Dv.aa (Dv.v 1) (Dv.aa (Dv.v 2) Dv.ag)))))
  (Dv.aj (Dv.aP (Dv.call (DQ T) (hr.mono (by decide)) T.i7.m T.i7.F.kp T.i7.b .nil aw (Dv.aa (Dv.v 0) (Dv.aa (Dv.v 6) (Dv.aa (Dv.bh T.cj T.qA.h (R5 T) (hr.mono (by decide)) T.qA.b .nil aw (Dv.fld T.aM T.gu (Dv.v 0)) (Dv.aa (Dv.v 1) (Dv.aa (Dv.v 3) (Dv.aa (Dv.v 4) (Dv.aa (Dv.v 5) Dv.ag))))) Dv.ag))))))))))))) ?_
  refine stI [some (V.ref AA.a),some (V.str z),some (V.str (Tx.S t)),some (V.str tx),some (V.str mi),some (V.str re),none] ?_;refine ao ?_;walk_at "w";refine ⟨AA.a,_,_,rfl,gh,(fi _).trans rfl,ot pr.i pr.hz (ao ?_)⟩;walk_at "w";refine ⟨t,rfl,pr.p.l1,pr.p.l2,pr.p.all,fun H1 l p s1 _ hl hp=>ao ?_⟩;walk_at "w";refine ⟨pr.ij,ao ?_⟩;walk_at "w";refine ⟨pr.iJ,ao ?_⟩;walk_at "w";refine ⟨Bd,ao ?_⟩;walk_at "w";refine ⟨AA,L,M,t,r,rfl,pr.p,pr.i.same s1,rfl,pr.hz,fR,fun x e=>(q1 x e).of s1,fun f nm e x dx H2 fx s2 hx=>?_⟩;walk_at "w";have i2:=pr.i.same (s1.trans s2);obtain ⟨Jv,JL,pO,IF,pz⟩:=i2.h;obtain ⟨gs,c2,ht,dW,sg⟩:=i2.t;obtain ⟨_,_,mr,_⟩:=(pr.i.same s1).t;subst e;cases fR with
  | free g hn jW iZ hw hv =>
   refine ⟨AA.a,_,_,_,rfl,pO,(pz _).trans rfl,AA.t,_,_,rfl,ht,(sg _).trans rfl,AA.dt,AA.ml,_,Cr i2,by rw [List.length_map]; have:=pr.hL; omega,Gy i2 jW iZ hx hv (pr.hl _ _ iZ) (Ne.symm (aF mr fx)) ((q2 _ _ _ _ rfl jW iZ).of (s1.trans s2))⟩
inductive nj (M:Hs) (L:List Ta) (z:Str) (t:List Nat):Sum Rf Nat→Prop
 | way {e k y}:dN M L z t e→e.res=.inr (k,y)→nj M L z t (.inl (.way k y))
 | file {e k ns a th}:dN M L z t e→e.res=.inl (k,ns)→L[k]?=some a→M.ts[k]?=some th→th.kd≠("folder" : Str)→nj M L z t (.inl (.eg "file"))
 | ok {e k ns a th}:dN M L z t e→e.res=.inl (k,ns)→L[k]?=some a→M.ts[k]?=some th→th.kd=("folder" : Str)→nj M L z t (.inr k)
def SK (CH CS CT CX CN CD:Addr):Sp:=ke fun x z pt H Q E=>∃ A L M t r,pt=Tx.S t∧aI CH CS CT H A L M∧A.a=x∧nj M L z t r∧M.st.length≤40∧(∀ x,r=.inl x→dq CX CN CD H E x)∧∀ k,r=.inr k→∀ H',aI CH CS CT H' A L { M with st:=cH M.st z k }→Kp [A.a,A.st] H H'→Q .ax H'
theorem SO (T:Tx K mg):aA P w K mg base (cm P w) 15 T.mX.f T.mX.d ["house", "asker", "path"] (SK T.au T.aD T.aG T.bC T.c9 T.dG):=by
 refine T.mX.F.di Qu (fun vs H Q E h=>?_) (fun az A outer s H vs Q E hr h=>?_)
 ·exact fz h fun _ _ _ _=>rfl
 ·refine fz h fun x z pt h=>?_;obtain ⟨AA,L,M,t,r,rfl,i,rfl,fR,hl,q1,q2⟩:=h;obtain ⟨fs,c,hx,aV,sf⟩:=i.h;refine bA (b:=aU y8) ((Dv.aj (Dv.aW (Dv.bh T.aM T.gR.h (Ew T) (hr.mono (by decide)) T.gR.b .nil aw (Dv.v 0) (Dv.aa (Dv.v 1) (Dv.aa (Dv.dj (EH T) (hr.mono (by decide)) T.i9.m T.i9.F.kp T.i9.b .nil cG (Dv.aa (Dv.v 0) (Dv.aa (Dv.v 1) (Dv.aa (Dv.v 2) Dv.ag)))) Dv.ag)))))) ?_;refine stI [some (V.ref AA.a),some (V.str z),some (V.str (Tx.S t))] ?_;walk_at "w";have hq:∃ e,dN M L z t e∧(∀ k y,e.res=.inr (k,y)→r=.inl (.way k y))∧∀ k ns,e.res=.inl (k,ns)→∃ a th,L[k]?=some a∧M.ts[k]?=some th∧(th.kd=("folder" : Str)→r=.inr k)∧(th.kd≠("folder" : Str)→r=.inl (.eg "file")):=by
   cases fR with
   | way h1 h2=>exact ⟨_,h1,fun k y e=>(by rw [h2] at e; cases e; rfl),fun k ns e=>by rw [h2] at e; cases e⟩
   | file h1 h2 h3 h4 h5=>exact ⟨_,h1,fun k y e=>(by rw [h2] at e; cases e),fun k ns e=>by rw [h2] at e; cases e; exact ⟨_,_,h3,h4,fun z=>absurd z h5,fun _=>rfl⟩⟩
   | ok h1 h2 h3 h4 h5=>exact ⟨_,h1,fun k y e=>(by rw [h2] at e; cases e),fun k ns e=>by rw [h2] at e; cases e; exact ⟨_,_,h3,h4,fun _=>rfl,fun z=>absurd h5 z⟩⟩
  obtain ⟨e,pg,g1,g2⟩:=hq;refine ⟨AA.a,_,_,rfl,hx,(sf _).trans rfl,AA,L,M,t,e,rfl,i,rfl,pg,fun k ns he=>?_,fun k y he fd aK d H1 s1 hf hd=>?_⟩
  ·obtain ⟨a,th,ha,aN,r1,r2⟩:=g2 k ns he;exact ⟨a,th,ha,aN,fun hk H1 s1=>⟨AA,L,M,k,i.same s1,rfl,rfl,hl,fun H' i' k'=>q2 _ (r1 hk) H' i' ((Kp.of s1).trans k')⟩,fun hk d H1 s1 hd=>(q1 _ (r2 hk)).raise s1 hd⟩
  ·exact q1 _ (g1 k y he) fd aK d _ (s1.trans (ai.upd hd)) (by rw [ah (aF hf hd)]; exact hf) ay
inductive qc (M:Hs) (L:List Ta) (z:Str) (t:List Nat):Sum Rf Nat→Prop
 | way {e k y}:dN M L z t e→e.res=.inr (k,y)→qc M L z t (.inl (.way k y))
 | CY {e k ns a th}:dN M L z t e→e.res=.inl (k,ns)→L[k]?=some a→M.ts[k]?=some th→th.ow≠z→qc M L z t (.inl (.eg "mine"))
 | ok {e k ns a th}:dN M L z t e→e.res=.inl (k,ns)→L[k]?=some a→M.ts[k]?=some th→th.ow=z→qc M L z t (.inr k)
def Nx (CH CS CT CX CN CD:Addr):Sp:=zk fun h z pt m r H Q E=>∃ A L M t x,pt=Tx.S t∧aI CH CS CT H A L M∧A.a=h∧qc M L z t x∧m∈gF∧r∈gF∧(∀ y,x=.inl y→dq CX CN CD H E y)∧∀ k a th,x=.inr k→L[k]?=some a→M.ts[k]?=some th →
   ∀ H',aI CH CS CT H' A L { M with ts:=M.ts.set k { th with mi:=m,re:=r } }→Kp [A.t,a.th] H H'→Q .ax H'
theorem D9 (T:Tx K mg):aA P w K mg base (cm P w) 14 T.ja.f T.ja.d ["house", "asker", "path", "mine", "rest"] (Nx T.au T.aD T.aG T.bC T.c9 T.dG):=by
 refine T.ja.F.di Ge (fun vs H Q E h=>?_) (fun az A outer s H vs Q E hr h=>?_)
 ·exact u0 h fun _ _ _ _ _ _=>rfl
 ·refine u0 h fun hh z pt m r h=>?_;obtain ⟨AA,L,M,tt,x,rfl,i,rfl,hx,hm,hr',q1,q2⟩:=h;obtain ⟨e,pa,g1,g2⟩:∃ e,dN M L z tt e∧(∀ k y,e.res=.inr (k,y)→x=.inl (.way k y))∧∀ k ns,e.res=.inl (k,ns)→∃ a th,L[k]?=some a∧M.ts[k]?=some th∧(th.ow=z→x=.inr k)∧(th.ow≠z→x=.inl (.eg "mine")):=by
   cases hx with
   | way h1 h2=>exact ⟨_,h1,fun k y e=>(by rw [h2] at e; cases e; rfl),fun k ns e=>by rw [h2] at e; cases e⟩
   | CY h1 h2 h3 h4 h5=>exact ⟨_,h1,fun k y e=>(by rw [h2] at e; cases e),fun k ns e=>by rw [h2] at e; cases e; exact ⟨_,_,h3,h4,fun z=>absurd z h5,fun _=>rfl⟩⟩
   | ok h1 h2 h3 h4 h5=>exact ⟨_,h1,fun k y e=>(by rw [h2] at e; cases e),fun k ns e=>by rw [h2] at e; cases e; exact ⟨_,_,h3,h4,fun _=>rfl,fun z=>absurd h5 z⟩⟩
  obtain ⟨mO,gc,gh,mM,fi⟩:=i.h;refine bA (b:=aU zU) ((Dv.cut (Dv.aW (Dv.dP T.aM T.er.h (lB T) (hr.mono (by decide)) T.er.b .nil cG (Dv.v 0) (Dv.aa (Dv.v 1) Dv.ag)))
  (Dv.cut (Dv.aW (Dv.call (o8 T) (hr.mono (by decide)) T.df.m T.df.F.kp T.df.b .nil aw (Dv.aa (Dv.v 2) Dv.ag)))
  (Dv.cut (Dv.aW (Dv.call (oS T) (hr.mono (by decide)) T.dm.m T.dm.F.kp T.dm.b .nil aw (Dv.aa (Dv.v 3) Dv.ag)))
  (Dv.cut (Dv.aW (Dv.call (oS T) (hr.mono (by decide)) T.dm.m T.dm.F.kp T.dm.b .nil aw (Dv.aa (Dv.v 4) Dv.ag)))
  (Dv.cut (Dv.aS 5 Ge.nd (Dv.dj (GG T) (hr.mono (by decide)) T.jb.m T.jb.F.kp T.jb.b .nil cG (Dv.aa (Dv.v 0) (Dv.aa (Dv.v 1) (Dv.aa (Dv.v 2) Dv.ag)))))
  (Dv.cut (Dv.aX (Dv.aY ko (Dv.bh T.aM T.qT.h (Qg T) (hr.mono (by decide)) T.qT.b .nil aw (Dv.v 0) (Dv.aa (Dv.v 5) Dv.ag)) (Dv.v 1)) (Dv.aj (Dv.oy mW rfl rfl T.rM T.nZ T.qN (qa T) (hr.mono (by decide)) T.i6.b (Dv.aa Dv.str Dv.ag))) Dv.nil)
  (Dv.aj (Dv.aW (Dv.bh T.cj T.qD.h (VD T) (hr.mono (by decide)) T.qD.b .nil aw (Dv.fld T.aM T.gu (Dv.v 0)) (Dv.aa (Dv.v 5) (Dv.aa (Dv.v 3) (Dv.aa (Dv.v 4) Dv.ag))))))))))))) ?_
  refine stI [some (V.ref AA.a),some (V.str z),some (V.str (Tx.S tt)),some (V.str m),some (V.str r),none] ?_;refine ao ?_;walk_at "w";refine ⟨AA.a,_,_,rfl,gh,(fi _).trans rfl,ot i pa.hz (ao ?_)⟩;walk_at "w";refine ⟨tt,rfl,pa.l1,pa.l2,pa.all,fun H1 l p s1 _ hl hp=>ao ?_⟩;walk_at "w";refine ⟨hm,ao ?_⟩;walk_at "w";refine ⟨hr',ao ?_⟩;walk_at "w";refine ⟨AA,L,M,tt,e,rfl,i.same s1,rfl,pa,fun k ns he H2 s2=>ao ?_,fun k y he fd aK d H2 s2 hf hd=>?_⟩
  ·walk_at "w";have i2:=i.same (s1.trans s2);obtain ⟨Jv,JL,pO,IF,pz⟩:=i2.h;obtain ⟨gs,c2,hts,dW,sg⟩:=i2.t;obtain ⟨a,t,ha,ht,g3,g4⟩:=g2 k ns he;refine ⟨AA.a,_,_,rfl,pO,(pz _).trans rfl,AA,L,M,k,a,t,i2,rfl,rfl,ha,ht,?_⟩;show (if (!decide (t.ow=z))=true then _ else _);by_cases how:t.ow=z
   ·rw [decide_eq_true how];exact bf ⟨AA.a,_,_,_,rfl,pO,(pz _).trans rfl,AA.t,_,_,rfl,hts,(sg _).trans rfl,AA,L,M,k,a,t,i2,rfl,rfl,ha,ht,fun H3 i3 k3=>q2 k a t (g3 how) ha ht H3 i3 ((Kp.of (s1.trans s2)).trans k3)⟩
   ·rw [decide_eq_false how];exact bM ⟨_,rfl,fun d hd=>(q1 _ (g4 how)).raise (s1.trans s2) hd⟩
  ·exact q1 _ (g1 k y he) fd aK d _ ((s1.trans s2).trans (ai.upd hd)) (by rw [ah (aF hf hd)]; exact hf) ay
def SY (CH CS CT CX CN CD:Addr):Sp:=ke fun x z pt H Q E=>∃ A L M t r,pt=Tx.S t∧aI CH CS CT H A L M∧A.a=x∧nj M L z t r∧M.st.length≤40∧M.ro.length≤40∧(∀ x,r=.inl x→dq CX CN CD H E x)∧∀ k,r=.inr k→∀ H',aI CH CS CT H' A L { M with ro:=cH M.ro z k,st:=cH M.st z k }→Kp [A.a,A.ro,A.st] H H'→Q .ax H'
theorem Lw (T:Tx K mg):aA P w K mg base (cm P w) 15 T.n9.f T.n9.d ["house", "asker", "path"] (SY T.au T.aD T.aG T.bC T.c9 T.dG):=by
 refine T.n9.F.di Cz (fun vs H Q E h=>?_) (fun az A outer s H vs Q E hr h=>?_)
 ·exact fz h fun _ _ _ _=>rfl
 ·refine fz h fun x z pt h=>?_;obtain ⟨AA,L,M,t,r,rfl,i,rfl,fR,hl,hlr,q1,q2⟩:=h;refine bA (b:=aU xx) ((Dv.cut (Dv.aS 3 Cz.nd (Dv.dj (EH T) (hr.mono (by decide)) T.i9.m T.i9.F.kp T.i9.b .nil cG (Dv.aa (Dv.v 0) (Dv.aa (Dv.v 1) (Dv.aa (Dv.v 2) Dv.ag)))))
  (Dv.cut (Dv.aW (Dv.bh T.aM T.jF.h (Oc T) (hr.mono (by decide)) T.jF.b .nil aw (Dv.v 0) (Dv.aa (Dv.v 1) (Dv.aa (Dv.v 3) Dv.ag))))
  (Dv.aj (Dv.aW (Dv.bh T.aM T.gR.h (Ew T) (hr.mono (by decide)) T.gR.b .nil aw (Dv.v 0) (Dv.aa (Dv.v 1) (Dv.aa (Dv.v 3) Dv.ag)))))))) ?_
  refine stI [some (V.ref AA.a),some (V.str z),some (V.str (Tx.S t)),none] ?_;obtain ⟨e,pg,g1,g2⟩:∃ e,dN M L z t e∧(∀ k y,e.res=.inr (k,y)→r=.inl (.way k y))∧∀ k ns,e.res=.inl (k,ns)→∃ a th,L[k]?=some a∧M.ts[k]?=some th∧(th.kd=("folder" : Str)→r=.inr k)∧(th.kd≠("folder" : Str)→r=.inl (.eg "file")):=by
   cases fR with
   | way h1 h2=>exact ⟨_,h1,fun k y e=>(by rw [h2] at e; cases e; rfl),fun k ns e=>by rw [h2] at e; cases e⟩
   | file h1 h2 h3 h4 h5=>exact ⟨_,h1,fun k y e=>(by rw [h2] at e; cases e),fun k ns e=>by rw [h2] at e; cases e; exact ⟨_,_,h3,h4,fun z=>absurd z h5,fun _=>rfl⟩⟩
   | ok h1 h2 h3 h4 h5=>exact ⟨_,h1,fun k y e=>(by rw [h2] at e; cases e),fun k ns e=>by rw [h2] at e; cases e; exact ⟨_,_,h3,h4,fun _=>rfl,fun z=>absurd h5 z⟩⟩
  refine ao ?_;walk_at "w";refine ⟨AA,L,M,t,e,rfl,i,rfl,pg,fun k ns he=>?_,fun k y he fd aK d H1 s1 hf hd=>?_⟩
  ·obtain ⟨a,th,ha,aN,r1,r2⟩:=g2 k ns he;refine ⟨a,th,ha,aN,fun hk H1 s1=>ao ?_,fun hk d H1 s1 hd=>(q1 _ (r2 hk)).raise s1 hd⟩;have i1:=i.same s1;obtain ⟨gY,c1,bu,iS,b9⟩:=i1.h;walk_at "w";refine ⟨AA.a,_,_,rfl,bu,(b9 _).trans rfl,AA,L,M,k,i1,rfl,rfl,hlr,fun H2 i2 k2=>?_⟩;obtain ⟨gX,c2,bL,gZ,bR⟩:=i2.h;walk_at "w";exact ⟨AA.a,_,_,rfl,bL,(bR _).trans rfl,AA,L,_,k,i2,rfl,rfl,hl,fun H3 i3 k3=>q2 _ (r1 hk) H3 i3 ((Kp.of s1).trans ((k2.more (by simp)).trans (k3.more (by simp))))⟩
  ·exact q1 _ (g1 k y he) fd aK d _ (s1.trans (ai.upd hd)) (by rw [ah (aF hf hd)]; exact hf) ay
def AS:List Str:=["ann", "bo", "cy"]
inductive cg (M:Hs) (r:Nat):Nat→Prop
 | refl:cg M r r
 | up {k f nm t}:M.ts[k]?=some t→t.bU=[(f,nm)]→cg M r f→cg M r k
structure qS (M:Hs) (k:Nat) (t:Th):Prop where
 nl:t.aZ.length≤M.ts.length
 kd:t.kd=("folder" : Str)∨t.kd=("file" : Str)
 pl:k=0∧t.bU=[]∨∃ (f:Nat) (nm:Str) (tf:Th),f < k∧t.bU=[(f,nm)]∧nm.length≤8∧M.ts[f]?=some tf∧tf.kd=("folder" : Str)
 ch:∀ z v,aJ (sD t.aZ) (.inr z)=some v→∃ (c:Nat) (tc:Th),v=.int (c:Int)∧M.ts[c]?=some tc∧tc.bU=[(k,z)]
structure ym (M:Hs) (z:Str) (r k:Nat):Prop where
 ro:aJ (sD M.ro) (.inr z)=some (.int (r:Int))
 st:aJ (sD M.st) (.inr z)=some (.int (k:Int))
 b:cg M r k
 tr:∃ t,M.ts[r]?=some t∧t.kd=("folder" : Str)
 tk:∃ t,M.ts[k]?=some t∧t.kd=("folder" : Str)
structure Gd (M:Hs):Prop where
 tr:M.tr=[(("main" : Str),0)]
 ov:M.ov=[]
 un:M.un=[]
 as:∀ z∈AS,∃ r k,ym M z r k
 rl:M.ro.length≤3
 sl:M.st.length≤3
 t0:∃ t,M.ts[0]?=some t∧t.kd=("folder" : Str)
 th:∀ k t,M.ts[k]?=some t→qS M k t
def Val (M:Hs) (r:Nat) (S:Ws):Prop:=∃ t,M.ts[S.here]?=some t∧(t.kd=("folder" : Str)∧cg M r S.here∨t.kd=("file" : Str)∧∃ (f:Nat) (nm:Str) (tf:Th),S.place=some (f,nm)∧nm.length≤8∧M.ts[f]?=some tf∧cg M r f)
def ka (p:Str):Prop:=p=("." : Str)∨p=(".." : Str)∨dX (.str p)=true∧p.length≤8
theorem NM {wd:List Nat} (h:bZ wd=true):ka (Tx.S wd):=by
 unfold bZ at h;simp only [Bool.or_eq_true,decide_eq_true_eq] at h;rcases h with (rfl | rfl) | h
 ·exact .inl (by decide +kernel)
 ·exact .inr (.inl (by decide +kernel))
 ·exact .inr (.inr ⟨yV h,by rw [Tx.bY]; exact (tw h).2.2.2⟩)
theorem yh {t:Th} (h:t.kd=("file" : Str)):t.kd≠("folder" : Str):=by rw [h]; decide +kernel
section
variable {M:Hs} {L:List Ta} {z:Str} {r:Nat}
theorem adr (hL:L.length=M.ts.length) {k:Nat} {t:Th} (h:M.ts[k]?=some t):∃ a,L[k]?=some a :=
 ⟨_,List.getElem?_eq_getElem (by rw [hL]; exact (List.getElem?_eq_some_iff.mp h).1)⟩
theorem Gd.cM (g:Gd M) (k:Nat):dv M k k [] :=
 ⟨⟨0,by unfold nY; rw [g.un]; exact ⟨rfl,rfl⟩⟩,0,by unfold lC; rw [g.ov]; exact ⟨rfl,rfl⟩,Nat.zero_le _⟩
theorem Gd.lJ (g:Gd M) {k b:Nat} {r:List Nat} (h:dv M k b r):b=k∧r=[]:=by
 obtain ⟨⟨n,h1⟩,n2,h2,_⟩:=h;refine ⟨?_,?_⟩
 ·cases n with
  | zero=>exact h1.2
  | succ n=>obtain ⟨k',e,_⟩:=h1; rw [g.un] at e; cases e
 ·cases n2 with
  | zero=>exact h2.2
  | succ n=>obtain ⟨k',r,e,_⟩:=h2; rw [g.ov] at e; cases e
theorem iy {k:Nat}:fv r [k]=decide (k=r):=by
 unfold fv;by_cases h:k=r
 ·simp [h]
 ·simp [h]
theorem Gd.par (g:Gd M) {k:Nat} {t:Th} (ht:M.ts[k]?=some t) (hb:cg M r k) (hk:k≠r):∃ (f:Nat) (nm:Str) (tf:Th),f < k∧t.bU=[(f,nm)]∧nm.length≤8∧M.ts[f]?=some tf∧tf.kd=("folder" : Str)∧cg M r f:=by
 cases hb with
 | refl=>exact absurd rfl hk
 | up h1 h2 h3 =>
  rw [ht] at h1; cases h1;rcases (g.th k t ht).pl with ⟨_,e⟩ | ⟨f,nm,tf,hf,hp,hl,bq,dH⟩
  ·rw [e] at h2; cases h2
  ·rw [hp] at h2; cases h2;exact ⟨_,_,tf,hf,hp,hl,bq,dH,h3⟩
theorem Gd.seen (g:Gd M) (hL:L.length=M.ts.length):∀ (n k:Nat) (t:Th),k≤n→M.ts[k]?=some t→cg M r k→iN M L r n k true
 | n,k,t,hk,ht,hb=>by
  obtain ⟨a,ha⟩:=adr hL ht;unfold iN;refine ⟨k,[],a,t,ha,ht,g.cM k,?_⟩;rw [if_pos (show k=cP k [] from rfl),iy];by_cases h0:k=r
  ·rw [if_pos (decide_eq_true h0)]
  ·rw [if_neg (by rw [decide_eq_false h0]; nofun)];obtain ⟨f,nm,tf,hf,hp,_,bq,_,hb'⟩:=g.par ht hb h0;refine ⟨a,t,ha,ht,.inr ⟨f,nm,hp,?_⟩⟩
   match n,hk with
   | 0,hk=>omega
   | n+1,hk=>exact g.seen hL n f tf (by omega) bq hb'
theorem Gd.nm (g:Gd M) (hL:L.length=M.ts.length):∀ (n k:Nat) (t:Th),k≤n→M.ts[k]?=some t→cg M r k→∃ ns,fT M L r n k ns∧ns.length≤k∧∀ s∈ns,s.length≤8
 | n,k,t,hk,ht,hb=>by
  obtain ⟨a,ha⟩:=adr hL ht;by_cases h0:k=r
  ·refine ⟨[],?_,Nat.zero_le _,fun _ h=>by cases h⟩;unfold fT;exact ⟨k,[],a,t,ha,ht,g.cM k,by rw [iy,if_pos (decide_eq_true h0)]⟩
  ·obtain ⟨f,nm,tf,hf,hp,hl,bq,_,hb'⟩:=g.par ht hb h0
   match n,hk with
   | 0,hk=>omega
   | n+1,hk =>
    obtain ⟨ns,h1,h2,h3⟩:=g.nm hL n f tf (by omega) bq hb';refine ⟨ns++[nm],?_,by rw [List.length_append]; simp; omega,fun s hs=>?_⟩
    ·unfold fT;refine ⟨k,[],a,t,ha,ht,g.cM k,?_⟩;rw [iy,if_neg (by rw [decide_eq_false h0]; nofun)];exact ⟨a,t,f,nm,ha,ht,hp,ns,rfl,h1⟩
    ·rcases List.mem_append.mp hs with hs | hs
     ·exact h3 s hs
     ·rw [List.mem_singleton.mp hs]; exact hl
theorem DS:dX (.str ("." : Str))=false∧dX (.str (".." : Str))=false:=by decide +kernel
theorem Wb (g:Gd M) (hL:L.length=M.ts.length) {S:Ws} {p:Str} (v:Val M r S) (hp:ka p):∃ S' o,dD M L z r S p S' o∧(o=none→Val M r S'):=by
 obtain ⟨t,ht,hk⟩:=v;obtain ⟨a,ha⟩:=adr hL ht;by_cases bI:t.kd=("folder" : Str)
 ·have hb:cg M r S.here:=by
   rcases hk with h | h
   ·exact h.2
   ·exact absurd bI (yh h.1)
  cases hm:cZ ("g" : Str) (cK t z) with
  | false=>exact ⟨_,_,.om ha ht bI hm,nofun⟩
  | true =>
   rcases hp with hp | hp | ⟨hp,hp8⟩
   ·exact ⟨_,_,.dot ha ht bI hm hp,fun _=>⟨t,ht,.inl ⟨bI,hb⟩⟩⟩
   ·by_cases h0:S.here=r
    ·exact ⟨_,_,.ei ha ht bI hm hp (g.cM _) (by rw [iy]; exact decide_eq_true h0),fun _=>⟨t,ht,.inl ⟨bI,hb⟩⟩⟩
    ·obtain ⟨f,nm,tf,hf,bb,hl,bq,dH,hb'⟩:=g.par ht hb h0;obtain ⟨af,fP⟩:=adr hL bq;exact ⟨_,_,.up ha ht bI hm hp (g.cM _) (by rw [iy]; exact decide_eq_false h0) ha ht bb fP bq (g.cM f),fun _=>⟨tf,bq,.inl ⟨dH,hb'⟩⟩⟩
   ·have n1:p≠(".." : Str):=fun e=>by rw [e,DS.2] at hp; cases hp
    have n2:p≠("." : Str):=fun e=>by rw [e,DS.1] at hp; cases hp
    cases hv:aJ (sD t.aZ) (.inr p) with
    | none=>exact ⟨_,_,.no ha ht bI hm n1 n2 hp (by omega) hv,nofun⟩
    | some w =>
     obtain ⟨c,tc,rfl,eQ,hpc⟩:=(g.th _ t ht).ch _ _ hv;obtain ⟨ac,gf⟩:=adr hL eQ;rcases (g.th _ tc eQ).kd with gx | gx
     ·exact ⟨_,_,.folder ha ht bI hm n1 n2 hp (by omega) hv gf eQ gx (g.cM c),fun _=>⟨tc,eQ,.inl ⟨gx,.up eQ hpc hb⟩⟩⟩
     ·exact ⟨_,_,.file ha ht bI hm n1 n2 hp (by omega) hv gf eQ gx,fun _=>⟨tc,eQ,.inr ⟨gx,_,_,t,rfl,hp8,ht,hb⟩⟩⟩
 ·exact ⟨_,_,.flat ha ht bI,nofun⟩
theorem GP (g:Gd M) (hL:L.length=M.ts.length):∀ {ps:List Str} {S:Ws},Val M r S→(∀ p∈ps,ka p)→∃ S' o,fY M L z r S ps S' o∧(o=none→Val M r S')
 | [],S,v,_=>⟨S,none,.done S,fun _=>v⟩
 | p::ps,S,v,hp=>by
  obtain ⟨S1,o,h1,h2⟩:=Wb (z:=z) g hL (S:={ S with left:=gi ps }) (p:=p) v (hp p (by simp));cases o with
  | some y=>exact ⟨S1,some y,.fail h1,nofun⟩
  | none =>
   obtain ⟨S',o,h3,h4⟩:=GP g hL (ps:=ps) (h2 rfl) fun q hq=>hp q (by simp [hq]);exact ⟨S',o,.step h1 h3,h4⟩
theorem Er:∀ {ps:List Str} {S S':Ws},fY M L z r S (ps++[("." : Str)]) S' none→∃ t,M.ts[S'.here]?=some t∧t.kd=("folder" : Str)
 | [],S,S',h=>by
  cases h with
  | step h1 h2 =>
   cases h2;cases h1 with
   | dot a1 a2 a3 a4 a5=>exact ⟨_,a2,a3⟩
   | ei a1 a2 a3 a4 a5=>exact absurd a5 (by decide +kernel)
   | up a1 a2 a3 a4 a5=>exact absurd a5 (by decide +kernel)
   | folder a1 a2 a3 a4 a5 a6=>exact absurd rfl a6
   | file a1 a2 a3 a4 a5 a6=>exact absurd rfl a6
 | p::ps,S,S',h=>by
  cases h with
  | step h1 h2=>exact Er h2
theorem U2 (g:Gd M) (hL:L.length=M.ts.length) (hn:M.ts.length≤90) {S:Ws} (v:Val M r S):∃ ns bE,xZ M L r S ns bE:=by
 obtain ⟨t,ht,hk⟩:=v;obtain ⟨a,ha⟩:=adr hL ht;rcases hk with ⟨bI,hb⟩ | ⟨bI,f,nm,tf,hp,h8,bq,hb⟩
 ·obtain ⟨ns,h1,h2,h3⟩:=g.nm hL S.here S.here t (Nat.le_refl _) ht hb;have:=(List.getElem?_eq_some_iff.mp ht).1;exact ⟨ns,[],S.here,a,t,ha,ht,.inl ⟨bI,rfl,rfl⟩,⟨_,h1⟩,by omega,h3⟩
 ·obtain ⟨ns,h1,h2,h3⟩:=g.nm hL f f tf (Nat.le_refl _) bq hb;have:=(List.getElem?_eq_some_iff.mp bq).1;exact ⟨ns,[nm],f,a,t,ha,ht,.inr ⟨yh bI,nm,hp,rfl,h8⟩,⟨_,h1⟩,by omega,h3⟩
def Ii (M:Hs) (z:Str) (e:End):Prop:=∀ k ns,e.res=.inl (k,ns)→∃ t,M.ts[k]?=some t∧(t.kd=("folder" : Str)→∀ r:Nat,aJ (sD M.ro) (.inr z)=some (.int (r:Int))→cg M r k)
theorem DP (g:Gd M) (hL:L.length=M.ts.length) (hn:M.ts.length≤90) (hz:z∈AS) {fr:Bool} {ps:List Str} (da:∀ p∈ps,ka p) (hl:ps.length≤500) :
  ∃ e,nz M L z fr ps e∧Ii M z e∧∀ qs,ps=qs++[("." : Str)]→∀ k ns,e.res=.inl (k,ns)→∃ t,M.ts[k]?=some t∧t.kd=("folder" : Str):=by
 obtain ⟨r,k0,ga⟩:=g.as z hz;obtain ⟨st,t,aQ,ht,bI,hb⟩:∃ (st:Nat) (t:Th),(fr=true∧st=r∨fr=false∧aJ (sD M.st) (.inr z)=some (.int (st:Int)))∧M.ts[st]?=some t∧t.kd=("folder" : Str)∧cg M r st:=by
  cases fr with
  | true=>obtain ⟨t,h1,h2⟩:=ga.tr; exact ⟨r,t,.inl ⟨rfl,rfl⟩,h1,h2,.refl⟩
  | false=>obtain ⟨t,h1,h2⟩:=ga.tk; exact ⟨k0,t,.inr ⟨rfl,ga.st⟩,h1,h2,ga.b⟩
 obtain ⟨a,ha⟩:=adr hL ht;obtain ⟨S',o,hr,hv⟩:=GP (z:=z) g hL (ps:=ps) (S:=⟨st,none,0,[],gi ps,[],0,0⟩) ⟨t,ht,.inl ⟨bI,hb⟩⟩ da;have kZ:∃ m,iN M L r m (cP st []) true:=⟨st,g.seen hL st st t (Nat.le_refl _) ht hb⟩;cases o with
 | some y=>exact ⟨⟨S'.asked,.inr (S'.step,y)⟩,⟨⟨r,st,st,[],a,t,S',some y,ga.ro,aQ,ha,ht,g.cM st,kZ,hr,rfl,fun y' e=>by cases e; rfl,nofun⟩,hl⟩,(fun k ns e=>by cases e),fun qs _ k ns e=>by cases e⟩
 | none =>
  obtain ⟨ns,bE,cU⟩:=U2 g hL hn (hv rfl);refine ⟨⟨S'.asked,.inl (S'.here,ns++bE)⟩,⟨⟨r,st,st,[],a,t,S',none,ga.ro,aQ,ha,ht,g.cM st,kZ,hr,rfl,nofun,fun _=>⟨ns,bE,cU,rfl⟩⟩,hl⟩,fun k ns' e=>?_,fun qs hq k ns' e=>?_⟩
  ·cases e;obtain ⟨t',h,hh⟩:=hv rfl;refine ⟨t',h,fun hf r' hr'=>?_⟩;rw [ga.ro] at hr';obtain rfl:r=r':=by injection hr' with hr'; injection hr' with hr'; omega
   rcases hh with hh | hh
   ·exact hh.2
   ·exact absurd hf (yh hh.1)
  ·cases e;rw [hq] at hr;exact Er hr
theorem vZ {W:List (List Nat)} (h:W.all bZ=true):∀ p∈W.map Tx.S,ka p:=fun p hp=>by
 obtain ⟨x,hx,rfl⟩:=List.mem_map.mp hp;exact NM (List.all_eq_true.mp h x hx)
theorem ox (g:Gd M) (hL:L.length=M.ts.length) (hn:M.ts.length≤90) (hz:z∈AS) {t:List Nat} (p:fF t) (hl:(Tx.words 47 t).length≤400):∃ e,dN M L z t e∧Ii M z e:=by
 have hw:=@Gf (Tx.words 47 t) t;obtain ⟨e,h1,h2,_⟩:=DP g hL hn hz (fr:=dO t) (vZ (uF (t:=t) p.all)) (by rw [List.length_map]; omega);exact ⟨e,⟨p.l1,p.l2,p.all,h1⟩,h2⟩
theorem PL {ps:List (List Nat)} (h:ps.all bZ=true):∃ r,iA ps r:=by
 rcases List.eq_nil_or_concat ps with e | ⟨q,nm,e⟩
 ·exact ⟨none,.nil e⟩
 ·rw [List.concat_eq_append] at e;cases hn:isNm nm with
  | true=>exact ⟨_,.HR e hn⟩
  | false=>exact ⟨none,.rk e hn (o9 (List.all_eq_true.mp h nm (by rw [e]; simp))).2.2⟩
theorem R1 (g:Gd M) (hL:L.length=M.ts.length) (hn:M.ts.length≤90) (hz:z∈AS) {t:List Nat} (p:fF t) (hl:(Tx.words 47 t).length≤300) :
  ∃ r,mf M L z t r∧∀ f nm,r=.inr (f,nm)→∃ tf,M.ts[f]?=some tf∧tf.kd=("folder" : Str)∧isNm nm=true∧aJ (sD tf.aZ) (.inr (Tx.S nm))=none:=by
 have hw:=@Gf (Tx.words 47 t) t;obtain ⟨r,hr⟩:=PL (uF (t:=t) p.all);cases r with
 | none=>exact ⟨_,.no (.rk hr),fun f nm e=>by cases e⟩
 | some qn =>
  obtain ⟨q,nm⟩:=qn;have he:told (Tx.words 47 t) t=q++[nm]:=by cases hr; assumption
  have bK:isNm nm=true:=by cases hr; assumption
  have jN:=uF (t:=t) p.all;rw [he,List.all_append,Bool.and_eq_true] at jN;have hq:q.length≤400:=by rw [he,List.length_append] at hw; omega
  obtain ⟨e,h1,h2,h3⟩:=DP g hL hn hz (fr:=dO t) (ps:=q.map Tx.S++[("." : Str)]) (fun x hx=>by
   rcases List.mem_append.mp hx with hx | hx
   ·exact vZ jN.1 x hx
   ·exact .inl (List.mem_singleton.mp hx)) (by simp; omega)
  cases fj:e.res with
  | inr ky=>exact ⟨_,.no (.way hr hq h1 (k:=ky.1) (y:=ky.2) (by rw [fj])),fun f nm e=>by cases e⟩
  | inl fn =>
   obtain ⟨f,ns⟩:=fn;have hs:jn M L z t (.inr (f,nm)):=.G1 hr hq h1 fj;obtain ⟨tf,bq,dH⟩:=h3 _ rfl f ns fj;obtain ⟨a,ha⟩:=adr hL bq;cases hm:cZ ("w" : Str) (cK tf z) with
   | false=>exact ⟨_,.kept hs bq hm,fun f nm e=>by cases e⟩
   | true =>
    cases hv:aJ (sD tf.aZ) (.inr (Tx.S nm)) with
    | some v =>
     obtain ⟨c,rfl⟩:=Ga hv;exact ⟨_,.there hs bK ha bq hm hv,fun f nm e=>by cases e⟩
    | none=>exact ⟨_,.free hs bK ha bq hm hv,fun f' nm' e=>by cases e; exact ⟨tf,bq,dH,bK,hv⟩⟩
theorem M4 (g:Gd M) (hL:L.length=M.ts.length) (hn:M.ts.length≤90) (hz:z∈AS) {t:List Nat} (p:fF t) (hl:(Tx.words 47 t).length≤300) :
  ∃ r,nj M L z t r∧∀ k,r=.inr k→∃ tf,M.ts[k]?=some tf∧tf.kd=("folder" : Str)∧∀ r:Nat,aJ (sD M.ro) (.inr z)=some (.int (r:Int))→cg M r k:=by
 obtain ⟨e,h1,h2⟩:=ox g hL hn hz p (by omega);cases fj:e.res with
 | inr ky=>exact ⟨_,.way h1 (k:=ky.1) (y:=ky.2) (by rw [fj]),fun f e=>by cases e⟩
 | inl fn =>
  obtain ⟨f,ns⟩:=fn;obtain ⟨tf,bq,hb⟩:=h2 f ns fj;obtain ⟨a,ha⟩:=adr hL bq;by_cases hk:tf.kd=("folder" : Str)
  ·exact ⟨_,.ok h1 fj ha bq hk,fun k e=>by cases e; exact ⟨tf,bq,hk,hb hk⟩⟩
  ·exact ⟨_,.file h1 fj ha bq hk,fun f e=>by cases e⟩
theorem T5 (g:Gd M) (hL:L.length=M.ts.length) (hn:M.ts.length≤90) (hz:z∈AS) {t:List Nat} (p:fF t) (hl:(Tx.words 47 t).length≤300):∃ x,qc M L z t x:=by
 obtain ⟨e,h1,h2⟩:=ox g hL hn hz p (by omega);cases fj:e.res with
 | inr ky=>exact ⟨_,.way h1 (k:=ky.1) (y:=ky.2) (by rw [fj])⟩
 | inl fn =>
  obtain ⟨f,ns⟩:=fn;obtain ⟨tf,bq,_⟩:=h2 f ns fj;obtain ⟨a,ha⟩:=adr hL bq;by_cases hk:tf.ow=z
  ·exact ⟨_,.ok h1 fj ha bq hk⟩
  ·exact ⟨_,.CY h1 fj ha bq hk⟩
theorem Gd.lift {M':Hs} (g:Gd M) (h1:M'.ro=M.ro) (h2:M'.st=M.st) (h3:M'.tr=M.tr) (h4:M'.ov=M.ov) (h5:M'.un=M.un) (old:∀ (k:Nat) (t:Th),M.ts[k]?=some t→∃ t':Th,M'.ts[k]?=some t'∧t'.kd=t.kd∧t'.bU=t.bU) (th:∀ k t,M'.ts[k]?=some t→qS M' k t):Gd M':=by
 have bl:∀ {r k},cg M r k→cg M' r k:=fun {r k} b=>by
  induction b with
  | refl=>exact .refl
  | up a1 a2 _ ih =>
   obtain ⟨t',e1,_,e3⟩:=old _ _ a1;exact .up e1 (e3.trans a2) ih
 refine ⟨h3.trans g.tr,h4.trans g.ov,h5.trans g.un,fun z hz=>?_,by rw [h1]; exact g.rl,by rw [h2]; exact g.sl,?_,th⟩
 ·obtain ⟨r,k,a⟩:=g.as z hz;refine ⟨r,k,by rw [h1]; exact a.ro,by rw [h2]; exact a.st,bl a.b,?_,?_⟩
  ·obtain ⟨t,e1,e2⟩:=a.tr;obtain ⟨t',e3,e4,_⟩:=old _ _ e1;exact ⟨t',e3,e4.trans e2⟩
  ·obtain ⟨t,e1,e2⟩:=a.tk;obtain ⟨t',e3,e4,_⟩:=old _ _ e1;exact ⟨t',e3,e4.trans e2⟩
 ·obtain ⟨t,e1,e2⟩:=g.t0;obtain ⟨t',e3,e4,_⟩:=old _ _ e1;exact ⟨t',e3,e4.trans e2⟩
theorem qS.lift {M':Hs} {k:Nat} {t t':Th} (h:qS M k t) (hl:M.ts.length≤M'.ts.length) (e1:t'.kd=t.kd) (e2:t'.bU=t.bU) (e3:t'.aZ=t.aZ) (old:∀ (k:Nat) (t:Th),M.ts[k]?=some t→∃ t':Th,M'.ts[k]?=some t'∧t'.kd=t.kd∧t'.bU=t.bU):qS M' k t':=by
 refine ⟨by rw [e3]; exact Nat.le_trans h.nl hl,by rw [e1]; exact h.kd,?_,fun z v hv=>?_⟩
 ·rcases h.pl with ⟨a,b⟩ | ⟨f,nm,tf,a1,a2,a3,a4,a5⟩
  ·exact .inl ⟨a,e2.trans b⟩
  ·obtain ⟨t2,b1,b2,_⟩:=old _ _ a4;exact .inr ⟨f,nm,t2,a1,e2.trans a2,a3,b1,b2.trans a5⟩
 ·rw [e3] at hv;obtain ⟨c,tc,a1,a2,a3⟩:=h.ch z v hv;obtain ⟨t2,b1,_,b3⟩:=old _ _ a2;exact ⟨c,t2,a1,b1,b3.trans a3⟩
theorem Gd.make (g:Gd M) {f:Nat} {tf:Th} {nm kd mi re tx:Str} (bq:M.ts[f]?=some tf) (dH:tf.kd=("folder" : Str)) (bK:nm.length≤8) (hvf:aJ (sD tf.aZ) (.inr nm)=none) (hk:kd=("folder" : Str)∨kd=("file" : Str)) :
  Gd { M with ts:=M.ts.set f { tf with aZ:=tf.aZ++[(nm,M.ts.length)] }++[⟨kd,z,mi,re,tx,[],[(f,nm)]⟩] }:=by
 have hf:=(List.getElem?_eq_some_iff.mp bq).1;have hlen:(M.ts.set f { tf with aZ:=tf.aZ++[(nm,M.ts.length)] }).length=M.ts.length:=List.length_set;have old:∀ (k:Nat) (t:Th),M.ts[k]?=some t→∃ t':Th,(M.ts.set f { tf with aZ:=tf.aZ++[(nm,M.ts.length)] }++[(⟨kd,z,mi,re,tx,[],[(f,nm)]⟩:Th)])[k]?=some t'∧t'.kd=t.kd∧t'.bU=t.bU:=fun k t ht=>by
  have hk:=(List.getElem?_eq_some_iff.mp ht).1;rw [List.getElem?_append_left (by rw [hlen]; exact hk)];by_cases e:k=f
  ·subst e;rw [List.getElem?_set_self hk];rw [bq] at ht; cases ht;exact ⟨_,rfl,rfl,rfl⟩
  ·rw [List.getElem?_set_ne (Ne.symm e)];exact ⟨t,ht,rfl,rfl⟩
 have new:(M.ts.set f { tf with aZ:=tf.aZ++[(nm,M.ts.length)] }++[(⟨kd,z,mi,re,tx,[],[(f,nm)]⟩:Th)])[M.ts.length]?=some ⟨kd,z,mi,re,tx,[],[(f,nm)]⟩:=by
  rw [List.getElem?_append_right (by rw [hlen]; exact Nat.le_refl _),hlen,Nat.sub_self]; rfl
 have ll:M.ts.length≤(M.ts.set f { tf with aZ:=tf.aZ++[(nm,M.ts.length)] }++[(⟨kd,z,mi,re,tx,[],[(f,nm)]⟩:Th)]).length:=by rw [List.length_append,hlen]; omega
 refine g.lift rfl rfl rfl rfl rfl old fun k t ht=>?_;have ht':(M.ts.set f { tf with aZ:=tf.aZ++[(nm,M.ts.length)] }++[(⟨kd,z,mi,re,tx,[],[(f,nm)]⟩:Th)])[k]?=some t:=ht;by_cases hk':k < M.ts.length
 ·rw [List.getElem?_append_left (by rw [hlen]; exact hk')] at ht';by_cases e:k=f
  ·subst e;rw [List.getElem?_set_self hk'] at ht';cases ht';have h0:=g.th k tf bq;have h:=h0.lift (M':={ M with ts:=M.ts.set k { tf with aZ:=tf.aZ++[(nm,M.ts.length)] }++[⟨kd,z,mi,re,tx,[],[(k,nm)]⟩] }) (t':=tf) ll rfl rfl rfl old;refine ⟨by show (tf.aZ++[(nm,M.ts.length)]).length≤_; rw [List.length_append,List.length_append,hlen]; have:=h0.nl; simp; omega,h.kd,h.pl,fun y v hv=>?_⟩;have e:sD (tf.aZ++[(nm,M.ts.length)])=sD tf.aZ++[(.inr nm,.int ((M.ts.length:Nat):Int))]:=by unfold sD; rw [List.map_append]; rfl
   have hv':aJ (sD (tf.aZ++[(nm,M.ts.length)])) (.inr y)=some v:=hv;rw [e,zM _ _ _ _ hvf] at hv';split at hv'
   ·rename_i he;cases hv';injection he with he;exact ⟨M.ts.length,_,rfl,new,by rw [he]⟩
   ·exact h.ch y v hv'
  ·rw [List.getElem?_set_ne (Ne.symm e)] at ht';exact (g.th k t ht').lift ll rfl rfl rfl old
 ·have hk2:k < M.ts.length+1:=by
   have:=(List.getElem?_eq_some_iff.mp ht').1;rw [List.length_append,hlen] at this; exact this
  have:k=M.ts.length:=by omega
  subst this;rw [new] at ht';cases ht';obtain ⟨t',e1,e2,_⟩:=old _ _ bq;exact ⟨by show 0≤_; exact Nat.zero_le _,hk,.inr ⟨f,nm,t',hf,rfl,bK,e1,e2.trans dH⟩,fun y v hv=>by cases hv⟩
theorem Gd.NX (g:Gd M) {k:Nat} {t:Th} {mi re:Str} (ht:M.ts[k]?=some t):Gd { M with ts:=M.ts.set k { t with mi:=mi,re:=re } }:=by
 have old:∀ (j:Nat) (u:Th),M.ts[j]?=some u→∃ u':Th,(M.ts.set k { t with mi:=mi,re:=re })[j]?=some u'∧u'.kd=u.kd∧u'.bU=u.bU:=fun j u hu=>by
  have hj:=(List.getElem?_eq_some_iff.mp hu).1;by_cases e:j=k
  ·subst e;rw [List.getElem?_set_self hj];rw [ht] at hu; cases hu;exact ⟨_,rfl,rfl,rfl⟩
  ·rw [List.getElem?_set_ne (Ne.symm e)];exact ⟨u,hu,rfl,rfl⟩
 refine g.lift rfl rfl rfl rfl rfl old fun j u hu=>?_;have hu':(M.ts.set k { t with mi:=mi,re:=re })[j]?=some u:=hu;have ll:M.ts.length≤(M.ts.set k { t with mi:=mi,re:=re }).length:=by rw [List.length_set]; exact Nat.le_refl _
 by_cases e:j=k
 ·subst e;rw [List.getElem?_set_self (List.getElem?_eq_some_iff.mp ht).1] at hu';cases hu';exact (g.th j t ht).lift ll rfl rfl rfl old
 ·rw [List.getElem?_set_ne (Ne.symm e)] at hu';exact (g.th j u hu').lift ll rfl rfl rfl old
theorem og {l:List (Str×Nat)} {y:Str} {k:Nat}:aJ (sD (cH l z k)) (.inr y)=if y=z then some (.int (k:Int)) else aJ (sD l) (.inr y):=by
 rw [← z7,VG];by_cases e:y=z
 ·rw [if_pos e,if_pos (by rw [e])]
 ·rw [if_neg e,if_neg (fun h=>e (Sum.inr.inj h))]
theorem w6 {l:List (Str×Nat)} {k:Nat} {v:V} (h:aJ (sD l) (.inr z)=some v):(cH l z k).length=l.length:=by
 unfold cH;rw [if_pos (by rw [h]; rfl),List.length_map]
theorem Gd.KQ (g:Gd M) {k:Nat} {t:Th} (ht:M.ts[k]?=some t) (hk:t.kd=("folder" : Str)) (hz:z∈AS) (hb:∀ r:Nat,aJ (sD M.ro) (.inr z)=some (.int (r:Int))→cg M r k):Gd { M with st:=cH M.st z k }:=by
 have bl:∀ {r j},cg M r j→cg { M with st:=cH M.st z k } r j:=fun {r j} b=>by
  induction b with
  | refl=>exact .refl
  | up a1 a2 _ ih=>exact .up a1 a2 ih
 refine ⟨g.tr,g.ov,g.un,fun y hy=>?_,g.rl,?_,g.t0,fun k t ht=>⟨(g.th k t ht).nl,(g.th k t ht).kd,(g.th k t ht).pl,(g.th k t ht).ch⟩⟩
 ·obtain ⟨r,j,a⟩:=g.as y hy;by_cases e:y=z
  ·subst e;exact ⟨r,k,a.ro,by show aJ (sD (cH M.st y k)) (.inr y)=_; rw [og,if_pos rfl],bl (hb r a.ro),a.tr,t,ht,hk⟩
  ·exact ⟨r,j,a.ro,by show aJ (sD (cH M.st z k)) (.inr y)=_; rw [og,if_neg e]; exact a.st,bl a.b,a.tr,a.tk⟩
 ·obtain ⟨r,j,a⟩:=g.as z hz;show (cH M.st z k).length≤3;rw [w6 a.st];exact g.sl
theorem Gd.root (g:Gd M) {k:Nat} {t:Th} (ht:M.ts[k]?=some t) (hk:t.kd=("folder" : Str)) (hz:z∈AS):Gd { M with ro:=cH M.ro z k,st:=cH M.st z k }:=by
 have bl:∀ {r j},cg M r j→cg { M with ro:=cH M.ro z k,st:=cH M.st z k } r j:=fun {r j} b=>by
  induction b with
  | refl=>exact .refl
  | up a1 a2 _ ih=>exact .up a1 a2 ih
 refine ⟨g.tr,g.ov,g.un,fun y hy=>?_,?_,?_,g.t0,fun k t ht=>⟨(g.th k t ht).nl,(g.th k t ht).kd,(g.th k t ht).pl,(g.th k t ht).ch⟩⟩
 ·obtain ⟨r,j,a⟩:=g.as y hy;by_cases e:y=z
  ·subst e;exact ⟨k,k,by show aJ (sD (cH M.ro y k)) (.inr y)=_; rw [og,if_pos rfl],by show aJ (sD (cH M.st y k)) (.inr y)=_; rw [og,if_pos rfl],.refl,⟨t,ht,hk⟩,t,ht,hk⟩
  ·exact ⟨r,j,by show aJ (sD (cH M.ro z k)) (.inr y)=_; rw [og,if_neg e]; exact a.ro,by show aJ (sD (cH M.st z k)) (.inr y)=_; rw [og,if_neg e]; exact a.st,bl a.b,a.tr,a.tk⟩
 ·obtain ⟨r,j,a⟩:=g.as z hz;show (cH M.ro z k).length≤3;rw [w6 a.ro];exact g.rl
 ·obtain ⟨r,j,a⟩:=g.as z hz;show (cH M.st z k).length≤3;rw [w6 a.st];exact g.sl
end
theorem fS (T:Tx K mg):aA P w K mg base aO 1 T.bJ.f T.bJ.d ["_law_state", "_law_base"] rQ:=by
 refine T.bJ.F.ok uw (fun vs H Q E h=>?_) (fun az A outer s H vs Q E hr h=>?_)
 ·unfold rQ at h;split at h
  ·rfl
  ·exact h.elim
 ·unfold rQ at h;split at h
  ·rename_i st b;obtain ⟨zs,hz,hl,mH,vN,q⟩:=h;refine ⟨_,((Dv.cut (Dv.aX (Dv.aY cq (Dv.cA (kI (K:=K) rfl) T.jG PySem.boot_len (Dv.aa (Dv.v 0) Dv.ag)) Dv.int) (Dv.aj (Dv.aW (Dv.ir PySem.F.slot_list_extend PySem.F.type_list_extend NH (Dv.v 0) (Dv.aa (Dv.lst (Dv.aa (Dv.op kx (Dv.ix (br (K:=K) rfl) (Dv.v 0) Dv.int) Dv.int) (Dv.aa Dv.int Dv.ag))) Dv.ag)))) Dv.nil)
   (Dv.cut (Dv.aX (Dv.aY tR (Dv.ix (br (K:=K) rfl) (Dv.v 0) Dv.int) Dv.int) (Dv.cut (Dv.aS 2 uw.nd (Dv.op kx (Dv.ix (br (K:=K) rfl) (Dv.v 0) Dv.int) (Dv.v 1)))
   (Dv.cut (Dv.pS (Dv.op xp (Dv.ix (br (K:=K) rfl) (Dv.v 0) Dv.int) (Dv.v 1)) (Dv.E4 (Dv.v 0) Dv.int CZ))
   (Dv.aj (Dv.aP (Dv.v 2))))) Dv.nil)
   (Dv.cut (Dv.pS (Dv.op ee (Dv.ix (br (K:=K) rfl) (Dv.v 0) Dv.int) Dv.int) (Dv.E4 (Dv.v 0) Dv.int CZ))
   (Dv.cut (Dv.aS 3 uw.nd (Dv.op kx (Dv.op uG (Dv.op ee (Dv.op ee (Dv.ix (br (K:=K) rfl) (Dv.v 0) Dv.int) (Dv.op uG Dv.int (Dv.ix (br (K:=K) rfl) (Dv.v 0) Dv.int))) Dv.int) Dv.int) Dv.int))
   (Dv.cut (Dv.aS 3 uw.nd (Dv.op kx (Dv.op uG (Dv.v 3) (Dv.op ee (Dv.op xp (Dv.v 3) Dv.int) Dv.int)) Dv.int))
   (Dv.aj (Dv.aP (Dv.op kx (Dv.op kx (Dv.op uG (Dv.v 3) (Dv.op ee (Dv.op xp (Dv.v 3) Dv.int) Dv.int)) Dv.int) (Dv.v 1)))))))))).h,?_⟩
   refine stI [some (.ref st),some (.int b),none,none] ?_;refine eE (fun σ' H'=>σ'=[some (.ref st),some (.int b),none,none]∧∃ x y z,H' st=some (.lst [.int x,.int y,.int z])∧ck st H H') ?_ ?_
   ·have hc:(∃ a,zs=[a])∨∃ a b c,zs=[a,b,c]:=by
     rcases hl with hl | hl
     ·match zs,hl with
      | [a],_=>exact .inl ⟨a,rfl⟩
     ·match zs,hl with
      | [a,b,c],_=>exact .inr ⟨a,b,c,rfl⟩
    walk_at "rd";rcases hc with ⟨a,rfl⟩ | ⟨a,b',c,rfl⟩
    ·simp only [List.map] at hz;simp only [bG,hz,c7];refine bM ⟨by decide,fits (by simp),fun p hp=>?_⟩;simp only [EO hz hp,ay];refine ⟨fits (by simp),by trivial,_,_,_,rfl,?_⟩;exact (ai.upd hp).keep st |>.trans ck.upd
    ·simp only [List.map] at hz;simp only [bG,hz,c7];exact bf ⟨by trivial,_,_,_,rfl,fun c o _ e=>e⟩
   ·rintro σ' H1 ⟨rfl,x,y,z,h1,k1⟩;refine ao ?_;walk_at "rd";simp only [bG,h1,c7];refine i8 (fun _=>?_) (fun _=>?_)
    ·refine ao ?_;walk_at "rd";simp only [bG,h1,c7];refine ⟨mH,ao ?_⟩;walk_at "rd";simp only [bG,h1,c7,List.length_cons,Sg,List.set_cons_zero];refine ⟨⟨mH,vN⟩,?_⟩;exact q _ [_,_,_] _ (Int.emod_nonneg _ (by omega)) (Int.emod_lt_of_pos _ mH) rfl ay (k1.trans ck.upd)
    ·refine ao ?_;walk_at "rd";simp only [bG,h1,Dg,List.length_cons,List.length_nil,Vf,List.set_cons_zero,List.set_cons_succ];refine ao ?_;walk_at "rd";simp only [bG,ay,wC,Dg];refine ⟨.inl ⟨by decide,by decide⟩,.inr ⟨by decide,by decide⟩,by decide,ao ?_⟩;walk_at "rd";generalize hm:(y+7919 * (z+1)+1) * 48271 % 2147483647=m;have m0:0≤m:=by rw [← hm]; exact Int.emod_nonneg _ (by decide)
     have m1:m < 2147483647:=by rw [← hm]; exact Int.emod_lt_of_pos _ (by decide)
     refine ⟨⟨by decide,by decide⟩,.inl ⟨by omega,by omega⟩,by decide,?_⟩;generalize hn:m * (m / 1009+69621) % 2147483647=n;have n0:0≤n:=by rw [← hn]; exact Int.emod_nonneg _ (by decide)
     have n1:n < 2147483647:=by rw [← hn]; exact Int.emod_lt_of_pos _ (by decide)
     refine ⟨⟨by decide,by decide⟩,.inl ⟨by omega,by omega⟩,by decide,mH,?_⟩;exact q _ [_,_,_] _ (Int.emod_nonneg _ (by omega)) (Int.emod_lt_of_pos _ mH) rfl ay (k1.trans ck.upd)
  ·exact h.elim
def Dr (st:Addr) (H:Hp):Prop:=∃ zs:List Int,H st=some (.lst (zs.map V.int))∧(zs.length=1∨zs.length=3)
theorem Dr.same {st:Addr} {H H':Hp} (h:Dr st H) (s:ai H H'):Dr st H':=let ⟨zs,e,l⟩:=h; ⟨zs,s _ _ e,l⟩
theorem Dr.ne {st p:Addr} {H:Hp} (h:Dr st H) (hp:H p=none):p≠st:=let ⟨zs,e,l⟩:=h; fun z=>by rw [z,e] at hp; cases hp
theorem nt {st:Addr} {b:Int} {H:Hp} {Q:VK} {E:XK} (h:Dr st H) (mH:0 < b) (vN:b≤1000) (q:∀ d H',0≤d→d < b→Dr st H'→ck st H H'→Q (.int d) H'):rQ [.ref st,.int b] H Q E:=by
 obtain ⟨zs,e,l⟩:=h;exact ⟨zs,e,l,mH,by omega,fun d zs' H' d0 d1 l' e' k=>q d H' d0 d1 ⟨zs',e',.inr l'⟩ k⟩
theorem pick {xs:List V} {d:Int} (h0:0≤d) (h1:d < xs.length):∃ v∈xs,cx xs d=some v:=by
 obtain ⟨n,rfl⟩:=Int.eq_ofNat_of_zero_le h0;have hn:n < xs.length:=by omega
 exact ⟨xs[n],List.getElem_mem hn,gJ (List.getElem?_eq_getElem hn)⟩
theorem j4 {H:Hp} {st:Addr} {xs:List V} {Q:VK} {E:XK} {b:Int} (h:Dr st H) (hb:b=xs.length) (hn:xs.length≤1000) (h0:0 < xs.length) (q:∀ v H',v∈xs→Dr st H'→ck st H H'→Q v H') :
  xs.length≤sizeLine∧∀ p,H p=none→rQ [.ref st,.int b] (upd H p (.lst xs)) (fun y H2=>me K (.ref p) y H2 Q) E:=by
 refine ⟨fits hn,fun p hp=>?_⟩;have s1:=ai.upd (o:=.lst xs) hp;have b1:upd H p (.lst xs) p=some (.lst xs):=ay;have np:=h.ne hp;generalize upd H p (.lst xs)=H1 at s1 b1 ⊢;refine nt (h.same s1) (by omega) (by omega) fun d H2 d0 d1 h2 k2=>?_;obtain ⟨v,hv,e⟩:=pick (xs:=xs) d0 (by omega);simp only [me,bG,k2 _ _ np b1,e];exact q v H2 hv h2 ((s1.keep st).trans k2)
def Kz:Sp:=ik fun st H Q _=>Dr st H∧∀ nm H',isNm nm=true→Dr st H'→ck st H H'→Q (.str (Tx.S nm)) H'
theorem Mn (T:Tx K mg):aA P w K mg base aO 2 T.nK.f T.nK.d ["_law_state"] Kz:=by
 refine T.nK.F.ok Qv (fun vs H Q E h=>?_) (fun az A outer s H vs Q E hr h=>?_)
 ·exact ed h fun _ _=>rfl
 ·refine ed h fun st h=>?_;obtain ⟨aQ,q⟩:=h;refine bA (b:=aU zE) ((Dv.aj (Dv.aP (Dv.ix (br (K:=K) rfl) (Dv.lst (Dv.aa Dv.str (Dv.aa Dv.str (Dv.aa Dv.str (Dv.aa Dv.str (Dv.aa Dv.str (Dv.aa Dv.str Dv.ag))))))) (Dv.call (fS T) (hr.mono (by decide)) T.bJ.m T.bJ.F.kp T.bJ.b .nil aw (Dv.aa (Dv.v 0) (Dv.aa Dv.int Dv.ag))))))) ?_;refine stI [some (V.ref st)] ?_;walk_at "w";refine j4 aQ rfl (by simp) (by simp) fun v H1 hv h1 k1=>?_;obtain ⟨nm,hn,rfl⟩:∃ nm,isNm nm=true∧v=V.str (Tx.S nm):=by
   simp only [List.mem_cons,List.not_mem_nil,or_false] at hv;rcases hv with rfl | rfl | rfl | rfl | rfl | rfl
   ·exact ⟨[97],by decide +kernel,by decide +kernel⟩
   ·exact ⟨[98],by decide +kernel,by decide +kernel⟩
   ·exact ⟨[97,98],by decide +kernel,by decide +kernel⟩
   ·exact ⟨[98,97],by decide +kernel,by decide +kernel⟩
   ·exact ⟨[99],by decide +kernel,by decide +kernel⟩
   ·exact ⟨[108,101,97,100],by decide +kernel,by decide +kernel⟩
  exact q nm H1 hn h1 k1
def Sb:Sp:=ik fun st H Q _=>Dr st H∧∀ z H',z∈gF→Dr st H'→ck st H H'→Q (.str z) H'
theorem oX (T:Tx K mg):aA P w K mg base aO 2 T.dk.f T.dk.d ["_law_state"] Sb:=by
 refine T.dk.F.ok Ou (fun vs H Q E h=>?_) (fun az A outer s H vs Q E hr h=>?_)
 ·exact ed h fun _ _=>rfl
 ·refine ed h fun st h=>?_;obtain ⟨aQ,q⟩:=h;refine bA (b:=aU xS) ((Dv.aj (Dv.aP (Dv.ix (br (K:=K) rfl) (Dv.lst (Dv.aa Dv.str (Dv.aa Dv.str (Dv.aa Dv.str (Dv.aa Dv.str (Dv.aa Dv.str (Dv.aa Dv.str (Dv.aa Dv.str (Dv.aa Dv.str Dv.ag))))))))) (Dv.call (fS T) (hr.mono (by decide)) T.bJ.m T.bJ.F.kp T.bJ.b .nil aw (Dv.aa (Dv.v 0) (Dv.aa Dv.int Dv.ag))))))) ?_;refine stI [some (V.ref st)] ?_;walk_at "w";refine j4 aQ rfl (by simp) (by simp) fun v H1 hv h1 k1=>?_;obtain ⟨z,hn,rfl⟩:∃ z,z∈gF∧v=V.str z:=by
   simp only [List.mem_cons,List.not_mem_nil,or_false] at hv;rcases hv with rfl | rfl | rfl | rfl | rfl | rfl | rfl | rfl
   all_goals exact ⟨_,by decide +kernel,rfl⟩
  exact q z H1 hn h1 k1
def joinR (n:Nat):List (List Nat)→List Nat
 | []=>[]
 | [x]=>x
 | x::y::r=>x++List.replicate n 47++joinR n (y::r)
theorem Ds (n:Nat):∀ ps:List (List Nat),Str.join (Tx.S (List.replicate n 47)) (ps.map Tx.S)=Tx.S (joinR n ps)
 | []=>rfl
 | [x]=>rfl
 | x::y::r=>by
  have ih:=Ds n (y::r);show Tx.S x++Tx.S (List.replicate n 47)++Str.join (Tx.S (List.replicate n 47)) ((y::r).map Tx.S)=Tx.S (x++List.replicate n 47++joinR n (y::r));rw [ih,Tx.nW,Tx.nW]
theorem xt (n:Nat):∀ ps:List (List Nat),(∀ w∈ps,47 ∉ w∧w≠[])→Tx.words 47 (joinR (n+1) ps)=ps
 | [],_=>rfl
 | [x],h=>Tx.Dk 47 x (h x (by simp)).1 (h x (by simp)).2
 | x::y::r,h=>by
  have ih:=xt n (y::r) (fun w hw=>h w (List.mem_cons_of_mem _ hw));show Tx.words 47 (x++List.replicate (n+1) 47++joinR (n+1) (y::r))=_;rw [List.replicate_succ,List.append_assoc,List.cons_append,Tx.yp,Tx.HF,ih,Tx.Dk 47 x (h x (by simp)).1 (h x (by simp)).2];rfl
theorem Gs (n k:Nat):∀ ps:List (List Nat),(∀ w∈ps,w.length≤k)→(joinR n ps).length≤ps.length * (k+n)
 | [],_=>Nat.zero_le _
 | [x],h=>by
  have:=h x (by simp);show x.length≤1 * (k+n);omega
 | x::y::r,h=>by
  have ih:=Gs n k (y::r) (fun w hw=>h w (List.mem_cons_of_mem _ hw));have:=h x (by simp);show (x++List.replicate n 47++joinR n (y::r)).length≤((y::r).length+1) * (k+n);rw [List.length_append,List.length_append,List.length_replicate,Nat.add_mul,Nat.one_mul];omega
structure tX (t:List Nat):Prop where
 l1:1≤t.length
 l2:t.length≤80
 all:(Tx.words 47 t).all bZ=true
 n:(Tx.words 47 t).length≤6
def NF:Sp:=jd fun st n H Q _=>Dr st H∧0≤n∧n≤6∧∀ t H',tX t→Dr st H'→ck st H H'→Q (.str (Tx.S t)) H'
structure Qe (st l:Addr) (n:Int) (ps:List (List Nat)) (H:Hp) (σ:L2.St) (H':Hp):Prop where
 k:ck st H H'
 d:Dr st H'
 e:∃ (tx:List Nat) (t1 t2:Option V),σ=[some (V.ref st),some (V.int n),some (V.ref l),t1,t2,some (V.str (Tx.S tx))]∧Tx.words 47 tx=ps∧tx.length≤62
theorem DZ (T:Tx K mg):aA P w K mg base aO 3 T.jw.f T.jw.d ["_law_state", "_law_most"] NF:=by
 refine T.jw.F.ok nO (fun vs H Q E h=>?_) (fun az A outer s H vs Q E hr h=>?_)
 ·exact cD h fun _ _ _=>rfl
 ·refine cD h fun st n h=>?_;obtain ⟨aQ,hn0,Jf,q⟩:=h;refine bA (b:=aU yv) ((Dv.cut (Dv.aS 2 nO.nd (Dv.lst Dv.ag))
  (Dv.cut (Dv.ng PassesOwn.never rfl (Dv.LG T.NC (Dv.aa (Dv.call (fS T) (hr.mono (by decide)) T.bJ.m T.bJ.F.kp T.bJ.b .nil aw (Dv.aa (Dv.v 0) (Dv.aa (Dv.op ee (Dv.v 1) Dv.int) Dv.ag))) Dv.ag)) (Dv.dM 3 nO.nd) (Dv.cut (Dv.aS 4 nO.nd (Dv.call (Mn T) (hr.mono (by decide)) T.nK.m T.nK.F.kp T.nK.b .nil aw (Dv.aa (Dv.v 0) Dv.ag)))
  (Dv.aj (Dv.aW (Dv.ir PySem.F.slot_list_append PySem.F.type_list_append kM (Dv.v 2) (Dv.aa (Dv.ix (br (K:=K) rfl) (Dv.lst (Dv.aa (Dv.v 4) (Dv.aa (Dv.v 4) (Dv.aa (Dv.v 4) (Dv.aa (Dv.v 4) (Dv.aa (Dv.v 4) (Dv.aa Dv.str (Dv.aa Dv.str Dv.ag)))))))) (Dv.call (fS T) (hr.mono (by decide)) T.bJ.m T.bJ.F.kp T.bJ.b .nil aw (Dv.aa (Dv.v 0) (Dv.aa Dv.int Dv.ag)))) Dv.ag))))))
  (Dv.cut (Dv.aS 5 nO.nd (Dv.op ee (Dv.ix (br (K:=K) rfl) (Dv.lst (Dv.aa Dv.str (Dv.aa Dv.str Dv.ag))) (Dv.call (fS T) (hr.mono (by decide)) T.bJ.m T.bJ.F.kp T.bJ.b .nil aw (Dv.aa (Dv.v 0) (Dv.aa Dv.int Dv.ag)))) (Dv.lL PySem.F.slot_str_join PySem.F.type_str_join (zQ (K:=K) rfl) (Dv.ix (br (K:=K) rfl) (Dv.lst (Dv.aa Dv.str (Dv.aa Dv.str (Dv.aa Dv.str Dv.ag)))) (Dv.call (fS T) (hr.mono (by decide)) T.bJ.m T.bJ.F.kp T.bJ.b .nil aw (Dv.aa (Dv.v 0) (Dv.aa Dv.int Dv.ag)))) (Dv.aa (Dv.v 2) Dv.ag))))
  (Dv.cut (Dv.aX (Dv.dE (Dv.w_and (Dv.aY (uy hr.fV) (Dv.v 2) (Dv.lst Dv.ag)) (Dv.iD (Dv.aY cq (Dv.call (fS T) (hr.mono (by decide)) T.bJ.m T.bJ.F.kp T.bJ.b .nil aw (Dv.aa (Dv.v 0) (Dv.aa Dv.int Dv.ag))) Dv.int)))) (Dv.aj (Dv.aS 5 nO.nd (Dv.op ee (Dv.v 5) Dv.str))) Dv.nil)
  (Dv.aj (Dv.aP (Dv.ix (br (K:=K) rfl) (Dv.lst (Dv.aa (Dv.v 5) (Dv.aa Dv.str Dv.ag))) (Dv.nE uP T.qB qj (Dv.aa (Dv.cmp cq (Dv.v 5) Dv.str) Dv.ag)))))))))) ?_
  refine stI [some (V.ref st),some (V.int n),none,none,none,none] ?_;refine ao ?_;walk_at "w";refine ⟨fits (by simp),fun l hl=>?_⟩;have s1:=ai.upd (o:=.lst []) hl;have b1:upd H l (.lst []) l=some (.lst (PV [])):=ay;have nl:=aQ.ne hl;generalize upd H l (.lst [])=H1 at s1 b1 ⊢;refine eE (fun σ' H'=>ck st H H'∧Dr st H'∧∃ (ps:List (List Nat)) (t1 t2:Option V),σ'=[some (V.ref st),some (V.int n),some (V.ref l),t1,t2,none]∧ps.all bZ=true∧ps.length≤6∧H' l=some (.lst (PV ps))) ?_ ?_
  ·walk_at "w";refine nt (aQ.same s1) (by omega) (by omega) fun d H2 d0 d1 h2 k2=>?_;obtain ⟨m,rfl⟩:=Int.eq_ofNat_of_zero_le d0;refine ⟨⟨by omega,by omega⟩,?_⟩;refine R7 (fun i σ' H'=>ck st H H'∧Dr st H'∧∃ (ps:List (List Nat)) (t1 t2:Option V),σ'=[some (V.ref st),some (V.int n),some (V.ref l),t1,t2,none]∧ps.all bZ=true∧ps.length=i∧H' l=some (.lst (PV ps))) ⟨(s1.keep st).trans k2,h2,[],_,_,rfl,rfl,rfl,k2 _ _ nl b1⟩ ?_ ?_
   ·rintro i σ' H3 hi ⟨k3,h3,ps,t1,t2,rfl,da,bb,b3⟩;refine ao ?_;walk_at "w";refine ⟨h3,fun nm H4 bK h4 k4=>?_⟩;walk_at "w";have b4:=k4 _ _ nl b3;simp only [b4];refine j4 h4 rfl (by simp) (by simp) fun v H5 hv h5 k5=>?_;obtain ⟨wd,hwd,rfl⟩:∃ wd,bZ wd=true∧v=V.str (Tx.S wd):=by
     simp only [List.mem_cons,List.not_mem_nil,or_false] at hv;have hp:bZ nm=true:=by unfold bZ; rw [bK]; simp
     rcases hv with rfl | rfl | rfl | rfl | rfl | rfl | rfl
     ·exact ⟨nm,hp,rfl⟩
     ·exact ⟨nm,hp,rfl⟩
     ·exact ⟨nm,hp,rfl⟩
     ·exact ⟨nm,hp,rfl⟩
     ·exact ⟨nm,hp,rfl⟩
     ·exact ⟨[46],by decide +kernel,by decide +kernel⟩
     ·exact ⟨[46,46],by decide +kernel,by decide +kernel⟩
    have b5:=k5 _ _ nl b4;simp only [b5];have hil:i < m:=by simpa using hi
    refine ⟨gP (by simp [PV]; omega),fun c o hc e=>?_,?_,ps++[wd],_,_,rfl,by rw [List.all_append,da]; simp [hwd],by rw [List.length_append,bb]; rfl,by rw [ay]; simp [PV]⟩
    ·have ncl:c≠l:=fun z=>by rw [z,hl] at e; cases e
     rw [ah ncl];exact ((k3.trans k4).trans k5) c o hc e
    ·obtain ⟨zs,e,h⟩:=h5;exact ⟨zs,by rw [ah (Ne.symm nl)]; exact e,h⟩
   ·rintro σ' H3 ⟨k3,h3,ps,t1,t2,rfl,da,bb,b3⟩;exact ⟨k3,h3,ps,t1,t2,rfl,da,by rw [bb]; simp; omega,b3⟩
  ·rintro σ' H2 ⟨k2,d2,ps,t1,t2,rfl,da,bb,b2⟩;have pJ:Str.ofString "/" = Tx.S [47]:=by decide +kernel
   have e0:Str.ofString "" = Tx.S []:=by decide +kernel
   have hw:∀ w'∈ps,47 ∉ w'∧w'≠[]:=fun w' hw'=>let q:=o9 (List.all_eq_true.mp da w' hw'); ⟨q.1,q.2.1⟩
   have h8:∀ w'∈ps,w'.length≤8:=fun w' hw'=>(o9 (List.all_eq_true.mp da w' hw')).2.2;refine ao ?_;walk_at "w";refine j4 d2 rfl (by simp) (by simp) fun v H3 hv d3 k3=>?_;obtain ⟨pre,iT,rfl⟩:∃ pre:List Nat,(pre=[]∨pre=[47])∧v=V.str (Tx.S pre):=by
    simp only [List.mem_cons,List.not_mem_nil,or_false] at hv;rcases hv with rfl | rfl
    ·exact ⟨[],.inl rfl,by decide +kernel⟩
    ·exact ⟨[47],.inr rfl,by decide +kernel⟩
   have b3:=k3 _ _ nl b2;refine j4 d3 rfl (by simp) (by simp) fun v H4 hv d4 k4=>?_;obtain ⟨m,hm,rfl⟩:∃ m:Nat,m≤1∧v=V.str (Tx.S (List.replicate (m+1) 47)):=by
    simp only [List.mem_cons,List.not_mem_nil,or_false] at hv;rcases hv with rfl | rfl | rfl
    ·exact ⟨0,by decide,by decide +kernel⟩
    ·exact ⟨0,by decide,by decide +kernel⟩
    ·exact ⟨1,by decide,by decide +kernel⟩
   have b4:=k4 _ _ nl b3;have IX:=(k2.trans k3).trans k4;have AI:=Gs (m+1) 8 ps h8;have hjb:(joinR (m+1) ps).length≤60:=Nat.le_trans AI (by have:ps.length * (8+(m+1))≤6 * 10:=Nat.mul_le_mul bb (by omega); exact this);have vb:pre.length≤1:=by rcases iT with rfl | rfl <;> simp
   refine ⟨_,aL.of b4,ps.map Tx.S,rfl,?_,?_⟩
   ·have:=wu (Tx.S (List.replicate (m+1) 47)).length (ps.map Tx.S) 0 (fun s hs=>by
     obtain ⟨x,hx,rfl⟩:=List.mem_map.mp hs;rw [Tx.bY]; exact h8 x hx)
    refine fits (Nat.le_trans this ?_);rw [Tx.bY,List.length_replicate,List.length_map];have:(8+(m+1)) * ps.length≤10 * 6:=Nat.mul_le_mul (by omega) bb;omega
   rw [Ds];simp only [Tx.nW];have vd:Tx.words 47 (pre++joinR (m+1) ps)=ps:=by
    rcases iT with rfl | rfl
    ·exact xt m ps hw
    ·exact (Tx.zq 47 _).trans (xt m ps hw)
   refine ⟨fits (by rw [Tx.bY,Tx.bY]; omega),?_⟩;generalize Bd:pre++joinR (m+1) ps=tx at vd ⊢;have htl:tx.length≤61:=by rw [← Bd,List.length_append]; omega
   refine eE (Qe st l n ps H) ?_ ?_
   ·walk_at "w";refine ⟨fits (by simp),fun p hp=>?_⟩;have s5:=ai.upd (o:=.lst []) hp;have b5:upd H4 p (.lst []) p=some (.lst []):=ay;generalize upd H4 p (.lst [])=H5 at s5 b5 ⊢;refine ⟨ps.map Tx.S,[],s5 _ _ b4,b5,?_⟩;by_cases hps0:ps=[]
    ·refine bT (by rw [decide_eq_true (by rw [hps0]; rfl)]; rfl) (bf ⟨IX.trans (s5.keep st),d4.same s5,_,_,_,rfl,vd,by omega⟩)
    ·refine b8 (by rw [decide_eq_false (fun e=>hps0 (List.map_eq_nil_iff.mp e))]; rfl) ?_;refine nt (d4.same s5) (by decide) (by decide) fun d H6 _ _ d6 k6=>?_;have k6':=(IX.trans (s5.keep st)).trans k6;refine i8 (fun _=>?_) (fun _=>⟨k6',d6,_,_,_,rfl,vd,by omega⟩);rw [pJ,Tx.nW];exact ⟨fits (by rw [Tx.bY,Tx.bY]; show tx.length+1≤1000; omega),k6',d6,_,_,_,rfl,(Tx.yp 47 tx []).trans (by rw [vd]; exact List.append_nil _),by rw [List.length_append]; show tx.length+1≤62; omega⟩
   ·rintro σ' H5 ⟨k5,d5,tx,t1,t2,rfl,JT,pf⟩;walk_at "w";refine ⟨fits (by simp),fun p hp=>?_⟩;simp only [bG,ay];have k6:=k5.trans ((ai.upd (o:=.lst [V.str (Tx.S tx),V.str (Str.ofString ".")]) hp).keep st);have d6:=d5.same (ai.upd (o:=.lst [V.str (Tx.S tx),V.str (Str.ofString ".")]) hp);by_cases htx0:tx=[]
    ·rw [decide_eq_true (by rw [htx0,e0]),if_pos rfl];rw [show cx [V.str (Tx.S tx),V.str (Str.ofString ".")] 1=some (V.str (Str.ofString ".")) from gJ (j:=1) rfl,show Str.ofString "." = Tx.S [46] by decide +kernel];rw [show Str.ofString "." = Tx.S [46] by decide +kernel] at k6 d6;exact q [46] _ ⟨by decide,by decide,by decide +kernel,by decide⟩ d6 k6
    ·rw [decide_eq_false (fun e=>htx0 (Tx.qZ (e.trans e0))),if_neg (by nofun)];rw [show cx [V.str (Tx.S tx),V.str (Str.ofString ".")] 0=some (V.str (Tx.S tx)) from gJ (j:=0) rfl];exact q tx _ ⟨by have:tx.length≠0:=fun e=>htx0 (List.length_eq_zero_iff.mp e); omega,by omega,by rw [JT]; exact da,by rw [JT]; exact bb⟩ d6 k6
def OG (K:PySem.W.Frag):Sp:=jd fun a k H Q _=>(∃ ns:List Int,aL K H a (ns.map V.int))∧0≤k∧∀ c:Int,Q (.int c) H
theorem K3 (T:Tx K mg):aA P w K mg base aO 1 T.nS.f T.nS.d ["_law_script", "_law_k"] (OG K):=by
 refine T.nS.F.ok NS (fun vs H Q E h=>?_) (fun az A outer s H vs Q E hr h=>?_)
 ·exact cD h fun _ _ _=>rfl
 ·refine cD h fun a k h=>?_;obtain ⟨⟨ns,hS⟩,hk,q⟩:=h;obtain ⟨k,rfl⟩:=Int.eq_ofNat_of_zero_le hk;refine ⟨_,((Dv.cut (Dv.aX (Dv.aY C3 (Dv.v 1) (Dv.cA (Mf (K:=K) rfl) T.jG PySem.boot_len (Dv.aa (Dv.v 0) Dv.ag))) (Dv.aj (Dv.aP (Dv.ix (MH (K:=K) rfl) (Dv.v 0) (Dv.v 1)))) Dv.nil)
  (Dv.aj (Dv.aP Dv.int)))).h,?_⟩
  refine stI [some (.ref a),some (.int (k:Nat))] ?_;refine ao ?_;walk_at "w";refine ⟨_,hS,?_⟩;refine i8 (fun hd=>?_) (fun _=>q _);have hl:k < ns.length:=by have:=of_decide_eq_true hd; rw [List.length_map] at this; omega
  refine ⟨_,.int ns[k],hS,?_,q _⟩;refine gJ (j:=k) ?_;rw [List.getElem?_map,List.getElem?_eq_getElem hl]; rfl
def RN (CH CS CT:Addr):Sp:=jd fun x n H Q _=>∃ A L M,∃ k:Nat,aI CH CS CT H A L M∧A.a=x∧n=(k:Int)∧M.tr=[(("main" : Str),0)]∧M.un=[]∧∀ H',ai H H'→Q (.int (k:Int)) H'
theorem Ao {M:Hs} (h:M.tr=[(("main" : Str),0)]):y6 M=[("main" : Str)]:=by
 unfold y6;rw [h];exact Sa _
theorem oC (T:Tx K mg):aA P w K mg base aO 4 T.dz.f T.dz.d ["_law_house_here", "_law_folder"] (RN T.au T.aD T.aG):=by
 refine T.dz.F.ok B7 (fun vs H Q E h=>?_) (fun az A outer s H vs Q E hr h=>?_)
 ·exact cD h fun _ _ _=>rfl
 ·refine cD h fun x n h=>?_;obtain ⟨AA,L,M,k,i,rfl,rfl,cU,fN,q⟩:=h;obtain ⟨fs,c,hx,aV,sf⟩:=i.h;refine bA (b:=aU xo) ((Dv.cut (Dv.ng PassesOwn.never rfl (Dv.iH (K:=K) rfl (Dv.oV T.aM T.jh.h (wy T) (hr.mono (by decide)) T.jh.b .nil aw (Dv.v 0))) (Dv.dM 2 B7.nd) (Dv.aj (Dv.aX (Dv.aY cq (Dv.bh T.aM T.lN.h (Gu T) (hr.mono (by decide)) T.lN.b .nil aw (Dv.v 0) (Dv.aa (Dv.v 2) Dv.ag)) (Dv.v 1)) (Dv.aj Dv.cR) Dv.nil)))
  (Dv.aj (Dv.aP (Dv.v 1))))) ?_
  refine stI [some (V.ref AA.a),some (V.int (k:Int)),none] ?_;refine ao ?_;walk_at "w";refine ⟨AA.a,_,_,rfl,hx,(sf _).trans rfl,AA,L,M,i,rfl,by rw [cU]; simp,fun l hl=>?_⟩;rw [Ao cU];have s1:=ai.upd (o:=.lst ([("main" : Str)].map V.str)) hl;have b1:upd H l (.lst ([("main" : Str)].map V.str)) l=some (.lst ([("main" : Str)].map V.str)):=ay;generalize upd H l (.lst ([("main" : Str)].map V.str))=H1 at s1 b1 ⊢;have i1:=i.same s1;obtain ⟨gY,c1,bu,iS,b9⟩:=i1.h;refine ⟨⟨_,aL.of b1⟩,qf (xs:=[("main" : Str)].map V.str) (fun jj σ' H'=>H'=H1∧∃ t,σ'=[some (V.ref AA.a),some (V.int (k:Int)),t]) ⟨rfl,_,rfl⟩ (fun jj σ' H' _ h=>by rw [h.1]; exact aL.of b1) ?_ (fun σ' H' h=>?_)⟩
  ·rintro jj v σ' H' hv ⟨rfl,t,rfl⟩;obtain rfl:v=V.str ("main" : Str):=by
    have:=List.mem_of_getElem? hv
    simpa using this
   walk_at "w";refine ⟨AA.a,_,_,rfl,bu,(b9 _).trans rfl,AA,L,M,0,i1,rfl,by rw [cU]; rfl,?_⟩;rw [fN];exact ⟨rfl,bT (decide_eq_false (by nofun)) ⟨rfl,_,rfl⟩⟩
  ·obtain ⟨rfl,t,rfl⟩:=h;walk_at "w";exact q _ s1
def T2 (CH CS CT:Addr):Sp:=jd fun x n H Q _=>∃ A L M,∃ k:Nat,aI CH CS CT H A L M∧A.a=x∧n=(k:Int)∧M.tr=[(("main" : Str),0)]∧M.un=[]∧∀ l H',ai H H'→H' l=some (.lst [.int (k:Int)])→Q (.ref l) H'
theorem uf (T:Tx K mg):aA P w K mg base aO 5 T.eW.f T.eW.d ["_law_house_here", "_law_folder"] (T2 T.au T.aD T.aG):=by
 refine T.eW.F.ok ur (fun vs H Q E h=>?_) (fun az A outer s H vs Q E hr h=>?_)
 ·exact cD h fun _ _ _=>rfl
 ·refine cD h fun x n h=>?_;obtain ⟨AA,L,M,k,i,rfl,rfl,cU,fN,q⟩:=h;refine bA (b:=aU wZ) ((Dv.cut (Dv.aS 2 ur.nd (Dv.lst (Dv.aa (Dv.v 1) Dv.ag)))
  (Dv.cut (Dv.ng PassesOwn.never rfl (Dv.iH (K:=K) rfl (Dv.oV T.aM T.jh.h (wy T) (hr.mono (by decide)) T.jh.b .nil aw (Dv.v 0))) (Dv.dM 3 ur.nd) (Dv.aj (Dv.ng PassesOwn.never rfl (Dv.iH (K:=K) rfl (Dv.oV T.aM T.jh.h (wy T) (hr.mono (by decide)) T.jh.b .nil aw (Dv.v 0))) (Dv.dM 4 ur.nd) (Dv.aj (Dv.aX (Dv.dE (Dv.w_and (Dv.aY cq (Dv.bh T.aM T.mh.h (CQ T) (hr.mono (by decide)) T.mh.b .nil aw (Dv.v 0) (Dv.aa (Dv.v 4) Dv.ag)) (Dv.ix (br (K:=K) rfl) (Dv.v 2) Dv.int)) (Dv.iD (Dv.aY lR (Dv.bh T.aM T.lN.h (Gu T) (hr.mono (by decide)) T.lN.b .nil aw (Dv.v 0) (Dv.aa (Dv.v 4) Dv.ag)) Dv.ax)))) (Dv.aj Dv.cR) Dv.nil)))))
  (Dv.cut (Dv.jE PassesOwn.never (Dv.aY ko (Dv.call (oC T) (hr.mono (by decide)) T.dz.m T.dz.F.kp T.dz.b .nil aw (Dv.aa (Dv.v 0) (Dv.aa (Dv.ix (br (K:=K) rfl) (Dv.v 2) (Dv.un iz Dv.int)) Dv.ag))) (Dv.ix (br (K:=K) rfl) (Dv.v 2) (Dv.un iz Dv.int))) (Dv.aj Dv.cR))
  (Dv.aj (Dv.aP (Dv.v 2))))))) ?_
  refine stI [some (V.ref AA.a),some (V.int (k:Int)),none,none,none] ?_;refine ao ?_;walk_at "w";refine ⟨fits (by simp),fun lf hlf=>?_⟩;have s0:=ai.upd (o:=.lst [V.int (k:Int)]) hlf;have b0:upd H lf (.lst [V.int (k:Int)]) lf=some (.lst [V.int (k:Int)]):=ay;generalize upd H lf (.lst [V.int (k:Int)])=H0 at s0 b0 ⊢;refine eE (fun σ' H'=>ai H0 H'∧∃ t1 t2,σ'=[some (V.ref AA.a),some (V.int (k:Int)),some (V.ref lf),t1,t2]) ?_ ?_
  ·have i1:=i.same s0;obtain ⟨gY,c1,bu,iS,b9⟩:=i1.h;walk_at "w";refine ⟨AA.a,_,_,rfl,bu,(b9 _).trans rfl,AA,L,M,i1,rfl,by rw [cU]; simp,fun l hl=>?_⟩;rw [Ao cU];have s1:=ai.upd (o:=.lst ([("main" : Str)].map V.str)) hl;have b1:upd H0 l (.lst ([("main" : Str)].map V.str)) l=some (.lst ([("main" : Str)].map V.str)):=ay;generalize upd H0 l (.lst ([("main" : Str)].map V.str))=H1 at s1 b1 ⊢;refine ⟨⟨_,aL.of b1⟩,qf (xs:=[("main" : Str)].map V.str) (fun jj σ' H'=>ai H1 H'∧∃ t1 t2,σ'=[some (V.ref AA.a),some (V.int (k:Int)),some (V.ref lf),t1,t2]) ⟨fun _ _ e=>e,_,_,rfl⟩ (fun jj σ' H' _ h=>aL.of (h.1 _ _ b1)) ?_ (fun σ' H' h=>⟨s1.trans h.1,h.2⟩)⟩;rintro jj v σ' H2 hv ⟨s2,t1,t2,rfl⟩;have i2:=i.same ((s0.trans s1).trans s2);obtain ⟨gX,c2,bL,gZ,bR⟩:=i2.h;walk_at "w";refine ⟨AA.a,_,_,rfl,bL,(bR _).trans rfl,AA,L,M,i2,rfl,by rw [cU]; simp,fun l3 gG=>?_⟩;rw [Ao cU];have s3:=ai.upd (o:=.lst ([("main" : Str)].map V.str)) gG;have b3:upd H2 l3 (.lst ([("main" : Str)].map V.str)) l3=some (.lst ([("main" : Str)].map V.str)):=ay;generalize upd H2 l3 (.lst ([("main" : Str)].map V.str))=H3 at s3 b3 ⊢;have JX:=s1.trans (s2.trans s3);have i3:=i.same (s0.trans JX);obtain ⟨gU,c3,cX,hU,fk⟩:=i3.h;have b03:=JX _ _ b0;refine ⟨⟨_,aL.of b3⟩,qf (xs:=[("main" : Str)].map V.str) (fun jj σ' H'=>H'=H3∧∃ t1 t2,σ'=[some (V.ref AA.a),some (V.int (k:Int)),some (V.ref lf),t1,t2]) ⟨rfl,_,_,rfl⟩ (fun jj σ' H' _ h=>by rw [h.1]; exact aL.of b3) ?_ (fun σ' H' h=>by rw [h.1]; exact ⟨s2.trans s3,h.2⟩)⟩;rintro jj v σ' H' hv ⟨rfl,t1,t2,rfl⟩;obtain rfl:v=V.str ("main" : Str):=by
    have:=List.mem_of_getElem? hv
    simpa using this
   walk_at "w";refine ⟨AA.a,_,_,rfl,cX,(fk _).trans rfl,AA,L,M,0,i3,rfl,by rw [cU]; rfl,?_⟩;simp only [bG,b03,c7];refine i8 (fun _=>?_) (fun _=>bf ⟨by trivial,_,_,rfl⟩);refine ⟨AA.a,_,_,rfl,cX,(fk _).trans rfl,AA,L,M,0,i3,rfl,by rw [cU]; rfl,?_⟩;rw [fN];exact ⟨by trivial,bT (congrArg not (decide_eq_true rfl)) ⟨rfl,_,_,rfl⟩⟩
  ·rintro σ' H1 ⟨s1,t1,t2,rfl⟩;have i1:=i.same (s0.trans s1);have b1:=s1 _ _ b0;have e1:([V.int (k:Int)]:List V)=[]++[V.int (k:Int)]:=rfl;refine ao ⟨fun m σ' H'=>σ'=[some (V.ref AA.a),some (V.int (k:Int)),some (V.ref lf),t1,t2]∧H'=H1,⟨0,rfl,rfl⟩,?_⟩;rintro m σ' H' ⟨rfl,rfl⟩;walk_at "w";rw [e1] at b1;simp only [bG,b1,je];refine ⟨AA,L,M,k,i1,rfl,rfl,cU,fN,fun H2 s2=>?_⟩;simp only [s2 _ _ b1,je];refine bT (by simp) ?_;walk_at "w";exact q lf H2 ((s0.trans s1).trans s2) (s2 _ _ b1)
def V2 (CH CS CT:Addr):Sp:=jy fun x z n H Q _=>∃ A L M,∃ (k r:Nat) (t:Th),aI CH CS CT H A L M∧A.a=x∧n=(k:Int)∧aJ (sD M.ro) (.inr z)=some (.int (r:Int))∧Gd M∧M.ts[k]?=some t∧cg M r k∧∀ H',ai H H'→Q (.bl true) H'
theorem NQ (T:Tx K mg):aA P w K mg base aO 6 T.mZ.f T.mZ.d ["_law_house_here", "_law_asker", "_law_folder"] (V2 T.au T.aD T.aG):=by
 refine T.mZ.F.ok qR (fun vs H Q E h=>?_) (fun az A outer s H vs Q E hr h=>?_)
 ·exact eI h fun _ _ _ _=>rfl
 ·refine eI h fun x z n h=>?_;obtain ⟨AA,L,M,k,r,t,i,rfl,rfl,hz,g,ht,hb,q⟩:=h;refine bA (b:=aU ze) ((Dv.cut (Dv.jE PassesOwn.never (Dv.dE (Dv.w_and (Dv.aY lR (Dv.v 2) Dv.ax) (Dv.iD (Dv.aY cq (Dv.call (oC T) (hr.mono (by decide)) T.dz.m T.dz.F.kp T.dz.b .nil aw (Dv.aa (Dv.v 0) (Dv.aa (Dv.v 2) Dv.ag))) (Dv.v 2))))) (Dv.cut (Dv.aS 3 qR.nd (Dv.call (uf T) (hr.mono (by decide)) T.eW.m T.eW.F.kp T.eW.b .nil aw (Dv.aa (Dv.v 0) (Dv.aa (Dv.v 2) Dv.ag))))
  (Dv.cut (Dv.aX (Dv.aY (m8 (K:=K) rfl) (Dv.bh T.aM T.ej.h (lH T) (hr.mono (by decide)) T.ej.b .nil aw (Dv.v 0) (Dv.aa (Dv.v 1) Dv.ag)) (Dv.v 3)) (Dv.aj (Dv.aP Dv.bl)) Dv.nil)
  (Dv.cut (Dv.aS 4 qR.nd (Dv.bh T.aM T.fc.h (oE T) (hr.mono (by decide)) T.fc.b .nil aw (Dv.v 0) (Dv.aa (Dv.ix (br (K:=K) rfl) (Dv.v 3) Dv.int) Dv.ag)))
  (Dv.cut (Dv.aS 2 qR.nd Dv.ax)
  (Dv.aj (Dv.aX (Dv.aY lR (Dv.v 4) Dv.ax) (Dv.aj (Dv.aS 2 qR.nd (Dv.ix (br (K:=K) rfl) (Dv.v 4) Dv.int))) Dv.nil)))))))
  (Dv.aj (Dv.aP Dv.bl)))) ?_
  refine stI [some (V.ref AA.a),some (V.str z),some (V.int (k:Int)),none,none] ?_;refine ao ⟨fun m σ' H'=>ai H H'∧∃ t t1 t2,M.ts[m]?=some t∧cg M r m∧σ'=[some (V.ref AA.a),some (V.str z),some (V.int (m:Int)),t1,t2],⟨k,fun _ _ e=>e,t,_,_,ht,hb,rfl⟩,?_⟩;clear ht hb;rintro m σ' H1 ⟨s1,t,t1,t2,ht,hb,rfl⟩;have i1:=i.same s1;obtain ⟨a,ha⟩:=adr i1.len ht;walk_at "w";refine ⟨by trivial,b8 (congrArg not (decide_eq_false (by nofun))) ?_⟩;refine ⟨AA,L,M,m,i1,rfl,rfl,g.tr,g.un,fun H2 s2=>b8 (decide_eq_true rfl) ⟨_,fun _ _ h=>h,ao ?_⟩⟩;have i2:=i1.same s2;walk_at "w";refine ⟨AA,L,M,m,i2,rfl,rfl,g.tr,g.un,fun l H3 s3 hl=>ao ?_⟩;have i3:=i2.same s3;obtain ⟨fs,c,hx,aV,sf⟩:=i3.h;walk_at "w";refine ⟨AA.a,_,_,rfl,hx,(sf _).trans rfl,AA,L,M,r,i3,rfl,hz,?_⟩;simp only [bG,hl];refine ⟨rfl,by simp [cw],?_⟩;rw [show ([V.int (m:Int)]:List V)=nV [m] from rfl,lh,iy];by_cases h0:m=r
  ·rw [decide_eq_true h0];exact bM (q _ ((s1.trans s2).trans s3))
  ·rw [decide_eq_false h0];refine bf (ao ?_);obtain ⟨f,nm,tf,hf,hp,_,bq,_,hb'⟩:=g.par ht hb h0;walk_at "w";simp only [bG,hl,c7];refine ⟨AA.a,_,_,rfl,hx,(sf _).trans rfl,AA,L,M,m,a,t,i3,rfl,rfl,ha,ht,.inr ⟨f,nm,hp,fun p px=>ao ?_⟩⟩;walk_at "w";refine ⟨by trivial,b8 (congrArg not (decide_eq_false (by nofun))) ?_⟩;simp only [bG,px,c7];exact ⟨f,hf,(s1.trans s2).trans s3,tf,_,_,bq,hb',rfl⟩
def Oj (CH CS CT:Addr):Sp:=Gx fun x z n nv H Q _=>∃ A L M,∃ (k r:Nat) (t:Th) (ns bE:List Str),aI CH CS CT H A L M∧A.a=x∧n=(k:Int)∧aJ (sD M.ro) (.inr z)=some (.int (r:Int))∧Gd M∧M.ts.length≤90∧M.ts[k]?=some t∧(nv=.ax∧bE=[]∨∃ nm:Str,nv=.str nm∧bE=[nm]∧nm.length≤8)∧(∃ m,fT M L r m k ns)∧ns.length≤99∧(∀ s∈ns,s.length≤8)∧∀ H',ai H H'→Q (.str (gm (ns++bE))) H'
theorem Pl (T:Tx K mg):aA P w K mg base aO 6 T.ou.f T.ou.d ["_law_house_here", "_law_asker", "_law_folder", "_law_name"] (Oj T.au T.aD T.aG):=by
 refine T.ou.F.ok rN (fun vs H Q E h=>?_) (fun az A outer s H vs Q E hr h=>?_)
 ·exact B9 h fun _ _ _ _ _=>rfl
 ·refine B9 h fun x z n nv h=>?_;obtain ⟨AA,L,M,k,r,t,ns,bE,i,rfl,rfl,hz,g,hn,ht,BI,bK,hl99,h8,q⟩:=h;refine bA (b:=aU xI) ((Dv.cut (Dv.aS 4 rN.nd (Dv.slice (zw (K:=K) rfl) (Dv.lst (Dv.aa (Dv.v 3) Dv.ag)) Dv.tS (Dv.oY (Dv.nE uP T.qB qj (Dv.aa (Dv.cmp lR (Dv.v 3) Dv.ax) Dv.ag)))))
  (Dv.cut (Dv.jE PassesOwn.never (Dv.aY (tT (K:=K) rfl) (Dv.bh T.aM T.ej.h (lH T) (hr.mono (by decide)) T.ej.b .nil aw (Dv.v 0) (Dv.aa (Dv.v 1) Dv.ag)) (Dv.call (uf T) (hr.mono (by decide)) T.eW.m T.eW.F.kp T.eW.b .nil aw (Dv.aa (Dv.v 0) (Dv.aa (Dv.v 2) Dv.ag)))) (Dv.cut (Dv.pS (Dv.bh T.aM T.fc.h (oE T) (hr.mono (by decide)) T.fc.b .nil aw (Dv.v 0) (Dv.aa (Dv.ix (br (K:=K) rfl) (Dv.call (uf T) (hr.mono (by decide)) T.eW.m T.eW.F.kp T.eW.b .nil aw (Dv.aa (Dv.v 0) (Dv.aa (Dv.v 2) Dv.ag))) Dv.int) Dv.ag)) (Dv.tm (K:=K) (n:=2) rfl rfl (Dv.j6 (Dv.dM 2 rN.nd) (Dv.j6 (Dv.dM 5 rN.nd) Dv.uT))))
  (Dv.aj (Dv.aS 4 rN.nd (Dv.op ee (Dv.lst (Dv.aa (Dv.v 5) Dv.ag)) (Dv.v 4))))))
  (Dv.aj (Dv.aP (Dv.op ee Dv.str (Dv.lL PySem.F.slot_str_join PySem.F.type_str_join (zQ (K:=K) rfl) Dv.str (Dv.aa (Dv.v 4) Dv.ag)))))))) ?_
  refine stI [some (V.ref AA.a),some (V.str z),some (V.int (k:Int)),some nv,none,none] ?_;refine eE (fun σ' H'=>ai H H'∧∃ l,σ'=[some (V.ref AA.a),some (V.str z),some (V.int (k:Int)),some nv,some (V.ref l),none]∧H' l=some (.lst (bE.map V.str))) ?_ ?_
  ·walk_at "w";refine ⟨fits (by simp),fun p hp=>⟨by trivial,_,aL.of ay,fun p1 mC=>⟨(ai.upd hp).trans (ai.upd mC),p1,rfl,?_⟩⟩⟩;rw [ay];rcases BI with ⟨rfl,rfl⟩ | ⟨nm,rfl,rfl,_⟩
   ·rw [decide_eq_true rfl]; rfl
   ·rw [decide_eq_false (by nofun)]; rfl
  rintro σ' H1 ⟨s1,l,rfl,b1⟩;obtain ⟨m0,bK⟩:=bK;have rj:bE.length≤1:=by rcases BI with ⟨_,rfl⟩ | ⟨nm,_,rfl,_⟩ <;> simp
  refine ao ⟨fun m σ' H'=>ai H H'∧∃ (j:Nat) (t':Th) (pre sT:List Str) (l':Addr) (o:Option V),σ'=[some (V.ref AA.a),some (V.str z),some (V.int (j:Int)),some nv,some (V.ref l'),o]∧H' l'=some (.lst (sT.map V.str))∧M.ts[j]?=some t'∧fT M L r m j pre∧pre++sT=ns++bE,⟨m0,s1,k,t,ns,bE,l,none,rfl,b1,ht,bK,rfl⟩,?_⟩;clear s1 b1 ht bK;rintro m σ' H1 ⟨s1,j,t',pre,sT,l',o,rfl,b1,ht,bK,da⟩;have i1:=i.same s1;obtain ⟨a,ha⟩:=adr i1.len ht;obtain ⟨fs,c,hx,aV,sf⟩:=i1.h;have hlen:pre.length+sT.length≤100:=by
   have:=congrArg List.length da;rw [List.length_append,List.length_append] at this;omega
  obtain ⟨b',r',a',t'',ha',ht',jH,mP⟩:=(by unfold fT at bK; exact bK:∃ b r a t,L[j]?=some a∧M.ts[j]?=some t∧dv M j b r∧_);obtain ⟨rfl,rfl⟩:=g.lJ jH;rw [ht] at ht'; cases ht';walk_at "w";refine ⟨AA.a,_,_,rfl,hx,(sf _).trans rfl,AA,L,M,r,i1,rfl,hz,AA,L,M,b',i1,rfl,rfl,g.tr,g.un,fun l2 H2 s2 cv=>?_⟩;have i2:=i1.same s2;obtain ⟨gX,c2,bL,gZ,bR⟩:=i2.h;have b2:=s2 _ _ b1;refine ⟨_,.inl (aL.of cv),rfl,by simp [cw],?_⟩;rw [show ([V.int (b':Int)]:List V)=nV [b'] from rfl,lh];rw [iy] at mP ⊢;by_cases h0:b'=r
  ·rw [decide_eq_true h0] at mP ⊢;rw [if_pos rfl] at mP;rw [mP,List.nil_append] at da;subst da;have hn8':∀ s∈ns++bE,s.length≤8:=fun s hs=>by
    rcases List.mem_append.mp hs with hs | hs
    ·exact h8 s hs
    ·rcases BI with ⟨_,rfl⟩ | ⟨nm,_,rfl,h⟩
     ·cases hs
     ·rw [List.mem_singleton.mp hs]; exact h
   obtain ⟨vN,hb2⟩:=EF hn8' (by rw [List.length_append]; omega);have lj:(Str.ofString "/").length=1:=by decide +kernel
   exact bf ⟨_,aL.of b2,_,rfl,fits (by omega),fits (by omega),q _ (s1.trans s2)⟩
  ·rw [decide_eq_false h0] at mP ⊢;rw [if_neg (by nofun)] at mP;obtain ⟨ab,tb,f,zz,eS,la,bb,hm⟩:=mP;rw [ht] at la; cases la;cases m with
   | zero=>exact hm.elim
   | succ m =>
    obtain ⟨ns',rfl,hm⟩:=hm;obtain ⟨f',nm',tf,_,hp',_,bq,_⟩:∃ (f:Nat) (nm:Str) (tf:Th),f < b'∧t'.bU=[(f,nm)]∧nm.length≤8∧M.ts[f]?=some tf∧tf.kd=("folder" : Str):=by
     rcases (g.th b' t' ht).pl with ⟨_,e⟩ | h
     ·rw [e] at bb; cases bb
     ·exact h
    rw [bb] at hp'; cases hp';refine bM ⟨_,fun _ _ h=>h,ao ?_⟩;walk_at "w";refine ⟨AA.a,_,_,rfl,bL,(bR _).trans rfl,AA,L,M,b',i2,rfl,rfl,g.tr,g.un,fun l3 H3 s3 gG=>?_⟩;have i3:=i2.same s3;obtain ⟨gU,c3,cX,hU,fk⟩:=i3.h;have b3:=s3 _ _ b2;simp only [bG,gG,c7];refine ⟨AA,L,M,b',a,t',i3,rfl,rfl,ha,ht,.inr ⟨f,zz,bb,fun p hp=>⟨p,_,rfl,bW.of hp,rfl,_,_,rfl,_,_,rfl,rfl,fits (by simp),fun p4 kP=>?_⟩⟩⟩;have s4:=ai.upd (o:=.lst [V.str zz]) kP;have b4:=s4 _ _ b3;have c4:upd H3 p4 (.lst [V.str zz]) p4=some (.lst [V.str zz]):=ay;generalize upd H3 p4 (.lst [V.str zz])=H4 at s4 b4 c4 ⊢;simp only [b4,c4];refine ⟨fits (by rw [List.length_append] at hlen; simp at hlen ⊢; omega),fun p5 Bj=>⟨m,Nat.lt_succ_self m,(((s1.trans s2).trans s3).trans s4).trans (ai.upd Bj),f,tf,ns',zz::sT,p5,_,rfl,ay,bq,hm,by rw [← da]; simp⟩⟩
def O5:Sp:=jo fun pt H Q _=>∃ t,pt=Tx.S t∧fF t∧t.length≤400∧∀ l H',ai H H'→H' l=some (.lst (PV (told (Tx.words 47 t) t)))→Q (.ref l) H'
theorem UJ (T:Tx K mg):aA P w K mg base aO 1 T.m4.f T.m4.d ["_law_path_here"] O5:=by
 refine T.m4.F.ok Cf (fun vs H Q E h=>?_) (fun az A outer s H vs Q E hr h=>?_)
 ·exact eM h fun _ _=>rfl
 ·refine eM h fun pt h=>?_;obtain ⟨t,rfl,pt,hl,q⟩:=h;refine bA (b:=aU yl) ((Dv.cut (Dv.v8 1 rfl Cf.nd (x:=("_law_part" : Str)) (Dv.iH (K:=K) rfl (Dv.lL PySem.F.slot_str_split PySem.F.type_str_split Cs (Dv.v 0) (Dv.aa Dv.str Dv.ag))) (fun _ _ _ _=>by exact (Dv.Hl (Dv.aY ko (Dv.v 0) Dv.str))) (fun _ _ _ _=>by exact (Dv.dM 0 (show List.Nodup (["_law_part"]:List Str) by decide))) (fun _ _ _ _=>by exact (Dv.v 0)) (.of rfl (by exact trivial) (by (repeat (first | exact trivial | (refine ⟨fun z=>(by first | exact ⟨_,rfl⟩ | (rcases z with z | z <;> cases z)),?_⟩)))) rfl (by exact trivial)))
  (Dv.cut (Dv.aX (Dv.dE (Dv.w_and (Dv.aY (uy hr.fV) (Dv.v 1) (Dv.lst Dv.ag)) (Dv.iD (Dv.aY cq (Dv.ix (br (K:=K) rfl) (Dv.v 0) (Dv.un iz Dv.int)) Dv.str)))) (Dv.aj (Dv.aW (Dv.ir PySem.F.slot_list_append PySem.F.type_list_append kM (Dv.v 1) (Dv.aa Dv.str Dv.ag)))) Dv.nil)
  (Dv.aj (Dv.aP (Dv.v 1)))))) ?_
  refine stI [some (V.str (Tx.S t)),none] ?_;have pJ:Str.ofString "/" = Tx.S [47]:=by decide +kernel
  have e0:Str.ofString "" = Tx.S []:=by decide +kernel
  obtain ⟨Ir,c,ht⟩:∃ Ir c,t=Ir++[c]:=⟨_,_,(List.dropLast_concat_getLast (l:=t) (fun e=>by have:=pt.l1; rw [e] at this; simp at this)).symm⟩;refine ao ?_;walk_at "w";have ph:=Tx.uo 47 t;simp only [pJ,e0];refine ⟨rfl,by rw [Tx.bY]; exact fits (by omega),?_,?_⟩
  ·rw [Tx.zy,Tx.kz,Tx.zD,Tx.qU,List.length_map];exact fits (by omega)
  intro l hl;rw [Tx.GW t 47 (by decide)];have s1:=ai.upd (o:=.lst (((Tx.cut 47 t).map Tx.S).map V.str)) hl;have b1:upd H l (.lst (((Tx.cut 47 t).map Tx.S).map V.str)) l=some (.lst (((Tx.cut 47 t).map Tx.S).map V.str)):=ay;generalize upd H l (.lst (((Tx.cut 47 t).map Tx.S).map V.str))=H1 at s1 b1 ⊢;refine ⟨⟨_,aL.of b1⟩,y3 (fun x=>match x with | .str z=>!decide (z=Tx.S []) | _=>false) id (aL.of b1) (by rw [List.length_map,List.length_map]; exact fits (by omega)) ?_ ?_ ?_⟩
  ·intro x hx H2 _ R hR;obtain ⟨z,_,rfl⟩:=List.mem_map.mp hx;walk_at "w";exact hR H2 (ai.refl H2)
  ·intro x hx _ H2 _ R hR;walk_at "w";exact hR H2 (ai.refl H2)
  intro H2 s2 l2 cv;have ew:((((Tx.cut 47 t).map Tx.S).map V.str).filter (fun x=>match x with | .str z=>!decide (z=Tx.S []) | _=>false)).map id=PV (Tx.words 47 t):=by
   rw [List.map_id,List.filter_map];show ((((Tx.cut 47 t).map Tx.S)).filter _).map V.str=_
   congr 1
   rw [← Tx.Fd];refine List.filter_congr fun z _=>?_;show (!decide (z=Tx.S []))=decide (z≠Tx.S []);by_cases h:z=Tx.S [] <;> simp [h]
  rw [ew];have s3:=ai.upd (o:=.lst (PV (Tx.words 47 t))) cv;have b3:upd H2 l2 (.lst (PV (Tx.words 47 t))) l2=some (.lst (PV (Tx.words 47 t))):=ay;have hJ:H l2=none:=uq (s1.trans s2) cv;generalize upd H2 l2 (.lst (PV (Tx.words 47 t)))=H3 at s3 b3 ⊢;have iU:ai H H3:=(s1.trans s2).trans s3;have mQ:(Tx.words 47 t).length≤401:=Nat.le_trans (List.length_filter_le _ _) (by omega);have Kq:t.getLast?=some c:=by rw [ht]; simp
  refine eE (fun σ' H'=>ai H H'∧σ'=[some (V.str (Tx.S t)),some (V.ref l2)]∧H' l2=some (.lst (PV (told (Tx.words 47 t) t)))) ?_ ?_
  ·walk_at "w";refine ⟨fits (by simp),fun p hp=>?_⟩;have s4:=ai.upd (o:=.lst []) hp;have b4:upd H3 p (.lst []) p=some (.lst []):=ay;generalize upd H3 p (.lst [])=H4 at s4 b4 ⊢;have vp:=s4 _ _ b3;refine ⟨(Tx.words 47 t).map Tx.S,[],vp,b4,?_⟩;by_cases h0:Tx.words 47 t=[]
   ·refine bT (by rw [decide_eq_true (by rw [h0]; rfl)]; rfl) (bf ⟨iU.trans s4,by trivial,?_⟩);unfold told;rw [if_neg (fun z=>z.1 h0)];exact vp
   ·refine b8 (by rw [decide_eq_false (fun e=>h0 (List.map_eq_nil_iff.mp e))]; rfl) ⟨by rw [Tx.bY]; exact fits (by omega),?_⟩;rw [Tx.iP];rw [show cx t (-1)=some c by rw [ht]; exact je _ _];by_cases hc:c=47
    ·refine b8 (decide_eq_true (by rw [hc]; rfl)) ?_;simp only [vp];refine ⟨gP (by simp [PV]; omega),fun x o e=>?_,by trivial,?_⟩
     ·rw [ah (fun z=>by rw [z,hJ] at e; cases e)];exact (iU.trans s4) x o e
     ·rw [ay];unfold told;rw [if_pos ⟨h0,by rw [Kq,hc]⟩,show Str.ofString "." = Tx.S [46] by decide +kernel];simp [PV]
    ·refine bT (decide_eq_false (fun e=>hc ?_)) ⟨iU.trans s4,by trivial,?_⟩
     ·have:=Tx.qZ (a:=[c]) (b:=[47]) e;injection this
     ·unfold told;rw [if_neg (fun z=>hc (by rw [Kq] at z; exact Option.some.inj z.2))];exact vp
  ·rintro σ' H4 ⟨s4,rfl,b4⟩;walk_at "w";exact q l2 H4 s4 b4
def Ss (CH CS CT:Addr):Sp:=GZ fun x z pt n H Q _=>∃ A L M t,∃ k r:Nat,pt=Tx.S t∧fF t∧aI CH CS CT H A L M∧A.a=x∧n=(k:Int)∧aJ (sD M.ro) (.inr z)=some (.int (r:Int))∧Gd M∧∀ H',ai H H'→Q (.int ((if dO t=true then r else k:Nat):Int)) H'
theorem VE (T:Tx K mg):aA P w K mg base aO 5 T.o6.f T.o6.d ["_law_house_here", "_law_asker", "_law_path_here", "_law_here"] (Ss T.au T.aD T.aG):=by
 refine T.o6.F.ok VP (fun vs H Q E h=>?_) (fun az A outer s H vs Q E hr h=>?_)
 ·exact ET h fun _ _ _ _ _=>rfl
 ·refine ET h fun x z pt n h=>?_;obtain ⟨AA,L,M,t,k,r',rfl,hp,i,rfl,rfl,hz,g,q⟩:=h;refine bA (b:=aU yq) ((Dv.cut (Dv.aX (Dv.aY cq (Dv.ix (br (K:=K) rfl) (Dv.v 2) Dv.int) Dv.str) (Dv.aj (Dv.aP (Dv.call (oC T) (hr.mono (by decide)) T.dz.m T.dz.F.kp T.dz.b .nil aw (Dv.aa (Dv.v 0) (Dv.aa (Dv.bh T.aM T.ej.h (lH T) (hr.mono (by decide)) T.ej.b .nil aw (Dv.v 0) (Dv.aa (Dv.v 1) Dv.ag)) Dv.ag))))) Dv.nil)
  (Dv.aj (Dv.aP (Dv.v 3))))) ?_
  refine stI [some (V.ref AA.a),some (V.str z),some (V.str (Tx.S t)),some (V.int (k:Int))] ?_;obtain ⟨c,r,ht⟩:∃ c r,t=c::r:=by
   cases t with
   | nil=>exact absurd hp.l1 (by simp)
   | cons c r=>exact ⟨c,r,rfl⟩
  obtain ⟨fs,cc,hx,aV,sf⟩:=i.h;refine ao ?_;walk_at "w";refine ⟨by rw [Tx.bY]; exact Nat.le_trans hp.l2 (by decide),?_⟩;rw [Tx.iP,show cx t 0=some c by rw [ht]; exact gJ (j:=0) rfl];have hh:dO t=decide (c=47):=by unfold dO; rw [ht]; simp
  rw [hh] at q;by_cases hc:c=47
  ·rw [if_pos (decide_eq_true hc)] at q;exact b8 (decide_eq_true (by rw [hc]; decide +kernel)) ⟨AA.a,_,_,rfl,hx,(sf _).trans rfl,AA,L,M,r',i,rfl,hz,AA,L,M,r',i,rfl,rfl,g.tr,g.un,q⟩
  ·rw [if_neg (by rw [decide_eq_false hc]; nofun)] at q;refine bT (decide_eq_false (fun e=>hc ?_)) (q _ fun _ _ e=>e);have:=Tx.qZ (a:=[c]) (b:=[47]) (e.trans (by decide +kernel));injection this
def rC (r:Nat) (t:Th) (k:Nat):Nat:=if k=r then k else match t.bU with
 | (f,_)::_=>f
 | []=>k
def SR (CH CS CT:Addr):Sp:=jy fun x z n H Q _=>∃ A L M t,∃ k r:Nat,aI CH CS CT H A L M∧A.a=x∧n=(k:Int)∧aJ (sD M.ro) (.inr z)=some (.int (r:Int))∧Gd M∧M.ts[k]?=some t∧cg M r k∧∀ H',ai H H'→Q (.int ((rC r t k:Nat):Int)) H'
theorem TH (T:Tx K mg):aA P w K mg base aO 6 T.oG.f T.oG.d ["_law_house_here", "_law_asker", "_law_here"] (SR T.au T.aD T.aG):=by
 refine T.oG.F.ok Gv (fun vs H Q E h=>?_) (fun az A outer s H vs Q E hr h=>?_)
 ·exact eI h fun _ _ _ _=>rfl
 ·refine eI h fun x z n h=>?_;obtain ⟨AA,L,M,t,k,r,i,rfl,rfl,hz,g,ht,hb,q⟩:=h;obtain ⟨a,ha⟩:=adr i.len ht;refine bA (b:=aU zA) ((Dv.cut (Dv.aS 3 Gv.nd (Dv.call (uf T) (hr.mono (by decide)) T.eW.m T.eW.F.kp T.eW.b .nil aw (Dv.aa (Dv.v 0) (Dv.aa (Dv.v 2) Dv.ag))))
  (Dv.cut (Dv.aX (Dv.aY (m8 (K:=K) rfl) (Dv.bh T.aM T.ej.h (lH T) (hr.mono (by decide)) T.ej.b .nil aw (Dv.v 0) (Dv.aa (Dv.v 1) Dv.ag)) (Dv.v 3)) (Dv.aj (Dv.aP (Dv.v 2))) Dv.nil)
  (Dv.aj (Dv.aP (Dv.call (oC T) (hr.mono (by decide)) T.dz.m T.dz.F.kp T.dz.b .nil aw (Dv.aa (Dv.v 0) (Dv.aa (Dv.ix (br (K:=K) rfl) (Dv.bh T.aM T.fc.h (oE T) (hr.mono (by decide)) T.fc.b .nil aw (Dv.v 0) (Dv.aa (Dv.ix (br (K:=K) rfl) (Dv.v 3) Dv.int) Dv.ag)) Dv.int) Dv.ag)))))))) ?_
  refine stI [some (V.ref AA.a),some (V.str z),some (V.int (k:Int)),none] ?_;refine ao ?_;walk_at "w";refine ⟨AA,L,M,k,i,rfl,rfl,g.tr,g.un,fun l H1 s1 hl=>ao ?_⟩;have i1:=i.same s1;obtain ⟨fs,c,hx,aV,sf⟩:=i1.h;walk_at "w";refine ⟨AA.a,_,_,rfl,hx,(sf _).trans rfl,AA,L,M,r,i1,rfl,hz,?_⟩;simp only [bG,hl];refine ⟨rfl,by simp [cw],?_⟩;rw [show ([V.int (k:Int)]:List V)=nV [k] from rfl,lh,iy];unfold rC at q;by_cases h0:k=r
  ·rw [decide_eq_true h0];rw [if_pos h0] at q;exact bM (q H1 s1)
  ·obtain ⟨f,nm,tf,hf,hp,_,bq,_,_⟩:=g.par ht hb h0;rw [decide_eq_false h0];rw [if_neg h0,hp] at q;refine bf ?_;simp only [nV,List.map_cons,List.map_nil,c7];refine ⟨AA.a,_,_,rfl,hx,(sf _).trans rfl,AA,L,M,k,a,t,i1,rfl,rfl,ha,ht,.inr ⟨f,nm,hp,fun p px=>?_⟩⟩;simp only [px,c7];exact ⟨AA,L,M,f,i1,rfl,rfl,g.tr,g.un,fun H2 s2=>q _ (s1.trans s2)⟩
def iI (r:Nat) (t:Th) (k:Nat) (p:Str):V:=if p=(".." : Str) then .int (rC r t k:Nat) else if p=("." : Str) then .int (k:Nat) else (aJ (sD t.aZ) (.inr p)).getD .ax
def Ut (CH CS CT:Addr):Sp:=D1 fun x z n p H Q _=>∃ A L M t,∃ k r:Nat,aI CH CS CT H A L M∧A.a=x∧n=(k:Int)∧aJ (sD M.ro) (.inr z)=some (.int (r:Int))∧Gd M∧M.ts[k]?=some t∧cg M r k∧ka p∧∀ H',ai H H'→Q (iI r t k p) H'
theorem V9 (T:Tx K mg):aA P w K mg base aO 7 T.oU.f T.oU.d ["_law_house_here", "_law_asker", "_law_here", "_law_part"] (Ut T.au T.aD T.aG):=by
 refine T.oU.F.ok Pz (fun vs H Q E h=>?_) (fun az A outer s H vs Q E hr h=>?_)
 ·exact EC h fun _ _ _ _ _=>rfl
 ·refine EC h fun x z n p h=>?_;obtain ⟨AA,L,M,t,k,r,i,rfl,rfl,hz,g,ht,hb,hp,q⟩:=h;obtain ⟨a,ha⟩:=adr i.len ht;obtain ⟨fs,c,hx,aV,sf⟩:=i.h;refine bA (b:=aU xh) ((Dv.cut (Dv.aX (Dv.aY cq (Dv.v 3) Dv.str) (Dv.aj (Dv.aP (Dv.call (TH T) (hr.mono (by decide)) T.oG.m T.oG.F.kp T.oG.b .nil aw (Dv.aa (Dv.v 0) (Dv.aa (Dv.v 1) (Dv.aa (Dv.v 2) Dv.ag)))))) Dv.nil)
  (Dv.cut (Dv.aX (Dv.aY cq (Dv.v 3) Dv.str) (Dv.aj (Dv.aP (Dv.v 2))) Dv.nil)
  (Dv.aj (Dv.aP (Dv.bh T.aM T.jB.h (wY T) (hr.mono (by decide)) T.jB.b .nil aw (Dv.v 0) (Dv.aa (Dv.v 2) (Dv.aa (Dv.v 3) Dv.ag)))))))) ?_
  refine stI [some (V.ref AA.a),some (V.str z),some (V.int (k:Int)),some (V.str p)] ?_;refine ao ?_;walk_at "w";unfold iI at q;by_cases h1:p=(".." : Str)
  ·rw [if_pos h1] at q;exact b8 (decide_eq_true h1) ⟨AA,L,M,t,k,r,i,rfl,rfl,hz,g,ht,hb,q⟩
  ·rw [if_neg h1] at q;refine bT (decide_eq_false h1) (ao ?_);walk_at "w";by_cases h2:p=("." : Str)
   ·rw [if_pos h2] at q;exact b8 (decide_eq_true h2) (q _ fun _ _ e=>e)
   ·rw [if_neg h2] at q;rcases hp with hp | hp | ⟨hp,h8⟩
    ·exact absurd hp h2
    ·exact absurd hp h1
    exact bT (decide_eq_false h2) ⟨AA.a,_,_,rfl,hx,(sf _).trans rfl,AA,L,M,k,a,t,i,rfl,rfl,ha,ht,hp,by omega,q⟩
def uH:Sum (Nat×List Str) (Nat×Str)→List V
 | .inl (k,ns)=>[.str "found",.int (k:Int),.str (gm ns)]
 | .inr (k,y)=>[.str "failed",.int (k:Int),.str y]
def Nk (CH CS CT:Addr):Sp:=m7 fun x z pt fin H Q _=>∃ A L M t e,pt=Tx.S t∧aI CH CS CT H A L M∧A.a=x∧z∈AS∧Gd M∧M.ts.length≤90∧t.length≤400∧dN M L z t e ∧
   ∀ p d av H',ai H H'→H' p=some (.tup [.ref d,.ref av])→H' d=some (.tup (uH e.res))→H' av=some (.lst (nV e.asked))→Q (.ref p) H'
def Toks (H:Hp):List V→List Str→Prop
 | [],[]=>True
 | v::vs,p::ps=>(∃ a c,v=.ref a∧H a=some (.tup [.str p,c]))∧Toks H vs ps
 | _,_=>False
theorem Toks.same {H H':Hp} (s:ai H H'):∀ {vs:List V} {ps:List Str},Toks H vs ps→Toks H' vs ps
 | [],[],_=>trivial
 | v::vs,p::ps,h=>⟨let ⟨a,c,e,x⟩:=h.1; ⟨a,c,e,s _ _ x⟩,Toks.same s h.2⟩
 | [],_::_,h=>h.elim
 | _::_,[],h=>h.elim
theorem Toks.snoc {H:Hp} {v:V} {p:Str} (hv:∃ a c,v=.ref a∧H a=some (.tup [.str p,c])):∀ {vs:List V} {ps:List Str},Toks H vs ps→Toks H (vs++[v]) (ps++[p])
 | [],[],_=>⟨hv,by trivial⟩
 | w::vs,q::ps,h=>⟨h.1,Toks.snoc hv h.2⟩
 | [],_::_,h=>h.elim
 | _::_,[],h=>h.elim
theorem Toks.len {H:Hp}:∀ {vs:List V} {ps:List Str},Toks H vs ps→vs.length=ps.length
 | [],[],_=>rfl
 | v::vs,p::ps,h=>by rw [List.length_cons,List.length_cons,Toks.len h.2]
 | [],_::_,h=>h.elim
 | _::_,[],h=>h.elim
theorem Toks.upd {H:Hp} {tk:Addr} {xs:List V} {o:HO} (hk:H tk=some (.lst xs)):∀ {vs:List V} {ps:List Str},Toks H vs ps→Toks (upd H tk o) vs ps
 | [],[],_=>trivial
 | v::vs,p::ps,h=>⟨let ⟨a,c,e,x⟩:=h.1; ⟨a,c,e,by rw [ah (bN x hk (by nofun))]; exact x⟩,Toks.upd hk h.2⟩
 | [],_::_,h=>h.elim
 | _::_,[],h=>h.elim
def U6 (M:Hs) (r:Nat) (S:Ws) (k:Nat) (nv tv:V):Prop:=∃ t,M.ts[S.here]?=some t∧(t.kd=("folder" : Str)∧k=S.here∧nv=.ax∧cg M r S.here∨t.kd≠("folder" : Str)∧∃ (nm:Str) (tf:Th),S.place=some (k,nm)∧nv=.str nm∧nm.length≤8∧tv=.int (S.here:Int)∧M.ts[k]?=some tf)
def Tf (H:Hp) (a:Addr) (L:List Ta) (M:Hs) (r:Nat) (z pt:Str) (fin:Bool) (av tk:Addr) (S':Ws) (o:Option Str) (m:Nat) (σ:L2.St) (H':Hp):Prop :=
 ∃ (S:Ws) (ps:List Str) (vs:List V) (k:Nat) (nv tv:V) (o1 o2 o3:Option V),m=ps.length∧ai H H'∧σ=[some (.ref a),some (.str z),some (.str pt),some (.bl fin),some (.ref av),some (.int (k:Int)),some (.ref tk),some nv,some tv,some (.int (S.step:Int)),some (.int 0),o1,o2,o3] ∧
  H' av=some (.lst (nV S.asked))∧H' tk=some (.lst vs)∧Toks H' vs ps∧(∀ p∈ps,ka p)∧S.asked.length+ps.length≤600∧fY M L z r S ps S' o∧U6 M r S k nv tv
theorem Tu {M:Hs} {L:List Ta} {z:Str} {r:Nat} {S S':Ws} {p:Str} {ps:List Str} {o:Option Str} (h:fY M L z r S (p::ps) S' o):∃ S1 o1,dD M L z r { S with left:=gi ps } p S1 o1∧((o1=none∧fY M L z r S1 ps S' o)∨∃ y,o1=some y∧o=some y∧S'=S1):=by
 cases h with
 | step h1 h2=>exact ⟨_,_,h1,.inl ⟨rfl,h2⟩⟩
 | fail h1=>exact ⟨_,_,h1,.inr ⟨_,rfl,rfl,rfl⟩⟩
theorem Ui {M:Hs} {L:List Ta} {z:Str} {r:Nat} {S S1:Ws} {p:Str} {o1:Option Str} {t:Th} (h:dD M L z r S p S1 o1) (ht:M.ts[S.here]?=some t) (hk:t.kd≠("folder" : Str)):o1=some "flat" ∧ S1.step=S.step+1∧S1.asked=S.asked:=by
 cases h with
 | flat h1 h2 h3=>exact ⟨rfl,rfl,rfl⟩
 | om h1 h2 h3=>rw [ht] at h2; cases h2; exact absurd h3 hk
 | dot h1 h2 h3=>rw [ht] at h2; cases h2; exact absurd h3 hk
 | ei h1 h2 h3=>rw [ht] at h2; cases h2; exact absurd h3 hk
 | up h1 h2 h3=>rw [ht] at h2; cases h2; exact absurd h3 hk
 | no h1 h2 h3=>rw [ht] at h2; cases h2; exact absurd h3 hk
 | folder h1 h2 h3=>rw [ht] at h2; cases h2; exact absurd h3 hk
 | file h1 h2 h3=>rw [ht] at h2; cases h2; exact absurd h3 hk
theorem OR {M:Hs} {L:List Ta} {z:Str} {r:Nat} {S S1:Ws} {p:Str} {o1:Option Str} {t:Th} (h:dD M L z r S p S1 o1) (ht:M.ts[S.here]?=some t) (hk:t.kd=("folder" : Str)) (hm:cZ ("g" : Str) (cK t z)=false):o1=some "shut" ∧ S1.step=S.step+1∧S1.asked=S.asked++[S.here]:=by
 cases h with
 | flat h1 h2 h3=>rw [ht] at h2; cases h2; exact absurd hk h3
 | om h1 h2 h3 h4=>exact ⟨rfl,rfl,rfl⟩
 | dot h1 h2 h3 h4=>rw [ht] at h2; cases h2; rw [hm] at h4; cases h4
 | ei h1 h2 h3 h4=>rw [ht] at h2; cases h2; rw [hm] at h4; cases h4
 | up h1 h2 h3 h4=>rw [ht] at h2; cases h2; rw [hm] at h4; cases h4
 | no h1 h2 h3 h4=>rw [ht] at h2; cases h2; rw [hm] at h4; cases h4
 | folder h1 h2 h3 h4=>rw [ht] at h2; cases h2; rw [hm] at h4; cases h4
 | file h1 h2 h3 h4=>rw [ht] at h2; cases h2; rw [hm] at h4; cases h4
theorem toStep {M:Hs} {L:List Ta} {z:Str} {r:Nat} {S S1:Ws} {p:Str} {o1:Option Str} {t:Th} (g:Gd M) (h:dD M L z r S p S1 o1) (ht:M.ts[S.here]?=some t) (hk:t.kd=("folder" : Str)) (hm:cZ ("g" : Str) (cK t z)=true) (hp:ka p) (hb:cg M r S.here) :
  S1.step=S.step+1∧S1.asked=S.asked++[S.here]∧((iI r t S.here p=.ax∧o1=some "none")∨∃ (c:Nat) (tc:Th),iI r t S.here p=.int (c:Int)∧M.ts[c]?=some tc∧o1=none∧S1.here=c∧(tc.kd=("folder" : Str)∧cg M r c∨tc.kd=("file" : Str)∧S1.place=some (S.here,p)∧p.length≤8)):=by
 have h8:p≠(".." : Str)→p≠("." : Str)→p.length≤8:=fun n1 n2=>by
  rcases hp with e | e | e
  ·exact absurd e n2
  ·exact absurd e n1
  ·exact e.2
 cases h with
 | flat h1 h2 h3=>rw [ht] at h2; cases h2; exact absurd hk h3
 | om h1 h2 h3 h4=>rw [ht] at h2; cases h2; rw [hm] at h4; cases h4
 | dot h1 h2 h3 h4 h5 =>
  refine ⟨rfl,rfl,.inr ⟨S.here,t,?_,ht,rfl,rfl,.inl ⟨hk,hb⟩⟩⟩;unfold iI;rw [if_neg (by rw [h5]; decide +kernel),if_pos h5]
 | ei h1 h2 h3 h4 h5 h6 h7 =>
  refine ⟨rfl,rfl,.inr ⟨S.here,t,?_,ht,rfl,rfl,.inl ⟨hk,hb⟩⟩⟩;obtain ⟨rfl,rfl⟩:=g.lJ h6;rw [iy] at h7;unfold iI rC;rw [if_pos h5,if_pos (of_decide_eq_true h7)]
 | up h1 h2 h3 h4 h5 h6 h7 h8 h9 eA eR dA fK =>
  obtain ⟨rfl,rfl⟩:=g.lJ h6;obtain ⟨rfl,rfl⟩:=g.lJ fK;rw [ht] at h9; cases h9;rw [iy] at h7;have h0:=of_decide_eq_false h7;refine ⟨rfl,rfl,.inr ⟨_,_,?_,dA,rfl,rfl,?_⟩⟩
  ·unfold iI rC;rw [if_pos h5,if_neg h0,eA]
  ·obtain ⟨f,nm,tf,hf,hp,_,bq,dH,hb'⟩:=g.par ht hb h0;rw [hp] at eA; cases eA;rw [bq] at dA; cases dA;exact .inl ⟨dH,hb'⟩
 | no h1 h2 h3 h4 h5 h6 h7 h8 h9 =>
  rw [ht] at h2; cases h2;refine ⟨rfl,rfl,.inl ⟨?_,rfl⟩⟩;unfold iI;rw [if_neg h5,if_neg h6,h9]; rfl
 | folder h1 h2 h3 h4 h5 h6 h7 h8 h9 eA eR dA fK =>
  rw [ht] at h2; cases h2;obtain ⟨rfl,rfl⟩:=g.lJ fK;obtain ⟨c',tc',e1,e2,e3⟩:=(g.th _ t ht).ch _ _ h9;obtain rfl:_=c':=by injection e1 with e1; exact Int.ofNat.inj e1
  refine ⟨rfl,rfl,.inr ⟨_,_,?_,eR,rfl,rfl,.inl ⟨dA,.up e2 e3 hb⟩⟩⟩;unfold iI;rw [if_neg h5,if_neg h6,h9]; rfl
 | file h1 h2 h3 h4 h5 h6 h7 h8' h9 eA eR dA =>
  rw [ht] at h2; cases h2;refine ⟨rfl,rfl,.inr ⟨_,_,?_,eR,rfl,rfl,.inr ⟨dA,rfl,h8 h5 h6⟩⟩⟩;unfold iI;rw [if_neg h5,if_neg h6,h9]; rfl
theorem Oa {lp:Addr} {ps:List Str} {Q:VK} {H:Hp} (fh:aL K H lp (ps.map V.str)) (hz:ps.length≤500) (q:∀ tk vs H',ai H H'→H tk=none→H' tk=some (.lst vs)→Toks H' vs ps→Q (.ref tk) H') :
  oz (hV K lp) il (qW (gO (lV 0) (gO (qW gg) gg))) Q H:=by
 have hl:(ps.map V.str).length=ps.length:=List.length_map _;refine ⟨fun i ys m H1=>ai H H1∧Toks H1 ys (ps.take i)∧i≤ps.length∧m=ps.length - i,⟨_,ai.refl H,by trivial,Nat.zero_le _,rfl⟩,?_⟩;rintro i ys m H1 ⟨s1,hy,hi,rfl⟩;have hlen:=hy.len;rw [List.length_take] at hlen;refine ⟨fits (by omega),?_⟩;by_cases h:i < ps.length
 ·have hx:(ps.map V.str)[i]?=some (.str ps[i]):=by rw [List.getElem?_map,List.getElem?_eq_getElem h]; rfl
  refine .inr ⟨⟨_,_,s1.seq fh,hx⟩,gP (by omega),?_⟩;rintro y H' ⟨rfl,hy'⟩;have kT:(ps.map V.str)[i]?=some y:=hy' _ (s1.seq fh);rw [hx] at kT;cases kT;unfold il;refine b8 rfl ?_;walk_at "w";refine ⟨fits (by simp),fun p hp=>⟨fits (by simp),fun p2 eC=>⟨_,?_,?_,?_,h,rfl⟩⟩⟩
  ·omega
  ·exact (s1.trans (ai.upd hp)).trans (ai.upd eC)
  ·rw [List.take_add_one,List.getElem?_eq_getElem h];exact Toks.snoc ⟨p2,_,rfl,ay⟩ (hy.same ((ai.upd hp).trans (ai.upd eC)))
 ·refine .inl ⟨?_,fun l hl=>?_⟩
  ·exact ⟨_,s1.seq fh,by rw [hl]; omega⟩
  ·have e:ps.take i=ps:=List.take_of_length_le (by omega);rw [e] at hy;exact q l ys _ (s1.trans (ai.upd hl)) (uq s1 hl) ay (hy.same (ai.upd hl))
theorem uB {H3:Hp} {vs:List V} {av:Addr} {xs:List V} {Q:VK} (hv:vs.length≤10) (ha:H3 av=some (.lst xs)) (q:∀ p d H',ai H3 H'→H' p=some (.tup [.ref d,.ref av])→H' d=some (.tup vs)→H' av=some (.lst xs)→Q (.ref p) H') :
  vs.length≤sizeLine∧∀ d,H3 d=none→[V.ref d,V.ref av].length≤sizeLine∧∀ p,upd H3 d (.tup vs) p=none→Q (.ref p) (upd (upd H3 d (.tup vs)) p (.tup [.ref d,.ref av])):=by
 refine ⟨fits (by omega),fun d hd=>⟨fits (by simp),fun p hp=>?_⟩⟩;have s:=(ai.upd (o:=.tup vs) hd).trans (ai.upd (o:=.tup [.ref d,.ref av]) hp);exact q p d _ s ay (ai.upd hp _ _ ay) (s _ _ ha)
theorem eF {A B:TS} {D:Ends} {σ:L2.St} {H:Hp} (h:∀ N:L2.St→Hp→Prop,(∀ σ' H',B D σ' H'→N σ' H')→A { D with nx:=N } σ H):p6 A B D σ H:=ao (h _ fun _ _ x=>x)
theorem NJ {A:TS} {D:Ends} {σ:L2.St} {H:Hp} (h:∀ D':Ends,(∀ σ' H',D.nx σ' H'→D'.nx σ' H')→(∀ v H',D.rt v H'→D'.rt v H')→A D' σ H):A D σ H:=h D (fun _ _ x=>x) fun _ _ x=>x
theorem Vu (T:Tx K mg):aA P w K mg base aO 8 T.nI.f T.nI.d ["_law_house_here", "_law_asker", "_law_path_here", "_law_final"] (Nk T.au T.aD T.aG):=by
 refine T.nI.F.ok eT (fun vs H Q E h=>?_) (fun az A outer s H vs Q E hr h=>?_)
 ·exact hZ h fun _ _ _ _ _=>rfl
 ·refine hZ h fun x z pt fin h=>?_;obtain ⟨AA,L,M,t,e,rfl,i,rfl,hz,g,hn,hl,pw,q⟩:=h;refine bA (b:=aU wR) ((Dv.cut (Dv.aS 4 eT.nd (Dv.lst Dv.ag))
  (Dv.cut (Dv.aS 5 eT.nd (Dv.call (VE T) (hr.mono (by decide)) T.o6.m T.o6.F.kp T.o6.b .nil aw (Dv.aa (Dv.v 0) (Dv.aa (Dv.v 1) (Dv.aa (Dv.v 2) (Dv.aa (Dv.call (oC T) (hr.mono (by decide)) T.dz.m T.dz.F.kp T.dz.b .nil aw (Dv.aa (Dv.v 0) (Dv.aa (Dv.bh T.aM T.mm.h (C0 T) (hr.mono (by decide)) T.mm.b .nil aw (Dv.v 0) (Dv.aa (Dv.v 1) Dv.ag)) Dv.ag))) Dv.ag))))))
  (Dv.cut (Dv.aX (Dv.cC (Dv.cu (Dv.call (NQ T) (hr.mono (by decide)) T.mZ.m T.mZ.F.kp T.mZ.b .nil aw (Dv.aa (Dv.v 0) (Dv.aa (Dv.v 1) (Dv.aa (Dv.v 5) Dv.ag)))))) (Dv.aj Dv.cR) Dv.nil)
  (Dv.cut (Dv.v8 6 rfl eT.nd (x:=("_law_part" : Str)) (Dv.iH (K:=K) rfl (Dv.call (UJ T) (hr.mono (by decide)) T.m4.m T.m4.F.kp T.m4.b .nil aw (Dv.aa (Dv.v 2) Dv.ag))) (fun _ _ _ _=>by exact Dv.uZ) (fun _ _ _ _=>by exact (Dv.dM 0 (show List.Nodup (["_law_part"]:List Str) by decide))) (fun _ _ _ _=>by exact (Dv.tup (Dv.aa (Dv.v 0) (Dv.aa (Dv.tup Dv.ag) Dv.ag)))) (.of rfl (by exact trivial) (by (repeat (first | exact trivial | (refine ⟨fun z=>(by first | exact ⟨_,rfl⟩ | (rcases z with z | z <;> cases z)),?_⟩)))) rfl (by exact trivial)))
  (Dv.cut (Dv.aS 7 eT.nd Dv.ax)
  (Dv.cut (Dv.aS 8 eT.nd Dv.ax)
  (Dv.cut (Dv.aS 9 eT.nd Dv.int)
  (Dv.cut (Dv.aS 10 eT.nd Dv.int)
  (Dv.cut (Dv.jE PassesOwn.never (Dv.aY (Q1 (K:=K) rfl hr.fV) (Dv.v 6) (Dv.lst Dv.ag)) (Dv.cut (Dv.pS (Dv.ir PySem.F.slot_list_pop PySem.F.type_list_pop Vj (Dv.v 6) (Dv.aa Dv.int Dv.ag)) (Dv.tm (K:=K) (n:=2) rfl rfl (Dv.j6 (Dv.dM 11 eT.nd) (Dv.j6 (Dv.dM 12 eT.nd) Dv.uT))))
  (Dv.cut (Dv.aS 9 eT.nd (Dv.op ee (Dv.v 9) Dv.int))
  (Dv.cut (Dv.aX (Dv.aY lR (Dv.v 7) Dv.ax) (Dv.aj (Dv.aP (Dv.tup (Dv.aa (Dv.tup (Dv.aa Dv.str (Dv.aa (Dv.v 9) (Dv.aa Dv.str Dv.ag)))) (Dv.aa (Dv.v 4) Dv.ag))))) Dv.nil)
  (Dv.cut (Dv.aW (Dv.ir PySem.F.slot_list_append PySem.F.type_list_append kM (Dv.v 4) (Dv.aa (Dv.v 5) Dv.ag)))
  (Dv.cut (Dv.aS 13 eT.nd (Dv.call (V9 T) (hr.mono (by decide)) T.oU.m T.oU.F.kp T.oU.b .nil aw (Dv.aa (Dv.v 0) (Dv.aa (Dv.v 1) (Dv.aa (Dv.v 5) (Dv.aa (Dv.v 11) Dv.ag))))))
  (Dv.cut (Dv.aX (Dv.cC (Dv.cu (Dv.dP T.aM T.jf.h (wB T) (hr.mono (by decide)) T.jf.b .nil fw (Dv.v 0) (Dv.aa (Dv.v 1) (Dv.aa (Dv.v 5) (Dv.aa Dv.str Dv.ag)))))) (Dv.aj (Dv.aP (Dv.tup (Dv.aa (Dv.tup (Dv.aa Dv.str (Dv.aa (Dv.v 9) (Dv.aa Dv.str Dv.ag)))) (Dv.aa (Dv.v 4) Dv.ag))))) Dv.nil)
  (Dv.cut (Dv.aX (Dv.aY oQ (Dv.v 13) Dv.ax) (Dv.aj (Dv.aP (Dv.tup (Dv.aa (Dv.tup (Dv.aa Dv.str (Dv.aa (Dv.v 9) (Dv.aa Dv.str Dv.ag)))) (Dv.aa (Dv.v 4) Dv.ag))))) Dv.nil)
  (Dv.aj (Dv.aX (Dv.aY cq (Dv.bh T.aM T.eU.h (pd T) (hr.mono (by decide)) T.eU.b .nil aw (Dv.v 0) (Dv.aa (Dv.v 13) Dv.ag)) Dv.str) (Dv.aj (Dv.aS 5 eT.nd (Dv.call (oC T) (hr.mono (by decide)) T.dz.m T.dz.F.kp T.dz.b .nil aw (Dv.aa (Dv.v 0) (Dv.aa (Dv.v 13) Dv.ag))))) (Dv.aj (Dv.aX (Dv.dE (Dv.w_or (Dv.aY cq (Dv.bh T.aM T.eU.h (pd T) (hr.mono (by decide)) T.eU.b .nil aw (Dv.v 0) (Dv.aa (Dv.v 13) Dv.ag)) Dv.str) (Dv.iL (Dv.dE (Dv.w_and (Dv.cC (Dv.cu (Dv.v 3))) (Dv.w_and (Dv.aY (xc hr.fV) (Dv.v 6) (Dv.lst Dv.ag)) (Dv.iD (Dv.aY cq (Dv.v 12) (Dv.tup Dv.ag))))))))) (Dv.cut (Dv.aS 7 eT.nd (Dv.v 11))
  (Dv.aj (Dv.aS 8 eT.nd (Dv.v 13)))) (Dv.aj (Dv.aX (Dv.aY (m8 (K:=K) rfl) (Dv.v 13) (Dv.v 12)) (Dv.aj Dv.cR) (Dv.aj (Dv.aX (Dv.aY cq (Dv.v 10) Dv.int) (Dv.aj Dv.cR) (Dv.cut Dv.cR
  (Dv.cut Dv.cR
  (Dv.aj Dv.cR)))))))))))))))))))
  (Dv.aj (Dv.aP (Dv.tup (Dv.aa (Dv.tup (Dv.aa Dv.str (Dv.aa (Dv.ix (br (K:=K) rfl) (Dv.lst (Dv.aa (Dv.v 8) (Dv.aa (Dv.v 5) Dv.ag))) (Dv.nE uP T.qB qj (Dv.aa (Dv.cmp oQ (Dv.v 7) Dv.ax) Dv.ag))) (Dv.aa (Dv.call (Pl T) (hr.mono (by decide)) T.ou.m T.ou.F.kp T.ou.b .nil aw (Dv.aa (Dv.v 0) (Dv.aa (Dv.v 1) (Dv.aa (Dv.v 5) (Dv.aa (Dv.v 7) Dv.ag))))) Dv.ag)))) (Dv.aa (Dv.v 4) Dv.ag))))))))))))))) ?_
  obtain ⟨root,st,b,r,a,t0,S',o,su,aQ,ha,jT,jH,kZ,ef,has,mR,kY⟩:=pw.g.ex;obtain ⟨r0,eN,ga⟩:=g.as z hz;rw [ga.ro] at su;obtain rfl:r0=root:=by injection su with su; injection su with su; omega
  obtain ⟨rfl,rfl⟩:=g.lJ jH;have hb:(if dO t=true then r0 else eN)=b:=by
   rcases aQ with ⟨e1,e2⟩ | ⟨e1,e2⟩
   ·rw [if_pos e1,e2]
   ·rw [if_neg (by rw [e1]; nofun)];rw [ga.st] at e2;injection e2 with e2; injection e2 with e2; omega
  have Br:t0.kd=("folder" : Str)∧cg M r0 b:=by
   rcases aQ with ⟨e1,e2⟩ | ⟨e1,e2⟩
   ·obtain ⟨t',h1,h2⟩:=ga.tr; rw [e2,h1] at jT; cases jT; exact ⟨h2,e2 ▸ .refl⟩
   ·rw [ga.st] at e2;obtain rfl:eN=b:=by injection e2 with e2; injection e2 with e2; omega
    obtain ⟨t',h1,h2⟩:=ga.tk;rw [h1] at jT; cases jT; exact ⟨h2,ga.b⟩
  have pF:=ga.ro;refine stI [some (V.ref AA.a),some (V.str z),some (V.str (Tx.S t)),some (V.bl fin),none,none,none,none,none,none,none,none,none,none] ?_;refine eF fun N hN=>?_;walk_at "w";refine ⟨fits (by simp),fun av fJ=>hN _ _ (eF fun N hN=>?_)⟩;have s1:=ai.upd (o:=.lst []) fJ;have b1:upd H av (.lst []) av=some (.lst (nV [])):=ay;generalize upd H av (.lst [])=H1 at s1 b1 ⊢;have i1:=i.same s1;obtain ⟨fs,c,hx,aV,sf⟩:=i1.h;walk_at "w";refine ⟨AA.a,_,_,rfl,hx,(sf _).trans rfl,AA,L,M,eN,i1,rfl,by rw [pF]; rfl,ga.st,AA,L,M,eN,i1,rfl,rfl,g.tr,g.un,fun H2 s2=>?_⟩;have i2:=i1.same s2;refine ⟨AA,L,M,t,eN,r0,rfl,⟨pw.l1,pw.l2,pw.all⟩,i2,rfl,rfl,pF,g,fun H3 s3=>hN _ _ (eF fun N hN=>?_)⟩;rw [hb];have i3:=i2.same s3;walk_at "w";refine ⟨AA,L,M,b,r0,t0,i3,rfl,rfl,pF,g,jT,Br.2,fun H4 s4=>bT rfl (hN _ _ (eF fun N hN=>?_))⟩;have i4:=i3.same s4;walk_at "w";refine ⟨t,rfl,⟨pw.l1,pw.l2,pw.all⟩,hl,fun lp H5 s5 fh=>⟨⟨_,aL.of fh⟩,?_⟩⟩;have gv:=((s2.trans s3).trans s4).trans s5;have b5:=gv _ _ b1;have Ba:=pw.g.hp;rw [G0] at fh;have da:=vZ (uF (t:=t) pw.all);generalize (told (Tx.words 47 t) t).map Tx.S=ps at fh ef Ba da;refine Oa (aL.of fh) Ba fun tk vs H6 s6 Az dF pE=>hN _ _ (eF fun N hN=>?_);have Js:=gv.trans s6;have b6:=s6 _ _ b5;walk_at "w";refine hN _ _ (eF fun N hN=>?_);walk_at "w";refine hN _ _ (eF fun N hN=>?_);walk_at "w";refine hN _ _ (eF fun N hN=>?_);walk_at "w";have nat:av≠tk:=aF b5 Az;have ftk':H tk=none:=uq (s1.trans gv) Az;refine hN _ _ (eF fun N hN=>⟨Tf H AA.a L M r0 z (Tx.S t) fin av tk S' o,⟨ps.length,_,ps,vs,b,.ax,.ax,none,none,none,rfl,s1.trans Js,rfl,b6,dF,pE,da,by simp; omega,ef,t0,jT,.inl ⟨Br.1,rfl,rfl,Br.2⟩⟩,?_⟩);clear pE dF b6 Js s6 Az fh b5 gv s5 i4 s4 i3 s3 i2 s2 hx aV sf i1 b1 ef da Ba;rintro m σ' H1 ⟨S,ps,vs,k,nv,tv,o1,o2,o3,rfl,s1',rfl,b1,dF,pE,da,hlen,ef,iX⟩;have i1:=i.same s1';obtain ⟨fs,c,hx,aV,sf⟩:=i1.h;walk_at "w";refine ⟨fits (by simp),fun pn hpn=>?_⟩;have s2:=ai.upd (o:=.lst []) hpn;have c2:upd H1 pn (.lst []) pn=some (.lst []):=ay;generalize upd H1 pn (.lst [])=H2 at s2 c2 ⊢;have i2:=i1.same s2;have b2:=s2 _ _ b1;have t2:=s2 _ _ dF;refine ⟨vs,[],aL.of t2,aL.of c2,.inl ⟨rfl,?_⟩⟩;have hto2:=pE.same s2;have J8:=s1'.trans s2;cases ps with
  | nil =>
   cases vs with
   | cons v vs=>exact pE.elim
   | nil =>
    cases ef;refine bT rfl (hN _ _ ?_);walk_at "w";obtain ⟨ns,bE,⟨f,a',t',ha',ht',hk',bK,hn99,A3⟩,fj⟩:=kY rfl;refine ⟨fits (by simp),fun pl bb=>⟨by trivial,?_⟩⟩;have s3:=ai.upd (o:=.lst [tv,V.int (k:Int)]) bb;have c3:upd H2 pl (.lst [tv,V.int (k:Int)]) pl=some (.lst [tv,V.int (k:Int)]):=ay;generalize upd H2 pl (.lst [tv,V.int (k:Int)])=H3 at s3 c3 ⊢;simp only [bG,c3];obtain ⟨tt,jJ,iX⟩:=iX;rw [jJ] at ht'; cases ht';have hq:cx [tv,V.int (k:Int)] (if decide (nv=V.ax)=true then 1 else 0)=some (V.int (S'.here:Int))∧k=f∧(nv=.ax∧bE=[]∨∃ nm:Str,nv=.str nm∧bE=[nm]∧nm.length≤8)∧∃ tk,M.ts[k]?=some tk:=by
     rcases iX with ⟨h1,rfl,rfl,_⟩ | ⟨h1,nm,tf,h2,rfl,h3,rfl,h4⟩
     ·rcases hk' with ⟨_,rfl,rfl⟩ | ⟨h,_⟩
      ·exact ⟨by rw [if_pos (decide_eq_true rfl)]; exact gJ (j:=1) rfl,rfl,.inl ⟨rfl,rfl⟩,_,jJ⟩
      ·exact absurd h1 h
     ·rcases hk' with ⟨h,_⟩ | ⟨_,nm',h5,rfl,h6⟩
      ·exact absurd h h1
      ·rw [h2] at h5; cases h5;exact ⟨by rw [if_neg (by rw [decide_eq_false (by nofun)]; nofun)]; exact gJ (j:=0) rfl,rfl,.inr ⟨_,rfl,rfl,h3⟩,tf,h4⟩
    obtain ⟨e1,rfl,e2,tk',e3⟩:=hq;rw [e1];refine ⟨AA,L,M,k,r0,tk',ns,bE,i2.same s3,rfl,rfl,pF,g,hn,e3,e2,bK,hn99,A3,fun H4 s4=>?_⟩;refine uB (by simp) ((s3.trans s4) _ _ b2) fun p d H' s' hp hd ha=>q p d av H' ((J8.trans (s3.trans s4)).trans s') hp (by rw [fj]; exact hd) (by rw [has]; exact ha)
  | cons p ps =>
   cases vs with
   | nil=>exact pE.elim
   | cons v vs =>
    obtain ⟨S1,o1',aQ,vO⟩:=Tu ef;obtain ⟨⟨pa,pc,rfl,IU⟩,hto3⟩:=hto2;refine b8 rfl ⟨_,fun _ _ h=>h,NJ fun D hnx hrt=>eF fun N hN=>?_⟩;walk_at "w";have t3:upd H2 tk (.lst vs) tk=some (.lst vs):=ay;have JS:=hto3.upd (o:=.lst vs) t2;have Jx:upd H2 tk (.lst vs) pa=some (.tup [V.str p,pc]):=by rw [ah (bN IU t2 (by nofun))]; exact IU
    have b3:upd H2 tk (.lst vs) av=some (.lst (nV S.asked)):=by rw [ah nat]; exact b2
    have iU:ai H (upd H2 tk (.lst vs)):=J8.eL ftk';simp only [t2];refine ⟨_,_,rfl,pa,_,rfl,bW.of Jx,rfl,_,_,rfl,_,_,rfl,rfl,hN _ _ (eF fun N hN=>?_)⟩;generalize upd H2 tk (.lst vs)=H3 at t3 JS Jx b3 iU ⊢;walk_at "w";refine hN _ _ (eF fun N hN=>?_);have i3:=i.same iU;obtain ⟨gU,c3,cX,hU,fk⟩:=i3.h;obtain ⟨tt,jJ,iX⟩:=iX;have px:=da p (by simp);walk_at "w";refine ⟨by trivial,?_⟩;rcases iX with ⟨dH,rfl,rfl,Kg⟩ | ⟨dH,nm,tf,bb,rfl,_⟩
    ·refine bT (congrArg not (decide_eq_true rfl)) (hN _ _ (eF fun N hN=>?_));walk_at "w";simp only [b3];refine ⟨gP (by simp at hlen ⊢; omega),hN _ _ (eF fun N hN=>?_)⟩;have b4:upd H3 av (.lst (nV S.asked++[V.int (S.here:Int)])) av=some (.lst (nV (S.asked++[S.here]))):=by rw [ay,nR]; rfl
     have t4:upd H3 av (.lst (nV S.asked++[V.int (S.here:Int)])) tk=some (.lst vs):=by rw [ah (Ne.symm nat)]; exact t3
     have Iv:=JS.upd (o:=.lst (nV S.asked++[V.int (S.here:Int)])) b3;have BM:ai H (upd H3 av (.lst (nV S.asked++[V.int (S.here:Int)]))):=iU.eL fJ;generalize upd H3 av (.lst (nV S.asked++[V.int (S.here:Int)]))=H4 at b4 t4 Iv BM ⊢;have i4:=i.same BM;walk_at "w";refine ⟨AA,L,M,tt,S.here,r0,i4,rfl,rfl,pF,g,jJ,Kg,px,fun H5 s5=>hN _ _ (eF fun N hN=>?_)⟩;have b5:=s5 _ _ b4;have t5:=s5 _ _ t4;have IM:=Iv.same s5;have jL:=BM.trans s5;have i5:=i.same jL;obtain ⟨JG,c5,gy,hfl5,A5⟩:=i5.h;walk_at "w";refine ⟨AA.a,_,_,rfl,gy,(A5 _).trans rfl,yT i5 (by rw [pF]; rfl) (by decide +kernel) jJ ?_⟩;cases hm:cZ ("g" : Str) (cK tt z) with
     | false =>
      refine b8 rfl ?_;obtain ⟨rfl,e2,e3⟩:=OR aQ jJ dH hm;rcases vO with ⟨e,_⟩ | ⟨y,e,rfl,rfl⟩
      ·cases e
      cases e;refine uB (by simp) b5 fun p d H' s' hp hd ha=>hrt _ _ (q p d av H' (jL.trans s') hp ?_ (by rw [has,e3]; exact ha));rw [mR _ rfl,e2];exact hd
     | true =>
      refine bT rfl (hN _ _ (eF fun N hN=>?_));walk_at "w";refine ⟨by trivial,?_⟩;obtain ⟨e2,e3,hto7⟩:=toStep g aQ jJ dH hm px Kg;rcases hto7 with ⟨e1,rfl⟩ | ⟨cn,tc,e1,eQ,rfl,e4,e5⟩
      ·rw [e1];rcases vO with ⟨e,_⟩ | ⟨y,e,rfl,rfl⟩
       ·cases e
       cases e;refine b8 (decide_eq_true rfl) ?_;refine uB (by simp) b5 fun p d H' s' hp hd ha=>hrt _ _ (q p d av H' (jL.trans s') hp ?_ (by rw [has,e3]; exact ha));rw [mR _ rfl,e2];exact hd
      ·rw [e1];have hrun':fY M L z r0 S1 ps S' o:=by
        rcases vO with ⟨_,h⟩ | ⟨y,e,_⟩
        ·exact h
        ·cases e
       refine bT (decide_eq_false (by nofun)) (hN _ _ ?_);obtain ⟨ac,gf⟩:=adr i5.len eQ;walk_at "w";refine ⟨AA.a,_,_,rfl,gy,(A5 _).trans rfl,AA,L,M,cn,ac,tc,i5,rfl,rfl,gf,eQ,?_⟩;simp only [nH];have hlen':S1.asked.length+ps.length≤600:=by rw [e3]; simp at hlen ⊢; omega
       rcases e5 with ⟨gx,hbc⟩ | ⟨gx,e6,e7⟩
       ·refine b8 (decide_eq_true gx) ?_;refine ⟨AA,L,M,cn,i5,rfl,rfl,g.tr,g.un,fun H6 s6=>hnx _ _ ⟨ps.length,Nat.lt_succ_self _,S1,ps,vs,cn,.ax,tv,_,_,_,rfl,jL.trans s6,by rw [e2]; rfl,by rw [e3]; exact s6 _ _ b5,s6 _ _ t5,IM.same s6,fun p hp=>da p (by simp [hp]),hlen',hrun',tc,by rw [e4]; exact eQ,.inl ⟨gx,e4.symm,rfl,by rw [e4]; exact hbc⟩⟩⟩
       ·refine bT (decide_eq_false (by rw [gx]; decide +kernel)) ?_;refine ⟨AA.a,_,_,rfl,gy,(A5 _).trans rfl,AA,L,M,cn,ac,tc,i5,rfl,rfl,gf,eQ,?_⟩;refine b8 (decide_eq_true gx) (ao ?_);walk_at "w";refine hnx _ _ ⟨ps.length,Nat.lt_succ_self _,S1,ps,vs,S.here,.str p,.int (cn:Int),_,_,_,rfl,jL,by rw [e2]; rfl,by rw [e3]; exact b5,t5,IM,fun p hp=>da p (by simp [hp]),hlen',hrun',tc,by rw [e4]; exact eQ,.inr ⟨by rw [gx]; decide +kernel,p,tt,e6,rfl,e7,by rw [e4],jJ⟩⟩
    ·refine b8 (congrArg not (decide_eq_false (by nofun))) ?_;obtain ⟨rfl,e2,e3⟩:=Ui aQ jJ dH;rcases vO with ⟨e,_⟩ | ⟨y,e,rfl,rfl⟩
     ·cases e
     cases e;refine uB (by simp) b3 fun p d H' s' hp hd ha=>hrt _ _ (q p d av H' (iU.trans s') hp ?_ (by rw [has,e3]; exact ha));rw [mR _ rfl,e2];exact hd
def QM (CF CX:Addr):Sp:=tZ fun fd d H Q _=>∃ aK e,H fd=some (.ins (uM CF CX e) aK (ub e))∧H d=some (.tup (uH e))∧∀ H',ai H H'→Q (.bl true) H'
def Ha (w0:Str):List V:=[("found" : Str),("failed" : Str),("ring" : Str)].map fun y=>V.bl (decide (w0=y))
theorem Fx {w0:Str} {r:List V} {fd d p:Addr} {H:Hp} {xs:List V} {C Q:Hp→Prop} (hd:H d=some (.tup (.str w0::r))) (hp:H p=some (.lst xs)) (hx:xs=Ha w0) (q:∀ H',ai H H'→Q H') :
  kH [("_law_word_here" : Str)].length [1] (t9 K (ua (gO (tC (V.str (Str.ofString "found"))) (gO (tC (V.str (Str.ofString "failed"))) (gO (tC (V.str (Str.ofString "ring"))) gg))))) (eX 0) il (gN (pe false) (gN (me K) (lV 1) (tC (V.int 0))) (lV 0))
   [some (V.ref fd),some (V.ref d),some (V.ref p)] H (fun y H2=>fW K true (.ref p) y H2 (fun v H3=>match v with | .bl b=>if b=true then C H3 else Q H3 | _=>False)):=by
 rw [zF];refine ⟨[V.ref d],⟨rfl,fun i j v h1 h2=>?_⟩,?_⟩
 ·match i,h1,h2 with
  | 0,h1,h2=>cases h1; cases h2; rfl
 walk_at "w";refine ⟨fits (by simp),fun l hl=>?_⟩;have s1:=ai.upd (o:=.lst [V.str (Str.ofString "found"),V.str (Str.ofString "failed"),V.str (Str.ofString "ring")]) hl;have b1:upd H l (.lst [V.str (Str.ofString "found"),V.str (Str.ofString "failed"),V.str (Str.ofString "ring")]) l=some (.lst [V.str (Str.ofString "found"),V.str (Str.ofString "failed"),V.str (Str.ofString "ring")]):=ay;generalize upd H l (.lst [V.str (Str.ofString "found"),V.str (Str.ofString "failed"),V.str (Str.ofString "ring")])=H1 at s1 b1 ⊢;have mI:=s1 _ _ hd;refine ⟨⟨_,aL.of b1⟩,P7 (fun x=>match x with | .str y=>V.bl (decide (w0=y)) | _=>.ax) (aL.of b1) (by simp) (fun x hx R hR=>?_) (fun l2 cv=>?_)⟩
 ·simp only [List.mem_cons,List.not_mem_nil,or_false] at hx;simp only [List.map_cons,List.map_nil];walk_at "w";simp only [bG,mI,c7];rcases hx with rfl | rfl | rfl <;> exact hR
 ·have s2:=s1.trans (ai.upd (o:=.lst ([V.str (Str.ofString "found"),V.str (Str.ofString "failed"),V.str (Str.ofString "ring")].map fun x=>match x with | .str y=>V.bl (decide (w0=y)) | _=>.ax)) cv);subst hx;refine fW.same (K:=K) (neg:=true) (Q:=fun v H3=>match v with | .bl b=>if b=true then C H3 else Q H3 | _=>False) (xs:=Ha w0) (.inl ⟨aL.of (s2 _ _ hp),aL.of ay⟩) rfl ?_;exact bT rfl (q _ s2)
theorem FL (T:Tx K mg):aA P w K mg base aO 1 T.jl.f T.jl.d ["_law_told", "_law_due"] (QM T.cb T.bC):=by
 refine T.jl.F.ok D8 (fun vs H Q E h=>?_) (fun az A outer s H vs Q E hr h=>?_)
 ·exact nG h fun _ _ _=>rfl
 ·refine nG h fun fd d h=>?_;obtain ⟨aK,e,bt,hd,q⟩:=h;refine bA (b:=aU zO) ((Dv.cut (Dv.aS 2 D8.nd (Dv.lst (Dv.aa (Dv.cA (rg (K:=K) rfl) T.fC fB (Dv.aa (Dv.v 0) (Dv.aa (Dv.glob (.ref T.cb) T.xR rfl) Dv.ag))) (Dv.aa (Dv.cA (rg (K:=K) rfl) T.fC fB (Dv.aa (Dv.v 0) (Dv.aa (Dv.glob (.ref T.bC) T.Dc rfl) Dv.ag))) (Dv.aa (Dv.cA (rg (K:=K) rfl) T.fC fB (Dv.aa (Dv.v 0) (Dv.aa (Dv.glob (.ref T.vk) T.Q0 rfl) Dv.ag))) Dv.ag)))))
  (Dv.cut (Dv.aX (Dv.dE (Dv.w_or (Dv.cC (Dv.cu (Dv.cA (rg (K:=K) rfl) T.fC fB (Dv.aa (Dv.v 0) (Dv.aa (Dv.glob (.ref T.vL) T.Rt rfl) Dv.ag))))) (Dv.iL (Dv.aY (F8 (K:=K) rfl hr.fV) (Dv.v 2) (Dv.FD rfl (TN:=["_law_word_here"]) (caps:=["_law_due"]) (ix:=[1]) (Dv.iH (K:=K) rfl (Dv.lst (Dv.aa Dv.str (Dv.aa Dv.str (Dv.aa Dv.str Dv.ag))))) (fun _ _ _ _=>by exact Dv.uZ) (fun _ _ _ _=>by exact (Dv.dM 0 (show List.Nodup (["_law_word_here", "_law_due"]:List Str) by decide))) (fun _ _ _ _=>by exact (Dv.cmp (cq) (Dv.ix (br (K:=K) rfl) (Dv.v 1) Dv.int) (Dv.v 0))) (.of rfl (by exact ⟨rfl,trivial⟩) (by (repeat (first | exact trivial | (refine ⟨fun z=>(by first | exact ⟨_,rfl⟩ | (rcases z with z | z <;> cases z)),?_⟩)))) rfl (by exact ⟨⟨rfl,rfl,rfl,rfl⟩,trivial⟩))))))) (Dv.aj (Dv.aP Dv.bl)) Dv.nil)
  (Dv.cut (Dv.aX (Dv.aY cq (Dv.ix (br (K:=K) rfl) (Dv.v 1) Dv.int) Dv.str) (Dv.aj (Dv.aP (Dv.cmp (xy (K:=K) rfl hr.fV) (Dv.tup (Dv.aa (Dv.fld T.iE T.zu (Dv.v 0)) (Dv.aa (Dv.fld T.iE T.Dq (Dv.v 0)) Dv.ag))) (Dv.slice (Cj (K:=K) rfl) (Dv.v 1) (Dv.oY Dv.int) Dv.tS)))) Dv.nil)
  (Dv.cut (Dv.aX (Dv.aY cq (Dv.ix (br (K:=K) rfl) (Dv.v 1) Dv.int) Dv.str) (Dv.aj (Dv.aP (Dv.cmp (xy (K:=K) rfl hr.fV) (Dv.tup (Dv.aa (Dv.fld T.jx T.ED (Dv.v 0)) (Dv.aa (Dv.fld T.jx T.EM (Dv.v 0)) Dv.ag))) (Dv.slice (Cj (K:=K) rfl) (Dv.v 1) (Dv.oY Dv.int) Dv.tS)))) Dv.nil)
  (Dv.aj Dv.cR)))))) ?_
  refine stI [some (V.ref fd),some (V.ref d),none] ?_;refine ao ?_;walk_at "w";rcases e with ⟨k,ns⟩ | ⟨k,y⟩
  ·refine ⟨_,_,_,.of (.ins bt T.iE T.q1 T.q2 T.q3 T.q4),.cls T.q5,_,_,_,.of (.ins bt T.iE T.q1 T.q2 T.q3 T.q4),.cls T.q9,_,_,_,.of (.ins bt T.iE T.q1 T.q2 T.q3 T.q4),.cls T.kJ,fits (by simp),fun p hp=>ao ?_⟩;have s1:=ai.upd (o:=.lst [V.bl true,V.bl false,V.bl false]) hp;have b1:upd H p (.lst [V.bl true,V.bl false,V.bl false]) p=some (.lst [V.bl true,V.bl false,V.bl false]):=ay;generalize upd H p (.lst [V.bl true,V.bl false,V.bl false])=H1 at s1 b1 ⊢;have sQ:=s1 _ _ bt;have mI:=s1 _ _ hd;walk_at "w";refine ⟨_,_,_,.of (.ins sQ T.iE T.q1 T.q2 T.q3 T.q4),.cls T.MG,bf ?_⟩;refine Fx (w0 := "found") (r:=[V.int (k:Int),V.str (gm ns)]) mI b1 rfl fun H2 s2=>ao ?_;walk_at "w";have hd2:=s2 _ _ mI;have sj:=s2 _ _ sQ;unfold uH at hd2;simp only [bG,hd2,c7];refine b8 (decide_eq_true (by trivial)) ?_;refine ⟨fd,_,_,_,rfl,sj,rfl,fd,_,_,_,rfl,sj,rfl,?_⟩;refine ⟨fits (by simp),fun p2 eC=>?_⟩;have s3:=s2.trans (ai.upd (o:=.tup [V.int (k:Int),V.str (gm ns)]) eC);have c3:upd H2 p2 (.tup [V.int (k:Int),V.str (gm ns)]) p2=some (.tup [V.int (k:Int),V.str (gm ns)]):=ay;have mB:=(ai.upd (o:=.tup [V.int (k:Int),V.str (gm ns)]) eC) _ _ hd2;generalize upd H2 p2 (.tup [V.int (k:Int),V.str (gm ns)])=H3 at s3 c3 mB ⊢;refine ⟨d,_,rfl,bW.of mB,fun z=>(by have:=z.1; simp [HT.bj] at this),fun p4 kP=>?_⟩;have s4:=ai.upd (o:=.tup [V.int (k:Int),V.str (gm ns)]) kP;exact fW.same (K:=K) (neg:=false) (xs:=[V.int (k:Int),V.str (gm ns)]) (.inr ⟨bW.of (s4 _ _ c3),bW.of ay⟩) rfl (q _ ((s1.trans s3).trans s4))
  ·refine ⟨_,_,_,.of (.ins bt T.jx T.q6 T.q2 T.q3 T.q7),.cls T.q8,_,_,_,.of (.ins bt T.jx T.q6 T.q2 T.q3 T.q7),.cls T.Uo,_,_,_,.of (.ins bt T.jx T.q6 T.q2 T.q3 T.q7),.cls T.So,fits (by simp),fun p hp=>ao ?_⟩;have s1:=ai.upd (o:=.lst [V.bl false,V.bl true,V.bl false]) hp;have b1:upd H p (.lst [V.bl false,V.bl true,V.bl false]) p=some (.lst [V.bl false,V.bl true,V.bl false]):=ay;generalize upd H p (.lst [V.bl false,V.bl true,V.bl false])=H1 at s1 b1 ⊢;have sQ:=s1 _ _ bt;have mI:=s1 _ _ hd;walk_at "w";refine ⟨_,_,_,.of (.ins sQ T.jx T.q6 T.q2 T.q3 T.q7),.cls T.LZ,bf ?_⟩;refine Fx (w0 := "failed") (r:=[V.int (k:Int),V.str y]) mI b1 rfl fun H2 s2=>ao ?_;walk_at "w";have hd2:=s2 _ _ mI;have sj:=s2 _ _ sQ;unfold uH at hd2;simp only [bG,hd2,c7];refine bT (decide_eq_false (by decide +kernel)) (ao ?_);walk_at "w";simp only [bG,hd2,c7];refine b8 (decide_eq_true (by trivial)) ?_;refine ⟨fd,_,_,_,rfl,sj,rfl,fd,_,_,_,rfl,sj,rfl,?_⟩;refine ⟨fits (by simp),fun p2 eC=>?_⟩;have s3:=s2.trans (ai.upd (o:=.tup [V.int (k:Int),V.str y]) eC);have c3:upd H2 p2 (.tup [V.int (k:Int),V.str y]) p2=some (.tup [V.int (k:Int),V.str y]):=ay;have mB:=(ai.upd (o:=.tup [V.int (k:Int),V.str y]) eC) _ _ hd2;generalize upd H2 p2 (.tup [V.int (k:Int),V.str y])=H3 at s3 c3 mB ⊢;refine ⟨d,_,rfl,bW.of mB,fun z=>(by have:=z.1; simp [HT.bj] at this),fun p4 kP=>?_⟩;have s4:=ai.upd (o:=.tup [V.int (k:Int),V.str y]) kP;exact fW.same (K:=K) (neg:=false) (xs:=[V.int (k:Int),V.str y]) (.inr ⟨bW.of (s4 _ _ c3),bW.of ay⟩) rfl (q _ ((s1.trans s3).trans s4))
theorem GD (l:List Nat):(nV l).all cw=true:=by
 rw [List.all_eq_true];intro x hx;obtain ⟨n,_,rfl⟩:=List.mem_map.mp hx;rfl
def Qa (CH CS CT:Addr):Sp:=m7 fun x z pt fin H Q _=>∃ A L M t,pt=Tx.S t∧aI CH CS CT H A L M∧A.a=x∧z∈AS∧Gd M∧M.ts.length≤90∧fF t∧t.length≤300∧∀ H',ai H H'→Q (.bl true) H'
structure rA (a:Addr) (z pt:Str) (fin:Bool) (d av:Addr) (wh:Int) (H1:Hp) (σ:L2.St) (H':Hp):Prop where
 e:σ=[some (V.ref a),some (V.str z),some (V.str pt),some (V.bl fin),some (V.ref d),some (V.ref av),some (V.int wh)]
 s:ai H1 H'
theorem NW (T:Tx K mg):aA P w K mg base aO 13 T.n8.f T.n8.d ["_law_house_here", "_law_asker", "_law_path_here", "_law_final"] (Qa T.au T.aD T.aG):=by
 refine T.n8.F.ok uO (fun vs H Q E h=>?_) (fun az A outer s H vs Q E hr h=>?_)
 ·exact hZ h fun _ _ _ _ _=>rfl
 ·refine hZ h fun x z pt fin h=>?_;obtain ⟨AA,L,M,t,rfl,i,rfl,hz,g,hn,hp,hl,q⟩:=h;have ph:(Tx.words 47 t).length≤400:=Nat.le_trans (List.length_filter_le _ _) (Nat.le_trans (Tx.uo 47 t) (by omega));obtain ⟨e,pw,_⟩:=ox g i.len hn hz hp ph;refine bA (b:=aU we) ((Dv.cut (Dv.pS (Dv.call (Vu T) (hr.mono (by decide)) T.nI.m T.nI.F.kp T.nI.b .nil aw (Dv.aa (Dv.v 0) (Dv.aa (Dv.v 1) (Dv.aa (Dv.v 2) (Dv.aa (Dv.v 3) Dv.ag))))) (Dv.tm (K:=K) (n:=2) rfl rfl (Dv.j6 (Dv.dM 4 uO.nd) (Dv.j6 (Dv.dM 5 uO.nd) Dv.uT))))
  (Dv.cut (Dv.aS 6 uO.nd (Dv.op kx (Dv.op ee (Dv.cA (kI (K:=K) rfl) T.jG PySem.boot_len (Dv.aa (Dv.v 2) Dv.ag)) (Dv.nE uP T.qB qj (Dv.aa (Dv.v 3) Dv.ag))) Dv.int))
  (Dv.cut (Dv.aX (Dv.dE (Dv.w_and (Dv.aY tR (Dv.v 6) Dv.int) (Dv.iD (Dv.aY (F8 (K:=K) rfl hr.fV) (Dv.call (Di T) (hr.mono (by decide)) T.G3 T.rF.kp T.uI .nil aw (Dv.aa (Dv.v 0) (Dv.aa (Dv.v 1) (Dv.aa (Dv.v 2) (Dv.aa (Dv.v 3) Dv.ag))))) (Dv.v 5))))) (Dv.aj (Dv.aP Dv.bl)) Dv.nil)
  (Dv.cut (Dv.aX (Dv.aY cq (Dv.v 6) Dv.int) (Dv.aj (Dv.aW (Dv.call (rm T) (hr.mono (by decide)) T.rn T.ji.kp T.qg (.cons (show RelV (.bl true) _ from rfl) .nil) aw (Dv.aa (Dv.v 0) (Dv.aa Dv.str (Dv.aa Dv.str Dv.ag)))))) Dv.nil)
  (Dv.cut (Dv.aX (Dv.cC (Dv.cu (Dv.call (FL T) (hr.mono (by decide)) T.jl.m T.jl.F.kp T.jl.b .nil aw (Dv.aa (Dv.UN (rm T) (hr.mono (by decide)) T.rn T.ji.kp (Sh T.ji rfl (fun _ _ _ _ _ _ _ _ _ _ _=>⟨_,rfl,rfl⟩)) aw (Dv.aa (Dv.v 0) (Dv.aa (Dv.v 1) (Dv.aa (Dv.v 2) Dv.ag))) (Dv.v 3)) (Dv.aa (Dv.v 4) Dv.ag))))) (Dv.aj (Dv.aP Dv.bl)) Dv.nil)
  (Dv.cut (Dv.aX (Dv.dE (Dv.w_and (Dv.cu (Dv.v 3)) (Dv.iD (Dv.cC (Dv.cu (Dv.call (FL T) (hr.mono (by decide)) T.jl.m T.jl.F.kp T.jl.b .nil aw (Dv.aa (Dv.call (rm T) (hr.mono (by decide)) T.rn T.ji.kp T.qg (.cons (show RelV (.bl true) _ from rfl) .nil) aw (Dv.aa (Dv.v 0) (Dv.aa (Dv.v 1) (Dv.aa (Dv.v 2) Dv.ag)))) (Dv.aa (Dv.v 4) Dv.ag)))))))) (Dv.aj (Dv.aP Dv.bl)) Dv.nil)
  (Dv.cut (Dv.aW (Dv.call (rm T) (hr.mono (by decide)) T.rn T.ji.kp T.xX .nil aw (Dv.aa (Dv.v 0) (Dv.aa Dv.str (Dv.aa Dv.str (Dv.aa Dv.bl Dv.ag))))))
  (Dv.aj (Dv.aP (Dv.cmp (xy (K:=K) rfl hr.fV) (Dv.call (Di T) (hr.mono (by decide)) T.G3 T.rF.kp T.uI .nil aw (Dv.aa (Dv.v 0) (Dv.aa (Dv.v 1) (Dv.aa (Dv.v 2) (Dv.aa (Dv.v 3) Dv.ag))))) (Dv.v 5)))))))))))) ?_
  refine stI [some (V.ref AA.a),some (V.str z),some (V.str (Tx.S t)),some (V.bl fin),none,none,none] ?_;refine ao ?_;walk_at "w";refine ⟨AA,L,M,t,e,rfl,i,rfl,hz,g,hn,by omega,pw,fun p d av H1 s1 mC hd fJ=>?_⟩;refine ⟨p,_,rfl,bW.of mC,rfl,_,_,rfl,_,_,rfl,rfl,ao ?_⟩;have i1:=i.same s1;walk_at "w";refine ⟨by rw [Tx.bY]; exact fits (by omega),by decide,?_⟩;generalize (((Tx.S t).length:Int)+if fin=true then 1 else 0) % 3=wh;refine eE (rA AA.a z (Tx.S t) fin d av wh H1) ?_ ?_
  ·walk_at "w";refine i8 (fun _=>?_) (fun _=>bf ⟨rfl,fun _ _ e=>e⟩);refine ⟨AA,L,M,t,e,rfl,i1,rfl,pw,fun av2 H2 s2 hav2=>?_⟩;exact fW.same (K:=K) (neg:=true) (Q:=fun v H3=>match v with | .bl b=>if b=true then Q (.bl false) H3 else rA AA.a z (Tx.S t) fin d av wh H1 _ H3 | _=>False) (.inl ⟨aL.of hav2,aL.of (s2 _ _ fJ)⟩) (GD _) (bT rfl ⟨rfl,s2⟩)
  rintro σ' H2 ⟨rfl,s2⟩;have sP:("ann" : Str)∈AS:=by decide +kernel
  refine eE (rA AA.a z (Tx.S t) fin d av wh H1) ?_ ?_
  ·walk_at "w";obtain ⟨e2,pw2,_⟩:=ox (L:=L) g i1.len hn sP (t:=[47,97,47,46,46]) ⟨by decide,by decide,by decide +kernel⟩ (by decide +kernel);exact i8 (fun _=>⟨AA,L,M,_,e2,by decide +kernel,i1.same s2,rfl,pw2,fun fd aK H3 s3 _=>⟨rfl,s2.trans s3⟩⟩) (fun _=>⟨rfl,s2⟩)
  clear s2 H2;rintro σ' H2 ⟨rfl,s2⟩;refine eE (rA AA.a z (Tx.S t) fin d av wh H1) ?_ ?_
  ·walk_at "w";refine ⟨AA,L,M,t,e,rfl,i1.same s2,rfl,pw,fun fd aK H3 s3 bt=>⟨aK,e.res,bt,(s2.trans s3) _ _ hd,fun H4 s4=>bT rfl ⟨rfl,(s2.trans s3).trans s4⟩⟩⟩
  clear s2 H2;rintro σ' H2 ⟨rfl,s2⟩;refine eE (rA AA.a z (Tx.S t) fin d av wh H1) ?_ ?_
  ·walk_at "w";cases fin with
   | false=>exact bT rfl (bf ⟨rfl,s2⟩)
   | true =>
    refine b8 rfl ?_;exact ⟨AA,L,M,t,e,rfl,i1.same s2,rfl,pw,fun fd aK H3 s3 bt=>⟨aK,e.res,bt,(s2.trans s3) _ _ hd,fun H4 s4=>bT rfl ⟨rfl,(s2.trans s3).trans s4⟩⟩⟩
  clear s2 H2;rintro σ' H2 ⟨rfl,s2⟩;refine ao ?_;walk_at "w";obtain ⟨e3,pw3,_⟩:=ox (L:=L) g i1.len hn sP (t:=[98,47,46,46,47,97]) ⟨by decide,by decide,by decide +kernel⟩ (by decide +kernel);refine ⟨AA,L,M,_,e3,by decide +kernel,i1.same s2,rfl,pw3,fun fd aK H3 s3 _=>?_⟩;walk_at "w";refine ⟨AA,L,M,t,e,rfl,i1.same (s2.trans s3),rfl,pw,fun av2 H4 s4 hav2=>?_⟩;exact fW.same (K:=K) (neg:=false) (Q:=Q) (.inl ⟨aL.of hav2,aL.of (((s2.trans s3).trans s4) _ _ fJ)⟩) (GD _) (q _ (s1.trans ((s2.trans s3).trans s4)))
def zJ (xs:List V):Prop:=∀ v∈xs,∀ a,v≠V.ref a
theorem zS (zs:List Int):zJ (zs.map V.int):=fun v hv a=>by obtain ⟨z,_,rfl⟩:=List.mem_map.mp hv; nofun
theorem Wh (zs:List Str):zJ (zs.map V.str):=fun v hv a=>by obtain ⟨z,_,rfl⟩:=List.mem_map.mp hv; nofun
def tH:HO→Prop
 | .lst xs=>zJ xs
 | .dY _ _=>True
 | _=>False
def dR (st:Addr) (H H':Hp):Prop:=∀ c o,c≠st→tH o→H c=some o→H' c=some o
def dB (H H':Hp):Prop:=∀ c o,tH o→H c=some o→H' c=some o
theorem dB.l {st:Addr} {H H':Hp} (k:dB H H'):dR st H H':=fun c o _ h e=>k c o h e
theorem dR.trans {st:Addr} {H H1 H2:Hp} (a:dR st H H1) (b:dR st H1 H2):dR st H H2:=fun c o n h e=>b c o n h (a c o n h e)
theorem dB.trans {H H1 H2:Hp} (a:dB H H1) (b:dB H1 H2):dB H H2:=fun c o h e=>b c o h (a c o h e)
theorem dB.of {H H':Hp} (s:ai H H'):dB H H':=fun c o _ e=>s _ _ e
theorem dR.of {st:Addr} {H H':Hp} (k:ck st H H'):dR st H H':=fun c o n _ e=>k _ _ n e
theorem Dr.kp {st:Addr} {H H':Hp} (d:Dr st H) (k:dB H H'):Dr st H':=let ⟨zs,e,l⟩:=d; ⟨zs,k _ _ (zS zs) e,l⟩
section
variable {CH CS CT:Addr} {H H':Hp} {A:Ad} {L:List Ta} {M:Hs}
theorem aI.EB (i:aI CH CS CT H A L M) (h0:M.ts≠[]) {b:Addr} {o:HO} (hb:b∈A.w++L.flatMap Ta.l) (hx:tH o) (e:H b=Option.some o):False:=by
 rcases List.mem_append.mp hb with h | h
 ·simp only [Ad.w,List.mem_cons,List.not_mem_nil,or_false] at h;rcases h with rfl | rfl | rfl | rfl | rfl | rfl | rfl | rfl
  ·obtain ⟨_,_,e',_⟩:=i.h; rw [e'] at e; cases e; exact hx
  ·obtain ⟨_,_,e',_⟩:=i.t; rw [e'] at e; cases e; exact hx
  ·rw [i.ml] at e;cases e;cases L with
   | nil=>exact h0 (List.length_eq_zero_iff.mp i.len.symm)
   | cons a r=>exact hx (.ref a.th) (by simp) a.th rfl
  ·rw [i.ro] at e; cases e; exact hx
  ·rw [i.st] at e; cases e; exact hx
  ·rw [i.tr] at e; cases e; exact hx
  ·rw [i.ov] at e; cases e; exact hx
  ·rw [i.un] at e; cases e; exact hx
 ·obtain ⟨a,ha,h⟩:=List.mem_flatMap.mp h;obtain ⟨j,ha⟩:=List.getElem?_of_mem ha;have bV:j < M.ts.length:=by rw [← i.len]; exact (List.getElem?_eq_some_iff.mp ha).1
  obtain ⟨a',e1,t⟩:=i.th j _ (List.getElem?_eq_getElem bV);rw [ha] at e1; cases e1;simp only [Ta.l,List.mem_cons,List.not_mem_nil,or_false] at h;rcases h with rfl | rfl | rfl
  ·obtain ⟨_,e',_⟩:=t.o; rw [e'] at e; cases e; exact hx
  ·rw [t.nm] at e; cases e; exact hx
  ·rw [t.pl] at e; cases e; exact hx
theorem aI.off (i:aI CH CS CT H A L M) (h0:M.ts≠[]) {W:List Addr} (hW:∀ b∈W,b∈A.w++L.flatMap Ta.l) (k:Kp W H H'):dB H H':=fun c o ho e=>k c _ (fun hc=>i.EB h0 (hW c hc) ho e) e
theorem aI.drawn {st:Addr} (i:aI CH CS CT H A L M) (h0:M.ts≠[]) (d:Dr st H) (k:ck st H H'):aI CH CS CT H' A L M:=by
 refine i.keep (W:=[st]) (fun b o hb e=>k b o (by simpa using hb) e) fun b hb hm=>?_;obtain rfl:b=st:=by simpa using hm
 obtain ⟨zs,e,_⟩:=d;exact i.EB h0 hb (show tH (.lst (zs.map V.int)) from zS zs) e
end
def Hz (CH CS CT:Addr) (A:Ad) (n:Nat) (H:Hp):Prop:=∃ L M,aI CH CS CT H A L M∧Gd M∧M.ts.length≤n
theorem Gd.ne {M:Hs} (g:Gd M):M.ts≠[]:=fun e=>by obtain ⟨t,h,_⟩:=g.t0; rw [e] at h; cases h
def zN:List Str:=["folder", "file", "rights", "stand", "root"]
def SV (CH CS CT CN CD:Addr):Sp:=wM fun x z kd pt st H Q E=>∃ A t n,pt=Tx.S t∧Hz CH CS CT A n H∧A.a=x∧z∈AS∧n≤80∧tX t∧Dr st H∧kd∈zN ∧
   (∀ v H',Hz CH CS CT A (n+1) H'→Dr st H'→dR st H H'→Q v H')∧∀ C d H',C=CN∨C=CD→Hz CH CS CT A (n+1) H'→Dr st H'→dR st H H'→E (.ref C) (some d) H'
theorem dq.mk {CX CN CD:Addr} {H:Hp} {E:XK} (h:∀ C d H',C=CN∨C=CD→ai H H'→E (.ref C) (some d) H'):∀ r:Rf,dq CX CN CD H E r
 | .eg y=>fun d H' s _=>h CD d H' (.inr rfl) s
 | .way k y=>fun fd aK d H' s _ _=>h CN d H' (.inl rfl) s
theorem DB {CH CS CT CX CN CD:Addr} {H H1:Hp} {A:Ad} {L:List Ta} {M:Hs} {n:Nat} {z kd mi re tx:Str} {t:List Nat} {st:Addr} {Q:VK} {E:XK} (i:aI CH CS CT H1 A L M) (g:Gd M) (hn:M.ts.length≤n) (r8:n≤80) (hz:z∈AS) (hp:tX t) (d:Dr st H1) (kl:dR st H H1)
  (ij:mi∈gF) (iJ:re∈gF) (bI:kd=("folder" : Str)∨kd=("file" : Str)) (q1:∀ v H',Hz CH CS CT A (n+1) H'→Dr st H'→dR st H H'→Q v H') (q2:∀ C d H',C=CN∨C=CD→Hz CH CS CT A (n+1) H'→Dr st H'→dR st H H'→E (.ref C) (some d) H') :
  xV CH CS CT CX CN CD H1 A L M z t kd mi re tx Q E:=by
 have mv:fF t:=⟨hp.l1,by have:=hp.l2; omega,hp.all⟩;have hw:=hp.n;obtain ⟨r,hr,hf⟩:=R1 g i.len (by omega) hz mv (by omega);obtain ⟨r0,k0,ga⟩:=g.as z hz;refine ⟨i,mv,by rw [ga.ro]; rfl,ij,iJ,by rw [i.len]; omega,fun f t0 h=>by have:=(g.th f t0 h).nl; omega,r,hr,fun x e=>dq.mk (fun C dd H' hC s=>q2 C dd H' hC ⟨L,M,i.same s,g,by omega⟩ (d.same s) (kl.trans (dB.of s).l)) x,fun f nm a0 t0 e jW jT a H' i' k'=>?_⟩;obtain ⟨tf,bq,dH,bK,hv⟩:=hf f nm e;rw [jT] at bq; cases bq;have kA:=i.off g.ne (W:=[A.t,A.ml,a0.nm]) (fun b hb=>by
  simp only [List.mem_cons,List.not_mem_nil,or_false] at hb;rcases hb with rfl | rfl | rfl
  ·simp [Ad.w]
  ·simp [Ad.w]
  ·exact List.mem_append_right _ (gE jW (by simp [Ta.l]))) k'
 refine q1 _ H' ⟨_,_,i',g.make jT dH (by rw [Tx.bY]; exact (tw bK).2.2.2) hv bI,?_⟩ (d.kp kA) (kl.trans kA.l);simp;omega
theorem Tt (m:Nat) (h:m < 100):(Str.ofString (toString (m:Int))).length≤10:=by
 have:∀ m < 100,(Str.ofString (toString ((m:Nat):Int))).length≤10:=by decide +kernel
 exact this m h
theorem RP (m:Nat) (h:m < 100):((m:Int)).natAbs.log2 < 1920:=by
 have:∀ m < 100,(((m:Nat):Int)).natAbs.log2 < 1920:=by decide +kernel
 exact this m h
theorem Ow (a b:Str):(a++b).length=a.length+b.length:=by
 rw [← Tx.zj a,← Tx.zj b,Tx.nW,Tx.bY,Tx.bY,Tx.bY,List.length_append]
theorem OC (T:Tx K mg):aA P w K mg base (cm P w) 16 T.oN.f T.oN.d ["_law_house_here", "_law_asker", "_law_kind", "_law_path_here", "_law_state"] (SV T.au T.aD T.aG T.c9 T.dG):=by
 refine T.oN.F.di US (fun vs H Q E h=>?_) (fun az A outer s H vs Q E hr h=>?_)
 ·exact ud h fun _ _ _ _ _ _=>rfl
 ·refine ud h fun x z kd pt st h=>?_;obtain ⟨AA,t,n,rfl,⟨L,M,i,g,hn⟩,rfl,hz,r8,hp,d,bI,q1,q2⟩:=h;refine bA (b:=aU yr) ((Dv.aj (Dv.aX (Dv.aY cq (Dv.v 2) Dv.str) (Dv.aj (Dv.aW (Dv.dj (Tj T) (hr.mono (by decide)) T.Pq T.tu.kp T.xF .nil cG (Dv.aa (Dv.v 0) (Dv.aa (Dv.v 1) (Dv.aa (Dv.v 3) (Dv.aa (Dv.call (oX T) (hr.mono (by decide)) T.dk.m T.dk.F.kp T.dk.b .nil aw (Dv.aa (Dv.v 4) Dv.ag)) (Dv.aa (Dv.call (oX T) (hr.mono (by decide)) T.dk.m T.dk.F.kp T.dk.b .nil aw (Dv.aa (Dv.v 4) Dv.ag)) Dv.ag)))))))) (Dv.aj (Dv.aX (Dv.aY cq (Dv.v 2) Dv.str) (Dv.aj (Dv.aW (Dv.dj (Vb T) (hr.mono (by decide)) T.Q6 T.uC.kp T.zc .nil cG (Dv.aa (Dv.v 0) (Dv.aa (Dv.v 1) (Dv.aa (Dv.v 3) (Dv.aa (Dv.op ee Dv.str (Dv.nE MJ T.j8 j0 (Dv.aa (Dv.call (fS T) (hr.mono (by decide)) T.bJ.m T.bJ.F.kp T.bJ.b .nil aw (Dv.aa (Dv.v 4) (Dv.aa Dv.int Dv.ag))) Dv.ag))) (Dv.aa (Dv.call (oX T) (hr.mono (by decide)) T.dk.m T.dk.F.kp T.dk.b .nil aw (Dv.aa (Dv.v 4) Dv.ag)) (Dv.aa (Dv.call (oX T) (hr.mono (by decide)) T.dk.m T.dk.F.kp T.dk.b .nil aw (Dv.aa (Dv.v 4) Dv.ag)) Dv.ag))))))))) (Dv.aj (Dv.aX (Dv.aY cq (Dv.v 2) Dv.str) (Dv.aj (Dv.aW (Dv.dj (D9 T) (hr.mono (by decide)) T.ja.m T.ja.F.kp T.ja.b .nil cG (Dv.aa (Dv.v 0) (Dv.aa (Dv.v 1) (Dv.aa (Dv.v 3) (Dv.aa (Dv.call (oX T) (hr.mono (by decide)) T.dk.m T.dk.F.kp T.dk.b .nil aw (Dv.aa (Dv.v 4) Dv.ag)) (Dv.aa (Dv.call (oX T) (hr.mono (by decide)) T.dk.m T.dk.F.kp T.dk.b .nil aw (Dv.aa (Dv.v 4) Dv.ag)) Dv.ag)))))))) (Dv.aj (Dv.aX (Dv.aY cq (Dv.v 2) Dv.str) (Dv.aj (Dv.aW (Dv.dj (SO T) (hr.mono (by decide)) T.mX.m T.mX.F.kp T.mX.b .nil cG (Dv.aa (Dv.v 0) (Dv.aa (Dv.v 1) (Dv.aa (Dv.v 3) Dv.ag)))))) (Dv.aj (Dv.aW (Dv.dj (Lw T) (hr.mono (by decide)) T.n9.m T.n9.F.kp T.n9.b .nil cG (Dv.aa (Dv.v 0) (Dv.aa (Dv.v 1) (Dv.aa (Dv.v 3) Dv.ag))))))))))))))) ?_;refine stI [some (V.ref AA.a),some (V.str z),some (V.str kd),some (V.str (Tx.S t)),some (V.ref st)] ?_;walk_at "w";by_cases h1:kd=("folder" : Str)
  ·refine b8 (decide_eq_true h1) ?_;refine ⟨d,fun mi H1 ij d1 k1=>⟨d1,fun re H2 iJ d2 k2=>?_⟩⟩;have gW:=k1.trans k2;exact ⟨AA,L,M,t,rfl,DB (i.drawn g.ne d gW) g hn r8 hz hp d2 (dR.of gW) ij iJ (.inl rfl) (fun v H' a b c=>q1 _ H' a b c) q2,rfl⟩
  ·refine bT (decide_eq_false h1) ?_;by_cases h2:kd=("file" : Str)
   ·refine b8 (decide_eq_true h2) ?_;refine nt d (by decide) (by decide) fun dg H0 d0 d1 dr0 k0=>?_;obtain ⟨m,rfl⟩:=Int.eq_ofNat_of_zero_le d0;have hm:m < 100:=by omega
    have ht:=Tt m hm;have h5:(Str.ofString "text ").length=5:=by decide +kernel
    refine ⟨RP m hm,fits (by omega),dr0,fun mi H1 ij d1 k1=>⟨d1,fun re H2 iJ d2 k2=>?_⟩⟩;have gW:=(k0.trans k1).trans k2;exact ⟨AA,L,M,t,rfl,DB (i.drawn g.ne d gW) g hn r8 hz hp d2 (dR.of gW) ij iJ (.inr rfl) (fun v H' a b c=>q1 _ H' a b c) q2,rfl,by rw [Ow]; omega⟩
   ·refine bT (decide_eq_false h2) ?_;have mv:fF t:=⟨hp.l1,by have:=hp.l2; omega,hp.all⟩;have hw:=hp.n;by_cases h3:kd=("rights" : Str)
    ·refine b8 (decide_eq_true h3) ?_;refine ⟨d,fun mi H1 ij d1 k1=>⟨d1,fun re H2 iJ d2 k2=>?_⟩⟩;have gW:=k1.trans k2;have i2:=i.drawn g.ne d gW;obtain ⟨x,hx⟩:=T5 g i2.len (by omega) hz mv (by omega);refine ⟨AA,L,M,t,x,rfl,i2,rfl,hx,ij,iJ,fun y e=>dq.mk (fun C dd H' hC s=>q2 C dd H' hC ⟨L,M,i2.same s,g,by omega⟩ (d2.same s) ((dR.of gW).trans (dB.of s).l)) y,fun k a th e ha aN H' i' k'=>?_⟩;have kA:=i2.off g.ne (W:=[AA.t,a.th]) (fun b hb=>by
      simp only [List.mem_cons,List.not_mem_nil,or_false] at hb;rcases hb with rfl | rfl
      ·simp [Ad.w]
      ·exact List.mem_append_right _ (gE ha (by simp [Ta.l]))) k'
     exact q1 _ H' ⟨L,_,i',g.NX aN,by show (M.ts.set k _).length≤n+1; rw [List.length_set]; omega⟩ (d2.kp kA) ((dR.of gW).trans kA.l)
    ·refine bT (decide_eq_false h3) ?_;obtain ⟨r,hr,hf⟩:=M4 g i.len (by omega) hz mv (by omega);by_cases h4:kd=("stand" : Str)
     ·refine b8 (decide_eq_true h4) ?_;refine ⟨AA,L,M,t,r,rfl,i,rfl,hr,by have:=g.sl; omega,fun x e=>dq.mk (fun C dd H' hC s=>q2 C dd H' hC ⟨L,M,i.same s,g,by omega⟩ (d.same s) (dB.of s).l) x,fun k e H' i' k'=>?_⟩;obtain ⟨tf,bq,dH,iQ⟩:=hf k e;have kA:=i.off g.ne (W:=[AA.a,AA.st]) (fun b hb=>by
       simp only [List.mem_cons,List.not_mem_nil,or_false] at hb;rcases hb with rfl | rfl <;> simp [Ad.w]) k'
      exact q1 _ H' ⟨L,_,i',g.KQ bq dH hz iQ,by show M.ts.length≤n+1; omega⟩ (d.kp kA) kA.l
     ·refine bT (decide_eq_false h4) ?_;refine ⟨AA,L,M,t,r,rfl,i,rfl,hr,by have:=g.sl; omega,by have:=g.rl; omega,fun x e=>dq.mk (fun C dd H' hC s=>q2 C dd H' hC ⟨L,M,i.same s,g,by omega⟩ (d.same s) (dB.of s).l) x,fun k e H' i' k'=>?_⟩;obtain ⟨tf,bq,dH,iQ⟩:=hf k e;have kA:=i.off g.ne (W:=[AA.a,AA.ro,AA.st]) (fun b hb=>by
       simp only [List.mem_cons,List.not_mem_nil,or_false] at hb;rcases hb with rfl | rfl | rfl <;> simp [Ad.w]) k'
      exact q1 _ H' ⟨L,_,i',g.root bq dH hz,by show M.ts.length≤n+1; omega⟩ (d.kp kA) kA.l
def Us (CH CS CT:Addr):Sp:=wM fun x z kd pt st H Q _=>∃ A t n,pt=Tx.S t∧Hz CH CS CT A n H∧A.a=x∧z∈AS∧n≤80∧tX t∧Dr st H∧kd∈zN∧∀ b H',Hz CH CS CT A (n+1) H'→Dr st H'→dR st H H'→Q (.bl b) H'
theorem LR (T:Tx K mg):aA P w K mg base aO 17 T.oj.f T.oj.d ["_law_house_here", "_law_asker", "_law_kind", "_law_path_here", "_law_state"] (Us T.au T.aD T.aG):=by
 refine T.oj.F.ok RU (fun vs H Q E h=>?_) (fun az A outer s H vs Q E hr h=>?_)
 ·exact ud h fun _ _ _ _ _ _=>rfl
 ·refine ud h fun x z kd pt st h=>?_;obtain ⟨AA,t,n,rfl,hh,rfl,hz,r8,hp,d,bI,q⟩:=h;refine bA (b:=aU wG) ((Dv.cut (Dv.MR ⟨rfl,rfl,rfl⟩ (fun _ _=>by exact (Dv.aj (Dv.aW (Dv.dj (OC T) (hr.mono (by decide)) T.oN.m T.oN.F.kp T.oN.b .nil Lh (Dv.aa (Dv.v 0) (Dv.aa (Dv.v 1) (Dv.aa (Dv.v 2) (Dv.aa (Dv.v 3) (Dv.aa (Dv.v 4) Dv.ag))))))))) (Dv.P4 (K:=K) rfl T.OW T.Ts T.Vd (fun _=>by exact (Dv.aj (Dv.aP Dv.bl))) Dv.Ri))
  (Dv.aj (Dv.aP Dv.bl)))) ?_
  refine stI [some (V.ref AA.a),some (V.str z),some (V.str kd),some (V.str (Tx.S t)),some (V.ref st)] ?_;refine eE (fun σ' H'=>Hz T.au T.aD T.aG AA (n+1) H'∧Dr st H'∧dR st H H') ?_ ?_
  ·refine ⟨fun σ' v od H'=>(∃ C,v=Value.ref C∧(C=T.c9∨C=T.dG))∧Hz T.au T.aD T.aG AA (n+1) H'∧Dr st H'∧dR st H H',?_,?_⟩
   ·walk_at "w";exact ⟨AA,t,n,rfl,hh,rfl,hz,r8,hp,d,bI,fun v H' a b c=>⟨a,b,c⟩,fun C dd H' hC a b c=>⟨⟨C,rfl,hC⟩,a,b,c⟩⟩
   ·rintro σ' C od H' ⟨⟨C',e,hC⟩,a,b,c⟩;cases e;refine ⟨true,?_,?_⟩
    ·rcases hC with rfl | rfl
     ·exact T.LN
     ·exact T.Pc
    ·rw [if_pos rfl];walk_at "w";exact q false H' a b c
  ·rintro σ' H' ⟨a,b,c⟩;walk_at "w";exact q true H' a b c
theorem Oy {M:Hs} {L:List Ta} {z:Str} {e:End} {r k:Nat} (g:Gd M) (ga:ym M z r k) (p:dN M L z [47] e):∃ ns,e.res=.inl (r,ns):=by
 obtain ⟨root,st,b,rr,a,t,S',o,hr,aQ,ha,ht,jH,kZ,ef,has,mR,kY⟩:=p.g.ex;rw [ga.ro] at hr;obtain rfl:r=root:=by injection hr with hr; injection hr with hr; omega
 have e1:(told (Tx.words 47 [47]) [47]).map Tx.S=[]:=by decide +kernel
 rw [e1] at ef;cases ef;obtain ⟨rfl,rfl⟩:=g.lJ jH;rcases aQ with ⟨_,rfl⟩ | ⟨e2,_⟩
 ·obtain ⟨ns,bE,_,h⟩:=kY rfl;exact ⟨_,h⟩
 ·exact absurd e2 (by decide)
def M3 (re:Str):Hs:={ ts:=[{ kd := "folder",ow := "ann",mi := "lgw",re:=re,tx := "",aZ:=[],bU:=[] }],ro:=[("ann",0),("bo",0),("cy",0)],st:=[("ann",0),("bo",0),("cy",0)],tr:=[("main",0)],ov:=[],un:=[] }
theorem HM {re:Str}:∀ z∈AS,aJ (sD (M3 re).ro) (.inr z)=some (.int ((0:Nat):Int)):=by
 intro z hz;unfold AS at hz;simp only [List.mem_cons,List.not_mem_nil,or_false] at hz;show aJ (sD [(("ann" : Str),0),(("bo" : Str),0),(("cy" : Str),0)]) (.inr z)=_;rcases hz with rfl | rfl | rfl <;> decide +kernel
theorem CP {re:Str}:∀ z∈AS,ym (M3 re) z 0 0:=fun z hz=>⟨HM z hz,HM (re:=re) z hz,.refl,⟨_,rfl,rfl⟩,_,rfl,rfl⟩
theorem uW {re:Str}:Gd (M3 re):=by
 refine ⟨rfl,rfl,rfl,fun z hz=>⟨0,0,CP z hz⟩,Nat.le_refl 3,Nat.le_refl 3,⟨_,rfl,rfl⟩,fun k t ht=>?_⟩;cases k with
 | zero =>
  cases ht;exact ⟨Nat.zero_le _,.inl rfl,.inl ⟨rfl,rfl⟩,fun z v h=>by cases h⟩
 | succ k=>simp [M3] at ht
def RG (CH CS CT:Addr):Sp:=F9 fun _ H Q _=>∀ A H',Hz CH CS CT A 1 H'→dB H H'→Q (.ref A.a) H'
theorem MN (T:Tx K mg):aA P w K mg base aO 15 T.nh.f T.nh.d ["_law_cell"] (RG T.au T.aD T.aG):=by
 refine T.nh.F.ok CK (fun vs H Q E h=>?_) (fun az A outer s H vs Q E hr h=>?_)
 ·exact HA h fun _ _=>rfl
 ·refine HA h fun c h=>?_;refine bA (b:=aU z0) ((Dv.cut (Dv.aS 1 CK.nd (Dv.make T.KS (K0 T) (hr.mono (by decide)) T.KI T.pQ.b .nil aw (Dv.aa Dv.str Dv.ag)))
  (Dv.cut (Dv.aW (Dv.bh T.aM T.lT.h (Fu T) (hr.mono (by decide)) T.lT.b .nil aw (Dv.v 1) (Dv.aa Dv.str Dv.ag)))
  (Dv.cut (Dv.aW (Dv.bh T.aM T.lT.h (Fu T) (hr.mono (by decide)) T.lT.b .nil aw (Dv.v 1) (Dv.aa Dv.str Dv.ag)))
  (Dv.cut (Dv.aX (Dv.aY tR (Dv.op kx (Dv.v 0) Dv.int) Dv.int) (Dv.aj (Dv.aW (Dv.dj (D9 T) (hr.mono (by decide)) T.ja.m T.ja.F.kp T.ja.b .nil fw (Dv.aa (Dv.v 1) (Dv.aa Dv.str (Dv.aa Dv.str (Dv.aa Dv.str (Dv.aa Dv.str Dv.ag)))))))) Dv.nil)
  (Dv.aj (Dv.aP (Dv.v 1)))))))) ?_
  refine stI [some (V.int c),none] ?_;refine ao ?_;walk_at "w";intro x dx hx jY fm;refine ⟨⟨dx,ay⟩,by decide +kernel,by decide +kernel,fun A1 L1 H2 hA1 i2 pB gT=>⟨rfl,?_⟩⟩;subst hA1;have k2:dB H H2:=fun b o ho e=>gT _ _ (by rw [List.mem_singleton]; exact aF e hx) (by rw [ah (aF e hx),ah (aF e jY)]; exact e);obtain ⟨mO,gc,gh,mM,fi⟩:=i2.h;have J9:∀ {L:List Ta},∀ b∈[A1.a,A1.ro,A1.st],b∈A1.w++L.flatMap Ta.l:=fun b hb=>by
   simp only [List.mem_cons,List.not_mem_nil,or_false] at hb;rcases hb with rfl | rfl | rfl <;> simp [Ad.w]
  refine ao ?_;walk_at "w";refine ⟨A1.a,_,_,rfl,gh,(fi _).trans rfl,A1,L1,_,i2,rfl,by decide +kernel,by decide +kernel,by decide,by decide,by decide +kernel,by decide +kernel,fun H3 i3 k3=>ao ?_⟩;have k3':=k2.trans (i2.off (by nofun) J9 k3);obtain ⟨gfs3,gc3,gh3,ghl3,gsf3⟩:=i3.h;walk_at "w";refine ⟨A1.a,_,_,rfl,gh3,(gsf3 _).trans rfl,A1,L1,_,i3,rfl,by decide +kernel,by decide +kernel,by decide,by decide,by decide +kernel,by decide +kernel,fun H4 i4 k4=>?_⟩;have k4':=k3'.trans (i3.off (by nofun) J9 k4);have i4':aI T.au T.aD T.aG H4 A1 L1 (M3 "lg"):=i4;refine eE (fun σ' H'=>σ'=[some (V.int c),some (V.ref A1.a)]∧Hz T.au T.aD T.aG A1 1 H'∧dB H H') ?_ ?_
  ·walk_at "w";refine ⟨by decide,i8 (fun _=>?_) (fun _=>⟨by trivial,⟨L1,_,i4',uW,by decide⟩,k4'⟩)⟩;have sP:("ann" : Str)∈AS:=by decide +kernel
   obtain ⟨e,pw,_⟩:=ox uW i4'.len (by decide) sP (t:=[47]) ⟨by decide,by decide,by decide +kernel⟩ (by decide +kernel);obtain ⟨ns,he⟩:=Oy uW (CP _ sP) pw;obtain ⟨a,ha⟩:=adr (k:=0) i4'.len rfl;refine ⟨A1,L1,_,[47],.inr 0,by decide +kernel,i4',rfl,.ok pw he ha rfl rfl,by decide +kernel,by decide +kernel,(fun y e=>by cases e),fun k a' th e ha' aN H5 i5 k5=>?_⟩;cases e;rw [ha] at ha'; cases ha';cases aN;refine ⟨by trivial,⟨L1,M3 "lgw",i5,uW,by decide⟩,k4'.trans (i4'.off (by nofun) (fun b hb=>?_) k5)⟩;simp only [List.mem_cons,List.not_mem_nil,or_false] at hb;rcases hb with rfl | rfl
   ·simp [Ad.w]
   ·exact List.mem_append_right _ (gE ha (by simp [Ta.l]))
  ·rintro σ' H5 ⟨rfl,h5,k5⟩;walk_at "w";exact h A1 H5 h5 k5
def yK (K:PySem.W.Frag):Sp:=ik fun a H Q _=>(∃ ns:List Int,aL K H a (ns.map V.int))∧rX H∧∀ H',Q (.bl true) H'
def oH (K:PySem.W.Frag) (H:Hp) (a:Addr) (ns:List Int):Prop:=(∀ J,aL K J a (ns.map V.int))∨∃ o,H a=some (.dY o (.lst (ns.map V.int)))
theorem oH.sq {H:Hp} {a:Addr} {ns:List Int} (h:oH K H a ns):aL K H a (ns.map V.int):=by
 rcases h with h | h
 ·exact h H
 ·exact .inl (.inr h)
theorem oH.kp {H H':Hp} {a:Addr} {ns:List Int} (h:oH K H a ns) (k:dB H H'):oH K H' a ns:=by
 rcases h with h | ⟨o,h⟩
 ·exact .inl h
 ·exact .inr ⟨o,k _ _ trivial h⟩
theorem SM (xs:List V) (a b:Nat):gH xs (some (a:Int)) (some (b:Int))=(xs.drop a).take (b - a):=by
 unfold gH;rw [HT.Ef,HT.Ef];by_cases h:a≤xs.length
 ·rw [Nat.min_eq_left h];by_cases h2:b≤xs.length
  ·rw [Nat.min_eq_left h2]
  ·rw [Nat.min_eq_right (by omega),List.take_of_length_le (by rw [List.length_drop]; omega),List.take_of_length_le (by rw [List.length_drop]; omega)]
 ·rw [show min a xs.length=xs.length by omega,List.drop_of_length_le (Nat.le_refl _),List.drop_of_length_le (by omega),List.take_nil,List.take_nil]
def jA:List Str:=["folder", "folder", "file", "rights", "rights", "stand", "root"]
structure D7 (CH CS CT:Addr) (A:Ad) (lk ll:Addr) (zs:List Int) (i:Nat) (H':Hp):Prop where
 h:Hz CH CS CT A (1+i) H'
 k:H' lk=some (.lst (jA.map V.str))
 l:H' ll=some (.lst (zs.map V.int))
theorem Hz.same {CH CS CT:Addr} {A:Ad} {n:Nat} {H H':Hp} (h:Hz CH CS CT A n H) (s:ai H H'):Hz CH CS CT A n H':=let ⟨L,M,i,g,l⟩:=h; ⟨L,M,i.same s,g,l⟩
theorem Hz.drawn {CH CS CT:Addr} {A:Ad} {n:Nat} {H H':Hp} {st:Addr} (h:Hz CH CS CT A n H) (d:Dr st H) (k:ck st H H'):Hz CH CS CT A n H':=let ⟨L,M,i,g,l⟩:=h; ⟨L,M,i.drawn g.ne d k,g,l⟩
structure rb (CH CS CT:Addr) (A:Ad) (lk ll st:Addr) (zs:List Int) (i:Nat) (H':Hp):Prop where
 h:Hz CH CS CT A (1+i) H'
 k:H' lk=some (.lst (jA.map V.str))
 l:H' ll=some (.lst (zs.map V.int))
 d:Dr st H'
 n1:lk≠st
 n2:ll≠st
theorem rb.keep {CH CS CT:Addr} {A:Ad} {lk ll st:Addr} {zs:List Int} {i:Nat} {H H':Hp} (h:rb CH CS CT A lk ll st zs i H) (k:ck st H H') (d:Dr st H'):rb CH CS CT A lk ll st zs i H':=⟨h.h.drawn h.d k,k _ _ h.n1 h.k,k _ _ h.n2 h.l,d,h.n1,h.n2⟩
theorem Pk (T:Tx K mg):aA P w K mg base aO 18 T.sy T.vi ["_law_script"] (yK K):=by
 refine T.u4.ok kF (fun vs H Q E h=>?_) (fun az A outer s H vs Q E hr h=>?_)
 ·exact ed h fun _ _=>rfl
 ·refine ed h fun a h=>?_;obtain ⟨⟨ns,hS⟩,hO,q⟩:=h;refine bA (b:=aU zd) ((Dv.cut (Dv.aS 1 kF.nd (Dv.call (MN T) (hr.mono (by decide)) T.nh.m T.nh.F.kp T.nh.b .nil aw (Dv.aa (Dv.call (K3 T) (hr.mono (by decide)) T.nS.m T.nS.F.kp T.nS.b .nil aw (Dv.aa (Dv.v 0) (Dv.aa Dv.int Dv.ag))) Dv.ag)))
  (Dv.cut (Dv.aS 2 kF.nd (Dv.lst (Dv.aa Dv.str (Dv.aa Dv.str (Dv.aa Dv.str (Dv.aa Dv.str (Dv.aa Dv.str (Dv.aa Dv.str (Dv.aa Dv.str Dv.ag)))))))))
  (Dv.cut (Dv.ng PassesOwn.never rfl (Dv.iH (K:=K) rfl (Dv.op ee (Dv.lst (Dv.aa Dv.int Dv.ag)) (Dv.slice (zw (K:=K) rfl) (Dv.v 0) (Dv.oY Dv.int) (Dv.oY Dv.int)))) (Dv.dM 3 kF.nd) (Dv.cut (Dv.aS 4 kF.nd (Dv.lst (Dv.aa (Dv.v 3) Dv.ag)))
  (Dv.cut (Dv.aS 5 kF.nd (Dv.ix (br (K:=K) rfl) (Dv.lst (Dv.aa Dv.str (Dv.aa Dv.str (Dv.aa Dv.str (Dv.aa Dv.str Dv.ag))))) (Dv.call (fS T) (hr.mono (by decide)) T.bJ.m T.bJ.F.kp T.bJ.b .nil aw (Dv.aa (Dv.v 4) (Dv.aa Dv.int Dv.ag)))))
  (Dv.cut (Dv.aW (Dv.call (LR T) (hr.mono (by decide)) T.oj.m T.oj.F.kp T.oj.b .nil aw (Dv.aa (Dv.v 1) (Dv.aa (Dv.v 5) (Dv.aa (Dv.ix (br (K:=K) rfl) (Dv.v 2) (Dv.call (fS T) (hr.mono (by decide)) T.bJ.m T.bJ.F.kp T.bJ.b .nil aw (Dv.aa (Dv.v 4) (Dv.aa (Dv.cA (kI (K:=K) rfl) T.jG PySem.boot_len (Dv.aa (Dv.v 2) Dv.ag)) Dv.ag)))) (Dv.aa (Dv.call (DZ T) (hr.mono (by decide)) T.jw.m T.jw.F.kp T.jw.b .nil aw (Dv.aa (Dv.v 4) (Dv.aa Dv.int Dv.ag))) (Dv.aa (Dv.v 4) Dv.ag)))))))
  (Dv.cut (Dv.aS 5 kF.nd (Dv.ix (br (K:=K) rfl) (Dv.lst (Dv.aa Dv.str (Dv.aa Dv.str (Dv.aa Dv.str Dv.ag)))) (Dv.call (fS T) (hr.mono (by decide)) T.bJ.m T.bJ.F.kp T.bJ.b .nil aw (Dv.aa (Dv.v 4) (Dv.aa Dv.int Dv.ag)))))
  (Dv.cut (Dv.aS 6 kF.nd (Dv.op ee (Dv.ix (br (K:=K) rfl) (Dv.lst (Dv.aa Dv.str (Dv.aa Dv.str (Dv.aa Dv.str Dv.ag)))) (Dv.call (fS T) (hr.mono (by decide)) T.bJ.m T.bJ.F.kp T.bJ.b .nil aw (Dv.aa (Dv.v 4) (Dv.aa Dv.int Dv.ag)))) (Dv.call (DZ T) (hr.mono (by decide)) T.jw.m T.jw.F.kp T.jw.b .nil aw (Dv.aa (Dv.v 4) (Dv.aa Dv.int Dv.ag)))))
  (Dv.aj (Dv.aX (Dv.cC (Dv.cu (Dv.call (NW T) (hr.mono (by decide)) T.n8.m T.n8.F.kp T.n8.b .nil aw (Dv.aa (Dv.v 1) (Dv.aa (Dv.v 5) (Dv.aa (Dv.v 6) (Dv.aa (Dv.cmp tR (Dv.call (fS T) (hr.mono (by decide)) T.bJ.m T.bJ.F.kp T.bJ.b .nil aw (Dv.aa (Dv.v 4) (Dv.aa Dv.int Dv.ag))) Dv.int) Dv.ag))))))) (Dv.aj (Dv.aP Dv.bl)) Dv.nil))))))))
  (Dv.aj (Dv.aP Dv.bl)))))) ?_
  refine stI [some (.ref a),none,none,none,none,none,none] ?_;have sc0:oH K H a ns:=by
   rcases hS with hS | hS
   ·rcases hS with hS | hS
    ·rcases hO a with z | ⟨o,xs,z⟩
     ·rw [z] at hS; cases hS
     ·rw [z] at hS; cases hS
    ·exact .inr hS
   ·exact .inl fun J=>.inr hS
  refine ao ?_;walk_at "w";refine ⟨⟨ns,hS⟩,by decide,fun c A1 H1 h1 k1=>ao ?_⟩;have sc1:=sc0.kp k1;walk_at "w";refine ⟨fits (by simp),fun lk jX=>ao ?_⟩;have s2:=ai.upd (o:=.lst (jA.map V.str)) jX;have b2:upd H1 lk (.lst (jA.map V.str)) lk=some (.lst (jA.map V.str)):=ay;change tN _ _ _ _ _ (upd H1 lk (.lst (jA.map V.str)));generalize upd H1 lk (.lst (jA.map V.str))=H2 at s2 b2 ⊢;have h2:=h1.same s2;have sc2:=sc1.kp (dB.of s2);walk_at "w";refine ⟨fits (by simp),fun l7 hl7=>⟨_,(sc2.kp (dB.of (ai.upd hl7))).sq,fun ls rY=>?_⟩⟩;rw [show (1:Int)=((1:Nat):Int) from rfl,show (23:Int)=((23:Nat):Int) from rfl,SM,← List.map_drop,← List.map_take];have s3:=(ai.upd (o:=.lst [V.int 7]) hl7).trans (ai.upd (o:=.lst (((ns.drop 1).take (23 - 1)).map V.int)) rY);have c3:upd (upd H2 l7 (.lst [V.int 7])) ls (.lst (((ns.drop 1).take (23 - 1)).map V.int)) l7=some (.lst [V.int 7]):=ai.upd rY _ _ ay;have e3:upd (upd H2 l7 (.lst [V.int 7])) ls (.lst (((ns.drop 1).take (23 - 1)).map V.int)) ls=some (.lst (((ns.drop 1).take (23 - 1)).map V.int)):=ay;generalize upd (upd H2 l7 (.lst [V.int 7])) ls (.lst (((ns.drop 1).take (23 - 1)).map V.int))=H3 at s3 c3 e3 ⊢;have hzl:((ns.drop 1).take (23 - 1)).length≤22:=List.length_take_le _ _;generalize (ns.drop 1).take (23 - 1)=zs at hzl c3 e3 s3 ⊢;simp only [c3,e3];refine ⟨fits (by simp; omega),fun ll hll=>?_⟩;have s4:=s3.trans (ai.upd (o:=.lst ([V.int 7]++zs.map V.int)) hll);have b4:upd H3 ll (.lst ([V.int 7]++zs.map V.int)) ll=some (.lst ((7::zs).map V.int)):=ay;generalize upd H3 ll (.lst ([V.int 7]++zs.map V.int))=H4 at s4 b4 ⊢;have h4:D7 T.au T.aD T.aG A1 lk ll (7::zs) 0 H4:=⟨h2.same s4,s4 _ _ b2,b4⟩;refine ⟨⟨_,aL.of b4⟩,qf (xs:=(7::zs).map V.int) (fun i σ' H'=>D7 T.au T.aD T.aG A1 lk ll (7::zs) i H'∧∃ t1 t2 t3 t4,σ'=[some (V.ref a),some (V.ref A1.a),some (V.ref lk),t1,t2,t3,t4]) ⟨h4,_,_,_,_,rfl⟩ (fun i σ' H' _ h=>aL.of h.1.l) ?_ (fun σ' H' h=>?_)⟩
  ·rintro i x σ' H5 hx ⟨h5,t1,t2,t3,t4,rfl⟩;have hi:i≤22:=by
    have:=(List.getElem?_eq_some_iff.mp hx).1;simp at this; omega
   obtain ⟨cell,rfl⟩:∃ cell:Int,x=.int cell:=by
    obtain ⟨z,_,rfl⟩:=List.mem_map.mp (List.mem_of_getElem? hx);exact ⟨z,rfl⟩
   refine ao ?_;walk_at "w";refine ⟨fits (by simp),fun st aQ=>ao ?_⟩;have s6:=ai.upd (o:=.lst [V.int cell]) aQ;have d6:Dr st (upd H5 st (.lst [V.int cell])):=⟨[cell],ay,.inl rfl⟩;have h6:rb T.au T.aD T.aG A1 lk ll st (7::zs) i (upd H5 st (.lst [V.int cell])):=⟨h5.h.same s6,s6 _ _ h5.k,s6 _ _ h5.l,d6,aF h5.k aQ,aF h5.l aQ⟩;generalize upd H5 st (.lst [V.int cell])=H6 at h6 ⊢;walk_at "w";refine j4 h6.d rfl (by simp) (by simp) fun v H7 hv d7 k7=>ao ?_;have h7:=h6.keep k7 d7;obtain ⟨z,hz,rfl⟩:∃ z,z∈AS∧v=V.str z:=by
    simp only [List.mem_cons,List.not_mem_nil,or_false] at hv;rcases hv with rfl | rfl | rfl | rfl <;> exact ⟨_,by decide +kernel,rfl⟩
   walk_at "w";simp only [bG,h7.k];refine nt h7.d (by decide) (by decide) fun dg H8 d0 d1 d8 k8=>?_;have h8:=h7.keep k8 d8;obtain ⟨v,hv',e8⟩:=pick (xs:=jA.map V.str) d0 d1;simp only [h8.k,e8];obtain ⟨kd,bI,rfl⟩:∃ kd,kd∈zN∧v=V.str kd:=by
    obtain ⟨y,hy,rfl⟩:=List.mem_map.mp hv';refine ⟨y,?_,rfl⟩;unfold jA at hy;simp only [List.mem_cons,List.not_mem_nil,or_false] at hy;rcases hy with rfl | rfl | rfl | rfl | rfl | rfl | rfl <;> decide +kernel
   refine ⟨h8.d,by decide,by decide,fun t H9 ht d9 k9=>?_⟩;have h9:=h8.keep k9 d9;refine ⟨A1,t,1+i,rfl,h9.h,rfl,hz,by omega,ht,d9,bI,fun b eP hz10 d10 r6=>ao ?_⟩;have eA:rb T.au T.aD T.aG A1 lk ll st (7::zs) (i+1) eP:=⟨hz10,r6 _ _ h9.n1 (Wh _) h9.k,r6 _ _ h9.n2 (zS _) h9.l,d10,h9.n1,h9.n2⟩;walk_at "w";refine j4 eA.d rfl (by simp) (by simp) fun v H11 hv d11 mU=>ao ?_;have eR:=eA.keep mU d11;obtain ⟨z2,hz2,rfl⟩:∃ z,z∈AS∧v=V.str z:=by
    simp only [List.mem_cons,List.not_mem_nil,or_false] at hv;rcases hv with rfl | rfl | rfl <;> exact ⟨_,by decide +kernel,rfl⟩
   walk_at "w";refine j4 eR.d rfl (by simp) (by simp) fun v H12 hv d12 gW=>?_;have dA:=eR.keep gW d12;obtain ⟨pre,iT,rfl⟩:∃ pre:List Nat,(pre=[]∨pre=[47])∧v=V.str (Tx.S pre):=by
    simp only [List.mem_cons,List.not_mem_nil,or_false] at hv;rcases hv with rfl | rfl | rfl
    ·exact ⟨[],.inl rfl,by decide +kernel⟩
    ·exact ⟨[],.inl rfl,by decide +kernel⟩
    ·exact ⟨[47],.inr rfl,by decide +kernel⟩
   refine ⟨dA.d,by decide,by decide,fun t2 H13 gd d13 k13=>?_⟩;have fK:=dA.keep k13 d13;simp only [Tx.nW];have bb:pre.length≤1:=by rcases iT with rfl | rfl <;> simp
   have htl:=gd.l2;refine ⟨fits (by rw [Tx.bY,Tx.bY]; omega),?_⟩;have mv:fF (pre++t2):=⟨by rw [List.length_append]; have:=gd.l1; omega,by rw [List.length_append]; omega,by
    rcases iT with rfl | rfl
    ·exact gd.all
    ·exact (congrArg (List.all · bZ) (Tx.zq 47 t2)).trans gd.all⟩
   refine nt fK.d (by decide) (by decide) fun dg2 H14 _ _ d14 k14=>?_;have vH:=fK.keep k14 d14;obtain ⟨L,M,iM,gM,lM⟩:=vH.h;refine ⟨A1,L,M,pre++t2,rfl,iM,rfl,hz2,gM,by omega,mv,by rw [List.length_append]; omega,fun H15 gv=>bT rfl ⟨?_,_,_,_,_,rfl⟩⟩;exact ⟨vH.h.same gv,gv _ _ vH.k,gv _ _ vH.l⟩
  ·walk_at "w";exact q _
end
theorem Qo {K:PySem.W.Frag} {a:Addr} {od:Option Addr} {tk:Nat} {sl:Array (Option Value)} {t0 t1:Tok} (l:K.lookup a=some ⟨.type "tuple",od,.seq ([.str "." t0,.str ".." t1]:List Value).toArray tk,sl⟩) (H:Hp):bW K H a [.str ".",.str ".."]:=.inr ⟨_,_,_,l,rfl,rfl,fits (by simp),(.cons ⟨_,rfl⟩ (.cons ⟨_,rfl⟩ .nil))⟩
theorem VZ {K:PySem.W.Frag} {a:Addr} {od:Option Addr} {tk:Nat} {sl:Array (Option Value)} {t0 t1 t2 t3 t4 t5 t6 t7:Tok} (l:K.lookup a=some ⟨.type "tuple",od,.seq ([.str "" t0,.str "l" t1,.str "g" t2,.str "w" t3,.str "lg" t4,.str "lw" t5,.str "gw" t6,.str "lgw" t7]:List Value).toArray tk,sl⟩) (H:Hp):bW K H a [.str "",.str "l",.str "g",.str "w",.str "lg",.str "lw",.str "gw",.str "lgw"]:=.inr ⟨_,_,_,l,rfl,rfl,fits (by simp),(.cons ⟨_,rfl⟩ (.cons ⟨_,rfl⟩ (.cons ⟨_,rfl⟩ (.cons ⟨_,rfl⟩ (.cons ⟨_,rfl⟩ (.cons ⟨_,rfl⟩ (.cons ⟨_,rfl⟩ (.cons ⟨_,rfl⟩ .nil))))))))⟩
theorem Oe {K:PySem.W.Frag} {a:Addr} {od:Option Addr} {tk:Nat} {sl:Array (Option Value)} {t0 t1 t2:Tok} (l:K.lookup a=some ⟨.type "tuple",od,.seq ([.str "l" t0,.str "g" t1,.str "w" t2]:List Value).toArray tk,sl⟩) (H:Hp):bW K H a [.str "l",.str "g",.str "w"]:=.inr ⟨_,_,_,l,rfl,rfl,fits (by simp),(.cons ⟨_,rfl⟩ (.cons ⟨_,rfl⟩ (.cons ⟨_,rfl⟩ .nil)))⟩
theorem Wl {K:PySem.W.Frag} {H:Hp} {a:Addr} {ns:List Int} (hO:rX H) (hS:aL K H a (ns.map V.int)):yK K [.ref a] H (fun v _=>v=.bl true) fun _ _ _=>False:=⟨⟨ns,hS⟩,hO,fun _=>rfl⟩
theorem walk {l:PySem.W.OpenLaw} {q:Program} {loose:List Str} {XP:(Str→Option Value)→Heap→Prop} {YP:World→Heap→Prop} {d:DefRec} {K:Params→PySem.W.Frag} (hn:l.most=some 63) (sJ:d.params.defaults=[]) (pj:d.name = "law")
  (hY:∀ (w:World) (h:Heap),YP w h→(K w.params).In h)
  (F:∀ (w:World) (mg:Str→Option Value) (h:Heap),(K w.params).In h→h.Ns mainGlobals mg→∃ T:Tx (K w.params) mg,T.sy=T.sy) :
  PySem.W.WalkO q loose XP YP l.row.toRowW d [] (fun f vs=>PySem.call f vs) :=
 L2.PX (n:=63) (k:=18) (x := "_law_script") (CX:=fun _=>aO) (sp:=fun w=>yK (K w.params)) hn (by decide) sJ ⟨rfl,by decide,by decide⟩ hY
  (fun w mg fa h KX G hfa=>by
   obtain ⟨T,_⟩:=F w mg h KX G;rw [pj] at hfa;have e:=hfa.symm.trans T.RF;cases e;exact ⟨T.vi,fun s u=>by obtain ⟨oc,od,kV,doc,pm,an,az,ct,c8,e,_⟩:=T.u4.ex; rw [e]; exact .of_eq rfl,fun base _ _=>Pk T⟩)
  (fun _ _ a ns _ hO hS=>Wl hO hS) fun _ _ _ _ _ z=>z
end L2.bD

open PySem PySem.W PyProof.Rows
local macro_rules | `(tactic| walk_at "fa")=>`(tactic| (refine' L2.FA.mk ?n ?l ?c ?k; (case n=>k_is); (case l=>k_is); (case c=>k_is); (case k=>k_is)))
local macro_rules | `(tactic| walk_at "ma")=>`(tactic| (refine' L2.MA.mk ?n ?l ?c ?k ?t; (case n=>k_is); (case l=>k_is); (case c=>k_is); (case k=>k_is); (case t=>k_is)))
local macro_rules | `(tactic| walk_at "ar")=>`(tactic| (intro _ _ _ _ _ _; first | (refine L2.Ep ?_; exact fun _=>rfl) | (refine L2.Hq ?_; exact fun _ _=>rfl) | (refine L2.ql ?_; exact fun _ _ _=>rfl) | (refine L2.nA ?_; exact fun _ _ _ _=>rfl) | (refine L2.sZ ?_; exact fun _ _ _ _ _=>rfl) | (refine L2.yC ?_; exact fun _ _ _ _ _ _=>rfl) | (refine L2.Mi ?_; exact fun _ _ _ _ _ _ _=>rfl) | (refine L2.En ?_; exact rfl)))
local macro_rules | `(tactic| walk_at "mg")=>`(tactic| (refine' PySem.W.mg_of (by assumption) (by assumption) ?n; (case n=>k_is)))
local macro_rules | `(tactic| walk_at "mn")=>`(tactic| (refine' PySem.W.mg_none_of (by assumption) (by assumption) ?n; (case n=>k_is)))
local macro_rules | `(tactic| walk_at "ft")=>`(tactic| (refine' Classical.choice (L2.FA.gt (by assumption) (by assumption) ?b ?a); (case a=>walk_at "fa"); (case b=>walk_at "ar")))
local macro_rules | `(tactic| walk_at "mt")=>`(tactic| (refine' Classical.choice (L2.MA.gt ?b ?a); (case a=>walk_at "ma"); (case b=>walk_at "ar")))
local macro_rules | `(tactic| walk_at "mk")=>`(tactic| (refine' L2.Qt ?a ?b; (case a=>k_is); (case b=>k_is)))
local macro_rules | `(tactic| walk_at "xf")=>`(tactic| (refine' L2.R9 ?a ?b ?c ?d ?e ?f ?g; (case a=>kernel_rfl); (case b=>k_is); (case c=>k_is); (case d=>k_is); (case e=>k_is); (case f=>k_is); (case g=>k_is)))
local macro_rules | `(tactic| walk_at "cl")=>`(tactic| (refine' L2.cF.mk ?a ?b ?c ?d; (case a=>k_is); (case b=>k_is); (case c=>k_is); (case d=>k_is)))
local macro_rules | `(tactic| walk_at "fu")=>`(tactic| (refine' L2.zX ?l ?c ?k; (case l=>k_is); (case c=>k_is); (case k=>k_is)))
local macro_rules | `(tactic| walk_at "fd")=>`(tactic| (refine' L2.Mp ?l ?c ?k ?d ?h; (case l=>k_is); (case c=>k_is); (case k=>k_is); (case d=>k_is); (case h=>exact rfl)))
set_option maxRecDepth 100000 in
set_option maxHeartbeats 0 in
theorem PySem.Challenge.cw_leadnames_k32_walks_that_fail_holds : PySem.Challenge.rw_leadnames_k32_walks_that_fail.Holds := by
 refine L2.bD.hd0 ?_;unfold L2.bD.eh
 k_fill
 refine L2.bD.walk (l:=PySem.Challenge.rw_leadnames_k32_walks_that_fail) rfl rfl rfl (fun w h Y=>PySem.W.kIn_of (e:=fun _=>by kernel_rfl) Y) ?F
 case F =>
  intro w mg h KX G;refine' ⟨L2.bD.Tx.mk ?_ ?_ ?_ ?_ ?_ ?_ ?_ ?_ ?_ ?_ ?_ ?_ ?_ ?_ ?_ ?_ ?_ ?ji ?_ ?xX ?qg ?rF ?_ ?uI ?Fc ?_ ?_ ?_ ?_ ?_ ?_ ?_ ?_ ?_ ?_ ?_ ?_ ?tu ?_ ?xF ?Ie ?DR ?uC ?_ ?zc ?EZ ?GU ?_ ?_ ?_ ?_ ?_ ?_ ?_ ?_ ?_ ?_ ?_ ?_ ?_ ?_ ?_ ?_ ?_ ?_ ?_ ?_ ?_ ?_ ?u4 ?_ ?E7 ?_ ?Aa ?_ ?_ ?_ ?_ ?_ ?_ ?_ ?_ ?_ ?_ ?_ ?_ ?_ ?_ ?_ ?_ ?_ ?xq ?_ ?_ ?Ar ?_ ?_ ?_ ?_ ?_ ?_ ?_ ?_ ?_ ?_ ?_ ?_ ?_ ?_ ?_ ?_ ?_ ?_ ?_ ?_ ?_ ?_ ?_ ?_ ?_ ?_ ?_ ?_ ?_ ?_ ?_ ?_ ?_ ?_ ?_ ?_ ?_ ?_ ?_ ?_ ?_ ?_ ?_ ?_ ?_ ?_ ?_ ?_ ?_ ?_ ?_ ?_ ?_ ?_ ?_ ?_ ?_ ?_ ?_ ?_ ?_ ?_ ?_ ?_ ?_ ?_ ?_ ?_ ?_ ?_ ?_ ?_ ?_ ?_ ?_ ?_ ?_ ?_ ?_ ?_ ?_ ?_ ?_ ?_ ?_ ?_ ?_ ?_ ?_ ?_ ?_ ?_ ?_ ?_ ?_ ?_ ?_ ?_ ?_ ?_ ?_ ?_ ?_ ?_ ?_ ?_ ?_ ?_ ?_ ?_ ?_ ?_ ?_ ?_ ?_ ?_ ?_ ?_ ?_ ?_ ?_ ?_ ?_ ?_ ?_ ?_ ?_ ?_ ?_ ?_ ?_ ?_ ?_ ?_ ?_ ?_ ?_ ?_ ?_,rfl⟩

  all_goals try (first | walk_at "mg" | walk_at "ft" | walk_at "mt" | k_is | (show PySem.W.findIn _ _ _=some none; k_is) | walk_at "mn" | kit_is | k_exc | walk_at "mk" | walk_at "cl" | walk_at "xf" | exact rfl | kernel_rfl)
  (case Aa=>(refine' L2.bD.Qo ?l_DOTS; (case l_DOTS=>k_is)))
  (case xq=>(refine' L2.bD.VZ ?l_RIGHTS; (case l_RIGHTS=>k_is)))
  (case Ar=>(refine' L2.bD.Oe ?l_SINGLE_RIGHTS; (case l_SINGLE_RIGHTS=>k_is)))
  (case ji=>walk_at "fd")
  (case xX=>exact L2.ia (x := "walk") (y := "walk") (st:=L2.bD.pV) (ds:=[.bool true]) 1 (by k_is) (by exact rfl) (fun _ _ _ _ _ _ _ us hl=>by (have e:us.length=4:=(by have h:=hl; rw [List.length_append] at h; simp at h; omega)); clear hl; revert us; refine L2.nA ?_; exact fun _ _ _ _=>⟨_,rfl,rfl⟩))
  (case qg=>exact L2.ia (x := "walk") (y := "walk") (st:=L2.bD.pV) (ds:=[.bool true]) 0 (by k_is) (by exact rfl) (fun _ _ _ _ _ _ _ us hl=>by (have e:us.length=3:=(by have h:=hl; rw [List.length_append] at h; simp at h; omega)); clear hl; revert us; refine L2.ql ?_; exact fun _ _ _=>⟨_,rfl,rfl⟩))
  (case rF=>walk_at "fd")
  (case uI=>exact L2.ia (x := "asked_of") (y := "asked_of") (st:=L2.bD.qI) (ds:=[.bool true]) 1 (by k_is) (by exact rfl) (fun _ _ _ _ _ _ _ us hl=>by (have e:us.length=4:=(by have h:=hl; rw [List.length_append] at h; simp at h; omega)); clear hl; revert us; refine L2.nA ?_; exact fun _ _ _ _=>⟨_,rfl,rfl⟩))
  (case Fc=>exact L2.ia (x := "asked_of") (y := "asked_of") (st:=L2.bD.qI) (ds:=[.bool true]) 0 (by k_is) (by exact rfl) (fun _ _ _ _ _ _ _ us hl=>by (have e:us.length=3:=(by have h:=hl; rw [List.length_append] at h; simp at h; omega)); clear hl; revert us; refine L2.ql ?_; exact fun _ _ _=>⟨_,rfl,rfl⟩))
  (case tu=>walk_at "fd")
  (case xF=>exact L2.ia (x := "make_folder") (y := "make_folder") (st:=L2.bD.oT) (ds:=[.str "lgw" _,.str "" _]) 2 (by k_is) (by exact rfl) (fun _ _ _ _ _ _ _ us hl=>by (have e:us.length=5:=(by have h:=hl; rw [List.length_append] at h; simp at h; omega)); clear hl; revert us; refine L2.sZ ?_; exact fun _ _ _ _ _=>⟨_,rfl,rfl⟩))
  (case Ie=>exact L2.ia (x := "make_folder") (y := "make_folder") (st:=L2.bD.oT) (ds:=[.str "lgw" _,.str "" _]) 1 (by k_is) (by exact rfl) (fun _ _ _ _ _ _ _ us hl=>by (have e:us.length=4:=(by have h:=hl; rw [List.length_append] at h; simp at h; omega)); clear hl; revert us; refine L2.nA ?_; exact fun _ _ _ _=>⟨_,rfl,rfl⟩))
  (case DR=>exact L2.ia (x := "make_folder") (y := "make_folder") (st:=L2.bD.oT) (ds:=[.str "lgw" _,.str "" _]) 0 (by k_is) (by exact rfl) (fun _ _ _ _ _ _ _ us hl=>by (have e:us.length=3:=(by have h:=hl; rw [List.length_append] at h; simp at h; omega)); clear hl; revert us; refine L2.ql ?_; exact fun _ _ _=>⟨_,rfl,rfl⟩))
  (case uC=>walk_at "fd")
  (case zc=>exact L2.ia (x := "make_file") (y := "make_file") (st:=L2.bD.m6) (ds:=[.str "lgw" _,.str "" _]) 2 (by k_is) (by exact rfl) (fun _ _ _ _ _ _ _ us hl=>by (have e:us.length=6:=(by have h:=hl; rw [List.length_append] at h; simp at h; omega)); clear hl; revert us; refine L2.yC ?_; exact fun _ _ _ _ _ _=>⟨_,rfl,rfl⟩))
  (case EZ=>exact L2.ia (x := "make_file") (y := "make_file") (st:=L2.bD.m6) (ds:=[.str "lgw" _,.str "" _]) 1 (by k_is) (by exact rfl) (fun _ _ _ _ _ _ _ us hl=>by (have e:us.length=5:=(by have h:=hl; rw [List.length_append] at h; simp at h; omega)); clear hl; revert us; refine L2.sZ ?_; exact fun _ _ _ _ _=>⟨_,rfl,rfl⟩))
  (case GU=>exact L2.ia (x := "make_file") (y := "make_file") (st:=L2.bD.m6) (ds:=[.str "lgw" _,.str "" _]) 0 (by k_is) (by exact rfl) (fun _ _ _ _ _ _ _ us hl=>by (have e:us.length=4:=(by have h:=hl; rw [List.length_append] at h; simp at h; omega)); clear hl; revert us; refine L2.nA ?_; exact fun _ _ _ _=>⟨_,rfl,rfl⟩))
  (case u4=>walk_at "fu")
  (case E7=>exact L2.Binds.all (fun us hl=>match us,hl with | [_],_=>rfl))
  all_goals try (first | walk_at "mg" | walk_at "ft" | walk_at "mt" | k_is | (show PySem.W.findIn _ _ _=some none; k_is) | walk_at "mn" | kit_is | k_exc | walk_at "mk" | walk_at "cl" | walk_at "xf" | exact rfl | kernel_rfl)

